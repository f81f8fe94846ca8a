import PyProof.Rows.All
import Wide.All
import OpenK.AllK
import Wide.FinOn
import HandS.Words
import HandS.ExcField
import KE.KExcInit
import HandS.ExcInit
import HandS.ExcValue
import HandS.Head0
import HandS.Head1
import HandS.Head2
import HandS.Head3
import HandS.Head4
import HandS.HeadEnd
import HandS.HeadHook1
import HandS.HeadHook2
import HandS.HeadHook3
import HandS.HeadHook4
import KE.KStateDown
import KE.KNestM
import HandS.ForMost
import HandS.Exc
import HandS.Defaults
import HandS.More
import HandS.Flow
import HandS.Wide
import HandS.IsInst
import HandS.Codes
import HandS.Conv
import HandS.SortInts
import HandS.TupAny
import HandS.TupMul
import HandS.DictComp
import HandS.Style
import HandS.Small
import PyProof.ReprRoads
import HandS.Gcd
import PyProof.Rows.RuleB_pow
import HandS.TryMany
import HandS.RaiseMore
import KE.KExcIs
import PyProof.StrOps2
import PyProof.Rows.FactsExc_KeyError
import HandS.Lambda
import HandS.EndTab
import KE.GoesEnum
import HandS.Iter
import KE.SortKeyHeap
import HandS.SortKw
import HandS.Zip
import KE.GoesMore
import HandS.Walk
import HandS.ExcBuiltin
import HandS.Text
import KE.IntTextLaws
import HandS.Strs
import HandS.Set
import HandS.SetFor
import PyProof.Rows.SetFrom
import KE.KIntText
import HandS.FStr
import PySem.Challenge.RW_movemarks_k84_whole_texts_there_and_back
set_option Elab.async false
set_option linter.all false
set_option maxRecDepth 100000
set_option maxHeartbeats 0
namespace K84
open PySem PySem.Spec PyProof.Rows L2
def topS (i : Nat) : Stmt := PySem.Challenge.pw_movemarks_k84_whole_texts_there_and_back.main.body.getD i (.Pass ⟨0, 0, 0, 0⟩)
abbrev sIsWhole : Stmt := topS 10
abbrev sIsInteger : Stmt := topS 11
abbrev sIsBetween : Stmt := topS 12
abbrev sNeedBetween : Stmt := topS 13
abbrev sIsArrangement : Stmt := topS 16
abbrev sNeedPlaces : Stmt := topS 17
abbrev sNeedMove : Stmt := topS 18
abbrev sCyclesU : Stmt := topS 19
abbrev sCycles : Stmt := topS 20
abbrev sNeedRings : Stmt := topS 21
abbrev sMoveOfCycles : Stmt := topS 22
abbrev sNeedText : Stmt := topS 28
abbrev sIsAt : Stmt := topS 29
abbrev sBehind : Stmt := topS 30
abbrev sIsDigitAt : Stmt := topS 31
abbrev sReadPlain : Stmt := topS 32
abbrev sReadLess : Stmt := topS 33
abbrev sReadRing : Stmt := topS 34
abbrev sReadRings : Stmt := topS 35
abbrev sMoveOf : Stmt := topS 36
abbrev sWriteMove : Stmt := topS 37
abbrev sReadMove : Stmt := topS 38
abbrev sAreMembers : Stmt := topS 39
abbrev sWriteRow : Stmt := topS 40
abbrev sReadSigned : Stmt := topS 41
abbrev sReadRow : Stmt := topS 42
abbrev sTerm : Stmt := topS 43
abbrev sWriteKinds : Stmt := topS 44
abbrev sReadTerm : Stmt := topS 45
abbrev sReadTerms : Stmt := topS 46
abbrev sReadKinds : Stmt := topS 47
abbrev sBagL : Stmt := topS 49
abbrev sGrabL : Stmt := topS 50
abbrev sOneOfL : Stmt := topS 51
abbrev sMixedL : Stmt := topS 52
abbrev sCyclesL : Stmt := topS 53
abbrev sPowerL : Stmt := topS 54
abbrev sMoveDrawnL : Stmt := topS 55
abbrev sMoveTextL : Stmt := topS 56
abbrev sKindsTextL : Stmt := topS 57
abbrev sNumberL : Stmt := topS 58
abbrev sMovesRightL : Stmt := topS 59
abbrev sRowsRightL : Stmt := topS 60
abbrev sTermsTextL : Stmt := topS 61
abbrev sKindsRightL : Stmt := topS 62
abbrev sLaw : Stmt := topS 63
abbrev ga (K : PySem.W.Frag) (x : Str) : Addr := He.ga K x
abbrev veTop : List Value := [.type "ValueError", .type "Exception", .type "BaseException", .type "object"]
abbrev ieTop : List Value := [.type "IndexError", .type "LookupError", .type "Exception", .type "BaseException", .type "object"]
def plainB (K : PySem.W.Frag) (x : Str) : Bool :=
  PySem.W.keepIn K (.ref (ga K x)) && PySem.W.excIn K (ga K x) veTop "ValueError.__new__" &&
    decide (PySem.W.subIn K (.ref (ga K x)) (.type "BaseException") = some true) &&
    decide (PySem.W.typeIn K (.ref (ga K x)) = some (.type "type"))
def inClass (s : Stmt) : Stmt := match s with
  | .ClassDef _ _ _ b _ _ _ _ _ _ _ => b.getD 0 (.Pass ⟨0, 0, 0, 0⟩)
  | _ => .Pass ⟨0, 0, 0, 0⟩
abbrev sIniP : Stmt := inClass (topS 6)
abbrev sIniN : Stmt := inClass (topS 7)
def cns : List Str := (["ParseError", "InvalidMove", "InvalidRow", "InvalidKinds"] : List String).map PySem.Str.ofString
/-- the name of the i-th class that is caught -/
def cn (i : Nat) : Str := cns.getD i ""
/-- the row of a class with a field, asked -/
def kepRow (K : PySem.W.Frag) (C : Addr) (top : List Value) (newId : String) : Bool :=
  match K.lookup C with
  | some ⟨.type "type", _, .cls cd, sl⟩ =>
    (match cd.mro with
     | .ref C' :: bm => decide (C' = C) && PySem.W.excTail top bm
     | _ => false) && (match sl.toList with
     | [_, _, _, _, some (.builtin n), _] => decide (n = newId)
     | _ => false) && !cd.hasDel && cd.hasDict
  | _ => false
def kepB (K : PySem.W.Frag) (x f : Str) (top : List Value) (newId : String) : Bool :=
  kepRow K (ga K x) top newId && decide (PySem.W.findIn K (.ref (ga K x)) "__setattr__" = some (some (.builtin "object.__setattr__"))) &&
    decide (PySem.W.subIn K (.ref (ga K x)) (.type "BaseException") = some true) &&
    decide (PySem.W.typeIn K (.ref (ga K x)) = some (.type "type")) && PySem.W.keepIn K (.ref (ga K x)) &&
    decide (PySem.W.findIn K (.ref (ga K x)) f = some none) && xfB K (ga K x) &&
    decide (PySem.W.findIn K (.ref (ga K x)) "__init__" = some (some (.ref (He.ma K (ga K x) "__init__")))) &&
    decide (PySem.W.typeIn K (.ref (He.ma K (ga K x) "__init__")) = some (.type "function"))
def askB (K : PySem.W.Frag) : Bool :=
  decide (PySem.W.specialIn K (.ref (ga K "MarkError")) "__getattribute__" = some (some (.builtin "type.__getattribute__"))) &&
    PySem.W.readsIn K (ga K "MarkError") (.type "type") &&
    (match PySem.W.findCls K (.ref (ga K "MarkError")) (.type "type") "__init__" with
     | some (.val (.builtin n)) => decide (n = "ValueError.__init__")
     | _ => false)
def allB (K : PySem.W.Frag) : Bool :=
  plainB K "InvalidMove" && (plainB K "InvalidRow" && (plainB K "InvalidKinds" && (askB K && (kepB K "ParseError" "index" veTop "ValueError.__new__" && (kepB K "InvalidNumber" "given" ieTop "IndexError.__new__" &&
    ((List.range 4).all fun i => (List.range (i + 1)).all fun j => decide (PySem.W.exmOne K (.ref (ga K (cn i))) (.ref (ga K (cn j))) = some (decide (i = j)))))))))
def di (x : Str) (st : Stmt) : He.DefD := ⟨(x, some "__init__"), "__init__", x ++ ".__init__", defArgs st, defBody st, defScope st, [], []⟩
def dd (x : Str) (st : Stmt) : He.DefD := ⟨(x, none), x, x, defArgs st, defBody st, defScope st, [], []⟩
def fn : List He.DefD := [dd "is_whole" sIsWhole, dd "is_integer" sIsInteger, dd "is_between" sIsBetween, dd "need_between" sNeedBetween, dd "is_arrangement" sIsArrangement, dd "need_places" sNeedPlaces, dd "_need_move" sNeedMove, dd "_cycles" sCyclesU, dd "cycles" sCycles, dd "_need_rings" sNeedRings, dd "move_of_cycles" sMoveOfCycles, dd "_need_text" sNeedText, dd "_is_at" sIsAt, dd "_behind" sBehind, dd "_is_digit_at" sIsDigitAt, dd "_read_plain" sReadPlain, dd "_read_less" sReadLess, dd "_read_ring" sReadRing, dd "_read_rings" sReadRings, dd "_move_of" sMoveOf, dd "write_move" sWriteMove, dd "read_move" sReadMove, dd "_are_members" sAreMembers, dd "write_row" sWriteRow, dd "_read_signed" sReadSigned, dd "read_row" sReadRow, dd "_term" sTerm, dd "write_kinds" sWriteKinds, dd "_read_term" sReadTerm, dd "_read_terms" sReadTerms, dd "read_kinds" sReadKinds, dd "_law_bag" sBagL, dd "_law_grab" sGrabL, dd "_law_one_of" sOneOfL, dd "_law_mixed" sMixedL, dd "_law_cycles" sCyclesL, dd "_law_power" sPowerL, dd "_law_move_drawn" sMoveDrawnL, dd "_law_move_text" sMoveTextL, dd "_law_kinds_text" sKindsTextL, dd "_law_number" sNumberL, dd "_law_moves_right" sMovesRightL, dd "_law_rows_right" sRowsRightL, dd "_law_terms_text" sTermsTextL, dd "_law_kinds_right" sKindsRightL, dd "law" sLaw, di "ParseError" sIniP, di "InvalidNumber" sIniN]
def fa : List He.Fa := [.glo "is_whole", .glo "is_integer", .glo "is_between", .glo "need_between", .glo "is_arrangement", .glo "need_places", .glo "_need_move", .glo "_cycles", .glo "cycles", .glo "_need_rings", .glo "move_of_cycles", .glo "_need_text", .glo "_is_at", .glo "_behind", .glo "_is_digit_at", .glo "_read_plain", .glo "_read_less", .glo "_read_ring", .glo "_read_rings", .glo "_move_of", .glo "write_move", .glo "read_move", .glo "_are_members", .glo "write_row", .glo "_read_signed", .glo "read_row", .glo "_term", .glo "write_kinds", .glo "_read_term", .glo "_read_terms", .glo "read_kinds", .glo "_law_bag", .glo "_law_grab", .glo "_law_one_of", .glo "_law_mixed", .glo "_law_cycles", .glo "_law_power", .glo "_law_move_drawn", .glo "_law_move_text", .glo "_law_kinds_text", .glo "_law_number", .glo "_law_moves_right", .glo "_law_rows_right", .glo "_law_terms_text", .glo "_law_kinds_right", .glo "law", .free "IndexError", .free "abs", .free "all", .free "bool", .free "enumerate", .free "int", .free "isinstance", .free "len", .free "list", .free "max", .free "min", .free "range", .free "set", .free "str", .free "sum", .free "tuple", .int "_TOO_LONG" (10 ^ 60), .int "MAX_PLACES" (24), .int "MOST_SIGNS" (3000), .int "MOST_MEMBERS" (60), .str "_DIGITS" "0123456789", .int "_MOST_DIGITS" (60), .glo "InvalidMove", .glo "InvalidRow", .glo "InvalidKinds", .glo "MarkError", .glo "ParseError", .glo "InvalidNumber"]
def ex (K : PySem.W.Frag) : Bool := allB K && (true)
abbrev tf : List He.Defn := []
abbrev cs (K : PySem.W.Frag) : List (Addr × Addr) := []
abbrev R : PySem.W.OpenRow := PySem.W.OpenLaw.row PySem.Challenge.rw_movemarks_k84_whole_texts_there_and_back
/-- the addresses that the head's facts look at -/
def asL : List Addr := [2, 3, 24, 37, 49, 61, 92, 111, 121, 128, 135, 142, 147, 154, 161, 168, 175, 182, 189, 196, 203, 210, 217, 224, 231, 238, 245, 250, 255, 262, 267, 272, 279, 286, 293, 300, 307, 314, 319, 326, 333, 340, 345, 352, 359, 366, 371, 378, 385, 390, 395, 402, 407, 414, 23, 36, 48, 60, 91, 110, 120, 127, 134, 141, 146, 153, 160, 167, 174, 181, 188, 195, 202, 209, 216, 223, 230, 237, 244, 249, 254, 261, 266, 271, 278, 285, 292, 299, 306, 313, 318, 325, 332, 339, 344, 351, 358, 365, 370, 377, 384, 389, 394, 401, 406, 413, 89, 108, 88, 107]
abbrev KS (g : Addr → Option Obj) : PySem.W.Frag := He.frT g asL
def obsS (g : Addr → Option Obj) : He.AlX := (He.obsT fa fn [] (KS g), ex (KS g) && He.tabsB g tf (KS g))
theorem saysS {w : World} {h : Heap} (e : obsS h.get? = He.valX fn [] w) : He.SaysX fa fn [] tf ex w h (KS h.get?) := by
  obtain ⟨e1, e2⟩ := Prod.mk.inj e
  obtain ⟨h1, h2⟩ := He.ba e2
  rw [He.tabsB, List.all_eq_true] at h2
  refine ⟨e1, h1, fun p hp => (He.ba (h2 p hp)).1, fun p hp => ?_, fun p hp => ?_⟩
  all_goals
    have z := (He.ba (h2 p hp)).2
    split at z
    case h_2 => cases z
    rename_i o q
  · exact He.frT_none q z
  · rw [q, He.emptyTab_eq z]
def hk : PySem.W.Hook where
  α := He.AlX
  obs := fun s => obsS s.heap.get?
  val := fun w => He.valX fn [] w
  says := fun w h => ∃ K : PySem.W.Frag, K.In h ∧ He.SaysX fa fn [] tf ex w h K
  of := fun w s e => ⟨KS s.heap.get?, He.frT_in, saysS e⟩
  keeps := fun _ _ _ z k => by
    obtain ⟨K, hK, c⟩ := z
    exact ⟨K, PySem.W.Frag.In.keeps hK k, ⟨c.t, c.more, c.hd, c.out, fun p hp => k _ _ (c.empty p hp)⟩⟩
def ob (s : PySem.W.SharedT) : He.AlX := obsS (HandSHeadRun.getT s)
theorem ob_eq (s : PySem.W.SharedT) : ob s = hk.obs s.abs := by
  have e : HandSHeadRun.getT s = s.abs.heap.get? := funext (HandSHeadRun.getT_eq s)
  unfold ob
  rw [e]
  rfl
def names : List PySem.Str := (["MarkError", "InvalidMove", "InvalidRow", "InvalidKinds", "InvalidOperation", "ParseError", "InvalidNumber", "_TOO_LONG", "is_whole", "is_integer", "is_between", "need_between", "MAX_PLACES", "is_arrangement", "need_places", "_need_move", "_cycles", "cycles", "_need_rings", "move_of_cycles", "MOST_SIGNS", "MOST_MEMBERS", "_DIGITS", "_MOST_DIGITS", "_need_text", "_is_at", "_behind", "_is_digit_at", "_read_plain", "_read_less", "_read_ring", "_read_rings", "_move_of", "write_move", "read_move", "_are_members", "write_row", "_read_signed", "read_row", "_term", "write_kinds", "_read_term", "_read_terms", "read_kinds", "_law_bag", "_law_grab", "_law_one_of", "_law_mixed", "_law_cycles", "_law_power", "_law_move_drawn", "_law_move_text", "_law_kinds_text", "_law_number", "_law_moves_right", "_law_rows_right", "_law_terms_text", "_law_kinds_right"] : List String).map PySem.Str.ofString
theorem run9 (w : World) : HandSHeadRun.RunEqI R (PySem.W.view R.prog [63]) hk ob 20000 names w := by
  unfold HandSHeadRun.RunEqI
  kernel_rfl
end K84

set_option Elab.async false
set_option maxRecDepth 100000
set_option maxHeartbeats 2000000
set_option linter.all false
namespace MM
open PySem PySem.Spec PyProof.Rows L2

/-! room, with nothing under way that is being shown -/
structure Rm (k : Nat) (A : Around) : Prop where
  room : Room k A
  still : A.guards = some []
theorem Rm.le {j k : Nat} {A : Around} (h : Rm k A) (le : j ≤ k) : Rm j A := ⟨h.room.mono le, h.still⟩
theorem Rm.down {k : Nat} {A : Around} {v : Env} (h : Rm (k + 1) A) : Rm k (A.deeper v) := ⟨h.room.deeper v, h.still⟩
theorem Rm.hu {k : Nat} {A : Around} (h : Rm k A) : A.units + 64 < cLine := h.room.units
theorem Rm.hu66 {k : Nat} {A : Around} (h : Rm k A) : A.units + 66 < cLine := by have := h.room.un; omega
theorem Rm.hu1 {k : Nat} {A : Around} (h : Rm k A) : A.units + 1 < cLine := by have := h.room.un; omega

/-- a def keeps its promise wherever nothing is being shown -/
structure FnG (P : Program) (w : World) (K : PySem.W.Frag) (mg : Str → Option Value) (base : Heap)
    (CX : CXT) (k : Nat) (f : Addr) (fd : FuncData) (ps : List Str) (sp : Sp) : Prop where
  arity : ∀ {vs H Q E}, sp vs H Q E → vs.length = ps.length
  runs : ∀ {A : Around} {out : List Env} {s : Shared} {H : Hp} {ar : Args} {us : List Value} {vs : List V} {Q : VK} {E : XK},
    Rm k A → Env0 P w K mg base A out s H → BindsTo s fd ar (ps.zip us) → Vals vs us → sp vs H Q E →
      codeAny (model P w) A (.call (.ref f) ar) (CR CX out P w H s Q E) s

section
variable {P : Program} {w : World} {K : PySem.W.Frag} {mg : Str → Option Value} {base : Heap} {CX : CXT}
  {j k : Nat} {f : Addr} {fd : FuncData} {ps : List Str} {sp : Sp}
theorem FnG.le (F : FnG P w K mg base CX j f fd ps sp) (h : j ≤ k) : FnG P w K mg base CX k f fd ps sp :=
  ⟨F.arity, fun r => F.runs (r.le h)⟩
theorem FnG.of (F : FnOk P w K mg base CX k f fd ps sp) : FnG P w K mg base CX k f fd ps sp :=
  ⟨fun h => F.len _ _ _ _ h, fun r e b v h => F.run _ _ _ _ _ _ _ _ _ r.room e b v h⟩

/-- by its body -/
theorem FnG.body {x qual : Str} {pa : Arguments} {bd : List Stmt} {sc : Scope} {N : List Str}
    (F : FunD K x qual pa bd sc [] [] f fd) (S : FnScope N ps sc)
    (arity : ∀ vs H Q E, sp vs H Q E → vs.length = ps.length)
    (hb : ∀ (cd : Value) (A : Around) (out : List Env) (s : Shared) (H : Hp) (vs : List V) (Q : VK) (E : XK),
      Rm k (A.deeper (envOfC qual sc s.heap.objs.size f cd)) → sp vs H Q E →
      ∃ t, PSs (cxOf CX P w K mg base N qual sc f cd A out s H E) bd t ∧
        t { nx := fun _ H' => Q .non H', rt := Q } (start N vs) H) :
    FnG P w K mg base CX (k + 1) f fd ps sp := by
  obtain ⟨oc, od, dV, kV, doc, pm, an, cd, ct, osl, rfl, lk, hcd, _, _⟩ := F.ex
  refine ⟨fun h => arity _ _ _ _ h, ?_⟩
  intro A out s H ar us vs Q E hr e0 hbd hv h
  have nv := arity _ _ _ _ h
  have inK : K.In s.heap := e0.mod.kin.keeps (fun b o e => (e0.bs b o e).1)
  have nl : s.heap.NoLimit := e0.mod.nolimit.keeps (fun b o e => (e0.bs b o e).1)
  have kd : ∀ y ∈ ps.zip us, sc.names.lookup y.1 = some .local ∨
      (sc.names.lookup y.1 = some .cell ∧ ((cellsFrom (s.heap.objs.size + 1) sc.names []).lookup y.1).isSome = true) := by
    rintro ⟨n, v⟩ hy
    cases S.par n (List.of_mem_zip hy).1 with
    | inl q => exact .inl q
    | inr q => exact .inr ⟨q, PySem.W.cellsFrom_some _ _ _ (.inl q)⟩
  refine codeAny_call_function hr.room.depth (inK _ _ lk) rfl S.co S.gen rfl (PySem.W.codeRec_of inK hcd) (hbd _ _ _ _ ?_)
  refine wpAny_newFunctionEnv_cells S.kind kd (fun env he s1 xc => ?_)
  subst he
  refine ⟨nl.keeps xc.toInCall.keep, codeAny_func ?_⟩
  obtain ⟨t, ht, hq⟩ := hb cd A out s H vs Q E hr.down h
  have I := inv_start (CX := CX) (P := P) (w := w) (qual := qual) (cd := cd) (f := f) (E := E) S hr.room.hd e0 nv hv xc
  refine wpAny_mono (ht.run [] s1 (start N vs) H _ I hq) (fun fl s' hs => ?_) (fun e s' hs => hs)
  cases fl with
  | ret u =>
    obtain ⟨v, σ', H', J, rv, q⟩ := hs
    exact ⟨v, H', J.os, J.bare, J.base, J.hok, rv, q⟩
  | next =>
    obtain ⟨σ', H', J, q⟩ := hs
    exact ⟨.non, H', J.os, J.bare, J.base, J.hok, rfl, q⟩
  | brk =>
    obtain ⟨_, _, _, q⟩ := hs
    exact q.elim
  | cont =>
    obtain ⟨_, _, _, q⟩ := hs
    exact q.elim
end

section
variable {X : Cx} {CX : CXT} {k : Nat} {f : Addr} {fd : FuncData} {ps : List Str} {sp : Sp} {E : XK}
  {x : Str} {p pos : Pos} {e : Expr} {es : List Expr} {t : TA}
theorem call_g {pins : List (Addr × Obj)} {σ : L2.St} {H : Hp} {s : Shared} {Q : VK} {us : List Value} {vs : List V}
    (F : FnG X.prog X.w X.K X.mg X.base CX k f fd ps sp) (hr : Rm k X.A) (hb : Binds X.K fd ps [])
    (hx : Passes CX X E) (I : Inv X pins σ H s) (r : Vals vs us) (h : sp vs H Q E) :
    wpAny (model X.prog X.w) X.A (call (.ref f) us) (EP X pins σ Q) X.xe s := by
  have nl : (us ++ []).length = ps.length := by
    rw [List.append_nil, ← r.length]
    exact F.arity h
  have bd := hb s us I.kIn nl
  rw [List.append_nil] at bd
  refine wpAny_call (codeAny_mono (F.runs hr I.env0 bd r h) ?_)
  intro res s' hq
  cases res with
  | error e => exact hx pins σ H s e s' I hq
  | ok fl =>
    cases fl with
    | ret u => exact I.after hq
    | next => exact hq.elim
    | brk => exact hq.elim
    | cont => exact hq.elim
/-- f(e, ..), f a def of the text -/
theorem pe_g (F : FnG X.prog X.w X.K X.mg X.base CX k f fd ps sp) (hr : Rm k X.A) (hm : X.mg x = some (.ref f))
    (hk : PySem.W.keepIn X.K (.ref f) = true) (hb : Binds X.K fd ps []) (hx : Passes CX X E) (ha : PA X (e :: es) t) (hg : Gl X x := by rfl)
    (hdb : (x == ("__debug__" : Str)) = false := by decide)
    (he : starEach (e :: es) X.env = (false, eval e X.env) :: starEach es X.env := by rfl)
    (hpl : (backTo pos (starEach es X.env)).any (·.1) = false := by rfl) :
    PE X (.Call (.Name x p) (e :: es) [] pos) (fun σ H Q => t σ H fun vs H1 => sp vs H1 Q E) := by
  constructor
  intro pins s σ H Q I h
  refine wpAny_Call_Name_kw (ld_glob I hg hm ?_ hdb)
  refine PySem.W.callWith_K (h₀ := X.base) I.ok.mod.kin hk ?_ he hpl
  exact thn (ha.run pos pins s σ H _ I h) fun us s1 ⟨vs, H1, I1, r, q⟩ => ⟨I1.kIn, call_g F hr hb hx I1 r q⟩
end

/-! the law's own end: its def is called where nothing is under way -/
section
variable {P : Program} {w : World} {K : PySem.W.Frag} {mg mb : Str → Option Value} {CX : CXT} {k : Nat} {fa a : Addr}
  {fd : FuncData} {x : Str} {sp : Sp} {s : Shared} {vs : List Value} {ns : List Int}
/-- the goal behind the call -/
def LawEnd (s : Shared) (r : Result) (t : Shared) : Prop :=
  r = .ok (.ret (.bool true)) ∧ OldK s.heap t.heap ∧ t.os = s.os ∧ AllBare t.gens
theorem law_core {H : Hp}
    (KX : K.In s.heap) (hns : s.heap.Ns mainGlobals mg) (hb : s.heap.Ns builtinsNs mb)
    (hbb : ∀ y : Str, y ≠ "__name__" → mb y = bootBuiltins y) (nl : s.heap.NoLimit) (hg : s.gens = #[])
    (ha : s.heap.get? a = some { cls := .type "list", data := .seq vs.toArray }) (hr : Rm k callerA)
    (F : ∀ base : Heap, K.In base → base.Ns mainGlobals mg → FnG P w K mg base CX k fa fd [x] sp)
    (hbind : ∀ (s : Shared) (u : Value), BindsTo s fd ⟨[u], []⟩ [(x, u)])
    (hsp : sp [.ref a] H (fun v _ => v = .bl true) fun _ _ _ => False)
    (hCX : ∀ e s', CX [] H s (fun _ _ _ => False) e s' → False)
    (only : Only H) (ok : HOk P w H s.heap) (at_a : ∀ b, H b ≠ none → b = a) (out : H a ≠ none → K.lookup a = none) :
    codeAny (model P w) callerA (.call (.ref fa) ⟨[.ref a], []⟩) (LawEnd s) s := by
  have ne_a : ∀ {b : Addr} {o : Obj}, s.heap.get? b = some o → (∀ y n, o.data ≠ .seq y n) → H b = none := by
    intro b o e no
    by_cases hb : H b = none
    · exact hb
    · rw [at_a b hb, ha] at e
      exact absurd (congrArg Obj.data (Option.some.inj e)).symm (no _ _)
  have sees : ∀ {b : Addr} {m : Str → Option Value}, s.heap.Ns b m → (hidT s.heap H).Ns b m := by
    rintro b m ⟨o, es, ep, e, d, r⟩
    refine ⟨o, es, ep, hidT_get e (ne_a e ?_), d, r⟩
    intro y n z
    rw [d] at z
    cases z
  have inB : K.In (hidT s.heap H) := by
    intro b o e
    refine hidT_get (KX b o e) ?_
    by_cases hb : H b = none
    · exact hb
    · have eb := at_a b hb
      subst eb
      rw [out hb] at e
      cases e
  obtain ⟨mc, l1, l2⟩ := nl
  have md : Mod K mg (hidT s.heap H) := ⟨inB, sees hns, ⟨mb, sees hb, hbb⟩, ⟨mc, sees l1, l2⟩⟩
  have e0 : Env0 P w K mg (hidT s.heap H) callerA [] s H := by
    refine ⟨rfl, md, fun b o e => of_hidT e, Nat.le_of_eq (hidT_size _ _), trivial, ?_, ok, .of_eq hg⟩
    intro b z
    cases z
  have vv : Vals [V.ref a] [Value.ref a] := .cons rfl .nil
  refine codeAny_mono ((F _ inB (sees hns)).runs (us := [.ref a]) hr e0 (hbind s (.ref a)) vv hsp) ?_
  intro r t h
  cases r with
  | error e => exact (hCX e t h).elim
  | ok fl =>
    cases fl with
    | next => exact h.elim
    | brk => exact h.elim
    | cont => exact h.elim
    | ret u =>
      obtain ⟨v, H', os, bare, un, ok', rv, q⟩ := h
      have q2 : v = .bl true := q
      subst q2
      have eu : u = Value.bool true := rv
      subst eu
      refine ⟨rfl, OldK.of_keep ?_, os, bare⟩
      intro b o e
      cases hb : H b with
      | none => exact un.keep b o e hb (by intro z; cases z) (by intro z; cases z)
      | some y =>
        cases only b with
        | inl z => exact absurd (hb.symm.trans z) (by intro z; cases z)
        | inr z =>
          obtain ⟨ob, xs, z⟩ := z
          have e1 := (ok b _ z).1
          have e2 := (ok' b _ (un.frzs b ob _ z)).1
          rw [e] at e1
          cases e1
          exact e2
theorem law_g
    (KX : K.In s.heap) (hns : s.heap.Ns mainGlobals mg) (hb : s.heap.Ns builtinsNs mb)
    (hbb : ∀ y : Str, y ≠ "__name__" → mb y = bootBuiltins y) (nl : s.heap.NoLimit) (hg : s.gens = #[])
    (ha : s.heap.get? a = some { cls := .type "list", data := .seq vs.toArray }) (hi : IntsAre vs ns) (hl : ns.length ≤ sizeLine)
    (hr : Rm k callerA)
    (F : ∀ base : Heap, K.In base → base.Ns mainGlobals mg → FnG P w K mg base CX k fa fd [x] sp)
    (hbind : ∀ (s : Shared) (u : Value), BindsTo s fd ⟨[u], []⟩ [(x, u)])
    (hsp : ∀ H : Hp, Only H → SqL K H a (ns.map V.int) → sp [.ref a] H (fun v _ => v = .bl true) fun _ _ _ => False)
    (hCX : ∀ H e s', CX [] H s (fun _ _ _ => False) e s' → False) :
    codeAny (model P w) callerA (.call (.ref fa) ⟨[.ref a], []⟩) (LawEnd s) s := by
  have rv := vals_ints hi
  have nv := hi.length
  cases free : K.lookup a with
  | some o =>
    have e := KX a o free
    rw [ha] at e
    cases e
    have only : Only (fun _ => none) := fun _ => .inl rfl
    refine law_core KX hns hb hbb nl hg ha hr F hbind (hsp _ only (.inr ⟨_, vs.toArray, _, free, rfl, rfl, rfl, ?_, by simpa using rv⟩))
      (hCX _) only (fun b u z => nomatch (show (none : Option HO) = some u from z)) (fun b z => absurd rfl z) (fun z => absurd rfl z)
    rw [List.size_toArray, nv]
    exact hl
  | none =>
    have only : Only (fun b => if b = a then some (.frz { cls := .type "list", data := .seq vs.toArray } (.lst (ns.map V.int))) else none) := by
      intro b
      by_cases e : b = a
      · exact .inr ⟨_, _, if_pos e⟩
      · exact .inl (if_neg e)
    refine law_core KX hns hb hbb nl hg ha hr F hbind (hsp _ only (.inl (.inr ⟨_, if_pos rfl⟩))) (hCX _) only ?_ ?_ (fun _ => free)
    · intro b u z
      by_cases e : b = a
      · have z1 := (if_pos e).symm.trans z
        cases z1
        subst e
        refine ⟨ha, ?_, vs, _, rv, ha⟩
        rw [List.length_map]
        exact hl
      · have z1 := (if_neg e).symm.trans z
        cases z1
    · intro b z
      by_cases e : b = a
      · exact e
      · exact absurd (if_neg e) z
end
/-- the head's end: what is known behind the top gives the law's promise -/
theorem walk_g {l : PySem.W.OpenLaw} {n k : Nat} {q : Program} {loose : List Str} {XP : (Str → Option Value) → Heap → Prop}
    {YP : World → Heap → Prop} {d : DefRec} {CX : CXT} {x : Str}
    (hn : l.most = some n) (hn2 : n ≤ sizeLine) (hdf : d.params.defaults = []) (hr : Rm k callerA)
    (F : ∀ (w : World) (mg : Str → Option Value) (fa : Addr) (h : Heap), YP w h → h.Ns mainGlobals mg → mg d.name = some (.ref fa) →
      ∃ (K : PySem.W.Frag) (fd : FuncData) (sp : Sp), K.In h ∧ (∀ (s : Shared) (u : Value), BindsTo s fd ⟨[u], []⟩ [(x, u)]) ∧
        (∀ (H : Hp) (a : Addr) (ns : List Int), ns.length ≤ n → SqL K H a (ns.map V.int) →
          sp [.ref a] H (fun v _ => v = .bl true) fun _ _ _ => False) ∧
        ∀ base : Heap, K.In base → base.Ns mainGlobals mg → FnG l.prog w K mg base CX k fa fd [x] sp)
    (hCX : ∀ (H : Hp) (s : Shared) (e : Value) (s' : Shared), CX [] H s (fun _ _ _ => False) e s' → False) :
    PySem.W.WalkO q loose XP YP l.row.toRowW d [] (fun f vs => PySem.call f vs) := by
  refine Att.attach_call hn hdf ?_
  intro w s0 s1 mg mb fa o pm cd doc a vs ns G Y ho hd hcd hmg hobj hints hlen hg
  obtain ⟨K, fd, sp, KX, hb, hsp, hF⟩ := F w mg fa _ Y G.T.g hmg
  exact law_g KX G.T.g G.T.b G.T.builtins G.T.nolimit hg hobj hints (Nat.le_trans hlen hn2) hr hF hb
    (fun H _ hS => hsp H a ns hlen hS) (fun H e s' => hCX H s1 e s')
end MM

set_option Elab.async false
set_option maxRecDepth 100000
set_option maxHeartbeats 2000000
set_option linter.all false
namespace MM
open PySem PySem.Spec PyProof.Rows L2

/-! a def of the text under its name -/
def Def (P : Program) (w : World) (K : PySem.W.Frag) (mg : Str → Option Value) (base : Heap) (CX : CXT) (k : Nat) (x : Str) (ps : List Str) (sp : Sp) : Prop :=
  ∃ f fd, FnG P w K mg base CX k f fd ps sp ∧ mg x = some (.ref f) ∧ PySem.W.keepIn K (.ref f) = true ∧ L2.Binds K fd ps [] ∧ ∃ oc od sl, K.lookup f = some ⟨oc, od, .func fd, sl⟩
/-- a def of the text as it stands behind the top -/
structure At (K : PySem.W.Frag) (mg : Str → Option Value) (x : Str) (st : Stmt) : Prop where
  fn : ∃ fd, FunD K x x (defArgs st) (defBody st) (defScope st) [] [] (He.ga K x) fd
  glo : mg x = some (.ref (He.ga K x))
section
variable {P : Program} {w : World} {K : PySem.W.Frag} {mg : Str → Option Value} {base : Heap} {CX : CXT} {j k : Nat} {x : Str} {ps : List Str} {sp : Sp} {st : Stmt}
theorem Def.le (D : Def P w K mg base CX j x ps sp) (h : j ≤ k) : Def P w K mg base CX k x ps sp :=
  let ⟨f, fd, F, r⟩ := D
  ⟨f, fd, F.le h, r⟩
theorem At.defX {N : List Str} (T : At K mg x st) (S : FnScope N ps (defScope st))
    (hb : ∀ (kV doc pm : Value) (an : Option Addr) (cd ct : Value) (us : List Value), us.length = ps.length →
      bindArgs (PySem.W.fnOf x x (defArgs st) (defBody st) (defScope st) .none kV doc pm an cd ct) ⟨us, []⟩ = pure (ps.zip us))
    (arity : ∀ vs H Q E, sp vs H Q E → vs.length = ps.length)
    (body : ∀ (f : Addr) (cd : Value) (A : Around) (out : List Env) (s : Shared) (H : Hp) (vs : List V) (Q : VK) (E : XK),
      Rm k (A.deeper (envOfC x (defScope st) s.heap.objs.size f cd)) → sp vs H Q E →
      ∃ t, PSs (cxOf CX P w K mg base N x (defScope st) f cd A out s H E) (defBody st) t ∧
        t { nx := fun _ H' => Q .non H', rt := Q } (start N vs) H) : Def P w K mg base CX (k + 1) x ps sp := by
  obtain ⟨fd, F⟩ := T.fn
  obtain ⟨oc, od, _, _, _, _, _, _, _, osl, _, lk, _⟩ := F.ex
  exact ⟨_, fd, FnG.body F S arity (body _), T.glo, F.kp, F.bindsN hb, oc, od, osl, lk⟩
/-- the same for a def that nothing leaves -/
theorem At.def_ {N : List Str} (T : At K mg x st) (S : FnScope N ps (defScope st))
    (hb : ∀ (kV doc pm : Value) (an : Option Addr) (cd ct : Value) (us : List Value), us.length = ps.length →
      bindArgs (PySem.W.fnOf x x (defArgs st) (defBody st) (defScope st) .none kV doc pm an cd ct) ⟨us, []⟩ = pure (ps.zip us))
    (arity : ∀ vs H Q E, sp vs H Q E → vs.length = ps.length)
    (body : ∀ (f : Addr) (cd : Value) (A : Around) (out : List Env) (s : Shared) (H : Hp) (vs : List V) (Q : VK) (E : XK),
      Rm k (A.deeper (envOfC x (defScope st) s.heap.objs.size f cd)) → sp vs H Q E →
      ∃ t, PSs (cxOf CX P w K mg base N x (defScope st) f cd A out s H E).nox (defBody st) t ∧
        t { nx := fun _ H' => Q .non H', rt := Q } (start N vs) H) : Def P w K mg base CX (k + 1) x ps sp := by
  refine T.defX S hb arity (fun f cd A out s H vs Q E hr h => ?_)
  obtain ⟨t, d, q⟩ := body f cd A out s H vs Q E hr h
  exact ⟨t, d.nox, q⟩
end
section
variable {X : Cx} {CX : CXT} {k : Nat} {ps : List Str} {sp : Sp} {E : XK} {x : Str} {p pos : Pos} {e : Expr} {es : List Expr} {t : TA}
/-- f(e, ..) -/
def tD (sp : Sp) (E : XK) (t : TA) : TE := fun σ H Q => t σ H fun vs H1 => sp vs H1 Q E
theorem pe_d (D : Def X.prog X.w X.K X.mg X.base CX k x ps sp) (hr : Rm k X.A) (hx : Passes CX X E) (ha : PA X (e :: es) t) (hg : Gl X x := by rfl)
    (hdb : (x == ("__debug__" : Str)) = false := by decide)
    (he : starEach (e :: es) X.env = (false, eval e X.env) :: starEach es X.env := by rfl)
    (hpl : (backTo pos (starEach es X.env)).any (·.1) = false := by rfl) : PE X (.Call (.Name x p) (e :: es) [] pos) (tD sp E t) := by
  obtain ⟨f, fd, F, hm, hk, hb, _⟩ := D
  exact pe_g F hr hm hk hb hx ha hg hdb he hpl
end

/-! tests whose answer is known -/
theorem ifT {c : Bool} {A B : Prop} (h : c = true) (a : A) : if c = true then A else B := by
  rw [if_pos h]
  exact a
theorem ifF {c : Bool} {A B : Prop} (h : c = false) (b : B) : if c = true then A else B := by
  rw [h, if_neg Bool.false_ne_true]
  exact b
theorem dInt (a b : Int) : decide (V.int a = V.int b) = decide (a = b) := by
  by_cases e : a = b
  · rw [e, decide_eq_true rfl, decide_eq_true rfl]
  · rw [decide_eq_false e, decide_eq_false (fun z => e (V.int.inj z))]
/-! more rules by values -/
section
variable {X : Cx}
/-- ** of great numbers -/
def CPw (i j : Int) : Prop := 0 ≤ j ∧ (Builtin.Int.intBits i : Int) * j ≤ 2 ^ 27
instance (i j : Int) : Decidable (CPw i j) := inferInstanceAs (Decidable (_ ∧ _))
instance (i j : Int) : Decidable (CDivW i j) := inferInstanceAs (Decidable (_ ∧ _))
theorem op_pw : OpR X (binaryOp .Pow) (rI CPw fun i j => .int (i ^ j.toNat)) := opI fun _ _ _ _ _ _ _ hc q => pow_int hc.1 hc.2 q
/-- repr of data -/
def rRepr (K : PySem.W.Frag) : List V → Hp → VK → Prop := fun xs H Q =>
  ∃ x d, xs = [x] ∧ Dp K H x d ∧ SeqAt.shaped d = true ∧ d.showable = true ∧ d.shown.length ≤ sizeLine ∧ Q (.str d.shown) H
theorem cr_repr (hg : X.A.guards = some []) (hu : X.A.units + 66 < cLine) : CallR X (.builtin "repr") (rRepr X.K) := by
  intro pins s σ H xs us Q I r h
  obtain ⟨x, d, rfl, hd, hs, hw, hz, q⟩ := h
  obtain ⟨u, rfl, ru⟩ := vals1 r
  have hdep := SeqAt.depth_of_shaped hs
  have hno := PyData.hasDict_of_canLay d (SeqAt.canLay_of_shaped hs)
  obtain ⟨as, rd⟩ := Dp.reads I d x u hd ru
  have fin : ∀ (h' : Heap) (z : Tok) (tk : Nat), (∀ b o, s.heap.get? b = some o → h'.get? b = some o) →
      EP X pins σ Q (.str d.shown z) { s with heap := h', toks := tk } := fun h' z tk hk => ⟨.str _, H, I.kept hk, ⟨_, rfl⟩, q⟩
  cases hd with
  | non =>
    cases ru
    exact PySem.P.repr_of_none (fin s.heap _ _ fun _ _ e => e)
  | bl b =>
    cases ru
    exact PySem.P.repr_of_bool (fin s.heap _ _ fun _ _ e => e)
  | int i =>
    obtain ⟨t, rfl⟩ := ru
    exact PySem.P.repr_of_int (of_decide_eq_true hw) (fin s.heap _ _ fun _ _ e => e)
  | str z =>
    obtain ⟨t, rfl⟩ := ru
    exact PySem.P.repr_of_str (fin s.heap _ _ fun _ _ e => e) hz
  | lst h1 h2 =>
    cases ru
    exact repr_of_reads' rd hw (PyData.noDict_hsm hno) hg (by omega) (fun _ _ e => e) (fun h' z tk hk => fin h' z tk hk) hz
  | tup h1 h2 =>
    cases ru
    exact repr_of_reads' rd hw (PyData.noDict_hsm hno) hg (by omega) (fun _ _ e => e) (fun h' z tk hk => fin h' z tk hk) hz
end
end MM

set_option Elab.async false
set_option maxRecDepth 100000
set_option maxHeartbeats 2000000
set_option linter.all false
namespace MM
open PySem PySem.Spec PyProof.Rows L2
/-! what kind a value is of -/
inductive Kn where
  | non | bl | int | str | lst | tup | dct
def Kn.name : Kn → String
  | .non => "NoneType"
  | .bl => "bool"
  | .int => "int"
  | .str => "str"
  | .lst => "list"
  | .tup => "tuple"
  | .dct => "dict"
def Kn.isa : Kn → Kn → Bool
  | .bl, .int => true
  | .non, .non => true
  | .bl, .bl => true
  | .int, .int => true
  | .str, .str => true
  | .lst, .lst => true
  | .tup, .tup => true
  | .dct, .dct => true
  | _, _ => false
theorem Kn.isa_ok (n m : Kn) : kitB n.name m.name = some (n.isa m) := by cases n <;> cases m <;> decide +kernel
inductive Kd (K : PySem.W.Frag) (H : Hp) : V → Kn → Prop where
  | non : Kd K H .non .non
  | bl (b : Bool) : Kd K H (.bl b) .bl
  | int (i : Int) : Kd K H (.int i) .int
  | str (z : Str) : Kd K H (.str z) .str
  | lst {a : Addr} {xs : List V} (h : SqL K H a xs) : Kd K H (.ref a) .lst
  | tup {a : Addr} {xs : List V} (h : SqT K H a xs) : Kd K H (.ref a) .tup
  | dct {a : Addr} {kvs : List (Key × V)} (h : H a = some (.dK kvs)) : Kd K H (.ref a) .dct
theorem Kd.ty {K : PySem.W.Frag} {H : Hp} {x : V} {n : Kn} (h : Kd K H x n) : TyX K H x (.type n.name) := by
  cases h with
  | non => exact .base .non
  | bl b => exact .base (.bl b)
  | int i => exact .base (.int i)
  | str z => exact .base (.str z)
  | lst h =>
    rcases h with (h | ⟨o, h⟩) | ⟨o, its, k, h, c, _⟩
    · exact .base (.lst h)
    · exact .base (.frz h)
    · exact .kList h c
  | tup h =>
    rcases h with h | h
    · rcases h with h | ⟨o, h⟩
      · exact .base (.tup h)
      · exact .fTuple h
    · obtain ⟨o, its, k, h, c, _⟩ := h
      exact .kTuple h c
  | dct h => exact .base (.dK h)
/-- an int, and no bool -/
def isW : V → Bool
  | .int _ => true
  | _ => false
section
variable {X : Cx}
def rIs (K : PySem.W.Frag) (m : Kn) : List V → Hp → VK → Prop := fun xs H Q => ∃ x n, xs = [x, .ty m.name] ∧ Kd K H x n ∧ Q (.bl (n.isa m)) H
theorem cr_is (m : Kn) : CallR X (.builtin "isinstance") (rIs X.K m) := by
  intro pins s σ H xs us Q I r h
  obtain ⟨x, n, rfl, hk, q⟩ := h
  exact call_isi pins s σ H _ us Q I r ⟨x, .ty m.name, .type n.name, .type m.name, n.isa m, rfl, .ty _, hk.ty, kit_ty (n.isa_ok m), q⟩
/-- a built-in class by its name -/
theorem pe_ty (m : Kn) {x : Str} {pos : Pos} (hm : X.mg x = none) (hv : bootBuiltins x = some (.type m.name)) (hg : Gl X x := by rfl) (hn : x ≠ "__name__" := by decide)
    (hdb : (x == ("__debug__" : Str)) = false := by decide) : PE X (.Name x pos) (tC (.ty m.name)) := pe_bltn hg hm hv rfl hn hdb
end
/-! heaps -/
theorem same_new {H : Hp} {p : Addr} {o : HO} (h : H p = none) : Same H (upd H p o) := fun b x e => by
  rw [upd_ne (ne_of_none e h)]
  exact e
theorem sql_new {K : PySem.W.Frag} {H : Hp} {p l : Addr} {xs : List V} {o : HO} (h : SqL K H l xs) (n : H p = none) : SqL K (upd H p o) l xs := (same_new n).seq h
theorem same_sqt {K : PySem.W.Frag} {H H' : Hp} {a : Addr} {xs : List V} (e : Same H H') (h : SqT K H a xs) : SqT K H' a xs := by
  rcases h with (h | ⟨o, h⟩) | h
  · exact .inl (.inl (e _ _ h))
  · exact .inl (.inr ⟨o, e _ _ h⟩)
  · exact .inr h
theorem sqt_new {K : PySem.W.Frag} {H : Hp} {p l : Addr} {xs : List V} {o : HO} (h : SqT K H l xs) (n : H p = none) : SqT K (upd H p o) l xs := same_sqt (same_new n) h
theorem sql_upd {K : PySem.W.Frag} {H : Hp} {p l : Addr} {xs : List V} {o : HO} (h : SqL K H l xs) (ne : l ≠ p) : SqL K (upd H p o) l xs := by
  rcases h with (h | ⟨u, h⟩) | h
  · exact .inl (.inl (by rw [upd_ne ne]; exact h))
  · exact .inl (.inr ⟨u, by rw [upd_ne ne]; exact h⟩)
  · exact .inr h
theorem sqt_upd {K : PySem.W.Frag} {H : Hp} {p l : Addr} {xs : List V} {o : HO} (h : SqT K H l xs) (ne : l ≠ p) : SqT K (upd H p o) l xs := by
  rcases h with (h | ⟨u, h⟩) | h
  · exact .inl (.inl (by rw [upd_ne ne]; exact h))
  · exact .inl (.inr ⟨u, by rw [upd_ne ne]; exact h⟩)
  · exact .inr h
theorem Kd.same {K : PySem.W.Frag} {H H' : Hp} {x : V} {n : Kn} (e : Same H H') (h : Kd K H x n) : Kd K H' x n := by
  cases h with
  | non => exact .non
  | bl b => exact .bl b
  | int i => exact .int i
  | str z => exact .str z
  | lst h => exact .lst (e.seq h)
  | tup h => exact .tup (same_sqt e h)
  | dct h => exact .dct (e _ _ h)
/-! a list comprehension whose elements are reckoned without a new object -/
section
variable {K : PySem.W.Frag} {v : Nat} {te : TE} {σ : L2.St} {H1 : Hp} {D : Addr} {Qd : Hp → Prop} {n : Nat}
/-- what tLc asks of its walk -/
def LcW (J : It) (g : TG) (tt : TT) (te : TE) (vs : List Nat) (σ : L2.St) (H1 : Hp) (D : Addr) (Qd : Hp → Prop) : Prop :=
  ∃ W : Nat → Nat → Hp → Prop, (∃ m, W 0 m (upd H1 D (.lst []))) ∧ ∀ i m H, W i m H →
    (J.stop i H ∧ Qd H) ∨ (J.go i H ∧ ∃ Nx : Hp → Prop, (∀ H', Nx H' → ∃ m', m' < m ∧ W (i + 1) m' H') ∧
      ∀ x H', J.yld i H x H' → g x (wipe σ vs) H' fun σ2 H2 => wipe σ2 vs = wipe σ vs ∧ tt σ2 H2 fun b H3 =>
        if b = true then te σ2 H3 fun y H4 => ∃ acc, H4 D = some (.lst acc) ∧ acc.length < sizeLine ∧ Nx (upd H4 D (.lst (acc ++ [y]))) else Nx H3)
theorem yes_ {H : Hp} {A B : Hp → Prop} (h : A H) : tYes σ H fun b H3 => if b = true then A H3 else B H3 := by
  show (if true = true then A H else B H)
  rw [if_pos rfl]
  exact h
theorem wipe_one {x : Option V} : wipe ((wipe σ [v]).set v x) [v] = wipe σ [v] := by
  show ((σ.set v none).set v x).set v none = σ.set v none
  rw [List.set_set, List.set_set]
theorem lc_rng {lo : Int} (f : Nat → V) (hn : n ≤ sizeLine)
    (hs : ∀ i acc, i < n → ∀ Q : VK, Q (f i) (upd H1 D (.lst acc)) → te ((wipe σ [v]).set v (some (.int (lo + i)))) (upd H1 D (.lst acc)) Q)
    (hd : Qd (upd H1 D (.lst ((List.range n).map f)))) : LcW (Itr lo n) (gName v) tYes te [v] σ H1 D Qd := by
  refine lc_range (Pv := fun i H => H = upd H1 D (.lst ((List.range i).map f))) rfl ?_ (fun H e => by rw [e]; exact hd)
  intro i H hi e
  subst e
  refine ⟨wipe_one, yes_ ?_⟩
  refine hs i _ hi _ ⟨_, upd_same, ?_, ?_⟩
  · rw [List.length_map, List.length_range]
    exact Nat.lt_of_lt_of_le hi hn
  · rw [upd_upd, List.range_succ, List.map_append]
    rfl
theorem lc_seq {a : Addr} {xs : List V} (f : V → V) (hx : SqL K H1 a xs) (nD : H1 D = none) (hn : xs.length ≤ sizeLine)
    (hs : ∀ x acc, x ∈ xs → ∀ Q : VK, Q (f x) (upd H1 D (.lst acc)) → te ((wipe σ [v]).set v (some x)) (upd H1 D (.lst acc)) Q)
    (hd : Qd (upd H1 D (.lst (xs.map f)))) : LcW (Itl K a) (gName v) tYes te [v] σ H1 D Qd := by
  refine lc_list (xs := xs) (Pv := fun i H => H = upd H1 D (.lst ((xs.take i).map f))) rfl (fun i H _ e => by rw [e]; exact sql_new hx nD) ?_ (fun H e => by rw [e, List.take_length]; exact hd)
  intro i x H hi e
  subst e
  have lt : i < xs.length := (List.getElem?_eq_some_iff.mp hi).1
  refine ⟨wipe_one, yes_ ?_⟩
  refine hs x _ (List.mem_of_getElem? hi) _ ⟨_, upd_same, ?_, ?_⟩
  · rw [List.length_map, List.length_take]
    omega
  · rw [upd_upd, List.take_add_one, hi, List.map_append]
    rfl
theorem lc_tpl {a : Addr} {xs : List V} (f : V → V) (hx : SqT K H1 a xs) (nD : H1 D = none) (hn : xs.length ≤ sizeLine)
    (hs : ∀ x acc, x ∈ xs → ∀ Q : VK, Q (f x) (upd H1 D (.lst acc)) → te ((wipe σ [v]).set v (some x)) (upd H1 D (.lst acc)) Q)
    (hd : Qd (upd H1 D (.lst (xs.map f)))) : LcW (Itt K a) (gName v) tYes te [v] σ H1 D Qd := by
  refine lc_tup (xs := xs) (Pv := fun i H => H = upd H1 D (.lst ((xs.take i).map f))) rfl (fun i H _ e => by rw [e]; exact sqt_new hx nD) ?_ (fun H e => by rw [e, List.take_length]; exact hd)
  intro i x H hi e
  subst e
  have lt : i < xs.length := (List.getElem?_eq_some_iff.mp hi).1
  refine ⟨wipe_one, yes_ ?_⟩
  refine hs x _ (List.mem_of_getElem? hi) _ ⟨_, upd_same, ?_, ?_⟩
  · rw [List.length_map, List.length_take]
    omega
  · rw [upd_upd, List.take_add_one, hi, List.map_append]
    rfl
/-- with a test -/
theorem lc_rngF {tt : TT} {lo : Int} (p : Nat → Bool) (f : Nat → V) (hn : n ≤ sizeLine)
    (ht : ∀ i acc, i < n → ∀ Q : Bool → Hp → Prop, Q (p i) (upd H1 D (.lst acc)) → tt ((wipe σ [v]).set v (some (.int (lo + i)))) (upd H1 D (.lst acc)) Q)
    (hs : ∀ i acc, i < n → p i = true → ∀ Q : VK, Q (f i) (upd H1 D (.lst acc)) → te ((wipe σ [v]).set v (some (.int (lo + i)))) (upd H1 D (.lst acc)) Q)
    (hd : Qd (upd H1 D (.lst (((List.range n).filter p).map f)))) : LcW (Itr lo n) (gName v) tt te [v] σ H1 D Qd := by
  refine lc_range (Pv := fun i H => H = upd H1 D (.lst (((List.range i).filter p).map f))) rfl ?_ (fun H e => by rw [e]; exact hd)
  intro i H hi e
  subst e
  have le : (((List.range i).filter p).map f).length ≤ i := by
    rw [List.length_map]
    exact Nat.le_trans (List.length_filter_le _ _) (Nat.le_of_eq List.length_range)
  refine ⟨wipe_one, ht i _ hi _ ?_⟩
  cases e : p i with
  | true =>
    rw [if_pos rfl]
    refine hs i _ hi e _ ⟨_, upd_same, Nat.lt_of_le_of_lt le (Nat.lt_of_lt_of_le hi hn), ?_⟩
    rw [upd_upd, List.range_succ, List.filter_append, List.map_append]
    simp [e]
  | false =>
    rw [if_neg Bool.false_ne_true, List.range_succ, List.filter_append, List.map_append]
    simp [e]
end
/-! data: ints and bools in lists and tuples -/
section
variable {K : PySem.W.Frag} {H : Hp}
theorem dp_ints : ∀ ns : List Int, DpAll K H (ns.map V.int) (ns.map PyData.int)
  | [] => .nil
  | n :: r => .cons (.int n) (dp_ints r)
theorem dp_bools : ∀ bs : List Bool, DpAll K H (bs.map V.bl) (bs.map PyData.bool)
  | [] => .nil
  | b :: r => .cons (.bl b) (dp_bools r)
end
theorem lay_ints : ∀ ns : List Int, PyData.canLayAll0 (ns.map PyData.int) = true
  | [] => rfl
  | n :: r => by
    show (PyData.canLay0 (.int n) && PyData.canLayAll0 (r.map PyData.int)) = true
    rw [lay_ints r]
    rfl
theorem dep_ints : ∀ ns : List Int, PyData.depthAll (ns.map PyData.int) ≤ 1
  | [] => by decide
  | n :: r => by
    have := dep_ints r
    simp only [List.map_cons, PyData.depthAll, PyData.depth]
    omega
theorem shaped_ints (ns : List Int) : SeqAt.shaped (.list (ns.map PyData.int)) = true := by
  unfold SeqAt.shaped
  have h := dep_ints ns
  rw [show PyData.canLay0 (.list (ns.map PyData.int)) = true from lay_ints ns, Bool.true_and]
  refine decide_eq_true ?_
  simp only [PyData.depth]
  omega
theorem lay_bools : ∀ bs : List Bool, PyData.canLayAll0 (bs.map PyData.bool) = true
  | [] => rfl
  | b :: r => by
    show (PyData.canLay0 (.bool b) && PyData.canLayAll0 (r.map PyData.bool)) = true
    rw [lay_bools r]
    rfl
theorem dep_bools : ∀ bs : List Bool, PyData.depthAll (bs.map PyData.bool) ≤ 1
  | [] => by decide
  | n :: r => by
    have := dep_bools r
    simp only [List.map_cons, PyData.depthAll, PyData.depth]
    omega
theorem shaped_bools (bs : List Bool) : SeqAt.shaped (.list (bs.map PyData.bool)) = true := by
  unfold SeqAt.shaped
  have h := dep_bools bs
  rw [show PyData.canLay0 (.list (bs.map PyData.bool)) = true from lay_bools bs, Bool.true_and]
  refine decide_eq_true ?_
  simp only [PyData.depth]
  omega
theorem shapedT_ints (ns : List Int) : SeqAt.shaped (.tuple (ns.map PyData.int)) = true := by
  unfold SeqAt.shaped
  have h := dep_ints ns
  rw [show PyData.canLay0 (.tuple (ns.map PyData.int)) = true from lay_ints ns, Bool.true_and]
  refine decide_eq_true ?_
  simp only [PyData.depth]
  omega
theorem eqvAll_ints : ∀ ns ms : List Int, PyData.eqvAll (ns.map PyData.int) (ms.map PyData.int) = decide (ns = ms)
  | [], [] => rfl
  | [], _ :: _ => rfl
  | _ :: _, [] => rfl
  | n :: r, m :: q => by
    show (PyData.eqv (.int n) (.int m) && PyData.eqvAll (r.map PyData.int) (q.map PyData.int)) = _
    rw [eqvAll_ints r q]
    show ((n == m) && decide (r = q)) = _
    by_cases e : n = m
    · subst e
      by_cases f : r = q
      · subst f
        simp
      · simp [f]
    · simp [e]
end MM

set_option Elab.async false
set_option linter.all false
set_option maxRecDepth 100000
set_option maxHeartbeats 2000000
namespace K84
open PySem PySem.Spec PyProof.Rows L2 MM
/-! own words for the readings: a step, its side -/
local macro_rules | `(tactic| walk_at "side") => `(tactic| first
  | omega
  | exact ⟨by omega, by omega⟩
  | exact Or.inl ⟨by omega, by omega⟩
  | exact Or.inr ⟨by omega, by omega⟩
  | (show CPw _ _; decide +kernel)
  | (show (0 : Int) < _; decide +kernel)
  | (show CDivW _ _; first | assumption | exact ⟨by decide, by decide +kernel⟩))
local macro_rules | `(tactic| walk_at "here") => `(tactic| first
  | assumption
  | exact upd_same
  | exact Or.inl (Or.inl upd_same)
  | exact Or.inl upd_same)
local macro_rules | `(tactic| walk_at "one") => `(tactic| first
  | refine ⟨_, rfl, ?_⟩
  | refine Or.inl ⟨_, rfl, ?_⟩
  | refine Or.inr ⟨_, rfl, ?_⟩
  | refine ⟨_, _, rfl, rfl, (by walk_at "side"), ?_⟩
  | refine ⟨_, _, rfl, rfl, ?_⟩
  | refine ⟨_, _, rfl, Or.inl (by walk_at "here"), ?_⟩
  | refine ⟨_, _, rfl, Or.inr (by walk_at "here"), ?_⟩
  | refine ⟨_, _, rfl, (by walk_at "here"), ?_⟩
  | refine ⟨_, _, _, _, rfl, rfl, (by walk_at "here"), rfl, ?_⟩
  | refine ⟨_, _, rfl, ?_⟩
  | refine ifT (by rfl) ?_
  | refine ifF (by rfl) ?_
  | refine ifT (decide_eq_true (by omega)) ?_
  | refine ifF (decide_eq_false (by omega)) ?_)
local macro_rules | `(tactic| walk_at "st") => `(tactic| repeat (walk_at "one"))

structure Tx (K : PySem.W.Frag) (mg : Str → Option Value) : Prop where
  t_is_whole : At K mg "is_whole" sIsWhole
  t_is_integer : At K mg "is_integer" sIsInteger
  t_is_between : At K mg "is_between" sIsBetween
  t_need_between : At K mg "need_between" sNeedBetween
  t_is_arrangement : At K mg "is_arrangement" sIsArrangement
  t_need_places : At K mg "need_places" sNeedPlaces
  t_need_move : At K mg "_need_move" sNeedMove
  t_cyclesU : At K mg "_cycles" sCyclesU
  t_cycles : At K mg "cycles" sCycles
  t_need_rings : At K mg "_need_rings" sNeedRings
  t_move_of_cycles : At K mg "move_of_cycles" sMoveOfCycles
  t_need_text : At K mg "_need_text" sNeedText
  t_is_at : At K mg "_is_at" sIsAt
  t_behind : At K mg "_behind" sBehind
  t_is_digit_at : At K mg "_is_digit_at" sIsDigitAt
  t_read_plain : At K mg "_read_plain" sReadPlain
  t_read_less : At K mg "_read_less" sReadLess
  t_read_ring : At K mg "_read_ring" sReadRing
  t_read_rings : At K mg "_read_rings" sReadRings
  t_move_of : At K mg "_move_of" sMoveOf
  t_write_move : At K mg "write_move" sWriteMove
  t_read_move : At K mg "read_move" sReadMove
  t_are_members : At K mg "_are_members" sAreMembers
  t_write_row : At K mg "write_row" sWriteRow
  t_read_signed : At K mg "_read_signed" sReadSigned
  t_read_row : At K mg "read_row" sReadRow
  t_term : At K mg "_term" sTerm
  t_write_kinds : At K mg "write_kinds" sWriteKinds
  t_read_term : At K mg "_read_term" sReadTerm
  t_read_terms : At K mg "_read_terms" sReadTerms
  t_read_kinds : At K mg "read_kinds" sReadKinds
  t_law_bag : At K mg "_law_bag" sBagL
  t_law_grab : At K mg "_law_grab" sGrabL
  t_law_one_of : At K mg "_law_one_of" sOneOfL
  t_law_mixed : At K mg "_law_mixed" sMixedL
  t_law_cycles : At K mg "_law_cycles" sCyclesL
  t_law_power : At K mg "_law_power" sPowerL
  t_law_move_drawn : At K mg "_law_move_drawn" sMoveDrawnL
  t_law_move_text : At K mg "_law_move_text" sMoveTextL
  t_law_kinds_text : At K mg "_law_kinds_text" sKindsTextL
  t_law_number : At K mg "_law_number" sNumberL
  t_law_moves_right : At K mg "_law_moves_right" sMovesRightL
  t_law_rows_right : At K mg "_law_rows_right" sRowsRightL
  t_law_terms_text : At K mg "_law_terms_text" sTermsTextL
  t_law_kinds_right : At K mg "_law_kinds_right" sKindsRightL
  t_law : At K mg "law" sLaw
  f_IndexError : mg "IndexError" = none
  f_abs : mg "abs" = none
  f_all : mg "all" = none
  f_bool : mg "bool" = none
  f_enumerate : mg "enumerate" = none
  f_int : mg "int" = none
  f_isinstance : mg "isinstance" = none
  f_len : mg "len" = none
  f_list : mg "list" = none
  f_max : mg "max" = none
  f_min : mg "min" = none
  f_range : mg "range" = none
  f_set : mg "set" = none
  f_str : mg "str" = none
  f_sum : mg "sum" = none
  f_tuple : mg "tuple" = none
  c_TOO_LONG : ∃ u, mg "_TOO_LONG" = some u ∧ RelV (.int (10 ^ 60)) u
  c_MAX_PLACES : ∃ u, mg "MAX_PLACES" = some u ∧ RelV (.int (24)) u
  c_MOST_SIGNS : ∃ u, mg "MOST_SIGNS" = some u ∧ RelV (.int (3000)) u
  c_MOST_MEMBERS : ∃ u, mg "MOST_MEMBERS" = some u ∧ RelV (.int (60)) u
  c_DIGITS : ∃ u, mg "_DIGITS" = some u ∧ RelV (.str "0123456789") u
  c_MOST_DIGITS : ∃ u, mg "_MOST_DIGITS" = some u ∧ RelV (.int (60)) u

section
variable {P : Program} {w : World} {K : PySem.W.Frag} {mg : Str → Option Value} {base : Heap}
/-- a bag of draws -/
def BagAt (H : Hp) (p : Addr) : Prop := ∃ g m c : Int, H p = some (.lst [.int g, .int m, .int c])
def spBag (K : PySem.W.Frag) : Sp := fun vs H Q _ => ∃ (a : Addr) (n : Nat) (ns : List Int), vs = [.ref a, .int n] ∧ SqL K H a (ns.map V.int) ∧ n ≤ 100 ∧
  ∀ (H' : Hp) (p : Addr), Same H H' → H p = none → BagAt H' p → Q (.ref p) H'
theorem scBagL : FnScope ["_law_script", "_law_spot", "_law_cell", "_law_great", "_law_mixed_here"] ["_law_script", "_law_spot"] (defScope sBagL) :=
  ⟨rfl, rfl, rfl, by decide +kernel, rfl, by decide +kernel, by decide +kernel⟩
theorem dBagL (T : Tx K mg) : Def P w K mg base CX0 1 "_law_bag" ["_law_script", "_law_spot"] (spBag K) := by
  refine T.t_law_bag.def_ (N := ["_law_script", "_law_spot", "_law_cell", "_law_great", "_law_mixed_here"]) scBagL (fun _ _ _ _ _ _ us hl => match us, hl with | [_, _], _ => rfl) ?_ ?_
  · intro vs H Q E h
    obtain ⟨a, n, ns, rfl, _⟩ := h
    rfl
  · intro f cd A out s H vs Q E hr h
    obtain ⟨a, n, ns, rfl, hS, hn, q⟩ := h
    refine ⟨_, (pss_cons (ps_set (i := 2) scBagL.nd rfl (Or.inl rfl) (pe_ifExp (pt_cmpR op_lt (pv 1) (pe_callB call_len_seq rfl T.f_len (by decide +kernel) (pa_cons (pv 0) pa_nil)) (nomark _)) (pe_ix ix_list (pv 0) (pv 1) (fun _ _ => rfl)) (pe_op op_add (pe_op op_add (pe_callB (cr_sum rfl) rfl T.f_sum (by decide +kernel) (pa_cons (pe_slice sl_list (pv 0) po_none (po_some pe_int)) pa_nil)) (pe_op op_mul pe_int (pv 1))) pe_int)))
      (pss_cons (ps_set (i := 3) scBagL.nd rfl (Or.inl rfl) (pe_op op_mod (pe_callTy call_int1 rfl T.f_int (by decide +kernel) (pa_cons (pe_callB call_abs rfl T.f_abs (by decide +kernel) (pa_cons (pv 2) pa_nil)) pa_nil)) (pe_op op_pw (pe_op op_pw pe_int pe_int) pe_int)))
      (pss_cons (ps_set (i := 4) scBagL.nd rfl (Or.inl rfl) (pe_op op_add (pe_op op_add (pe_op op_add (pe_op op_mul (pe_op op_mod (pe_callTy call_int1 rfl T.f_int (by decide +kernel) (pa_cons (pv 3) pa_nil)) pe_int) pe_int) (pe_op op_mul pe_int (pv 1))) (pe_op op_mul pe_int (pe_callTy call_int1 rfl T.f_int (by decide +kernel) (pa_cons (pe_cmpR op_lt (pv 2) pe_int (nomark _)) pa_nil)))) pe_int))
      (pss_one (ps_ret (pe_lst (pa_cons (pe_callB (call_max2 rfl) rfl T.f_max (by decide +kernel) (pa_cons pe_int (pa_cons (pe_op op_sub (pv 3) (pe_op op_pw pe_int pe_int)) pa_nil))) (pa_cons (pe_op op_mod (pe_callTy call_int1 rfl T.f_int (by decide +kernel) (pa_cons (pv 4) pa_nil)) pe_int) (pa_cons pe_int pa_nil))))))))), ?_⟩
    -- behind the cell: whatever it is
    have fin : ∀ (H1 : Hp) (u v : Int), Same H H1 → ∀ p, H1 p = none → Q (.ref p) (upd H1 p (.lst [.int u, .int v, .int 0])) := by
      intro H1 u v sm p hp
      refine q _ p ?_ (sm.free hp) ⟨u, v, 0, upd_same⟩
      intro b o e
      rw [upd_ne (ne_of_none (sm b o e) hp)]
      exact sm b o e
    walk_at "st"
    refine ite2 (fun c => ?_) (fun c => ?_)
    · have lt : n < ns.length := by
        have := of_decide_eq_true c
        rw [List.length_map] at this
        omega
      refine ⟨_, rfl, _, rfl, a, _, _, _, rfl, rfl, hS, atI_cell lt, ?_⟩
      walk_at "st"
      exact ⟨by show 3 ≤ sizeLine; decide, fin H _ _ (Same.refl H)⟩
    · walk_at "st"
      intro p hp
      have sm : Same H (upd H p (.lst (cutV (ns.map V.int) none (some 1)))) := by
        intro b o e
        rw [upd_ne (ne_of_none e hp)]
        exact e
      have ec : cutV (ns.map V.int) none (some 1) = (ns.take 1).map V.int := by
        unfold cutV
        rw [HT.sIx_none, show HT.sIx (ns.map V.int).length (ns.map V.int).length (some 1) = min 1 (ns.map V.int).length from HT.sIx_nat _ _ 1, List.map_take, List.drop_zero, Nat.sub_zero]
        cases ns with
        | nil => rfl
        | cons x r => simp
      refine ⟨_, ns.take 1, rfl, ?_, ?_⟩
      · rw [← ec]
        exact .inl (.inl upd_same)
      walk_at "st"
      exact ⟨by show 3 ≤ sizeLine; decide, fin _ _ _ sm⟩
def spGrab : Sp := fun vs H Q _ => ∃ (p : Addr) (t g m c : Int), vs = [.ref p, .int t] ∧ H p = some (.lst [.int g, .int m, .int c]) ∧ CDivW 0 t ∧
  ∀ r g' m' c' : Int, 0 ≤ r → r < t → Q (.int r) (upd H p (.lst [.int g', .int m', .int c']))
theorem grab_out {H : Hp} {p : Addr} {t r : Int} {xs : List V} {Q : VK} (q : ∀ r g' m' c' : Int, 0 ≤ r → r < t → Q (.int r) (upd H p (.lst [.int g', .int m', .int c'])))
    (ht : 0 < t) (z : Int) (e : r = z % t) (ex : ∃ g' m' c', xs = [V.int g', V.int m', V.int c']) : Q (.int r) (upd H p (.lst xs)) := by
  obtain ⟨g', m', c', rfl⟩ := ex
  rw [e]
  exact q _ _ _ _ (Int.emod_nonneg _ (by omega)) (Int.emod_lt_of_pos _ ht)
theorem scGrabL : FnScope ["_law_bag_here", "_law_total", "_law_found", "_law_one", "_law_two"] ["_law_bag_here", "_law_total"] (defScope sGrabL) :=
  ⟨rfl, rfl, rfl, by decide +kernel, rfl, by decide +kernel, by decide +kernel⟩
theorem dGrabL (T : Tx K mg) : Def P w K mg base CX0 1 "_law_grab" ["_law_bag_here", "_law_total"] spGrab := by
  refine T.t_law_grab.def_ (N := ["_law_bag_here", "_law_total", "_law_found", "_law_one", "_law_two"]) scGrabL (fun _ _ _ _ _ _ us hl => match us, hl with | [_, _], _ => rfl) ?_ ?_
  · intro vs H Q E h
    obtain ⟨p, t, g, m, c, rfl, _⟩ := h
    rfl
  · intro f cd A out s H vs Q E hr h
    obtain ⟨p, t, g, m, c, rfl, hp, ht, q⟩ := h
    have ht0 : 0 < t := ht.1
    have hS : SqL K H p _ := .inl (.inl hp)
    have hd : ∀ i, CDivW i t := fun _ => ht
    refine ⟨_, (pss_cons (ps_if (pt_cmpR op_gt (pe_ix ix_list (pv 0) pe_int (fun _ _ => rfl)) pe_int (nomark _)) (pss_cons (ps_set (i := 2) scGrabL.nd rfl (Or.inl rfl) (pe_op op_mod (pe_callTy call_int1 rfl T.f_int (by decide +kernel) (pa_cons (pe_ix ix_list (pv 0) pe_int (fun _ _ => rfl)) pa_nil)) (pv 1)))
        (pss_cons (ps_asg (pe_op op_fdivW (pe_ix ix_list (pv 0) pe_int (fun _ _ => rfl)) (pv 1)) (pg_sub (pv 0) pe_int set_list))
        (pss_one (ps_ret (pv 2))))) pss_nil)
      (pss_cons (ps_asg (pe_op op_add (pe_ix ix_list (pv 0) pe_int (fun _ _ => rfl)) pe_int) (pg_sub (pv 0) pe_int set_list))
      (pss_cons (ps_set (i := 3) scGrabL.nd rfl (Or.inl rfl) (pe_op op_mod (pe_callTy call_int1 rfl T.f_int (by decide +kernel) (pa_cons (pe_op op_add (pe_ix ix_list (pv 0) pe_int (fun _ _ => rfl)) (pe_op op_mul pe_int (pe_ix ix_list (pv 0) pe_int (fun _ _ => rfl)))) pa_nil)) pe_int))
      (pss_cons (ps_set (i := 4) scGrabL.nd rfl (Or.inl rfl) (pe_op op_add (pe_op op_mul (pe_op op_mod (pe_callTy call_int1 rfl T.f_int (by decide +kernel) (pa_cons (pe_op op_mul (pv 3) (pv 3)) pa_nil)) pe_int) (pv 3)) (pe_op op_mul pe_int (pe_ix ix_list (pv 0) pe_int (fun _ _ => rfl)))))
      (pss_one (ps_ret (pe_op op_mod (pe_callTy call_int1 rfl T.f_int (by decide +kernel) (pa_cons (pe_op op_fdivW (pe_op op_mod (pe_callTy call_int1 rfl T.f_int (by decide +kernel) (pa_cons (pv 4) pa_nil)) pe_int) pe_int) pa_nil)) (pv 1)))))))), ?_⟩
    walk_at "st"
    refine ite2 (fun c => ?_) (fun c => ?_)
    · walk_at "st"
      refine grab_out q ht0 g rfl ⟨_, _, _, rfl⟩
    · walk_at "st"
      refine grab_out q ht0 _ rfl ⟨_, _, _, rfl⟩
theorem sql_upd {K : PySem.W.Frag} {H : Hp} {p l : Addr} {xs : List V} {o : HO} (h : SqL K H l xs) (ne : l ≠ p) : SqL K (upd H p o) l xs := by
  rcases h with (h | ⟨u, h⟩) | h
  · exact .inl (.inl (by rw [upd_ne ne]; exact h))
  · exact .inl (.inr ⟨u, by rw [upd_ne ne]; exact h⟩)
  · exact .inr h
theorem at_in {xs : List V} {r : Int} (h0 : 0 ≤ r) (h1 : r < xs.length) : ∃ v, v ∈ xs ∧ atI xs r = some v := by
  have lt : r.toNat < xs.length := by omega
  refine ⟨xs[r.toNat], List.getElem_mem lt, ?_⟩
  have e : ((r.toNat : Nat) : Int) = r := by omega
  have q := atI_nat (xs := xs) (j := r.toNat) (List.getElem?_eq_getElem lt)
  rw [e] at q
  exact q
theorem div_small {n : Nat} (h0 : 0 < n) (h : n ≤ 100000) : CDivW 0 (n : Int) := by
  refine wide_div (b := 20) (by omega) ?_ (by decide) (by decide)
  have e : ((n : Int)).natAbs = n := Int.natAbs_natCast n
  rw [e]
  exact Nat.lt_of_le_of_lt h (by decide)
def spOneOf (K : PySem.W.Frag) : Sp := fun vs H Q _ => ∃ (p l : Addr) (g m c : Int) (xs : List V), vs = [.ref p, .ref l] ∧ H p = some (.lst [.int g, .int m, .int c]) ∧ SqL K H l xs ∧
  l ≠ p ∧ 0 < xs.length ∧ xs.length ≤ 1000 ∧ ∀ v g' m' c', v ∈ xs → Q v (upd H p (.lst [.int g', .int m', .int c']))
theorem scOneOfL : FnScope ["_law_bag_here", "_law_items"] ["_law_bag_here", "_law_items"] (defScope sOneOfL) :=
  ⟨rfl, rfl, rfl, by decide +kernel, rfl, by decide +kernel, by decide +kernel⟩
theorem dOneOfL (T : Tx K mg) (DGrabL : Def P w K mg base CX0 1 "_law_grab" ["_law_bag_here", "_law_total"] spGrab) : Def P w K mg base CX0 2 "_law_one_of" ["_law_bag_here", "_law_items"] (spOneOf K) := by
  refine T.t_law_one_of.def_ (N := ["_law_bag_here", "_law_items"]) scOneOfL (fun _ _ _ _ _ _ us hl => match us, hl with | [_, _], _ => rfl) ?_ ?_
  · intro vs H Q E h
    obtain ⟨p, l, g, m, c, xs, rfl, _⟩ := h
    rfl
  · intro f cd A out s H vs Q E hr h
    have hr1 : Rm 1 _ := hr.le (by decide)
    obtain ⟨p, l, g, m, c, xs, rfl, hp, hS, ne, h0, h1, q⟩ := h
    refine ⟨_, (pss_one (ps_ret (pe_ix ix_list (pv 1) (pe_d DGrabL (hr1.le (by decide)) pass0 (pa_cons (pv 0) (pa_cons (pe_callB call_len_seq rfl T.f_len (by decide +kernel) (pa_cons (pv 1) pa_nil)) pa_nil))) (fun _ _ => rfl)))), ?_⟩
    walk_at "st"
    refine ⟨p, _, g, m, c, rfl, hp, div_small h0 (by omega), fun r g' m' c' r0 r1 => ?_⟩
    obtain ⟨v, hv, e⟩ := at_in r0 r1
    exact ⟨_, _, _, v, rfl, rfl, sql_upd hS ne, e, q v g' m' c' hv⟩
end
end K84


set_option Elab.async false
set_option linter.all false
set_option maxRecDepth 100000
set_option maxHeartbeats 2000000
namespace K84
open PySem PySem.Spec PyProof.Rows L2 MM
/-! own words for the readings: a step, its side -/
local macro_rules | `(tactic| walk_at "side") => `(tactic| first
  | omega
  | exact ⟨by omega, by omega⟩
  | exact Or.inl ⟨by omega, by omega⟩
  | exact Or.inr ⟨by omega, by omega⟩
  | (show CPw _ _; decide +kernel)
  | (show (0 : Int) < _; decide +kernel)
  | (show CDivW _ _; first | assumption | exact ⟨by decide, by decide +kernel⟩))
local macro_rules | `(tactic| walk_at "here") => `(tactic| first
  | assumption
  | exact upd_same
  | exact Or.inl (Or.inl upd_same)
  | exact Or.inl upd_same)
local macro_rules | `(tactic| walk_at "one") => `(tactic| first
  | refine ⟨_, rfl, ?_⟩
  | refine Or.inl ⟨_, rfl, ?_⟩
  | refine Or.inr ⟨_, rfl, ?_⟩
  | refine ⟨_, _, rfl, rfl, (by walk_at "side"), ?_⟩
  | refine ⟨_, _, rfl, rfl, ?_⟩
  | refine ⟨_, _, rfl, Or.inl (by walk_at "here"), ?_⟩
  | refine ⟨_, _, rfl, Or.inr (by walk_at "here"), ?_⟩
  | refine ⟨_, _, rfl, (by walk_at "here"), ?_⟩
  | refine ⟨_, _, _, _, rfl, rfl, (by walk_at "here"), rfl, ?_⟩
  | refine ⟨_, _, rfl, ?_⟩
  | refine ifT (by rfl) ?_
  | refine ifF (by rfl) ?_
  | refine ifT (decide_eq_true (by omega)) ?_
  | refine ifF (decide_eq_false (by omega)) ?_)
local macro_rules | `(tactic| walk_at "st") => `(tactic| repeat (walk_at "one"))

section
variable {P : Program} {w : World} {K : PySem.W.Frag} {mg : Str → Option Value} {base : Heap}
def spIsWhole (K : PySem.W.Frag) : Sp := fun vs H Q _ => ∃ x n, vs = [x] ∧ Kd K H x n ∧ Q (.bl (isW x)) H
theorem scIsWhole : FnScope ["value"] ["value"] (defScope sIsWhole) :=
  ⟨rfl, rfl, rfl, by decide +kernel, rfl, by decide +kernel, by decide +kernel⟩
theorem dIsWhole (T : Tx K mg) : Def P w K mg base CX0 1 "is_whole" ["value"] (spIsWhole K) := by
  refine T.t_is_whole.def_ (N := ["value"]) scIsWhole (fun _ _ _ _ _ _ us hl => match us, hl with | [_], _ => rfl) ?_ ?_
  · intro vs H Q E h
    obtain ⟨x, n, rfl, _⟩ := h
    rfl
  · intro f cd A out s H vs Q E hr h
    obtain ⟨x, n, rfl, hk, q⟩ := h
    refine ⟨_, (pss_one (ps_ret (pe_and (pe_callB (cr_is .int) rfl T.f_isinstance (by decide +kernel) (pa_cons (pv 0) (pa_cons (pe_ty .int T.f_int (by decide +kernel)) pa_nil))) (pe_one (pe_not (pe_callB (cr_is .bl) rfl T.f_isinstance (by decide +kernel) (pa_cons (pv 0) (pa_cons (pe_ty .bl T.f_bool (by decide +kernel)) pa_nil)))))))), ?_⟩
    refine ⟨_, rfl, _, _, rfl, hk, _, rfl, ?_⟩
    cases hk
    all_goals walk_at "st"
    all_goals first
      | exact q
      | (refine ⟨_, _, rfl, .int _, ?_⟩; walk_at "st"; exact q)
      | (refine ⟨_, _, rfl, .bl _, ?_⟩; walk_at "st"; exact q)
def isI : V → Bool
  | .int i => decide (-10 ^ 60 < i) && decide (i < 10 ^ 60)
  | _ => false
def spIsInteger (K : PySem.W.Frag) : Sp := fun vs H Q _ => ∃ x n, vs = [x] ∧ Kd K H x n ∧ Q (.bl (isI x)) H
theorem scIsInteger : FnScope ["value"] ["value"] (defScope sIsInteger) :=
  ⟨rfl, rfl, rfl, by decide +kernel, rfl, by decide +kernel, by decide +kernel⟩
theorem dIsInteger (T : Tx K mg) (DIsWhole : Def P w K mg base CX0 1 "is_whole" ["value"] (spIsWhole K)) : Def P w K mg base CX0 2 "is_integer" ["value"] (spIsInteger K) := by
  refine T.t_is_integer.def_ (N := ["value"]) scIsInteger (fun _ _ _ _ _ _ us hl => match us, hl with | [_], _ => rfl) ?_ ?_
  · intro vs H Q E h
    obtain ⟨x, n, rfl, _⟩ := h
    rfl
  · intro f cd A out s H vs Q E hr h
    have hr1 : Rm 1 _ := hr.le (by decide)
    obtain ⟨x, n, rfl, hk, q⟩ := h
    refine ⟨_, (pss_one (ps_ret (pe_and (pe_d DIsWhole (hr1.le (by decide)) pass0 (pa_cons (pv 0) pa_nil)) (pe_one (pe_chain op_lt op_lt (pe_un un_neg (C8.pe_gc rfl T.c_TOO_LONG)) (pv 0) (C8.pe_gc rfl T.c_TOO_LONG)))))), ?_⟩
    refine ⟨_, rfl, _, n, rfl, hk, _, rfl, ?_⟩
    cases hk
    all_goals walk_at "st"
    all_goals first
      | exact q
      | skip
    rename_i i
    refine ite2 (fun c => ?_) (fun c => ?_)
    · walk_at "st"
      have q' : Q (.bl (decide (-10 ^ 60 < i) && decide (i < 10 ^ 60))) H := q
      rw [show decide (-10 ^ 60 < i) = true from c, Bool.true_and] at q'
      exact q'
    · have q' : Q (.bl (decide (-10 ^ 60 < i) && decide (i < 10 ^ 60))) H := q
      rw [show decide (-10 ^ 60 < i) = false from Bool.eq_false_iff.mpr c, Bool.false_and] at q'
      exact q'
def isB (x : V) (l m : Int) : Bool := match x with
  | .int i => decide (l ≤ i) && decide (i ≤ m)
  | _ => false
def spIsBetween (K : PySem.W.Frag) : Sp := fun vs H Q _ => ∃ x n l m, vs = [x, .int l, .int m] ∧ Kd K H x n ∧ Q (.bl (isB x l m)) H
theorem scIsBetween : FnScope ["value", "least", "most"] ["value", "least", "most"] (defScope sIsBetween) :=
  ⟨rfl, rfl, rfl, by decide +kernel, rfl, by decide +kernel, by decide +kernel⟩
theorem dIsBetween (T : Tx K mg) (DIsWhole : Def P w K mg base CX0 1 "is_whole" ["value"] (spIsWhole K)) : Def P w K mg base CX0 2 "is_between" ["value", "least", "most"] (spIsBetween K) := by
  refine T.t_is_between.def_ (N := ["value", "least", "most"]) scIsBetween (fun _ _ _ _ _ _ us hl => match us, hl with | [_, _, _], _ => rfl) ?_ ?_
  · intro vs H Q E h
    obtain ⟨x, n, l, m, rfl, _⟩ := h
    rfl
  · intro f cd A out s H vs Q E hr h
    have hr1 : Rm 1 _ := hr.le (by decide)
    obtain ⟨x, n, l, m, rfl, hk, q⟩ := h
    refine ⟨_, (pss_one (ps_ret (pe_and (pe_d DIsWhole (hr1.le (by decide)) pass0 (pa_cons (pv 0) pa_nil)) (pe_one (pe_chain op_le op_le (pv 1) (pv 0) (pv 2)))))), ?_⟩
    refine ⟨_, rfl, _, n, rfl, hk, _, rfl, ?_⟩
    cases hk
    all_goals walk_at "st"
    all_goals first
      | exact q
      | skip
    rename_i i
    refine ite2 (fun c => ?_) (fun c => ?_)
    · walk_at "st"
      have q' : Q (.bl (decide (l ≤ i) && decide (i ≤ m))) H := q
      rw [show decide (l ≤ i) = true from c, Bool.true_and] at q'
      exact q'
    · have q' : Q (.bl (decide (l ≤ i) && decide (i ≤ m))) H := q
      rw [show decide (l ≤ i) = false from Bool.eq_false_iff.mpr c, Bool.false_and] at q'
      exact q'
def spNeedBetween (K : PySem.W.Frag) : Sp := fun vs H Q _ => ∃ i l m : Int, vs = [.int i, .int l, .int m] ∧ l ≤ i ∧ i ≤ m ∧ Q .non H
theorem scNeedBetween : FnScope ["value", "least", "most"] ["value", "least", "most"] (defScope sNeedBetween) :=
  ⟨rfl, rfl, rfl, by decide +kernel, rfl, by decide +kernel, by decide +kernel⟩
theorem dNeedBetween (T : Tx K mg) (DIsBetween : Def P w K mg base CX0 2 "is_between" ["value", "least", "most"] (spIsBetween K)) : Def P w K mg base CX0 3 "need_between" ["value", "least", "most"] (spNeedBetween K) := by
  refine T.t_need_between.def_ (N := ["value", "least", "most"]) scNeedBetween (fun _ _ _ _ _ _ us hl => match us, hl with | [_, _, _], _ => rfl) ?_ ?_
  · intro vs H Q E h
    obtain ⟨i, l, m, rfl, _⟩ := h
    rfl
  · intro f cd A out s H vs Q E hr h
    have hr1 : Rm 2 _ := hr.le (by decide)
    obtain ⟨i, l, m, rfl, h1, h2, q⟩ := h
    refine ⟨_, (pss_one (ps_if (pt_not (pt_val (pe_d DIsBetween (hr1.le (by decide)) pass0 (pa_cons (pv 0) (pa_cons (pv 1) (pa_cons (pv 2) pa_nil)))))) (pss_one ps_never) pss_nil)), ?_⟩
    refine ⟨_, rfl, _, rfl, _, rfl, _, .int, l, m, rfl, .int i, _, rfl, ?_⟩
    refine ifF ?_ q
    show (!(decide (l ≤ i) && decide (i ≤ m))) = false
    rw [decide_eq_true h1, decide_eq_true h2] <;> rfl
def noDiv (i : Int) : Bool := ((List.range (i - 2).toNat).map fun (k : Nat) => !decide (i % (2 + (k : Int)) = 0)).all id
def isP : V → Bool
  | .int i => decide (2 ≤ i) && decide (i ≤ 99) && noDiv i
  | _ => false
def spIsPrime (K : PySem.W.Frag) : Sp := fun vs H Q _ => ∃ x n, vs = [x] ∧ Kd K H x n ∧ ∀ H', Same H H' → Q (.bl (isP x)) H'
def spNeedPrime (K : PySem.W.Frag) : Sp := fun vs H Q _ => ∃ i, vs = [.int i] ∧ isP (.int i) = true ∧ ∀ H', Same H H' → Q .non H'
/-- a value, and its members if it is a tuple -/
inductive Rv (K : PySem.W.Frag) (H : Hp) : V → Option (List V) → Prop where
  | no {x : V} {n : Kn} (h : Kd K H x n) (ne : n.isa .tup = false) : Rv K H x none
  | yes {a : Addr} {xs : List V} (h : SqT K H a xs) (m : ∀ y, y ∈ xs → ∃ n, Kd K H y n) : Rv K H (.ref a) (some xs)
def rat2 : V → V → Bool
  | .int i, .int j => isI (.int i) && (isI (.int j) && (decide (0 < j) && decide (Nat.gcd i.natAbs j.natAbs = 1)))
  | _, _ => false
def isRat : Option (List V) → Bool
  | some [x, y] => rat2 x y
  | _ => false
def spIsRatio (K : PySem.W.Frag) : Sp := fun vs H Q _ => ∃ x o, vs = [x] ∧ Rv K H x o ∧ Q (.bl (isRat o)) H
end
end K84


set_option Elab.async false
set_option maxRecDepth 100000
set_option maxHeartbeats 2000000
set_option linter.all false
/-! own exceptions over any built-in base, whose own __init__ asks the base's and keeps one field -/
namespace ME
open PySem PySem.Spec PyProof.Rows L2

/-- the class at C stands over B, by own classes between, or none -/
structure Over (K : PySem.W.Frag) (C : Addr) (B newId initId : String) (top : List Value) : Prop where
  base : ExcBaseFacts B newId initId top
  put : StoreFacts B top "object.__setattr__" "object"
  row : ∃ nm q N bs bm sn sub ab col dd k0 k1 k2 k3 k5,
    K.lookup C = some (excClassObj nm q C N bs bm true sn sub ab col dd k0 k1 k2 k3 k5 newId) ∧ PySem.W.excTail top bm = true
  hook : PySem.W.findIn K (.ref C) "__setattr__" = some (some (.builtin "object.__setattr__"))
  isE : PySem.W.subIn K (.ref C) (.type "BaseException") = some true
  meta_ : PySem.W.typeIn K (.ref C) = some (.type "type")
  keep : PySem.W.keepIn K (.ref C) = true

section
open Builtin Builtin.ObjectAttr
variable {prog : Program} {w : World} {A : Around} {R : Result → Shared → Prop} {hp : Heap} {g : Array GenState} {d : Drawn}
  {t : Nat} {os : OsState} {K : PySem.W.Frag} {C x : Addr} {B newId initId : String} {top : List Value}
/-- the first field of an exception lays its dict -/
theorem first_put {name : Str} {tk : Tok} {v : Value} {fv : Array Value} (T : Over K C B newId initId top) (X : K.In hp)
    (hx : hp.get? x = some { cls := .ref C, data := .fields fv })
    (ha : PySem.W.findIn K (.ref C) name = some none)
    (hq : ∀ h' tk' dx, (∀ b o, b ≠ x → hp.get? b = some o → h'.get? b = some o) → hp.objs.size ≤ dx → dx ≠ x →
      h'.get? x = some { cls := .ref C, dict := some dx, data := .fields fv } →
      h'.Ns1 dx (fun y => if y = name then some v else none) → R (.ok (.ret .none)) ⟨h', g, d, tk', os⟩) :
    codeAny (model prog w) A (.call (.builtin "object.__setattr__") ⟨[.ref x, .str name tk, v], []⟩) R ⟨hp, g, d, t, os⟩ := by
  obtain ⟨nm, q, N, bs, bm, sn, sub, ab, col, dd, k0, k1, k2, k3, k5, hC, hbm⟩ := T.row
  have hcd : PySem.W.clsIn K C = some { name := nm, bases := bs, mro := .ref C :: bm, ns := N, qualname := q, hasDict := true, slotNames := sn, subclasses := sub, abstract := ab, collection := col, hasDel := false } := by
    unfold PySem.W.clsIn
    rw [hC] <;> rfl
  have hall : PySem.W.excTail top (.ref C :: bm) = true := hbm
  have inst : PySem.W.InstAt hp x { cls := .ref C, data := .fields fv } C none := ⟨hx, rfl, rfl, trivial⟩
  have S := PySem.F.store_object
  have far : x ≠ hp.objs.size := Nat.ne_of_lt (Heap.lt_size hx)
  have obj : (Value.ref C :: bm).contains (.type "object") = true :=
    (PySem.W.excTail_contains "object" _ hall).trans T.put.hasOwner
  have mro : PySem.W.mroIn K C (.type "object") = some true := by
    unfold PySem.W.mroIn
    rw [hcd, Option.bind_some]
    simp only [List.isEmpty_cons, obj, Bool.false_eq_true, if_false]
  have isObj : PySem.W.Looks (model prog w) hp (isInstance (.ref x) (.type "object")) true :=
    inst.type.andThen (PySem.W.looks_mroIn X mro)
  have rd : PySem.W.Looks (model prog w) hp (classData C) _ := PySem.W.looks_clsIn X hcd
  have rm : PySem.W.Looks (model prog w) hp (mroOf (.ref C)) (.ref C :: bm) := rd.andThen .now
  have none_ : PySem.W.Looks (model prog w) hp (storeTaker? none) none := .now
  refine codeAny_call_builtin S.slot.plain S.entry (@PySem.W.check_slot (model prog w) _ _ ⟨hp, g, d, t, os⟩
    "object.__setattr__" "object" "__setattr__" (.ref x) [.str name tk, v] [] _ S.kind S.split isObj (S.args (.ref x) (.str name tk) v) ?_)
  rw [PySem.W.osa_eq, refuse_eq]
  refine wpAny_bind (wpAny_bind (inst.type.at (wpAny_bind (rm.at ?_))))
  rw [PySem.W.excTail_pass _ (T.put.passes _) _ hall]
  refine wpAny_pure (wpAny_bind (inst.type.at (wpAny_bind ((PySem.W.looks_findIn X ha).at (wpAny_bind (none_.at ?_))))))
  show wpAny _ _ (storeInOwnDict (.ref x) (.ref C) (.str name tk) name v false) _ _ _
  unfold storeInOwnDict ownDictForStores
  repeat (first
    | with_reducible refine PySem.HandSPX.store_in_new ?_ ?_
    | with_reducible refine wpAny_loadPart_at hx ?_
    | with_reducible refine rd.at ?_
    | wp_step)
  · refine ⟨_, #[], _, (Heap.get?_update_ne _ _ _ _ far.symm).trans (Heap.get?_push_at rfl rfl), rfl, ?_, fun _ => rfl⟩
    intro e he
    simp at he
  · intro h' tk' hn' hs
    have there : (hp.push { cls := .type "dict", data := .dict #[] }).get? x = some { cls := .ref C, data := .fields fv } :=
      Heap.get?_push_of_some _ hx
    refine hq h' tk' hp.objs.size ?_ (Nat.le_refl _) far.symm ((hs.2 x far).trans (Heap.get?_update_self _ there rfl)) hn'
    intro b o hb ho
    have nb : b ≠ hp.objs.size := Nat.ne_of_lt (Heap.lt_size ho)
    rw [hs.2 b nb, Heap.get?_update_ne _ _ _ _ hb]
    exact Heap.get?_push_of_some _ ho
end

section
variable {X : Cx} {pins : List (Addr × Obj)} {σ : L2.St} {H : Hp} {s : Shared} {a C : Addr} {f : Str} {y : V} {u : Value}
  {E : Value → Shared → Prop} {A : Around} {B newId initId : String} {top : List Value}
/-- self.f = y, the first field -/
theorem put_new {Q : Unit → Shared → Prop} (T : Over X.K C B newId initId top) (I : Inv X pins σ H s)
    (ea : H a = some (exo a C none)) (no : PySem.W.findIn X.K (.ref C) f = some none) (ry : RelV y u)
    (h : ∀ dx s', H dx = none → dx ≠ a →
      Inv X pins σ (upd (upd H dx (exd dx [(f, y)])) a (exo a C (some dx))) s' → Q () s') :
    wpAny (model X.prog X.w) A (setAttr (.ref a) f u) Q E s := by
  obtain ⟨t1, ho⟩ := exo_at I.hok ea
  obtain ⟨hp, g, d, t, os⟩ := s
  refine PySem.W.set_plain I.kIn (od := none) ⟨ho, rfl, rfl, trivial⟩ T.hook ?_
  refine first_put T I.kIn ho no (fun h' tk' dx kp ge ne hx hn => ?_)
  have free : H dx = none := I.hok.fresh ge
  have old : ∀ {b : Addr} {o : Obj}, hp.get? b = some o → b ≠ dx := by
    intro b o hb
    exact Nat.ne_of_lt (Nat.lt_of_lt_of_le (Heap.lt_size hb) ge)
  have nota : ∀ {b : Addr}, H b = none → b ≠ a := by
    rintro b hb rfl
    rw [ea] at hb
    cases hb
  have same : ∀ {b : Addr} {v : HO}, H b = some v → b ≠ a →
      upd (upd H dx (exd dx [(f, y)])) a (exo a C (some dx)) b = some v := by
    intro b v hb ba
    rw [upd_ne ba, upd_ne (ne_of_none hb free)]
    exact hb
  have un : Un X.fs [] H (upd (upd H dx (exd dx [(f, y)])) a (exo a C (some dx))) hp h' := by
    constructor
    case keep => exact fun b o hb hn _ _ => kp b o (nota hn) hb
    case slot => exact fun b o hb hn _ _ => ⟨o.slots, kp b o (nota hn) hb⟩
    case free =>
      intro b o hb hn _
      rw [upd_ne (nota hn), upd_ne (old hb)]
      exact hn
    case there =>
      intro b o hb _
      by_cases ba : b = a
      · exact ⟨_, ba ▸ hx⟩
      · exact ⟨o, kp b o ba hb⟩
    case tups => exact fun b xs hb => same hb (at_ne ea hb exo_tup)
    case frzs => exact fun b o v hb => same hb (at_ne ea hb exo_frz)
    case tbls =>
      intro b ps hb
      refine ⟨#[], ?_⟩
      rw [same hb (at_ne ea hb exo_tbl)]
      simp
  refine h dx _ free ne (I.un (t' := tk') un fun b o hb => ?_)
  by_cases ba : b = a
  · subst ba
    rw [upd_same] at hb
    cases hb
    exact exo_ok hx
  rw [upd_ne ba] at hb
  by_cases bd : b = dx
  · subst bd
    rw [upd_same] at hb
    cases hb
    exact exd_ok hn (relO_put (fs := []) ry fun _ => True.intro)
  rw [upd_ne bd] at hb
  refine (I.hok b o hb).stay ?_ (fun c hc => same hc (at_ne ea hc exo_own)) (fun c xs hc => same hc (at_ne ea hc exo_tup))
  rintro c v hc z
  refine kp c v ?_ z
  rcases hc with rfl | hc
  · exact ba
  · exact at_ne ea hc exo_own

/-- B.__init__(self, ..) -/
theorem ask_ok {us : List Value} {Q : Value → Shared → Prop} (T : Over X.K C B newId initId top) (I : Inv X pins σ H s)
    (ea : H a = some (exo a C none)) (hl : us.length ≤ sizeLine) (h : ∀ s', Inv X pins σ H s' → Q .none s') :
    wpAny (model X.prog X.w) A (call (.builtin initId) (.ref a :: us)) Q E s := by
  obtain ⟨nm, q, N, bs, bm, sn, sub, ab, col, dd, k0, k1, k2, k3, k5, hC, hbm⟩ := T.row
  obtain ⟨t1, ho⟩ := exo_at I.hok ea
  obtain ⟨hp, g, d, t, os⟩ := s
  refine wpAny_call (PySem.HandSPX.init_base T.base (fun Y => PySem.W.excTail_contains Y bm hbm) (I.kIn _ _ hC) ho hl ?_)
  intro h' t2 kp hx
  have J := I.write (t' := t) (x := a) (e := a) (o := exo a C none) (by rw [ea]; exact True.intro) (.inl rfl) kp ⟨_, hx⟩ (exo_ok hx)
  have same : upd H a (exo a C none) = H := by
    funext b
    by_cases hb : b = a
    · subst hb
      rw [upd_same, ea]
    · rw [upd_ne hb]
  rw [same] at J
  exact h _ J
end

/-- B.__init__(self, ..): nothing of it is told -/
def tAsk (K : PySem.W.Frag) (B newId initId : String) (top : List Value) (ta : TA) : TE := fun σ H Q =>
  ta σ H fun vs H1 => ∃ (a C : Addr) (ws : List V), vs = .ref a :: ws ∧ ws.length ≤ 1000 ∧ Over K C B newId initId top ∧
    H1 a = some (exo a C none) ∧ Q .non H1
/-- self.f = e, the first field -/
def tPut (K : PySem.W.Frag) (B newId initId : String) (top : List Value) (f : Str) (to te : TE) : TS := fun D σ H =>
  te σ H fun y H1 => to σ H1 fun x H2 => ∃ a C : Addr, x = .ref a ∧ Over K C B newId initId top ∧
    PySem.W.findIn K (.ref C) f = some none ∧ H2 a = some (exo a C none) ∧
    ∀ dx, H2 dx = none → dx ≠ a → D.nx σ (upd (upd H2 dx (exd dx [(f, y)])) a (exo a C (some dx)))
section
variable {X : Cx} {o e : Expr} {es : List Expr} {to te : TE} {ta : TA} {f : Str} {p p' p1 p2 pos : Pos}
  {B newId initId : String} {top : List Value}
theorem ps_put (ho : PE X o to) (he : PE X e te)
    (hs : swapsWith e (some (.Attribute o f p')) pos.line X.env = pure false := by rfl) :
    PS X (.Assign [.Attribute o f p'] e pos) (tPut X.K B newId initId top f to te) := by
  constructor
  intro pins s σ H D I h
  refine plainObj_wpAny_Assign_Attribute (thn (he.run pins s σ H _ I h) ?_) hs
  rintro v s1 ⟨y, H1, I1, r1, q1⟩
  refine thn (ho.run pins s1 σ H1 _ I1 q1) ?_
  rintro u s2 ⟨x, H2, I2, r2, a, C, rfl, T, no, ea, q⟩
  obtain rfl : u = Value.ref a := r2
  exact put_new T I2 ea no r1 fun dx s' n ne J => ⟨σ, _, J, q dx n ne⟩
theorem pe_ask {pl : Sem Bool} (hg : Gl X B) (hm : X.mg B = none) (hv : bootBuiltins B = some (.type B))
    (ty : typeOf (.type B) = pure (.type "type")) (st : Manifest.isStub B = false)
    (vV : PySem.W.findCls X.K (.type B) (.type "type") "__init__" = some (.val (.builtin initId)))
    (hi : PySem.W.handedIn (.builtin initId) = true)
    (ha : PA X (e :: es) ta) (hn : (B : Str) ≠ "__name__" := by decide) (hdb : ((B : Str) == ("__debug__" : Str)) = false := by decide)
    (hc : eval (.Call (.Attribute (.Name B p1) "__init__" p2) (e :: es) [] pos) X.env = (do
      let ov ← eval (.Name B p1) X.env
      standAt p2.atName
      let (f, first) ← holding [ov] (getMethod ov "__init__" pl)
      callWith pos f first (backTo pos (starEach (e :: es) X.env)) (backToKw pos (keywordEach [] X.env))) := by rfl)
    (he : starEach (e :: es) X.env = (false, eval e X.env) :: starEach es X.env := by rfl)
    (hpl : (backTo pos (starEach es X.env)).any (·.1) = false := by rfl) :
    PE X (.Call (.Attribute (.Name B p1) "__init__" p2) (e :: es) [] pos) (tAsk X.K B newId initId top ta) := by
  constructor
  intro pins s σ H Q I h
  refine PySem.W.methodCall_KW (ld_blt I hg hm hv ?_ hn hdb) hc
  obtain ⟨m, fr⟩ := I.fr
  refine PySem.W.method_type fr I.ok.mod.kin ty st vV hi ?_
  show wpAny _ _ (callWith pos (Value.builtin initId) [] (backTo pos (starEach (e :: es) X.env)) []) _ _ _
  refine PyProof.Rows.callWith_method1 (thn (ha.run pos pins _ σ H _ (I.tok _) h) ?_) he hpl
  rintro us s1 ⟨vs, H1, I1, r1, a, C, ws, rfl, hl, T, ea, q⟩
  cases r1 with
  | @cons _ u0 _ ur ra rw' =>
    obtain rfl : u0 = Value.ref a := ra
    refine ask_ok T I1 ea ?_ fun s' J => ⟨.non, H1, J, rfl, q⟩
    rw [← Paired.length rw', sizeLine_eq]
    omega
end

/-- what __init__ of such a class keeps: one field, called f -/
def spKeep (C : Addr) (f : Str) : Sp := fun vs H Q _ => ∃ (a : Addr) (y : V), vs = [.ref a, y] ∧ H a = some (exo a C none) ∧
  ∀ dx, H dx = none → dx ≠ a → Q .non (upd (upd H dx (exd dx [(f, y)])) a (exo a C (some dx)))
/-- C(e) is made: its class, its dict, which keeps e under f -/
def tMade (C : Addr) (f : Str) (ta : TA) : L2.St → Hp → XK → Prop := fun σ H Q => ta σ H fun vs H1 => ∃ y, vs = [y] ∧
  ∀ d, H1 d = none → Q (.ref C) (some d) (upd H1 d (.xd [(f, y)]))
section
variable {X : Cx} {e : Expr} {es : List Expr} {ta : TA} {p pos : Pos} {CX : CXT} {x f : Str} {C fI : Addr} {k : Nat} {fd : FuncData}
  {ps : List Str} {B newId initId : String} {top : List Value}
theorem room_make {A : Around} (r : MM.Rm (k + 1) A) (C : Addr) (us : List Value) (kw : List (Str × Value)) :
    MM.Rm k (A.under (.builtin "type.__call__" ⟨.ref C :: us, kw⟩)) := ⟨r.room.make C us kw, r.still⟩
theorem pmk_made (T : Over X.K C B newId initId top) (iC : PySem.W.findIn X.K (.ref C) "__init__" = some (some (.ref fI)))
    (tI : PySem.W.typeIn X.K (.ref fI) = some (.type "function"))
    (F : MM.FnG X.prog X.w X.K X.mg X.base CX k fI fd ps (spKeep C f)) (hr : MM.Rm (k + 1) X.A) (hb : Binds X.K fd ps [])
    (hx : Passes CX X (fun _ _ _ => False)) (hm : X.mg x = some (.ref C)) (ha : PA X (e :: es) ta) (hg : Gl X x := by rfl)
    (hdb : (x == ("__debug__" : Str)) = false := by decide)
    (he : starEach (e :: es) X.env = (false, eval e X.env) :: starEach es X.env := by rfl)
    (hpl : (backTo pos (starEach es X.env)).any (·.1) = false := by rfl) :
    PMk X (.Call (.Name x p) (e :: es) [] pos) (tMade C f ta) := by
  intro pins s σ H Q I h
  obtain ⟨nm, q, N, bs, bm, sn, sub, ab, col, dd, k0, k1, k2, k3, k5, hC, hbm⟩ := T.row
  refine wpAny_Call_Name_kw (ld_glob I hg hm ?_ hdb)
  refine PySem.W.callWith_K (h₀ := X.base) I.ok.mod.kin T.keep (thn (ha.run pos pins s σ H _ I h) ?_) he hpl
  rintro us s1 ⟨vs, H1, I1, r1, y, rfl, q1⟩
  refine ⟨I1.kIn, ?_⟩
  obtain ⟨u, rfl, ry⟩ := vals1 r1
  show wpAny _ _ (call (.ref C) [u]) _ _ _
  obtain ⟨hp, g, dr, tk, os⟩ := s1
  have size : hp.objs.size ≤ hp.objs.size + 1 := Nat.le_succ _
  have new : H1 (hp.objs.size + 1) = none := I1.hok.fresh size
  have kept : ∀ b o, hp.get? b = some o →
      ((hp.push (PySem.W.kdv_tup [u])).push (PySem.HandSPX.excO C hp.objs.size)).get? b = some o := by
    intro b o z
    exact Heap.get?_push_of_some _ (Heap.get?_push_of_some _ z)
  have lies : ((hp.push (PySem.W.kdv_tup [u])).push (PySem.HandSPX.excO C hp.objs.size)).get? (hp.objs.size + 1) =
      some (PySem.HandSPX.excO C hp.objs.size) := by heap_get
  have I2 := I1.laid (t' := tk) (a := hp.objs.size + 1) (o := exo (hp.objs.size + 1) C none) kept size (exo_ok lies)
  have r2 : Vals [V.ref (hp.objs.size + 1), y] [Value.ref (hp.objs.size + 1), u] := .cons rfl (.cons ry .nil)
  have sp : spKeep C f [V.ref (hp.objs.size + 1), y] (upd H1 (hp.objs.size + 1) (exo (hp.objs.size + 1) C none))
      (fun v H2 => v = .non ∧ ∃ d, H1 d = none ∧ d ≠ hp.objs.size + 1 ∧
        H2 = upd (upd (upd H1 (hp.objs.size + 1) (exo (hp.objs.size + 1) C none)) d (exd d [(f, y)])) (hp.objs.size + 1) (exo (hp.objs.size + 1) C (some d)))
      (fun _ _ _ => False) := by
    refine ⟨_, y, rfl, upd_same, fun dx n ne => ⟨rfl, dx, ?_, ne, rfl⟩⟩
    rw [upd_ne ne] at n
    exact n
  have len := F.arity sp
  have bd := hb ⟨_, g, dr, tk, os⟩ [Value.ref (hp.objs.size + 1), u] I2.kIn (by rw [List.append_nil]; exact len)
  rw [List.append_nil] at bd
  refine wpAny_call (PySem.HandSPX.call_own T.base (fun Y => PySem.W.excTail_contains Y bm hbm) (I1.kIn _ _ hC)
    (PySem.W.looks_findIn I1.kIn iC) (fun self => PySem.W.bind_fn I1.kIn self tI) (by show 1 ≤ sizeLine; rw [sizeLine_eq]; omega)
    (codeAny_mono (F.runs (out := X.stack) (room_make hr C [u] []) (I2.env0.make C [u] []) bd r2 sp) ?_))
  intro r s' hq
  cases r with
  | error er => exact hx pins σ _ _ er s' I2 hq
  | ok fl =>
    cases fl with
    | next => exact hq.elim
    | brk => exact hq.elim
    | cont => exact hq.elim
    | ret u' =>
      obtain ⟨v, H2, os2, bare2, un2, hok2, rv, rfl, d, nd, ne, rfl⟩ := hq
      obtain ⟨h2, g2, d2, t2, os'⟩ := s'
      have ed : (upd (upd (upd H1 (hp.objs.size + 1) (exo (hp.objs.size + 1) C none)) d (exd d [(f, y)])) (hp.objs.size + 1)
          (exo (hp.objs.size + 1) C (some d))) d = some (exd d [(f, y)]) := by
        rw [upd_ne ne, upd_same]
      refine ⟨rv, mk_end (raises_own T.isE T.meta_) I1 size kept un2 hok2 os2 bare2 upd_same ed nd ?_⟩
      have same : upd (del (upd (upd (upd H1 (hp.objs.size + 1) (exo (hp.objs.size + 1) C none)) d (exd d [(f, y)])) (hp.objs.size + 1)
          (exo (hp.objs.size + 1) C (some d))) (hp.objs.size + 1)) d (.xd [(f, y)]) = upd H1 d (.xd [(f, y)]) := by
        funext b
        by_cases b1 : b = d
        · subst b1
          rw [upd_same, upd_same]
        rw [upd_ne b1, upd_ne b1]
        by_cases b2 : b = hp.objs.size + 1
        · subst b2
          rw [del_same, new]
        rw [del_ne b2, upd_ne b2, upd_ne b1, upd_ne b2]
      rw [same]
      exact q1 d nd
end
end ME

set_option Elab.async false
set_option maxRecDepth 100000
set_option maxHeartbeats 2000000
set_option linter.all false
/-! try with several clauses, with and without a name -/
namespace ME
open PySem PySem.Spec PyProof.Rows L2
/-- where slot i is emptied behind the suite -/
def Ends.drop (D : Ends) (i : Nat) : Ends where
  nx := fun σ H => D.nx (σ.set i none) H
  rt := D.rt
  bk := fun σ H => D.bk (σ.set i none) H
  ct := fun σ H => D.ct (σ.set i none) H
/-- clauses, one after the other; W: what is wished of the exception that the body lets out -/
inductive Cl (X : Cx) (Wout : WX) : List ExceptHandler → (Ends → WX) → Prop where
  | nil : Cl X Wout [] (fun _ => Wout)
  | no {x : Str} {c : Value} {ts : Addr → Value → Option Addr → TS} {b₀ : Stmt} {suite : List Stmt} {np pos : Pos}
      {hds : List ExceptHandler} {W : Ends → WX} (hc : Names X x c)
      (su : ∀ (a : Addr) (oe : Obj) (cls : Value) (d : Option Addr) (pn : List (Addr × Obj)), Zc cls d oe →
        (∃ vs, oe.data = .fields vs) → PSs (X.suite a ((a, oe) :: pn)) (b₀ :: suite) (ts a cls d))
      (r : Cl X Wout hds W) :
      Cl X Wout (.ExceptHandler (some (.Name x np)) none (b₀ :: suite) pos :: hds) (fun D cls d σ H =>
        ∃ b, PySem.W.exmOne X.K cls c = some b ∧ (b = true → ∀ a, H a = none → ts a cls d D σ H) ∧ (b = false → W D cls d σ H))
  | as_ {x n : Str} {i : Nat} {c : Value} {ts : Addr → Value → Option Addr → TS} {b₀ : Stmt} {suite : List Stmt} {np pos : Pos}
      {hds : List ExceptHandler} {W : Ends → WX} (hc : Names X x c) (hN : X.N.Nodup) (hi : X.N[i]? = some n)
      (hl : X.env.kindOf n = some .local)
      (su : ∀ (a : Addr) (oe : Obj) (cls : Value) (d : Option Addr) (pn : List (Addr × Obj)), Zc cls d oe →
        (∃ vs, oe.data = .fields vs) → PSs (X.suite a ((a, oe) :: pn)) (b₀ :: suite) (ts a cls d))
      (r : Cl X Wout hds W) :
      Cl X Wout (.ExceptHandler (some (.Name x np)) (some n) (b₀ :: suite) pos :: hds) (fun D cls d σ H =>
        ∃ b, PySem.W.exmOne X.K cls c = some b ∧ (b = true → ∀ a, H a = none → σ.length = X.N.length → ts a cls d (Ends.drop D i) (σ.set i (some (.ref a))) H) ∧
          (b = false → W D cls d σ H))

/-- the exception at a has landed in X: h is the heap now, sI the state without it -/
structure Lands (X : Cx) (pins : List (Addr × Obj)) (σ : L2.St) (H : Hp) (cls : Value) (d : Option Addr) (a : Addr) (B : Heap)
    (sI s : Shared) (h : Heap) : Prop where
  inv : Inv X pins σ H sI
  ground : ∀ b o, sI.heap.get? b = some o → b ∉ frs X.stack → B.get? b = some o
  up : sI.heap.UpToSlots h
  fly : HandSPX.FlyingZ B (X.env :: X.outer) a (Zc cls d) h
  none_ : H a = none
  os : s.os = sI.os
  bare : AllBare s.gens
section
variable {X : Cx} {pins : List (Addr × Obj)} {σ : L2.St} {H : Hp} {cls : Value} {d : Option Addr} {a : Addr} {B : Heap}
  {sI s : Shared} {h : Heap} {D : Ends} {Wout : WX} {hds : List ExceptHandler} {W : Ends → WX}
theorem Lands.here (L : Lands X pins σ H cls d a B sI s h) : Inv X pins σ H { s with heap := h } :=
  L.inv.landed (s' := { s with heap := h }) L.ground L.fly.1 L.up L.os L.bare
theorem Lands.later (L : Lands X pins σ H cls d a B sI s h) {h' : Heap} (f : HandSPX.FlyingZ B (X.env :: X.outer) a (Zc cls d) h')
    (u : h.UpToSlots h') : Lands X pins σ H cls d a B sI s h' :=
  { L with up := L.up.trans u, fly := f }
/-- the exception as it lies, in the suite's context -/
theorem Lands.suite (L : Lands X pins σ H cls d a B sI s h) (hf : X.env.frame = some X.env.locals) :
    ∃ (oe : Obj) (vs : Array Value), h.get? a = some oe ∧ Zc cls d oe ∧ oe.data = .fields vs ∧
      Inv (X.suite a ((a, oe) :: (X.pn ++ pins))) [] σ H { s with heap := h } := by
  obtain ⟨oe, vs, he, hz, hd⟩ := L.fly.there
  have away : a ∉ frs (X.env :: X.outer) := by
    intro hm
    obtain ⟨_, o', e', no⟩ := L.fly.2.2.1.mem hm
    rw [he] at e'
    cases e'
    exact no _ hd
  have nL : a ≠ X.env.locals := fun z => away (List.mem_filterMap.mpr ⟨X.env, List.mem_cons_self, by rw [hf, z]⟩)
  have nF : a ∉ X.fs := by
    intro hm
    obtain ⟨e, he', q⟩ := List.mem_filterMap.mp hm
    exact away (List.mem_filterMap.mpr ⟨e, List.mem_cons_of_mem _ he', q⟩)
  exact ⟨oe, vs, he, hz, hd, L.here.suite he hd L.none_ nL nF⟩
/-- a suite's end -/
theorem Lands.out {oe : Obj} {f : Flow} {s6 : Shared} (ok : X.Ok)
    (q : SP (X.suite a ((a, oe) :: (X.pn ++ pins))) [] D f s6) : SP X pins D f s6 := by
  cases f with
  | ret u =>
    obtain ⟨v, σ6, H6, S, r, z⟩ := q
    exact ⟨v, σ6, H6, S.unsuite ok, r, z⟩
  | next =>
    obtain ⟨σ6, H6, S, z⟩ := q
    exact ⟨σ6, H6, S.unsuite ok, z⟩
  | brk =>
    obtain ⟨σ6, H6, S, z⟩ := q
    exact ⟨σ6, H6, S.unsuite ok, z⟩
  | cont =>
    obtain ⟨σ6, H6, S, z⟩ := q
    exact ⟨σ6, H6, S.unsuite ok, z⟩
theorem handled (hs : X.stack = X.env :: X.outer) (hf : X.env.frame = some X.env.locals) (tk : Takes X Wout)
    (C : Cl X Wout hds W) : ∀ {h : Heap}, Lands X pins σ H cls d a B sI s h → W D cls d σ H →
      wpAny (model X.prog X.w) X.A (handleBy (.ref a) X.env hds) (SP X pins D) X.xe { s with heap := h } := by
  induction C with
  | nil =>
    intro h L w
    have L0 := L
    refine wpAny_handleBy_nil ?_
    obtain ⟨k1, k2, k3, oe, vs, T, oT, ts', he, hz, hd, h1, hr⟩ := L.fly
    unfold PySem.passOn
    refine wpAny_bind (wpAny_field he hd h1 ?_)
    rw [if_neg (show ¬ ((Value.ref T == Value.none) = true) from by simp)]
    have on : wpAny (model X.prog X.w) X.A (setFlight (.ref a) X.env.frame)
        (fun _ s4 => wpAny (model X.prog X.w) X.A (throw (.ref a) : Sem Flow) (SP X pins D) X.xe s4) X.xe { s with heap := h } := by
      rw [hf]
      refine HandSPX.setFlight_upZ L0.fly fun h4 hh4 up4 => wpAny_throw (tk _ _ ?_)
      exact ⟨a, B, sI, pins, σ, H, cls, d, rfl, L0.inv, L0.ground, L0.up.trans up4, .inr (.inr (by rw [hs]; exact hh4)), L0.none_, L0.os,
        L0.bare, w⟩
    first
      | exact wpAny_bind (wpAny_pure (wpAny_bind on))
      | exact wpAny_bind on
  | @no x c ts b₀ suite np pos hds' W' hc su r ih =>
    intro h L w
    obtain ⟨b, e, yes, no⟩ := w
    obtain ⟨oe, vs, he, hz, hd, S⟩ := L.suite hf
    refine wpAny_handleBy_cons (codeAny_handlers_test ?_) (by intro q; cases q)
    have ty : PySem.W.Looks (model X.prog X.w) h (typeOf (.ref a)) cls := fun A Q E s k q =>
      wpAny_typeOf_ref (k _ _ he) (by rw [hz.1]; exact q)
    have ask := PySem.W.exm_one (M := model X.prog X.w) L.here.kIn ty e
    have name : ∀ {Q : Value → Shared → Prop} {E : Value → Shared → Prop}, Q c { s with heap := h } →
        wpAny (model X.prog X.w) (X.A.mark (some (.ref a))) (eval (.Name x np) X.env) Q E { s with heap := h } := by
      intro Q E q
      obtain ⟨hg, hdb, hm | ⟨hm, hv, hn⟩⟩ := hc
      · exact ld_glob (X := X.suite a ((a, oe) :: (X.pn ++ pins))) S hg hm q hdb
      · exact ld_blt (X := X.suite a ((a, oe) :: (X.pn ++ pins))) S hg hm hv q hn hdb
    refine name (ask.here ?_)
    cases b with
    | false => exact ih L (no rfl)
    | true =>
      refine codeAny_handlers_suite (HandSPX.lands_againZ L.fly fun h4 f4 u4 => ?_)
      obtain ⟨oe4, vs4, _, hz4, hd4, S4⟩ := (L.later f4 u4).suite hf
      refine wpAny_mono ((su a oe4 cls d (X.pn ++ pins) hz4 ⟨_, hd4⟩).run [] _ _ H _ S4 (yes rfl a L.none_))
        (fun f s6 q => Lands.out L.inv.ok q) (fun _ _ z => False.elim z)
  | @as_ x n i c ts b₀ suite np pos hds' W' hc hN hi hl su r ih =>
    intro h L w
    obtain ⟨b, e, yes, no⟩ := w
    obtain ⟨oe, vs, he, hz, hd, S⟩ := L.suite hf
    refine wpAny_handleBy_cons (codeAny_handlers_test ?_) (by intro q; cases q)
    have ty : PySem.W.Looks (model X.prog X.w) h (typeOf (.ref a)) cls := fun A Q E s k q =>
      wpAny_typeOf_ref (k _ _ he) (by rw [hz.1]; exact q)
    have ask := PySem.W.exm_one (M := model X.prog X.w) L.here.kIn ty e
    have name : ∀ {Q : Value → Shared → Prop} {E : Value → Shared → Prop}, Q c { s with heap := h } →
        wpAny (model X.prog X.w) (X.A.mark (some (.ref a))) (eval (.Name x np) X.env) Q E { s with heap := h } := by
      intro Q E q
      obtain ⟨hg, hdb, hm | ⟨hm, hv, hn⟩⟩ := hc
      · exact ld_glob (X := X.suite a ((a, oe) :: (X.pn ++ pins))) S hg hm q hdb
      · exact ld_blt (X := X.suite a ((a, oe) :: (X.pn ++ pins))) S hg hm hv q hn hdb
    refine name (ask.here ?_)
    cases b with
    | false => exact ih L (no rfl)
    | true =>
      refine codeAny_handlers_suite_as (HandSPX.lands_againZ L.fly fun h4 f4 u4 => ?_)
      obtain ⟨oe4, vs4, _, hz4, hd4, S4⟩ := (L.later f4 u4).suite hf
      refine store_ok (X := X.suite a ((a, oe4) :: (X.pn ++ pins))) (v := .ref a) S4 hN hi (.inl hl) rfl (fun s5 S5 => ?_) (.inr hl)
      refine wpAny_mono ((su a oe4 cls d (X.pn ++ pins) hz4 ⟨_, hd4⟩).run [] s5 _ H _ S5 (yes rfl a L.none_ L.inv.len))
        (fun f s6 q => ?_) (fun _ _ z => False.elim z)
      have q' := Lands.out L.inv.ok q
      cases f with
      | ret u =>
        obtain ⟨v, σ6, H6, J, r6, z⟩ := q'
        exact gone_ok J hN hi hl fun s7 J7 => ⟨v, _, H6, J7, r6, z⟩
      | next =>
        obtain ⟨σ6, H6, J, z⟩ := q'
        exact gone_ok J hN hi hl fun s7 J7 => ⟨_, H6, J7, z⟩
      | brk =>
        obtain ⟨σ6, H6, J, z⟩ := q'
        exact gone_ok J hN hi hl fun s7 J7 => ⟨_, H6, J7, z⟩
      | cont =>
        obtain ⟨σ6, H6, J, z⟩ := q'
        exact gone_ok J hN hi hl fun s7 J7 => ⟨_, H6, J7, z⟩
/-- try: body / the clauses -/
theorem ps_try_cl {body : List Stmt} {h₀ : ExceptHandler} {pos : Pos} {tb : WX → TS} (hs : X.stack = X.env :: X.outer)
    (hf : X.env.frame = some X.env.locals) (tk : Takes X Wout) (C : Cl X Wout (h₀ :: hds) W)
    (hb : ∀ (W : WX) (pn : List (Addr × Obj)) (xe : Value → Shared → Prop), Takes (X.tr pn xe) W →
      PassesOwn (model X.prog X.w) X.A X.env xe → PSs (X.tr pn xe) body (tb W)) :
    PS X (.Try body (h₀ :: hds) [] [] pos) (fun D σ H => tb (W D) D σ H) := by
  constructor
  intro pins s σ H D I h
  have ok := I.ok
  have fr : X.A.frames = some (X.env :: X.outer) := by rw [ok.frames, hs]
  refine wpAny_Try_except ?_
  refine wpAny_mono ((hb (W D) (X.pn ++ pins) (fun e s₁ => wpAny (model X.prog X.w) X.A (noteFrame e X.env)
    (fun _ s₂ => wpAny (model X.prog X.w) X.A (setFlight e none) (fun _ s₃ =>
      wpAny (model X.prog X.w) X.A (handleBy e X.env (h₀ :: hds)) (SP X pins D) X.xe s₃) X.xe s₂) X.xe s₁) ?_
    PassesOwn.looking).run [] s σ H D (I.toTry _) h) ?_ (fun e s1 he => he)
  · rintro u s' ⟨a, B, sI, pins', σ', H', cls, d, rfl, J', nb, up, sky, na, os, ag, w⟩
    have J : Inv X pins σ' H' sI := J'.ofTry ok
    have sky' : Sky B (X.env :: X.outer) a (Zc cls d) X.env.locals s'.heap := by
      rw [← hs]
      exact sky
    show wpAny (model X.prog X.w) X.A (noteFrame (.ref a) X.env) _ _ _
    refine Sky.land Zc.steady fr hf sky' fun h3 f3 u3 => ?_
    exact handled hs hf tk C ⟨J, nb, up.trans u3, f3, na, os, ag⟩ w
  · intro f s1 q
    cases f with
    | ret u =>
      obtain ⟨v, σ', H', J, r, z⟩ := q
      exact ⟨v, σ', H', J.ofTry ok, r, z⟩
    | next =>
      obtain ⟨σ', H', J, z⟩ := q
      exact wpAny_execs_nil ⟨σ', H', J.ofTry ok, z⟩
    | brk =>
      obtain ⟨σ', H', J, z⟩ := q
      exact ⟨σ', H', J.ofTry ok, z⟩
    | cont =>
      obtain ⟨σ', H', J, z⟩ := q
      exact ⟨σ', H', J.ofTry ok, z⟩
end
end ME

set_option Elab.async false
set_option maxRecDepth 100000
set_option maxHeartbeats 2000000
set_option linter.all false
/-! an exception that was caught and is handed on: tracked in the suite, asked by isinstance in another def, its field read -/
namespace ME
open PySem PySem.Spec PyProof.Rows L2
/-- a caught exception of the class cls, its dict at d, at a -/
def ExH (cls : Value) (d : Option Addr) (a : Addr) : HO := .ext fun h => ∃ (oe : Obj) (vs : Array Value), h.get? a = some oe ∧ Zc cls d oe ∧ oe.data = .fields vs
theorem exH_ok {P : Program} {w : World} {H : Hp} {h : Heap} {a : Addr} {cls : Value} {d : Option Addr} {oe : Obj} {vs : Array Value}
    (e : h.get? a = some oe) (z : Zc cls d oe) (hd : oe.data = .fields vs) : ObjOk P w H h a (ExH cls d a) :=
  ⟨⟨oe, vs, e, z, hd⟩, ⟨oe, e⟩, fun _ _ ⟨o, v, q, r⟩ k => ⟨o, v, k o q, r⟩⟩
theorem exH_at {P : Program} {w : World} {H : Hp} {h : Heap} {a : Addr} {cls : Value} {d : Option Addr} (x : HOk P w H h) (e : H a = some (ExH cls d a)) :
    ∃ (oe : Obj) (vs : Array Value), h.get? a = some oe ∧ Zc cls d oe ∧ oe.data = .fields vs := by
  have z : ObjOk P w H h a (ExH cls d a) := x a _ e
  exact z.1
section
variable {X : Cx} {pins : List (Addr × Obj)} {σ : L2.St} {H : Hp} {s : Shared}
/-- an object that is new since the entry is tracked from now on -/
theorem Inv.track {a : Addr} {o : HO} (I : Inv X pins σ H s) (n0 : X.s_0.heap.get? a = none) (hn : H a = none) (ne : a ≠ X.env.locals)
    (nc : ∀ x c, X.env.cells.lookup x = some c → c ≠ a) (np : ∀ p ∈ X.pn ++ pins, p.1 ≠ a) (new : ObjOk X.prog X.w (upd H a o) s.heap a o) :
    Inv X pins σ (upd H a o) s := by
  have b0 : ∀ b u, X.s_0.heap.get? b = some u → b ≠ a := fun b u q z => by
    rw [z, n0] at q
    cases q
  refine ⟨I.ok, I.os, I.bare, ⟨I.base.keep, I.base.slot, fun b u q n hx' => ?_, I.base.there, fun b xs q => ?_, fun b u xs q => ?_, fun b ps q => ?_⟩, I.loc, I.cell, ?_, fun x c e => ?_, fun p hp => ?_, ?_, I.len⟩
  · rw [upd_ne (b0 b u q)]
    exact I.base.free b u q n hx'
  · have z := I.base.tups b xs q
    rw [upd_ne (ne_of_none z hn)]
    exact z
  · have z := I.base.frzs b u xs q
    rw [upd_ne (ne_of_none z hn)]
    exact z
  · obtain ⟨m, z⟩ := I.base.tbls b ps q
    exact ⟨m, by rw [upd_ne (ne_of_none z hn)]; exact z⟩
  · rw [upd_ne ne.symm]
    exact I.free
  · rw [upd_ne (nc x c e)]
    exact I.freeC x c e
  · obtain ⟨e, n, r⟩ := I.pin p hp
    exact ⟨e, by rw [upd_ne (np p hp)]; exact n, r⟩
  · exact HOk.laidN I.hok (fun _ _ q => q) hn new
theorem Inv.inT (I : Inv X pins σ H s) (a : Addr) : Inv (X.suite a X.pn) pins σ H s :=
  ⟨I.ok.suite _ _, I.os, I.bare, I.base, I.loc, I.cell, I.free, I.freeC, I.pin, I.hok, I.len⟩
theorem Inv.outT {a : Addr} (I : Inv (X.suite a X.pn) pins σ H s) (ok : X.Ok) : Inv X pins σ H s :=
  ⟨ok, I.os, I.bare, I.base, I.loc, I.cell, I.free, I.freeC, I.pin, I.hok, I.len⟩
end
section
variable {X : Cx} {pins : List (Addr × Obj)} {σ : L2.St} {H : Hp} {cls : Value} {d : Option Addr} {a : Addr} {B : Heap}
  {sI s : Shared} {h : Heap} {D : Ends} {Wout : WX} {hds : List ExceptHandler} {W : Ends → WX}
/-- the exception as it lies, tracked -/
theorem Lands.tracked (L : Lands X pins σ H cls d a B sI s h) (hs : X.stack = X.env :: X.outer) (hf : X.env.frame = some X.env.locals) (hx : X.ex = []) :
    Inv (X.suite a X.pn) pins σ (upd H a (ExH cls d a)) { s with heap := h } := by
  obtain ⟨oe, vs, he, hz, hd⟩ := L.fly.there
  have away : a ∉ frs (X.env :: X.outer) := by
    intro hm
    obtain ⟨_, o', e', no⟩ := L.fly.2.2.1.mem hm
    rw [he] at e'
    cases e'
    exact no _ hd
  have nL : a ≠ X.env.locals := fun z => away (List.mem_filterMap.mpr ⟨X.env, List.mem_cons_self, by rw [hf, z]⟩)
  have nI : sI.heap.get? a = none := by
    cases e : sI.heap.get? a with
    | none => rfl
    | some o =>
      have z := L.ground a o e (by rw [hs]; exact away)
      rw [L.fly.2.1] at z
      cases z
  have n0 : X.s_0.heap.get? a = none := by
    cases e : X.s_0.heap.get? a with
    | none => rfl
    | some o =>
      obtain ⟨o', z⟩ := L.inv.base.there a o e (by rw [hx]; exact fun z => nomatch z)
      rw [nI] at z
      cases z
  have nc : ∀ x c, X.env.cells.lookup x = some c → c ≠ a := by
    intro x c e z
    obtain ⟨v, o, ho, _⟩ := L.inv.cell x c e
    rw [z, nI] at ho
    cases ho
  have np : ∀ p ∈ X.pn ++ pins, p.1 ≠ a := by
    intro p hp z
    obtain ⟨ho, _⟩ := L.inv.pin p hp
    rw [z, nI] at ho
    cases ho
  exact Inv.inT (Inv.track L.here n0 L.none_ nL nc np (exH_ok he hz hd)) a
end
/-- clauses with a name, the exception tracked in the suite -/
inductive ClT (X : Cx) (Wout : WX) : List ExceptHandler → (Ends → WX) → Prop where
  | nil : ClT X Wout [] (fun _ => Wout)
  | as_ {x n : Str} {i : Nat} {c : Value} {ts : Addr → TS} {b₀ : Stmt} {suite : List Stmt} {np pos : Pos}
      {hds : List ExceptHandler} {W : Ends → WX} (hc : Names X x c) (hN : X.N.Nodup) (hi : X.N[i]? = some n)
      (hl : X.env.kindOf n = some .local)
      (su : ∀ (a : Addr), PSs (X.suite a X.pn) (b₀ :: suite) (ts a))
      (r : ClT X Wout hds W) :
      ClT X Wout (.ExceptHandler (some (.Name x np)) (some n) (b₀ :: suite) pos :: hds) (fun D cls d σ H =>
        ∃ b, PySem.W.exmOne X.K cls c = some b ∧ (b = true → ∀ a, H a = none → σ.length = X.N.length →
          ts a (Ends.drop D i) (σ.set i (some (.ref a))) (upd H a (ExH cls d a))) ∧
          (b = false → W D cls d σ H))
section
variable {X : Cx} {pins : List (Addr × Obj)} {σ : L2.St} {H : Hp} {cls : Value} {d : Option Addr} {a : Addr} {B : Heap}
  {sI s : Shared} {h : Heap} {D : Ends} {Wout : WX} {hds : List ExceptHandler} {W : Ends → WX}
theorem handledT (hs : X.stack = X.env :: X.outer) (hf : X.env.frame = some X.env.locals) (hx : X.ex = []) (tk : Takes X Wout)
    (C : ClT X Wout hds W) : ∀ {h : Heap}, Lands X pins σ H cls d a B sI s h → W D cls d σ H →
      wpAny (model X.prog X.w) X.A (handleBy (.ref a) X.env hds) (SP X pins D) X.xe { s with heap := h } := by
  induction C with
  | nil =>
    intro h L w
    have L0 := L
    refine wpAny_handleBy_nil ?_
    obtain ⟨k1, k2, k3, oe, vs, T, oT, ts', he, hz, hd, h1, hr⟩ := L.fly
    unfold PySem.passOn
    refine wpAny_bind (wpAny_field he hd h1 ?_)
    rw [if_neg (show ¬ ((Value.ref T == Value.none) = true) from by simp)]
    have on : wpAny (model X.prog X.w) X.A (setFlight (.ref a) X.env.frame)
        (fun _ s4 => wpAny (model X.prog X.w) X.A (throw (.ref a) : Sem Flow) (SP X pins D) X.xe s4) X.xe { s with heap := h } := by
      rw [hf]
      refine HandSPX.setFlight_upZ L0.fly fun h4 hh4 up4 => wpAny_throw (tk _ _ ?_)
      exact ⟨a, B, sI, pins, σ, H, cls, d, rfl, L0.inv, L0.ground, L0.up.trans up4, .inr (.inr (by rw [hs]; exact hh4)), L0.none_, L0.os,
        L0.bare, w⟩
    first
      | exact wpAny_bind (wpAny_pure (wpAny_bind on))
      | exact wpAny_bind on
  | @as_ x n i c ts b₀ suite np pos hds' W' hc hN hi hl su r ih =>
    intro h L w
    obtain ⟨b, e, yes, no⟩ := w
    obtain ⟨oe, vs, he, hz, hd, S⟩ := L.suite hf
    refine wpAny_handleBy_cons (codeAny_handlers_test ?_) (by intro q; cases q)
    have ty : PySem.W.Looks (model X.prog X.w) h (typeOf (.ref a)) cls := fun A Q E s k q =>
      wpAny_typeOf_ref (k _ _ he) (by rw [hz.1]; exact q)
    have ask := PySem.W.exm_one (M := model X.prog X.w) L.here.kIn ty e
    have name : ∀ {Q : Value → Shared → Prop} {E : Value → Shared → Prop}, Q c { s with heap := h } →
        wpAny (model X.prog X.w) (X.A.mark (some (.ref a))) (eval (.Name x np) X.env) Q E { s with heap := h } := by
      intro Q E q
      obtain ⟨hg, hdb, hm | ⟨hm, hv, hn⟩⟩ := hc
      · exact ld_glob (X := X.suite a ((a, oe) :: (X.pn ++ pins))) S hg hm q hdb
      · exact ld_blt (X := X.suite a ((a, oe) :: (X.pn ++ pins))) S hg hm hv q hn hdb
    refine name (ask.here ?_)
    cases b with
    | false => exact ih L (no rfl)
    | true =>
      refine codeAny_handlers_suite_as (HandSPX.lands_againZ L.fly fun h4 f4 u4 => ?_)
      have S4 := (L.later f4 u4).tracked hs hf hx
      refine store_ok (X := X.suite a X.pn) (v := .ref a) S4 hN hi (.inl hl) rfl (fun s5 S5 => ?_) (.inr hl)
      refine wpAny_mono ((su a).run pins s5 _ _ _ S5 (yes rfl a L.none_ L.inv.len))
        (fun f s6 q => ?_) (fun _ _ z => False.elim z)
      cases f with
      | ret u =>
        obtain ⟨v, σ6, H6, J, r6, z⟩ := q
        exact gone_ok (Inv.outT J L.inv.ok) hN hi hl fun s7 J7 => ⟨v, _, H6, J7, r6, z⟩
      | next =>
        obtain ⟨σ6, H6, J, z⟩ := q
        exact gone_ok (Inv.outT J L.inv.ok) hN hi hl fun s7 J7 => ⟨_, H6, J7, z⟩
      | brk =>
        obtain ⟨σ6, H6, J, z⟩ := q
        exact gone_ok (Inv.outT J L.inv.ok) hN hi hl fun s7 J7 => ⟨_, H6, J7, z⟩
      | cont =>
        obtain ⟨σ6, H6, J, z⟩ := q
        exact gone_ok (Inv.outT J L.inv.ok) hN hi hl fun s7 J7 => ⟨_, H6, J7, z⟩
/-- try: body / the clauses -/
theorem ps_try_T {body : List Stmt} {h₀ : ExceptHandler} {pos : Pos} {tb : WX → TS} (hs : X.stack = X.env :: X.outer)
    (hf : X.env.frame = some X.env.locals) (hx : X.ex = []) (tk : Takes X Wout) (C : ClT X Wout (h₀ :: hds) W)
    (hb : ∀ (W : WX) (pn : List (Addr × Obj)) (xe : Value → Shared → Prop), Takes (X.tr pn xe) W →
      PassesOwn (model X.prog X.w) X.A X.env xe → PSs (X.tr pn xe) body (tb W)) :
    PS X (.Try body (h₀ :: hds) [] [] pos) (fun D σ H => tb (W D) D σ H) := by
  constructor
  intro pins s σ H D I h
  have ok := I.ok
  have fr : X.A.frames = some (X.env :: X.outer) := by rw [ok.frames, hs]
  refine wpAny_Try_except ?_
  refine wpAny_mono ((hb (W D) (X.pn ++ pins) (fun e s₁ => wpAny (model X.prog X.w) X.A (noteFrame e X.env)
    (fun _ s₂ => wpAny (model X.prog X.w) X.A (setFlight e none) (fun _ s₃ =>
      wpAny (model X.prog X.w) X.A (handleBy e X.env (h₀ :: hds)) (SP X pins D) X.xe s₃) X.xe s₂) X.xe s₁) ?_
    PassesOwn.looking).run [] s σ H D (I.toTry _) h) ?_ (fun e s1 he => he)
  · rintro u s' ⟨a, B, sI, pins', σ', H', cls, d, rfl, J', nb, up, sky, na, os, ag, w⟩
    have J : Inv X pins σ' H' sI := J'.ofTry ok
    have sky' : Sky B (X.env :: X.outer) a (Zc cls d) X.env.locals s'.heap := by
      rw [← hs]
      exact sky
    show wpAny (model X.prog X.w) X.A (noteFrame (.ref a) X.env) _ _ _
    refine Sky.land Zc.steady fr hf sky' fun h3 f3 u3 => ?_
    exact handledT hs hf hx tk C ⟨J, nb, up.trans u3, f3, na, os, ag⟩ w
  · intro f s1 q
    cases f with
    | ret u =>
      obtain ⟨v, σ', H', J, r, z⟩ := q
      exact ⟨v, σ', H', J.ofTry ok, r, z⟩
    | next =>
      obtain ⟨σ', H', J, z⟩ := q
      exact wpAny_execs_nil ⟨σ', H', J.ofTry ok, z⟩
    | brk =>
      obtain ⟨σ', H', J, z⟩ := q
      exact ⟨σ', H', J.ofTry ok, z⟩
    | cont =>
      obtain ⟨σ', H', J, z⟩ := q
      exact ⟨σ', H', J.ofTry ok, z⟩
end
/-! the field of a tracked exception -/
def tXfT (K : PySem.W.Frag) (f : Str) (te : TE) : TE := fun σ H Q => te σ H fun x H1 => ∃ (a C dd : Addr) (fs : List (Str × V)) (v : V),
  x = .ref a ∧ H1 a = some (ExH (.ref C) (some dd) a) ∧ XfC K C ∧ PySem.W.findIn K (.ref C) f = some none ∧ H1 dd = some (.xd fs) ∧ fs.lookup f = some v ∧ Q v H1
theorem pe_xfT {X : Cx} {e : Expr} {te : TE} {pos : Pos} {n : Str} (he : PE X e te) (hb : attributeBase e n X.env (eval e X.env) = eval e X.env := by rfl) :
    PE X (.Attribute e n pos) (tXfT X.K n te) := by
  constructor
  intro pins s σ H Q I h
  refine attr_of hb (thn (he.run pins s σ H _ I h) ?_)
  rintro w s1 ⟨x, H1, I1, rx, a, C, dd, fs, v, rfl, ea, F, own, ed, fnd, q⟩
  cases rx
  obtain ⟨oe, vs, at_, ⟨ec, edd⟩, dat⟩ := exH_at I1.hok ea
  have held : ObjOk X.prog X.w H1 s1.heap dd (.xd fs) := I1.hok dd _ ed
  obtain ⟨mA, ns, rel⟩ := held
  obtain ⟨od, ho, seen⟩ := lookIn_ns ns
  obtain ⟨u, eu, ru⟩ := RelO.some_of (v := v) (o := mA n) (fnd ▸ rel n)
  have plain : PySem.W.notCls oe = true := by
    unfold PySem.W.notCls
    rw [dat]
  have inst : PySem.W.InstAt s1.heap a oe C (some od) := ⟨at_, ec, plain, by rw [edd]; exact ho⟩
  refine HandSPX.exc_get I1.kIn inst F.ga F.gg F.exC (PySem.W.findObj_own F.hdC own rfl ?_) (handed_of ru) ⟨v, H1, I1.tok _, ru, q⟩
  rw [seen, eu]
/-! isinstance of a tracked exception -/
structure Kx (K : PySem.W.Frag) (C : Addr) : Prop where
  cl : (PySem.W.clsIn K C).isSome = true
  ga : PySem.W.findIn K (.ref C) "__getattribute__" = some (some (.builtin "BaseException.__getattribute__"))
  gt : PySem.W.findIn K (.ref C) "__getattr__" = some none
  sub : PySem.W.subIn K (.ref C) (.type "BaseException") = some true
  att : PySem.W.findIn K (.ref C) "__class__" = some (some (.builtin "object.__class__"))
  get : PySem.W.specialIn K (.builtin "object.__class__") "__get__" = some (some (.builtin "getset_descriptor.__get__"))
  tak : PySem.W.takesIn K (.builtin "object.__class__") = some true
  ob : PySem.W.mroIn K C (.type "object") = some true
def kxB (K : PySem.W.Frag) (C : Addr) : Bool :=
  (PySem.W.clsIn K C).isSome && (decide (PySem.W.findIn K (.ref C) "__getattribute__" = some (some (.builtin "BaseException.__getattribute__"))) &&
  (decide (PySem.W.findIn K (.ref C) "__getattr__" = some none) && (decide (PySem.W.subIn K (.ref C) (.type "BaseException") = some true) &&
  (decide (PySem.W.findIn K (.ref C) "__class__" = some (some (.builtin "object.__class__"))) &&
  (decide (PySem.W.specialIn K (.builtin "object.__class__") "__get__" = some (some (.builtin "getset_descriptor.__get__"))) &&
  (decide (PySem.W.takesIn K (.builtin "object.__class__") = some true) && decide (PySem.W.mroIn K C (.type "object") = some true)))))))
theorem kxB_ok {K : PySem.W.Frag} {C : Addr} (h : kxB K C = true) : Kx K C := by
  unfold kxB at h
  simp only [Bool.and_eq_true, decide_eq_true_eq] at h
  obtain ⟨a, b, c, d, e, f, g, i⟩ := h
  exact ⟨a, b, c, d, e, f, g, i⟩
/-- isinstance(e, C') of a tracked exception e -/
def rIsE (K : PySem.W.Frag) : List V → Hp → VK → Prop := fun xs H Q => ∃ (a C : Addr) (d : Option Addr) (c : V) (u : Value) (b : Bool),
  xs = [.ref a, c] ∧ H a = some (ExH (.ref C) d a) ∧ (∀ dd, d = some dd → ∃ fs, H dd = some (.xd fs)) ∧ Kx K C ∧ ClsV c u ∧ PySem.W.kitOne K (.ref C) u = some b ∧ Q (.bl b) H
theorem cr_isE {X : Cx} : CallR X (.builtin "isinstance") (rIsE X.K) := by
  intro pins s σ H xs us Q I r h
  obtain ⟨a, C, d, c, u, b, rfl, ea, ed, T, k, e, q⟩ := h
  obtain ⟨u1, u2, rfl, r1, r2⟩ := vals2 r
  have e2 := k.eq r2
  subst e2
  obtain rfl : u1 = Value.ref a := r1
  obtain ⟨oe, vs, ha, hz, hd⟩ := exH_at I.hok ea
  have nc : PySem.W.notCls oe = true := by
    unfold PySem.W.notCls
    rw [hd]
  cases d with
  | none =>
    have J : PySem.W.InstAt s.heap a oe C none := ⟨ha, hz.1, nc, by rw [hz.2]; trivial⟩
    exact PySem.W.kia_one (PySem.W.kitx_exc T.cl T.ga T.gt T.sub T.att T.get T.tak T.ob) I.kIn J e (fun z => nomatch z) fun tk => ⟨.bl b, H, I.tok tk, rfl, q⟩
  | some dd =>
    obtain ⟨fs, edd⟩ := ed dd rfl
    have hx : ObjOk X.prog X.w H s.heap dd (.xd fs) := I.hok dd _ edd
    obtain ⟨mA, ⟨od, _, _, ho, _⟩, _⟩ := hx
    have J : PySem.W.InstAt s.heap a oe C (some od) := ⟨ha, hz.1, nc, by rw [hz.2]; exact ho⟩
    exact PySem.W.kia_one (PySem.W.kitx_exc T.cl T.ga T.gt T.sub T.att T.get T.tak T.ob) I.kIn J e (fun z => nomatch z) fun tk => ⟨.bl b, H, I.tok tk, rfl, q⟩
end ME

set_option Elab.async false
set_option maxRecDepth 100000
set_option maxHeartbeats 2000000
set_option linter.all false
/-! own exceptions over any built-in base, whose own __init__ asks the base's and keeps one field -/
namespace PySem
namespace HandSPX
/-! an own class of exceptions, by what stands in its row: its __new__ is some base's, its __init__ asks perhaps another base's -/
/-- the row at C: made by mk, above it just the built-in classes of up -/
def Row (h : Heap) (C : Addr) (mk : String) (up : List Value) : Prop :=
  ∃ (nm q : Str) (N : Addr) (bs bm : List Value) (hdct : Bool) (sn : List Str) (sub : List Value) (ab : Bool) (col : Option Bool) (dd : Option Addr)
    (k0 k1 k2 k3 k5 : Option Value), h.get? C = some (excClassObj nm q C N bs bm hdct sn sub ab col dd k0 k1 k2 k3 k5 mk) ∧
      ∀ T : String, (Value.ref C :: bm).contains (.type T) = up.contains (.type T)
theorem Row.of {h : Heap} {C : Addr} {mk : String} {up : List Value} {nm q : Str} {N : Addr} {bs bm : List Value} {hdct : Bool} {sn : List Str} {sub : List Value}
    {ab : Bool} {col : Option Bool} {dd : Option Addr} {k0 k1 k2 k3 k5 : Option Value} (lies : h.get? C = some (excClassObj nm q C N bs bm hdct sn sub ab col dd k0 k1 k2 k3 k5 mk))
    (tl : PySem.W.excTail up bm = true) : Row h C mk up :=
  ⟨nm, q, N, bs, bm, hdct, sn, sub, ab, col, dd, k0, k1, k2, k3, k5, lies, fun T => by
    rw [List.contains_cons]
    exact PySem.W.excTail_contains T bm tl⟩
/-- whose __new__ makes it -/
structure Makes (mk : String) (up : List Value) : Prop where
  by_ : ∃ (Bn initN : String) (bmN : List Value), ExcBaseFacts Bn mk initN bmN ∧ up.contains (.type Bn) = true
  noA : up.contains (.type "AttributeError") = false
  noN : up.contains (.type "NameError") = false
/-- whose __init__ is asked -/
structure Inits (B ini : String) (up : List Value) : Prop where
  has : up.contains (.type B) = true
  star : (B != "*") = true
  quiet : plainId ini = true
  code : entryFor table ini = some Builtin.«BaseException.__init__»
  name : splitId ini = some (B, "__init__")
  kind : builtinKind ini = some .slot
  sig : Manifest.signature? ini = some ⟨.positional, "*", B, .self, [⟨"args", .varPos, false⟩]⟩
structure Bs (B newId initId : String) (top : List Value) : Prop where
  make : Makes newId top
  ini : Inits B initId top
theorem Bs.of {B newId initId : String} {top : List Value} (F : ExcBaseFacts B newId initId top) : Bs B newId initId top :=
  ⟨⟨⟨B, initId, top, F, F.hasB⟩, F.noAttr, F.noName⟩, F.hasB, F.noStar, F.init.plain, F.initEntry, F.initSplit, F.initKind, F.initRow⟩
section
variable {prog : Program} {w : World} {A : Around} {R : Result → Shared → Prop} {h : Heap} {g : Array GenState} {d : Drawn} {t : Nat} {os : OsState}
  {C : Addr} {mk B ini : String} {up : List Value} {us : List Value}
/-- mk(C, ..): the new exception behind its tuple -/
theorem made_by (M : Makes mk up) (r : Row h C mk up) (few : us.length ≤ sizeLine)
    (hR : R (.ok (.ret (.ref (h.objs.size + 1)))) ⟨(h.push (PySem.W.kdv_tup us)).push (excO C h.objs.size), g, d, t, os⟩) :
    codeAny (model prog w) A (.call (.builtin mk) ⟨.ref C :: us, []⟩) R ⟨h, g, d, t, os⟩ := by
  obtain ⟨nm, q, N, bs, bm, hdct, sn, sub, ab, col, dd, k0, k1, k2, k3, k5, lies, tells⟩ := r
  obtain ⟨Bn, initN, bmN, F, hb⟩ := M.by_
  have yes := (tells Bn).trans hb
  have noA := (tells "AttributeError").trans M.noA
  have noN := (tells "NameError").trans M.noN
  have star := F.noStar
  have ends := F.ends
  refine codeAny_call_builtin_code (Code.quiet_builtin _ F.quiet) ?_
  -- the receiver's look
  simp only [F.newRow, F.newSplit, F.newKind, checkBuiltinCall]
  repeat (first
    | (refine wpAny_isSubtype_exc lies ?_; rw [yes])
    | refine wpAny_madeBy_exc lies ?_
    | refine wpAny_staticBase_exc lies ?_
    | refine wpAny_loadPart_at lies ?_
    | simp only [if_false, Bool.false_eq_true, bne_self_eq_false]
    | wp_step)
  -- the making itself
  refine codeAny_builtinAt F.entry ?_
  delta Builtin.«BaseException.__new__»
  refine wpAt_bind ?_
  change wpAt _ _ _ (stack >>= _) _ _ _
  refine wpAt_bind (wpAt_stack fun _ _ => wpAt_of_wpAny ?_)
  wp_walk
  refine wpAt_of_wpAny ?_
  rw [F.owner]
  repeat (first
    | (with_reducible refine wpAny_isSubtype_exc lies ?_; first | rw [yes] | rw [noA] | rw [noN])
    | with_reducible refine wpAny_loadPart_at lies ?_
    | with_reducible refine wpAny_madeHere_exc F.canon lies ?_
    | wp_step)
  change R _ _
  rw [Heap.size_push]
  exact hR
/-- C(..) where C has an own __init__ at fI -/
theorem called_own {fI : Addr} (M : Makes mk up) (r : Row h C mk up) (few : us.length ≤ sizeLine)
    (ini_ : PySem.W.Looks (model prog w) h (typeLookup (.ref C) "__init__") (some (.ref fI)))
    (bnd : ∀ self, PySem.W.Looks (model prog w) h (bindSpecial (.ref fI) self) (.ref fI, [self]))
    (go : codeAny (model prog w) (A.under (.builtin "type.__call__" ⟨.ref C :: us, []⟩)) (.call (.ref fI) ⟨.ref (h.objs.size + 1) :: us, []⟩)
      (PySem.W.InitBack (h.objs.size + 1) R) ⟨(h.push (PySem.W.kdv_tup us)).push (excO C h.objs.size), g, d, t, os⟩) :
    codeAny (model prog w) A (.call (.ref C) ⟨us, []⟩) R ⟨h, g, d, t, os⟩ := by
  have r0 := r
  obtain ⟨nm, q, N, bs, bm, hdct, sn, sub, ab, col, dd, k0, k1, k2, k3, k5, lies, tells⟩ := r
  have look := tc_lookup
  have bind_ := tc_bind (.ref C)
  have meta_ : (⟨h, g, d, t, os⟩ : Shared).TypeIs (.ref C) "type" := ⟨_, lies, rfl⟩
  have stay : ∀ b o, h.get? b = some o → ((h.push (PySem.W.kdv_tup us)).push (excO C h.objs.size)).get? b = some o := by
    intro b o e
    exact Heap.get?_push_of_some _ (Heap.get?_push_of_some _ e)
  have still := stay _ _ lies
  have new : ((h.push (PySem.W.kdv_tup us)).push (excO C h.objs.size)).get? (h.objs.size + 1) = some (excO C h.objs.size) := by heap_get
  have self_ : (Value.ref C :: bm).contains (.ref C) = true := by simp
  refine codeAny_of_tree ?_
  change wpAny _ _ (callAny (.ref C) _) _ _ _
  repeat (any_goals (first | assumption | with_reducible refine wpAny_loadPart_at lies ?_ | wp_step))
  refine ⟨rfl, codeAny_call_builtin_at (Code.quiet_builtin _ (by decide +kernel)) entry_typeCall (wpAny_check_type_call_sub lies ?_)⟩
  change wpAny _ _ (Builtin.«type.__call__» ⟨.ref C :: us, []⟩) _ _ _
  repeat (first | with_reducible refine wpAny_madeBy_exc lies ?_ | with_reducible refine wpAny_loadPart_at lies ?_ | wp_step)
  refine made_by M r0 few ?_
  change wpAny _ _ _ _ _ _
  unfold isInstance
  repeat (first | (with_reducible refine wpAny_isSubtype_exc still ?_; rw [self_]) | with_reducible refine wpAny_loadPart_at new ?_ | wp_step)
  change wpAny _ _ (typeLookup (.ref C) _) _ _ _
  refine (ini_.keeps stay).at (wpAny_holding (wpAny_bind (((bnd (.ref (h.objs.size + 1))).keeps stay).at (wpAny_bind (wpAny_call (codeAny_mono go fun r s' z => ?_))))))
  cases r with
  | error e => exact z
  | ok fl =>
    cases fl with
    | ret v =>
      obtain ⟨rfl, z⟩ := z
      first
        | exact wpAny_pure (wpAny_pure z)
        | (wp_walk; exact z)
    | next => exact z.elim
    | brk => exact z.elim
    | cont => exact z.elim
/-- B.__init__(e, ..) of a new exception e -/
theorem asked_base {e t0 : Addr} (I : Inits B ini up) (r : Row h C mk up) (lie : h.get? e = some (excO C t0)) (few : us.length ≤ sizeLine)
    (hR : ∀ h' t1, (∀ b o, b ≠ e → h.get? b = some o → h'.get? b = some o) → h'.get? e = some (excO C t1) → R (.ok (.ret .none)) ⟨h', g, d, t, os⟩) :
    codeAny (model prog w) A (.call (.builtin ini) ⟨.ref e :: us, []⟩) R ⟨h, g, d, t, os⟩ := by
  obtain ⟨nm, q, N, bs, bm, hdct, sn, sub, ab, col, dd, k0, k1, k2, k3, k5, lies, tells⟩ := r
  have yes := (tells B).trans I.has
  have star := I.star
  refine codeAny_call_builtin I.quiet I.code ?_
  simp only [I.sig, I.name, I.kind, checkBuiltinCall]
  repeat (first
    | (with_reducible refine wpAny_isSubtype_exc lies ?_; rw [yes])
    | (with_reducible refine wpAny_loadPart_at lie ?_; rw [show (excO C t0).cls = .ref C from rfl])
    | with_reducible refine wpAny_loadPart_at lies ?_
    | wp_step)
  refine wpAny_onRaise ?_
  have passes : ∀ (x y : String) (n : Nat), Bind.check ⟨.positional, "*", B, .self, [⟨"args", .varPos, false⟩]⟩ x y n
      (List.map (fun z => z.fst) ({ pos := Value.ref e :: us } : Args).kw) = pure () := fun x y n => check_star_args _ _ _ _ _ _
  rw [passes]
  refine wpAny_pure ?_
  wp_walk
  refine hR _ h.objs.size (fun b o ne ho => ?_) ?_
  · exact (Heap.get?_update_other _ _ (Ne.symm ne)).trans (Heap.get?_push_of_some _ ho)
  · rw [Heap.get?_update_self _ (Heap.get?_push_of_some _ lie) rfl]
    rfl
end
end HandSPX
end PySem
namespace MD
open PySem PySem.Spec PyProof.Rows L2 MM PySem.HandSPX

/-- the class at C stands over B, by own classes between, or none -/
structure Ov (K : PySem.W.Frag) (C : Addr) (B newId initId : String) (top : List Value) : Prop where
  base : Bs B newId initId top
  put : StoreFacts B top "object.__setattr__" "object"
  row : ∃ nm q N bs bm sn sub ab col dd k0 k1 k2 k3 k5,
    K.lookup C = some (excClassObj nm q C N bs bm true sn sub ab col dd k0 k1 k2 k3 k5 newId) ∧ PySem.W.excTail top bm = true
  hook : PySem.W.findIn K (.ref C) "__setattr__" = some (some (.builtin "object.__setattr__"))
  isE : PySem.W.subIn K (.ref C) (.type "BaseException") = some true
  meta_ : PySem.W.typeIn K (.ref C) = some (.type "type")
  keep : PySem.W.keepIn K (.ref C) = true

section
open Builtin Builtin.ObjectAttr
variable {prog : Program} {w : World} {A : Around} {R : Result → Shared → Prop} {hp : Heap} {g : Array GenState} {d : Drawn}
  {t : Nat} {os : OsState} {K : PySem.W.Frag} {C x : Addr} {B newId initId : String} {top : List Value}
/-- the first field of an exception lays its dict -/
theorem first_put {name : Str} {tk : Tok} {v : Value} {fv : Array Value} (T : Ov K C B newId initId top) (X : K.In hp)
    (hx : hp.get? x = some { cls := .ref C, data := .fields fv })
    (ha : PySem.W.findIn K (.ref C) name = some none)
    (hq : ∀ h' tk' dx, (∀ b o, b ≠ x → hp.get? b = some o → h'.get? b = some o) → hp.objs.size ≤ dx → dx ≠ x →
      h'.get? x = some { cls := .ref C, dict := some dx, data := .fields fv } →
      h'.Ns1 dx (fun y => if y = name then some v else none) → R (.ok (.ret .none)) ⟨h', g, d, tk', os⟩) :
    codeAny (model prog w) A (.call (.builtin "object.__setattr__") ⟨[.ref x, .str name tk, v], []⟩) R ⟨hp, g, d, t, os⟩ := by
  obtain ⟨nm, q, N, bs, bm, sn, sub, ab, col, dd, k0, k1, k2, k3, k5, hC, hbm⟩ := T.row
  have hcd : PySem.W.clsIn K C = some { name := nm, bases := bs, mro := .ref C :: bm, ns := N, qualname := q, hasDict := true, slotNames := sn, subclasses := sub, abstract := ab, collection := col, hasDel := false } := by
    unfold PySem.W.clsIn
    rw [hC] <;> rfl
  have hall : PySem.W.excTail top (.ref C :: bm) = true := hbm
  have inst : PySem.W.InstAt hp x { cls := .ref C, data := .fields fv } C none := ⟨hx, rfl, rfl, trivial⟩
  have S := PySem.F.store_object
  have far : x ≠ hp.objs.size := Nat.ne_of_lt (Heap.lt_size hx)
  have obj : (Value.ref C :: bm).contains (.type "object") = true :=
    (PySem.W.excTail_contains "object" _ hall).trans T.put.hasOwner
  have mro : PySem.W.mroIn K C (.type "object") = some true := by
    unfold PySem.W.mroIn
    rw [hcd, Option.bind_some]
    simp only [List.isEmpty_cons, obj, Bool.false_eq_true, if_false]
  have isObj : PySem.W.Looks (model prog w) hp (isInstance (.ref x) (.type "object")) true :=
    inst.type.andThen (PySem.W.looks_mroIn X mro)
  have rd : PySem.W.Looks (model prog w) hp (classData C) _ := PySem.W.looks_clsIn X hcd
  have rm : PySem.W.Looks (model prog w) hp (mroOf (.ref C)) (.ref C :: bm) := rd.andThen .now
  have none_ : PySem.W.Looks (model prog w) hp (storeTaker? none) none := .now
  refine codeAny_call_builtin S.slot.plain S.entry (@PySem.W.check_slot (model prog w) _ _ ⟨hp, g, d, t, os⟩
    "object.__setattr__" "object" "__setattr__" (.ref x) [.str name tk, v] [] _ S.kind S.split isObj (S.args (.ref x) (.str name tk) v) ?_)
  rw [PySem.W.osa_eq, refuse_eq]
  refine wpAny_bind (wpAny_bind (inst.type.at (wpAny_bind (rm.at ?_))))
  rw [PySem.W.excTail_pass _ (T.put.passes _) _ hall]
  refine wpAny_pure (wpAny_bind (inst.type.at (wpAny_bind ((PySem.W.looks_findIn X ha).at (wpAny_bind (none_.at ?_))))))
  show wpAny _ _ (storeInOwnDict (.ref x) (.ref C) (.str name tk) name v false) _ _ _
  unfold storeInOwnDict ownDictForStores
  repeat (first
    | with_reducible refine PySem.HandSPX.store_in_new ?_ ?_
    | with_reducible refine wpAny_loadPart_at hx ?_
    | with_reducible refine rd.at ?_
    | wp_step)
  · refine ⟨_, #[], _, (Heap.get?_update_ne _ _ _ _ far.symm).trans (Heap.get?_push_at rfl rfl), rfl, ?_, fun _ => rfl⟩
    intro e he
    simp at he
  · intro h' tk' hn' hs
    have there : (hp.push { cls := .type "dict", data := .dict #[] }).get? x = some { cls := .ref C, data := .fields fv } :=
      Heap.get?_push_of_some _ hx
    refine hq h' tk' hp.objs.size ?_ (Nat.le_refl _) far.symm ((hs.2 x far).trans (Heap.get?_update_self _ there rfl)) hn'
    intro b o hb ho
    have nb : b ≠ hp.objs.size := Nat.ne_of_lt (Heap.lt_size ho)
    rw [hs.2 b nb, Heap.get?_update_ne _ _ _ _ hb]
    exact Heap.get?_push_of_some _ ho
end

section
variable {X : Cx} {pins : List (Addr × Obj)} {σ : L2.St} {H : Hp} {s : Shared} {a C : Addr} {f : Str} {y : V} {u : Value}
  {E : Value → Shared → Prop} {A : Around} {B newId initId : String} {top : List Value}
/-- self.f = y, the first field -/
theorem put_new {Q : Unit → Shared → Prop} (T : Ov X.K C B newId initId top) (I : Inv X pins σ H s)
    (ea : H a = some (exo a C none)) (no : PySem.W.findIn X.K (.ref C) f = some none) (ry : RelV y u)
    (h : ∀ dx s', H dx = none → dx ≠ a →
      Inv X pins σ (upd (upd H dx (exd dx [(f, y)])) a (exo a C (some dx))) s' → Q () s') :
    wpAny (model X.prog X.w) A (setAttr (.ref a) f u) Q E s := by
  obtain ⟨t1, ho⟩ := exo_at I.hok ea
  obtain ⟨hp, g, d, t, os⟩ := s
  refine PySem.W.set_plain I.kIn (od := none) ⟨ho, rfl, rfl, trivial⟩ T.hook ?_
  refine first_put T I.kIn ho no (fun h' tk' dx kp ge ne hx hn => ?_)
  have free : H dx = none := I.hok.fresh ge
  have old : ∀ {b : Addr} {o : Obj}, hp.get? b = some o → b ≠ dx := by
    intro b o hb
    exact Nat.ne_of_lt (Nat.lt_of_lt_of_le (Heap.lt_size hb) ge)
  have nota : ∀ {b : Addr}, H b = none → b ≠ a := by
    rintro b hb rfl
    rw [ea] at hb
    cases hb
  have same : ∀ {b : Addr} {v : HO}, H b = some v → b ≠ a →
      upd (upd H dx (exd dx [(f, y)])) a (exo a C (some dx)) b = some v := by
    intro b v hb ba
    rw [upd_ne ba, upd_ne (ne_of_none hb free)]
    exact hb
  have un : Un X.fs [] H (upd (upd H dx (exd dx [(f, y)])) a (exo a C (some dx))) hp h' := by
    constructor
    case keep => exact fun b o hb hn _ _ => kp b o (nota hn) hb
    case slot => exact fun b o hb hn _ _ => ⟨o.slots, kp b o (nota hn) hb⟩
    case free =>
      intro b o hb hn _
      rw [upd_ne (nota hn), upd_ne (old hb)]
      exact hn
    case there =>
      intro b o hb _
      by_cases ba : b = a
      · exact ⟨_, ba ▸ hx⟩
      · exact ⟨o, kp b o ba hb⟩
    case tups => exact fun b xs hb => same hb (at_ne ea hb exo_tup)
    case frzs => exact fun b o v hb => same hb (at_ne ea hb exo_frz)
    case tbls =>
      intro b ps hb
      refine ⟨#[], ?_⟩
      rw [same hb (at_ne ea hb exo_tbl)]
      simp
  refine h dx _ free ne (I.un (t' := tk') un fun b o hb => ?_)
  by_cases ba : b = a
  · subst ba
    rw [upd_same] at hb
    cases hb
    exact exo_ok hx
  rw [upd_ne ba] at hb
  by_cases bd : b = dx
  · subst bd
    rw [upd_same] at hb
    cases hb
    exact exd_ok hn (relO_put (fs := []) ry fun _ => True.intro)
  rw [upd_ne bd] at hb
  refine (I.hok b o hb).stay ?_ (fun c hc => same hc (at_ne ea hc exo_own)) (fun c xs hc => same hc (at_ne ea hc exo_tup))
  rintro c v hc z
  refine kp c v ?_ z
  rcases hc with rfl | hc
  · exact ba
  · exact at_ne ea hc exo_own

/-- B.__init__(self, ..) -/
theorem ask_ok {us : List Value} {Q : Value → Shared → Prop} (T : Ov X.K C B newId initId top) (I : Inv X pins σ H s)
    (ea : H a = some (exo a C none)) (hl : us.length ≤ sizeLine) (h : ∀ s', Inv X pins σ H s' → Q .none s') :
    wpAny (model X.prog X.w) A (call (.builtin initId) (.ref a :: us)) Q E s := by
  obtain ⟨nm, q, N, bs, bm, sn, sub, ab, col, dd, k0, k1, k2, k3, k5, hC, hbm⟩ := T.row
  obtain ⟨t1, ho⟩ := exo_at I.hok ea
  obtain ⟨hp, g, d, t, os⟩ := s
  refine wpAny_call (asked_base T.base.ini (Row.of (I.kIn _ _ hC) hbm) ho hl ?_)
  intro h' t2 kp hx
  have J := I.write (t' := t) (x := a) (e := a) (o := exo a C none) (by rw [ea]; exact True.intro) (.inl rfl) kp ⟨_, hx⟩ (exo_ok hx)
  have same : upd H a (exo a C none) = H := by
    funext b
    by_cases hb : b = a
    · subst hb
      rw [upd_same, ea]
    · rw [upd_ne hb]
  rw [same] at J
  exact h _ J
end

/-- B.__init__(self, ..): nothing of it is told -/
def tAsk (K : PySem.W.Frag) (B newId initId : String) (top : List Value) (ta : TA) : TE := fun σ H Q =>
  ta σ H fun vs H1 => ∃ (a C : Addr) (ws : List V), vs = .ref a :: ws ∧ ws.length ≤ 1000 ∧ Ov K C B newId initId top ∧
    H1 a = some (exo a C none) ∧ Q .non H1
/-- self.f = e, the first field -/
def tPut (K : PySem.W.Frag) (B newId initId : String) (top : List Value) (f : Str) (to te : TE) : TS := fun D σ H =>
  te σ H fun y H1 => to σ H1 fun x H2 => ∃ a C : Addr, x = .ref a ∧ Ov K C B newId initId top ∧
    PySem.W.findIn K (.ref C) f = some none ∧ H2 a = some (exo a C none) ∧
    ∀ dx, H2 dx = none → dx ≠ a → D.nx σ (upd (upd H2 dx (exd dx [(f, y)])) a (exo a C (some dx)))
section
variable {X : Cx} {o e : Expr} {es : List Expr} {to te : TE} {ta : TA} {f : Str} {p p' p1 p2 pos : Pos}
  {B newId initId : String} {top : List Value}
theorem ps_put (ho : PE X o to) (he : PE X e te)
    (hs : swapsWith e (some (.Attribute o f p')) pos.line X.env = pure false := by rfl) :
    PS X (.Assign [.Attribute o f p'] e pos) (tPut X.K B newId initId top f to te) := by
  constructor
  intro pins s σ H D I h
  refine plainObj_wpAny_Assign_Attribute (thn (he.run pins s σ H _ I h) ?_) hs
  rintro v s1 ⟨y, H1, I1, r1, q1⟩
  refine thn (ho.run pins s1 σ H1 _ I1 q1) ?_
  rintro u s2 ⟨x, H2, I2, r2, a, C, rfl, T, no, ea, q⟩
  obtain rfl : u = Value.ref a := r2
  exact put_new T I2 ea no r1 fun dx s' n ne J => ⟨σ, _, J, q dx n ne⟩
theorem pe_ask {pl : Sem Bool} (hg : Gl X B) (hm : X.mg B = none) (hv : bootBuiltins B = some (.type B))
    (ty : typeOf (.type B) = pure (.type "type")) (st : Manifest.isStub B = false)
    (vV : PySem.W.findCls X.K (.type B) (.type "type") "__init__" = some (.val (.builtin initId)))
    (hi : PySem.W.handedIn (.builtin initId) = true)
    (ha : PA X (e :: es) ta) (hn : (B : Str) ≠ "__name__" := by decide) (hdb : ((B : Str) == ("__debug__" : Str)) = false := by decide)
    (hc : eval (.Call (.Attribute (.Name B p1) "__init__" p2) (e :: es) [] pos) X.env = (do
      let ov ← eval (.Name B p1) X.env
      standAt p2.atName
      let (f, first) ← holding [ov] (getMethod ov "__init__" pl)
      callWith pos f first (backTo pos (starEach (e :: es) X.env)) (backToKw pos (keywordEach [] X.env))) := by rfl)
    (he : starEach (e :: es) X.env = (false, eval e X.env) :: starEach es X.env := by rfl)
    (hpl : (backTo pos (starEach es X.env)).any (·.1) = false := by rfl) :
    PE X (.Call (.Attribute (.Name B p1) "__init__" p2) (e :: es) [] pos) (tAsk X.K B newId initId top ta) := by
  constructor
  intro pins s σ H Q I h
  refine PySem.W.methodCall_KW (ld_blt I hg hm hv ?_ hn hdb) hc
  obtain ⟨m, fr⟩ := I.fr
  refine PySem.W.method_type fr I.ok.mod.kin ty st vV hi ?_
  show wpAny _ _ (callWith pos (Value.builtin initId) [] (backTo pos (starEach (e :: es) X.env)) []) _ _ _
  refine PyProof.Rows.callWith_method1 (thn (ha.run pos pins _ σ H _ (I.tok _) h) ?_) he hpl
  rintro us s1 ⟨vs, H1, I1, r1, a, C, ws, rfl, hl, T, ea, q⟩
  cases r1 with
  | @cons _ u0 _ ur ra rw' =>
    obtain rfl : u0 = Value.ref a := ra
    refine ask_ok T I1 ea ?_ fun s' J => ⟨.non, H1, J, rfl, q⟩
    rw [← Paired.length rw', sizeLine_eq]
    omega
end

/-- what __init__ of such a class keeps: one field, called f -/
def spKeep (C : Addr) (f : Str) : Sp := fun vs H Q _ => ∃ (a : Addr) (y : V), vs = [.ref a, y] ∧ H a = some (exo a C none) ∧
  ∀ dx, H dx = none → dx ≠ a → Q .non (upd (upd H dx (exd dx [(f, y)])) a (exo a C (some dx)))
/-- C(e) is made: its class, its dict, which keeps e under f -/
def tMade (C : Addr) (f : Str) (ta : TA) : L2.St → Hp → XK → Prop := fun σ H Q => ta σ H fun vs H1 => ∃ y, vs = [y] ∧
  ∀ d, H1 d = none → Q (.ref C) (some d) (upd H1 d (.xd [(f, y)]))
section
variable {X : Cx} {e : Expr} {es : List Expr} {ta : TA} {p pos : Pos} {CX : CXT} {x f : Str} {C fI : Addr} {k : Nat} {fd : FuncData}
  {ps : List Str} {B newId initId : String} {top : List Value}
theorem room_make {A : Around} (r : MM.Rm (k + 1) A) (C : Addr) (us : List Value) (kw : List (Str × Value)) :
    MM.Rm k (A.under (.builtin "type.__call__" ⟨.ref C :: us, kw⟩)) := ⟨r.room.make C us kw, r.still⟩
theorem pmk_made (T : Ov X.K C B newId initId top) (iC : PySem.W.findIn X.K (.ref C) "__init__" = some (some (.ref fI)))
    (tI : PySem.W.typeIn X.K (.ref fI) = some (.type "function"))
    (F : MM.FnG X.prog X.w X.K X.mg X.base CX k fI fd ps (spKeep C f)) (hr : MM.Rm (k + 1) X.A) (hb : Binds X.K fd ps [])
    (hx : Passes CX X (fun _ _ _ => False)) (hm : X.mg x = some (.ref C)) (ha : PA X (e :: es) ta) (hg : Gl X x := by rfl)
    (hdb : (x == ("__debug__" : Str)) = false := by decide)
    (he : starEach (e :: es) X.env = (false, eval e X.env) :: starEach es X.env := by rfl)
    (hpl : (backTo pos (starEach es X.env)).any (·.1) = false := by rfl) :
    PMk X (.Call (.Name x p) (e :: es) [] pos) (tMade C f ta) := by
  intro pins s σ H Q I h
  obtain ⟨nm, q, N, bs, bm, sn, sub, ab, col, dd, k0, k1, k2, k3, k5, hC, hbm⟩ := T.row
  refine wpAny_Call_Name_kw (ld_glob I hg hm ?_ hdb)
  refine PySem.W.callWith_K (h₀ := X.base) I.ok.mod.kin T.keep (thn (ha.run pos pins s σ H _ I h) ?_) he hpl
  rintro us s1 ⟨vs, H1, I1, r1, y, rfl, q1⟩
  refine ⟨I1.kIn, ?_⟩
  obtain ⟨u, rfl, ry⟩ := vals1 r1
  show wpAny _ _ (call (.ref C) [u]) _ _ _
  obtain ⟨hp, g, dr, tk, os⟩ := s1
  have size : hp.objs.size ≤ hp.objs.size + 1 := Nat.le_succ _
  have new : H1 (hp.objs.size + 1) = none := I1.hok.fresh size
  have kept : ∀ b o, hp.get? b = some o →
      ((hp.push (PySem.W.kdv_tup [u])).push (PySem.HandSPX.excO C hp.objs.size)).get? b = some o := by
    intro b o z
    exact Heap.get?_push_of_some _ (Heap.get?_push_of_some _ z)
  have lies : ((hp.push (PySem.W.kdv_tup [u])).push (PySem.HandSPX.excO C hp.objs.size)).get? (hp.objs.size + 1) =
      some (PySem.HandSPX.excO C hp.objs.size) := by heap_get
  have I2 := I1.laid (t' := tk) (a := hp.objs.size + 1) (o := exo (hp.objs.size + 1) C none) kept size (exo_ok lies)
  have r2 : Vals [V.ref (hp.objs.size + 1), y] [Value.ref (hp.objs.size + 1), u] := .cons rfl (.cons ry .nil)
  have sp : spKeep C f [V.ref (hp.objs.size + 1), y] (upd H1 (hp.objs.size + 1) (exo (hp.objs.size + 1) C none))
      (fun v H2 => v = .non ∧ ∃ d, H1 d = none ∧ d ≠ hp.objs.size + 1 ∧
        H2 = upd (upd (upd H1 (hp.objs.size + 1) (exo (hp.objs.size + 1) C none)) d (exd d [(f, y)])) (hp.objs.size + 1) (exo (hp.objs.size + 1) C (some d)))
      (fun _ _ _ => False) := by
    refine ⟨_, y, rfl, upd_same, fun dx n ne => ⟨rfl, dx, ?_, ne, rfl⟩⟩
    rw [upd_ne ne] at n
    exact n
  have len := F.arity sp
  have bd := hb ⟨_, g, dr, tk, os⟩ [Value.ref (hp.objs.size + 1), u] I2.kIn (by rw [List.append_nil]; exact len)
  rw [List.append_nil] at bd
  refine wpAny_call (called_own T.base.make (Row.of (I1.kIn _ _ hC) hbm) (by show 1 ≤ sizeLine; rw [sizeLine_eq]; omega)
    (PySem.W.looks_findIn I1.kIn iC) (fun self => PySem.W.bind_fn I1.kIn self tI)
    (codeAny_mono (F.runs (out := X.stack) (room_make hr C [u] []) (I2.env0.make C [u] []) bd r2 sp) ?_))
  intro r s' hq
  cases r with
  | error er => exact hx pins σ _ _ er s' I2 hq
  | ok fl =>
    cases fl with
    | next => exact hq.elim
    | brk => exact hq.elim
    | cont => exact hq.elim
    | ret u' =>
      obtain ⟨v, H2, os2, bare2, un2, hok2, rv, rfl, d, nd, ne, rfl⟩ := hq
      obtain ⟨h2, g2, d2, t2, os'⟩ := s'
      have ed : (upd (upd (upd H1 (hp.objs.size + 1) (exo (hp.objs.size + 1) C none)) d (exd d [(f, y)])) (hp.objs.size + 1)
          (exo (hp.objs.size + 1) C (some d))) d = some (exd d [(f, y)]) := by
        rw [upd_ne ne, upd_same]
      refine ⟨rv, mk_end (raises_own T.isE T.meta_) I1 size kept un2 hok2 os2 bare2 upd_same ed nd ?_⟩
      have same : upd (del (upd (upd (upd H1 (hp.objs.size + 1) (exo (hp.objs.size + 1) C none)) d (exd d [(f, y)])) (hp.objs.size + 1)
          (exo (hp.objs.size + 1) C (some d))) (hp.objs.size + 1)) d (.xd [(f, y)]) = upd H1 d (.xd [(f, y)]) := by
        funext b
        by_cases b1 : b = d
        · subst b1
          rw [upd_same, upd_same]
        rw [upd_ne b1, upd_ne b1]
        by_cases b2 : b = hp.objs.size + 1
        · subst b2
          rw [del_same, new]
        rw [del_ne b2, upd_ne b2, upd_ne b1, upd_ne b2]
      rw [same]
      exact q1 d nd
end
/-! Base.__init__(self, ..), Base an own class -/
structure Asks (K : PySem.W.Frag) (C : Addr) (initId : String) : Prop where
  sp : PySem.W.specialIn K (.ref C) "__getattribute__" = some (some (.builtin "type.__getattribute__"))
  rd : PySem.W.readsIn K C (.type "type") = true
  fi : PySem.W.findCls K (.ref C) (.type "type") "__init__" = some (.val (.builtin initId))
section
variable {X : Cx} {x : Str} {C : Addr} {e : Expr} {es : List Expr} {ta : TA} {p1 p2 pos : Pos} {B newId initId : String} {top : List Value}
theorem pe_askC {pl : Sem Bool} (T0 : Asks X.K C initId) (hg : Gl X x) (hm : X.mg x = some (.ref C))
    (hi : PySem.W.handedIn (.builtin initId) = true)
    (ha : PA X (e :: es) ta) (hdb : (x == ("__debug__" : Str)) = false := by decide)
    (hc : eval (.Call (.Attribute (.Name x p1) "__init__" p2) (e :: es) [] pos) X.env = (do
      let ov ← eval (.Name x p1) X.env
      standAt p2.atName
      let (f, first) ← holding [ov] (getMethod ov "__init__" pl)
      callWith pos f first (backTo pos (starEach (e :: es) X.env)) (backToKw pos (keywordEach [] X.env))) := by rfl)
    (he : starEach (e :: es) X.env = (false, eval e X.env) :: starEach es X.env := by rfl)
    (hpl : (backTo pos (starEach es X.env)).any (·.1) = false := by rfl) :
    PE X (.Call (.Attribute (.Name x p1) "__init__" p2) (e :: es) [] pos) (tAsk X.K B newId initId top ta) := by
  constructor
  intro pins s σ H Q I h
  refine PySem.W.methodCall_KW (ld_glob I hg hm ?_ hdb) hc
  refine PySem.W.method_cls I.kIn T0.sp (PySem.W.cls_value I.kIn T0.rd T0.fi hi ?_)
  show wpAny _ _ (callWith pos (Value.builtin initId) [] (backTo pos (starEach (e :: es) X.env)) []) _ _ _
  refine PyProof.Rows.callWith_method1 (thn (ha.run pos pins _ σ H _ (I.tok _) h) ?_) he hpl
  rintro us s1 ⟨vs, H1, I1, r1, a, C', ws, rfl, hl, T, ea, q⟩
  cases r1 with
  | @cons _ u0 _ ur ra rw' =>
    obtain rfl : u0 = Value.ref a := ra
    refine ask_ok T I1 ea ?_ fun s' J => ⟨.non, H1, J, rfl, q⟩
    rw [← Paired.length rw', sizeLine_eq]
    omega
end
end MD

set_option Elab.async false
set_option maxRecDepth 100000
set_option maxHeartbeats 2000000
set_option linter.all false
namespace PySem
namespace HandSPX
/-! KeyError as a base: its __new__ is LookupError's -/
theorem bs_KeyError : Bs "KeyError" "LookupError.__new__" "KeyError.__init__" [.type "KeyError", .type "LookupError", .type "Exception", .type "BaseException", .type "object"] :=
  ⟨⟨⟨_, _, _, PySem.F.excBase_LookupError, by decide +kernel⟩, by decide +kernel, by decide +kernel⟩, by decide +kernel, PyProof.Rows.excClass_KeyError.notStar,
    PyProof.Rows.excClass_KeyError.init.plain, PyProof.Rows.excClass_KeyError.initEntry, PyProof.Rows.excClass_KeyError.initSplit, PyProof.Rows.excClass_KeyError.initKind,
    PyProof.Rows.excClass_KeyError.initSig⟩
theorem store_KeyError : StoreFacts "KeyError" [.type "KeyError", .type "LookupError", .type "Exception", .type "BaseException", .type "object"] "object.__setattr__" "object" where
  mro := by kernel_rfl
  slot := .of (owner := "object") (n := "__setattr__") (by rw [typeLookup_type, builtinLookup_eq_fast]; kernel_rfl) (by decide +kernel) (by decide +kernel) (by decide +kernel)
    (by first | exact .inl (by decide +kernel) | exact .inr (by decide +kernel)) (by rw [isSubtype_type]; kernel_rfl)
  entry := PySem.F.store_IndexError.entry
  kind := by decide +kernel
  split := by decide +kernel
  hasOwner := by decide +kernel
  args := fun a b c => by unfold argsOk; kernel_rfl
  passes := fun self => by kernel_rfl
end HandSPX
end PySem
namespace MM
open PySem PySem.Spec PyProof.Rows L2
/-! z * n of a text -/
def rRepS : V → V → Hp → VK → Prop := fun x y H Q => ∃ (z : Str) (n : Int), x = .str z ∧ y = .int n ∧ 1 ≤ n ∧ n ≤ 1000 ∧ 1 ≤ z.length ∧ z.length ≤ 1000 ∧ ∀ t : Str, t.length ≤ 1000000 → Q (.str t) H
theorem foldl_size (l : List (Array Nat)) (acc : Array Nat) : (l.foldl (· ++ ·) acc).size = acc.size + (l.map (·.size)).sum := by
  induction l generalizing acc with
  | nil => simp
  | cons a r ih =>
    rw [List.foldl_cons, ih, Array.size_append, List.map_cons, List.sum_cons]
    omega
theorem op_repS {X : Cx} : OpR X (binaryOp .Mult) rRepS := by
  intro pins s σ H x y v u Q I rx ry h
  obtain ⟨z, n, rfl, rfl, n1, n2, z1, z2, q⟩ := h
  obtain ⟨t, rfl⟩ := rx
  obtain ⟨t', rfl⟩ := ry
  have small : z.length * n.toNat ≤ 1000 * 1000 := Nat.mul_le_mul z2 (by omega)
  refine PySem.P.mul_str ?_ (fun _ _ => ?_) (fun _ _ => ?_) ?_
  · rw [decide_eq_false (by omega), decide_eq_false (by omega)]
    rfl
  · have e : ((n.toNat : Nat) : Int) = n := Int.toNat_of_nonneg (by omega)
    have sm : (z.length : Int) * n ≤ 2 ^ 63 - 1 := by
      rw [← e, ← Int.natCast_mul]
      omega
    have := Int.le_ediv_of_mul_le (by omega) sm
    omega
  · show decide (_ > sizeLine) = false
    refine decide_eq_false ?_
    rw [sizeLine_eq]
    omega
  · rw [if_neg (by omega)]
    split
    · exact ⟨.str z, H, I, ⟨t, rfl⟩, q z (by omega)⟩
    · have len : (List.foldl (· ++ ·) #[] (List.replicate n.toNat z.cps)).size = z.length * n.toNat := by
        rw [foldl_size, List.map_replicate, List.sum_replicate_nat]
        show 0 + n.toNat * z.cps.size = z.cps.size * n.toNat
        rw [Nat.mul_comm, Nat.zero_add]
      refine ⟨?_, .str _, H, I.tok _, ⟨_, rfl⟩, q _ ?_⟩
      · show (List.foldl (· ++ ·) #[] (List.replicate n.toNat z.cps)).size ≤ sizeLine
        rw [len, sizeLine_eq]
        omega
      · show (List.foldl (· ++ ·) #[] (List.replicate n.toNat z.cps)).size ≤ 1000000
        rw [len]
        omega
/-! repr of a dict of texts and tuples of ints -/
/-- a tuple of ints -/
def TupI (K : PySem.W.Frag) (H : Hp) (v : V) (ns : List Int) : Prop := ∃ a, v = .ref a ∧ SqT K H a (ns.map V.int)
section
variable {X : Cx} {pins : List (Addr × Obj)} {σ : L2.St} {H : Hp} {s : Shared}
theorem reads_ints {h : Heap} : ∀ (ns : List Int) (us : List Value), Vals (ns.map V.int) us → ReadsAll h us (ns.map PyData.int) []
  | [], _, r => by
    cases r
    exact .nil
  | n :: r, _, q => by
    cases q with
    | cons r1 r2 =>
      obtain ⟨t, rfl⟩ := r1
      exact ReadsAll.cons (Reads.int n t) (reads_ints r _ r2)
theorem reads_tupI (I : Inv X pins σ H s) {v : V} {u : Value} {ns : List Int} (h : TupI X.K H v ns) (r : RelV v u) : Reads s.heap u (.tuple (ns.map PyData.int)) [] := by
  obtain ⟨a, rfl, S⟩ := h
  cases r
  obtain ⟨its, rv, ⟨o, ho, hc, n, hd⟩, _⟩ := I.tuple S
  exact Reads.tuple ho hc hd (reads_ints ns its (by simpa using rv))
/-- the pairs of the dict: texts, tuples of ints -/
inductive DkI (K : PySem.W.Frag) (H : Hp) : List (Key × V) → List (Str × List Int) → Prop
  | nil : DkI K H [] []
  | cons {k : Str} {v : V} {ns : List Int} {r : List (Key × V)} {q : List (Str × List Int)} (h : TupI K H v ns) (t : DkI K H r q) : DkI K H ((.inr k, v) :: r) ((k, ns) :: q)
def dkD (q : List (Str × List Int)) : PyData := .dict (q.map fun p => (.str p.1, .tuple (p.2.map PyData.int)))
theorem reads_dk (I : Inv X pins σ H s) : ∀ {kvs : List (Key × V)} {q : List (Str × List Int)} {vs : List (Key × Value)} {es : List DictEntry}, DkI X.K H kvs q → KV kvs vs → Pairs (mixKind X.prog X.w) es vs →
    ReadsAll s.heap (es.map (·.key)) (q.map fun p => .str p.1) [] ∧ ReadsAll s.heap (es.map (·.val)) (q.map fun p => .tuple (p.2.map PyData.int)) [] := by
  intro kvs q vs es h
  induction h generalizing vs es with
  | nil =>
    intro r p
    cases r
    cases p
    exact ⟨.nil, .nil⟩
  | @cons k v ns rr qq hv _ ih =>
    intro r p
    cases r with
    | @cons _ kv _ vs' r1 r2 =>
      cases p with
      | @cons e _ es' _ p1 p2 p3 =>
        obtain ⟨e1, e2⟩ := r1
        obtain ⟨i1, i2⟩ := ih r2 p3
        have p1' : keyIs kv.1 e.key = true := p1
        rw [← e1] at p1'
        have ek : ∃ t, e.key = Value.str k t := by
          rcases keyIs_shape p1' with ⟨i, t, z, _⟩ | ⟨x, t, z, ek⟩
          · cases z
          · cases z
            exact ⟨t, ek⟩
        obtain ⟨t, ek⟩ := ek
        refine ⟨?_, ?_⟩
        · show ReadsAll s.heap (e.key :: _) (.str _ :: _) _
          rw [ek]
          exact ReadsAll.cons (Reads.str _ t) i1
        · show ReadsAll s.heap (e.val :: _) (.tuple _ :: _) _
          rw [p2]
          exact ReadsAll.cons (reads_tupI I hv e2) i2
end
def rReprK (K : PySem.W.Frag) : List V → Hp → VK → Prop := fun xs H Q => ∃ (a : Addr) (kvs : List (Key × V)) (q : List (Str × List Int)), xs = [.ref a] ∧ H a = some (.dK kvs) ∧ DkI K H kvs q ∧
  (dkD q).showable = true ∧ (dkD q).depth ≤ 60 ∧ (dkD q).shown.length ≤ sizeLine ∧ Q (.str (dkD q).shown) H
theorem cr_reprK {X : Cx} (hg : X.A.guards = some []) (hu : X.A.units + 66 < cLine) : CallR X (.builtin "repr") (rReprK X.K) := by
  intro pins s σ H xs us Q I r h
  obtain ⟨a, kvs, q, rfl, ha, hk, hw, hdp, hz, hq⟩ := h
  obtain ⟨u, rfl, ru⟩ := vals1 r
  cases ru
  obtain ⟨_, ns, vs, kv, o, es, ep, ho, hx, hd, _, hp, _⟩ := (show ObjOk X.prog X.w H s.heap a (.dK kvs) from I.hok a _ ha)
  obtain ⟨r1, r2⟩ := reads_dk I hk kv hp
  have rd : Reads s.heap (.ref a) (dkD q) (a :: [] ++ []) := Reads.dict ho hx.1 hd (by rw [List.map_map]; exact r1) (by rw [List.map_map]; exact r2)
  refine repr_of_reads' rd hw (fun _ => ?_) hg (by omega) (fun _ _ e => e) (fun h' z tk hk => ⟨.str _, H, I.kept hk, ⟨_, rfl⟩, hq⟩) hz
  intro z
  have e : sysModules = a := by simpa using z
  rw [← e] at ns
  simp at ns
/-- repr of data, or of such a dict -/
def rReprX (K : PySem.W.Frag) : List V → Hp → VK → Prop := fun xs H Q => rRepr K xs H Q ∨ rReprK K xs H Q
theorem cr_reprX {X : Cx} (hg : X.A.guards = some []) (hu : X.A.units + 66 < cLine) : CallR X (.builtin "repr") (rReprX X.K) := by
  intro pins s σ H xs us Q I r h
  rcases h with h | h
  · exact cr_repr hg hu pins s σ H xs us Q I r h
  · exact cr_reprK hg hu pins s σ H xs us Q I r h
end MM

set_option Elab.async false
set_option maxRecDepth 100000
set_option maxHeartbeats 2000000
set_option linter.all false
/-! calls that may raise; a lambda handed to a def, where nothing is being shown; a def in a variable -/
namespace ME
open PySem PySem.Spec PyProof.Rows L2 LamX MM

section
variable {X : Cx} {CX : CXT} {k : Nat} {ps : List Str} {sp : Sp} {E : L2.St → XK} {x a : Str} {p pos : Pos} {e : Expr} {es : List Expr} {t : TA}
/-- f(e, ..), f a def of the text that may raise -/
def tDS (sp : Sp) (E : L2.St → XK) (t : TA) : TE := fun σ H Q => t σ H fun vs H1 => sp vs H1 Q (E σ)
theorem call_gS {f : Addr} {fd : FuncData} {pins : List (Addr × Obj)} {σ : L2.St} {H : Hp} {s : Shared} {Q : VK} {us : List Value} {vs : List V}
    (F : FnG X.prog X.w X.K X.mg X.base CX k f fd ps sp) (hr : Rm k X.A) (hb : Binds X.K fd ps []) (hx : PassesAt CX X σ (E σ))
    (I : Inv X pins σ H s) (r : Vals vs us) (h : sp vs H Q (E σ)) :
    wpAny (model X.prog X.w) X.A (call (.ref f) us) (EP X pins σ Q) X.xe s := by
  have nl : (us ++ []).length = ps.length := by
    rw [List.append_nil, ← r.length]
    exact F.arity h
  have bd := hb s us I.kIn nl
  rw [List.append_nil] at bd
  refine wpAny_call (codeAny_mono (F.runs hr I.env0 bd r h) ?_)
  intro res s' hq
  cases res with
  | error e => exact hx pins H s e s' I hq
  | ok fl =>
    cases fl with
    | ret u => exact I.after hq
    | next => exact hq.elim
    | brk => exact hq.elim
    | cont => exact hq.elim
theorem pe_dS (D : Def X.prog X.w X.K X.mg X.base CX k x ps sp) (hr : Rm k X.A) (hx : ∀ σ, PassesAt CX X σ (E σ)) (ha : PA X (e :: es) t)
    (hg : Gl X x := by rfl) (hdb : (x == ("__debug__" : Str)) = false := by decide)
    (he : starEach (e :: es) X.env = (false, eval e X.env) :: starEach es X.env := by rfl)
    (hpl : (backTo pos (starEach es X.env)).any (·.1) = false := by rfl) : PE X (.Call (.Name x p) (e :: es) [] pos) (tDS sp E t) := by
  obtain ⟨f, fd, F, hm, hk, hb, _⟩ := D
  constructor
  intro pins s σ H Q I h
  refine wpAny_Call_Name_kw (ld_glob I hg hm ?_ hdb)
  refine PySem.W.callWith_K (h₀ := X.base) I.ok.mod.kin hk ?_ he hpl
  exact thn (ha.run pos pins s σ H _ I h) fun us s1 ⟨vs, H1, I1, r, q⟩ => ⟨I1.kIn, call_gS F hr hb (hx σ) I1 r q⟩
/-- a(e, ..), a a variable that holds a def of the text: G tells which, and what it promises -/
def tVia (K : PySem.W.Frag) (i : Nat) (G : Addr → Sp → Prop) (E : L2.St → XK) (t : TA) : TE := fun σ H Q =>
  ∃ f sp, σ[i]? = some (some (.ref f)) ∧ G f sp ∧ t σ H fun vs H1 => sp vs H1 Q (E σ)
theorem pe_via {i : Nat} {G : Addr → Sp → Prop}
    (hG : ∀ f sp, G f sp → PySem.W.keepIn X.K (.ref f) = true ∧ ∃ fd k ps, FnG X.prog X.w X.K X.mg X.base CX k f fd ps sp ∧ Rm k X.A ∧ Binds X.K fd ps [])
    (hx : ∀ σ, PassesAt CX X σ (E σ)) (ha : PA X (e :: es) t) (hN : X.N[i]? = some a) (hv : Vis X.env.scope a)
    (hdb : (a == ("__debug__" : Str)) = false := by decide) (hcd : (a == ("__classdict__" : Str)) = false := by decide)
    (he : starEach (e :: es) X.env = (false, eval e X.env) :: starEach es X.env := by rfl)
    (hpl : (backTo pos (starEach es X.env)).any (·.1) = false := by rfl) :
    PE X (.Call (.Name a p) (e :: es) [] pos) (tVia X.K i G E t) := by
  constructor
  intro pins s σ H Q I h
  obtain ⟨f, sp, hs, g, h⟩ := h
  obtain ⟨hk, fd, k, ps, F, hr, hb⟩ := hG f sp g
  refine wpAny_Call_Name_kw (thn ((pe_var (pos := p) (i := i) hN hv hdb hcd).run pins s σ H (fun v H1 => v = .ref f ∧ H1 = H) I ⟨.ref f, hs, rfl, rfl⟩) ?_)
  rintro u s1 ⟨v, H1, I1, r1, rfl, rfl⟩
  obtain rfl : u = Value.ref f := r1
  refine PySem.W.callWith_K (h₀ := X.base) I1.ok.mod.kin hk ?_ he hpl
  exact thn (ha.run pos pins s1 σ H1 _ I1 h) fun us s2 ⟨vs, H2, I2, r, q⟩ => ⟨I2.kIn, call_gS F hr hb (hx σ) I2 r q⟩
end

section
variable {X : Cx} {pins : List (Addr × Obj)} {σ : L2.St} {H : Hp} {s : Shared}
/-- the def that got the lambda calls it -/
theorem act {Eg : XK} {CXg : CXT} {Ng : List Str} {qg : Str} {sg : Scope} {g f c' : Addr} {cdg pm ctv : Value} {params : Arguments}
    {body : Expr} {scope : Scope} {k i : Nat} {a : Str} {pn : List (Addr × Obj)} {xe : Value → Shared → Prop} {W : WX} {E : XK} {tb : TE}
    {p1 p2 : Pos} (I : Inv X pins σ H s) (L : LamS X.env.scope scope)
    (hf : s.heap.get? f = some (PySem.W.kla_obj "<lambda>" (X.env.qual ++ "<lambda>") params body scope (cloFrom X.env.cells scope.names []) pm c' ctv))
    (hfn : H f = none) (hfr : f ∉ frs X.stack)
    (hbind : bindArgs (PySem.W.kla_fn "<lambda>" (X.env.qual ++ "<lambda>") params body scope (cloFrom X.env.cells scope.names []) pm (.ref c') ctv) ⟨[], []⟩ = pure [])
    (tk : Takes ((cxOf CXg X.prog X.w X.K X.mg X.base Ng qg sg g cdg X.A X.stack s H Eg).tr pn xe) W)
    (hW : ∀ cls d σ' H', E cls d H' → W cls d σ' H') (hr : Rm (k + 1) (X.A.deeper (envOfC qg sg s.heap.objs.size g cdg)))
    (hbody : ∀ (A : Around) (outer : List Env) (s : Shared) (H : Hp), Rm k (A.deeper (lamEnv X scope s.heap.objs.size f c')) →
      PE (lamCx X A outer s H E scope f c') body tb)
    (hN : Ng[i]? = some a) (hv : Vis sg a) (hd : (a == ("__debug__" : Str)) = false := by decide)
    (hcd : (a == ("__classdict__" : Str)) = false := by decide) :
    PE ((cxOf CXg X.prog X.w X.K X.mg X.base Ng qg sg g cdg X.A X.stack s H Eg).tr pn xe) (.Call (.Name a p1) [] [] p2)
      (fun σZ HZ Q => σZ[i]? = some (some (.ref f)) ∧ HZ c' = some (CodeO c' (X.env.qual ++ "<lambda>")) ∧ tb σ HZ Q) := by
  constructor
  intro pinsZ sZ σZ HZ Q IZ h
  obtain ⟨hs, hc, ht⟩ := h
  refine wpAny_Call_Name_kw (thn ((pe_var (pos := p1) (i := i) hN hv hd hcd).run pinsZ sZ σZ HZ (fun v H1 => v = .ref f ∧ H1 = HZ) IZ ⟨.ref f, hs, rfl, rfl⟩) ?_)
  rintro u s1 ⟨v, H1, I1, r1, rfl, eH⟩
  rw [eH] at I1
  obtain rfl : u = Value.ref f := r1
  have there := I1.base.keep f _ hf hfn hfr (fun z => nomatch (show f ∈ ([] : List Addr) from z))
  refine PySem.W.callWith_F0 ⟨_, _, _, _, there⟩ ?_
  obtain ⟨⟨oc, vs, t, hoc, hdc, hvc⟩, _, _⟩ := I1.hok c' _ hc
  have run : codeAny (model X.prog X.w) (X.A.deeper (envOfC qg sg s.heap.objs.size g cdg)) (.call (.ref f) ⟨[], []⟩)
      (CR (L2.CX X.prog X.w) (envOfC qg sg s.heap.objs.size g cdg :: X.stack) X.prog X.w HZ s1 Q E) s1 := by
    refine PySem.W.kla_callFunE hr.room.depth there rfl L.co L.gen rfl ⟨c', oc, vs, t, rfl, hoc, hdc, hvc⟩ ?_
    rw [hbind]
    refine wpAny_pure (wpAny_newFunctionEnv (fun y hy => (L.own y hy).2) (fun y hy => absurd hy (by simp)) (fun h₁ hns hsb => ⟨I1.nolimit.fresh _ hsb, ?_⟩) L.kind)
    show codeAny _ _ (.expr body (lamEnv X scope s1.heap.objs.size f c')) _ _
    have kp : ∀ b o, s1.heap.get? b = some o → h₁.get? b = some o := by
      intro b o z
      exact hsb.extBut b o (Nat.ne_of_lt (Heap.lt_size z)) (Heap.get?_push_of_some _ z)
    have J := lam_start2 (E := E) (f := f) (c' := c') (tk := s1.toks + ([] : List (Str × Value)).length) I L I1.env0 hr.room.hd I1.base hns kp
    refine PySem.W.kla_codeExpr (wpAny_mono ((hbody _ _ s1 HZ hr.down).run [] _ _ HZ Q J ht) ?_ fun e s' hq => hq)
    rintro v s' ⟨w', H', J', rv, q⟩
    exact ⟨w', H', J'.os, J'.bare, J'.base, J'.hok, rv, q⟩
  refine wpAny_call (codeAny_mono run fun r s' hq => ?_)
  cases r with
  | error e => exact passes_call tk hW pinsZ σZ HZ s1 e s' I1 hq
  | ok fl =>
    cases fl with
    | ret u => exact I1.after hq
    | next => exact hq.elim
    | brk => exact hq.elim
    | cont => exact hq.elim
/-- x(lambda: body), x a def of the text -/
theorem pe_lam {T : List (Addr × Str)} {TT : (XK → Hp → VK → Prop) → Hp → VK → Prop} {x a : Str} {c P : Addr} {k : Nat} {st : Stmt}
    {Ng : List Str} {params : Arguments} {body : Expr} {scope : Scope} {t : XK → TE} {p lpos pos : Pos} (D : At X.K X.mg x st)
    (hb : ∀ (kV doc pm : Value) (an : Option Addr) (cd ct : Value) (us : List Value), us.length = [a].length →
      bindArgs (PySem.W.fnOf x x (defArgs st) (defBody st) (defScope st) .none kV doc pm an cd ct) ⟨us, []⟩ = pure ([a].zip us))
    (Sg : FnScope Ng [a] (defScope st)) (hNg : Ng[0]? = some a) (hva : Vis (defScope st) a)
    (hG : ∀ g cd, GivesTo X Ng x (defScope st) g cd (defBody st) a (X.env.qual ++ "<lambda>") TT)
    (TB : TabB X.base X.mg c P) (hcode : X.env.code = .ref c) (hmT : (P, X.env.qual ++ "<lambda>") ∈ T)
    (hu : ∀ p ∈ T, p.1 = P → p.2 = X.env.qual ++ "<lambda>") (hr : Rm (k + 2) X.A) (L : LamS X.env.scope scope)
    (hdef : defaultsOf params X.env = ([], []))
    (hbind : ∀ (q : Str) (cl : List (Str × Addr)) (pm cv ctv : Value), bindArgs (PySem.W.kla_fn "<lambda>" q params body scope cl pm cv ctv) ⟨[], []⟩ = pure [])
    (hbody : ∀ (A : Around) (outer : List Env) (s : Shared) (H : Hp) (E : XK) (f c' : Addr), Rm k (A.deeper (lamEnv X scope s.heap.objs.size f c')) →
      PE (lamCx X A outer s H E scope f c') body (t E))
    (hg : Gl X x := by rfl) (hdb : (x == ("__debug__" : Str)) = false := by decide) (hd : (a == ("__debug__" : Str)) = false := by decide)
    (hcd : (a == ("__classdict__" : Str)) = false := by decide) :
    PE X (.Call (.Name x p) [.Lambda params body scope lpos] [] pos) (tLam T TT t) := by
  obtain ⟨fd, F⟩ := D.fn
  have bnd := F.bindsN hb
  obtain ⟨oc, od, dV, kV, doc, pm, an, cdv, ct, osl, rfl, lk, hcg, _⟩ := F.ex
  constructor
  intro pins s σ H Q I h
  obtain ⟨hT, h⟩ := h
  refine wpAny_Call_Name_kw (ld_glob I hg D.glo ?_ hdb)
  refine PySem.W.callWith_K (h₀ := X.base) I.ok.mod.kin F.kp ?_ (by rfl) (by rfl)
  show wpAny _ _ (spliced ((false, eval (.Lambda params body scope lpos) X.env) :: backTo pos (starEach [] X.env))) _ _ s
  refine Calls.spliced_cons (lam_make2 I TB hcode hmT hu hT hdef (L.has I.ok) ?_)
  intro f c' pm' ctv H1 s' I1 eN T1 hf hfn hfr hco
  refine Calls.spliced_nil ⟨I1.kIn, ?_⟩
  have run : codeAny (model X.prog X.w) X.A (.call (.ref (He.ga X.K x)) ⟨[.ref f], []⟩) (CR C8.CX0 X.stack X.prog X.w H1 s' Q C8.E0) s' := by
    refine run_ofS (N := Ng) (ps := [a]) (us := [.ref f]) (vs := [.ref f]) lk hcg Sg (hr.le (Nat.le_refl _)).room I1.env0 (bnd s' [.ref f] I1.kIn rfl) (.cons rfl .nil) rfl fun _ => ?_
    obtain ⟨t', ht', hq'⟩ := hG _ _ f c' s' H1 Q (fun E H' Q' => t E σ H' Q')
      (fun W pn xe E p1 p2 tk hW => act (i := 0) I1 L hf hfn hfr (hbind _ _ _ _ _) tk hW hr.down (fun A outer s H hr2 => hbody A outer s H E f c' hr2) hNg hva hd hcd)
      hco (h H1 eN T1)
    exact ⟨t', ht'.nox, hq'⟩
  refine wpAny_call (codeAny_mono run fun r s2 hq => ?_)
  cases r with
  | error e => exact (show False from hq).elim
  | ok fl =>
    cases fl with
    | ret u => exact I1.after hq
    | next => exact hq.elim
    | brk => exact hq.elim
    | cont => exact hq.elim
end
end ME

set_option Elab.async false
set_option maxRecDepth 100000
set_option maxHeartbeats 2000000
set_option linter.all false
/-! the law's end where its text makes lambdas: the tables of their code objects are written -/
namespace ME
open PySem PySem.Spec PyProof.Rows L2 LamX MM

/-- the heap as it is told: the script, and empty tables -/
structure Told (cs : List (Addr × Addr)) (a : Addr) (ns : List Int) (K : PySem.W.Frag) (H : Hp) : Prop where
  tabs : ∀ p ∈ cs, H p.2 = some (.tbl #[])
  seq : SqL K H a (ns.map V.int)
  each : ∀ b, H b = none ∨ b ∈ cs.map (·.2) ∨ (b = a ∧ ∃ o xs, H b = some (.frz o (.lst xs)))
  out : H a ≠ none → K.lookup a = none
section
variable {P : Program} {w : World} {K : PySem.W.Frag} {mg mb : Str → Option Value} {CX : CXT} {k : Nat} {fa a : Addr}
  {fd : FuncData} {x : Str} {sp : Sp} {s : Shared} {vs : List Value} {ns : List Int} {cs : List (Addr × Addr)}
theorem tab_core {H : Hp} (KX : K.In s.heap) (hns : s.heap.Ns mainGlobals mg) (hb : s.heap.Ns builtinsNs mb)
    (hbb : ∀ y : Str, y ≠ "__name__" → mb y = bootBuiltins y) (nl : s.heap.NoLimit) (hg : s.gens = #[])
    (hT : ∀ p ∈ cs, s.heap.get? p.2 = some { cls := .none, data := .fields #[] }) (nT : ∀ p ∈ cs, K.lookup p.2 = none)
    (C : ∀ p ∈ cs, PySem.W.CodeHd s.heap p.1 p.2)
    (hbm : ∃ (bm : Addr) (ob : Obj), mg "__builtins__" = some (.ref bm) ∧ bm ≠ builtinsNs ∧ s.heap.get? bm = some ob ∧
      ob.cls = .type "module" ∧ ob.dict = some builtinsNs ∧ ob.data = .plain)
    (ha : s.heap.get? a = some { cls := .type "list", data := .seq vs.toArray }) (hr : Rm k callerA)
    (F : ∀ base : Heap, K.In base → base.Ns mainGlobals mg → (∀ p ∈ cs, TabB base mg p.1 p.2) → FnG P w K mg base CX k fa fd [x] sp)
    (hbind : ∀ (s : Shared) (u : Value), BindsTo s fd ⟨[u], []⟩ [(x, u)])
    (hsp : sp [.ref a] H (fun v _ => v = .bl true) fun _ _ _ => False)
    (hCX : ∀ e s', CX [] H s (fun _ _ _ => False) e s' → False) (T : Told cs a ns K H) (ok : HOk P w H s.heap) :
    codeAny (model P w) callerA (.call (.ref fa) ⟨[.ref a], []⟩) (LawEnd s) s := by
  have isTab : ∀ b, b ∈ cs.map (·.2) → ∃ p ∈ cs, b = p.2 := by
    intro b hb
    obtain ⟨p, hp, rfl⟩ := List.mem_map.mp hb
    exact ⟨p, hp, rfl⟩
  -- what is neither a list nor an empty record is not told
  have free : ∀ {b : Addr} {o : Obj}, s.heap.get? b = some o → (∀ y n, o.data ≠ .seq y n) → o.data ≠ .fields #[] → H b = none := by
    intro b o e n1 n2
    rcases T.each b with z | z | ⟨rfl, _⟩
    · exact z
    · obtain ⟨p, hp, rfl⟩ := isTab b z
      rw [hT p hp] at e
      cases e
      exact absurd rfl n2
    · rw [ha] at e
      cases e
      exact absurd rfl (n1 _ _)
  have dict : ∀ {b : Addr} {o : Obj} {es : Array DictEntry} {ep : Nat}, s.heap.get? b = some o → o.data = .dict es ep → H b = none := by
    intro b o es ep e d
    refine free e ?_ ?_
    · intro y n z
      rw [d] at z
      cases z
    · intro z
      rw [d] at z
      cases z
  have sees : ∀ {b : Addr} {m : Str → Option Value}, s.heap.Ns b m → (hidT s.heap H).Ns b m := by
    rintro b m ⟨o, es, ep, e, d, r⟩
    exact ⟨o, es, ep, hidT_get e (dict e d), d, r⟩
  have inB : K.In (hidT s.heap H) := by
    intro b o e
    refine hidT_get (KX b o e) ?_
    rcases T.each b with z | z | ⟨rfl, o', xs, z⟩
    · exact z
    · obtain ⟨p, hp, rfl⟩ := isTab b z
      rw [nT p hp] at e
      cases e
    · rw [T.out (by rw [z]; exact Option.some_ne_none _)] at e
      cases e
  have md : Mod K mg (hidT s.heap H) := by
    obtain ⟨mc, l1, l2⟩ := nl
    exact ⟨inB, sees hns, ⟨mb, sees hb, hbb⟩, ⟨mc, sees l1, l2⟩⟩
  have glob : ∀ {b : Addr} {o : Obj}, s.heap.get? b = some o → (∀ es ep, o.data ≠ .dict es ep) → b ≠ mainGlobals := by
    rintro b o e no rfl
    obtain ⟨o', es, ep, e', d, _⟩ := hns
    rw [e] at e'
    cases e'
    exact no _ _ d
  have TB : ∀ p ∈ cs, TabB (hidT s.heap H) mg p.1 p.2 := by
    intro p hp
    constructor
    · obtain ⟨o, us, file, tf, flags, tg, inF, text, tt, e1, r1, r2, r3, rest⟩ := C p hp
      refine ⟨o, us, file, tf, flags, tg, inF, text, tt, hidT_get e1 (free e1 ?_ ?_), r1, r2, r3, rest⟩
      · intro y n z
        rw [r2] at z
        cases z
      · intro z
        rw [r2] at z
        cases z
        simp at r3
    · obtain ⟨bm, ob, b1, b2, b3, b4, b5, b6⟩ := hbm
      have n1 : bm ≠ mainGlobals := by
        refine glob b3 ?_
        intro es ep z
        rw [b6] at z
        cases z
      have n2 : bm ≠ p.2 := by
        rintro rfl
        rw [hT p hp] at b3
        cases b3
        cases b6
      refine ⟨bm, ob, b1, b2, n1, n2, hidT_get b3 (free b3 ?_ ?_), b4, b5, b6⟩
      · intro y n z
        rw [b6] at z
        cases z
      · intro z
        rw [b6] at z
        cases z
    · have := glob (hT p hp) (by intro es ep z; cases z)
      exact fun z => this z.symm
  have e0 : Env0 P w K mg (hidT s.heap H) callerA [] s H := by
    refine ⟨rfl, md, fun b o e => of_hidT e, Nat.le_of_eq (hidT_size _ _), trivial, ?_, ok, .of_eq hg⟩
    intro b z
    cases z
  have vv : Vals [V.ref a] [Value.ref a] := .cons rfl .nil
  refine codeAny_mono ((F _ inB (sees hns) TB).runs (us := [.ref a]) hr e0 (hbind s (.ref a)) vv hsp) ?_
  intro r t h
  cases r with
  | error e => exact (hCX e t h).elim
  | ok fl =>
    cases fl with
    | next => exact h.elim
    | brk => exact h.elim
    | cont => exact h.elim
    | ret u =>
      obtain ⟨v, H', os, bare, un, ok', rv, q⟩ := h
      have q2 : v = .bl true := q
      subst q2
      have eu : u = Value.bool true := rv
      subst eu
      have grown : ∀ p ∈ cs, ∃ more : Array Value, t.heap.get? p.2 = some { cls := .none, data := .fields more } := by
        intro p hp
        obtain ⟨more, z⟩ := un.tbls p.2 #[] (T.tabs p hp)
        exact ⟨_, ok' p.2 _ z⟩
      have kept : ∀ b o, b ∉ cs.map (·.2) → s.heap.get? b = some o → t.heap.get? b = some o := by
        intro b o nb e
        rcases T.each b with z | z | ⟨rfl, o', xs, z⟩
        · exact un.keep b o e z (by intro z; cases z) (by intro z; cases z)
        · exact absurd z nb
        · have e1 := (ok b _ z).1
          have e2 := (ok' b _ (un.frzs b o' _ z)).1
          rw [e] at e1
          cases e1
          exact e2
      refine ⟨rfl, ⟨?_, ?_⟩, os, bare⟩
      · intro b o e
        by_cases hb : b ∈ cs.map (·.2)
        · obtain ⟨p, hp, rfl⟩ := isTab b hb
          obtain ⟨more, hm⟩ := grown p hp
          rw [hT p hp] at e
          cases e
          exact .inr (.inl ⟨((C p hp).tab (hT p hp)).isCodeTable, rfl, #[], more, rfl, by rw [Array.empty_append]; exact hm⟩)
        · exact .inl (kept b o hb e)
      · intro b o e
        by_cases hb : b ∈ cs.map (·.2)
        · obtain ⟨p, hp, rfl⟩ := isTab b hb
          obtain ⟨more, hm⟩ := grown p hp
          exact ⟨_, hm⟩
        · exact ⟨o, kept b o hb e⟩
theorem law_tab (KX : K.In s.heap) (hns : s.heap.Ns mainGlobals mg) (hb : s.heap.Ns builtinsNs mb)
    (hbb : ∀ y : Str, y ≠ "__name__" → mb y = bootBuiltins y) (nl : s.heap.NoLimit) (hg : s.gens = #[])
    (hT : ∀ p ∈ cs, s.heap.get? p.2 = some { cls := .none, data := .fields #[] }) (nT : ∀ p ∈ cs, K.lookup p.2 = none)
    (C : ∀ p ∈ cs, PySem.W.CodeHd s.heap p.1 p.2)
    (hbm : ∃ (bm : Addr) (ob : Obj), mg "__builtins__" = some (.ref bm) ∧ bm ≠ builtinsNs ∧ s.heap.get? bm = some ob ∧
      ob.cls = .type "module" ∧ ob.dict = some builtinsNs ∧ ob.data = .plain)
    (ha : s.heap.get? a = some { cls := .type "list", data := .seq vs.toArray }) (hi : IntsAre vs ns) (hl : ns.length ≤ sizeLine)
    (hr : Rm k callerA)
    (F : ∀ base : Heap, K.In base → base.Ns mainGlobals mg → (∀ p ∈ cs, TabB base mg p.1 p.2) → FnG P w K mg base CX k fa fd [x] sp)
    (hbind : ∀ (s : Shared) (u : Value), BindsTo s fd ⟨[u], []⟩ [(x, u)])
    (hsp : ∀ H : Hp, (∀ p ∈ cs, H p.2 = some (.tbl #[])) → SqL K H a (ns.map V.int) → sp [.ref a] H (fun v _ => v = .bl true) fun _ _ _ => False)
    (hCX : ∀ H e s', CX [] H s (fun _ _ _ => False) e s' → False) :
    codeAny (model P w) callerA (.call (.ref fa) ⟨[.ref a], []⟩) (LawEnd s) s := by
  have rv := vals_ints hi
  have nv := hi.length
  have apart : a ∉ cs.map (·.2) := by
    intro z
    obtain ⟨p, hp, e⟩ := List.mem_map.mp z
    have h1 := hT p hp
    rw [e, ha] at h1
    cases h1
  have mem : ∀ p ∈ cs, p.2 ∈ cs.map (·.2) := fun p hp => List.mem_map.mpr ⟨p, hp, rfl⟩
  have tabOk : ∀ b, b ∈ cs.map (·.2) → s.heap.get? b = some { cls := .none, data := .fields #[] } := by
    intro b hb
    obtain ⟨p, hp, rfl⟩ := List.mem_map.mp hb
    exact hT p hp
  have go : ∀ H, Told cs a ns K H → HOk P w H s.heap → codeAny (model P w) callerA (.call (.ref fa) ⟨[.ref a], []⟩) (LawEnd s) s :=
    fun H T ok => tab_core KX hns hb hbb nl hg hT nT C hbm ha hr F hbind (hsp H T.tabs T.seq) (hCX H) T ok
  cases fr : K.lookup a with
  | some o =>
    have e := KX a o fr
    rw [ha] at e
    cases e
    refine go (fun b => if b ∈ cs.map (·.2) then some (.tbl #[]) else none) ⟨fun p hp => if_pos (mem p hp), ?_, ?_, ?_⟩ ?_
    · refine .inr ⟨_, vs.toArray, _, fr, rfl, rfl, rfl, ?_, by simpa using rv⟩
      rw [List.size_toArray, nv]
      exact hl
    · intro b
      by_cases hb : b ∈ cs.map (·.2)
      · exact .inr (.inl hb)
      · exact .inl (if_neg hb)
    · intro z
      exact absurd (if_neg apart) z
    · intro b u z
      by_cases hb : b ∈ cs.map (·.2)
      · have z1 := (if_pos hb).symm.trans z
        cases z1
        exact tabOk b hb
      · have z1 := (if_neg hb).symm.trans z
        cases z1
  | none =>
    refine go (fun b => if b = a then some (.frz { cls := .type "list", data := .seq vs.toArray } (.lst (ns.map V.int)))
      else if b ∈ cs.map (·.2) then some (.tbl #[]) else none) ⟨?_, ?_, ?_, ?_⟩ ?_
    · intro p hp
      have ne : ¬ p.2 = a := fun z => apart (z ▸ mem p hp)
      exact (if_neg ne).trans (if_pos (mem p hp))
    · exact .inl (.inr ⟨_, if_pos rfl⟩)
    · intro b
      by_cases e : b = a
      · exact .inr (.inr ⟨e, _, _, if_pos e⟩)
      · by_cases hb : b ∈ cs.map (·.2)
        · exact .inr (.inl hb)
        · exact .inl ((if_neg e).trans (if_neg hb))
    · exact fun _ => fr
    · intro b u z
      by_cases e : b = a
      · have z1 := (if_pos e).symm.trans z
        cases z1
        subst e
        refine ⟨ha, ?_, vs, _, rv, ha⟩
        rw [List.length_map]
        exact hl
      · have z1 := (if_neg e).symm.trans z
        by_cases hb : b ∈ cs.map (·.2)
        · have z2 := (if_pos hb).symm.trans z1
          cases z2
          exact tabOk b hb
        · have z2 := (if_neg hb).symm.trans z1
          cases z2
end
/-- the head's end, with tables -/
theorem walk_tab {l : PySem.W.OpenLaw} {n k : Nat} {q : Program} {loose : List Str} {XP : (Str → Option Value) → Heap → Prop}
    {YP : World → Heap → Prop} {d : DefRec} {CX : World → CXT} {x : Str}
    (hn : l.most = some n) (hn2 : n ≤ sizeLine) (hdf : d.params.defaults = []) (hr : Rm k callerA)
    (F : ∀ (w : World) (mg : Str → Option Value) (fa : Addr) (h : Heap), YP w h → h.Ns mainGlobals mg → mg d.name = some (.ref fa) →
      ∃ (K : PySem.W.Frag) (fd : FuncData) (sp : Sp) (cs : List (Addr × Addr)), K.In h ∧
        (∀ p ∈ cs, h.get? p.2 = some { cls := .none, data := .fields #[] }) ∧ (∀ p ∈ cs, K.lookup p.2 = none) ∧
        (∀ p ∈ cs, PySem.W.CodeHd h p.1 p.2) ∧ (∀ (s : Shared) (u : Value), BindsTo s fd ⟨[u], []⟩ [(x, u)]) ∧
        (∀ (H : Hp) (a : Addr) (ns : List Int), ns.length ≤ n → (∀ p ∈ cs, H p.2 = some (.tbl #[])) → SqL K H a (ns.map V.int) →
          sp [.ref a] H (fun v _ => v = .bl true) fun _ _ _ => False) ∧
        ∀ base : Heap, K.In base → base.Ns mainGlobals mg → (∀ p ∈ cs, TabB base mg p.1 p.2) → FnG l.prog w K mg base (CX w) k fa fd [x] sp)
    (hCX : ∀ (w : World) (H : Hp) (s : Shared) (e : Value) (s' : Shared), CX w [] H s (fun _ _ _ => False) e s' → False) :
    PySem.W.WalkO q loose XP YP l.row.toRowW d [] (fun f vs => PySem.call f vs) := by
  refine Att.attach_callB hn hdf ?_
  intro w s0 s1 mg mb fa o pm cd doc a vs ns G Y ho hd hcd hmg hobj hints hlen hbits hg
  obtain ⟨K, fd, sp, cs, KX, hT, nT, C, hb, hsp, hF⟩ := F w mg fa _ Y G.T.g hmg
  exact law_tab KX G.T.g G.T.b G.T.builtins G.T.nolimit hg hT nT C G.T.bmain hobj hints (Nat.le_trans hlen hn2) hr hF hb
    (fun H t hS => hsp H a ns hlen t hS) (fun H e s' => hCX w H s1 e s')
end ME

set_option Elab.async false
set_option linter.all false
set_option maxRecDepth 100000
set_option maxHeartbeats 2000000
/-! enumerate over a tuple -/
namespace MM
open PySem PySem.Spec PyProof.Rows L2
theorem made_enum {v : Value} {o : Obj} {G : Heap → Prop} (B : Begins v o G) :
    Meets (Builtin.«enumerate.__new__» ⟨[.type "enumerate", v], []⟩) (fun _ R t => G t.heap ∧
      R (.ok (.ret (.ref (t.heap.push o).objs.size))) { t with heap := (t.heap.push o).push { cls := .type "enumerate", data := .fields #[.none, .bool false, .ref t.heap.objs.size, rawInt 0, .none, .none] } }) :=
  .of_wp fun prog w A R t both => by
    obtain ⟨h0, g0, d0, k0, o0⟩ := t
    obtain ⟨at_v, out⟩ := both
    have sub := sub_enumerate
    have road : ∀ {A' : Around} {E : Value → Shared → Prop} {Q : Value → Shared → Prop}, Q (.ref h0.objs.size) ⟨h0.push o, g0, d0, k0, o0⟩ → wpAny (model prog w) A' (pyIter v) Q E ⟨h0, g0, d0, k0, o0⟩ :=
      fun q => B.iter prog w _ _ ⟨h0, g0, d0, k0, o0⟩ _ at_v q
    wp_walk using road
    refine wpAny_stack_any fun st => wpAny_pure ?_
    split
    · rename_i c _ _ _ _ _
      cases (c == Value.type "enumerate")
      all_goals
        wp_walk using road
        exact ⟨_, rfl, out⟩
    · wp_walk using road
      exact ⟨_, rfl, out⟩
theorem call_enumT {prog : Program} {w : World} {A : Around} {E : Value → Shared → Prop} {s : Shared} {a : Addr} {its : Array Value} {Q : Value → Shared → Prop} (ht : s.heap.IsTuple a its)
    (q : ∀ h', IsEnum h' (s.heap.objs.size + 1) s.heap.objs.size 0 .none → h'.IsTupleIter s.heap.objs.size a 0 → (∀ b o, s.heap.get? b = some o → h'.get? b = some o) →
      Q (.ref (s.heap.objs.size + 1)) { s with heap := h' }) : wpAny (model prog w) A (call (.type "enumerate") [.ref a]) Q E s := by
  have B := begins_tuple a its
  refine callType_new F.called_enumerate (by decide) (F.typeCall_enumerate_1 _) (F.newCall_enumerate_1 _) (fun obj => F.args_object_init_2 obj _) F.entry_enumerate_new (made_enum B) ⟨ht, ?_⟩
  have z : (s.heap.push { cls := .type "tuple_iterator", data := .fields #[.ref a, .int 0 0] }).objs.size = s.heap.objs.size + 1 := Heap.size_push ..
  show _ ∧ _
  rw [z]
  have at_e : IsEnum ((s.heap.push { cls := .type "tuple_iterator", data := .fields #[.ref a, .int 0 0] }).push { cls := .type "enumerate", data := .fields #[.none, .bool false, .ref s.heap.objs.size, rawInt 0, .none, .none] }) (s.heap.objs.size + 1) s.heap.objs.size 0 .none := by
    rw [← z]
    exact Heap.get?_push_size _ rfl
  exact ⟨⟨_, at_e, rfl⟩, q _ at_e ⟨_, Heap.get?_push_of_some _ (Heap.get?_push_size _ rfl), rfl, rfl⟩ fun b o k => Heap.get?_push_of_some _ (Heap.get?_push_of_some _ k)⟩
/-- the tuple at a, each item in a new pair -/
def Itu (K : PySem.W.Frag) (a : Addr) : It :=
  ⟨fun i H => ∃ xs x, SqT K H a xs ∧ xs[i]? = some x, fun i H v H' => ∃ T x, v = .ref T ∧ H T = none ∧ H' = upd H T (.tup [.int (i : Nat), x]) ∧ ∀ xs, SqT K H a xs → xs[i]? = some x, fun i H => ∃ xs, SqT K H a xs ∧ xs.length ≤ i⟩
theorem turn_enumT {P : Program} {w : World} {K : PySem.W.Frag} {elts : List Expr} {kk : Nat} {tpos : Pos} (a e it : Addr) :
    Turn P w K (.Tuple elts kk tpos) (Itu K a) [e, it] e (fun i h => (∃ old, IsEnum h e it ((i : Nat) : Int) old) ∧ h.IsTupleIter it a i ∧ e ≠ it) where
  mem := by simp
  obj := fun i h st b hb => by
    obtain ⟨⟨old, he⟩, ⟨o, ho, hc, hd⟩, _⟩ := st
    have two : b = e ∨ b = it := by simpa using hb
    rcases two with z | z
    · subst z
      exact ⟨_, he, fun v q => nomatch q⟩
    · subst z
      exact ⟨o, ho, fun v q => by rw [hd] at q; cases q⟩
  keep := fun i h h' st k => let ⟨⟨old, he⟩, hi, hne⟩ := st; ⟨⟨old, k e (by simp) _ he⟩, hi.at fun o q => k it (by simp) o q, hne⟩
  item := by
    intro X hP hw hK hc i pins s σ H E I hf st hg
    subst hP hw hK
    obtain ⟨⟨old, he⟩, hit, hne⟩ := st
    obtain ⟨xs, x, hq, hx⟩ := hg
    obtain ⟨its, rv, p, hz⟩ := I.tuple hq
    obtain ⟨u, hu, ru⟩ := rv.get hx
    have el : e < s.heap.objs.size := Heap.lt_size he
    have il : it < s.heap.objs.size := by obtain ⟨_, q, _⟩ := hit; exact Heap.lt_size q
    have pt : s.heap.IsTuple a its.toArray := p
    have ait : a ≠ it := fun z => by
      obtain ⟨o1, g1, c1, _⟩ := id pt
      obtain ⟨o2, g2, c2, _⟩ := id hit
      rw [z, g2] at g1
      cases g1
      rw [c2] at c1
      exact absurd (Value.type.inj c1) (by decide)
    have ae : a ≠ e := fun z => by
      obtain ⟨o1, g1, c1, _⟩ := id pt
      rw [z, show s.heap.get? e = some _ from he] at g1
      cases g1
      exact absurd (Value.type.inj c1) (by decide)
    have D := Draws.tuple (prog := X.prog) (w := X.w) (A := X.A.in1) (I.ok.hd hc) it a ait its.toArray
    have lt : i < its.toArray.size := by
      have := (List.getElem?_eq_some_iff.mp hu).1
      rw [List.size_toArray]
      exact this
    refine wpAny_pyNext_enum_itemC D he ⟨hit, pt⟩ lt hne (by simp [hne, ae.symm]) fun y h' tk hy ho st' hT hsz hk => ?_
    have ey : y = u := by
      have hy' : its.toArray[i]? = some y := hy
      rw [List.getElem?_toArray, hu] at hy'
      exact (Option.some.inj hy').symm
    subst ey
    refine ⟨_, rfl, wpAny_letOwnedTupleGo_enum (s := { s with heap := h', toks := tk + 1 }) ho fun h'' he' sb => ?_⟩
    have hT2 : h''.get? s.heap.objs.size = some { cls := .type "tuple", data := .seq #[.int i tk, y] } := (sb.2 _ (Nat.ne_of_gt el)).trans hT
    have new : ObjOk X.prog X.w (upd H s.heap.objs.size (.tup [.int (i : Nat), x])) h'' s.heap.objs.size (.tup [.int (i : Nat), x]) :=
      ⟨(by decide : 2 ≤ sizeLine), [.int i tk, y], .cons ⟨_, rfl⟩ (.cons ru .nil), ⟨_, hT2, rfl, _, rfl⟩⟩
    have I1 : Inv X pins σ (upd H s.heap.objs.size (.tup [.int (i : Nat), x])) { s with heap := h'', toks := tk + 1 } :=
      I.turnedNew (ch := [e, it]) (fun b ob hb q => (sb.2 b fun z => hb (by simp [z])).trans (hk b ob (fun z => hb (by simp [z])) (fun z => hb (by simp [z])) q)) hf (Nat.le_refl _) new
    have it2 : h''.IsTupleIter it a (i + 1) := st'.1.at fun o q => (sb.2 it (Ne.symm hne)).trans q
    refine ⟨.ref s.heap.objs.size, _, I1, rfl, ⟨_, x, rfl, I.hok.fresh (Nat.le_refl _), rfl, fun ys hy => by rw [I.tuple_inj hy hq]; exact hx⟩, ⟨⟨y, he'⟩, it2, hne⟩, fun b hb => ?_⟩
    have bl : b < s.heap.objs.size := by
      have two : b = e ∨ b = it := by simpa using hb
      rcases two with z | z <;> subst z <;> assumption
    rw [upd_ne (Nat.ne_of_lt bl)]
    exact (hf b hb).1
  done := by
    intro X hP hw hK hc i pins s σ H E I hf st hg
    subst hP hw hK
    obtain ⟨⟨old, he⟩, hit, hne⟩ := st
    obtain ⟨xs, hq, hx⟩ := hg
    obtain ⟨its, rv, p, hz⟩ := I.tuple hq
    have pt : s.heap.IsTuple a its.toArray := p
    obtain ⟨f0, f1, f2, f3, f4, f5⟩ := hf it (by simp)
    have over : its.toArray[i]? = none := by
      have := rv.length
      rw [List.getElem?_toArray]
      exact List.getElem?_eq_none (by omega)
    have D : Draws X.prog X.w X.A.in1 it [it, a] i (fun _ _ => True) (fun j h => j = i ∧ h.IsTupleIter it a j ∧ h.IsTuple a its.toArray) :=
      { live := fun _ _ st => let ⟨o, ho, _⟩ := st.2.1; ⟨o, ho⟩
        frame := fun _ _ _ st k => ⟨st.1, st.2.1.at fun o e => k it (by simp) o e, st.2.2.at fun o e => k a (by simp) o e⟩
        item := fun j s Q E lt st _ => absurd st.1 (Nat.ne_of_lt lt)
        done := fun s Q E st out => wpAny_nextOf_tuple_end (I.ok.hd hc) st.2.1 st.2.2 (by rw [st.1]; exact over) out }
    exact wpAny_pyNext_enum_endD D he ⟨rfl, hit, pt⟩ fun h' eb => ⟨rfl, I.turned (t' := s.toks) (fun b o hb q => eb b o hb q) f0 f1 f3 f4 f5⟩
  self := fun A i s Q E st h => let ⟨⟨_, he⟩, _⟩ := st; wpAny_pyIter_enum he h
def iEnumT (K : PySem.W.Frag) (ta : TA) : TI := fun σ H R => ta σ H fun vs H1 => ∃ a xs, vs = [.ref a] ∧ SqT K H1 a xs ∧ R (Itu K a) H1
theorem pi_enumT {X : Cx} {e : Expr} {ta : TA} {p pos tpos : Pos} {elts : List Expr} {kk : Nat} (hg : Gl X "enumerate") (hm : X.mg "enumerate" = none) (ha : PA X [e] ta)
    (hs : starEach [e] X.env = [(false, eval e X.env)] := by rfl) : PI X (.Tuple elts kk tpos) (.Call (.Name "enumerate" p) [e] [] pos) (iEnumT X.K ta) := by
  refine ⟨fun pins s σ H R I h => ?_⟩
  refine Call_ (ld_blt I hg hm boot_enumerate (PyProof.Rows.callWith_type1 (thn (ha.run pos pins s σ H _ I h) fun us s1 ⟨vs, H1, I1, r1, a, xs, ex, hq, q⟩ => ?_) hs rfl))
  subst ex
  obtain ⟨u, rfl, ru⟩ := vals1 r1
  cases ru
  obtain ⟨its, rv, p', hz⟩ := I1.tuple hq
  refine call_enumT (its := its.toArray) p' fun h' he hit hk => wpAny_pyIter_enum he ?_
  refine ⟨s1.heap.objs.size + 1, [s1.heap.objs.size + 1, s1.heap.objs.size], _, _, H1, rfl, I1.kept (t' := s1.toks) hk, turn_enumT a (s1.heap.objs.size + 1) s1.heap.objs.size, ⟨⟨.none, he⟩, hit, Nat.succ_ne_self _⟩, fun b hb => ?_, q⟩
  have two : b = s1.heap.objs.size + 1 ∨ b = s1.heap.objs.size := by simpa using hb
  have le : s1.heap.objs.size ≤ b := by
    rcases two with z | z <;> rw [z]
    · exact Nat.le_add_right _ _
    · exact Nat.le_refl _
  exact I1.fpOk le (I1.hok.fresh le)
section
variable {K : PySem.W.Frag} {a : Addr} {xs : List V} {g : TG} {tb : TS} {D : Ends} {σ : L2.St} {H : Hp}
/-- what a for asks of its walk -/
def ForW (J : It) (g : TG) (tb : TS) (D : Ends) (σ : L2.St) (H : Hp) : Prop :=
  ∃ W : Nat → Nat → L2.St → Hp → Prop, (∃ m, W 0 m σ H) ∧ ∀ i m σ H, W i m σ H →
    (J.stop i H ∧ D.nx σ H) ∨ (J.go i H ∧ ∃ N : L2.St → Hp → Prop, (∀ σ' H', N σ' H' → ∃ m', m' < m ∧ W (i + 1) m' σ' H') ∧
      ∀ x H', J.yld i H x H' → g x σ H' fun σ2 H2 => tb { D with nx := N, ct := N, bk := D.nx } σ2 H2)
theorem for_enumT (Pv : Nat → L2.St → Hp → Prop) (h0 : Pv 0 σ H) (at_a : ∀ i σ H, i ≤ xs.length → Pv i σ H → SqT K H a xs)
    (turn : ∀ i x σ H T, xs[i]? = some x → Pv i σ H → H T = none → g (.ref T) σ (upd H T (.tup [.int (i : Nat), x])) fun σ2 H2 => tb { D with nx := Pv (i + 1), ct := Pv (i + 1), bk := D.nx } σ2 H2)
    (fin : ∀ σ H, Pv xs.length σ H → D.nx σ H) : ForW (Itu K a) g tb D σ H := by
  refine ⟨fun i m σ H => m = xs.length - i ∧ i ≤ xs.length ∧ Pv i σ H, ⟨_, rfl, Nat.zero_le _, h0⟩, ?_⟩
  rintro i m σ H ⟨rfl, le, p⟩
  by_cases lt : i < xs.length
  · have ex := List.getElem?_eq_getElem lt
    refine .inr ⟨⟨xs, _, at_a i σ H le p, ex⟩, Pv (i + 1), fun σ' H' p' => ⟨_, by omega, rfl, lt, p'⟩, ?_⟩
    rintro v H' ⟨T, x, rfl, free, rfl, all⟩
    exact turn i x σ H T (all xs (at_a i σ H le p)) p free
  · have e : i = xs.length := by omega
    subst e
    exact .inl ⟨⟨xs, at_a _ σ H le p, Nat.le_refl _⟩, fin σ H p⟩
theorem for_enumL (Pv : Nat → L2.St → Hp → Prop) (h0 : Pv 0 σ H) (at_a : ∀ i σ H, i ≤ xs.length → Pv i σ H → SqL K H a xs)
    (turn : ∀ i x σ H T, xs[i]? = some x → Pv i σ H → H T = none → g (.ref T) σ (upd H T (.tup [.int (i : Nat), x])) fun σ2 H2 => tb { D with nx := Pv (i + 1), ct := Pv (i + 1), bk := D.nx } σ2 H2)
    (fin : ∀ σ H, Pv xs.length σ H → D.nx σ H) : ForW (Ite K a) g tb D σ H := by
  refine ⟨fun i m σ H => m = xs.length - i ∧ i ≤ xs.length ∧ Pv i σ H, ⟨_, rfl, Nat.zero_le _, h0⟩, ?_⟩
  rintro i m σ H ⟨rfl, le, p⟩
  by_cases lt : i < xs.length
  · have ex := List.getElem?_eq_getElem lt
    refine .inr ⟨⟨xs, _, at_a i σ H le p, ex⟩, Pv (i + 1), fun σ' H' p' => ⟨_, by omega, rfl, lt, p'⟩, ?_⟩
    rintro v H' ⟨T, x, rfl, free, rfl, all⟩
    exact turn i x σ H T (all xs (at_a i σ H le p)) p free
  · have e : i = xs.length := by omega
    subst e
    exact .inl ⟨⟨xs, at_a _ σ H le p, Nat.le_refl _⟩, fin σ H p⟩
end
end MM

set_option Elab.async false
set_option linter.all false
set_option maxRecDepth 100000
set_option maxHeartbeats 2000000
/-! more comprehensions: over enumerate, with a test -/
namespace MM
open PySem PySem.Spec PyProof.Rows L2
section
variable {K : PySem.W.Frag} {v : Nat} {g : TG} {tt : TT} {te : TE} {vs : List Nat} {σ : L2.St} {H1 : Hp} {D : Addr} {Qd : Hp → Prop} {n : Nat} {a : Addr} {xs : List V}
/-- what a comprehension asks of a turn with the item x -/
def LcT (g : TG) (tt : TT) (te : TE) (vs : List Nat) (σ : L2.St) (D : Addr) (Nx : Hp → Prop) (x : V) (H : Hp) : Prop :=
  g x (wipe σ vs) H fun σ2 H2 => wipe σ2 vs = wipe σ vs ∧ tt σ2 H2 fun b H3 =>
    if b = true then te σ2 H3 fun y H4 => ∃ acc, H4 D = some (.lst acc) ∧ acc.length < sizeLine ∧ Nx (upd H4 D (.lst (acc ++ [y]))) else Nx H3
theorem lc_enumT (Pv : Nat → Hp → Prop) (h0 : Pv 0 (upd H1 D (.lst []))) (at_a : ∀ i H, i ≤ xs.length → Pv i H → SqT K H a xs)
    (hs : ∀ i x H T, xs[i]? = some x → Pv i H → H T = none → LcT g tt te vs σ D (Pv (i + 1)) (.ref T) (upd H T (.tup [.int (i : Nat), x])))
    (hd : ∀ H, Pv xs.length H → Qd H) : LcW (Itu K a) g tt te vs σ H1 D Qd := by
  refine ⟨fun i m H => m = xs.length - i ∧ i ≤ xs.length ∧ Pv i H, ⟨_, rfl, Nat.zero_le _, h0⟩, ?_⟩
  rintro i m H ⟨rfl, le, p⟩
  by_cases lt : i < xs.length
  · have ex := List.getElem?_eq_getElem lt
    refine .inr ⟨⟨xs, _, at_a i H le p, ex⟩, Pv (i + 1), fun H' p' => ⟨_, by omega, rfl, lt, p'⟩, ?_⟩
    rintro v H' ⟨T, x, rfl, free, rfl, all⟩
    exact hs i x H T (all xs (at_a i H le p)) p free
  · have e : i = xs.length := by omega
    subst e
    exact .inl ⟨⟨xs, at_a _ H le p, Nat.le_refl _⟩, hd H p⟩
theorem lc_enumL (Pv : Nat → Hp → Prop) (h0 : Pv 0 (upd H1 D (.lst []))) (at_a : ∀ i H, i ≤ xs.length → Pv i H → SqL K H a xs)
    (hs : ∀ i x H T, xs[i]? = some x → Pv i H → H T = none → LcT g tt te vs σ D (Pv (i + 1)) (.ref T) (upd H T (.tup [.int (i : Nat), x])))
    (hd : ∀ H, Pv xs.length H → Qd H) : LcW (Ite K a) g tt te vs σ H1 D Qd := by
  refine ⟨fun i m H => m = xs.length - i ∧ i ≤ xs.length ∧ Pv i H, ⟨_, rfl, Nat.zero_le _, h0⟩, ?_⟩
  rintro i m H ⟨rfl, le, p⟩
  by_cases lt : i < xs.length
  · have ex := List.getElem?_eq_getElem lt
    refine .inr ⟨⟨xs, _, at_a i H le p, ex⟩, Pv (i + 1), fun H' p' => ⟨_, by omega, rfl, lt, p'⟩, ?_⟩
    rintro v H' ⟨T, x, rfl, free, rfl, all⟩
    exact hs i x H T (all xs (at_a i H le p)) p free
  · have e : i = xs.length := by omega
    subst e
    exact .inl ⟨⟨xs, at_a _ H le p, Nat.le_refl _⟩, hd H p⟩
theorem filt_step {xs : List V} {i : Nat} {x : V} (hi : xs[i]? = some x) (p : V → Bool) (f : V → V) :
    ((xs.take (i + 1)).filter p).map f = ((xs.take i).filter p).map f ++ (if p x = true then [f x] else []) := by
  rw [List.take_add_one, hi, List.filter_append, List.map_append]
  cases e : p x <;> simp [e]
/-- with a test -/
theorem lc_seqF (p : V → Bool) (f : V → V) (hx : SqL K H1 a xs) (nD : H1 D = none) (hn : xs.length ≤ sizeLine)
    (ht : ∀ x acc, x ∈ xs → ∀ Q : Bool → Hp → Prop, Q (p x) (upd H1 D (.lst acc)) → tt ((wipe σ [v]).set v (some x)) (upd H1 D (.lst acc)) Q)
    (hs : ∀ x acc, x ∈ xs → p x = true → ∀ Q : VK, Q (f x) (upd H1 D (.lst acc)) → te ((wipe σ [v]).set v (some x)) (upd H1 D (.lst acc)) Q)
    (hd : Qd (upd H1 D (.lst ((xs.filter p).map f)))) : LcW (Itl K a) (gName v) tt te [v] σ H1 D Qd := by
  refine lc_list (xs := xs) (Pv := fun i H => H = upd H1 D (.lst (((xs.take i).filter p).map f))) rfl (fun i H _ e => by rw [e]; exact sql_new hx nD) ?_ (fun H e => by rw [e, List.take_length]; exact hd)
  intro i x H hi e
  subst e
  have lt : i < xs.length := (List.getElem?_eq_some_iff.mp hi).1
  have le : (((xs.take i).filter p).map f).length ≤ i := by
    rw [List.length_map]
    exact Nat.le_trans (List.length_filter_le _ _) (by rw [List.length_take]; omega)
  refine ⟨wipe_one, ht x _ (List.mem_of_getElem? hi) _ ?_⟩
  have st := filt_step hi p f
  cases e : p x with
  | true =>
    rw [if_pos rfl]
    refine hs x _ (List.mem_of_getElem? hi) e _ ⟨_, upd_same, Nat.lt_of_le_of_lt le (Nat.lt_of_lt_of_le lt hn), ?_⟩
    rw [upd_upd, st, if_pos e]
  | false =>
    rw [if_neg Bool.false_ne_true, st, if_neg (by rw [e]; exact Bool.false_ne_true), List.append_nil]
theorem lc_tplF (p : V → Bool) (f : V → V) (hx : SqT K H1 a xs) (nD : H1 D = none) (hn : xs.length ≤ sizeLine)
    (ht : ∀ x acc, x ∈ xs → ∀ Q : Bool → Hp → Prop, Q (p x) (upd H1 D (.lst acc)) → tt ((wipe σ [v]).set v (some x)) (upd H1 D (.lst acc)) Q)
    (hs : ∀ x acc, x ∈ xs → p x = true → ∀ Q : VK, Q (f x) (upd H1 D (.lst acc)) → te ((wipe σ [v]).set v (some x)) (upd H1 D (.lst acc)) Q)
    (hd : Qd (upd H1 D (.lst ((xs.filter p).map f)))) : LcW (Itt K a) (gName v) tt te [v] σ H1 D Qd := by
  refine lc_tup (xs := xs) (Pv := fun i H => H = upd H1 D (.lst (((xs.take i).filter p).map f))) rfl (fun i H _ e => by rw [e]; exact sqt_new hx nD) ?_ (fun H e => by rw [e, List.take_length]; exact hd)
  intro i x H hi e
  subst e
  have lt : i < xs.length := (List.getElem?_eq_some_iff.mp hi).1
  have le : (((xs.take i).filter p).map f).length ≤ i := by
    rw [List.length_map]
    exact Nat.le_trans (List.length_filter_le _ _) (by rw [List.length_take]; omega)
  refine ⟨wipe_one, ht x _ (List.mem_of_getElem? hi) _ ?_⟩
  have st := filt_step hi p f
  cases e : p x with
  | true =>
    rw [if_pos rfl]
    refine hs x _ (List.mem_of_getElem? hi) e _ ⟨_, upd_same, Nat.lt_of_le_of_lt le (Nat.lt_of_lt_of_le lt hn), ?_⟩
    rw [upd_upd, st, if_pos e]
  | false =>
    rw [if_neg Bool.false_ne_true, st, if_neg (by rw [e]; exact Bool.false_ne_true), List.append_nil]
end
end MM
namespace MM
open PySem PySem.Spec PyProof.Rows L2
section
variable {K : PySem.W.Frag} {H : Hp} {Q : VK}
theorem slA {a : Addr} {xs : List V} {lo hi : Option Int} (S : SqT K H a xs) (q : ∀ H' t, Same H H' → SqT K H' t (cutV xs lo hi) → Q (.ref t) H') : rSlA K (.ref a) lo hi H Q := by
  refine ⟨a, xs, rfl, S, fun h => ?_, fun _ p np => q _ p (same_new np) (.inl (.inl upd_same))⟩
  refine q H a (Same.refl H) ?_
  have : cutV xs lo hi = xs := by
    unfold cutV
    rw [h.1, h.2, List.drop_zero, Nat.sub_zero, List.take_length]
  rw [this]
  exact S
theorem catA {a b : Addr} {xs ys : List V} (S : SqT K H a xs) (S2 : SqT K H b ys) (z : xs.length + ys.length ≤ sizeLine) (q : ∀ H' t, Same H H' → SqT K H' t (xs ++ ys) → Q (.ref t) H') : rCatA K (.ref a) (.ref b) H Q := by
  refine ⟨a, b, xs, ys, rfl, rfl, S, S2, z, fun h => ?_, fun _ h => ?_, fun _ _ p np => q _ p (same_new np) (.inl (.inl upd_same))⟩
  · exact q H b (Same.refl H) (by rw [h]; exact S2)
  · exact q H a (Same.refl H) (by rw [h, List.append_nil]; exact S)
end
end MM
namespace MM
open PySem PySem.Spec PyProof.Rows L2
def rTupOf (K : PySem.W.Frag) : List V → Hp → VK → Prop := fun xs H Q => ∃ p ys, xs = [V.ref p] ∧ ((SqL K H p ys ∧ ∀ (l : Addr), H l = none → Q (.ref l) (upd H l (.tup ys))) ∨ SqT K H p ys ∧ Q (.ref p) H)
end MM

set_option Elab.async false
set_option linter.all false
set_option maxRecDepth 100000
set_option maxHeartbeats 2000000
/-! sorted of tuples of ints, of lists of lists of ints, of tuples of tuples by their lengths; walks over two at once -/
namespace MM
open PySem PySem.Spec PyProof.Rows L2 PySem.Calls PySem.W
section
variable {prog : Program} {w : World} {A : Around} {E : Value → Shared → Prop} {s : Shared}
theorem collect_tuple {l : Addr} {vs : List Value} {Q : List Value → Shared → Prop} (hl : s.heap.IsTuple l vs.toArray)
    (h : Q vs { s with heap := (s.heap.push (seqObj "list" #[] 0)).update s.heap.objs.size (Obj.mapSeq (· ++ vs.toArray)) }) (hsz : vs.length ≤ sizeLine) :
    wpAny (model prog w) A (collect (.ref l)) Q E s := by
  obtain ⟨o, ho, hc, n, hd⟩ := id hl
  unfold collect
  refine wpAny_bind (wpAny_runValue (codeAny_builtin entry_proto_collect' ?_))
  show wpAny _ _ (do again (.builtin "list.__iadd__" ⟨[← newList [], .ref l], []⟩)) _ _ s
  refine wpAny_bind (wpAny_newList (wpAny_pure ⟨Code.quiet_builtin _ (by decide +kernel), codeAny_builtin entry_list_iadd' ?_⟩))
  show wpAny _ _ (Builtin.List.listExtendWith (.ref s.heap.objs.size) (.ref l) (.ref s.heap.objs.size)) _ _ { s with heap := s.heap.push (seqObj "list" #[] 0) }
  unfold Builtin.List.listExtendWith
  have ho' : (s.heap.push (seqObj "list" #[] 0)).get? l = some o := Heap.get?_push_of_some _ ho
  refine wpAny_bind (wpAny_typeOf (T := "tuple") ⟨o, ho', hc⟩ ?_)
  have ht : (Value.type "tuple" == Value.type "tuple") = true := by rfl
  rw [if_pos (by rw [ht]; simp)]
  refine wpAny_bind (listItems_at ho' hd ?_)
  refine wpAny_bind (listItems_at (xs := #[]) (n := 0) (Heap.get?_push_size _ rfl) rfl ?_)
  rw [if_neg (by simp)]
  refine wpAny_bind (listUpdate_at (xs := #[]) (n := 0) (Heap.get?_push_size _ rfl) rfl ?_ (Nat.zero_le _) (by show (#[] ++ vs.toArray).size ≤ sizeLine + 1; simp only [Array.size_append, List.size_toArray, List.length_nil]; omega))
  refine wpAny_pure ?_
  show wpAny (model prog w) A (do
      let o ← load s.heap.objs.size
      match o.data with
      | .seq xs _ => pure xs.toList
      | _ => unsupported "internal:collect") Q E { s with heap := (s.heap.push (seqObj "list" #[] 0)).update s.heap.objs.size (Obj.mapSeq (· ++ vs.toArray)) }
  refine wpAny_bind (wpAny_load (get?_update_seq (Heap.get?_push_size _ rfl) _) ?_)
  show wpAny _ _ (pure ((#[] : Array Value) ++ vs.toArray).toList) Q E _
  rw [show ((#[] : Array Value) ++ vs.toArray).toList = vs by simp]
  exact wpAny_pure h
theorem sorted_of_tup {l : Addr} {vs : List Value} {kw : List (Str × Value)} {Q : Value → Shared → Prop} (hl : s.heap.IsTuple l vs.toArray) (hL : vs.length ≤ sizeLine) (ha1 : argsOk "sorted" ⟨[.ref l], kw⟩) (ha2 : ∀ x, argsOk "list.sort" ⟨[.ref x], kw⟩)
    (body : ∀ E' : Value → Shared → Prop, wpAny (model prog w) A.in1.in1 (Builtin.«list.sort» ⟨[.ref (s.heap.objs.size + 1)], kw⟩) (fun f s' => f = .done (.ret .none) ∧ Q (.ref (s.heap.objs.size + 1)) s') E' { s with heap := copyHeap s.heap vs }) :
    wpAny (model prog w) A (call (.builtin "sorted") [.ref l] kw) Q E s := by
  refine call_function_entry_kw kind_sorted plain_sorted entry_sorted ha1 ?_
  unfold Builtin.«sorted»
  refine wpAny_bind (m := checkCount "sorted" 1 1 _) (wpAny_pure ?_)
  refine wpAny_bind (collect_tuple hl ?_ hL)
  refine wpAny_bind (wpAny_newList ?_ hL)
  have hsz : ((s.heap.push (seqObj "list" #[] 0)).update s.heap.objs.size (Obj.mapSeq (· ++ vs.toArray))).objs.size = s.heap.objs.size + 1 := by
    rw [Heap.size_update, size_push']
  show wpAny _ _ _ _ _ { s with heap := copyHeap s.heap vs }
  rw [hsz]
  refine wpAny_bind (wpAny_holding (wpAny_call_entry_kw slot_list_sort ⟨_, copyHeap_at s.heap vs, rfl⟩ entry_list_sort ?body (ha2 _)))
  case body =>
    show wpAny (model prog w) A.in1.in1 (Builtin.«list.sort» ⟨[.ref (s.heap.objs.size + 1)], kw⟩) _ _ _
    refine wpAny_mono (body _) (fun f s' hf => ?_) fun _ _ e => e
    obtain ⟨rfl, hq⟩ := hf
    exact ⟨_, rfl, wpAny_pure ⟨_, rfl, hq⟩⟩
variable {β : Type} {vs : List Value} {bs : List β} {enc : β → PyData} {R : Value → β → Prop}
theorem sorted_tup_data {l : Addr} {Q : Value → Shared → Prop} (hl : s.heap.IsTuple l vs.toArray) (e : EachIs R vs bs) (er : EachIs (fun v b => ∃ as, Reads s.heap v (enc b) as) vs bs) (hal : AllAlike (bs.map enc)) (hk : Sortable (bs.map enc)) (hL : bs.length ≤ sizeLine)
    (hu : ∀ b, b ∈ bs → A.units + 2 + (enc b).depth < cLine) (h : ∀ out, out.length = bs.length → EachIs R out (bs.mergeSort (dataLe false enc)) → Q (.ref (s.heap.objs.size + 1)) { s with heap := sortedAll s.heap vs (List.toArray out) }) :
    wpAny (model prog w) A (call (.builtin "sorted") [.ref l]) Q E s := by
  have er' : EachIs (fun v b => ∃ as, Reads (sortingHeap (copyHeap s.heap vs) (s.heap.objs.size + 1) vs) v (enc b) as) vs bs := er.mono fun _ _ ⟨as, r⟩ => ⟨as, PyProof.Rows.Reads.keeps (fun _ _ => sorting_copy_old) r⟩
  have hL' : vs.length ≤ sizeLine := by rw [e.length]; exact hL
  exact sorted_of_tup hl hL' (args_sorted1 _) (fun _ => args_list_sort _) fun _ => list_sort_vals (s := { s with heap := copyHeap s.heap vs }) (copyHeap_at s.heap vs)
    (SortsAt.data (s := { s with heap := sortingHeap (copyHeap s.heap vs) (s.heap.objs.size + 1) vs }) (each_map (R := fun v d => ∃ as, Reads (sortingHeap (copyHeap s.heap vs) (s.heap.objs.size + 1) vs) v d as) enc er') hal hk (bound_map hu)) hL' ⟨rfl, h _ (by rw [sortVals_length false rfl]; exact e.length) (sortVals_data false e er' hal)⟩
theorem sorted_tup_key {l : Addr} {f : Value} {kw : List (Str × Value)} {b : Bool} {Q : Value → Shared → Prop} (k : β → PyData) (hl : s.heap.IsTuple l vs.toArray) (e : EachIs R vs bs) (hal : AllAlike (bs.map k)) (hk : Sortable (bs.map k)) (hL : bs.length ≤ sizeLine)
    (hu : ∀ x, x ∈ bs → A.units + 2 + (k x).depth < cLine) (ha1 : argsOk "sorted" ⟨[.ref l], kw⟩) (ha2 : ∀ x, argsOk "list.sort" ⟨[.ref x], kw⟩) (ht : ∀ x, Builtin.«list.sort» ⟨[.ref x], kw⟩ = ksk_tree x f b)
    (turn : ∀ (v : Value) (x : β), R v x → x ∈ bs → ∀ (h : Heap) (tk : Nat), (∀ b o, s.heap.get? b = some o → h.get? b = some o) →
      wpAny (model prog w) A.in1.in1 (call f [v]) (KeyPure (k x) { s with heap := h, toks := tk }) (fun _ _ => False) { s with heap := h, toks := tk })
    (h : ∀ out c h' tk, (∀ b o, s.heap.get? b = some o → h'.get? b = some o) → s.heap.get? (s.heap.objs.size + 1) = none → h'.get? (s.heap.objs.size + 1) = some (seqObj "list" (List.toArray out) c) → out.length = bs.length → EachIs R out (bs.mergeSort (dataLe b k)) →
      Q (.ref (s.heap.objs.size + 1)) { s with heap := h', toks := tk }) :
    wpAny (model prog w) A (call (.builtin "sorted") [.ref l] kw) Q E s := by
  have fresh : s.heap.get? (s.heap.objs.size + 1) = none := Heap.get?_none_of_le (Nat.le_succ _)
  have up : ∀ {g : Heap}, KeepsBut (s.heap.objs.size + 1) (copyHeap s.heap vs) g → ∀ b o, s.heap.get? b = some o → g.get? b = some o := fun {g} kp b o q =>
    kp b o (Nat.ne_of_lt (Nat.lt_succ_of_lt (Heap.lt_size q))) (copyHeap_old q)
  refine sorted_of_tup hl (by rw [e.length]; exact hL) ha1 ha2 fun E' => ?_
  rw [ht]
  refine keyH_tree (kz := bs.map k) (s := { s with heap := copyHeap s.heap vs }) (copyHeap_at s.heap vs) (by rw [List.length_map]; exact e.length.symm) (by rw [e.length]; exact hL) hal hk (bound_map (A := A.in1.in1) hu)
    (keyH_turns (s := { s with heap := copyHeap s.heap vs }) e fun v x hR hx h tk kp => turn v x hR hx h tk (up kp)) fun h' tk out c kp hD ko => ⟨rfl, ?_⟩
  exact h out c h' tk (up kp) fresh hD ((ko.length (by rw [List.length_map]; exact e.length.symm)).trans e.length) (keyedOut_each k ko e)
end
/-! by values -/
section
variable {X : Cx}
theorem each_of {R : V → Value → Prop} : ∀ {xs : List V} {us : List Value}, Paired R xs us → ∀ {β : Type} {bs : List (V × β)}, xs = bs.map Prod.fst → EachIs (fun v b => R b.1 v) us bs
  | _, _, .nil, _, [], _ => .nil
  | _, _, .nil, _, _ :: _, e => by cases e
  | _, _, .cons _ _, _, [], e => by cases e
  | _, _, .cons r t, _, b :: bs, e => by
    rw [List.map_cons] at e
    obtain ⟨e1, e2⟩ := List.cons.inj e
    subst e1
    exact .cons r (each_of t e2)
theorem vals_of_each {β : Type} : ∀ {us : List Value} {bs : List (V × β)}, EachIs (fun v b => RelV b.1 v) us bs → Vals (bs.map Prod.fst) us
  | _, _, .nil => .nil
  | _, _, .cons h t => .cons h (vals_of_each t)
theorem each_and {α β : Type} {R S : α → β → Prop} : ∀ {us : List α} {bs : List β}, EachIs R us bs → (∀ u b, R u b → b ∈ bs → S u b) → EachIs S us bs
  | _, _, .nil, _ => .nil
  | _, _, .cons h t, f => .cons (f _ _ h (by simp)) (each_and t fun u b r m => f u b r (by simp [m]))
/-- sorted(xs), xs a list of lists of ints -/
def rSortedLI (K : PySem.W.Frag) : List V → Hp → VK → Prop := fun vs H Q => ∃ (a : Addr) (bs : List (V × List Int)), vs = [.ref a] ∧ SqL K H a (bs.map Prod.fst) ∧ bs.length ≤ 1000 ∧ (∀ b ∈ bs, ∃ t, b.1 = .ref t ∧ SqL K H t (b.2.map V.int)) ∧
  ∀ (zs : List (V × List Int)) (p : Addr), zs.Perm bs → zs.Pairwise (fun x y => x.2 ≤ y.2) → H p = none → Q (.ref p) (upd H p (.lst (zs.map Prod.fst)))
theorem cr_sortedLI (hu : X.A.units + 64 < cLine) : CallR X (.builtin "sorted") (rSortedLI X.K) := by
  intro pins s σ H vs us Q I r h
  obtain ⟨a, bs, rfl, hs, hl, hb, q⟩ := h
  obtain ⟨its, rv, pl, hz⟩ := I.list hs
  rw [Vals.ref1 r]
  have e := each_of rv rfl
  have sml : ∀ n, n ≤ 1000 → n ≤ sizeLine := fun n h => Nat.le_of_lt (Nat.lt_of_le_of_lt h (by decide))
  refine sorted_data (enc := fun b : V × List Int => .list (b.2.map .int)) pl.isList e (each_and e fun u b ru hm => ?_) (AllAlike.of fun b b' => by rw [alike]; exact alike_ints _ _) (Sortable.others fun b => ⟨by simp, by simp⟩) (sml _ hl) (fun b _ => ?_) fun out lo eo => ?_
  · obtain ⟨t, et, St⟩ := hb b hm
    rw [et] at ru
    obtain ⟨as, rd⟩ := Dp.reads I (.list (b.2.map .int)) (.ref t) u (.lst St (dp_ints _)) ru
    exact ⟨as, rd⟩
  · have := depth_ints b.2
    simp only [PyData.depth]
    omega
  obtain ⟨ep, he'⟩ := PyProof.Rows.sortedAll_at s.heap its out.toArray
  rw [dataLe_rows (fun b : V × List Int => b.2)] at eo
  have pm := List.mergeSort_perm bs (fun p q : V × List Int => decide (p.2 ≤ q.2))
  have pw := List.pairwise_mergeSort (le := fun p q : V × List Int => decide (p.2 ≤ q.2)) (fun a b c h1 h2 => decide_eq_true (List.le_trans (of_decide_eq_true h1) (of_decide_eq_true h2)))
    (fun a b => by
      rcases List.le_total a.2 b.2 with h | h
      · simp [h]
      · simp [h]) bs
  have hlen : ((bs.mergeSort fun p q => decide (p.2 ≤ q.2)).map Prod.fst).length ≤ sizeLine := by
    rw [List.length_map, pm.length_eq]
    exact sml _ hl
  exact ⟨.ref _, upd H (s.heap.objs.size + 1) (.lst ((bs.mergeSort fun p q => decide (p.2 ≤ q.2)).map Prod.fst)), I.laid (t' := s.toks) (fun _ _ => PyProof.Rows.sortedAll_old) (Nat.le_succ _) ⟨hlen, out, ep, vals_of_each eo, he'⟩, rfl,
    q _ _ pm (pw.imp fun h => of_decide_eq_true h) (I.hok.fresh (Nat.le_succ _))⟩
/-- sorted(t), t a tuple of ints -/
def rSortedIT (K : PySem.W.Frag) : List V → Hp → VK → Prop := fun vs H Q => ∃ (a : Addr) (ns : List Int), vs = [.ref a] ∧ SqT K H a (ns.map V.int) ∧ ns.length ≤ 1000 ∧
  ∀ (zs : List Int) (p : Addr), zs.Perm ns → zs.Pairwise (· ≤ ·) → H p = none → Q (.ref p) (upd H p (.lst (zs.map V.int)))
theorem each_ints : ∀ {us : List Value} {ns : List Int}, Vals (ns.map V.int) us → EachIs (fun v n => RelV (.int n) v) us ns
  | _, [], r => by
    cases r
    exact .nil
  | _, n :: ns, r => by
    cases r with
    | cons h t => exact .cons h (each_ints t)
theorem vals_each_ints : ∀ {us : List Value} {ns : List Int}, EachIs (fun v n => RelV (.int n) v) us ns → Vals (ns.map V.int) us
  | _, _, .nil => .nil
  | _, _, .cons h t => .cons h (vals_each_ints t)
theorem cr_sortedIT (hu : X.A.units + 64 < cLine) : CallR X (.builtin "sorted") (rSortedIT X.K) := by
  intro pins s σ H vs us Q I r h
  obtain ⟨a, ns, rfl, hs, hl, q⟩ := h
  obtain ⟨its, rv, pl, hz⟩ := I.tuple hs
  rw [Vals.ref1 r]
  have e := each_ints rv
  have sml : ∀ n, n ≤ 1000 → n ≤ sizeLine := fun n h => Nat.le_of_lt (Nat.lt_of_le_of_lt h (by decide))
  refine sorted_tup_data (enc := fun n : Int => .int n) pl e (each_and e fun u b ru hm => ?_) (AllAlike.of fun b b' => by simp [alike]) (Sortable.others fun b => ⟨by simp, by simp⟩) (sml _ hl) (fun b _ => ?_) fun out lo eo => ?_
  · obtain ⟨t, rfl⟩ := ru
    exact ⟨_, Reads.int b t⟩
  · simp only [PyData.depth]
    omega
  obtain ⟨ep, he'⟩ := PyProof.Rows.sortedAll_at s.heap its out.toArray
  rw [dataLe_int (fun b : Int => b)] at eo
  have pm := List.mergeSort_perm ns (fun p q : Int => decide (p ≤ q))
  have pw := List.pairwise_mergeSort (le := fun p q : Int => decide (p ≤ q)) (fun a b c h1 h2 => decide_eq_true (Int.le_trans (of_decide_eq_true h1) (of_decide_eq_true h2)))
    (fun a b => by
      rcases Int.le_total a b with h | h
      · simp [h]
      · simp [h]) ns
  have hlen : ((ns.mergeSort fun p q => decide (p ≤ q)).map V.int).length ≤ sizeLine := by
    rw [List.length_map, pm.length_eq]
    exact sml _ hl
  exact ⟨.ref _, upd H (s.heap.objs.size + 1) (.lst ((ns.mergeSort fun p q => decide (p ≤ q)).map V.int)), I.laid (t' := s.toks) (fun _ _ => PyProof.Rows.sortedAll_old) (Nat.le_succ _) ⟨hlen, out, ep, vals_each_ints eo, he'⟩, rfl,
    q _ _ pm (pw.imp fun h => of_decide_eq_true h) (I.hok.fresh (Nat.le_succ _))⟩
/-- sorted(t, key=len), t a tuple of tuples -/
def rSortLen (K : PySem.W.Frag) : List V → Hp → VK → Prop := fun vs H Q => ∃ (β : Type) (n : β → Nat) (a : Addr) (bs : List (V × β)), vs = [.ref a] ∧ SqT K H a (bs.map Prod.fst) ∧ bs.length ≤ 1000 ∧ (∀ b ∈ bs, ∃ t ys, b.1 = .ref t ∧ SqT K H t ys ∧ ys.length = n b.2) ∧
  ∀ (zs : List (V × β)) (p : Addr), zs.Perm bs → zs.Pairwise (fun x y => n x.2 ≤ n y.2) → H p = none → Q (.ref p) (upd H p (.lst (zs.map Prod.fst)))
theorem run_sortLen (hu : X.A.units + 64 < cLine) {pins : List (Addr × Obj)} {s : Shared} {σ : L2.St} {H : Hp} {vs : List V} {us : List Value} {Q : VK} (I : Inv X pins σ H s) (r : Vals vs us) (h : rSortLen X.K vs H Q) :
    wpAny (model X.prog X.w) X.A (call (.builtin "sorted") us [(Str.ofString "key", .builtin "len")]) (EP X pins σ Q) X.xe s := by
  obtain ⟨β, n, a, bs, rfl, hs, hl, hb, q⟩ := h
  obtain ⟨its, rv, pl, hz⟩ := I.tuple hs
  rw [Vals.ref1 r]
  have e := each_of rv rfl
  have sml : ∀ n, n ≤ 1000 → n ≤ sizeLine := fun n h => Nat.le_of_lt (Nat.lt_of_le_of_lt h (by decide))
  refine sorted_tup_key (b := false) (fun b : V × β => .int (n b.2 : Int)) pl e (AllAlike.of fun b b' => by simp [alike]) (Sortable.others fun b => ⟨by simp, by simp⟩) (sml _ hl) (fun b _ => ?_) (ksk_s1 _ _) (fun _ => ksk_l1 _ _) (fun _ => ksk_t4 _ _) (fun v x rx hx h tk kp => ?_) fun out c h' tk kp fr hD lo eo => ?_
  · simp only [PyData.depth]
    omega
  · obtain ⟨t, ys, et, St, el⟩ := hb x hx
    rw [et] at rx
    cases rx
    obtain ⟨its2, rv2, p2, hz2⟩ := I.tuple St
    have hlen := rv2.length
    have p3 : h.IsTuple t its2.toArray := by
      obtain ⟨o, ho, hc, hd⟩ := p2
      exact ⟨o, kp _ _ ho, hc, hd⟩
    have hn := line63
    refine len_tuple (s := { s with heap := h, toks := tk }) p3 (by simp only [List.size_toArray] <;> omega) ⟨h, tk + 1 + 1, rfl, fun b o e => e, ?_⟩
    rw [List.size_toArray, ← hlen, el]
    exact Reads.int _ _
  rw [dataLe_int (fun b : V × β => (n b.2 : Int))] at eo
  have pm := List.mergeSort_perm bs (fun p q : V × β => decide ((n p.2 : Int) ≤ (n q.2 : Int)))
  have pw := List.pairwise_mergeSort (le := fun p q : V × β => decide ((n p.2 : Int) ≤ (n q.2 : Int))) (fun a b c h1 h2 => decide_eq_true (Int.le_trans (of_decide_eq_true h1) (of_decide_eq_true h2)))
    (fun a b => by
      rcases Int.le_total (n a.2 : Int) (n b.2 : Int) with h | h
      · simp [h]
      · simp [h]) bs
  have hlen : ((bs.mergeSort fun p q => decide ((n p.2 : Int) ≤ (n q.2 : Int))).map Prod.fst).length ≤ sizeLine := by
    rw [List.length_map, pm.length_eq]
    exact sml _ hl
  exact ⟨.ref _, upd H (s.heap.objs.size + 1) (.lst ((bs.mergeSort fun p q => decide ((n p.2 : Int) ≤ (n q.2 : Int))).map Prod.fst)), I.laid (t' := tk) kp (Nat.le_succ _) ⟨hlen, out, c, vals_of_each eo, hD⟩, rfl,
    q _ _ pm (pw.imp fun h => by have := of_decide_eq_true h; omega) (I.hok.fresh (Nat.le_succ _))⟩
theorem pe_sortLen {e : Expr} {t : TA} {p p2 kpos pos : Pos} (hu : X.A.units + 64 < cLine) (hg : Gl X "sorted") (hm : X.mg "sorted" = none) (hg2 : Gl X "len") (hm2 : X.mg "len" = none) (ha : PA X [e] t)
    (he : backTo pos (starEach [e] X.env) = (false, eval e X.env) :: backTo pos (starEach [] X.env) := by rfl) (hpl : (backTo pos (starEach [e] X.env)).any (·.1) = false := by rfl)
    (hall : (backToKw pos (keywordEach [⟨some (Str.ofString "key"), .Name "len" p2, kpos⟩] X.env)).all (·.1.isSome) = true := by rfl) (hnone : (backToKw pos (keywordEach [⟨some (Str.ofString "key"), .Name "len" p2, kpos⟩] X.env)).any (·.1.isNone) = false := by rfl)
    (hks : (backToKw pos (keywordEach [⟨some (Str.ofString "key"), .Name "len" p2, kpos⟩] X.env)).filterMap (·.1) = [Str.ofString "key"] := by rfl) :
    PE X (.Call (.Name "sorted" p) [e] [⟨some (Str.ofString "key"), .Name "len" p2, kpos⟩] pos) (tCB (rSortLen X.K) t) := by
  refine ⟨fun pins s σ H Q I h => ?_⟩
  refine wpAny_Call_Name_kw (ld_blt I hg hm (u := .builtin "sorted") (by decide +kernel) ?_ (by decide) (by decide))
  refine PyProof.Rows.callWith_kw (thn (ha.run pos pins s σ H _ I h) fun us s1 ⟨vs, H1, I1, r1, q1⟩ => ?_) he hpl hall hnone
  show wpAny _ _ (evalAll [do let v ← eval (.Name "len" p2) X.env; standAt pos; pure v]) _ _ s1
  refine wpAny_evalAll_cons (wpAny_bind (ld_blt I1 hg2 hm2 (u := .builtin "len") (by decide +kernel) (wpAny_bind (wpAny_standAt (wpAny_pure (wpAny_evalAll_nil ?_)))) (by decide) (by decide)))
  rw [hks]
  exact run_sortLen hu I1 r1 q1
end
end MM
namespace MM
open PySem PySem.Spec PyProof.Rows L2
section
variable {K : PySem.W.Frag} {a b : Addr} {xs ys : List V} {g : TG} {tb : TS} {D : Ends} {σ : L2.St} {H : Hp}
theorem for_zipM (Pv : Nat → L2.St → Hp → Prop) (h0 : Pv 0 σ H) (hq : ∀ i σ H, Pv i σ H → SqL K H a xs ∧ SqL K H b ys)
    (hs : ∀ (i : Nat) (x y : V) (T : Addr) (σ : L2.St) (H : Hp), xs[i]? = some x → ys[i]? = some y → Pv i σ H → H T = none → g (.ref T) σ (upd H T (.tup [x, y])) fun σ2 H2 => tb { D with nx := Pv (i + 1), ct := Pv (i + 1), bk := D.nx } σ2 H2)
    (hd : ∀ σ H, Pv (min xs.length ys.length) σ H → D.nx σ H) : ForW (Itz K a b) g tb D σ H := by
  refine ⟨fun i m σ H => m = min xs.length ys.length - i ∧ i ≤ min xs.length ys.length ∧ Pv i σ H, ⟨_, rfl, Nat.zero_le _, h0⟩, ?_⟩
  rintro i m σ H ⟨rfl, le, p⟩
  obtain ⟨q1, q2⟩ := hq i σ H p
  by_cases lt : i < min xs.length ys.length
  · have e1 : xs[i]? = some (xs[i]'(by omega)) := List.getElem?_eq_getElem (by omega)
    have e2 : ys[i]? = some (ys[i]'(by omega)) := List.getElem?_eq_getElem (by omega)
    refine .inr ⟨⟨xs, ys, _, _, q1, q2, e1, e2⟩, Pv (i + 1), fun σ' H' p' => ⟨_, by omega, rfl, lt, p'⟩, ?_⟩
    rintro v H' ⟨T, x, y, rfl, free, rfl, h1, h2⟩
    exact hs i x y T σ H (h1 xs q1) (h2 ys q2) p free
  · have e : i = min xs.length ys.length := by omega
    subst e
    exact .inl ⟨⟨xs, ys, q1, q2, by omega⟩, hd σ H p⟩
end
end MM

set_option Elab.async false
set_option linter.all false
set_option maxRecDepth 100000
set_option maxHeartbeats 2000000
/-! zip of a tuple and a list -/
namespace MM
open PySem PySem.Spec PyProof.Rows L2
/-- a tuple at a beside a list at b -/
def ItzM (K : PySem.W.Frag) (a b : Addr) : It where
  go i H := ∃ (us ws : List V) (p q : V), SqT K H a us ∧ SqL K H b ws ∧ us[i]? = some p ∧ ws[i]? = some q
  yld i H v H' := ∃ T p q, v = .ref T ∧ H T = none ∧ H' = upd H T (.tup [p, q]) ∧ (∀ us, SqT K H a us → us[i]? = some p) ∧ ∀ ws, SqL K H b ws → ws[i]? = some q
  stop i H := ∃ us ws : List V, SqT K H a us ∧ SqL K H b ws ∧ i ≤ us.length ∧ i ≤ ws.length ∧ (i = us.length ∨ i = ws.length)
abbrev tnM (a b z TI TO i1 i2 : Addr) (i : Nat) (h : Heap) : Prop :=
  IsZip h z TI TO .none ∧ IsTupOf2 h TI (.ref i1) (.ref i2) ∧ (∃ p q, IsTupOf2 h TO p q) ∧ h.IsTupleIter i1 a i ∧ h.IsListIter i2 b i
theorem sepM {a b z TI TO i1 i2 : Addr} (D : ZipApart z TI TO i1 i2 a b) : ZipSep2 z TI TO i1 i2 [i1, a] [i2, b] := by
  obtain ⟨h1, h2, h3, h4, h5, h6, h7, h8, h9, h10, h11, h12, h13, h14, h15, h16, h17, h18⟩ := D
  constructor <;> simp only [List.mem_cons, List.not_mem_nil, or_false, true_or, not_or, ne_eq]
  · exact h1
  · exact h2
  · exact h5
  · exact h6
  · exact ⟨Ne.symm h3, Ne.symm h11⟩
  · exact ⟨h8, Ne.symm h12⟩
  · exact h7
  · exact ⟨Ne.symm h4, Ne.symm h15⟩
  · exact ⟨h9, Ne.symm h16⟩
  · exact ⟨h10, Ne.symm h17⟩
  · exact ⟨Ne.symm h10, Ne.symm h14⟩
theorem turn_zipM {P : Program} {w : World} {K : PySem.W.Frag} {tgs : List Expr} {n : Nat} {ps : Pos} {a b z TI TO i1 i2 : Addr} (D : ZipApart z TI TO i1 i2 a b) :
    Turn P w K (.Tuple tgs n ps) (ItzM K a b) [z, TI, TO, i1, i2] z (tnM a b z TI TO i1 i2) where
  mem := List.mem_cons_self
  obj := by
    rintro i h ⟨e1, e2, ⟨p, q, e3⟩, ⟨o1, e4, _, d1⟩, ⟨o2, e5, _, d2⟩⟩ c hc
    simp only [List.mem_cons, List.not_mem_nil, or_false] at hc
    rcases hc with rfl | rfl | rfl | rfl | rfl
    · exact ⟨_, e1, nofun⟩
    · exact ⟨_, e2, nofun⟩
    · exact ⟨_, e3, nofun⟩
    · exact ⟨o1, e4, fun v e => by rw [d1] at e; cases e⟩
    · exact ⟨o2, e5, fun v e => by rw [d2] at e; cases e⟩
  keep := by
    rintro i h h' ⟨e1, e2, ⟨p, q, e3⟩, e4, e5⟩ k
    exact ⟨k _ (by simp) _ e1, k _ (by simp) _ e2, ⟨p, q, k _ (by simp) _ e3⟩, e4.at (k _ (by simp)), e5.at (k _ (by simp))⟩
  item := by
    rintro X rfl rfl rfl calm i pins s σ H E I fp ⟨ez, eTI, ⟨p0, q0, eTO⟩, e1, e2⟩ ⟨us, ws, p, q, S1, S2, hp, hq⟩
    obtain ⟨as_, r1, c1, _⟩ := I.tuple S1
    obtain ⟨bs, r2, c2, _⟩ := I.list S2
    obtain ⟨u1, hu1, ru1⟩ := r1.get hp
    obtain ⟨u2, hu2, ru2⟩ := r2.get hq
    have zlt : z < s.heap.objs.size := Heap.lt_size ez
    have hd := I.ok.hd calm
    have l1 : i < as_.toArray.size := by
      rw [List.size_toArray]
      exact (List.getElem?_eq_some_iff.mp hu1).1
    have l2 : i < bs.toArray.size := by
      rw [List.size_toArray]
      exact (List.getElem?_eq_some_iff.mp hu2).1
    refine wpAny_pyNext_zipD2_item (sepM D) (Draws.tuple (A := X.A.in1) hd i1 a D.l1i1 as_.toArray) (Draws.list (A := X.A.in1) hd i2 b D.l2i2 bs.toArray) ez eTI eTO ⟨e1, c1⟩ ⟨e2, c2.isList⟩ l1 l2
      fun x1 x2 h' tk y1 y2 f1 f2 f3 f4 f5 f6 kp => ?_
    have y1' : some u1 = some x1 := by
      rw [← hu1, ← y1]
      simp
    have y2' : some u2 = some x2 := by
      rw [← hu2, ← y2]
      simp
    cases y1'
    cases y2'
    refine ⟨_, rfl, wpAny_letOwnedTupleGo_zip (s := { s with heap := h', toks := tk }) f1 fun h2 g1 sb => ?_⟩
    have zn : s.heap.objs.size ≠ z := Nat.ne_of_gt zlt
    have T2 : h2.get? s.heap.objs.size = some { cls := .type "tuple", data := .seq #[u1, u2] } := (sb.2 _ zn).trans f5
    have new : ObjOk X.prog X.w (upd H s.heap.objs.size (.tup [p, q])) h2 s.heap.objs.size (.tup [p, q]) :=
      ⟨by show 2 ≤ sizeLine; decide, [u1, u2], .cons ru1 (.cons ru2 .nil), ⟨_, T2, rfl, _, rfl⟩⟩
    have I2 : Inv X pins σ (upd H s.heap.objs.size (.tup [p, q])) { s with heap := h2, toks := tk } := by
      refine I.turnedNew (t' := tk) (ch := [z, TI, TO, i1, i2]) (fun c o nc e => ?_) fp (Nat.le_refl _) new
      simp only [List.mem_cons, List.not_mem_nil, or_false, not_or] at nc
      exact (sb.2 c nc.1).trans (kp c o nc.1 nc.2.2.1 nc.2.2.2.1 nc.2.2.2.2 e)
    refine ⟨.ref s.heap.objs.size, _, I2, rfl, ⟨_, p, q, rfl, I.hok.fresh (Nat.le_refl _), rfl, ?_, ?_⟩, ⟨g1, (sb.2 _ D.TIz).trans (kp _ _ D.TIz D.TITO D.TIi1 D.TIi2 eTI), ⟨u1, u2, (sb.2 _ D.TOz).trans f2⟩, f3.1.at fun o e => (sb.2 _ D.i1z).trans e, f4.1.at fun o e => (sb.2 _ D.i2z).trans e⟩, fun c hc => ?_⟩
    · intro l hl
      rw [I.tuple_inj hl S1]
      exact hp
    · intro l hl
      rw [I.list_inj hl S2]
      exact hq
    · have lt : c < s.heap.objs.size := by
        obtain ⟨_, q1, _⟩ := e1
        obtain ⟨_, q2, _⟩ := e2
        have hc2 := hc
        simp only [List.mem_cons, List.not_mem_nil, or_false] at hc2
        rcases hc2 with rfl | rfl | rfl | rfl | rfl
        · exact zlt
        · exact Heap.lt_size eTI
        · exact Heap.lt_size eTO
        · exact Heap.lt_size q1
        · exact Heap.lt_size q2
      rw [upd_ne (Nat.ne_of_lt lt)]
      exact (fp c hc).1
  done := by
    rintro X rfl rfl rfl calm i pins s σ H E I fp ⟨ez, eTI, ⟨p0, q0, eTO⟩, e1, e2⟩ ⟨us, ws, S1, S2, m1, m2, le⟩
    obtain ⟨as_, r1, c1, _⟩ := I.tuple S1
    obtain ⟨bs, r2, c2, _⟩ := I.list S2
    have hd := I.ok.hd calm
    have n1 := r1.length
    have n2 := r2.length
    refine wpAny_pyNext_zipD2_end (sepM D) (Draws.tuple (A := X.A.in1) hd i1 a D.l1i1 as_.toArray) (Draws.list (A := X.A.in1) hd i2 b D.l2i2 bs.toArray) ez eTI eTO ⟨e1, c1⟩ ⟨e2, c2.isList⟩
      (by rw [List.size_toArray]; omega) (by rw [List.size_toArray]; omega) (by rw [List.size_toArray, List.size_toArray]; omega) fun h' tk kp => ⟨rfl, I.turnedL (t' := tk) (ch := [z, TI, TO, i1, i2]) (fun c o nc e => ?_) fp⟩
    simp only [List.mem_cons, List.not_mem_nil, or_false, not_or] at nc
    exact kp c o nc.1 nc.2.2.1 nc.2.2.2.1 nc.2.2.2.2 e
  self := fun A i s Q E st h => wpAny_pyIter_zip st.1 h
def iZipM (K : PySem.W.Frag) (ta : TA) : TI := fun σ H R => ta σ H fun vs H1 => ∃ a b us ws, vs = [.ref a, .ref b] ∧ SqT K H1 a us ∧ SqL K H1 b ws ∧ R (ItzM K a b) H1
theorem pi_zipM {X : Cx} {e e2 : Expr} {ta : TA} {p pos ps : Pos} {tgs : List Expr} {n : Nat} (hg : Gl X "zip") (hm : X.mg "zip" = none) (ha : PA X [e, e2] ta)
    (hs : starEach [e, e2] X.env = (false, eval e X.env) :: starEach [e2] X.env := by rfl) (hpl : (backTo pos (starEach [e2] X.env)).any (·.1) = false := by rfl) :
    PI X (.Tuple tgs n ps) (.Call (.Name "zip" p) [e, e2] [] pos) (iZipM X.K ta) := by
  refine ⟨fun pins s σ H R I h => Call_ (ld_blt I hg hm PyProof.Rows.boot_zip (PyProof.Rows.callWith_type1 (thn (ha.run pos pins s σ H _ I h) fun vals s1 hx => ?_) hs hpl))⟩
  obtain ⟨vs, H1, I1, rs, a, b, us, ws, rfl, S1, S2, q⟩ := hx
  cases rs with
  | cons h1 rs1 =>
  cases rs1 with
  | cons h2 t =>
    cases t
    cases h1
    cases h2
    obtain ⟨as_, r1, c1, _⟩ := I1.tuple S1
    obtain ⟨bs, r2, c2, _⟩ := I1.list S2
    have nw : ∀ k : Nat, FpOk X pins H1 (s1.heap.objs.size + k) := fun k => I1.fpOk (Nat.le_add_right _ _) (I1.hok.fresh (Nat.le_add_right _ _))
    refine zip_begins2 (begins_tuple a as_.toArray) (begins_list b bs.toArray) c1 c2.isList fun h' g1 g2 g3 g4 g5 _ kp => wpAny_pyIter_zip g1 ?_
    have I2 : Inv X pins σ H1 { s1 with heap := h' } := I1.kept (t' := s1.toks) kp
    have la : a < s1.heap.objs.size := by
      obtain ⟨_, z, _⟩ := id c1
      exact Heap.lt_size z
    refine ⟨s1.heap.objs.size + 4, [s1.heap.objs.size + 4, s1.heap.objs.size + 2, s1.heap.objs.size + 3, s1.heap.objs.size, s1.heap.objs.size + 1], _, _, H1, rfl, I2, turn_zipM (PySem.W.ktu_apart s1.heap.objs.size a b la c2.lt), ⟨g1, g2, ⟨_, _, g3⟩, ⟨_, g4, rfl, rfl⟩, ⟨_, g5, rfl, rfl⟩⟩, fun c hc => ?_, q⟩
    simp only [List.mem_cons, List.not_mem_nil, or_false] at hc
    rcases hc with rfl | rfl | rfl | rfl | rfl
    · exact nw 4
    · exact nw 2
    · exact nw 3
    · exact nw 0
    · exact nw 1
section
variable {K : PySem.W.Frag} {a b : Addr} {us ws : List V}
theorem walk_zipM {n : Nat} (hn : n = min us.length ws.length) : Walk (ItzM K a b) n (fun H => SqT K H a us ∧ SqL K H b ws) (YPair (fun i => us[i]?) (fun i => ws[i]?)) := by
  refine ⟨fun i H lt q => ?_, fun H q => ?_, fun i H x H' lt q y => ?_⟩
  · exact ⟨us, ws, us[i]'(by omega), ws[i]'(by omega), q.1, q.2, List.getElem?_eq_getElem _, List.getElem?_eq_getElem _⟩
  · exact ⟨us, ws, q.1, q.2, by omega, by omega, by omega⟩
  · obtain ⟨T, p, r, rfl, fr, rfl, f1, f2⟩ := y
    exact ⟨T, p, r, rfl, fr, rfl, f1 us q.1, f2 ws q.2⟩
variable {v : Nat} {g : TG} {tt : TT} {te : TE} {vs : List Nat} {σ : L2.St} {H1 : Hp} {D : Addr} {Qd : Hp → Prop} {n : Nat}
theorem lc_zipM (hn : n = min us.length ws.length) (Pv : Nat → Hp → Prop) (h0 : Pv 0 (upd H1 D (.lst []))) (hq : ∀ i H, i ≤ n → Pv i H → SqT K H a us ∧ SqL K H b ws)
    (hs : ∀ i x y H T, us[i]? = some x → ws[i]? = some y → Pv i H → H T = none → LcT g tt te vs σ D (Pv (i + 1)) (.ref T) (upd H T (.tup [x, y])))
    (hd : ∀ H, Pv n H → Qd H) : LcW (ItzM K a b) g tt te vs σ H1 D Qd := by
  refine lc_it (walk_zipM hn) Pv h0 hq (fun i x H H' lt p y => ?_) hd
  obtain ⟨T, p1, q1, rfl, fr, rfl, e1, e2⟩ := y
  exact hs i p1 q1 H T e1 e2 p fr
end
end MM

set_option Elab.async false
set_option linter.all false
set_option maxRecDepth 100000
set_option maxHeartbeats 2000000
/-! repr of data, and of the dict without keys -/
namespace MM
open PySem PySem.Spec PyProof.Rows L2
/-- data, or a dict without keys -/
def Dq (K : PySem.W.Frag) (H : Hp) (v : V) (d : PyData) : Prop := (Dp K H v d ∧ SeqAt.shaped d = true) ∨ ∃ a, v = .ref a ∧ H a = some (.dK []) ∧ d = .dict []
def rReprO (K : PySem.W.Frag) : List V → Hp → VK → Prop := fun xs H Q =>
  ∃ x d, xs = [x] ∧ Dq K H x d ∧ d.showable = true ∧ d.shown.length ≤ sizeLine ∧ Q (.str d.shown) H
theorem cr_reprO {X : Cx} (hg : X.A.guards = some []) (hu : X.A.units + 66 < cLine) : CallR X (.builtin "repr") (rReprO X.K) := by
  intro pins s σ H xs us Q I r h
  obtain ⟨x, d, rfl, ⟨hd, hs⟩ | ⟨a, rfl, ha, rfl⟩, hw, hz, q⟩ := h
  · exact cr_repr hg hu pins s σ H _ us Q I r ⟨x, d, rfl, hd, hs, hw, hz, q⟩
  · obtain ⟨u, rfl, ru⟩ := vals1 r
    cases ru
    obtain ⟨_, lo, vs, kv, o, es, n, e1, e2, e3, _, e5, _⟩ := dk_of I.hok ha
    cases kv
    have em : es.toList = [] := List.eq_nil_of_length_eq_zero e5.length
    have rd : Reads s.heap (.ref a) (.dict []) (a :: [] ++ []) := by
      refine Reads.dict e1 e2.1 e3 ?_ ?_
      · rw [em]
        exact .nil
      · rw [em]
        exact .nil
    have ns : sysModules ∉ (a :: [] ++ [] : List Addr) := by
      intro z
      rw [show (a :: [] ++ [] : List Addr) = [a] from rfl, List.mem_singleton] at z
      rw [z, beq_self_eq_true] at lo
      cases lo
    exact repr_of_reads' rd hw (fun _ => ns) hg (Nat.lt_of_le_of_lt (Nat.add_le_add_left (by decide) _) hu) (fun _ _ e => e) (fun h' z tk hk => ⟨.str _, H, I.kept hk, ⟨_, rfl⟩, q⟩) hz
end MM
namespace MM
open PySem PySem.Spec PyProof.Rows L2
/-- a short tuple, many times -/
def rRepW (K : PySem.W.Frag) : R2 := fun x y H Q => ∃ l k xs, x = .ref l ∧ y = .int k ∧ SqT K H l xs ∧ xs ≠ [] ∧ 2 ≤ k ∧ k ≤ 10000 ∧ xs.length ≤ 100 ∧ ∀ p, H p = none → Q (.ref p) (upd H p (.tup (List.replicate k.toNat xs).flatten))
theorem op_repW {X : Cx} : OpR X (binaryOp .Mult) (rRepW X.K) := by
  rintro pins s σ H _ _ v u Q I rx ry ⟨l, k, xs, rfl, rfl, hT, some_, k2, kb, lb, q⟩
  cases rx
  obtain ⟨tok, rfl⟩ := ry
  obtain ⟨vals, r, ⟨⟨cls, dd, data, sl⟩, ho, hc, n, hd⟩, _⟩ := I.tuple hT
  dsimp only at hc hd
  cases hc
  cases hd
  have len : vals.length = xs.length := r.length.symm
  have pos : 0 < vals.length := by
    rw [len]
    exact List.length_pos_iff.mpr some_
  have ie : vals.toArray.isEmpty = false := by
    cases vals with
    | nil => cases pos
    | cons a b => rfl
  have sz : vals.toArray.size = xs.length := by rw [List.size_toArray, len]
  have prod : ((vals.toArray.size : Nat) : Int) * k ≤ 1000000 := by
    rw [sz]
    have : ((xs.length : Nat) : Int) * k ≤ 100 * k := Int.mul_le_mul_of_nonneg_right (by omega) (by omega)
    omega
  have fl : (List.replicate k.toNat vals).flatten.length ≤ sizeLine := by
    rw [PyProof.Rows.lm_len_rep_flat, len, sizeLine_eq]
    have : k.toNat * xs.length ≤ 10000 * 100 := Nat.mul_le_mul (by omega) lb
    omega
  have g0 : (decide (k < -(2 ^ 63)) || decide (k ≥ 2 ^ 63)) = false := by
    rw [Bool.or_eq_false_iff]
    exact ⟨decide_eq_false (by omega), decide_eq_false (by omega)⟩
  have g1 : (vals.toArray.isEmpty || k == 1) = false := by
    rw [Bool.or_eq_false_iff]
    exact ⟨ie, beq_eq_false_iff_ne.mpr (by omega)⟩
  have g2 : (decide (k ≤ 0) || vals.toArray.isEmpty) = false := by
    rw [Bool.or_eq_false_iff]
    exact ⟨decide_eq_false (by omega), ie⟩
  have g3 : Builtin.Tuple.tupleTooMany (((vals.toArray.size : Nat) : Int) * k) = false := by
    unfold Builtin.Tuple.tupleTooMany
    rw [sizeLine_eq]
    exact decide_eq_false (by omega)
  have M := tuple_mulW l vals.toArray n dd sl k tok g0 g1 g2 (by omega) g3 (by rw [size_rep, List.size_toArray]; exact fl)
  have isT : s.TypeIs (.ref l) "tuple" := ⟨_, ho, rfl⟩
  have new : L2.Inv X pins σ (upd H s.heap.objs.size (.tup (List.replicate k.toNat xs).flatten)) { s with heap := s.heap.push { cls := .type "tuple", data := .seq (List.replicate k.toNat vals).flatten.toArray } } := by
    refine I.laid (t' := s.toks) (fun _ _ e => Heap.get?_push_of_some _ e) (Nat.le_refl _) ⟨?_, _, r.rep k.toNat, IsTup.new _ _⟩
    rw [← len] at lb
    rw [PyProof.Rows.lm_len_rep_flat, sizeLine_eq, ← len]
    have : k.toNat * vals.length ≤ 10000 * 100 := Nat.mul_le_mul (by omega) lb
    omega
  refine wpAny_binaryOp_repeat_ref (U := "int") (by decide) isT (fun s' => typeIs_int s' k tok) noFill_tuple_mul F.fills_int_mul
    F.slot_int_rmul repeat_tuple F.slot_int_index.lookup ?_
  refine call_meets F.slot_int_rmul (typeIs_int s k tok) F.entry_int_rmul (F.args_int_rmul_2 _ _)
    (int_rmul_tuple k tok l vals.toArray n dd sl) ⟨ho, rfl, isT, ?_⟩
  refine call_meets F.slot_tuple_mul isT F.entry_tuple_mul (F.args_tuple_mul_2 _ _) M ⟨ho, ?_⟩
  rw [size_rep]
  exact ⟨.ref s.heap.objs.size, _, new, rfl, q _ (I.hok.fresh (Nat.le_refl _))⟩
end MM

set_option Elab.async false
set_option linter.all false
set_option maxRecDepth 100000
set_option maxHeartbeats 2000000
namespace K84
open PySem PySem.Spec PyProof.Rows L2 MM
/-! the classes of errors -/
/-- an own class under ValueError, without __init__ -/
structure Plain (K : PySem.W.Frag) (mg : Str → Option Value) (x : Str) : Prop where
  glo : mg x = some (.ref (ga K x))
  keep : PySem.W.keepIn K (.ref (ga K x)) = true
  row : PySem.W.excIn K (ga K x) veTop "ValueError.__new__" = true
  isE : PySem.W.subIn K (.ref (ga K x)) (.type "BaseException") = some true
  meta_ : PySem.W.typeIn K (.ref (ga K x)) = some (.type "type")
theorem plain_ok {K : PySem.W.Frag} {mg : Str → Option Value} {x : Str} (g : mg x = some (.ref (ga K x))) (h : plainB K x = true) : Plain K mg x := by
  unfold plainB at h
  simp only [Bool.and_eq_true, decide_eq_true_eq] at h
  obtain ⟨⟨⟨a, b⟩, c⟩, d⟩ := h
  exact ⟨g, a, b, c, d⟩
/-- an own class with an __init__ that keeps one field -/
structure Kep (K : PySem.W.Frag) (mg : Str → Option Value) (x f : Str) (B newId initId : String) (top : List Value) (st : Stmt) : Prop where
  glo : mg x = some (.ref (ga K x))
  over : MD.Ov K (ga K x) B newId initId top
  none_ : PySem.W.findIn K (.ref (ga K x)) f = some none
  field : XfC K (ga K x)
  ini : ∃ fI fd, PySem.W.findIn K (.ref (ga K x)) "__init__" = some (some (.ref fI)) ∧ PySem.W.typeIn K (.ref fI) = some (.type "function") ∧
    FunD K "__init__" (x ++ ".__init__") (defArgs st) (defBody st) (defScope st) [] [] fI fd
structure Ex (K : PySem.W.Frag) (mg : Str → Option Value) : Prop where
  mv : Plain K mg "InvalidMove"
  rw : Plain K mg "InvalidRow"
  ks : Plain K mg "InvalidKinds"
  ask : MD.Asks K (ga K "MarkError") "ValueError.__init__"
  mark : mg "MarkError" = some (.ref (ga K "MarkError"))
  ie : mg "IndexError" = none
  par : Kep K mg "ParseError" "index" "ValueError" "ValueError.__new__" "ValueError.__init__" veTop sIniP
  num : Kep K mg "InvalidNumber" "given" "IndexError" "IndexError.__new__" "IndexError.__init__" ieTop sIniN
  exm : ∀ i, i < 4 → ∀ j, j ≤ i → PySem.W.exmOne K (.ref (ga K (cn i))) (.ref (ga K (cn j))) = some (decide (i = j))
theorem scIP : FnScope ["self", "index"] ["self", "index"] (defScope sIniP) :=
  ⟨rfl, rfl, rfl, by decide +kernel, rfl, by decide +kernel, by decide +kernel⟩
theorem scIN : FnScope ["self", "given"] ["self", "given"] (defScope sIniN) :=
  ⟨rfl, rfl, rfl, by decide +kernel, rfl, by decide +kernel, by decide +kernel⟩
theorem vIE (K : PySem.W.Frag) : PySem.W.findCls K (.type "IndexError") (.type "type") "__init__" = some (.val (.builtin "IndexError.__init__")) := by kernel_rfl
theorem bIE : bootBuiltins "IndexError" = some (.type "IndexError") := by decide +kernel
theorem tIE : typeOf (.type "IndexError") = pure (.type "type") := by kernel_rfl
section
variable {P : Program} {w : World} {K : PySem.W.Frag} {mg : Str → Option Value} {base : Heap}
theorem iniP (Y : Ex K mg) {fI : Addr} {fd : FuncData}
    (F : FunD K "__init__" ("ParseError" ++ ".__init__") (defArgs sIniP) (defBody sIniP) (defScope sIniP) [] [] fI fd) :
    FnG P w K mg base CX0 1 fI fd ["self", "index"] (MD.spKeep (ga K "ParseError") "index") := by
  refine FnG.body (N := ["self", "index"]) F scIP ?_ ?_
  · intro vs H Q E h
    obtain ⟨a, y, rfl, _⟩ := h
    rfl
  · intro cd A out s H vs Q E hr h
    obtain ⟨a, y, rfl, ea, q⟩ := h
    refine ⟨_, pss_cons (ps_expr (MD.pe_askC (B := "ValueError") (top := veTop) (initId := "ValueError.__init__") (newId := "ValueError.__new__") Y.ask rfl Y.mark (by decide +kernel) (pa_cons (pv 0) (pa_cons pe_str pa_nil)))) (pss_one (MD.ps_put (B := "ValueError") (newId := "ValueError.__new__") (initId := "ValueError.__init__") (top := veTop) (pv 0) (pv 1))), ?_⟩
    refine ⟨_, rfl, a, _, _, rfl, by decide, Y.par.over, ea, ?_⟩
    refine ⟨_, rfl, _, rfl, a, _, rfl, Y.par.over, Y.par.none_, ea, fun dx n ne => ?_⟩
    exact q dx n ne
theorem iniN (Y : Ex K mg) {fI : Addr} {fd : FuncData}
    (F : FunD K "__init__" ("InvalidNumber" ++ ".__init__") (defArgs sIniN) (defBody sIniN) (defScope sIniN) [] [] fI fd) :
    FnG P w K mg base CX0 1 fI fd ["self", "given"] (MD.spKeep (ga K "InvalidNumber") "given") := by
  refine FnG.body (N := ["self", "given"]) F scIN ?_ ?_
  · intro vs H Q E h
    obtain ⟨a, y, rfl, _⟩ := h
    rfl
  · intro cd A out s H vs Q E hr h
    obtain ⟨a, y, rfl, ea, q⟩ := h
    refine ⟨_, pss_cons (ps_expr (MD.pe_ask (top := ieTop) (initId := "IndexError.__init__") (newId := "IndexError.__new__") rfl Y.ie bIE tIE (by decide +kernel) (vIE K) (by decide +kernel) (pa_cons (pv 0) (pa_cons pe_str pa_nil)))) (pss_one (MD.ps_put (B := "IndexError") (newId := "IndexError.__new__") (initId := "IndexError.__init__") (top := ieTop) (pv 0) (pv 1))), ?_⟩
    refine ⟨_, rfl, a, _, _, rfl, by decide, Y.num.over, ea, ?_⟩
    refine ⟨_, rfl, _, rfl, a, _, rfl, Y.num.over, Y.num.none_, ea, fun dx n ne => ?_⟩
    exact q dx n ne
end
section
variable {X : Cx} {W : WX} {x m : Str} {j : Nat} {p p1 p2 pos : Pos} {e : Expr} {es : List Expr} {ta : TA}
/-- raise X('..') -/
theorem ps_plain (Y : Plain X.K X.mg x) (hc : X.calm = true) (tk : Takes X W) (hg : Gl X x := by rfl)
    (hdb : (x == ("__debug__" : Str)) = false := by decide) :
    PS X (.Raise (some (.Call (.Name x p) [.Constant (.str m) j p2] [] p1)) none pos) (fun _ σ H => W (.ref (ga X.K x)) none σ H) :=
  ps_raise hc tk (pmk_own PySem.F.excBase_ValueError Y.row Y.glo Y.keep (raises_own Y.isE Y.meta_) hg hdb)
/-- raise ParseError(e) -/
theorem ps_parse (Y : Ex X.K X.mg) (hc : X.calm = true) (tk : Takes X W) (hr : Rm 2 X.A)
    (ha : PA X (e :: es) ta) (hg : Gl X "ParseError" := by rfl)
    (he : starEach (e :: es) X.env = (false, eval e X.env) :: starEach es X.env := by rfl)
    (hpl : (backTo p1 (starEach es X.env)).any (·.1) = false := by rfl) :
    PS X (.Raise (some (.Call (.Name "ParseError" p) (e :: es) [] p1)) none pos) (fun _ σ H => ta σ H fun vs H1 => ∃ y, vs = [y] ∧
      ∀ d, H1 d = none → W (.ref (ga X.K "ParseError")) (some d) σ (upd H1 d (.xd [("index", y)]))) := by
  obtain ⟨fI, fd, iC, tI, F⟩ := Y.par.ini
  exact ps_raise hc tk (MD.pmk_made Y.par.over iC tI (iniP (P := X.prog) (w := X.w) (base := X.base) Y F) hr
    (F.bindsN (fun _ _ _ _ _ _ us hl => match us, hl with | [_, _], _ => rfl)) pass0 Y.par.glo ha hg (by decide) he hpl)
/-- raise InvalidNumber(e) -/
theorem ps_num (Y : Ex X.K X.mg) (hc : X.calm = true) (tk : Takes X W) (hr : Rm 2 X.A)
    (ha : PA X (e :: es) ta) (hg : Gl X "InvalidNumber" := by rfl)
    (he : starEach (e :: es) X.env = (false, eval e X.env) :: starEach es X.env := by rfl)
    (hpl : (backTo p1 (starEach es X.env)).any (·.1) = false := by rfl) :
    PS X (.Raise (some (.Call (.Name "InvalidNumber" p) (e :: es) [] p1)) none pos) (fun _ σ H => ta σ H fun vs H1 => ∃ y, vs = [y] ∧
      ∀ d, H1 d = none → W (.ref (ga X.K "InvalidNumber")) (some d) σ (upd H1 d (.xd [("given", y)]))) := by
  obtain ⟨fI, fd, iC, tI, F⟩ := Y.num.ini
  exact ps_raise hc tk (MD.pmk_made Y.num.over iC tI (iniN (P := X.prog) (w := X.w) (base := X.base) Y F) hr
    (F.bindsN (fun _ _ _ _ _ _ us hl => match us, hl with | [_, _], _ => rfl)) pass0 Y.num.glo ha hg (by decide) he hpl)
end
section
variable {P : Program} {w : World} {K : PySem.W.Frag} {mg : Str → Option Value} {base : Heap} {CX : CXT} {j k l : Nat} {x : Str} {ps : List Str}
end
abbrev orS (a b : Sp) : Sp := fun vs H Q E => a vs H Q E ∨ b vs H Q E
theorem def_or {P : Program} {w : World} {K : PySem.W.Frag} {mg : Str → Option Value} {base : Heap} {CX : CXT} {j k l : Nat} {x : Str} {ps : List Str}
    {a b : Sp} (D : Def P w K mg base CX0 j x ps a) (B : Def P w K mg base CX k x ps b) (hj : j ≤ l) (hk : k ≤ l) :
    Def P w K mg base CX l x ps (orS a b) := by
  obtain ⟨f, fd, F, hm, kp, bd, oc, od, sl, lk⟩ := D
  obtain ⟨f', fd', F', hm', kp', bd', oc', od', sl', lk'⟩ := B
  obtain rfl : f = f' := by
    rw [hm] at hm'
    cases hm'
    rfl
  obtain rfl : fd = fd' := by
    rw [lk] at lk'
    cases lk'
    rfl
  refine ⟨f, fd, ⟨?_, ?_⟩, hm, kp, bd, oc, od, sl, lk⟩
  · rintro vs H Q E (h | h)
    · exact F.arity h
    · exact F'.arity h
  · rintro A out s H ar us vs Q E hr e0 hb hv (h | h)
    · refine codeAny_mono (F.runs (hr.le hj) e0 hb hv h) fun r s' q => ?_
      cases r with
      | error e => exact (show False from q).elim
      | ok fl => cases fl <;> exact q
    · exact F'.runs (hr.le hk) e0 hb hv h
end K84

set_option Elab.async false
set_option linter.all false
set_option maxRecDepth 100000
set_option maxHeartbeats 2000000
namespace K84
open PySem PySem.Spec PyProof.Rows L2 MM PySem.NumText
/-! own words for the readings: a step, its side -/
local macro_rules | `(tactic| walk_at "side") => `(tactic| first
  | omega
  | exact ⟨by omega, by omega⟩
  | exact Or.inl ⟨by omega, by omega⟩
  | exact Or.inr ⟨by omega, by omega⟩
  | (show CPw _ _; decide +kernel)
  | (show (0 : Int) < _; decide +kernel)
  | (show CDivW _ _; first | assumption | exact ⟨by decide, by decide +kernel⟩))
local macro_rules | `(tactic| walk_at "here") => `(tactic| first
  | assumption
  | exact upd_same
  | exact Or.inl (Or.inl upd_same)
  | exact Or.inl upd_same)
local macro_rules | `(tactic| walk_at "one") => `(tactic| first
  | refine ⟨_, rfl, ?_⟩
  | refine Or.inl ⟨_, rfl, ?_⟩
  | refine Or.inr ⟨_, rfl, ?_⟩
  | refine ⟨_, _, rfl, rfl, (by walk_at "side"), ?_⟩
  | refine ⟨_, _, rfl, rfl, ?_⟩
  | refine ⟨_, _, rfl, Or.inl (by walk_at "here"), ?_⟩
  | refine ⟨_, _, rfl, Or.inr (by walk_at "here"), ?_⟩
  | refine ⟨_, _, rfl, (by walk_at "here"), ?_⟩
  | refine ⟨_, _, _, _, rfl, rfl, (by walk_at "here"), rfl, ?_⟩
  | refine ⟨_, _, rfl, ?_⟩
  | refine ifT (by rfl) ?_
  | refine ifF (by rfl) ?_
  | refine ifT (decide_eq_true (by omega)) ?_
  | refine ifF (decide_eq_false (by omega)) ?_)
local macro_rules | `(tactic| walk_at "st") => `(tactic| repeat (walk_at "one"))

section
variable {P : Program} {w : World} {K : PySem.W.Frag} {mg : Str → Option Value} {base : Heap}
/-! texts, by their signs -/
abbrev cds (z : Str) : List Nat := z.cps.toList
def isAt (cs : List Nat) (i c : Nat) : Bool := decide (cs[i]? = some c)
def dg (cs : List Nat) (i : Nat) : Bool := match cs[i]? with
  | some c => decide (48 ≤ c) && decide (c ≤ 57)
  | none => false
theorem cut_list (cs : List Nat) (i j : Nat) : (cs.drop (min i cs.length)).take (min j cs.length - min i cs.length) = (cs.drop i).take (j - i) := by
  by_cases h : i ≤ cs.length
  · rw [Nat.min_eq_left h]
    by_cases h2 : j ≤ cs.length
    · rw [Nat.min_eq_left h2]
    · rw [Nat.min_eq_right (by omega), List.take_of_length_le (by rw [List.length_drop]; omega), List.take_of_length_le (by rw [List.length_drop]; omega)]
  · rw [Nat.min_eq_right (by omega : cs.length ≤ i), List.drop_of_length_le (Nat.le_refl _), List.drop_of_length_le (by omega : cs.length ≤ i)]
    simp
theorem cut_nat (z : Str) (i j : Nat) : cutS z (some (i : Int)) (some (j : Int)) = ⟨(((cds z).drop i).take (j - i)).toArray⟩ := by
  unfold cutS
  rw [HT.sIx_nat, HT.sIx_nat, show z.length = (cds z).length from (Array.length_toList).symm, cut_list]
theorem cut_one (z : Str) (i c : Nat) : decide (V.str (cutS z (some (i : Int)) (some ((i : Int) + 1))) = V.str ⟨#[c]⟩) = isAt (cds z) i c := by
  rw [show (i : Int) + 1 = ((i + 1 : Nat) : Int) by omega, cut_nat, show i + 1 - i = 1 by omega]
  unfold isAt
  refine decide_eq_decide.mpr ?_
  generalize cds z = cs
  constructor
  · intro h
    injection h with h
    injection h with h
    have h2 : ((cs.drop i).take 1) = [c] := by
      have := congrArg Array.toList h
      simpa using this
    cases e : cs.drop i with
    | nil =>
      rw [e] at h2
      cases h2
    | cons x r =>
      rw [e] at h2
      have hx : x = c := by simpa using h2
      have := List.getElem?_drop (xs := cs) (i := i) (j := 0)
      rw [e] at this
      rw [Nat.add_zero] at this
      rw [← this, ← hx]
      rfl
  · intro h
    have e : cs.drop i = c :: cs.drop (i + 1) := by
      obtain ⟨lt, e⟩ := List.getElem?_eq_some_iff.mp h
      rw [← e]
      exact List.drop_eq_getElem_cons lt
    rw [e]
    rfl
def spIsAt : Sp := fun vs H Q _ => ∃ (z : Str) (i c : Nat), vs = [.str z, .int (i : Int), .str ⟨#[c]⟩] ∧ z.length ≤ 4000 ∧ Q (.bl (isAt (cds z) i c)) H
theorem line4000 {n : Nat} (h : n ≤ 4000) : n ≤ sizeLine := Nat.le_trans h (by decide)
theorem scIsAt : FnScope ["text", "at", "sign"] ["text", "at", "sign"] (defScope sIsAt) :=
  ⟨rfl, rfl, rfl, by decide +kernel, rfl, by decide +kernel, by decide +kernel⟩
theorem dIsAt (T : Tx K mg) : Def P w K mg base CX0 1 "_is_at" ["text", "at", "sign"] spIsAt := by
  refine T.t_is_at.def_ (N := ["text", "at", "sign"]) scIsAt (fun _ _ _ _ _ _ us hl => match us, hl with | [_, _, _], _ => rfl) ?_ ?_
  · intro vs H Q E h
    obtain ⟨z, i, c, rfl, _⟩ := h
    rfl
  · intro f cd A out s H vs Q E hr h
    obtain ⟨z, i, c, rfl, hz, q⟩ := h
    refine ⟨_, (pss_one (ps_ret (pe_cmpR op_eq (pe_slice sl_str (pv 0) (po_some (pv 1)) (po_some (pe_op op_add (pv 1) pe_int))) (pv 2) (nomark _)))), ?_⟩
    rw [← cut_one] at q
    exact ⟨_, rfl, _, rfl, _, rfl, _, rfl, _, _, rfl, rfl, _, rfl, z, rfl, line4000 hz, _, rfl, rfl, q⟩
theorem dig_in (c : Nat) : decide (c ∈ ("0123456789" : Str).cps.toList) = (decide (48 ≤ c) && decide (c ≤ 57)) := by
  rw [show ("0123456789" : Str).cps.toList = [48, 49, 50, 51, 52, 53, 54, 55, 56, 57] by decide +kernel, ← Bool.decide_and]
  refine decide_eq_decide.mpr ?_
  simp only [List.mem_cons, List.not_mem_nil, or_false]
  omega
def spDig : Sp := fun vs H Q _ => ∃ (z : Str) (i : Nat), vs = [.str z, .int (i : Int)] ∧ z.length ≤ 4000 ∧ Q (.bl (dg (cds z) i)) H
theorem scIsDigitAt : FnScope ["text", "at"] ["text", "at"] (defScope sIsDigitAt) :=
  ⟨rfl, rfl, rfl, by decide +kernel, rfl, by decide +kernel, by decide +kernel⟩
theorem dIsDigitAt (T : Tx K mg) : Def P w K mg base CX0 1 "_is_digit_at" ["text", "at"] spDig := by
  refine T.t_is_digit_at.def_ (N := ["text", "at"]) scIsDigitAt (fun _ _ _ _ _ _ us hl => match us, hl with | [_, _], _ => rfl) ?_ ?_
  · intro vs H Q E h
    obtain ⟨z, i, rfl, _⟩ := h
    rfl
  · intro f cd A out s H vs Q E hr h
    obtain ⟨z, i, rfl, hz, q⟩ := h
    refine ⟨_, (pss_one (ps_ret (pe_and (pe_cmpR op_lt (pv 1) (pe_callB call_len_str rfl T.f_len (by decide +kernel) (pa_cons (pv 0) pa_nil)) (nomark _)) (pe_one (pe_cmpR op_in_sign (pe_ix ix_str (pv 0) (pv 1) (fun _ _ => rfl)) (C8.pe_gc rfl T.c_DIGITS) rfl))))), ?_⟩
    refine ⟨_, rfl, _, rfl, z, rfl, line4000 hz, _, _, rfl, rfl, ?_⟩
    have hl : z.length = (cds z).length := (Array.length_toList).symm
    refine ⟨_, rfl, ?_⟩
    by_cases lt : i < (cds z).length
    · refine ifT (decide_eq_true (by rw [hl]; omega)) ?_
      refine ⟨_, rfl, _, rfl, z, i, (cds z)[i], rfl, rfl, line4000 hz, atI_nat (List.getElem?_eq_getElem lt), (cds z)[i], "0123456789", rfl, rfl, ?_⟩
      rw [dig_in]
      unfold dg at q
      rw [List.getElem?_eq_getElem lt] at q
      exact q
    · refine ifF (decide_eq_false (by rw [hl]; omega)) ?_
      unfold dg at q
      rw [List.getElem?_eq_none (by omega)] at q
      exact q
/-! numbers in a text -/
/-- how many digits stand from i on, at most k -/
def run (cs : List Nat) : Nat → Nat → Nat
  | _, 0 => 0
  | i, k + 1 => if dg cs i = true then run cs (i + 1) k + 1 else 0
def endP (cs : List Nat) (i : Nat) : Nat := i + 1 + run cs (i + 1) (if isAt cs i 48 = true then 0 else 59)
def valP (cs : List Nat) (i : Nat) : Nat := digitsVal ((cs.drop i).take (endP cs i - i))
def plainP (cs : List Nat) (i : Nat) : Option (Nat × Nat) := if dg cs i = true then some (valP cs i, endP cs i) else none
theorem run_zero (cs : List Nat) (i : Nat) : run cs i 0 = 0 := rfl
theorem run_succ (cs : List Nat) (i k : Nat) : run cs i (k + 1) = if dg cs i = true then run cs (i + 1) k + 1 else 0 := rfl
theorem dg_lt {cs : List Nat} {i : Nat} (h : dg cs i = true) : ∃ c, cs[i]? = some c ∧ 48 ≤ c ∧ c ≤ 57 := by
  unfold dg at h
  cases e : cs[i]? with
  | none => rw [e] at h; cases h
  | some c =>
    rw [e, Bool.and_eq_true] at h
    exact ⟨c, rfl, of_decide_eq_true h.1, of_decide_eq_true h.2⟩
theorem run_le (cs : List Nat) : ∀ k i, run cs i k ≤ k
  | 0, _ => Nat.le_refl _
  | k + 1, i => by
    unfold run
    split
    · exact Nat.succ_le_succ (run_le cs k (i + 1))
    · exact Nat.zero_le _
theorem run_dg (cs : List Nat) : ∀ k i j, j < run cs i k → dg cs (i + j) = true
  | 0, i, j, h => absurd h (Nat.not_lt_zero _)
  | k + 1, i, j, h => by
    unfold run at h
    split at h
    · rename_i c
      cases j with
      | zero => exact c
      | succ j =>
        have := run_dg cs k (i + 1) j (by omega)
        rw [show i + (j + 1) = i + 1 + j by omega]
        exact this
    · exact absurd h (Nat.not_lt_zero _)
theorem endP_le (cs : List Nat) (i : Nat) : i + 1 ≤ endP cs i ∧ endP cs i ≤ i + 60 := by
  unfold endP
  have := run_le cs (if isAt cs i 48 = true then 0 else 59) (i + 1)
  have h2 : (if isAt cs i 48 = true then 0 else 59) ≤ 59 := by split <;> omega
  omega
theorem endP_dg {cs : List Nat} {i : Nat} (h : dg cs i = true) : ∀ j, i ≤ j → j < endP cs i → dg cs j = true := by
  intro j h1 h2
  unfold endP at h2
  by_cases e : j = i
  · rw [e]; exact h
  · have := run_dg cs (if isAt cs i 48 = true then 0 else 59) (i + 1) (j - (i + 1)) (by omega)
    rw [show i + 1 + (j - (i + 1)) = j by omega] at this
    exact this
theorem all_dg {cs : List Nat} {i e : Nat} (h : ∀ j, i ≤ j → j < e → dg cs j = true) : AllDigits ((cs.drop i).take (e - i)) := by
  intro c hc
  obtain ⟨k, lt, rfl⟩ := List.getElem_of_mem hc
  rw [List.getElem_take, List.getElem_drop]
  have l2 : k < e - i := by
    rw [List.length_take] at lt
    omega
  obtain ⟨c, h1, h2⟩ := dg_lt (h (i + k) (by omega) (by omega))
  have e : cs[i + k]? = some (cs[i + k]'(by
    rw [List.length_take, List.length_drop] at lt
    omega)) := List.getElem?_eq_getElem _
  rw [e] at h1
  have h3 := Option.some.inj h1
  rw [h3]
  exact h2
theorem int_part {z : Str} {i e : Nat} (h : ∀ j, i ≤ j → j < e → dg (cds z) j = true) (l1 : i < e) (l2 : e ≤ i + 60) :
    intText? (cutS z (some (i : Int)) (some (e : Int))) = some ((digitsVal (((cds z).drop i).take (e - i)) : Nat) : Int) ∧ (cutS z (some (i : Int)) (some (e : Int))).length ≤ 640 := by
  rw [cut_nat]
  have len : (((cds z).drop i).take (e - i)).length ≤ 60 := by
    rw [List.length_take]
    omega
  have ne : ((cds z).drop i).take (e - i) ≠ [] := by
    obtain ⟨c, hc, _⟩ := dg_lt (h i (Nat.le_refl _) l1)
    obtain ⟨lt, _⟩ := List.getElem?_eq_some_iff.mp hc
    intro z0
    have := congrArg List.length z0
    rw [List.length_take, List.length_drop, List.length_nil] at this
    omega
  have e1 : (⟨(((cds z).drop i).take (e - i)).toArray⟩ : Str).cps.toList = ((cds z).drop i).take (e - i) := by simp
  have len2 : (⟨(((cds z).drop i).take (e - i)).toArray⟩ : Str).length ≤ 60 := by
    show (((cds z).drop i).take (e - i)).toArray.size ≤ 60
    rw [List.size_toArray]
    exact len
  refine ⟨?_, by omega⟩
  rw [intText_digits (by rw [e1]; exact all_dg h) (by rw [e1]; exact ne) (by omega), e1]
/-- what an error of a text tells -/
abbrev rPar (K : PySem.W.Frag) (H : Hp) (i : Nat) (E : XK) : Prop := ∀ H' d, Same H H' → H d = none → H' d = some (.xd [("index", .int (i : Int))]) → E (.ref (ga K "ParseError")) (some d) H'
theorem par_new {H H1 : Hp} {i : Nat} {E : XK} (q : rPar K H i E) (s : Same H H1) {d : Addr} (hd : H1 d = none) : E (.ref (ga K "ParseError")) (some d) (upd H1 d (.xd [("index", .int (i : Int))])) :=
  q _ d (s.trans (same_new hd)) (s.free hd) upd_same
/-- two values in a tuple -/
abbrev rTwo (x y : V) (H : Hp) (Q : VK) : Prop := ∀ H' r, Same H H' → H' r = some (.tup [x, y]) → Q (.ref r) H'
def spPlain (K : PySem.W.Frag) : Sp := fun vs H Q E => ∃ (z : Str) (i : Nat), vs = [.str z, .int (i : Int)] ∧ z.length ≤ 4000 ∧
  (dg (cds z) i = false → rPar K H i E) ∧ (dg (cds z) i = true → rTwo (.int (valP (cds z) i : Nat)) (.int (endP (cds z) i : Nat)) H Q)
theorem scReadPlain : FnScope ["text", "at", "most", "end"] ["text", "at"] (defScope sReadPlain) :=
  ⟨rfl, rfl, rfl, by decide +kernel, rfl, by decide +kernel, by decide +kernel⟩
theorem bReadPlain (T : Tx K mg) (Y : Ex K mg) (DIsDigitAt : Def P w K mg base CX0 1 "_is_digit_at" ["text", "at"] spDig) (DIsAt : Def P w K mg base CX0 1 "_is_at" ["text", "at", "sign"] spIsAt) : Def P w K mg base (L2.CX P w) 3 "_read_plain" ["text", "at"] (spPlain K) := by
  refine T.t_read_plain.defX (N := ["text", "at", "most", "end"]) scReadPlain (fun _ _ _ _ _ _ us hl => match us, hl with | [_, _], _ => rfl) ?_ ?_
  · intro vs H Q E h
    obtain ⟨z, i, rfl, _⟩ := h
    rfl
  · intro f cd A out s H vs Q E hr h
    have hr1 : Rm 1 _ := hr.le (by decide)
    have tk : Takes (cxOf (L2.CX P w) P w K mg base ["text", "at", "most", "end"] "_read_plain" (defScope sReadPlain) f cd A out s H E) (fun cls d _ H1 => E cls d H1) := takes_of rfl rfl rfl rfl
    obtain ⟨z, i, rfl, hz, q1, q2⟩ := h
    refine ⟨_, (pss_cons (ps_if (pt_not (pt_val (pe_d DIsDigitAt (hr1.le (by decide)) pass0 (pa_cons (pv 0) (pa_cons (pv 1) pa_nil))))) (pss_one (ps_parse Y rfl tk (hr.le (by decide)) (pa_cons (pv 1) pa_nil))) pss_nil)
      (pss_cons (ps_set (i := 2) scReadPlain.nd rfl (Or.inl rfl) (pe_ifExp (pt_val (pe_d DIsAt (hr1.le (by decide)) pass0 (pa_cons (pv 0) (pa_cons (pv 1) (pa_cons pe_str pa_nil))))) (pe_op op_add (pv 1) pe_int) (pe_op op_add (pv 1) (C8.pe_gc rfl T.c_MOST_DIGITS))))
      (pss_cons (ps_set (i := 3) scReadPlain.nd rfl (Or.inl rfl) (pe_op op_add (pv 1) pe_int))
      (pss_cons (ps_while (passes_of rfl) (PW.pt (pw_and (pt_cmpR op_lt (pv 3) (pv 2) (nomark _)) (pw_and1 (pt_val (pe_d DIsDigitAt (hr1.le (by decide)) pass0 (pa_cons (pv 0) (pa_cons (pv 3) pa_nil)))))))
        (pss_one (ps_aug (i := 3) scReadPlain.nd rfl (Or.inl rfl) pe_int ip_add)))
      (pss_one (ps_ret (pe_tup (pa_cons (pe_callTy call_int_str rfl T.f_int (by decide +kernel) (pa_cons (pe_slice sl_str (pv 0) (po_some (pv 1)) (po_some (pv 3))) pa_nil)) (pa_cons (pv 3) pa_nil))))))))), ?_⟩
    refine ⟨_, rfl, _, rfl, z, i, rfl, hz, ?_⟩
    cases hb : dg (cds z) i with
    | false =>
      refine ⟨_, rfl, ?_⟩
      refine ifT rfl ?_
      exact ⟨_, rfl, _, rfl, fun d hd => par_new (q1 hb) (Same.refl H) hd⟩
    | true =>
      refine ⟨_, rfl, ?_⟩
      refine ifF rfl ?_
      have hl : z.length = (cds z).length := (Array.length_toList).symm
      refine ⟨_, rfl, _, rfl, z, i, 48, rfl, hz, ?_⟩
      refine ⟨_, rfl, ?_⟩
      have q3 := q2 hb
      have hd := endP_dg hb
      have he := endP_le (cds z) i
      unfold valP at q3
      have ee : endP (cds z) i = i + 1 + run (cds z) (i + 1) (if isAt (cds z) i 48 = true then 0 else 59) := rfl
      generalize endP (cds z) i = e at q3 hd he ee
      cases h48 : isAt (cds z) i 48
      case' true =>
        refine ifT rfl ?_
        refine ⟨_, rfl, _, _, rfl, rfl, ?_⟩
        show gName 2 (V.int ((i : Int) + 1)) _ _ _
        obtain ⟨m, hm, em, m9⟩ : ∃ m : Nat, (i : Int) + 1 = ((i + 1 + m : Nat) : Int) ∧ (if isAt (cds z) i 48 = true then 0 else 59) = m ∧ m ≤ 59 := ⟨0, by omega, by rw [h48]; rfl, by omega⟩
        rw [hm]
      case' false =>
        refine ifF rfl ?_
        refine ⟨_, rfl, _, _, rfl, rfl, ?_⟩
        show gName 2 (V.int ((i : Int) + 60)) _ _ _
        obtain ⟨m, hm, em, m9⟩ : ∃ m : Nat, (i : Int) + 60 = ((i + 1 + m : Nat) : Int) ∧ (if isAt (cds z) i 48 = true then 0 else 59) = m ∧ m ≤ 59 := ⟨59, by omega, by rw [h48]; rfl, by omega⟩
        rw [hm]
      all_goals
        rw [em] at ee
        clear em hm h48
        refine ⟨_, rfl, _, _, rfl, rfl, ?_⟩
        refine while_by (fun σ H2 => ∃ k : Nat, σ = [some (.str z), some (.int (i : Int)), some (.int ((i + 1 + m : Nat) : Int)), some (.int ((i + 1 + k : Nat) : Int))] ∧ H2 = H ∧ k ≤ m ∧ k + run (cds z) (i + 1 + k) (m - k) = run (cds z) (i + 1) m)
          (fun σ _ => match σ with | [_, _, _, some (.int e)] => ((i + 1 + m : Nat) - e).toNat | _ => 0) ?_ ?_ ?_
        · exact ⟨0, rfl, rfl, Nat.zero_le _, by simp⟩
        · rintro σ H2 ⟨k, rfl, rfl, km, kr⟩
          refine ⟨_, rfl, _, rfl, _, _, rfl, rfl, _, rfl, ?_⟩
          by_cases lt : k < m
          · refine ifT (decide_eq_true (by omega)) ?_
            refine ⟨_, rfl, _, rfl, z, _, rfl, hz, ?_⟩
            refine ⟨_, rfl, ?_⟩
            obtain ⟨m', rfl⟩ : ∃ m', m = k + (m' + 1) := ⟨m - k - 1, by omega⟩
            rw [show k + (m' + 1) - k = m' + 1 by omega] at kr
            rw [run_succ (cds z) (i + 1 + k) m'] at kr
            cases hg : dg (cds z) (i + 1 + k) with
            | false =>
              refine ifF rfl ?_
              rw [hg, if_neg (by decide)] at kr
              have hk : i + 1 + k = e := by omega
              rw [hk]
              obtain ⟨it, il⟩ := int_part (z := z) hd (by omega) (by omega)
              refine ⟨_, rfl, _, rfl, _, rfl, _, rfl, _, rfl, z, rfl, line4000 hz, _, _, rfl, it, il, _, rfl, by show 2 ≤ sizeLine; decide, fun r hr => ?_⟩
              exact q3 _ r (same_new hr) upd_same
            | true =>
              refine ifT rfl ?_
              rw [hg, if_pos rfl] at kr
              refine ⟨_, rfl, _, _, rfl, rfl, ?_⟩
              refine ⟨⟨k + 1, ?_, rfl, by omega, ?_⟩, ?_⟩
              · show [some (V.str z), some (V.int (i : Int)), _, some (V.int (((i + 1 + k : Nat) : Int) + 1))] = _
                rw [show ((i + 1 + k : Nat) : Int) + 1 = ((i + 1 + (k + 1) : Nat) : Int) by omega]
              · rw [show k + (m' + 1) - (k + 1) = m' by omega, show i + 1 + (k + 1) = i + 1 + k + 1 by omega]
                omega
              · show ((i + 1 + (k + (m' + 1)) : Nat) - (((i + 1 + k : Nat) : Int) + 1)).toNat < ((i + 1 + (k + (m' + 1)) : Nat) - ((i + 1 + k : Nat) : Int)).toNat
                omega
          · refine ifF (decide_eq_false (by omega)) ?_
            have z0 : m - k = 0 := by omega
            rw [z0, run_zero] at kr
            have hk : i + 1 + k = e := by omega
            rw [hk]
            obtain ⟨it, il⟩ := int_part (z := z) hd (by omega) (by omega)
            refine ⟨_, rfl, _, rfl, _, rfl, _, rfl, _, rfl, z, rfl, line4000 hz, _, _, rfl, it, il, _, rfl, by show 2 ≤ sizeLine; decide, fun r hr => ?_⟩
            exact q3 _ r (same_new hr) upd_same
        · rintro σ H2 Q1 Q2 mono ⟨x1, h1, x2, h2, a, b, e1, e2, c, hc, h3⟩
          refine ⟨x1, h1, x2, h2, a, b, e1, e2, c, hc, ?_⟩
          cases c with
          | false => exact mono _ _ h3
          | true =>
            obtain ⟨y1, g1, y2, g2, z', i', ez, hz', c2, hc2, h4⟩ := h3
            exact ⟨y1, g1, y2, g2, z', i', ez, hz', c2, hc2, mono _ _ h4⟩
end
end K84


set_option Elab.async false
set_option linter.all false
set_option maxRecDepth 100000
set_option maxHeartbeats 2000000
namespace K84
open PySem PySem.Spec PyProof.Rows L2 MM PySem.NumText
/-! own words for the readings: a step, its side -/
local macro_rules | `(tactic| walk_at "side") => `(tactic| first
  | omega
  | exact ⟨by omega, by omega⟩
  | exact Or.inl ⟨by omega, by omega⟩
  | exact Or.inr ⟨by omega, by omega⟩
  | (show CPw _ _; decide +kernel)
  | (show (0 : Int) < _; decide +kernel)
  | (show CDivW _ _; first | assumption | exact ⟨by decide, by decide +kernel⟩))
local macro_rules | `(tactic| walk_at "here") => `(tactic| first
  | assumption
  | exact upd_same
  | exact Or.inl (Or.inl upd_same)
  | exact Or.inl upd_same)
local macro_rules | `(tactic| walk_at "one") => `(tactic| first
  | refine ⟨_, rfl, ?_⟩
  | refine Or.inl ⟨_, rfl, ?_⟩
  | refine Or.inr ⟨_, rfl, ?_⟩
  | refine ⟨_, _, rfl, rfl, (by walk_at "side"), ?_⟩
  | refine ⟨_, _, rfl, rfl, ?_⟩
  | refine ⟨_, _, rfl, Or.inl (by walk_at "here"), ?_⟩
  | refine ⟨_, _, rfl, Or.inr (by walk_at "here"), ?_⟩
  | refine ⟨_, _, rfl, (by walk_at "here"), ?_⟩
  | refine ⟨_, _, _, _, rfl, rfl, (by walk_at "here"), rfl, ?_⟩
  | refine ⟨_, _, rfl, ?_⟩
  | refine ifT (by rfl) ?_
  | refine ifF (by rfl) ?_
  | refine ifT (decide_eq_true (by omega)) ?_
  | refine ifF (decide_eq_false (by omega)) ?_)
local macro_rules | `(tactic| walk_at "st") => `(tactic| repeat (walk_at "one"))

section
variable {P : Program} {w : World} {K : PySem.W.Frag} {mg : Str → Option Value} {base : Heap}
/-- a text of at most 3000 signs -/
def okT : V → Bool
  | .str z => decide (z.length ≤ 3000)
  | _ => false
def spNeedText (K : PySem.W.Frag) : Sp := fun vs H Q E => ∃ x n, vs = [x] ∧ Kd K H x n ∧ (∀ z, x = .str z → z.length ≤ 4000) ∧ (okT x = false → rPar K H 0 E) ∧ (okT x = true → Q .non H)
theorem scNeedText : FnScope ["text"] ["text"] (defScope sNeedText) :=
  ⟨rfl, rfl, rfl, by decide +kernel, rfl, by decide +kernel, by decide +kernel⟩
theorem bNeedText (T : Tx K mg) (Y : Ex K mg) : Def P w K mg base (L2.CX P w) 3 "_need_text" ["text"] (spNeedText K) := by
  refine T.t_need_text.defX (N := ["text"]) scNeedText (fun _ _ _ _ _ _ us hl => match us, hl with | [_], _ => rfl) ?_ ?_
  · intro vs H Q E h
    obtain ⟨x, n, rfl, _⟩ := h
    rfl
  · intro f cd A out s H vs Q E hr h
    have tk : Takes (cxOf (L2.CX P w) P w K mg base ["text"] "_need_text" (defScope sNeedText) f cd A out s H E) (fun cls d _ H1 => E cls d H1) := takes_of rfl rfl rfl rfl
    obtain ⟨x, n, rfl, hk, hz, q1, q2⟩ := h
    refine ⟨_, (pss_one (ps_if (PW.pt (pw_or (pt_not (pt_val (pe_callB (cr_is .str) rfl T.f_isinstance (by decide +kernel) (pa_cons (pv 0) (pa_cons (pe_ty .str T.f_str (by decide +kernel)) pa_nil))))) (pw_or1 (pt_cmpR op_gt (pe_callB call_len_str rfl T.f_len (by decide +kernel) (pa_cons (pv 0) pa_nil)) (C8.pe_gc rfl T.c_MOST_SIGNS) (nomark _))))) (pss_one (ps_parse Y rfl tk (hr.le (by decide)) (pa_cons pe_int pa_nil))) pss_nil)), ?_⟩
    refine ⟨_, rfl, _, _, rfl, hk, _, rfl, ?_⟩
    by_cases st : n.isa .str = true
    · refine ifF (by rw [st]; rfl) ?_
      obtain ⟨z, rfl⟩ : ∃ z, x = .str z := by
        cases hk <;> first | exact ⟨_, rfl⟩ | cases st
      refine ⟨_, rfl, z, rfl, line4000 (hz z rfl), _, _, rfl, rfl, _, rfl, ?_⟩
      cases b : okT (.str z) with
      | true =>
        have le : z.length ≤ 3000 := of_decide_eq_true b
        exact ifF (decide_eq_false (by omega)) (q2 b)
      | false =>
        have le : ¬ z.length ≤ 3000 := of_decide_eq_false b
        refine ifT (decide_eq_true (by omega)) ?_
        exact ⟨_, rfl, fun d hd => par_new (i := 0) (q1 b) (Same.refl H) hd⟩
    · have sf : n.isa .str = false := by
        cases e : n.isa .str with
        | true => exact absurd e st
        | false => rfl
      refine ifT (by rw [sf]; rfl) ?_
      have b : okT x = false := by
        cases hk <;> first | rfl | exact absurd rfl st
      exact ifT rfl ⟨_, rfl, fun d hd => par_new (i := 0) (q1 b) (Same.refl H) hd⟩
def spBehind (K : PySem.W.Frag) : Sp := fun vs H Q E => ∃ (z : Str) (i c : Nat), vs = [.str z, .int (i : Int), .str ⟨#[c]⟩] ∧ z.length ≤ 4000 ∧ (isAt (cds z) i c = false → rPar K H i E) ∧ (isAt (cds z) i c = true → Q (.int ((i + 1 : Nat) : Int)) H)
theorem scBehind : FnScope ["text", "at", "sign"] ["text", "at", "sign"] (defScope sBehind) :=
  ⟨rfl, rfl, rfl, by decide +kernel, rfl, by decide +kernel, by decide +kernel⟩
theorem bBehind (T : Tx K mg) (Y : Ex K mg) (DIsAt : Def P w K mg base CX0 1 "_is_at" ["text", "at", "sign"] spIsAt) : Def P w K mg base (L2.CX P w) 3 "_behind" ["text", "at", "sign"] (spBehind K) := by
  refine T.t_behind.defX (N := ["text", "at", "sign"]) scBehind (fun _ _ _ _ _ _ us hl => match us, hl with | [_, _, _], _ => rfl) ?_ ?_
  · intro vs H Q E h
    obtain ⟨z, i, c, rfl, _⟩ := h
    rfl
  · intro f cd A out s H vs Q E hr h
    have hr1 : Rm 1 _ := hr.le (by decide)
    have tk : Takes (cxOf (L2.CX P w) P w K mg base ["text", "at", "sign"] "_behind" (defScope sBehind) f cd A out s H E) (fun cls d _ H1 => E cls d H1) := takes_of rfl rfl rfl rfl
    obtain ⟨z, i, c, rfl, hz, q1, q2⟩ := h
    refine ⟨_, (pss_cons (ps_if (pt_not (pt_val (pe_d DIsAt (hr1.le (by decide)) pass0 (pa_cons (pv 0) (pa_cons (pv 1) (pa_cons (pv 2) pa_nil)))))) (pss_one (ps_parse Y rfl tk (hr.le (by decide)) (pa_cons (pv 1) pa_nil))) pss_nil)
      (pss_one (ps_ret (pe_op op_add (pv 1) pe_int)))), ?_⟩
    refine ⟨_, rfl, _, rfl, _, rfl, z, i, c, rfl, hz, ?_⟩
    refine ⟨_, rfl, ?_⟩
    cases b : isAt (cds z) i c with
    | false =>
      refine ifT rfl ?_
      exact ⟨_, rfl, _, rfl, fun d hd => par_new (q1 b) (Same.refl H) hd⟩
    | true =>
      refine ifF rfl ?_
      exact ⟨_, rfl, _, _, rfl, rfl, q2 b⟩
def spLess (K : PySem.W.Frag) : Sp := fun vs H Q E => ∃ (z : Str) (i : Nat), vs = [.str z, .int (i : Int)] ∧ z.length ≤ 4000 ∧ (isAt (cds z) i 45 = false → rTwo (.bl false) (.int (i : Int)) H Q) ∧
  (isAt (cds z) i 45 = true → isAt (cds z) (i + 1) 48 = true → rPar K H (i + 1) E) ∧ (isAt (cds z) i 45 = true → isAt (cds z) (i + 1) 48 = false → rTwo (.bl true) (.int ((i + 1 : Nat) : Int)) H Q)
theorem scReadLess : FnScope ["text", "at"] ["text", "at"] (defScope sReadLess) :=
  ⟨rfl, rfl, rfl, by decide +kernel, rfl, by decide +kernel, by decide +kernel⟩
theorem bReadLess (T : Tx K mg) (Y : Ex K mg) (DIsAt : Def P w K mg base CX0 1 "_is_at" ["text", "at", "sign"] spIsAt) : Def P w K mg base (L2.CX P w) 3 "_read_less" ["text", "at"] (spLess K) := by
  refine T.t_read_less.defX (N := ["text", "at"]) scReadLess (fun _ _ _ _ _ _ us hl => match us, hl with | [_, _], _ => rfl) ?_ ?_
  · intro vs H Q E h
    obtain ⟨z, i, rfl, _⟩ := h
    rfl
  · intro f cd A out s H vs Q E hr h
    have hr1 : Rm 1 _ := hr.le (by decide)
    have tk : Takes (cxOf (L2.CX P w) P w K mg base ["text", "at"] "_read_less" (defScope sReadLess) f cd A out s H E) (fun cls d _ H1 => E cls d H1) := takes_of rfl rfl rfl rfl
    obtain ⟨z, i, rfl, hz, q0, q1, q2⟩ := h
    refine ⟨_, (pss_cons (ps_if (pt_not (pt_val (pe_d DIsAt (hr1.le (by decide)) pass0 (pa_cons (pv 0) (pa_cons (pv 1) (pa_cons pe_str pa_nil)))))) (pss_one (ps_ret (pe_tup (pa_cons pe_bl (pa_cons (pv 1) pa_nil))))) pss_nil)
      (pss_cons (ps_if (pt_val (pe_d DIsAt (hr1.le (by decide)) pass0 (pa_cons (pv 0) (pa_cons (pe_op op_add (pv 1) pe_int) (pa_cons pe_str pa_nil))))) (pss_one (ps_parse Y rfl tk (hr.le (by decide)) (pa_cons (pe_op op_add (pv 1) pe_int) pa_nil))) pss_nil)
      (pss_one (ps_ret (pe_tup (pa_cons pe_bl (pa_cons (pe_op op_add (pv 1) pe_int) pa_nil))))))), ?_⟩
    refine ⟨_, rfl, _, rfl, z, i, 45, rfl, hz, ?_⟩
    refine ⟨_, rfl, ?_⟩
    cases b : isAt (cds z) i 45 with
    | false =>
      refine ifT rfl ?_
      exact ⟨_, rfl, by show 2 ≤ sizeLine; decide, fun r hr => q0 b _ r (same_new hr) upd_same⟩
    | true =>
      refine ifF rfl ?_
      refine ⟨_, rfl, _, rfl, _, _, rfl, rfl, z, i + 1, 48, rfl, hz, ?_⟩
      refine ⟨_, rfl, ?_⟩
      cases b2 : isAt (cds z) (i + 1) 48 with
      | true =>
        refine ifT rfl ?_
        exact ⟨_, rfl, _, _, rfl, rfl, _, rfl, fun d hd => par_new (q1 b b2) (Same.refl H) hd⟩
      | false =>
        refine ifF rfl ?_
        exact ⟨_, rfl, _, _, rfl, rfl, by show 2 ≤ sizeLine; decide, fun r hr => q2 b b2 _ r (same_new hr) upd_same⟩
/-! what reading tells: the value, or the index of the first wrong sign -/
abbrev Rd (α : Type) := Except Nat α
def rRes {α : Type} (K : PySem.W.Frag) (H : Hp) (E : XK) (r : Rd α) (k : α → Prop) : Prop := match r with
  | .ok a => k a
  | .error i => rPar K H i E
def plainR (cs : List Nat) (i : Nat) : Rd (Nat × Nat) := if dg cs i = true then .ok (valP cs i, endP cs i) else .error i
def behindR (cs : List Nat) (i c : Nat) : Rd Nat := if isAt cs i c = true then .ok (i + 1) else .error i
def lessR (cs : List Nat) (i : Nat) : Rd (Bool × Nat) := if isAt cs i 45 = true then (if isAt cs (i + 1) 48 = true then .error (i + 1) else .ok (true, i + 1)) else .ok (false, i)
def sgn (b : Bool) (n : Nat) : Int := if b = true then -(n : Int) else (n : Int)
def signedR (cs : List Nat) (i : Nat) : Rd (Int × Nat) := match lessR cs i with
  | .error j => .error j
  | .ok (b, s) => match plainR cs s with
    | .error j => .error j
    | .ok (n, e) => .ok (sgn b n, e)
theorem rPar.same {H H1 : Hp} {i : Nat} {E : XK} (q : rPar K H i E) (s : Same H H1) : rPar K H1 i E := fun H' d s' fd ed => q H' d (s.trans s') (s.free fd) ed
def spSigned (K : PySem.W.Frag) : Sp := fun vs H Q E => ∃ (z : Str) (i : Nat), vs = [.str z, .int (i : Int)] ∧ z.length ≤ 4000 ∧ rRes K H E (signedR (cds z) i) fun r => rTwo (.int r.1) (.int (r.2 : Nat)) H Q
theorem scReadSigned : FnScope ["text", "at", "is_less", "start", "number", "end"] ["text", "at"] (defScope sReadSigned) :=
  ⟨rfl, rfl, rfl, by decide +kernel, rfl, by decide +kernel, by decide +kernel⟩
theorem bReadSigned (T : Tx K mg) (Y : Ex K mg) (BReadLess : Def P w K mg base (L2.CX P w) 3 "_read_less" ["text", "at"] (spLess K)) (BReadPlain : Def P w K mg base (L2.CX P w) 3 "_read_plain" ["text", "at"] (spPlain K)) : Def P w K mg base (L2.CX P w) 4 "_read_signed" ["text", "at"] (spSigned K) := by
  refine T.t_read_signed.defX (N := ["text", "at", "is_less", "start", "number", "end"]) scReadSigned (fun _ _ _ _ _ _ us hl => match us, hl with | [_, _], _ => rfl) ?_ ?_
  · intro vs H Q E h
    obtain ⟨z, i, rfl, _⟩ := h
    rfl
  · intro f cd A out s H vs Q E hr h
    have hr2 : Rm 3 _ := hr.le (by decide)
    have tk : Takes (cxOf (L2.CX P w) P w K mg base ["text", "at", "is_less", "start", "number", "end"] "_read_signed" (defScope sReadSigned) f cd A out s H E) (fun cls d _ H1 => E cls d H1) := takes_of rfl rfl rfl rfl
    obtain ⟨z, i, rfl, hz, q⟩ := h
    refine ⟨_, (pss_cons (ps_asg (ME.pe_dS BReadLess (hr2.le (by decide)) (passAt tk) (pa_cons (pv 0) (pa_cons (pv 1) pa_nil))) (pg_tup rfl (pgs_cons (pg_name (i := 2) scReadSigned.nd rfl (Or.inl rfl)) (pgs_cons (pg_name (i := 3) scReadSigned.nd rfl (Or.inl rfl)) pgs_nil))))
      (pss_cons (ps_asg (ME.pe_dS BReadPlain (hr2.le (by decide)) (passAt tk) (pa_cons (pv 0) (pa_cons (pv 3) pa_nil))) (pg_tup rfl (pgs_cons (pg_name (i := 4) scReadSigned.nd rfl (Or.inl rfl)) (pgs_cons (pg_name (i := 5) scReadSigned.nd rfl (Or.inl rfl)) pgs_nil))))
      (pss_one (ps_ret (pe_tup (pa_cons (pe_ifExp (pt_val (pv 2)) (pe_un un_neg (pv 4)) (pv 4)) (pa_cons (pv 5) pa_nil))))))), ?_⟩
    have fin : ∀ (b : Bool) (s : Nat), (rRes K H E (match plainR (cds z) s with
        | .error j => .error j
        | .ok (n, e) => .ok (sgn b n, e)) fun r => rTwo (.int r.1) (.int (r.2 : Nat)) H Q) →
        (dg (cds z) s = false → rPar K H s E) ∧ (dg (cds z) s = true → rTwo (.int (sgn b (valP (cds z) s))) (.int (endP (cds z) s : Nat)) H Q) := by
      intro b s h
      unfold plainR at h
      constructor
      · intro e
        rw [e, if_neg (by decide)] at h
        exact h
      · intro e
        rw [e, if_pos rfl] at h
        exact h
    refine ⟨_, rfl, _, rfl, z, i, rfl, hz, fun b H1 r s1 hr_ => ?_, fun b1 b2 => ?_, fun b1 b2 H1 r s1 hr_ => ?_⟩
    · have q' := fin false i (by
        unfold signedR lessR at q
        rw [b, if_neg (by decide)] at q
        exact q)
      refine ⟨r, _, rfl, .inl (.inl hr_), rfl, _, _, rfl, ?_⟩
      refine ⟨_, _, rfl, rfl, ?_⟩
      refine ⟨_, rfl, _, rfl, z, i, rfl, hz, fun e => (q'.1 e).same s1, fun e H2 r2 s2 hr2 => ?_⟩
      refine ⟨r2, _, rfl, .inl (.inl hr2), rfl, _, _, rfl, ?_⟩
      refine ⟨_, _, rfl, rfl, ?_⟩
      refine ⟨_, rfl, _, rfl, ?_⟩
      refine ifF rfl ?_
      exact ⟨_, rfl, _, rfl, by show 2 ≤ sizeLine; decide, fun r3 h3 => q'.2 e _ r3 ((s1.trans s2).trans (same_new h3)) upd_same⟩
    · unfold signedR lessR at q
      rw [b1, if_pos rfl, b2, if_pos rfl] at q
      exact q
    · have q' := fin true (i + 1) (by
        unfold signedR lessR at q
        rw [b1, if_pos rfl, b2, if_neg (by decide)] at q
        exact q)
      refine ⟨r, _, rfl, .inl (.inl hr_), rfl, _, _, rfl, ?_⟩
      refine ⟨_, _, rfl, rfl, ?_⟩
      refine ⟨_, rfl, _, rfl, z, i + 1, rfl, hz, fun e => (q'.1 e).same s1, fun e H2 r2 s2 hr2 => ?_⟩
      refine ⟨r2, _, rfl, .inl (.inl hr2), rfl, _, _, rfl, ?_⟩
      refine ⟨_, _, rfl, rfl, ?_⟩
      refine ⟨_, rfl, _, rfl, ?_⟩
      refine ifT rfl ?_
      exact ⟨_, rfl, _, rfl, _, rfl, by show 2 ≤ sizeLine; decide, fun r3 h3 => q'.2 e _ r3 ((s1.trans s2).trans (same_new h3)) upd_same⟩
/-- one more integer behind a comma, as long as signs are left -/
def rowGo (cs : List Nat) : Nat → List Int → Nat → Rd (List Int)
  | 0, row, _ => .ok row
  | f + 1, row, e => if e < cs.length then (match behindR cs e 44 with
      | .error j => .error j
      | .ok s => match signedR cs s with
        | .error j => .error j
        | .ok (n, e2) => rowGo cs f (row ++ [n]) e2) else .ok row
def rowR (cs : List Nat) : Rd (List Int) := match signedR cs 0 with
  | .error j => .error j
  | .ok (n, e) => rowGo cs cs.length [n] e
theorem rowGo_end {cs : List Nat} {f : Nat} {row : List Int} {e : Nat} (h : ¬ e < cs.length) : rowGo cs f row e = .ok row := by
  cases f with
  | zero => rfl
  | succ f => exact if_neg h
theorem plainR_gt {cs : List Nat} {i n e : Nat} (h : plainR cs i = .ok (n, e)) : i < e := by
  unfold plainR at h
  split at h
  · injection h with h
    injection h with h1 h2
    rw [← h2]
    exact (endP_le cs i).1
  · cases h
theorem signedR_gt {cs : List Nat} {i e : Nat} {n : Int} (h : signedR cs i = .ok (n, e)) : i < e := by
  unfold signedR at h
  split at h
  · cases h
  · rename_i b s hl
    have ls : i ≤ s := by
      unfold lessR at hl
      split at hl
      · split at hl
        · cases hl
        · injection hl with hl
          injection hl with _ h2
          omega
      · injection hl with hl
        injection hl with _ h2
        omega
    split at h
    · cases h
    · rename_i n' e' hp
      have := plainR_gt hp
      injection h with h
      injection h with _ h2
      omega
abbrev rRw (K : PySem.W.Frag) (H : Hp) (E : XK) : Prop := ∀ H', Same H H' → E (.ref (ga K "InvalidRow")) none H'
def spReadRow (K : PySem.W.Frag) : Sp := fun vs H Q E => ∃ x n, vs = [x] ∧ Kd K H x n ∧ (∀ z, x = .str z → z.length ≤ 4000) ∧ (okT x = false → rPar K H 0 E) ∧
  ∀ z : Str, x = .str z → okT x = true → rRes K H E (rowR (cds z)) fun row => (row.length ≤ 60 → ∀ H' t, Same H H' → SqT K H' t (row.map V.int) → Q (.ref t) H') ∧ (60 < row.length → rRw K H E)
theorem scReadRow : FnScope ["text", "number", "end", "row"] ["text"] (defScope sReadRow) :=
  ⟨rfl, rfl, rfl, by decide +kernel, rfl, by decide +kernel, by decide +kernel⟩
theorem bReadRow (T : Tx K mg) (Y : Ex K mg) (BNeedText : Def P w K mg base (L2.CX P w) 3 "_need_text" ["text"] (spNeedText K)) (BReadSigned : Def P w K mg base (L2.CX P w) 4 "_read_signed" ["text", "at"] (spSigned K)) (BBehind : Def P w K mg base (L2.CX P w) 3 "_behind" ["text", "at", "sign"] (spBehind K)) : Def P w K mg base (L2.CX P w) 5 "read_row" ["text"] (spReadRow K) := by
  refine T.t_read_row.defX (N := ["text", "number", "end", "row"]) scReadRow (fun _ _ _ _ _ _ us hl => match us, hl with | [_], _ => rfl) ?_ ?_
  · intro vs H Q E h
    obtain ⟨x, n, rfl, _⟩ := h
    rfl
  · intro f cd A out s H vs Q E hr h
    have hr2 : Rm 4 _ := hr.le (by decide)
    have tk : Takes (cxOf (L2.CX P w) P w K mg base ["text", "number", "end", "row"] "read_row" (defScope sReadRow) f cd A out s H E) (fun cls d _ H1 => E cls d H1) := takes_of rfl rfl rfl rfl
    obtain ⟨x, n, rfl, hk, hz, q1, q2⟩ := h
    refine ⟨_, (pss_cons (ps_expr (ME.pe_dS BNeedText (hr2.le (by decide)) (passAt tk) (pa_cons (pv 0) pa_nil)))
      (pss_cons (ps_asg (ME.pe_dS BReadSigned (hr2.le (by decide)) (passAt tk) (pa_cons (pv 0) (pa_cons pe_int pa_nil))) (pg_tup rfl (pgs_cons (pg_name (i := 1) scReadRow.nd rfl (Or.inl rfl)) (pgs_cons (pg_name (i := 2) scReadRow.nd rfl (Or.inl rfl)) pgs_nil))))
      (pss_cons (ps_set (i := 3) scReadRow.nd rfl (Or.inl rfl) (pe_lst (pa_cons (pv 1) pa_nil)))
      (pss_cons (ps_while (passes_of rfl) (pt_cmpR op_lt (pv 2) (pe_callB call_len_str rfl T.f_len (by decide +kernel) (pa_cons (pv 0) pa_nil)) (nomark _))
        (pss_cons (ps_asg (ME.pe_dS BReadSigned (hr2.le (by decide)) (passAt tk) (pa_cons (pv 0) (pa_cons (ME.pe_dS BBehind (hr2.le (by decide)) (passAt tk) (pa_cons (pv 0) (pa_cons (pv 2) (pa_cons pe_str pa_nil)))) pa_nil))) (pg_tup rfl (pgs_cons (pg_name (i := 1) scReadRow.nd rfl (Or.inl rfl)) (pgs_cons (pg_name (i := 2) scReadRow.nd rfl (Or.inl rfl)) pgs_nil))))
        (pss_one (ps_expr (pe_bm PySem.F.plainAttrs_list PySem.F.slot_list_append PySem.F.type_list_append mt_append (pv 3) (pa_cons (pv 1) pa_nil))))))
      (pss_cons (ps_if (pt_cmpR op_gt (pe_callB call_len_seq rfl T.f_len (by decide +kernel) (pa_cons (pv 3) pa_nil)) (C8.pe_gc rfl T.c_MOST_MEMBERS) (nomark _)) (pss_one (ps_plain Y.rw rfl tk)) pss_nil)
      (pss_one (ps_ret (pe_callTy call_tuple_of rfl T.f_tuple (by decide +kernel) (pa_cons (pv 3) pa_nil))))))))), ?_⟩
    refine ⟨_, rfl, x, n, rfl, hk, hz, q1, fun b => ?_⟩
    obtain ⟨z, rfl⟩ : ∃ z, x = .str z := by
      cases hk <;> first | exact ⟨_, rfl⟩ | cases b
    have q := q2 z rfl b
    have z4 := hz z rfl
    have hl : z.length = (cds z).length := (Array.length_toList).symm
    refine ⟨_, rfl, z, 0, rfl, z4, ?_⟩
    unfold rowR at q
    cases e0 : signedR (cds z) 0 with
    | error j =>
      rw [e0] at q
      exact q
    | ok r =>
      obtain ⟨n0, e⟩ := r
      rw [e0] at q
      intro H1 t s1 ht
      refine ⟨t, _, rfl, .inl (.inl ht), rfl, _, _, rfl, ?_⟩
      refine ⟨_, _, rfl, rfl, ?_⟩
      refine ⟨_, rfl, by show 1 ≤ sizeLine; decide, fun l fl => ?_⟩
      have sl := s1.trans (same_new fl (o := .lst [.int n0]))
      have el : (upd H1 l (.lst [.int n0])) l = some (.lst (([n0] : List Int).map V.int)) := upd_same
      have l0 : H l = none := s1.free fl
      generalize upd H1 l _ = H2 at sl el ⊢
      have e1 := signedR_gt e0
      replace q : rRes K H E (rowGo (cds z) (cds z).length [n0] e) fun row => (row.length ≤ 60 → ∀ H' t, Same H H' → SqT K H' t (row.map V.int) → Q (.ref t) H') ∧ (60 < row.length → rRw K H E) := q
      generalize hR : rowGo (cds z) (cds z).length [n0] e = R at q
      refine while_by (fun σ H3 => ∃ (nn : Int) (row : List Int) (e f : Nat), σ = [some (.str z), some (.int nn), some (.int (e : Int)), some (.ref l)] ∧ Same H H3 ∧ H3 l = some (.lst (row.map V.int)) ∧
          rowGo (cds z) f row e = R ∧ (cds z).length ≤ f + e ∧ row.length ≤ e)
        (fun σ _ => match σ with | [_, _, some (.int e), _] => ((cds z).length - e).toNat | _ => 0) ?_ ?_ ?_
      · exact ⟨n0, [n0], e, (cds z).length, rfl, sl, el, hR, by omega, by show 1 ≤ e; omega⟩
      · rintro σ H3 ⟨nn, row, e', f, rfl, s3, h3, gR, fl, rl⟩
        refine ⟨_, rfl, _, rfl, z, rfl, line4000 z4, _, _, rfl, rfl, _, rfl, ?_⟩
        by_cases lt : e' < (cds z).length
        · refine ifT (decide_eq_true (by rw [hl]; omega)) ?_
          obtain ⟨f', rfl⟩ : ∃ f', f = f' + 1 := ⟨f - 1, by omega⟩
          rw [show rowGo (cds z) (f' + 1) row e' = (match behindR (cds z) e' 44 with
            | .error j => .error j
            | .ok s => match signedR (cds z) s with
              | .error j => .error j
              | .ok (n, e2) => rowGo (cds z) f' (row ++ [n]) e2) from if_pos lt] at gR
          unfold behindR at gR
          refine ⟨_, rfl, _, rfl, _, rfl, z, e', 44, rfl, z4, fun b => ?_, fun b => ?_⟩
          · rw [b, if_neg (by decide)] at gR
            rw [← gR] at q
            exact rPar.same q s3
          · rw [b, if_pos rfl] at gR
            refine ⟨z, e' + 1, rfl, z4, ?_⟩
            cases hs : signedR (cds z) (e' + 1) with
            | error j =>
              simp only [hs] at gR
              rw [← gR] at q
              exact rPar.same q s3
            | ok r =>
              obtain ⟨n1, e2⟩ := r
              simp only [hs] at gR
              have gt := signedR_gt hs
              intro H4 t4 s4 ht4
              have h4 := s4 _ _ h3
              refine ⟨t4, _, rfl, .inl (.inl ht4), rfl, _, _, rfl, ?_⟩
              refine ⟨_, _, rfl, rfl, ?_⟩
              refine ⟨_, rfl, .inl ⟨rfl, _, .inl (.inl h4)⟩, _, rfl, l, _, _, rfl, rfl, h4, ?_, ?_⟩
              · rw [List.length_map, sizeLine_eq]
                omega
              refine ⟨⟨n1, row ++ [n1], e2, f', rfl, ?_, ?_, gR, by omega, by rw [List.length_append]; show row.length + 1 ≤ e2; omega⟩, ?_⟩
              · intro b o hb
                rw [upd_ne (ne_of_none hb l0)]
                exact s4 _ _ (s3 _ _ hb)
              · rw [upd_same, List.map_append]
                rfl
              · show (((cds z).length : Int) - (e2 : Int)).toNat < (((cds z).length : Int) - (e' : Int)).toNat
                omega
        · refine ifF (decide_eq_false (by rw [hl]; omega)) ?_
          rw [rowGo_end lt] at gR
          rw [← gR] at q
          obtain ⟨qa, qb⟩ := q
          refine ⟨_, rfl, l, _, rfl, .inl (.inl (.inl h3)), _, _, rfl, rfl, _, rfl, ?_⟩
          by_cases c : row.length ≤ 60
          · refine ifF (decide_eq_false (by rw [List.length_map]; omega)) ?_
            exact ⟨_, rfl, l, _, rfl, .inl ⟨.inl (.inl h3), fun t ft => qa c _ t (s3.trans (same_new ft)) (.inl (.inl upd_same))⟩⟩
          · refine ifT (decide_eq_true (by rw [List.length_map]; omega)) ?_
            exact qb (by omega) _ s3
      · rintro σ H2 Q1 Q2 mono ⟨x1, h1, x2, h2, z', hz', lz, a, b, e1, e2, c, hc, h3⟩
        exact ⟨x1, h1, x2, h2, z', hz', lz, a, b, e1, e2, c, hc, mono _ _ h3⟩
end
end K84


set_option Elab.async false
set_option linter.all false
set_option maxRecDepth 100000
set_option maxHeartbeats 2000000
namespace K84
open PySem PySem.Spec PyProof.Rows L2 MM PySem.NumText
/-! own words for the readings: a step, its side -/
local macro_rules | `(tactic| walk_at "side") => `(tactic| first
  | omega
  | exact ⟨by omega, by omega⟩
  | exact Or.inl ⟨by omega, by omega⟩
  | exact Or.inr ⟨by omega, by omega⟩
  | (show CPw _ _; decide +kernel)
  | (show (0 : Int) < _; decide +kernel)
  | (show CDivW _ _; first | assumption | exact ⟨by decide, by decide +kernel⟩))
local macro_rules | `(tactic| walk_at "here") => `(tactic| first
  | assumption
  | exact upd_same
  | exact Or.inl (Or.inl upd_same)
  | exact Or.inl upd_same)
local macro_rules | `(tactic| walk_at "one") => `(tactic| first
  | refine ⟨_, rfl, ?_⟩
  | refine Or.inl ⟨_, rfl, ?_⟩
  | refine Or.inr ⟨_, rfl, ?_⟩
  | refine ⟨_, _, rfl, rfl, (by walk_at "side"), ?_⟩
  | refine ⟨_, _, rfl, rfl, ?_⟩
  | refine ⟨_, _, rfl, Or.inl (by walk_at "here"), ?_⟩
  | refine ⟨_, _, rfl, Or.inr (by walk_at "here"), ?_⟩
  | refine ⟨_, _, rfl, (by walk_at "here"), ?_⟩
  | refine ⟨_, _, _, _, rfl, rfl, (by walk_at "here"), rfl, ?_⟩
  | refine ⟨_, _, rfl, ?_⟩
  | refine ifT (by rfl) ?_
  | refine ifF (by rfl) ?_
  | refine ifT (decide_eq_true (by omega)) ?_
  | refine ifF (decide_eq_false (by omega)) ?_)
local macro_rules | `(tactic| walk_at "st") => `(tactic| repeat (walk_at "one"))

section
variable {P : Program} {w : World} {K : PySem.W.Frag} {mg : Str → Option Value} {base : Heap}
/-- three values in a tuple -/
abbrev rThree (x y v : V) (H : Hp) (Q : VK) : Prop := ∀ H' r, Same H H' → H' r = some (.tup [x, y, v]) → Q (.ref r) H'
/-- the number ahead of an index -/
def headR (cs : List Nat) (i : Nat) : Rd (Nat × Nat) := if isAt cs i 91 = true then .ok (1, i) else plainR cs i
def termR (cs : List Nat) (i : Nat) : Rd (Nat × Nat × Nat) := match headR cs i with
  | .error j => .error j
  | .ok (m, e) => match behindR cs e 91 with
    | .error j => .error j
    | .ok s => match plainR cs s with
      | .error j => .error j
      | .ok (x, e1) => match behindR cs e1 93 with
        | .error j => .error j
        | .ok e2 => .ok (x, m, e2)
def spTerm (K : PySem.W.Frag) : Sp := fun vs H Q E => ∃ (z : Str) (i : Nat), vs = [.str z, .int (i : Int)] ∧ z.length ≤ 4000 ∧ rRes K H E (termR (cds z) i) fun r => rThree (.int (r.1 : Nat)) (.int (r.2.1 : Nat)) (.int (r.2.2 : Nat)) H Q
theorem scReadTerm : FnScope ["text", "at", "many", "end", "index"] ["text", "at"] (defScope sReadTerm) :=
  ⟨rfl, rfl, rfl, by decide +kernel, rfl, by decide +kernel, by decide +kernel⟩
theorem bReadTerm (T : Tx K mg) (Y : Ex K mg) (DIsAt : Def P w K mg base CX0 1 "_is_at" ["text", "at", "sign"] spIsAt) (BReadPlain : Def P w K mg base (L2.CX P w) 3 "_read_plain" ["text", "at"] (spPlain K)) (BBehind : Def P w K mg base (L2.CX P w) 3 "_behind" ["text", "at", "sign"] (spBehind K)) : Def P w K mg base (L2.CX P w) 4 "_read_term" ["text", "at"] (spTerm K) := by
  refine T.t_read_term.defX (N := ["text", "at", "many", "end", "index"]) scReadTerm (fun _ _ _ _ _ _ us hl => match us, hl with | [_, _], _ => rfl) ?_ ?_
  · intro vs H Q E h
    obtain ⟨z, i, rfl, _⟩ := h
    rfl
  · intro f cd A out s H vs Q E hr h
    have hr1 : Rm 1 _ := hr.le (by decide)
    have hr2 : Rm 3 _ := hr.le (by decide)
    have tk : Takes (cxOf (L2.CX P w) P w K mg base ["text", "at", "many", "end", "index"] "_read_term" (defScope sReadTerm) f cd A out s H E) (fun cls d _ H1 => E cls d H1) := takes_of rfl rfl rfl rfl
    obtain ⟨z, i, rfl, hz, q⟩ := h
    refine ⟨_, (pss_cons (ps_par (i := 2) (j := 3) rfl scReadTerm.nd rfl rfl (by decide) rfl rfl (pa_cons pe_int (pa_cons (pv 1) pa_nil)) (by rfl))
      (pss_cons (ps_if (pt_not (pt_val (pe_d DIsAt (hr1.le (by decide)) pass0 (pa_cons (pv 0) (pa_cons (pv 1) (pa_cons pe_str pa_nil)))))) (pss_one (ps_asg (ME.pe_dS BReadPlain (hr2.le (by decide)) (passAt tk) (pa_cons (pv 0) (pa_cons (pv 1) pa_nil))) (pg_tup rfl (pgs_cons (pg_name (i := 2) scReadTerm.nd rfl (Or.inl rfl)) (pgs_cons (pg_name (i := 3) scReadTerm.nd rfl (Or.inl rfl)) pgs_nil))))) pss_nil)
      (pss_cons (ps_asg (ME.pe_dS BReadPlain (hr2.le (by decide)) (passAt tk) (pa_cons (pv 0) (pa_cons (ME.pe_dS BBehind (hr2.le (by decide)) (passAt tk) (pa_cons (pv 0) (pa_cons (pv 3) (pa_cons pe_str pa_nil)))) pa_nil))) (pg_tup rfl (pgs_cons (pg_name (i := 4) scReadTerm.nd rfl (Or.inl rfl)) (pgs_cons (pg_name (i := 3) scReadTerm.nd rfl (Or.inl rfl)) pgs_nil))))
      (pss_one (ps_ret (pe_tup (pa_cons (pv 4) (pa_cons (pv 2) (pa_cons (ME.pe_dS BBehind (hr2.le (by decide)) (passAt tk) (pa_cons (pv 0) (pa_cons (pv 3) (pa_cons pe_str pa_nil)))) pa_nil))))))))), ?_⟩
    unfold termR headR at q
    refine ⟨_, rfl, _, _, rfl, ?_⟩
    refine ⟨_, rfl, _, rfl, z, i, 91, rfl, hz, ?_⟩
    refine ⟨_, rfl, ?_⟩
    cases b0 : isAt (cds z) i 91 with
    | true =>
      refine ifF rfl ?_
      rw [b0] at q
      replace q : rRes K H E (match behindR (cds z) i 91 with
        | .error j => .error j
        | .ok s => match plainR (cds z) s with
          | .error j => .error j
          | .ok (x, e1) => match behindR (cds z) e1 93 with
            | .error j => .error j
            | .ok e2 => .ok (x, 1, e2)) fun r => rThree (.int (r.1 : Nat)) (.int (r.2.1 : Nat)) (.int (r.2.2 : Nat)) H Q := q
      have qm := q
      unfold behindR at qm
      refine ⟨_, rfl, _, rfl, _, rfl, z, i, 91, rfl, hz, fun b1 => ?_, fun b1 => ?_⟩
      · rw [b1, if_neg (by decide)] at qm
        exact rPar.same qm (Same.refl H)
      · rw [b1, if_pos rfl] at qm
        refine ⟨z, i + 1, rfl, hz, fun d1 => ?_, fun d1 H2 r2 s2 hr2 => ?_⟩
        · unfold plainR at qm
          simp only [d1, if_neg Bool.false_ne_true] at qm
          exact rPar.same qm (Same.refl H)
        · unfold plainR at qm
          simp only [d1, if_pos] at qm
          refine ⟨r2, _, rfl, .inl (.inl hr2), rfl, _, _, rfl, ?_⟩
          refine ⟨_, _, rfl, rfl, ?_⟩
          refine ⟨_, rfl, _, rfl, _, rfl, _, rfl, z, _, 93, rfl, hz, fun b2 => ?_, fun b2 => ?_⟩
          · rw [b2] at qm
            exact rPar.same qm ((Same.refl H).trans s2)
          · rw [b2] at qm
            exact ⟨by show 3 ≤ sizeLine; decide, fun r3 h3 => qm _ r3 (((Same.refl H).trans s2).trans (same_new h3)) upd_same⟩
    | false =>
      refine ifT rfl ?_
      rw [b0] at q
      refine ⟨_, rfl, _, rfl, z, i, rfl, hz, fun d0 => ?_, fun d0 H1 r1 s1 hr1' => ?_⟩
      · unfold plainR at q
        rw [d0] at q
        exact q
      refine ⟨r1, _, rfl, .inl (.inl hr1'), rfl, _, _, rfl, ?_⟩
      refine ⟨_, _, rfl, rfl, ?_⟩
      replace q : rRes K H E (match behindR (cds z) (endP (cds z) i) 91 with
        | .error j => .error j
        | .ok s => match plainR (cds z) s with
          | .error j => .error j
          | .ok (x, e1) => match behindR (cds z) e1 93 with
            | .error j => .error j
            | .ok e2 => .ok (x, valP (cds z) i, e2)) fun r => rThree (.int (r.1 : Nat)) (.int (r.2.1 : Nat)) (.int (r.2.2 : Nat)) H Q := by
        rw [show plainR (cds z) i = .ok (valP (cds z) i, endP (cds z) i) from if_pos d0] at q
        exact q
      generalize endP (cds z) i = e0 at q hr1' ⊢
      generalize valP (cds z) i = m0 at q hr1' ⊢
      have qm := q
      unfold behindR at qm
      refine ⟨_, rfl, _, rfl, _, rfl, z, e0, 91, rfl, hz, fun b1 => ?_, fun b1 => ?_⟩
      · rw [b1, if_neg (by decide)] at qm
        exact rPar.same qm s1
      · rw [b1, if_pos rfl] at qm
        refine ⟨z, e0 + 1, rfl, hz, fun d1 => ?_, fun d1 H2 r2 s2 hr2 => ?_⟩
        · unfold plainR at qm
          simp only [d1, if_neg Bool.false_ne_true] at qm
          exact rPar.same qm s1
        · unfold plainR at qm
          simp only [d1, if_pos] at qm
          refine ⟨r2, _, rfl, .inl (.inl hr2), rfl, _, _, rfl, ?_⟩
          refine ⟨_, _, rfl, rfl, ?_⟩
          refine ⟨_, rfl, _, rfl, _, rfl, _, rfl, z, _, 93, rfl, hz, fun b2 => ?_, fun b2 => ?_⟩
          · rw [b2] at qm
            exact rPar.same qm (s1.trans s2)
          · rw [b2] at qm
            exact ⟨by show 3 ≤ sizeLine; decide, fun r3 h3 => qm _ r3 ((s1.trans s2).trans (same_new h3)) upd_same⟩
def termsGo (cs : List Nat) : Nat → List (Nat × Int) → Nat → Rd (List (Nat × Int))
  | 0, ts, _ => .ok ts
  | f + 1, ts, e => if e < cs.length then (match behindR cs e 32 with
      | .error j => .error j
      | .ok e1 => match behindR cs e1 (if isAt cs e1 45 = true then 45 else 43) with
        | .error j => .error j
        | .ok e2 => match behindR cs e2 32 with
          | .error j => .error j
          | .ok s => match termR cs s with
            | .error j => .error j
            | .ok (x, m, e3) => termsGo cs f (ts ++ [(x, sgn (isAt cs e1 45) m)]) e3) else .ok ts
def termsR (cs : List Nat) : Rd (List (Nat × Int)) := match lessR cs 0 with
  | .error j => .error j
  | .ok (b, s) => match termR cs s with
    | .error j => .error j
    | .ok (x, m, e) => termsGo cs cs.length [(x, sgn b m)] e
theorem termsGo_end {cs : List Nat} {f : Nat} {ts : List (Nat × Int)} {e : Nat} (h : ¬ e < cs.length) : termsGo cs f ts e = .ok ts := by
  cases f with
  | zero => rfl
  | succ f => exact if_neg h
theorem behind_ok {cs : List Nat} {i c : Nat} (h : isAt cs i c = true) : behindR cs i c = .ok (i + 1) := if_pos h
theorem behind_no {cs : List Nat} {i c : Nat} (h : isAt cs i c = false) : behindR cs i c = .error i := if_neg (by rw [h]; decide)
theorem behindR_eq {cs : List Nat} {i c e : Nat} (h : behindR cs i c = .ok e) : e = i + 1 := by
  unfold behindR at h
  split at h
  · injection h with h
    exact h.symm
  · cases h
theorem termR_gt {cs : List Nat} {i x m e : Nat} (h : termR cs i = .ok (x, m, e)) : i < e := by
  unfold termR at h
  split at h
  · cases h
  · rename_i m0 e0 hh
    have l0 : i ≤ e0 := by
      unfold headR at hh
      split at hh
      · injection hh with hh
        injection hh with _ h2
        omega
      · exact Nat.le_of_lt (plainR_gt hh)
    split at h
    · cases h
    · rename_i s hs
      have := behindR_eq hs
      split at h
      · cases h
      · rename_i x1 e1 hp
        have := plainR_gt hp
        split at h
        · cases h
        · rename_i e2 he
          have := behindR_eq he
          injection h with h
          injection h with _ h
          injection h with _ h
          omega
theorem pairedI {α β : Type} {R S : α → β → Prop} : ∀ {us : List α} {os : List β}, Paired R us os → (∀ a b, R a b → S a b) → Paired S us os
  | _, _, .nil, _ => .nil
  | _, _, .cons r t, f => .cons (f _ _ r) (pairedI t f)
/-- pairs of an index and an integer, in tuples elsewhere than at l -/
def PT (K : PySem.W.Frag) (l : Addr) (H : Hp) (vs : List V) (ts : List (Nat × Int)) : Prop := Paired (fun v (p : Nat × Int) => ∃ a, v = .ref a ∧ a ≠ l ∧ H a = some (.tup [.int (p.1 : Nat), .int p.2])) vs ts
theorem pt_same {l : Addr} {H H' : Hp} {vs : List V} {ts : List (Nat × Int)} (h : PT K l H vs ts) (s : Same H H') : PT K l H' vs ts :=
  pairedI h fun _ _ ⟨a, e, n, S⟩ => ⟨a, e, n, s _ _ S⟩
theorem pt_upd {l : Addr} {H : Hp} {o : HO} {vs : List V} {ts : List (Nat × Int)} (h : PT K l H vs ts) : PT K l (upd H l o) vs ts :=
  pairedI h fun _ _ ⟨a, e, n, S⟩ => ⟨a, e, n, by rw [upd_ne n]; exact S⟩
theorem pt_len {l : Addr} {H : Hp} : ∀ {vs : List V} {ts : List (Nat × Int)}, PT K l H vs ts → vs.length = ts.length
  | _, _, .nil => rfl
  | _, _, .cons _ h => congrArg (· + 1) (pt_len h)
theorem pt_add {l u : Addr} {H : Hp} {p : Nat × Int} : ∀ {vs : List V} {ts : List (Nat × Int)}, PT K l H vs ts → u ≠ l → H u = some (.tup [.int (p.1 : Nat), .int p.2]) → PT K l H (vs ++ [.ref u]) (ts ++ [p])
  | _, _, .nil, n, e => .cons ⟨u, rfl, n, e⟩ .nil
  | _, _, .cons r h, n, e => .cons r (pt_add h n e)
def spTerms (K : PySem.W.Frag) : Sp := fun vs H Q E => ∃ (z : Str), vs = [.str z] ∧ z.length ≤ 4000 ∧ rRes K H E (termsR (cds z)) fun ts => ∀ H' l vs, Same H H' → H' l = some (.lst vs) → PT K l H' vs ts → Q (.ref l) H'
theorem scReadTerms : FnScope ["text", "is_less", "start", "index", "many", "end", "terms"] ["text"] (defScope sReadTerms) :=
  ⟨rfl, rfl, rfl, by decide +kernel, rfl, by decide +kernel, by decide +kernel⟩
theorem bReadTerms (T : Tx K mg) (Y : Ex K mg) (DIsAt : Def P w K mg base CX0 1 "_is_at" ["text", "at", "sign"] spIsAt) (BReadLess : Def P w K mg base (L2.CX P w) 3 "_read_less" ["text", "at"] (spLess K)) (BReadTerm : Def P w K mg base (L2.CX P w) 4 "_read_term" ["text", "at"] (spTerm K)) (BBehind : Def P w K mg base (L2.CX P w) 3 "_behind" ["text", "at", "sign"] (spBehind K)) : Def P w K mg base (L2.CX P w) 5 "_read_terms" ["text"] (spTerms K) := by
  refine T.t_read_terms.defX (N := ["text", "is_less", "start", "index", "many", "end", "terms"]) scReadTerms (fun _ _ _ _ _ _ us hl => match us, hl with | [_], _ => rfl) ?_ ?_
  · intro vs H Q E h
    obtain ⟨z, rfl, _⟩ := h
    rfl
  · intro f cd A out s H vs Q E hr h
    have hr1 : Rm 1 _ := hr.le (by decide)
    have hr2 : Rm 4 _ := hr.le (by decide)
    have tk : Takes (cxOf (L2.CX P w) P w K mg base ["text", "is_less", "start", "index", "many", "end", "terms"] "_read_terms" (defScope sReadTerms) f cd A out s H E) (fun cls d _ H1 => E cls d H1) := takes_of rfl rfl rfl rfl
    obtain ⟨z, rfl, hz, q⟩ := h
    refine ⟨_, (pss_cons (ps_asg (ME.pe_dS BReadLess (hr2.le (by decide)) (passAt tk) (pa_cons (pv 0) (pa_cons pe_int pa_nil))) (pg_tup rfl (pgs_cons (pg_name (i := 1) scReadTerms.nd rfl (Or.inl rfl)) (pgs_cons (pg_name (i := 2) scReadTerms.nd rfl (Or.inl rfl)) pgs_nil))))
      (pss_cons (ps_asg (ME.pe_dS BReadTerm (hr2.le (by decide)) (passAt tk) (pa_cons (pv 0) (pa_cons (pv 2) pa_nil))) (pg_tup rfl (pgs_cons (pg_name (i := 3) scReadTerms.nd rfl (Or.inl rfl)) (pgs_cons (pg_name (i := 4) scReadTerms.nd rfl (Or.inl rfl)) (pgs_cons (pg_name (i := 5) scReadTerms.nd rfl (Or.inl rfl)) pgs_nil)))))
      (pss_cons (ps_set (i := 6) scReadTerms.nd rfl (Or.inl rfl) (pe_lst (pa_cons (pe_tup (pa_cons (pv 3) (pa_cons (pe_ifExp (pt_val (pv 1)) (pe_un un_neg (pv 4)) (pv 4)) pa_nil))) pa_nil)))
      (pss_cons (ps_while (passes_of rfl) (pt_cmpR op_lt (pv 5) (pe_callB call_len_str rfl T.f_len (by decide +kernel) (pa_cons (pv 0) pa_nil)) (nomark _))
        (pss_cons (ps_set (i := 5) scReadTerms.nd rfl (Or.inl rfl) (ME.pe_dS BBehind (hr2.le (by decide)) (passAt tk) (pa_cons (pv 0) (pa_cons (pv 5) (pa_cons pe_str pa_nil)))))
        (pss_cons (ps_set (i := 1) scReadTerms.nd rfl (Or.inl rfl) (pe_d DIsAt (hr1.le (by decide)) pass0 (pa_cons (pv 0) (pa_cons (pv 5) (pa_cons pe_str pa_nil)))))
        (pss_cons (ps_set (i := 5) scReadTerms.nd rfl (Or.inl rfl) (ME.pe_dS BBehind (hr2.le (by decide)) (passAt tk) (pa_cons (pv 0) (pa_cons (pv 5) (pa_cons (pe_ifExp (pt_val (pv 1)) pe_str pe_str) pa_nil)))))
        (pss_cons (ps_asg (ME.pe_dS BReadTerm (hr2.le (by decide)) (passAt tk) (pa_cons (pv 0) (pa_cons (ME.pe_dS BBehind (hr2.le (by decide)) (passAt tk) (pa_cons (pv 0) (pa_cons (pv 5) (pa_cons pe_str pa_nil)))) pa_nil))) (pg_tup rfl (pgs_cons (pg_name (i := 3) scReadTerms.nd rfl (Or.inl rfl)) (pgs_cons (pg_name (i := 4) scReadTerms.nd rfl (Or.inl rfl)) (pgs_cons (pg_name (i := 5) scReadTerms.nd rfl (Or.inl rfl)) pgs_nil)))))
        (pss_one (ps_expr (pe_bm PySem.F.plainAttrs_list PySem.F.slot_list_append PySem.F.type_list_append mt_append (pv 6) (pa_cons (pe_tup (pa_cons (pv 3) (pa_cons (pe_ifExp (pt_val (pv 1)) (pe_un un_neg (pv 4)) (pv 4)) pa_nil))) pa_nil)))))))))
      (pss_one (ps_ret (pv 6))))))), ?_⟩
    have hl : z.length = (cds z).length := (Array.length_toList).symm
    -- behind the sign
    refine ⟨_, rfl, z, 0, rfl, hz, fun b => ?_, fun b1 b2 => ?_, fun b1 b2 => ?_⟩
    case' refine_2 =>
      unfold termsR lessR at q
      rw [b1, b2] at q
      exact q
    · have q' : rRes K H E (match termR (cds z) 0 with
        | .error j => .error j
        | .ok (x, m, e) => termsGo (cds z) (cds z).length [(x, sgn false m)] e) fun ts => ∀ H' l vs, Same H H' → H' l = some (.lst vs) → PT K l H' vs ts → Q (.ref l) H' := by
        unfold termsR lessR at q
        rw [b] at q
        exact q
      clear q b
      intro H1 r s1 hr_
      refine ⟨r, _, rfl, .inl (.inl hr_), rfl, _, _, rfl, ?_⟩
      refine ⟨_, _, rfl, rfl, ?_⟩
      refine ⟨_, rfl, _, rfl, z, 0, rfl, hz, ?_⟩
      cases e0 : termR (cds z) 0 with
      | error j =>
        simp only [e0] at q'
        exact rPar.same q' s1
      | ok r0 =>
        obtain ⟨x0, m0, en⟩ := r0
        simp only [e0] at q'
        have gt0 := termR_gt e0
        intro H2 t2 s2 ht2
        refine ⟨t2, _, rfl, .inl (.inl ht2), rfl, _, _, rfl, ?_⟩
        refine ⟨_, _, rfl, ?_⟩
        refine ⟨_, _, rfl, rfl, ?_⟩
        refine ⟨_, rfl, _, rfl, _, rfl, ?_⟩
        refine ifF rfl ?_
        refine ⟨_, rfl, by show 2 ≤ sizeLine; decide, fun u fu => ?_⟩
        generalize eH : upd H2 u _ = H5
        have s5 : Same H H5 := by rw [← eH]; exact (s1.trans s2).trans (same_new fu)
        have eu : H5 u = some (.tup [.int (x0 : Nat), .int (sgn false m0)]) := by rw [← eH]; exact upd_same
        clear eH
        refine ⟨by show 1 ≤ sizeLine; decide, fun l fl => ?_⟩
        have un : u ≠ l := by
          rintro rfl
          rw [eu] at fl
          cases fl
        have l0 : H l = none := s5.free fl
        generalize eH : upd H5 l _ = H6
        have s6 : Same H H6 := by rw [← eH]; exact s5.trans (same_new fl)
        have el : H6 l = some (.lst [.ref u]) := by rw [← eH]; exact upd_same
        have pe : PT K l H6 [.ref u] [(x0, sgn false m0)] := .cons ⟨u, rfl, un, by rw [← eH, upd_ne un]; exact eu⟩ .nil
        clear eH
        replace q : rRes K H E (termsGo (cds z) (cds z).length [(x0, sgn false m0)] en) fun ts => ∀ H' l vs, Same H H' → H' l = some (.lst vs) → PT K l H' vs ts → Q (.ref l) H' := q'
        generalize hR : termsGo (cds z) (cds z).length [(x0, sgn false m0)] en = R at q
        refine while_by (fun σ H3 => ∃ (w1 w2 w3 w4 : Option V) (vs : List V) (ts : List (Nat × Int)) (e f : Nat), σ = [some (.str z), w1, w2, w3, w4, some (.int (e : Int)), some (.ref l)] ∧ Same H H3 ∧ H3 l = some (.lst vs) ∧ PT K l H3 vs ts ∧
            termsGo (cds z) f ts e = R ∧ (cds z).length ≤ f + e ∧ ts.length ≤ e)
          (fun σ _ => match σ with | [_, _, _, _, _, some (.int e), _] => ((cds z).length - e).toNat | _ => 0) ?_ ?_ ?_
        · exact ⟨_, _, _, _, [.ref u], _, en, (cds z).length, rfl, s6, el, pe, hR, by omega, by show 1 ≤ en; omega⟩
        · rintro σ H3 ⟨w1, w2, w3, w4, vs, ts, e', f, rfl, s3, h3, p3, gR, fl, rl⟩
          refine ⟨_, rfl, _, rfl, z, rfl, line4000 hz, _, _, rfl, rfl, _, rfl, ?_⟩
          by_cases lt : e' < (cds z).length
          · refine ifT (decide_eq_true (by rw [hl]; omega)) ?_
            obtain ⟨f', rfl⟩ : ∃ f', f = f' + 1 := ⟨f - 1, by omega⟩
            rw [show termsGo (cds z) (f' + 1) ts e' = _ from if_pos lt] at gR
            refine ⟨_, rfl, _, rfl, z, e', 32, rfl, hz, fun b1 => ?_, fun b1 => ?_⟩
            · rw [behind_no b1] at gR
              replace gR : Except.error e' = R := gR
              rw [← gR] at q
              exact rPar.same q s3
            rw [behind_ok b1] at gR
            dsimp only at gR
            refine ⟨_, rfl, _, rfl, z, e' + 1, 45, rfl, hz, ?_⟩
            cases hs45 : isAt (cds z) (e' + 1) 45 with
            | true =>
              refine ⟨_, rfl, _, rfl, _, rfl, _, rfl, ?_⟩
              refine ifT rfl ?_
              refine ⟨z, e' + 1, 45, rfl, hz, fun b2 => ?_, fun b2 => ?_⟩
              · rw [b2] at hs45
                cases hs45
              rw [hs45, if_pos rfl, behind_ok b2] at gR
              dsimp only at gR
              refine ⟨_, rfl, _, rfl, _, rfl, z, e' + 1 + 1, 32, rfl, hz, fun b3 => ?_, fun b3 => ?_⟩
              · rw [behind_no b3] at gR
                replace gR : Except.error (e' + 1 + 1) = R := gR
                rw [← gR] at q
                exact rPar.same q s3
              · rw [behind_ok b3] at gR
                dsimp only at gR
                refine ⟨z, e' + 1 + 1 + 1, rfl, hz, ?_⟩
                replace gR : (match termR (cds z) (e' + 1 + 1 + 1) with
                  | .error j => .error j
                  | .ok (x, m, e3) => termsGo (cds z) f' (ts ++ [(x, sgn true m)]) e3) = R := gR
                cases hs : termR (cds z) (e' + 1 + 1 + 1) with
                | error j =>
                  simp only [hs] at gR
                  rw [← gR] at q
                  exact rPar.same q s3
                | ok r =>
                  obtain ⟨x, m, e3⟩ := r
                  simp only [hs] at gR
                  have gt := termR_gt hs
                  intro H4 t4 s4 ht4
                  have h4 := s4 _ _ h3
                  have p4 := pt_same p3 s4
                  refine ⟨t4, _, rfl, .inl (.inl ht4), rfl, _, _, rfl, ?_⟩
                  refine ⟨_, _, rfl, ?_⟩
                  refine ⟨_, _, rfl, rfl, ?_⟩
                  refine ⟨_, rfl, .inl ⟨rfl, _, .inl (.inl h4)⟩, _, rfl, _, rfl, _, rfl, ?_⟩
                  refine ifT rfl ?_
                  refine ⟨_, rfl, _, rfl, by show 2 ≤ sizeLine; decide, fun u fu => ?_⟩
                  have s5 := same_new fu (o := .tup [.int (x : Nat), .int (sgn true m)])
                  have h5 := s5 _ _ h4
                  have p5 := pt_same p4 s5
                  have eu : (upd H4 u (.tup [.int (x : Nat), .int (sgn true m)])) u = some (.tup [.int (x : Nat), .int (sgn true m)]) := upd_same
                  have un : u ≠ l := by
                    rintro rfl
                    rw [h4] at fu
                    cases fu
                  refine ⟨l, _, _, rfl, rfl, h5, ?_, ?_⟩
                  · rw [pt_len p5, sizeLine_eq]
                    omega
                  refine ⟨⟨_, _, _, _, vs ++ [.ref u], ts ++ [(x, sgn true m)], e3, f', rfl, ?_, upd_same, ?_, gR, by omega, by rw [List.length_append]; show ts.length + 1 ≤ e3; omega⟩, ?_⟩
                  · intro b o hb
                    rw [upd_ne (ne_of_none hb l0)]
                    exact s5 _ _ (s4 _ _ (s3 _ _ hb))
                  · exact pt_upd (pt_add p5 un eu)
                  · show (((cds z).length : Int) - (e3 : Int)).toNat < (((cds z).length : Int) - (e' : Int)).toNat
                    omega
            | false =>
              refine ⟨_, rfl, _, rfl, _, rfl, _, rfl, ?_⟩
              refine ifF rfl ?_
              refine ⟨z, e' + 1, 43, rfl, hz, fun b2 => ?_, fun b2 => ?_⟩
              · rw [hs45, if_neg (by decide), behind_no b2] at gR
                replace gR : Except.error (e' + 1) = R := gR
                rw [← gR] at q
                exact rPar.same q s3
              rw [hs45, if_neg (by decide), behind_ok b2] at gR
              dsimp only at gR
              refine ⟨_, rfl, _, rfl, _, rfl, z, e' + 1 + 1, 32, rfl, hz, fun b3 => ?_, fun b3 => ?_⟩
              · rw [behind_no b3] at gR
                replace gR : Except.error (e' + 1 + 1) = R := gR
                rw [← gR] at q
                exact rPar.same q s3
              · rw [behind_ok b3] at gR
                dsimp only at gR
                refine ⟨z, e' + 1 + 1 + 1, rfl, hz, ?_⟩
                replace gR : (match termR (cds z) (e' + 1 + 1 + 1) with
                  | .error j => .error j
                  | .ok (x, m, e3) => termsGo (cds z) f' (ts ++ [(x, sgn false m)]) e3) = R := gR
                cases hs : termR (cds z) (e' + 1 + 1 + 1) with
                | error j =>
                  simp only [hs] at gR
                  rw [← gR] at q
                  exact rPar.same q s3
                | ok r =>
                  obtain ⟨x, m, e3⟩ := r
                  simp only [hs] at gR
                  have gt := termR_gt hs
                  intro H4 t4 s4 ht4
                  have h4 := s4 _ _ h3
                  have p4 := pt_same p3 s4
                  refine ⟨t4, _, rfl, .inl (.inl ht4), rfl, _, _, rfl, ?_⟩
                  refine ⟨_, _, rfl, ?_⟩
                  refine ⟨_, _, rfl, rfl, ?_⟩
                  refine ⟨_, rfl, .inl ⟨rfl, _, .inl (.inl h4)⟩, _, rfl, _, rfl, _, rfl, ?_⟩
                  refine ifF rfl ?_
                  refine ⟨_, rfl, by show 2 ≤ sizeLine; decide, fun u fu => ?_⟩
                  have s5 := same_new fu (o := .tup [.int (x : Nat), .int (sgn false m)])
                  have h5 := s5 _ _ h4
                  have p5 := pt_same p4 s5
                  have eu : (upd H4 u (.tup [.int (x : Nat), .int (sgn false m)])) u = some (.tup [.int (x : Nat), .int (sgn false m)]) := upd_same
                  have un : u ≠ l := by
                    rintro rfl
                    rw [h4] at fu
                    cases fu
                  refine ⟨l, _, _, rfl, rfl, h5, ?_, ?_⟩
                  · rw [pt_len p5, sizeLine_eq]
                    omega
                  refine ⟨⟨_, _, _, _, vs ++ [.ref u], ts ++ [(x, sgn false m)], e3, f', rfl, ?_, upd_same, ?_, gR, by omega, by rw [List.length_append]; show ts.length + 1 ≤ e3; omega⟩, ?_⟩
                  · intro b o hb
                    rw [upd_ne (ne_of_none hb l0)]
                    exact s5 _ _ (s4 _ _ (s3 _ _ hb))
                  · exact pt_upd (pt_add p5 un eu)
                  · show (((cds z).length : Int) - (e3 : Int)).toNat < (((cds z).length : Int) - (e' : Int)).toNat
                    omega
          · refine ifF (decide_eq_false (by rw [hl]; omega)) ?_
            rw [termsGo_end lt] at gR
            rw [← gR] at q
            have lz : z.length = (cds z).length := hl
            exact ⟨_, rfl, q _ l vs s3 h3 p3⟩
        · rintro σ H2 Q1 Q2 mono ⟨x1, h1, x2, h2, z', hz', lz, a, b, e1, e2, c, hc, h3⟩
          exact ⟨x1, h1, x2, h2, z', hz', lz, a, b, e1, e2, c, hc, mono _ _ h3⟩
    · have q' : rRes K H E (match termR (cds z) 1 with
        | .error j => .error j
        | .ok (x, m, e) => termsGo (cds z) (cds z).length [(x, sgn true m)] e) fun ts => ∀ H' l vs, Same H H' → H' l = some (.lst vs) → PT K l H' vs ts → Q (.ref l) H' := by
        unfold termsR lessR at q
        rw [b1, b2] at q
        exact q
      clear q b1 b2
      intro H1 r s1 hr_
      refine ⟨r, _, rfl, .inl (.inl hr_), rfl, _, _, rfl, ?_⟩
      refine ⟨_, _, rfl, rfl, ?_⟩
      refine ⟨_, rfl, _, rfl, z, 1, rfl, hz, ?_⟩
      cases e0 : termR (cds z) 1 with
      | error j =>
        simp only [e0] at q'
        exact rPar.same q' s1
      | ok r0 =>
        obtain ⟨x0, m0, en⟩ := r0
        simp only [e0] at q'
        have gt0 := termR_gt e0
        intro H2 t2 s2 ht2
        refine ⟨t2, _, rfl, .inl (.inl ht2), rfl, _, _, rfl, ?_⟩
        refine ⟨_, _, rfl, ?_⟩
        refine ⟨_, _, rfl, rfl, ?_⟩
        refine ⟨_, rfl, _, rfl, _, rfl, ?_⟩
        refine ifT rfl ?_
        refine ⟨_, rfl, _, rfl, by show 2 ≤ sizeLine; decide, fun u fu => ?_⟩
        generalize eH : upd H2 u _ = H5
        have s5 : Same H H5 := by rw [← eH]; exact (s1.trans s2).trans (same_new fu)
        have eu : H5 u = some (.tup [.int (x0 : Nat), .int (sgn true m0)]) := by rw [← eH]; exact upd_same
        clear eH
        refine ⟨by show 1 ≤ sizeLine; decide, fun l fl => ?_⟩
        have un : u ≠ l := by
          rintro rfl
          rw [eu] at fl
          cases fl
        have l0 : H l = none := s5.free fl
        generalize eH : upd H5 l _ = H6
        have s6 : Same H H6 := by rw [← eH]; exact s5.trans (same_new fl)
        have el : H6 l = some (.lst [.ref u]) := by rw [← eH]; exact upd_same
        have pe : PT K l H6 [.ref u] [(x0, sgn true m0)] := .cons ⟨u, rfl, un, by rw [← eH, upd_ne un]; exact eu⟩ .nil
        clear eH
        replace q : rRes K H E (termsGo (cds z) (cds z).length [(x0, sgn true m0)] en) fun ts => ∀ H' l vs, Same H H' → H' l = some (.lst vs) → PT K l H' vs ts → Q (.ref l) H' := q'
        generalize hR : termsGo (cds z) (cds z).length [(x0, sgn true m0)] en = R at q
        refine while_by (fun σ H3 => ∃ (w1 w2 w3 w4 : Option V) (vs : List V) (ts : List (Nat × Int)) (e f : Nat), σ = [some (.str z), w1, w2, w3, w4, some (.int (e : Int)), some (.ref l)] ∧ Same H H3 ∧ H3 l = some (.lst vs) ∧ PT K l H3 vs ts ∧
            termsGo (cds z) f ts e = R ∧ (cds z).length ≤ f + e ∧ ts.length ≤ e)
          (fun σ _ => match σ with | [_, _, _, _, _, some (.int e), _] => ((cds z).length - e).toNat | _ => 0) ?_ ?_ ?_
        · exact ⟨_, _, _, _, [.ref u], _, en, (cds z).length, rfl, s6, el, pe, hR, by omega, by show 1 ≤ en; omega⟩
        · rintro σ H3 ⟨w1, w2, w3, w4, vs, ts, e', f, rfl, s3, h3, p3, gR, fl, rl⟩
          refine ⟨_, rfl, _, rfl, z, rfl, line4000 hz, _, _, rfl, rfl, _, rfl, ?_⟩
          by_cases lt : e' < (cds z).length
          · refine ifT (decide_eq_true (by rw [hl]; omega)) ?_
            obtain ⟨f', rfl⟩ : ∃ f', f = f' + 1 := ⟨f - 1, by omega⟩
            rw [show termsGo (cds z) (f' + 1) ts e' = _ from if_pos lt] at gR
            refine ⟨_, rfl, _, rfl, z, e', 32, rfl, hz, fun b1 => ?_, fun b1 => ?_⟩
            · rw [behind_no b1] at gR
              replace gR : Except.error e' = R := gR
              rw [← gR] at q
              exact rPar.same q s3
            rw [behind_ok b1] at gR
            dsimp only at gR
            refine ⟨_, rfl, _, rfl, z, e' + 1, 45, rfl, hz, ?_⟩
            cases hs45 : isAt (cds z) (e' + 1) 45 with
            | true =>
              refine ⟨_, rfl, _, rfl, _, rfl, _, rfl, ?_⟩
              refine ifT rfl ?_
              refine ⟨z, e' + 1, 45, rfl, hz, fun b2 => ?_, fun b2 => ?_⟩
              · rw [b2] at hs45
                cases hs45
              rw [hs45, if_pos rfl, behind_ok b2] at gR
              dsimp only at gR
              refine ⟨_, rfl, _, rfl, _, rfl, z, e' + 1 + 1, 32, rfl, hz, fun b3 => ?_, fun b3 => ?_⟩
              · rw [behind_no b3] at gR
                replace gR : Except.error (e' + 1 + 1) = R := gR
                rw [← gR] at q
                exact rPar.same q s3
              · rw [behind_ok b3] at gR
                dsimp only at gR
                refine ⟨z, e' + 1 + 1 + 1, rfl, hz, ?_⟩
                replace gR : (match termR (cds z) (e' + 1 + 1 + 1) with
                  | .error j => .error j
                  | .ok (x, m, e3) => termsGo (cds z) f' (ts ++ [(x, sgn true m)]) e3) = R := gR
                cases hs : termR (cds z) (e' + 1 + 1 + 1) with
                | error j =>
                  simp only [hs] at gR
                  rw [← gR] at q
                  exact rPar.same q s3
                | ok r =>
                  obtain ⟨x, m, e3⟩ := r
                  simp only [hs] at gR
                  have gt := termR_gt hs
                  intro H4 t4 s4 ht4
                  have h4 := s4 _ _ h3
                  have p4 := pt_same p3 s4
                  refine ⟨t4, _, rfl, .inl (.inl ht4), rfl, _, _, rfl, ?_⟩
                  refine ⟨_, _, rfl, ?_⟩
                  refine ⟨_, _, rfl, rfl, ?_⟩
                  refine ⟨_, rfl, .inl ⟨rfl, _, .inl (.inl h4)⟩, _, rfl, _, rfl, _, rfl, ?_⟩
                  refine ifT rfl ?_
                  refine ⟨_, rfl, _, rfl, by show 2 ≤ sizeLine; decide, fun u fu => ?_⟩
                  have s5 := same_new fu (o := .tup [.int (x : Nat), .int (sgn true m)])
                  have h5 := s5 _ _ h4
                  have p5 := pt_same p4 s5
                  have eu : (upd H4 u (.tup [.int (x : Nat), .int (sgn true m)])) u = some (.tup [.int (x : Nat), .int (sgn true m)]) := upd_same
                  have un : u ≠ l := by
                    rintro rfl
                    rw [h4] at fu
                    cases fu
                  refine ⟨l, _, _, rfl, rfl, h5, ?_, ?_⟩
                  · rw [pt_len p5, sizeLine_eq]
                    omega
                  refine ⟨⟨_, _, _, _, vs ++ [.ref u], ts ++ [(x, sgn true m)], e3, f', rfl, ?_, upd_same, ?_, gR, by omega, by rw [List.length_append]; show ts.length + 1 ≤ e3; omega⟩, ?_⟩
                  · intro b o hb
                    rw [upd_ne (ne_of_none hb l0)]
                    exact s5 _ _ (s4 _ _ (s3 _ _ hb))
                  · exact pt_upd (pt_add p5 un eu)
                  · show (((cds z).length : Int) - (e3 : Int)).toNat < (((cds z).length : Int) - (e' : Int)).toNat
                    omega
            | false =>
              refine ⟨_, rfl, _, rfl, _, rfl, _, rfl, ?_⟩
              refine ifF rfl ?_
              refine ⟨z, e' + 1, 43, rfl, hz, fun b2 => ?_, fun b2 => ?_⟩
              · rw [hs45, if_neg (by decide), behind_no b2] at gR
                replace gR : Except.error (e' + 1) = R := gR
                rw [← gR] at q
                exact rPar.same q s3
              rw [hs45, if_neg (by decide), behind_ok b2] at gR
              dsimp only at gR
              refine ⟨_, rfl, _, rfl, _, rfl, z, e' + 1 + 1, 32, rfl, hz, fun b3 => ?_, fun b3 => ?_⟩
              · rw [behind_no b3] at gR
                replace gR : Except.error (e' + 1 + 1) = R := gR
                rw [← gR] at q
                exact rPar.same q s3
              · rw [behind_ok b3] at gR
                dsimp only at gR
                refine ⟨z, e' + 1 + 1 + 1, rfl, hz, ?_⟩
                replace gR : (match termR (cds z) (e' + 1 + 1 + 1) with
                  | .error j => .error j
                  | .ok (x, m, e3) => termsGo (cds z) f' (ts ++ [(x, sgn false m)]) e3) = R := gR
                cases hs : termR (cds z) (e' + 1 + 1 + 1) with
                | error j =>
                  simp only [hs] at gR
                  rw [← gR] at q
                  exact rPar.same q s3
                | ok r =>
                  obtain ⟨x, m, e3⟩ := r
                  simp only [hs] at gR
                  have gt := termR_gt hs
                  intro H4 t4 s4 ht4
                  have h4 := s4 _ _ h3
                  have p4 := pt_same p3 s4
                  refine ⟨t4, _, rfl, .inl (.inl ht4), rfl, _, _, rfl, ?_⟩
                  refine ⟨_, _, rfl, ?_⟩
                  refine ⟨_, _, rfl, rfl, ?_⟩
                  refine ⟨_, rfl, .inl ⟨rfl, _, .inl (.inl h4)⟩, _, rfl, _, rfl, _, rfl, ?_⟩
                  refine ifF rfl ?_
                  refine ⟨_, rfl, by show 2 ≤ sizeLine; decide, fun u fu => ?_⟩
                  have s5 := same_new fu (o := .tup [.int (x : Nat), .int (sgn false m)])
                  have h5 := s5 _ _ h4
                  have p5 := pt_same p4 s5
                  have eu : (upd H4 u (.tup [.int (x : Nat), .int (sgn false m)])) u = some (.tup [.int (x : Nat), .int (sgn false m)]) := upd_same
                  have un : u ≠ l := by
                    rintro rfl
                    rw [h4] at fu
                    cases fu
                  refine ⟨l, _, _, rfl, rfl, h5, ?_, ?_⟩
                  · rw [pt_len p5, sizeLine_eq]
                    omega
                  refine ⟨⟨_, _, _, _, vs ++ [.ref u], ts ++ [(x, sgn false m)], e3, f', rfl, ?_, upd_same, ?_, gR, by omega, by rw [List.length_append]; show ts.length + 1 ≤ e3; omega⟩, ?_⟩
                  · intro b o hb
                    rw [upd_ne (ne_of_none hb l0)]
                    exact s5 _ _ (s4 _ _ (s3 _ _ hb))
                  · exact pt_upd (pt_add p5 un eu)
                  · show (((cds z).length : Int) - (e3 : Int)).toNat < (((cds z).length : Int) - (e' : Int)).toNat
                    omega
          · refine ifF (decide_eq_false (by rw [hl]; omega)) ?_
            rw [termsGo_end lt] at gR
            rw [← gR] at q
            have lz : z.length = (cds z).length := hl
            exact ⟨_, rfl, q _ l vs s3 h3 p3⟩
        · rintro σ H2 Q1 Q2 mono ⟨x1, h1, x2, h2, z', hz', lz, a, b, e1, e2, c, hc, h3⟩
          exact ⟨x1, h1, x2, h2, z', hz', lz, a, b, e1, e2, c, hc, mono _ _ h3⟩
end
end K84


set_option Elab.async false
set_option linter.all false
set_option maxRecDepth 100000
set_option maxHeartbeats 2000000
namespace K84
open PySem PySem.Spec PyProof.Rows L2 MM PySem.NumText
/-! own words for the readings: a step, its side -/
local macro_rules | `(tactic| walk_at "side") => `(tactic| first
  | omega
  | exact ⟨by omega, by omega⟩
  | exact Or.inl ⟨by omega, by omega⟩
  | exact Or.inr ⟨by omega, by omega⟩
  | (show CPw _ _; decide +kernel)
  | (show (0 : Int) < _; decide +kernel)
  | (show CDivW _ _; first | assumption | exact ⟨by decide, by decide +kernel⟩))
local macro_rules | `(tactic| walk_at "here") => `(tactic| first
  | assumption
  | exact upd_same
  | exact Or.inl (Or.inl upd_same)
  | exact Or.inl upd_same)
local macro_rules | `(tactic| walk_at "one") => `(tactic| first
  | refine ⟨_, rfl, ?_⟩
  | refine Or.inl ⟨_, rfl, ?_⟩
  | refine Or.inr ⟨_, rfl, ?_⟩
  | refine ⟨_, _, rfl, rfl, (by walk_at "side"), ?_⟩
  | refine ⟨_, _, rfl, rfl, ?_⟩
  | refine ⟨_, _, rfl, Or.inl (by walk_at "here"), ?_⟩
  | refine ⟨_, _, rfl, Or.inr (by walk_at "here"), ?_⟩
  | refine ⟨_, _, rfl, (by walk_at "here"), ?_⟩
  | refine ⟨_, _, _, _, rfl, rfl, (by walk_at "here"), rfl, ?_⟩
  | refine ⟨_, _, rfl, ?_⟩
  | refine ifT (by rfl) ?_
  | refine ifF (by rfl) ?_
  | refine ifT (decide_eq_true (by omega)) ?_
  | refine ifF (decide_eq_false (by omega)) ?_)
local macro_rules | `(tactic| walk_at "st") => `(tactic| repeat (walk_at "one"))

section
variable {P : Program} {w : World} {K : PySem.W.Frag} {mg : Str → Option Value} {base : Heap}
/-- the error for the number y -/
abbrev rNum (K : PySem.W.Frag) (H : Hp) (y : V) (E : XK) : Prop := ∀ H' d, Same H H' → H d = none → H' d = some (.xd [("given", y)]) → E (.ref (ga K "InvalidNumber")) (some d) H'
/-- need_between(x, l, m), both ways -/
def spBetw (K : PySem.W.Frag) : Sp := fun vs H Q E => ∃ x n l m, vs = [x, .int l, .int m] ∧ Kd K H x n ∧ (isB x l m = false → rNum K H x E) ∧ (isB x l m = true → Q .non H)
theorem bNeedBetween (T : Tx K mg) (Y : Ex K mg) (DIsBetween : Def P w K mg base CX0 2 "is_between" ["value", "least", "most"] (spIsBetween K)) : Def P w K mg base (L2.CX P w) 3 "need_between" ["value", "least", "most"] (spBetw K) := by
  refine T.t_need_between.defX (N := ["value", "least", "most"]) scNeedBetween (fun _ _ _ _ _ _ us hl => match us, hl with | [_, _, _], _ => rfl) ?_ ?_
  · intro vs H Q E h
    obtain ⟨x, n, l, m, rfl, _⟩ := h
    rfl
  · intro f cd A out s H vs Q E hr h
    have hr1 : Rm 2 _ := hr.le (by decide)
    have tk : Takes (cxOf (L2.CX P w) P w K mg base ["value", "least", "most"] "need_between" (defScope sNeedBetween) f cd A out s H E) (fun cls d _ H1 => E cls d H1) := takes_of rfl rfl rfl rfl
    obtain ⟨x, n, l, m, rfl, hk, q1, q2⟩ := h
    refine ⟨_, (pss_one (ps_if (pt_not (pt_val (pe_d DIsBetween (hr1.le (by decide)) pass0 (pa_cons (pv 0) (pa_cons (pv 1) (pa_cons (pv 2) pa_nil)))))) (pss_one (ps_num Y rfl tk (hr.le (by decide)) (pa_cons (pv 0) pa_nil))) pss_nil)), ?_⟩
    refine ⟨_, rfl, _, rfl, _, rfl, x, n, l, m, rfl, hk, _, rfl, ?_⟩
    cases b : isB x l m with
    | false => exact ifT rfl ⟨_, rfl, x, rfl, fun d hd => q1 b _ d (same_new hd) hd upd_same⟩
    | true => exact ifF rfl (q2 b)
/-- terms added up -/
def addT (ks : List Int) : List (Nat × Int) → Option (List Int)
  | [] => some ks
  | (i, m) :: r => if i < ks.length then addT (ks.set i (ks.getD i 0 + m)) r else none
def kindsT (cs : List Nat) : Rd (List (Nat × Int)) := if cs = [48] then .ok [] else termsR cs
abbrev rKs (K : PySem.W.Frag) (H : Hp) (E : XK) : Prop := ∀ H', Same H H' → E (.ref (ga K "InvalidKinds")) none H'
/-- what the terms tell -/
def endK (K : PySem.W.Frag) (H : Hp) (Q : VK) (E : XK) : Option (List Int) → Prop
  | none => rKs K H E
  | some ks => if (ks.all fun k => isI (.int k)) = true then (∀ H' t, Same H H' → SqT K H' t (ks.map V.int) → Q (.ref t) H') else rKs K H E
theorem zero_text (z : Str) : decide (V.str z = V.str "0") = decide (cds z = [48]) := by
  refine decide_eq_decide.mpr ⟨fun h => ?_, fun h => ?_⟩
  · injection h with h
    rw [h]
    decide +kernel
  · congr 1
    obtain ⟨a⟩ := z
    have e : a = #[48] := by
      apply Array.ext'
      exact h
    rw [e]
    rfl
theorem range_const {α : Type} (n : Nat) (c : α) : ((List.range n).map fun _ => c) = List.replicate n c := by
  refine List.ext_getElem ?_ ?_
  · simp
  · intro i h1 h2
    simp
theorem ixN_in {n j : Nat} (h : j < n) : ixN n (j : Int) = some j := by
  show (if 0 ≤ (j : Int) then _ else _) = _
  rw [if_pos (Int.natCast_nonneg j), if_pos (by omega), Int.toNat_natCast]
theorem paired_at {α β : Type} {R : α → β → Prop} : ∀ {us : List α} {os : List β}, Paired R us os → ∀ {i : Nat} {u : α}, us[i]? = some u → ∃ o, os[i]? = some o ∧ R u o
  | _, _, .nil, i, _, h => by cases h
  | _, _, .cons r t, 0, _, h => ⟨_, rfl, by cases h; exact r⟩
  | _, _, .cons r t, i + 1, _, h => paired_at t h
def spReadKinds (K : PySem.W.Frag) : Sp := fun vs H Q E => ∃ x n y m, vs = [x, y] ∧ Kd K H x n ∧ Kd K H y m ∧ (∀ z, x = .str z → z.length ≤ 4000) ∧ (okT x = false → rPar K H 0 E) ∧
  (okT x = true → isB y 1 60 = false → rNum K H y E) ∧
  (∀ (z : Str) (len : Nat), x = .str z → okT x = true → y = .int (len : Int) → 1 ≤ len → len ≤ 60 → rRes K H E (kindsT (cds z)) fun ts => endK K H Q E (addT (List.replicate len 0) ts))
theorem scReadKinds : FnScope ["text", "length", "terms", "kinds", "_", "index", "many"] ["text", "length"] (defScope sReadKinds) :=
  ⟨rfl, rfl, rfl, by decide +kernel, rfl, by decide +kernel, by decide +kernel⟩
theorem bReadKinds (T : Tx K mg) (Y : Ex K mg) (DIsInteger : Def P w K mg base CX0 2 "is_integer" ["value"] (spIsInteger K)) (BNeedText : Def P w K mg base (L2.CX P w) 3 "_need_text" ["text"] (spNeedText K)) (BNeedBetween : Def P w K mg base (L2.CX P w) 3 "need_between" ["value", "least", "most"] (spBetw K)) (BReadTerms : Def P w K mg base (L2.CX P w) 5 "_read_terms" ["text"] (spTerms K)) : Def P w K mg base (L2.CX P w) 6 "read_kinds" ["text", "length"] (spReadKinds K) := by
  refine T.t_read_kinds.defX (N := ["text", "length", "terms", "kinds", "_", "index", "many"]) scReadKinds (fun _ _ _ _ _ _ us hl => match us, hl with | [_, _], _ => rfl) ?_ ?_
  · intro vs H Q E h
    obtain ⟨x, n, y, m, rfl, _⟩ := h
    rfl
  · intro f cd A out s H vs Q E hr h
    have hr1 : Rm 2 _ := hr.le (by decide)
    have hr2 : Rm 5 _ := hr.le (by decide)
    have tk : Takes (cxOf (L2.CX P w) P w K mg base ["text", "length", "terms", "kinds", "_", "index", "many"] "read_kinds" (defScope sReadKinds) f cd A out s H E) (fun cls d _ H1 => E cls d H1) := takes_of rfl rfl rfl rfl
    obtain ⟨x, n, y, m, rfl, hk, hm, hz, q1, q2, q3⟩ := h
    refine ⟨_, (pss_cons (ps_expr (ME.pe_dS BNeedText (hr2.le (by decide)) (passAt tk) (pa_cons (pv 0) pa_nil)))
      (pss_cons (ps_expr (ME.pe_dS BNeedBetween (hr2.le (by decide)) (passAt tk) (pa_cons (pv 1) (pa_cons pe_int (pa_cons (C8.pe_gc rfl T.c_MOST_MEMBERS) pa_nil)))))
      (pss_cons (ps_set (i := 2) scReadKinds.nd rfl (Or.inl rfl) (pe_ifExp (pt_cmpR op_ne (pv 0) pe_str (nomark _)) (ME.pe_dS BReadTerms (hr2.le (by decide)) (passAt tk) (pa_cons (pv 0) pa_nil)) (pe_lst pa_nil)))
      (pss_cons (ps_setLc (i := 3) (own := [("_", 4)]) (g := gName 4) (tt := tYes) rfl scReadKinds.nd rfl rfl (sw_true rfl rfl rfl rfl) (pi_range1 rfl T.f_range (pa_cons (pv 1) pa_nil)) (blkOk_by (N := ["text", "length", "terms", "kinds", "_", "index", "many"]) (sc := defScope sReadKinds) (by decide +kernel)) (fun _ _ _ _ _ => pg_name (i := 4) scReadKinds.nd rfl (Or.inl rfl)) (fun _ _ _ _ _ => pts_nil) (fun _ _ _ _ _ => pe_int))
      (pss_cons (ps_for (passes_of rfl) rfl (pi_list (pv 2)) (pg_tup rfl (pgs_cons (pg_name (i := 5) scReadKinds.nd rfl (Or.inl rfl)) (pgs_cons (pg_name (i := 6) scReadKinds.nd rfl (Or.inl rfl)) pgs_nil)))
        (pss_cons (ps_if (pt_cmpR op_ge (pv 5) (pv 1) (nomark _)) (pss_one (ps_plain Y.ks rfl tk)) pss_nil)
        (pss_one (ps_asg (pe_op op_add (pe_ix ix_list (pv 3) (pv 5) (fun _ _ => rfl)) (pv 6)) (pg_sub (pv 3) (pv 5) set_list)))))
      (pss_cons (ps_if (pt_not (pt_val (pe_callB (cr_all rfl) rfl T.f_all (by decide +kernel) (pa_cons (pe_lc (own := [("many", 6)]) (g := gName 6) (tt := tYes) rfl scReadKinds.nd (pi_list (pv 3)) (blkOk_by (N := ["text", "length", "terms", "kinds", "_", "index", "many"]) (sc := defScope sReadKinds) (by decide +kernel)) (fun _ _ _ _ _ => pg_name (i := 6) scReadKinds.nd rfl (Or.inl rfl)) (fun _ _ _ _ _ => pts_nil) (fun _ _ _ _ _ => (pe_d DIsInteger (hr1.le (by decide)) pass0 (pa_cons (pv 6) pa_nil)))) pa_nil)))) (pss_one (ps_plain Y.ks rfl tk)) pss_nil)
      (pss_one (ps_ret (pe_callTy call_tuple_of rfl T.f_tuple (by decide +kernel) (pa_cons (pv 3) pa_nil)))))))))), ?_⟩
    refine ⟨_, rfl, x, n, rfl, hk, hz, q1, fun b => ?_⟩
    refine ⟨_, rfl, y, m, 1, 60, rfl, hm, q2 b, fun b2 => ?_⟩
    obtain ⟨z, rfl⟩ : ∃ z, x = .str z := by
      cases hk <;> first | exact ⟨_, rfl⟩ | cases b
    obtain ⟨len, rfl, l1, l2⟩ : ∃ len : Nat, y = .int (len : Int) ∧ 1 ≤ len ∧ len ≤ 60 := by
      cases hm <;> first | cases b2 | skip
      rename_i i
      have h2 : (decide (1 ≤ i) && decide (i ≤ 60)) = true := b2
      rw [Bool.and_eq_true, decide_eq_true_eq, decide_eq_true_eq] at h2
      exact ⟨i.toNat, by congr 1; omega, by omega, by omega⟩
    have q := q3 z len rfl b rfl l1 l2
    have z4 := hz z rfl
    clear q1 q2 q3
    refine ⟨_, rfl, rfl, ?_⟩
    refine ⟨_, rfl, ?_⟩
    rw [zero_text]
    by_cases c0 : cds z = [48]
    case' neg =>
      refine ifT (by rw [decide_eq_false c0]; rfl) ?_
      refine ⟨_, rfl, z, rfl, z4, ?_⟩
      unfold kindsT at q
      rw [if_neg c0] at q
      cases et : termsR (cds z)
      case' error j =>
        rw [et] at q
        exact q
      rename_i ts
      rw [et] at q
      intro H5 l vs s5 el pe
    case' pos =>
      refine ifF (by rw [decide_eq_true c0]; rfl) ?_
      refine ⟨Nat.zero_le _, fun l fl => ?_⟩
      obtain ⟨ts, hts⟩ : ∃ ts : List (Nat × Int), ts = [] := ⟨_, rfl⟩
      obtain ⟨vs, hvs⟩ : ∃ vs : List V, vs = [] := ⟨_, rfl⟩
      unfold kindsT at q
      rw [if_pos c0, ← hts] at q
      generalize eH : upd H l _ = H5
      have s5 : Same H H5 := by rw [← eH]; exact same_new fl
      have el : H5 l = some (.lst vs) := by rw [← eH, hvs]; exact upd_same
      have pe : PT K l H5 vs ts := by
        rw [hts, hvs]
        exact .nil
    all_goals
      replace q : endK K H Q E (addT (List.replicate len 0) ts) := q
      refine ⟨_, rfl, (len : Int), rfl, by omega, by omega, fun D nD => ?_⟩
      refine lc_rng (fun _ => .int 0) (Nat.le_trans (by omega : _ ≤ 60) (by decide)) (fun i acc hi Q' q' => q') ?_
      have S6 : Same H (upd H5 D (.lst ((List.range ((len : Int)).toNat).map fun _ => V.int 0))) := s5.trans (same_new nD)
      have eD : (upd H5 D (.lst ((List.range ((len : Int)).toNat).map fun _ => V.int 0))) D = some (.lst ((List.replicate len (0 : Int)).map V.int)) := by
        rw [upd_same]
        congr 2
        rw [Int.toNat_natCast, List.map_replicate]
        exact range_const len (V.int 0)
      have S5 : Same H5 (upd H5 D (.lst ((List.range ((len : Int)).toNat).map fun _ => V.int 0))) := same_new nD
      generalize upd H5 D _ = H6 at S6 eD S5 ⊢
      have kl0 : (List.replicate len (0 : Int)).length = len := List.length_replicate
      generalize List.replicate len (0 : Int) = k0 at q eD kl0
      generalize hR : addT k0 ts = R at q
      have tl := pt_len pe
      refine ⟨_, rfl, l, rfl, ⟨_, .inl (.inl (S5 _ _ el))⟩, for_list (K := K) (a := l) (xs := vs) (fun i σ H7 => Same H5 H7 ∧ (∃ ks : List Int, H7 D = some (.lst (ks.map V.int)) ∧ ks.length = len ∧ addT ks (ts.drop i) = R) ∧
          ∃ w1 w2 w3, σ = [some (.str z), some (.int (len : Int)), some (.ref l), some (.ref D), w1, w2, w3]) ⟨S5, ⟨k0, eD, kl0, hR⟩, _, _, _, rfl⟩ (fun i σ H7 _ h => .inl (.inl (h.1 _ _ el))) ?_ ?_⟩
      · rintro i x σ H7 hx ⟨S7, ⟨ks, hD, kl, gR⟩, w1, w2, w3, rfl⟩
        obtain ⟨lx, ex⟩ := List.getElem?_eq_some_iff.mp hx
        have lt : i < ts.length := by omega
        obtain ⟨p, hp, a, rfl, na, ea⟩ := paired_at pe hx
        have dr : ts.drop i = p :: ts.drop (i + 1) := by
          obtain ⟨lt2, e2⟩ := List.getElem?_eq_some_iff.mp hp
          rw [← e2]
          exact List.drop_eq_getElem_cons lt2
        rw [dr] at gR
        obtain ⟨ix, m⟩ := p
        refine ⟨a, _, rfl, .inl (.inl (S7 _ _ ea)), rfl, _, _, rfl, ?_⟩
        refine ⟨_, _, rfl, rfl, ?_⟩
        refine ⟨_, rfl, _, rfl, _, _, rfl, rfl, _, rfl, ?_⟩
        by_cases c : ix < len
        · refine ifF (decide_eq_false (by omega)) ?_
          rw [show addT ks ((ix, m) :: ts.drop (i + 1)) = addT (ks.set ix (ks.getD ix 0 + m)) (ts.drop (i + 1)) from if_pos (by rw [kl]; exact c)] at gR
          have gd : (ks.map V.int)[ix]? = some (.int (ks.getD ix 0)) := by
            rw [List.getElem?_map, List.getD_eq_getElem?_getD, List.getElem?_eq_getElem (by omega)]
            rfl
          refine ⟨_, rfl, _, rfl, D, _, _, _, rfl, rfl, .inl (.inl hD), atI_nat gd, _, rfl, _, _, rfl, rfl, ?_⟩
          refine ⟨_, rfl, _, rfl, D, _, (ix : Int), ix, rfl, rfl, hD, ixN_in (by rw [List.length_map]; omega), ?_⟩
          refine ⟨?_, ⟨ks.set ix (ks.getD ix 0 + m), ?_, by rw [List.length_set]; exact kl, gR⟩, _, _, _, rfl⟩
          · intro b o hb
            rw [upd_ne (ne_of_none hb nD)]
            exact S7 _ _ hb
          · rw [upd_same, List.map_set]
        · refine ifT (decide_eq_true (by omega)) ?_
          rw [show addT ks ((ix, m) :: ts.drop (i + 1)) = none from if_neg (by rw [kl]; exact c)] at gR
          rw [← gR] at q
          exact q _ (s5.trans S7)
      · rintro σ H7 ⟨S7, ⟨ks, hD, kl, gR⟩, w1, w2, w3, rfl⟩
        rw [tl, List.drop_length] at gR
        replace gR : some ks = R := gR
        rw [← gR] at q
        refine ⟨_, rfl, D, rfl, ⟨_, .inl (.inl hD)⟩, fun D2 nD2 => ?_⟩
        refine lc_seq (fun x => .bl (isI x)) (.inl (.inl hD)) nD2 (by rw [List.length_map, kl]; exact Nat.le_trans l2 (by decide)) ?_ ?_
        · intro x acc hx Q' q'
          obtain ⟨k, _, rfl⟩ := List.mem_map.mp hx
          exact ⟨_, rfl, _, _, rfl, .int k, q'⟩
        have S8 := same_new nD2 (o := .lst ((ks.map V.int).map fun x => V.bl (isI x)))
        have hD8 := S8 _ _ hD
        have e2 : (upd H7 D2 (.lst ((ks.map V.int).map fun x => V.bl (isI x)))) D2 = some (.lst ((ks.map V.int).map fun x => V.bl (isI x))) := upd_same
        generalize upd H7 D2 (.lst ((ks.map V.int).map fun x => V.bl (isI x))) = H8 at S8 hD8 e2 ⊢
        refine ⟨D2, (ks.map V.int).map isI, rfl, .inl (.inl (Eq.trans e2 ?_)), ?_⟩
        · rw [List.map_map, List.map_map, List.map_map]
          rfl
        refine ⟨_, rfl, ?_⟩
        have ev : ((ks.map V.int).map isI).all id = ks.all fun k => isI (.int k) := by
          rw [List.all_map, List.all_map]
          rfl
        rw [ev]
        have S := (s5.trans S7).trans S8
        cases ba : ks.all fun k => isI (.int k) with
        | false =>
          refine ifT rfl ?_
          unfold endK at q
          simp only [ba] at q
          exact q _ S
        | true =>
          refine ifF rfl ?_
          unfold endK at q
          simp only [ba] at q
          exact ⟨_, rfl, D, _, rfl, .inl ⟨.inl (.inl hD8), fun t ft => q _ t (S.trans (same_new ft)) (.inl (.inl upd_same))⟩⟩
end
end K84


set_option Elab.async false
set_option linter.all false
namespace K84
/-! rings of a permutation -/
section
variable {f : Nat → Nat} {n : Nat}
/-- f moves the places below n, one to one -/
structure Pm (f : Nat → Nat) (n : Nat) : Prop where
  lt : ∀ k, k < n → f k < n
  inj : ∀ a b, a < n → b < n → f a = f b → a = b
def it (f : Nat → Nat) : Nat → Nat → Nat
  | 0, p => p
  | k + 1, p => f (it f k p)
theorem it_lt (h : Pm f n) {p : Nat} (hp : p < n) : ∀ k, it f k p < n
  | 0 => hp
  | k + 1 => h.lt _ (it_lt h hp k)
theorem it_add (f : Nat → Nat) (p : Nat) (b : Nat) : ∀ a, it f (a + b) p = it f a (it f b p)
  | 0 => by rw [Nat.zero_add]; rfl
  | a + 1 => by
    rw [Nat.succ_add]
    show f (it f (a + b) p) = f (it f a (it f b p))
    rw [it_add f p b a]
theorem it_inj (h : Pm f n) {a b : Nat} (ha : a < n) (hb : b < n) : ∀ k, it f k a = it f k b → a = b
  | 0, e => e
  | k + 1, e => it_inj h ha hb k (h.inj _ _ (it_lt h ha k) (it_lt h hb k) e)
theorem least {P : Nat → Prop} : ∀ n, P n → ∃ k, k ≤ n ∧ P k ∧ ∀ j, j < k → ¬ P j := by
  intro n
  induction n using Nat.strongRecOn with
  | ind n ih =>
    intro hn
    by_cases c : ∃ j, j < n ∧ P j
    · obtain ⟨j, lt, hj⟩ := c
      obtain ⟨k, le, hk, ho⟩ := ih j lt hj
      exact ⟨k, Nat.le_trans le (Nat.le_of_lt lt), hk, ho⟩
    · exact ⟨n, Nat.le_refl n, hn, fun j lt hj => c ⟨j, lt, hj⟩⟩
theorem back_home (h : Pm f n) {p : Nat} (hp : p < n) : ∃ k, 1 ≤ k ∧ k ≤ n ∧ it f k p = p := by
  by_cases c : ∃ i j, i < j ∧ j ≤ n ∧ it f i p = it f j p
  · obtain ⟨i, j, ij, jn, e⟩ := c
    refine ⟨j - i, by omega, by omega, ?_⟩
    have e2 : it f j p = it f i (it f (j - i) p) := by
      rw [← it_add f p (j - i) i, show i + (j - i) = j by omega]
    rw [e2] at e
    exact (it_inj h hp (it_lt h hp _) i e).symm
  · exfalso
    have nd : ((List.range (n + 1)).map fun k => it f k p).Nodup := by
      rw [List.Nodup, List.pairwise_map]
      refine List.Pairwise.imp_of_mem ?_ (List.pairwise_lt_range (n := n + 1))
      intro i j hi hj lt e
      exact c ⟨i, j, lt, by have := List.mem_range.mp hj; omega, e⟩
    have sub : ((List.range (n + 1)).map fun k => it f k p) ⊆ List.range n := by
      intro x hx
      obtain ⟨k, _, rfl⟩ := List.mem_map.mp hx
      exact List.mem_range.mpr (it_lt h hp k)
    have := nd.length_le_of_subset sub
    rw [List.length_map, List.length_range, List.length_range] at this
    omega
/-- the length of p's ring -/
theorem ring_len (h : Pm f n) {p : Nat} (hp : p < n) : ∃ L, 1 ≤ L ∧ L ≤ n ∧ it f L p = p ∧ ∀ k, 1 ≤ k → k < L → it f k p ≠ p := by
  obtain ⟨k, k1, kn, e⟩ := back_home h hp
  obtain ⟨L, le, ⟨l1, el⟩, no⟩ := least (P := fun k => 1 ≤ k ∧ it f k p = p) k ⟨k1, e⟩
  exact ⟨L, l1, by omega, el, fun j j1 jl e => no j jl ⟨j1, e⟩⟩
def ring (f : Nat → Nat) (p L : Nat) : List Nat := (List.range L).map fun k => it f k p
theorem ring_nodup (h : Pm f n) {p L : Nat} (hp : p < n) (no : ∀ k, 1 ≤ k → k < L → it f k p ≠ p) : (ring f p L).Nodup := by
  unfold ring
  rw [List.Nodup, List.pairwise_map]
  refine List.Pairwise.imp_of_mem ?_ (List.pairwise_lt_range (n := L))
  intro i j hi hj lt e
  have jl := List.mem_range.mp hj
  have e2 : it f j p = it f i (it f (j - i) p) := by
    rw [← it_add f p (j - i) i, show i + (j - i) = j by omega]
  rw [e2] at e
  exact no (j - i) (by omega) (by omega) (it_inj h hp (it_lt h hp _) i e).symm
theorem ring_step {p L k : Nat} (e : it f L p = p) (hk : k < L) : f ((ring f p L).getD k 0) = (ring f p L).getD ((k + 1) % L) 0 := by
  have g : ∀ j, j < L → (ring f p L).getD j 0 = it f j p := fun j hj => by
    unfold ring
    rw [List.getD, List.getElem?_map, List.getElem?_range hj]
    rfl
  have pos : 0 < L := by omega
  rw [g k hk, g _ (Nat.mod_lt _ pos)]
  by_cases c : k + 1 = L
  · rw [c, Nat.mod_self]
    show it f (k + 1) p = p
    rw [c, e]
  · rw [Nat.mod_eq_of_lt (by omega)]
    rfl
theorem ring_mem {p L x : Nat} : x ∈ ring f p L ↔ ∃ k, k < L ∧ x = it f k p := by
  unfold ring
  rw [List.mem_map]
  exact ⟨fun ⟨k, hk, e⟩ => ⟨k, List.mem_range.mp hk, e.symm⟩, fun ⟨k, hk, e⟩ => ⟨k, List.mem_range.mpr hk, e.symm⟩⟩
/-- a ring is closed, forward and back -/
theorem ring_closed (h : Pm f n) {p L : Nat} (hp : p < n) (pos : 1 ≤ L) (e : it f L p = p) {x : Nat} (hx : x < n) : f x ∈ ring f p L ↔ x ∈ ring f p L := by
  rw [ring_mem, ring_mem]
  constructor
  · rintro ⟨k, hk, ek⟩
    cases k with
    | zero =>
      refine ⟨L - 1, by omega, h.inj _ _ hx (it_lt h hp _) ?_⟩
      rw [ek]
      show p = it f (L - 1 + 1) p
      rw [show L - 1 + 1 = L by omega, e]
    | succ k => exact ⟨k, by omega, h.inj _ _ hx (it_lt h hp _) ek⟩
  · rintro ⟨k, hk, rfl⟩
    by_cases c : k + 1 = L
    · refine ⟨0, by omega, ?_⟩
      show it f (k + 1) p = p
      rw [c, e]
    · exact ⟨k + 1, by omega, rfl⟩
/-- the length of p's ring, reckoned -/
def lenOf (f : Nat → Nat) (n p : Nat) : Nat := ((List.range n).find? fun k => decide (it f (k + 1) p = p)).getD 0 + 1
theorem lenOf_ok (h : Pm f n) {p : Nat} (hp : p < n) : lenOf f n p ≤ n ∧ it f (lenOf f n p) p = p ∧ ∀ k, 1 ≤ k → k < lenOf f n p → it f k p ≠ p := by
  obtain ⟨L, l1, ln, e, no⟩ := ring_len h hp
  have found : (List.range n).find? (fun k => decide (it f (k + 1) p = p)) = some (L - 1) := by
    rw [List.find?_range_eq_some]
    refine ⟨?_, List.mem_range.mpr (by omega), fun j hj => ?_⟩
    · rw [show L - 1 + 1 = L by omega]
      exact decide_eq_true e
    · have := no (j + 1) (by omega) (by omega)
      simp [this]
  have el : lenOf f n p = L := by
    unfold lenOf
    rw [found]
    show L - 1 + 1 = L
    omega
  rw [el]
  exact ⟨ln, e, no⟩
def ringOf (f : Nat → Nat) (n p : Nat) : List Nat := ring f p (lenOf f n p)
theorem lenOf_pos (f : Nat → Nat) (n p : Nat) : 1 ≤ lenOf f n p := by unfold lenOf; omega
theorem ringOf_len (f : Nat → Nat) (n p : Nat) : (ringOf f n p).length = lenOf f n p := by
  unfold ringOf ring
  rw [List.length_map, List.length_range]
/-- the rings that begin below s -/
def ringsTo (f : Nat → Nat) (n : Nat) : Nat → List (List Nat)
  | 0 => []
  | s + 1 => if s ∈ (ringsTo f n s).flatten then ringsTo f n s else ringsTo f n s ++ [ringOf f n s]
/-- what holds of them: closed, each place once, all below n, every place below s -/
structure Good (f : Nat → Nat) (n s : Nat) (R : List (List Nat)) : Prop where
  closed : ∀ x, x < n → (f x ∈ R.flatten ↔ x ∈ R.flatten)
  once : R.flatten.Nodup
  below : ∀ x ∈ R.flatten, x < n
  all : ∀ x, x < s → x ∈ R.flatten
  each : ∀ r ∈ R, ∃ p, p < n ∧ r = ringOf f n p
theorem closed_it {S : List Nat} (h : Pm f n) (c : ∀ x, x < n → (f x ∈ S ↔ x ∈ S)) {p : Nat} (hp : p < n) : ∀ k, it f k p ∈ S ↔ p ∈ S
  | 0 => Iff.rfl
  | k + 1 => (c _ (it_lt h hp k)).trans (closed_it h c hp k)
theorem rings_good (h : Pm f n) : ∀ s, s ≤ n → Good f n s (ringsTo f n s)
  | 0, _ => ⟨fun x _ => by simp [ringsTo], by simp [ringsTo], by simp [ringsTo], fun x hx => by omega, by simp [ringsTo]⟩
  | s + 1, le => by
    have g := rings_good h s (by omega)
    have sn : s < n := le
    unfold ringsTo
    split
    · rename_i c
      refine ⟨g.closed, g.once, g.below, fun x hx => ?_, g.each⟩
      by_cases e : x = s
      · rw [e]
        exact c
      · exact g.all x (by omega)
    · rename_i c
      obtain ⟨ln, e, no⟩ := lenOf_ok h sn
      have pos := lenOf_pos f n s
      have fl : (ringsTo f n s ++ [ringOf f n s]).flatten = (ringsTo f n s).flatten ++ ringOf f n s := by simp
      refine ⟨fun x hx => ?_, ?_, ?_, fun x hx => ?_, fun r hr => ?_⟩
      · rw [fl, List.mem_append, List.mem_append, g.closed x hx]
        have := ring_closed h sn pos e hx
        exact or_congr Iff.rfl this
      · rw [fl, List.nodup_append]
        refine ⟨g.once, ring_nodup h sn no, fun a ha b hb z => ?_⟩
        subst z
        obtain ⟨k, _, rfl⟩ := ring_mem.mp hb
        exact c ((closed_it h g.closed sn k).mp ha)
      · rw [fl]
        intro x hx
        rcases List.mem_append.mp hx with hx | hx
        · exact g.below x hx
        · obtain ⟨k, _, rfl⟩ := ring_mem.mp hx
          exact it_lt h sn k
      · rw [fl]
        by_cases z : x = s
        · subst z
          exact List.mem_append_right _ (ring_mem.mpr ⟨0, pos, rfl⟩)
        · exact List.mem_append_left _ (g.all x (by omega))
      · rcases List.mem_append.mp hr with hr | hr
        · exact g.each r hr
        · exact ⟨s, sn, List.mem_singleton.mp hr⟩
def rings (f : Nat → Nat) (n : Nat) : List (List Nat) := ringsTo f n n
theorem it_times {p L : Nat} (e : it f L p = p) : ∀ q, it f (L * q) p = p
  | 0 => rfl
  | q + 1 => by
    rw [Nat.mul_succ, it_add, e]
    exact it_times e q
theorem it_mod {p L : Nat} (e : it f L p = p) (k : Nat) : it f k p = it f (k % L) p := by
  have h : k = k % L + L * (k / L) := (Nat.mod_add_div k L).symm
  have h2 : it f k p = it f (k % L) (it f (L * (k / L)) p) := by
    rw [← it_add, ← h]
  rw [h2, it_times e]
/-- the power e of f, where f's power M is the unit -/
def pwE (f : Nat → Nat) (M : Nat) (e : Int) (x : Nat) : Nat := it f (e % (M : Int)).toNat x
theorem ring_pow {p L M a : Nat} {e : Int} (eL : it f L p = p) (pos : 0 < L) (dv : L ∣ M) (pM : 0 < M) (ha : a < L) :
    (ring f p L).getD (((a : Int) + e) % (L : Int)).toNat 0 = pwE f M e (it f a p) := by
  have g : ∀ j, j < L → (ring f p L).getD j 0 = it f j p := fun j hj => by
    unfold ring
    rw [List.getD, List.getElem?_map, List.getElem?_range hj]
    rfl
  have m0 := Int.emod_nonneg ((a : Int) + e) (by omega : (L : Int) ≠ 0)
  have m1 := Int.emod_lt_of_pos ((a : Int) + e) (by omega : (0 : Int) < L)
  rw [g _ (by omega)]
  unfold pwE
  rw [← it_add, it_mod eL ((e % (M : Int)).toNat + a)]
  congr 1
  have e0 := Int.emod_nonneg e (by omega : (M : Int) ≠ 0)
  have key : (((e % (M : Int)).toNat + a : Nat) : Int) % (L : Int) = ((a : Int) + e) % (L : Int) := by
    rw [Int.natCast_add, Int.toNat_of_nonneg e0, Int.add_emod, Int.emod_emod_of_dvd e (Int.natCast_dvd_natCast.mpr dv), ← Int.add_emod, Int.add_comm]
  rw [← key, ← Int.natCast_emod, Int.toNat_natCast]
theorem pwE_add {M : Nat} (pM : 0 < M) {a b : Int} {x : Nat} (unit : it f M x = x) : pwE f M a (pwE f M b x) = pwE f M (a + b) x := by
  unfold pwE
  rw [← it_add, it_mod unit ((a % (M : Int)).toNat + (b % (M : Int)).toNat)]
  congr 1
  have a0 := Int.emod_nonneg a (by omega : (M : Int) ≠ 0)
  have b0 := Int.emod_nonneg b (by omega : (M : Int) ≠ 0)
  have key : (((a % (M : Int)).toNat + (b % (M : Int)).toNat : Nat) : Int) % (M : Int) = (a + b) % (M : Int) := by
    rw [Int.natCast_add, Int.toNat_of_nonneg a0, Int.toNat_of_nonneg b0, ← Int.add_emod]
  rw [← key, ← Int.natCast_emod, Int.toNat_natCast]
theorem pwE_zero (M : Nat) (x : Nat) : pwE f M 0 x = x := by
  unfold pwE
  rw [Int.zero_emod]
  rfl
theorem pwE_self {M x : Nat} : pwE f M (M : Int) x = x := by
  unfold pwE
  rw [Int.emod_self]
  rfl
end
end K84

set_option Elab.async false
set_option linter.all false
set_option maxRecDepth 100000
set_option maxHeartbeats 2000000
/-! sets of ints that grow: the rules with the world by its name -/
namespace MM
open PySem PySem.Spec PyProof.Rows L2
section
variable {X : Cx} {w : World}
theorem cr_set0W (e : X.w = w) : CallR X (.type "set") (rSet0 w) := by
  subst e
  exact cr_set0
theorem or_sinW (e : X.w = w) : OpR X (compareOp .In) (rSIn w) := by
  subst e
  exact or_sin
theorem or_snotinW (e : X.w = w) : OpR X (compareOp .NotIn) (rSNotIn w) := by
  subst e
  exact or_snotin
variable {o e : Expr} {es : List Expr} {to : TE} {t : TA} {apos cpos : Pos}
theorem pe_saddW (ew : X.w = w) (ho : PE X o to) (ha : PA X (e :: es) t)
    (hbase : attributeBase o "add" X.env (eval o X.env) = eval o X.env := by rfl)
    (hfew : ((backTo cpos (starEach (e :: es) X.env)).all (fun x => !x.1) && (backToKw cpos (keywordEach [] X.env)).all (fun x => x.1.isSome)
      && decide ((e :: es).length + ([] : List Keyword).length + (if ([] : List Keyword).isEmpty then 0 else 1) < 30)) = true := by rfl)
    (hline : (apos.endLine == cpos.line) = true := by rfl) (hs : starEach (e :: es) X.env = (false, eval e X.env) :: starEach es X.env := by rfl) (hplain : (backTo cpos (starEach es X.env)).any (·.1) = false := by rfl) :
    PE X (.Call (.Attribute o "add" apos) (e :: es) [] cpos) (tSAdd w to t) := by
  subst ew
  exact pe_sadd ho ha hbase hfew hline hs hplain
end
end MM

set_option Elab.async false
set_option linter.all false
set_option maxRecDepth 100000
set_option maxHeartbeats 2000000
namespace K84
open PySem PySem.Spec PyProof.Rows L2 MM
section
variable {P : Program} {w : World} {K : PySem.W.Frag} {mg : Str → Option Value} {base : Heap}
def mv (m : List Nat) : List V := m.map fun (k : Nat) => V.int (k : Int)
theorem mv_len (m : List Nat) : (mv m).length = m.length := List.length_map _
theorem mv_at {m : List Nat} {k : Nat} (h : k < m.length) : atI (mv m) (k : Int) = some (.int ((m.getD k 0 : Nat) : Int)) := by
  refine atI_nat ?_
  unfold mv
  rw [List.getElem?_map, List.getElem?_eq_getElem h]
  simp [List.getD, List.getElem?_eq_getElem h]
theorem rg_mv (n : Nat) : rgV 0 (n : Int) = mv (List.range n) := by
  unfold rgV mv
  rw [show ((n : Int) - 0).toNat = n by omega]
  refine List.map_congr_left fun i _ => ?_
  rw [Int.zero_add]
theorem mv_set (b : List Nat) (k i : Nat) : (mv b).set k (V.int (i : Int)) = mv (b.set k i) := by
  unfold mv
  rw [List.map_set]
theorem mv_nth {m : List Nat} {i : Nat} {x : V} (h : (mv m)[i]? = some x) : i < m.length ∧ x = .int ((m.getD i 0 : Nat) : Int) := by
  unfold mv at h
  rw [List.getElem?_map] at h
  by_cases c : i < m.length
  · rw [List.getElem?_eq_getElem c] at h
    refine ⟨c, ?_⟩
    rw [List.getD, List.getElem?_eq_getElem c]
    exact (Option.some.inj h).symm
  · rw [List.getElem?_eq_none (by omega)] at h
    cases h
theorem ixN_lt {n k : Nat} (h : k < n) : ixN n (k : Int) = some k := by
  unfold ixN
  simp
  omega
/-- a move -/
def Mv (m : List Nat) : Prop := m.Nodup ∧ (∀ k ∈ m, k < m.length) ∧ 1 ≤ m.length ∧ m.length ≤ 24
/-- a heap that differs in the bag, and in new objects -/
structure Upto (p : Addr) (H H' : Hp) : Prop where
  same : ∀ b o, b ≠ p → H b = some o → H' b = some o
  bag : BagAt H' p
theorem Upto.refl {p : Addr} {H : Hp} (h : BagAt H p) : Upto p H H := ⟨fun _ _ _ e => e, h⟩
theorem Upto.draw {p : Addr} {H H' : Hp} {a b c : Int} (h : Upto p H H') : Upto p H (upd H' p (.lst [.int a, .int b, .int c])) :=
  ⟨fun x o n e => by rw [upd_ne n]; exact h.same x o n e, ⟨a, b, c, upd_same⟩⟩
theorem Upto.new {p t : Addr} {H H' : Hp} {o : HO} (h : Upto p H H') (f : H' t = none) : Upto p H (upd H' t o) := by
  obtain ⟨a, b, c, e⟩ := h.bag
  exact ⟨fun x y n e => by rw [upd_ne (ne_of_none (h.same x y n e) f)]; exact h.same x y n e, ⟨a, b, c, by rw [upd_ne (ne_of_none e f)]; exact e⟩⟩
theorem Upto.trans {p : Addr} {H H' H2 : Hp} (h : Upto p H H') (k : Upto p H' H2) : Upto p H H2 := ⟨fun x o n e => k.same x o n (h.same x o n e), k.bag⟩
theorem Upto.keep {p : Addr} {H H' H2 : Hp} (h : Upto p H H') (k : Same H' H2) : Upto p H H2 := by
  obtain ⟨a, b, c, e⟩ := h.bag
  exact ⟨fun x o n e => k x o (h.same x o n e), ⟨a, b, c, k _ _ e⟩⟩
theorem Upto.sqt {p a : Addr} {H H' : Hp} {xs : List V} (h : Upto p H H') (s : SqT K H a xs) (ne : a ≠ p) : SqT K H' a xs := by
  rcases s with (s | ⟨o, s⟩) | s
  · exact .inl (.inl (h.same _ _ ne s))
  · exact .inl (.inr ⟨o, h.same _ _ ne s⟩)
  · exact .inr s
theorem Upto.sql {p a : Addr} {H H' : Hp} {xs : List V} (h : Upto p H H') (s : SqL K H a xs) (ne : a ≠ p) : SqL K H' a xs := by
  rcases s with (s | ⟨o, s⟩) | s
  · exact .inl (.inl (h.same _ _ ne s))
  · exact .inl (.inr ⟨o, h.same _ _ ne s⟩)
  · exact .inr s
theorem Upto.free {p t : Addr} {H H' : Hp} (h : Upto p H H') (f : H' t = none) : t ≠ p ∧ H t = none := by
  obtain ⟨a, b, c, e⟩ := h.bag
  have n : t ≠ p := fun z => by rw [z, e] at f; cases f
  refine ⟨n, ?_⟩
  cases z : H t with
  | none => rfl
  | some o =>
    have := h.same t o n z
    rw [f] at this
    cases this
theorem Upto.put {p t : Addr} {H H' : Hp} {o : HO} (h : Upto p H H') (n : t ≠ p) (f : H t = none) : Upto p H (upd H' t o) := by
  obtain ⟨a, b, c, e⟩ := h.bag
  exact ⟨fun x y m e => by rw [upd_ne (ne_of_none e f)]; exact h.same x y m e, ⟨a, b, c, by rw [upd_ne n.symm]; exact e⟩⟩
theorem bag_ne {H : Hp} {p l : Addr} {x : HO} (e : H p = some x) (f : H l = none) : l ≠ p := fun z => by rw [z, e] at f; cases f
theorem pick_perm {α : Type} : ∀ (l : List α) (k : Nat) (h : k < l.length), (l[k] :: l.eraseIdx k).Perm l
  | _ :: _, 0, _ => .refl _
  | a :: r, k + 1, h => by
    show (r[k]'(by simpa using h) :: a :: r.eraseIdx k).Perm (a :: r)
    exact (List.Perm.swap _ _ _).trans (List.Perm.cons a (pick_perm r k (by simpa using h)))
theorem mv_range_perm {ys : List V} {n : Nat} (h : ys.Perm (mv (List.range n))) : ∃ m, ys = mv m ∧ m.Perm (List.range n) := by
  refine ⟨ys.map fun | .int i => i.toNat | _ => 0, ?_, ?_⟩
  · unfold mv
    rw [List.map_map]
    have : ∀ y ∈ ys, ((fun (k : Nat) => V.int (k : Int)) ∘ fun | V.int i => i.toNat | _ => 0) y = y := by
      intro y hy
      obtain ⟨k, _, rfl⟩ := List.mem_map.mp (h.mem_iff.mp hy)
      rfl
    exact ((List.map_congr_left (g := id) this).trans (List.map_id ys)).symm
  · have := h.map fun | V.int i => i.toNat | _ => 0
    refine this.trans ?_
    unfold mv
    rw [List.map_map]
    exact .of_eq (List.map_id' _)
theorem mv_of_perm {m : List Nat} {n : Nat} (h : m.Perm (List.range n)) (h1 : 1 ≤ n) (h2 : n ≤ 24) : Mv m ∧ m.length = n := by
  have ln : m.length = n := by rw [h.length_eq, List.length_range]
  refine ⟨⟨h.nodup_iff.mpr List.nodup_range, fun k hk => ?_, by omega, by omega⟩, ln⟩
  rw [ln]
  exact List.mem_range.mp (h.mem_iff.mp hk)
/-- f of a move -/
def fn' (m : List Nat) : Nat → Nat := fun k => m.getD k 0
def Refs (K : PySem.W.Frag) (H : Hp) (vs : List V) (R : List (List Nat)) : Prop := Paired (fun v r => ∃ a, v = V.ref a ∧ SqT K H a (mv r)) vs R
theorem pm_of {m : List Nat} (h : Mv m) : Pm (fn' m) m.length := by
  have g : ∀ k, (hk : k < m.length) → fn' m k = m[k] := fun k hk => by
    unfold fn'
    rw [List.getD, List.getElem?_eq_getElem hk]
    rfl
  refine ⟨fun k hk => ?_, fun a b ha hb e => ?_⟩
  · rw [g k hk]
    exact h.2.1 _ (List.getElem_mem hk)
  · rw [g a ha, g b hb] at e
    by_cases c : a = b
    · exact c
    · exfalso
      have nd := List.pairwise_iff_getElem.mp h.1
      rcases Nat.lt_or_gt_of_ne c with lt | lt
      · exact nd a b ha hb lt e
      · exact nd b a hb ha lt e.symm
theorem flat_mv (l : List Nat) : (mv l).all flatV = true := by
  unfold mv
  rw [List.all_map, List.all_eq_true]
  intro x _
  rfl
theorem in_mv (l : List Nat) (k : Nat) : inV (.int (k : Int)) (mv l) = decide (k ∈ l) := by
  unfold inV mv
  rw [List.any_map]
  induction l with
  | nil => rfl
  | cons j r ih =>
    rw [List.any_cons, ih]
    have e : ((fun y => eqV y (V.int (k : Int))) ∘ fun (k : Nat) => V.int (k : Int)) j = decide (k = j) := by
      show eqV (V.int (j : Int)) (V.int (k : Int)) = _
      by_cases c : k = j
      · subst c
        simp [eqV]
      · have : ¬ (j : Int) = (k : Int) := by omega
        simp [eqV, c, this]
    rw [e]
    simp
theorem Refs.same {H H' : Hp} {vs : List V} {R : List (List Nat)} (h : Refs K H vs R) (s : Same H H') : Refs K H' vs R := by
  unfold Refs at h ⊢
  induction h with
  | nil => exact .nil
  | cons h _ ih =>
    obtain ⟨a, e, S⟩ := h
    exact .cons ⟨a, e, same_sqt s S⟩ ih
theorem mv_app (k l : List Nat) : mv (k ++ l) = mv k ++ mv l := List.map_append ..
theorem sqt_lst {H : Hp} {a F : Addr} {xs ys zs : List V} (h : SqT K H a xs) (e : H F = some (.lst zs)) : SqT K (upd H F (.lst ys)) a xs := by
  rcases h with (h | ⟨o, h⟩) | h
  · exact .inl (.inl (by rw [upd_ne (fun z => by rw [z, e] at h; cases h)]; exact h))
  · exact .inl (.inr ⟨o, by rw [upd_ne (fun z => by rw [z, e] at h; cases h)]; exact h⟩)
  · exact .inr h
theorem Refs.upd {H : Hp} {vs : List V} {R : List (List Nat)} {F : Addr} {ys zs : List V} (h : Refs K H vs R) (e : H F = some (.lst zs)) : Refs K (upd H F (.lst ys)) vs R := by
  unfold Refs at h ⊢
  induction h with
  | nil => exact .nil
  | cons h _ ih =>
    obtain ⟨a, e1, S⟩ := h
    exact .cons ⟨a, e1, sqt_lst S e⟩ ih
theorem Refs.snoc {H : Hp} {vs : List V} {R : List (List Nat)} {t : Addr} {r : List Nat} (h : Refs K H vs R) (S : SqT K H t (mv r)) : Refs K H (vs ++ [.ref t]) (R ++ [r]) := by
  unfold Refs at h ⊢
  induction h with
  | nil => exact .cons ⟨t, rfl, S⟩ .nil
  | cons h _ ih => exact .cons h ih
theorem ringsTo_len (f : Nat → Nat) (n : Nat) : ∀ s, (ringsTo f n s).length ≤ s
  | 0 => Nat.le_refl 0
  | s + 1 => by
    have := ringsTo_len f n s
    unfold ringsTo
    split
    · omega
    · rw [List.length_append]
      show _ + 1 ≤ _
      omega
/-- a set of places -/
def SetN (w : World) (a : Addr) (l : List Nat) (H : Hp) : Prop := ∃ S c, H a = some (SetO w a S c) ∧ c ≤ l.length ∧ ∀ x : Nat, S (x : Int) = decide (x ∈ l)
theorem SetN.same {a : Addr} {l : List Nat} {H H' : Hp} (h : SetN w a l H) (s : Same H H') : SetN w a l H' :=
  let ⟨S, c, e, r⟩ := h
  ⟨S, c, s _ _ e, r⟩
theorem SetN.upd {a b : Addr} {l : List Nat} {H : Hp} {o : HO} (h : SetN w a l H) (n : a ≠ b) : SetN w a l (upd H b o) :=
  let ⟨S, c, e, r⟩ := h
  ⟨S, c, by rw [upd_ne n]; exact e, r⟩
theorem seto_ne {a b : Addr} {H : Hp} {S : Int → Bool} {c : Nat} {o : HO} (h : H a = some (SetO w a S c)) (e : H b = some o) (n : ∀ f, o ≠ .ext f) : a ≠ b := fun z => by
  subst z
  rw [h] at e
  exact n _ (Option.some.inj e).symm
theorem SetN.add {a : Addr} {l : List Nat} {H : Hp} {S : Int → Bool} {c : Nat} {x : Nat} (hc : c ≤ l.length) (hS : ∀ x : Nat, S (x : Int) = decide (x ∈ l)) :
    SetN w a (l ++ [x]) (L2.upd H a (SetO w a (fun j => S j || decide (j = (x : Int))) (if S (x : Int) = true then c else c + 1))) := by
  refine ⟨_, _, upd_same, ?_, fun y => ?_⟩
  · rw [List.length_append]
    show _ ≤ l.length + 1
    split <;> omega
  · show (S (y : Int) || decide ((y : Int) = (x : Int))) = _
    rw [hS y, ← Bool.decide_or]
    refine decide_eq_decide.mpr ?_
    rw [List.mem_append, List.mem_singleton]
    exact or_congr Iff.rfl (by omega)
theorem rings_small {f : Nat → Nat} {n s : Nat} (h : Pm f n) (hn : n ≤ 24) (hs : s ≤ n) : (ringsTo f n s).flatten.length ≤ 24 := by
  have g := rings_good h s hs
  have := g.once.length_le_of_subset (fun x hx => List.mem_range.mpr (g.below x hx))
  rw [List.length_range] at this
  omega
def NoTup : HO → Prop
  | .tup _ => False
  | .frz _ _ => False
  | _ => True
theorem sqt_ext {H : Hp} {a F : Addr} {xs : List V} {o o' : HO} (h : SqT K H a xs) (e : H F = some o') (n : NoTup o') : SqT K (upd H F o) a xs := by
  rcases h with (h | ⟨u, h⟩) | h
  · exact .inl (.inl (by rw [upd_ne (fun z => by rw [z, e] at h; rw [Option.some.inj h] at n; exact n)]; exact h))
  · exact .inl (.inr ⟨u, by rw [upd_ne (fun z => by rw [z, e] at h; rw [Option.some.inj h] at n; exact n)]; exact h⟩)
  · exact .inr h
theorem Refs.ext {H : Hp} {vs : List V} {R : List (List Nat)} {F : Addr} {o o' : HO} (h : Refs K H vs R) (e : H F = some o') (n : NoTup o') : Refs K (L2.upd H F o) vs R := by
  unfold Refs at h ⊢
  induction h with
  | nil => exact .nil
  | cons h _ ih =>
    obtain ⟨a, e1, S⟩ := h
    exact .cons ⟨a, e1, sqt_ext S e n⟩ ih
theorem split_at {α : Type} {l : List α} {i : Nat} {x : α} (h : l[i]? = some x) : l = l.take i ++ x :: l.drop (i + 1) := by
  obtain ⟨lt, e⟩ := List.getElem?_eq_some_iff.mp h
  rw [← e, ← List.drop_eq_getElem_cons lt, List.take_append_drop]
/-- rings of places below n -/
structure Rings (n : Nat) (R : List (List Nat)) : Prop where
  full : ∀ r ∈ R, 1 ≤ r.length
  once : R.flatten.Nodup
  below : ∀ x ∈ R.flatten, x < n
theorem Rings.small {n : Nat} {R : List (List Nat)} (h : Rings n R) : R.flatten.length ≤ n := by
  have := h.once.length_le_of_subset (fun x hx => List.mem_range.mpr (h.below x hx))
  rwa [List.length_range] at this
theorem Rings.flat {R : List (List Nat)} {i j x : Nat} {r : List Nat} (hr : R[i]? = some r) (hx : r[j]? = some x) :
    R.flatten = ((R.take i).flatten ++ r.take j) ++ x :: (r.drop (j + 1) ++ (R.drop (i + 1)).flatten) := by
  have e1 := split_at hr
  have e2 := split_at hx
  have e3 : R.flatten = (R.take i ++ r :: R.drop (i + 1)).flatten := congrArg List.flatten e1
  rw [e3, List.flatten_append, List.flatten_cons]
  have e4 : r ++ (R.drop (i + 1)).flatten = r.take j ++ (x :: (r.drop (j + 1) ++ (R.drop (i + 1)).flatten)) := by
    have : r ++ (R.drop (i + 1)).flatten = (r.take j ++ x :: r.drop (j + 1)) ++ (R.drop (i + 1)).flatten := by rw [← e2]
    rw [this, List.append_assoc, List.cons_append]
  rw [e4, List.append_assoc]
theorem Rings.new {n : Nat} {R : List (List Nat)} (h : Rings n R) {i j x : Nat} {r : List Nat} (hr : R[i]? = some r) (hx : r[j]? = some x) :
    x ∉ (R.take i).flatten ++ r.take j ∧ x < n ∧ ((R.take i).flatten ++ r.take j).length ≤ n := by
  have e := Rings.flat hr hx
  have nd := h.once
  have sm := h.small
  rw [e] at nd sm
  refine ⟨fun z => ?_, h.below x (by rw [e]; simp), ?_⟩
  · have := (List.nodup_append.mp nd).2.2 x z x (by simp)
    exact this rfl
  · rw [List.length_append] at sm
    omega
/-- f goes round the rings, and leaves the rest -/
structure Goes (f : Nat → Nat) (n : Nat) (R : List (List Nat)) : Prop where
  ring : ∀ r ∈ R, ∀ j, j < r.length → f (r.getD j 0) = r.getD ((j + 1) % r.length) 0
  rest : ∀ x, x < n → x ∉ R.flatten → f x = x
theorem Refs.get {H : Hp} {vs : List V} {R : List (List Nat)} (h : Refs K H vs R) : ∀ {i : Nat} {x : V}, vs[i]? = some x → ∃ r t, R[i]? = some r ∧ x = .ref t ∧ SqT K H t (mv r) := by
  unfold Refs at h
  induction h with
  | nil =>
    intro i x e
    simp at e
  | cons h _ ih =>
    intro i x e
    cases i with
    | zero =>
      obtain ⟨t, e1, S⟩ := h
      refine ⟨_, t, rfl, ?_, S⟩
      rw [← e1]
      exact (Option.some.inj e).symm
    | succ i => exact ih e
end
end K84

set_option Elab.async false
set_option linter.all false
set_option maxRecDepth 100000
set_option maxHeartbeats 2000000
namespace K84
open PySem PySem.Spec PyProof.Rows L2 MM
/-! own words for the readings: a step, its side -/
local macro_rules | `(tactic| walk_at "side") => `(tactic| first
  | omega
  | exact ⟨by omega, by omega⟩
  | exact Or.inl ⟨by omega, by omega⟩
  | exact Or.inr ⟨by omega, by omega⟩
  | (show CPw _ _; decide +kernel)
  | (show (0 : Int) < _; decide +kernel)
  | (show CDivW _ _; first | assumption | exact ⟨by decide, by decide +kernel⟩))
local macro_rules | `(tactic| walk_at "here") => `(tactic| first
  | assumption
  | exact upd_same
  | exact Or.inl (Or.inl upd_same)
  | exact Or.inl upd_same)
local macro_rules | `(tactic| walk_at "one") => `(tactic| first
  | refine ⟨_, rfl, ?_⟩
  | refine Or.inl ⟨_, rfl, ?_⟩
  | refine Or.inr ⟨_, rfl, ?_⟩
  | refine ⟨_, _, rfl, rfl, (by walk_at "side"), ?_⟩
  | refine ⟨_, _, rfl, rfl, ?_⟩
  | refine ⟨_, _, rfl, Or.inl (by walk_at "here"), ?_⟩
  | refine ⟨_, _, rfl, Or.inr (by walk_at "here"), ?_⟩
  | refine ⟨_, _, rfl, (by walk_at "here"), ?_⟩
  | refine ⟨_, _, _, _, rfl, rfl, (by walk_at "here"), rfl, ?_⟩
  | refine ⟨_, _, rfl, ?_⟩
  | refine ifT (by rfl) ?_
  | refine ifF (by rfl) ?_
  | refine ifT (decide_eq_true (by omega)) ?_
  | refine ifF (decide_eq_false (by omega)) ?_)
local macro_rules | `(tactic| walk_at "st") => `(tactic| repeat (walk_at "one"))

section
variable {P : Program} {w : World} {K : PySem.W.Frag} {mg : Str → Option Value} {base : Heap}
def spNeedPlaces (K : PySem.W.Frag) : Sp := fun vs H Q _ => ∃ n : Nat, vs = [.int (n : Int)] ∧ 1 ≤ n ∧ n ≤ 24 ∧ Q .non H
theorem scNeedPlaces : FnScope ["places"] ["places"] (defScope sNeedPlaces) :=
  ⟨rfl, rfl, rfl, by decide +kernel, rfl, by decide +kernel, by decide +kernel⟩
theorem dNeedPlaces (T : Tx K mg) (DNeedBetween : Def P w K mg base CX0 3 "need_between" ["value", "least", "most"] (spNeedBetween K)) : Def P w K mg base CX0 4 "need_places" ["places"] (spNeedPlaces K) := by
  refine T.t_need_places.def_ (N := ["places"]) scNeedPlaces (fun _ _ _ _ _ _ us hl => match us, hl with | [_], _ => rfl) ?_ ?_
  · intro vs H Q E h
    obtain ⟨n, rfl, _⟩ := h
    rfl
  · intro f cd A out s H vs Q E hr h
    have hr1 : Rm 3 _ := hr.le (by decide)
    obtain ⟨n, rfl, h1, h2, q⟩ := h
    refine ⟨_, (pss_one (ps_expr (pe_d DNeedBetween (hr1.le (by decide)) pass0 (pa_cons (pv 0) (pa_cons pe_int (pa_cons (C8.pe_gc rfl T.c_MAX_PLACES) pa_nil)))))), ?_⟩
    exact ⟨_, rfl, _, 1, 24, rfl, by omega, by omega, q⟩
def spNeedRings (K : PySem.W.Frag) : Sp := fun vs H Q _ => ∃ (n : Nat) (a : Addr) (us : List V) (R : List (List Nat)), vs = [.int (n : Int), .ref a] ∧ SqT K H a us ∧ Refs K H us R ∧ Rings n R ∧ n ≤ 24 ∧ ∀ H', Same H H' → Q .non H'
theorem scNeedRings : FnScope ["places", "rings", "seen", "ring", "place"] ["places", "rings"] (defScope sNeedRings) :=
  ⟨rfl, rfl, rfl, by decide +kernel, rfl, by decide +kernel, by decide +kernel⟩
theorem dNeedRings (T : Tx K mg) (DIsBetween : Def P w K mg base CX0 2 "is_between" ["value", "least", "most"] (spIsBetween K)) : Def P w K mg base CX0 3 "_need_rings" ["places", "rings"] (spNeedRings K) := by
  refine T.t_need_rings.def_ (N := ["places", "rings", "seen", "ring", "place"]) scNeedRings (fun _ _ _ _ _ _ us hl => match us, hl with | [_, _], _ => rfl) ?_ ?_
  · intro vs H Q E h
    obtain ⟨n, a, us, R, rfl, _⟩ := h
    rfl
  · intro f cd A out s H vs Q E hr h
    have hr1 : Rm 2 _ := hr.le (by decide)
    obtain ⟨n, a, us, R, rfl, S, rf, hR, n24, q⟩ := h
    refine ⟨_, (pss_cons (ps_if (pt_not (pt_val (pe_callB (cr_is .tup) rfl T.f_isinstance (by decide +kernel) (pa_cons (pv 1) (pa_cons (pe_ty .tup T.f_tuple (by decide +kernel)) pa_nil))))) (pss_one ps_never) pss_nil)
      (pss_cons (ps_set (i := 2) scNeedRings.nd rfl (Or.inl rfl) (pe_callTy0 (cr_set0W (w := w) rfl) rfl T.f_set (by decide +kernel)))
      (pss_one (ps_for PassesOwn.never rfl (pi_tup (pv 1)) (pg_name (i := 3) scNeedRings.nd rfl (Or.inl rfl))
        (pss_cons (ps_if (PW.pt (pw_or (pt_not (pt_val (pe_callB (cr_is .tup) rfl T.f_isinstance (by decide +kernel) (pa_cons (pv 3) (pa_cons (pe_ty .tup T.f_tuple (by decide +kernel)) pa_nil))))) (pw_or1 (pt_cmpR op_eq (pe_callB call_len_seq rfl T.f_len (by decide +kernel) (pa_cons (pv 3) pa_nil)) pe_int (nomark _))))) (pss_one ps_never) pss_nil)
        (pss_one (ps_for PassesOwn.never rfl (pi_tup (pv 3)) (pg_name (i := 4) scNeedRings.nd rfl (Or.inl rfl))
          (pss_cons (ps_if (PW.pt (pw_or (pt_not (pt_val (pe_d DIsBetween (hr1.le (by decide)) pass0 (pa_cons (pv 4) (pa_cons pe_int (pa_cons (pe_op op_sub (pv 0) pe_int) pa_nil)))))) (pw_or1 (pt_cmpR (or_sinW (w := w) rfl) (pv 4) (pv 2) rfl)))) (pss_one ps_never) pss_nil)
          (pss_one (ps_expr (pe_saddW (w := w) rfl (pv 2) (pa_cons (pv 4) pa_nil)))))))))))), ?_⟩
    refine ⟨_, rfl, _, _, rfl, .tup S, _, rfl, ?_⟩
    refine ifF rfl ?_
    refine ⟨rfl, fun G fG => ?_⟩
    have S1 : Same H (upd H G (SetO w G (fun _ => false) 0)) := same_new fG
    have G1 : SetN w G [] (upd H G (SetO w G (fun _ => false) 0)) := ⟨_, _, upd_same, Nat.le_refl _, fun x => by simp⟩
    have fG0 : ∀ b o, H b = some o → b ≠ G := fun b o e => ne_of_none e fG
    generalize upd H G _ = H1 at S1 G1 ⊢
    refine ⟨_, rfl, a, rfl, ⟨_, same_sqt S1 S⟩, for_tup (K := K) (a := a) (xs := us) (fun i σ H3 => Same H H3 ∧ SetN w G (R.take i).flatten H3 ∧ ∃ x y, σ = [some (.int (n : Int)), some (.ref a), some (.ref G), x, y])
      ⟨S1, by simpa using G1, _, _, rfl⟩ (fun i σ H3 _ h => same_sqt h.1 S) ?_ ?_⟩
    · rintro i v σ H3 hv ⟨S3, hG, x, y, rfl⟩
      obtain ⟨r, t, hr, rfl, St⟩ := rf.get hv
      have mr : r ∈ R := List.mem_of_getElem? hr
      have r1 := hR.full r mr
      have St3 := same_sqt S3 St
      refine ⟨_, rfl, _, _, rfl, .tup St3, _, rfl, ?_⟩
      refine ifF rfl ?_
      refine ⟨_, rfl, t, _, rfl, .inr St3, rfl, _, rfl, ?_⟩
      refine ifF (by rw [dInt]; exact decide_eq_false (by rw [mv_len]; omega)) ?_
      refine ⟨_, rfl, t, rfl, ⟨_, St3⟩, for_tup (K := K) (a := t) (xs := mv r) (fun j σ H4 => Same H H4 ∧ SetN w G ((R.take i).flatten ++ r.take j) H4 ∧ ∃ y, σ = [some (.int (n : Int)), some (.ref a), some (.ref G), some (.ref t), y])
        ⟨S3, by simpa using hG, _, rfl⟩ (fun j σ H4 _ h => same_sqt h.1 St) ?_ ?_⟩
      · rintro j u σ H4 hu ⟨S4, hG4, y, rfl⟩
        obtain ⟨jr, rfl⟩ := mv_nth hu
        have ej : r[j]? = some (r.getD j 0) := by rw [List.getD, List.getElem?_eq_getElem jr]; rfl
        obtain ⟨new, lt, sm⟩ := hR.new hr ej
        obtain ⟨S9, c9, e9, l9, r9⟩ := id hG4
        refine ⟨_, rfl, _, rfl, _, _, rfl, rfl, _, _, _, _, rfl, .int _, ?_⟩
        refine ⟨_, rfl, ?_⟩
        refine ifF ?_ ?_
        · show (!(decide (0 ≤ ((r.getD j 0 : Nat) : Int)) && decide (((r.getD j 0 : Nat) : Int) ≤ (n : Int) - 1))) = false
          rw [decide_eq_true (by omega), decide_eq_true (by omega)]
          rfl
        refine ⟨_, rfl, _, rfl, _, G, S9, c9, rfl, rfl, e9, ?_⟩
        refine ⟨_, rfl, ?_⟩
        refine ifF (by rw [r9]; exact decide_eq_false new) ?_
        have room : c9 + 1 < scanBound := by
          have : c9 ≤ 100 := by omega
          exact Nat.lt_of_le_of_lt (Nat.add_le_add_right this 1) (by decide)
        refine ⟨_, rfl, ⟨G, S9, c9, rfl, e9⟩, _, rfl, G, _, S9, c9, rfl, rfl, e9, room, ?_⟩
        have G6 := SetN.add (w := w) (a := G) (H := H4) (x := r.getD j 0) l9 r9
        rw [List.append_assoc] at G6
        refine ⟨fun b o e => (upd_ne (fG0 b o e)).trans (S4 b o e), ?_, _, rfl⟩
        have ts : r.take (j + 1) = r.take j ++ [r.getD j 0] := by rw [List.take_add_one, ej]; rfl
        rw [ts]
        exact G6
      · rintro σ H4 ⟨S4, hG4, y, rfl⟩
        refine ⟨S4, ?_, _, _, rfl⟩
        rw [mv_len, List.take_length] at hG4
        rw [List.take_add_one, hr, List.flatten_append]
        show SetN w G (_ ++ (r ++ [])) _
        rw [List.append_nil]
        exact hG4
    · rintro σ H3 ⟨S3, hG, x, y, rfl⟩
      exact q _ S3
def spMoveOf (K : PySem.W.Frag) : Sp := fun vs H Q _ => ∃ (n : Nat) (a : Addr) (us : List V) (R : List (List Nat)) (f : Nat → Nat), vs = [.int (n : Int), .ref a] ∧ SqT K H a us ∧ Refs K H us R ∧ Rings n R ∧ Goes f n R ∧ 1 ≤ n ∧ n ≤ 24 ∧
  ∀ H' t, Same H H' → SqT K H' t (mv ((List.range n).map f)) → Q (.ref t) H'
theorem scMoveOfCycles : FnScope ["places", "rings", "move", "ring", "at", "place"] ["places", "rings"] (defScope sMoveOfCycles) :=
  ⟨rfl, rfl, rfl, by decide +kernel, rfl, by decide +kernel, by decide +kernel⟩
theorem dMoveOfCycles (T : Tx K mg) (DNeedPlaces : Def P w K mg base CX0 4 "need_places" ["places"] (spNeedPlaces K)) (DNeedRings : Def P w K mg base CX0 3 "_need_rings" ["places", "rings"] (spNeedRings K)) : Def P w K mg base CX0 5 "move_of_cycles" ["places", "rings"] (spMoveOf K) := by
  refine T.t_move_of_cycles.def_ (N := ["places", "rings", "move", "ring", "at", "place"]) scMoveOfCycles (fun _ _ _ _ _ _ us hl => match us, hl with | [_, _], _ => rfl) ?_ ?_
  · intro vs H Q E h
    obtain ⟨n, a, us, R, f, rfl, _⟩ := h
    rfl
  · intro f cd A out s H vs Q E hr h
    have hr1 : Rm 4 _ := hr.le (by decide)
    obtain ⟨n, a, us, R, g, rfl, S, rf, hR, hg, n1, n24, q⟩ := h
    refine ⟨_, (pss_cons (ps_expr (pe_d DNeedPlaces (hr1.le (by decide)) pass0 (pa_cons (pv 0) pa_nil)))
      (pss_cons (ps_expr (pe_d DNeedRings (hr1.le (by decide)) pass0 (pa_cons (pv 0) (pa_cons (pv 1) pa_nil))))
      (pss_cons (ps_set (i := 2) scMoveOfCycles.nd rfl (Or.inl rfl) (pe_listRg rfl rfl T.f_list (prg_1 rfl T.f_range (pv 0))))
      (pss_cons (ps_for PassesOwn.never rfl (pi_tup (pv 1)) (pg_name (i := 3) scMoveOfCycles.nd rfl (Or.inl rfl))
        (pss_one (ps_for PassesOwn.never rfl (pi_enumT rfl T.f_enumerate (pa_cons (pv 3) pa_nil)) (pg_tup rfl (pgs_cons (pg_name (i := 4) scMoveOfCycles.nd rfl (Or.inl rfl)) (pgs_cons (pg_name (i := 5) scMoveOfCycles.nd rfl (Or.inl rfl)) pgs_nil)))
          (pss_one (ps_asg (pe_ix ix_tup (pv 3) (pe_op op_mod (pe_op op_add (pv 4) pe_int) (pe_callB call_len_seq rfl T.f_len (by decide +kernel) (pa_cons (pv 3) pa_nil))) (fun _ _ => rfl)) (pg_sub (pv 2) (pv 5) set_list))))))
      (pss_one (ps_ret (pe_callTy call_tuple_of rfl T.f_tuple (by decide +kernel) (pa_cons (pv 2) pa_nil)))))))), ?_⟩
    refine ⟨_, rfl, n, rfl, n1, n24, ?_⟩
    refine ⟨_, rfl, _, rfl, n, a, us, R, rfl, S, rf, hR, n24, fun H0 S0 => ?_⟩
    refine ⟨_, rfl, _, rfl, ⟨by omega, by omega, by omega, by omega, by omega⟩, fun F fF => ?_⟩
    rw [rg_mv]
    have fF0 : ∀ b o, H b = some o → b ≠ F := fun b o e => ne_of_none (S0 b o e) fF
    have S1 : Same H (upd H0 F (.lst (mv (List.range n)))) := S0.trans (same_new fF)
    have F1 : (upd H0 F (.lst (mv (List.range n)))) F = some (.lst (mv (List.range n))) := upd_same
    generalize upd H0 F _ = H1 at S1 F1 ⊢
    refine ⟨_, rfl, a, rfl, ⟨_, same_sqt S1 S⟩, for_tup (K := K) (a := a) (xs := us) (fun i σ H3 => Same H H3 ∧ ∃ b : List Nat, b.length = n ∧ H3 F = some (.lst (mv b)) ∧
        (∀ x, x < n → b.getD x 0 = if x ∈ (R.take i).flatten then g x else x) ∧ ∃ x y z, σ = [some (.int (n : Int)), some (.ref a), some (.ref F), x, y, z])
      ⟨S1, _, List.length_range, F1, ?_, _, _, _, rfl⟩ (fun i σ H3 _ h => same_sqt h.1 S) ?_ ?_⟩
    · intro x hx
      rw [if_neg (by simp), List.getD, List.getElem?_range hx]
      rfl
    · rintro i v σ H3 hv ⟨S3, b, lb, hF, done, x, y, z, rfl⟩
      obtain ⟨r, t, hr, rfl, St⟩ := rf.get hv
      have mr : r ∈ R := List.mem_of_getElem? hr
      have r1 := hR.full r mr
      refine ⟨_, rfl, t, _, rfl, same_sqt S3 St, ?_⟩
      refine for_enumT (K := K) (a := t) (xs := mv r) (fun j σ H4 => Same H H4 ∧ ∃ b : List Nat, b.length = n ∧ H4 F = some (.lst (mv b)) ∧
          (∀ x, x < n → b.getD x 0 = if x ∈ (R.take i).flatten ++ r.take j then g x else x) ∧ ∃ y z, σ = [some (.int (n : Int)), some (.ref a), some (.ref F), some (.ref t), y, z])
        ⟨S3, b, lb, hF, by simpa using done, _, _, rfl⟩ (fun j σ H4 _ h => same_sqt h.1 St) ?_ ?_
      · rintro j u σ H4 T hu ⟨S4, b, lb, hF, done, y, z, rfl⟩ fT
        obtain ⟨jr, rfl⟩ := mv_nth hu
        have ej : r[j]? = some (r.getD j 0) := by rw [List.getD, List.getElem?_eq_getElem jr]; rfl
        obtain ⟨new, lt, sm⟩ := hR.new hr ej
        have FT : F ≠ T := ne_of_none hF fT
        have St5 : SqT K (upd H4 T (.tup [.int (j : Nat), .int ((r.getD j 0 : Nat) : Int)])) t (mv r) := sqt_new (same_sqt S4 St) fT
        have Lp : 0 < ((mv r).length : Int) := by rw [mv_len]; omega
        have ix : ((j : Int) + 1) % ((mv r).length : Int) = (((j + 1) % r.length : Nat) : Int) := by
          rw [mv_len, Int.natCast_emod, Int.natCast_add]
          rfl
        have ate : atI (mv r) (((j : Int) + 1) % ((mv r).length : Int)) = some (.int ((r.getD ((j + 1) % r.length) 0 : Nat) : Int)) := by
          rw [ix]
          exact mv_at (Nat.mod_lt _ (by omega))
        refine ⟨T, _, rfl, .inl (.inl upd_same), rfl, _, _, rfl, ?_⟩
        refine ⟨_, _, rfl, rfl, ?_⟩
        refine ⟨_, rfl, _, rfl, _, _, rfl, rfl, _, rfl, t, _, rfl, .inr St5, _, _, rfl, rfl, Lp, t, _, _, _, rfl, rfl, St5, ate, ?_⟩
        refine ⟨_, rfl, _, rfl, F, _, _, r.getD j 0, rfl, rfl, (upd_ne FT).trans hF, by rw [mv_len, lb]; exact ixN_lt lt, ?_⟩
        rw [mv_set, ← hg.ring r mr j jr]
        refine ⟨fun b o h => (upd_ne (fF0 b o h)).trans (same_new fT b o (S4 b o h)), b.set (r.getD j 0) (g (r.getD j 0)), by rw [List.length_set, lb], upd_same, fun x hx => ?_, _, _, rfl⟩
        have ts : r.take (j + 1) = r.take j ++ [r.getD j 0] := by rw [List.take_add_one, ej]; rfl
        rw [ts, ← List.append_assoc]
        by_cases z : x = r.getD j 0
        · rw [if_pos (by rw [z]; simp), z, List.getD, List.getElem?_set_self (by omega)]
          rfl
        · rw [List.getD, List.getElem?_set_ne (fun h => z h.symm), ← List.getD, done x hx]
          have : (x ∈ (R.take i).flatten ++ r.take j ++ [r.getD j 0]) ↔ x ∈ (R.take i).flatten ++ r.take j := by
            rw [List.mem_append]
            exact ⟨fun h => h.elim id fun h => absurd (List.mem_singleton.mp h) z, .inl⟩
          by_cases c : x ∈ (R.take i).flatten ++ r.take j
          · rw [if_pos c, if_pos (this.mpr c)]
          · rw [if_neg c, if_neg fun h => c (this.mp h)]
      · rintro σ H4 ⟨S4, b, lb, hF, done, y, z, rfl⟩
        refine ⟨S4, b, lb, hF, ?_, _, _, _, rfl⟩
        rw [mv_len, List.take_length] at done
        rw [List.take_add_one, hr, List.flatten_append]
        show ∀ x, x < n → b.getD x 0 = if x ∈ (R.take i).flatten ++ (r ++ []) then g x else x
        rw [List.append_nil]
        exact done
    · rintro σ H3 ⟨S3, b, lb, hF, done, x, y, z, rfl⟩
      have lus : us.length = R.length := Paired.length rf
      rw [lus, List.take_length] at done
      have eb : b = (List.range n).map g := by
        refine List.ext_getElem (by rw [lb, List.length_map, List.length_range]) fun x h1 h2 => ?_
        have hx : x < n := by omega
        have := done x hx
        rw [List.getD, List.getElem?_eq_getElem h1] at this
        rw [List.getElem_map, List.getElem_range]
        refine Eq.trans this ?_
        split
        · rfl
        · rename_i c
          exact (hg.rest x hx c).symm
      rw [eb] at hF
      exact ⟨_, rfl, F, _, rfl, .inl ⟨.inl (.inl hF), fun u fu => q _ u (S3.trans (same_new fu)) (.inl (.inl upd_same))⟩⟩
end
end K84


set_option Elab.async false
set_option linter.all false
set_option maxRecDepth 100000
set_option maxHeartbeats 2000000
namespace K84
open PySem PySem.Spec PyProof.Rows L2 MM PySem.NumText
/-! own words for the readings: a step, its side -/
local macro_rules | `(tactic| walk_at "side") => `(tactic| first
  | omega
  | exact ⟨by omega, by omega⟩
  | exact Or.inl ⟨by omega, by omega⟩
  | exact Or.inr ⟨by omega, by omega⟩
  | (show CPw _ _; decide +kernel)
  | (show (0 : Int) < _; decide +kernel)
  | (show CDivW _ _; first | assumption | exact ⟨by decide, by decide +kernel⟩))
local macro_rules | `(tactic| walk_at "here") => `(tactic| first
  | assumption
  | exact upd_same
  | exact Or.inl (Or.inl upd_same)
  | exact Or.inl upd_same)
local macro_rules | `(tactic| walk_at "one") => `(tactic| first
  | refine ⟨_, rfl, ?_⟩
  | refine Or.inl ⟨_, rfl, ?_⟩
  | refine Or.inr ⟨_, rfl, ?_⟩
  | refine ⟨_, _, rfl, rfl, (by walk_at "side"), ?_⟩
  | refine ⟨_, _, rfl, rfl, ?_⟩
  | refine ⟨_, _, rfl, Or.inl (by walk_at "here"), ?_⟩
  | refine ⟨_, _, rfl, Or.inr (by walk_at "here"), ?_⟩
  | refine ⟨_, _, rfl, (by walk_at "here"), ?_⟩
  | refine ⟨_, _, _, _, rfl, rfl, (by walk_at "here"), rfl, ?_⟩
  | refine ⟨_, _, rfl, ?_⟩
  | refine ifT (by rfl) ?_
  | refine ifF (by rfl) ?_
  | refine ifT (decide_eq_true (by omega)) ?_
  | refine ifF (decide_eq_false (by omega)) ?_)
local macro_rules | `(tactic| walk_at "st") => `(tactic| repeat (walk_at "one"))

section
variable {P : Program} {w : World} {K : PySem.W.Frag} {mg : Str → Option Value} {base : Heap}
/-- more places of a ring -/
def ringGo (cs : List Nat) : Nat → List Nat → Nat → Rd (List Nat × Nat)
  | 0, ring, e => if ring.length < 2 then .error e else .ok (ring, e)
  | f + 1, ring, e => if ring.length < 2 ∨ isAt cs e 32 = true then (match behindR cs e 32 with
      | .error j => .error j
      | .ok s => match plainR cs s with
        | .error j => .error j
        | .ok (n, e2) => ringGo cs f (ring ++ [n]) e2) else .ok (ring, e)
def ringEnd (cs : List Nat) (e : Nat) (r : List Nat) : Rd (List Nat × Nat) := match behindR cs e 41 with
  | .error j => .error j
  | .ok e3 => .ok (r, e3)
def ringR (cs : List Nat) (i : Nat) : Rd (List Nat × Nat) := match behindR cs i 40 with
  | .error j => .error j
  | .ok s => match plainR cs s with
    | .error j => .error j
    | .ok (n, e) => match ringGo cs cs.length [n] e with
      | .error j => .error j
      | .ok (r, e2) => ringEnd cs e2 r
theorem isAt_lt {cs : List Nat} {i c : Nat} (h : isAt cs i c = true) : i < cs.length := by
  obtain ⟨lt, _⟩ := List.getElem?_eq_some_iff.mp (of_decide_eq_true h)
  exact lt
theorem ringGo_end {cs : List Nat} {f : Nat} {ring : List Nat} {e : Nat} (h : ¬ ring.length < 2) (h2 : isAt cs e 32 = false) : ringGo cs f ring e = .ok (ring, e) := by
  cases f with
  | zero => exact if_neg h
  | succ f => exact if_neg (by rw [h2]; simp; omega)
theorem ringGo_no {cs : List Nat} {f : Nat} {ring : List Nat} {e : Nat} (h : ring.length < 2) (h2 : isAt cs e 32 = false) : ringGo cs f ring e = .error e := by
  cases f with
  | zero => exact if_pos h
  | succ f =>
    show (if _ then _ else _) = _
    rw [if_pos (.inl h), behind_no h2]
theorem ringGo_step {cs : List Nat} {f : Nat} {ring : List Nat} {e : Nat} (h2 : isAt cs e 32 = true) : ringGo cs (f + 1) ring e = (match plainR cs (e + 1) with
        | .error j => .error j
        | .ok (n, e2) => ringGo cs f (ring ++ [n]) e2) := by
  show (if _ then _ else _) = _
  rw [if_pos (.inr h2), behind_ok h2]
theorem plainR_le {cs : List Nat} {i n e : Nat} (h : plainR cs i = .ok (n, e)) : i < e ∧ e ≤ cs.length := by
  unfold plainR at h
  split at h
  case isFalse => cases h
  rename_i d
  injection h with h
  injection h with h1 h2
  rw [← h2]
  have g := (endP_le cs i).1
  refine ⟨g, ?_⟩
  obtain ⟨c, hc, _⟩ := dg_lt (endP_dg d (endP cs i - 1) (by omega) (by omega))
  obtain ⟨lt, _⟩ := List.getElem?_eq_some_iff.mp hc
  omega
theorem cds_len (z : Str) : z.length = (cds z).length := (Array.length_toList).symm
def spRing (K : PySem.W.Frag) : Sp := fun vs H Q E => ∃ (z : Str) (i : Nat), vs = [.str z, .int (i : Int)] ∧ z.length ≤ 4000 ∧
  rRes K H E (ringR (cds z) i) fun r => ∀ H' t u, Same H H' → SqT K H' t (mv r.1) → H' u = some (.tup [.ref t, .int (r.2 : Nat)]) → Q (.ref u) H'
theorem scReadRing : FnScope ["text", "at", "place", "end", "ring"] ["text", "at"] (defScope sReadRing) :=
  ⟨rfl, rfl, rfl, by decide +kernel, rfl, by decide +kernel, by decide +kernel⟩
theorem bReadRing (T : Tx K mg) (Y : Ex K mg) (DIsAt : Def P w K mg base CX0 1 "_is_at" ["text", "at", "sign"] spIsAt) (BReadPlain : Def P w K mg base (L2.CX P w) 3 "_read_plain" ["text", "at"] (spPlain K)) (BBehind : Def P w K mg base (L2.CX P w) 3 "_behind" ["text", "at", "sign"] (spBehind K)) : Def P w K mg base (L2.CX P w) 4 "_read_ring" ["text", "at"] (spRing K) := by
  refine T.t_read_ring.defX (N := ["text", "at", "place", "end", "ring"]) scReadRing (fun _ _ _ _ _ _ us hl => match us, hl with | [_, _], _ => rfl) ?_ ?_
  · intro vs H Q E h
    obtain ⟨z, i, rfl, _⟩ := h
    rfl
  · intro f cd A out s H vs Q E hr h
    have hr1 : Rm 1 _ := hr.le (by decide)
    have hr2 : Rm 3 _ := hr.le (by decide)
    have tk : Takes (cxOf (L2.CX P w) P w K mg base ["text", "at", "place", "end", "ring"] "_read_ring" (defScope sReadRing) f cd A out s H E) (fun cls d _ H1 => E cls d H1) := takes_of rfl rfl rfl rfl
    obtain ⟨z, i, rfl, hz, q⟩ := h
    refine ⟨_, (pss_cons (ps_asg (ME.pe_dS BReadPlain (hr2.le (by decide)) (passAt tk) (pa_cons (pv 0) (pa_cons (ME.pe_dS BBehind (hr2.le (by decide)) (passAt tk) (pa_cons (pv 0) (pa_cons (pv 1) (pa_cons pe_str pa_nil)))) pa_nil))) (pg_tup rfl (pgs_cons (pg_name (i := 2) scReadRing.nd rfl (Or.inl rfl)) (pgs_cons (pg_name (i := 3) scReadRing.nd rfl (Or.inl rfl)) pgs_nil))))
      (pss_cons (ps_set (i := 4) scReadRing.nd rfl (Or.inl rfl) (pe_lst (pa_cons (pv 2) pa_nil)))
      (pss_cons (ps_while (passes_of rfl) (PW.pt (pw_or (pt_cmpR op_lt (pe_callB call_len_seq rfl T.f_len (by decide +kernel) (pa_cons (pv 4) pa_nil)) pe_int (nomark _)) (pw_or1 (pt_val (pe_d DIsAt (hr1.le (by decide)) pass0 (pa_cons (pv 0) (pa_cons (pv 3) (pa_cons pe_str pa_nil))))))))
        (pss_cons (ps_asg (ME.pe_dS BReadPlain (hr2.le (by decide)) (passAt tk) (pa_cons (pv 0) (pa_cons (ME.pe_dS BBehind (hr2.le (by decide)) (passAt tk) (pa_cons (pv 0) (pa_cons (pv 3) (pa_cons pe_str pa_nil)))) pa_nil))) (pg_tup rfl (pgs_cons (pg_name (i := 2) scReadRing.nd rfl (Or.inl rfl)) (pgs_cons (pg_name (i := 3) scReadRing.nd rfl (Or.inl rfl)) pgs_nil))))
        (pss_one (ps_expr (pe_bm PySem.F.plainAttrs_list PySem.F.slot_list_append PySem.F.type_list_append mt_append (pv 4) (pa_cons (pv 2) pa_nil))))))
      (pss_one (ps_ret (pe_tup (pa_cons (pe_callTy call_tuple_of rfl T.f_tuple (by decide +kernel) (pa_cons (pv 4) pa_nil)) (pa_cons (ME.pe_dS BBehind (hr2.le (by decide)) (passAt tk) (pa_cons (pv 0) (pa_cons (pv 3) (pa_cons pe_str pa_nil)))) pa_nil)))))))), ?_⟩
    have hl := cds_len z
    unfold ringR at q
    refine ⟨_, rfl, _, rfl, _, rfl, z, i, 40, rfl, hz, fun b => ?_, fun b => ?_⟩
    · rw [behind_no b] at q
      exact q
    rw [behind_ok b] at q
    dsimp only at q
    have i0 := isAt_lt b
    unfold plainR at q
    refine ⟨z, i + 1, rfl, hz, fun b2 => ?_, fun b2 H1 t s1 ht => ?_⟩
    · rw [b2, if_neg (by decide)] at q
      exact q
    have pp : plainR (cds z) (i + 1) = .ok (valP (cds z) (i + 1), endP (cds z) (i + 1)) := by
      unfold plainR
      exact if_pos b2
    obtain ⟨e1, e2⟩ := plainR_le pp
    rw [b2, if_pos rfl] at q
    dsimp only at q
    generalize valP (cds z) (i + 1) = n0 at q ht
    generalize endP (cds z) (i + 1) = e at q ht e1 e2
    refine ⟨t, _, rfl, .inl (.inl ht), rfl, _, _, rfl, ?_⟩
    refine ⟨_, _, rfl, rfl, ?_⟩
    refine ⟨_, rfl, by show 1 ≤ sizeLine; decide, fun l fl => ?_⟩
    have sl := s1.trans (same_new fl (o := .lst [.int n0]))
    have el : (upd H1 l (.lst [.int n0])) l = some (.lst (mv [n0])) := upd_same
    have l0 : H l = none := s1.free fl
    generalize upd H1 l _ = H2 at sl el ⊢
    generalize hR : ringGo (cds z) (cds z).length [n0] e = R at q
    refine while_by (fun σ H3 => ∃ (nn : Int) (row : List Nat) (e f : Nat), σ = [some (.str z), some (.int (i : Int)), some (.int nn), some (.int (e : Int)), some (.ref l)] ∧ Same H H3 ∧ H3 l = some (.lst (mv row)) ∧
        ringGo (cds z) f row e = R ∧ (cds z).length < f + e ∧ row.length ≤ e ∧ e ≤ (cds z).length)
      (fun σ _ => match σ with | [_, _, _, some (.int e), _] => ((cds z).length - e).toNat | _ => 0) ?_ ?_ ?_
    · exact ⟨n0, [n0], e, (cds z).length, rfl, sl, el, hR, by omega, by show 1 ≤ e; omega, e2⟩
    · rintro σ H3 ⟨nn, row, e', f, rfl, s3, h3, gR, fl, rl, el⟩
      have fin : isAt (cds z) e' 32 = false → ¬ row.length < 2 → (∃ e3, isAt (cds z) e' 41 = true ∧ e3 = e' + 1 ∧ (∀ H' t u, Same H H' → SqT K H' t (mv row) → H' u = some (.tup [.ref t, .int (e3 : Nat)]) → Q (.ref u) H')) ∨ (isAt (cds z) e' 41 = false ∧ rPar K H e' E) := by
        intro n32 nl
        rw [ringGo_end nl n32] at gR
        rw [← gR] at q
        replace q : rRes K H E (ringEnd (cds z) e' row) fun r => ∀ H' t u, Same H H' → SqT K H' t (mv r.1) → H' u = some (.tup [.ref t, .int (r.2 : Nat)]) → Q (.ref u) H' := q
        unfold ringEnd behindR at q
        cases b9 : isAt (cds z) e' 41 with
        | true =>
          rw [b9, if_pos rfl] at q
          exact .inl ⟨e' + 1, rfl, rfl, q⟩
        | false =>
          rw [b9, if_neg (by decide)] at q
          exact .inr ⟨rfl, q⟩
      have go : isAt (cds z) e' 32 = true → ∃ f', f = f' + 1 ∧ (match plainR (cds z) (e' + 1) with
        | .error j => .error j
        | .ok (n, e2) => ringGo (cds z) f' (row ++ [n]) e2) = R := by
        intro y32
        obtain ⟨f', rfl⟩ : ∃ f', f = f' + 1 := ⟨f - 1, by omega⟩
        rw [ringGo_step y32] at gR
        exact ⟨f', rfl, gR⟩
      have room : (mv row).length < sizeLine := by
        rw [mv_len, sizeLine_eq]
        omega
      refine ⟨_, rfl, l, _, rfl, .inl (.inl (.inl h3)), _, _, rfl, rfl, _, rfl, ?_⟩
      by_cases c2 : row.length < 2
      · refine ifT (decide_eq_true (by rw [mv_len]; omega)) ?_
        refine ifT rfl ?_
        refine ⟨_, rfl, _, rfl, _, rfl, z, e', 32, rfl, hz, fun b3 => ?_, fun b3 => ?_⟩
        · rw [ringGo_no c2 b3] at gR
          rw [← gR] at q
          exact rPar.same q s3
        obtain ⟨f', ef, gS⟩ := go b3
        unfold plainR at gS
        refine ⟨z, e' + 1, rfl, hz, fun b4 => ?_, fun b4 H4 t4 s4 ht4 => ?_⟩
        · rw [b4, if_neg (by decide)] at gS
          rw [← gS] at q
          exact rPar.same q s3
        have p5 : plainR (cds z) (e' + 1) = .ok (valP (cds z) (e' + 1), endP (cds z) (e' + 1)) := by
          unfold plainR
          exact if_pos b4
        obtain ⟨g1, g2⟩ := plainR_le p5
        rw [b4, if_pos rfl] at gS
        dsimp only at gS
        generalize valP (cds z) (e' + 1) = n1 at gS ht4
        generalize endP (cds z) (e' + 1) = e5 at gS ht4 g1 g2
        have h4 := s4 _ _ h3
        refine ⟨t4, _, rfl, .inl (.inl ht4), rfl, _, _, rfl, ?_⟩
        refine ⟨_, _, rfl, rfl, ?_⟩
        refine ⟨_, rfl, .inl ⟨rfl, _, .inl (.inl h4)⟩, _, rfl, l, _, _, rfl, rfl, h4, room, ?_⟩
        refine ⟨⟨n1, row ++ [n1], e5, f', rfl, ?_, ?_, gS, by omega, by rw [List.length_append]; show row.length + 1 ≤ e5; omega, g2⟩, ?_⟩
        · intro b o hb
          rw [upd_ne (ne_of_none hb l0)]
          exact s4 _ _ (s3 _ _ hb)
        · rw [upd_same, mv_app]
          rfl
        · show (((cds z).length : Int) - (e5 : Int)).toNat < (((cds z).length : Int) - (e' : Int)).toNat
          omega
      · refine ifF (decide_eq_false (by rw [mv_len]; omega)) ?_
        refine ⟨_, rfl, _, rfl, z, e', 32, rfl, hz, ?_⟩
        refine ⟨_, rfl, ?_⟩
        cases y32 : isAt (cds z) e' 32 with
        | true =>
          refine ifT rfl ?_
          refine ⟨_, rfl, _, rfl, _, rfl, z, e', 32, rfl, hz, fun b3 => ?_, fun b3 => ?_⟩
          · exact absurd (b3.symm.trans y32) (by decide)
          obtain ⟨f', ef, gS⟩ := go b3
          unfold plainR at gS
          refine ⟨z, e' + 1, rfl, hz, fun b4 => ?_, fun b4 H4 t4 s4 ht4 => ?_⟩
          · rw [b4, if_neg (by decide)] at gS
            rw [← gS] at q
            exact rPar.same q s3
          have p5 : plainR (cds z) (e' + 1) = .ok (valP (cds z) (e' + 1), endP (cds z) (e' + 1)) := by
            unfold plainR
            exact if_pos b4
          obtain ⟨g1, g2⟩ := plainR_le p5
          rw [b4, if_pos rfl] at gS
          dsimp only at gS
          generalize valP (cds z) (e' + 1) = n1 at gS ht4
          generalize endP (cds z) (e' + 1) = e5 at gS ht4 g1 g2
          have h4 := s4 _ _ h3
          refine ⟨t4, _, rfl, .inl (.inl ht4), rfl, _, _, rfl, ?_⟩
          refine ⟨_, _, rfl, rfl, ?_⟩
          refine ⟨_, rfl, .inl ⟨rfl, _, .inl (.inl h4)⟩, _, rfl, l, _, _, rfl, rfl, h4, room, ?_⟩
          refine ⟨⟨n1, row ++ [n1], e5, f', rfl, ?_, ?_, gS, by omega, by rw [List.length_append]; show row.length + 1 ≤ e5; omega, g2⟩, ?_⟩
          · intro b o hb
            rw [upd_ne (ne_of_none hb l0)]
            exact s4 _ _ (s3 _ _ hb)
          · rw [upd_same, mv_app]
            rfl
          · show (((cds z).length : Int) - (e5 : Int)).toNat < (((cds z).length : Int) - (e' : Int)).toNat
            omega
        | false =>
          refine ifF rfl ?_
          refine ⟨_, rfl, l, _, rfl, .inl ⟨.inl (.inl h3), fun t ft => ?_⟩⟩
          have s6 := s3.trans (same_new ft (o := .tup (mv row)))
          refine ⟨_, rfl, _, rfl, z, e', 41, rfl, hz, fun b9 => ?_, fun b9 => ?_⟩
          · rcases fin y32 c2 with ⟨e3, y9, _⟩ | ⟨_, qq⟩
            · exact absurd (b9.symm.trans y9) (by decide)
            · exact rPar.same qq s6
          · rcases fin y32 c2 with ⟨e3, y9, e9, qq⟩ | ⟨n9, _⟩
            · rw [e9] at qq
              refine ⟨by show 2 ≤ sizeLine; decide, fun u fu => qq _ t u (s6.trans (same_new fu)) (same_sqt (same_new fu) (.inl (.inl upd_same))) upd_same⟩
            · exact absurd (b9.symm.trans n9) (by decide)
    · rintro σ H2 Q1 Q2 mono ⟨x1, h1, p, ys, e0, hs, i1, j1, r1, r2, c, hc, h3⟩
      refine ⟨x1, h1, p, ys, e0, hs, i1, j1, r1, r2, c, hc, ?_⟩
      cases c with
      | true => exact mono _ _ h3
      | false =>
        obtain ⟨y1, g1, y2, g2, z', i', c', ez, hz', c2, hc2, h4⟩ := h3
        exact ⟨y1, g1, y2, g2, z', i', c', ez, hz', c2, hc2, mono _ _ h4⟩
end
end K84


set_option Elab.async false
set_option linter.all false
set_option maxRecDepth 100000
set_option maxHeartbeats 2000000
namespace K84
open PySem PySem.Spec PyProof.Rows L2 MM PySem.NumText
/-! own words for the readings: a step, its side -/
local macro_rules | `(tactic| walk_at "side") => `(tactic| first
  | omega
  | exact ⟨by omega, by omega⟩
  | exact Or.inl ⟨by omega, by omega⟩
  | exact Or.inr ⟨by omega, by omega⟩
  | (show CPw _ _; decide +kernel)
  | (show (0 : Int) < _; decide +kernel)
  | (show CDivW _ _; first | assumption | exact ⟨by decide, by decide +kernel⟩))
local macro_rules | `(tactic| walk_at "here") => `(tactic| first
  | assumption
  | exact upd_same
  | exact Or.inl (Or.inl upd_same)
  | exact Or.inl upd_same)
local macro_rules | `(tactic| walk_at "one") => `(tactic| first
  | refine ⟨_, rfl, ?_⟩
  | refine Or.inl ⟨_, rfl, ?_⟩
  | refine Or.inr ⟨_, rfl, ?_⟩
  | refine ⟨_, _, rfl, rfl, (by walk_at "side"), ?_⟩
  | refine ⟨_, _, rfl, rfl, ?_⟩
  | refine ⟨_, _, rfl, Or.inl (by walk_at "here"), ?_⟩
  | refine ⟨_, _, rfl, Or.inr (by walk_at "here"), ?_⟩
  | refine ⟨_, _, rfl, (by walk_at "here"), ?_⟩
  | refine ⟨_, _, _, _, rfl, rfl, (by walk_at "here"), rfl, ?_⟩
  | refine ⟨_, _, rfl, ?_⟩
  | refine ifT (by rfl) ?_
  | refine ifF (by rfl) ?_
  | refine ifT (decide_eq_true (by omega)) ?_
  | refine ifF (decide_eq_false (by omega)) ?_)
local macro_rules | `(tactic| walk_at "st") => `(tactic| repeat (walk_at "one"))

section
variable {P : Program} {w : World} {K : PySem.W.Frag} {mg : Str → Option Value} {base : Heap}
/-- more rings -/
def ringsGo (cs : List Nat) : Nat → List (List Nat) → Nat → Rd (List (List Nat) × Nat)
  | 0, rs, e => .ok (rs, e)
  | f + 1, rs, e => if isAt cs e 40 = true then (match ringR cs e with
      | .error j => .error j
      | .ok (r, e2) => ringsGo cs f (rs ++ [r]) e2) else .ok (rs, e)
def ringsR (cs : List Nat) (i : Nat) : Rd (List (List Nat) × Nat) := if isAt cs i 40 = true ∧ isAt cs (i + 1) 41 = true then .ok ([], i + 2) else match ringR cs i with
  | .error j => .error j
  | .ok (r, e) => ringsGo cs cs.length [r] e
theorem behindR_gt {cs : List Nat} {i c s : Nat} (h : behindR cs i c = .ok s) : s = i + 1 ∧ i < cs.length := by
  unfold behindR at h
  split at h
  · rename_i a
    injection h with h
    exact ⟨h.symm, isAt_lt a⟩
  · cases h
theorem ringGo_gt {cs : List Nat} : ∀ {f : Nat} {ring : List Nat} {e : Nat} {r : List Nat} {e2 : Nat}, ringGo cs f ring e = .ok (r, e2) → e ≤ cs.length →
    e2 ≤ cs.length ∧ 2 ≤ r.length ∧ r.length + e ≤ ring.length + e2 := by
  intro f
  induction f with
  | zero =>
    intro ring e r e2 h le
    replace h : (if ring.length < 2 then Except.error e else Except.ok (ring, e)) = (Except.ok (r, e2) : Rd (List Nat × Nat)) := h
    split at h
    · cases h
    · injection h with h
      injection h with h1 h2
      subst h1 h2
      exact ⟨le, by omega, Nat.le_refl _⟩
  | succ f ih =>
    intro ring e r e2 h le
    unfold ringGo at h
    split at h
    · split at h
      · cases h
      · rename_i s hs
        obtain ⟨rfl, lt⟩ := behindR_gt hs
        split at h
        · cases h
        · rename_i n e3 hp
          obtain ⟨g1, g2⟩ := plainR_le hp
          obtain ⟨a, b, c⟩ := ih h g2
          rw [List.length_append] at c
          replace c : r.length + e3 ≤ ring.length + 1 + e2 := c
          exact ⟨a, b, by omega⟩
    · rename_i no
      injection h with h
      injection h with h1 h2
      subst h1 h2
      exact ⟨le, by omega, Nat.le_refl _⟩
theorem ringR_gt {cs : List Nat} {i e : Nat} {r : List Nat} (h : ringR cs i = .ok (r, e)) : i + r.length < e ∧ 2 ≤ r.length ∧ e ≤ cs.length := by
  unfold ringR at h
  split at h
  · cases h
  · rename_i s hs
    obtain ⟨rfl, lt⟩ := behindR_gt hs
    split at h
    · cases h
    · rename_i n e1 hp
      obtain ⟨g1, g2⟩ := plainR_le hp
      split at h
      · cases h
      · rename_i r2 e2 hg
        obtain ⟨a, b, c⟩ := ringGo_gt hg g2
        unfold ringEnd at h
        split at h
        · cases h
        · rename_i e3 h3
          obtain ⟨rfl, l3⟩ := behindR_gt h3
          injection h with h
          injection h with h1 h2
          subst h1 h2
          replace c : r2.length + e1 ≤ 1 + e2 := c
          exact ⟨by omega, b, by omega⟩
theorem ringsGo_end {cs : List Nat} {f : Nat} {rs : List (List Nat)} {e : Nat} (h : isAt cs e 40 = false) : ringsGo cs f rs e = .ok (rs, e) := by
  cases f with
  | zero => rfl
  | succ f => exact if_neg (by rw [h]; decide)
theorem ringsGo_step {cs : List Nat} {f : Nat} {rs : List (List Nat)} {e : Nat} (h : isAt cs e 40 = true) : ringsGo cs (f + 1) rs e = (match ringR cs e with
      | .error j => .error j
      | .ok (r, e2) => ringsGo cs f (rs ++ [r]) e2) := if_pos h
theorem ringsGo_gt {cs : List Nat} : ∀ {f : Nat} {rs : List (List Nat)} {e : Nat} {R : List (List Nat)} {e2 : Nat}, ringsGo cs f rs e = .ok (R, e2) → e ≤ cs.length → (∀ r ∈ rs, 2 ≤ r.length) →
    e2 ≤ cs.length ∧ (∀ r ∈ R, 2 ≤ r.length) ∧ R.flatten.length + e ≤ rs.flatten.length + e2 := by
  intro f
  induction f with
  | zero =>
    intro rs e R e2 h le al
    replace h : Except.ok (rs, e) = (Except.ok (R, e2) : Rd (List (List Nat) × Nat)) := h
    injection h with h
    injection h with h1 h2
    subst h1 h2
    exact ⟨le, al, Nat.le_refl _⟩
  | succ f ih =>
    intro rs e R e2 h le al
    unfold ringsGo at h
    split at h
    · split at h
      · cases h
      · rename_i r e3 hr
        obtain ⟨g1, g2, g3⟩ := ringR_gt hr
        obtain ⟨a, b, c⟩ := ih h g3 (fun x hx => (List.mem_append.mp hx).elim (al x) fun z => by
          rw [List.mem_singleton.mp z]
          exact g2)
        rw [List.flatten_append, List.length_append] at c
        have e1 : [r].flatten.length = r.length := by simp
        rw [e1] at c
        exact ⟨a, b, by omega⟩
    · injection h with h
      injection h with h1 h2
      subst h1 h2
      exact ⟨le, al, Nat.le_refl _⟩
theorem ringsR_ok {cs : List Nat} {R : List (List Nat)} {e : Nat} (h : ringsR cs 0 = .ok (R, e)) : R.flatten.length ≤ cs.length ∧ (∀ r ∈ R, 2 ≤ r.length) ∧ e ≤ cs.length := by
  unfold ringsR at h
  split at h
  · rename_i c
    injection h with h
    injection h with h1 h2
    subst h1 h2
    have := isAt_lt c.2
    exact ⟨Nat.zero_le _, (fun r hr => by cases hr), by omega⟩
  · split at h
    · cases h
    · rename_i r e3 hr
      obtain ⟨g1, g2, g3⟩ := ringR_gt hr
      obtain ⟨a, b, c⟩ := ringsGo_gt h g3 (fun x hx => by
        rw [List.mem_singleton.mp hx]
        exact g2)
      have e1 : [r].flatten.length = r.length := by simp
      rw [e1] at c
      exact ⟨by omega, b, a⟩
theorem flat_rings {R : List (List Nat)} (h : ∀ r ∈ R, 2 ≤ r.length) : R.length ≤ R.flatten.length := by
  induction R with
  | nil => exact Nat.zero_le _
  | cons r t ih =>
    rw [List.flatten_cons, List.length_append, List.length_cons]
    have := ih fun x hx => h x (List.mem_cons_of_mem _ hx)
    have := h r List.mem_cons_self
    omega
def spRings (K : PySem.W.Frag) : Sp := fun vs H Q E => ∃ (z : Str) (i : Nat), vs = [.str z, .int (i : Int)] ∧ z.length ≤ 4000 ∧
  rRes K H E (ringsR (cds z) i) fun r => ∀ H' t us u, Same H H' → SqT K H' t us → Refs K H' us r.1 → H' u = some (.tup [.ref t, .int (r.2 : Nat)]) → Q (.ref u) H'
theorem scReadRings : FnScope ["text", "at", "ring", "end", "rings"] ["text", "at"] (defScope sReadRings) :=
  ⟨rfl, rfl, rfl, by decide +kernel, rfl, by decide +kernel, by decide +kernel⟩
theorem bReadRings (T : Tx K mg) (Y : Ex K mg) (DIsAt : Def P w K mg base CX0 1 "_is_at" ["text", "at", "sign"] spIsAt) (BReadRing : Def P w K mg base (L2.CX P w) 4 "_read_ring" ["text", "at"] (spRing K)) : Def P w K mg base (L2.CX P w) 5 "_read_rings" ["text", "at"] (spRings K) := by
  refine T.t_read_rings.defX (N := ["text", "at", "ring", "end", "rings"]) scReadRings (fun _ _ _ _ _ _ us hl => match us, hl with | [_, _], _ => rfl) ?_ ?_
  · intro vs H Q E h
    obtain ⟨z, i, rfl, _⟩ := h
    rfl
  · intro f cd A out s H vs Q E hr h
    have hr1 : Rm 1 _ := hr.le (by decide)
    have hr2 : Rm 4 _ := hr.le (by decide)
    have tk : Takes (cxOf (L2.CX P w) P w K mg base ["text", "at", "ring", "end", "rings"] "_read_rings" (defScope sReadRings) f cd A out s H E) (fun cls d _ H1 => E cls d H1) := takes_of rfl rfl rfl rfl
    obtain ⟨z, i, rfl, hz, q⟩ := h
    refine ⟨_, (pss_cons (ps_if (PW.pt (pw_and (pt_val (pe_d DIsAt (hr1.le (by decide)) pass0 (pa_cons (pv 0) (pa_cons (pv 1) (pa_cons pe_str pa_nil))))) (pw_and1 (pt_val (pe_d DIsAt (hr1.le (by decide)) pass0 (pa_cons (pv 0) (pa_cons (pe_op op_add (pv 1) pe_int) (pa_cons pe_str pa_nil)))))))) (pss_one (ps_ret (pe_tup (pa_cons (pe_tup pa_nil) (pa_cons (pe_op op_add (pv 1) pe_int) pa_nil))))) pss_nil)
      (pss_cons (ps_asg (ME.pe_dS BReadRing (hr2.le (by decide)) (passAt tk) (pa_cons (pv 0) (pa_cons (pv 1) pa_nil))) (pg_tup rfl (pgs_cons (pg_name (i := 2) scReadRings.nd rfl (Or.inl rfl)) (pgs_cons (pg_name (i := 3) scReadRings.nd rfl (Or.inl rfl)) pgs_nil))))
      (pss_cons (ps_set (i := 4) scReadRings.nd rfl (Or.inl rfl) (pe_lst (pa_cons (pv 2) pa_nil)))
      (pss_cons (ps_while (passes_of rfl) (pt_val (pe_d DIsAt (hr1.le (by decide)) pass0 (pa_cons (pv 0) (pa_cons (pv 3) (pa_cons pe_str pa_nil)))))
        (pss_cons (ps_asg (ME.pe_dS BReadRing (hr2.le (by decide)) (passAt tk) (pa_cons (pv 0) (pa_cons (pv 3) pa_nil))) (pg_tup rfl (pgs_cons (pg_name (i := 2) scReadRings.nd rfl (Or.inl rfl)) (pgs_cons (pg_name (i := 3) scReadRings.nd rfl (Or.inl rfl)) pgs_nil))))
        (pss_one (ps_expr (pe_bm PySem.F.plainAttrs_list PySem.F.slot_list_append PySem.F.type_list_append mt_append (pv 4) (pa_cons (pv 2) pa_nil))))))
      (pss_one (ps_ret (pe_tup (pa_cons (pe_callTy call_tuple_of rfl T.f_tuple (by decide +kernel) (pa_cons (pv 4) pa_nil)) (pa_cons (pv 3) pa_nil))))))))), ?_⟩
    have hl := cds_len z
    unfold ringsR at q
    refine ⟨_, rfl, _, rfl, z, i, 40, rfl, hz, ?_⟩
    refine ⟨_, rfl, ?_⟩
    cases b1 : isAt (cds z) i 40
    case' false =>
      refine ifF rfl ?_
      refine ifF rfl ?_
      rw [if_neg (fun c => absurd (b1.symm.trans c.1) (by decide))] at q
    case' true =>
      refine ifT rfl ?_
      refine ⟨_, rfl, _, rfl, _, _, rfl, rfl, z, i + 1, 41, rfl, hz, ?_⟩
      refine ⟨_, rfl, ?_⟩
      cases b2 : isAt (cds z) (i + 1) 41
      case' true =>
        refine ifT rfl ?_
        rw [if_pos ⟨b1, b2⟩] at q
        refine ⟨by show 0 ≤ sizeLine; decide, fun t ft => ?_⟩
        refine ⟨_, rfl, _, _, rfl, rfl, by show 2 ≤ sizeLine; decide, fun u fu => ?_⟩
        exact q _ t [] u ((same_new ft).trans (same_new fu)) (same_sqt (same_new fu) (.inl (.inl upd_same))) .nil upd_same
      case' false =>
        refine ifF rfl ?_
        rw [if_neg (fun c => absurd (b2.symm.trans c.2) (by decide))] at q
    all_goals
      refine ⟨_, rfl, _, rfl, z, i, rfl, hz, ?_⟩
      cases er : ringR (cds z) i
      case' error j =>
        rw [er] at q
        exact q
      rename_i r0
      obtain ⟨r0, e0⟩ := r0
      rw [er] at q
      replace q : rRes K H E (ringsGo (cds z) (cds z).length [r0] e0) fun r => ∀ H' t us u, Same H H' → SqT K H' t us → Refs K H' us r.1 → H' u = some (.tup [.ref t, .int (r.2 : Nat)]) → Q (.ref u) H' := q
      obtain ⟨g1, g2, g3⟩ := ringR_gt er
      intro H1 t u s1 ht hu
      refine ⟨u, _, rfl, .inl (.inl hu), rfl, _, _, rfl, ?_⟩
      refine ⟨_, _, rfl, rfl, ?_⟩
      refine ⟨_, rfl, by show 1 ≤ sizeLine; decide, fun l fl => ?_⟩
      have sl := s1.trans (same_new fl (o := .lst [.ref t]))
      have el : (upd H1 l (.lst [.ref t])) l = some (.lst [.ref t]) := upd_same
      have pl : Refs K (upd H1 l (.lst [.ref t])) [.ref t] [r0] := .cons ⟨t, rfl, same_sqt (same_new fl) ht⟩ .nil
      have l0 : H l = none := s1.free fl
      generalize upd H1 l _ = H2 at sl el pl ⊢
      generalize hR : ringsGo (cds z) (cds z).length [r0] e0 = R at q
      refine while_by (fun σ H3 => ∃ (rg : V) (us : List V) (rs : List (List Nat)) (e f : Nat), σ = [some (.str z), some (.int (i : Int)), some rg, some (.int (e : Int)), some (.ref l)] ∧ Same H H3 ∧ H3 l = some (.lst us) ∧ Refs K H3 us rs ∧
          ringsGo (cds z) f rs e = R ∧ (cds z).length < f + e ∧ us.length ≤ e ∧ e ≤ (cds z).length)
        (fun σ _ => match σ with | [_, _, _, some (.int e), _] => ((cds z).length - e).toNat | _ => 0) ?_ ?_ ?_
      · exact ⟨_, [.ref t], [r0], e0, (cds z).length, rfl, sl, el, pl, hR, by omega, by show 1 ≤ e0; omega, g3⟩
      · rintro σ H3 ⟨rg, us, rs, e', f, rfl, s3, h3, p3, gR, fl3, rl3, el3⟩
        refine ⟨_, rfl, _, rfl, z, e', 40, rfl, hz, ?_⟩
        refine ⟨_, rfl, ?_⟩
        cases y : isAt (cds z) e' 40 with
        | true =>
          refine ifT rfl ?_
          obtain ⟨f', rfl⟩ : ∃ f', f = f' + 1 := ⟨f - 1, by have := isAt_lt y; omega⟩
          rw [ringsGo_step y] at gR
          refine ⟨_, rfl, _, rfl, z, e', rfl, hz, ?_⟩
          cases er2 : ringR (cds z) e' with
          | error j =>
            rw [er2] at gR
            rw [← gR] at q
            exact rPar.same q s3
          | ok r2 =>
            obtain ⟨r2, e2⟩ := r2
            rw [er2] at gR
            replace gR : ringsGo (cds z) f' (rs ++ [r2]) e2 = R := gR
            obtain ⟨k1, k2, k3⟩ := ringR_gt er2
            intro H4 t4 u4 s4 ht4 hu4
            have h4 := s4 _ _ h3
            refine ⟨u4, _, rfl, .inl (.inl hu4), rfl, _, _, rfl, ?_⟩
            refine ⟨_, _, rfl, rfl, ?_⟩
            refine ⟨_, rfl, .inl ⟨rfl, _, .inl (.inl h4)⟩, _, rfl, l, _, _, rfl, rfl, h4, by rw [sizeLine_eq]; omega, ?_⟩
            refine ⟨⟨_, us ++ [.ref t4], rs ++ [r2], e2, f', rfl, ?_, upd_same, ((p3.same s4).snoc ht4).upd h4, gR, by omega, by rw [List.length_append]; show us.length + 1 ≤ e2; omega, k3⟩, ?_⟩
            · intro b o hb
              rw [upd_ne (ne_of_none hb l0)]
              exact s4 _ _ (s3 _ _ hb)
            · show (((cds z).length : Int) - (e2 : Int)).toNat < (((cds z).length : Int) - (e' : Int)).toNat
              omega
        | false =>
          refine ifF rfl ?_
          rw [ringsGo_end y] at gR
          rw [← gR] at q
          refine ⟨_, rfl, l, _, rfl, .inl ⟨.inl (.inl h3), fun t5 f5 => ?_⟩⟩
          refine ⟨_, rfl, by show 2 ≤ sizeLine; decide, fun u5 f6 => ?_⟩
          exact q _ t5 us u5 ((s3.trans (same_new f5)).trans (same_new f6)) (same_sqt (same_new f6) (.inl (.inl upd_same))) ((p3.same (same_new f5)).same (same_new f6)) upd_same
      · rintro σ H2 Q1 Q2 mono ⟨y1, g1, y2, g2, z', i', c', ez, hz', c2, hc2, h4⟩
        exact ⟨y1, g1, y2, g2, z', i', c', ez, hz', c2, hc2, mono _ _ h4⟩
end
end K84


set_option Elab.async false
set_option linter.all false
set_option maxRecDepth 100000
set_option maxHeartbeats 2000000
/-! set(t) of a tuple of ints; its length -/
namespace MM
open PySem PySem.Spec PyProof.Rows L2
theorem count_keys {ks ns : List Int} (nk : ks.Nodup) (mem : ∀ k, k ∈ ns ↔ k ∈ ks) : ks.length = ns.length ↔ ns.Nodup := by
  constructor
  · intro e
    by_cases h : ns.Nodup
    · exact h
    · exfalso
      rw [List.nodup_iff_count] at h
      obtain ⟨a, ha⟩ := Classical.not_forall.mp h
      have am : a ∈ ns := List.count_pos_iff.mp (by omega)
      have sub : ks ⊆ ns.erase a := by
        intro b hb
        by_cases z : b = a
        · subst z
          refine List.count_pos_iff.mp ?_
          rw [List.count_erase_self]
          omega
        · exact (List.mem_erase_of_ne z).mpr ((mem b).mpr hb)
      have le := List.Nodup.length_le_of_subset nk sub
      rw [List.length_erase_of_mem am] at le
      have pos : 0 < ns.length := List.length_pos_of_mem am
      omega
  · intro nn
    exact ((List.perm_ext_iff_of_nodup nk nn).mpr fun a => (mem a).symm).length_eq
section
variable {X : Cx}
def rSetI (K : PySem.W.Frag) : List V → Hp → VK → Prop := fun xs H Q => ∃ (p : Addr) (ns : List Int), xs = [.ref p] ∧ SqT K H p (ns.map V.int) ∧ ns.length ≤ 1000 ∧
  ∀ t n, H t = none → (n = ns.length ↔ ns.Nodup) → n ≤ ns.length → Q (.ref t) (upd H t (.set (fun j => decide (j ∈ ns)) n))
theorem ints_of : ∀ {ns : List Int} {its : List Value}, Vals (ns.map V.int) its → IntsAre its ns
  | [], _, r => by
    cases r
    exact .nil
  | n :: _, _, r => by
    cases r with
    | cons h t =>
      obtain ⟨k, rfl⟩ := h
      exact .cons n k (ints_of t)
theorem cr_setI (hc : X.calm = true) : CallR X (.type "set") (rSetI X.K) := by
  intro pins s σ H xs us Q I r h
  obtain ⟨p, ns, rfl, hp, hl, q⟩ := h
  obtain ⟨u, rfl, ru⟩ := vals1 r
  cases ru
  obtain ⟨its, rv, ht, hz⟩ := I.tuple hp
  have pt : s.heap.IsTuple p its.toArray := ht
  refine call_set_tupI (P := X.prog) ns (I.ok.hd hc) pt (by simpa using ints_of rv) (by show ns.length + 1 < 4096; omega) fun h' tk c R le keep => ?_
  have cnt : c = ns.length ↔ ns.Nodup := by
    obtain ⟨o, es, ep, t, ho, hx, hd, g, nd, hm, hb, hf, hn, _⟩ := R
    rw [← hn]
    have := count_keys (ks := es.toList.map keyOf) (ns := ns) nd fun k => by
      rw [← hm k]
      exact decide_eq_true_iff.symm
    rw [List.length_map, Array.length_toList] at this
    exact this
  refine ⟨.ref _, _, I.laid (t' := tk) (o := .set (fun j => decide (j ∈ ns)) c) keep (Nat.le_refl _) ?_, rfl, q _ c (I.hok.fresh (Nat.le_refl _)) cnt le⟩
  exact R.setOf
theorem cr_lenSet : CallR X (.builtin "len") (fun xs H Q => ∃ a S n, xs = [V.ref a] ∧ H a = some (.set S n) ∧ Q (.int (n : Nat)) H) := by
  intro pins s σ H xs us Q I r h
  obtain ⟨a, S, n, rfl, ha, q⟩ := h
  obtain ⟨u, rfl, ru⟩ := vals1 r
  cases ru
  obtain ⟨o, es, ep, t, ho, hx, hd, _, _, hb, hf, hn⟩ := (show s.heap.SetOf (intKind X.prog X.w) a S n from I.hok a _ ha)
  subst hn
  have small : es.size < 4096 := hb
  exact PySem.call_len_set ho hx hd hf (by omega) ⟨.int _, H, I.tok _, ⟨_, rfl⟩, q⟩
def rLenK (K : PySem.W.Frag) : List V → Hp → VK → Prop := fun xs H Q => ∃ p ys, xs = [.ref p] ∧ (SqL K H p ys ∨ SqT K H p ys) ∧ Q (.int ys.length) H
theorem cr_lenK {K : PySem.W.Frag} (e : X.K = K) : CallR X (.builtin "len") (rLenK K) := by
  subst e
  exact call_len_seq
end
end MM

set_option Elab.async false
set_option linter.all false
set_option maxRecDepth 100000
set_option maxHeartbeats 2000000
/-! set(l) of a list of ints -/
namespace MM
open PySem PySem.Spec PyProof.Rows L2
theorem firstMet_nodup (val : Nat → Int) : ∀ i, (firstMet val i).Nodup
  | 0 => by
    rw [firstMet_zero]
    exact List.nodup_nil
  | i + 1 => by
    have ih := firstMet_nodup val i
    rw [firstMet_succ]
    unfold step_dedup
    split
    · exact ih
    · rename_i h
      rw [List.nodup_append]
      refine ⟨ih, by simp, fun a ha b hb z => h ?_⟩
      rw [List.mem_singleton] at hb
      subst hb z
      exact List.any_eq_true.mpr ⟨_, ha, beq_self_eq_true _⟩
theorem map_getD (ns : List Int) : (List.range ns.length).map (fun i => ns.getD i 0) = ns := by
  refine List.ext_getElem (by simp) fun i h1 h2 => ?_
  rw [List.getElem_map, List.getElem_range, List.getD, List.getElem?_eq_getElem h2]
  rfl
theorem any_mem (ns : List Int) (k : Int) : ns.any (· == k) = decide (k ∈ ns) := by
  rw [Bool.eq_iff_iff, List.any_eq_true, decide_eq_true_eq]
  exact ⟨fun ⟨x, hx, e⟩ => by rw [← beq_iff_eq.mp e]; exact hx, fun h => ⟨k, h, beq_self_eq_true _⟩⟩
def rSetL (K : PySem.W.Frag) : List V → Hp → VK → Prop := fun xs H Q => ∃ (p : Addr) (ns : List Int), xs = [.ref p] ∧ SqL K H p (ns.map V.int) ∧ ns.length ≤ 4000 ∧
  ∀ t n, H t = none → (n = ns.length ↔ ns.Nodup) → n ≤ ns.length → Q (.ref t) (upd H t (.set (fun j => decide (j ∈ ns)) n))
theorem cr_setL {X : Cx} (hc : X.calm = true) : CallR X (.type "set") (rSetL X.K) := by
  intro pins s σ H xs us Q I r h
  obtain ⟨p, ns, rfl, hp, hl, q⟩ := h
  obtain ⟨u, rfl, ru⟩ := vals1 r
  cases ru
  obtain ⟨its, rv, ht, hz⟩ := I.list hp
  have ia : IntsAre its ns := ints_of rv
  have sz : its.toArray.size = ns.length := by
    have := IntsAre.length ia
    simpa using this
  refine call_set_list (prog := X.prog) (ns := ns) (I.ok.hd hc) ht.isList (by simpa using ia) (by rw [sz]; show ns.length + 1 < 4096; omega) fun h' tk R keep => ?_
  rw [sz] at R
  have eS : (fun k' => (firstMet (fun i => ns.getD i 0) ns.length).any (· == k')) = fun j => decide (j ∈ ns) := by
    funext k
    rw [firstMet_any, map_getD, any_mem]
  have cnt : (firstMet (fun i => ns.getD i 0) ns.length).length = ns.length ↔ ns.Nodup := by
    refine count_keys (firstMet_nodup _ _) fun k => ?_
    have := congrFun eS k
    have this : (firstMet (fun i => ns.getD i 0) ns.length).any (· == k) = decide (k ∈ ns) := this
    rw [any_mem] at this
    exact (decide_eq_decide.mp this).symm
  rw [eS] at R
  refine ⟨.ref _, _, I.laid (t' := tk) (o := .set (fun j => decide (j ∈ ns)) (firstMet (fun i => ns.getD i 0) ns.length).length) (fun b o e => keep b o (Heap.lt_size e) e) (Nat.le_refl _) ?_, rfl,
    q _ _ (I.hok.fresh (Nat.le_refl _)) cnt (firstMet_length_le _ _)⟩
  exact R
theorem ite_mono {M X1 X2 Y1 Y2 : Prop} {b : Bool} (f : M → X1 → X2) (g : M → Y1 → Y2) : M → (if b = true then X1 else Y1) → if b = true then X2 else Y2 := by
  intro m h
  cases b with
  | true => exact f m h
  | false => exact g m h
theorem or_mono {M X1 X2 Y1 Y2 : Prop} (f : M → X1 → X2) (g : M → Y1 → Y2) : M → X1 ∨ Y1 → X2 ∨ Y2 := fun m h => h.imp (f m) (g m)
def rJn (K : PySem.W.Frag) : V → List V → Hp → VK → Prop := fun x xs H Q => ∃ a p, ∃ ys : List Str, x = .str a ∧ xs = [.ref p] ∧ (SqL K H p (ys.map V.str) ∨ SqT K H p (ys.map V.str)) ∧
  (ys.map (·.length)).sum + ys.length * a.length ≤ 16777216 ∧ Q (.str (Txt.join a ys)) H
end MM

set_option Elab.async false
set_option linter.all false
set_option maxRecDepth 100000
set_option maxHeartbeats 2000000
namespace K84
open PySem PySem.Spec PyProof.Rows L2 MM PySem.NumText
/-! own words for the readings: a step, its side -/
local macro_rules | `(tactic| walk_at "side") => `(tactic| first
  | omega
  | exact ⟨by omega, by omega⟩
  | exact Or.inl ⟨by omega, by omega⟩
  | exact Or.inr ⟨by omega, by omega⟩
  | (show CPw _ _; decide +kernel)
  | (show (0 : Int) < _; decide +kernel)
  | (show CDivW _ _; first | assumption | exact ⟨by decide, by decide +kernel⟩))
local macro_rules | `(tactic| walk_at "here") => `(tactic| first
  | assumption
  | exact upd_same
  | exact Or.inl (Or.inl upd_same)
  | exact Or.inl upd_same)
local macro_rules | `(tactic| walk_at "one") => `(tactic| first
  | refine ⟨_, rfl, ?_⟩
  | refine Or.inl ⟨_, rfl, ?_⟩
  | refine Or.inr ⟨_, rfl, ?_⟩
  | refine ⟨_, _, rfl, rfl, (by walk_at "side"), ?_⟩
  | refine ⟨_, _, rfl, rfl, ?_⟩
  | refine ⟨_, _, rfl, Or.inl (by walk_at "here"), ?_⟩
  | refine ⟨_, _, rfl, Or.inr (by walk_at "here"), ?_⟩
  | refine ⟨_, _, rfl, (by walk_at "here"), ?_⟩
  | refine ⟨_, _, _, _, rfl, rfl, (by walk_at "here"), rfl, ?_⟩
  | refine ⟨_, _, rfl, ?_⟩
  | refine ifT (by rfl) ?_
  | refine ifF (by rfl) ?_
  | refine ifT (decide_eq_true (by omega)) ?_
  | refine ifF (decide_eq_false (by omega)) ?_)
local macro_rules | `(tactic| walk_at "st") => `(tactic| repeat (walk_at "one"))

section
variable {P : Program} {w : World} {K : PySem.W.Frag} {mg : Str → Option Value} {base : Heap}
/-- the place that the rings put at x -/
def goOf (R : List (List Nat)) (x : Nat) : Nat := match R.find? (fun r => decide (x ∈ r)) with
  | some r => r.getD ((r.idxOf x + 1) % r.length) 0
  | none => x
theorem same_ring {R : List (List Nat)} (h : R.flatten.Nodup) {r r' : List Nat} {x : Nat} (hr : r ∈ R) (hr' : r' ∈ R) (hx : x ∈ r) (hx' : x ∈ r') : r = r' := by
  obtain ⟨i, hi, rfl⟩ := List.mem_iff_getElem.mp hr
  obtain ⟨j, hj, rfl⟩ := List.mem_iff_getElem.mp hr'
  have pw := List.pairwise_iff_getElem.mp (List.pairwise_flatten.mp h).2
  by_cases e : i = j
  · subst e
    rfl
  · exfalso
    rcases Nat.lt_or_gt_of_ne e with lt | lt
    · exact pw i j hi hj lt x hx x hx' rfl
    · exact pw j i hj hi lt x hx' x hx rfl
theorem goes_of {n : Nat} {R : List (List Nat)} (h : Rings n R) : Goes (goOf R) n R := by
  constructor
  · intro r hr j hj
    have ex : r.getD j 0 = r[j] := by rw [List.getD, List.getElem?_eq_getElem hj]; rfl
    have mx : r.getD j 0 ∈ r := by rw [ex]; exact List.getElem_mem hj
    have nd : r.Nodup := (List.pairwise_flatten.mp h.once).1 r hr
    unfold goOf
    cases ef : R.find? (fun r' => decide (r.getD j 0 ∈ r')) with
    | none =>
      have := List.find?_eq_none.mp ef r hr
      exact absurd (decide_eq_true mx) this
    | some r' =>
      have m' : r.getD j 0 ∈ r' := of_decide_eq_true (List.find?_some (p := fun r' => decide (r.getD j 0 ∈ r')) ef)
      have hr' := List.mem_of_find?_eq_some ef
      obtain rfl := same_ring h.once hr hr' mx m'
      have ei : r.idxOf (r.getD j 0) = j := by
        rw [ex]
        exact nd.idxOf_getElem j hj
      show r.getD ((r.idxOf (r.getD j 0) + 1) % r.length) 0 = _
      rw [ei]
  · intro x _ nx
    unfold goOf
    cases ef : R.find? (fun r' => decide (x ∈ r')) with
    | none => rfl
    | some r' => exact absurd (List.mem_flatten.mpr ⟨r', List.mem_of_find?_eq_some ef, of_decide_eq_true (List.find?_some (p := fun r' => decide (x ∈ r')) ef)⟩) nx
abbrev rMv (K : PySem.W.Frag) (H : Hp) (E : XK) : Prop := ∀ H', Same H H' → E (.ref (ga K "InvalidMove")) none H'
/-- the rings name places below n, each once -/
def okR (n : Nat) (R : List (List Nat)) : Prop := (∀ x ∈ R.flatten, x < n) ∧ R.flatten.Nodup
instance (n : Nat) (R : List (List Nat)) : Decidable (okR n R) := inferInstanceAs (Decidable (_ ∧ _))
def spMvOf (K : PySem.W.Frag) : Sp := fun vs H Q E => ∃ (n : Nat) (a : Addr) (us : List V) (R : List (List Nat)), vs = [.int (n : Int), .ref a] ∧ SqT K H a us ∧ Refs K H us R ∧ (∀ r ∈ R, 1 ≤ r.length) ∧ R.flatten.length ≤ 3000 ∧ 1 ≤ n ∧ n ≤ 24 ∧
  (¬ okR n R → rMv K H E) ∧ (okR n R → ∀ H' t, Same H H' → SqT K H' t (mv ((List.range n).map (goOf R))) → Q (.ref t) H')
theorem scMoveOf : FnScope ["places", "rings", "named", "ring", "place"] ["places", "rings"] (defScope sMoveOf) :=
  ⟨rfl, rfl, rfl, by decide +kernel, rfl, by decide +kernel, by decide +kernel⟩
theorem bMoveOf (T : Tx K mg) (Y : Ex K mg) (DMoveOfCycles : Def P w K mg base CX0 5 "move_of_cycles" ["places", "rings"] (spMoveOf K)) : Def P w K mg base (L2.CX P w) 6 "_move_of" ["places", "rings"] (spMvOf K) := by
  refine T.t_move_of.defX (N := ["places", "rings", "named", "ring", "place"]) scMoveOf (fun _ _ _ _ _ _ us hl => match us, hl with | [_, _], _ => rfl) ?_ ?_
  · intro vs H Q E h
    obtain ⟨n, a, us, R, rfl, _⟩ := h
    rfl
  · intro f cd A out s H vs Q E hr h
    have hr1 : Rm 5 _ := hr.le (by decide)
    have tk : Takes (cxOf (L2.CX P w) P w K mg base ["places", "rings", "named", "ring", "place"] "_move_of" (defScope sMoveOf) f cd A out s H E) (fun cls d _ H1 => E cls d H1) := takes_of rfl rfl rfl rfl
    obtain ⟨n, a, us, R, rfl, S, rf, r1, len, n1, n24, q1, q2⟩ := h
    refine ⟨_, (pss_cons (ps_setLc2 (i := 2) (own := [("ring", 3), ("place", 4)]) (vs1 := [4]) (g := gName 3) (tt := tYes) (g1 := gName 4) (tt1 := tYes) rfl scMoveOf.nd rfl rfl (sw_true rfl rfl rfl rfl) (pi_tup (pv 1)) (blkOk_by (N := ["places", "rings", "named", "ring", "place"]) (sc := defScope sMoveOf) (by decide +kernel)) (by decide) (fun _ _ _ _ _ => pg_name (i := 3) scMoveOf.nd rfl (Or.inl rfl)) (fun _ _ _ _ _ => pts_nil) (fun _ _ _ _ _ => (show PI _ _ _ (iTup K _) from pi_tup (pv 3))) (fun _ _ _ _ _ => pg_name (i := 4) scMoveOf.nd rfl (Or.inl rfl)) (fun _ _ _ _ _ => pts_nil) (fun _ _ _ _ _ => pv 4))
      (pss_cons (ps_if (PW.pt (pw_or (pt_not (pt_val (pe_callB (cr_all rfl) rfl T.f_all (by decide +kernel) (pa_cons (pe_lc (own := [("place", 4)]) (g := gName 4) (tt := tYes) rfl scMoveOf.nd (pi_list (pv 2)) (blkOk_by (N := ["places", "rings", "named", "ring", "place"]) (sc := defScope sMoveOf) (by decide +kernel)) (fun _ _ _ _ _ => pg_name (i := 4) scMoveOf.nd rfl (Or.inl rfl)) (fun _ _ _ _ _ => pts_nil) (fun _ _ _ _ _ => (pe_cmpR op_lt (pv 4) (pv 0) (nomark _)))) pa_nil)))) (pw_or1 (pt_cmpR op_ne (pe_callB cr_lenSet rfl T.f_len (by decide +kernel) (pa_cons (pe_callTy (cr_setL rfl) rfl T.f_set (by decide +kernel) (pa_cons (pv 2) pa_nil)) pa_nil)) (pe_callB call_len_seq rfl T.f_len (by decide +kernel) (pa_cons (pv 2) pa_nil)) (nomark _))))) (pss_one (ps_plain Y.mv rfl tk)) pss_nil)
      (pss_one (ps_ret (pe_d DMoveOfCycles (hr1.le (by decide)) pass0 (pa_cons (pv 0) (pa_cons (pv 1) pa_nil))))))), ?_⟩
    have wl : us.length = R.length := Paired.length rf
    refine ⟨_, rfl, a, rfl, ⟨_, S⟩, fun D nD => ?_⟩
    refine ⟨fun i m H4 => m = us.length - i ∧ i ≤ us.length ∧ H4 = upd H D (.lst (mv (R.take i).flatten)), ⟨_, rfl, Nat.zero_le _, rfl⟩, ?_⟩
    rintro i m H4 ⟨rfl, li, rfl⟩
    have S4 : SqT K (upd H D (.lst (mv (R.take i).flatten))) a us := sqt_new S nD
    by_cases lt : i < us.length
    · refine .inr ⟨⟨us, us[i], S4, by simp [lt]⟩, fun H5 => H5 = upd H D (.lst (mv (R.take (i + 1)).flatten)), fun H5 e => ⟨us.length - (i + 1), by omega, rfl, lt, e⟩, ?_⟩
      rintro x H5 ⟨rfl, yx⟩
      obtain ⟨r, t, hr, rfl, St⟩ := rf.get (yx us S4)
      refine ⟨rfl, ?_⟩
      refine ⟨_, rfl, t, rfl, ⟨_, sqt_new St nD⟩, ?_⟩
      refine ⟨fun j k H6 => k = (mv r).length - j ∧ j ≤ (mv r).length ∧ H6 = upd H D (.lst (mv ((R.take i).flatten ++ r.take j))), ⟨_, rfl, Nat.zero_le _, by rw [List.take_zero, List.append_nil]⟩, ?_⟩
      rintro j k H6 ⟨rfl, lj, rfl⟩
      have S6 : SqT K (upd H D (.lst (mv ((R.take i).flatten ++ r.take j)))) t (mv r) := sqt_new St nD
      by_cases lt2 : j < (mv r).length
      · refine .inr ⟨⟨mv r, (mv r)[j], S6, by simp [lt2]⟩, fun H7 => H7 = upd H D (.lst (mv ((R.take i).flatten ++ r.take (j + 1)))), fun H7 e => ⟨(mv r).length - (j + 1), by omega, rfl, lt2, e⟩, ?_⟩
        rintro x H7 ⟨rfl, yx2⟩
        obtain ⟨jr, rfl⟩ := mv_nth (yx2 _ S6)
        have ej : r[j]? = some (r.getD j 0) := by rw [List.getD, List.getElem?_eq_getElem jr]; rfl
        refine ⟨rfl, ?_⟩
        refine ⟨_, rfl, _, upd_same, ?_, ?_⟩
        · have e1 := Rings.flat hr ej
          have e2 : R.flatten.length = ((R.take i).flatten ++ r.take j).length + (1 + (r.drop (j + 1) ++ (R.drop (i + 1)).flatten).length) := by
            conv => lhs; rw [e1]
            rw [List.length_append, List.length_cons]
            omega
          rw [mv_len, sizeLine_eq]
          omega
        · show _ = _
          rw [upd_upd, List.take_add_one, ej, ← List.append_assoc, mv_app ((R.take i).flatten ++ r.take j)]
          rfl
      · refine .inl ⟨⟨_, S6, by omega⟩, ?_⟩
        show _ = _
        have etk : r.take j = r := List.take_of_length_le (by have := mv_len r; omega)
        have e3 : (R.take (i + 1)).flatten = (R.take i).flatten ++ r := by
          rw [List.take_add_one, hr, List.flatten_append]
          show _ ++ (r ++ []) = _
          rw [List.append_nil]
        rw [etk, e3]
    · refine .inl ⟨⟨_, S4, by omega⟩, ?_⟩
      rw [List.take_of_length_le (by omega : R.length ≤ i)]
      have s1 : Same H (upd H D (.lst (mv R.flatten))) := same_new nD
      have e1 : (upd H D (.lst (mv R.flatten))) D = some (.lst (mv R.flatten)) := upd_same
      generalize upd H D (.lst (mv R.flatten)) = H1 at s1 e1 ⊢
      have ef : mv R.flatten = (R.flatten.map fun k : Nat => (k : Int)).map V.int := by
        unfold mv
        rw [List.map_map]
        rfl
      refine ⟨_, rfl, D, rfl, ⟨_, .inl (.inl e1)⟩, fun D2 nD2 => ?_⟩
      refine lc_seq (fun x => match x with | .int i => .bl (decide (i < (n : Int))) | _ => .bl false) (.inl (.inl e1)) nD2 (by rw [mv_len, sizeLine_eq]; omega) ?_ ?_
      · intro x acc hx Q' q'
        obtain ⟨k, _, rfl⟩ := List.mem_map.mp hx
        exact ⟨_, rfl, _, rfl, _, _, rfl, rfl, q'⟩
      have s2 := s1.trans (same_new nD2 (o := .lst ((mv R.flatten).map fun x => match x with | .int i => .bl (decide (i < (n : Int))) | _ => .bl false)))
      have e2 := same_new nD2 (o := .lst ((mv R.flatten).map fun x => match x with | .int i => .bl (decide (i < (n : Int))) | _ => .bl false)) _ _ e1
      have e3 : (upd H1 D2 (.lst ((mv R.flatten).map fun x => match x with | .int i => .bl (decide (i < (n : Int))) | _ => .bl false))) D2 = _ := upd_same
      generalize upd H1 D2 _ = H2 at s2 e2 e3 ⊢
      refine ⟨D2, R.flatten.map fun (k : Nat) => decide ((k : Int) < (n : Int)), rfl, .inl (.inl (Eq.trans e3 ?_)), ?_⟩
      · congr 2
        unfold mv
        rw [List.map_map, List.map_map]
        rfl
      refine ⟨_, rfl, ?_⟩
      cases ba : (R.flatten.map fun (k : Nat) => decide ((k : Int) < (n : Int))).all id with
      | false =>
        refine ifT rfl ?_
        refine ifT rfl ?_
        refine q1 (fun ok => ?_) _ s2
        rw [List.all_map] at ba
        have : R.flatten.all (id ∘ fun (k : Nat) => decide ((k : Int) < (n : Int))) = true := List.all_eq_true.mpr fun x hx => decide_eq_true (by have := ok.1 x hx; omega)
        rw [this] at ba
        cases ba
      | true =>
        have below : ∀ x ∈ R.flatten, x < n := by
          rw [List.all_map] at ba
          intro x hx
          have := of_decide_eq_true (List.all_eq_true.mp ba x hx)
          omega
        refine ifF rfl ?_
        refine ⟨_, rfl, D, R.flatten.map fun k : Nat => (k : Int), rfl, .inl (.inl (by rw [← ef]; exact e2)), by rw [List.length_map]; omega, fun t c nt cnt le => ?_⟩
        refine ⟨t, _, c, rfl, upd_same, ?_⟩
        have s3 := s2.trans (same_new nt (o := .set (fun j => decide (j ∈ R.flatten.map fun k : Nat => (k : Int))) c))
        have e4 := same_new nt (o := .set (fun j => decide (j ∈ R.flatten.map fun k : Nat => (k : Int))) c) _ _ e2
        generalize upd H2 t _ = H3 at s3 e4 ⊢
        refine ⟨_, rfl, D, _, rfl, .inl (.inl (.inl e4)), rfl, ?_⟩
        rw [List.length_map] at cnt
        have nd : (R.flatten.map fun k : Nat => (k : Int)).Nodup ↔ R.flatten.Nodup := by
          rw [List.Nodup, List.pairwise_map]
          exact List.Pairwise.iff (fun {a b} => by omega)
        by_cases cn : c = R.flatten.length
        · refine ⟨_, rfl, ifF ?_ ?_⟩
          · rw [mv_len, cn]
            simp
          have ok : okR n R := ⟨below, nd.mp (cnt.mp cn)⟩
          have hR : Rings n R := ⟨r1, ok.2, ok.1⟩
          refine ⟨_, rfl, _, rfl, n, a, us, R, goOf R, rfl, same_sqt s3 S, rf.same s3, hR, goes_of hR, n1, n24, fun H4 t4 s4 st4 => ?_⟩
          exact q2 ok _ _ (s3.trans s4) st4
        · refine ⟨_, rfl, ifT ?_ ?_⟩
          · rw [mv_len, decide_eq_false (fun e => cn (by injection e with e; omega))]
            rfl
          exact q1 (fun ok => cn (cnt.mpr (nd.mpr ok.2))) _ s3
/-- what the text of a move tells -/
def moveR (cs : List Nat) : Rd (List (List Nat)) := match ringsR cs 0 with
  | .error j => .error j
  | .ok (R, e) => if e < cs.length then .error e else .ok R
def spReadMove (K : PySem.W.Frag) : Sp := fun vs H Q E => ∃ (x : V) (m : Kn) (n : Nat), vs = [x, .int (n : Int)] ∧ Kd K H x m ∧ (∀ z, x = .str z → z.length ≤ 4000) ∧ 1 ≤ n ∧ n ≤ 24 ∧ (okT x = false → rPar K H 0 E) ∧
  ∀ z : Str, x = .str z → okT x = true → rRes K H E (moveR (cds z)) fun R => (¬ okR n R → rMv K H E) ∧ (okR n R → ∀ H' t, Same H H' → SqT K H' t (mv ((List.range n).map (goOf R))) → Q (.ref t) H')
theorem scReadMove : FnScope ["text", "places", "rings", "end"] ["text", "places"] (defScope sReadMove) :=
  ⟨rfl, rfl, rfl, by decide +kernel, rfl, by decide +kernel, by decide +kernel⟩
theorem bReadMove (T : Tx K mg) (Y : Ex K mg) (DNeedPlaces : Def P w K mg base CX0 4 "need_places" ["places"] (spNeedPlaces K)) (BNeedText : Def P w K mg base (L2.CX P w) 3 "_need_text" ["text"] (spNeedText K)) (BReadRings : Def P w K mg base (L2.CX P w) 5 "_read_rings" ["text", "at"] (spRings K)) (BMoveOf : Def P w K mg base (L2.CX P w) 6 "_move_of" ["places", "rings"] (spMvOf K)) : Def P w K mg base (L2.CX P w) 7 "read_move" ["text", "places"] (spReadMove K) := by
  refine T.t_read_move.defX (N := ["text", "places", "rings", "end"]) scReadMove (fun _ _ _ _ _ _ us hl => match us, hl with | [_, _], _ => rfl) ?_ ?_
  · intro vs H Q E h
    obtain ⟨x, m, n, rfl, _⟩ := h
    rfl
  · intro f cd A out s H vs Q E hr h
    have hr1 : Rm 4 _ := hr.le (by decide)
    have hr2 : Rm 6 _ := hr.le (by decide)
    have tk : Takes (cxOf (L2.CX P w) P w K mg base ["text", "places", "rings", "end"] "read_move" (defScope sReadMove) f cd A out s H E) (fun cls d _ H1 => E cls d H1) := takes_of rfl rfl rfl rfl
    obtain ⟨x, m, n, rfl, hk, hz, n1, n24, q1, q2⟩ := h
    refine ⟨_, (pss_cons (ps_expr (ME.pe_dS BNeedText (hr2.le (by decide)) (passAt tk) (pa_cons (pv 0) pa_nil)))
      (pss_cons (ps_expr (pe_d DNeedPlaces (hr1.le (by decide)) pass0 (pa_cons (pv 1) pa_nil)))
      (pss_cons (ps_asg (ME.pe_dS BReadRings (hr2.le (by decide)) (passAt tk) (pa_cons (pv 0) (pa_cons pe_int pa_nil))) (pg_tup rfl (pgs_cons (pg_name (i := 2) scReadMove.nd rfl (Or.inl rfl)) (pgs_cons (pg_name (i := 3) scReadMove.nd rfl (Or.inl rfl)) pgs_nil))))
      (pss_cons (ps_if (pt_cmpR op_lt (pv 3) (pe_callB call_len_str rfl T.f_len (by decide +kernel) (pa_cons (pv 0) pa_nil)) (nomark _)) (pss_one (ps_parse Y rfl tk (hr.le (by decide)) (pa_cons (pv 3) pa_nil))) pss_nil)
      (pss_one (ps_ret (ME.pe_dS BMoveOf (hr2.le (by decide)) (passAt tk) (pa_cons (pv 1) (pa_cons (pv 2) pa_nil))))))))), ?_⟩
    refine ⟨_, rfl, x, m, rfl, hk, hz, q1, fun b => ?_⟩
    refine ⟨_, rfl, n, rfl, n1, n24, ?_⟩
    obtain ⟨z, rfl⟩ : ∃ z, x = .str z := by
      cases hk <;> first | exact ⟨_, rfl⟩ | cases b
    have q := q2 z rfl b
    have z4 := hz z rfl
    have z3 : z.length ≤ 3000 := of_decide_eq_true b
    have hl := cds_len z
    clear q1 q2
    unfold moveR at q
    refine ⟨_, rfl, z, 0, rfl, z4, ?_⟩
    cases er : ringsR (cds z) 0 with
    | error j =>
      rw [er] at q
      exact q
    | ok r =>
      obtain ⟨R, e⟩ := r
      rw [er] at q
      obtain ⟨g1, g2, g3⟩ := ringsR_ok er
      intro H1 t us u s1 ht rf hu
      refine ⟨u, _, rfl, .inl (.inl hu), rfl, _, _, rfl, ?_⟩
      refine ⟨_, _, rfl, rfl, ?_⟩
      refine ⟨_, rfl, _, rfl, z, rfl, line4000 z4, _, _, rfl, rfl, _, rfl, ?_⟩
      by_cases c : e < (cds z).length
      · refine ifT (decide_eq_true (by rw [hl]; omega)) ?_
        replace q : rRes K H E (if e < (cds z).length then Except.error e else Except.ok R) _ := q
        rw [if_pos c] at q
        exact ⟨_, rfl, _, rfl, fun d hd => par_new q s1 hd⟩
      · refine ifF (decide_eq_false (by rw [hl]; omega)) ?_
        replace q : rRes K H E (if e < (cds z).length then Except.error e else Except.ok R) _ := q
        rw [if_neg c] at q
        obtain ⟨qa, qb⟩ := q
        refine ⟨_, rfl, _, rfl, n, t, us, R, rfl, ht, rf, fun r hr => by have := g2 r hr; omega, by omega, n1, n24, fun no => ?_, fun ok H4 t4 s4 st4 => ?_⟩
        · exact fun H4 s4 => qa no _ (s1.trans s4)
        · exact qb ok _ _ (s1.trans s4) st4
end
end K84


set_option Elab.async false
set_option linter.all false
set_option maxRecDepth 100000
set_option maxHeartbeats 2000000
namespace K84
open PySem PySem.Spec PyProof.Rows L2 MM
/-! own words for the readings: a step, its side -/
local macro_rules | `(tactic| walk_at "side") => `(tactic| first
  | omega
  | exact ⟨by omega, by omega⟩
  | exact Or.inl ⟨by omega, by omega⟩
  | exact Or.inr ⟨by omega, by omega⟩
  | (show CPw _ _; decide +kernel)
  | (show (0 : Int) < _; decide +kernel)
  | (show CDivW _ _; first | assumption | exact ⟨by decide, by decide +kernel⟩))
local macro_rules | `(tactic| walk_at "here") => `(tactic| first
  | assumption
  | exact upd_same
  | exact Or.inl (Or.inl upd_same)
  | exact Or.inl upd_same)
local macro_rules | `(tactic| walk_at "one") => `(tactic| first
  | refine ⟨_, rfl, ?_⟩
  | refine Or.inl ⟨_, rfl, ?_⟩
  | refine Or.inr ⟨_, rfl, ?_⟩
  | refine ⟨_, _, rfl, rfl, (by walk_at "side"), ?_⟩
  | refine ⟨_, _, rfl, rfl, ?_⟩
  | refine ⟨_, _, rfl, Or.inl (by walk_at "here"), ?_⟩
  | refine ⟨_, _, rfl, Or.inr (by walk_at "here"), ?_⟩
  | refine ⟨_, _, rfl, (by walk_at "here"), ?_⟩
  | refine ⟨_, _, _, _, rfl, rfl, (by walk_at "here"), rfl, ?_⟩
  | refine ⟨_, _, rfl, ?_⟩
  | refine ifT (by rfl) ?_
  | refine ifF (by rfl) ?_
  | refine ifT (decide_eq_true (by omega)) ?_
  | refine ifF (decide_eq_false (by omega)) ?_)
local macro_rules | `(tactic| walk_at "st") => `(tactic| repeat (walk_at "one"))

section
variable {P : Program} {w : World} {K : PySem.W.Frag} {mg : Str → Option Value} {base : Heap}
def spCycL (K : PySem.W.Frag) : Sp := fun vs H Q _ => ∃ a m, vs = [.ref a] ∧ SqT K H a (mv m) ∧ Mv m ∧ ∀ H' t us, Same H H' → H t = none → H' t = some (.lst us) → Refs K H' us (rings (fn' m) m.length) → Q (.ref t) H'
theorem scCyclesL : FnScope ["_law_move", "_law_found", "_law_known", "_law_start", "_law_ring", "_law_place"] ["_law_move"] (defScope sCyclesL) :=
  ⟨rfl, rfl, rfl, by decide +kernel, rfl, by decide +kernel, by decide +kernel⟩
theorem dCyclesL (T : Tx K mg) : Def P w K mg base CX0 1 "_law_cycles" ["_law_move"] (spCycL K) := by
  refine T.t_law_cycles.def_ (N := ["_law_move", "_law_found", "_law_known", "_law_start", "_law_ring", "_law_place"]) scCyclesL (fun _ _ _ _ _ _ us hl => match us, hl with | [_], _ => rfl) ?_ ?_
  · intro vs H Q E h
    obtain ⟨a, m, rfl, _⟩ := h
    rfl
  · intro f cd A out s H vs Q E hr h
    obtain ⟨a, m, rfl, S, hm, q⟩ := h
    refine ⟨_, (pss_cons (ps_par (i := 1) (j := 2) rfl scCyclesL.nd rfl rfl (by decide) rfl rfl (pa_cons (pe_lst pa_nil) (pa_cons (pe_lst pa_nil) pa_nil)) (by rfl))
      (pss_cons (ps_for PassesOwn.never rfl (pi_range1 rfl T.f_range (pa_cons (pe_callB call_len_seq rfl T.f_len (by decide +kernel) (pa_cons (pv 0) pa_nil)) pa_nil)) (pg_name (i := 3) scCyclesL.nd rfl (Or.inl rfl))
        (pss_one (ps_if (pt_cmpR op_notIn_seq (pv 3) (pv 2) rfl) (pss_cons (ps_par (i := 4) (j := 5) rfl scCyclesL.nd rfl rfl (by decide) rfl rfl (pa_cons (pe_lst (pa_cons (pv 3) pa_nil)) (pa_cons (pe_ix ix_tup (pv 0) (pv 3) (fun _ _ => rfl)) pa_nil)) (by rfl))
          (pss_cons (ps_while PassesOwn.never (pt_cmpR op_ne (pv 5) (pv 3) (nomark _))
            (pss_cons (ps_expr (pe_bm PySem.F.plainAttrs_list PySem.F.slot_list_append PySem.F.type_list_append mt_append (pv 4) (pa_cons (pv 5) pa_nil)))
            (pss_one (ps_set (i := 5) scCyclesL.nd rfl (Or.inl rfl) (pe_ix ix_tup (pv 0) (pv 5) (fun _ _ => rfl))))))
          (pss_cons (ps_set (i := 2) scCyclesL.nd rfl (Or.inl rfl) (pe_op op_cat (pv 2) (pv 4)))
          (pss_one (ps_expr (pe_bm PySem.F.plainAttrs_list PySem.F.slot_list_append PySem.F.type_list_append mt_append (pv 1) (pa_cons (pe_callTy call_tuple_of rfl T.f_tuple (by decide +kernel) (pa_cons (pv 4) pa_nil)) pa_nil))))))) pss_nil)))
      (pss_one (ps_ret (pv 1))))), ?_⟩
    have pm := pm_of hm
    refine ⟨by (show 0 ≤ sizeLine); decide, fun F fF => ?_⟩
    have S1 : Same H (upd H F (.lst [])) := same_new fF
    have F1 : (upd H F (.lst [])) F = some (.lst []) := upd_same
    generalize upd H F _ = H1 at S1 F1 ⊢
    refine ⟨by (show 0 ≤ sizeLine); decide, fun G fG => ?_⟩
    have GF : G ≠ F := (ne_of_none F1 fG).symm
    have S2 : Same H (upd H1 G (.lst [])) := S1.trans (same_new fG)
    have F2 : (upd H1 G (.lst [])) F = some (.lst []) := (upd_ne GF.symm).trans F1
    have G2 : (upd H1 G (.lst [])) G = some (.lst []) := upd_same
    have fG0 : ∀ b o, H b = some o → b ≠ G := fun b o e => ne_of_none (S1 b o e) fG
    have fF0 : ∀ b o, H b = some o → b ≠ F := fun b o e => ne_of_none e fF
    generalize upd H1 G _ = H2 at S2 F2 G2 ⊢
    refine ⟨_, _, rfl, ?_⟩
    refine ⟨_, rfl, a, _, rfl, .inr (same_sqt S2 S), (mv m).length, rfl, by omega, by rw [mv_len]; have := hm.2.2.2; omega, for_range (fun s σ H3 => Same H H3 ∧ ∃ us : List V, H3 F = some (.lst us) ∧ Refs K H3 us (ringsTo (fn' m) m.length s) ∧
        ∃ G x y z, H3 G = some (.lst (mv (ringsTo (fn' m) m.length s).flatten)) ∧ G ≠ F ∧ σ = [some (.ref a), some (.ref F), some (.ref G), x, y, z]) ⟨S2, [], F2, .nil, G, _, _, _, G2, GF, rfl⟩ ?_ ?_⟩
    · clear G2 F2 GF fG0 S2
      rintro s σ H3 hs ⟨S3, us, hF, rf, G, x, y, z, hG, GF, rfl⟩
      have sn : s < m.length := by rw [← mv_len]; simpa using hs
      have g := rings_good pm s (by omega)
      refine ⟨_, rfl, _, rfl, G, _, rfl, .inl (.inl (.inl hG)), rfl, flat_mv _, ?_⟩
      refine ⟨_, rfl, ?_⟩
      show (if (!inV (V.int (0 + (s : Int))) (mv (ringsTo (fn' m) m.length s).flatten)) = true then _ else _)
      rw [Int.zero_add, in_mv]
      by_cases c : s ∈ (ringsTo (fn' m) m.length s).flatten
      · refine ifF (by rw [decide_eq_true c]; rfl) ?_
        have e : ringsTo (fn' m) m.length (s + 1) = ringsTo (fn' m) m.length s := by
          show (if s ∈ (ringsTo (fn' m) m.length s).flatten then _ else _) = _
          rw [if_pos c]
        rw [e]
        exact ⟨S3, us, hF, rf, G, _, _, _, hG, GF, rfl⟩
      · refine ifT (by rw [decide_eq_false c]; rfl) ?_
        have e : ringsTo (fn' m) m.length (s + 1) = ringsTo (fn' m) m.length s ++ [ringOf (fn' m) m.length s] := by
          show (if s ∈ (ringsTo (fn' m) m.length s).flatten then _ else _) = _
          rw [if_neg c]
        obtain ⟨Ln, eL, no⟩ := lenOf_ok pm sn
        have L1 := lenOf_pos (fn' m) m.length s
        rw [e]
        refine ⟨_, rfl, by (show 1 ≤ sizeLine); decide, fun D fD => ?_⟩
        have FD : F ≠ D := ne_of_none hF fD
        have GD : G ≠ D := ne_of_none hG fD
        have S4 : Same H3 (upd H3 D (.lst [.int (s : Int)])) := same_new fD
        have D4 : (upd H3 D (.lst [.int (s : Int)])) D = some (.lst (mv (ring (fn' m) s 1))) := upd_same
        have fD0 : ∀ b o, H b = some o → b ≠ D := fun b o e => ne_of_none (S3 b o e) fD
        replace S3 := S3.trans S4
        replace hF := S4 _ _ hF
        replace hG := S4 _ _ hG
        replace rf := rf.same S4
        generalize upd H3 D _ = H4 at S3 hF hG rf D4 ⊢
        refine ⟨_, rfl, _, rfl, a, _, _, _, rfl, rfl, same_sqt S3 S, mv_at sn, _, _, rfl, ?_⟩
        refine while_by (fun σ H5 => Same H H5 ∧ H5 F = some (.lst us) ∧ Refs K H5 us (ringsTo (fn' m) m.length s) ∧ H5 G = some (.lst (mv (ringsTo (fn' m) m.length s).flatten)) ∧
            ∃ k, 1 ≤ k ∧ k ≤ lenOf (fn' m) m.length s ∧ H5 D = some (.lst (mv (ring (fn' m) s k))) ∧ σ = [some (.ref a), some (.ref F), some (.ref G), some (.int (s : Int)), some (.ref D), some (.int (it (fn' m) k s : Nat))])
          (fun _ H5 => match H5 D with | some (.lst xs) => lenOf (fn' m) m.length s - xs.length | _ => 0) ⟨S3, hF, rf, hG, 1, Nat.le_refl 1, L1, D4, rfl⟩ ?_ ?_
        · rintro σ H5 ⟨S5, hF, rf, hG, k, k1, kL, hD, rfl⟩
          have hk : it (fn' m) k s < m.length := it_lt pm sn k
          refine ⟨_, rfl, _, rfl, rfl, _, rfl, ?_⟩
          show (if (!decide (V.int ((it (fn' m) k s : Nat) : Int) = V.int (s : Int))) = true then _ else _)
          rw [dInt, show decide (((it (fn' m) k s : Nat) : Int) = (s : Int)) = decide (it (fn' m) k s = s) from decide_eq_decide.mpr (by omega)]
          by_cases kk : k = lenOf (fn' m) m.length s
          · subst kk
            refine ifF (by rw [eL, decide_eq_true rfl]; rfl) ?_
            have lG : (mv (ringsTo (fn' m) m.length s).flatten).length ≤ 1000 := by
              rw [mv_len]
              have := g.once.length_le_of_subset (fun x hx => List.mem_range.mpr (g.below x hx))
              rw [List.length_range] at this
              have := hm.2.2.2
              omega
            have lD : (mv (ring (fn' m) s (lenOf (fn' m) m.length s))).length ≤ 1000 := by
              rw [mv_len]
              unfold ring
              rw [List.length_map, List.length_range]
              have := hm.2.2.2
              omega
            refine ⟨_, rfl, _, rfl, G, D, _, _, rfl, rfl, hG, hD, ?_, fun G6a fG6 => ?_⟩
            · refine Nat.le_of_lt (Nat.lt_of_le_of_lt (Nat.add_le_add lG lD) (by decide))
            rw [← mv_app]
            have G6F : G6a ≠ F := (ne_of_none hF fG6).symm
            have U6 : Same H5 (upd H5 G6a (.lst (mv ((ringsTo (fn' m) m.length s).flatten ++ ring (fn' m) s (lenOf (fn' m) m.length s))))) := same_new fG6
            have F6 := U6 _ _ hF
            have D6 := U6 _ _ hD
            have G6 : (upd H5 G6a (.lst (mv ((ringsTo (fn' m) m.length s).flatten ++ ring (fn' m) s (lenOf (fn' m) m.length s))))) G6a = some (.lst (mv ((ringsTo (fn' m) m.length s).flatten ++ ring (fn' m) s (lenOf (fn' m) m.length s)))) := upd_same
            have R6 := rf.same U6
            have S6 := S5.trans U6
            generalize upd H5 G6a _ = H6 at F6 D6 G6 R6 S6 U6 ⊢
            refine ⟨_, rfl, .inl ⟨rfl, _, .inl (.inl F6)⟩, _, rfl, D, _, rfl, .inl ⟨.inl (.inl D6), fun t ft => ?_⟩⟩
            have S7 : Same H6 (upd H6 t (.tup (mv (ring (fn' m) s (lenOf (fn' m) m.length s))))) := same_new ft
            have T7 : SqT K (upd H6 t (.tup (mv (ring (fn' m) s (lenOf (fn' m) m.length s))))) t (mv (ring (fn' m) s (lenOf (fn' m) m.length s))) := .inl (.inl upd_same)
            have F7 := S7 _ _ F6
            have G7 := S7 _ _ G6
            have R7 := R6.same S7
            have SS := S6.trans S7
            generalize upd H6 t _ = H7 at T7 F7 G7 R7 SS ⊢
            have lu : us.length ≤ 1000 := by
              have h1 : us.length = (ringsTo (fn' m) m.length s).length := Paired.length rf
              have h2 := ringsTo_len (fn' m) m.length s
              have := hm.2.2.2
              omega
            refine ⟨F, us, _, rfl, rfl, F7, Nat.lt_of_le_of_lt lu (by decide), ?_⟩
            refine ⟨fun b o e => (upd_ne (fF0 b o e)).trans (SS b o e), us ++ [.ref t], upd_same, ?_, G6a, _, _, _, ?_, G6F, rfl⟩
            · exact (R7.upd F7).snoc (sqt_lst T7 F7)
            · refine (upd_ne G6F).trans (G7.trans ?_)
              rw [List.flatten_append]
              show _ = some (HO.lst (mv (_ ++ (ringOf (fn' m) m.length s ++ []))))
              rw [List.append_nil]
              rfl
          · refine ifT (by rw [decide_eq_false (no k k1 (by omega))]; rfl) ?_
            have lr : (mv (ring (fn' m) s k)).length = k := by
              rw [mv_len]
              unfold ring
              rw [List.length_map, List.length_range]
            refine ⟨_, rfl, .inl ⟨rfl, _, .inl (.inl hD)⟩, _, rfl, D, _, _, rfl, rfl, hD, Nat.lt_of_le_of_lt (by rw [lr]; have := hm.2.2.2; omega : _ ≤ 1000) (by decide), ?_⟩
            have er : mv (ring (fn' m) s k) ++ [V.int ((it (fn' m) k s : Nat) : Int)] = mv (ring (fn' m) s (k + 1)) := by
              unfold ring
              rw [List.range_succ, List.map_append]
              unfold mv
              rw [List.map_append]
              rfl
            rw [er]
            have S6 : Same H (upd H5 D (.lst (mv (ring (fn' m) s (k + 1))))) := fun b o e => (upd_ne (fD0 b o e)).trans (S5 b o e)
            refine ⟨_, rfl, _, rfl, a, _, _, _, rfl, rfl, same_sqt S6 S, mv_at hk, ⟨S6, (upd_ne FD).trans hF, rf.upd hD, (upd_ne GD).trans hG, k + 1, by omega, by omega, upd_same, rfl⟩, ?_⟩
            rw [upd_same, hD]
            show lenOf (fn' m) m.length s - (mv (ring (fn' m) s (k + 1))).length < lenOf (fn' m) m.length s - (mv (ring (fn' m) s k)).length
            rw [lr, ← er, List.length_append, lr]
            show lenOf (fn' m) m.length s - (k + 1) < _
            omega
        · rintro σ H5 Q1 Q2 mono hyp
          obtain ⟨v, hv, v2, hv2, fl, c1, e1, body⟩ := hyp
          exact ⟨v, hv, v2, hv2, fl, c1, e1, mono _ _ body⟩
    · rintro σ H3 ⟨S3, us, hF, rf, G, x, y, z, hG, GF, rfl⟩
      rw [mv_len] at rf
      exact ⟨_, rfl, q H3 F us S3 fF hF rf⟩
def spDrawn (K : PySem.W.Frag) : Sp := fun vs H Q _ => ∃ (p : Addr) (n : Nat), vs = [.ref p, .int (n : Int)] ∧ BagAt H p ∧ 1 ≤ n ∧ n ≤ 24 ∧ ∀ H' t m, Upto p H H' → t ≠ p → SqT K H' t (mv m) → Mv m → m.length = n → Q (.ref t) H'
theorem scMoveDrawnL : FnScope ["_law_bag_here", "_law_places", "_law_left", "_law_found", "_law_turn"] ["_law_bag_here", "_law_places"] (defScope sMoveDrawnL) :=
  ⟨rfl, rfl, rfl, by decide +kernel, rfl, by decide +kernel, by decide +kernel⟩
theorem dMoveDrawnL (T : Tx K mg) (DGrabL : Def P w K mg base CX0 1 "_law_grab" ["_law_bag_here", "_law_total"] spGrab) : Def P w K mg base CX0 2 "_law_move_drawn" ["_law_bag_here", "_law_places"] (spDrawn K) := by
  refine T.t_law_move_drawn.def_ (N := ["_law_bag_here", "_law_places", "_law_left", "_law_found", "_law_turn"]) scMoveDrawnL (fun _ _ _ _ _ _ us hl => match us, hl with | [_, _], _ => rfl) ?_ ?_
  · intro vs H Q E h
    obtain ⟨p, n, rfl, _⟩ := h
    rfl
  · intro f cd A out s H vs Q E hr h
    have hr1 : Rm 1 _ := hr.le (by decide)
    obtain ⟨p, n, rfl, hb, n1, n24, q⟩ := h
    obtain ⟨b1, b2, b3, eb⟩ := hb
    refine ⟨_, (pss_cons (ps_par (i := 2) (j := 3) rfl scMoveDrawnL.nd rfl rfl (by decide) rfl rfl (pa_cons (pe_listRg rfl rfl T.f_list (prg_1 rfl T.f_range (pv 1))) (pa_cons (pe_lst pa_nil) pa_nil)) (by rfl))
      (pss_cons (ps_for PassesOwn.never rfl (pi_range1 rfl T.f_range (pa_cons (pv 1) pa_nil)) (pg_name (i := 4) scMoveDrawnL.nd rfl (Or.inl rfl))
        (pss_one (ps_expr (pe_bm PySem.F.plainAttrs_list PySem.F.slot_list_append PySem.F.type_list_append mt_append (pv 3) (pa_cons (pe_bm PySem.F.plainAttrs_list PySem.F.slot_list_pop PySem.F.type_list_pop mt_popAt (pv 2) (pa_cons (pe_d DGrabL (hr1.le (by decide)) pass0 (pa_cons (pv 0) (pa_cons (pe_callB call_len_seq rfl T.f_len (by decide +kernel) (pa_cons (pv 2) pa_nil)) pa_nil))) pa_nil)) pa_nil)))))
      (pss_one (ps_ret (pe_callTy call_tuple_of rfl T.f_tuple (by decide +kernel) (pa_cons (pv 3) pa_nil)))))), ?_⟩
    refine ⟨_, rfl, _, rfl, ⟨by omega, by omega, by omega, by omega, by omega⟩, fun W nW => ?_⟩
    rw [rg_mv]
    have upW := (Upto.refl ⟨_, _, _, eb⟩).new (o := .lst (mv (List.range n))) nW
    have hW : (upd H W (.lst (mv (List.range n)))) W = some (.lst (mv (List.range n))) := upd_same
    have Wp : W ≠ p := bag_ne eb nW
    generalize upd H W _ = H1 at upW hW ⊢
    refine ⟨by (show 0 ≤ sizeLine); decide, fun D nD => ?_⟩
    obtain ⟨Dp, fD⟩ := upW.free nD
    have DW : D ≠ W := (ne_of_none hW nD).symm
    refine ⟨_, _, rfl, ?_⟩
    refine ⟨_, rfl, (n : Int), rfl, by omega, by omega, for_range (fun i σ H4 => Upto p H H4 ∧ (∃ ws ys : List V, H4 W = some (.lst ws) ∧ H4 D = some (.lst ys) ∧ (ys ++ ws).Perm (mv (List.range n)) ∧ ys.length = i) ∧
        ∃ x, σ = [some (.ref p), some (.int (n : Int)), some (.ref W), some (.ref D), x]) ⟨upW.new nD, ⟨mv (List.range n), [], (upd_ne DW.symm).trans hW, upd_same, .refl _, rfl⟩, _, rfl⟩ ?_ ?_⟩
    · rintro i σ H4 hi ⟨up4, ⟨ws, ys, h4, h5, pm, ln⟩, x, rfl⟩
      obtain ⟨c1, c2, c3, ec⟩ := up4.bag
      have tot : ys.length + ws.length = n := by
        rw [← List.length_append, pm.length_eq, mv_len, List.length_range]
      have wl : 0 < ws.length := by
        have : i < n := by simpa using hi
        omega
      refine ⟨_, rfl, .inl ⟨rfl, _, .inl (.inl h5)⟩, _, rfl, .inl ⟨rfl, ws, .inl (.inl h4)⟩, _, rfl, _, rfl, W, ws, rfl, .inl (.inl (.inl h4)), ?_⟩
      refine ⟨p, (ws.length : Int), c1, c2, c3, rfl, ec, div_small wl (by omega), fun r g' m' c' r0 r1 => ?_⟩
      have rl : r.toNat < ws.length := by omega
      have er : ((r.toNat : Nat) : Int) = r := by omega
      refine ⟨W, ws, r, r.toNat, ws[r.toNat], rfl, rfl, (upd_ne Wp).trans h4, by omega, by omega, ?_, List.getElem?_eq_getElem rl, ?_⟩
      · have := (ixN_seq (ixN_lt rl)).1
        rw [er] at this
        exact this
      refine ⟨D, ys, _, rfl, rfl, (upd_ne DW).trans ((upd_ne Dp).trans h5), ?_, ?_⟩
      · exact Nat.lt_of_le_of_lt (by omega : _ ≤ 1000) (by decide)
      refine ⟨(up4.draw.put Wp ?_).put Dp ?_, ⟨ws.eraseIdx r.toNat, ys ++ [ws[r.toNat]], (upd_ne DW.symm).trans upd_same, upd_same, ?_, by rw [List.length_append, ln]; rfl⟩, _, rfl⟩
      · exact nW
      · exact fD
      · refine List.Perm.trans ?_ pm
        rw [List.append_assoc]
        exact List.Perm.append_left ys (pick_perm ws r.toNat rl)
    · rintro σ H4 ⟨up4, ⟨ws, ys, h4, h5, pm, ln⟩, x, rfl⟩
      have tot : ys.length + ws.length = n := by
        rw [← List.length_append, pm.length_eq, mv_len, List.length_range]
      have e : ws = [] := List.eq_nil_of_length_eq_zero (by
        have : (n : Int).toNat = n := Int.toNat_natCast _
        omega)
      rw [e, List.append_nil] at pm
      obtain ⟨m, rfl, pr⟩ := mv_range_perm pm
      obtain ⟨hm, lm⟩ := mv_of_perm pr n1 n24
      refine ⟨_, rfl, D, _, rfl, .inl ⟨.inl (.inl h5), fun t ft => ?_⟩⟩
      obtain ⟨tp, _⟩ := up4.free ft
      exact q _ t m (up4.new ft) tp (.inl (.inl upd_same)) hm lm
end
end K84


set_option Elab.async false
set_option linter.all false
set_option maxRecDepth 100000
set_option maxHeartbeats 2000000
namespace K84
open PySem PySem.Spec PyProof.Rows L2 MM PySem.NumText
/-! what is written is read: numbers -/
/-- the digits of a number -/
def dgs (n : Nat) : List Nat := (Nat.toDigits 10 n).map Char.toNat
theorem dgs_num (n : Nat) : cds (Str.ofString (toString (n : Int))) = dgs n := PySem.W.KIN.signs_num n
theorem dgs_ne (n : Nat) : dgs n ≠ [] := by
  unfold dgs
  intro e
  exact Nat.toDigits_ne_nil (List.map_eq_nil_iff.mp e)
theorem dgs_all (n : Nat) : ∀ c ∈ dgs n, 48 ≤ c ∧ c ≤ 57 := by
  intro c hc
  obtain ⟨ch, hch, rfl⟩ := List.mem_map.mp hc
  have := Nat.isDigit_of_mem_toDigits (b := 10) (n := n) (by decide) (by decide) hch
  exact digit_range this
theorem dgs_val (n : Nat) : digitsVal (dgs n) = n := PySem.W.KIN.val_back n
theorem dgs_len {n k : Nat} (hk : 0 < k) (h : n < 10 ^ k) : (dgs n).length ≤ k := by
  unfold dgs
  rw [List.length_map]
  exact (Nat.length_toDigits_le_iff (by decide) hk).mpr h
theorem dgs_head : ∀ (n : Nat) {r : List Nat}, dgs n = 48 :: r → n = 0 := by
  intro n
  induction n using Nat.strongRecOn with
  | _ n ih =>
    intro r h
    by_cases c : n < 10
    · unfold dgs at h
      rw [Nat.toDigits_of_lt_base c] at h
      have : ∀ d : Nat, d < 10 → (Nat.digitChar d).toNat = 48 → d = 0 := by decide
      injection h with h _
      exact this n c h
    · exfalso
      have e : dgs n = dgs (n / 10) ++ dgs (n % 10) := by
        unfold dgs
        have t := Nat.toDigits_append_toDigits (b := 10) (n := n / 10) (d := n % 10) (by decide) (by omega) (Nat.mod_lt _ (by decide))
        rw [Nat.div_add_mod] at t
        rw [← t, List.map_append]
      rw [e] at h
      obtain ⟨x, q, hx⟩ := List.exists_cons_of_ne_nil (dgs_ne (n / 10))
      rw [hx] at h
      injection h with h1 _
      have := ih (n / 10) (by omega) (hx.trans (by rw [h1]))
      omega
theorem dgs_zero : dgs 0 = [48] := rfl
/-- no digit ahead -/
def ND (rest : List Nat) : Prop := ∀ c, rest.head? = some c → ¬ (48 ≤ c ∧ c ≤ 57)
theorem at_drop {cs rest : List Nat} {i c : Nat} (h : cs.drop i = c :: rest) : cs[i]? = some c := by
  rw [← List.head?_drop, h]
  rfl
theorem at_end {cs : List Nat} {i : Nat} (h : cs.drop i = []) : cs[i]? = none := by
  rw [← List.head?_drop, h]
  rfl
theorem drop_next {cs rest : List Nat} {i c : Nat} (h : cs.drop i = c :: rest) : cs.drop (i + 1) = rest := by
  rw [← List.drop_drop, h]
  rfl
theorem drop_app {cs A rest : List Nat} {i : Nat} (h : cs.drop i = A ++ rest) : cs.drop (i + A.length) = rest := by
  rw [← List.drop_drop, h]
  simp
theorem drop_len {cs A rest : List Nat} {i : Nat} (h : cs.drop i = A ++ rest) : A.length ≤ cs.length := by
  have := congrArg List.length h
  rw [List.length_drop, List.length_append] at this
  omega
theorem dg_at {cs : List Nat} {i c : Nat} (h : cs[i]? = some c) : dg cs i = (decide (48 ≤ c) && decide (c ≤ 57)) := by
  unfold dg
  rw [h]
theorem isAt_at {cs : List Nat} {i c d : Nat} (h : cs[i]? = some c) : isAt cs i d = decide (c = d) := by
  unfold isAt
  rw [h]
  exact decide_eq_decide.mpr ⟨fun e => Option.some.inj e, fun e => congrArg some e⟩
theorem isAt_end {cs : List Nat} {i d : Nat} (h : cs.drop i = []) : isAt cs i d = false := by
  unfold isAt
  rw [at_end h]
  rfl
theorem dg_nd {cs rest : List Nat} {i : Nat} (h : cs.drop i = rest) (n : ND rest) : dg cs i = false := by
  cases rest with
  | nil =>
    unfold dg
    rw [at_end h]
  | cons c r =>
    rw [dg_at (at_drop h)]
    have := n c rfl
    cases h1 : (decide (48 ≤ c) && decide (c ≤ 57)) with
    | false => rfl
    | true =>
      rw [Bool.and_eq_true, decide_eq_true_eq, decide_eq_true_eq] at h1
      exact absurd h1 this
theorem dg_yes {c : Nat} (h : 48 ≤ c ∧ c ≤ 57) : (decide (48 ≤ c) && decide (c ≤ 57)) = true := by
  rw [decide_eq_true h.1, decide_eq_true h.2]
  rfl
theorem run_dgs {cs rest : List Nat} (n : ND rest) : ∀ (k i : Nat) (D : List Nat), (∀ c ∈ D, 48 ≤ c ∧ c ≤ 57) → cs.drop i = D ++ rest → run cs i k = min D.length k
  | 0, i, D, _, _ => by rw [run_zero, Nat.min_zero]
  | k + 1, i, [], _, h => by
    rw [run_succ, dg_nd (by simpa using h) n, if_neg (by decide)]
    exact (Nat.zero_min _).symm
  | k + 1, i, c :: D, hD, h => by
    rw [List.cons_append] at h
    rw [run_succ, dg_at (at_drop h), dg_yes (hD c List.mem_cons_self), if_pos rfl, run_dgs n k (i + 1) D (fun x hx => hD x (List.mem_cons_of_mem _ hx)) (drop_next h), List.length_cons, Nat.succ_min_succ]
theorem plain_dgs {cs rest : List Nat} {i n : Nat} (h : cs.drop i = dgs n ++ rest) (nd : ND rest) (lt : n < 10 ^ 60) : plainR cs i = .ok (n, i + (dgs n).length) := by
  obtain ⟨c, D, hd⟩ := List.exists_cons_of_ne_nil (dgs_ne n)
  have len := dgs_len (k := 60) (by decide) lt
  have all := dgs_all n
  have h2 := h
  rw [hd, List.cons_append] at h2
  have a := at_drop h2
  have dd : dg cs i = true := by
    rw [dg_at a]
    exact dg_yes (all c (by rw [hd]; exact List.mem_cons_self))
  have ee : endP cs i = i + (dgs n).length := by
    unfold endP
    rw [isAt_at a]
    by_cases z : c = 48
    · subst z
      have n0 := dgs_head n hd
      subst n0
      rw [dgs_zero]
      rfl
    · rw [decide_eq_false z, if_neg (by decide), run_dgs nd 59 (i + 1) D (fun x hx => all x (by rw [hd]; exact List.mem_cons_of_mem _ hx)) (drop_next h2), hd, List.length_cons]
      rw [hd, List.length_cons] at len
      omega
  unfold plainR
  rw [if_pos dd, ee]
  unfold valP
  rw [ee, show i + (dgs n).length - i = (dgs n).length by omega, h, List.take_left, dgs_val]
/-! rings -/
def more : List Nat → List Nat
  | [] => [41]
  | p :: r => 32 :: (dgs p ++ more r)
def ringT : List Nat → List Nat
  | [] => []
  | p :: r => 40 :: (dgs p ++ more r)
def ringsT (R : List (List Nat)) : List Nat := if R = [] then [40, 41] else (R.map ringT).flatten
theorem nd_more (r rest : List Nat) : ND (more r ++ rest) := by
  intro c hc
  cases r with
  | nil =>
    have : c = 41 := by simpa [more] using hc.symm
    omega
  | cons p r =>
    have : c = 32 := by simpa [more] using hc.symm
    omega
theorem more_len : ∀ r : List Nat, r.length ≤ (more r).length
  | [] => Nat.zero_le _
  | p :: r => by
    have := more_len r
    unfold more
    rw [List.length_cons, List.length_cons, List.length_append]
    omega
theorem ringGo_more {cs rest : List Nat} : ∀ (r : List Nat) {ring : List Nat} {e f : Nat}, (∀ x ∈ r, x < 10 ^ 60) → cs.drop e = more r ++ rest → 2 ≤ ring.length + r.length → r.length ≤ f →
    ∃ e2, ringGo cs f ring e = .ok (ring ++ r, e2) ∧ cs.drop e2 = 41 :: rest
  | [], ring, e, f, _, h, l, _ => by
    refine ⟨e, ?_, h⟩
    have a := at_drop (show cs.drop e = 41 :: rest from h)
    rw [ringGo_end (by simp at l; omega) (by rw [isAt_at a]; decide), List.append_nil]
  | p :: r, ring, e, f, hx, h, l, lf => by
    have h1 : cs.drop e = 32 :: (dgs p ++ (more r ++ rest)) := by
      rw [h]
      show 32 :: (dgs p ++ more r) ++ rest = _
      rw [List.cons_append, List.append_assoc]
    obtain ⟨f', rfl⟩ : ∃ f', f = f' + 1 := ⟨f - 1, by rw [List.length_cons] at lf; omega⟩
    have pl := plain_dgs (drop_next h1) (nd_more r rest) (hx p List.mem_cons_self)
    obtain ⟨e2, g, d⟩ := ringGo_more r (ring := ring ++ [p]) (e := e + 1 + (dgs p).length) (f := f') (fun x m => hx x (List.mem_cons_of_mem _ m)) (drop_app (drop_next h1)) (by
      rw [List.length_append]
      rw [List.length_cons] at l
      show 2 ≤ ring.length + 1 + r.length
      omega) (by rw [List.length_cons] at lf; omega)
    refine ⟨e2, ?_, d⟩
    rw [ringGo_step (by rw [isAt_at (at_drop h1)]; decide), pl]
    show ringGo cs f' (ring ++ [p]) (e + 1 + (dgs p).length) = _
    rw [g, List.append_assoc]
    rfl
theorem ringR_T {cs rest r : List Nat} {i : Nat} (h : cs.drop i = ringT r ++ rest) (l : 2 ≤ r.length) (hx : ∀ x ∈ r, x < 10 ^ 60) : ∃ e, ringR cs i = .ok (r, e) ∧ cs.drop e = rest := by
  obtain ⟨p, r, rfl⟩ : ∃ p q, r = p :: q := by
    cases r with
    | nil => exact absurd l (by decide)
    | cons p q => exact ⟨p, q, rfl⟩
  have h1 : cs.drop i = 40 :: (dgs p ++ (more r ++ rest)) := by
    rw [h]
    show 40 :: (dgs p ++ more r) ++ rest = _
    rw [List.cons_append, List.append_assoc]
  have pl := plain_dgs (drop_next h1) (nd_more r rest) (hx p List.mem_cons_self)
  have h2 := drop_app (drop_next h1)
  have ml := more_len r
  have fl : r.length ≤ cs.length := Nat.le_trans ml (drop_len h2)
  obtain ⟨e2, g, d⟩ := ringGo_more r (ring := [p]) (f := cs.length) (fun x m => hx x (List.mem_cons_of_mem _ m)) h2 (by rw [List.length_cons] at l; show 2 ≤ 1 + r.length; omega) fl
  refine ⟨e2 + 1, ?_, drop_next d⟩
  unfold ringR
  rw [behind_ok (by rw [isAt_at (at_drop h1)]; decide)]
  dsimp only
  rw [pl]
  dsimp only
  rw [g]
  dsimp only
  unfold ringEnd
  rw [behind_ok (by rw [isAt_at (at_drop d)]; decide)]
  rfl
theorem ringsGo_T {cs : List Nat} : ∀ (R : List (List Nat)) {rs : List (List Nat)} {e f : Nat}, (∀ r ∈ R, 2 ≤ r.length ∧ ∀ x ∈ r, x < 10 ^ 60) → cs.drop e = (R.map ringT).flatten → R.length ≤ f →
    ∃ e2, ringsGo cs f rs e = .ok (rs ++ R, e2) ∧ cs.drop e2 = []
  | [], rs, e, f, _, h, _ => ⟨e, by rw [ringsGo_end (isAt_end h), List.append_nil], h⟩
  | r :: R, rs, e, f, hR, h, lf => by
    obtain ⟨f', rfl⟩ : ∃ f', f = f' + 1 := ⟨f - 1, by rw [List.length_cons] at lf; omega⟩
    have h1 : cs.drop e = ringT r ++ (R.map ringT).flatten := h
    obtain ⟨l, hx⟩ := hR r List.mem_cons_self
    obtain ⟨e1, g1, d1⟩ := ringR_T h1 l hx
    obtain ⟨e2, g2, d2⟩ := ringsGo_T R (rs := rs ++ [r]) (f := f') (fun x m => hR x (List.mem_cons_of_mem _ m)) d1 (by rw [List.length_cons] at lf; omega)
    refine ⟨e2, ?_, d2⟩
    have a : isAt cs e 40 = true := by
      obtain ⟨p, q, rfl⟩ : ∃ p q, r = p :: q := by
        cases r with
        | nil => exact absurd l (by decide)
        | cons p q => exact ⟨p, q, rfl⟩
      rw [isAt_at (at_drop (show cs.drop e = 40 :: (dgs p ++ more q ++ (R.map ringT).flatten) from h1))]
      decide
    rw [ringsGo_step a, g1]
    show ringsGo cs f' (rs ++ [r]) e1 = _
    rw [g2, List.append_assoc]
    rfl
theorem rings_len {R : List (List Nat)} (h : ∀ r ∈ R, 2 ≤ r.length) : R.length ≤ (R.map ringT).flatten.length := by
  induction R with
  | nil => exact Nat.zero_le _
  | cons r R ih =>
    have := ih fun x hx => h x (List.mem_cons_of_mem _ hx)
    have l := h r List.mem_cons_self
    rw [List.map_cons, List.flatten_cons, List.length_append, List.length_cons]
    cases r with
    | nil => exact absurd l (by decide)
    | cons p q =>
      show _ ≤ (40 :: (dgs p ++ more q)).length + _
      rw [List.length_cons]
      omega
theorem moveR_T {R : List (List Nat)} (hR : ∀ r ∈ R, 2 ≤ r.length ∧ ∀ x ∈ r, x < 10 ^ 60) : moveR (ringsT R) = .ok R := by
  unfold moveR ringsT
  cases R with
  | nil => rfl
  | cons r R =>
    rw [if_neg (by simp)]
    obtain ⟨l, hx⟩ := hR r List.mem_cons_self
    have fl := rings_len fun x hx => (hR x hx).1
    generalize hcs : ((r :: R).map ringT).flatten = cs at fl ⊢
    have h0 : cs.drop 0 = ringT r ++ (R.map ringT).flatten := by rw [List.drop_zero, ← hcs]; rfl
    obtain ⟨e1, g1, d1⟩ := ringR_T h0 l hx
    obtain ⟨e2, g2, d2⟩ := ringsGo_T R (rs := [r]) (f := cs.length) (fun x m => hR x (List.mem_cons_of_mem _ m)) d1 (by rw [List.length_cons] at fl; omega)
    have no : isAt cs 1 41 = false := by
      obtain ⟨p, q, rfl⟩ : ∃ p q, r = p :: q := by
        cases r with
        | nil => exact absurd l (by decide)
        | cons p q => exact ⟨p, q, rfl⟩
      obtain ⟨c, D, hd⟩ := List.exists_cons_of_ne_nil (dgs_ne p)
      have h1 : cs.drop 0 = 40 :: (c :: (D ++ more q ++ (R.map ringT).flatten)) := by
        rw [h0]
        show 40 :: (dgs p ++ more q) ++ _ = _
        rw [hd]
        rfl
      rw [isAt_at (at_drop (drop_next h1))]
      have := dgs_all p c (by rw [hd]; exact List.mem_cons_self)
      exact decide_eq_false (by omega)
    unfold ringsR
    rw [if_neg (fun z => absurd (no.symm.trans z.2) (by decide)), g1]
    dsimp only
    rw [g2]
    dsimp only
    have : ¬ e2 < cs.length := by
      have := congrArg List.length d2
      rw [List.length_drop, List.length_nil] at this
      omega
    rw [if_neg this]
    rfl
end K84

set_option Elab.async false
set_option linter.all false
set_option maxRecDepth 100000
set_option maxHeartbeats 2000000
namespace K84
open PySem PySem.Spec PyProof.Rows L2 MM PySem.NumText
/-! rows -/
def iT (i : Int) : List Nat := (if i < 0 then [45] else []) ++ dgs i.natAbs
theorem iT_int (i : Int) : cds (Str.ofString (toString i)) = iT i := by
  cases i with
  | ofNat m =>
    have h := dgs_num m
    unfold iT
    rw [if_neg (by show ¬ ((m : Int) < 0); omega)]
    exact h
  | negSucc m =>
    unfold iT
    rw [if_pos (Int.negSucc_lt_zero m)]
    show (Str.ofString ("-" ++ Nat.repr (m + 1))).cps.toList = _
    rw [PyProof.Rows.signs_ofString, String.toList_append, List.map_append, Nat.toList_repr]
    rfl
theorem head_dg {n c : Nat} {D : List Nat} (h : dgs n = c :: D) : 48 ≤ c ∧ c ≤ 57 := dgs_all n c (by rw [h]; exact List.mem_cons_self)
theorem signed_iT {cs rest : List Nat} {s : Nat} {i : Int} (h : cs.drop s = iT i ++ rest) (nd : ND rest) (lt : i.natAbs < 10 ^ 60) : signedR cs s = .ok (i, s + (iT i).length) := by
  obtain ⟨c, D, hd⟩ := List.exists_cons_of_ne_nil (dgs_ne i.natAbs)
  have hc := head_dg hd
  by_cases n : i < 0
  · have e : iT i = 45 :: dgs i.natAbs := by
      unfold iT
      rw [if_pos n]
      rfl
    rw [e, List.cons_append] at h
    have a := at_drop h
    have h2 := drop_next h
    have h3 : cs.drop (s + 1) = c :: (D ++ rest) := by rw [h2, hd]; rfl
    have nz : ¬ c = 48 := by
      rintro rfl
      have := dgs_head _ hd
      omega
    unfold signedR lessR
    rw [if_pos (by rw [isAt_at a]; decide), if_neg (by rw [isAt_at (at_drop h3), decide_eq_false nz]; decide)]
    dsimp only
    rw [plain_dgs h2 nd lt]
    dsimp only
    unfold sgn
    rw [if_pos rfl, e, List.length_cons]
    congr 2
    · omega
    · omega
  · have e : iT i = dgs i.natAbs := by
      unfold iT
      rw [if_neg n]
      rfl
    rw [e] at h
    have h3 : cs.drop s = c :: (D ++ rest) := by rw [h, hd]; rfl
    unfold signedR lessR
    rw [if_neg (by rw [isAt_at (at_drop h3), decide_eq_false (by omega)]; decide)]
    dsimp only
    rw [plain_dgs h nd lt]
    dsimp only
    unfold sgn
    rw [if_neg (by decide), e]
    congr 2
    omega
def moreRow : List Int → List Nat
  | [] => []
  | i :: r => 44 :: (iT i ++ moreRow r)
def rowT : List Int → List Nat
  | [] => []
  | i :: r => iT i ++ moreRow r
theorem nd_row (r : List Int) : ND (moreRow r) := by
  intro c hc
  cases r with
  | nil => cases hc
  | cons i r =>
    have : c = 44 := by simpa [moreRow] using hc.symm
    omega
theorem row_len : ∀ r : List Int, r.length ≤ (moreRow r).length
  | [] => Nat.zero_le _
  | i :: r => by
    have := row_len r
    unfold moreRow
    rw [List.length_cons, List.length_cons, List.length_append]
    omega
theorem drop_lt {cs rest : List Nat} {e c : Nat} (h : cs.drop e = c :: rest) : e < cs.length := by
  have := congrArg List.length h
  rw [List.length_drop, List.length_cons] at this
  omega
theorem drop_ge {cs : List Nat} {e : Nat} (h : cs.drop e = []) : ¬ e < cs.length := by
  have := congrArg List.length h
  rw [List.length_drop, List.length_nil] at this
  omega
theorem rowGo_T {cs : List Nat} : ∀ (r : List Int) {acc : List Int} {e f : Nat}, (∀ x ∈ r, x.natAbs < 10 ^ 60) → cs.drop e = moreRow r → r.length ≤ f → rowGo cs f acc e = .ok (acc ++ r)
  | [], acc, e, f, _, h, _ => by rw [rowGo_end (drop_ge h), List.append_nil]
  | i :: r, acc, e, f, hx, h, lf => by
    obtain ⟨f', rfl⟩ : ∃ f', f = f' + 1 := ⟨f - 1, by rw [List.length_cons] at lf; omega⟩
    have h1 : cs.drop e = 44 :: (iT i ++ moreRow r) := h
    have sg := signed_iT (drop_next h1) (nd_row r) (hx i List.mem_cons_self)
    have ih := rowGo_T r (acc := acc ++ [i]) (e := e + 1 + (iT i).length) (f := f') (fun x m => hx x (List.mem_cons_of_mem _ m)) (drop_app (drop_next h1)) (by rw [List.length_cons] at lf; omega)
    show (if _ then _ else _) = _
    rw [if_pos (drop_lt h1), behind_ok (by rw [isAt_at (at_drop h1)]; decide)]
    dsimp only
    rw [sg]
    dsimp only
    rw [ih, List.append_assoc]
    rfl
theorem rowR_T {r : List Int} (ne : r ≠ []) (hx : ∀ x ∈ r, x.natAbs < 10 ^ 60) : rowR (rowT r) = .ok r := by
  obtain ⟨i, r, rfl⟩ := List.exists_cons_of_ne_nil ne
  unfold rowR
  have h0 : (rowT (i :: r)).drop 0 = iT i ++ moreRow r := rfl
  generalize hcs : rowT (i :: r) = cs at h0
  have sg := signed_iT h0 (nd_row r) (hx i List.mem_cons_self)
  rw [sg]
  dsimp only
  have d := drop_app h0
  have fl : r.length ≤ cs.length := by
    have := row_len r
    have h2 := congrArg List.length d
    rw [List.length_drop] at h2
    omega
  rw [rowGo_T r (acc := [i]) (fun x m => hx x (List.mem_cons_of_mem _ m)) d fl]
  rfl
/-! kinds -/
/-- a term: its number written or not, below zero or not, the number, the index -/
structure Tm where
  w : Bool
  b : Bool
  m : Nat
  x : Nat
def tmT (t : Tm) : List Nat := (if t.w = true then dgs t.m else []) ++ 91 :: (dgs t.x ++ [93])
def tmOk (t : Tm) : Prop := (t.w = false → t.m = 1) ∧ t.m < 10 ^ 60 ∧ t.x < 10 ^ 60
def tmP (t : Tm) : Nat × Int := (t.x, sgn t.b t.m)
theorem nd_91 (rest : List Nat) : ND (91 :: rest) := by
  intro c hc
  have : c = 91 := by simpa using hc.symm
  omega
theorem nd_93 (rest : List Nat) : ND (93 :: rest) := by
  intro c hc
  have : c = 93 := by simpa using hc.symm
  omega
theorem termR_T {cs rest : List Nat} {s : Nat} {t : Tm} (h : cs.drop s = tmT t ++ rest) (ok : tmOk t) : termR cs s = .ok (t.x, t.m, s + (tmT t).length) := by
  obtain ⟨w, b, m, x⟩ := t
  obtain ⟨o1, o2, o3⟩ := ok
  simp only at o1 o2 o3
  have tail : ∀ e, cs.drop e = 91 :: (dgs x ++ 93 :: rest) → (match behindR cs e 91 with
      | .error j => .error j
      | .ok s => match plainR cs s with
        | .error j => .error j
        | .ok (x, e1) => match behindR cs e1 93 with
          | .error j => .error j
          | .ok e2 => .ok (x, m, e2) : Rd (Nat × Nat × Nat)) = .ok (x, m, e + 1 + (dgs x).length + 1) := by
    intro e he
    have d2 := drop_app (drop_next he)
    rw [behind_ok (by rw [isAt_at (at_drop he)]; decide)]
    dsimp only
    rw [plain_dgs (drop_next he) (nd_93 rest) o3]
    dsimp only
    rw [behind_ok (by rw [isAt_at (at_drop d2)]; decide)]
    all_goals rfl
  cases w with
  | true =>
    have e : tmT ⟨true, b, m, x⟩ = dgs m ++ 91 :: (dgs x ++ [93]) := rfl
    rw [e] at h ⊢
    have h1 : cs.drop s = dgs m ++ 91 :: (dgs x ++ 93 :: rest) := by
      rw [h]
      simp
    obtain ⟨c, D, hd⟩ := List.exists_cons_of_ne_nil (dgs_ne m)
    have hc := head_dg hd
    have h2 : cs.drop s = c :: (D ++ 91 :: (dgs x ++ 93 :: rest)) := by rw [h1, hd]; rfl
    unfold termR headR
    rw [if_neg (by rw [isAt_at (at_drop h2), decide_eq_false (by omega)]; decide), plain_dgs h1 (nd_91 _) o2]
    dsimp only
    refine Eq.trans (tail _ (drop_app h1)) ?_
    congr 3
    rw [List.length_append, List.length_cons, List.length_append]
    show _ = s + ((dgs m).length + ((dgs x).length + 1 + 1))
    omega
  | false =>
    have e : tmT ⟨false, b, m, x⟩ = 91 :: (dgs x ++ [93]) := rfl
    rw [e] at h ⊢
    have h1 : cs.drop s = 91 :: (dgs x ++ 93 :: rest) := by
      rw [h]
      simp
    obtain rfl := o1 rfl
    unfold termR headR
    rw [if_pos (by rw [isAt_at (at_drop h1)]; decide)]
    dsimp only
    refine Eq.trans (tail _ h1) ?_
    congr 3
    rw [List.length_cons, List.length_append]
    show _ = s + ((dgs x).length + 1 + 1)
    omega
def moreK : List Tm → List Nat
  | [] => []
  | t :: r => 32 :: (if t.b = true then 45 else 43) :: 32 :: (tmT t ++ moreK r)
def kindsTx : List Tm → List Nat
  | [] => [48]
  | t :: r => (if t.b = true then [45] else []) ++ (tmT t ++ moreK r)
theorem moreK_len : ∀ r : List Tm, r.length ≤ (moreK r).length
  | [] => Nat.zero_le _
  | t :: r => by
    have := moreK_len r
    unfold moreK
    rw [List.length_cons, List.length_cons, List.length_cons, List.length_cons, List.length_append]
    omega
theorem termsGo_T {cs : List Nat} : ∀ (r : List Tm) {acc : List (Nat × Int)} {e f : Nat}, (∀ t ∈ r, tmOk t) → cs.drop e = moreK r → r.length ≤ f → termsGo cs f acc e = .ok (acc ++ r.map tmP)
  | [], acc, e, f, _, h, _ => by rw [termsGo_end (drop_ge h), List.map_nil, List.append_nil]
  | t :: r, acc, e, f, hx, h, lf => by
    obtain ⟨f', rfl⟩ : ∃ f', f = f' + 1 := ⟨f - 1, by rw [List.length_cons] at lf; omega⟩
    have h1 : cs.drop e = 32 :: (if t.b = true then 45 else 43) :: 32 :: (tmT t ++ moreK r) := h
    have h2 := drop_next h1
    have h3 := drop_next h2
    have h4 := drop_next h3
    have tr := termR_T h4 (hx t List.mem_cons_self)
    have ih := termsGo_T r (acc := acc ++ [tmP t]) (f := f') (fun x m => hx x (List.mem_cons_of_mem _ m)) (drop_app h4) (by rw [List.length_cons] at lf; omega)
    have a45 : isAt cs (e + 1) 45 = t.b := by
      rw [isAt_at (at_drop h2)]
      cases t.b <;> decide
    have ab : isAt cs (e + 1) (if isAt cs (e + 1) 45 = true then 45 else 43) = true := by
      rw [a45]
      cases hb : t.b with
      | true => rw [if_pos rfl, a45, hb]
      | false =>
        rw [if_neg (by decide), isAt_at (at_drop h2), hb]
        decide
    show (if _ then _ else _) = _
    rw [if_pos (drop_lt h1), behind_ok (by rw [isAt_at (at_drop h1)]; decide)]
    dsimp only
    rw [behind_ok ab]
    dsimp only
    rw [behind_ok (by rw [isAt_at (at_drop h3)]; decide)]
    dsimp only
    rw [tr]
    dsimp only
    rw [a45]
    show termsGo cs f' (acc ++ [tmP t]) _ = _
    rw [ih, List.append_assoc]
    rfl
theorem kindsT_T {l : List Tm} (ok : ∀ t ∈ l, tmOk t) (hd : ∀ t r, l = t :: r → t.b = true → t.m ≠ 0) : kindsT (kindsTx l) = .ok (l.map tmP) := by
  cases l with
  | nil => rfl
  | cons t r =>
    have o := ok t List.mem_cons_self
    obtain ⟨t1, T1, ht⟩ : ∃ c T, tmT t = c :: T := by
      unfold tmT
      cases t.w with
      | true =>
        obtain ⟨c, D, hd⟩ := List.exists_cons_of_ne_nil (dgs_ne t.m)
        exact ⟨c, D ++ 91 :: (dgs t.x ++ [93]), by rw [if_pos rfl, hd]; rfl⟩
      | false => exact ⟨91, dgs t.x ++ [93], rfl⟩
    have t48 : t.b = true → t1 ≠ 48 := by
      intro hb z
      have m0 := hd t r rfl hb
      subst z
      unfold tmT at ht
      cases hw : t.w with
      | true =>
        rw [hw, if_pos rfl] at ht
        obtain ⟨c, D, hd⟩ := List.exists_cons_of_ne_nil (dgs_ne t.m)
        rw [hd] at ht
        injection ht with h1 _
        exact m0 (dgs_head t.m (hd.trans (by rw [h1])))
      | false =>
        rw [hw, if_neg (by decide)] at ht
        injection ht with h1 _
        exact absurd h1 (by decide)
    have t45 : t1 ≠ 45 := by
      intro z
      subst z
      unfold tmT at ht
      cases hw : t.w with
      | true =>
        rw [hw, if_pos rfl] at ht
        obtain ⟨c, D, hd⟩ := List.exists_cons_of_ne_nil (dgs_ne t.m)
        have := head_dg hd
        rw [hd] at ht
        injection ht with h1 _
        omega
      | false =>
        rw [hw, if_neg (by decide)] at ht
        injection ht with h1 _
        exact absurd h1 (by decide)
    have h91 : 91 ∈ tmT t := by
      unfold tmT
      simp
    have no48 : kindsTx (t :: r) ≠ [48] := by
      intro z
      have : 91 ∈ kindsTx (t :: r) := by
        show 91 ∈ _ ++ (tmT t ++ moreK r)
        exact List.mem_append_right _ (List.mem_append_left _ h91)
      rw [z] at this
      simp at this
    unfold kindsT
    rw [if_neg no48]
    have h0 : (kindsTx (t :: r)).drop 0 = (if t.b = true then [45] else []) ++ (tmT t ++ moreK r) := rfl
    generalize kindsTx (t :: r) = cs at h0
    have fin : ∀ s, cs.drop s = tmT t ++ moreK r → (match termR cs s with
        | .error j => .error j
        | .ok (x, m, e) => termsGo cs cs.length [(x, sgn t.b m)] e : Rd (List (Nat × Int))) = .ok ((t :: r).map tmP) := by
      intro s hs
      have d := drop_app hs
      have fl : r.length ≤ cs.length := by
        have := moreK_len r
        have h2 := congrArg List.length d
        rw [List.length_drop] at h2
        omega
      rw [termR_T hs o]
      dsimp only
      rw [termsGo_T r (acc := [(t.x, sgn t.b t.m)]) (fun x m => ok x (List.mem_cons_of_mem _ m)) d fl]
      rfl
    unfold termsR lessR
    cases hb : t.b with
    | true =>
      rw [hb, if_pos rfl] at h0
      have h1 : cs.drop 0 = 45 :: (tmT t ++ moreK r) := h0
      have h2 := drop_next h1
      have h3 : cs.drop 1 = t1 :: (T1 ++ moreK r) := by rw [h2, ht]; rfl
      rw [if_pos (by rw [isAt_at (at_drop h1)]; decide), if_neg (by rw [isAt_at (at_drop h3), decide_eq_false (t48 hb)]; decide)]
      dsimp only
      have := fin 1 h2
      rw [hb] at this
      exact this
    | false =>
      rw [hb, if_neg (by decide)] at h0
      have h1 : cs.drop 0 = tmT t ++ moreK r := h0
      have h3 : cs.drop 0 = t1 :: (T1 ++ moreK r) := by rw [h1, ht]; rfl
      rw [if_neg (by rw [isAt_at (at_drop h3), decide_eq_false t45]; decide)]
      dsimp only
      have := fin 0 h1
      rw [hb] at this
      exact this
/-! terms added up -/
def nz (o : Nat) : List Int → List (Nat × Int)
  | [] => []
  | v :: r => if v = 0 then nz (o + 1) r else (o, v) :: nz (o + 1) r
theorem addT_nz : ∀ (l A : List Int), addT (A ++ List.replicate l.length 0) (nz A.length l) = some (A ++ l)
  | [], A => by
    show some _ = _
    simp
  | v :: r, A => by
    unfold nz
    have e : A ++ List.replicate (v :: r).length (0 : Int) = A ++ 0 :: List.replicate r.length 0 := by
      rw [List.length_cons, List.replicate_succ]
    rw [e]
    by_cases c : v = 0
    · subst c
      rw [if_pos rfl]
      have ih := addT_nz r (A ++ [0])
      rw [List.length_append, List.append_assoc] at ih
      rw [List.append_assoc] at ih
      exact ih
    · rw [if_neg c]
      have ih := addT_nz r (A ++ [v])
      rw [List.length_append, List.append_assoc, List.append_assoc] at ih
      have l1 : A.length < (A ++ 0 :: List.replicate r.length (0 : Int)).length := by
        rw [List.length_append, List.length_cons]
        omega
      show (if _ then _ else _) = _
      rw [if_pos l1]
      have s1 : (A ++ 0 :: List.replicate r.length (0 : Int)).set A.length ((A ++ 0 :: List.replicate r.length (0 : Int)).getD A.length 0 + v) = A ++ v :: List.replicate r.length 0 := by
        rw [List.getD, List.getElem?_append_right (Nat.le_refl _), Nat.sub_self, List.set_append_right _ _ (Nat.le_refl _), Nat.sub_self]
        simp
      rw [s1]
      exact ih
end K84

set_option Elab.async false
set_option linter.all false
set_option maxRecDepth 100000
set_option maxHeartbeats 2000000
namespace K84
open PySem PySem.Spec PyProof.Rows L2 MM
/-! own words for the readings: a step, its side -/
local macro_rules | `(tactic| walk_at "side") => `(tactic| first
  | omega
  | exact ⟨by omega, by omega⟩
  | exact Or.inl ⟨by omega, by omega⟩
  | exact Or.inr ⟨by omega, by omega⟩
  | (show CPw _ _; decide +kernel)
  | (show (0 : Int) < _; decide +kernel)
  | (show CDivW _ _; first | assumption | exact ⟨by decide, by decide +kernel⟩))
local macro_rules | `(tactic| walk_at "here") => `(tactic| first
  | assumption
  | exact upd_same
  | exact Or.inl (Or.inl upd_same)
  | exact Or.inl upd_same)
local macro_rules | `(tactic| walk_at "one") => `(tactic| first
  | refine ⟨_, rfl, ?_⟩
  | refine Or.inl ⟨_, rfl, ?_⟩
  | refine Or.inr ⟨_, rfl, ?_⟩
  | refine ⟨_, _, rfl, rfl, (by walk_at "side"), ?_⟩
  | refine ⟨_, _, rfl, rfl, ?_⟩
  | refine ⟨_, _, rfl, Or.inl (by walk_at "here"), ?_⟩
  | refine ⟨_, _, rfl, Or.inr (by walk_at "here"), ?_⟩
  | refine ⟨_, _, rfl, (by walk_at "here"), ?_⟩
  | refine ⟨_, _, _, _, rfl, rfl, (by walk_at "here"), rfl, ?_⟩
  | refine ⟨_, _, rfl, ?_⟩
  | refine ifT (by rfl) ?_
  | refine ifF (by rfl) ?_
  | refine ifT (decide_eq_true (by omega)) ?_
  | refine ifF (decide_eq_false (by omega)) ?_)
local macro_rules | `(tactic| walk_at "st") => `(tactic| repeat (walk_at "one"))

section
variable {P : Program} {w : World} {K : PySem.W.Frag} {mg : Str → Option Value} {base : Heap}
def toI : V → Int
  | .int i => i
  | _ => 0
def isArr (n : Nat) : Option (List V) → Bool
  | some xs => decide (xs.length = n) && ((xs.map fun x => isB x 0 ((n : Int) - 1)).all id && decide ((xs.map toI).Nodup))
  | none => false
theorem isArr_some (n : Nat) (xs : List V) : isArr n (some xs) = (decide (xs.length = n) && ((xs.map fun x => isB x 0 ((n : Int) - 1)).all id && decide ((xs.map toI).Nodup))) := rfl
def spArr (K : PySem.W.Frag) : Sp := fun vs H Q _ => ∃ (n : Nat) (x : V) (o : Option (List V)), vs = [.int (n : Int), x] ∧ Rv K H x o ∧ n ≤ 1000 ∧ ∀ H', Same H H' → Q (.bl (isArr n o)) H'
theorem ints_back {xs : List V} {n : Int} (h : (xs.map fun x => isB x 0 n).all id = true) : xs = (xs.map toI).map V.int := by
  rw [List.all_map, List.all_eq_true] at h
  induction xs with
  | nil => rfl
  | cons x r ih =>
    have h1 := h x (by simp)
    rw [List.map_cons, List.map_cons, ← ih fun y hy => h y (by simp [hy])]
    cases x <;> first | rfl | cases h1
theorem scIsArrangement : FnScope ["size", "value", "member"] ["size", "value"] (defScope sIsArrangement) :=
  ⟨rfl, rfl, rfl, by decide +kernel, rfl, by decide +kernel, by decide +kernel⟩
theorem dIsArrangement (T : Tx K mg) (DIsBetween : Def P w K mg base CX0 2 "is_between" ["value", "least", "most"] (spIsBetween K)) : Def P w K mg base CX0 3 "is_arrangement" ["size", "value"] (spArr K) := by
  refine T.t_is_arrangement.def_ (N := ["size", "value", "member"]) scIsArrangement (fun _ _ _ _ _ _ us hl => match us, hl with | [_, _], _ => rfl) ?_ ?_
  · intro vs H Q E h
    obtain ⟨n, x, o, rfl, _⟩ := h
    rfl
  · intro f cd A out s H vs Q E hr h
    have hr1 : Rm 2 _ := hr.le (by decide)
    obtain ⟨n, x, o, rfl, hv, small, q⟩ := h
    refine ⟨_, (pss_cons (ps_if (PW.pt (pw_or (pt_not (pt_val (pe_callB (cr_is .tup) rfl T.f_isinstance (by decide +kernel) (pa_cons (pv 1) (pa_cons (pe_ty .tup T.f_tuple (by decide +kernel)) pa_nil))))) (pw_or1 (pt_cmpR op_ne (pe_callB call_len_seq rfl T.f_len (by decide +kernel) (pa_cons (pv 1) pa_nil)) (pv 0) (nomark _))))) (pss_one (ps_ret pe_bl)) pss_nil)
      (pss_cons (ps_if (pt_not (pt_val (pe_callB (cr_all rfl) rfl T.f_all (by decide +kernel) (pa_cons (pe_lc (own := [("member", 2)]) (g := gName 2) (tt := tYes) rfl scIsArrangement.nd (pi_tup (pv 1)) (blkOk_by (N := ["size", "value", "member"]) (sc := defScope sIsArrangement) (by decide +kernel)) (fun _ _ _ _ _ => pg_name (i := 2) scIsArrangement.nd rfl (Or.inl rfl)) (fun _ _ _ _ _ => pts_nil) (fun _ _ _ _ _ => (pe_d DIsBetween (hr1.le (by decide)) pass0 (pa_cons (pv 2) (pa_cons pe_int (pa_cons (pe_op op_sub (pv 0) pe_int) pa_nil)))))) pa_nil)))) (pss_one (ps_ret pe_bl)) pss_nil)
      (pss_one (ps_ret (pe_cmpR op_eq (pe_callB cr_lenSet rfl T.f_len (by decide +kernel) (pa_cons (pe_callTy (cr_setI rfl) rfl T.f_set (by decide +kernel) (pa_cons (pv 1) pa_nil)) pa_nil)) (pv 0) (nomark _)))))), ?_⟩
    cases hv with
    | no hk ne =>
      refine ⟨_, rfl, _, _, rfl, hk, _, rfl, ?_⟩
      refine ifT (by rw [ne]; rfl) ?_
      exact q H (Same.refl H)
    | yes S m =>
      rename_i a xs
      refine ⟨_, rfl, _, _, rfl, .tup S, _, rfl, ?_⟩
      refine ifF rfl ?_
      refine ⟨_, rfl, _, _, rfl, .inr S, _, rfl, rfl, _, rfl, ?_⟩
      show (if (!decide (V.int (xs.length : Int) = V.int (n : Int))) = true then _ else _)
      rw [dInt, show decide ((xs.length : Int) = (n : Int)) = decide (xs.length = n) from decide_eq_decide.mpr (by omega)]
      by_cases c : xs.length = n
      · refine ifF (by rw [decide_eq_true c]; rfl) ?_
        have ei : ∀ b1 b2 : Bool, (b1 && b2) = (if b1 = true then b2 else false) := fun b1 b2 => by cases b1 <;> rfl
        refine ⟨_, rfl, a, rfl, ⟨_, S⟩, fun D nD => ?_⟩
        refine lc_tpl (fun x => .bl (isB x 0 ((n : Int) - 1))) S nD (Nat.le_of_lt (small1000 (by omega))) ?_ ?_
        · intro x acc hx Q' q'
          obtain ⟨kn, hk⟩ := m x hx
          exact ⟨_, rfl, _, rfl, _, _, rfl, rfl, x, kn, _, _, rfl, hk.same (same_new nD), q'⟩
        refine ⟨D, xs.map fun x => isB x 0 ((n : Int) - 1), rfl, .inl (.inl (Eq.trans upd_same (by rw [List.map_map]; rfl))), ?_⟩
        refine ⟨_, rfl, ?_⟩
        have S1 : Same H (upd H D (.lst (xs.map fun x => V.bl (isB x 0 ((n : Int) - 1))))) := same_new nD
        generalize upd H D _ = H1 at S1 ⊢
        cases e : (xs.map fun x => isB x 0 ((n : Int) - 1)).all id with
        | false =>
          have q' := q H1 S1
          rw [show isArr n (some xs) = false from (by rw [isArr_some, e]; simp)] at q'
          exact q'
        | true =>
          have back := ints_back e
          have S2 := same_sqt S1 S
          rw [back] at S2
          refine ⟨_, rfl, a, xs.map toI, rfl, S2, by rw [List.length_map]; omega, fun t k ft hk le => ?_⟩
          refine ⟨t, _, k, rfl, upd_same, ?_⟩
          refine ⟨_, rfl, rfl, ?_⟩
          have q' := q (upd H1 t (.set (fun j => decide (j ∈ xs.map toI)) k)) (S1.trans (same_new ft))
          rw [show isArr n (some xs) = decide (V.int (k : Int) = V.int (n : Int)) from (by
            rw [List.length_map, c] at hk
            rw [dInt]
            rw [isArr_some, e, decide_eq_true c, Bool.true_and, Bool.true_and]
            exact decide_eq_decide.mpr (by rw [← hk]; omega))] at q'
          exact q'
      · refine ifT (by rw [decide_eq_false c]; rfl) ?_
        have q' := q H (Same.refl H)
        rw [show isArr n (some xs) = false from (by rw [isArr_some, decide_eq_false c]; rfl)] at q'
        exact q'
theorem rv_mv {H : Hp} {a : Addr} {m : List Nat} (h : SqT K H a (mv m)) : Rv K H (.ref a) (some (mv m)) := .yes h fun y hy => by
  obtain ⟨k, _, rfl⟩ := List.mem_map.mp hy
  exact ⟨_, .int _⟩
theorem arr_mv {m : List Nat} (h : Mv m) : isArr m.length (some (mv m)) = true := by
  rw [isArr_some, decide_eq_true (mv_len m), Bool.true_and]
  have e : (mv m).map toI = m.map fun (k : Nat) => (k : Int) := by
    unfold mv
    rw [List.map_map]
    rfl
  have nd : ((mv m).map toI).Nodup := by
    rw [e]
    refine List.Pairwise.map _ (fun a b z => ?_) h.1
    omega
  rw [decide_eq_true nd, Bool.and_true, List.all_map, List.all_eq_true]
  intro x hx
  obtain ⟨k, hk, rfl⟩ := List.mem_map.mp hx
  have := h.2.1 k hk
  show (decide (0 ≤ (k : Int)) && decide ((k : Int) ≤ (m.length : Int) - 1)) = true
  rw [decide_eq_true (by omega), decide_eq_true (by omega)]
  rfl
def spNeedMove (K : PySem.W.Frag) : Sp := fun vs H Q _ => ∃ a m, vs = [.ref a] ∧ SqT K H a (mv m) ∧ Mv m ∧ ∀ H', Same H H' → Q .non H'
theorem scNeedMove : FnScope ["move"] ["move"] (defScope sNeedMove) :=
  ⟨rfl, rfl, rfl, by decide +kernel, rfl, by decide +kernel, by decide +kernel⟩
theorem dNeedMove (T : Tx K mg) (DIsArrangement : Def P w K mg base CX0 3 "is_arrangement" ["size", "value"] (spArr K)) : Def P w K mg base CX0 4 "_need_move" ["move"] (spNeedMove K) := by
  refine T.t_need_move.def_ (N := ["move"]) scNeedMove (fun _ _ _ _ _ _ us hl => match us, hl with | [_], _ => rfl) ?_ ?_
  · intro vs H Q E h
    obtain ⟨a, m, rfl, _⟩ := h
    rfl
  · intro f cd A out s H vs Q E hr h
    have hr1 : Rm 3 _ := hr.le (by decide)
    obtain ⟨a, m, rfl, S, hm, q⟩ := h
    refine ⟨_, (pss_cons (ps_if (PW.pt (pw_or (pt_not (pt_val (pe_callB (cr_is .tup) rfl T.f_isinstance (by decide +kernel) (pa_cons (pv 0) (pa_cons (pe_ty .tup T.f_tuple (by decide +kernel)) pa_nil))))) (pw_or1 (pt_not (pt_chain op_le op_le pe_int (pe_callB call_len_seq rfl T.f_len (by decide +kernel) (pa_cons (pv 0) pa_nil)) (C8.pe_gc rfl T.c_MAX_PLACES)))))) (pss_one ps_never) pss_nil)
      (pss_one (ps_if (pt_not (pt_val (pe_d DIsArrangement (hr1.le (by decide)) pass0 (pa_cons (pe_callB call_len_seq rfl T.f_len (by decide +kernel) (pa_cons (pv 0) pa_nil)) (pa_cons (pv 0) pa_nil))))) (pss_one ps_never) pss_nil))), ?_⟩
    refine ⟨_, rfl, _, _, rfl, .tup S, _, rfl, ?_⟩
    refine ifF rfl ?_
    have l1 : 1 ≤ (mv m).length := by rw [mv_len]; exact hm.2.2.1
    have l2 : (mv m).length ≤ 24 := by rw [mv_len]; exact hm.2.2.2
    refine ⟨_, rfl, _, _, rfl, .inr S, _, _, rfl, rfl, _, rfl, ?_⟩
    refine ifT (decide_eq_true (by omega)) ?_
    refine ⟨_, _, rfl, rfl, _, rfl, ?_⟩
    refine ifF ?_ ?_
    · show (!decide (((mv m).length : Int) ≤ 24)) = false
      rw [decide_eq_true (by omega)]
      rfl
    refine ⟨_, rfl, _, _, rfl, .inr S, _, rfl, (mv m).length, _, _, rfl, rv_mv S, by omega, fun H' sm => ?_⟩
    refine ⟨_, rfl, ?_⟩
    refine ifF ?_ (q H' sm)
    rw [mv_len, arr_mv hm]
    rfl
theorem ring_succ (f : Nat → Nat) (p k : Nat) : ring f p (k + 1) = ring f p k ++ [it f k p] := by
  unfold ring
  rw [List.range_succ, List.map_append]
  rfl
def spCyc (K : PySem.W.Frag) : Sp := fun vs H Q _ => ∃ a m, vs = [.ref a] ∧ SqT K H a (mv m) ∧ Mv m ∧ ∀ H' t us, Same H H' → SqT K H' t us → Refs K H' us (rings (fn' m) m.length) → Q (.ref t) H'
theorem scCyclesU : FnScope ["move", "seen", "rings", "start", "ring", "place"] ["move"] (defScope sCyclesU) :=
  ⟨rfl, rfl, rfl, by decide +kernel, rfl, by decide +kernel, by decide +kernel⟩
theorem dCyclesU (T : Tx K mg) : Def P w K mg base CX0 1 "_cycles" ["move"] (spCyc K) := by
  refine T.t_cyclesU.def_ (N := ["move", "seen", "rings", "start", "ring", "place"]) scCyclesU (fun _ _ _ _ _ _ us hl => match us, hl with | [_], _ => rfl) ?_ ?_
  · intro vs H Q E h
    obtain ⟨a, m, rfl, _⟩ := h
    rfl
  · intro f cd A out s H vs Q E hr h
    obtain ⟨a, m, rfl, S, hm, q⟩ := h
    refine ⟨_, (pss_cons (ps_set (i := 1) scCyclesU.nd rfl (Or.inl rfl) (pe_callTy0 (cr_set0W (w := w) rfl) rfl T.f_set (by decide +kernel)))
      (pss_cons (ps_set (i := 2) scCyclesU.nd rfl (Or.inl rfl) (pe_lst pa_nil))
      (pss_cons (ps_for PassesOwn.never rfl (pi_range1 rfl T.f_range (pa_cons (pe_callB call_len_seq rfl T.f_len (by decide +kernel) (pa_cons (pv 0) pa_nil)) pa_nil)) (pg_name (i := 3) scCyclesU.nd rfl (Or.inl rfl))
        (pss_one (ps_if (pt_cmpR (or_snotinW (w := w) rfl) (pv 3) (pv 1) rfl) (pss_cons (ps_set (i := 4) scCyclesU.nd rfl (Or.inl rfl) (pe_lst pa_nil))
          (pss_cons (ps_set (i := 5) scCyclesU.nd rfl (Or.inl rfl) (pv 3))
          (pss_cons (ps_while PassesOwn.never (pt_cmpR (or_snotinW (w := w) rfl) (pv 5) (pv 1) rfl)
            (pss_cons (ps_expr (pe_saddW (w := w) rfl (pv 1) (pa_cons (pv 5) pa_nil)))
            (pss_cons (ps_expr (pe_bm PySem.F.plainAttrs_list PySem.F.slot_list_append PySem.F.type_list_append mt_append (pv 4) (pa_cons (pv 5) pa_nil)))
            (pss_one (ps_set (i := 5) scCyclesU.nd rfl (Or.inl rfl) (pe_ix ix_tup (pv 0) (pv 5) (fun _ _ => rfl)))))))
          (pss_one (ps_expr (pe_bm PySem.F.plainAttrs_list PySem.F.slot_list_append PySem.F.type_list_append mt_append (pv 2) (pa_cons (pe_callTy call_tuple_of rfl T.f_tuple (by decide +kernel) (pa_cons (pv 4) pa_nil)) pa_nil))))))) pss_nil)))
      (pss_one (ps_ret (pe_callTy call_tuple_of rfl T.f_tuple (by decide +kernel) (pa_cons (pv 2) pa_nil))))))), ?_⟩
    have pm := pm_of hm
    have m24 := hm.2.2.2
    refine ⟨rfl, fun G fG => ?_⟩
    have S1 : Same H (upd H G (SetO w G (fun _ => false) 0)) := same_new fG
    have G1 : SetN w G [] (upd H G (SetO w G (fun _ => false) 0)) := ⟨_, _, upd_same, Nat.le_refl _, fun x => by simp⟩
    have fG0 : ∀ b o, H b = some o → b ≠ G := fun b o e => ne_of_none e fG
    generalize upd H G _ = H1 at S1 G1 ⊢
    refine ⟨by (show 0 ≤ sizeLine); decide, fun F fF => ?_⟩
    have GF : G ≠ F := by
      obtain ⟨S0, c0, e0, _⟩ := id G1
      exact ne_of_none e0 fF
    have S2 : Same H (upd H1 F (.lst [])) := S1.trans (same_new fF)
    have F2 : (upd H1 F (.lst [])) F = some (.lst []) := upd_same
    have G2 : SetN w G [] (upd H1 F (.lst [])) := G1.upd GF
    have fF0 : ∀ b o, H b = some o → b ≠ F := fun b o e => ne_of_none (S1 b o e) fF
    generalize upd H1 F _ = H2 at S2 F2 G2 ⊢
    refine ⟨_, rfl, a, _, rfl, .inr (same_sqt S2 S), (mv m).length, rfl, by omega, by rw [mv_len]; omega, for_range (fun s σ H3 => Same H H3 ∧ ∃ us : List V, H3 F = some (.lst us) ∧ Refs K H3 us (ringsTo (fn' m) m.length s) ∧
        SetN w G (ringsTo (fn' m) m.length s).flatten H3 ∧ ∃ x y z, σ = [some (.ref a), some (.ref G), some (.ref F), x, y, z]) ⟨S2, [], F2, .nil, G2, _, _, _, rfl⟩ ?_ ?_⟩
    · rintro s σ H3 hs ⟨S3, us, hF, rf, hG, x, y, z, rfl⟩
      have sn : s < m.length := by rw [← mv_len]; simpa using hs
      have g := rings_good pm s (by omega)
      have small := rings_small pm m24 (Nat.le_of_lt sn)
      obtain ⟨S9, c9, e9, l9, r9⟩ := id hG
      refine ⟨_, rfl, _, rfl, _, G, S9, c9, rfl, rfl, e9, ?_⟩
      refine ⟨_, rfl, ?_⟩
      show (if (!S9 (0 + (s : Int))) = true then _ else _)
      rw [Int.zero_add, r9]
      by_cases c : s ∈ (ringsTo (fn' m) m.length s).flatten
      · refine ifF (by rw [decide_eq_true c]; rfl) ?_
        have e : ringsTo (fn' m) m.length (s + 1) = ringsTo (fn' m) m.length s := by
          show (if s ∈ (ringsTo (fn' m) m.length s).flatten then _ else _) = _
          rw [if_pos c]
        rw [e]
        exact ⟨S3, us, hF, rf, hG, _, _, _, rfl⟩
      · refine ifT (by rw [decide_eq_false c]; rfl) ?_
        have e : ringsTo (fn' m) m.length (s + 1) = ringsTo (fn' m) m.length s ++ [ringOf (fn' m) m.length s] := by
          show (if s ∈ (ringsTo (fn' m) m.length s).flatten then _ else _) = _
          rw [if_neg c]
        obtain ⟨Ln, eL, no⟩ := lenOf_ok pm sn
        have L1 := lenOf_pos (fn' m) m.length s
        have out : ∀ k, k < lenOf (fn' m) m.length s → it (fn' m) k s ∉ (ringsTo (fn' m) m.length s).flatten ++ ring (fn' m) s k := by
          intro k kl h
          rcases List.mem_append.mp h with h | h
          · exact c ((closed_it pm g.closed sn k).mp h)
          · have nd := ring_nodup pm sn (L := k + 1) (fun j j1 jl => no j j1 (by omega))
            rw [ring_succ, List.nodup_append] at nd
            exact nd.2.2 _ h _ (List.mem_singleton.mpr rfl) rfl
        rw [e]
        refine ⟨by (show 0 ≤ sizeLine); decide, fun D fD => ?_⟩
        have FD : F ≠ D := ne_of_none hF fD
        have GD : G ≠ D := ne_of_none e9 fD
        have S4 : Same H3 (upd H3 D (.lst [])) := same_new fD
        have D4 : (upd H3 D (.lst [])) D = some (.lst (mv (ring (fn' m) s 0))) := upd_same
        have fD0 : ∀ b o, H b = some o → b ≠ D := fun b o e => ne_of_none (S3 b o e) fD
        replace S3 := S3.trans S4
        replace hF := S4 _ _ hF
        replace hG : SetN w G ((ringsTo (fn' m) m.length s).flatten ++ ring (fn' m) s 0) (upd H3 D (.lst [])) := by
          have e0 : ring (fn' m) s 0 = [] := rfl
          rw [e0, List.append_nil]
          exact hG.same S4
        replace rf := rf.same S4
        generalize upd H3 D _ = H4 at S3 hF hG rf D4 ⊢
        refine ⟨_, rfl, ?_⟩
        refine while_by (fun σ H5 => Same H H5 ∧ H5 F = some (.lst us) ∧ Refs K H5 us (ringsTo (fn' m) m.length s) ∧
            ∃ k, k ≤ lenOf (fn' m) m.length s ∧ SetN w G ((ringsTo (fn' m) m.length s).flatten ++ ring (fn' m) s k) H5 ∧ H5 D = some (.lst (mv (ring (fn' m) s k))) ∧ σ = [some (.ref a), some (.ref G), some (.ref F), some (.int (s : Int)), some (.ref D), some (.int (it (fn' m) k s : Nat))])
          (fun _ H5 => match H5 D with | some (.lst xs) => lenOf (fn' m) m.length s - xs.length | _ => 0) ⟨S3, hF, rf, 0, Nat.zero_le _, hG, D4, rfl⟩ ?_ ?_
        · rintro σ H5 ⟨S5, hF, rf, k, kL, hG, hD, rfl⟩
          have hk : it (fn' m) k s < m.length := it_lt pm sn k
          obtain ⟨S8, c8, e8, l8, r8⟩ := id hG
          have lr : (ring (fn' m) s k).length = k := by
            unfold ring
            rw [List.length_map, List.length_range]
          refine ⟨_, rfl, _, rfl, _, G, S8, c8, rfl, rfl, e8, ?_⟩
          refine ⟨_, rfl, ?_⟩
          show (if (!S8 ((it (fn' m) k s : Nat) : Int)) = true then _ else _)
          rw [r8]
          have FG : F ≠ G := (seto_ne e8 hF (fun f z => nomatch z)).symm
          by_cases kk : k = lenOf (fn' m) m.length s
          · subst kk
            have inn : it (fn' m) (lenOf (fn' m) m.length s) s ∈ (ringsTo (fn' m) m.length s).flatten ++ ring (fn' m) s (lenOf (fn' m) m.length s) :=
              List.mem_append_right _ (ring_mem.mpr ⟨0, by omega, eL⟩)
            refine ifF (by rw [decide_eq_true inn]; rfl) ?_
            refine ⟨_, rfl, .inl ⟨rfl, _, .inl (.inl hF)⟩, _, rfl, D, _, rfl, .inl ⟨.inl (.inl hD), fun t ft => ?_⟩⟩
            have S7 : Same H5 (upd H5 t (.tup (mv (ring (fn' m) s (lenOf (fn' m) m.length s))))) := same_new ft
            have T7 : SqT K (upd H5 t (.tup (mv (ring (fn' m) s (lenOf (fn' m) m.length s))))) t (mv (ring (fn' m) s (lenOf (fn' m) m.length s))) := .inl (.inl upd_same)
            have F7 := S7 _ _ hF
            have G7 := hG.same S7
            have R7 := rf.same S7
            have SS := S5.trans S7
            generalize upd H5 t _ = H7 at T7 F7 G7 R7 SS ⊢
            have lu : us.length ≤ 1000 := by
              have h1 : us.length = (ringsTo (fn' m) m.length s).length := Paired.length rf
              have h2 := ringsTo_len (fn' m) m.length s
              omega
            refine ⟨F, us, _, rfl, rfl, F7, Nat.lt_of_le_of_lt lu (by decide), ?_⟩
            refine ⟨fun b o e => (upd_ne (fF0 b o e)).trans (SS b o e), us ++ [.ref t], upd_same, ?_, ?_, _, _, _, rfl⟩
            · exact (R7.upd F7).snoc (sqt_lst T7 F7)
            · rw [List.flatten_append]
              show SetN w G (_ ++ (ringOf (fn' m) m.length s ++ [])) _
              rw [List.append_nil]
              exact G7.upd FG.symm
          · have kl : k < lenOf (fn' m) m.length s := by omega
            refine ifT (by rw [decide_eq_false (out k kl)]; rfl) ?_
            have room : c8 + 1 < scanBound := by
              have : c8 ≤ 100 := by
                rw [List.length_append, lr] at l8
                omega
              exact Nat.lt_of_le_of_lt (Nat.add_le_add_right this 1) (by decide)
            refine ⟨_, rfl, ⟨G, S8, c8, rfl, e8⟩, _, rfl, G, _, S8, c8, rfl, rfl, e8, room, ?_⟩
            have G6 := SetN.add (w := w) (a := G) (H := H5) (x := it (fn' m) k s) l8 r8
            have F6 := (upd_ne (o := SetO w G (fun j => S8 j || decide (j = ((it (fn' m) k s : Nat) : Int))) (if S8 ((it (fn' m) k s : Nat) : Int) = true then c8 else c8 + 1)) FG).trans hF
            have D6 := (upd_ne (o := SetO w G (fun j => S8 j || decide (j = ((it (fn' m) k s : Nat) : Int))) (if S8 ((it (fn' m) k s : Nat) : Int) = true then c8 else c8 + 1)) GD.symm).trans hD
            have R6 := rf.ext (o := SetO w G (fun j => S8 j || decide (j = ((it (fn' m) k s : Nat) : Int))) (if S8 ((it (fn' m) k s : Nat) : Int) = true then c8 else c8 + 1)) e8 trivial
            have S6 : Same H (upd H5 G (SetO w G (fun j => S8 j || decide (j = ((it (fn' m) k s : Nat) : Int))) (if S8 ((it (fn' m) k s : Nat) : Int) = true then c8 else c8 + 1))) := fun b o e => (upd_ne (fG0 b o e)).trans (S5 b o e)
            rw [List.append_assoc, ← ring_succ] at G6
            generalize upd H5 G _ = H6 at G6 F6 D6 R6 S6 ⊢
            refine ⟨_, rfl, .inl ⟨rfl, _, .inl (.inl D6)⟩, _, rfl, D, _, _, rfl, rfl, D6, Nat.lt_of_le_of_lt (by rw [mv_len, lr]; omega : _ ≤ 1000) (by decide), ?_⟩
            have er : mv (ring (fn' m) s k) ++ [V.int ((it (fn' m) k s : Nat) : Int)] = mv (ring (fn' m) s (k + 1)) := by
              rw [ring_succ, mv_app]
              rfl
            rw [er]
            have S7 : Same H (upd H6 D (.lst (mv (ring (fn' m) s (k + 1))))) := fun b o e => (upd_ne (fD0 b o e)).trans (S6 b o e)
            refine ⟨_, rfl, _, rfl, a, _, _, _, rfl, rfl, same_sqt S7 S, mv_at hk, ⟨S7, (upd_ne FD).trans F6, R6.upd D6, k + 1, kl, G6.upd GD, upd_same, rfl⟩, ?_⟩
            rw [upd_same, hD]
            show lenOf (fn' m) m.length s - (mv (ring (fn' m) s (k + 1))).length < lenOf (fn' m) m.length s - (mv (ring (fn' m) s k)).length
            rw [← er, List.length_append, mv_len, lr]
            show lenOf (fn' m) m.length s - (k + 1) < _
            omega
        · rintro σ H5 Q1 Q2 mono ⟨v, hv, v2, hv2, k, a, S, n, e1, e2, e3, c, e4, body⟩
          exact ⟨v, hv, v2, hv2, k, a, S, n, e1, e2, e3, c, e4, mono _ _ body⟩
    · rintro σ H3 ⟨S3, us, hF, rf, hG, x, y, z, rfl⟩
      rw [mv_len] at rf
      exact ⟨_, rfl, F, _, rfl, .inl ⟨.inl (.inl hF), fun t ft => q _ t us (S3.trans (same_new ft)) (.inl (.inl upd_same)) (rf.same (same_new ft))⟩⟩
theorem scCycles : FnScope ["move"] ["move"] (defScope sCycles) :=
  ⟨rfl, rfl, rfl, by decide +kernel, rfl, by decide +kernel, by decide +kernel⟩
theorem dCycles (T : Tx K mg) (DNeedMove : Def P w K mg base CX0 4 "_need_move" ["move"] (spNeedMove K)) (DCyclesU : Def P w K mg base CX0 1 "_cycles" ["move"] (spCyc K)) : Def P w K mg base CX0 5 "cycles" ["move"] (spCyc K) := by
  refine T.t_cycles.def_ (N := ["move"]) scCycles (fun _ _ _ _ _ _ us hl => match us, hl with | [_], _ => rfl) ?_ ?_
  · intro vs H Q E h
    obtain ⟨a, m, rfl, _⟩ := h
    rfl
  · intro f cd A out s H vs Q E hr h
    have hr1 : Rm 4 _ := hr.le (by decide)
    obtain ⟨a, m, rfl, S, hm, q⟩ := h
    refine ⟨_, (pss_cons (ps_expr (pe_d DNeedMove (hr1.le (by decide)) pass0 (pa_cons (pv 0) pa_nil)))
      (pss_one (ps_ret (pe_d DCyclesU (hr1.le (by decide)) pass0 (pa_cons (pv 0) pa_nil))))), ?_⟩
    refine ⟨_, rfl, a, m, rfl, S, hm, fun H0 S0 => ?_⟩
    exact ⟨_, rfl, a, m, rfl, same_sqt S0 S, hm, fun H1 R us S1 hR rf => q H1 R us (S0.trans S1) hR rf⟩
def spMixed (K : PySem.W.Frag) : Sp := fun vs H Q _ => ∃ (p l : Addr) (xs : List V), vs = [.ref p, .ref l] ∧ BagAt H p ∧ SqL K H l xs ∧ l ≠ p ∧ xs.length ≤ 1000 ∧
  ∀ H' t ys, Upto p H H' → H t = none → ys.Perm xs → H' t = some (.lst ys) → Q (.ref t) H'
theorem scMixedL : FnScope ["_law_bag_here", "_law_items", "_law_waits", "_law_turn"] ["_law_bag_here", "_law_items"] (defScope sMixedL) :=
  ⟨rfl, rfl, rfl, by decide +kernel, rfl, by decide +kernel, by decide +kernel⟩
theorem dMixedL (T : Tx K mg) (DGrabL : Def P w K mg base CX0 1 "_law_grab" ["_law_bag_here", "_law_total"] spGrab) : Def P w K mg base CX0 2 "_law_mixed" ["_law_bag_here", "_law_items"] (spMixed K) := by
  refine T.t_law_mixed.def_ (N := ["_law_bag_here", "_law_items", "_law_waits", "_law_turn"]) scMixedL (fun _ _ _ _ _ _ us hl => match us, hl with | [_, _], _ => rfl) ?_ ?_
  · intro vs H Q E h
    obtain ⟨p, l, xs, rfl, _⟩ := h
    rfl
  · intro f cd A out s H vs Q E hr h
    have hr1 : Rm 1 _ := hr.le (by decide)
    obtain ⟨p, l, xs, rfl, hb, S, ne, len, q⟩ := h
    obtain ⟨b1, b2, b3, eb⟩ := hb
    refine ⟨_, (pss_cons (ps_set (i := 2) scMixedL.nd rfl (Or.inr rfl) (pe_callTy call_list_of rfl T.f_list (by decide +kernel) (pa_cons (pv 1) pa_nil)))
      (pss_one (ps_ret (pe_lc (own := [("_law_turn", 3)]) (g := gName 3) (tt := tYes) rfl scMixedL.nd (pi_range1 rfl T.f_range (pa_cons (pe_callB call_len_seq rfl T.f_len (by decide +kernel) (pa_cons (pv 1) pa_nil)) pa_nil)) (blkOk_by (N := ["_law_bag_here", "_law_items", "_law_waits", "_law_turn"]) (sc := defScope sMixedL) (by decide +kernel)) (fun _ _ _ _ _ => pg_name (i := 3) scMixedL.nd rfl (Or.inl rfl)) (fun _ _ _ _ _ => pts_nil) (fun _ _ _ _ _ => (show PE _ _ (tBM K "list" rPopAt _ _) from pe_bm PySem.F.plainAttrs_list PySem.F.slot_list_pop PySem.F.type_list_pop mt_popAt (pv 2) (pa_cons (pe_d DGrabL (hr1.le (by decide)) pass0 (pa_cons (pv 0) (pa_cons (pe_callB (cr_lenK (K := K) rfl) rfl T.f_len (by decide +kernel) (pa_cons (pv 2) pa_nil)) pa_nil))) pa_nil))))))), ?_⟩
    refine ⟨_, rfl, l, xs, rfl, .inl S, fun W nW => ?_⟩
    have up := (Upto.refl ⟨_, _, _, eb⟩).new (o := .lst xs) nW
    have hW : (upd H W (.lst xs)) W = some (.lst xs) := upd_same
    have S1 : SqL K (upd H W (.lst xs)) l xs := sql_new S nW
    have Wp : W ≠ p := bag_ne eb nW
    generalize upd H W _ = H1 at up hW S1 ⊢
    refine ⟨_, rfl, l, xs, rfl, .inl S1, xs.length, rfl, by omega, by omega, fun D nD => ?_⟩
    obtain ⟨Dp, fD⟩ := up.free nD
    have DW : D ≠ W := (ne_of_none hW nD).symm
    refine lc_range (Pv := fun i H4 => Upto p H H4 ∧ ∃ ws ys : List V, H4 W = some (.lst ws) ∧ H4 D = some (.lst ys) ∧ (ys ++ ws).Perm xs ∧ ys.length = i)
      ⟨up.new nD, xs, [], (upd_ne DW.symm).trans hW, upd_same, .refl _, rfl⟩ ?_ ?_
    · rintro i H4 hi ⟨up4, ws, ys, h4, h5, pm, ln⟩
      refine ⟨wipe_one, yes_ ?_⟩
      obtain ⟨c1, c2, c3, ec⟩ := up4.bag
      have tot : ys.length + ws.length = xs.length := by rw [← List.length_append]; exact pm.length_eq
      have wl : 0 < ws.length := by
        have : i < xs.length := by simpa using hi
        omega
      refine ⟨_, rfl, ?_, _, rfl, _, rfl, W, ws, rfl, .inl (.inl (.inl h4)), ?_⟩
      · exact .inl ⟨rfl, ws, .inl (.inl h4)⟩
      refine ⟨p, (ws.length : Int), c1, c2, c3, rfl, ec, div_small wl (by omega), fun r g' m' c' r0 r1 => ?_⟩
      have rl : r.toNat < ws.length := by omega
      have er : ((r.toNat : Nat) : Int) = r := by omega
      refine ⟨W, ws, r, r.toNat, ws[r.toNat], rfl, rfl, (upd_ne Wp).trans h4, by omega, by omega, ?_, List.getElem?_eq_getElem rl, ?_⟩
      · have := (ixN_seq (ixN_lt rl)).1
        rw [er] at this
        exact this
      refine ⟨ys, (upd_ne DW).trans ((upd_ne Dp).trans h5), ?_, (up4.draw.put Wp nW).put Dp fD, ws.eraseIdx r.toNat, ys ++ [ws[r.toNat]], (upd_ne DW.symm).trans upd_same, upd_same, ?_, by rw [List.length_append, ln]; rfl⟩
      · exact Nat.lt_of_le_of_lt (by omega) (small1000 (n := 1000) (by omega))
      · refine List.Perm.trans ?_ pm
        rw [List.append_assoc]
        exact List.Perm.append_left ys (pick_perm ws r.toNat rl)
    · rintro H4 ⟨up4, ws, ys, h4, h5, pm, ln⟩
      refine q H4 D ys up4 fD ?_ h5
      have tot : ys.length + ws.length = xs.length := by rw [← List.length_append]; exact pm.length_eq
      have e : ws = [] := List.eq_nil_of_length_eq_zero (by
        have : (xs.length : Int).toNat = xs.length := Int.toNat_natCast _
        omega)
      rw [e, List.append_nil] at pm
      exact pm
end
end K84


set_option Elab.async false
set_option linter.all false
set_option maxRecDepth 100000
set_option maxHeartbeats 2000000
namespace K84
open PySem PySem.Spec PyProof.Rows L2 MM PySem.NumText
/-! own words for the readings: a step, its side -/
local macro_rules | `(tactic| walk_at "side") => `(tactic| first
  | omega
  | exact ⟨by omega, by omega⟩
  | exact Or.inl ⟨by omega, by omega⟩
  | exact Or.inr ⟨by omega, by omega⟩
  | (show CPw _ _; decide +kernel)
  | (show (0 : Int) < _; decide +kernel)
  | (show CDivW _ _; first | assumption | exact ⟨by decide, by decide +kernel⟩))
local macro_rules | `(tactic| walk_at "here") => `(tactic| first
  | assumption
  | exact upd_same
  | exact Or.inl (Or.inl upd_same)
  | exact Or.inl upd_same)
local macro_rules | `(tactic| walk_at "one") => `(tactic| first
  | refine ⟨_, rfl, ?_⟩
  | refine Or.inl ⟨_, rfl, ?_⟩
  | refine Or.inr ⟨_, rfl, ?_⟩
  | refine ⟨_, _, rfl, rfl, (by walk_at "side"), ?_⟩
  | refine ⟨_, _, rfl, rfl, ?_⟩
  | refine ⟨_, _, rfl, Or.inl (by walk_at "here"), ?_⟩
  | refine ⟨_, _, rfl, Or.inr (by walk_at "here"), ?_⟩
  | refine ⟨_, _, rfl, (by walk_at "here"), ?_⟩
  | refine ⟨_, _, _, _, rfl, rfl, (by walk_at "here"), rfl, ?_⟩
  | refine ⟨_, _, rfl, ?_⟩
  | refine ifT (by rfl) ?_
  | refine ifF (by rfl) ?_
  | refine ifT (decide_eq_true (by omega)) ?_
  | refine ifF (decide_eq_false (by omega)) ?_)
local macro_rules | `(tactic| walk_at "st") => `(tactic| repeat (walk_at "one"))

section
variable {P : Program} {w : World} {K : PySem.W.Frag} {mg : Str → Option Value} {base : Heap}
def isMem : Option (List V) → Bool
  | some xs => decide (1 ≤ xs.length) && (decide (xs.length ≤ 60) && xs.all isI)
  | none => false
theorem Rv.same {H H' : Hp} {x : V} {o : Option (List V)} (h : Rv K H x o) (s : Same H H') : Rv K H' x o := by
  cases h with
  | no hk ne => exact .no (hk.same s) ne
  | yes S m => exact .yes (same_sqt s S) fun y hy => let ⟨n, hk⟩ := m y hy; ⟨n, hk.same s⟩
def spMem (K : PySem.W.Frag) : Sp := fun vs H Q _ => ∃ x o, vs = [x] ∧ Rv K H x o ∧ ∀ H', Same H H' → Q (.bl (isMem o)) H'
theorem scAreMembers : FnScope ["value", "member"] ["value"] (defScope sAreMembers) :=
  ⟨rfl, rfl, rfl, by decide +kernel, rfl, by decide +kernel, by decide +kernel⟩
theorem dAreMembers (T : Tx K mg) (DIsInteger : Def P w K mg base CX0 2 "is_integer" ["value"] (spIsInteger K)) : Def P w K mg base CX0 3 "_are_members" ["value"] (spMem K) := by
  refine T.t_are_members.def_ (N := ["value", "member"]) scAreMembers (fun _ _ _ _ _ _ us hl => match us, hl with | [_], _ => rfl) ?_ ?_
  · intro vs H Q E h
    obtain ⟨x, o, rfl, _⟩ := h
    rfl
  · intro f cd A out s H vs Q E hr h
    have hr1 : Rm 2 _ := hr.le (by decide)
    obtain ⟨x, o, rfl, hv, q⟩ := h
    refine ⟨_, (pss_cons (ps_if (PW.pt (pw_or (pt_not (pt_val (pe_callB (cr_is .tup) rfl T.f_isinstance (by decide +kernel) (pa_cons (pv 0) (pa_cons (pe_ty .tup T.f_tuple (by decide +kernel)) pa_nil))))) (pw_or1 (pt_not (pt_chain op_le op_le pe_int (pe_callB call_len_seq rfl T.f_len (by decide +kernel) (pa_cons (pv 0) pa_nil)) (C8.pe_gc rfl T.c_MOST_MEMBERS)))))) (pss_one (ps_ret pe_bl)) pss_nil)
      (pss_one (ps_ret (pe_callB (cr_all rfl) rfl T.f_all (by decide +kernel) (pa_cons (pe_lc (own := [("member", 1)]) (g := gName 1) (tt := tYes) rfl scAreMembers.nd (pi_tup (pv 0)) (blkOk_by (N := ["value", "member"]) (sc := defScope sAreMembers) (by decide +kernel)) (fun _ _ _ _ _ => pg_name (i := 1) scAreMembers.nd rfl (Or.inl rfl)) (fun _ _ _ _ _ => pts_nil) (fun _ _ _ _ _ => (pe_d DIsInteger (hr1.le (by decide)) pass0 (pa_cons (pv 1) pa_nil)))) pa_nil))))), ?_⟩
    cases hv with
    | no hk ne =>
      refine ⟨_, rfl, _, _, rfl, hk, _, rfl, ?_⟩
      refine ifT (by rw [ne]; rfl) ?_
      exact ifT rfl (q H (Same.refl H))
    | yes S m =>
      rename_i a xs
      refine ⟨_, rfl, _, _, rfl, .tup S, _, rfl, ?_⟩
      refine ifF rfl ?_
      refine ⟨_, rfl, _, _, rfl, .inr S, _, _, rfl, rfl, _, rfl, ?_⟩
      by_cases l1 : 1 ≤ xs.length
      · refine ifT (decide_eq_true (by omega)) ?_
        refine ⟨_, _, rfl, rfl, _, rfl, ?_⟩
        by_cases l2 : xs.length ≤ 60
        · refine ifF ?_ ?_
          · show (!decide ((xs.length : Int) ≤ 60)) = false
            rw [decide_eq_true (by omega)]
            rfl
          refine ⟨_, rfl, a, rfl, ⟨_, S⟩, ?_⟩
          intro D nD
          refine lc_tpl (fun x => .bl (isI x)) S nD (Nat.le_of_lt (small1000 (by omega))) ?_ ?_
          · intro x acc hx Q' q'
            obtain ⟨n, hk⟩ := m x hx
            exact ⟨_, rfl, _, n, rfl, hk.same (same_new nD), q'⟩
          · refine ⟨D, xs.map isI, rfl, .inl (.inl (Eq.trans upd_same ?_)), ?_⟩
            · rw [List.map_map]
              rfl
            · have q' := q _ (same_new (o := .lst (xs.map fun x => V.bl (isI x))) nD)
              have e : isMem (some xs) = (xs.map isI).all id := by
                show (decide (1 ≤ xs.length) && (decide (xs.length ≤ 60) && xs.all isI)) = _
                rw [decide_eq_true l1, decide_eq_true l2, Bool.true_and, Bool.true_and, List.all_map]
                rfl
              rw [e] at q'
              exact q'
        · refine ifT ?_ ?_
          · show (!decide ((xs.length : Int) ≤ 60)) = true
            rw [decide_eq_false (by omega)]
            rfl
          have q' := q H (Same.refl H)
          have e : isMem (some xs) = false := by
            show (decide (1 ≤ xs.length) && (decide (xs.length ≤ 60) && xs.all isI)) = _
            rw [decide_eq_false l2, Bool.false_and, Bool.and_false]
          rw [e] at q'
          exact q'
      · refine ifF (decide_eq_false (by omega)) ?_
        refine ⟨_, rfl, ?_⟩
        have q' := q H (Same.refl H)
        have e : isMem (some xs) = false := by
          show (decide (1 ≤ xs.length) && (decide (xs.length ≤ 60) && xs.all isI)) = _
          rw [decide_eq_false l1, Bool.false_and]
        rw [e] at q'
        exact ifT rfl q'
/-! texts that are written -/
theorem app_len (a b : Str) : (a ++ b).length = a.length + b.length := PySem.Str.length_append a b
theorem cds_app (a b : Str) : cds (a ++ b) = cds a ++ cds b := TL.tl_append a b
theorem len_cds (z : Str) : z.length = (cds z).length := (Array.length_toList).symm
theorem log_small {i : Int} (h : i.natAbs < 10 ^ 61) : i.natAbs.log2 < 1920 := by
  by_cases z : i.natAbs = 0
  · rw [z]
    decide
  · rw [Nat.log2_lt z]
    exact Nat.lt_trans h (by decide +kernel)
theorem small61 {n : Nat} (h : n < 1000) : n < 10 ^ 61 := Nat.lt_trans h (by decide +kernel)
def tmOf (x : Nat) (k : Int) : Tm := ⟨!decide (k.natAbs = 1), decide (k < 0), k.natAbs, x⟩
theorem abs_dgs (k : Int) : cds (Str.ofString (toString (if k < 0 then -k else k))) = dgs k.natAbs := by
  have e : (if k < 0 then -k else k) = ((k.natAbs : Nat) : Int) := by split <;> omega
  rw [e]
  exact dgs_num _
theorem c91 : cds "[" = [91] := by decide +kernel
theorem c93 : cds "]" = [93] := by decide +kernel
theorem dgs_len61 {k : Int} (h : k.natAbs < 10 ^ 61) : (dgs k.natAbs).length ≤ 61 := dgs_len (by decide) h
def spTermW : Sp := fun vs H Q _ => ∃ (x : Nat) (k : Int), vs = [.int (x : Int), .int k] ∧ x < 100 ∧ k.natAbs < 10 ^ 61 ∧ ∀ z : Str, cds z = tmT (tmOf x k) → Q (.str z) H
theorem scTerm : FnScope ["index", "many"] ["index", "many"] (defScope sTerm) :=
  ⟨rfl, rfl, rfl, by decide +kernel, rfl, by decide +kernel, by decide +kernel⟩
theorem dTerm (T : Tx K mg) : Def P w K mg base CX0 1 "_term" ["index", "many"] spTermW := by
  refine T.t_term.def_ (N := ["index", "many"]) scTerm (fun _ _ _ _ _ _ us hl => match us, hl with | [_, _], _ => rfl) ?_ ?_
  · intro vs H Q E h
    obtain ⟨x, k, rfl, _⟩ := h
    rfl
  · intro f cd A out s H vs Q E hr h
    obtain ⟨x, k, rfl, hx, hk, q⟩ := h
    refine ⟨_, (pss_one (ps_ret (pe_ifExp (pt_cmpR op_eq (pe_callB call_abs rfl T.f_abs (by decide +kernel) (pa_cons (pv 1) pa_nil)) pe_int (nomark _)) (pe_joined (.cons pe_str (.cons (pe_fmt (pv 0)) (.cons pe_str .nil)))) (pe_joined (.cons (pe_fmt (pe_callB call_abs rfl T.f_abs (by decide +kernel) (pa_cons (pv 1) pa_nil))) (.cons pe_str (.cons (pe_fmt (pv 0)) (.cons pe_str .nil)))))))), ?_⟩
    have lx : (x : Int).natAbs < 10 ^ 61 := small61 (by omega)
    have dx := dgs_num x
    have dk := abs_dgs k
    have ak : (if k < 0 then -k else k).natAbs < 10 ^ 61 := by
      have : (if k < 0 then -k else k).natAbs = k.natAbs := by split <;> omega
      omega
    have sx : (dgs x).length ≤ 2 := dgs_len (by decide) (by omega)
    have sk := dgs_len61 hk
    have nn := sizeLine_eq
    have ce : cds Str.empty = [] := rfl
    refine ⟨_, rfl, k, rfl, rfl, _, rfl, ?_⟩
    rw [dInt, show decide ((if k < 0 then -k else k) = 1) = decide (k.natAbs = 1) from decide_eq_decide.mpr (by split <;> omega)]
    by_cases c : k.natAbs = 1
    · refine ifT (decide_eq_true c) ?_
      refine ⟨_, rfl, ?_, _, rfl, .inr ⟨_, rfl, log_small lx, _, rfl, ?_, _, rfl, ?_, q _ ?_⟩⟩
      · rw [len_cds, cds_app, ce, c91]
        decide
      · rw [len_cds, cds_app, cds_app, ce, c91, dx]
        simp only [List.length_append, List.length_cons, List.length_nil]
        omega
      · rw [len_cds, cds_app, cds_app, cds_app, ce, c91, c93, dx]
        simp only [List.length_append, List.length_cons, List.length_nil]
        omega
      · rw [cds_app, cds_app, cds_app, ce, c91, c93, dx]
        unfold tmT tmOf
        rw [decide_eq_true c]
        simp
    · refine ifF (decide_eq_false c) ?_
      refine ⟨_, rfl, k, rfl, .inr ⟨_, rfl, log_small ak, _, rfl, ?_, _, rfl, ?_, _, rfl, .inr ⟨_, rfl, log_small lx, _, rfl, ?_, _, rfl, ?_, q _ ?_⟩⟩⟩
      · rw [len_cds, cds_app, ce, dk]
        simp only [List.length_append, List.length_nil]
        omega
      · rw [len_cds, cds_app, cds_app, ce, c91, dk]
        simp only [List.length_append, List.length_cons, List.length_nil]
        omega
      · rw [len_cds, cds_app, cds_app, cds_app, ce, c91, dx, dk]
        simp only [List.length_append, List.length_cons, List.length_nil]
        omega
      · rw [len_cds, cds_app, cds_app, cds_app, cds_app, ce, c91, c93, dx, dk]
        simp only [List.length_append, List.length_cons, List.length_nil]
        omega
      · rw [cds_app, cds_app, cds_app, cds_app, ce, c91, c93, dx, dk]
        unfold tmT tmOf
        rw [decide_eq_false c]
        simp
theorem rv_ints {H : Hp} {a : Addr} {ns : List Int} (h : SqT K H a (ns.map V.int)) : Rv K H (.ref a) (some (ns.map V.int)) := .yes h fun y hy => by
  obtain ⟨k, _, rfl⟩ := List.mem_map.mp hy
  exact ⟨_, .int _⟩
/-- a tuple of members -/
def Mb (ns : List Int) : Prop := 1 ≤ ns.length ∧ ns.length ≤ 60 ∧ ∀ k ∈ ns, k.natAbs < 10 ^ 60
theorem mb_mem {ns : List Int} (h : Mb ns) : isMem (some (ns.map V.int)) = true := by
  show (decide (1 ≤ (ns.map V.int).length) && (decide ((ns.map V.int).length ≤ 60) && (ns.map V.int).all isI)) = true
  rw [List.length_map, decide_eq_true h.1, decide_eq_true h.2.1, Bool.true_and, Bool.true_and, List.all_map, List.all_eq_true]
  intro k hk
  have := h.2.2 k hk
  show (decide (-10 ^ 60 < k) && decide (k < 10 ^ 60)) = true
  rw [decide_eq_true (by omega), decide_eq_true (by omega)]
  rfl
theorem join_cds (a : Str) (ys : List Str) : cds (Txt.join a ys) = TL.joinL (cds a) (ys.map cds) := by
  rw [TL.join_eq]
  exact TL.tl_join a ys
theorem joinL_row : ∀ (i : Int) (r : List Int), TL.joinL [44] ((i :: r).map iT) = rowT (i :: r)
  | i, [] => by
    show iT i = iT i ++ []
    rw [List.append_nil]
  | i, j :: r => by
    show iT i ++ ([44] ++ TL.joinL [44] ((j :: r).map iT)) = iT i ++ (44 :: (iT j ++ moreRow r))
    rw [joinL_row j r]
    rfl
theorem iT_len {i : Int} (h : i.natAbs < 10 ^ 60) : (iT i).length ≤ 61 := by
  have := dgs_len (n := i.natAbs) (k := 60) (by decide) h
  unfold iT
  rw [List.length_append]
  split
  · show 1 + _ ≤ _
    omega
  · show 0 + _ ≤ _
    omega
theorem sum_leN {B : Nat} : ∀ {ys : List Str}, (∀ y ∈ ys, y.length ≤ B) → (ys.map (·.length)).sum ≤ ys.length * B
  | [], _ => Nat.zero_le _
  | y :: r, h => by
    have ih := sum_leN (ys := r) fun x hx => h x (List.mem_cons_of_mem _ hx)
    have := h y List.mem_cons_self
    simp only [List.map_cons, List.sum_cons, List.length_cons, Nat.add_mul]
    omega
def spWriteRow (K : PySem.W.Frag) : Sp := fun vs H Q _ => ∃ (a : Addr) (ns : List Int), vs = [.ref a] ∧ SqT K H a (ns.map V.int) ∧ Mb ns ∧ ∀ H' (z : Str), Same H H' → cds z = rowT ns → Q (.str z) H'
theorem scWriteRow : FnScope ["row", "member"] ["row"] (defScope sWriteRow) :=
  ⟨rfl, rfl, rfl, by decide +kernel, rfl, by decide +kernel, by decide +kernel⟩
theorem dWriteRow (T : Tx K mg) (DAreMembers : Def P w K mg base CX0 3 "_are_members" ["value"] (spMem K)) : Def P w K mg base CX0 4 "write_row" ["row"] (spWriteRow K) := by
  refine T.t_write_row.def_ (N := ["row", "member"]) scWriteRow (fun _ _ _ _ _ _ us hl => match us, hl with | [_], _ => rfl) ?_ ?_
  · intro vs H Q E h
    obtain ⟨a, ns, rfl, _⟩ := h
    rfl
  · intro f cd A out s H vs Q E hr h
    have hr1 : Rm 3 _ := hr.le (by decide)
    obtain ⟨a, ns, rfl, S, mb, q⟩ := h
    refine ⟨_, (pss_cons (ps_if (pt_not (pt_val (pe_d DAreMembers (hr1.le (by decide)) pass0 (pa_cons (pv 0) pa_nil)))) (pss_one ps_never) pss_nil)
      (pss_one (ps_ret (pe_join pe_str (pe_lc (own := [("member", 1)]) (g := gName 1) (tt := tYes) rfl scWriteRow.nd (pi_tup (pv 0)) (blkOk_by (N := ["row", "member"]) (sc := defScope sWriteRow) (by decide +kernel)) (fun _ _ _ _ _ => pg_name (i := 1) scWriteRow.nd rfl (Or.inl rfl)) (fun _ _ _ _ _ => pts_nil) (fun _ _ _ _ _ => (pe_callTy call_str_int rfl T.f_str (by decide +kernel) (pa_cons (pv 1) pa_nil)))))))), ?_⟩
    refine ⟨_, rfl, _, _, rfl, rv_ints S, fun H1 s1 => ?_⟩
    refine ⟨_, rfl, ?_⟩
    refine ifF (by rw [mb_mem mb]; rfl) ?_
    have S1 := same_sqt s1 S
    refine ⟨⟨_, rfl⟩, _, rfl, a, rfl, ⟨_, S1⟩, fun D nD => ?_⟩
    refine lc_tplF (fun _ => true) (fun x => match x with | .int i => .str (Str.ofString (toString i)) | _ => .non) S1 nD (by rw [List.length_map, sizeLine_eq]; have := mb.2.1; omega) (fun x acc hx Q' q' => q') ?_ ?_
    · intro x acc hx _ Q' q'
      obtain ⟨k, hk, rfl⟩ := List.mem_map.mp hx
      exact ⟨_, rfl, k, rfl, log_small (Nat.lt_trans (mb.2.2 k hk) (by decide +kernel)), q'⟩
    · have em : ((ns.map V.int).filter fun _ => true).map (fun x => match x with | .int i => V.str (Str.ofString (toString i)) | _ => .non) = (ns.map fun i => Str.ofString (toString i)).map V.str := by
        rw [List.filter_eq_self.mpr (fun _ _ => rfl), List.map_map, List.map_map]
        rfl
      rw [em]
      have b61 : ∀ y ∈ ns.map fun i : Int => Str.ofString (toString i), y.length ≤ 61 := by
        intro y hy
        obtain ⟨k, hk, rfl⟩ := List.mem_map.mp hy
        rw [len_cds, iT_int]
        exact iT_len (mb.2.2 k hk)
      have j2 := sum_leN b61
      have n1 : ("," : Str).length = 1 := rfl
      have l60 := mb.2.1
      rw [List.length_map] at j2
      refine ⟨",", D, _, rfl, rfl, .inl (.inl (.inl upd_same)), by rw [n1, List.length_map]; omega, q _ _ (s1.trans (same_new nD)) ?_⟩
      rw [join_cds, show cds "," = [44] by decide +kernel, List.map_map]
      obtain ⟨i, r, rfl⟩ : ∃ i r, ns = i :: r := List.exists_cons_of_ne_nil (by intro z; rw [z] at mb; exact absurd mb.1 (by decide))
      rw [← joinL_row i r]
      congr 1
      refine List.map_congr_left fun k _ => ?_
      exact iT_int k
end
end K84


set_option Elab.async false
set_option linter.all false
set_option maxRecDepth 100000
set_option maxHeartbeats 2000000
namespace K84
open PySem PySem.Spec PyProof.Rows L2 MM PySem.NumText
/-! own words for the readings: a step, its side -/
local macro_rules | `(tactic| walk_at "side") => `(tactic| first
  | omega
  | exact ⟨by omega, by omega⟩
  | exact Or.inl ⟨by omega, by omega⟩
  | exact Or.inr ⟨by omega, by omega⟩
  | (show CPw _ _; decide +kernel)
  | (show (0 : Int) < _; decide +kernel)
  | (show CDivW _ _; first | assumption | exact ⟨by decide, by decide +kernel⟩))
local macro_rules | `(tactic| walk_at "here") => `(tactic| first
  | assumption
  | exact upd_same
  | exact Or.inl (Or.inl upd_same)
  | exact Or.inl upd_same)
local macro_rules | `(tactic| walk_at "one") => `(tactic| first
  | refine ⟨_, rfl, ?_⟩
  | refine Or.inl ⟨_, rfl, ?_⟩
  | refine Or.inr ⟨_, rfl, ?_⟩
  | refine ⟨_, _, rfl, rfl, (by walk_at "side"), ?_⟩
  | refine ⟨_, _, rfl, rfl, ?_⟩
  | refine ⟨_, _, rfl, Or.inl (by walk_at "here"), ?_⟩
  | refine ⟨_, _, rfl, Or.inr (by walk_at "here"), ?_⟩
  | refine ⟨_, _, rfl, (by walk_at "here"), ?_⟩
  | refine ⟨_, _, _, _, rfl, rfl, (by walk_at "here"), rfl, ?_⟩
  | refine ⟨_, _, rfl, ?_⟩
  | refine ifT (by rfl) ?_
  | refine ifF (by rfl) ?_
  | refine ifT (decide_eq_true (by omega)) ?_
  | refine ifF (decide_eq_false (by omega)) ?_)
local macro_rules | `(tactic| walk_at "st") => `(tactic| repeat (walk_at "one"))

section
variable {P : Program} {w : World} {K : PySem.W.Frag} {mg : Str → Option Value} {base : Heap}
/-- the terms of kinds: those that aren't zero -/
def nzT (o : Nat) : List Int → List Tm
  | [] => []
  | v :: r => if v = 0 then nzT (o + 1) r else tmOf o v :: nzT (o + 1) r
theorem nzT_snoc (v : Int) : ∀ (l : List Int) (o : Nat), nzT o (l ++ [v]) = nzT o l ++ (if v = 0 then [] else [tmOf (o + l.length) v])
  | [], o => by
    show (if v = 0 then [] else [tmOf o v]) = _
    rfl
  | u :: r, o => by
    have ih := nzT_snoc v r (o + 1)
    show (if u = 0 then nzT (o + 1) (r ++ [v]) else tmOf o u :: nzT (o + 1) (r ++ [v])) = _
    rw [ih]
    show _ = (if u = 0 then nzT (o + 1) r else tmOf o u :: nzT (o + 1) r) ++ _
    rw [List.length_cons, show o + (r.length + 1) = o + 1 + r.length by omega]
    split <;> simp
def kP : List Tm → List Nat
  | [] => []
  | t :: r => kindsTx (t :: r)
theorem tmT_ne (t : Tm) : tmT t ≠ [] := by
  unfold tmT
  simp
theorem kP_nil {l : List Tm} (h : kP l = []) : l = [] := by
  cases l with
  | nil => rfl
  | cons t r =>
    exfalso
    have : (if t.b = true then [45] else []) ++ (tmT t ++ moreK r) = [] := h
    have h2 := (List.append_eq_nil_iff.mp this).2
    exact tmT_ne t (List.append_eq_nil_iff.mp h2).1
theorem moreK_snoc (u : Tm) : ∀ r : List Tm, moreK (r ++ [u]) = moreK r ++ (32 :: (if u.b = true then 45 else 43) :: 32 :: tmT u)
  | [] => by
    show 32 :: (if u.b = true then 45 else 43) :: 32 :: (tmT u ++ []) = _
    rw [List.append_nil]
    rfl
  | t :: r => by
    show 32 :: (if t.b = true then 45 else 43) :: 32 :: (tmT t ++ moreK (r ++ [u])) = _
    rw [moreK_snoc u r]
    show _ = (32 :: (if t.b = true then 45 else 43) :: 32 :: (tmT t ++ moreK r)) ++ _
    simp
theorem kP_snoc {l : List Tm} (ne : l ≠ []) (u : Tm) : kP (l ++ [u]) = kP l ++ (32 :: (if u.b = true then 45 else 43) :: 32 :: tmT u) := by
  obtain ⟨t, r, rfl⟩ := List.exists_cons_of_ne_nil ne
  show (if t.b = true then [45] else []) ++ (tmT t ++ moreK (r ++ [u])) = ((if t.b = true then [45] else []) ++ (tmT t ++ moreK r)) ++ _
  rw [moreK_snoc]
  simp
theorem kP_one (u : Tm) : kP [u] = (if u.b = true then [45] else []) ++ tmT u := by
  show (if u.b = true then [45] else []) ++ (tmT u ++ []) = _
  rw [List.append_nil]
theorem kP_tx {l : List Tm} (ne : l ≠ []) : kindsTx l = kP l := by
  obtain ⟨t, r, rfl⟩ := List.exists_cons_of_ne_nil ne
  rfl
theorem emp_text (f : Str) : decide (V.str f = V.str "") = decide (cds f = []) := by
  refine decide_eq_decide.mpr ⟨fun h => ?_, fun h => ?_⟩
  · injection h with h
    rw [h]
    rfl
  · congr 1
    obtain ⟨a⟩ := f
    have e : a = #[] := Array.ext' h
    rw [e]
    rfl
theorem tm_len {x : Nat} {k : Int} (hx : x < 100) (hk : k.natAbs < 10 ^ 61) : (tmT (tmOf x k)).length ≤ 65 := by
  have sx : (dgs x).length ≤ 2 := dgs_len (by decide) (by omega)
  have sk := dgs_len61 hk
  unfold tmT tmOf
  simp only [List.length_append, List.length_cons, List.length_nil]
  split
  · omega
  · simp only [List.length_nil]
    omega
def spKW (K : PySem.W.Frag) : Sp := fun vs H Q _ => ∃ (a : Addr) (ns : List Int), vs = [.ref a] ∧ SqT K H a (ns.map V.int) ∧ Mb ns ∧ ∀ H' (z : Str), Same H H' → cds z = kindsTx (nzT 0 ns) → z.length ≤ 68 * ns.length + 1 → Q (.str z) H'
theorem scWriteKinds : FnScope ["kinds", "text", "index", "many"] ["kinds"] (defScope sWriteKinds) :=
  ⟨rfl, rfl, rfl, by decide +kernel, rfl, by decide +kernel, by decide +kernel⟩
theorem dWriteKinds (T : Tx K mg) (DAreMembers : Def P w K mg base CX0 3 "_are_members" ["value"] (spMem K)) (DTerm : Def P w K mg base CX0 1 "_term" ["index", "many"] spTermW) : Def P w K mg base CX0 4 "write_kinds" ["kinds"] (spKW K) := by
  refine T.t_write_kinds.def_ (N := ["kinds", "text", "index", "many"]) scWriteKinds (fun _ _ _ _ _ _ us hl => match us, hl with | [_], _ => rfl) ?_ ?_
  · intro vs H Q E h
    obtain ⟨a, ns, rfl, _⟩ := h
    rfl
  · intro f cd A out s H vs Q E hr h
    have hr1 : Rm 3 _ := hr.le (by decide)
    obtain ⟨a, ns, rfl, S, mb, q⟩ := h
    refine ⟨_, (pss_cons (ps_if (pt_not (pt_val (pe_d DAreMembers (hr1.le (by decide)) pass0 (pa_cons (pv 0) pa_nil)))) (pss_one ps_never) pss_nil)
      (pss_cons (ps_set (i := 1) scWriteKinds.nd rfl (Or.inl rfl) pe_str)
      (pss_cons (ps_for PassesOwn.never rfl (pi_enumT rfl T.f_enumerate (pa_cons (pv 0) pa_nil)) (pg_tup rfl (pgs_cons (pg_name (i := 2) scWriteKinds.nd rfl (Or.inl rfl)) (pgs_cons (pg_name (i := 3) scWriteKinds.nd rfl (Or.inl rfl)) pgs_nil)))
        (pss_one (ps_if (PW.pt (pw_and (pt_cmpR op_ne (pv 3) pe_int (nomark _)) (pw_and1 (pt_cmpR op_eq (pv 1) pe_str (nomark _))))) (pss_one (ps_set (i := 1) scWriteKinds.nd rfl (Or.inl rfl) (pe_op op_add_str (pe_ifExp (pt_cmpR op_lt (pv 3) pe_int (nomark _)) pe_str pe_str) (pe_d DTerm (hr1.le (by decide)) pass0 (pa_cons (pv 2) (pa_cons (pv 3) pa_nil)))))) (pss_one (ps_if (pt_cmpR op_ne (pv 3) pe_int (nomark _)) (pss_one (ps_set (i := 1) scWriteKinds.nd rfl (Or.inl rfl) (pe_op op_add_str (pe_op op_add_str (pv 1) (pe_ifExp (pt_cmpR op_lt (pv 3) pe_int (nomark _)) pe_str pe_str)) (pe_d DTerm (hr1.le (by decide)) pass0 (pa_cons (pv 2) (pa_cons (pv 3) pa_nil)))))) pss_nil)))))
      (pss_one (ps_ret (pe_ifExp (pt_cmpR op_eq (pv 1) pe_str (nomark _)) pe_str (pv 1))))))), ?_⟩
    refine ⟨_, rfl, _, _, rfl, rv_ints S, fun H1 s1 => ?_⟩
    refine ⟨_, rfl, ?_⟩
    refine ifF (by rw [mb_mem mb]; rfl) ?_
    refine ⟨_, rfl, a, _, rfl, same_sqt s1 S, ?_⟩
    refine for_enumT (K := K) (a := a) (xs := ns.map V.int) (fun i σ H3 => Same H H3 ∧ ∃ (f : Str) (x2 x3 : Option V), σ = [some (.ref a), some (.str f), x2, x3] ∧ cds f = kP (nzT 0 (ns.take i)) ∧ f.length ≤ 68 * i)
      ⟨s1, "", _, _, rfl, rfl, Nat.zero_le _⟩ (fun i σ H3 _ h => same_sqt h.1 S) ?_ ?_
    · rintro i u σ H3 T hu ⟨S3, f, x2, x3, rfl, cf, lf⟩ fT
      obtain ⟨li, eu⟩ := List.getElem?_eq_some_iff.mp hu
      rw [List.length_map] at li
      obtain ⟨k, hk⟩ : ∃ k, ns[i]? = some k := ⟨_, List.getElem?_eq_getElem li⟩
      have euk : u = .int k := by
        rw [List.getElem?_map, hk] at hu
        exact (Option.some.inj hu).symm
      subst euk
      have mk : k ∈ ns := List.mem_of_getElem? hk
      have bk : k.natAbs < 10 ^ 61 := Nat.lt_trans (mb.2.2 k mk) (by decide +kernel)
      have l60 := mb.2.1
      have ts : ns.take (i + 1) = ns.take i ++ [k] := by rw [List.take_add_one, hk]; rfl
      have nl : (ns.take i).length = i := by rw [List.length_take]; omega
      have nz1 := nzT_snoc k (ns.take i) 0
      rw [nl, Nat.zero_add, ← ts] at nz1
      have tl := tm_len (x := i) (k := k) (by omega) bk
      have S4 : Same H (upd H3 T (.tup [.int (i : Nat), .int k])) := S3.trans (same_new fT)
      have eT : (upd H3 T (.tup [.int (i : Nat), .int k])) T = some (.tup [.int (i : Nat), .int k]) := upd_same
      generalize upd H3 T _ = H4 at S4 eT ⊢
      have nn := sizeLine_eq
      have fl := len_cds f
      refine ⟨T, _, rfl, .inl (.inl eT), rfl, _, _, rfl, ?_⟩
      refine ⟨_, _, rfl, rfl, ?_⟩
      refine ⟨_, rfl, rfl, _, rfl, ?_⟩
      rw [dInt]
      by_cases k0 : k = 0
      · rw [if_pos k0, List.append_nil] at nz1
        refine ifF (by rw [decide_eq_true k0]; rfl) ?_
        refine ifF rfl ?_
        refine ⟨_, rfl, rfl, _, rfl, ?_⟩
        rw [dInt]
        refine ifF (by rw [decide_eq_true k0]; rfl) ?_
        exact ⟨S4, f, _, _, rfl, by rw [nz1]; exact cf, by omega⟩
      · rw [if_neg k0] at nz1
        refine ifT (by rw [decide_eq_false k0]; rfl) ?_
        refine ⟨_, rfl, rfl, _, rfl, ?_⟩
        rw [emp_text]
        by_cases ce : cds f = []
        · have le := kP_nil (cf.symm.trans ce)
          rw [le, List.nil_append] at nz1
          refine ifT (decide_eq_true ce) ?_
          refine ⟨_, rfl, _, _, rfl, rfl, _, rfl, ?_⟩
          by_cases neg : k < 0
          · refine ifT (decide_eq_true neg) ?_
            refine ⟨_, rfl, _, rfl, i, k, rfl, by omega, bk, fun t ht => ?_⟩
            have lt := len_cds t
            rw [ht] at lt
            have n1 : ("-" : Str).length = 1 := rfl
            refine ⟨_, _, rfl, rfl, by omega, S4, _, _, _, rfl, ?_, by rw [app_len]; omega⟩
            rw [nz1, kP_one, cds_app, ht, show cds "-" = [45] by decide +kernel]
            show _ = (if decide (k < 0) = true then [45] else []) ++ _
            rw [decide_eq_true neg]
            rfl
          · refine ifF (decide_eq_false neg) ?_
            refine ⟨_, rfl, _, rfl, i, k, rfl, by omega, bk, fun t ht => ?_⟩
            have lt := len_cds t
            rw [ht] at lt
            have n1 : ("" : Str).length = 0 := rfl
            refine ⟨_, _, rfl, rfl, by omega, S4, _, _, _, rfl, ?_, by rw [app_len]; omega⟩
            rw [nz1, kP_one, cds_app, ht, show cds "" = [] by rfl]
            show _ = (if decide (k < 0) = true then [45] else []) ++ _
            rw [decide_eq_false neg]
            rfl
        · have ln : nzT 0 (ns.take i) ≠ [] := by
            intro z
            rw [z] at cf
            exact ce cf
          refine ifF (decide_eq_false ce) ?_
          refine ⟨_, rfl, rfl, _, rfl, ?_⟩
          rw [dInt]
          refine ifT (by rw [decide_eq_false k0]; rfl) ?_
          refine ⟨_, rfl, _, rfl, _, _, rfl, rfl, _, rfl, ?_⟩
          by_cases neg : k < 0
          · refine ifT (decide_eq_true neg) ?_
            have n1 : (" - " : Str).length = 3 := rfl
            refine ⟨_, _, rfl, rfl, by omega, _, rfl, _, rfl, i, k, rfl, by omega, bk, fun t ht => ?_⟩
            have lt := len_cds t
            rw [ht] at lt
            refine ⟨_, _, rfl, rfl, by rw [app_len]; omega, S4, _, _, _, rfl, ?_, by rw [app_len, app_len]; omega⟩
            rw [nz1, kP_snoc ln, cds_app, cds_app, ht, cf, show cds " - " = [32, 45, 32] by decide +kernel]
            show _ = _ ++ (32 :: (if decide (k < 0) = true then 45 else 43) :: 32 :: _)
            rw [decide_eq_true neg, List.append_assoc]
            rfl
          · refine ifF (decide_eq_false neg) ?_
            have n1 : (" + " : Str).length = 3 := rfl
            refine ⟨_, _, rfl, rfl, by omega, _, rfl, _, rfl, i, k, rfl, by omega, bk, fun t ht => ?_⟩
            have lt := len_cds t
            rw [ht] at lt
            refine ⟨_, _, rfl, rfl, by rw [app_len]; omega, S4, _, _, _, rfl, ?_, by rw [app_len, app_len]; omega⟩
            rw [nz1, kP_snoc ln, cds_app, cds_app, ht, cf, show cds " + " = [32, 43, 32] by decide +kernel]
            show _ = _ ++ (32 :: (if decide (k < 0) = true then 45 else 43) :: 32 :: _)
            rw [decide_eq_false neg, List.append_assoc]
            rfl
    · rintro σ H3 ⟨S3, f, x2, x3, rfl, cf, lf⟩
      rw [List.length_map] at cf lf
      rw [List.take_length] at cf
      refine ⟨_, rfl, rfl, _, rfl, ?_⟩
      rw [emp_text]
      by_cases ce : cds f = []
      · refine ifT (decide_eq_true ce) ?_
        refine q _ _ S3 ?_ (by show 1 ≤ _; omega)
        rw [kP_nil (cf.symm.trans ce)]
        decide +kernel
      · refine ifF (decide_eq_false ce) ?_
        refine ⟨_, rfl, q _ _ S3 ?_ (by omega)⟩
        rw [cf, kP_tx]
        intro z
        rw [z] at cf
        exact ce cf
theorem scKindsTextL : FnScope ["_law_kinds", "_law_found", "_law_index", "_law_number_here", "_law_size", "_law_lead"] ["_law_kinds"] (defScope sKindsTextL) :=
  ⟨rfl, rfl, rfl, by decide +kernel, rfl, by decide +kernel, by decide +kernel⟩
theorem dKindsTextL (T : Tx K mg) : Def P w K mg base CX0 4 "_law_kinds_text" ["_law_kinds"] (spKW K) := by
  refine T.t_law_kinds_text.def_ (N := ["_law_kinds", "_law_found", "_law_index", "_law_number_here", "_law_size", "_law_lead"]) scKindsTextL (fun _ _ _ _ _ _ us hl => match us, hl with | [_], _ => rfl) ?_ ?_
  · intro vs H Q E h
    obtain ⟨a, ns, rfl, _⟩ := h
    rfl
  · intro f cd A out s H vs Q E hr h
    obtain ⟨a, ns, rfl, S, mb, q⟩ := h
    refine ⟨_, (pss_cons (ps_set (i := 1) scKindsTextL.nd rfl (Or.inl rfl) pe_str)
      (pss_cons (ps_for PassesOwn.never rfl (pi_enumT rfl T.f_enumerate (pa_cons (pv 0) pa_nil)) (pg_tup rfl (pgs_cons (pg_name (i := 2) scKindsTextL.nd rfl (Or.inl rfl)) (pgs_cons (pg_name (i := 3) scKindsTextL.nd rfl (Or.inl rfl)) pgs_nil)))
        (pss_one (ps_if (pt_cmpR op_ne (pv 3) pe_int (nomark _)) (pss_cons (ps_set (i := 4) scKindsTextL.nd rfl (Or.inl rfl) (pe_ifExp (pt_cmpR op_eq (pe_callB call_abs rfl T.f_abs (by decide +kernel) (pa_cons (pv 3) pa_nil)) pe_int (nomark _)) pe_str (pe_callTy call_str_int rfl T.f_str (by decide +kernel) (pa_cons (pe_callB call_abs rfl T.f_abs (by decide +kernel) (pa_cons (pv 3) pa_nil)) pa_nil))))
          (pss_cons (ps_set (i := 5) scKindsTextL.nd rfl (Or.inl rfl) (pe_ifExp (pt_cmpR op_lt (pv 3) pe_int (nomark _)) pe_str pe_str))
          (pss_cons (ps_if (pt_cmpR op_ne (pv 1) pe_str (nomark _)) (pss_one (ps_set (i := 5) scKindsTextL.nd rfl (Or.inl rfl) (pe_ifExp (pt_cmpR op_lt (pv 3) pe_int (nomark _)) pe_str pe_str))) pss_nil)
          (pss_one (ps_set (i := 1) scKindsTextL.nd rfl (Or.inl rfl) (pe_op op_add_str (pe_op op_add_str (pe_op op_add_str (pe_op op_add_str (pe_op op_add_str (pv 1) (pv 5)) (pv 4)) pe_str) (pe_callTy call_str_int rfl T.f_str (by decide +kernel) (pa_cons (pv 2) pa_nil))) pe_str)))))) pss_nil)))
      (pss_one (ps_ret (pe_ifExp (pt_cmpR op_ne (pv 1) pe_str (nomark _)) (pv 1) pe_str))))), ?_⟩
    refine ⟨_, rfl, a, _, rfl, S, ?_⟩
    refine for_enumT (K := K) (a := a) (xs := ns.map V.int) (fun i σ H3 => Same H H3 ∧ ∃ (f : Str) (x2 x3 x4 x5 : Option V), σ = [some (.ref a), some (.str f), x2, x3, x4, x5] ∧ cds f = kP (nzT 0 (ns.take i)) ∧ f.length ≤ 68 * i)
      ⟨Same.refl H, "", _, _, _, _, rfl, rfl, Nat.zero_le _⟩ (fun i σ H3 _ h => same_sqt h.1 S) ?_ ?_
    · rintro i u σ H3 T hu ⟨S3, f, x2, x3, x4, x5, rfl, cf, lf⟩ fT
      obtain ⟨li, eu⟩ := List.getElem?_eq_some_iff.mp hu
      rw [List.length_map] at li
      obtain ⟨k, hk⟩ : ∃ k, ns[i]? = some k := ⟨_, List.getElem?_eq_getElem li⟩
      have euk : u = .int k := by
        rw [List.getElem?_map, hk] at hu
        exact (Option.some.inj hu).symm
      subst euk
      have mk : k ∈ ns := List.mem_of_getElem? hk
      have bk : k.natAbs < 10 ^ 61 := Nat.lt_trans (mb.2.2 k mk) (by decide +kernel)
      have l60 := mb.2.1
      have ts : ns.take (i + 1) = ns.take i ++ [k] := by rw [List.take_add_one, hk]; rfl
      have nl : (ns.take i).length = i := by rw [List.length_take]; omega
      have nz1 := nzT_snoc k (ns.take i) 0
      rw [nl, Nat.zero_add, ← ts] at nz1
      have tl := tm_len (x := i) (k := k) (by omega) bk
      have S4 : Same H (upd H3 T (.tup [.int (i : Nat), .int k])) := S3.trans (same_new fT)
      have eT : (upd H3 T (.tup [.int (i : Nat), .int k])) T = some (.tup [.int (i : Nat), .int k]) := upd_same
      generalize upd H3 T _ = H4 at S4 eT ⊢
      have nn := sizeLine_eq
      have fl := len_cds f
      refine ⟨T, _, rfl, .inl (.inl eT), rfl, _, _, rfl, ?_⟩
      refine ⟨_, _, rfl, rfl, ?_⟩
      refine ⟨_, rfl, rfl, _, rfl, ?_⟩
      rw [dInt]
      by_cases k0 : k = 0
      · rw [if_pos k0, List.append_nil] at nz1
        refine ifF (by rw [decide_eq_true k0]; rfl) ?_
        exact ⟨S4, f, _, _, _, _, rfl, by rw [nz1]; exact cf, by omega⟩
      rw [if_neg k0] at nz1
      refine ifT (by rw [decide_eq_false k0]; rfl) ?_
      have dk := abs_dgs k
      have ak : (if k < 0 then -k else k).natAbs < 10 ^ 61 := by
        have : (if k < 0 then -k else k).natAbs = k.natAbs := by split <;> omega
        omega
      have lx : (i : Int).natAbs < 10 ^ 61 := small61 (by omega)
      have dx := dgs_num i
      refine ⟨_, rfl, k, rfl, rfl, _, rfl, ?_⟩
      rw [dInt, show decide ((if k < 0 then -k else k) = 1) = decide (k.natAbs = 1) from decide_eq_decide.mpr (by split <;> omega)]
      -- the size
      have fin : ∀ (sz ld : Str), cds sz = (if (!decide (k.natAbs = 1)) = true then dgs k.natAbs else []) → cds ld = (if cds f = [] then (if k < 0 then [45] else []) else [32, (if k < 0 then 45 else 43), 32]) →
          cds (f ++ ld ++ sz ++ "[" ++ Str.ofString (toString (i : Int)) ++ "]") = kP (nzT 0 (ns.take (i + 1))) ∧ (f ++ ld ++ sz ++ "[" ++ Str.ofString (toString (i : Int)) ++ "]").length ≤ 68 * (i + 1) := by
        intro sz ld hs hl
        have key : cds (f ++ ld ++ sz ++ "[" ++ Str.ofString (toString (i : Int)) ++ "]") = cds f ++ cds ld ++ tmT (tmOf i k) := by
          rw [cds_app, cds_app, cds_app, cds_app, cds_app, hs, c91, c93, dx]
          unfold tmT tmOf
          simp
        refine ⟨?_, ?_⟩
        · rw [key, nz1, hl]
          by_cases ce : cds f = []
          · have le := kP_nil (cf.symm.trans ce)
            rw [le, List.nil_append, kP_one, if_pos ce, ce, List.nil_append]
            show _ = (if decide (k < 0) = true then [45] else []) ++ _
            by_cases neg : k < 0
            · rw [if_pos neg, decide_eq_true neg]
              rfl
            · rw [if_neg neg, decide_eq_false neg]
              rfl
          · have ln : nzT 0 (ns.take i) ≠ [] := by
              intro z
              rw [z] at cf
              exact ce cf
            rw [if_neg ce, kP_snoc ln, cf, List.append_assoc]
            show _ = _ ++ (32 :: (if decide (k < 0) = true then 45 else 43) :: 32 :: _)
            by_cases neg : k < 0
            · rw [if_pos neg, decide_eq_true neg]
              rfl
            · rw [if_neg neg, decide_eq_false neg]
              rfl
        · rw [len_cds, key, List.length_append, List.length_append]
          have : (cds ld).length ≤ 3 := by
            rw [hl]
            split
            · split <;> simp
            · simp
          omega
      have bnd : ∀ (sz ld : Str), sz.length ≤ 61 → ld.length ≤ 3 → f.length + ld.length ≤ sizeLine ∧ (f ++ ld).length + sz.length ≤ sizeLine ∧ (f ++ ld ++ sz).length + ("[" : Str).length ≤ sizeLine ∧
          (f ++ ld ++ sz ++ "[").length + (Str.ofString (toString (i : Int))).length ≤ sizeLine ∧ (f ++ ld ++ sz ++ "[" ++ Str.ofString (toString (i : Int))).length + ("]" : Str).length ≤ sizeLine := by
        intro sz ld h1 h2
        have n1 : ("[" : Str).length = 1 := rfl
        have n2 : ("]" : Str).length = 1 := rfl
        have sx : (Str.ofString (toString (i : Int))).length ≤ 2 := by
          rw [len_cds, dx]
          exact dgs_len (by decide) (by omega)
        simp only [app_len]
        omega
      by_cases c1 : k.natAbs = 1
      case' pos =>
        refine ifT (decide_eq_true c1) ?_
        have hs : cds "" = (if (!decide (k.natAbs = 1)) = true then dgs k.natAbs else []) := by rw [decide_eq_true c1]; rfl
        have ls : ("" : Str).length ≤ 61 := by decide
      case' neg =>
        refine ifF (decide_eq_false c1) ?_
        refine ⟨_, rfl, k, rfl, _, rfl, log_small ak, ?_⟩
        have hs : cds (Str.ofString (toString (if k < 0 then -k else k))) = (if (!decide (k.natAbs = 1)) = true then dgs k.natAbs else []) := by rw [decide_eq_false c1, dk]; rfl
        have ls : (Str.ofString (toString (if k < 0 then -k else k))).length ≤ 61 := by
          rw [len_cds, dk]
          exact dgs_len61 bk
      all_goals
        refine ⟨_, rfl, _, _, rfl, rfl, _, rfl, ite2 (fun ng => ?_) (fun ng => ?_)⟩
        all_goals
          refine ⟨_, rfl, rfl, _, rfl, ?_⟩
          rw [emp_text]
          by_cases ce : cds f = []
          case' pos => refine ifF (by rw [decide_eq_true ce]; rfl) ?_
          case' neg =>
            refine ifT (by rw [decide_eq_false ce]; rfl) ?_
            refine ⟨_, rfl, _, _, rfl, rfl, _, rfl, ite2 (fun ng2 => ?_) (fun ng2 => ?_)⟩
          all_goals
            first
              | (have hld : cds "-" = (if cds f = [] then (if k < 0 then [45] else []) else [32, (if k < 0 then 45 else 43), 32]) := by
                  rw [if_pos ce, if_pos (of_decide_eq_true ng)]
                  decide +kernel
                 obtain ⟨f1, f2⟩ := fin _ _ hs hld
                 obtain ⟨b1, b2, b3, b4, b5⟩ := bnd _ _ ls (by decide : ("-" : Str).length ≤ 3)
                 exact ⟨_, rfl, _, rfl, _, _, rfl, rfl, b1, _, rfl, _, _, rfl, rfl, b2, _, _, rfl, rfl, b3, _, rfl, (i : Int), rfl, log_small lx, _, _, rfl, rfl, b4, _, _, rfl, rfl, b5, S4, _, _, _, _, _, rfl, f1, f2⟩)
              | (have hld : cds "" = (if cds f = [] then (if k < 0 then [45] else []) else [32, (if k < 0 then 45 else 43), 32]) := by
                  rw [if_pos ce, if_neg (fun z => ng (decide_eq_true z))]
                  rfl
                 obtain ⟨f1, f2⟩ := fin _ _ hs hld
                 obtain ⟨b1, b2, b3, b4, b5⟩ := bnd _ _ ls (by decide : ("" : Str).length ≤ 3)
                 exact ⟨_, rfl, _, rfl, _, _, rfl, rfl, b1, _, rfl, _, _, rfl, rfl, b2, _, _, rfl, rfl, b3, _, rfl, (i : Int), rfl, log_small lx, _, _, rfl, rfl, b4, _, _, rfl, rfl, b5, S4, _, _, _, _, _, rfl, f1, f2⟩)
              | (have hld : cds " - " = (if cds f = [] then (if k < 0 then [45] else []) else [32, (if k < 0 then 45 else 43), 32]) := by
                  rw [if_neg ce, if_pos (of_decide_eq_true ng2)]
                  decide +kernel
                 obtain ⟨f1, f2⟩ := fin _ _ hs hld
                 obtain ⟨b1, b2, b3, b4, b5⟩ := bnd _ _ ls (by decide : (" - " : Str).length ≤ 3)
                 exact ⟨_, rfl, _, rfl, _, _, rfl, rfl, b1, _, rfl, _, _, rfl, rfl, b2, _, _, rfl, rfl, b3, _, rfl, (i : Int), rfl, log_small lx, _, _, rfl, rfl, b4, _, _, rfl, rfl, b5, S4, _, _, _, _, _, rfl, f1, f2⟩)
              | (have hld : cds " + " = (if cds f = [] then (if k < 0 then [45] else []) else [32, (if k < 0 then 45 else 43), 32]) := by
                  rw [if_neg ce, if_neg (fun z => ng2 (decide_eq_true z))]
                  decide +kernel
                 obtain ⟨f1, f2⟩ := fin _ _ hs hld
                 obtain ⟨b1, b2, b3, b4, b5⟩ := bnd _ _ ls (by decide : (" + " : Str).length ≤ 3)
                 exact ⟨_, rfl, _, rfl, _, _, rfl, rfl, b1, _, rfl, _, _, rfl, rfl, b2, _, _, rfl, rfl, b3, _, rfl, (i : Int), rfl, log_small lx, _, _, rfl, rfl, b4, _, _, rfl, rfl, b5, S4, _, _, _, _, _, rfl, f1, f2⟩)
    · rintro σ H3 ⟨S3, f, x2, x3, x4, x5, rfl, cf, lf⟩
      rw [List.length_map] at cf lf
      rw [List.take_length] at cf
      refine ⟨_, rfl, rfl, _, rfl, ?_⟩
      rw [emp_text]
      by_cases ce : cds f = []
      · refine ifF (by rw [decide_eq_true ce]; rfl) ?_
        refine q _ _ S3 ?_ (by show 1 ≤ _; omega)
        rw [kP_nil (cf.symm.trans ce)]
        decide +kernel
      · refine ifT (by rw [decide_eq_false ce]; rfl) ?_
        refine ⟨_, rfl, q _ _ S3 ?_ (by omega)⟩
        rw [cf, kP_tx]
        intro z
        rw [z] at cf
        exact ce cf
end
end K84


set_option Elab.async false
set_option linter.all false
set_option maxRecDepth 100000
set_option maxHeartbeats 2000000
namespace K84
open PySem PySem.Spec PyProof.Rows L2 MM PySem.NumText
/-! own words for the readings: a step, its side -/
local macro_rules | `(tactic| walk_at "side") => `(tactic| first
  | omega
  | exact ⟨by omega, by omega⟩
  | exact Or.inl ⟨by omega, by omega⟩
  | exact Or.inr ⟨by omega, by omega⟩
  | (show CPw _ _; decide +kernel)
  | (show (0 : Int) < _; decide +kernel)
  | (show CDivW _ _; first | assumption | exact ⟨by decide, by decide +kernel⟩))
local macro_rules | `(tactic| walk_at "here") => `(tactic| first
  | assumption
  | exact upd_same
  | exact Or.inl (Or.inl upd_same)
  | exact Or.inl upd_same)
local macro_rules | `(tactic| walk_at "one") => `(tactic| first
  | refine ⟨_, rfl, ?_⟩
  | refine Or.inl ⟨_, rfl, ?_⟩
  | refine Or.inr ⟨_, rfl, ?_⟩
  | refine ⟨_, _, rfl, rfl, (by walk_at "side"), ?_⟩
  | refine ⟨_, _, rfl, rfl, ?_⟩
  | refine ⟨_, _, rfl, Or.inl (by walk_at "here"), ?_⟩
  | refine ⟨_, _, rfl, Or.inr (by walk_at "here"), ?_⟩
  | refine ⟨_, _, rfl, (by walk_at "here"), ?_⟩
  | refine ⟨_, _, _, _, rfl, rfl, (by walk_at "here"), rfl, ?_⟩
  | refine ⟨_, _, rfl, ?_⟩
  | refine ifT (by rfl) ?_
  | refine ifF (by rfl) ?_
  | refine ifT (decide_eq_true (by omega)) ?_
  | refine ifF (decide_eq_false (by omega)) ?_)
local macro_rules | `(tactic| walk_at "st") => `(tactic| repeat (walk_at "one"))

section
variable {P : Program} {w : World} {K : PySem.W.Frag} {mg : Str → Option Value} {base : Heap}
/-! data of tuples of places -/
def dM (m : List Nat) : PyData := .tuple ((m.map fun (k : Nat) => (k : Int)).map PyData.int)
theorem mv_ints (m : List Nat) : mv m = (m.map fun (k : Nat) => (k : Int)).map V.int := by
  unfold mv
  rw [List.map_map]
  rfl
theorem dp_mv {H : Hp} {a : Addr} {m : List Nat} (S : SqT K H a (mv m)) : Dp K H (.ref a) (dM m) := by
  rw [mv_ints] at S
  exact .tup S (dp_ints _)
theorem dM_eqv (m l : List Nat) : PyData.eqv (dM m) (dM l) = decide (m = l) := by
  show PyData.eqvAll _ _ = _
  rw [eqvAll_ints]
  refine decide_eq_decide.mpr ⟨fun h => ?_, fun h => by rw [h]⟩
  exact (List.map_inj_right (fun a b e => by omega)).mp h
theorem dp_refs {H : Hp} {us : List V} {R : List (List Nat)} (h : Refs K H us R) : DpAll K H us (R.map dM) := by
  unfold Refs at h
  induction h with
  | nil => exact .nil
  | cons h _ ih =>
    obtain ⟨a, rfl, S⟩ := h
    exact .cons (dp_mv S) ih
theorem lay_dms : ∀ R : List (List Nat), PyData.canLayAll0 (R.map dM) = true
  | [] => rfl
  | r :: R => by
    show (PyData.canLay0 (dM r) && PyData.canLayAll0 (R.map dM)) = true
    rw [lay_dms R, show PyData.canLay0 (dM r) = true from lay_ints _]
    rfl
theorem dep_dms : ∀ R : List (List Nat), PyData.depthAll (R.map dM) ≤ 3
  | [] => by decide
  | r :: R => by
    have := dep_dms R
    have h := dep_ints (r.map fun (k : Nat) => (k : Int))
    have h2 : PyData.depth (dM r) ≤ 2 := by
      unfold dM
      simp only [PyData.depth]
      omega
    simp only [List.map_cons, PyData.depthAll]
    omega
theorem shaped_dml (R : List (List Nat)) : SeqAt.shaped (.list (R.map dM)) = true := by
  unfold SeqAt.shaped
  have h := dep_dms R
  rw [show PyData.canLay0 (.list (R.map dM)) = true from lay_dms R, Bool.true_and]
  refine decide_eq_true ?_
  simp only [PyData.depth]
  omega
/-- the rings of two places or more -/
def bigR (m : List Nat) : List (List Nat) := (rings (fn' m) m.length).filter fun r => decide (1 < r.length)
theorem joinL_more : ∀ (p : Nat) (r : List Nat), TL.joinL [32] ((p :: r).map dgs) ++ [41] = dgs p ++ more r
  | p, [] => rfl
  | p, q :: r => by
    show (dgs p ++ ([32] ++ TL.joinL [32] ((q :: r).map dgs))) ++ [41] = dgs p ++ (32 :: (dgs q ++ more r))
    rw [List.append_assoc, List.append_assoc, joinL_more q r]
    rfl
theorem joinL_nil : ∀ L : List (List Nat), TL.joinL [] L = L.flatten
  | [] => rfl
  | [p] => by
    show p = p ++ []
    rw [List.append_nil]
  | p :: q :: r => by
    show p ++ ([] ++ TL.joinL [] (q :: r)) = p ++ (q :: r).flatten
    rw [joinL_nil (q :: r)]
    rfl
/-- the text of one ring -/
def ringS (r : List Nat) : Str := "(" ++ Txt.join " " (r.map fun (k : Nat) => Str.ofString (toString (k : Int))) ++ ")"
theorem ringS_cds {r : List Nat} (ne : r ≠ []) : cds (ringS r) = ringT r := by
  obtain ⟨p, r, rfl⟩ := List.exists_cons_of_ne_nil ne
  unfold ringS
  rw [cds_app, cds_app, join_cds, show cds "(" = [40] by decide +kernel, show cds " " = [32] by decide +kernel, show cds ")" = [41] by decide +kernel, List.map_map,
    show (p :: r).map (cds ∘ fun (k : Nat) => Str.ofString (toString (k : Int))) = (p :: r).map dgs from List.map_congr_left fun k _ => dgs_num k, List.append_assoc, joinL_more]
  rfl
theorem rings_cds {R : List (List Nat)} (h : ∀ r ∈ R, r ≠ []) (ne : R ≠ []) : cds (Txt.join "" (R.map ringS)) = ringsT R := by
  rw [join_cds, show cds "" = [] from rfl, joinL_nil, List.map_map]
  unfold ringsT
  rw [if_neg ne]
  congr 1
  exact List.map_congr_left fun r hr => ringS_cds (h r hr)
theorem joinS_len (a : Str) : ∀ ys : List Str, (Str.join a ys).length ≤ (ys.map (·.length)).sum + ys.length * a.length
  | [] => Nat.zero_le _
  | [y] => by
    show y.length ≤ _
    simp
  | y :: z :: r => by
    have ih := joinS_len a (z :: r)
    show (y ++ a ++ Str.join a (z :: r)).length ≤ _
    rw [app_len, app_len]
    simp only [List.map_cons, List.sum_cons, List.length_cons, Nat.add_mul] at ih ⊢
    omega
theorem join_len (a : Str) (ys : List Str) : (Txt.join a ys).length ≤ (ys.map (·.length)).sum + ys.length * a.length := by
  rw [TL.join_eq]
  exact joinS_len a ys
theorem place_len {k : Nat} (h : k < 24) : (Str.ofString (toString (k : Int))).length ≤ 2 := by
  rw [len_cds, dgs_num]
  exact dgs_len (by decide) (by omega)
theorem ringS_len {r : List Nat} (l : r.length ≤ 24) (h : ∀ k ∈ r, k < 24) : (ringS r).length ≤ 98 := by
  unfold ringS
  have j1 := join_len " " (r.map fun (k : Nat) => Str.ofString (toString (k : Int)))
  have j2 := sum_leN (B := 2) (ys := r.map fun (k : Nat) => Str.ofString (toString (k : Int))) fun y hy => by
    obtain ⟨k, hk, rfl⟩ := List.mem_map.mp hy
    exact place_len (h k hk)
  have n1 : (" " : Str).length = 1 := rfl
  have n2 : ("(" : Str).length = 1 := rfl
  have n3 : (")" : Str).length = 1 := rfl
  rw [n1] at j1
  rw [List.length_map] at j1 j2
  rw [app_len, app_len]
  omega
/-- rings of a move: few, short, of places below 24 -/
theorem rings24 {m : List Nat} (hm : Mv m) : (rings (fn' m) m.length).length ≤ 24 ∧ ∀ r ∈ rings (fn' m) m.length, r ≠ [] ∧ r.length ≤ 24 ∧ ∀ x ∈ r, x < 24 := by
  have pm := pm_of hm
  have m24 := hm.2.2.2
  have gd := rings_good pm m.length (Nat.le_refl _)
  refine ⟨?_, fun r hr => ⟨?_, ?_, fun x hx => ?_⟩⟩
  · have := ringsTo_len (fn' m) m.length m.length
    show (ringsTo (fn' m) m.length m.length).length ≤ 24
    omega
  · obtain ⟨p, hp, rfl⟩ := gd.each r hr
    intro z
    have := congrArg List.length z
    rw [ringOf_len] at this
    have := lenOf_pos (fn' m) m.length p
    simp at *
    omega
  · obtain ⟨p, hp, rfl⟩ := gd.each r hr
    rw [ringOf_len]
    have := (lenOf_ok pm hp).1
    omega
  · have := gd.below x (List.mem_flatten.mpr ⟨r, hr, hx⟩)
    omega
def spMW (K : PySem.W.Frag) : Sp := fun vs H Q _ => ∃ a m, vs = [.ref a] ∧ SqT K H a (mv m) ∧ Mv m ∧ ∀ H' (z : Str), Same H H' → cds z = ringsT (bigR m) → z.length ≤ 2400 → Q (.str z) H'
theorem scWriteMove : FnScope ["move", "rings", "ring", "place"] ["move"] (defScope sWriteMove) :=
  ⟨rfl, rfl, rfl, by decide +kernel, rfl, by decide +kernel, by decide +kernel⟩
theorem dWriteMove (T : Tx K mg) (DCycles : Def P w K mg base CX0 5 "cycles" ["move"] (spCyc K)) : Def P w K mg base CX0 6 "write_move" ["move"] (spMW K) := by
  refine T.t_write_move.def_ (N := ["move", "rings", "ring", "place"]) scWriteMove (fun _ _ _ _ _ _ us hl => match us, hl with | [_], _ => rfl) ?_ ?_
  · intro vs H Q E h
    obtain ⟨a, m, rfl, _⟩ := h
    rfl
  · intro f cd A out s H vs Q E hr h
    have hr1 : Rm 5 _ := hr.le (by decide)
    obtain ⟨a, m, rfl, S, hm, q⟩ := h
    refine ⟨_, (pss_cons (ps_setLc (i := 1) (own := [("ring", 2)]) (g := gName 2) rfl scWriteMove.nd rfl rfl (sw_true rfl rfl rfl rfl) (pi_tup (pe_d DCycles (hr1.le (by decide)) pass0 (pa_cons (pv 0) pa_nil))) (blkOk_by (N := ["move", "rings", "ring", "place"]) (sc := defScope sWriteMove) (by decide +kernel)) (fun _ _ _ _ _ => pg_name (i := 2) scWriteMove.nd rfl (Or.inl rfl)) (fun _ _ _ _ _ => (pts_one (pt_cmpR op_gt (pe_callB (cr_lenK (K := K) rfl) rfl T.f_len (by decide +kernel) (pa_cons (pv 2) pa_nil)) pe_int (nomark _)))) (fun _ _ _ _ _ => (pv 2)))
      (pss_cons (ps_if (pt_cmpR op_eq (pe_callB call_len_seq rfl T.f_len (by decide +kernel) (pa_cons (pv 1) pa_nil)) pe_int (nomark _)) (pss_one (ps_ret pe_str)) pss_nil)
      (pss_one (ps_ret (pe_join pe_str (pe_lc (own := [("ring", 2)]) (g := gName 2) (tt := tYes) rfl scWriteMove.nd (pi_list (pv 1)) (blkOk_by (N := ["move", "rings", "ring", "place"]) (sc := defScope sWriteMove) (by decide +kernel)) (fun _ _ _ _ _ => pg_name (i := 2) scWriteMove.nd rfl (Or.inl rfl)) (fun _ _ _ _ _ => pts_nil) (fun _ _ _ _ _ => (pe_op op_add_str (pe_op op_add_str pe_str (show PE _ _ (tM1 (rJn K) _ _) from pe_join pe_str (pe_lc (own := [("place", 3)]) (g := gName 3) (tt := tYes) rfl scWriteMove.nd (show PI _ _ _ (iTup K _) from pi_tup (pv 2)) (blkOk_by (N := ["move", "rings", "ring", "place"]) (sc := _) (by kernel_rfl)) (fun _ _ _ _ _ => pg_name (i := 3) scWriteMove.nd rfl (Or.inl rfl)) (fun _ _ _ _ _ => pts_nil) (fun _ _ _ _ _ => (pe_callTy call_str_int rfl T.f_str (by decide +kernel) (pa_cons (pv 3) pa_nil)))))) pe_str)))))))), ?_⟩
    obtain ⟨rl, r24⟩ := rings24 hm
    have eB : bigR m = (rings (fn' m) m.length).filter fun r => decide (1 < r.length) := rfl
    refine ⟨_, rfl, a, m, rfl, S, hm, fun H1 L us s1 hL rf => ?_⟩
    generalize rings (fn' m) m.length = R at rf r24 rl eB
    have ul : us.length = R.length := Paired.length rf
    refine ⟨L, rfl, ⟨_, hL⟩, fun D nD => ?_⟩
    refine lc_tup (xs := us) (fun i H => ∃ sel : List V, H = upd H1 D (.lst sel) ∧ Refs K H1 sel ((R.take i).filter fun r => decide (1 < r.length))) ⟨[], rfl, .nil⟩
      (fun i H _ h => by
        obtain ⟨sel, rfl, _⟩ := h
        exact sqt_new hL nD) ?_ ?_
    · rintro i x H2 hx ⟨sel, rfl, rf'⟩
      obtain ⟨r, t, hr, rfl, St⟩ := rf.get hx
      obtain ⟨lt, _⟩ := List.getElem?_eq_some_iff.mp hx
      have ls : sel.length ≤ 24 := by
        have e : sel.length = _ := Paired.length rf'
        rw [e]
        refine Nat.le_trans (List.length_filter_le _ _) ?_
        rw [List.length_take]
        omega
      have ts : ((R.take (i + 1)).filter fun r => decide (1 < r.length)) = ((R.take i).filter fun r => decide (1 < r.length)) ++ (if 1 < r.length then [r] else []) := by
        rw [List.take_add_one, hr, List.filter_append]
        congr 1
        by_cases c : 1 < r.length
        · rw [if_pos c]
          simp [c]
        · rw [if_neg c]
          simp [c]
      refine ⟨wipe_one, ?_⟩
      refine ⟨_, rfl, t, _, rfl, .inr (sqt_new St nD), _, _, rfl, rfl, _, rfl, ?_⟩
      by_cases c : 1 < r.length
      · refine ifT (decide_eq_true (by rw [mv_len]; omega)) ?_
        rw [if_pos c] at ts
        refine ⟨_, rfl, sel, upd_same, by rw [sizeLine_eq]; omega, ?_⟩
        exact ⟨sel ++ [.ref t], by rw [upd_upd], by rw [ts]; exact rf'.snoc St⟩
      · refine ifF (decide_eq_false (by rw [mv_len]; omega)) ?_
        rw [if_neg c, List.append_nil] at ts
        exact ⟨sel, rfl, by rw [ts]; exact rf'⟩
    rintro H2 ⟨sel, rfl, rf'⟩
    rw [ul, List.take_length, ← eB] at rf'
    have b24 : ∀ r ∈ bigR m, r ≠ [] ∧ r.length ≤ 24 ∧ ∀ x ∈ r, x < 24 := fun r hr => r24 r (by rw [eB] at hr; exact (List.mem_filter.mp hr).1)
    have bl : (bigR m).length ≤ 24 := by
      rw [eB]
      exact Nat.le_trans (List.length_filter_le _ _) rl
    have sl : sel.length = (bigR m).length := Paired.length rf'
    generalize bigR m = B at *
    have S2 : Same H (upd H1 D (.lst sel)) := s1.trans (same_new nD)
    have eD : (upd H1 D (.lst sel)) D = some (.lst sel) := upd_same
    have rf2 := rf'.same (same_new nD (o := .lst sel))
    generalize upd H1 D _ = H2 at S2 eD rf2 ⊢
    refine ⟨_, rfl, D, _, rfl, .inl (.inl (.inl eD)), rfl, _, rfl, ?_⟩
    rw [dInt]
    by_cases bne : B = []
    · refine ifT ?_ ?_
      · rw [sl, bne]
        decide
      refine q _ _ S2 ?_ (by show 2 ≤ 2400; omega)
      rw [bne]
      decide +kernel
    · have bp : B.length ≠ 0 := fun z => bne (List.eq_nil_of_length_eq_zero z)
      refine ifF (decide_eq_false (by omega)) ?_
      refine ⟨⟨_, rfl⟩, _, rfl, D, rfl, ⟨_, .inl (.inl eD)⟩, fun D2 nD2 => ?_⟩
      have DD2 : D ≠ D2 := ne_of_none eD nD2
      refine lc_list (xs := sel) (fun i H => Same H2 H ∧ H D2 = some (.lst (((B.take i).map ringS).map V.str))) ⟨same_new nD2, upd_same⟩
        (fun i H _ h => .inl (.inl (h.1 _ _ eD))) ?_ ?_
      · rintro i x H4 hx ⟨S4, h4⟩
        obtain ⟨r, t, hr, rfl, St⟩ := rf2.get hx
        have mr := List.mem_of_getElem? hr
        obtain ⟨rne, rl24, rx⟩ := b24 r mr
        obtain ⟨lt, _⟩ := List.getElem?_eq_some_iff.mp hx
        refine ⟨wipe_one, ?_⟩
        refine ⟨⟨_, rfl⟩, _, rfl, t, rfl, ⟨_, same_sqt S4 St⟩, fun D3 nD3 => ?_⟩
        refine lc_tplF (fun _ => true) (fun x => match x with | .int i => .str (Str.ofString (toString i)) | _ => .non) (same_sqt S4 St) nD3 (by rw [mv_len, sizeLine_eq]; omega) (fun x acc hx Q' q' => q') ?_ ?_
        · intro x acc hx _ Q' q'
          obtain ⟨k, hk, rfl⟩ := List.mem_map.mp hx
          have := rx k hk
          exact ⟨_, rfl, (k : Int), rfl, log_small (small61 (by omega)), q'⟩
        · have D2D3 : D2 ≠ D3 := ne_of_none h4 nD3
          have em : ((mv r).filter fun _ => true).map (fun x => match x with | .int i => V.str (Str.ofString (toString i)) | _ => .non) = (r.map fun (k : Nat) => Str.ofString (toString (k : Int))).map V.str := by
            rw [List.filter_eq_self.mpr (fun _ _ => rfl), List.map_map]
            unfold mv
            rw [List.map_map]
            rfl
          rw [em]
          have S5 : Same H2 (upd H4 D3 (.lst ((r.map fun (k : Nat) => Str.ofString (toString (k : Int))).map V.str))) := S4.trans (same_new nD3)
          have h5 : (upd H4 D3 (.lst ((r.map fun (k : Nat) => Str.ofString (toString (k : Int))).map V.str))) D2 = _ := (upd_ne D2D3).trans h4
          have e5 : (upd H4 D3 (.lst ((r.map fun (k : Nat) => Str.ofString (toString (k : Int))).map V.str))) D3 = _ := upd_same
          generalize upd H4 D3 _ = H5 at S5 h5 e5 ⊢
          have rs := ringS_len rl24 rx
          have rs2 := rs
          unfold ringS at rs2
          rw [app_len, app_len] at rs2
          have j2 := sum_leN (B := 2) (ys := r.map fun (k : Nat) => Str.ofString (toString (k : Int))) fun y hy => by
            obtain ⟨k, hk, rfl⟩ := List.mem_map.mp hy
            exact place_len (rx k hk)
          have n1 : (" " : Str).length = 1 := rfl
          have nn := sizeLine_eq
          have lr : (r.map fun (k : Nat) => Str.ofString (toString (k : Int))).length ≤ 24 := by rw [List.length_map]; exact rl24
          refine ⟨_, D3, _, rfl, rfl, .inl (.inl (.inl e5)), by rw [n1]; omega, _, _, rfl, rfl, by omega, _, _, rfl, rfl, by rw [app_len]; omega, _, h5, by rw [List.length_map, List.length_map, List.length_take]; omega, ?_⟩
          refine ⟨fun b o h => ?_, ?_⟩
          · rw [upd_ne (ne_of_none h nD2)]
            exact S5 b o h
          · rw [upd_same, List.take_add_one, hr, List.map_append, List.map_append]
            rfl
      · rintro H4 ⟨S4, h4⟩
        rw [sl, List.take_length] at h4
        have j1 := join_len "" (B.map ringS)
        have j2 := sum_leN (B := 98) (ys := B.map ringS) fun y hy => by
          obtain ⟨r, hr, rfl⟩ := List.mem_map.mp hy
          exact ringS_len (b24 r hr).2.1 (b24 r hr).2.2
        have n0 : ("" : Str).length = 0 := rfl
        rw [n0] at j1
        rw [List.length_map] at j1 j2
        refine ⟨"", D2, B.map ringS, rfl, rfl, .inl (.inl (.inl h4)), by rw [n0, List.length_map]; omega, ?_⟩
        exact q _ _ (S2.trans S4) (rings_cds (fun r hr => (b24 r hr).1) bne) (by omega)
theorem scMoveTextL : FnScope ["_law_move", "_law_rings", "_law_ring", "_law_place"] ["_law_move"] (defScope sMoveTextL) :=
  ⟨rfl, rfl, rfl, by decide +kernel, rfl, by decide +kernel, by decide +kernel⟩
theorem dMoveTextL (T : Tx K mg) (DCyclesL : Def P w K mg base CX0 1 "_law_cycles" ["_law_move"] (spCycL K)) : Def P w K mg base CX0 6 "_law_move_text" ["_law_move"] (spMW K) := by
  refine T.t_law_move_text.def_ (N := ["_law_move", "_law_rings", "_law_ring", "_law_place"]) scMoveTextL (fun _ _ _ _ _ _ us hl => match us, hl with | [_], _ => rfl) ?_ ?_
  · intro vs H Q E h
    obtain ⟨a, m, rfl, _⟩ := h
    rfl
  · intro f cd A out s H vs Q E hr h
    have hr1 : Rm 1 _ := hr.le (by decide)
    obtain ⟨a, m, rfl, S, hm, q⟩ := h
    refine ⟨_, (pss_cons (ps_setLc (i := 1) (own := [("_law_ring", 2)]) (g := gName 2) rfl scMoveTextL.nd rfl rfl (sw_true rfl rfl rfl rfl) (pi_list (pe_d DCyclesL (hr1.le (by decide)) pass0 (pa_cons (pv 0) pa_nil))) (blkOk_by (N := ["_law_move", "_law_rings", "_law_ring", "_law_place"]) (sc := defScope sMoveTextL) (by decide +kernel)) (fun _ _ _ _ _ => pg_name (i := 2) scMoveTextL.nd rfl (Or.inl rfl)) (fun _ _ _ _ _ => (pts_one (pt_cmpR op_gt (pe_callB (cr_lenK (K := K) rfl) rfl T.f_len (by decide +kernel) (pa_cons (pv 2) pa_nil)) pe_int (nomark _)))) (fun _ _ _ _ _ => (pv 2)))
      (pss_one (ps_ret (pe_ifExp (pt_cmpR (op_neD hr.hu) (pv 1) (pe_lst pa_nil) (nomark _)) (pe_join pe_str (pe_lc (own := [("_law_ring", 2)]) (g := gName 2) (tt := tYes) rfl scMoveTextL.nd (pi_list (pv 1)) (blkOk_by (N := ["_law_move", "_law_rings", "_law_ring", "_law_place"]) (sc := defScope sMoveTextL) (by decide +kernel)) (fun _ _ _ _ _ => pg_name (i := 2) scMoveTextL.nd rfl (Or.inl rfl)) (fun _ _ _ _ _ => pts_nil) (fun _ _ _ _ _ => (pe_op op_add_str (pe_op op_add_str pe_str (show PE _ _ (tM1 (rJn K) _ _) from pe_join pe_str (pe_lc (own := [("_law_place", 3)]) (g := gName 3) (tt := tYes) rfl scMoveTextL.nd (show PI _ _ _ (iTup K _) from pi_tup (pv 2)) (blkOk_by (N := ["_law_move", "_law_rings", "_law_ring", "_law_place"]) (sc := _) (by kernel_rfl)) (fun _ _ _ _ _ => pg_name (i := 3) scMoveTextL.nd rfl (Or.inl rfl)) (fun _ _ _ _ _ => pts_nil) (fun _ _ _ _ _ => (pe_callTy call_str_int rfl T.f_str (by decide +kernel) (pa_cons (pv 3) pa_nil)))))) pe_str)))) pe_str)))), ?_⟩
    obtain ⟨rl, r24⟩ := rings24 hm
    have eB : bigR m = (rings (fn' m) m.length).filter fun r => decide (1 < r.length) := rfl
    refine ⟨_, rfl, a, m, rfl, S, hm, fun H1 L us s1 L0 hL rf => ?_⟩
    replace hL : SqL K H1 L us := .inl (.inl hL)
    generalize rings (fn' m) m.length = R at rf r24 rl eB
    have ul : us.length = R.length := Paired.length rf
    refine ⟨L, rfl, ⟨_, hL⟩, fun D nD => ?_⟩
    refine lc_list (xs := us) (fun i H => ∃ sel : List V, H = upd H1 D (.lst sel) ∧ Refs K H1 sel ((R.take i).filter fun r => decide (1 < r.length))) ⟨[], rfl, .nil⟩
      (fun i H _ h => by
        obtain ⟨sel, rfl, _⟩ := h
        exact sql_new hL nD) ?_ ?_
    · rintro i x H2 hx ⟨sel, rfl, rf'⟩
      obtain ⟨r, t, hr, rfl, St⟩ := rf.get hx
      obtain ⟨lt, _⟩ := List.getElem?_eq_some_iff.mp hx
      have ls : sel.length ≤ 24 := by
        have e : sel.length = _ := Paired.length rf'
        rw [e]
        refine Nat.le_trans (List.length_filter_le _ _) ?_
        rw [List.length_take]
        omega
      have ts : ((R.take (i + 1)).filter fun r => decide (1 < r.length)) = ((R.take i).filter fun r => decide (1 < r.length)) ++ (if 1 < r.length then [r] else []) := by
        rw [List.take_add_one, hr, List.filter_append]
        congr 1
        by_cases c : 1 < r.length
        · rw [if_pos c]
          simp [c]
        · rw [if_neg c]
          simp [c]
      refine ⟨wipe_one, ?_⟩
      refine ⟨_, rfl, t, _, rfl, .inr (sqt_new St nD), _, _, rfl, rfl, _, rfl, ?_⟩
      by_cases c : 1 < r.length
      · refine ifT (decide_eq_true (by rw [mv_len]; omega)) ?_
        rw [if_pos c] at ts
        refine ⟨_, rfl, sel, upd_same, by rw [sizeLine_eq]; omega, ?_⟩
        exact ⟨sel ++ [.ref t], by rw [upd_upd], by rw [ts]; exact rf'.snoc St⟩
      · refine ifF (decide_eq_false (by rw [mv_len]; omega)) ?_
        rw [if_neg c, List.append_nil] at ts
        exact ⟨sel, rfl, by rw [ts]; exact rf'⟩
    rintro H2 ⟨sel, rfl, rf'⟩
    rw [ul, List.take_length, ← eB] at rf'
    have b24 : ∀ r ∈ bigR m, r ≠ [] ∧ r.length ≤ 24 ∧ ∀ x ∈ r, x < 24 := fun r hr => r24 r (by rw [eB] at hr; exact (List.mem_filter.mp hr).1)
    have bl : (bigR m).length ≤ 24 := by
      rw [eB]
      exact Nat.le_trans (List.length_filter_le _ _) rl
    have sl : sel.length = (bigR m).length := Paired.length rf'
    generalize bigR m = B at *
    have S2 : Same H (upd H1 D (.lst sel)) := s1.trans (same_new nD)
    have eD : (upd H1 D (.lst sel)) D = some (.lst sel) := upd_same
    have rf2 := rf'.same (same_new nD (o := .lst sel))
    generalize upd H1 D _ = H2 at S2 eD rf2 ⊢
    refine ⟨_, rfl, by show 0 ≤ sizeLine; decide, fun E1 nE => ?_⟩
    have S3 := S2.trans (same_new nE (o := .lst []))
    have eD3 := same_new nE (o := .lst []) _ _ eD
    have rf3 := rf2.same (same_new nE (o := .lst []))
    refine ⟨.list (B.map dM), .list [], .lst (.inl (.inl eD3)) (dp_refs rf3), .lst (.inl (.inl upd_same)) .nil, shaped_dml _, by decide, ?_⟩
    clear S2 eD rf2
    generalize upd H2 E1 _ = H2 at S3 eD3 rf3 ⊢
    have S2 := S3
    have eD := eD3
    have rf2 := rf3
    refine ⟨_, rfl, ?_⟩
    by_cases bne : B = []
    · refine ifF ?_ ?_
      · rw [bne]
        decide
      refine q _ _ S2 ?_ (by show 2 ≤ 2400; omega)
      rw [bne]
      decide +kernel
    · refine ifT ?_ ?_
      · obtain ⟨b, B', rfl⟩ := List.exists_cons_of_ne_nil bne
        rfl
      refine ⟨⟨_, rfl⟩, _, rfl, D, rfl, ⟨_, .inl (.inl eD)⟩, fun D2 nD2 => ?_⟩
      have DD2 : D ≠ D2 := ne_of_none eD nD2
      refine lc_list (xs := sel) (fun i H => Same H2 H ∧ H D2 = some (.lst (((B.take i).map ringS).map V.str))) ⟨same_new nD2, upd_same⟩
        (fun i H _ h => .inl (.inl (h.1 _ _ eD))) ?_ ?_
      · rintro i x H4 hx ⟨S4, h4⟩
        obtain ⟨r, t, hr, rfl, St⟩ := rf2.get hx
        have mr := List.mem_of_getElem? hr
        obtain ⟨rne, rl24, rx⟩ := b24 r mr
        obtain ⟨lt, _⟩ := List.getElem?_eq_some_iff.mp hx
        refine ⟨wipe_one, ?_⟩
        refine ⟨⟨_, rfl⟩, _, rfl, t, rfl, ⟨_, same_sqt S4 St⟩, fun D3 nD3 => ?_⟩
        refine lc_tplF (fun _ => true) (fun x => match x with | .int i => .str (Str.ofString (toString i)) | _ => .non) (same_sqt S4 St) nD3 (by rw [mv_len, sizeLine_eq]; omega) (fun x acc hx Q' q' => q') ?_ ?_
        · intro x acc hx _ Q' q'
          obtain ⟨k, hk, rfl⟩ := List.mem_map.mp hx
          have := rx k hk
          exact ⟨_, rfl, (k : Int), rfl, log_small (small61 (by omega)), q'⟩
        · have D2D3 : D2 ≠ D3 := ne_of_none h4 nD3
          have em : ((mv r).filter fun _ => true).map (fun x => match x with | .int i => V.str (Str.ofString (toString i)) | _ => .non) = (r.map fun (k : Nat) => Str.ofString (toString (k : Int))).map V.str := by
            rw [List.filter_eq_self.mpr (fun _ _ => rfl), List.map_map]
            unfold mv
            rw [List.map_map]
            rfl
          rw [em]
          have S5 : Same H2 (upd H4 D3 (.lst ((r.map fun (k : Nat) => Str.ofString (toString (k : Int))).map V.str))) := S4.trans (same_new nD3)
          have h5 : (upd H4 D3 (.lst ((r.map fun (k : Nat) => Str.ofString (toString (k : Int))).map V.str))) D2 = _ := (upd_ne D2D3).trans h4
          have e5 : (upd H4 D3 (.lst ((r.map fun (k : Nat) => Str.ofString (toString (k : Int))).map V.str))) D3 = _ := upd_same
          generalize upd H4 D3 _ = H5 at S5 h5 e5 ⊢
          have rs := ringS_len rl24 rx
          have rs2 := rs
          unfold ringS at rs2
          rw [app_len, app_len] at rs2
          have j2 := sum_leN (B := 2) (ys := r.map fun (k : Nat) => Str.ofString (toString (k : Int))) fun y hy => by
            obtain ⟨k, hk, rfl⟩ := List.mem_map.mp hy
            exact place_len (rx k hk)
          have n1 : (" " : Str).length = 1 := rfl
          have nn := sizeLine_eq
          have lr : (r.map fun (k : Nat) => Str.ofString (toString (k : Int))).length ≤ 24 := by rw [List.length_map]; exact rl24
          refine ⟨_, D3, _, rfl, rfl, .inl (.inl (.inl e5)), by rw [n1]; omega, _, _, rfl, rfl, by omega, _, _, rfl, rfl, by rw [app_len]; omega, _, h5, by rw [List.length_map, List.length_map, List.length_take]; omega, ?_⟩
          refine ⟨fun b o h => ?_, ?_⟩
          · rw [upd_ne (ne_of_none h nD2)]
            exact S5 b o h
          · rw [upd_same, List.take_add_one, hr, List.map_append, List.map_append]
            rfl
      · rintro H4 ⟨S4, h4⟩
        rw [sl, List.take_length] at h4
        have j1 := join_len "" (B.map ringS)
        have j2 := sum_leN (B := 98) (ys := B.map ringS) fun y hy => by
          obtain ⟨r, hr, rfl⟩ := List.mem_map.mp hy
          exact ringS_len (b24 r hr).2.1 (b24 r hr).2.2
        have n0 : ("" : Str).length = 0 := rfl
        rw [n0] at j1
        rw [List.length_map] at j1 j2
        refine ⟨"", D2, B.map ringS, rfl, rfl, .inl (.inl (.inl h4)), by rw [n0, List.length_map]; omega, ?_⟩
        exact q _ _ (S2.trans S4) (rings_cds (fun r hr => (b24 r hr).1) bne) (by omega)
end
end K84


set_option Elab.async false
set_option linter.all false
set_option maxRecDepth 100000
set_option maxHeartbeats 2000000
namespace K84
open PySem PySem.Spec PyProof.Rows L2 MM
/-! own words for the readings: a step, its side -/
local macro_rules | `(tactic| walk_at "side") => `(tactic| first
  | omega
  | exact ⟨by omega, by omega⟩
  | exact Or.inl ⟨by omega, by omega⟩
  | exact Or.inr ⟨by omega, by omega⟩
  | (show CPw _ _; decide +kernel)
  | (show (0 : Int) < _; decide +kernel)
  | (show CDivW _ _; first | assumption | exact ⟨by decide, by decide +kernel⟩))
local macro_rules | `(tactic| walk_at "here") => `(tactic| first
  | assumption
  | exact upd_same
  | exact Or.inl (Or.inl upd_same)
  | exact Or.inl upd_same)
local macro_rules | `(tactic| walk_at "one") => `(tactic| first
  | refine ⟨_, rfl, ?_⟩
  | refine Or.inl ⟨_, rfl, ?_⟩
  | refine Or.inr ⟨_, rfl, ?_⟩
  | refine ⟨_, _, rfl, rfl, (by walk_at "side"), ?_⟩
  | refine ⟨_, _, rfl, rfl, ?_⟩
  | refine ⟨_, _, rfl, Or.inl (by walk_at "here"), ?_⟩
  | refine ⟨_, _, rfl, Or.inr (by walk_at "here"), ?_⟩
  | refine ⟨_, _, rfl, (by walk_at "here"), ?_⟩
  | refine ⟨_, _, _, _, rfl, rfl, (by walk_at "here"), rfl, ?_⟩
  | refine ⟨_, _, rfl, ?_⟩
  | refine ifT (by rfl) ?_
  | refine ifF (by rfl) ?_
  | refine ifT (decide_eq_true (by omega)) ?_
  | refine ifF (decide_eq_false (by omega)) ?_)
local macro_rules | `(tactic| walk_at "st") => `(tactic| repeat (walk_at "one"))

section
variable {P : Program} {w : World} {K : PySem.W.Frag} {mg : Str → Option Value} {base : Heap}
def lcmL (ns : List Nat) : Nat := ns.foldl Nat.lcm 1
/-- the order of a move -/
def ordOf (f : Nat → Nat) (n : Nat) : Nat := lcmL ((rings f n).map List.length)
theorem lcmL_dvd : ∀ (ns : List Nat) (g : Nat), g ∣ ns.foldl Nat.lcm g ∧ ∀ n ∈ ns, n ∣ ns.foldl Nat.lcm g
  | [], g => ⟨Nat.dvd_refl g, by simp⟩
  | a :: r, g => by
    obtain ⟨h1, h2⟩ := lcmL_dvd r (Nat.lcm g a)
    refine ⟨Nat.dvd_trans (Nat.dvd_lcm_left g a) h1, fun n hn => ?_⟩
    rcases List.mem_cons.mp hn with z | z
    · subst z
      exact Nat.dvd_trans (Nat.dvd_lcm_right g n) h1
    · exact h2 n z
theorem lcmL_pos : ∀ (ns : List Nat) (g : Nat), 0 < g → (∀ n ∈ ns, 0 < n) → 0 < ns.foldl Nat.lcm g
  | [], _, h, _ => h
  | a :: r, g, h, all => lcmL_pos r (Nat.lcm g a) (Nat.lcm_pos h (all a (by simp))) fun n hn => all n (by simp [hn])
theorem ordOf_pos {f : Nat → Nat} {n : Nat} (h : Pm f n) : 0 < ordOf f n := by
  refine lcmL_pos _ 1 Nat.one_pos fun k hk => ?_
  obtain ⟨r, hr, rfl⟩ := List.mem_map.mp hk
  obtain ⟨p, _, rfl⟩ := (rings_good h n (Nat.le_refl n)).each r hr
  rw [ringOf_len]
  exact lenOf_pos f n p
theorem ord_dvd {f : Nat → Nat} {n : Nat} {r : List Nat} (hr : r ∈ rings f n) : r.length ∣ ordOf f n :=
  (lcmL_dvd _ 1).2 _ (List.mem_map.mpr ⟨r, hr, rfl⟩)
def spPow (K : PySem.W.Frag) : Sp := fun vs H Q _ => ∃ (a : Addr) (m : List Nat) (e : Int), vs = [.ref a, .int e] ∧ SqT K H a (mv m) ∧ Mv m ∧
  ∀ H' t, Same H H' → SqT K H' t (mv ((List.range m.length).map (pwE (fn' m) (ordOf (fn' m) m.length) e))) → Q (.ref t) H'
theorem scPowerL : FnScope ["_law_move", "_law_number_here", "_law_found", "_law_ring", "_law_at", "_law_place"] ["_law_move", "_law_number_here"] (defScope sPowerL) :=
  ⟨rfl, rfl, rfl, by decide +kernel, rfl, by decide +kernel, by decide +kernel⟩
theorem dPowerL (T : Tx K mg) (DCyclesL : Def P w K mg base CX0 1 "_law_cycles" ["_law_move"] (spCycL K)) : Def P w K mg base CX0 2 "_law_power" ["_law_move", "_law_number_here"] (spPow K) := by
  refine T.t_law_power.def_ (N := ["_law_move", "_law_number_here", "_law_found", "_law_ring", "_law_at", "_law_place"]) scPowerL (fun _ _ _ _ _ _ us hl => match us, hl with | [_, _], _ => rfl) ?_ ?_
  · intro vs H Q E h
    obtain ⟨a, m, e, rfl, _⟩ := h
    rfl
  · intro f cd A out s H vs Q E hr h
    have hr1 : Rm 1 _ := hr.le (by decide)
    obtain ⟨a, m, e, rfl, S, hm, q⟩ := h
    refine ⟨_, (pss_cons (ps_set (i := 2) scPowerL.nd rfl (Or.inl rfl) (pe_callTy call_list_of rfl T.f_list (by decide +kernel) (pa_cons (pv 0) pa_nil)))
      (pss_cons (ps_for PassesOwn.never rfl (pi_list (pe_d DCyclesL (hr1.le (by decide)) pass0 (pa_cons (pv 0) pa_nil))) (pg_name (i := 3) scPowerL.nd rfl (Or.inl rfl))
        (pss_one (ps_for PassesOwn.never rfl (pi_enumT rfl T.f_enumerate (pa_cons (pv 3) pa_nil)) (pg_tup rfl (pgs_cons (pg_name (i := 4) scPowerL.nd rfl (Or.inl rfl)) (pgs_cons (pg_name (i := 5) scPowerL.nd rfl (Or.inl rfl)) pgs_nil)))
          (pss_one (ps_asg (pe_ix ix_tup (pv 3) (pe_op op_mod (pe_callTy call_int1 rfl T.f_int (by decide +kernel) (pa_cons (pe_op op_add (pv 4) (pv 1)) pa_nil)) (pe_callB call_len_seq rfl T.f_len (by decide +kernel) (pa_cons (pv 3) pa_nil))) (fun _ _ => rfl)) (pg_sub (pv 2) (pv 5) set_list))))))
      (pss_one (ps_ret (pe_callTy call_tuple_of rfl T.f_tuple (by decide +kernel) (pa_cons (pv 2) pa_nil)))))), ?_⟩
    have pm := pm_of hm
    refine ⟨_, rfl, a, _, rfl, .inr S, fun F fF => ?_⟩
    have S1 : Same H (upd H F (.lst (mv m))) := same_new fF
    have F1 : (upd H F (.lst (mv m))) F = some (.lst (mv m)) := upd_same
    have fF0 : ∀ b o, H b = some o → b ≠ F := fun b o e => ne_of_none e fF
    generalize upd H F _ = H1 at S1 F1 ⊢
    obtain ⟨z0, hz0, b0⟩ : ∃ z0 : List Nat, z0 = m ∧ z0.length = m.length := ⟨m, rfl, rfl⟩
    rw [← hz0] at F1
    rw [hz0] at b0
    have b0 : z0.length = m.length := by rw [hz0]
    refine ⟨_, rfl, a, m, rfl, same_sqt S1 S, hm, fun H2 R us S2 fR hR rf => ?_⟩
    have RF : R ≠ F := (ne_of_none F1 fR).symm
    have fR0 : ∀ b o, H b = some o → b ≠ R := fun b o e => ne_of_none (S1 b o e) fR
    have F2 := S2 _ _ F1
    replace S2 := S1.trans S2
    refine ⟨R, rfl, ⟨_, .inl (.inl hR)⟩, for_list (K := K) (a := R) (xs := us) (fun i σ H3 => Same H H3 ∧ H3 R = some (.lst us) ∧ Refs K H3 us (rings (fn' m) m.length) ∧ ∃ b : List Nat, b.length = m.length ∧ H3 F = some (.lst (mv b)) ∧
        (∀ x ∈ ((rings (fn' m) m.length).take i).flatten, b.getD x 0 = pwE (fn' m) (ordOf (fn' m) m.length) e x) ∧ ∃ x y z, σ = [some (.ref a), some (.int e), some (.ref F), x, y, z])
      ⟨S2, hR, rf, z0, b0, F2, by simp, _, _, _, rfl⟩ (fun i σ H3 _ h => .inl (.inl h.2.1)) ?_ ?_⟩
    · rintro i v σ H3 hv ⟨S3, hR, rf, b, lb, hF, done, x, y, z, rfl⟩
      obtain ⟨r, t, hr, rfl, St⟩ := rf.get hv
      have mr : r ∈ rings (fn' m) m.length := List.mem_of_getElem? hr
      obtain ⟨p, pn, er⟩ := (rings_good pm m.length (Nat.le_refl _)).each r mr
      have lr : r.length = lenOf (fn' m) m.length p := by rw [er, ringOf_len]
      obtain ⟨Ln, eL, no⟩ := lenOf_ok pm pn
      have L1 := lenOf_pos (fn' m) m.length p
      have tF : ∀ H9 : Hp, SqT K H9 t (mv r) → ∀ zs, H9 F = some (.lst zs) → ∀ ys, SqT K (upd H9 F (.lst ys)) t (mv r) := fun H9 S9 zs e9 ys => sqt_lst S9 e9
      refine ⟨_, rfl, t, _, rfl, St, ?_⟩
      refine for_enumT (K := K) (a := t) (xs := mv r) (fun j σ H4 => (Same H H4 ∧ SqT K H4 t (mv r)) ∧ H4 R = some (.lst us) ∧ Refs K H4 us (rings (fn' m) m.length) ∧ ∃ b : List Nat, b.length = m.length ∧ H4 F = some (.lst (mv b)) ∧
          (∀ x, x ∈ ((rings (fn' m) m.length).take i).flatten ∨ x ∈ r.take j → b.getD x 0 = pwE (fn' m) (ordOf (fn' m) m.length) e x) ∧ ∃ y z, σ = [some (.ref a), some (.int e), some (.ref F), some (.ref t), y, z])
        ⟨⟨S3, St⟩, hR, rf, b, lb, hF, fun x hx => by rcases hx with hx | hx; exact done x hx; simp at hx, _, _, rfl⟩ (fun j σ H4 _ h => h.1.2) ?_ ?_
      · rintro j u σ H4 T hu ⟨⟨S4, St⟩, hR, rf, b, lb, hF, done, y, z, rfl⟩ fT
        obtain ⟨jr, rfl⟩ := mv_nth hu
        have FT : F ≠ T := ne_of_none hF fT
        have RT : R ≠ T := ne_of_none hR fT
        have St5 : SqT K (upd H4 T (.tup [.int (j : Nat), .int ((r.getD j 0 : Nat) : Int)])) t (mv r) := sqt_new St fT
        have pj : r.getD j 0 = it (fn' m) j p := by
          rw [er]
          unfold ringOf ring
          rw [List.getD, List.getElem?_map, List.getElem?_range (by omega)]
          rfl
        have pl : r.getD j 0 < m.length := by rw [pj]; exact it_lt pm pn j
        have Lp : 0 < ((mv r).length : Int) := by rw [mv_len]; omega
        have i0 := Int.emod_nonneg ((j : Int) + e) (by omega : ((mv r).length : Int) ≠ 0)
        have i1 := Int.emod_lt_of_pos ((j : Int) + e) Lp
        obtain ⟨ix, eix⟩ : ∃ ix : Nat, ((j : Int) + e) % ((mv r).length : Int) = (ix : Int) := ⟨_, (Int.toNat_of_nonneg i0).symm⟩
        have il : ix < r.length := by rw [eix, mv_len] at i1; omega
        have val : r.getD ix 0 = pwE (fn' m) (ordOf (fn' m) m.length) e (r.getD j 0) := by
          have dv := ord_dvd mr
          rw [lr] at dv
          have := ring_pow (f := fn' m) (p := p) (a := j) (e := e) eL (by omega) dv (ordOf_pos pm) (by omega)
          rw [← pj] at this
          rw [← this, ← lr, ← mv_len r, eix, Int.toNat_natCast, mv_len, lr, er]
          rfl
        have ate : atI (mv r) (((j : Int) + e) % ((mv r).length : Int)) = some (.int ((r.getD ix 0 : Nat) : Int)) := by
          rw [eix]
          exact mv_at il
        refine ⟨T, _, rfl, .inl (.inl upd_same), rfl, _, _, rfl, ?_⟩
        refine ⟨_, _, rfl, rfl, ?_⟩
        refine ⟨_, rfl, _, rfl, _, rfl, _, _, rfl, rfl, .inl ⟨_, rfl, _, rfl, t, _, rfl, .inr St5, _, _, rfl, rfl, Lp, t, _, _, _, rfl, rfl, St5, ate, ?_⟩⟩
        refine ⟨_, rfl, _, rfl, F, _, _, r.getD j 0, rfl, rfl, (upd_ne FT).trans hF, by rw [mv_len, lb]; exact ixN_lt pl, ?_⟩
        rw [mv_set]
        refine ⟨⟨fun b o h => (upd_ne (fF0 b o h)).trans (same_new fT b o (S4 b o h)), sqt_lst St5 ((upd_ne FT).trans hF)⟩, (upd_ne RF).trans ((upd_ne RT).trans hR), (rf.same (same_new fT)).upd ((upd_ne FT).trans hF), b.set (r.getD j 0) (r.getD ix 0), by rw [List.length_set, lb], upd_same, fun x hx => ?_, _, _, rfl⟩
        by_cases z : x = r.getD j 0
        · rw [z, ← val, List.getD, List.getElem?_set_self (by omega)]
          rfl
        · rw [List.getD, List.getElem?_set_ne (fun h => z h.symm), ← List.getD]
          refine done x ?_
          rcases hx with hx | hx
          · exact .inl hx
          · refine .inr ?_
            rw [List.take_add_one, List.getElem?_eq_getElem jr] at hx
            rcases List.mem_append.mp hx with hx | hx
            · exact hx
            · exfalso
              refine z ?_
              rw [List.getD, List.getElem?_eq_getElem jr]
              simpa using hx
      · rintro σ H4 ⟨⟨S4, St⟩, hR, rf, b, lb, hF, done, y, z, rfl⟩
        refine ⟨S4, hR, rf, b, lb, hF, fun x hx => done x ?_, _, _, _, rfl⟩
        rw [List.take_add_one, hr, List.flatten_append, List.mem_append] at hx
        rcases hx with hx | hx
        · exact .inl hx
        · refine .inr ?_
          rw [mv_len, List.take_length]
          simpa using hx
    · rintro σ H3 ⟨S3, hR, rf, b, lb, hF, done, x, y, z, rfl⟩
      have lus : us.length = (rings (fn' m) m.length).length := Paired.length rf
      rw [lus, List.take_length] at done
      have eb : b = (List.range m.length).map (pwE (fn' m) (ordOf (fn' m) m.length) e) := by
        refine List.ext_getElem (by rw [lb, List.length_map, List.length_range]) fun x h1 h2 => ?_
        have hx := (rings_good pm m.length (Nat.le_refl _)).all x (by omega)
        have := done x hx
        rw [List.getD, List.getElem?_eq_getElem h1] at this
        rw [List.getElem_map, List.getElem_range]
        exact this
      rw [eb] at hF
      exact ⟨_, rfl, F, _, rfl, .inl ⟨.inl (.inl hF), fun u fu => q _ u (S3.trans (same_new fu)) (.inl (.inl upd_same))⟩⟩
theorem mv_of_pm {g : Nat → Nat} {n : Nat} (h : Pm g n) (h1 : 1 ≤ n) (h2 : n ≤ 24) : Mv ((List.range n).map g) ∧ ((List.range n).map g).length = n := by
  have ln : ((List.range n).map g).length = n := by rw [List.length_map, List.length_range]
  refine ⟨⟨?_, fun k hk => ?_, by omega, by omega⟩, ln⟩
  · rw [List.Nodup, List.pairwise_map]
    refine List.Pairwise.imp_of_mem ?_ (List.pairwise_lt_range (n := n))
    intro a b ha hb lt e
    have := h.inj a b (List.mem_range.mp ha) (List.mem_range.mp hb) e
    omega
  · rw [ln]
    obtain ⟨x, hx, rfl⟩ := List.mem_map.mp hk
    exact h.lt x (List.mem_range.mp hx)
theorem pm_pw {f : Nat → Nat} {n M : Nat} {e : Int} (h : Pm f n) : Pm (pwE f M e) n :=
  ⟨fun k hk => it_lt h hk _, fun a b ha hb z => it_inj h ha hb _ z⟩
def spNumber (K : PySem.W.Frag) : Sp := fun vs H Q _ => ∃ p, vs = [.ref p] ∧ BagAt H p ∧ ∀ H' i, Upto p H H' → i.natAbs < 10 ^ 60 → Q (.int i) H'
theorem scNumberL : FnScope ["_law_bag_here", "_law_way"] ["_law_bag_here"] (defScope sNumberL) :=
  ⟨rfl, rfl, rfl, by decide +kernel, rfl, by decide +kernel, by decide +kernel⟩
theorem dNumberL (T : Tx K mg) (DGrabL : Def P w K mg base CX0 1 "_law_grab" ["_law_bag_here", "_law_total"] spGrab) (DOneOfL : Def P w K mg base CX0 2 "_law_one_of" ["_law_bag_here", "_law_items"] (spOneOf K)) : Def P w K mg base CX0 3 "_law_number" ["_law_bag_here"] (spNumber K) := by
  refine T.t_law_number.def_ (N := ["_law_bag_here", "_law_way"]) scNumberL (fun _ _ _ _ _ _ us hl => match us, hl with | [_], _ => rfl) ?_ ?_
  · intro vs H Q E h
    obtain ⟨p, rfl, _⟩ := h
    rfl
  · intro f cd A out s H vs Q E hr h
    have hr1 : Rm 2 _ := hr.le (by decide)
    obtain ⟨p, rfl, hb, q⟩ := h
    obtain ⟨b1, b2, b3, eb⟩ := hb
    refine ⟨_, (pss_cons (ps_set (i := 1) scNumberL.nd rfl (Or.inl rfl) (pe_d DGrabL (hr1.le (by decide)) pass0 (pa_cons (pv 0) (pa_cons pe_int pa_nil))))
      (pss_cons (ps_if (pt_cmpR op_eq (pv 1) pe_int (nomark _)) (pss_one (ps_ret (pe_op op_add (pe_op op_sub (pe_d DGrabL (hr1.le (by decide)) pass0 (pa_cons (pv 0) (pa_cons (pe_op op_sub (pe_op op_mul pe_int (pe_op op_pw pe_int pe_int)) pe_int) pa_nil))) (pe_op op_pw pe_int pe_int)) pe_int))) pss_nil)
      (pss_one (ps_ret (pe_d DOneOfL (hr1.le (by decide)) pass0 (pa_cons (pv 0) (pa_cons (pe_lst (pa_cons pe_int (pa_cons pe_int (pa_cons pe_int (pa_cons (pe_un un_neg pe_int) (pa_cons pe_int (pa_cons (pe_un un_neg pe_int) (pa_cons (pe_op op_sub (pe_d DGrabL (hr1.le (by decide)) pass0 (pa_cons (pv 0) (pa_cons pe_int pa_nil))) pe_int) pa_nil)))))))) pa_nil))))))), ?_⟩
    refine ⟨_, rfl, p, 6, b1, b2, b3, rfl, eb, div_small (n := 6) (by omega) (by omega), fun r g1 m1 c1 _ _ => ?_⟩
    have U1 : Upto p H (upd H p (.lst [.int g1, .int m1, .int c1])) := (Upto.refl ⟨_, _, _, eb⟩).draw
    generalize upd H p _ = H1 at U1 ⊢
    obtain ⟨d0, d1, d2, e1⟩ := id U1.bag
    have hB : (10 : Int) ^ (60 : Int).toNat = ((10 ^ 60 : Nat) : Int) := by decide +kernel
    refine ⟨_, rfl, rfl, _, rfl, ite2 (fun _ => ?_) (fun _ => ?_)⟩
    · have dv : CDivW 0 (2 * 10 ^ (60 : Int).toNat - 1) := wide_div (b := 300) (by decide +kernel) (by decide +kernel) (by decide) (by decide)
      refine ⟨_, rfl, 10, 60, rfl, rfl, (by show CPw _ _; decide +kernel), _, _, rfl, rfl, .inl (by omega), _, _, rfl, rfl, p, _, d0, d1, d2, rfl, e1, dv, fun r g2 m2 c2 h0 h1 => ?_⟩
      refine ⟨10, 60, rfl, rfl, (by show CPw _ _; decide +kernel), _, _, rfl, rfl, _, _, rfl, rfl, q _ _ U1.draw ?_⟩
      show (r - 10 ^ (60 : Int).toNat + 1).natAbs < 10 ^ 60
      rw [hB] at h1 ⊢
      generalize (10 ^ 60 : Nat) = B at h1 ⊢
      omega
    · refine ⟨_, rfl, _, rfl, _, rfl, _, rfl, p, 2001, d0, d1, d2, rfl, e1, div_small (n := 2001) (by omega) (by omega), fun r g2 m2 c2 h0 h1 => ?_⟩
      have U2 : Upto p H (upd H1 p (.lst [.int g2, .int m2, .int c2])) := U1.draw
      generalize upd H1 p _ = H2 at U2 ⊢
      refine ⟨_, _, rfl, rfl, by show 7 ≤ sizeLine; decide, fun l fl => ?_⟩
      obtain ⟨lp, _⟩ := U2.free fl
      obtain ⟨f0, f1, f2, e2⟩ := id U2.bag
      refine ⟨p, l, f0, f1, f2, _, rfl, same_new fl _ _ e2, .inl (.inl upd_same), lp, by show 0 < 7; omega, by show 7 ≤ 1000; omega, fun v g3 m3 c3 hv => ?_⟩
      have U3 := (U2.new (o := .lst [.int 0, .int 0, .int 1, .int (-1), .int 2, .int (-10), .int (r - 1000)]) fl).draw (a := g3) (b := m3) (c := c3)
      have key : ∃ i : Int, v = .int i ∧ i.natAbs < 10000 := by
        simp only [List.mem_cons, List.not_mem_nil, or_false] at hv
        rcases hv with rfl | rfl | rfl | rfl | rfl | rfl | rfl
        · exact ⟨_, rfl, by decide⟩
        · exact ⟨_, rfl, by decide⟩
        · exact ⟨_, rfl, by decide⟩
        · exact ⟨_, rfl, by decide⟩
        · exact ⟨_, rfl, by decide⟩
        · exact ⟨_, rfl, by decide⟩
        · exact ⟨_, rfl, by omega⟩
      obtain ⟨i, rfl, hi⟩ := key
      exact q _ i U3 (Nat.lt_trans hi (by decide +kernel))
end
end K84


set_option Elab.async false
set_option linter.all false
set_option maxRecDepth 100000
set_option maxHeartbeats 2000000
namespace K84
open PySem PySem.Spec PyProof.Rows L2 MM
/-! rings that are turned and mixed tell the same move -/
theorem goes_unique {f g : Nat → Nat} {n : Nat} {R : List (List Nat)} (hf : Goes f n R) (hg : Goes g n R) {x : Nat} (hx : x < n) : f x = g x := by
  by_cases c : x ∈ R.flatten
  · obtain ⟨r, mr, mx⟩ := List.mem_flatten.mp c
    obtain ⟨j, hj, rfl⟩ := List.mem_iff_getElem.mp mx
    have a := hf.ring r mr j hj
    have b := hg.ring r mr j hj
    have ex : r.getD j 0 = r[j] := by rw [List.getD, List.getElem?_eq_getElem hj]; rfl
    rw [ex] at a b
    rw [a, b]
  · rw [hf.rest x hx c, hg.rest x hx c]
theorem fn_get {m : List Nat} {x : Nat} (hx : x < m.length) : fn' m x = m[x] := by
  unfold fn'
  rw [List.getD, List.getElem?_eq_getElem hx]
  rfl
theorem told_move {m : List Nat} {R : List (List Nat)} (hR : Rings m.length R) (hg : Goes (fn' m) m.length R) : (List.range m.length).map (goOf R) = m := by
  refine List.ext_getElem (by rw [List.length_map, List.length_range]) fun x h1 h2 => ?_
  rw [List.getElem_map, List.getElem_range, goes_unique (goes_of hR) hg h2, fn_get h2]
theorem flat_sub {α : Type} {l l' : List (List α)} (h : l.Sublist l') : l.flatten.Sublist l'.flatten := by
  induction h with
  | slnil => exact List.Sublist.refl _
  | cons a _ ih =>
    rw [List.flatten_cons]
    exact ih.trans (List.sublist_append_right _ _)
  | cons_cons a _ ih =>
    rw [List.flatten_cons, List.flatten_cons]
    exact (List.Sublist.refl a).append ih
/-- the rings of two places or more tell the move -/
theorem big_goes {m : List Nat} (hm : Mv m) : Goes (fn' m) m.length (bigR m) ∧ Rings m.length (bigR m) := by
  have pm := pm_of hm
  have gd := rings_good pm m.length (Nat.le_refl _)
  have sub : (bigR m).Sublist (rings (fn' m) m.length) := List.filter_sublist
  have flat : (bigR m).flatten.Sublist (rings (fn' m) m.length).flatten := flat_sub sub
  refine ⟨⟨fun r hr j hj => ?_, fun x hx nx => ?_⟩, ⟨fun r hr => ?_, ?_, fun x hx => gd.below x (flat.subset hx)⟩⟩
  · obtain ⟨p, hp, rfl⟩ := gd.each r (sub.subset hr)
    rw [ringOf_len] at hj ⊢
    obtain ⟨_, e, _⟩ := lenOf_ok pm hp
    exact ring_step e hj
  · obtain ⟨r, mr, mx⟩ := List.mem_flatten.mp (gd.all x hx)
    obtain ⟨p, hp, rfl⟩ := gd.each r mr
    have small : ¬ 1 < (ringOf (fn' m) m.length p).length := by
      intro z
      exact nx (List.mem_flatten.mpr ⟨_, List.mem_filter.mpr ⟨mr, decide_eq_true z⟩, mx⟩)
    rw [ringOf_len] at small
    have l1 := lenOf_pos (fn' m) m.length p
    have e1 : lenOf (fn' m) m.length p = 1 := by omega
    obtain ⟨_, e, _⟩ := lenOf_ok pm hp
    rw [e1] at e
    obtain ⟨k, hk, rfl⟩ := ring_mem.mp (show x ∈ ring (fn' m) p (lenOf (fn' m) m.length p) from mx)
    have k0 : k = 0 := by omega
    subst k0
    exact e
  · have := of_decide_eq_true (List.mem_filter.mp hr).2
    omega
  · exact gd.once.sublist flat
/-- r, from its c-th place on -/
def rot (r : List Nat) (c : Nat) : List Nat := r.drop c ++ r.take c
theorem rot_len (r : List Nat) (c : Nat) : (rot r c).length = r.length := by
  unfold rot
  rw [List.length_append, List.length_drop, List.length_take]
  omega
theorem rot_perm (r : List Nat) (c : Nat) : (rot r c).Perm r := by
  unfold rot
  refine List.perm_append_comm.trans ?_
  rw [List.take_append_drop]
theorem rot_get {r : List Nat} {c j : Nat} (hc : c < r.length) (hj : j < r.length) : (rot r c).getD j 0 = r.getD ((c + j) % r.length) 0 := by
  unfold rot
  by_cases l : c + j < r.length
  · rw [Nat.mod_eq_of_lt l, List.getD, List.getD, List.getElem?_append_left (by rw [List.length_drop]; omega), List.getElem?_drop]
  · have e : (c + j) % r.length = c + j - r.length := by
      rw [Nat.mod_eq_sub_mod (by omega), Nat.mod_eq_of_lt (by omega)]
    rw [e, List.getD, List.getD, List.getElem?_append_right (by rw [List.length_drop]; omega), List.length_drop, List.getElem?_take]
    rw [if_pos (by omega)]
    congr 2
    omega
/-- turned rings, in any order -/
structure Turned (R R' : List (List Nat)) : Prop where
  each : ∀ r' ∈ R', ∃ r ∈ R, ∃ c, c < r.length ∧ r' = rot r c
  perm : R'.flatten.Perm R.flatten
theorem Turned.goes {f : Nat → Nat} {n : Nat} {R R' : List (List Nat)} (h : Turned R R') (g : Goes f n R) : Goes f n R' := by
  refine ⟨fun r' hr' j hj => ?_, fun x hx nx => g.rest x hx fun z => nx (h.perm.mem_iff.mpr z)⟩
  obtain ⟨r, hr, c, hc, rfl⟩ := h.each r' hr'
  rw [rot_len] at hj ⊢
  have pos : 0 < r.length := by omega
  rw [rot_get hc hj, rot_get hc (Nat.mod_lt _ pos), g.ring r hr _ (Nat.mod_lt _ pos)]
  congr 1
  rw [Nat.mod_add_mod, Nat.add_mod_mod, Nat.add_assoc]
theorem Turned.rings {n : Nat} {R R' : List (List Nat)} (h : Turned R R') (g : Rings n R) : Rings n R' := by
  refine ⟨fun r' hr' => ?_, h.perm.nodup_iff.mpr g.once, fun x hx => g.below x (h.perm.mem_iff.mp hx)⟩
  obtain ⟨r, hr, c, hc, rfl⟩ := h.each r' hr'
  rw [rot_len]
  omega
/-- rings mixed, each turned -/
theorem turned_of {R Z R' : List (List Nat)} (p : Z.Perm R) (h : Paired (fun r r' => ∃ c, c < r.length ∧ r' = rot r c) Z R') : Turned R R' := by
  have fl : R'.flatten.Perm Z.flatten ∧ ∀ r' ∈ R', ∃ r ∈ Z, ∃ c, c < r.length ∧ r' = rot r c := by
    clear p
    induction h with
    | nil => exact ⟨.refl _, fun r' hr' => by cases hr'⟩
    | cons a _ ih =>
      obtain ⟨c, hc, rfl⟩ := a
      refine ⟨?_, fun r' hr' => ?_⟩
      · rw [List.flatten_cons, List.flatten_cons]
        exact (rot_perm _ c).append ih.1
      · rcases List.mem_cons.mp hr' with rfl | hr'
        · exact ⟨_, List.mem_cons_self, c, hc, rfl⟩
        · obtain ⟨r, hr, z⟩ := ih.2 r' hr'
          exact ⟨r, List.mem_cons_of_mem _ hr, z⟩
  refine ⟨fun r' hr' => ?_, fl.1.trans p.flatten⟩
  obtain ⟨r, hr, z⟩ := fl.2 r' hr'
  exact ⟨r, p.mem_iff.mp hr, z⟩
/-- the move on more places -/
theorem goes_wide {m : List Nat} {n : Nat} {R : List (List Nat)} (le : m.length ≤ n) (hR : Rings m.length R) (g : Goes (fn' m) m.length R) :
    Goes (fn' (m ++ (List.range (n - m.length)).map (m.length + ·))) n R ∧ Rings n R := by
  have lo : ∀ x, x < m.length → fn' (m ++ (List.range (n - m.length)).map (m.length + ·)) x = fn' m x := fun x hx => by
    unfold fn'
    rw [List.getD, List.getD, List.getElem?_append_left hx]
  have hi : ∀ x, m.length ≤ x → x < n → fn' (m ++ (List.range (n - m.length)).map (m.length + ·)) x = x := fun x h1 h2 => by
    unfold fn'
    rw [List.getD, List.getElem?_append_right h1, List.getElem?_map, List.getElem?_range (by omega)]
    show m.length + (x - m.length) = x
    omega
  refine ⟨⟨fun r hr j hj => ?_, fun x hx nx => ?_⟩, ⟨hR.full, hR.once, fun x hx => Nat.lt_of_lt_of_le (hR.below x hx) le⟩⟩
  · have mx : r.getD j 0 ∈ R.flatten := by
      refine List.mem_flatten.mpr ⟨r, hr, ?_⟩
      rw [List.getD, List.getElem?_eq_getElem hj]
      exact List.getElem_mem hj
    rw [lo _ (hR.below _ mx)]
    exact g.ring r hr j hj
  · by_cases c : x < m.length
    · rw [lo x c]
      exact g.rest x c nx
    · exact hi x (by omega) hx
end K84

set_option Elab.async false
set_option linter.all false
set_option maxRecDepth 100000
set_option maxHeartbeats 4000000
namespace K84
open PySem PySem.Spec PyProof.Rows L2 MM
/-! own words for the readings: a step, its side -/
local macro_rules | `(tactic| walk_at "side") => `(tactic| first
  | omega
  | exact ⟨by omega, by omega⟩
  | exact Or.inl ⟨by omega, by omega⟩
  | exact Or.inr ⟨by omega, by omega⟩
  | (show CPw _ _; decide +kernel)
  | (show (0 : Int) < _; decide +kernel)
  | (show CDivW _ _; first | assumption | exact ⟨by decide, by decide +kernel⟩))
local macro_rules | `(tactic| walk_at "here") => `(tactic| first
  | assumption
  | exact upd_same
  | exact Or.inl (Or.inl upd_same)
  | exact Or.inl upd_same)
local macro_rules | `(tactic| walk_at "one") => `(tactic| first
  | refine ⟨_, rfl, ?_⟩
  | refine Or.inl ⟨_, rfl, ?_⟩
  | refine Or.inr ⟨_, rfl, ?_⟩
  | refine ⟨_, _, rfl, rfl, (by walk_at "side"), ?_⟩
  | refine ⟨_, _, rfl, rfl, ?_⟩
  | refine ⟨_, _, rfl, Or.inl (by walk_at "here"), ?_⟩
  | refine ⟨_, _, rfl, Or.inr (by walk_at "here"), ?_⟩
  | refine ⟨_, _, rfl, (by walk_at "here"), ?_⟩
  | refine ⟨_, _, _, _, rfl, rfl, (by walk_at "here"), rfl, ?_⟩
  | refine ⟨_, _, rfl, ?_⟩
  | refine ifT (by rfl) ?_
  | refine ifF (by rfl) ?_
  | refine ifT (decide_eq_true (by omega)) ?_
  | refine ifF (decide_eq_false (by omega)) ?_)
local macro_rules | `(tactic| walk_at "st") => `(tactic| repeat (walk_at "one"))

section
variable {P : Program} {w : World} {K : PySem.W.Frag} {mg : Str → Option Value} {base : Heap}
theorem eqTI {H : Hp} {a b : Addr} {ns ms : List Int} {Q : VK} (S : SqT K H a (ns.map V.int)) (S2 : SqT K H b (ms.map V.int)) (q : Q (.bl (decide (ns = ms))) H) : rEqD K (.ref a) (.ref b) H Q :=
  ⟨.tuple (ns.map .int), .tuple (ms.map .int), .tup S (dp_ints _), .tup S2 (dp_ints _), shapedT_ints _, shapedT_ints _, by
    rw [show PyData.eqv (.tuple (ns.map .int)) (.tuple (ms.map .int)) = PyData.eqvAll (ns.map .int) (ms.map .int) from rfl, eqvAll_ints]
    exact q⟩
theorem str_eq {a b : Str} (h : cds a = cds b) : a = b := by
  obtain ⟨x⟩ := a
  obtain ⟨y⟩ := b
  congr 1
  exact Array.ext' h
/-- a bag of draws gives a turn that holds -/
def spRight (K : PySem.W.Frag) : Sp := fun vs H Q _ => ∃ (g : Addr), vs = [.ref g] ∧ BagAt H g ∧ ∀ H', Upto g H H' → Q (.bl true) H'
theorem scRowsRightL : FnScope ["_law_bag_here", "_law_row", "_law_turn", "_law_text", "_law_number_here"] ["_law_bag_here"] (defScope sRowsRightL) :=
  ⟨rfl, rfl, rfl, by decide +kernel, rfl, by decide +kernel, by decide +kernel⟩
theorem bRowsRightL (T : Tx K mg) (Y : Ex K mg) (DOneOfL : Def P w K mg base CX0 2 "_law_one_of" ["_law_bag_here", "_law_items"] (spOneOf K)) (DGrabL : Def P w K mg base CX0 1 "_law_grab" ["_law_bag_here", "_law_total"] spGrab) (DNumberL : Def P w K mg base CX0 3 "_law_number" ["_law_bag_here"] (spNumber K)) (DWriteRow : Def P w K mg base CX0 4 "write_row" ["row"] (spWriteRow K)) (BReadRow : Def P w K mg base (L2.CX P w) 5 "read_row" ["text"] (spReadRow K)) : Def P w K mg base (L2.CX P w) 7 "_law_rows_right" ["_law_bag_here"] (spRight K) := by
  refine T.t_law_rows_right.defX (N := ["_law_bag_here", "_law_row", "_law_turn", "_law_text", "_law_number_here"]) scRowsRightL (fun _ _ _ _ _ _ us hl => match us, hl with | [_], _ => rfl) ?_ ?_
  · intro vs H Q E h
    obtain ⟨g, rfl, _⟩ := h
    rfl
  · intro f cd A out s H vs Q E hr h
    have hr1 : Rm 4 _ := hr.le (by decide)
    have hr2 : Rm 5 _ := hr.le (by decide)
    have tk : Takes (cxOf (L2.CX P w) P w K mg base ["_law_bag_here", "_law_row", "_law_turn", "_law_text", "_law_number_here"] "_law_rows_right" (defScope sRowsRightL) f cd A out s H E) (fun cls d _ H1 => E cls d H1) := takes_of rfl rfl rfl rfl
    obtain ⟨g, rfl, bag, q⟩ := h
    refine ⟨_, (pss_cons (ps_set (i := 1) scRowsRightL.nd rfl (Or.inl rfl) (pe_callTy call_tuple_of rfl T.f_tuple (by decide +kernel) (pa_cons (pe_lc (own := [("_law_turn", 2)]) (g := gName 2) (tt := tYes) rfl scRowsRightL.nd (pi_range1 rfl T.f_range (pa_cons (pe_op op_add pe_int (pe_d DOneOfL (hr1.le (by decide)) pass0 (pa_cons (pv 0) (pa_cons (pe_lst (pa_cons (pe_d DGrabL (hr1.le (by decide)) pass0 (pa_cons (pv 0) (pa_cons pe_int pa_nil))) (pa_cons (pe_d DGrabL (hr1.le (by decide)) pass0 (pa_cons (pv 0) (pa_cons pe_int pa_nil))) pa_nil))) pa_nil)))) pa_nil)) (blkOk_by (N := ["_law_bag_here", "_law_row", "_law_turn", "_law_text", "_law_number_here"]) (sc := defScope sRowsRightL) (by decide +kernel)) (fun _ _ _ _ _ => pg_name (i := 2) scRowsRightL.nd rfl (Or.inl rfl)) (fun _ _ _ _ _ => pts_nil) (fun _ _ _ _ _ => (pe_d DNumberL (hr1.le (by decide)) pass0 (pa_cons (pv 0) pa_nil)))) pa_nil)))
      (pss_cons (ps_set (i := 3) scRowsRightL.nd rfl (Or.inl rfl) (pe_join pe_str (pe_lc (own := [("_law_number_here", 4)]) (g := gName 4) (tt := tYes) rfl scRowsRightL.nd (pi_tup (pv 1)) (blkOk_by (N := ["_law_bag_here", "_law_row", "_law_turn", "_law_text", "_law_number_here"]) (sc := defScope sRowsRightL) (by decide +kernel)) (fun _ _ _ _ _ => pg_name (i := 4) scRowsRightL.nd rfl (Or.inl rfl)) (fun _ _ _ _ _ => pts_nil) (fun _ _ _ _ _ => (pe_callTy call_str_int rfl T.f_str (by decide +kernel) (pa_cons (pv 4) pa_nil))))))
      (pss_one (ps_ret (pe_and (pe_cmpR op_eq (pe_d DWriteRow (hr1.le (by decide)) pass0 (pa_cons (pv 1) pa_nil)) (pv 3) (nomark _)) (pe_one (pe_cmpR (op_eqD hr.hu) (ME.pe_dS BReadRow (hr2.le (by decide)) (passAt tk) (pa_cons (pv 3) pa_nil)) (pv 1) (nomark _)))))))), ?_⟩
    obtain ⟨b0, b1, b2, eg⟩ := id bag
    refine ⟨_, rfl, _, rfl, g, 12, b0, b1, b2, rfl, eg, div_small (n := 12) (by omega) (by omega), fun r1 g1 m1 c1 h10 h11 => ?_⟩
    refine ⟨_, rfl, g, 48, _, _, _, rfl, upd_same, div_small (n := 48) (by omega) (by omega), fun r2 g2 m2 c2 h20 h21 => ?_⟩
    have U1 : Upto g H (upd (upd H g (.lst [.int g1, .int m1, .int c1])) g (.lst [.int g2, .int m2, .int c2])) := ((Upto.refl bag).draw).draw
    generalize upd (upd H g _) g _ = H1 at U1 ⊢
    refine ⟨by show 2 ≤ sizeLine; decide, fun l fl => ?_⟩
    obtain ⟨lg, _⟩ := U1.free fl
    obtain ⟨d0, d1, d2, e1⟩ := id U1.bag
    refine ⟨g, l, d0, d1, d2, _, rfl, same_new fl _ _ e1, .inl (.inl upd_same), lg, by show 0 < 2; omega, by show 2 ≤ 1000; omega, fun v g3 m3 c3 hv => ?_⟩
    have U2 := (U1.new (o := .lst [.int r1, .int r2]) fl).draw (a := g3) (b := m3) (c := c3)
    generalize upd (upd H1 l _) g _ = H2 at U2 ⊢
    obtain ⟨k, rfl, k47⟩ : ∃ k : Nat, v = .int (k : Int) ∧ k ≤ 47 := by
      simp only [List.mem_cons, List.not_mem_nil, or_false] at hv
      rcases hv with rfl | rfl
      · exact ⟨r1.toNat, by congr 1; omega, by omega⟩
      · exact ⟨r2.toNat, by congr 1; omega, by omega⟩
    clear hv
    refine ⟨_, _, rfl, rfl, ?_⟩
    obtain ⟨n, hn, n48, n1⟩ : ∃ n : Nat, (1 : Int) + (k : Int) = (n : Int) ∧ n ≤ 48 ∧ 1 ≤ n := ⟨k + 1, by omega, by omega, by omega⟩
    refine ⟨(n : Int), by show [V.int ((1 : Int) + (k : Int))] = _; rw [hn], by omega, by omega, fun D nD => ?_⟩
    obtain ⟨Dg, fD⟩ := U2.free nD
    refine lc_range (Pv := fun i H4 => Upto g H H4 ∧ ∃ ks : List Int, H4 D = some (.lst (ks.map V.int)) ∧ ks.length = i ∧ ∀ j ∈ ks, j.natAbs < 10 ^ 60)
      ⟨U2.new nD, [], upd_same, rfl, fun t ht => by cases ht⟩ ?_ ?_
    · rintro i H4 hi ⟨U4, ks, h4, lks, k61⟩
      have ik : i < n := by simpa using hi
      refine ⟨wipe_one, yes_ ?_⟩
      refine ⟨_, rfl, g, rfl, U4.bag, fun H5 j u5 hj => ?_⟩
      refine ⟨ks.map V.int, (u5.same _ _ Dg h4), by rw [List.length_map, sizeLine_eq]; omega, ?_⟩
      refine ⟨(U4.trans u5).put Dg fD, ks ++ [j], by rw [upd_same, List.map_append]; rfl, by rw [List.length_append, lks]; rfl, fun t ht => ?_⟩
      rcases List.mem_append.mp ht with ht | ht
      · exact k61 t ht
      · rw [List.mem_singleton.mp ht]
        exact hj
    rintro H4 ⟨U4, ns, h4, lks, k60⟩
    have lk : ns.length = n := by rw [lks]; exact Int.toNat_natCast n
    refine ⟨D, _, rfl, .inl ⟨.inl (.inl h4), fun t ft => ?_⟩⟩
    have U5 := U4.keep (same_new ft (o := .tup (ns.map V.int)))
    have St : SqT K (upd H4 t (.tup (ns.map V.int))) t (ns.map V.int) := .inl (.inl upd_same)
    generalize upd H4 t _ = H5 at U5 St ⊢
    have mb : Mb ns := ⟨by omega, by omega, k60⟩
    refine ⟨⟨_, rfl⟩, _, rfl, t, rfl, ⟨_, St⟩, fun D2 nD2 => ?_⟩
    refine lc_tplF (fun _ => true) (fun x => match x with | .int i => .str (Str.ofString (toString i)) | _ => .non) St nD2 (by rw [List.length_map, sizeLine_eq]; omega) (fun x acc hx Q' q' => q') ?_ ?_
    · intro x acc hx _ Q' q'
      obtain ⟨k, hk, rfl⟩ := List.mem_map.mp hx
      exact ⟨_, rfl, k, rfl, log_small (Nat.lt_trans (k60 k hk) (by decide +kernel)), q'⟩
    have em : ((ns.map V.int).filter fun _ => true).map (fun x => match x with | .int i => V.str (Str.ofString (toString i)) | _ => .non) = (ns.map fun i => Str.ofString (toString i)).map V.str := by
      rw [List.filter_eq_self.mpr (fun _ _ => rfl), List.map_map, List.map_map]
      rfl
    rw [em]
    have b61 : ∀ y ∈ ns.map fun i : Int => Str.ofString (toString i), y.length ≤ 61 := by
      intro y hy
      obtain ⟨k, hk, rfl⟩ := List.mem_map.mp hy
      rw [len_cds, iT_int]
      exact iT_len (k60 k hk)
    have j1 := join_len "," (ns.map fun i : Int => Str.ofString (toString i))
    have j2 := sum_leN b61
    have nc : ("," : Str).length = 1 := rfl
    rw [nc] at j1
    rw [List.length_map] at j1 j2
    have S6 : Same H5 (upd H5 D2 (.lst ((ns.map fun i => Str.ofString (toString i)).map V.str))) := same_new nD2
    have e6 : (upd H5 D2 (.lst ((ns.map fun i => Str.ofString (toString i)).map V.str))) D2 = _ := upd_same
    generalize upd H5 D2 _ = H6 at S6 e6 ⊢
    refine ⟨",", D2, _, rfl, rfl, .inl (.inl (.inl e6)), by rw [nc, List.length_map]; omega, ?_⟩
    obtain ⟨z, hz, cz⟩ : ∃ z, z = Txt.join "," (ns.map fun i : Int => Str.ofString (toString i)) ∧ cds z = rowT ns := by
      refine ⟨_, rfl, ?_⟩
      rw [join_cds, show cds "," = [44] by decide +kernel, List.map_map]
      obtain ⟨i, r, rfl⟩ : ∃ i r, ns = i :: r := List.exists_cons_of_ne_nil (by intro z; rw [z] at mb; exact absurd mb.1 (by decide))
      rw [← joinL_row i r]
      congr 1
      exact List.map_congr_left fun k _ => iT_int k
    rw [← hz]
    have z3 : z.length ≤ 3000 := by rw [hz]; omega
    have U6 := U5.keep S6
    have St6 := same_sqt S6 St
    refine ⟨_, rfl, t, ns, rfl, St6, mb, fun H7 z2 s7 c2 => ?_⟩
    obtain rfl := str_eq (c2.trans cz.symm)
    refine ⟨_, rfl, rfl, _, rfl, ?_⟩
    refine ifT (decide_eq_true rfl) ?_
    have ok : okT (.str z2) = true := decide_eq_true z3
    have nne : ns ≠ [] := by
      intro z
      rw [z] at mb
      exact absurd mb.1 (by decide)
    refine ⟨_, rfl, .str z2, _, rfl, .str z2, (fun z' e => by cases e; omega), (fun b => absurd (b.symm.trans ok) (by decide)), fun z' e _ => ?_⟩
    cases e
    rw [cz, rowR_T nne k60]
    refine ⟨fun _ H8 t2 s8 S8 => ?_, fun c => absurd c (by omega)⟩
    refine ⟨_, rfl, eqTI S8 (same_sqt (s7.trans s8) St6) ?_⟩
    rw [decide_eq_true rfl]
    exact q _ (U6.keep (s7.trans s8))
end
end K84


set_option Elab.async false
set_option linter.all false
set_option maxRecDepth 100000
set_option maxHeartbeats 4000000
namespace K84
open PySem PySem.Spec PyProof.Rows L2 MM
/-! own words for the readings: a step, its side -/
local macro_rules | `(tactic| walk_at "side") => `(tactic| first
  | omega
  | exact ⟨by omega, by omega⟩
  | exact Or.inl ⟨by omega, by omega⟩
  | exact Or.inr ⟨by omega, by omega⟩
  | (show CPw _ _; decide +kernel)
  | (show (0 : Int) < _; decide +kernel)
  | (show CDivW _ _; first | assumption | exact ⟨by decide, by decide +kernel⟩))
local macro_rules | `(tactic| walk_at "here") => `(tactic| first
  | assumption
  | exact upd_same
  | exact Or.inl (Or.inl upd_same)
  | exact Or.inl upd_same)
local macro_rules | `(tactic| walk_at "one") => `(tactic| first
  | refine ⟨_, rfl, ?_⟩
  | refine Or.inl ⟨_, rfl, ?_⟩
  | refine Or.inr ⟨_, rfl, ?_⟩
  | refine ⟨_, _, rfl, rfl, (by walk_at "side"), ?_⟩
  | refine ⟨_, _, rfl, rfl, ?_⟩
  | refine ⟨_, _, rfl, Or.inl (by walk_at "here"), ?_⟩
  | refine ⟨_, _, rfl, Or.inr (by walk_at "here"), ?_⟩
  | refine ⟨_, _, rfl, (by walk_at "here"), ?_⟩
  | refine ⟨_, _, _, _, rfl, rfl, (by walk_at "here"), rfl, ?_⟩
  | refine ⟨_, _, rfl, ?_⟩
  | refine ifT (by rfl) ?_
  | refine ifF (by rfl) ?_
  | refine ifT (decide_eq_true (by omega)) ?_
  | refine ifF (decide_eq_false (by omega)) ?_)
local macro_rules | `(tactic| walk_at "st") => `(tactic| repeat (walk_at "one"))

section
variable {P : Program} {w : World} {K : PySem.W.Frag} {mg : Str → Option Value} {base : Heap}
theorem seq_rest {a b : TS} {D : Ends} {σ : L2.St} {H : Hp} (J : L2.St → Hp → Prop) (hJ : ∀ σ' H', J σ' H' → b D σ' H')
    (h : ∀ N : L2.St → Hp → Prop, (∀ σ' H', J σ' H' → N σ' H') → a { D with nx := N } σ H) : tSeq a b D σ H := h _ hJ
theorem read_ok {H : Hp} {Q : VK} {E : XK} {z : Str} {n : Nat} {R : List (List Nat)} (hz : cds z = ringsT R) (h2 : ∀ r ∈ R, 2 ≤ r.length ∧ ∀ x ∈ r, x < 24) (zl : z.length ≤ 3000)
    (n1 : 1 ≤ n) (n24 : n ≤ 24) (rg : Rings n R) (q : ∀ H' t, Same H H' → SqT K H' t (mv ((List.range n).map (goOf R))) → Q (.ref t) H') : spReadMove K [.str z, .int (n : Int)] H Q E := by
  have okt : okT (.str z) = true := decide_eq_true zl
  have ok : okR n R := ⟨rg.below, rg.once⟩
  refine ⟨.str z, _, n, rfl, .str z, (fun z' e => by cases e; omega), n1, n24, (fun b => absurd (b.symm.trans okt) (by decide)), fun z' e _ => ?_⟩
  cases e
  rw [hz, moveR_T fun r hr => ⟨(h2 r hr).1, fun x hx => Nat.lt_of_lt_of_le ((h2 r hr).2 x hx) (by decide +kernel)⟩]
  exact ⟨fun c => absurd ok c, fun _ => q⟩
theorem shaped_dM (m : List Nat) : SeqAt.shaped (dM m) = true := shapedT_ints _
theorem eqM {a b : Addr} {m l : List Nat} {H : Hp} {Q : VK} (S : SqT K H a (mv m)) (S2 : SqT K H b (mv l)) (q : Q (.bl (decide (m = l))) H) : rEqD K (.ref a) (.ref b) H Q :=
  ⟨dM m, dM l, dp_mv S, dp_mv S2, shaped_dM m, shaped_dM l, by rw [dM_eqv]; exact q⟩
theorem neM {a b : Addr} {m l : List Nat} {H : Hp} {Q : VK} (S : SqT K H a (mv m)) (S2 : SqT K H b (mv l)) (q : Q (.bl (!decide (m = l))) H) : rNeD K (.ref a) (.ref b) H Q :=
  ⟨dM m, dM l, dp_mv S, dp_mv S2, shaped_dM m, shaped_dM l, by rw [dM_eqv]; exact q⟩
theorem upto_sqt {p a : Addr} {H H' : Hp} {xs : List V} (h : Upto p H H') (b : BagAt H p) (s : SqT K H a xs) : SqT K H' a xs := by
  obtain ⟨b0, b1, b2, e⟩ := b
  rcases s with (s | ⟨o, s⟩) | s
  · exact .inl (.inl (h.same _ _ (fun z => by rw [z, e] at s; cases s) s))
  · exact .inl (.inr ⟨o, h.same _ _ (fun z => by rw [z, e] at s; cases s) s⟩)
  · exact .inr s
theorem upto_refs {p : Addr} {H H' : Hp} {us : List V} {R : List (List Nat)} (h : Upto p H H') (b : BagAt H p) (s : Refs K H us R) : Refs K H' us R :=
  pairedI s fun v r ⟨a, e, S⟩ => ⟨a, e, upto_sqt h b S⟩
theorem paired_perm {α β : Type} {R : α → β → Prop} {ys us : List α} (p : ys.Perm us) : ∀ {os : List β}, Paired R us os → ∃ zs : List β, zs.Perm os ∧ Paired R ys zs := by
  induction p with
  | nil => exact fun h => ⟨_, .refl _, h⟩
  | cons x _ ih =>
    intro os h
    cases h with
    | cons r t =>
      obtain ⟨zs, pz, hz⟩ := ih t
      exact ⟨_ :: zs, pz.cons _, .cons r hz⟩
  | swap x y l =>
    intro os h
    cases h with
    | cons r t => cases t with
      | cons r2 t => exact ⟨_, .swap _ _ _, .cons r2 (.cons r t)⟩
  | trans _ _ ih1 ih2 =>
    intro os h
    obtain ⟨z1, p1, h1⟩ := ih2 h
    obtain ⟨z2, p2, h2⟩ := ih1 h1
    exact ⟨z2, p2.trans p1, h2⟩
theorem six_lo (n k : Nat) : HT.sIx n 0 (some (k : Int)) = min k n := HT.sIx_nat _ _ _
theorem cut_from (xs : List V) (k : Nat) : cutV xs (some (k : Int)) none = xs.drop k := by
  unfold cutV
  rw [six_lo, show HT.sIx xs.length xs.length none = xs.length from rfl]
  by_cases h : k ≤ xs.length
  · rw [Nat.min_eq_left h, List.take_of_length_le (by rw [List.length_drop]; omega)]
  · rw [Nat.min_eq_right (by omega), Nat.sub_self, List.take_zero, List.drop_eq_nil_of_le (by omega)]
theorem cut_upto (xs : List V) (k : Nat) : cutV xs none (some (k : Int)) = xs.take k := by
  unfold cutV
  rw [show HT.sIx xs.length xs.length (some (k : Int)) = HT.sIx xs.length 0 (some (k : Int)) from rfl, six_lo, show HT.sIx xs.length 0 none = 0 from rfl, List.drop_zero, Nat.sub_zero]
  by_cases h : k ≤ xs.length
  · rw [Nat.min_eq_left h]
  · rw [Nat.min_eq_right (by omega), List.take_length, List.take_of_length_le (by omega)]
theorem paired_snoc {α β : Type} {R : α → β → Prop} {u : α} {o : β} (ro : R u o) : ∀ {us : List α} {os : List β}, Paired R us os → Paired R (us ++ [u]) (os ++ [o])
  | _, _, .nil => .cons ro .nil
  | _, _, .cons r t => .cons r (paired_snoc ro t)
theorem dp_strs {H : Hp} : ∀ ws : List Str, DpAll K H (ws.map V.str) (ws.map PyData.str)
  | [] => .nil
  | z :: r => .cons (.str z) (dp_strs r)
theorem strOk_of {z : Str} (h : ∀ c ∈ cds z, c < 200) : PyData.strOk z = true := by
  unfold PyData.strOk
  rw [← Array.all_toList, List.all_eq_true]
  exact fun c hc => decide_eq_true (Nat.lt_trans (h c hc) (by decide))
theorem more_lt : ∀ r : List Nat, ∀ c ∈ more r, c < 200
  | [], c, hc => by
    have : c = 41 := List.mem_singleton.mp hc
    omega
  | p :: r, c, hc => by
    rcases List.mem_cons.mp (show c ∈ 32 :: (dgs p ++ more r) from hc) with rfl | hc
    · decide
    rcases List.mem_append.mp hc with hc | hc
    · have := dgs_all p c hc
      omega
    · exact more_lt r c hc
theorem ringS_ok {r : List Nat} (ne : r ≠ []) : PyData.strOk (ringS r) = true := by
  refine strOk_of fun c hc => ?_
  rw [ringS_cds ne] at hc
  cases r with
  | nil => cases hc
  | cons p r =>
    rcases List.mem_cons.mp (show c ∈ 40 :: (dgs p ++ more r) from hc) with rfl | hc
    · decide
    rcases List.mem_append.mp hc with hc | hc
    · have := dgs_all p c hc
      omega
    · exact more_lt r c hc
theorem lay_strs : ∀ ws : List Str, (∀ z ∈ ws, PyData.strOk z = true) → PyData.canLayAll0 (ws.map PyData.str) = true
  | [], _ => rfl
  | n :: r, h => by
    show (PyData.canLay0 (.str n) && PyData.canLayAll0 (r.map PyData.str)) = true
    rw [lay_strs r (fun z hz => h z (List.mem_cons_of_mem _ hz)), Bool.and_true]
    unfold PyData.canLay0
    exact h n List.mem_cons_self
theorem dep_strs : ∀ ws : List Str, PyData.depthAll (ws.map PyData.str) ≤ 1
  | [] => by decide
  | n :: r => by
    have := dep_strs r
    simp only [List.map_cons, PyData.depthAll, PyData.depth]
    omega
theorem shaped_strs (ws : List Str) (ok : ∀ z ∈ ws, PyData.strOk z = true) : SeqAt.shaped (.list (ws.map PyData.str)) = true := by
  unfold SeqAt.shaped
  have h := dep_strs ws
  rw [show PyData.canLay0 (.list (ws.map PyData.str)) = true from lay_strs ws ok, Bool.true_and]
  refine decide_eq_true ?_
  simp only [PyData.depth]
  omega
theorem neS {a b : Addr} {ws : List Str} {H : Hp} {Q : VK} (ok : ∀ z ∈ ws, PyData.strOk z = true) (S : H a = some (.lst (ws.map V.str))) (S2 : H b = some (.lst [])) (q : Q (.bl (!decide (ws = []))) H) : rNeD K (.ref a) (.ref b) H Q :=
  ⟨.list (ws.map .str), .list [], .lst (.inl (.inl S)) (dp_strs _), .lst (.inl (.inl S2)) .nil, shaped_strs ws ok, shaped_strs [] (fun z h => by cases h), by
    have e : PyData.eqv (.list (ws.map .str)) (.list []) = decide (ws = []) := by
      cases ws with
      | nil => rfl
      | cons x r => rfl
    rw [e]
    exact q⟩
theorem rg_from (a b : Nat) : rgV (a : Int) (b : Int) = mv ((List.range (b - a)).map (a + ·)) := by
  unfold rgV mv
  rw [List.map_map, show ((b : Int) - (a : Int)).toNat = b - a by omega]
  rfl
theorem big_ok {m : List Nat} (hm : Mv m) : ∀ r ∈ bigR m, 2 ≤ r.length ∧ ∀ x ∈ r, x < 24 := fun r hr => by
  obtain ⟨h1, h2⟩ := List.mem_filter.mp hr
  exact ⟨of_decide_eq_true h2, ((rings24 hm).2 r h1).2.2⟩
theorem scMovesRightL : FnScope ["_law_bag_here", "_law_places", "_law_move", "_law_text", "_law_rings", "_law_ring", "_law_parts", "_law_cut", "_law_place", "_law_other", "_law_wide"] ["_law_bag_here"] (defScope sMovesRightL) :=
  ⟨rfl, rfl, rfl, by decide +kernel, rfl, by decide +kernel, by decide +kernel⟩
theorem bMovesRightL (T : Tx K mg) (Y : Ex K mg) (DGrabL : Def P w K mg base CX0 1 "_law_grab" ["_law_bag_here", "_law_total"] spGrab) (DMoveDrawnL : Def P w K mg base CX0 2 "_law_move_drawn" ["_law_bag_here", "_law_places"] (spDrawn K)) (DPowerL : Def P w K mg base CX0 2 "_law_power" ["_law_move", "_law_number_here"] (spPow K)) (DOneOfL : Def P w K mg base CX0 2 "_law_one_of" ["_law_bag_here", "_law_items"] (spOneOf K)) (DMoveTextL : Def P w K mg base CX0 6 "_law_move_text" ["_law_move"] (spMW K)) (DWriteMove : Def P w K mg base CX0 6 "write_move" ["move"] (spMW K)) (DMixedL : Def P w K mg base CX0 2 "_law_mixed" ["_law_bag_here", "_law_items"] (spMixed K)) (DCyclesL : Def P w K mg base CX0 1 "_law_cycles" ["_law_move"] (spCycL K)) (BReadMove : Def P w K mg base (L2.CX P w) 7 "read_move" ["text", "places"] (spReadMove K)) : Def P w K mg base (L2.CX P w) 9 "_law_moves_right" ["_law_bag_here"] (spRight K) := by
  refine T.t_law_moves_right.defX (N := ["_law_bag_here", "_law_places", "_law_move", "_law_text", "_law_rings", "_law_ring", "_law_parts", "_law_cut", "_law_place", "_law_other", "_law_wide"]) scMovesRightL (fun _ _ _ _ _ _ us hl => match us, hl with | [_], _ => rfl) ?_ ?_
  · intro vs H Q E h
    obtain ⟨g, rfl, _⟩ := h
    rfl
  · intro f cd A out s H vs Q E hr h
    have hr1 : Rm 6 _ := hr.le (by decide)
    have hr2 : Rm 7 _ := hr.le (by decide)
    have tk : Takes (cxOf (L2.CX P w) P w K mg base ["_law_bag_here", "_law_places", "_law_move", "_law_text", "_law_rings", "_law_ring", "_law_parts", "_law_cut", "_law_place", "_law_other", "_law_wide"] "_law_moves_right" (defScope sMovesRightL) f cd A out s H E) (fun cls d _ H1 => E cls d H1) := takes_of rfl rfl rfl rfl
    obtain ⟨g, rfl, bag, q⟩ := h
    refine ⟨_, (pss_cons (ps_set (i := 1) scMovesRightL.nd rfl (Or.inl rfl) (pe_op op_add pe_int (pe_d DGrabL (hr1.le (by decide)) pass0 (pa_cons (pv 0) (pa_cons pe_int pa_nil)))))
      (pss_cons (ps_set (i := 2) scMovesRightL.nd rfl (Or.inl rfl) (pe_d DMoveDrawnL (hr1.le (by decide)) pass0 (pa_cons (pv 0) (pa_cons (pv 1) pa_nil))))
      (pss_cons (ps_if (pt_cmpR op_eq (pe_d DGrabL (hr1.le (by decide)) pass0 (pa_cons (pv 0) (pa_cons pe_int pa_nil))) pe_int (nomark _)) (pss_one (ps_set (i := 2) scMovesRightL.nd rfl (Or.inl rfl) (pe_d DPowerL (hr1.le (by decide)) pass0 (pa_cons (pv 2) (pa_cons (pe_d DOneOfL (hr1.le (by decide)) pass0 (pa_cons (pv 0) (pa_cons (pe_lst (pa_cons pe_int (pa_cons pe_int (pa_cons pe_int (pa_cons pe_int pa_nil))))) pa_nil))) pa_nil))))) pss_nil)
      (pss_cons (ps_set (i := 3) scMovesRightL.nd rfl (Or.inl rfl) (pe_d DMoveTextL (hr1.le (by decide)) pass0 (pa_cons (pv 2) pa_nil)))
      (pss_cons (ps_if (PW.pt (pw_or (pt_cmpR op_ne (pe_d DWriteMove (hr1.le (by decide)) pass0 (pa_cons (pv 2) pa_nil)) (pv 3) (nomark _)) (pw_or1 (pt_cmpR (op_neD hr.hu) (ME.pe_dS BReadMove (hr2.le (by decide)) (passAt tk) (pa_cons (pv 3) (pa_cons (pv 1) pa_nil))) (pv 2) (nomark _))))) (pss_one (ps_ret pe_bl)) pss_nil)
      (pss_cons (ps_set (i := 4) scMovesRightL.nd rfl (Or.inl rfl) (pe_d DMixedL (hr1.le (by decide)) pass0 (pa_cons (pv 0) (pa_cons (pe_lc (own := [("_law_ring", 5)]) (g := gName 5) rfl scMovesRightL.nd (pi_list (pe_d DCyclesL (hr1.le (by decide)) pass0 (pa_cons (pv 2) pa_nil))) (blkOk_by (N := ["_law_bag_here", "_law_places", "_law_move", "_law_text", "_law_rings", "_law_ring", "_law_parts", "_law_cut", "_law_place", "_law_other", "_law_wide"]) (sc := defScope sMovesRightL) (by decide +kernel)) (fun _ _ _ _ _ => pg_name (i := 5) scMovesRightL.nd rfl (Or.inl rfl)) (fun _ _ _ _ _ => (pts_one (pt_cmpR op_gt (pe_callB (cr_lenK (K := K) rfl) rfl T.f_len (by decide +kernel) (pa_cons (pv 5) pa_nil)) pe_int (nomark _)))) (fun _ _ _ _ _ => (pv 5))) pa_nil))))
      (pss_cons (ps_set (i := 6) scMovesRightL.nd rfl (Or.inl rfl) (pe_lst pa_nil))
      (pss_cons (ps_for (passes_of rfl) rfl (pi_list (pv 4)) (pg_name (i := 5) scMovesRightL.nd rfl (Or.inl rfl))
        (pss_cons (ps_set (i := 7) scMovesRightL.nd rfl (Or.inl rfl) (pe_d DGrabL (hr1.le (by decide)) pass0 (pa_cons (pv 0) (pa_cons (pe_callB call_len_seq rfl T.f_len (by decide +kernel) (pa_cons (pv 5) pa_nil)) pa_nil))))
        (pss_one (ps_expr (pe_bm PySem.F.plainAttrs_list PySem.F.slot_list_append PySem.F.type_list_append mt_append (pv 6) (pa_cons (pe_op op_add_str (pe_op op_add_str pe_str (pe_join pe_str (pe_lc (own := [("_law_place", 8)]) (g := gName 8) (tt := tYes) rfl scMovesRightL.nd (pi_tup (pe_op op_catA (pe_slice sl_tupA (pv 5) (po_some (pv 7)) po_none) (pe_slice sl_tupA (pv 5) po_none (po_some (pv 7))))) (blkOk_by (N := ["_law_bag_here", "_law_places", "_law_move", "_law_text", "_law_rings", "_law_ring", "_law_parts", "_law_cut", "_law_place", "_law_other", "_law_wide"]) (sc := defScope sMovesRightL) (by decide +kernel)) (fun _ _ _ _ _ => pg_name (i := 8) scMovesRightL.nd rfl (Or.inl rfl)) (fun _ _ _ _ _ => pts_nil) (fun _ _ _ _ _ => (pe_callTy call_str_int rfl T.f_str (by decide +kernel) (pa_cons (pv 8) pa_nil)))))) pe_str) pa_nil))))))
      (pss_cons (ps_set (i := 9) scMovesRightL.nd rfl (Or.inl rfl) (pe_ifExp (pt_cmpR (op_neD hr.hu) (pv 6) (pe_lst pa_nil) (nomark _)) (pe_join pe_str (pv 6)) pe_str))
      (pss_cons (ps_set (i := 10) scMovesRightL.nd rfl (Or.inl rfl) (pe_op op_add (pv 1) (pe_d DGrabL (hr1.le (by decide)) pass0 (pa_cons (pv 0) (pa_cons (pe_op op_sub pe_int (pv 1)) pa_nil)))))
      (pss_one (ps_ret (pe_and (pe_cmpR (op_eqD hr.hu) (ME.pe_dS BReadMove (hr2.le (by decide)) (passAt tk) (pa_cons (pv 9) (pa_cons (pv 1) pa_nil))) (pv 2) (nomark _)) (pe_one (pe_cmpR (op_eqD hr.hu) (ME.pe_dS BReadMove (hr2.le (by decide)) (passAt tk) (pa_cons (pv 9) (pa_cons (pv 10) pa_nil))) (pe_op op_catA (pv 2) (pe_tupRg rfl rfl T.f_tuple (prg_2 rfl T.f_range (pv 1) (pv 10)))) (nomark _)))))))))))))))), ?_⟩
    obtain ⟨b0, b1, b2, eg⟩ := id bag
    refine ⟨_, rfl, g, 24, b0, b1, b2, rfl, eg, div_small (n := 24) (by omega) (by omega), fun r1 g1 m1 c1 h10 h11 => ?_⟩
    refine ⟨_, _, rfl, rfl, ?_⟩
    obtain ⟨n, hn, n24, n1⟩ : ∃ n : Nat, (1 : Int) + r1 = (n : Int) ∧ n ≤ 24 ∧ 1 ≤ n := ⟨(1 + r1).toNat, by omega, by omega, by omega⟩
    rw [show (fun i j : Int => V.int (i + j)) 1 r1 = V.int (n : Int) from congrArg V.int hn]
    have U1 : Upto g H (upd H g (.lst [.int g1, .int m1, .int c1])) := (Upto.refl bag).draw
    generalize upd H g _ = H1 at U1 ⊢
    refine ⟨_, rfl, _, rfl, g, n, rfl, U1.bag, n1, n24, fun H2 t m u2 tg St hm lm => ?_⟩
    have U2 := U1.trans u2
    clear u2 U1
    dsimp only [gName]
    refine seq_rest (fun σ H3 => ∃ t m, Upto g H H3 ∧ SqT K H3 t (mv m) ∧ Mv m ∧ m.length = n ∧ σ = [some (.ref g), some (.int (n : Int)), some (.ref t), none, none, none, none, none, none, none, none]) ?_ ?_
    rotate_left
    · intro N hN
      obtain ⟨b0, b1, b2, eg⟩ := id U2.bag
      refine ⟨_, rfl, g, 3, b0, b1, b2, rfl, eg, div_small (n := 3) (by omega) (by omega), fun r3 g3 m3 c3 h30 h31 => ?_⟩
      refine ⟨rfl, _, rfl, ?_⟩
      rw [dInt]
      have U3 : Upto g H2 (upd H2 g (.lst [.int g3, .int m3, .int c3])) := (Upto.refl U2.bag).draw
      have S3 := upto_sqt U3 U2.bag St
      replace U3 := U2.trans U3
      generalize upd H2 g _ = H3 at U3 S3 ⊢
      by_cases c : r3 = 0
      · refine ifT (decide_eq_true c) ?_
        refine ⟨_, rfl, _, rfl, by show 4 ≤ sizeLine; decide, fun l fl => ?_⟩
        obtain ⟨lg, _⟩ := U3.free fl
        obtain ⟨d0, d1, d2, e1⟩ := id U3.bag
        refine ⟨g, l, d0, d1, d2, _, rfl, same_new fl _ _ e1, .inl (.inl upd_same), lg, by show 0 < 4; omega, by show 4 ≤ 1000; omega, fun v g4 m4 c4 hv => ?_⟩
        have U4 : Upto g H3 (upd (upd H3 l (.lst [.int 0, .int 2, .int 3, .int 6])) g (.lst [.int g4, .int m4, .int c4])) := ((Upto.refl U3.bag).new fl).draw
        have S4 := upto_sqt U4 U3.bag S3
        replace U4 := U3.trans U4
        generalize upd (upd H3 l _) g _ = H4 at U4 S4 ⊢
        obtain ⟨e, rfl⟩ : ∃ e : Int, v = .int e := by
          simp only [List.mem_cons, List.not_mem_nil, or_false] at hv
          rcases hv with rfl | rfl | rfl | rfl <;> exact ⟨_, rfl⟩
        refine ⟨t, m, e, rfl, S4, hm, fun H5 t5 s5 S5 => ?_⟩
        obtain ⟨hm5, l5⟩ := mv_of_pm (pm_pw (M := ordOf (fn' m) m.length) (e := e) (pm_of hm)) (by omega : 1 ≤ m.length) (by omega)
        exact hN _ _ ⟨t5, _, U4.keep s5, S5, hm5, l5.trans lm, rfl⟩
      · refine ifF (decide_eq_false c) ?_
        exact hN _ _ ⟨t, m, U3, S3, hm, lm, rfl⟩
    clear St hm lm U2
    rintro σ H3 ⟨t, m, U3, St, hm, lm, rfl⟩
    obtain ⟨rl, r24⟩ := rings24 hm
    have bg := big_goes hm
    refine ⟨_, rfl, t, m, rfl, St, hm, fun H4 z s4 cz zl => ?_⟩
    have U4 := U3.keep s4
    replace St := same_sqt s4 St
    refine ⟨_, rfl, t, m, rfl, St, hm, fun H5 z5 s5 cz5 zl5 => ?_⟩
    obtain rfl := str_eq (cz5.trans cz.symm)
    have U5 := U4.keep s5
    replace St := same_sqt s5 St
    subst lm
    have b2 := big_ok hm
    refine ⟨_, rfl, rfl, _, rfl, ?_⟩
    refine ifF (by rw [decide_eq_true rfl]; rfl) ?_
    refine ⟨_, rfl, _, rfl, ?_⟩
    simp only [tNil]
    refine read_ok cz5 b2 (by omega) n1 n24 bg.2 fun H6 t6 s6 S6 => ?_
    have U6 := U5.keep s6
    replace St := same_sqt s6 St
    refine ⟨_, rfl, neM S6 St ?_⟩
    refine ⟨_, rfl, ?_⟩
    rw [decide_eq_true (told_move bg.2 bg.1)]
    refine ifF rfl ?_
    clear S6 s6 U5 s5 U4 s4 U3
    refine ⟨_, rfl, _, rfl, t, m, rfl, St, hm, fun H1 L us s1 L0 hL rf => ?_⟩
    have U7 := U6.keep s1
    replace St := same_sqt s1 St
    replace hL : SqL K H1 L us := .inl (.inl hL)
    have eB : bigR m = (rings (fn' m) m.length).filter fun r => decide (1 < r.length) := rfl
    have b24 : ∀ r ∈ bigR m, r ≠ [] ∧ r.length ≤ 24 ∧ ∀ x ∈ r, x < 24 := fun r hr => r24 r (by rw [eB] at hr; exact (List.mem_filter.mp hr).1)
    generalize rings (fn' m) m.length = R at rf r24 rl eB
    have ul : us.length = R.length := Paired.length rf
    refine ⟨L, rfl, ⟨_, hL⟩, fun D nD => ?_⟩
    refine lc_list (xs := us) (fun i H => ∃ sel : List V, H = upd H1 D (.lst sel) ∧ Refs K H1 sel ((R.take i).filter fun r => decide (1 < r.length))) ⟨[], rfl, .nil⟩
      (fun i H _ h => by
        obtain ⟨sel, rfl, _⟩ := h
        exact sql_new hL nD) ?_ ?_
    · rintro i x H2 hx ⟨sel, rfl, rf'⟩
      obtain ⟨r, t, hr, rfl, St⟩ := rf.get hx
      obtain ⟨lt, _⟩ := List.getElem?_eq_some_iff.mp hx
      have ls : sel.length ≤ 24 := by
        have e : sel.length = _ := Paired.length rf'
        rw [e]
        refine Nat.le_trans (List.length_filter_le _ _) ?_
        rw [List.length_take]
        omega
      have ts : ((R.take (i + 1)).filter fun r => decide (1 < r.length)) = ((R.take i).filter fun r => decide (1 < r.length)) ++ (if 1 < r.length then [r] else []) := by
        rw [List.take_add_one, hr, List.filter_append]
        congr 1
        by_cases c : 1 < r.length
        · rw [if_pos c]
          simp [c]
        · rw [if_neg c]
          simp [c]
      refine ⟨wipe_one, ?_⟩
      refine ⟨_, rfl, t, _, rfl, .inr (sqt_new St nD), _, _, rfl, rfl, _, rfl, ?_⟩
      by_cases c : 1 < r.length
      · refine ifT (decide_eq_true (by rw [mv_len]; omega)) ?_
        rw [if_pos c] at ts
        refine ⟨_, rfl, sel, upd_same, by rw [sizeLine_eq]; omega, ?_⟩
        exact ⟨sel ++ [.ref t], by rw [upd_upd], by rw [ts]; exact rf'.snoc St⟩
      · refine ifF (decide_eq_false (by rw [mv_len]; omega)) ?_
        rw [if_neg c, List.append_nil] at ts
        exact ⟨sel, rfl, by rw [ts]; exact rf'⟩
    rintro H2 ⟨sel, rfl, rf'⟩
    rw [ul, List.take_length, ← eB] at rf'
    have bl : (bigR m).length ≤ 24 := by
      rw [eB]
      exact Nat.le_trans (List.length_filter_le _ _) rl
    have sl : sel.length = (bigR m).length := Paired.length rf'
    obtain ⟨Dg, _⟩ := U7.free nD
    have U8 := U7.keep (same_new nD (o := .lst sel))
    replace St := sqt_new (o := .lst sel) St nD
    have eD : (upd H1 D (.lst sel)) D = some (.lst sel) := upd_same
    have rf2 := rf'.same (same_new nD (o := .lst sel))
    clear rf' hL rf U7 ul eB
    generalize upd H1 D _ = H2 at U8 St eD rf2 ⊢
    refine ⟨g, D, sel, rfl, U8.bag, .inl (.inl eD), Dg, by omega, fun H7 T ys u7 nT pm eT => ?_⟩
    obtain ⟨Z, pZ, rfZ⟩ := paired_perm pm (upto_refs u7 U8.bag rf2)
    replace St := upto_sqt u7 U8.bag St
    have U7 := U8.trans u7
    have Tg : T ≠ g := fun z => by
      obtain ⟨b0, b1, b2, eg⟩ := id U8.bag
      rw [z, eg] at nT
      cases nT
    refine ⟨Nat.zero_le _, fun G nG => ?_⟩
    obtain ⟨Gg, G0⟩ := U7.free nG
    have TG : T ≠ G := ne_of_none eT nG
    have bag7 := U7.bag
    clear rf2 u7 U8 eD nT
    refine ⟨_, rfl, T, rfl, ⟨_, .inl (.inl ((upd_ne TG).trans eT))⟩, for_list (K := K) (a := T) (xs := ys)
      (fun i σ H3 => Upto g H7 H3 ∧ ∃ R' : List (List Nat), Paired (fun r r' => ∃ c, c < r.length ∧ r' = rot r c) (Z.take i) R' ∧ H3 G = some (.lst ((R'.map ringS).map V.str)) ∧
        ∃ x y z, σ = [some (.ref g), some (.int (m.length : Int)), some (.ref t), some (.str z5), some (.ref T), x, some (.ref G), y, z, none, none])
      ⟨(Upto.refl bag7).new nG, [], .nil, upd_same, _, _, _, rfl⟩ (fun i σ H3 _ h => .inl (.inl (h.1.same _ _ Tg eT))) ?_ ?_⟩
    · rintro i v σ H3 hv ⟨U, R', pR, hG, x, y, z, rfl⟩
      obtain ⟨r, tr, hr, rfl, Sr⟩ := Refs.get (K := K) rfZ hv
      have mr : r ∈ bigR m := pZ.mem_iff.mp (List.mem_of_getElem? hr)
      obtain ⟨rne, rl24, rx⟩ := b24 r mr
      have r2 := (b2 r mr).1
      obtain ⟨lt, _⟩ := List.getElem?_eq_some_iff.mp hr
      have Sr3 := upto_sqt U bag7 Sr
      obtain ⟨d0, d1, d2, ed⟩ := id U.bag
      have ml := mv_len r
      refine ⟨_, rfl, _, rfl, tr, _, rfl, .inr Sr3, g, _, d0, d1, d2, rfl, ed, div_small (by rw [ml]; omega) (by rw [ml]; omega), fun c g4 m4 c4 h40 h41 => ?_⟩
      obtain ⟨k, rfl, kl⟩ : ∃ k : Nat, c = (k : Int) ∧ k < r.length := ⟨c.toNat, by omega, by omega⟩
      have U4 : Upto g H3 (upd H3 g (.lst [.int g4, .int m4, .int c4])) := (Upto.refl U.bag).draw
      have hG4 := U4.same _ _ Gg hG
      have Sr4 := upto_sqt U4 U.bag Sr3
      replace U4 := U.trans U4
      generalize upd H3 g _ = H4 at U4 hG4 Sr4 ⊢
      refine ⟨_, rfl, .inl ⟨rfl, _, .inl (.inl hG4)⟩, ?_⟩
      refine ⟨⟨_, rfl⟩, ?_⟩
      refine ⟨_, rfl, _, rfl, _, rfl, ?_⟩
      dsimp only [tNoPart]
      refine slA Sr4 fun H5 ta s5 Sa => ?_
      refine ⟨_, rfl, _, rfl, _, rfl, ?_⟩
      dsimp only [tNoPart]
      refine slA (same_sqt s5 Sr4) fun H6 tb s6 Sb => ?_
      refine catA (same_sqt s6 Sa) Sb (by rw [cut_from, cut_upto, List.length_drop, List.length_take, ml, sizeLine_eq]; omega) fun H8 tc s8 Sc => ?_
      rw [cut_from, cut_upto] at Sc
      replace Sc : SqT K H8 tc (mv (rot r k)) := by
        unfold rot mv
        rw [List.map_append, List.map_drop, List.map_take]
        exact Sc
      have s48 := s5.trans (s6.trans s8)
      have U8 := U4.keep s48
      have hG8 := s48 _ _ hG4
      have ml2 := mv_len (rot r k)
      have rl2 := rot_len r k
      refine ⟨tc, rfl, ⟨_, Sc⟩, fun D3 nD3 => ?_⟩
      have rx2 : ∀ j ∈ rot r k, j < 24 := fun j hj => rx j ((rot_perm r k).mem_iff.mp hj)
      refine lc_tplF (fun _ => true) (fun x => match x with | .int i => .str (Str.ofString (toString i)) | _ => .non) Sc nD3 (by rw [sizeLine_eq]; omega) (fun x acc hx Q' q' => q') ?_ ?_
      · intro x acc hx _ Q' q'
        obtain ⟨j, hj, rfl⟩ := List.mem_map.mp hx
        have := rx2 j hj
        exact ⟨_, rfl, (j : Int), rfl, log_small (small61 (by omega)), q'⟩
      have em : ((mv (rot r k)).filter fun _ => true).map (fun x => match x with | .int i => V.str (Str.ofString (toString i)) | _ => .non) = ((rot r k).map fun (k : Nat) => Str.ofString (toString (k : Int))).map V.str := by
        rw [List.filter_eq_self.mpr (fun _ _ => rfl), List.map_map]
        unfold mv
        rw [List.map_map]
        rfl
      rw [em]
      have U9 := U8.keep (same_new nD3 (o := .lst (((rot r k).map fun (k : Nat) => Str.ofString (toString (k : Int))).map V.str)))
      have h5 : (upd H8 D3 (.lst (((rot r k).map fun (k : Nat) => Str.ofString (toString (k : Int))).map V.str))) G = _ := (upd_ne (ne_of_none hG8 nD3)).trans hG8
      have e5 : (upd H8 D3 (.lst (((rot r k).map fun (k : Nat) => Str.ofString (toString (k : Int))).map V.str))) D3 = _ := upd_same
      generalize upd H8 D3 _ = H9 at U9 h5 e5 ⊢
      have rs := ringS_len (by omega : (rot r k).length ≤ 24) rx2
      have rs2 := rs
      unfold ringS at rs2
      rw [app_len, app_len] at rs2
      have j2 := sum_leN (B := 2) (ys := (rot r k).map fun (k : Nat) => Str.ofString (toString (k : Int))) fun y hy => by
        obtain ⟨j, hj, rfl⟩ := List.mem_map.mp hy
        exact place_len (rx2 j hj)
      have nj : (" " : Str).length = 1 := rfl
      have nn := sizeLine_eq
      have lr : ((rot r k).map fun (k : Nat) => Str.ofString (toString (k : Int))).length ≤ 24 := by rw [List.length_map]; omega
      have pR2 := paired_snoc (⟨k, kl, rfl⟩ : ∃ c, c < r.length ∧ rot r k = rot r c) pR
      have lR : R'.length ≤ 24 := by
        have e : (Z.take i).length = R'.length := Paired.length pR
        rw [List.length_take] at e
        have := pZ.length_eq
        omega
      refine ⟨_, D3, _, rfl, rfl, .inl (.inl (.inl e5)), by rw [nj]; omega, _, _, rfl, rfl, by omega, _, _, rfl, rfl, by rw [app_len]; omega, G, _, _, rfl, rfl, h5, by rw [List.length_map, List.length_map]; omega, ?_⟩
      refine ⟨U9.put Gg nG, R' ++ [rot r k], by rw [List.take_add_one, hr]; exact pR2, ?_, _, _, _, rfl⟩
      rw [upd_same, List.map_append, List.map_append]
      rfl
    · rintro σ H3 ⟨U3, R', pR, hG, x, y, z, rfl⟩
      have lus : ys.length = Z.length := Paired.length rfZ
      rw [lus, List.take_length] at pR
      have tu := turned_of pZ pR
      have rg := tu.rings bg.2
      have go := tu.goes bg.1
      have U := U7.trans U3
      replace St := upto_sqt U3 bag7 St
      have b2' : ∀ r ∈ R', 2 ≤ r.length ∧ ∀ x ∈ r, x < 24 := fun r' hr' => by
        obtain ⟨r, hr, c, hc, rfl⟩ := tu.each r' hr'
        obtain ⟨h1, h2⟩ := b2 r hr
        exact ⟨by rw [rot_len]; exact h1, fun x hx => h2 x ((rot_perm r c).mem_iff.mp hx)⟩
      have lR : R'.length ≤ 24 := by
        have e : Z.length = R'.length := Paired.length pR
        have := pZ.length_eq
        omega
      clear rfZ eT nG G0 U3
      have Rne : ∀ r ∈ R', r ≠ [] := fun r hr z => by
        have := (b2' r hr).1
        rw [z] at this
        exact absurd this (by decide)
      dsimp only
      refine seq_rest (fun σ H4 => ∃ z', Upto g H H4 ∧ SqT K H4 t (mv m) ∧ cds z' = ringsT R' ∧ z'.length ≤ 2400 ∧
        ∃ x y z, σ = [some (.ref g), some (.int (m.length : Int)), some (.ref t), some (.str z5), some (.ref T), x, some (.ref G), y, z, some (.str z'), none]) ?_ ?_
      rotate_left
      · intro N hN
        refine ⟨_, rfl, Nat.zero_le _, fun W nW => ?_⟩
        have eG : (upd H3 W (.lst [])) G = some (.lst ((R'.map ringS).map V.str)) := (upd_ne (ne_of_none hG nW)).trans hG
        have UW := U.new (o := .lst []) nW
        replace St := sqt_new (o := .lst []) St nW
        have eW : (upd H3 W (.lst [])) W = some (.lst []) := upd_same
        generalize upd H3 W _ = H4 at eG UW St eW ⊢
        refine neS (fun z hz => by
          obtain ⟨r, hr, rfl⟩ := List.mem_map.mp hz
          exact ringS_ok (Rne r hr)) eG eW ?_
        refine ⟨_, rfl, ?_⟩
        by_cases e : R' = []
        · refine ifF (by rw [e]; rfl) ?_
          exact hN _ _ ⟨_, UW, St, by rw [e]; decide +kernel, by decide +kernel, _, _, _, rfl⟩
        · refine ifT (by rw [decide_eq_false (fun z => e (List.map_eq_nil_iff.mp z))]; rfl) ?_
          have j1 := join_len "" (R'.map ringS)
          have j2 := sum_leN (B := 98) (ys := R'.map ringS) fun y hy => by
            obtain ⟨r, hr, rfl⟩ := List.mem_map.mp hy
            have rg1 := tu.each r hr
            obtain ⟨r0, hr0, c, hc, e0⟩ := rg1
            exact ringS_len (by rw [e0, rot_len]; exact (b24 r0 hr0).2.1) (b2' r hr).2
          have n0 : ("" : Str).length = 0 := rfl
          rw [n0] at j1
          rw [List.length_map] at j1 j2
          refine ⟨⟨_, rfl⟩, _, rfl, "", G, R'.map ringS, rfl, rfl, .inl (.inl (.inl eG)), by rw [n0, List.length_map]; omega, ?_⟩
          exact hN _ _ ⟨_, UW, St, rings_cds Rne e, by omega, _, _, _, rfl⟩
      rintro σ H4 ⟨z', U4, St, cz', zl', x, y, z, rfl⟩
      obtain ⟨d0, d1, d2, ed⟩ := id U4.bag
      refine ⟨_, rfl, _, rfl, _, rfl, _, _, rfl, rfl, g, _, d0, d1, d2, rfl, ed, ?_, fun c g4 m4 c4 h40 h41 => ?_⟩
      · rw [show (25 : Int) - (m.length : Int) = ((25 - m.length : Nat) : Int) by omega]
        exact div_small (by omega) (by omega)
      refine ⟨_, _, rfl, rfl, ?_⟩
      obtain ⟨n2, hn2, n2l, n2g⟩ : ∃ n2 : Nat, (m.length : Int) + c = (n2 : Int) ∧ n2 ≤ 24 ∧ m.length ≤ n2 := ⟨m.length + c.toNat, by omega, by omega, by omega⟩
      rw [show (fun i j : Int => V.int (i + j)) (m.length : Int) c = V.int (n2 : Int) from congrArg V.int hn2]
      have U5 : Upto g H4 (upd H4 g (.lst [.int g4, .int m4, .int c4])) := (Upto.refl U4.bag).draw
      replace St := upto_sqt U5 U4.bag St
      replace U5 := U4.trans U5
      generalize upd H4 g _ = H5 at U5 St ⊢
      refine ⟨_, rfl, _, rfl, ?_⟩
      simp only [tNil]
      refine read_ok cz' b2' (by omega) n1 n24 rg fun H6 t6 s6 S6 => ?_
      replace St := same_sqt s6 St
      refine ⟨_, rfl, eqM S6 St ?_⟩
      refine ⟨_, rfl, ?_⟩
      rw [decide_eq_true (told_move rg go)]
      refine ifT rfl ?_
      obtain ⟨go2, rg2⟩ := goes_wide n2g rg go
      refine ⟨_, rfl, _, rfl, ?_⟩
      simp only [tNil]
      refine read_ok cz' b2' (by omega) (by omega) n2l rg2 fun H7 t7 s7 S7 => ?_
      replace St := same_sqt s7 St
      refine ⟨_, rfl, _, rfl, _, rfl, ?_⟩
      refine ⟨_, _, rfl, rfl, RgOk.of_le (by omega) (by omega) (by omega) (by omega), fun W nW => ?_⟩
      rw [rg_from]
      have s8 : Same H7 (upd H7 W (.tup (mv ((List.range (n2 - m.length)).map (m.length + ·))))) := same_new nW
      have SW : SqT K (upd H7 W (.tup (mv ((List.range (n2 - m.length)).map (m.length + ·))))) W (mv ((List.range (n2 - m.length)).map (m.length + ·))) := .inl (.inl upd_same)
      generalize upd H7 W _ = H8 at s8 SW ⊢
      refine catA (same_sqt s8 St) SW (by rw [mv_len, mv_len, List.length_map, List.length_range, sizeLine_eq]; omega) fun H9 t9 s9 S9 => ?_
      rw [← mv_app] at S9
      refine eqM (same_sqt (s8.trans s9) S7) S9 ?_
      have lm2 : (m ++ (List.range (n2 - m.length)).map (m.length + ·)).length = n2 := by
        rw [List.length_append, List.length_map, List.length_range]
        omega
      have tm := told_move (m := m ++ (List.range (n2 - m.length)).map (m.length + ·)) (by rw [lm2]; exact rg2) (by rw [lm2]; exact go2)
      rw [lm2] at tm
      rw [decide_eq_true tm]
      exact q _ (((U5.keep s6).keep s7).keep (s8.trans s9))
end
end K84


set_option Elab.async false
set_option linter.all false
set_option maxRecDepth 100000
set_option maxHeartbeats 4000000
namespace K84
open PySem PySem.Spec PyProof.Rows L2 MM PySem.NumText
/-! own words for the readings: a step, its side -/
local macro_rules | `(tactic| walk_at "side") => `(tactic| first
  | omega
  | exact ⟨by omega, by omega⟩
  | exact Or.inl ⟨by omega, by omega⟩
  | exact Or.inr ⟨by omega, by omega⟩
  | (show CPw _ _; decide +kernel)
  | (show (0 : Int) < _; decide +kernel)
  | (show CDivW _ _; first | assumption | exact ⟨by decide, by decide +kernel⟩))
local macro_rules | `(tactic| walk_at "here") => `(tactic| first
  | assumption
  | exact upd_same
  | exact Or.inl (Or.inl upd_same)
  | exact Or.inl upd_same)
local macro_rules | `(tactic| walk_at "one") => `(tactic| first
  | refine ⟨_, rfl, ?_⟩
  | refine Or.inl ⟨_, rfl, ?_⟩
  | refine Or.inr ⟨_, rfl, ?_⟩
  | refine ⟨_, _, rfl, rfl, (by walk_at "side"), ?_⟩
  | refine ⟨_, _, rfl, rfl, ?_⟩
  | refine ⟨_, _, rfl, Or.inl (by walk_at "here"), ?_⟩
  | refine ⟨_, _, rfl, Or.inr (by walk_at "here"), ?_⟩
  | refine ⟨_, _, rfl, (by walk_at "here"), ?_⟩
  | refine ⟨_, _, _, _, rfl, rfl, (by walk_at "here"), rfl, ?_⟩
  | refine ⟨_, _, rfl, ?_⟩
  | refine ifT (by rfl) ?_
  | refine ifF (by rfl) ?_
  | refine ifT (decide_eq_true (by omega)) ?_
  | refine ifF (decide_eq_false (by omega)) ?_)
local macro_rules | `(tactic| walk_at "st") => `(tactic| repeat (walk_at "one"))

section
variable {P : Program} {w : World} {K : PySem.W.Frag} {mg : Str → Option Value} {base : Heap}
def TermAt (K : PySem.W.Frag) (H : Hp) (v : V) (p : Int × Nat) : Prop := ∃ a, v = .ref a ∧ SqT K H a [.int p.1, .int (p.2 : Int)]
abbrev Terms (K : PySem.W.Frag) (H : Hp) (us : List V) (ps : List (Int × Nat)) : Prop := Paired (TermAt K H) us ps
def TmFor (t : Tm) (p : Int × Nat) : Prop := tmOk t ∧ tmP t = (p.2, p.1)
def HdOk (l : List Tm) : Prop := ∀ t r, l = t :: r → t.b = true → t.m ≠ 0
def spTT (K : PySem.W.Frag) : Sp := fun vs H Q _ => ∃ (g a : Addr) (us : List V) (ps : List (Int × Nat)), vs = [.ref g, .ref a] ∧ BagAt H g ∧ a ≠ g ∧ H a = some (.lst us) ∧ Terms K H us ps ∧ ps.length ≤ 100 ∧
  (∀ p ∈ ps, p.1.natAbs < 10 ^ 60 ∧ p.2 < 100) ∧ ∀ H' z l, Upto g H H' → cds z = kindsTx l → z.length ≤ 68 * ps.length + 1 → Paired TmFor l ps → HdOk l → Q (.str z) H'
theorem scTermsTextL : FnScope ["_law_bag_here", "_law_terms", "_law_found", "_law_number_here", "_law_index", "_law_size", "_law_lead"] ["_law_bag_here", "_law_terms"] (defScope sTermsTextL) :=
  ⟨rfl, rfl, rfl, by decide +kernel, rfl, by decide +kernel, by decide +kernel⟩
theorem dTermsTextL (T : Tx K mg) (DGrabL : Def P w K mg base CX0 1 "_law_grab" ["_law_bag_here", "_law_total"] spGrab) : Def P w K mg base CX0 2 "_law_terms_text" ["_law_bag_here", "_law_terms"] (spTT K) := by
  refine T.t_law_terms_text.def_ (N := ["_law_bag_here", "_law_terms", "_law_found", "_law_number_here", "_law_index", "_law_size", "_law_lead"]) scTermsTextL (fun _ _ _ _ _ _ us hl => match us, hl with | [_, _], _ => rfl) ?_ ?_
  · intro vs H Q E h
    obtain ⟨g, a, us, ps, rfl, _⟩ := h
    rfl
  · intro f cd A out s H vs Q E hr h
    have hr1 : Rm 1 _ := hr.le (by decide)
    obtain ⟨g, a, us, ps, rfl, bag, ag, ha, tr, l100, bd, q⟩ := h
    refine ⟨_, (pss_cons (ps_set (i := 2) scTermsTextL.nd rfl (Or.inl rfl) pe_str)
      (pss_cons (ps_for PassesOwn.never rfl (pi_list (pv 1)) (pg_tup rfl (pgs_cons (pg_name (i := 3) scTermsTextL.nd rfl (Or.inl rfl)) (pgs_cons (pg_name (i := 4) scTermsTextL.nd rfl (Or.inl rfl)) pgs_nil)))
        (pss_cons (ps_set (i := 5) scTermsTextL.nd rfl (Or.inl rfl) (pe_callTy call_str_int rfl T.f_str (by decide +kernel) (pa_cons (pe_callB call_abs rfl T.f_abs (by decide +kernel) (pa_cons (pv 3) pa_nil)) pa_nil)))
        (pss_cons (ps_if (PW.pt (pw_and (pt_cmpR op_eq (pe_callB call_abs rfl T.f_abs (by decide +kernel) (pa_cons (pv 3) pa_nil)) pe_int (nomark _)) (pw_and1 (pt_cmpR op_eq (pe_d DGrabL (hr1.le (by decide)) pass0 (pa_cons (pv 0) (pa_cons pe_int pa_nil))) pe_int (nomark _))))) (pss_one (ps_set (i := 5) scTermsTextL.nd rfl (Or.inl rfl) pe_str)) pss_nil)
        (pss_cons (ps_set (i := 6) scTermsTextL.nd rfl (Or.inl rfl) (pe_ifExp (pt_cmpR op_lt (pv 3) pe_int (nomark _)) pe_str pe_str))
        (pss_cons (ps_if (pt_cmpR op_ne (pv 2) pe_str (nomark _)) (pss_one (ps_set (i := 6) scTermsTextL.nd rfl (Or.inl rfl) (pe_ifExp (PW.pt (pw_or (pt_cmpR op_lt (pv 3) pe_int (nomark _)) (pw_or1 (PW.pt (pw_and (pt_cmpR op_eq (pv 3) pe_int (nomark _)) (pw_and1 (pt_cmpR op_eq (pe_d DGrabL (hr1.le (by decide)) pass0 (pa_cons (pv 0) (pa_cons pe_int pa_nil))) pe_int (nomark _)))))))) pe_str pe_str))) pss_nil)
        (pss_one (ps_set (i := 2) scTermsTextL.nd rfl (Or.inl rfl) (pe_op op_add_str (pe_op op_add_str (pe_op op_add_str (pe_op op_add_str (pe_op op_add_str (pv 2) (pv 6)) (pv 5)) pe_str) (pe_callTy call_str_int rfl T.f_str (by decide +kernel) (pa_cons (pv 4) pa_nil))) pe_str))))))))
      (pss_one (ps_ret (pe_ifExp (pt_cmpR op_ne (pv 2) pe_str (nomark _)) (pv 2) pe_str))))), ?_⟩
    refine ⟨_, rfl, a, rfl, ⟨_, .inl (.inl ha)⟩, for_list (K := K) (a := a) (xs := us) (fun i σ H3 => Upto g H H3 ∧ ∃ (f : Str) (l : List Tm) (x3 x4 x5 x6 : Option V), σ = [some (.ref g), some (.ref a), some (.str f), x3, x4, x5, x6] ∧ cds f = kP l ∧ f.length ≤ 68 * i ∧ Paired TmFor l (ps.take i) ∧ HdOk l)
      ⟨Upto.refl bag, "", [], _, _, _, _, rfl, rfl, Nat.zero_le _, .nil, fun t r e => by cases e⟩ (fun i σ H3 _ h => .inl (.inl (h.1.same _ _ ag ha))) ?_ ?_⟩
    · rintro i v σ H3 hv ⟨U, f, l, x3, x4, x5, x6, rfl, cf, lf, pl, hd⟩
      obtain ⟨p, hp, ⟨t, rfl, St⟩⟩ := paired_at tr hv
      obtain ⟨k, x⟩ := p
      obtain ⟨bk, bx⟩ := bd _ (List.mem_of_getElem? hp)
      dsimp only at bk bx
      obtain ⟨il, _⟩ := List.getElem?_eq_some_iff.mp hp
      have St3 := upto_sqt U bag St
      have nn := sizeLine_eq
      have fl := len_cds f
      have bk61 : k.natAbs < 10 ^ 61 := Nat.lt_trans bk (by decide +kernel)
      have dk := abs_dgs k
      have sk := dgs_len (n := k.natAbs) (k := 60) (by decide) bk
      have ak : (if k < 0 then -k else k).natAbs < 10 ^ 61 := by
        have : (if k < 0 then -k else k).natAbs = k.natAbs := by split <;> omega
        omega
      have lx : (x : Int).natAbs < 10 ^ 61 := small61 (by omega)
      have dx := dgs_num x
      have sx := dgs_len (n := x) (k := 2) (by decide) (by omega)
      refine ⟨t, _, rfl, St3, rfl, _, _, rfl, ?_⟩
      refine ⟨_, _, rfl, rfl, ?_⟩
      refine ⟨_, rfl, k, rfl, _, rfl, log_small ak, ?_⟩
      try dsimp only [gName]
      refine seq_rest (fun σ H4 => ∃ (wf : Bool) (sz : Str), Upto g H H4 ∧ cds sz = (if wf = true then dgs k.natAbs else []) ∧ (wf = false → k.natAbs = 1) ∧
        σ = [some (.ref g), some (.ref a), some (.str f), some (.int k), some (.int (x : Int)), some (.str sz), x6]) ?_ ?_
      rotate_left
      · intro N hN
        refine ⟨_, rfl, k, rfl, rfl, _, rfl, ?_⟩
        rw [dInt, show decide ((if k < 0 then -k else k) = 1) = decide (k.natAbs = 1) from decide_eq_decide.mpr (by split <;> omega)]
        by_cases c : k.natAbs = 1
        · refine ifT (decide_eq_true c) ?_
          obtain ⟨d0, d1, d2, ed⟩ := id U.bag
          refine ⟨_, rfl, g, 2, d0, d1, d2, rfl, ed, div_small (n := 2) (by omega) (by omega), fun r g4 m4 c4 h40 h41 => ?_⟩
          refine ⟨rfl, _, rfl, ?_⟩
          rw [dInt]
          by_cases cr : r = 0
          · refine ifT (decide_eq_true cr) ?_
            exact hN _ _ ⟨false, "", U.draw, rfl, fun _ => c, rfl⟩
          · refine ifF (decide_eq_false cr) ?_
            exact hN _ _ ⟨true, _, U.draw, dk, fun h => (by cases h), rfl⟩
        · refine ifF (decide_eq_false c) ?_
          exact hN _ _ ⟨true, _, U, dk, fun h => (by cases h), rfl⟩
      clear St3 U
      rintro σ H4 ⟨wf, sz, U, hs, w1, rfl⟩
      have lsz : sz.length ≤ 60 := by
        rw [len_cds, hs]
        split
        · exact sk
        · exact Nat.zero_le _
      have el : cds f = [] ↔ l = [] := ⟨fun h => kP_nil (cf.symm.trans h), fun h => by rw [cf, h]; rfl⟩
      try dsimp only [gName]
      refine seq_rest (fun σ H5 => ∃ (ld : Str), Upto g H H5 ∧ cds ld = (if k < 0 then [45] else []) ∧
        σ = [some (.ref g), some (.ref a), some (.str f), some (.int k), some (.int (x : Int)), some (.str sz), some (.str ld)]) ?_ ?_
      rotate_left
      · intro N hN
        refine ⟨_, rfl, _, _, rfl, rfl, _, rfl, ite2 (fun ng => ?_) (fun ng => ?_)⟩
        · exact hN _ _ ⟨"-", U, by rw [if_pos (of_decide_eq_true ng)]; decide +kernel, rfl⟩
        · exact hN _ _ ⟨"", U, by rw [if_neg (fun h => ng (decide_eq_true h))]; rfl, rfl⟩
      clear U
      rintro σ H5 ⟨ld0, U, hld0, rfl⟩
      try dsimp only [gName]
      refine seq_rest (fun σ H6 => ∃ (bf : Bool) (ld : Str), Upto g H H6 ∧ (bf = true → k ≤ 0) ∧ (bf = false → 0 ≤ k) ∧ (l = [] → bf = true → k ≠ 0) ∧
        cds ld = (if l = [] then (if bf = true then [45] else []) else [32, (if bf = true then 45 else 43), 32]) ∧
        σ = [some (.ref g), some (.ref a), some (.str f), some (.int k), some (.int (x : Int)), some (.str sz), some (.str ld)]) ?_ ?_
      rotate_left
      · intro N hN
        refine ⟨_, rfl, rfl, _, rfl, ?_⟩
        rw [emp_text]
        by_cases ce : cds f = []
        · refine ifF (by rw [decide_eq_true ce]; rfl) ?_
          have le := el.mp ce
          by_cases ng : k < 0
          · exact hN _ _ ⟨true, ld0, U, fun _ => by omega, fun h => (by cases h), fun _ _ => by omega, by rw [if_pos le, if_pos rfl, hld0, if_pos ng], rfl⟩
          · exact hN _ _ ⟨false, ld0, U, fun h => (by cases h), fun _ => by omega, fun _ h => (by cases h), by rw [if_pos le, hld0, if_neg ng]; rfl, rfl⟩
        · refine ifT (by rw [decide_eq_false ce]; rfl) ?_
          have le : l ≠ [] := fun h => ce (el.mpr h)
          have yes : ∀ H6, Upto g H H6 → k ≤ 0 → N [some (.ref g), some (.ref a), some (.str f), some (.int k), some (.int (x : Int)), some (.str sz), some (.str " - ")] H6 := fun H6 U6 h =>
            hN _ _ ⟨true, _, U6, fun _ => h, fun h => (by cases h), fun h => absurd h le, by rw [if_neg le]; decide +kernel, rfl⟩
          have no : ∀ H6, Upto g H H6 → 0 ≤ k → N [some (.ref g), some (.ref a), some (.str f), some (.int k), some (.int (x : Int)), some (.str sz), some (.str " + ")] H6 := fun H6 U6 h =>
            hN _ _ ⟨false, _, U6, fun h => (by cases h), fun _ => h, fun h => absurd h le, by rw [if_neg le]; decide +kernel, rfl⟩
          refine ⟨_, rfl, _, _, rfl, rfl, _, rfl, ?_⟩
          by_cases ng : k < 0
          · refine ifT (decide_eq_true ng) ?_
            exact yes _ U (by omega)
          · refine ifF (decide_eq_false ng) ?_
            refine ⟨_, rfl, rfl, _, rfl, ?_⟩
            rw [dInt]
            by_cases k0 : k = 0
            · refine ifT (decide_eq_true k0) ?_
              obtain ⟨d0, d1, d2, ed⟩ := id U.bag
              refine ⟨_, rfl, g, 2, d0, d1, d2, rfl, ed, div_small (n := 2) (by omega) (by omega), fun r g4 m4 c4 h40 h41 => ?_⟩
              refine ⟨rfl, _, rfl, ?_⟩
              rw [dInt]
              by_cases cr : r = 0
              · refine ifT (decide_eq_true cr) ?_
                exact yes _ U.draw (by omega)
              · refine ifF (decide_eq_false cr) ?_
                exact no _ U.draw (by omega)
            · refine ifF (decide_eq_false k0) ?_
              exact no _ U (by omega)
      clear U hld0
      rintro σ H6 ⟨bf, ld, U, k1, k2, k3, hld, rfl⟩
      have lld : ld.length ≤ 3 := by
        rw [len_cds, hld]
        split
        · split <;> simp
        · simp
      have n1 : ("[" : Str).length = 1 := rfl
      have n2 : ("]" : Str).length = 1 := rfl
      have lsx : (Str.ofString (toString (x : Int))).length ≤ 2 := by
        rw [len_cds, dx]
        exact sx
      have key : cds (f ++ ld ++ sz ++ "[" ++ Str.ofString (toString (x : Int)) ++ "]") = cds f ++ cds ld ++ tmT ⟨wf, bf, k.natAbs, x⟩ := by
        rw [cds_app, cds_app, cds_app, cds_app, cds_app, hs, c91, c93, dx]
        unfold tmT
        simp
      have ti : ps.take (i + 1) = ps.take i ++ [(k, x)] := by rw [List.take_add_one, hp]; rfl
      have tm : TmFor ⟨wf, bf, k.natAbs, x⟩ (k, x) := by
        refine ⟨⟨w1, bk, Nat.lt_trans bx (by decide +kernel)⟩, ?_⟩
        show (x, sgn bf k.natAbs) = (x, k)
        unfold sgn
        congr 1
        cases bf with
        | true =>
          have := k1 rfl
          rw [if_pos rfl]
          omega
        | false =>
          have := k2 rfl
          rw [if_neg (by decide)]
          omega
      refine ⟨_, rfl, _, rfl, _, _, rfl, rfl, by omega, ?_⟩
      refine ⟨_, rfl, _, _, rfl, rfl, by rw [app_len]; omega, ?_⟩
      refine ⟨_, _, rfl, rfl, by simp only [app_len]; omega, ?_⟩
      refine ⟨_, rfl, (x : Int), rfl, log_small lx, ?_⟩
      refine ⟨_, _, rfl, rfl, by simp only [app_len]; omega, ?_⟩
      refine ⟨_, _, rfl, rfl, by simp only [app_len]; omega, ?_⟩
      refine ⟨U, _, l ++ [⟨wf, bf, k.natAbs, x⟩], _, _, _, _, rfl, ?_, ?_, by rw [ti]; exact paired_snoc tm pl, ?_⟩
      · rw [key, cf, hld]
        by_cases le : l = []
        · rw [if_pos le, le, List.nil_append, kP_one]
          rfl
        · rw [if_neg le, kP_snoc le]
          simp
      · simp only [app_len]
        omega
      · intro t r e
        by_cases le : l = []
        · rw [le, List.nil_append] at e
          injection e with e1 e2
          subst e1
          intro hb
          have := k3 le hb
          show k.natAbs ≠ 0
          omega
        · obtain ⟨t0, r0, e0⟩ := List.exists_cons_of_ne_nil le
          rw [e0] at e
          injection e with e1 e2
          subst e1
          exact hd _ _ e0
    · rintro σ H3 ⟨U, f, l, x3, x4, x5, x6, rfl, cf, lf, pl, hd⟩
      have lus : us.length = ps.length := Paired.length tr
      rw [lus, List.take_length] at pl
      rw [lus] at lf
      refine ⟨_, rfl, rfl, _, rfl, ?_⟩
      rw [emp_text]
      by_cases ce : cds f = []
      · have le := kP_nil (cf.symm.trans ce)
        refine ifF (by rw [decide_eq_true ce]; rfl) ?_
        refine q _ _ l U ?_ (by show 1 ≤ _; omega) pl hd
        rw [le]
        decide +kernel
      · refine ifT (by rw [decide_eq_false ce]; rfl) ?_
        refine ⟨_, rfl, q _ _ l U ?_ (by omega) pl hd⟩
        rw [cf, kP_tx]
        intro z
        rw [z] at cf
        exact ce cf
end
end K84


set_option Elab.async false
set_option linter.all false
set_option maxRecDepth 100000
set_option maxHeartbeats 4000000
namespace K84
open PySem PySem.Spec PyProof.Rows L2 MM PySem.NumText
/-! own words for the readings: a step, its side -/
local macro_rules | `(tactic| walk_at "side") => `(tactic| first
  | omega
  | exact ⟨by omega, by omega⟩
  | exact Or.inl ⟨by omega, by omega⟩
  | exact Or.inr ⟨by omega, by omega⟩
  | (show CPw _ _; decide +kernel)
  | (show (0 : Int) < _; decide +kernel)
  | (show CDivW _ _; first | assumption | exact ⟨by decide, by decide +kernel⟩))
local macro_rules | `(tactic| walk_at "here") => `(tactic| first
  | assumption
  | exact upd_same
  | exact Or.inl (Or.inl upd_same)
  | exact Or.inl upd_same)
local macro_rules | `(tactic| walk_at "one") => `(tactic| first
  | refine ⟨_, rfl, ?_⟩
  | refine Or.inl ⟨_, rfl, ?_⟩
  | refine Or.inr ⟨_, rfl, ?_⟩
  | refine ⟨_, _, rfl, rfl, (by walk_at "side"), ?_⟩
  | refine ⟨_, _, rfl, rfl, ?_⟩
  | refine ⟨_, _, rfl, Or.inl (by walk_at "here"), ?_⟩
  | refine ⟨_, _, rfl, Or.inr (by walk_at "here"), ?_⟩
  | refine ⟨_, _, rfl, (by walk_at "here"), ?_⟩
  | refine ⟨_, _, _, _, rfl, rfl, (by walk_at "here"), rfl, ?_⟩
  | refine ⟨_, _, rfl, ?_⟩
  | refine ifT (by rfl) ?_
  | refine ifF (by rfl) ?_
  | refine ifT (decide_eq_true (by omega)) ?_
  | refine ifF (decide_eq_false (by omega)) ?_)
local macro_rules | `(tactic| walk_at "st") => `(tactic| repeat (walk_at "one"))

section
variable {P : Program} {w : World} {K : PySem.W.Frag} {mg : Str → Option Value} {base : Heap}
theorem neTI {H : Hp} {a b : Addr} {ns ms : List Int} {Q : VK} (S : SqT K H a (ns.map V.int)) (S2 : SqT K H b (ms.map V.int)) (q : Q (.bl (!decide (ns = ms))) H) : rNeD K (.ref a) (.ref b) H Q :=
  ⟨.tuple (ns.map .int), .tuple (ms.map .int), .tup S (dp_ints _), .tup S2 (dp_ints _), shapedT_ints _, shapedT_ints _, by
    rw [show PyData.eqv (.tuple (ns.map .int)) (.tuple (ms.map .int)) = PyData.eqvAll (ns.map .int) (ms.map .int) from rfl, eqvAll_ints]
    exact q⟩
theorem tmOf_P (x : Nat) (k : Int) : tmP (tmOf x k) = (x, k) := by
  show (x, sgn (decide (k < 0)) k.natAbs) = (x, k)
  unfold sgn
  congr 1
  by_cases c : k < 0
  · rw [decide_eq_true c, if_pos rfl]
    omega
  · rw [decide_eq_false c, if_neg (by decide)]
    omega
theorem nzT_tmP : ∀ (l : List Int) (o : Nat), (nzT o l).map tmP = nz o l
  | [], o => rfl
  | v :: r, o => by
    have ih := nzT_tmP r (o + 1)
    unfold nzT nz
    split
    · exact ih
    · rw [List.map_cons, ih, tmOf_P]
theorem nzT_all : ∀ (l : List Int) (o : Nat), (∀ k ∈ l, k.natAbs < 10 ^ 60) → o + l.length ≤ 100 → ∀ t ∈ nzT o l, tmOk t ∧ t.m ≠ 0
  | [], o, _, _, t, ht => by cases ht
  | v :: r, o, h, lo, t, ht => by
    have ih := nzT_all r (o + 1) (fun k hk => h k (List.mem_cons_of_mem _ hk)) (by rw [List.length_cons] at lo; omega)
    unfold nzT at ht
    by_cases c : v = 0
    · rw [if_pos c] at ht
      exact ih t ht
    · rw [if_neg c] at ht
      rcases List.mem_cons.mp ht with rfl | ht
      · rw [List.length_cons] at lo
        refine ⟨⟨fun e => ?_, h v List.mem_cons_self, Nat.lt_trans (by omega : o < 100) (by decide +kernel)⟩, fun e => ?_⟩
        · have e2 : (!decide (v.natAbs = 1)) = false := e
          by_cases z : v.natAbs = 1
          · exact z
          · rw [decide_eq_false z] at e2
            cases e2
        · have e2 : v.natAbs = 0 := e
          omega
      · exact ih t ht
theorem readK_ok {H : Hp} {Q : VK} {E : XK} {z : Str} {n : Nat} {l : List Tm} {ks : List Int} (hz : cds z = kindsTx l) (ok : ∀ t ∈ l, tmOk t) (hd : HdOk l) (zl : z.length ≤ 3000) (n1 : 1 ≤ n) (n60 : n ≤ 60)
    (ha : addT (List.replicate n 0) (l.map tmP) = some ks) (hk : ∀ k ∈ ks, k.natAbs < 10 ^ 60) (q : ∀ H' t, Same H H' → SqT K H' t (ks.map V.int) → Q (.ref t) H') : spReadKinds K [.str z, .int (n : Int)] H Q E := by
  have okt : okT (.str z) = true := decide_eq_true zl
  have b2 : isB (.int (n : Int)) 1 60 = true := by
    show (decide (1 ≤ (n : Int)) && decide ((n : Int) ≤ 60)) = true
    rw [decide_eq_true (by omega), decide_eq_true (by omega)]
    rfl
  refine ⟨.str z, _, .int (n : Int), _, rfl, .str z, .int _, (fun z' e => by cases e; omega), (fun b => absurd (b.symm.trans okt) (by decide)), (fun _ b => absurd (b.symm.trans b2) (by decide)), fun z' len e _ e2 _ _ => ?_⟩
  cases e
  obtain rfl : n = len := by injection e2 with e2; omega
  rw [hz, kindsT_T ok hd]
  show endK K H Q E (addT (List.replicate n 0) (l.map tmP))
  rw [ha]
  unfold endK
  dsimp only
  rw [if_pos ?_]
  · exact q
  · rw [List.all_eq_true]
    intro k hk'
    have := hk k hk'
    show (decide (-10 ^ 60 < k) && decide (k < 10 ^ 60)) = true
    rw [decide_eq_true (by omega), decide_eq_true (by omega)]
    rfl
theorem terms_same {H H' : Hp} {us : List V} {ps : List (Int × Nat)} (h : Same H H') (s : Terms K H us ps) : Terms K H' us ps := pairedI s fun v r ⟨a, e, S⟩ => ⟨a, e, same_sqt h S⟩
theorem upto_terms {p : Addr} {H H' : Hp} {us : List V} {ps : List (Int × Nat)} (h : Upto p H H') (b : BagAt H p) (s : Terms K H us ps) : Terms K H' us ps := pairedI s fun v r ⟨a, e, S⟩ => ⟨a, e, upto_sqt h b S⟩
theorem terms_lst {H : Hp} {T : Addr} {xs ys : List V} {us : List V} {ps : List (Int × Nat)} (s : Terms K H us ps) (e : H T = some (.lst xs)) : Terms K (upd H T (.lst ys)) us ps := pairedI s fun v r ⟨a, e2, S⟩ => ⟨a, e2, sqt_lst S e⟩
theorem terms_app {H : Hp} {us us2 : List V} {ps ps2 : List (Int × Nat)} (s : Terms K H us ps) (s2 : Terms K H us2 ps2) : Terms K H (us ++ us2) (ps ++ ps2) := by
  induction s with
  | nil => exact s2
  | cons r _ ih => exact .cons r ih
def swp (p : Int × Nat) : Nat × Int := (p.2, p.1)
theorem paired_map : ∀ {l : List Tm} {ps : List (Int × Nat)}, Paired TmFor l ps → l.map tmP = ps.map swp
  | _, _, .nil => rfl
  | _, _, .cons r t => by
    rw [List.map_cons, List.map_cons, paired_map t, r.2]
    rfl
theorem paired_ok : ∀ {l : List Tm} {ps : List (Int × Nat)}, Paired TmFor l ps → ∀ t ∈ l, tmOk t
  | _, _, .nil, t, h => by cases h
  | _, _, .cons r u, t, h => by
    rcases List.mem_cons.mp h with rfl | h
    · exact r.1
    · exact paired_ok u t h
theorem flat_rep {α : Type} (n : Nat) (x : α) : (List.replicate n [x]).flatten = List.replicate n x := by
  induction n with
  | zero => rfl
  | succ n ih => rw [List.replicate_succ, List.flatten_cons, ih]; rfl
theorem scKindsRightL : FnScope ["_law_bag_here", "_law_kinds", "_law_turn", "_law_text", "_law_terms", "_law_index", "_law_number_here", "_law_part", "_law_one", "_law_due", "_law_other"] ["_law_bag_here"] (defScope sKindsRightL) :=
  ⟨rfl, rfl, rfl, by decide +kernel, rfl, by decide +kernel, by decide +kernel⟩
theorem bKindsRightL (T : Tx K mg) (Y : Ex K mg) (DOneOfL : Def P w K mg base CX0 2 "_law_one_of" ["_law_bag_here", "_law_items"] (spOneOf K)) (DGrabL : Def P w K mg base CX0 1 "_law_grab" ["_law_bag_here", "_law_total"] spGrab) (DNumberL : Def P w K mg base CX0 3 "_law_number" ["_law_bag_here"] (spNumber K)) (DKindsTextL : Def P w K mg base CX0 4 "_law_kinds_text" ["_law_kinds"] (spKW K)) (DWriteKinds : Def P w K mg base CX0 4 "write_kinds" ["kinds"] (spKW K)) (DMixedL : Def P w K mg base CX0 2 "_law_mixed" ["_law_bag_here", "_law_items"] (spMixed K)) (DTermsTextL : Def P w K mg base CX0 2 "_law_terms_text" ["_law_bag_here", "_law_terms"] (spTT K)) (BReadKinds : Def P w K mg base (L2.CX P w) 6 "read_kinds" ["text", "length"] (spReadKinds K)) : Def P w K mg base (L2.CX P w) 9 "_law_kinds_right" ["_law_bag_here"] (spRight K) := by
  refine T.t_law_kinds_right.defX (N := ["_law_bag_here", "_law_kinds", "_law_turn", "_law_text", "_law_terms", "_law_index", "_law_number_here", "_law_part", "_law_one", "_law_due", "_law_other"]) scKindsRightL (fun _ _ _ _ _ _ us hl => match us, hl with | [_], _ => rfl) ?_ ?_
  · intro vs H Q E h
    obtain ⟨g, rfl, _⟩ := h
    rfl
  · intro f cd A out s H vs Q E hr h
    have hr1 : Rm 4 _ := hr.le (by decide)
    have hr2 : Rm 6 _ := hr.le (by decide)
    have tk : Takes (cxOf (L2.CX P w) P w K mg base ["_law_bag_here", "_law_kinds", "_law_turn", "_law_text", "_law_terms", "_law_index", "_law_number_here", "_law_part", "_law_one", "_law_due", "_law_other"] "_law_kinds_right" (defScope sKindsRightL) f cd A out s H E) (fun cls d _ H1 => E cls d H1) := takes_of rfl rfl rfl rfl
    obtain ⟨g, rfl, bag, q⟩ := h
    refine ⟨_, (pss_cons (ps_set (i := 1) scKindsRightL.nd rfl (Or.inl rfl) (pe_callTy call_tuple_of rfl T.f_tuple (by decide +kernel) (pa_cons (pe_lc (own := [("_law_turn", 2)]) (g := gName 2) (tt := tYes) rfl scKindsRightL.nd (pi_range1 rfl T.f_range (pa_cons (pe_op op_add pe_int (pe_d DOneOfL (hr1.le (by decide)) pass0 (pa_cons (pv 0) (pa_cons (pe_lst (pa_cons (pe_d DGrabL (hr1.le (by decide)) pass0 (pa_cons (pv 0) (pa_cons pe_int pa_nil))) (pa_cons (pe_d DGrabL (hr1.le (by decide)) pass0 (pa_cons (pv 0) (pa_cons pe_int pa_nil))) pa_nil))) pa_nil)))) pa_nil)) (blkOk_by (N := ["_law_bag_here", "_law_kinds", "_law_turn", "_law_text", "_law_terms", "_law_index", "_law_number_here", "_law_part", "_law_one", "_law_due", "_law_other"]) (sc := defScope sKindsRightL) (by decide +kernel)) (fun _ _ _ _ _ => pg_name (i := 2) scKindsRightL.nd rfl (Or.inl rfl)) (fun _ _ _ _ _ => pts_nil) (fun _ _ _ _ _ => (pe_d DNumberL (hr1.le (by decide)) pass0 (pa_cons (pv 0) pa_nil)))) pa_nil)))
      (pss_cons (ps_set (i := 3) scKindsRightL.nd rfl (Or.inl rfl) (pe_d DKindsTextL (hr1.le (by decide)) pass0 (pa_cons (pv 1) pa_nil)))
      (pss_cons (ps_if (PW.pt (pw_or (pt_cmpR op_ne (pe_d DWriteKinds (hr1.le (by decide)) pass0 (pa_cons (pv 1) pa_nil)) (pv 3) (nomark _)) (pw_or1 (pt_cmpR (op_neD hr.hu) (ME.pe_dS BReadKinds (hr2.le (by decide)) (passAt tk) (pa_cons (pv 3) (pa_cons (pe_callB call_len_seq rfl T.f_len (by decide +kernel) (pa_cons (pv 1) pa_nil)) pa_nil))) (pv 1) (nomark _))))) (pss_one (ps_ret pe_bl)) pss_nil)
      (pss_cons (ps_set (i := 4) scKindsRightL.nd rfl (Or.inl rfl) (pe_lst pa_nil))
      (pss_cons (ps_for (passes_of rfl) rfl (pi_enumT rfl T.f_enumerate (pa_cons (pv 1) pa_nil)) (pg_tup rfl (pgs_cons (pg_name (i := 5) scKindsRightL.nd rfl (Or.inr rfl)) (pgs_cons (pg_name (i := 6) scKindsRightL.nd rfl (Or.inl rfl)) pgs_nil)))
        (pss_cons (ps_set (i := 7) scKindsRightL.nd rfl (Or.inl rfl) (pe_ifExp (pt_cmpR op_eq (pe_d DGrabL (hr1.le (by decide)) pass0 (pa_cons (pv 0) (pa_cons pe_int pa_nil))) pe_int (nomark _)) (pe_d DOneOfL (hr1.le (by decide)) pass0 (pa_cons (pv 0) (pa_cons (pe_lst (pa_cons pe_int (pa_cons pe_int (pa_cons (pe_un un_neg pe_int) (pa_cons pe_int pa_nil))))) pa_nil))) pe_int))
        (pss_one (ps_set (i := 4) scKindsRightL.nd rfl (Or.inl rfl) (pe_op op_cat (pv 4) (pe_lc (own := [("_law_one", 8)]) (g := gName 8) rfl scKindsRightL.nd (pi_tup (pe_tup (pa_cons (pe_op op_sub (pv 6) (pv 7)) (pa_cons (pv 7) pa_nil)))) (blkOk_by (N := ["_law_bag_here", "_law_kinds", "_law_turn", "_law_text", "_law_terms", "_law_index", "_law_number_here", "_law_part", "_law_one", "_law_due", "_law_other"]) (sc := defScope sKindsRightL) (by decide +kernel)) (fun _ _ _ _ _ => pg_name (i := 8) scKindsRightL.nd rfl (Or.inl rfl)) (fun _ _ _ _ _ => (pts_one (PW.pt (pw_or (pt_cmpR op_ne (pv 8) pe_int (nomark _)) (pw_or1 (pt_cmpR op_eq (pe_d DGrabL (hr1.le (by decide)) pass0 (pa_cons (pv 0) (pa_cons pe_int pa_nil))) pe_int (nomark _))))))) (fun _ _ _ _ _ => (pe_tup (pa_cons (pv 8) (pa_cons (pv 5) pa_nil))))))))))
      (pss_cons (ps_setLc (i := 4) (own := [("_law_number_here", 6), ("_law_index", 5)]) (g := gTup K 2 (gCons (gName 6) (gCons (gName 5) gNil))) rfl scKindsRightL.nd rfl rfl (sw_true rfl rfl rfl rfl) (pi_list (pe_d DMixedL (hr1.le (by decide)) pass0 (pa_cons (pv 0) (pa_cons (pv 4) pa_nil)))) (blkOk_by (N := ["_law_bag_here", "_law_kinds", "_law_turn", "_law_text", "_law_terms", "_law_index", "_law_number_here", "_law_part", "_law_one", "_law_due", "_law_other"]) (sc := defScope sKindsRightL) (by decide +kernel)) (fun _ _ _ _ _ => (show PG _ _ (gTup K 2 (gCons (gName 6) (gCons (gName 5) gNil))) from pg_tup rfl (pgs_cons (pg_name (i := 6) scKindsRightL.nd rfl (Or.inl rfl)) (pgs_cons (pg_name (i := 5) scKindsRightL.nd rfl (Or.inl rfl)) pgs_nil)))) (fun _ _ _ _ _ => (pts_one (pt_cmpR op_lt (pe_callB call_abs rfl T.f_abs (by decide +kernel) (pa_cons (pv 6) pa_nil)) (pe_op op_pw pe_int pe_int) (nomark _)))) (fun _ _ _ _ _ => (pe_tup (pa_cons (pv 6) (pa_cons (pv 5) pa_nil)))))
      (pss_cons (ps_set (i := 9) scKindsRightL.nd rfl (Or.inl rfl) (pe_op op_rep (pe_lst (pa_cons pe_int pa_nil)) (pe_callB call_len_seq rfl T.f_len (by decide +kernel) (pa_cons (pv 1) pa_nil))))
      (pss_cons (ps_for (passes_of rfl) rfl (pi_list (pv 4)) (pg_tup rfl (pgs_cons (pg_name (i := 6) scKindsRightL.nd rfl (Or.inl rfl)) (pgs_cons (pg_name (i := 5) scKindsRightL.nd rfl (Or.inr rfl)) pgs_nil)))
        (pss_one (ps_asg (pe_op op_add (pe_ix ix_list (pv 9) (pv 5) (fun _ _ => rfl)) (pv 6)) (pg_sub (pv 9) (pv 5) set_list))))
      (pss_cons (ps_set (i := 10) scKindsRightL.nd rfl (Or.inl rfl) (pe_d DTermsTextL (hr1.le (by decide)) pass0 (pa_cons (pv 0) (pa_cons (pv 4) pa_nil))))
      (pss_cons (ps_if (PW.pt (pw_or (pt_cmpR op_gt (pe_callB call_len_str rfl T.f_len (by decide +kernel) (pa_cons (pv 10) pa_nil)) pe_int (nomark _)) (pw_or1 (pt_cmpR op_ge (pe_callB (cr_max rfl) rfl T.f_max (by decide +kernel) (pa_cons (pe_lc (own := [("_law_number_here", 6)]) (g := gName 6) (tt := tYes) rfl scKindsRightL.nd (pi_list (pv 9)) (blkOk_by (N := ["_law_bag_here", "_law_kinds", "_law_turn", "_law_text", "_law_terms", "_law_index", "_law_number_here", "_law_part", "_law_one", "_law_due", "_law_other"]) (sc := defScope sKindsRightL) (by decide +kernel)) (fun _ _ _ _ _ => pg_name (i := 6) scKindsRightL.nd rfl (Or.inl rfl)) (fun _ _ _ _ _ => pts_nil) (fun _ _ _ _ _ => (pe_callB call_abs rfl T.f_abs (by decide +kernel) (pa_cons (pv 6) pa_nil)))) pa_nil)) (pe_op op_pw pe_int pe_int) (nomark _))))) (pss_one (ps_ret pe_bl)) pss_nil)
      (pss_one (ps_ret (pe_cmpR (op_eqD hr.hu) (ME.pe_dS BReadKinds (hr2.le (by decide)) (passAt tk) (pa_cons (pv 10) (pa_cons (pe_callB call_len_seq rfl T.f_len (by decide +kernel) (pa_cons (pv 1) pa_nil)) pa_nil))) (pe_callTy call_tuple_of rfl T.f_tuple (by decide +kernel) (pa_cons (pv 9) pa_nil)) (nomark _)))))))))))))), ?_⟩
    obtain ⟨b0, b1, b2, eg⟩ := id bag
    refine ⟨_, rfl, _, rfl, g, 6, b0, b1, b2, rfl, eg, div_small (n := 6) (by omega) (by omega), fun r1 g1 m1 c1 h10 h11 => ?_⟩
    refine ⟨_, rfl, g, 40, _, _, _, rfl, upd_same, div_small (n := 40) (by omega) (by omega), fun r2 g2 m2 c2 h20 h21 => ?_⟩
    have U1 : Upto g H (upd (upd H g (.lst [.int g1, .int m1, .int c1])) g (.lst [.int g2, .int m2, .int c2])) := ((Upto.refl bag).draw).draw
    generalize upd (upd H g _) g _ = H1 at U1 ⊢
    refine ⟨by show 2 ≤ sizeLine; decide, fun l fl => ?_⟩
    obtain ⟨lg, _⟩ := U1.free fl
    obtain ⟨d0, d1, d2, e1⟩ := id U1.bag
    refine ⟨g, l, d0, d1, d2, _, rfl, same_new fl _ _ e1, .inl (.inl upd_same), lg, by show 0 < 2; omega, by show 2 ≤ 1000; omega, fun v g3 m3 c3 hv => ?_⟩
    have U2 := (U1.new (o := .lst [.int r1, .int r2]) fl).draw (a := g3) (b := m3) (c := c3)
    generalize upd (upd H1 l _) g _ = H2 at U2 ⊢
    obtain ⟨k, rfl, k47⟩ : ∃ k : Nat, v = .int (k : Int) ∧ k ≤ 39 := by
      simp only [List.mem_cons, List.not_mem_nil, or_false] at hv
      rcases hv with rfl | rfl
      · exact ⟨r1.toNat, by congr 1; omega, by omega⟩
      · exact ⟨r2.toNat, by congr 1; omega, by omega⟩
    clear hv
    refine ⟨_, _, rfl, rfl, ?_⟩
    obtain ⟨n, hn, n40, n1⟩ : ∃ n : Nat, (1 : Int) + (k : Int) = (n : Int) ∧ n ≤ 40 ∧ 1 ≤ n := ⟨k + 1, by omega, by omega, by omega⟩
    refine ⟨(n : Int), by show [V.int ((1 : Int) + (k : Int))] = _; rw [hn], by omega, by omega, fun D nD => ?_⟩
    obtain ⟨Dg, fD⟩ := U2.free nD
    refine lc_range (Pv := fun i H4 => Upto g H H4 ∧ ∃ ks : List Int, H4 D = some (.lst (ks.map V.int)) ∧ ks.length = i ∧ ∀ j ∈ ks, j.natAbs < 10 ^ 60)
      ⟨U2.new nD, [], upd_same, rfl, fun t ht => by cases ht⟩ ?_ ?_
    · rintro i H4 hi ⟨U4, ks, h4, lks, k61⟩
      have ik : i < n := by simpa using hi
      refine ⟨wipe_one, yes_ ?_⟩
      refine ⟨_, rfl, g, rfl, U4.bag, fun H5 j u5 hj => ?_⟩
      refine ⟨ks.map V.int, (u5.same _ _ Dg h4), by rw [List.length_map, sizeLine_eq]; omega, ?_⟩
      refine ⟨(U4.trans u5).put Dg fD, ks ++ [j], by rw [upd_same, List.map_append]; rfl, by rw [List.length_append, lks]; rfl, fun t ht => ?_⟩
      rcases List.mem_append.mp ht with ht | ht
      · exact k61 t ht
      · rw [List.mem_singleton.mp ht]
        exact hj
    rintro H4 ⟨U4, ns, h4, lks, k60⟩
    have lk : ns.length = n := by rw [lks]; exact Int.toNat_natCast n
    clear lks U2 U1 hn
    refine ⟨D, _, rfl, .inl ⟨.inl (.inl h4), fun t ft => ?_⟩⟩
    have U5 := U4.keep (same_new ft (o := .tup (ns.map V.int)))
    have St : SqT K (upd H4 t (.tup (ns.map V.int))) t (ns.map V.int) := .inl (.inl upd_same)
    generalize upd H4 t _ = H5 at U5 St ⊢
    have mb : Mb ns := ⟨by omega, by omega, k60⟩
    refine ⟨_, rfl, t, ns, rfl, St, mb, fun H6 z s6 cz zl => ?_⟩
    have U6 := U5.keep s6
    replace St := same_sqt s6 St
    refine ⟨_, rfl, t, ns, rfl, St, mb, fun H7 z7 s7 cz7 zl7 => ?_⟩
    obtain rfl := str_eq (cz7.trans cz.symm)
    have U7 := U6.keep s7
    replace St := same_sqt s7 St
    refine ⟨_, rfl, rfl, _, rfl, ?_⟩
    refine ifF (by rw [decide_eq_true rfl]; rfl) ?_
    refine ⟨_, rfl, _, rfl, t, _, rfl, .inr St, ?_⟩
    simp only [tNil]
    rw [List.length_map, lk]
    have nzo := nzT_all ns 0 k60 (by omega)
    refine readK_ok cz7 (fun t ht => (nzo t ht).1) (fun t r e _ => (nzo t (by rw [e]; exact List.mem_cons_self)).2) (by omega) n1 (by omega) (ks := ns) (by
      have := addT_nz ns []
      rw [nzT_tmP, ← lk]
      exact this) k60 fun H8 t8 s8 S8 => ?_
    replace St := same_sqt s8 St
    have U8 := U7.keep s8
    refine ⟨_, rfl, neTI S8 St ?_⟩
    refine ⟨_, rfl, ?_⟩
    rw [decide_eq_true rfl]
    refine ifF rfl ?_
    clear S8 s8 U7 s7 U6 s6 U5 U4 nzo
    refine ⟨Nat.zero_le _, fun T0 nT0 => ?_⟩
    have U9 := U8.keep (same_new nT0 (o := .lst []))
    obtain ⟨T0g, _⟩ := U8.free nT0
    replace St := sqt_new (o := .lst []) St nT0
    have eT : (upd H8 T0 (.lst [])) T0 = some (.lst []) := upd_same
    generalize upd H8 T0 _ = H9 at U9 St eT ⊢
    clear U8 nT0
    refine ⟨_, rfl, t, _, rfl, St, ?_⟩
    refine for_enumT (K := K) (a := t) (xs := ns.map V.int) (fun i σ H3 => Upto g H H3 ∧ SqT K H3 t (ns.map V.int) ∧ ∃ (T : Addr) (us : List V) (ps : List (Int × Nat)) (x5 x6 x7 : Option V), H3 T = some (.lst us) ∧ T ≠ g ∧ Terms K H3 us ps ∧ ps.length ≤ 2 * i ∧
        (∀ p ∈ ps, p.1.natAbs < 10 ^ 61 ∧ p.2 < n) ∧ σ = [some (.ref g), some (.ref t), none, some (.str z7), some (.ref T), x5, x6, x7, none, none, none])
      ⟨U9, St, T0, [], [], _, _, _, eT, T0g, .nil, Nat.zero_le _, fun p hp => (by cases hp), rfl⟩ (fun i σ H3 _ h => h.2.1) ?_ ?_
    · rintro i v σ H3 T hv ⟨U, St, L, us, ps, x5, x6, x7, eL, Lg, tr, lp, bd, rfl⟩ fT
      obtain ⟨li, eu⟩ := List.getElem?_eq_some_iff.mp hv
      rw [List.length_map, lk] at li
      obtain ⟨k, hk⟩ : ∃ k, ns[i]? = some k := ⟨_, List.getElem?_eq_getElem (by omega)⟩
      have euk : v = .int k := by
        rw [List.getElem?_map, hk] at hv
        exact (Option.some.inj hv).symm
      subst euk
      have bk := k60 k (List.mem_of_getElem? hk)
      have U4 := U.new (o := .tup [.int (i : Nat), .int k]) fT
      have eT : (upd H3 T (.tup [.int (i : Nat), .int k])) T = some (.tup [.int (i : Nat), .int k]) := upd_same
      have St4 := sqt_new (o := .tup [.int (i : Nat), .int k]) St fT
      have eL4 : (upd H3 T (.tup [.int (i : Nat), .int k])) L = some (.lst us) := (upd_ne (ne_of_none eL fT)).trans eL
      have tr4 := terms_same (same_new (o := .tup [.int (i : Nat), .int k]) fT) tr
      generalize upd H3 T _ = H4 at U4 eT St4 eL4 tr4 ⊢
      clear U St eL tr fT
      refine ⟨T, _, rfl, .inl (.inl eT), rfl, _, _, rfl, ?_⟩
      refine ⟨_, _, rfl, rfl, ?_⟩
      try dsimp only [gName]
      refine seq_rest (fun σ H5 => ∃ pt : Int, pt.natAbs ≤ 5 ∧ Upto g H H5 ∧ SqT K H5 t (ns.map V.int) ∧ H5 L = some (.lst us) ∧ Terms K H5 us ps ∧
        σ = [some (.ref g), some (.ref t), none, some (.str z7), some (.ref L), some (.int (i : Nat)), some (.int k), some (.int pt), none, none, none]) ?_ ?_
      rotate_left
      · intro N hN
        obtain ⟨d0, d1, d2, ed⟩ := id U4.bag
        refine ⟨_, rfl, g, 3, d0, d1, d2, rfl, ed, div_small (n := 3) (by omega) (by omega), fun r g4 m4 c4 h40 h41 => ?_⟩
        have U5 : Upto g H4 (upd H4 g (.lst [.int g4, .int m4, .int c4])) := (Upto.refl U4.bag).draw
        have St5 := upto_sqt U5 U4.bag St4
        have eL5 := U5.same _ _ Lg eL4
        have tr5 := upto_terms U5 U4.bag tr4
        replace U5 := U4.trans U5
        generalize upd H4 g _ = H5 at U5 St5 eL5 tr5 ⊢
        refine ⟨rfl, _, rfl, ?_⟩
        rw [dInt]
        by_cases cr : r = 0
        · refine ifT (decide_eq_true cr) ?_
          obtain ⟨f0, f1, f2, ef⟩ := id U5.bag
          refine ⟨_, rfl, _, rfl, by show 4 ≤ sizeLine; decide, fun l fl => ?_⟩
          obtain ⟨lg, _⟩ := U5.free fl
          refine ⟨g, l, f0, f1, f2, _, rfl, same_new fl _ _ ef, .inl (.inl upd_same), lg, by show 0 < 4; omega, by show 4 ≤ 1000; omega, fun v g5 m5 c5 hv => ?_⟩
          have U6 : Upto g H5 (upd (upd H5 l (.lst [.int 0, .int 1, .int (-1), .int 5])) g (.lst [.int g5, .int m5, .int c5])) := ((Upto.refl U5.bag).new fl).draw
          have St6 := upto_sqt U6 U5.bag St5
          have eL6 := U6.same _ _ Lg eL5
          have tr6 := upto_terms U6 U5.bag tr5
          replace U6 := U5.trans U6
          generalize upd (upd H5 l _) g _ = H6 at U6 St6 eL6 tr6 ⊢
          obtain ⟨pt, rfl, p5⟩ : ∃ pt : Int, v = .int pt ∧ pt.natAbs ≤ 5 := by
            simp only [List.mem_cons, List.not_mem_nil, or_false] at hv
            rcases hv with rfl | rfl | rfl | rfl <;> exact ⟨_, rfl, by decide⟩
          exact hN _ _ ⟨pt, p5, U6, St6, eL6, tr6, rfl⟩
        · refine ifF (decide_eq_false cr) ?_
          exact hN _ _ ⟨0, by decide, U5, St5, eL5, tr5, rfl⟩
      clear U4 eT St4 eL4 tr4
      rintro σ H5 ⟨pt, p5, U5, St5, eL5, tr5, rfl⟩
      refine ⟨_, rfl, ?_⟩
      dsimp only
      refine ⟨_, rfl, _, rfl, _, _, rfl, rfl, _, rfl, by show 2 ≤ sizeLine; decide, fun W nW => ?_⟩
      have U6 := U5.new (o := .tup [.int (k - pt), .int pt]) nW
      have eW : (upd H5 W (.tup [.int (k - pt), .int pt])) W = some (.tup [.int (k - pt), .int pt]) := upd_same
      have St6 := sqt_new (o := .tup [.int (k - pt), .int pt]) St5 nW
      have eL6 : (upd H5 W (.tup [.int (k - pt), .int pt])) L = some (.lst us) := (upd_ne (ne_of_none eL5 nW)).trans eL5
      have tr6 := terms_same (same_new (o := .tup [.int (k - pt), .int pt]) nW) tr5
      generalize upd H5 W _ = H6 at U6 eW St6 eL6 tr6 ⊢
      clear U5 St5 eL5 tr5 nW
      refine ⟨W, rfl, ⟨_, .inl (.inl eW)⟩, fun D2 nD2 => ?_⟩
      obtain ⟨D2g, fD2⟩ := U6.free nD2
      have bits : ∀ x, x ∈ [V.int (k - pt), V.int pt] → ∃ y : Int, x = .int y ∧ y.natAbs < 10 ^ 61 := by
        intro x hx
        simp only [List.mem_cons, List.not_mem_nil, or_false] at hx
        have e61 : (10 : Nat) ^ 61 = 10 * 10 ^ 60 := by decide +kernel
        have h5 : 5 < 10 ^ 60 := by decide +kernel
        rcases hx with rfl | rfl
        · refine ⟨_, rfl, ?_⟩
          rw [e61]
          generalize (10 : Nat) ^ 60 = B at bk h5 ⊢
          omega
        · refine ⟨_, rfl, ?_⟩
          rw [e61]
          generalize (10 : Nat) ^ 60 = B at bk h5 ⊢
          omega
      refine lc_tup (K := K) (a := W) (xs := [.int (k - pt), .int pt]) (fun j H7 => Upto g H H7 ∧ SqT K H7 t (ns.map V.int) ∧ SqT K H7 W [.int (k - pt), .int pt] ∧ H7 L = some (.lst us) ∧ Terms K H7 us ps ∧
        ∃ (us2 : List V) (ps2 : List (Int × Nat)), H7 D2 = some (.lst us2) ∧ Terms K H7 us2 ps2 ∧ ps2.length ≤ j ∧ ∀ p ∈ ps2, p.1.natAbs < 10 ^ 61 ∧ p.2 < n)
        ⟨U6.new nD2, sqt_new St6 nD2, sqt_new (.inl (.inl eW)) nD2, (upd_ne (ne_of_none eL6 nD2)).trans eL6, terms_same (same_new nD2) tr6, [], [], upd_same, .nil, Nat.zero_le _, fun p hp => (by cases hp)⟩ (fun j H7 _ h => h.2.2.1) ?_ ?_
      · rintro j x H7 hx ⟨U7, St7, SW7, eL7, tr7, us2, ps2, eD7, tr27, lp2, bd2⟩
        obtain ⟨y, rfl, by61⟩ := bits x (List.mem_of_getElem? hx)
        obtain ⟨jl, _⟩ := List.getElem?_eq_some_iff.mp hx
        replace jl : j < 2 := jl
        have LD : L ≠ D2 := ne_of_none eL6 nD2
        have WD : W ≠ D2 := ne_of_none eW nD2
        have tD : t ≠ D2 ∨ True := .inr trivial
        refine ⟨wipe_one, ?_⟩
        have add : ∀ H8, Upto g H H8 → SqT K H8 t (ns.map V.int) → SqT K H8 W [.int (k - pt), .int pt] → H8 L = some (.lst us) → Terms K H8 us ps → H8 D2 = some (.lst us2) → Terms K H8 us2 ps2 →
            ∀ V8, H8 V8 = none → ∃ acc, (upd H8 V8 (.tup [.int y, .int (i : Nat)])) D2 = some (.lst acc) ∧ acc.length < sizeLine ∧ (fun H9 : Hp => (Upto g H H9 ∧ SqT K H9 t (ns.map V.int) ∧ SqT K H9 W [.int (k - pt), .int pt] ∧ H9 L = some (.lst us) ∧ Terms K H9 us ps ∧
        ∃ (us2 : List V) (ps2 : List (Int × Nat)), H9 D2 = some (.lst us2) ∧ Terms K H9 us2 ps2 ∧ ps2.length ≤ (j + 1) ∧ ∀ p ∈ ps2, p.1.natAbs < 10 ^ 61 ∧ p.2 < n)) (upd (upd H8 V8 (.tup [.int y, .int (i : Nat)])) D2 (.lst (acc ++ [.ref V8]))) := by
          intro H8 U8 St8 SW8 eL8 tr8 eD8 tr28 V8 nV
          have VD : D2 ≠ V8 := ne_of_none eD8 nV
          have lus2 : us2.length = ps2.length := Paired.length tr28
          have sV := same_new (o := .tup [.int y, .int (i : Nat)]) nV
          have U9 := U8.new (o := .tup [.int y, .int (i : Nat)]) nV
          have eD9 := (upd_ne (o := HO.tup [.int y, .int (i : Nat)]) VD).trans eD8
          have eV : (upd H8 V8 (.tup [.int y, .int (i : Nat)])) V8 = some (.tup [.int y, .int (i : Nat)]) := upd_same
          replace St8 := same_sqt sV St8
          replace SW8 := same_sqt sV SW8
          replace eL8 := sV _ _ eL8
          replace tr8 := terms_same sV tr8
          replace tr28 := terms_same sV tr28
          generalize upd H8 V8 _ = H9 at U9 eD9 eV St8 SW8 eL8 tr8 tr28 ⊢
          refine ⟨us2, eD9, by rw [lus2, sizeLine_eq]; omega, ⟨U9.put D2g fD2, sqt_lst St8 eD9, sqt_lst SW8 eD9, (upd_ne LD).trans eL8, terms_lst tr8 eD9, us2 ++ [.ref V8], ps2 ++ [(y, i)], upd_same,
            paired_snoc ⟨V8, rfl, sqt_lst (.inl (.inl eV)) eD9⟩ (terms_lst tr28 eD9), by rw [List.length_append, List.length_singleton]; omega, fun p hp => ?_⟩⟩
          rcases List.mem_append.mp hp with hp | hp
          · exact bd2 p hp
          · rw [List.mem_singleton.mp hp]
            exact ⟨by61, li⟩
        refine ⟨_, rfl, rfl, _, rfl, ?_⟩
        rw [dInt]
        by_cases y0 : y = 0
        · refine ifF (by rw [decide_eq_true y0]; rfl) ?_
          obtain ⟨d0, d1, d2, ed⟩ := id U7.bag
          refine ⟨_, rfl, g, 9, d0, d1, d2, rfl, ed, div_small (n := 9) (by omega) (by omega), fun r g4 m4 c4 h40 h41 => ?_⟩
          have U8 : Upto g H7 (upd H7 g (.lst [.int g4, .int m4, .int c4])) := (Upto.refl U7.bag).draw
          have St8 := upto_sqt U8 U7.bag St7
          have SW8 := upto_sqt U8 U7.bag SW7
          have eL8 := U8.same _ _ Lg eL7
          have tr8 := upto_terms U8 U7.bag tr7
          have eD8 := U8.same _ _ D2g eD7
          have tr28 := upto_terms U8 U7.bag tr27
          replace U8 := U7.trans U8
          generalize upd H7 g _ = H8 at U8 St8 SW8 eL8 tr8 eD8 tr28 ⊢
          refine ⟨rfl, _, rfl, ?_⟩
          rw [dInt]
          by_cases cr : r = 0
          · rw [decide_eq_true cr]
            refine ifT rfl ?_
            refine ⟨_, rfl, _, rfl, by show 2 ≤ sizeLine; decide, fun V8 nV => ?_⟩
            exact add H8 U8 St8 SW8 eL8 tr8 eD8 tr28 V8 nV
          · rw [decide_eq_false cr]
            refine ifF (by decide) ?_
            exact ⟨U8, St8, SW8, eL8, tr8, us2, ps2, eD8, tr28, by omega, bd2⟩
        · refine ifT (by rw [decide_eq_false y0]; rfl) ?_
          refine ifT rfl ?_
          refine ⟨_, rfl, _, rfl, by show 2 ≤ sizeLine; decide, fun V8 nV => ?_⟩
          exact add H7 U7 St7 SW7 eL7 tr7 eD7 tr27 V8 nV
      · rintro H7 ⟨U7, St7, SW7, eL7, tr7, us2, ps2, eD7, tr27, lp2, bd2⟩
        have lus : us.length = ps.length := Paired.length tr7
        have lus2 : us2.length = ps2.length := Paired.length tr27
        replace lp2 : ps2.length ≤ 2 := lp2
        refine ⟨L, D2, us, us2, rfl, rfl, eL7, eD7, by rw [sizeLine_eq]; omega, fun L2 nL2 => ?_⟩
        obtain ⟨L2g, _⟩ := U7.free nL2
        refine ⟨U7.new nL2, sqt_new St7 nL2, L2, us ++ us2, ps ++ ps2, _, _, _, upd_same, L2g, terms_app (terms_same (same_new nL2) tr7) (terms_same (same_new nL2) tr27), by rw [List.length_append]; omega, fun p hp => ?_, rfl⟩
        rcases List.mem_append.mp hp with hp | hp
        · exact bd p hp
        · exact bd2 p hp
    · rintro σ H3 ⟨U, St, L, us, ps, x5, x6, x7, eL, Lg, tr, lp, bd, rfl⟩
      rw [List.length_map, lk] at lp
      have lus : us.length = ps.length := Paired.length tr
      refine ⟨_, rfl, _, rfl, g, L, us, rfl, U.bag, .inl (.inl eL), Lg, by omega, fun H7 T ys u7 nT pm eT => ?_⟩
      obtain ⟨qs, pq, trq⟩ := paired_perm pm (upto_terms u7 U.bag tr)
      replace St := upto_sqt u7 U.bag St
      have U7 := U.trans u7
      have Tg : T ≠ g := fun z => by
        obtain ⟨b0, b1, b2, eg⟩ := id U.bag
        rw [z, eg] at nT
        cases nT
      replace lp : qs.length ≤ 80 := by
        have := pq.length_eq
        omega
      replace bd : ∀ p ∈ qs, p.1.natAbs < 10 ^ 61 ∧ p.2 < n := fun p hp => bd p (pq.mem_iff.mp hp)
      have lys : ys.length = qs.length := Paired.length trq
      clear u7 nT pm pq tr lus eL Lg U
      refine ⟨T, rfl, ⟨_, .inl (.inl eT)⟩, fun D nD => ?_⟩
      obtain ⟨Dg, fD⟩ := U7.free nD
      have TD : T ≠ D := ne_of_none eT nD
      refine lc_list (K := K) (a := T) (xs := ys) (fun j H8 => Upto g H H8 ∧ SqT K H8 t (ns.map V.int) ∧ H8 T = some (.lst ys) ∧ Terms K H8 ys qs ∧
        ∃ (us2 : List V) (ps2 : List (Int × Nat)), H8 D = some (.lst us2) ∧ Terms K H8 us2 ps2 ∧ ps2.length ≤ j ∧ ∀ p ∈ ps2, p.1.natAbs < 10 ^ 60 ∧ p.2 < n)
        ⟨U7.new nD, sqt_new St nD, (upd_ne TD).trans eT, terms_same (same_new nD) trq, [], [], upd_same, .nil, Nat.zero_le _, fun p hp => (by cases hp)⟩ (fun j H8 _ h => .inl (.inl h.2.2.1)) ?_ ?_
      · rintro j x H8 hx ⟨U8, St8, eT8, tr8, us2, ps2, eD8, tr28, lp2, bd2⟩
        obtain ⟨p, hp, ⟨a, rfl, Sa⟩⟩ := paired_at tr8 hx
        obtain ⟨k, x⟩ := p
        obtain ⟨bk, bx⟩ := bd _ (List.mem_of_getElem? hp)
        obtain ⟨jl, _⟩ := List.getElem?_eq_some_iff.mp hp
        dsimp only at bk bx
        refine ⟨a, _, rfl, Sa, rfl, _, _, rfl, ?_⟩
        refine ⟨_, _, rfl, rfl, ?_⟩
        refine ⟨rfl, ?_⟩
        refine ⟨_, rfl, k, rfl, 10, 60, rfl, rfl, (by show CPw _ _; decide +kernel), _, _, rfl, rfl, _, rfl, ?_⟩
        have hB : (10 : Int) ^ (60 : Int).toNat = ((10 ^ 60 : Nat) : Int) := by decide +kernel
        rw [hB, show decide ((if k < 0 then -k else k) < ((10 ^ 60 : Nat) : Int)) = decide (k.natAbs < 10 ^ 60) from decide_eq_decide.mpr (by
          generalize (10 : Nat) ^ 60 = B
          split <;> omega)]
        by_cases c : k.natAbs < 10 ^ 60
        · refine ifT (decide_eq_true c) ?_
          refine ⟨_, rfl, _, rfl, by show 2 ≤ sizeLine; decide, fun V8 nV => ?_⟩
          have VD : D ≠ V8 := ne_of_none eD8 nV
          have lus2 : us2.length = ps2.length := Paired.length tr28
          have sV := same_new (o := .tup [.int k, .int (x : Int)]) nV
          have U9 := U8.new (o := .tup [.int k, .int (x : Int)]) nV
          have eD9 := (upd_ne (o := HO.tup [.int k, .int (x : Int)]) VD).trans eD8
          have eV : (upd H8 V8 (.tup [.int k, .int (x : Int)])) V8 = some (.tup [.int k, .int (x : Int)]) := upd_same
          replace St8 := same_sqt sV St8
          replace eT8 := sV _ _ eT8
          replace tr8 := terms_same sV tr8
          replace tr28 := terms_same sV tr28
          generalize upd H8 V8 _ = H9 at U9 eD9 eV St8 eT8 tr8 tr28 ⊢
          refine ⟨us2, eD9, by rw [lus2, sizeLine_eq]; omega, ⟨U9.put Dg fD, sqt_lst St8 eD9, (upd_ne TD).trans eT8, terms_lst tr8 eD9, us2 ++ [.ref V8], ps2 ++ [(k, x)], upd_same,
            paired_snoc ⟨V8, rfl, sqt_lst (.inl (.inl eV)) eD9⟩ (terms_lst tr28 eD9), by rw [List.length_append, List.length_singleton]; omega, fun p hp => ?_⟩⟩
          rcases List.mem_append.mp hp with hp | hp
          · exact bd2 p hp
          · rw [List.mem_singleton.mp hp]
            exact ⟨c, bx⟩
        · refine ifF (decide_eq_false c) ?_
          exact ⟨U8, St8, eT8, tr8, us2, ps2, eD8, tr28, by omega, bd2⟩
      rintro H8 ⟨U8, St8, eT8, tr8, us2, ps2, eD8, tr28, lp2, bd2⟩
      rw [lys] at lp2
      have lus2 : us2.length = ps2.length := Paired.length tr28
      clear tr8 eT8 TD trq eT Tg bd fD nD U7 St lys
      try dsimp only [gName]
      refine ⟨by show 1 ≤ sizeLine; decide, fun Z nZ => ?_⟩
      have U9 := U8.new (o := .lst [.int 0]) nZ
      replace St8 := sqt_new (o := .lst [.int 0]) St8 nZ
      have sZ := same_new (o := .lst [.int 0]) nZ
      replace eD8 := sZ _ _ eD8
      replace tr28 := terms_same sZ tr28
      have eZ : (upd H8 Z (.lst [.int 0])) Z = some (.lst [.int 0]) := upd_same
      generalize upd H8 Z _ = H9 at U9 St8 eD8 tr28 eZ ⊢
      clear sZ nZ U8
      refine ⟨_, rfl, t, _, rfl, .inr St8, Z, _, _, rfl, rfl, eZ, by omega, ?_, ?_, fun Y nY => ?_⟩
      · rw [List.length_map]
        omega
      · rw [List.length_map, List.length_singleton, sizeLine_eq]
        omega
      have eR : (List.replicate (((ns.map V.int).length : Nat) : Int).toNat [V.int 0]).flatten = (List.replicate n (0 : Int)).map V.int := by
        rw [List.length_map, lk, Int.toNat_natCast, List.map_replicate]
        exact flat_rep n _
      rw [eR]
      obtain ⟨Yg, fY⟩ := U9.free nY
      have sY := same_new (o := .lst ((List.replicate n (0 : Int)).map V.int)) nY
      have U10 := U9.new (o := .lst ((List.replicate n (0 : Int)).map V.int)) nY
      replace St8 := same_sqt sY St8
      replace tr28 := terms_same sY tr28
      have YD : D ≠ Y := ne_of_none eD8 nY
      replace eD8 := sY _ _ eD8
      have eY : (upd H9 Y (.lst ((List.replicate n (0 : Int)).map V.int))) Y = some (.lst ((List.replicate n (0 : Int)).map V.int)) := upd_same
      generalize upd H9 Y _ = H10 at U10 St8 tr28 eD8 eY ⊢
      clear sY nY eR eZ U9
      obtain ⟨R, hR⟩ : ∃ R, addT (List.replicate n 0) (ps2.map swp) = R := ⟨_, rfl⟩
      refine ⟨_, rfl, D, rfl, ⟨_, .inl (.inl eD8)⟩, for_list (K := K) (a := D) (xs := us2) (fun i σ H3 => Upto g H H3 ∧ SqT K H3 t (ns.map V.int) ∧ H3 D = some (.lst us2) ∧ Terms K H3 us2 ps2 ∧
          ∃ ks : List Int, H3 Y = some (.lst (ks.map V.int)) ∧ ks.length = n ∧ addT ks ((ps2.map swp).drop i) = R ∧
          ∃ x5 x6, σ = [some (.ref g), some (.ref t), none, some (.str z7), some (.ref D), x5, x6, x7, none, some (.ref Y), none])
        ⟨U10, St8, eD8, tr28, _, eY, List.length_replicate, hR, _, _, rfl⟩ (fun i σ H3 _ h => .inl (.inl h.2.2.1)) ?_ ?_⟩
      · rintro i x σ H3 hx ⟨U, St, eD, tr, ks, eY, lks, gR, x5, x6, rfl⟩
        obtain ⟨p, hp, ⟨a, rfl, Sa⟩⟩ := paired_at tr hx
        obtain ⟨k, x⟩ := p
        obtain ⟨bk, bx⟩ := bd2 _ (List.mem_of_getElem? hp)
        dsimp only at bk bx
        have dr : (ps2.map swp).drop i = (x, k) :: (ps2.map swp).drop (i + 1) := by
          have hp2 : (ps2.map swp)[i]? = some (x, k) := by rw [List.getElem?_map, hp]; rfl
          obtain ⟨lt2, e2⟩ := List.getElem?_eq_some_iff.mp hp2
          rw [← e2]
          exact List.drop_eq_getElem_cons lt2
        rw [dr] at gR
        refine ⟨a, _, rfl, Sa, rfl, _, _, rfl, ?_⟩
        refine ⟨_, _, rfl, rfl, ?_⟩
        rw [show addT ks ((x, k) :: (ps2.map swp).drop (i + 1)) = addT (ks.set x (ks.getD x 0 + k)) ((ps2.map swp).drop (i + 1)) from if_pos (by rw [lks]; exact bx)] at gR
        have gd : (ks.map V.int)[x]? = some (.int (ks.getD x 0)) := by
          rw [List.getElem?_map, List.getD_eq_getElem?_getD, List.getElem?_eq_getElem (by omega)]
          rfl
        refine ⟨_, rfl, _, rfl, Y, _, _, _, rfl, rfl, .inl (.inl eY), atI_nat gd, _, rfl, _, _, rfl, rfl, ?_⟩
        refine ⟨_, rfl, _, rfl, Y, _, (x : Int), x, rfl, rfl, eY, ixN_in (by rw [List.length_map]; omega), ?_⟩
        refine ⟨U.put Yg fY, sqt_lst St eY, (upd_ne YD).trans eD, terms_lst tr eY, ks.set x (ks.getD x 0 + k), ?_, by rw [List.length_set]; exact lks, gR, _, _, rfl⟩
        rw [upd_same, List.map_set]
      rintro σ H3 ⟨U, St, eD, tr, ks, eY, lks, gR, x5, x6, rfl⟩
      rw [lus2, List.drop_eq_nil_of_le (by rw [List.length_map]; omega)] at gR
      replace gR : some ks = R := gR
      clear U10 St8 eD8 tr28 
      refine ⟨_, rfl, _, rfl, g, D, us2, ps2, rfl, U.bag, Dg, eD, tr, by omega, fun p hp => ⟨(bd2 p hp).1, by have := (bd2 p hp).2; omega⟩, fun H4 z l u4 cz zl pl hd => ?_⟩
      replace St := upto_sqt u4 U.bag St
      replace eY := u4.same _ _ Yg eY
      have U4 := U.trans u4
      have lt : l.map tmP = ps2.map swp := paired_map pl
      rw [← hR, ← lt] at gR
      have nn := sizeLine_eq
      have alls : ∀ t ∈ l, tmOk t := paired_ok pl
      clear u4 tr eD U
      refine ⟨_, rfl, z, rfl, by omega, _, _, rfl, rfl, _, rfl, ?_⟩
      by_cases c3 : (3000 : Int) < (z.length : Int)
      · refine ifT (decide_eq_true c3) ?_
        exact ifT rfl (q _ U4)
      refine ifF (decide_eq_false c3) ?_
      refine ⟨_, rfl, Y, rfl, ⟨_, .inl (.inl eY)⟩, fun D3 nD3 => ?_⟩
      refine lc_seq (fun x => match x with | .int i => .int (if i < 0 then -i else i) | _ => .non) (.inl (.inl eY)) nD3 (by rw [List.length_map]; omega) ?_ ?_
      · intro x acc hx Q' q'
        obtain ⟨k, _, rfl⟩ := List.mem_map.mp hx
        exact ⟨_, rfl, k, rfl, q'⟩
      have em : (ks.map V.int).map (fun x => match x with | .int i => V.int (if i < 0 then -i else i) | _ => .non) = (ks.map fun i => if i < 0 then -i else i).map V.int := by
        rw [List.map_map, List.map_map]
        rfl
      rw [em]
      have U5 := U4.keep (same_new nD3 (o := .lst ((ks.map fun i => if i < 0 then -i else i).map V.int)))
      replace St := sqt_new (o := .lst ((ks.map fun i => if i < 0 then -i else i).map V.int)) St nD3
      have eY5 : (upd H4 D3 (.lst ((ks.map fun i => if i < 0 then -i else i).map V.int))) Y = some (.lst (ks.map V.int)) := (upd_ne (ne_of_none eY nD3)).trans eY
      have e5 : (upd H4 D3 (.lst ((ks.map fun i => if i < 0 then -i else i).map V.int))) D3 = _ := upd_same
      generalize upd H4 D3 _ = H5 at U5 St eY5 e5 ⊢
      clear U4 eY nD3
      simp only [tNil]
      refine ⟨D3, _, rfl, .inl (.inl e5), by rw [List.length_map]; omega, fun m hm hx => ?_⟩
      have hB : (10 : Int) ^ (60 : Int).toNat = ((10 ^ 60 : Nat) : Int) := by decide +kernel
      refine ⟨10, 60, rfl, rfl, (by show CPw _ _; decide +kernel), _, _, rfl, rfl, _, rfl, ?_⟩
      rw [hB]
      by_cases cm : ((10 ^ 60 : Nat) : Int) ≤ m
      · rw [decide_eq_true cm]
        refine ifT rfl ?_
        exact q _ U5
      rw [decide_eq_false cm]
      refine ifF (by decide) ?_
      refine ⟨_, rfl, _, rfl, t, _, rfl, .inr St, ?_⟩
      simp only [tNil]
      rw [List.length_map, lk]
      have kb : ∀ k ∈ ks, k.natAbs < 10 ^ 60 := by
        intro k hk
        have h1 := hx _ (List.mem_map.mpr ⟨k, hk, rfl⟩)
        generalize (10 : Nat) ^ 60 = B at cm ⊢
        split at h1 <;> omega
      refine readK_ok cz alls hd (by omega) n1 (by omega) gR.symm kb fun H6 t6 s6 S6 => ?_
      refine ⟨_, rfl, Y, _, rfl, .inl ⟨.inl (.inl (s6 _ _ eY5)), fun u fu => ?_⟩⟩
      refine eqTI (same_sqt (same_new fu) S6) (.inl (.inl upd_same)) ?_
      rw [decide_eq_true rfl]
      exact q _ ((U5.keep s6).keep (same_new fu))
end
end K84


set_option Elab.async false
set_option linter.all false
set_option maxRecDepth 100000
set_option maxHeartbeats 4000000
namespace K84
open PySem PySem.Spec PyProof.Rows L2 MM PySem.NumText
/-! own words for the readings: a step, its side -/
local macro_rules | `(tactic| walk_at "side") => `(tactic| first
  | omega
  | exact ⟨by omega, by omega⟩
  | exact Or.inl ⟨by omega, by omega⟩
  | exact Or.inr ⟨by omega, by omega⟩
  | (show CPw _ _; decide +kernel)
  | (show (0 : Int) < _; decide +kernel)
  | (show CDivW _ _; first | assumption | exact ⟨by decide, by decide +kernel⟩))
local macro_rules | `(tactic| walk_at "here") => `(tactic| first
  | assumption
  | exact upd_same
  | exact Or.inl (Or.inl upd_same)
  | exact Or.inl upd_same)
local macro_rules | `(tactic| walk_at "one") => `(tactic| first
  | refine ⟨_, rfl, ?_⟩
  | refine Or.inl ⟨_, rfl, ?_⟩
  | refine Or.inr ⟨_, rfl, ?_⟩
  | refine ⟨_, _, rfl, rfl, (by walk_at "side"), ?_⟩
  | refine ⟨_, _, rfl, rfl, ?_⟩
  | refine ⟨_, _, rfl, Or.inl (by walk_at "here"), ?_⟩
  | refine ⟨_, _, rfl, Or.inr (by walk_at "here"), ?_⟩
  | refine ⟨_, _, rfl, (by walk_at "here"), ?_⟩
  | refine ⟨_, _, _, _, rfl, rfl, (by walk_at "here"), rfl, ?_⟩
  | refine ⟨_, _, rfl, ?_⟩
  | refine ifT (by rfl) ?_
  | refine ifF (by rfl) ?_
  | refine ifT (decide_eq_true (by omega)) ?_
  | refine ifF (decide_eq_false (by omega)) ?_)
local macro_rules | `(tactic| walk_at "st") => `(tactic| repeat (walk_at "one"))

section
variable {P : Program} {w : World} {K : PySem.W.Frag} {mg : Str → Option Value} {base : Heap}
def spLaw (K : PySem.W.Frag) : Sp := fun vs H Q _ => ∃ (a : Addr) (ns : List Int), vs = [.ref a] ∧ SqL K H a (ns.map V.int) ∧ ns.length ≤ 1000 ∧ ∀ H', Q (.bl true) H'
theorem upto_sql0 {p a : Addr} {H0 H H' : Hp} {xs : List V} (np : H0 p = none) (s0 : SqL K H0 a xs) (s : Same H0 H) (h : Upto p H H') : SqL K H' a xs := by
  rcases s0 with (s0 | ⟨o, s0⟩) | s0
  · exact .inl (.inl (h.same _ _ (ne_of_none s0 np) (s _ _ s0)))
  · exact .inl (.inr ⟨o, h.same _ _ (ne_of_none s0 np) (s _ _ s0)⟩)
  · exact .inr s0
theorem readR_ok {H : Hp} {Q : VK} {E : XK} {z : Str} {ns : List Int} (hz : cds z = rowT ns) (zl : z.length ≤ 3000) (mb : Mb ns) (q : ∀ H' t, Same H H' → SqT K H' t (ns.map V.int) → Q (.ref t) H') : spReadRow K [.str z] H Q E := by
  have ok : okT (.str z) = true := decide_eq_true zl
  have nne : ns ≠ [] := by
    intro z
    rw [z] at mb
    exact absurd mb.1 (by decide)
  refine ⟨.str z, _, rfl, .str z, (fun z' e => by cases e; omega), (fun b => absurd (b.symm.trans ok) (by decide)), fun z' e _ => ?_⟩
  cases e
  rw [hz, rowR_T nne mb.2.2]
  refine ⟨fun _ H8 t2 s8 S8 => q _ _ s8 S8, fun c => absurd c ?_⟩
  have := mb.2.1
  omega
theorem neSame {a b : V} {d : PyData} {H : Hp} {Q : VK} (h : Dp K H a d) (h2 : Dp K H b d) (sh : SeqAt.shaped d = true) (e : PyData.eqv d d = true) (q : Q (.bl false) H) : rNeD K a b H Q :=
  ⟨d, d, h, h2, sh, sh, by rw [e]; exact q⟩
theorem eqSame {a b : V} {d : PyData} {H : Hp} {Q : VK} (h : Dp K H a d) (h2 : Dp K H b d) (sh : SeqAt.shaped d = true) (e : PyData.eqv d d = true) (q : Q (.bl true) H) : rEqD K a b H Q :=
  ⟨d, d, h, h2, sh, sh, by rw [e]; exact q⟩
theorem dpI {H : Hp} {a : Addr} {ns : List Int} (h : SqT K H a (ns.map V.int)) : Dp K H (.ref a) (.tuple (ns.map .int)) := .tup h (dp_ints _)
theorem dpL {H : Hp} {a : Addr} {xs : List V} {ds : List PyData} (h : H a = some (.lst xs)) (d : DpAll K H xs ds) : Dp K H (.ref a) (.list ds) := .lst (.inl (.inl h)) d
theorem tds2 {sp : Sp} {E : L2.St → XK} {a b : V} {tr : TA} {σ : L2.St} {H : Hp} {Q : List V → Hp → Prop} (h : sp [a, b] H (fun x H2 => tr σ H2 fun xs H3 => Q (x :: xs) H3) (E σ)) : tCons (ME.tDS sp E (tCons (tC a) (tCons (tC b) tNil))) tr σ H Q := h
theorem tdsO2 {sp : Sp} {E : L2.St → XK} {a b : V} {tb : TE} {r : R2} {σ : L2.St} {H : Hp} {Q : VK} (h : sp [a, b] H (fun x H2 => tb σ H2 fun y H3 => r x y H3 Q) (E σ)) : tOp r (ME.tDS sp E (tCons (tC a) (tCons (tC b) tNil))) tb σ H Q := h
theorem tds1 {sp : Sp} {E : L2.St → XK} {a : V} {tr : TA} {σ : L2.St} {H : Hp} {Q : List V → Hp → Prop} (h : sp [a] H (fun x H2 => tr σ H2 fun xs H3 => Q (x :: xs) H3) (E σ)) : tCons (ME.tDS sp E (tCons (tC a) tNil)) tr σ H Q := h
theorem scLaw : FnScope ["_law_script", "_law_spot", "_law_bag_here", "_law_turn", "_law_told", "_law_due"] ["_law_script"] (defScope sLaw) :=
  ⟨rfl, rfl, rfl, by decide +kernel, rfl, by decide +kernel, by decide +kernel⟩
theorem bLaw (T : Tx K mg) (Y : Ex K mg) (DBagL : Def P w K mg base CX0 1 "_law_bag" ["_law_script", "_law_spot"] (spBag K)) (DWriteRow : Def P w K mg base CX0 4 "write_row" ["row"] (spWriteRow K)) (DWriteMove : Def P w K mg base CX0 6 "write_move" ["move"] (spMW K)) (DWriteKinds : Def P w K mg base CX0 4 "write_kinds" ["kinds"] (spKW K)) (BKindsRightL : Def P w K mg base (L2.CX P w) 9 "_law_kinds_right" ["_law_bag_here"] (spRight K)) (BRowsRightL : Def P w K mg base (L2.CX P w) 7 "_law_rows_right" ["_law_bag_here"] (spRight K)) (BMovesRightL : Def P w K mg base (L2.CX P w) 9 "_law_moves_right" ["_law_bag_here"] (spRight K)) (BReadRow : Def P w K mg base (L2.CX P w) 5 "read_row" ["text"] (spReadRow K)) (BReadMove : Def P w K mg base (L2.CX P w) 7 "read_move" ["text", "places"] (spReadMove K)) (BReadKinds : Def P w K mg base (L2.CX P w) 6 "read_kinds" ["text", "length"] (spReadKinds K)) : Def P w K mg base (L2.CX P w) 10 "law" ["_law_script"] (spLaw K) := by
  refine T.t_law.defX (N := ["_law_script", "_law_spot", "_law_bag_here", "_law_turn", "_law_told", "_law_due"]) scLaw (fun _ _ _ _ _ _ us hl => match us, hl with | [_], _ => rfl) ?_ ?_
  · intro vs H Q E h
    obtain ⟨a, ns, rfl, _⟩ := h
    rfl
  · intro f cd A out s H vs Q E hr h
    have hr1 : Rm 6 _ := hr.le (by decide)
    have hr2 : Rm 9 _ := hr.le (by decide)
    have tk : Takes (cxOf (L2.CX P w) P w K mg base ["_law_script", "_law_spot", "_law_bag_here", "_law_turn", "_law_told", "_law_due"] "law" (defScope sLaw) f cd A out s H E) (fun cls d _ H1 => E cls d H1) := takes_of rfl rfl rfl rfl
    obtain ⟨a, ns, rfl, hS, hl, q⟩ := h
    refine ⟨_, (pss_cons (ps_for (passes_of rfl) rfl (pi_range1 rfl T.f_range (pa_cons (pe_callB (call_max2 rfl) rfl T.f_max (by decide +kernel) (pa_cons pe_int (pa_cons (pe_callB (call_min2 rfl) rfl T.f_min (by decide +kernel) (pa_cons pe_int (pa_cons (pe_callB call_len_seq rfl T.f_len (by decide +kernel) (pa_cons (pv 0) pa_nil)) pa_nil))) pa_nil))) pa_nil)) (pg_name (i := 1) scLaw.nd rfl (Or.inl rfl))
        (pss_cons (ps_set (i := 2) scLaw.nd rfl (Or.inl rfl) (pe_d DBagL (hr1.le (by decide)) pass0 (pa_cons (pv 0) (pa_cons (pv 1) pa_nil))))
        (pss_one (ps_for (passes_of rfl) rfl (pi_range1 rfl T.f_range (pa_cons pe_int pa_nil)) (pg_name (i := 3) scLaw.nd rfl (Or.inl rfl))
          (pss_one (ps_if (PW.pt (pw_or (pt_not (pt_val (ME.pe_dS BMovesRightL (hr2.le (by decide)) (passAt tk) (pa_cons (pv 2) pa_nil)))) (pw_or (pt_not (pt_val (ME.pe_dS BRowsRightL (hr2.le (by decide)) (passAt tk) (pa_cons (pv 2) pa_nil)))) (pw_or1 (pt_not (pt_val (ME.pe_dS BKindsRightL (hr2.le (by decide)) (passAt tk) (pa_cons (pv 2) pa_nil)))))))) (pss_one (ps_ret pe_bl)) pss_nil))))))
      (pss_cons (ps_set (i := 4) scLaw.nd rfl (Or.inl rfl) (pe_lst (pa_cons (pe_d DWriteMove (hr1.le (by decide)) pass0 (pa_cons (pe_tup (pa_cons pe_int (pa_cons pe_int (pa_cons pe_int (pa_cons pe_int (pa_cons pe_int pa_nil)))))) pa_nil)) (pa_cons (pe_d DWriteMove (hr1.le (by decide)) pass0 (pa_cons (pe_tup (pa_cons pe_int (pa_cons pe_int pa_nil))) pa_nil)) (pa_cons (ME.pe_dS BReadMove (hr2.le (by decide)) (passAt tk) (pa_cons pe_str (pa_cons pe_int pa_nil))) (pa_cons (pe_d DWriteRow (hr1.le (by decide)) pass0 (pa_cons (pe_tup (pa_cons pe_int (pa_cons pe_int (pa_cons pe_int (pa_cons (pe_un un_neg pe_int) pa_nil))))) pa_nil)) (pa_cons (ME.pe_dS BReadRow (hr2.le (by decide)) (passAt tk) (pa_cons pe_str pa_nil)) pa_nil)))))))
      (pss_cons (ps_set (i := 5) scLaw.nd rfl (Or.inl rfl) (pe_lst (pa_cons pe_str (pa_cons pe_str (pa_cons (pe_tup (pa_cons pe_int (pa_cons pe_int (pa_cons pe_int (pa_cons pe_int (pa_cons pe_int (pa_cons pe_int pa_nil))))))) (pa_cons pe_str (pa_cons (pe_tup (pa_cons pe_int (pa_cons (pe_un un_neg pe_int) pa_nil))) pa_nil)))))))
      (pss_cons (ps_if (PW.pt (pw_or (pt_cmpR (op_neD hr.hu) (pv 4) (pv 5) (nomark _)) (pw_or1 (pt_cmpR (op_neD hr.hu) (pe_lst (pa_cons (C8.pe_gc rfl T.c_MOST_SIGNS) (pa_cons (C8.pe_gc rfl T.c_MOST_MEMBERS) pa_nil))) (pe_lst (pa_cons pe_int (pa_cons pe_int pa_nil))) (nomark _))))) (pss_one (ps_ret pe_bl)) pss_nil)
      (pss_cons (ps_set (i := 4) scLaw.nd rfl (Or.inl rfl) (pe_lst (pa_cons (pe_d DWriteKinds (hr1.le (by decide)) pass0 (pa_cons (pe_tup (pa_cons pe_int (pa_cons pe_int (pa_cons (pe_un un_neg pe_int) (pa_cons pe_int pa_nil))))) pa_nil)) (pa_cons (pe_d DWriteKinds (hr1.le (by decide)) pass0 (pa_cons (pe_tup (pa_cons (pe_un un_neg pe_int) (pa_cons pe_int pa_nil))) pa_nil)) (pa_cons (ME.pe_dS BReadKinds (hr2.le (by decide)) (passAt tk) (pa_cons pe_str (pa_cons pe_int pa_nil))) (pa_cons (ME.pe_dS BReadKinds (hr2.le (by decide)) (passAt tk) (pa_cons pe_str (pa_cons pe_int pa_nil))) (pa_cons (pe_d DWriteKinds (hr1.le (by decide)) pass0 (pa_cons (pe_tup (pa_cons pe_int (pa_cons pe_int pa_nil))) pa_nil)) pa_nil)))))))
      (pss_one (ps_ret (pe_and (pe_cmpR (op_eqD hr.hu) (pv 4) (pe_lst (pa_cons pe_str (pa_cons pe_str (pa_cons (pe_tup (pa_cons pe_int (pa_cons (pe_un un_neg pe_int) pa_nil))) (pa_cons (pe_tup (pa_cons pe_int (pa_cons pe_int (pa_cons pe_int pa_nil)))) (pa_cons pe_str pa_nil)))))) (nomark _)) (pe_one (pe_cmpR (op_eqD hr.hu) (ME.pe_dS BReadKinds (hr2.le (by decide)) (passAt tk) (pa_cons pe_str (pa_cons pe_int pa_nil))) (pe_tup (pa_cons pe_int (pa_cons pe_int pa_nil))) (nomark _))))))))))), ?_⟩
    refine ⟨_, rfl, a, _, rfl, .inl hS, _, _, rfl, _, _, rfl, ?_⟩
    obtain ⟨j, ej, j1, j2⟩ : ∃ j : Int, j = (if (if ((ns.map V.int).length : Int) < 2 then ((ns.map V.int).length : Int) else 2) > 1 then (if ((ns.map V.int).length : Int) < 2 then ((ns.map V.int).length : Int) else 2) else 1) ∧ 1 ≤ j ∧ j ≤ 2 := by
      refine ⟨_, rfl, ?_, ?_⟩
      all_goals
        split
        · split <;> omega
        · omega
    refine ⟨j, by rw [ej], by omega, by omega, for_range (fun i σ H' => SqL K H' a (ns.map V.int) ∧ ∃ x1 x2 x3 x4 x5, σ = [some (.ref a), x1, x2, x3, x4, x5]) ⟨hS, none, none, none, none, none, rfl⟩ ?_ ?_⟩
    · rintro i σ H0 hi ⟨hS, x1, x2, x3, x4, x5, rfl⟩
      refine ⟨_, rfl, _, rfl, a, i, ns, ?_, hS, by omega, fun H1 p sm np hb => ?_⟩
      · show [V.ref a, V.int (0 + (i : Int))] = _
        rw [Int.zero_add]
      refine ⟨3, rfl, by omega, by omega, for_range (fun i σ H' => Upto p H1 H' ∧ ∃ y x3 x4 x5, σ = [some (.ref a), y, some (.ref p), x3, x4, x5]) ⟨Upto.refl hb, _, _, _, _, rfl⟩ ?_ ?_⟩
      · rintro i2 σ H2 _ ⟨U, y, x3, x4, x5, rfl⟩
        refine ⟨_, rfl, p, rfl, U.bag, fun H3 u3 => ?_⟩
        refine ⟨_, rfl, ?_⟩
        refine ifF rfl ?_
        refine ⟨_, rfl, p, rfl, u3.bag, fun H4 u4 => ?_⟩
        refine ⟨_, rfl, ?_⟩
        refine ifF rfl ?_
        refine ⟨_, rfl, p, rfl, u4.bag, fun H5 u5 => ?_⟩
        refine ⟨_, rfl, ?_⟩
        refine ifF rfl ?_
        exact ⟨((U.trans u3).trans u4).trans u5, _, _, _, _, rfl⟩
      · rintro σ H2 ⟨U, y, x3, x4, x5, rfl⟩
        exact ⟨upto_sql0 np hS sm U, _, _, _, _, _, rfl⟩
    rintro σ H0 ⟨_, x1, x2, x3, x4, x5, rfl⟩
    clear hS
    refine ⟨by show 5 ≤ sizeLine; decide, fun t1 n1 => ?_⟩
    refine ⟨t1, [1, 2, 0, 4, 3], rfl, .inl (.inl upd_same), ⟨by decide, by decide, by decide, by decide⟩, fun H1 z1 s1 c1 l1 => ?_⟩
    obtain rfl : z1 = "(0 1 2)(3 4)" := str_eq (c1.trans (by decide +kernel))
    clear s1 n1
    refine ⟨by show 2 ≤ sizeLine; decide, fun t2 n2 => ?_⟩
    refine ⟨t2, [0, 1], rfl, .inl (.inl upd_same), ⟨by decide, by decide, by decide, by decide⟩, fun H2 z2 s2 c2 l2 => ?_⟩
    obtain rfl : z2 = "()" := str_eq (c2.trans (by decide +kernel))
    clear s2 n2
    refine tds2 ?_
    refine read_ok (z := "(4 3)(2 0 1)") (R := [[4, 3], [2, 0, 1]]) (n := 6) (by decide +kernel) (by decide) (by decide) (by decide) (by decide) ⟨by decide, by decide, by decide⟩ fun H3 t3 s3 S3 => ?_
    replace S3 : SqT K H3 t3 (([1, 2, 0, 4, 3, 5] : List Int).map V.int) := by
      rw [show mv ((List.range 6).map (goOf [[4, 3], [2, 0, 1]])) = ([1, 2, 0, 4, 3, 5] : List Int).map V.int by decide +kernel] at S3
      exact S3
    refine ⟨_, rfl, by show 4 ≤ sizeLine; decide, fun t4 n4 => ?_⟩
    replace S3 := sqt_new (o := .tup [.int 6, .int 2, .int 0, .int (-1)]) S3 n4
    refine ⟨t4, [6, 2, 0, -1], rfl, .inl (.inl upd_same), ⟨by decide, by decide, by decide +kernel⟩, fun H4 z4 s4 c4 => ?_⟩
    obtain rfl : z4 = "6,2,0,-1" := str_eq (c4.trans (by decide +kernel))
    replace S3 := same_sqt s4 S3
    refine tds1 ?_
    refine readR_ok (z := "0,-12") (ns := [0, -12]) (by decide +kernel) (by decide) ⟨by decide, by decide, by decide +kernel⟩ fun H5 t5 s5 S5 => ?_
    replace S3 := same_sqt s5 S3
    refine ⟨by show 5 ≤ sizeLine; decide, fun L nL => ?_⟩
    obtain ⟨O, hO⟩ : ∃ O : HO, O = .lst [.str "(0 1 2)(3 4)", .str "()", .ref t3, .str "6,2,0,-1", .ref t5] := ⟨_, rfl⟩
    have eL : (upd H5 L (.lst [.str "(0 1 2)(3 4)", .str "()", .ref t3, .str "6,2,0,-1", .ref t5])) L = some (.lst [.str "(0 1 2)(3 4)", .str "()", .ref t3, .str "6,2,0,-1", .ref t5]) := upd_same
    replace S3 := sqt_new (o := .lst [.str "(0 1 2)(3 4)", .str "()", .ref t3, .str "6,2,0,-1", .ref t5]) S3 nL
    replace S5 := sqt_new (o := .lst [.str "(0 1 2)(3 4)", .str "()", .ref t3, .str "6,2,0,-1", .ref t5]) S5 nL
    generalize upd H5 L _ = H6 at eL S3 S5 ⊢
    clear hO O s5 nL s3
    refine ⟨by show 6 ≤ sizeLine; decide, fun t6 n6 => ?_⟩
    have S6 : SqT K (upd H6 t6 (.tup [.int 1, .int 2, .int 0, .int 4, .int 3, .int 5])) t6 (([1, 2, 0, 4, 3, 5] : List Int).map V.int) := .inl (.inl upd_same)
    have q6 := same_new (o := .tup [.int 1, .int 2, .int 0, .int 4, .int 3, .int 5]) n6
    replace S3 := same_sqt q6 S3
    replace S5 := same_sqt q6 S5
    replace eL := q6 _ _ eL
    generalize upd H6 t6 _ = H7 at S6 S3 S5 eL ⊢
    clear q6 n6
    refine ⟨_, rfl, by show 2 ≤ sizeLine; decide, fun t7 n7 => ?_⟩
    have S7 : SqT K (upd H7 t7 (.tup [.int 0, .int (-12)])) t7 (([0, -12] : List Int).map V.int) := .inl (.inl upd_same)
    have q7 := same_new (o := .tup [.int 0, .int (-12)]) n7
    replace S3 := same_sqt q7 S3
    replace S5 := same_sqt q7 S5
    replace S6 := same_sqt q7 S6
    replace eL := q7 _ _ eL
    generalize upd H7 t7 _ = H8 at S6 S3 S5 S7 eL ⊢
    clear q7 n7
    refine ⟨by show 5 ≤ sizeLine; decide, fun M nM => ?_⟩
    have eM : (upd H8 M (.lst [.str "(0 1 2)(3 4)", .str "()", .ref t6, .str "6,2,0,-1", .ref t7])) M = some (.lst [.str "(0 1 2)(3 4)", .str "()", .ref t6, .str "6,2,0,-1", .ref t7]) := upd_same
    have q8 := same_new (o := .lst [.str "(0 1 2)(3 4)", .str "()", .ref t6, .str "6,2,0,-1", .ref t7]) nM
    replace S3 := same_sqt q8 S3
    replace S5 := same_sqt q8 S5
    replace S6 := same_sqt q8 S6
    replace S7 := same_sqt q8 S7
    replace eL := q8 _ _ eL
    generalize upd H8 M _ = H9 at S6 S3 S5 S7 eL eM ⊢
    clear q8 nM
    refine ⟨_, rfl, _, rfl, neSame (d := .list [.str "(0 1 2)(3 4)", .str "()", .tuple ([1, 2, 0, 4, 3, 5].map .int), .str "6,2,0,-1", .tuple ([0, -12].map .int)])
      (dpL eL (.cons (.str _) (.cons (.str _) (.cons (dpI S3) (.cons (.str _) (.cons (dpI S5) .nil))))))
      (dpL eM (.cons (.str _) (.cons (.str _) (.cons (dpI S6) (.cons (.str _) (.cons (dpI S7) .nil)))))) (by decide +kernel) (by decide +kernel) ?_⟩
    refine ⟨_, rfl, ?_⟩
    refine ifF rfl ?_
    clear S3 S5 S6 S7 eL eM
    refine ⟨by show 2 ≤ sizeLine; decide, fun l1 nl => ?_⟩
    refine ⟨by show 2 ≤ sizeLine; decide, fun l2 nl2 => ?_⟩
    refine neSame (d := .list [.int 3000, .int 60]) (dpL ((upd_ne (ne_of_none upd_same nl2)).trans upd_same) (.cons (.int _) (.cons (.int _) .nil))) (dpL upd_same (.cons (.int _) (.cons (.int _) .nil))) (by decide +kernel) (by decide +kernel) ?_
    refine ⟨_, rfl, ?_⟩
    refine ifF rfl ?_
    generalize upd _ l2 _ = H10
    clear nl2 nl
    refine ⟨_, rfl, by show 4 ≤ sizeLine; decide, fun a1 n1 => ?_⟩
    refine ⟨a1, [2, 0, -1, 3], rfl, .inl (.inl upd_same), ⟨by decide, by decide, by decide +kernel⟩, fun H1 z1 s1 c1 l1 => ?_⟩
    obtain rfl : z1 = "2[0] - [2] + 3[3]" := str_eq (c1.trans (by decide +kernel))
    clear s1 n1 l1
    refine ⟨_, rfl, by show 2 ≤ sizeLine; decide, fun a2 n2 => ?_⟩
    refine ⟨a2, [-1, 0], rfl, .inl (.inl upd_same), ⟨by decide, by decide, by decide +kernel⟩, fun H2 z2 s2 c2 l2 => ?_⟩
    obtain rfl : z2 = "-[0]" := str_eq (c2.trans (by decide +kernel))
    clear s2 n2 l2
    refine tds2 ?_
    refine readK_ok (z := "[1] + 2[0] - 3[1]") (n := 2) (l := [⟨false, false, 1, 1⟩, ⟨true, false, 2, 0⟩, ⟨true, true, 3, 1⟩]) (ks := [2, -2]) (by decide +kernel) (by unfold tmOk; decide +kernel) (by
      intro t r e hb
      injection e with e1 _
      subst e1
      cases hb) (by decide) (by decide) (by decide) (by decide +kernel) (by decide +kernel) fun H3 t3 s3 S3 => ?_
    refine tds2 ?_
    refine readK_ok (z := "0") (n := 3) (l := []) (ks := [0, 0, 0]) (by decide +kernel) (fun t h => by cases h) (by
      intro t r e
      cases e) (by decide) (by decide) (by decide) (by decide +kernel) (by decide +kernel) fun H4 t4 s4 S4 => ?_
    replace S3 := same_sqt s4 S3
    refine ⟨by show 2 ≤ sizeLine; decide, fun a5 n5 => ?_⟩
    replace S3 := sqt_new (o := .tup [.int 0, .int 0]) S3 n5
    replace S4 := sqt_new (o := .tup [.int 0, .int 0]) S4 n5
    refine ⟨a5, [0, 0], rfl, .inl (.inl upd_same), ⟨by decide, by decide, by decide +kernel⟩, fun H5 z5 s5 c5 l5 => ?_⟩
    obtain rfl : z5 = "0" := str_eq (c5.trans (by decide +kernel))
    replace S3 := same_sqt s5 S3
    replace S4 := same_sqt s5 S4
    clear s5 n5 l5 s4 s3
    replace S3 : SqT K H5 t3 (([2, -2] : List Int).map V.int) := S3
    replace S4 : SqT K H5 t4 (([0, 0, 0] : List Int).map V.int) := S4
    refine ⟨by show 5 ≤ sizeLine; decide, fun L2 nL2 => ?_⟩
    have eL : (upd H5 L2 (.lst [.str "2[0] - [2] + 3[3]", .str "-[0]", .ref t3, .ref t4, .str "0"])) L2 = some (.lst [.str "2[0] - [2] + 3[3]", .str "-[0]", .ref t3, .ref t4, .str "0"]) := upd_same
    replace S3 := sqt_new (o := .lst [.str "2[0] - [2] + 3[3]", .str "-[0]", .ref t3, .ref t4, .str "0"]) S3 nL2
    replace S4 := sqt_new (o := .lst [.str "2[0] - [2] + 3[3]", .str "-[0]", .ref t3, .ref t4, .str "0"]) S4 nL2
    generalize upd H5 L2 _ = H6 at eL S3 S4 ⊢
    clear nL2
    refine ⟨_, rfl, _, rfl, by show 2 ≤ sizeLine; decide, fun t6 n6 => ?_⟩
    have S6 : SqT K (upd H6 t6 (.tup [.int 2, .int (-2)])) t6 (([2, -2] : List Int).map V.int) := .inl (.inl upd_same)
    have q6 := same_new (o := .tup [.int 2, .int (-2)]) n6
    replace S3 := same_sqt q6 S3
    replace S4 := same_sqt q6 S4
    replace eL := q6 _ _ eL
    generalize upd H6 t6 _ = H7 at S6 S3 S4 eL ⊢
    clear q6 n6
    refine ⟨by show 3 ≤ sizeLine; decide, fun t7 n7 => ?_⟩
    have S7 : SqT K (upd H7 t7 (.tup [.int 0, .int 0, .int 0])) t7 (([0, 0, 0] : List Int).map V.int) := .inl (.inl upd_same)
    have q7 := same_new (o := .tup [.int 0, .int 0, .int 0]) n7
    replace S3 := same_sqt q7 S3
    replace S4 := same_sqt q7 S4
    replace S6 := same_sqt q7 S6
    replace eL := q7 _ _ eL
    generalize upd H7 t7 _ = H8 at S6 S3 S4 S7 eL ⊢
    clear q7 n7
    refine ⟨by show 5 ≤ sizeLine; decide, fun M2 nM => ?_⟩
    have eM : (upd H8 M2 (.lst [.str "2[0] - [2] + 3[3]", .str "-[0]", .ref t6, .ref t7, .str "0"])) M2 = some (.lst [.str "2[0] - [2] + 3[3]", .str "-[0]", .ref t6, .ref t7, .str "0"]) := upd_same
    have q8 := same_new (o := .lst [.str "2[0] - [2] + 3[3]", .str "-[0]", .ref t6, .ref t7, .str "0"]) nM
    replace S3 := same_sqt q8 S3
    replace S4 := same_sqt q8 S4
    replace S6 := same_sqt q8 S6
    replace S7 := same_sqt q8 S7
    replace eL := q8 _ _ eL
    generalize upd H8 M2 _ = H9 at S6 S3 S4 S7 eL eM ⊢
    clear q8 nM
    refine eqSame (d := .list [.str "2[0] - [2] + 3[3]", .str "-[0]", .tuple ([2, -2].map .int), .tuple ([0, 0, 0].map .int), .str "0"])
      (dpL eL (.cons (.str _) (.cons (.str _) (.cons (dpI S3) (.cons (dpI S4) (.cons (.str _) .nil))))))
      (dpL eM (.cons (.str _) (.cons (.str _) (.cons (dpI S6) (.cons (dpI S7) (.cons (.str _) .nil)))))) (by decide +kernel) (by decide +kernel) ?_
    refine ⟨_, rfl, ?_⟩
    refine ifT rfl ?_
    refine tdsO2 ?_
    refine readK_ok (z := "[0] - 0[1]") (n := 2) (l := [⟨false, false, 1, 0⟩, ⟨true, true, 0, 1⟩]) (ks := [1, 0]) (by decide +kernel) (by unfold tmOk; decide +kernel) (by
      intro t r e hb
      injection e with e1 _
      subst e1
      cases hb) (by decide) (by decide) (by decide) (by decide +kernel) (by decide +kernel) fun H1 t1 s1 S1 => ?_
    refine ⟨by show 2 ≤ sizeLine; decide, fun t2 n2 => ?_⟩
    refine eqSame (d := .tuple ([1, 0].map .int)) (dpI (sqt_new S1 n2)) (dpI (ns := [1, 0]) (.inl (.inl upd_same))) (by decide +kernel) (by decide +kernel) ?_
    exact q _
end
end K84


set_option Elab.async false
set_option linter.all false
set_option maxRecDepth 100000
set_option maxHeartbeats 2000000
namespace K84
open PySem PySem.Spec PyProof.Rows L2 MM
theorem kepRow_ok {K : PySem.W.Frag} {C : Addr} {top : List Value} {newId : String} (h : kepRow K C top newId = true) : ∃ nm q N bs bm sn sub ab col dd k0 k1 k2 k3 k5,
    K.lookup C = some (excClassObj nm q C N bs bm true sn sub ab col dd k0 k1 k2 k3 k5 newId) ∧ PySem.W.excTail top bm = true := by
  unfold kepRow at h
  split at h
  · rename_i dd cd sl lk
    obtain ⟨nm, bs, mro, ns, qn, hd, sn, sub, ab, col, del⟩ := cd
    simp only [Bool.and_eq_true, Bool.not_eq_true'] at h
    obtain ⟨⟨⟨h1, h2⟩, h3⟩, h4⟩ := h
    subst h3 h4
    split at h1
    · rename_i C' bm
      rw [Bool.and_eq_true, decide_eq_true_eq] at h1
      obtain ⟨rfl, ht⟩ := h1
      split at h2
      · rename_i k0 k1 k2 k3 n k5 e2
        have e3 : n = newId := of_decide_eq_true h2
        subst e3
        have e4 : sl = #[k0, k1, k2, k3, some (.builtin n), k5] := by
          obtain ⟨l⟩ := sl
          simp only at e2
          rw [e2]
        subst e4
        exact ⟨nm, qn, ns, bs, bm, sn, sub, ab, col, dd, k0, k1, k2, k3, k5, lk, ht⟩
      · cases h2
    · cases h1
  · cases h
theorem kep_ok {K : PySem.W.Frag} {mg : Str → Option Value} {x f : Str} (g : mg x = some (.ref (ga K x))) {B newId initId : String} {top : List Value} {st : Stmt} (h : kepB K x f top newId = true) (hb : PySem.HandSPX.Bs B newId initId top)
    (hp : StoreFacts B top "object.__setattr__" "object")
    (F : ∃ fd, FunD K "__init__" (x ++ ".__init__") (defArgs st) (defBody st) (defScope st) [] [] (He.ma K (ga K x) "__init__") fd) : Kep K mg x f B newId initId top st := by
  unfold kepB at h
  simp only [Bool.and_eq_true, decide_eq_true_eq] at h
  obtain ⟨⟨⟨⟨⟨⟨⟨⟨r1, r2⟩, r3⟩, r4⟩, r5⟩, r6⟩, r7⟩, r8⟩, r9⟩ := h
  obtain ⟨fd, F⟩ := F
  exact ⟨g, ⟨hb, hp, kepRow_ok r1, r2, r3, r4, r5⟩, r6, xfB_ok r7, ⟨_, fd, r8, r9, F⟩⟩
theorem ask_ok {K : PySem.W.Frag} (h : askB K = true) : MD.Asks K (ga K "MarkError") "ValueError.__init__" := by
  unfold askB at h
  simp only [Bool.and_eq_true, decide_eq_true_eq] at h
  obtain ⟨⟨a, b⟩, c⟩ := h
  refine ⟨a, b, ?_⟩
  split at c
  · rename_i n e
    have e3 : n = "ValueError.__init__" := of_decide_eq_true c
    subst e3
    exact e
  · cases c
theorem ex_ok {K : PySem.W.Frag} {mg : Str → Option Value} (h : allB K = true) (g1 : mg "InvalidMove" = some (.ref (ga K "InvalidMove")))
    (g3 : mg "InvalidRow" = some (.ref (ga K "InvalidRow"))) (g4 : mg "InvalidKinds" = some (.ref (ga K "InvalidKinds"))) (g5 : mg "MarkError" = some (.ref (ga K "MarkError")))
    (g6 : mg "ParseError" = some (.ref (ga K "ParseError"))) (g7 : mg "InvalidNumber" = some (.ref (ga K "InvalidNumber")))
    (ie : mg "IndexError" = none)
    (F1 : ∃ fd, FunD K "__init__" ("ParseError" ++ ".__init__") (defArgs sIniP) (defBody sIniP) (defScope sIniP) [] [] (He.ma K (ga K "ParseError") "__init__") fd)
    (F2 : ∃ fd, FunD K "__init__" ("InvalidNumber" ++ ".__init__") (defArgs sIniN) (defBody sIniN) (defScope sIniN) [] [] (He.ma K (ga K "InvalidNumber") "__init__") fd) :
    Ex K mg := by
  unfold allB at h
  simp only [Bool.and_eq_true] at h
  obtain ⟨p1, p3, p4, as, k1, k2, ex⟩ := h
  rw [List.all_eq_true] at ex
  exact {
    mv := plain_ok g1 p1
    rw := plain_ok g3 p3
    ks := plain_ok g4 p4
    ask := ask_ok as
    mark := g5
    ie := ie
    par := kep_ok g6 k1 (PySem.HandSPX.Bs.of PySem.F.excBase_ValueError) PySem.F.store_ValueError F1
    num := kep_ok g7 k2 (PySem.HandSPX.Bs.of PySem.F.excBase_IndexError) PySem.F.store_IndexError F2
    exm := fun i hi j hj => of_decide_eq_true ((List.all_eq_true.mp (ex i (List.mem_range.mpr hi))) j (List.mem_range.mpr (by omega))) }
end K84

set_option Elab.async false
set_option linter.all false
set_option maxRecDepth 100000
set_option maxHeartbeats 0
namespace K84
open PySem PySem.Spec PyProof.Rows L2 MM LamX
theorem law_def {P : Program} {w : World} {K : PySem.W.Frag} {mg : Str → Option Value} {base : Heap} (T : Tx K mg) (Y : Ex K mg) : Def P w K mg base (L2.CX P w) 10 "law" ["_law_script"] (spLaw K) := by
  have DBagL := dBagL (P := P) (w := w) (base := base) T 
  have DGrabL := dGrabL (P := P) (w := w) (base := base) T 
  have DOneOfL := dOneOfL (P := P) (w := w) (base := base) T DGrabL
  have DIsWhole := dIsWhole (P := P) (w := w) (base := base) T 
  have DIsInteger := dIsInteger (P := P) (w := w) (base := base) T DIsWhole
  have DIsBetween := dIsBetween (P := P) (w := w) (base := base) T DIsWhole
  have DNeedBetween := dNeedBetween (P := P) (w := w) (base := base) T DIsBetween
  have DIsAt := dIsAt (P := P) (w := w) (base := base) T 
  have DIsDigitAt := dIsDigitAt (P := P) (w := w) (base := base) T 
  have BReadPlain := bReadPlain (P := P) (w := w) (base := base) T Y DIsDigitAt DIsAt
  have BNeedText := bNeedText (P := P) (w := w) (base := base) T Y 
  have BBehind := bBehind (P := P) (w := w) (base := base) T Y DIsAt
  have BReadLess := bReadLess (P := P) (w := w) (base := base) T Y DIsAt
  have BReadSigned := bReadSigned (P := P) (w := w) (base := base) T Y BReadLess BReadPlain
  have BReadRow := bReadRow (P := P) (w := w) (base := base) T Y BNeedText BReadSigned BBehind
  have BReadTerm := bReadTerm (P := P) (w := w) (base := base) T Y DIsAt BReadPlain BBehind
  have BReadTerms := bReadTerms (P := P) (w := w) (base := base) T Y DIsAt BReadLess BReadTerm BBehind
  have BNeedBetween := bNeedBetween (P := P) (w := w) (base := base) T Y DIsBetween
  have BReadKinds := bReadKinds (P := P) (w := w) (base := base) T Y DIsInteger BNeedText BNeedBetween BReadTerms
  have DNeedPlaces := dNeedPlaces (P := P) (w := w) (base := base) T DNeedBetween
  have DNeedRings := dNeedRings (P := P) (w := w) (base := base) T DIsBetween
  have DMoveOfCycles := dMoveOfCycles (P := P) (w := w) (base := base) T DNeedPlaces DNeedRings
  have BReadRing := bReadRing (P := P) (w := w) (base := base) T Y DIsAt BReadPlain BBehind
  have BReadRings := bReadRings (P := P) (w := w) (base := base) T Y DIsAt BReadRing
  have BMoveOf := bMoveOf (P := P) (w := w) (base := base) T Y DMoveOfCycles
  have BReadMove := bReadMove (P := P) (w := w) (base := base) T Y DNeedPlaces BNeedText BReadRings BMoveOf
  have DCyclesL := dCyclesL (P := P) (w := w) (base := base) T 
  have DMoveDrawnL := dMoveDrawnL (P := P) (w := w) (base := base) T DGrabL
  have DIsArrangement := dIsArrangement (P := P) (w := w) (base := base) T DIsBetween
  have DNeedMove := dNeedMove (P := P) (w := w) (base := base) T DIsArrangement
  have DCyclesU := dCyclesU (P := P) (w := w) (base := base) T 
  have DCycles := dCycles (P := P) (w := w) (base := base) T DNeedMove DCyclesU
  have DMixedL := dMixedL (P := P) (w := w) (base := base) T DGrabL
  have DAreMembers := dAreMembers (P := P) (w := w) (base := base) T DIsInteger
  have DTerm := dTerm (P := P) (w := w) (base := base) T 
  have DWriteRow := dWriteRow (P := P) (w := w) (base := base) T DAreMembers
  have DWriteKinds := dWriteKinds (P := P) (w := w) (base := base) T DAreMembers DTerm
  have DKindsTextL := dKindsTextL (P := P) (w := w) (base := base) T 
  have DWriteMove := dWriteMove (P := P) (w := w) (base := base) T DCycles
  have DMoveTextL := dMoveTextL (P := P) (w := w) (base := base) T DCyclesL
  have DPowerL := dPowerL (P := P) (w := w) (base := base) T DCyclesL
  have DNumberL := dNumberL (P := P) (w := w) (base := base) T DGrabL DOneOfL
  have BRowsRightL := bRowsRightL (P := P) (w := w) (base := base) T Y DOneOfL DGrabL DNumberL DWriteRow BReadRow
  have BMovesRightL := bMovesRightL (P := P) (w := w) (base := base) T Y DGrabL DMoveDrawnL DPowerL DOneOfL DMoveTextL DWriteMove DMixedL DCyclesL BReadMove
  have DTermsTextL := dTermsTextL (P := P) (w := w) (base := base) T DGrabL
  have BKindsRightL := bKindsRightL (P := P) (w := w) (base := base) T Y DOneOfL DGrabL DNumberL DKindsTextL DWriteKinds DMixedL DTermsTextL BReadKinds
  exact bLaw T Y DBagL DWriteRow DWriteMove DWriteKinds BKindsRightL BRowsRightL BMovesRightL BReadRow BReadMove BReadKinds
theorem tx {K : PySem.W.Frag} {h : Heap} {mg : Str → Option Value} (X : K.In h) (G : h.Ns mainGlobals mg) (c : He.SaysD fa fn K) (ez : ex K = true) : Tx K mg := by
  have e := (He.ba ez).2
  exact {
    t_is_whole := ⟨c.def_ 0 rfl, He.glo_ok X G (c.fact 0 rfl)⟩
    t_is_integer := ⟨c.def_ 1 rfl, He.glo_ok X G (c.fact 1 rfl)⟩
    t_is_between := ⟨c.def_ 2 rfl, He.glo_ok X G (c.fact 2 rfl)⟩
    t_need_between := ⟨c.def_ 3 rfl, He.glo_ok X G (c.fact 3 rfl)⟩
    t_is_arrangement := ⟨c.def_ 4 rfl, He.glo_ok X G (c.fact 4 rfl)⟩
    t_need_places := ⟨c.def_ 5 rfl, He.glo_ok X G (c.fact 5 rfl)⟩
    t_need_move := ⟨c.def_ 6 rfl, He.glo_ok X G (c.fact 6 rfl)⟩
    t_cyclesU := ⟨c.def_ 7 rfl, He.glo_ok X G (c.fact 7 rfl)⟩
    t_cycles := ⟨c.def_ 8 rfl, He.glo_ok X G (c.fact 8 rfl)⟩
    t_need_rings := ⟨c.def_ 9 rfl, He.glo_ok X G (c.fact 9 rfl)⟩
    t_move_of_cycles := ⟨c.def_ 10 rfl, He.glo_ok X G (c.fact 10 rfl)⟩
    t_need_text := ⟨c.def_ 11 rfl, He.glo_ok X G (c.fact 11 rfl)⟩
    t_is_at := ⟨c.def_ 12 rfl, He.glo_ok X G (c.fact 12 rfl)⟩
    t_behind := ⟨c.def_ 13 rfl, He.glo_ok X G (c.fact 13 rfl)⟩
    t_is_digit_at := ⟨c.def_ 14 rfl, He.glo_ok X G (c.fact 14 rfl)⟩
    t_read_plain := ⟨c.def_ 15 rfl, He.glo_ok X G (c.fact 15 rfl)⟩
    t_read_less := ⟨c.def_ 16 rfl, He.glo_ok X G (c.fact 16 rfl)⟩
    t_read_ring := ⟨c.def_ 17 rfl, He.glo_ok X G (c.fact 17 rfl)⟩
    t_read_rings := ⟨c.def_ 18 rfl, He.glo_ok X G (c.fact 18 rfl)⟩
    t_move_of := ⟨c.def_ 19 rfl, He.glo_ok X G (c.fact 19 rfl)⟩
    t_write_move := ⟨c.def_ 20 rfl, He.glo_ok X G (c.fact 20 rfl)⟩
    t_read_move := ⟨c.def_ 21 rfl, He.glo_ok X G (c.fact 21 rfl)⟩
    t_are_members := ⟨c.def_ 22 rfl, He.glo_ok X G (c.fact 22 rfl)⟩
    t_write_row := ⟨c.def_ 23 rfl, He.glo_ok X G (c.fact 23 rfl)⟩
    t_read_signed := ⟨c.def_ 24 rfl, He.glo_ok X G (c.fact 24 rfl)⟩
    t_read_row := ⟨c.def_ 25 rfl, He.glo_ok X G (c.fact 25 rfl)⟩
    t_term := ⟨c.def_ 26 rfl, He.glo_ok X G (c.fact 26 rfl)⟩
    t_write_kinds := ⟨c.def_ 27 rfl, He.glo_ok X G (c.fact 27 rfl)⟩
    t_read_term := ⟨c.def_ 28 rfl, He.glo_ok X G (c.fact 28 rfl)⟩
    t_read_terms := ⟨c.def_ 29 rfl, He.glo_ok X G (c.fact 29 rfl)⟩
    t_read_kinds := ⟨c.def_ 30 rfl, He.glo_ok X G (c.fact 30 rfl)⟩
    t_law_bag := ⟨c.def_ 31 rfl, He.glo_ok X G (c.fact 31 rfl)⟩
    t_law_grab := ⟨c.def_ 32 rfl, He.glo_ok X G (c.fact 32 rfl)⟩
    t_law_one_of := ⟨c.def_ 33 rfl, He.glo_ok X G (c.fact 33 rfl)⟩
    t_law_mixed := ⟨c.def_ 34 rfl, He.glo_ok X G (c.fact 34 rfl)⟩
    t_law_cycles := ⟨c.def_ 35 rfl, He.glo_ok X G (c.fact 35 rfl)⟩
    t_law_power := ⟨c.def_ 36 rfl, He.glo_ok X G (c.fact 36 rfl)⟩
    t_law_move_drawn := ⟨c.def_ 37 rfl, He.glo_ok X G (c.fact 37 rfl)⟩
    t_law_move_text := ⟨c.def_ 38 rfl, He.glo_ok X G (c.fact 38 rfl)⟩
    t_law_kinds_text := ⟨c.def_ 39 rfl, He.glo_ok X G (c.fact 39 rfl)⟩
    t_law_number := ⟨c.def_ 40 rfl, He.glo_ok X G (c.fact 40 rfl)⟩
    t_law_moves_right := ⟨c.def_ 41 rfl, He.glo_ok X G (c.fact 41 rfl)⟩
    t_law_rows_right := ⟨c.def_ 42 rfl, He.glo_ok X G (c.fact 42 rfl)⟩
    t_law_terms_text := ⟨c.def_ 43 rfl, He.glo_ok X G (c.fact 43 rfl)⟩
    t_law_kinds_right := ⟨c.def_ 44 rfl, He.glo_ok X G (c.fact 44 rfl)⟩
    t_law := ⟨c.def_ 45 rfl, He.glo_ok X G (c.fact 45 rfl)⟩
    f_IndexError := He.free_ok X G (c.fact 46 rfl)
    f_abs := He.free_ok X G (c.fact 47 rfl)
    f_all := He.free_ok X G (c.fact 48 rfl)
    f_bool := He.free_ok X G (c.fact 49 rfl)
    f_enumerate := He.free_ok X G (c.fact 50 rfl)
    f_int := He.free_ok X G (c.fact 51 rfl)
    f_isinstance := He.free_ok X G (c.fact 52 rfl)
    f_len := He.free_ok X G (c.fact 53 rfl)
    f_list := He.free_ok X G (c.fact 54 rfl)
    f_max := He.free_ok X G (c.fact 55 rfl)
    f_min := He.free_ok X G (c.fact 56 rfl)
    f_range := He.free_ok X G (c.fact 57 rfl)
    f_set := He.free_ok X G (c.fact 58 rfl)
    f_str := He.free_ok X G (c.fact 59 rfl)
    f_sum := He.free_ok X G (c.fact 60 rfl)
    f_tuple := He.free_ok X G (c.fact 61 rfl)
    c_TOO_LONG := by
      obtain ⟨t, e⟩ := He.int_ok X G (c.fact 62 rfl)
      exact ⟨_, e, t, rfl⟩
    c_MAX_PLACES := by
      obtain ⟨t, e⟩ := He.int_ok X G (c.fact 63 rfl)
      exact ⟨_, e, t, rfl⟩
    c_MOST_SIGNS := by
      obtain ⟨t, e⟩ := He.int_ok X G (c.fact 64 rfl)
      exact ⟨_, e, t, rfl⟩
    c_MOST_MEMBERS := by
      obtain ⟨t, e⟩ := He.int_ok X G (c.fact 65 rfl)
      exact ⟨_, e, t, rfl⟩
    c_DIGITS := by
      obtain ⟨t, e⟩ := He.str_ok X G (c.fact 66 rfl)
      exact ⟨_, e, t, rfl⟩
    c_MOST_DIGITS := by
      obtain ⟨t, e⟩ := He.int_ok X G (c.fact 67 rfl)
      exact ⟨_, e, t, rfl⟩
    }
theorem exs {K : PySem.W.Frag} {h : Heap} {mg : Str → Option Value} (X : K.In h) (G : h.Ns mainGlobals mg) (c : He.SaysD fa fn K) (e : ex K = true) : Ex K mg :=
  ex_ok (He.ba e).1 (He.glo_ok X G (c.fact 68 rfl)) (He.glo_ok X G (c.fact 69 rfl)) (He.glo_ok X G (c.fact 70 rfl)) (He.glo_ok X G (c.fact 71 rfl)) (He.glo_ok X G (c.fact 72 rfl)) (He.glo_ok X G (c.fact 73 rfl)) (tx X G c e).f_IndexError (c.def_ 46 rfl) (c.def_ 47 rfl)
theorem law_ends {P : Program} {w : World} {K : PySem.W.Frag} {h : Heap} {mg : Str → Option Value} {f : Addr} (X : K.In h) (G : h.Ns mainGlobals mg) (hfa : mg ("law" : Str) = some (.ref f)) (c : He.SaysD fa fn K) (e : ex K = true) :
    ∃ fd : FuncData, (∀ (s : Shared) (v : Value), BindsTo s fd ⟨[v], []⟩ [("_law_script", v)]) ∧ ∀ base : Heap, K.In base → base.Ns mainGlobals mg → (∀ p ∈ cs K, TabB base mg p.1 p.2) → FnG P w K mg base (L2.CX P w) 10 f fd ["_law_script"] (spLaw K) := by
  have T : Tx K mg := tx X G c e
  have Y := exs X G c e
  obtain ⟨fd, F⟩ := T.t_law.fn
  have b := FunD.bindsA (ps := ["_law_script"]) F fun _ _ _ _ _ _ us hl => match us, hl with | [_], _ => rfl
  refine ⟨fd, fun s v => b s [v] rfl, fun base _ _ tb => ?_⟩
  obtain ⟨oc, od, _, _, _, _, _, _, _, osl, _, lk, _⟩ := F.ex
  obtain ⟨f2, fd2, F2, hm, _, _, oc2, od2, sl2, lk2⟩ := law_def (P := P) (w := w) (base := base) T Y
  have e1 : f2 = f := by
    rw [hfa] at hm
    injection hm with hm
    injection hm with hm
    exact hm.symm
  have e2 : He.ga K "law" = f := by
    have g := T.t_law.glo
    rw [hfa] at g
    injection g with g
    injection g with g
    exact g.symm
  subst e1
  rw [e2] at lk
  rw [lk] at lk2
  injection lk2 with lk2
  injection lk2 with z1 z2 z3 z4
  injection z3 with z3
  subst z3
  exact F2
end K84

set_option Elab.async false
set_option linter.all false
set_option maxRecDepth 100000
set_option maxHeartbeats 0
namespace K84
open PySem PySem.Spec PyProof.Rows L2 MM
end K84
open PySem PySem.W PySem.Calls PyProof.Rows
theorem PySem.Challenge.cw_movemarks_k84_whole_texts_there_and_back_holds : PySem.Challenge.rw_movemarks_k84_whole_texts_there_and_back.Holds := by
  w_on; o_law
  refine HandSHeadRun.head_imp (r := OpenLaw.row PySem.Challenge.rw_movemarks_k84_whole_texts_there_and_back) (q := view (OpenLaw.row PySem.Challenge.rw_movemarks_k84_whole_texts_there_and_back).prog [63]) (H := K84.hk) (ob := K84.ob) (M := 20000) (loose := K84.names)
    (d := HandSHeadRun.topDef (OpenLaw.row PySem.Challenge.rw_movemarks_k84_whole_texts_there_and_back).prog 63) (kwd := []) K84.ob_eq K84.run9 (by kernel_rfl) (by kernel_rfl) (by kernel_rfl) (by rfl) (by first | assumption | decide +kernel) (by decide +kernel) ⟨rfl, rfl, rfl, rfl, rfl, by decide +kernel⟩ ?hw ?hc
  case hw => w_witness2
  case hc =>
    refine ME.walk_tab (l := PySem.Challenge.rw_movemarks_k84_whole_texts_there_and_back) (n := 63) (k := 10) (x := "_law_script") (CX := fun w => L2.CX (PySem.Challenge.rw_movemarks_k84_whole_texts_there_and_back).prog w) rfl (by decide) (by kernel_rfl) ⟨⟨rfl, by decide, by decide⟩, rfl⟩ ?F (fun _ _ _ _ _ ⟨_, _, _, _, _, _, _, _, _, _, _, _, z⟩ => z)
    intro w mg fa h Y G hmg0
    obtain ⟨K, KX, c⟩ := Y
    have hmg : mg ("law" : PySem.Str) = some (.ref fa) := by
      have e : (HandSHeadRun.topDef (OpenLaw.row PySem.Challenge.rw_movemarks_k84_whole_texts_there_and_back).prog 63).name = ("law" : PySem.Str) := by kernel_rfl
      rw [← e]
      exact hmg0
    obtain ⟨fd, hb, hF⟩ := K84.law_ends (P := (PySem.Challenge.rw_movemarks_k84_whole_texts_there_and_back).prog) (w := w) KX G hmg c.t.d c.more
    refine ⟨K, fd, K84.spLaw K, [], KX, (fun p hp => (by cases hp)), (fun p hp => (by cases hp)), (fun p hp => (by cases hp)), hb, fun H a ns hl ht hS => ?_, hF⟩
    exact ⟨a, ns, rfl, hS, by omega, fun _ => rfl⟩
