import PyProof.Rows.All
import Wide.All
import OpenK.AllK
import Wide.FinOn
import HandS.Words
import HandS.ExcField
import KE.KExcInit
import HandS.ExcInit
import HandS.ExcValue
import HandS.Head0
import HandS.Head1
import HandS.Head2
import HandS.Head3
import HandS.Head4
import HandS.HeadEnd
import HandS.HeadHook1
import HandS.HeadHook2
import HandS.HeadHook3
import HandS.HeadHook4
import KE.KStateDown
import KE.KNestM
import HandS.ForMost
import HandS.Exc
import HandS.Defaults
import HandS.More
import HandS.Flow
import HandS.Wide
import HandS.IsInst
import HandS.Codes
import HandS.Conv
import HandS.SortInts
import HandS.TupAny
import HandS.TupMul
import HandS.DictComp
import HandS.Style
import HandS.Small
import PyProof.ReprRoads
import HandS.Gcd
import PyProof.Rows.RuleB_pow
import KE.GoesEnum
import HandS.Iter
import HandS.Set
import HandS.SetFor
import HandS.Strs
import KE.SortKeyHeap
import HandS.SortKw
import HandS.Zip
import HandS.TryMany
import HandS.Lambda
import HandS.EndTab
import KE.GoesMore
import HandS.Walk
import HandS.RaiseMore
import KE.KExcIs
import PyProof.StrOps2
import HandS.HotCalls
import PyProof.Rows.FactsExc_KeyError
import HandS.ExcBuiltin
import HandS.Text
import KE.IntTextLaws
import HandS.GenList
import HandS.GenYield
import PySem.Challenge.RW_movemarks_k87_errors_of_texts
set_option Elab.async false
set_option linter.all false
set_option maxRecDepth 100000
set_option maxHeartbeats 0
namespace K87
open PySem PySem.Spec PyProof.Rows L2
def topS (i : Nat) : Stmt := PySem.Challenge.pw_movemarks_k87_errors_of_texts.main.body.getD i (.Pass ⟨0, 0, 0, 0⟩)
abbrev sWall : Stmt := topS 0
abbrev sIsWhole : Stmt := topS 13
abbrev sIsInteger : Stmt := topS 14
abbrev sIsBetween : Stmt := topS 15
abbrev sNeedBetween : Stmt := topS 16
abbrev sIsArrangement : Stmt := topS 19
abbrev sNeedPlaces : Stmt := topS 20
abbrev sIsMove : Stmt := topS 21
abbrev sNeedMove : Stmt := topS 22
abbrev sFollowed : Stmt := topS 23
abbrev sCyclesU : Stmt := topS 24
abbrev sCycles : Stmt := topS 25
abbrev sNeedRings : Stmt := topS 26
abbrev sMoveOfCycles : Stmt := topS 27
abbrev sWordsOf : Stmt := topS 29
abbrev sTableRow : Stmt := topS 30
abbrev sTableOf : Stmt := topS 31
abbrev sUndoingOf : Stmt := topS 32
abbrev sBodyWith : Stmt := topS 33
abbrev sTurnedBody : Stmt := topS 34
abbrev sFamilyOf : Stmt := topS 35
abbrev sPowersOf : Stmt := topS 36
abbrev sIsPrimePower : Stmt := topS 37
abbrev sSingleMakers : Stmt := topS 38
abbrev sFamiliesOf : Stmt := topS 39
abbrev sMaskOf : Stmt := topS 40
abbrev sInOrder : Stmt := topS 41
abbrev sNeedMakers : Stmt := topS 48
abbrev sNeedGroup : Stmt := topS 50
abbrev sManyAbove : Stmt := topS 52
abbrev sLiesTable : Stmt := topS 53
abbrev sKeeperIndices : Stmt := topS 55
abbrev sMarkTable : Stmt := topS 56
abbrev sNeedText : Stmt := topS 62
abbrev sIsAt : Stmt := topS 63
abbrev sBehind : Stmt := topS 64
abbrev sIsDigitAt : Stmt := topS 65
abbrev sReadPlain : Stmt := topS 66
abbrev sReadLess : Stmt := topS 67
abbrev sReadRing : Stmt := topS 68
abbrev sReadRings : Stmt := topS 69
abbrev sMoveOf : Stmt := topS 70
abbrev sWriteMove : Stmt := topS 71
abbrev sReadMove : Stmt := topS 72
abbrev sWriteGroup : Stmt := topS 73
abbrev sReadGroup : Stmt := topS 74
abbrev sAreMembers : Stmt := topS 75
abbrev sWriteRow : Stmt := topS 76
abbrev sReadSigned : Stmt := topS 77
abbrev sReadRow : Stmt := topS 78
abbrev sTerm : Stmt := topS 79
abbrev sWriteKinds : Stmt := topS 80
abbrev sReadTerm : Stmt := topS 81
abbrev sReadTerms : Stmt := topS 82
abbrev sReadKinds : Stmt := topS 83
abbrev sTableLines : Stmt := topS 84
abbrev sBagL : Stmt := topS 86
abbrev sGrabL : Stmt := topS 87
abbrev sOneOfL : Stmt := topS 88
abbrev sWordL : Stmt := topS 89
abbrev sWrittenRightL : Stmt := topS 90
abbrev sReadRightL : Stmt := topS 91
abbrev sLaw : Stmt := topS 92
abbrev ga (K : PySem.W.Frag) (x : Str) : Addr := He.ga K x
abbrev veTop : List Value := [.type "ValueError", .type "Exception", .type "BaseException", .type "object"]
abbrev ieTop : List Value := [.type "IndexError", .type "LookupError", .type "Exception", .type "BaseException", .type "object"]
def plainB (K : PySem.W.Frag) (x : Str) : Bool :=
  PySem.W.keepIn K (.ref (ga K x)) && PySem.W.excIn K (ga K x) veTop "ValueError.__new__" &&
    decide (PySem.W.subIn K (.ref (ga K x)) (.type "BaseException") = some true) &&
    decide (PySem.W.typeIn K (.ref (ga K x)) = some (.type "type"))
def inClass (s : Stmt) : Stmt := match s with
  | .ClassDef _ _ _ b _ _ _ _ _ _ _ => b.getD 0 (.Pass ⟨0, 0, 0, 0⟩)
  | _ => .Pass ⟨0, 0, 0, 0⟩
abbrev sIniP : Stmt := inClass (topS 8)
abbrev sIniN : Stmt := inClass (topS 9)
def cns : List Str := (["InvalidMove", "InvalidGroup", "InvalidRow", "InvalidKinds", "ParseError", "InvalidNumber"] : List String).map PySem.Str.ofString
/-- the name of the i-th class that is caught -/
def cn (i : Nat) : Str := cns.getD i ""
abbrev sNr : Str := "_law_written_right"
abbrev sTr : Str := "_law_read_right"
abbrev sLw : Str := "law"
abbrev cd1 (K : PySem.W.Frag) : Addr × Addr := He.cT K (sNr, none)
abbrev cd2 (K : PySem.W.Frag) : Addr × Addr := He.cT K (sTr, none)
abbrev cd3 (K : PySem.W.Frag) : Addr × Addr := He.cT K (sLw, none)
/-- the row of a class with a field, asked -/
def kepRow (K : PySem.W.Frag) (C : Addr) (top : List Value) (newId : String) : Bool :=
  match K.lookup C with
  | some ⟨.type "type", _, .cls cd, sl⟩ =>
    (match cd.mro with
     | .ref C' :: bm => decide (C' = C) && PySem.W.excTail top bm
     | _ => false) && (match sl.toList with
     | [_, _, _, _, some (.builtin n), _] => decide (n = newId)
     | _ => false) && !cd.hasDel && cd.hasDict
  | _ => false
def kepB (K : PySem.W.Frag) (x f : Str) (top : List Value) (newId : String) : Bool :=
  kepRow K (ga K x) top newId && decide (PySem.W.findIn K (.ref (ga K x)) "__setattr__" = some (some (.builtin "object.__setattr__"))) &&
    decide (PySem.W.subIn K (.ref (ga K x)) (.type "BaseException") = some true) &&
    decide (PySem.W.typeIn K (.ref (ga K x)) = some (.type "type")) && PySem.W.keepIn K (.ref (ga K x)) &&
    decide (PySem.W.findIn K (.ref (ga K x)) f = some none) && xfB K (ga K x) &&
    decide (PySem.W.findIn K (.ref (ga K x)) "__init__" = some (some (.ref (He.ma K (ga K x) "__init__")))) &&
    decide (PySem.W.typeIn K (.ref (He.ma K (ga K x) "__init__")) = some (.type "function"))
def askB (K : PySem.W.Frag) : Bool :=
  decide (PySem.W.specialIn K (.ref (ga K "MarkError")) "__getattribute__" = some (some (.builtin "type.__getattribute__"))) &&
    PySem.W.readsIn K (ga K "MarkError") (.type "type") &&
    (match PySem.W.findCls K (.ref (ga K "MarkError")) (.type "type") "__init__" with
     | some (.val (.builtin n)) => decide (n = "ValueError.__init__")
     | _ => false)
def kns : List String := ["NoneType", "bool", "int", "str", "list", "tuple", "dict"]
def allB (K : PySem.W.Frag) : Bool :=
  plainB K "InvalidMove" && (plainB K "InvalidGroup" && (plainB K "InvalidRow" && (plainB K "InvalidKinds" && (askB K && (kepB K "ParseError" "index" veTop "ValueError.__new__" && (kepB K "InvalidNumber" "given" ieTop "IndexError.__new__" &&
    (((List.range 6).all fun i => (List.range (i + 1)).all fun j => decide (PySem.W.exmOne K (.ref (ga K (cn i))) (.ref (ga K (cn j))) = some (decide (i = j)))) &&
    (decide (PySem.W.subIn K (.ref (ga K "InvalidGroup")) (.type "StopIteration") = some false) &&
    ((kns.all fun n => decide (PySem.W.kitOne K (.type n) (.ref (ga K "Group")) = some false)) &&
    (decide ((cd1 K).2 ≠ (cd2 K).2) && (decide ((cd1 K).2 ≠ (cd3 K).2) && decide ((cd2 K).2 ≠ (cd3 K).2))))))))))))
def di (x : Str) (st : Stmt) : He.DefD := ⟨(x, some "__init__"), "__init__", x ++ ".__init__", defArgs st, defBody st, defScope st, [], []⟩
def dd (x : Str) (st : Stmt) : He.DefD := ⟨(x, none), x, x, defArgs st, defBody st, defScope st, [], []⟩
def fn : List He.DefD := [dd "is_whole" sIsWhole, dd "is_integer" sIsInteger, dd "is_between" sIsBetween, dd "need_between" sNeedBetween, dd "is_arrangement" sIsArrangement, dd "need_places" sNeedPlaces, dd "_need_move" sNeedMove, dd "cycles" sCycles, dd "need_group" sNeedGroup, dd "_need_text" sNeedText, dd "_is_at" sIsAt, dd "_behind" sBehind, dd "_is_digit_at" sIsDigitAt, dd "_read_plain" sReadPlain, dd "_read_less" sReadLess, dd "write_move" sWriteMove, dd "read_move" sReadMove, dd "write_group" sWriteGroup, dd "read_group" sReadGroup, dd "_are_members" sAreMembers, dd "write_row" sWriteRow, dd "_read_signed" sReadSigned, dd "read_row" sReadRow, dd "write_kinds" sWriteKinds, dd "_read_term" sReadTerm, dd "_read_terms" sReadTerms, dd "read_kinds" sReadKinds, dd "table_lines" sTableLines, dd "_law_bag" sBagL, dd "_law_grab" sGrabL, dd "_law_one_of" sOneOfL, dd "_law_word" sWordL, dd "_law_written_right" sWrittenRightL, dd "_law_read_right" sReadRightL, dd "law" sLaw, di "ParseError" sIniP, di "InvalidNumber" sIniN]
def fa : List He.Fa := [.glo "is_whole", .glo "is_integer", .glo "is_between", .glo "need_between", .glo "is_arrangement", .glo "need_places", .glo "_need_move", .glo "cycles", .glo "need_group", .glo "_need_text", .glo "_is_at", .glo "_behind", .glo "_is_digit_at", .glo "_read_plain", .glo "_read_less", .glo "write_move", .glo "read_move", .glo "write_group", .glo "read_group", .glo "_are_members", .glo "write_row", .glo "_read_signed", .glo "read_row", .glo "write_kinds", .glo "_read_term", .glo "_read_terms", .glo "read_kinds", .glo "table_lines", .glo "_law_bag", .glo "_law_grab", .glo "_law_one_of", .glo "_law_word", .glo "_law_written_right", .glo "_law_read_right", .glo "law", .free "IndexError", .free "abs", .free "all", .free "bool", .free "int", .free "isinstance", .free "len", .free "list", .free "max", .free "min", .free "range", .free "repr", .free "set", .free "str", .free "sum", .free "tuple", .int "_TOO_LONG" (10 ^ 60), .int "MAX_PLACES" (24), .int "MOST_SIGNS" (3000), .int "MOST_MEMBERS" (60), .str "_DIGITS" "0123456789", .int "_MOST_DIGITS" (60), .glo "InvalidMove", .glo "InvalidGroup", .glo "InvalidRow", .glo "InvalidKinds", .glo "MarkError", .glo "ParseError", .glo "InvalidNumber", .glo "Group"]
def ex (K : PySem.W.Frag) : Bool := allB K && (true)
abbrev tf : List He.Defn := [(sNr, none), (sTr, none), (sLw, none)]
abbrev cs (K : PySem.W.Frag) : List (Addr × Addr) := [cd1 K, cd2 K, cd3 K]
abbrev R : PySem.W.OpenRow := PySem.W.OpenLaw.row PySem.Challenge.rw_movemarks_k87_errors_of_texts
/-- the addresses that the head's facts look at -/
def asL : List Addr := [2, 3, 31, 44, 56, 68, 80, 111, 130, 160, 167, 174, 181, 186, 193, 207, 226, 514, 525, 552, 559, 566, 573, 580, 587, 611, 618, 623, 628, 633, 638, 645, 652, 666, 673, 680, 685, 690, 697, 704, 711, 718, 725, 732, 739, 30, 43, 55, 67, 79, 110, 129, 159, 166, 173, 180, 185, 192, 206, 225, 524, 551, 558, 565, 572, 579, 586, 610, 617, 622, 627, 632, 637, 644, 651, 665, 672, 679, 684, 689, 696, 703, 710, 717, 724, 731, 738, 108, 127, 107, 126]
abbrev KS (g : Addr → Option Obj) : PySem.W.Frag := He.frT g asL
def obsS (g : Addr → Option Obj) : He.AlX := (He.obsT fa fn [] (KS g), ex (KS g) && He.tabsB g tf (KS g))
theorem saysS {w : World} {h : Heap} (e : obsS h.get? = He.valX fn [] w) : He.SaysX fa fn [] tf ex w h (KS h.get?) := by
  obtain ⟨e1, e2⟩ := Prod.mk.inj e
  obtain ⟨h1, h2⟩ := He.ba e2
  rw [He.tabsB, List.all_eq_true] at h2
  refine ⟨e1, h1, fun p hp => (He.ba (h2 p hp)).1, fun p hp => ?_, fun p hp => ?_⟩
  all_goals
    have z := (He.ba (h2 p hp)).2
    split at z
    case h_2 => cases z
    rename_i o q
  · exact He.frT_none q z
  · rw [q, He.emptyTab_eq z]
def hk : PySem.W.Hook where
  α := He.AlX
  obs := fun s => obsS s.heap.get?
  val := fun w => He.valX fn [] w
  says := fun w h => ∃ K : PySem.W.Frag, K.In h ∧ He.SaysX fa fn [] tf ex w h K
  of := fun w s e => ⟨KS s.heap.get?, He.frT_in, saysS e⟩
  keeps := fun _ _ _ z k => by
    obtain ⟨K, hK, c⟩ := z
    exact ⟨K, PySem.W.Frag.In.keeps hK k, ⟨c.t, c.more, c.hd, c.out, fun p hp => k _ _ (c.empty p hp)⟩⟩
def ob (s : PySem.W.SharedT) : He.AlX := obsS (HandSHeadRun.getT s)
theorem ob_eq (s : PySem.W.SharedT) : ob s = hk.obs s.abs := by
  have e : HandSHeadRun.getT s = s.abs.heap.get? := funext (HandSHeadRun.getT_eq s)
  unfold ob
  rw [e]
  rfl
def names : List PySem.Str := (["_wall", "MarkError", "InvalidMove", "InvalidGroup", "InvalidRow", "InvalidKinds", "InvalidOperation", "ParseError", "InvalidNumber", "TooMany", "_TOO_LONG", "is_whole", "is_integer", "is_between", "need_between", "MAX_PLACES", "is_arrangement", "need_places", "is_move", "_need_move", "followed", "_cycles", "cycles", "_need_rings", "move_of_cycles", "words_of", "_table_row", "table_of", "undoing_of", "body_with", "turned_body", "_family_of", "powers_of", "_is_prime_power", "_single_makers", "families_of", "mask_of", "in_order", "Lattice", "MAX_ORDER", "MAX_SUBGROUPS", "MAX_CLASSES", "MAX_MAKERS", "_need_makers", "Group", "need_group", "many_above", "lies_table", "keeper_indices", "mark_table", "MOST_SIGNS", "MOST_MEMBERS", "_DIGITS", "_MOST_DIGITS", "_need_text", "_is_at", "_behind", "_is_digit_at", "_read_plain", "_read_less", "_read_ring", "_read_rings", "_move_of", "write_move", "read_move", "write_group", "read_group", "_are_members", "write_row", "_read_signed", "read_row", "_term", "write_kinds", "_read_term", "_read_terms", "read_kinds", "table_lines", "_law_bag", "_law_grab", "_law_one_of", "_law_word", "_law_written_right", "_law_read_right"] : List String).map PySem.Str.ofString
theorem run9 (w : World) : HandSHeadRun.RunEqI R (PySem.W.view R.prog [92]) hk ob 20000 names w := by
  unfold HandSHeadRun.RunEqI
  kernel_rfl
end K87

set_option Elab.async false
set_option maxRecDepth 100000
set_option maxHeartbeats 2000000
set_option linter.all false
namespace MM
open PySem PySem.Spec PyProof.Rows L2

/-! room, with nothing under way that is being shown -/
structure Rm (k : Nat) (A : Around) : Prop where
  room : Room k A
  still : A.guards = some []
theorem Rm.le {j k : Nat} {A : Around} (h : Rm k A) (le : j ≤ k) : Rm j A := ⟨h.room.mono le, h.still⟩
theorem Rm.down {k : Nat} {A : Around} {v : Env} (h : Rm (k + 1) A) : Rm k (A.deeper v) := ⟨h.room.deeper v, h.still⟩
theorem Rm.hu {k : Nat} {A : Around} (h : Rm k A) : A.units + 64 < cLine := h.room.units
theorem Rm.hu66 {k : Nat} {A : Around} (h : Rm k A) : A.units + 66 < cLine := by have := h.room.un; omega
theorem Rm.hu1 {k : Nat} {A : Around} (h : Rm k A) : A.units + 1 < cLine := by have := h.room.un; omega

/-- a def keeps its promise wherever nothing is being shown -/
structure FnG (P : Program) (w : World) (K : PySem.W.Frag) (mg : Str → Option Value) (base : Heap)
    (CX : CXT) (k : Nat) (f : Addr) (fd : FuncData) (ps : List Str) (sp : Sp) : Prop where
  arity : ∀ {vs H Q E}, sp vs H Q E → vs.length = ps.length
  runs : ∀ {A : Around} {out : List Env} {s : Shared} {H : Hp} {ar : Args} {us : List Value} {vs : List V} {Q : VK} {E : XK},
    Rm k A → Env0 P w K mg base A out s H → BindsTo s fd ar (ps.zip us) → Vals vs us → sp vs H Q E →
      codeAny (model P w) A (.call (.ref f) ar) (CR CX out P w H s Q E) s

section
variable {P : Program} {w : World} {K : PySem.W.Frag} {mg : Str → Option Value} {base : Heap} {CX : CXT}
  {j k : Nat} {f : Addr} {fd : FuncData} {ps : List Str} {sp : Sp}
theorem FnG.le (F : FnG P w K mg base CX j f fd ps sp) (h : j ≤ k) : FnG P w K mg base CX k f fd ps sp :=
  ⟨F.arity, fun r => F.runs (r.le h)⟩
theorem FnG.of (F : FnOk P w K mg base CX k f fd ps sp) : FnG P w K mg base CX k f fd ps sp :=
  ⟨fun h => F.len _ _ _ _ h, fun r e b v h => F.run _ _ _ _ _ _ _ _ _ r.room e b v h⟩

/-- by its body -/
theorem FnG.body {x qual : Str} {pa : Arguments} {bd : List Stmt} {sc : Scope} {N : List Str}
    (F : FunD K x qual pa bd sc [] [] f fd) (S : FnScope N ps sc)
    (arity : ∀ vs H Q E, sp vs H Q E → vs.length = ps.length)
    (hb : ∀ (cd : Value) (A : Around) (out : List Env) (s : Shared) (H : Hp) (vs : List V) (Q : VK) (E : XK),
      Rm k (A.deeper (envOfC qual sc s.heap.objs.size f cd)) → sp vs H Q E →
      ∃ t, PSs (cxOf CX P w K mg base N qual sc f cd A out s H E) bd t ∧
        t { nx := fun _ H' => Q .non H', rt := Q } (start N vs) H) :
    FnG P w K mg base CX (k + 1) f fd ps sp := by
  obtain ⟨oc, od, dV, kV, doc, pm, an, cd, ct, osl, rfl, lk, hcd, _, _⟩ := F.ex
  refine ⟨fun h => arity _ _ _ _ h, ?_⟩
  intro A out s H ar us vs Q E hr e0 hbd hv h
  have nv := arity _ _ _ _ h
  have inK : K.In s.heap := e0.mod.kin.keeps (fun b o e => (e0.bs b o e).1)
  have nl : s.heap.NoLimit := e0.mod.nolimit.keeps (fun b o e => (e0.bs b o e).1)
  have kd : ∀ y ∈ ps.zip us, sc.names.lookup y.1 = some .local ∨
      (sc.names.lookup y.1 = some .cell ∧ ((cellsFrom (s.heap.objs.size + 1) sc.names []).lookup y.1).isSome = true) := by
    rintro ⟨n, v⟩ hy
    cases S.par n (List.of_mem_zip hy).1 with
    | inl q => exact .inl q
    | inr q => exact .inr ⟨q, PySem.W.cellsFrom_some _ _ _ (.inl q)⟩
  refine codeAny_call_function hr.room.depth (inK _ _ lk) rfl S.co S.gen rfl (PySem.W.codeRec_of inK hcd) (hbd _ _ _ _ ?_)
  refine wpAny_newFunctionEnv_cells S.kind kd (fun env he s1 xc => ?_)
  subst he
  refine ⟨nl.keeps xc.toInCall.keep, codeAny_func ?_⟩
  obtain ⟨t, ht, hq⟩ := hb cd A out s H vs Q E hr.down h
  have I := inv_start (CX := CX) (P := P) (w := w) (qual := qual) (cd := cd) (f := f) (E := E) S hr.room.hd e0 nv hv xc
  refine wpAny_mono (ht.run [] s1 (start N vs) H _ I hq) (fun fl s' hs => ?_) (fun e s' hs => hs)
  cases fl with
  | ret u =>
    obtain ⟨v, σ', H', J, rv, q⟩ := hs
    exact ⟨v, H', J.os, J.bare, J.base, J.hok, rv, q⟩
  | next =>
    obtain ⟨σ', H', J, q⟩ := hs
    exact ⟨.non, H', J.os, J.bare, J.base, J.hok, rfl, q⟩
  | brk =>
    obtain ⟨_, _, _, q⟩ := hs
    exact q.elim
  | cont =>
    obtain ⟨_, _, _, q⟩ := hs
    exact q.elim
end

section
variable {X : Cx} {CX : CXT} {k : Nat} {f : Addr} {fd : FuncData} {ps : List Str} {sp : Sp} {E : XK}
  {x : Str} {p pos : Pos} {e : Expr} {es : List Expr} {t : TA}
theorem call_g {pins : List (Addr × Obj)} {σ : L2.St} {H : Hp} {s : Shared} {Q : VK} {us : List Value} {vs : List V}
    (F : FnG X.prog X.w X.K X.mg X.base CX k f fd ps sp) (hr : Rm k X.A) (hb : Binds X.K fd ps [])
    (hx : Passes CX X E) (I : Inv X pins σ H s) (r : Vals vs us) (h : sp vs H Q E) :
    wpAny (model X.prog X.w) X.A (call (.ref f) us) (EP X pins σ Q) X.xe s := by
  have nl : (us ++ []).length = ps.length := by
    rw [List.append_nil, ← r.length]
    exact F.arity h
  have bd := hb s us I.kIn nl
  rw [List.append_nil] at bd
  refine wpAny_call (codeAny_mono (F.runs hr I.env0 bd r h) ?_)
  intro res s' hq
  cases res with
  | error e => exact hx pins σ H s e s' I hq
  | ok fl =>
    cases fl with
    | ret u => exact I.after hq
    | next => exact hq.elim
    | brk => exact hq.elim
    | cont => exact hq.elim
/-- f(e, ..), f a def of the text -/
theorem pe_g (F : FnG X.prog X.w X.K X.mg X.base CX k f fd ps sp) (hr : Rm k X.A) (hm : X.mg x = some (.ref f))
    (hk : PySem.W.keepIn X.K (.ref f) = true) (hb : Binds X.K fd ps []) (hx : Passes CX X E) (ha : PA X (e :: es) t) (hg : Gl X x := by rfl)
    (hdb : (x == ("__debug__" : Str)) = false := by decide)
    (he : starEach (e :: es) X.env = (false, eval e X.env) :: starEach es X.env := by rfl)
    (hpl : (backTo pos (starEach es X.env)).any (·.1) = false := by rfl) :
    PE X (.Call (.Name x p) (e :: es) [] pos) (fun σ H Q => t σ H fun vs H1 => sp vs H1 Q E) := by
  constructor
  intro pins s σ H Q I h
  refine wpAny_Call_Name_kw (ld_glob I hg hm ?_ hdb)
  refine PySem.W.callWith_K (h₀ := X.base) I.ok.mod.kin hk ?_ he hpl
  exact thn (ha.run pos pins s σ H _ I h) fun us s1 ⟨vs, H1, I1, r, q⟩ => ⟨I1.kIn, call_g F hr hb hx I1 r q⟩
end

/-! the law's own end: its def is called where nothing is under way -/
section
variable {P : Program} {w : World} {K : PySem.W.Frag} {mg mb : Str → Option Value} {CX : CXT} {k : Nat} {fa a : Addr}
  {fd : FuncData} {x : Str} {sp : Sp} {s : Shared} {vs : List Value} {ns : List Int}
/-- the goal behind the call -/
def LawEnd (s : Shared) (r : Result) (t : Shared) : Prop :=
  r = .ok (.ret (.bool true)) ∧ OldK s.heap t.heap ∧ t.os = s.os ∧ AllBare t.gens
theorem law_core {H : Hp}
    (KX : K.In s.heap) (hns : s.heap.Ns mainGlobals mg) (hb : s.heap.Ns builtinsNs mb)
    (hbb : ∀ y : Str, y ≠ "__name__" → mb y = bootBuiltins y) (nl : s.heap.NoLimit) (hg : s.gens = #[])
    (ha : s.heap.get? a = some { cls := .type "list", data := .seq vs.toArray }) (hr : Rm k callerA)
    (F : ∀ base : Heap, K.In base → base.Ns mainGlobals mg → FnG P w K mg base CX k fa fd [x] sp)
    (hbind : ∀ (s : Shared) (u : Value), BindsTo s fd ⟨[u], []⟩ [(x, u)])
    (hsp : sp [.ref a] H (fun v _ => v = .bl true) fun _ _ _ => False)
    (hCX : ∀ e s', CX [] H s (fun _ _ _ => False) e s' → False)
    (only : Only H) (ok : HOk P w H s.heap) (at_a : ∀ b, H b ≠ none → b = a) (out : H a ≠ none → K.lookup a = none) :
    codeAny (model P w) callerA (.call (.ref fa) ⟨[.ref a], []⟩) (LawEnd s) s := by
  have ne_a : ∀ {b : Addr} {o : Obj}, s.heap.get? b = some o → (∀ y n, o.data ≠ .seq y n) → H b = none := by
    intro b o e no
    by_cases hb : H b = none
    · exact hb
    · rw [at_a b hb, ha] at e
      exact absurd (congrArg Obj.data (Option.some.inj e)).symm (no _ _)
  have sees : ∀ {b : Addr} {m : Str → Option Value}, s.heap.Ns b m → (hidT s.heap H).Ns b m := by
    rintro b m ⟨o, es, ep, e, d, r⟩
    refine ⟨o, es, ep, hidT_get e (ne_a e ?_), d, r⟩
    intro y n z
    rw [d] at z
    cases z
  have inB : K.In (hidT s.heap H) := by
    intro b o e
    refine hidT_get (KX b o e) ?_
    by_cases hb : H b = none
    · exact hb
    · have eb := at_a b hb
      subst eb
      rw [out hb] at e
      cases e
  obtain ⟨mc, l1, l2⟩ := nl
  have md : Mod K mg (hidT s.heap H) := ⟨inB, sees hns, ⟨mb, sees hb, hbb⟩, ⟨mc, sees l1, l2⟩⟩
  have e0 : Env0 P w K mg (hidT s.heap H) callerA [] s H := by
    refine ⟨rfl, md, fun b o e => of_hidT e, Nat.le_of_eq (hidT_size _ _), trivial, ?_, ok, .of_eq hg⟩
    intro b z
    cases z
  have vv : Vals [V.ref a] [Value.ref a] := .cons rfl .nil
  refine codeAny_mono ((F _ inB (sees hns)).runs (us := [.ref a]) hr e0 (hbind s (.ref a)) vv hsp) ?_
  intro r t h
  cases r with
  | error e => exact (hCX e t h).elim
  | ok fl =>
    cases fl with
    | next => exact h.elim
    | brk => exact h.elim
    | cont => exact h.elim
    | ret u =>
      obtain ⟨v, H', os, bare, un, ok', rv, q⟩ := h
      have q2 : v = .bl true := q
      subst q2
      have eu : u = Value.bool true := rv
      subst eu
      refine ⟨rfl, OldK.of_keep ?_, os, bare⟩
      intro b o e
      cases hb : H b with
      | none => exact un.keep b o e hb (by intro z; cases z) (by intro z; cases z)
      | some y =>
        cases only b with
        | inl z => exact absurd (hb.symm.trans z) (by intro z; cases z)
        | inr z =>
          obtain ⟨ob, xs, z⟩ := z
          have e1 := (ok b _ z).1
          have e2 := (ok' b _ (un.frzs b ob _ z)).1
          rw [e] at e1
          cases e1
          exact e2
theorem law_g
    (KX : K.In s.heap) (hns : s.heap.Ns mainGlobals mg) (hb : s.heap.Ns builtinsNs mb)
    (hbb : ∀ y : Str, y ≠ "__name__" → mb y = bootBuiltins y) (nl : s.heap.NoLimit) (hg : s.gens = #[])
    (ha : s.heap.get? a = some { cls := .type "list", data := .seq vs.toArray }) (hi : IntsAre vs ns) (hl : ns.length ≤ sizeLine)
    (hr : Rm k callerA)
    (F : ∀ base : Heap, K.In base → base.Ns mainGlobals mg → FnG P w K mg base CX k fa fd [x] sp)
    (hbind : ∀ (s : Shared) (u : Value), BindsTo s fd ⟨[u], []⟩ [(x, u)])
    (hsp : ∀ H : Hp, Only H → SqL K H a (ns.map V.int) → sp [.ref a] H (fun v _ => v = .bl true) fun _ _ _ => False)
    (hCX : ∀ H e s', CX [] H s (fun _ _ _ => False) e s' → False) :
    codeAny (model P w) callerA (.call (.ref fa) ⟨[.ref a], []⟩) (LawEnd s) s := by
  have rv := vals_ints hi
  have nv := hi.length
  cases free : K.lookup a with
  | some o =>
    have e := KX a o free
    rw [ha] at e
    cases e
    have only : Only (fun _ => none) := fun _ => .inl rfl
    refine law_core KX hns hb hbb nl hg ha hr F hbind (hsp _ only (.inr ⟨_, vs.toArray, _, free, rfl, rfl, rfl, ?_, by simpa using rv⟩))
      (hCX _) only (fun b u z => nomatch (show (none : Option HO) = some u from z)) (fun b z => absurd rfl z) (fun z => absurd rfl z)
    rw [List.size_toArray, nv]
    exact hl
  | none =>
    have only : Only (fun b => if b = a then some (.frz { cls := .type "list", data := .seq vs.toArray } (.lst (ns.map V.int))) else none) := by
      intro b
      by_cases e : b = a
      · exact .inr ⟨_, _, if_pos e⟩
      · exact .inl (if_neg e)
    refine law_core KX hns hb hbb nl hg ha hr F hbind (hsp _ only (.inl (.inr ⟨_, if_pos rfl⟩))) (hCX _) only ?_ ?_ (fun _ => free)
    · intro b u z
      by_cases e : b = a
      · have z1 := (if_pos e).symm.trans z
        cases z1
        subst e
        refine ⟨ha, ?_, vs, _, rv, ha⟩
        rw [List.length_map]
        exact hl
      · have z1 := (if_neg e).symm.trans z
        cases z1
    · intro b z
      by_cases e : b = a
      · exact e
      · exact absurd (if_neg e) z
end
/-- the head's end: what is known behind the top gives the law's promise -/
theorem walk_g {l : PySem.W.OpenLaw} {n k : Nat} {q : Program} {loose : List Str} {XP : (Str → Option Value) → Heap → Prop}
    {YP : World → Heap → Prop} {d : DefRec} {CX : CXT} {x : Str}
    (hn : l.most = some n) (hn2 : n ≤ sizeLine) (hdf : d.params.defaults = []) (hr : Rm k callerA)
    (F : ∀ (w : World) (mg : Str → Option Value) (fa : Addr) (h : Heap), YP w h → h.Ns mainGlobals mg → mg d.name = some (.ref fa) →
      ∃ (K : PySem.W.Frag) (fd : FuncData) (sp : Sp), K.In h ∧ (∀ (s : Shared) (u : Value), BindsTo s fd ⟨[u], []⟩ [(x, u)]) ∧
        (∀ (H : Hp) (a : Addr) (ns : List Int), ns.length ≤ n → SqL K H a (ns.map V.int) →
          sp [.ref a] H (fun v _ => v = .bl true) fun _ _ _ => False) ∧
        ∀ base : Heap, K.In base → base.Ns mainGlobals mg → FnG l.prog w K mg base CX k fa fd [x] sp)
    (hCX : ∀ (H : Hp) (s : Shared) (e : Value) (s' : Shared), CX [] H s (fun _ _ _ => False) e s' → False) :
    PySem.W.WalkO q loose XP YP l.row.toRowW d [] (fun f vs => PySem.call f vs) := by
  refine Att.attach_call hn hdf ?_
  intro w s0 s1 mg mb fa o pm cd doc a vs ns G Y ho hd hcd hmg hobj hints hlen hg
  obtain ⟨K, fd, sp, KX, hb, hsp, hF⟩ := F w mg fa _ Y G.T.g hmg
  exact law_g KX G.T.g G.T.b G.T.builtins G.T.nolimit hg hobj hints (Nat.le_trans hlen hn2) hr hF hb
    (fun H _ hS => hsp H a ns hlen hS) (fun H e s' => hCX H s1 e s')
end MM

set_option Elab.async false
set_option maxRecDepth 100000
set_option maxHeartbeats 2000000
set_option linter.all false
namespace MM
open PySem PySem.Spec PyProof.Rows L2

/-! a def of the text under its name -/
def Def (P : Program) (w : World) (K : PySem.W.Frag) (mg : Str → Option Value) (base : Heap) (CX : CXT) (k : Nat) (x : Str) (ps : List Str) (sp : Sp) : Prop :=
  ∃ f fd, FnG P w K mg base CX k f fd ps sp ∧ mg x = some (.ref f) ∧ PySem.W.keepIn K (.ref f) = true ∧ L2.Binds K fd ps [] ∧ ∃ oc od sl, K.lookup f = some ⟨oc, od, .func fd, sl⟩
/-- a def of the text as it stands behind the top -/
structure At (K : PySem.W.Frag) (mg : Str → Option Value) (x : Str) (st : Stmt) : Prop where
  fn : ∃ fd, FunD K x x (defArgs st) (defBody st) (defScope st) [] [] (He.ga K x) fd
  glo : mg x = some (.ref (He.ga K x))
section
variable {P : Program} {w : World} {K : PySem.W.Frag} {mg : Str → Option Value} {base : Heap} {CX : CXT} {j k : Nat} {x : Str} {ps : List Str} {sp : Sp} {st : Stmt}
theorem Def.le (D : Def P w K mg base CX j x ps sp) (h : j ≤ k) : Def P w K mg base CX k x ps sp :=
  let ⟨f, fd, F, r⟩ := D
  ⟨f, fd, F.le h, r⟩
theorem At.defX {N : List Str} (T : At K mg x st) (S : FnScope N ps (defScope st))
    (hb : ∀ (kV doc pm : Value) (an : Option Addr) (cd ct : Value) (us : List Value), us.length = ps.length →
      bindArgs (PySem.W.fnOf x x (defArgs st) (defBody st) (defScope st) .none kV doc pm an cd ct) ⟨us, []⟩ = pure (ps.zip us))
    (arity : ∀ vs H Q E, sp vs H Q E → vs.length = ps.length)
    (body : ∀ (f : Addr) (cd : Value) (A : Around) (out : List Env) (s : Shared) (H : Hp) (vs : List V) (Q : VK) (E : XK),
      Rm k (A.deeper (envOfC x (defScope st) s.heap.objs.size f cd)) → sp vs H Q E →
      ∃ t, PSs (cxOf CX P w K mg base N x (defScope st) f cd A out s H E) (defBody st) t ∧
        t { nx := fun _ H' => Q .non H', rt := Q } (start N vs) H) : Def P w K mg base CX (k + 1) x ps sp := by
  obtain ⟨fd, F⟩ := T.fn
  obtain ⟨oc, od, _, _, _, _, _, _, _, osl, _, lk, _⟩ := F.ex
  exact ⟨_, fd, FnG.body F S arity (body _), T.glo, F.kp, F.bindsN hb, oc, od, osl, lk⟩
/-- the same for a def that nothing leaves -/
theorem At.def_ {N : List Str} (T : At K mg x st) (S : FnScope N ps (defScope st))
    (hb : ∀ (kV doc pm : Value) (an : Option Addr) (cd ct : Value) (us : List Value), us.length = ps.length →
      bindArgs (PySem.W.fnOf x x (defArgs st) (defBody st) (defScope st) .none kV doc pm an cd ct) ⟨us, []⟩ = pure (ps.zip us))
    (arity : ∀ vs H Q E, sp vs H Q E → vs.length = ps.length)
    (body : ∀ (f : Addr) (cd : Value) (A : Around) (out : List Env) (s : Shared) (H : Hp) (vs : List V) (Q : VK) (E : XK),
      Rm k (A.deeper (envOfC x (defScope st) s.heap.objs.size f cd)) → sp vs H Q E →
      ∃ t, PSs (cxOf CX P w K mg base N x (defScope st) f cd A out s H E).nox (defBody st) t ∧
        t { nx := fun _ H' => Q .non H', rt := Q } (start N vs) H) : Def P w K mg base CX (k + 1) x ps sp := by
  refine T.defX S hb arity (fun f cd A out s H vs Q E hr h => ?_)
  obtain ⟨t, d, q⟩ := body f cd A out s H vs Q E hr h
  exact ⟨t, d.nox, q⟩
end
section
variable {X : Cx} {CX : CXT} {k : Nat} {ps : List Str} {sp : Sp} {E : XK} {x : Str} {p pos : Pos} {e : Expr} {es : List Expr} {t : TA}
/-- f(e, ..) -/
def tD (sp : Sp) (E : XK) (t : TA) : TE := fun σ H Q => t σ H fun vs H1 => sp vs H1 Q E
theorem pe_d (D : Def X.prog X.w X.K X.mg X.base CX k x ps sp) (hr : Rm k X.A) (hx : Passes CX X E) (ha : PA X (e :: es) t) (hg : Gl X x := by rfl)
    (hdb : (x == ("__debug__" : Str)) = false := by decide)
    (he : starEach (e :: es) X.env = (false, eval e X.env) :: starEach es X.env := by rfl)
    (hpl : (backTo pos (starEach es X.env)).any (·.1) = false := by rfl) : PE X (.Call (.Name x p) (e :: es) [] pos) (tD sp E t) := by
  obtain ⟨f, fd, F, hm, hk, hb, _⟩ := D
  exact pe_g F hr hm hk hb hx ha hg hdb he hpl
end

/-! tests whose answer is known -/
theorem ifT {c : Bool} {A B : Prop} (h : c = true) (a : A) : if c = true then A else B := by
  rw [if_pos h]
  exact a
theorem ifF {c : Bool} {A B : Prop} (h : c = false) (b : B) : if c = true then A else B := by
  rw [h, if_neg Bool.false_ne_true]
  exact b
theorem dInt (a b : Int) : decide (V.int a = V.int b) = decide (a = b) := by
  by_cases e : a = b
  · rw [e, decide_eq_true rfl, decide_eq_true rfl]
  · rw [decide_eq_false e, decide_eq_false (fun z => e (V.int.inj z))]
/-! more rules by values -/
section
variable {X : Cx}
/-- ** of great numbers -/
def CPw (i j : Int) : Prop := 0 ≤ j ∧ (Builtin.Int.intBits i : Int) * j ≤ 2 ^ 27
instance (i j : Int) : Decidable (CPw i j) := inferInstanceAs (Decidable (_ ∧ _))
instance (i j : Int) : Decidable (CDivW i j) := inferInstanceAs (Decidable (_ ∧ _))
theorem op_pw : OpR X (binaryOp .Pow) (rI CPw fun i j => .int (i ^ j.toNat)) := opI fun _ _ _ _ _ _ _ hc q => pow_int hc.1 hc.2 q
/-- repr of data -/
def rRepr (K : PySem.W.Frag) : List V → Hp → VK → Prop := fun xs H Q =>
  ∃ x d, xs = [x] ∧ Dp K H x d ∧ SeqAt.shaped d = true ∧ d.showable = true ∧ d.shown.length ≤ sizeLine ∧ Q (.str d.shown) H
theorem cr_repr (hg : X.A.guards = some []) (hu : X.A.units + 66 < cLine) : CallR X (.builtin "repr") (rRepr X.K) := by
  intro pins s σ H xs us Q I r h
  obtain ⟨x, d, rfl, hd, hs, hw, hz, q⟩ := h
  obtain ⟨u, rfl, ru⟩ := vals1 r
  have hdep := SeqAt.depth_of_shaped hs
  have hno := PyData.hasDict_of_canLay d (SeqAt.canLay_of_shaped hs)
  obtain ⟨as, rd⟩ := Dp.reads I d x u hd ru
  have fin : ∀ (h' : Heap) (z : Tok) (tk : Nat), (∀ b o, s.heap.get? b = some o → h'.get? b = some o) →
      EP X pins σ Q (.str d.shown z) { s with heap := h', toks := tk } := fun h' z tk hk => ⟨.str _, H, I.kept hk, ⟨_, rfl⟩, q⟩
  cases hd with
  | non =>
    cases ru
    exact PySem.P.repr_of_none (fin s.heap _ _ fun _ _ e => e)
  | bl b =>
    cases ru
    exact PySem.P.repr_of_bool (fin s.heap _ _ fun _ _ e => e)
  | int i =>
    obtain ⟨t, rfl⟩ := ru
    exact PySem.P.repr_of_int (of_decide_eq_true hw) (fin s.heap _ _ fun _ _ e => e)
  | str z =>
    obtain ⟨t, rfl⟩ := ru
    exact PySem.P.repr_of_str (fin s.heap _ _ fun _ _ e => e) hz
  | lst h1 h2 =>
    cases ru
    exact repr_of_reads' rd hw (PyData.noDict_hsm hno) hg (by omega) (fun _ _ e => e) (fun h' z tk hk => fin h' z tk hk) hz
  | tup h1 h2 =>
    cases ru
    exact repr_of_reads' rd hw (PyData.noDict_hsm hno) hg (by omega) (fun _ _ e => e) (fun h' z tk hk => fin h' z tk hk) hz
end
end MM

set_option Elab.async false
set_option maxRecDepth 100000
set_option maxHeartbeats 2000000
set_option linter.all false
namespace MM
open PySem PySem.Spec PyProof.Rows L2
/-! what kind a value is of -/
inductive Kn where
  | non | bl | int | str | lst | tup | dct
def Kn.name : Kn → String
  | .non => "NoneType"
  | .bl => "bool"
  | .int => "int"
  | .str => "str"
  | .lst => "list"
  | .tup => "tuple"
  | .dct => "dict"
def Kn.isa : Kn → Kn → Bool
  | .bl, .int => true
  | .non, .non => true
  | .bl, .bl => true
  | .int, .int => true
  | .str, .str => true
  | .lst, .lst => true
  | .tup, .tup => true
  | .dct, .dct => true
  | _, _ => false
theorem Kn.isa_ok (n m : Kn) : kitB n.name m.name = some (n.isa m) := by cases n <;> cases m <;> decide +kernel
inductive Kd (K : PySem.W.Frag) (H : Hp) : V → Kn → Prop where
  | non : Kd K H .non .non
  | bl (b : Bool) : Kd K H (.bl b) .bl
  | int (i : Int) : Kd K H (.int i) .int
  | str (z : Str) : Kd K H (.str z) .str
  | lst {a : Addr} {xs : List V} (h : SqL K H a xs) : Kd K H (.ref a) .lst
  | tup {a : Addr} {xs : List V} (h : SqT K H a xs) : Kd K H (.ref a) .tup
  | dct {a : Addr} {kvs : List (Key × V)} (h : H a = some (.dK kvs)) : Kd K H (.ref a) .dct
theorem Kd.ty {K : PySem.W.Frag} {H : Hp} {x : V} {n : Kn} (h : Kd K H x n) : TyX K H x (.type n.name) := by
  cases h with
  | non => exact .base .non
  | bl b => exact .base (.bl b)
  | int i => exact .base (.int i)
  | str z => exact .base (.str z)
  | lst h =>
    rcases h with (h | ⟨o, h⟩) | ⟨o, its, k, h, c, _⟩
    · exact .base (.lst h)
    · exact .base (.frz h)
    · exact .kList h c
  | tup h =>
    rcases h with h | h
    · rcases h with h | ⟨o, h⟩
      · exact .base (.tup h)
      · exact .fTuple h
    · obtain ⟨o, its, k, h, c, _⟩ := h
      exact .kTuple h c
  | dct h => exact .base (.dK h)
/-- an int, and no bool -/
def isW : V → Bool
  | .int _ => true
  | _ => false
section
variable {X : Cx}
def rIs (K : PySem.W.Frag) (m : Kn) : List V → Hp → VK → Prop := fun xs H Q => ∃ x n, xs = [x, .ty m.name] ∧ Kd K H x n ∧ Q (.bl (n.isa m)) H
theorem cr_is (m : Kn) : CallR X (.builtin "isinstance") (rIs X.K m) := by
  intro pins s σ H xs us Q I r h
  obtain ⟨x, n, rfl, hk, q⟩ := h
  exact call_isi pins s σ H _ us Q I r ⟨x, .ty m.name, .type n.name, .type m.name, n.isa m, rfl, .ty _, hk.ty, kit_ty (n.isa_ok m), q⟩
/-- a built-in class by its name -/
theorem pe_ty (m : Kn) {x : Str} {pos : Pos} (hm : X.mg x = none) (hv : bootBuiltins x = some (.type m.name)) (hg : Gl X x := by rfl) (hn : x ≠ "__name__" := by decide)
    (hdb : (x == ("__debug__" : Str)) = false := by decide) : PE X (.Name x pos) (tC (.ty m.name)) := pe_bltn hg hm hv rfl hn hdb
end
/-! heaps -/
theorem same_new {H : Hp} {p : Addr} {o : HO} (h : H p = none) : Same H (upd H p o) := fun b x e => by
  rw [upd_ne (ne_of_none e h)]
  exact e
theorem sql_new {K : PySem.W.Frag} {H : Hp} {p l : Addr} {xs : List V} {o : HO} (h : SqL K H l xs) (n : H p = none) : SqL K (upd H p o) l xs := (same_new n).seq h
theorem same_sqt {K : PySem.W.Frag} {H H' : Hp} {a : Addr} {xs : List V} (e : Same H H') (h : SqT K H a xs) : SqT K H' a xs := by
  rcases h with (h | ⟨o, h⟩) | h
  · exact .inl (.inl (e _ _ h))
  · exact .inl (.inr ⟨o, e _ _ h⟩)
  · exact .inr h
theorem sqt_new {K : PySem.W.Frag} {H : Hp} {p l : Addr} {xs : List V} {o : HO} (h : SqT K H l xs) (n : H p = none) : SqT K (upd H p o) l xs := same_sqt (same_new n) h
theorem sql_upd {K : PySem.W.Frag} {H : Hp} {p l : Addr} {xs : List V} {o : HO} (h : SqL K H l xs) (ne : l ≠ p) : SqL K (upd H p o) l xs := by
  rcases h with (h | ⟨u, h⟩) | h
  · exact .inl (.inl (by rw [upd_ne ne]; exact h))
  · exact .inl (.inr ⟨u, by rw [upd_ne ne]; exact h⟩)
  · exact .inr h
theorem sqt_upd {K : PySem.W.Frag} {H : Hp} {p l : Addr} {xs : List V} {o : HO} (h : SqT K H l xs) (ne : l ≠ p) : SqT K (upd H p o) l xs := by
  rcases h with (h | ⟨u, h⟩) | h
  · exact .inl (.inl (by rw [upd_ne ne]; exact h))
  · exact .inl (.inr ⟨u, by rw [upd_ne ne]; exact h⟩)
  · exact .inr h
theorem Kd.same {K : PySem.W.Frag} {H H' : Hp} {x : V} {n : Kn} (e : Same H H') (h : Kd K H x n) : Kd K H' x n := by
  cases h with
  | non => exact .non
  | bl b => exact .bl b
  | int i => exact .int i
  | str z => exact .str z
  | lst h => exact .lst (e.seq h)
  | tup h => exact .tup (same_sqt e h)
  | dct h => exact .dct (e _ _ h)
/-! a list comprehension whose elements are reckoned without a new object -/
section
variable {K : PySem.W.Frag} {v : Nat} {te : TE} {σ : L2.St} {H1 : Hp} {D : Addr} {Qd : Hp → Prop} {n : Nat}
/-- what tLc asks of its walk -/
def LcW (J : It) (g : TG) (tt : TT) (te : TE) (vs : List Nat) (σ : L2.St) (H1 : Hp) (D : Addr) (Qd : Hp → Prop) : Prop :=
  ∃ W : Nat → Nat → Hp → Prop, (∃ m, W 0 m (upd H1 D (.lst []))) ∧ ∀ i m H, W i m H →
    (J.stop i H ∧ Qd H) ∨ (J.go i H ∧ ∃ Nx : Hp → Prop, (∀ H', Nx H' → ∃ m', m' < m ∧ W (i + 1) m' H') ∧
      ∀ x H', J.yld i H x H' → g x (wipe σ vs) H' fun σ2 H2 => wipe σ2 vs = wipe σ vs ∧ tt σ2 H2 fun b H3 =>
        if b = true then te σ2 H3 fun y H4 => ∃ acc, H4 D = some (.lst acc) ∧ acc.length < sizeLine ∧ Nx (upd H4 D (.lst (acc ++ [y]))) else Nx H3)
theorem yes_ {H : Hp} {A B : Hp → Prop} (h : A H) : tYes σ H fun b H3 => if b = true then A H3 else B H3 := by
  show (if true = true then A H else B H)
  rw [if_pos rfl]
  exact h
theorem wipe_one {x : Option V} : wipe ((wipe σ [v]).set v x) [v] = wipe σ [v] := by
  show ((σ.set v none).set v x).set v none = σ.set v none
  rw [List.set_set, List.set_set]
theorem lc_rng {lo : Int} (f : Nat → V) (hn : n ≤ sizeLine)
    (hs : ∀ i acc, i < n → ∀ Q : VK, Q (f i) (upd H1 D (.lst acc)) → te ((wipe σ [v]).set v (some (.int (lo + i)))) (upd H1 D (.lst acc)) Q)
    (hd : Qd (upd H1 D (.lst ((List.range n).map f)))) : LcW (Itr lo n) (gName v) tYes te [v] σ H1 D Qd := by
  refine lc_range (Pv := fun i H => H = upd H1 D (.lst ((List.range i).map f))) rfl ?_ (fun H e => by rw [e]; exact hd)
  intro i H hi e
  subst e
  refine ⟨wipe_one, yes_ ?_⟩
  refine hs i _ hi _ ⟨_, upd_same, ?_, ?_⟩
  · rw [List.length_map, List.length_range]
    exact Nat.lt_of_lt_of_le hi hn
  · rw [upd_upd, List.range_succ, List.map_append]
    rfl
theorem lc_seq {a : Addr} {xs : List V} (f : V → V) (hx : SqL K H1 a xs) (nD : H1 D = none) (hn : xs.length ≤ sizeLine)
    (hs : ∀ x acc, x ∈ xs → ∀ Q : VK, Q (f x) (upd H1 D (.lst acc)) → te ((wipe σ [v]).set v (some x)) (upd H1 D (.lst acc)) Q)
    (hd : Qd (upd H1 D (.lst (xs.map f)))) : LcW (Itl K a) (gName v) tYes te [v] σ H1 D Qd := by
  refine lc_list (xs := xs) (Pv := fun i H => H = upd H1 D (.lst ((xs.take i).map f))) rfl (fun i H _ e => by rw [e]; exact sql_new hx nD) ?_ (fun H e => by rw [e, List.take_length]; exact hd)
  intro i x H hi e
  subst e
  have lt : i < xs.length := (List.getElem?_eq_some_iff.mp hi).1
  refine ⟨wipe_one, yes_ ?_⟩
  refine hs x _ (List.mem_of_getElem? hi) _ ⟨_, upd_same, ?_, ?_⟩
  · rw [List.length_map, List.length_take]
    omega
  · rw [upd_upd, List.take_add_one, hi, List.map_append]
    rfl
theorem lc_tpl {a : Addr} {xs : List V} (f : V → V) (hx : SqT K H1 a xs) (nD : H1 D = none) (hn : xs.length ≤ sizeLine)
    (hs : ∀ x acc, x ∈ xs → ∀ Q : VK, Q (f x) (upd H1 D (.lst acc)) → te ((wipe σ [v]).set v (some x)) (upd H1 D (.lst acc)) Q)
    (hd : Qd (upd H1 D (.lst (xs.map f)))) : LcW (Itt K a) (gName v) tYes te [v] σ H1 D Qd := by
  refine lc_tup (xs := xs) (Pv := fun i H => H = upd H1 D (.lst ((xs.take i).map f))) rfl (fun i H _ e => by rw [e]; exact sqt_new hx nD) ?_ (fun H e => by rw [e, List.take_length]; exact hd)
  intro i x H hi e
  subst e
  have lt : i < xs.length := (List.getElem?_eq_some_iff.mp hi).1
  refine ⟨wipe_one, yes_ ?_⟩
  refine hs x _ (List.mem_of_getElem? hi) _ ⟨_, upd_same, ?_, ?_⟩
  · rw [List.length_map, List.length_take]
    omega
  · rw [upd_upd, List.take_add_one, hi, List.map_append]
    rfl
/-- with a test -/
theorem lc_rngF {tt : TT} {lo : Int} (p : Nat → Bool) (f : Nat → V) (hn : n ≤ sizeLine)
    (ht : ∀ i acc, i < n → ∀ Q : Bool → Hp → Prop, Q (p i) (upd H1 D (.lst acc)) → tt ((wipe σ [v]).set v (some (.int (lo + i)))) (upd H1 D (.lst acc)) Q)
    (hs : ∀ i acc, i < n → p i = true → ∀ Q : VK, Q (f i) (upd H1 D (.lst acc)) → te ((wipe σ [v]).set v (some (.int (lo + i)))) (upd H1 D (.lst acc)) Q)
    (hd : Qd (upd H1 D (.lst (((List.range n).filter p).map f)))) : LcW (Itr lo n) (gName v) tt te [v] σ H1 D Qd := by
  refine lc_range (Pv := fun i H => H = upd H1 D (.lst (((List.range i).filter p).map f))) rfl ?_ (fun H e => by rw [e]; exact hd)
  intro i H hi e
  subst e
  have le : (((List.range i).filter p).map f).length ≤ i := by
    rw [List.length_map]
    exact Nat.le_trans (List.length_filter_le _ _) (Nat.le_of_eq List.length_range)
  refine ⟨wipe_one, ht i _ hi _ ?_⟩
  cases e : p i with
  | true =>
    rw [if_pos rfl]
    refine hs i _ hi e _ ⟨_, upd_same, Nat.lt_of_le_of_lt le (Nat.lt_of_lt_of_le hi hn), ?_⟩
    rw [upd_upd, List.range_succ, List.filter_append, List.map_append]
    simp [e]
  | false =>
    rw [if_neg Bool.false_ne_true, List.range_succ, List.filter_append, List.map_append]
    simp [e]
end
/-! data: ints and bools in lists and tuples -/
section
variable {K : PySem.W.Frag} {H : Hp}
theorem dp_ints : ∀ ns : List Int, DpAll K H (ns.map V.int) (ns.map PyData.int)
  | [] => .nil
  | n :: r => .cons (.int n) (dp_ints r)
theorem dp_bools : ∀ bs : List Bool, DpAll K H (bs.map V.bl) (bs.map PyData.bool)
  | [] => .nil
  | b :: r => .cons (.bl b) (dp_bools r)
end
theorem lay_ints : ∀ ns : List Int, PyData.canLayAll0 (ns.map PyData.int) = true
  | [] => rfl
  | n :: r => by
    show (PyData.canLay0 (.int n) && PyData.canLayAll0 (r.map PyData.int)) = true
    rw [lay_ints r]
    rfl
theorem dep_ints : ∀ ns : List Int, PyData.depthAll (ns.map PyData.int) ≤ 1
  | [] => by decide
  | n :: r => by
    have := dep_ints r
    simp only [List.map_cons, PyData.depthAll, PyData.depth]
    omega
theorem shaped_ints (ns : List Int) : SeqAt.shaped (.list (ns.map PyData.int)) = true := by
  unfold SeqAt.shaped
  have h := dep_ints ns
  rw [show PyData.canLay0 (.list (ns.map PyData.int)) = true from lay_ints ns, Bool.true_and]
  refine decide_eq_true ?_
  simp only [PyData.depth]
  omega
theorem lay_bools : ∀ bs : List Bool, PyData.canLayAll0 (bs.map PyData.bool) = true
  | [] => rfl
  | b :: r => by
    show (PyData.canLay0 (.bool b) && PyData.canLayAll0 (r.map PyData.bool)) = true
    rw [lay_bools r]
    rfl
theorem dep_bools : ∀ bs : List Bool, PyData.depthAll (bs.map PyData.bool) ≤ 1
  | [] => by decide
  | n :: r => by
    have := dep_bools r
    simp only [List.map_cons, PyData.depthAll, PyData.depth]
    omega
theorem shaped_bools (bs : List Bool) : SeqAt.shaped (.list (bs.map PyData.bool)) = true := by
  unfold SeqAt.shaped
  have h := dep_bools bs
  rw [show PyData.canLay0 (.list (bs.map PyData.bool)) = true from lay_bools bs, Bool.true_and]
  refine decide_eq_true ?_
  simp only [PyData.depth]
  omega
theorem shapedT_ints (ns : List Int) : SeqAt.shaped (.tuple (ns.map PyData.int)) = true := by
  unfold SeqAt.shaped
  have h := dep_ints ns
  rw [show PyData.canLay0 (.tuple (ns.map PyData.int)) = true from lay_ints ns, Bool.true_and]
  refine decide_eq_true ?_
  simp only [PyData.depth]
  omega
theorem eqvAll_ints : ∀ ns ms : List Int, PyData.eqvAll (ns.map PyData.int) (ms.map PyData.int) = decide (ns = ms)
  | [], [] => rfl
  | [], _ :: _ => rfl
  | _ :: _, [] => rfl
  | n :: r, m :: q => by
    show (PyData.eqv (.int n) (.int m) && PyData.eqvAll (r.map PyData.int) (q.map PyData.int)) = _
    rw [eqvAll_ints r q]
    show ((n == m) && decide (r = q)) = _
    by_cases e : n = m
    · subst e
      by_cases f : r = q
      · subst f
        simp
      · simp [f]
    · simp [e]
end MM

set_option Elab.async false
set_option linter.all false
set_option maxRecDepth 100000
set_option maxHeartbeats 2000000
/-! enumerate over a tuple -/
namespace MM
open PySem PySem.Spec PyProof.Rows L2
theorem made_enum {v : Value} {o : Obj} {G : Heap → Prop} (B : Begins v o G) :
    Meets (Builtin.«enumerate.__new__» ⟨[.type "enumerate", v], []⟩) (fun _ R t => G t.heap ∧
      R (.ok (.ret (.ref (t.heap.push o).objs.size))) { t with heap := (t.heap.push o).push { cls := .type "enumerate", data := .fields #[.none, .bool false, .ref t.heap.objs.size, rawInt 0, .none, .none] } }) :=
  .of_wp fun prog w A R t both => by
    obtain ⟨h0, g0, d0, k0, o0⟩ := t
    obtain ⟨at_v, out⟩ := both
    have sub := sub_enumerate
    have road : ∀ {A' : Around} {E : Value → Shared → Prop} {Q : Value → Shared → Prop}, Q (.ref h0.objs.size) ⟨h0.push o, g0, d0, k0, o0⟩ → wpAny (model prog w) A' (pyIter v) Q E ⟨h0, g0, d0, k0, o0⟩ :=
      fun q => B.iter prog w _ _ ⟨h0, g0, d0, k0, o0⟩ _ at_v q
    wp_walk using road
    refine wpAny_stack_any fun st => wpAny_pure ?_
    split
    · rename_i c _ _ _ _ _
      cases (c == Value.type "enumerate")
      all_goals
        wp_walk using road
        exact ⟨_, rfl, out⟩
    · wp_walk using road
      exact ⟨_, rfl, out⟩
theorem call_enumT {prog : Program} {w : World} {A : Around} {E : Value → Shared → Prop} {s : Shared} {a : Addr} {its : Array Value} {Q : Value → Shared → Prop} (ht : s.heap.IsTuple a its)
    (q : ∀ h', IsEnum h' (s.heap.objs.size + 1) s.heap.objs.size 0 .none → h'.IsTupleIter s.heap.objs.size a 0 → (∀ b o, s.heap.get? b = some o → h'.get? b = some o) →
      Q (.ref (s.heap.objs.size + 1)) { s with heap := h' }) : wpAny (model prog w) A (call (.type "enumerate") [.ref a]) Q E s := by
  have B := begins_tuple a its
  refine callType_new F.called_enumerate (by decide) (F.typeCall_enumerate_1 _) (F.newCall_enumerate_1 _) (fun obj => F.args_object_init_2 obj _) F.entry_enumerate_new (made_enum B) ⟨ht, ?_⟩
  have z : (s.heap.push { cls := .type "tuple_iterator", data := .fields #[.ref a, .int 0 0] }).objs.size = s.heap.objs.size + 1 := Heap.size_push ..
  show _ ∧ _
  rw [z]
  have at_e : IsEnum ((s.heap.push { cls := .type "tuple_iterator", data := .fields #[.ref a, .int 0 0] }).push { cls := .type "enumerate", data := .fields #[.none, .bool false, .ref s.heap.objs.size, rawInt 0, .none, .none] }) (s.heap.objs.size + 1) s.heap.objs.size 0 .none := by
    rw [← z]
    exact Heap.get?_push_size _ rfl
  exact ⟨⟨_, at_e, rfl⟩, q _ at_e ⟨_, Heap.get?_push_of_some _ (Heap.get?_push_size _ rfl), rfl, rfl⟩ fun b o k => Heap.get?_push_of_some _ (Heap.get?_push_of_some _ k)⟩
/-- the tuple at a, each item in a new pair -/
def Itu (K : PySem.W.Frag) (a : Addr) : It :=
  ⟨fun i H => ∃ xs x, SqT K H a xs ∧ xs[i]? = some x, fun i H v H' => ∃ T x, v = .ref T ∧ H T = none ∧ H' = upd H T (.tup [.int (i : Nat), x]) ∧ ∀ xs, SqT K H a xs → xs[i]? = some x, fun i H => ∃ xs, SqT K H a xs ∧ xs.length ≤ i⟩
theorem turn_enumT {P : Program} {w : World} {K : PySem.W.Frag} {elts : List Expr} {kk : Nat} {tpos : Pos} (a e it : Addr) :
    Turn P w K (.Tuple elts kk tpos) (Itu K a) [e, it] e (fun i h => (∃ old, IsEnum h e it ((i : Nat) : Int) old) ∧ h.IsTupleIter it a i ∧ e ≠ it) where
  mem := by simp
  obj := fun i h st b hb => by
    obtain ⟨⟨old, he⟩, ⟨o, ho, hc, hd⟩, _⟩ := st
    have two : b = e ∨ b = it := by simpa using hb
    rcases two with z | z
    · subst z
      exact ⟨_, he, fun v q => nomatch q⟩
    · subst z
      exact ⟨o, ho, fun v q => by rw [hd] at q; cases q⟩
  keep := fun i h h' st k => let ⟨⟨old, he⟩, hi, hne⟩ := st; ⟨⟨old, k e (by simp) _ he⟩, hi.at fun o q => k it (by simp) o q, hne⟩
  item := by
    intro X hP hw hK hc i pins s σ H E I hf st hg
    subst hP hw hK
    obtain ⟨⟨old, he⟩, hit, hne⟩ := st
    obtain ⟨xs, x, hq, hx⟩ := hg
    obtain ⟨its, rv, p, hz⟩ := I.tuple hq
    obtain ⟨u, hu, ru⟩ := rv.get hx
    have el : e < s.heap.objs.size := Heap.lt_size he
    have il : it < s.heap.objs.size := by obtain ⟨_, q, _⟩ := hit; exact Heap.lt_size q
    have pt : s.heap.IsTuple a its.toArray := p
    have ait : a ≠ it := fun z => by
      obtain ⟨o1, g1, c1, _⟩ := id pt
      obtain ⟨o2, g2, c2, _⟩ := id hit
      rw [z, g2] at g1
      cases g1
      rw [c2] at c1
      exact absurd (Value.type.inj c1) (by decide)
    have ae : a ≠ e := fun z => by
      obtain ⟨o1, g1, c1, _⟩ := id pt
      rw [z, show s.heap.get? e = some _ from he] at g1
      cases g1
      exact absurd (Value.type.inj c1) (by decide)
    have D := Draws.tuple (prog := X.prog) (w := X.w) (A := X.A.in1) (I.ok.hd hc) it a ait its.toArray
    have lt : i < its.toArray.size := by
      have := (List.getElem?_eq_some_iff.mp hu).1
      rw [List.size_toArray]
      exact this
    refine wpAny_pyNext_enum_itemC D he ⟨hit, pt⟩ lt hne (by simp [hne, ae.symm]) fun y h' tk hy ho st' hT hsz hk => ?_
    have ey : y = u := by
      have hy' : its.toArray[i]? = some y := hy
      rw [List.getElem?_toArray, hu] at hy'
      exact (Option.some.inj hy').symm
    subst ey
    refine ⟨_, rfl, wpAny_letOwnedTupleGo_enum (s := { s with heap := h', toks := tk + 1 }) ho fun h'' he' sb => ?_⟩
    have hT2 : h''.get? s.heap.objs.size = some { cls := .type "tuple", data := .seq #[.int i tk, y] } := (sb.2 _ (Nat.ne_of_gt el)).trans hT
    have new : ObjOk X.prog X.w (upd H s.heap.objs.size (.tup [.int (i : Nat), x])) h'' s.heap.objs.size (.tup [.int (i : Nat), x]) :=
      ⟨(by decide : 2 ≤ sizeLine), [.int i tk, y], .cons ⟨_, rfl⟩ (.cons ru .nil), ⟨_, hT2, rfl, _, rfl⟩⟩
    have I1 : Inv X pins σ (upd H s.heap.objs.size (.tup [.int (i : Nat), x])) { s with heap := h'', toks := tk + 1 } :=
      I.turnedNew (ch := [e, it]) (fun b ob hb q => (sb.2 b fun z => hb (by simp [z])).trans (hk b ob (fun z => hb (by simp [z])) (fun z => hb (by simp [z])) q)) hf (Nat.le_refl _) new
    have it2 : h''.IsTupleIter it a (i + 1) := st'.1.at fun o q => (sb.2 it (Ne.symm hne)).trans q
    refine ⟨.ref s.heap.objs.size, _, I1, rfl, ⟨_, x, rfl, I.hok.fresh (Nat.le_refl _), rfl, fun ys hy => by rw [I.tuple_inj hy hq]; exact hx⟩, ⟨⟨y, he'⟩, it2, hne⟩, fun b hb => ?_⟩
    have bl : b < s.heap.objs.size := by
      have two : b = e ∨ b = it := by simpa using hb
      rcases two with z | z <;> subst z <;> assumption
    rw [upd_ne (Nat.ne_of_lt bl)]
    exact (hf b hb).1
  done := by
    intro X hP hw hK hc i pins s σ H E I hf st hg
    subst hP hw hK
    obtain ⟨⟨old, he⟩, hit, hne⟩ := st
    obtain ⟨xs, hq, hx⟩ := hg
    obtain ⟨its, rv, p, hz⟩ := I.tuple hq
    have pt : s.heap.IsTuple a its.toArray := p
    obtain ⟨f0, f1, f2, f3, f4, f5⟩ := hf it (by simp)
    have over : its.toArray[i]? = none := by
      have := rv.length
      rw [List.getElem?_toArray]
      exact List.getElem?_eq_none (by omega)
    have D : Draws X.prog X.w X.A.in1 it [it, a] i (fun _ _ => True) (fun j h => j = i ∧ h.IsTupleIter it a j ∧ h.IsTuple a its.toArray) :=
      { live := fun _ _ st => let ⟨o, ho, _⟩ := st.2.1; ⟨o, ho⟩
        frame := fun _ _ _ st k => ⟨st.1, st.2.1.at fun o e => k it (by simp) o e, st.2.2.at fun o e => k a (by simp) o e⟩
        item := fun j s Q E lt st _ => absurd st.1 (Nat.ne_of_lt lt)
        done := fun s Q E st out => wpAny_nextOf_tuple_end (I.ok.hd hc) st.2.1 st.2.2 (by rw [st.1]; exact over) out }
    exact wpAny_pyNext_enum_endD D he ⟨rfl, hit, pt⟩ fun h' eb => ⟨rfl, I.turned (t' := s.toks) (fun b o hb q => eb b o hb q) f0 f1 f3 f4 f5⟩
  self := fun A i s Q E st h => let ⟨⟨_, he⟩, _⟩ := st; wpAny_pyIter_enum he h
def iEnumT (K : PySem.W.Frag) (ta : TA) : TI := fun σ H R => ta σ H fun vs H1 => ∃ a xs, vs = [.ref a] ∧ SqT K H1 a xs ∧ R (Itu K a) H1
theorem pi_enumT {X : Cx} {e : Expr} {ta : TA} {p pos tpos : Pos} {elts : List Expr} {kk : Nat} (hg : Gl X "enumerate") (hm : X.mg "enumerate" = none) (ha : PA X [e] ta)
    (hs : starEach [e] X.env = [(false, eval e X.env)] := by rfl) : PI X (.Tuple elts kk tpos) (.Call (.Name "enumerate" p) [e] [] pos) (iEnumT X.K ta) := by
  refine ⟨fun pins s σ H R I h => ?_⟩
  refine Call_ (ld_blt I hg hm boot_enumerate (PyProof.Rows.callWith_type1 (thn (ha.run pos pins s σ H _ I h) fun us s1 ⟨vs, H1, I1, r1, a, xs, ex, hq, q⟩ => ?_) hs rfl))
  subst ex
  obtain ⟨u, rfl, ru⟩ := vals1 r1
  cases ru
  obtain ⟨its, rv, p', hz⟩ := I1.tuple hq
  refine call_enumT (its := its.toArray) p' fun h' he hit hk => wpAny_pyIter_enum he ?_
  refine ⟨s1.heap.objs.size + 1, [s1.heap.objs.size + 1, s1.heap.objs.size], _, _, H1, rfl, I1.kept (t' := s1.toks) hk, turn_enumT a (s1.heap.objs.size + 1) s1.heap.objs.size, ⟨⟨.none, he⟩, hit, Nat.succ_ne_self _⟩, fun b hb => ?_, q⟩
  have two : b = s1.heap.objs.size + 1 ∨ b = s1.heap.objs.size := by simpa using hb
  have le : s1.heap.objs.size ≤ b := by
    rcases two with z | z <;> rw [z]
    · exact Nat.le_add_right _ _
    · exact Nat.le_refl _
  exact I1.fpOk le (I1.hok.fresh le)
section
variable {K : PySem.W.Frag} {a : Addr} {xs : List V} {g : TG} {tb : TS} {D : Ends} {σ : L2.St} {H : Hp}
/-- what a for asks of its walk -/
def ForW (J : It) (g : TG) (tb : TS) (D : Ends) (σ : L2.St) (H : Hp) : Prop :=
  ∃ W : Nat → Nat → L2.St → Hp → Prop, (∃ m, W 0 m σ H) ∧ ∀ i m σ H, W i m σ H →
    (J.stop i H ∧ D.nx σ H) ∨ (J.go i H ∧ ∃ N : L2.St → Hp → Prop, (∀ σ' H', N σ' H' → ∃ m', m' < m ∧ W (i + 1) m' σ' H') ∧
      ∀ x H', J.yld i H x H' → g x σ H' fun σ2 H2 => tb { D with nx := N, ct := N, bk := D.nx } σ2 H2)
theorem for_enumT (Pv : Nat → L2.St → Hp → Prop) (h0 : Pv 0 σ H) (at_a : ∀ i σ H, i ≤ xs.length → Pv i σ H → SqT K H a xs)
    (turn : ∀ i x σ H T, xs[i]? = some x → Pv i σ H → H T = none → g (.ref T) σ (upd H T (.tup [.int (i : Nat), x])) fun σ2 H2 => tb { D with nx := Pv (i + 1), ct := Pv (i + 1), bk := D.nx } σ2 H2)
    (fin : ∀ σ H, Pv xs.length σ H → D.nx σ H) : ForW (Itu K a) g tb D σ H := by
  refine ⟨fun i m σ H => m = xs.length - i ∧ i ≤ xs.length ∧ Pv i σ H, ⟨_, rfl, Nat.zero_le _, h0⟩, ?_⟩
  rintro i m σ H ⟨rfl, le, p⟩
  by_cases lt : i < xs.length
  · have ex := List.getElem?_eq_getElem lt
    refine .inr ⟨⟨xs, _, at_a i σ H le p, ex⟩, Pv (i + 1), fun σ' H' p' => ⟨_, by omega, rfl, lt, p'⟩, ?_⟩
    rintro v H' ⟨T, x, rfl, free, rfl, all⟩
    exact turn i x σ H T (all xs (at_a i σ H le p)) p free
  · have e : i = xs.length := by omega
    subst e
    exact .inl ⟨⟨xs, at_a _ σ H le p, Nat.le_refl _⟩, fin σ H p⟩
theorem for_enumL (Pv : Nat → L2.St → Hp → Prop) (h0 : Pv 0 σ H) (at_a : ∀ i σ H, i ≤ xs.length → Pv i σ H → SqL K H a xs)
    (turn : ∀ i x σ H T, xs[i]? = some x → Pv i σ H → H T = none → g (.ref T) σ (upd H T (.tup [.int (i : Nat), x])) fun σ2 H2 => tb { D with nx := Pv (i + 1), ct := Pv (i + 1), bk := D.nx } σ2 H2)
    (fin : ∀ σ H, Pv xs.length σ H → D.nx σ H) : ForW (Ite K a) g tb D σ H := by
  refine ⟨fun i m σ H => m = xs.length - i ∧ i ≤ xs.length ∧ Pv i σ H, ⟨_, rfl, Nat.zero_le _, h0⟩, ?_⟩
  rintro i m σ H ⟨rfl, le, p⟩
  by_cases lt : i < xs.length
  · have ex := List.getElem?_eq_getElem lt
    refine .inr ⟨⟨xs, _, at_a i σ H le p, ex⟩, Pv (i + 1), fun σ' H' p' => ⟨_, by omega, rfl, lt, p'⟩, ?_⟩
    rintro v H' ⟨T, x, rfl, free, rfl, all⟩
    exact turn i x σ H T (all xs (at_a i σ H le p)) p free
  · have e : i = xs.length := by omega
    subst e
    exact .inl ⟨⟨xs, at_a _ σ H le p, Nat.le_refl _⟩, fin σ H p⟩
end
end MM

set_option Elab.async false
set_option linter.all false
set_option maxRecDepth 100000
set_option maxHeartbeats 2000000
/-! set(t) of a tuple of ints; its length -/
namespace MM
open PySem PySem.Spec PyProof.Rows L2
theorem count_keys {ks ns : List Int} (nk : ks.Nodup) (mem : ∀ k, k ∈ ns ↔ k ∈ ks) : ks.length = ns.length ↔ ns.Nodup := by
  constructor
  · intro e
    by_cases h : ns.Nodup
    · exact h
    · exfalso
      rw [List.nodup_iff_count] at h
      obtain ⟨a, ha⟩ := Classical.not_forall.mp h
      have am : a ∈ ns := List.count_pos_iff.mp (by omega)
      have sub : ks ⊆ ns.erase a := by
        intro b hb
        by_cases z : b = a
        · subst z
          refine List.count_pos_iff.mp ?_
          rw [List.count_erase_self]
          omega
        · exact (List.mem_erase_of_ne z).mpr ((mem b).mpr hb)
      have le := List.Nodup.length_le_of_subset nk sub
      rw [List.length_erase_of_mem am] at le
      have pos : 0 < ns.length := List.length_pos_of_mem am
      omega
  · intro nn
    exact ((List.perm_ext_iff_of_nodup nk nn).mpr fun a => (mem a).symm).length_eq
section
variable {X : Cx}
def rSetI (K : PySem.W.Frag) : List V → Hp → VK → Prop := fun xs H Q => ∃ (p : Addr) (ns : List Int), xs = [.ref p] ∧ SqT K H p (ns.map V.int) ∧ ns.length ≤ 1000 ∧
  ∀ t n, H t = none → (n = ns.length ↔ ns.Nodup) → n ≤ ns.length → Q (.ref t) (upd H t (.set (fun j => decide (j ∈ ns)) n))
theorem ints_of : ∀ {ns : List Int} {its : List Value}, Vals (ns.map V.int) its → IntsAre its ns
  | [], _, r => by
    cases r
    exact .nil
  | n :: _, _, r => by
    cases r with
    | cons h t =>
      obtain ⟨k, rfl⟩ := h
      exact .cons n k (ints_of t)
theorem cr_setI (hc : X.calm = true) : CallR X (.type "set") (rSetI X.K) := by
  intro pins s σ H xs us Q I r h
  obtain ⟨p, ns, rfl, hp, hl, q⟩ := h
  obtain ⟨u, rfl, ru⟩ := vals1 r
  cases ru
  obtain ⟨its, rv, ht, hz⟩ := I.tuple hp
  have pt : s.heap.IsTuple p its.toArray := ht
  refine call_set_tupI (P := X.prog) ns (I.ok.hd hc) pt (by simpa using ints_of rv) (by show ns.length + 1 < 4096; omega) fun h' tk c R le keep => ?_
  have cnt : c = ns.length ↔ ns.Nodup := by
    obtain ⟨o, es, ep, t, ho, hx, hd, g, nd, hm, hb, hf, hn, _⟩ := R
    rw [← hn]
    have := count_keys (ks := es.toList.map keyOf) (ns := ns) nd fun k => by
      rw [← hm k]
      exact decide_eq_true_iff.symm
    rw [List.length_map, Array.length_toList] at this
    exact this
  refine ⟨.ref _, _, I.laid (t' := tk) (o := .set (fun j => decide (j ∈ ns)) c) keep (Nat.le_refl _) ?_, rfl, q _ c (I.hok.fresh (Nat.le_refl _)) cnt le⟩
  exact R.setOf
theorem cr_lenSet : CallR X (.builtin "len") (fun xs H Q => ∃ a S n, xs = [V.ref a] ∧ H a = some (.set S n) ∧ Q (.int (n : Nat)) H) := by
  intro pins s σ H xs us Q I r h
  obtain ⟨a, S, n, rfl, ha, q⟩ := h
  obtain ⟨u, rfl, ru⟩ := vals1 r
  cases ru
  obtain ⟨o, es, ep, t, ho, hx, hd, _, _, hb, hf, hn⟩ := (show s.heap.SetOf (intKind X.prog X.w) a S n from I.hok a _ ha)
  subst hn
  have small : es.size < 4096 := hb
  exact PySem.call_len_set ho hx hd hf (by omega) ⟨.int _, H, I.tok _, ⟨_, rfl⟩, q⟩
def rLenK (K : PySem.W.Frag) : List V → Hp → VK → Prop := fun xs H Q => ∃ p ys, xs = [.ref p] ∧ (SqL K H p ys ∨ SqT K H p ys) ∧ Q (.int ys.length) H
theorem cr_lenK {K : PySem.W.Frag} (e : X.K = K) : CallR X (.builtin "len") (rLenK K) := by
  subst e
  exact call_len_seq
end
end MM

set_option Elab.async false
set_option linter.all false
set_option maxRecDepth 100000
set_option maxHeartbeats 2000000
/-! sets of ints that grow: the rules with the world by its name -/
namespace MM
open PySem PySem.Spec PyProof.Rows L2
section
variable {X : Cx} {w : World}
theorem cr_set0W (e : X.w = w) : CallR X (.type "set") (rSet0 w) := by
  subst e
  exact cr_set0
theorem or_sinW (e : X.w = w) : OpR X (compareOp .In) (rSIn w) := by
  subst e
  exact or_sin
theorem or_snotinW (e : X.w = w) : OpR X (compareOp .NotIn) (rSNotIn w) := by
  subst e
  exact or_snotin
variable {o e : Expr} {es : List Expr} {to : TE} {t : TA} {apos cpos : Pos}
theorem pe_saddW (ew : X.w = w) (ho : PE X o to) (ha : PA X (e :: es) t)
    (hbase : attributeBase o "add" X.env (eval o X.env) = eval o X.env := by rfl)
    (hfew : ((backTo cpos (starEach (e :: es) X.env)).all (fun x => !x.1) && (backToKw cpos (keywordEach [] X.env)).all (fun x => x.1.isSome)
      && decide ((e :: es).length + ([] : List Keyword).length + (if ([] : List Keyword).isEmpty then 0 else 1) < 30)) = true := by rfl)
    (hline : (apos.endLine == cpos.line) = true := by rfl) (hs : starEach (e :: es) X.env = (false, eval e X.env) :: starEach es X.env := by rfl) (hplain : (backTo cpos (starEach es X.env)).any (·.1) = false := by rfl) :
    PE X (.Call (.Attribute o "add" apos) (e :: es) [] cpos) (tSAdd w to t) := by
  subst ew
  exact pe_sadd ho ha hbase hfew hline hs hplain
end
end MM

set_option Elab.async false
set_option linter.all false
set_option maxRecDepth 100000
set_option maxHeartbeats 2000000
namespace MM
open PySem PySem.Spec PyProof.Rows L2
/-! math.lcm -/
section
variable {X : Cx}
def rLcm : List V → Hp → VK → Prop := fun vs H Q => ∃ a b : Int, vs = [.int a, .int b] ∧ a.natAbs < 2 ^ 13000 ∧ b.natAbs < 2 ^ 13000 ∧ Q (.int ((Nat.lcm a.natAbs b.natAbs : Nat) : Int)) H
theorem log_ok {n : Nat} (h : n < 2 ^ 13000) : ¬ n.log2 / 30 + 1 > 450 := by
  have := PySem.W.mg_log (n := n) (k := 12999) h
  omega
theorem lcm_ok {a b : Nat} (ha : a < 2 ^ 13000) (hb : b < 2 ^ 13000) : (Nat.lcm a b).log2 < bitsLine := by
  have h1 : Nat.lcm a b ≤ a * b := Nat.div_le_self _ _
  have h2 : a * b < 2 ^ 26000 := by
    rw [show (26000 : Nat) = 13000 + 13000 from rfl, Nat.pow_add]
    exact Nat.mul_lt_mul'' ha hb
  have h3 := PySem.W.mg_log (n := Nat.lcm a b) (k := 25999) (Nat.lt_of_le_of_lt h1 h2)
  exact Nat.lt_of_le_of_lt h3 (by decide +kernel)
theorem cr_lcm : CallR X (.builtin "math.lcm") rLcm := by
  intro pins s σ H vs us Q I r h
  obtain ⟨a, b, rfl, ha, hb, q⟩ := h
  obtain ⟨t, u, rfl⟩ := Vals.int2 r
  have e : (Nat.lcm 1 a.natAbs).lcm b.natAbs = Nat.lcm a.natAbs b.natAbs := by rw [Nat.lcm_one_left]
  refine PySem.call_function_meets PySem.W.MGF.kind_lcm PySem.W.MGF.plain_lcm PySem.W.MGF.entry_lcm (PySem.W.MGF.args_lcm _ _) (PySem.W.mg_run_lcm a t b u (log_ok ?_) (log_ok ?_) ?_).meets ?_
  · exact Nat.max_lt.mpr ⟨by exact Nat.one_lt_two_pow (by decide), ha⟩
  · exact Nat.max_lt.mpr ⟨ha, hb⟩
  · rw [e, Int.natAbs_natCast]
    exact lcm_ok ha hb
  · rw [e]
    exact ⟨.int _, H, I.tok _, ⟨_, rfl⟩, q⟩
/-- // by a divisor that is not 0 -/
def CDivG (_ j : Int) : Prop := j ≠ 0 ∧ j.natAbs.log2 < 9000
theorem op_fdivG : OpR X (binaryOp .FloorDiv) (rI CDivG fun i j => .int (i.fdiv j)) := opI fun i j _ _ _ _ _ hc q =>
  floordiv_int hc.1 q (.inl (PyProof.noPylong_of_log2 hc.2))
theorem divG {i j : Int} (h0 : j ≠ 0) (h : j.natAbs < 2 ^ 8999) : CDivG i j := ⟨h0, Nat.lt_of_lt_of_le (PySem.Flt.log2_lt_of (by decide) h) (by decide)⟩
end
end MM

set_option Elab.async false
set_option linter.all false
set_option maxRecDepth 100000
set_option maxHeartbeats 2000000
/-! more comprehensions: over enumerate, with a test -/
namespace MM
open PySem PySem.Spec PyProof.Rows L2
section
variable {K : PySem.W.Frag} {v : Nat} {g : TG} {tt : TT} {te : TE} {vs : List Nat} {σ : L2.St} {H1 : Hp} {D : Addr} {Qd : Hp → Prop} {n : Nat} {a : Addr} {xs : List V}
/-- what a comprehension asks of a turn with the item x -/
def LcT (g : TG) (tt : TT) (te : TE) (vs : List Nat) (σ : L2.St) (D : Addr) (Nx : Hp → Prop) (x : V) (H : Hp) : Prop :=
  g x (wipe σ vs) H fun σ2 H2 => wipe σ2 vs = wipe σ vs ∧ tt σ2 H2 fun b H3 =>
    if b = true then te σ2 H3 fun y H4 => ∃ acc, H4 D = some (.lst acc) ∧ acc.length < sizeLine ∧ Nx (upd H4 D (.lst (acc ++ [y]))) else Nx H3
theorem lc_enumT (Pv : Nat → Hp → Prop) (h0 : Pv 0 (upd H1 D (.lst []))) (at_a : ∀ i H, i ≤ xs.length → Pv i H → SqT K H a xs)
    (hs : ∀ i x H T, xs[i]? = some x → Pv i H → H T = none → LcT g tt te vs σ D (Pv (i + 1)) (.ref T) (upd H T (.tup [.int (i : Nat), x])))
    (hd : ∀ H, Pv xs.length H → Qd H) : LcW (Itu K a) g tt te vs σ H1 D Qd := by
  refine ⟨fun i m H => m = xs.length - i ∧ i ≤ xs.length ∧ Pv i H, ⟨_, rfl, Nat.zero_le _, h0⟩, ?_⟩
  rintro i m H ⟨rfl, le, p⟩
  by_cases lt : i < xs.length
  · have ex := List.getElem?_eq_getElem lt
    refine .inr ⟨⟨xs, _, at_a i H le p, ex⟩, Pv (i + 1), fun H' p' => ⟨_, by omega, rfl, lt, p'⟩, ?_⟩
    rintro v H' ⟨T, x, rfl, free, rfl, all⟩
    exact hs i x H T (all xs (at_a i H le p)) p free
  · have e : i = xs.length := by omega
    subst e
    exact .inl ⟨⟨xs, at_a _ H le p, Nat.le_refl _⟩, hd H p⟩
theorem lc_enumL (Pv : Nat → Hp → Prop) (h0 : Pv 0 (upd H1 D (.lst []))) (at_a : ∀ i H, i ≤ xs.length → Pv i H → SqL K H a xs)
    (hs : ∀ i x H T, xs[i]? = some x → Pv i H → H T = none → LcT g tt te vs σ D (Pv (i + 1)) (.ref T) (upd H T (.tup [.int (i : Nat), x])))
    (hd : ∀ H, Pv xs.length H → Qd H) : LcW (Ite K a) g tt te vs σ H1 D Qd := by
  refine ⟨fun i m H => m = xs.length - i ∧ i ≤ xs.length ∧ Pv i H, ⟨_, rfl, Nat.zero_le _, h0⟩, ?_⟩
  rintro i m H ⟨rfl, le, p⟩
  by_cases lt : i < xs.length
  · have ex := List.getElem?_eq_getElem lt
    refine .inr ⟨⟨xs, _, at_a i H le p, ex⟩, Pv (i + 1), fun H' p' => ⟨_, by omega, rfl, lt, p'⟩, ?_⟩
    rintro v H' ⟨T, x, rfl, free, rfl, all⟩
    exact hs i x H T (all xs (at_a i H le p)) p free
  · have e : i = xs.length := by omega
    subst e
    exact .inl ⟨⟨xs, at_a _ H le p, Nat.le_refl _⟩, hd H p⟩
theorem filt_step {xs : List V} {i : Nat} {x : V} (hi : xs[i]? = some x) (p : V → Bool) (f : V → V) :
    ((xs.take (i + 1)).filter p).map f = ((xs.take i).filter p).map f ++ (if p x = true then [f x] else []) := by
  rw [List.take_add_one, hi, List.filter_append, List.map_append]
  cases e : p x <;> simp [e]
/-- with a test -/
theorem lc_seqF (p : V → Bool) (f : V → V) (hx : SqL K H1 a xs) (nD : H1 D = none) (hn : xs.length ≤ sizeLine)
    (ht : ∀ x acc, x ∈ xs → ∀ Q : Bool → Hp → Prop, Q (p x) (upd H1 D (.lst acc)) → tt ((wipe σ [v]).set v (some x)) (upd H1 D (.lst acc)) Q)
    (hs : ∀ x acc, x ∈ xs → p x = true → ∀ Q : VK, Q (f x) (upd H1 D (.lst acc)) → te ((wipe σ [v]).set v (some x)) (upd H1 D (.lst acc)) Q)
    (hd : Qd (upd H1 D (.lst ((xs.filter p).map f)))) : LcW (Itl K a) (gName v) tt te [v] σ H1 D Qd := by
  refine lc_list (xs := xs) (Pv := fun i H => H = upd H1 D (.lst (((xs.take i).filter p).map f))) rfl (fun i H _ e => by rw [e]; exact sql_new hx nD) ?_ (fun H e => by rw [e, List.take_length]; exact hd)
  intro i x H hi e
  subst e
  have lt : i < xs.length := (List.getElem?_eq_some_iff.mp hi).1
  have le : (((xs.take i).filter p).map f).length ≤ i := by
    rw [List.length_map]
    exact Nat.le_trans (List.length_filter_le _ _) (by rw [List.length_take]; omega)
  refine ⟨wipe_one, ht x _ (List.mem_of_getElem? hi) _ ?_⟩
  have st := filt_step hi p f
  cases e : p x with
  | true =>
    rw [if_pos rfl]
    refine hs x _ (List.mem_of_getElem? hi) e _ ⟨_, upd_same, Nat.lt_of_le_of_lt le (Nat.lt_of_lt_of_le lt hn), ?_⟩
    rw [upd_upd, st, if_pos e]
  | false =>
    rw [if_neg Bool.false_ne_true, st, if_neg (by rw [e]; exact Bool.false_ne_true), List.append_nil]
theorem lc_tplF (p : V → Bool) (f : V → V) (hx : SqT K H1 a xs) (nD : H1 D = none) (hn : xs.length ≤ sizeLine)
    (ht : ∀ x acc, x ∈ xs → ∀ Q : Bool → Hp → Prop, Q (p x) (upd H1 D (.lst acc)) → tt ((wipe σ [v]).set v (some x)) (upd H1 D (.lst acc)) Q)
    (hs : ∀ x acc, x ∈ xs → p x = true → ∀ Q : VK, Q (f x) (upd H1 D (.lst acc)) → te ((wipe σ [v]).set v (some x)) (upd H1 D (.lst acc)) Q)
    (hd : Qd (upd H1 D (.lst ((xs.filter p).map f)))) : LcW (Itt K a) (gName v) tt te [v] σ H1 D Qd := by
  refine lc_tup (xs := xs) (Pv := fun i H => H = upd H1 D (.lst (((xs.take i).filter p).map f))) rfl (fun i H _ e => by rw [e]; exact sqt_new hx nD) ?_ (fun H e => by rw [e, List.take_length]; exact hd)
  intro i x H hi e
  subst e
  have lt : i < xs.length := (List.getElem?_eq_some_iff.mp hi).1
  have le : (((xs.take i).filter p).map f).length ≤ i := by
    rw [List.length_map]
    exact Nat.le_trans (List.length_filter_le _ _) (by rw [List.length_take]; omega)
  refine ⟨wipe_one, ht x _ (List.mem_of_getElem? hi) _ ?_⟩
  have st := filt_step hi p f
  cases e : p x with
  | true =>
    rw [if_pos rfl]
    refine hs x _ (List.mem_of_getElem? hi) e _ ⟨_, upd_same, Nat.lt_of_le_of_lt le (Nat.lt_of_lt_of_le lt hn), ?_⟩
    rw [upd_upd, st, if_pos e]
  | false =>
    rw [if_neg Bool.false_ne_true, st, if_neg (by rw [e]; exact Bool.false_ne_true), List.append_nil]
end
end MM
namespace MM
open PySem PySem.Spec PyProof.Rows L2
section
variable {K : PySem.W.Frag} {H : Hp} {Q : VK}
theorem slA {a : Addr} {xs : List V} {lo hi : Option Int} (S : SqT K H a xs) (q : ∀ H' t, Same H H' → SqT K H' t (cutV xs lo hi) → Q (.ref t) H') : rSlA K (.ref a) lo hi H Q := by
  refine ⟨a, xs, rfl, S, fun h => ?_, fun _ p np => q _ p (same_new np) (.inl (.inl upd_same))⟩
  refine q H a (Same.refl H) ?_
  have : cutV xs lo hi = xs := by
    unfold cutV
    rw [h.1, h.2, List.drop_zero, Nat.sub_zero, List.take_length]
  rw [this]
  exact S
theorem catA {a b : Addr} {xs ys : List V} (S : SqT K H a xs) (S2 : SqT K H b ys) (z : xs.length + ys.length ≤ sizeLine) (q : ∀ H' t, Same H H' → SqT K H' t (xs ++ ys) → Q (.ref t) H') : rCatA K (.ref a) (.ref b) H Q := by
  refine ⟨a, b, xs, ys, rfl, rfl, S, S2, z, fun h => ?_, fun _ h => ?_, fun _ _ p np => q _ p (same_new np) (.inl (.inl upd_same))⟩
  · exact q H b (Same.refl H) (by rw [h]; exact S2)
  · exact q H a (Same.refl H) (by rw [h, List.append_nil]; exact S)
end
end MM
namespace MM
open PySem PySem.Spec PyProof.Rows L2
def rTupOf (K : PySem.W.Frag) : List V → Hp → VK → Prop := fun xs H Q => ∃ p ys, xs = [V.ref p] ∧ ((SqL K H p ys ∧ ∀ (l : Addr), H l = none → Q (.ref l) (upd H l (.tup ys))) ∨ SqT K H p ys ∧ Q (.ref p) H)
end MM

set_option Elab.async false
set_option linter.all false
set_option maxRecDepth 100000
set_option maxHeartbeats 2000000
/-! sorted of tuples of ints, of lists of lists of ints, of tuples of tuples by their lengths; walks over two at once -/
namespace MM
open PySem PySem.Spec PyProof.Rows L2 PySem.Calls PySem.W
section
variable {prog : Program} {w : World} {A : Around} {E : Value → Shared → Prop} {s : Shared}
theorem collect_tuple {l : Addr} {vs : List Value} {Q : List Value → Shared → Prop} (hl : s.heap.IsTuple l vs.toArray)
    (h : Q vs { s with heap := (s.heap.push (seqObj "list" #[] 0)).update s.heap.objs.size (Obj.mapSeq (· ++ vs.toArray)) }) (hsz : vs.length ≤ sizeLine) :
    wpAny (model prog w) A (collect (.ref l)) Q E s := by
  obtain ⟨o, ho, hc, n, hd⟩ := id hl
  unfold collect
  refine wpAny_bind (wpAny_runValue (codeAny_builtin entry_proto_collect' ?_))
  show wpAny _ _ (do again (.builtin "list.__iadd__" ⟨[← newList [], .ref l], []⟩)) _ _ s
  refine wpAny_bind (wpAny_newList (wpAny_pure ⟨Code.quiet_builtin _ (by decide +kernel), codeAny_builtin entry_list_iadd' ?_⟩))
  show wpAny _ _ (Builtin.List.listExtendWith (.ref s.heap.objs.size) (.ref l) (.ref s.heap.objs.size)) _ _ { s with heap := s.heap.push (seqObj "list" #[] 0) }
  unfold Builtin.List.listExtendWith
  have ho' : (s.heap.push (seqObj "list" #[] 0)).get? l = some o := Heap.get?_push_of_some _ ho
  refine wpAny_bind (wpAny_typeOf (T := "tuple") ⟨o, ho', hc⟩ ?_)
  have ht : (Value.type "tuple" == Value.type "tuple") = true := by rfl
  rw [if_pos (by rw [ht]; simp)]
  refine wpAny_bind (listItems_at ho' hd ?_)
  refine wpAny_bind (listItems_at (xs := #[]) (n := 0) (Heap.get?_push_size _ rfl) rfl ?_)
  rw [if_neg (by simp)]
  refine wpAny_bind (listUpdate_at (xs := #[]) (n := 0) (Heap.get?_push_size _ rfl) rfl ?_ (Nat.zero_le _) (by show (#[] ++ vs.toArray).size ≤ sizeLine + 1; simp only [Array.size_append, List.size_toArray, List.length_nil]; omega))
  refine wpAny_pure ?_
  show wpAny (model prog w) A (do
      let o ← load s.heap.objs.size
      match o.data with
      | .seq xs _ => pure xs.toList
      | _ => unsupported "internal:collect") Q E { s with heap := (s.heap.push (seqObj "list" #[] 0)).update s.heap.objs.size (Obj.mapSeq (· ++ vs.toArray)) }
  refine wpAny_bind (wpAny_load (get?_update_seq (Heap.get?_push_size _ rfl) _) ?_)
  show wpAny _ _ (pure ((#[] : Array Value) ++ vs.toArray).toList) Q E _
  rw [show ((#[] : Array Value) ++ vs.toArray).toList = vs by simp]
  exact wpAny_pure h
theorem sorted_of_tup {l : Addr} {vs : List Value} {kw : List (Str × Value)} {Q : Value → Shared → Prop} (hl : s.heap.IsTuple l vs.toArray) (hL : vs.length ≤ sizeLine) (ha1 : argsOk "sorted" ⟨[.ref l], kw⟩) (ha2 : ∀ x, argsOk "list.sort" ⟨[.ref x], kw⟩)
    (body : ∀ E' : Value → Shared → Prop, wpAny (model prog w) A.in1.in1 (Builtin.«list.sort» ⟨[.ref (s.heap.objs.size + 1)], kw⟩) (fun f s' => f = .done (.ret .none) ∧ Q (.ref (s.heap.objs.size + 1)) s') E' { s with heap := copyHeap s.heap vs }) :
    wpAny (model prog w) A (call (.builtin "sorted") [.ref l] kw) Q E s := by
  refine call_function_entry_kw kind_sorted plain_sorted entry_sorted ha1 ?_
  unfold Builtin.«sorted»
  refine wpAny_bind (m := checkCount "sorted" 1 1 _) (wpAny_pure ?_)
  refine wpAny_bind (collect_tuple hl ?_ hL)
  refine wpAny_bind (wpAny_newList ?_ hL)
  have hsz : ((s.heap.push (seqObj "list" #[] 0)).update s.heap.objs.size (Obj.mapSeq (· ++ vs.toArray))).objs.size = s.heap.objs.size + 1 := by
    rw [Heap.size_update, size_push']
  show wpAny _ _ _ _ _ { s with heap := copyHeap s.heap vs }
  rw [hsz]
  refine wpAny_bind (wpAny_holding (wpAny_call_entry_kw slot_list_sort ⟨_, copyHeap_at s.heap vs, rfl⟩ entry_list_sort ?body (ha2 _)))
  case body =>
    show wpAny (model prog w) A.in1.in1 (Builtin.«list.sort» ⟨[.ref (s.heap.objs.size + 1)], kw⟩) _ _ _
    refine wpAny_mono (body _) (fun f s' hf => ?_) fun _ _ e => e
    obtain ⟨rfl, hq⟩ := hf
    exact ⟨_, rfl, wpAny_pure ⟨_, rfl, hq⟩⟩
variable {β : Type} {vs : List Value} {bs : List β} {enc : β → PyData} {R : Value → β → Prop}
theorem sorted_tup_data {l : Addr} {Q : Value → Shared → Prop} (hl : s.heap.IsTuple l vs.toArray) (e : EachIs R vs bs) (er : EachIs (fun v b => ∃ as, Reads s.heap v (enc b) as) vs bs) (hal : AllAlike (bs.map enc)) (hk : Sortable (bs.map enc)) (hL : bs.length ≤ sizeLine)
    (hu : ∀ b, b ∈ bs → A.units + 2 + (enc b).depth < cLine) (h : ∀ out, out.length = bs.length → EachIs R out (bs.mergeSort (dataLe false enc)) → Q (.ref (s.heap.objs.size + 1)) { s with heap := sortedAll s.heap vs (List.toArray out) }) :
    wpAny (model prog w) A (call (.builtin "sorted") [.ref l]) Q E s := by
  have er' : EachIs (fun v b => ∃ as, Reads (sortingHeap (copyHeap s.heap vs) (s.heap.objs.size + 1) vs) v (enc b) as) vs bs := er.mono fun _ _ ⟨as, r⟩ => ⟨as, PyProof.Rows.Reads.keeps (fun _ _ => sorting_copy_old) r⟩
  have hL' : vs.length ≤ sizeLine := by rw [e.length]; exact hL
  exact sorted_of_tup hl hL' (args_sorted1 _) (fun _ => args_list_sort _) fun _ => list_sort_vals (s := { s with heap := copyHeap s.heap vs }) (copyHeap_at s.heap vs)
    (SortsAt.data (s := { s with heap := sortingHeap (copyHeap s.heap vs) (s.heap.objs.size + 1) vs }) (each_map (R := fun v d => ∃ as, Reads (sortingHeap (copyHeap s.heap vs) (s.heap.objs.size + 1) vs) v d as) enc er') hal hk (bound_map hu)) hL' ⟨rfl, h _ (by rw [sortVals_length false rfl]; exact e.length) (sortVals_data false e er' hal)⟩
theorem sorted_tup_key {l : Addr} {f : Value} {kw : List (Str × Value)} {b : Bool} {Q : Value → Shared → Prop} (k : β → PyData) (hl : s.heap.IsTuple l vs.toArray) (e : EachIs R vs bs) (hal : AllAlike (bs.map k)) (hk : Sortable (bs.map k)) (hL : bs.length ≤ sizeLine)
    (hu : ∀ x, x ∈ bs → A.units + 2 + (k x).depth < cLine) (ha1 : argsOk "sorted" ⟨[.ref l], kw⟩) (ha2 : ∀ x, argsOk "list.sort" ⟨[.ref x], kw⟩) (ht : ∀ x, Builtin.«list.sort» ⟨[.ref x], kw⟩ = ksk_tree x f b)
    (turn : ∀ (v : Value) (x : β), R v x → x ∈ bs → ∀ (h : Heap) (tk : Nat), (∀ b o, s.heap.get? b = some o → h.get? b = some o) →
      wpAny (model prog w) A.in1.in1 (call f [v]) (KeyPure (k x) { s with heap := h, toks := tk }) (fun _ _ => False) { s with heap := h, toks := tk })
    (h : ∀ out c h' tk, (∀ b o, s.heap.get? b = some o → h'.get? b = some o) → s.heap.get? (s.heap.objs.size + 1) = none → h'.get? (s.heap.objs.size + 1) = some (seqObj "list" (List.toArray out) c) → out.length = bs.length → EachIs R out (bs.mergeSort (dataLe b k)) →
      Q (.ref (s.heap.objs.size + 1)) { s with heap := h', toks := tk }) :
    wpAny (model prog w) A (call (.builtin "sorted") [.ref l] kw) Q E s := by
  have fresh : s.heap.get? (s.heap.objs.size + 1) = none := Heap.get?_none_of_le (Nat.le_succ _)
  have up : ∀ {g : Heap}, KeepsBut (s.heap.objs.size + 1) (copyHeap s.heap vs) g → ∀ b o, s.heap.get? b = some o → g.get? b = some o := fun {g} kp b o q =>
    kp b o (Nat.ne_of_lt (Nat.lt_succ_of_lt (Heap.lt_size q))) (copyHeap_old q)
  refine sorted_of_tup hl (by rw [e.length]; exact hL) ha1 ha2 fun E' => ?_
  rw [ht]
  refine keyH_tree (kz := bs.map k) (s := { s with heap := copyHeap s.heap vs }) (copyHeap_at s.heap vs) (by rw [List.length_map]; exact e.length.symm) (by rw [e.length]; exact hL) hal hk (bound_map (A := A.in1.in1) hu)
    (keyH_turns (s := { s with heap := copyHeap s.heap vs }) e fun v x hR hx h tk kp => turn v x hR hx h tk (up kp)) fun h' tk out c kp hD ko => ⟨rfl, ?_⟩
  exact h out c h' tk (up kp) fresh hD ((ko.length (by rw [List.length_map]; exact e.length.symm)).trans e.length) (keyedOut_each k ko e)
end
/-! by values -/
section
variable {X : Cx}
theorem each_of {R : V → Value → Prop} : ∀ {xs : List V} {us : List Value}, Paired R xs us → ∀ {β : Type} {bs : List (V × β)}, xs = bs.map Prod.fst → EachIs (fun v b => R b.1 v) us bs
  | _, _, .nil, _, [], _ => .nil
  | _, _, .nil, _, _ :: _, e => by cases e
  | _, _, .cons _ _, _, [], e => by cases e
  | _, _, .cons r t, _, b :: bs, e => by
    rw [List.map_cons] at e
    obtain ⟨e1, e2⟩ := List.cons.inj e
    subst e1
    exact .cons r (each_of t e2)
theorem vals_of_each {β : Type} : ∀ {us : List Value} {bs : List (V × β)}, EachIs (fun v b => RelV b.1 v) us bs → Vals (bs.map Prod.fst) us
  | _, _, .nil => .nil
  | _, _, .cons h t => .cons h (vals_of_each t)
theorem each_and {α β : Type} {R S : α → β → Prop} : ∀ {us : List α} {bs : List β}, EachIs R us bs → (∀ u b, R u b → b ∈ bs → S u b) → EachIs S us bs
  | _, _, .nil, _ => .nil
  | _, _, .cons h t, f => .cons (f _ _ h (by simp)) (each_and t fun u b r m => f u b r (by simp [m]))
/-- sorted(xs), xs a list of lists of ints -/
def rSortedLI (K : PySem.W.Frag) : List V → Hp → VK → Prop := fun vs H Q => ∃ (a : Addr) (bs : List (V × List Int)), vs = [.ref a] ∧ SqL K H a (bs.map Prod.fst) ∧ bs.length ≤ 1000 ∧ (∀ b ∈ bs, ∃ t, b.1 = .ref t ∧ SqL K H t (b.2.map V.int)) ∧
  ∀ (zs : List (V × List Int)) (p : Addr), zs.Perm bs → zs.Pairwise (fun x y => x.2 ≤ y.2) → H p = none → Q (.ref p) (upd H p (.lst (zs.map Prod.fst)))
theorem cr_sortedLI (hu : X.A.units + 64 < cLine) : CallR X (.builtin "sorted") (rSortedLI X.K) := by
  intro pins s σ H vs us Q I r h
  obtain ⟨a, bs, rfl, hs, hl, hb, q⟩ := h
  obtain ⟨its, rv, pl, hz⟩ := I.list hs
  rw [Vals.ref1 r]
  have e := each_of rv rfl
  have sml : ∀ n, n ≤ 1000 → n ≤ sizeLine := fun n h => Nat.le_of_lt (Nat.lt_of_le_of_lt h (by decide))
  refine sorted_data (enc := fun b : V × List Int => .list (b.2.map .int)) pl.isList e (each_and e fun u b ru hm => ?_) (AllAlike.of fun b b' => by rw [alike]; exact alike_ints _ _) (Sortable.others fun b => ⟨by simp, by simp⟩) (sml _ hl) (fun b _ => ?_) fun out lo eo => ?_
  · obtain ⟨t, et, St⟩ := hb b hm
    rw [et] at ru
    obtain ⟨as, rd⟩ := Dp.reads I (.list (b.2.map .int)) (.ref t) u (.lst St (dp_ints _)) ru
    exact ⟨as, rd⟩
  · have := depth_ints b.2
    simp only [PyData.depth]
    omega
  obtain ⟨ep, he'⟩ := PyProof.Rows.sortedAll_at s.heap its out.toArray
  rw [dataLe_rows (fun b : V × List Int => b.2)] at eo
  have pm := List.mergeSort_perm bs (fun p q : V × List Int => decide (p.2 ≤ q.2))
  have pw := List.pairwise_mergeSort (le := fun p q : V × List Int => decide (p.2 ≤ q.2)) (fun a b c h1 h2 => decide_eq_true (List.le_trans (of_decide_eq_true h1) (of_decide_eq_true h2)))
    (fun a b => by
      rcases List.le_total a.2 b.2 with h | h
      · simp [h]
      · simp [h]) bs
  have hlen : ((bs.mergeSort fun p q => decide (p.2 ≤ q.2)).map Prod.fst).length ≤ sizeLine := by
    rw [List.length_map, pm.length_eq]
    exact sml _ hl
  exact ⟨.ref _, upd H (s.heap.objs.size + 1) (.lst ((bs.mergeSort fun p q => decide (p.2 ≤ q.2)).map Prod.fst)), I.laid (t' := s.toks) (fun _ _ => PyProof.Rows.sortedAll_old) (Nat.le_succ _) ⟨hlen, out, ep, vals_of_each eo, he'⟩, rfl,
    q _ _ pm (pw.imp fun h => of_decide_eq_true h) (I.hok.fresh (Nat.le_succ _))⟩
/-- sorted(t), t a tuple of ints -/
def rSortedIT (K : PySem.W.Frag) : List V → Hp → VK → Prop := fun vs H Q => ∃ (a : Addr) (ns : List Int), vs = [.ref a] ∧ SqT K H a (ns.map V.int) ∧ ns.length ≤ 1000 ∧
  ∀ (zs : List Int) (p : Addr), zs.Perm ns → zs.Pairwise (· ≤ ·) → H p = none → Q (.ref p) (upd H p (.lst (zs.map V.int)))
theorem each_ints : ∀ {us : List Value} {ns : List Int}, Vals (ns.map V.int) us → EachIs (fun v n => RelV (.int n) v) us ns
  | _, [], r => by
    cases r
    exact .nil
  | _, n :: ns, r => by
    cases r with
    | cons h t => exact .cons h (each_ints t)
theorem vals_each_ints : ∀ {us : List Value} {ns : List Int}, EachIs (fun v n => RelV (.int n) v) us ns → Vals (ns.map V.int) us
  | _, _, .nil => .nil
  | _, _, .cons h t => .cons h (vals_each_ints t)
theorem cr_sortedIT (hu : X.A.units + 64 < cLine) : CallR X (.builtin "sorted") (rSortedIT X.K) := by
  intro pins s σ H vs us Q I r h
  obtain ⟨a, ns, rfl, hs, hl, q⟩ := h
  obtain ⟨its, rv, pl, hz⟩ := I.tuple hs
  rw [Vals.ref1 r]
  have e := each_ints rv
  have sml : ∀ n, n ≤ 1000 → n ≤ sizeLine := fun n h => Nat.le_of_lt (Nat.lt_of_le_of_lt h (by decide))
  refine sorted_tup_data (enc := fun n : Int => .int n) pl e (each_and e fun u b ru hm => ?_) (AllAlike.of fun b b' => by simp [alike]) (Sortable.others fun b => ⟨by simp, by simp⟩) (sml _ hl) (fun b _ => ?_) fun out lo eo => ?_
  · obtain ⟨t, rfl⟩ := ru
    exact ⟨_, Reads.int b t⟩
  · simp only [PyData.depth]
    omega
  obtain ⟨ep, he'⟩ := PyProof.Rows.sortedAll_at s.heap its out.toArray
  rw [dataLe_int (fun b : Int => b)] at eo
  have pm := List.mergeSort_perm ns (fun p q : Int => decide (p ≤ q))
  have pw := List.pairwise_mergeSort (le := fun p q : Int => decide (p ≤ q)) (fun a b c h1 h2 => decide_eq_true (Int.le_trans (of_decide_eq_true h1) (of_decide_eq_true h2)))
    (fun a b => by
      rcases Int.le_total a b with h | h
      · simp [h]
      · simp [h]) ns
  have hlen : ((ns.mergeSort fun p q => decide (p ≤ q)).map V.int).length ≤ sizeLine := by
    rw [List.length_map, pm.length_eq]
    exact sml _ hl
  exact ⟨.ref _, upd H (s.heap.objs.size + 1) (.lst ((ns.mergeSort fun p q => decide (p ≤ q)).map V.int)), I.laid (t' := s.toks) (fun _ _ => PyProof.Rows.sortedAll_old) (Nat.le_succ _) ⟨hlen, out, ep, vals_each_ints eo, he'⟩, rfl,
    q _ _ pm (pw.imp fun h => of_decide_eq_true h) (I.hok.fresh (Nat.le_succ _))⟩
/-- sorted(t, key=len), t a tuple of tuples -/
def rSortLen (K : PySem.W.Frag) : List V → Hp → VK → Prop := fun vs H Q => ∃ (β : Type) (n : β → Nat) (a : Addr) (bs : List (V × β)), vs = [.ref a] ∧ SqT K H a (bs.map Prod.fst) ∧ bs.length ≤ 1000 ∧ (∀ b ∈ bs, ∃ t ys, b.1 = .ref t ∧ SqT K H t ys ∧ ys.length = n b.2) ∧
  ∀ (zs : List (V × β)) (p : Addr), zs.Perm bs → zs.Pairwise (fun x y => n x.2 ≤ n y.2) → H p = none → Q (.ref p) (upd H p (.lst (zs.map Prod.fst)))
theorem run_sortLen (hu : X.A.units + 64 < cLine) {pins : List (Addr × Obj)} {s : Shared} {σ : L2.St} {H : Hp} {vs : List V} {us : List Value} {Q : VK} (I : Inv X pins σ H s) (r : Vals vs us) (h : rSortLen X.K vs H Q) :
    wpAny (model X.prog X.w) X.A (call (.builtin "sorted") us [(Str.ofString "key", .builtin "len")]) (EP X pins σ Q) X.xe s := by
  obtain ⟨β, n, a, bs, rfl, hs, hl, hb, q⟩ := h
  obtain ⟨its, rv, pl, hz⟩ := I.tuple hs
  rw [Vals.ref1 r]
  have e := each_of rv rfl
  have sml : ∀ n, n ≤ 1000 → n ≤ sizeLine := fun n h => Nat.le_of_lt (Nat.lt_of_le_of_lt h (by decide))
  refine sorted_tup_key (b := false) (fun b : V × β => .int (n b.2 : Int)) pl e (AllAlike.of fun b b' => by simp [alike]) (Sortable.others fun b => ⟨by simp, by simp⟩) (sml _ hl) (fun b _ => ?_) (ksk_s1 _ _) (fun _ => ksk_l1 _ _) (fun _ => ksk_t4 _ _) (fun v x rx hx h tk kp => ?_) fun out c h' tk kp fr hD lo eo => ?_
  · simp only [PyData.depth]
    omega
  · obtain ⟨t, ys, et, St, el⟩ := hb x hx
    rw [et] at rx
    cases rx
    obtain ⟨its2, rv2, p2, hz2⟩ := I.tuple St
    have hlen := rv2.length
    have p3 : h.IsTuple t its2.toArray := by
      obtain ⟨o, ho, hc, hd⟩ := p2
      exact ⟨o, kp _ _ ho, hc, hd⟩
    have hn := line63
    refine len_tuple (s := { s with heap := h, toks := tk }) p3 (by simp only [List.size_toArray] <;> omega) ⟨h, tk + 1 + 1, rfl, fun b o e => e, ?_⟩
    rw [List.size_toArray, ← hlen, el]
    exact Reads.int _ _
  rw [dataLe_int (fun b : V × β => (n b.2 : Int))] at eo
  have pm := List.mergeSort_perm bs (fun p q : V × β => decide ((n p.2 : Int) ≤ (n q.2 : Int)))
  have pw := List.pairwise_mergeSort (le := fun p q : V × β => decide ((n p.2 : Int) ≤ (n q.2 : Int))) (fun a b c h1 h2 => decide_eq_true (Int.le_trans (of_decide_eq_true h1) (of_decide_eq_true h2)))
    (fun a b => by
      rcases Int.le_total (n a.2 : Int) (n b.2 : Int) with h | h
      · simp [h]
      · simp [h]) bs
  have hlen : ((bs.mergeSort fun p q => decide ((n p.2 : Int) ≤ (n q.2 : Int))).map Prod.fst).length ≤ sizeLine := by
    rw [List.length_map, pm.length_eq]
    exact sml _ hl
  exact ⟨.ref _, upd H (s.heap.objs.size + 1) (.lst ((bs.mergeSort fun p q => decide ((n p.2 : Int) ≤ (n q.2 : Int))).map Prod.fst)), I.laid (t' := tk) kp (Nat.le_succ _) ⟨hlen, out, c, vals_of_each eo, hD⟩, rfl,
    q _ _ pm (pw.imp fun h => by have := of_decide_eq_true h; omega) (I.hok.fresh (Nat.le_succ _))⟩
theorem pe_sortLen {e : Expr} {t : TA} {p p2 kpos pos : Pos} (hu : X.A.units + 64 < cLine) (hg : Gl X "sorted") (hm : X.mg "sorted" = none) (hg2 : Gl X "len") (hm2 : X.mg "len" = none) (ha : PA X [e] t)
    (he : backTo pos (starEach [e] X.env) = (false, eval e X.env) :: backTo pos (starEach [] X.env) := by rfl) (hpl : (backTo pos (starEach [e] X.env)).any (·.1) = false := by rfl)
    (hall : (backToKw pos (keywordEach [⟨some (Str.ofString "key"), .Name "len" p2, kpos⟩] X.env)).all (·.1.isSome) = true := by rfl) (hnone : (backToKw pos (keywordEach [⟨some (Str.ofString "key"), .Name "len" p2, kpos⟩] X.env)).any (·.1.isNone) = false := by rfl)
    (hks : (backToKw pos (keywordEach [⟨some (Str.ofString "key"), .Name "len" p2, kpos⟩] X.env)).filterMap (·.1) = [Str.ofString "key"] := by rfl) :
    PE X (.Call (.Name "sorted" p) [e] [⟨some (Str.ofString "key"), .Name "len" p2, kpos⟩] pos) (tCB (rSortLen X.K) t) := by
  refine ⟨fun pins s σ H Q I h => ?_⟩
  refine wpAny_Call_Name_kw (ld_blt I hg hm (u := .builtin "sorted") (by decide +kernel) ?_ (by decide) (by decide))
  refine PyProof.Rows.callWith_kw (thn (ha.run pos pins s σ H _ I h) fun us s1 ⟨vs, H1, I1, r1, q1⟩ => ?_) he hpl hall hnone
  show wpAny _ _ (evalAll [do let v ← eval (.Name "len" p2) X.env; standAt pos; pure v]) _ _ s1
  refine wpAny_evalAll_cons (wpAny_bind (ld_blt I1 hg2 hm2 (u := .builtin "len") (by decide +kernel) (wpAny_bind (wpAny_standAt (wpAny_pure (wpAny_evalAll_nil ?_)))) (by decide) (by decide)))
  rw [hks]
  exact run_sortLen hu I1 r1 q1
end
end MM
namespace MM
open PySem PySem.Spec PyProof.Rows L2
section
variable {K : PySem.W.Frag} {a b : Addr} {xs ys : List V} {g : TG} {tb : TS} {D : Ends} {σ : L2.St} {H : Hp}
theorem for_zipM (Pv : Nat → L2.St → Hp → Prop) (h0 : Pv 0 σ H) (hq : ∀ i σ H, Pv i σ H → SqL K H a xs ∧ SqL K H b ys)
    (hs : ∀ (i : Nat) (x y : V) (T : Addr) (σ : L2.St) (H : Hp), xs[i]? = some x → ys[i]? = some y → Pv i σ H → H T = none → g (.ref T) σ (upd H T (.tup [x, y])) fun σ2 H2 => tb { D with nx := Pv (i + 1), ct := Pv (i + 1), bk := D.nx } σ2 H2)
    (hd : ∀ σ H, Pv (min xs.length ys.length) σ H → D.nx σ H) : ForW (Itz K a b) g tb D σ H := by
  refine ⟨fun i m σ H => m = min xs.length ys.length - i ∧ i ≤ min xs.length ys.length ∧ Pv i σ H, ⟨_, rfl, Nat.zero_le _, h0⟩, ?_⟩
  rintro i m σ H ⟨rfl, le, p⟩
  obtain ⟨q1, q2⟩ := hq i σ H p
  by_cases lt : i < min xs.length ys.length
  · have e1 : xs[i]? = some (xs[i]'(by omega)) := List.getElem?_eq_getElem (by omega)
    have e2 : ys[i]? = some (ys[i]'(by omega)) := List.getElem?_eq_getElem (by omega)
    refine .inr ⟨⟨xs, ys, _, _, q1, q2, e1, e2⟩, Pv (i + 1), fun σ' H' p' => ⟨_, by omega, rfl, lt, p'⟩, ?_⟩
    rintro v H' ⟨T, x, y, rfl, free, rfl, h1, h2⟩
    exact hs i x y T σ H (h1 xs q1) (h2 ys q2) p free
  · have e : i = min xs.length ys.length := by omega
    subst e
    exact .inl ⟨⟨xs, ys, q1, q2, by omega⟩, hd σ H p⟩
end
end MM

set_option Elab.async false
set_option maxRecDepth 100000
set_option maxHeartbeats 2000000
set_option linter.all false
/-! own exceptions over any built-in base, whose own __init__ asks the base's and keeps one field -/
namespace ME
open PySem PySem.Spec PyProof.Rows L2

/-- the class at C stands over B, by own classes between, or none -/
structure Over (K : PySem.W.Frag) (C : Addr) (B newId initId : String) (top : List Value) : Prop where
  base : ExcBaseFacts B newId initId top
  put : StoreFacts B top "object.__setattr__" "object"
  row : ∃ nm q N bs bm sn sub ab col dd k0 k1 k2 k3 k5,
    K.lookup C = some (excClassObj nm q C N bs bm true sn sub ab col dd k0 k1 k2 k3 k5 newId) ∧ PySem.W.excTail top bm = true
  hook : PySem.W.findIn K (.ref C) "__setattr__" = some (some (.builtin "object.__setattr__"))
  isE : PySem.W.subIn K (.ref C) (.type "BaseException") = some true
  meta_ : PySem.W.typeIn K (.ref C) = some (.type "type")
  keep : PySem.W.keepIn K (.ref C) = true

section
open Builtin Builtin.ObjectAttr
variable {prog : Program} {w : World} {A : Around} {R : Result → Shared → Prop} {hp : Heap} {g : Array GenState} {d : Drawn}
  {t : Nat} {os : OsState} {K : PySem.W.Frag} {C x : Addr} {B newId initId : String} {top : List Value}
/-- the first field of an exception lays its dict -/
theorem first_put {name : Str} {tk : Tok} {v : Value} {fv : Array Value} (T : Over K C B newId initId top) (X : K.In hp)
    (hx : hp.get? x = some { cls := .ref C, data := .fields fv })
    (ha : PySem.W.findIn K (.ref C) name = some none)
    (hq : ∀ h' tk' dx, (∀ b o, b ≠ x → hp.get? b = some o → h'.get? b = some o) → hp.objs.size ≤ dx → dx ≠ x →
      h'.get? x = some { cls := .ref C, dict := some dx, data := .fields fv } →
      h'.Ns1 dx (fun y => if y = name then some v else none) → R (.ok (.ret .none)) ⟨h', g, d, tk', os⟩) :
    codeAny (model prog w) A (.call (.builtin "object.__setattr__") ⟨[.ref x, .str name tk, v], []⟩) R ⟨hp, g, d, t, os⟩ := by
  obtain ⟨nm, q, N, bs, bm, sn, sub, ab, col, dd, k0, k1, k2, k3, k5, hC, hbm⟩ := T.row
  have hcd : PySem.W.clsIn K C = some { name := nm, bases := bs, mro := .ref C :: bm, ns := N, qualname := q, hasDict := true, slotNames := sn, subclasses := sub, abstract := ab, collection := col, hasDel := false } := by
    unfold PySem.W.clsIn
    rw [hC] <;> rfl
  have hall : PySem.W.excTail top (.ref C :: bm) = true := hbm
  have inst : PySem.W.InstAt hp x { cls := .ref C, data := .fields fv } C none := ⟨hx, rfl, rfl, trivial⟩
  have S := PySem.F.store_object
  have far : x ≠ hp.objs.size := Nat.ne_of_lt (Heap.lt_size hx)
  have obj : (Value.ref C :: bm).contains (.type "object") = true :=
    (PySem.W.excTail_contains "object" _ hall).trans T.put.hasOwner
  have mro : PySem.W.mroIn K C (.type "object") = some true := by
    unfold PySem.W.mroIn
    rw [hcd, Option.bind_some]
    simp only [List.isEmpty_cons, obj, Bool.false_eq_true, if_false]
  have isObj : PySem.W.Looks (model prog w) hp (isInstance (.ref x) (.type "object")) true :=
    inst.type.andThen (PySem.W.looks_mroIn X mro)
  have rd : PySem.W.Looks (model prog w) hp (classData C) _ := PySem.W.looks_clsIn X hcd
  have rm : PySem.W.Looks (model prog w) hp (mroOf (.ref C)) (.ref C :: bm) := rd.andThen .now
  have none_ : PySem.W.Looks (model prog w) hp (storeTaker? none) none := .now
  refine codeAny_call_builtin S.slot.plain S.entry (@PySem.W.check_slot (model prog w) _ _ ⟨hp, g, d, t, os⟩
    "object.__setattr__" "object" "__setattr__" (.ref x) [.str name tk, v] [] _ S.kind S.split isObj (S.args (.ref x) (.str name tk) v) ?_)
  rw [PySem.W.osa_eq, refuse_eq]
  refine wpAny_bind (wpAny_bind (inst.type.at (wpAny_bind (rm.at ?_))))
  rw [PySem.W.excTail_pass _ (T.put.passes _) _ hall]
  refine wpAny_pure (wpAny_bind (inst.type.at (wpAny_bind ((PySem.W.looks_findIn X ha).at (wpAny_bind (none_.at ?_))))))
  show wpAny _ _ (storeInOwnDict (.ref x) (.ref C) (.str name tk) name v false) _ _ _
  unfold storeInOwnDict ownDictForStores
  repeat (first
    | with_reducible refine PySem.HandSPX.store_in_new ?_ ?_
    | with_reducible refine wpAny_loadPart_at hx ?_
    | with_reducible refine rd.at ?_
    | wp_step)
  · refine ⟨_, #[], _, (Heap.get?_update_ne _ _ _ _ far.symm).trans (Heap.get?_push_at rfl rfl), rfl, ?_, fun _ => rfl⟩
    intro e he
    simp at he
  · intro h' tk' hn' hs
    have there : (hp.push { cls := .type "dict", data := .dict #[] }).get? x = some { cls := .ref C, data := .fields fv } :=
      Heap.get?_push_of_some _ hx
    refine hq h' tk' hp.objs.size ?_ (Nat.le_refl _) far.symm ((hs.2 x far).trans (Heap.get?_update_self _ there rfl)) hn'
    intro b o hb ho
    have nb : b ≠ hp.objs.size := Nat.ne_of_lt (Heap.lt_size ho)
    rw [hs.2 b nb, Heap.get?_update_ne _ _ _ _ hb]
    exact Heap.get?_push_of_some _ ho
end

section
variable {X : Cx} {pins : List (Addr × Obj)} {σ : L2.St} {H : Hp} {s : Shared} {a C : Addr} {f : Str} {y : V} {u : Value}
  {E : Value → Shared → Prop} {A : Around} {B newId initId : String} {top : List Value}
/-- self.f = y, the first field -/
theorem put_new {Q : Unit → Shared → Prop} (T : Over X.K C B newId initId top) (I : Inv X pins σ H s)
    (ea : H a = some (exo a C none)) (no : PySem.W.findIn X.K (.ref C) f = some none) (ry : RelV y u)
    (h : ∀ dx s', H dx = none → dx ≠ a →
      Inv X pins σ (upd (upd H dx (exd dx [(f, y)])) a (exo a C (some dx))) s' → Q () s') :
    wpAny (model X.prog X.w) A (setAttr (.ref a) f u) Q E s := by
  obtain ⟨t1, ho⟩ := exo_at I.hok ea
  obtain ⟨hp, g, d, t, os⟩ := s
  refine PySem.W.set_plain I.kIn (od := none) ⟨ho, rfl, rfl, trivial⟩ T.hook ?_
  refine first_put T I.kIn ho no (fun h' tk' dx kp ge ne hx hn => ?_)
  have free : H dx = none := I.hok.fresh ge
  have old : ∀ {b : Addr} {o : Obj}, hp.get? b = some o → b ≠ dx := by
    intro b o hb
    exact Nat.ne_of_lt (Nat.lt_of_lt_of_le (Heap.lt_size hb) ge)
  have nota : ∀ {b : Addr}, H b = none → b ≠ a := by
    rintro b hb rfl
    rw [ea] at hb
    cases hb
  have same : ∀ {b : Addr} {v : HO}, H b = some v → b ≠ a →
      upd (upd H dx (exd dx [(f, y)])) a (exo a C (some dx)) b = some v := by
    intro b v hb ba
    rw [upd_ne ba, upd_ne (ne_of_none hb free)]
    exact hb
  have un : Un X.fs [] H (upd (upd H dx (exd dx [(f, y)])) a (exo a C (some dx))) hp h' := by
    constructor
    case keep => exact fun b o hb hn _ _ => kp b o (nota hn) hb
    case slot => exact fun b o hb hn _ _ => ⟨o.slots, kp b o (nota hn) hb⟩
    case free =>
      intro b o hb hn _
      rw [upd_ne (nota hn), upd_ne (old hb)]
      exact hn
    case there =>
      intro b o hb _
      by_cases ba : b = a
      · exact ⟨_, ba ▸ hx⟩
      · exact ⟨o, kp b o ba hb⟩
    case tups => exact fun b xs hb => same hb (at_ne ea hb exo_tup)
    case frzs => exact fun b o v hb => same hb (at_ne ea hb exo_frz)
    case tbls =>
      intro b ps hb
      refine ⟨#[], ?_⟩
      rw [same hb (at_ne ea hb exo_tbl)]
      simp
  refine h dx _ free ne (I.un (t' := tk') un fun b o hb => ?_)
  by_cases ba : b = a
  · subst ba
    rw [upd_same] at hb
    cases hb
    exact exo_ok hx
  rw [upd_ne ba] at hb
  by_cases bd : b = dx
  · subst bd
    rw [upd_same] at hb
    cases hb
    exact exd_ok hn (relO_put (fs := []) ry fun _ => True.intro)
  rw [upd_ne bd] at hb
  refine (I.hok b o hb).stay ?_ (fun c hc => same hc (at_ne ea hc exo_own)) (fun c xs hc => same hc (at_ne ea hc exo_tup))
  rintro c v hc z
  refine kp c v ?_ z
  rcases hc with rfl | hc
  · exact ba
  · exact at_ne ea hc exo_own

/-- B.__init__(self, ..) -/
theorem ask_ok {us : List Value} {Q : Value → Shared → Prop} (T : Over X.K C B newId initId top) (I : Inv X pins σ H s)
    (ea : H a = some (exo a C none)) (hl : us.length ≤ sizeLine) (h : ∀ s', Inv X pins σ H s' → Q .none s') :
    wpAny (model X.prog X.w) A (call (.builtin initId) (.ref a :: us)) Q E s := by
  obtain ⟨nm, q, N, bs, bm, sn, sub, ab, col, dd, k0, k1, k2, k3, k5, hC, hbm⟩ := T.row
  obtain ⟨t1, ho⟩ := exo_at I.hok ea
  obtain ⟨hp, g, d, t, os⟩ := s
  refine wpAny_call (PySem.HandSPX.init_base T.base (fun Y => PySem.W.excTail_contains Y bm hbm) (I.kIn _ _ hC) ho hl ?_)
  intro h' t2 kp hx
  have J := I.write (t' := t) (x := a) (e := a) (o := exo a C none) (by rw [ea]; exact True.intro) (.inl rfl) kp ⟨_, hx⟩ (exo_ok hx)
  have same : upd H a (exo a C none) = H := by
    funext b
    by_cases hb : b = a
    · subst hb
      rw [upd_same, ea]
    · rw [upd_ne hb]
  rw [same] at J
  exact h _ J
end

/-- B.__init__(self, ..): nothing of it is told -/
def tAsk (K : PySem.W.Frag) (B newId initId : String) (top : List Value) (ta : TA) : TE := fun σ H Q =>
  ta σ H fun vs H1 => ∃ (a C : Addr) (ws : List V), vs = .ref a :: ws ∧ ws.length ≤ 1000 ∧ Over K C B newId initId top ∧
    H1 a = some (exo a C none) ∧ Q .non H1
/-- self.f = e, the first field -/
def tPut (K : PySem.W.Frag) (B newId initId : String) (top : List Value) (f : Str) (to te : TE) : TS := fun D σ H =>
  te σ H fun y H1 => to σ H1 fun x H2 => ∃ a C : Addr, x = .ref a ∧ Over K C B newId initId top ∧
    PySem.W.findIn K (.ref C) f = some none ∧ H2 a = some (exo a C none) ∧
    ∀ dx, H2 dx = none → dx ≠ a → D.nx σ (upd (upd H2 dx (exd dx [(f, y)])) a (exo a C (some dx)))
section
variable {X : Cx} {o e : Expr} {es : List Expr} {to te : TE} {ta : TA} {f : Str} {p p' p1 p2 pos : Pos}
  {B newId initId : String} {top : List Value}
theorem ps_put (ho : PE X o to) (he : PE X e te)
    (hs : swapsWith e (some (.Attribute o f p')) pos.line X.env = pure false := by rfl) :
    PS X (.Assign [.Attribute o f p'] e pos) (tPut X.K B newId initId top f to te) := by
  constructor
  intro pins s σ H D I h
  refine plainObj_wpAny_Assign_Attribute (thn (he.run pins s σ H _ I h) ?_) hs
  rintro v s1 ⟨y, H1, I1, r1, q1⟩
  refine thn (ho.run pins s1 σ H1 _ I1 q1) ?_
  rintro u s2 ⟨x, H2, I2, r2, a, C, rfl, T, no, ea, q⟩
  obtain rfl : u = Value.ref a := r2
  exact put_new T I2 ea no r1 fun dx s' n ne J => ⟨σ, _, J, q dx n ne⟩
theorem pe_ask {pl : Sem Bool} (hg : Gl X B) (hm : X.mg B = none) (hv : bootBuiltins B = some (.type B))
    (ty : typeOf (.type B) = pure (.type "type")) (st : Manifest.isStub B = false)
    (vV : PySem.W.findCls X.K (.type B) (.type "type") "__init__" = some (.val (.builtin initId)))
    (hi : PySem.W.handedIn (.builtin initId) = true)
    (ha : PA X (e :: es) ta) (hn : (B : Str) ≠ "__name__" := by decide) (hdb : ((B : Str) == ("__debug__" : Str)) = false := by decide)
    (hc : eval (.Call (.Attribute (.Name B p1) "__init__" p2) (e :: es) [] pos) X.env = (do
      let ov ← eval (.Name B p1) X.env
      standAt p2.atName
      let (f, first) ← holding [ov] (getMethod ov "__init__" pl)
      callWith pos f first (backTo pos (starEach (e :: es) X.env)) (backToKw pos (keywordEach [] X.env))) := by rfl)
    (he : starEach (e :: es) X.env = (false, eval e X.env) :: starEach es X.env := by rfl)
    (hpl : (backTo pos (starEach es X.env)).any (·.1) = false := by rfl) :
    PE X (.Call (.Attribute (.Name B p1) "__init__" p2) (e :: es) [] pos) (tAsk X.K B newId initId top ta) := by
  constructor
  intro pins s σ H Q I h
  refine PySem.W.methodCall_KW (ld_blt I hg hm hv ?_ hn hdb) hc
  obtain ⟨m, fr⟩ := I.fr
  refine PySem.W.method_type fr I.ok.mod.kin ty st vV hi ?_
  show wpAny _ _ (callWith pos (Value.builtin initId) [] (backTo pos (starEach (e :: es) X.env)) []) _ _ _
  refine PyProof.Rows.callWith_method1 (thn (ha.run pos pins _ σ H _ (I.tok _) h) ?_) he hpl
  rintro us s1 ⟨vs, H1, I1, r1, a, C, ws, rfl, hl, T, ea, q⟩
  cases r1 with
  | @cons _ u0 _ ur ra rw' =>
    obtain rfl : u0 = Value.ref a := ra
    refine ask_ok T I1 ea ?_ fun s' J => ⟨.non, H1, J, rfl, q⟩
    rw [← Paired.length rw', sizeLine_eq]
    omega
end

/-- what __init__ of such a class keeps: one field, called f -/
def spKeep (C : Addr) (f : Str) : Sp := fun vs H Q _ => ∃ (a : Addr) (y : V), vs = [.ref a, y] ∧ H a = some (exo a C none) ∧
  ∀ dx, H dx = none → dx ≠ a → Q .non (upd (upd H dx (exd dx [(f, y)])) a (exo a C (some dx)))
/-- C(e) is made: its class, its dict, which keeps e under f -/
def tMade (C : Addr) (f : Str) (ta : TA) : L2.St → Hp → XK → Prop := fun σ H Q => ta σ H fun vs H1 => ∃ y, vs = [y] ∧
  ∀ d, H1 d = none → Q (.ref C) (some d) (upd H1 d (.xd [(f, y)]))
section
variable {X : Cx} {e : Expr} {es : List Expr} {ta : TA} {p pos : Pos} {CX : CXT} {x f : Str} {C fI : Addr} {k : Nat} {fd : FuncData}
  {ps : List Str} {B newId initId : String} {top : List Value}
theorem room_make {A : Around} (r : MM.Rm (k + 1) A) (C : Addr) (us : List Value) (kw : List (Str × Value)) :
    MM.Rm k (A.under (.builtin "type.__call__" ⟨.ref C :: us, kw⟩)) := ⟨r.room.make C us kw, r.still⟩
theorem pmk_made (T : Over X.K C B newId initId top) (iC : PySem.W.findIn X.K (.ref C) "__init__" = some (some (.ref fI)))
    (tI : PySem.W.typeIn X.K (.ref fI) = some (.type "function"))
    (F : MM.FnG X.prog X.w X.K X.mg X.base CX k fI fd ps (spKeep C f)) (hr : MM.Rm (k + 1) X.A) (hb : Binds X.K fd ps [])
    (hx : Passes CX X (fun _ _ _ => False)) (hm : X.mg x = some (.ref C)) (ha : PA X (e :: es) ta) (hg : Gl X x := by rfl)
    (hdb : (x == ("__debug__" : Str)) = false := by decide)
    (he : starEach (e :: es) X.env = (false, eval e X.env) :: starEach es X.env := by rfl)
    (hpl : (backTo pos (starEach es X.env)).any (·.1) = false := by rfl) :
    PMk X (.Call (.Name x p) (e :: es) [] pos) (tMade C f ta) := by
  intro pins s σ H Q I h
  obtain ⟨nm, q, N, bs, bm, sn, sub, ab, col, dd, k0, k1, k2, k3, k5, hC, hbm⟩ := T.row
  refine wpAny_Call_Name_kw (ld_glob I hg hm ?_ hdb)
  refine PySem.W.callWith_K (h₀ := X.base) I.ok.mod.kin T.keep (thn (ha.run pos pins s σ H _ I h) ?_) he hpl
  rintro us s1 ⟨vs, H1, I1, r1, y, rfl, q1⟩
  refine ⟨I1.kIn, ?_⟩
  obtain ⟨u, rfl, ry⟩ := vals1 r1
  show wpAny _ _ (call (.ref C) [u]) _ _ _
  obtain ⟨hp, g, dr, tk, os⟩ := s1
  have size : hp.objs.size ≤ hp.objs.size + 1 := Nat.le_succ _
  have new : H1 (hp.objs.size + 1) = none := I1.hok.fresh size
  have kept : ∀ b o, hp.get? b = some o →
      ((hp.push (PySem.W.kdv_tup [u])).push (PySem.HandSPX.excO C hp.objs.size)).get? b = some o := by
    intro b o z
    exact Heap.get?_push_of_some _ (Heap.get?_push_of_some _ z)
  have lies : ((hp.push (PySem.W.kdv_tup [u])).push (PySem.HandSPX.excO C hp.objs.size)).get? (hp.objs.size + 1) =
      some (PySem.HandSPX.excO C hp.objs.size) := by heap_get
  have I2 := I1.laid (t' := tk) (a := hp.objs.size + 1) (o := exo (hp.objs.size + 1) C none) kept size (exo_ok lies)
  have r2 : Vals [V.ref (hp.objs.size + 1), y] [Value.ref (hp.objs.size + 1), u] := .cons rfl (.cons ry .nil)
  have sp : spKeep C f [V.ref (hp.objs.size + 1), y] (upd H1 (hp.objs.size + 1) (exo (hp.objs.size + 1) C none))
      (fun v H2 => v = .non ∧ ∃ d, H1 d = none ∧ d ≠ hp.objs.size + 1 ∧
        H2 = upd (upd (upd H1 (hp.objs.size + 1) (exo (hp.objs.size + 1) C none)) d (exd d [(f, y)])) (hp.objs.size + 1) (exo (hp.objs.size + 1) C (some d)))
      (fun _ _ _ => False) := by
    refine ⟨_, y, rfl, upd_same, fun dx n ne => ⟨rfl, dx, ?_, ne, rfl⟩⟩
    rw [upd_ne ne] at n
    exact n
  have len := F.arity sp
  have bd := hb ⟨_, g, dr, tk, os⟩ [Value.ref (hp.objs.size + 1), u] I2.kIn (by rw [List.append_nil]; exact len)
  rw [List.append_nil] at bd
  refine wpAny_call (PySem.HandSPX.call_own T.base (fun Y => PySem.W.excTail_contains Y bm hbm) (I1.kIn _ _ hC)
    (PySem.W.looks_findIn I1.kIn iC) (fun self => PySem.W.bind_fn I1.kIn self tI) (by show 1 ≤ sizeLine; rw [sizeLine_eq]; omega)
    (codeAny_mono (F.runs (out := X.stack) (room_make hr C [u] []) (I2.env0.make C [u] []) bd r2 sp) ?_))
  intro r s' hq
  cases r with
  | error er => exact hx pins σ _ _ er s' I2 hq
  | ok fl =>
    cases fl with
    | next => exact hq.elim
    | brk => exact hq.elim
    | cont => exact hq.elim
    | ret u' =>
      obtain ⟨v, H2, os2, bare2, un2, hok2, rv, rfl, d, nd, ne, rfl⟩ := hq
      obtain ⟨h2, g2, d2, t2, os'⟩ := s'
      have ed : (upd (upd (upd H1 (hp.objs.size + 1) (exo (hp.objs.size + 1) C none)) d (exd d [(f, y)])) (hp.objs.size + 1)
          (exo (hp.objs.size + 1) C (some d))) d = some (exd d [(f, y)]) := by
        rw [upd_ne ne, upd_same]
      refine ⟨rv, mk_end (raises_own T.isE T.meta_) I1 size kept un2 hok2 os2 bare2 upd_same ed nd ?_⟩
      have same : upd (del (upd (upd (upd H1 (hp.objs.size + 1) (exo (hp.objs.size + 1) C none)) d (exd d [(f, y)])) (hp.objs.size + 1)
          (exo (hp.objs.size + 1) C (some d))) (hp.objs.size + 1)) d (.xd [(f, y)]) = upd H1 d (.xd [(f, y)]) := by
        funext b
        by_cases b1 : b = d
        · subst b1
          rw [upd_same, upd_same]
        rw [upd_ne b1, upd_ne b1]
        by_cases b2 : b = hp.objs.size + 1
        · subst b2
          rw [del_same, new]
        rw [del_ne b2, upd_ne b2, upd_ne b1, upd_ne b2]
      rw [same]
      exact q1 d nd
end
end ME

set_option Elab.async false
set_option maxRecDepth 100000
set_option maxHeartbeats 2000000
set_option linter.all false
/-! try with several clauses, with and without a name -/
namespace ME
open PySem PySem.Spec PyProof.Rows L2
/-- where slot i is emptied behind the suite -/
def Ends.drop (D : Ends) (i : Nat) : Ends where
  nx := fun σ H => D.nx (σ.set i none) H
  rt := D.rt
  bk := fun σ H => D.bk (σ.set i none) H
  ct := fun σ H => D.ct (σ.set i none) H
/-- clauses, one after the other; W: what is wished of the exception that the body lets out -/
inductive Cl (X : Cx) (Wout : WX) : List ExceptHandler → (Ends → WX) → Prop where
  | nil : Cl X Wout [] (fun _ => Wout)
  | no {x : Str} {c : Value} {ts : Addr → Value → Option Addr → TS} {b₀ : Stmt} {suite : List Stmt} {np pos : Pos}
      {hds : List ExceptHandler} {W : Ends → WX} (hc : Names X x c)
      (su : ∀ (a : Addr) (oe : Obj) (cls : Value) (d : Option Addr) (pn : List (Addr × Obj)), Zc cls d oe →
        (∃ vs, oe.data = .fields vs) → PSs (X.suite a ((a, oe) :: pn)) (b₀ :: suite) (ts a cls d))
      (r : Cl X Wout hds W) :
      Cl X Wout (.ExceptHandler (some (.Name x np)) none (b₀ :: suite) pos :: hds) (fun D cls d σ H =>
        ∃ b, PySem.W.exmOne X.K cls c = some b ∧ (b = true → ∀ a, H a = none → ts a cls d D σ H) ∧ (b = false → W D cls d σ H))
  | as_ {x n : Str} {i : Nat} {c : Value} {ts : Addr → Value → Option Addr → TS} {b₀ : Stmt} {suite : List Stmt} {np pos : Pos}
      {hds : List ExceptHandler} {W : Ends → WX} (hc : Names X x c) (hN : X.N.Nodup) (hi : X.N[i]? = some n)
      (hl : X.env.kindOf n = some .local)
      (su : ∀ (a : Addr) (oe : Obj) (cls : Value) (d : Option Addr) (pn : List (Addr × Obj)), Zc cls d oe →
        (∃ vs, oe.data = .fields vs) → PSs (X.suite a ((a, oe) :: pn)) (b₀ :: suite) (ts a cls d))
      (r : Cl X Wout hds W) :
      Cl X Wout (.ExceptHandler (some (.Name x np)) (some n) (b₀ :: suite) pos :: hds) (fun D cls d σ H =>
        ∃ b, PySem.W.exmOne X.K cls c = some b ∧ (b = true → ∀ a, H a = none → σ.length = X.N.length → ts a cls d (Ends.drop D i) (σ.set i (some (.ref a))) H) ∧
          (b = false → W D cls d σ H))

/-- the exception at a has landed in X: h is the heap now, sI the state without it -/
structure Lands (X : Cx) (pins : List (Addr × Obj)) (σ : L2.St) (H : Hp) (cls : Value) (d : Option Addr) (a : Addr) (B : Heap)
    (sI s : Shared) (h : Heap) : Prop where
  inv : Inv X pins σ H sI
  ground : ∀ b o, sI.heap.get? b = some o → b ∉ frs X.stack → B.get? b = some o
  up : sI.heap.UpToSlots h
  fly : HandSPX.FlyingZ B (X.env :: X.outer) a (Zc cls d) h
  none_ : H a = none
  os : s.os = sI.os
  bare : AllBare s.gens
section
variable {X : Cx} {pins : List (Addr × Obj)} {σ : L2.St} {H : Hp} {cls : Value} {d : Option Addr} {a : Addr} {B : Heap}
  {sI s : Shared} {h : Heap} {D : Ends} {Wout : WX} {hds : List ExceptHandler} {W : Ends → WX}
theorem Lands.here (L : Lands X pins σ H cls d a B sI s h) : Inv X pins σ H { s with heap := h } :=
  L.inv.landed (s' := { s with heap := h }) L.ground L.fly.1 L.up L.os L.bare
theorem Lands.later (L : Lands X pins σ H cls d a B sI s h) {h' : Heap} (f : HandSPX.FlyingZ B (X.env :: X.outer) a (Zc cls d) h')
    (u : h.UpToSlots h') : Lands X pins σ H cls d a B sI s h' :=
  { L with up := L.up.trans u, fly := f }
/-- the exception as it lies, in the suite's context -/
theorem Lands.suite (L : Lands X pins σ H cls d a B sI s h) (hf : X.env.frame = some X.env.locals) :
    ∃ (oe : Obj) (vs : Array Value), h.get? a = some oe ∧ Zc cls d oe ∧ oe.data = .fields vs ∧
      Inv (X.suite a ((a, oe) :: (X.pn ++ pins))) [] σ H { s with heap := h } := by
  obtain ⟨oe, vs, he, hz, hd⟩ := L.fly.there
  have away : a ∉ frs (X.env :: X.outer) := by
    intro hm
    obtain ⟨_, o', e', no⟩ := L.fly.2.2.1.mem hm
    rw [he] at e'
    cases e'
    exact no _ hd
  have nL : a ≠ X.env.locals := fun z => away (List.mem_filterMap.mpr ⟨X.env, List.mem_cons_self, by rw [hf, z]⟩)
  have nF : a ∉ X.fs := by
    intro hm
    obtain ⟨e, he', q⟩ := List.mem_filterMap.mp hm
    exact away (List.mem_filterMap.mpr ⟨e, List.mem_cons_of_mem _ he', q⟩)
  exact ⟨oe, vs, he, hz, hd, L.here.suite he hd L.none_ nL nF⟩
/-- a suite's end -/
theorem Lands.out {oe : Obj} {f : Flow} {s6 : Shared} (ok : X.Ok)
    (q : SP (X.suite a ((a, oe) :: (X.pn ++ pins))) [] D f s6) : SP X pins D f s6 := by
  cases f with
  | ret u =>
    obtain ⟨v, σ6, H6, S, r, z⟩ := q
    exact ⟨v, σ6, H6, S.unsuite ok, r, z⟩
  | next =>
    obtain ⟨σ6, H6, S, z⟩ := q
    exact ⟨σ6, H6, S.unsuite ok, z⟩
  | brk =>
    obtain ⟨σ6, H6, S, z⟩ := q
    exact ⟨σ6, H6, S.unsuite ok, z⟩
  | cont =>
    obtain ⟨σ6, H6, S, z⟩ := q
    exact ⟨σ6, H6, S.unsuite ok, z⟩
theorem handled (hs : X.stack = X.env :: X.outer) (hf : X.env.frame = some X.env.locals) (tk : Takes X Wout)
    (C : Cl X Wout hds W) : ∀ {h : Heap}, Lands X pins σ H cls d a B sI s h → W D cls d σ H →
      wpAny (model X.prog X.w) X.A (handleBy (.ref a) X.env hds) (SP X pins D) X.xe { s with heap := h } := by
  induction C with
  | nil =>
    intro h L w
    have L0 := L
    refine wpAny_handleBy_nil ?_
    obtain ⟨k1, k2, k3, oe, vs, T, oT, ts', he, hz, hd, h1, hr⟩ := L.fly
    unfold PySem.passOn
    refine wpAny_bind (wpAny_field he hd h1 ?_)
    rw [if_neg (show ¬ ((Value.ref T == Value.none) = true) from by simp)]
    have on : wpAny (model X.prog X.w) X.A (setFlight (.ref a) X.env.frame)
        (fun _ s4 => wpAny (model X.prog X.w) X.A (throw (.ref a) : Sem Flow) (SP X pins D) X.xe s4) X.xe { s with heap := h } := by
      rw [hf]
      refine HandSPX.setFlight_upZ L0.fly fun h4 hh4 up4 => wpAny_throw (tk _ _ ?_)
      exact ⟨a, B, sI, pins, σ, H, cls, d, rfl, L0.inv, L0.ground, L0.up.trans up4, .inr (.inr (by rw [hs]; exact hh4)), L0.none_, L0.os,
        L0.bare, w⟩
    first
      | exact wpAny_bind (wpAny_pure (wpAny_bind on))
      | exact wpAny_bind on
  | @no x c ts b₀ suite np pos hds' W' hc su r ih =>
    intro h L w
    obtain ⟨b, e, yes, no⟩ := w
    obtain ⟨oe, vs, he, hz, hd, S⟩ := L.suite hf
    refine wpAny_handleBy_cons (codeAny_handlers_test ?_) (by intro q; cases q)
    have ty : PySem.W.Looks (model X.prog X.w) h (typeOf (.ref a)) cls := fun A Q E s k q =>
      wpAny_typeOf_ref (k _ _ he) (by rw [hz.1]; exact q)
    have ask := PySem.W.exm_one (M := model X.prog X.w) L.here.kIn ty e
    have name : ∀ {Q : Value → Shared → Prop} {E : Value → Shared → Prop}, Q c { s with heap := h } →
        wpAny (model X.prog X.w) (X.A.mark (some (.ref a))) (eval (.Name x np) X.env) Q E { s with heap := h } := by
      intro Q E q
      obtain ⟨hg, hdb, hm | ⟨hm, hv, hn⟩⟩ := hc
      · exact ld_glob (X := X.suite a ((a, oe) :: (X.pn ++ pins))) S hg hm q hdb
      · exact ld_blt (X := X.suite a ((a, oe) :: (X.pn ++ pins))) S hg hm hv q hn hdb
    refine name (ask.here ?_)
    cases b with
    | false => exact ih L (no rfl)
    | true =>
      refine codeAny_handlers_suite (HandSPX.lands_againZ L.fly fun h4 f4 u4 => ?_)
      obtain ⟨oe4, vs4, _, hz4, hd4, S4⟩ := (L.later f4 u4).suite hf
      refine wpAny_mono ((su a oe4 cls d (X.pn ++ pins) hz4 ⟨_, hd4⟩).run [] _ _ H _ S4 (yes rfl a L.none_))
        (fun f s6 q => Lands.out L.inv.ok q) (fun _ _ z => False.elim z)
  | @as_ x n i c ts b₀ suite np pos hds' W' hc hN hi hl su r ih =>
    intro h L w
    obtain ⟨b, e, yes, no⟩ := w
    obtain ⟨oe, vs, he, hz, hd, S⟩ := L.suite hf
    refine wpAny_handleBy_cons (codeAny_handlers_test ?_) (by intro q; cases q)
    have ty : PySem.W.Looks (model X.prog X.w) h (typeOf (.ref a)) cls := fun A Q E s k q =>
      wpAny_typeOf_ref (k _ _ he) (by rw [hz.1]; exact q)
    have ask := PySem.W.exm_one (M := model X.prog X.w) L.here.kIn ty e
    have name : ∀ {Q : Value → Shared → Prop} {E : Value → Shared → Prop}, Q c { s with heap := h } →
        wpAny (model X.prog X.w) (X.A.mark (some (.ref a))) (eval (.Name x np) X.env) Q E { s with heap := h } := by
      intro Q E q
      obtain ⟨hg, hdb, hm | ⟨hm, hv, hn⟩⟩ := hc
      · exact ld_glob (X := X.suite a ((a, oe) :: (X.pn ++ pins))) S hg hm q hdb
      · exact ld_blt (X := X.suite a ((a, oe) :: (X.pn ++ pins))) S hg hm hv q hn hdb
    refine name (ask.here ?_)
    cases b with
    | false => exact ih L (no rfl)
    | true =>
      refine codeAny_handlers_suite_as (HandSPX.lands_againZ L.fly fun h4 f4 u4 => ?_)
      obtain ⟨oe4, vs4, _, hz4, hd4, S4⟩ := (L.later f4 u4).suite hf
      refine store_ok (X := X.suite a ((a, oe4) :: (X.pn ++ pins))) (v := .ref a) S4 hN hi (.inl hl) rfl (fun s5 S5 => ?_) (.inr hl)
      refine wpAny_mono ((su a oe4 cls d (X.pn ++ pins) hz4 ⟨_, hd4⟩).run [] s5 _ H _ S5 (yes rfl a L.none_ L.inv.len))
        (fun f s6 q => ?_) (fun _ _ z => False.elim z)
      have q' := Lands.out L.inv.ok q
      cases f with
      | ret u =>
        obtain ⟨v, σ6, H6, J, r6, z⟩ := q'
        exact gone_ok J hN hi hl fun s7 J7 => ⟨v, _, H6, J7, r6, z⟩
      | next =>
        obtain ⟨σ6, H6, J, z⟩ := q'
        exact gone_ok J hN hi hl fun s7 J7 => ⟨_, H6, J7, z⟩
      | brk =>
        obtain ⟨σ6, H6, J, z⟩ := q'
        exact gone_ok J hN hi hl fun s7 J7 => ⟨_, H6, J7, z⟩
      | cont =>
        obtain ⟨σ6, H6, J, z⟩ := q'
        exact gone_ok J hN hi hl fun s7 J7 => ⟨_, H6, J7, z⟩
/-- try: body / the clauses -/
theorem ps_try_cl {body : List Stmt} {h₀ : ExceptHandler} {pos : Pos} {tb : WX → TS} (hs : X.stack = X.env :: X.outer)
    (hf : X.env.frame = some X.env.locals) (tk : Takes X Wout) (C : Cl X Wout (h₀ :: hds) W)
    (hb : ∀ (W : WX) (pn : List (Addr × Obj)) (xe : Value → Shared → Prop), Takes (X.tr pn xe) W →
      PassesOwn (model X.prog X.w) X.A X.env xe → PSs (X.tr pn xe) body (tb W)) :
    PS X (.Try body (h₀ :: hds) [] [] pos) (fun D σ H => tb (W D) D σ H) := by
  constructor
  intro pins s σ H D I h
  have ok := I.ok
  have fr : X.A.frames = some (X.env :: X.outer) := by rw [ok.frames, hs]
  refine wpAny_Try_except ?_
  refine wpAny_mono ((hb (W D) (X.pn ++ pins) (fun e s₁ => wpAny (model X.prog X.w) X.A (noteFrame e X.env)
    (fun _ s₂ => wpAny (model X.prog X.w) X.A (setFlight e none) (fun _ s₃ =>
      wpAny (model X.prog X.w) X.A (handleBy e X.env (h₀ :: hds)) (SP X pins D) X.xe s₃) X.xe s₂) X.xe s₁) ?_
    PassesOwn.looking).run [] s σ H D (I.toTry _) h) ?_ (fun e s1 he => he)
  · rintro u s' ⟨a, B, sI, pins', σ', H', cls, d, rfl, J', nb, up, sky, na, os, ag, w⟩
    have J : Inv X pins σ' H' sI := J'.ofTry ok
    have sky' : Sky B (X.env :: X.outer) a (Zc cls d) X.env.locals s'.heap := by
      rw [← hs]
      exact sky
    show wpAny (model X.prog X.w) X.A (noteFrame (.ref a) X.env) _ _ _
    refine Sky.land Zc.steady fr hf sky' fun h3 f3 u3 => ?_
    exact handled hs hf tk C ⟨J, nb, up.trans u3, f3, na, os, ag⟩ w
  · intro f s1 q
    cases f with
    | ret u =>
      obtain ⟨v, σ', H', J, r, z⟩ := q
      exact ⟨v, σ', H', J.ofTry ok, r, z⟩
    | next =>
      obtain ⟨σ', H', J, z⟩ := q
      exact wpAny_execs_nil ⟨σ', H', J.ofTry ok, z⟩
    | brk =>
      obtain ⟨σ', H', J, z⟩ := q
      exact ⟨σ', H', J.ofTry ok, z⟩
    | cont =>
      obtain ⟨σ', H', J, z⟩ := q
      exact ⟨σ', H', J.ofTry ok, z⟩
end
end ME

set_option Elab.async false
set_option maxRecDepth 100000
set_option maxHeartbeats 2000000
set_option linter.all false
/-! calls that may raise; a lambda handed to a def, where nothing is being shown; a def in a variable -/
namespace ME
open PySem PySem.Spec PyProof.Rows L2 LamX MM

section
variable {X : Cx} {CX : CXT} {k : Nat} {ps : List Str} {sp : Sp} {E : L2.St → XK} {x a : Str} {p pos : Pos} {e : Expr} {es : List Expr} {t : TA}
/-- f(e, ..), f a def of the text that may raise -/
def tDS (sp : Sp) (E : L2.St → XK) (t : TA) : TE := fun σ H Q => t σ H fun vs H1 => sp vs H1 Q (E σ)
theorem call_gS {f : Addr} {fd : FuncData} {pins : List (Addr × Obj)} {σ : L2.St} {H : Hp} {s : Shared} {Q : VK} {us : List Value} {vs : List V}
    (F : FnG X.prog X.w X.K X.mg X.base CX k f fd ps sp) (hr : Rm k X.A) (hb : Binds X.K fd ps []) (hx : PassesAt CX X σ (E σ))
    (I : Inv X pins σ H s) (r : Vals vs us) (h : sp vs H Q (E σ)) :
    wpAny (model X.prog X.w) X.A (call (.ref f) us) (EP X pins σ Q) X.xe s := by
  have nl : (us ++ []).length = ps.length := by
    rw [List.append_nil, ← r.length]
    exact F.arity h
  have bd := hb s us I.kIn nl
  rw [List.append_nil] at bd
  refine wpAny_call (codeAny_mono (F.runs hr I.env0 bd r h) ?_)
  intro res s' hq
  cases res with
  | error e => exact hx pins H s e s' I hq
  | ok fl =>
    cases fl with
    | ret u => exact I.after hq
    | next => exact hq.elim
    | brk => exact hq.elim
    | cont => exact hq.elim
theorem pe_dS (D : Def X.prog X.w X.K X.mg X.base CX k x ps sp) (hr : Rm k X.A) (hx : ∀ σ, PassesAt CX X σ (E σ)) (ha : PA X (e :: es) t)
    (hg : Gl X x := by rfl) (hdb : (x == ("__debug__" : Str)) = false := by decide)
    (he : starEach (e :: es) X.env = (false, eval e X.env) :: starEach es X.env := by rfl)
    (hpl : (backTo pos (starEach es X.env)).any (·.1) = false := by rfl) : PE X (.Call (.Name x p) (e :: es) [] pos) (tDS sp E t) := by
  obtain ⟨f, fd, F, hm, hk, hb, _⟩ := D
  constructor
  intro pins s σ H Q I h
  refine wpAny_Call_Name_kw (ld_glob I hg hm ?_ hdb)
  refine PySem.W.callWith_K (h₀ := X.base) I.ok.mod.kin hk ?_ he hpl
  exact thn (ha.run pos pins s σ H _ I h) fun us s1 ⟨vs, H1, I1, r, q⟩ => ⟨I1.kIn, call_gS F hr hb (hx σ) I1 r q⟩
/-- a(e, ..), a a variable that holds a def of the text: G tells which, and what it promises -/
def tVia (K : PySem.W.Frag) (i : Nat) (G : Addr → Sp → Prop) (E : L2.St → XK) (t : TA) : TE := fun σ H Q =>
  ∃ f sp, σ[i]? = some (some (.ref f)) ∧ G f sp ∧ t σ H fun vs H1 => sp vs H1 Q (E σ)
theorem pe_via {i : Nat} {G : Addr → Sp → Prop}
    (hG : ∀ f sp, G f sp → PySem.W.keepIn X.K (.ref f) = true ∧ ∃ fd k ps, FnG X.prog X.w X.K X.mg X.base CX k f fd ps sp ∧ Rm k X.A ∧ Binds X.K fd ps [])
    (hx : ∀ σ, PassesAt CX X σ (E σ)) (ha : PA X (e :: es) t) (hN : X.N[i]? = some a) (hv : Vis X.env.scope a)
    (hdb : (a == ("__debug__" : Str)) = false := by decide) (hcd : (a == ("__classdict__" : Str)) = false := by decide)
    (he : starEach (e :: es) X.env = (false, eval e X.env) :: starEach es X.env := by rfl)
    (hpl : (backTo pos (starEach es X.env)).any (·.1) = false := by rfl) :
    PE X (.Call (.Name a p) (e :: es) [] pos) (tVia X.K i G E t) := by
  constructor
  intro pins s σ H Q I h
  obtain ⟨f, sp, hs, g, h⟩ := h
  obtain ⟨hk, fd, k, ps, F, hr, hb⟩ := hG f sp g
  refine wpAny_Call_Name_kw (thn ((pe_var (pos := p) (i := i) hN hv hdb hcd).run pins s σ H (fun v H1 => v = .ref f ∧ H1 = H) I ⟨.ref f, hs, rfl, rfl⟩) ?_)
  rintro u s1 ⟨v, H1, I1, r1, rfl, rfl⟩
  obtain rfl : u = Value.ref f := r1
  refine PySem.W.callWith_K (h₀ := X.base) I1.ok.mod.kin hk ?_ he hpl
  exact thn (ha.run pos pins s1 σ H1 _ I1 h) fun us s2 ⟨vs, H2, I2, r, q⟩ => ⟨I2.kIn, call_gS F hr hb (hx σ) I2 r q⟩
end

section
variable {X : Cx} {pins : List (Addr × Obj)} {σ : L2.St} {H : Hp} {s : Shared}
/-- the def that got the lambda calls it -/
theorem act {Eg : XK} {CXg : CXT} {Ng : List Str} {qg : Str} {sg : Scope} {g f c' : Addr} {cdg pm ctv : Value} {params : Arguments}
    {body : Expr} {scope : Scope} {k i : Nat} {a : Str} {pn : List (Addr × Obj)} {xe : Value → Shared → Prop} {W : WX} {E : XK} {tb : TE}
    {p1 p2 : Pos} (I : Inv X pins σ H s) (L : LamS X.env.scope scope)
    (hf : s.heap.get? f = some (PySem.W.kla_obj "<lambda>" (X.env.qual ++ "<lambda>") params body scope (cloFrom X.env.cells scope.names []) pm c' ctv))
    (hfn : H f = none) (hfr : f ∉ frs X.stack)
    (hbind : bindArgs (PySem.W.kla_fn "<lambda>" (X.env.qual ++ "<lambda>") params body scope (cloFrom X.env.cells scope.names []) pm (.ref c') ctv) ⟨[], []⟩ = pure [])
    (tk : Takes ((cxOf CXg X.prog X.w X.K X.mg X.base Ng qg sg g cdg X.A X.stack s H Eg).tr pn xe) W)
    (hW : ∀ cls d σ' H', E cls d H' → W cls d σ' H') (hr : Rm (k + 1) (X.A.deeper (envOfC qg sg s.heap.objs.size g cdg)))
    (hbody : ∀ (A : Around) (outer : List Env) (s : Shared) (H : Hp), Rm k (A.deeper (lamEnv X scope s.heap.objs.size f c')) →
      PE (lamCx X A outer s H E scope f c') body tb)
    (hN : Ng[i]? = some a) (hv : Vis sg a) (hd : (a == ("__debug__" : Str)) = false := by decide)
    (hcd : (a == ("__classdict__" : Str)) = false := by decide) :
    PE ((cxOf CXg X.prog X.w X.K X.mg X.base Ng qg sg g cdg X.A X.stack s H Eg).tr pn xe) (.Call (.Name a p1) [] [] p2)
      (fun σZ HZ Q => σZ[i]? = some (some (.ref f)) ∧ HZ c' = some (CodeO c' (X.env.qual ++ "<lambda>")) ∧ tb σ HZ Q) := by
  constructor
  intro pinsZ sZ σZ HZ Q IZ h
  obtain ⟨hs, hc, ht⟩ := h
  refine wpAny_Call_Name_kw (thn ((pe_var (pos := p1) (i := i) hN hv hd hcd).run pinsZ sZ σZ HZ (fun v H1 => v = .ref f ∧ H1 = HZ) IZ ⟨.ref f, hs, rfl, rfl⟩) ?_)
  rintro u s1 ⟨v, H1, I1, r1, rfl, eH⟩
  rw [eH] at I1
  obtain rfl : u = Value.ref f := r1
  have there := I1.base.keep f _ hf hfn hfr (fun z => nomatch (show f ∈ ([] : List Addr) from z))
  refine PySem.W.callWith_F0 ⟨_, _, _, _, there⟩ ?_
  obtain ⟨⟨oc, vs, t, hoc, hdc, hvc⟩, _, _⟩ := I1.hok c' _ hc
  have run : codeAny (model X.prog X.w) (X.A.deeper (envOfC qg sg s.heap.objs.size g cdg)) (.call (.ref f) ⟨[], []⟩)
      (CR (L2.CX X.prog X.w) (envOfC qg sg s.heap.objs.size g cdg :: X.stack) X.prog X.w HZ s1 Q E) s1 := by
    refine PySem.W.kla_callFunE hr.room.depth there rfl L.co L.gen rfl ⟨c', oc, vs, t, rfl, hoc, hdc, hvc⟩ ?_
    rw [hbind]
    refine wpAny_pure (wpAny_newFunctionEnv (fun y hy => (L.own y hy).2) (fun y hy => absurd hy (by simp)) (fun h₁ hns hsb => ⟨I1.nolimit.fresh _ hsb, ?_⟩) L.kind)
    show codeAny _ _ (.expr body (lamEnv X scope s1.heap.objs.size f c')) _ _
    have kp : ∀ b o, s1.heap.get? b = some o → h₁.get? b = some o := by
      intro b o z
      exact hsb.extBut b o (Nat.ne_of_lt (Heap.lt_size z)) (Heap.get?_push_of_some _ z)
    have J := lam_start2 (E := E) (f := f) (c' := c') (tk := s1.toks + ([] : List (Str × Value)).length) I L I1.env0 hr.room.hd I1.base hns kp
    refine PySem.W.kla_codeExpr (wpAny_mono ((hbody _ _ s1 HZ hr.down).run [] _ _ HZ Q J ht) ?_ fun e s' hq => hq)
    rintro v s' ⟨w', H', J', rv, q⟩
    exact ⟨w', H', J'.os, J'.bare, J'.base, J'.hok, rv, q⟩
  refine wpAny_call (codeAny_mono run fun r s' hq => ?_)
  cases r with
  | error e => exact passes_call tk hW pinsZ σZ HZ s1 e s' I1 hq
  | ok fl =>
    cases fl with
    | ret u => exact I1.after hq
    | next => exact hq.elim
    | brk => exact hq.elim
    | cont => exact hq.elim
/-- x(lambda: body), x a def of the text -/
theorem pe_lam {T : List (Addr × Str)} {TT : (XK → Hp → VK → Prop) → Hp → VK → Prop} {x a : Str} {c P : Addr} {k : Nat} {st : Stmt}
    {Ng : List Str} {params : Arguments} {body : Expr} {scope : Scope} {t : XK → TE} {p lpos pos : Pos} (D : At X.K X.mg x st)
    (hb : ∀ (kV doc pm : Value) (an : Option Addr) (cd ct : Value) (us : List Value), us.length = [a].length →
      bindArgs (PySem.W.fnOf x x (defArgs st) (defBody st) (defScope st) .none kV doc pm an cd ct) ⟨us, []⟩ = pure ([a].zip us))
    (Sg : FnScope Ng [a] (defScope st)) (hNg : Ng[0]? = some a) (hva : Vis (defScope st) a)
    (hG : ∀ g cd, GivesTo X Ng x (defScope st) g cd (defBody st) a (X.env.qual ++ "<lambda>") TT)
    (TB : TabB X.base X.mg c P) (hcode : X.env.code = .ref c) (hmT : (P, X.env.qual ++ "<lambda>") ∈ T)
    (hu : ∀ p ∈ T, p.1 = P → p.2 = X.env.qual ++ "<lambda>") (hr : Rm (k + 2) X.A) (L : LamS X.env.scope scope)
    (hdef : defaultsOf params X.env = ([], []))
    (hbind : ∀ (q : Str) (cl : List (Str × Addr)) (pm cv ctv : Value), bindArgs (PySem.W.kla_fn "<lambda>" q params body scope cl pm cv ctv) ⟨[], []⟩ = pure [])
    (hbody : ∀ (A : Around) (outer : List Env) (s : Shared) (H : Hp) (E : XK) (f c' : Addr), Rm k (A.deeper (lamEnv X scope s.heap.objs.size f c')) →
      PE (lamCx X A outer s H E scope f c') body (t E))
    (hg : Gl X x := by rfl) (hdb : (x == ("__debug__" : Str)) = false := by decide) (hd : (a == ("__debug__" : Str)) = false := by decide)
    (hcd : (a == ("__classdict__" : Str)) = false := by decide) :
    PE X (.Call (.Name x p) [.Lambda params body scope lpos] [] pos) (tLam T TT t) := by
  obtain ⟨fd, F⟩ := D.fn
  have bnd := F.bindsN hb
  obtain ⟨oc, od, dV, kV, doc, pm, an, cdv, ct, osl, rfl, lk, hcg, _⟩ := F.ex
  constructor
  intro pins s σ H Q I h
  obtain ⟨hT, h⟩ := h
  refine wpAny_Call_Name_kw (ld_glob I hg D.glo ?_ hdb)
  refine PySem.W.callWith_K (h₀ := X.base) I.ok.mod.kin F.kp ?_ (by rfl) (by rfl)
  show wpAny _ _ (spliced ((false, eval (.Lambda params body scope lpos) X.env) :: backTo pos (starEach [] X.env))) _ _ s
  refine Calls.spliced_cons (lam_make2 I TB hcode hmT hu hT hdef (L.has I.ok) ?_)
  intro f c' pm' ctv H1 s' I1 eN T1 hf hfn hfr hco
  refine Calls.spliced_nil ⟨I1.kIn, ?_⟩
  have run : codeAny (model X.prog X.w) X.A (.call (.ref (He.ga X.K x)) ⟨[.ref f], []⟩) (CR C8.CX0 X.stack X.prog X.w H1 s' Q C8.E0) s' := by
    refine run_ofS (N := Ng) (ps := [a]) (us := [.ref f]) (vs := [.ref f]) lk hcg Sg (hr.le (Nat.le_refl _)).room I1.env0 (bnd s' [.ref f] I1.kIn rfl) (.cons rfl .nil) rfl fun _ => ?_
    obtain ⟨t', ht', hq'⟩ := hG _ _ f c' s' H1 Q (fun E H' Q' => t E σ H' Q')
      (fun W pn xe E p1 p2 tk hW => act (i := 0) I1 L hf hfn hfr (hbind _ _ _ _ _) tk hW hr.down (fun A outer s H hr2 => hbody A outer s H E f c' hr2) hNg hva hd hcd)
      hco (h H1 eN T1)
    exact ⟨t', ht'.nox, hq'⟩
  refine wpAny_call (codeAny_mono run fun r s2 hq => ?_)
  cases r with
  | error e => exact (show False from hq).elim
  | ok fl =>
    cases fl with
    | ret u => exact I1.after hq
    | next => exact hq.elim
    | brk => exact hq.elim
    | cont => exact hq.elim
end
end ME

set_option Elab.async false
set_option maxRecDepth 100000
set_option maxHeartbeats 2000000
set_option linter.all false
/-! the law's end where its text makes lambdas: the tables of their code objects are written -/
namespace ME
open PySem PySem.Spec PyProof.Rows L2 LamX MM

/-- the heap as it is told: the script, and empty tables -/
structure Told (cs : List (Addr × Addr)) (a : Addr) (ns : List Int) (K : PySem.W.Frag) (H : Hp) : Prop where
  tabs : ∀ p ∈ cs, H p.2 = some (.tbl #[])
  seq : SqL K H a (ns.map V.int)
  each : ∀ b, H b = none ∨ b ∈ cs.map (·.2) ∨ (b = a ∧ ∃ o xs, H b = some (.frz o (.lst xs)))
  out : H a ≠ none → K.lookup a = none
section
variable {P : Program} {w : World} {K : PySem.W.Frag} {mg mb : Str → Option Value} {CX : CXT} {k : Nat} {fa a : Addr}
  {fd : FuncData} {x : Str} {sp : Sp} {s : Shared} {vs : List Value} {ns : List Int} {cs : List (Addr × Addr)}
theorem tab_core {H : Hp} (KX : K.In s.heap) (hns : s.heap.Ns mainGlobals mg) (hb : s.heap.Ns builtinsNs mb)
    (hbb : ∀ y : Str, y ≠ "__name__" → mb y = bootBuiltins y) (nl : s.heap.NoLimit) (hg : s.gens = #[])
    (hT : ∀ p ∈ cs, s.heap.get? p.2 = some { cls := .none, data := .fields #[] }) (nT : ∀ p ∈ cs, K.lookup p.2 = none)
    (C : ∀ p ∈ cs, PySem.W.CodeHd s.heap p.1 p.2)
    (hbm : ∃ (bm : Addr) (ob : Obj), mg "__builtins__" = some (.ref bm) ∧ bm ≠ builtinsNs ∧ s.heap.get? bm = some ob ∧
      ob.cls = .type "module" ∧ ob.dict = some builtinsNs ∧ ob.data = .plain)
    (ha : s.heap.get? a = some { cls := .type "list", data := .seq vs.toArray }) (hr : Rm k callerA)
    (F : ∀ base : Heap, K.In base → base.Ns mainGlobals mg → (∀ p ∈ cs, TabB base mg p.1 p.2) → FnG P w K mg base CX k fa fd [x] sp)
    (hbind : ∀ (s : Shared) (u : Value), BindsTo s fd ⟨[u], []⟩ [(x, u)])
    (hsp : sp [.ref a] H (fun v _ => v = .bl true) fun _ _ _ => False)
    (hCX : ∀ e s', CX [] H s (fun _ _ _ => False) e s' → False) (T : Told cs a ns K H) (ok : HOk P w H s.heap) :
    codeAny (model P w) callerA (.call (.ref fa) ⟨[.ref a], []⟩) (LawEnd s) s := by
  have isTab : ∀ b, b ∈ cs.map (·.2) → ∃ p ∈ cs, b = p.2 := by
    intro b hb
    obtain ⟨p, hp, rfl⟩ := List.mem_map.mp hb
    exact ⟨p, hp, rfl⟩
  -- what is neither a list nor an empty record is not told
  have free : ∀ {b : Addr} {o : Obj}, s.heap.get? b = some o → (∀ y n, o.data ≠ .seq y n) → o.data ≠ .fields #[] → H b = none := by
    intro b o e n1 n2
    rcases T.each b with z | z | ⟨rfl, _⟩
    · exact z
    · obtain ⟨p, hp, rfl⟩ := isTab b z
      rw [hT p hp] at e
      cases e
      exact absurd rfl n2
    · rw [ha] at e
      cases e
      exact absurd rfl (n1 _ _)
  have dict : ∀ {b : Addr} {o : Obj} {es : Array DictEntry} {ep : Nat}, s.heap.get? b = some o → o.data = .dict es ep → H b = none := by
    intro b o es ep e d
    refine free e ?_ ?_
    · intro y n z
      rw [d] at z
      cases z
    · intro z
      rw [d] at z
      cases z
  have sees : ∀ {b : Addr} {m : Str → Option Value}, s.heap.Ns b m → (hidT s.heap H).Ns b m := by
    rintro b m ⟨o, es, ep, e, d, r⟩
    exact ⟨o, es, ep, hidT_get e (dict e d), d, r⟩
  have inB : K.In (hidT s.heap H) := by
    intro b o e
    refine hidT_get (KX b o e) ?_
    rcases T.each b with z | z | ⟨rfl, o', xs, z⟩
    · exact z
    · obtain ⟨p, hp, rfl⟩ := isTab b z
      rw [nT p hp] at e
      cases e
    · rw [T.out (by rw [z]; exact Option.some_ne_none _)] at e
      cases e
  have md : Mod K mg (hidT s.heap H) := by
    obtain ⟨mc, l1, l2⟩ := nl
    exact ⟨inB, sees hns, ⟨mb, sees hb, hbb⟩, ⟨mc, sees l1, l2⟩⟩
  have glob : ∀ {b : Addr} {o : Obj}, s.heap.get? b = some o → (∀ es ep, o.data ≠ .dict es ep) → b ≠ mainGlobals := by
    rintro b o e no rfl
    obtain ⟨o', es, ep, e', d, _⟩ := hns
    rw [e] at e'
    cases e'
    exact no _ _ d
  have TB : ∀ p ∈ cs, TabB (hidT s.heap H) mg p.1 p.2 := by
    intro p hp
    constructor
    · obtain ⟨o, us, file, tf, flags, tg, inF, text, tt, e1, r1, r2, r3, rest⟩ := C p hp
      refine ⟨o, us, file, tf, flags, tg, inF, text, tt, hidT_get e1 (free e1 ?_ ?_), r1, r2, r3, rest⟩
      · intro y n z
        rw [r2] at z
        cases z
      · intro z
        rw [r2] at z
        cases z
        simp at r3
    · obtain ⟨bm, ob, b1, b2, b3, b4, b5, b6⟩ := hbm
      have n1 : bm ≠ mainGlobals := by
        refine glob b3 ?_
        intro es ep z
        rw [b6] at z
        cases z
      have n2 : bm ≠ p.2 := by
        rintro rfl
        rw [hT p hp] at b3
        cases b3
        cases b6
      refine ⟨bm, ob, b1, b2, n1, n2, hidT_get b3 (free b3 ?_ ?_), b4, b5, b6⟩
      · intro y n z
        rw [b6] at z
        cases z
      · intro z
        rw [b6] at z
        cases z
    · have := glob (hT p hp) (by intro es ep z; cases z)
      exact fun z => this z.symm
  have e0 : Env0 P w K mg (hidT s.heap H) callerA [] s H := by
    refine ⟨rfl, md, fun b o e => of_hidT e, Nat.le_of_eq (hidT_size _ _), trivial, ?_, ok, .of_eq hg⟩
    intro b z
    cases z
  have vv : Vals [V.ref a] [Value.ref a] := .cons rfl .nil
  refine codeAny_mono ((F _ inB (sees hns) TB).runs (us := [.ref a]) hr e0 (hbind s (.ref a)) vv hsp) ?_
  intro r t h
  cases r with
  | error e => exact (hCX e t h).elim
  | ok fl =>
    cases fl with
    | next => exact h.elim
    | brk => exact h.elim
    | cont => exact h.elim
    | ret u =>
      obtain ⟨v, H', os, bare, un, ok', rv, q⟩ := h
      have q2 : v = .bl true := q
      subst q2
      have eu : u = Value.bool true := rv
      subst eu
      have grown : ∀ p ∈ cs, ∃ more : Array Value, t.heap.get? p.2 = some { cls := .none, data := .fields more } := by
        intro p hp
        obtain ⟨more, z⟩ := un.tbls p.2 #[] (T.tabs p hp)
        exact ⟨_, ok' p.2 _ z⟩
      have kept : ∀ b o, b ∉ cs.map (·.2) → s.heap.get? b = some o → t.heap.get? b = some o := by
        intro b o nb e
        rcases T.each b with z | z | ⟨rfl, o', xs, z⟩
        · exact un.keep b o e z (by intro z; cases z) (by intro z; cases z)
        · exact absurd z nb
        · have e1 := (ok b _ z).1
          have e2 := (ok' b _ (un.frzs b o' _ z)).1
          rw [e] at e1
          cases e1
          exact e2
      refine ⟨rfl, ⟨?_, ?_⟩, os, bare⟩
      · intro b o e
        by_cases hb : b ∈ cs.map (·.2)
        · obtain ⟨p, hp, rfl⟩ := isTab b hb
          obtain ⟨more, hm⟩ := grown p hp
          rw [hT p hp] at e
          cases e
          exact .inr (.inl ⟨((C p hp).tab (hT p hp)).isCodeTable, rfl, #[], more, rfl, by rw [Array.empty_append]; exact hm⟩)
        · exact .inl (kept b o hb e)
      · intro b o e
        by_cases hb : b ∈ cs.map (·.2)
        · obtain ⟨p, hp, rfl⟩ := isTab b hb
          obtain ⟨more, hm⟩ := grown p hp
          exact ⟨_, hm⟩
        · exact ⟨o, kept b o hb e⟩
theorem law_tab (KX : K.In s.heap) (hns : s.heap.Ns mainGlobals mg) (hb : s.heap.Ns builtinsNs mb)
    (hbb : ∀ y : Str, y ≠ "__name__" → mb y = bootBuiltins y) (nl : s.heap.NoLimit) (hg : s.gens = #[])
    (hT : ∀ p ∈ cs, s.heap.get? p.2 = some { cls := .none, data := .fields #[] }) (nT : ∀ p ∈ cs, K.lookup p.2 = none)
    (C : ∀ p ∈ cs, PySem.W.CodeHd s.heap p.1 p.2)
    (hbm : ∃ (bm : Addr) (ob : Obj), mg "__builtins__" = some (.ref bm) ∧ bm ≠ builtinsNs ∧ s.heap.get? bm = some ob ∧
      ob.cls = .type "module" ∧ ob.dict = some builtinsNs ∧ ob.data = .plain)
    (ha : s.heap.get? a = some { cls := .type "list", data := .seq vs.toArray }) (hi : IntsAre vs ns) (hl : ns.length ≤ sizeLine)
    (hr : Rm k callerA)
    (F : ∀ base : Heap, K.In base → base.Ns mainGlobals mg → (∀ p ∈ cs, TabB base mg p.1 p.2) → FnG P w K mg base CX k fa fd [x] sp)
    (hbind : ∀ (s : Shared) (u : Value), BindsTo s fd ⟨[u], []⟩ [(x, u)])
    (hsp : ∀ H : Hp, (∀ p ∈ cs, H p.2 = some (.tbl #[])) → SqL K H a (ns.map V.int) → sp [.ref a] H (fun v _ => v = .bl true) fun _ _ _ => False)
    (hCX : ∀ H e s', CX [] H s (fun _ _ _ => False) e s' → False) :
    codeAny (model P w) callerA (.call (.ref fa) ⟨[.ref a], []⟩) (LawEnd s) s := by
  have rv := vals_ints hi
  have nv := hi.length
  have apart : a ∉ cs.map (·.2) := by
    intro z
    obtain ⟨p, hp, e⟩ := List.mem_map.mp z
    have h1 := hT p hp
    rw [e, ha] at h1
    cases h1
  have mem : ∀ p ∈ cs, p.2 ∈ cs.map (·.2) := fun p hp => List.mem_map.mpr ⟨p, hp, rfl⟩
  have tabOk : ∀ b, b ∈ cs.map (·.2) → s.heap.get? b = some { cls := .none, data := .fields #[] } := by
    intro b hb
    obtain ⟨p, hp, rfl⟩ := List.mem_map.mp hb
    exact hT p hp
  have go : ∀ H, Told cs a ns K H → HOk P w H s.heap → codeAny (model P w) callerA (.call (.ref fa) ⟨[.ref a], []⟩) (LawEnd s) s :=
    fun H T ok => tab_core KX hns hb hbb nl hg hT nT C hbm ha hr F hbind (hsp H T.tabs T.seq) (hCX H) T ok
  cases fr : K.lookup a with
  | some o =>
    have e := KX a o fr
    rw [ha] at e
    cases e
    refine go (fun b => if b ∈ cs.map (·.2) then some (.tbl #[]) else none) ⟨fun p hp => if_pos (mem p hp), ?_, ?_, ?_⟩ ?_
    · refine .inr ⟨_, vs.toArray, _, fr, rfl, rfl, rfl, ?_, by simpa using rv⟩
      rw [List.size_toArray, nv]
      exact hl
    · intro b
      by_cases hb : b ∈ cs.map (·.2)
      · exact .inr (.inl hb)
      · exact .inl (if_neg hb)
    · intro z
      exact absurd (if_neg apart) z
    · intro b u z
      by_cases hb : b ∈ cs.map (·.2)
      · have z1 := (if_pos hb).symm.trans z
        cases z1
        exact tabOk b hb
      · have z1 := (if_neg hb).symm.trans z
        cases z1
  | none =>
    refine go (fun b => if b = a then some (.frz { cls := .type "list", data := .seq vs.toArray } (.lst (ns.map V.int)))
      else if b ∈ cs.map (·.2) then some (.tbl #[]) else none) ⟨?_, ?_, ?_, ?_⟩ ?_
    · intro p hp
      have ne : ¬ p.2 = a := fun z => apart (z ▸ mem p hp)
      exact (if_neg ne).trans (if_pos (mem p hp))
    · exact .inl (.inr ⟨_, if_pos rfl⟩)
    · intro b
      by_cases e : b = a
      · exact .inr (.inr ⟨e, _, _, if_pos e⟩)
      · by_cases hb : b ∈ cs.map (·.2)
        · exact .inr (.inl hb)
        · exact .inl ((if_neg e).trans (if_neg hb))
    · exact fun _ => fr
    · intro b u z
      by_cases e : b = a
      · have z1 := (if_pos e).symm.trans z
        cases z1
        subst e
        refine ⟨ha, ?_, vs, _, rv, ha⟩
        rw [List.length_map]
        exact hl
      · have z1 := (if_neg e).symm.trans z
        by_cases hb : b ∈ cs.map (·.2)
        · have z2 := (if_pos hb).symm.trans z1
          cases z2
          exact tabOk b hb
        · have z2 := (if_neg hb).symm.trans z1
          cases z2
end
/-- the head's end, with tables -/
theorem walk_tab {l : PySem.W.OpenLaw} {n k : Nat} {q : Program} {loose : List Str} {XP : (Str → Option Value) → Heap → Prop}
    {YP : World → Heap → Prop} {d : DefRec} {CX : World → CXT} {x : Str}
    (hn : l.most = some n) (hn2 : n ≤ sizeLine) (hdf : d.params.defaults = []) (hr : Rm k callerA)
    (F : ∀ (w : World) (mg : Str → Option Value) (fa : Addr) (h : Heap), YP w h → h.Ns mainGlobals mg → mg d.name = some (.ref fa) →
      ∃ (K : PySem.W.Frag) (fd : FuncData) (sp : Sp) (cs : List (Addr × Addr)), K.In h ∧
        (∀ p ∈ cs, h.get? p.2 = some { cls := .none, data := .fields #[] }) ∧ (∀ p ∈ cs, K.lookup p.2 = none) ∧
        (∀ p ∈ cs, PySem.W.CodeHd h p.1 p.2) ∧ (∀ (s : Shared) (u : Value), BindsTo s fd ⟨[u], []⟩ [(x, u)]) ∧
        (∀ (H : Hp) (a : Addr) (ns : List Int), ns.length ≤ n → (∀ p ∈ cs, H p.2 = some (.tbl #[])) → SqL K H a (ns.map V.int) →
          sp [.ref a] H (fun v _ => v = .bl true) fun _ _ _ => False) ∧
        ∀ base : Heap, K.In base → base.Ns mainGlobals mg → (∀ p ∈ cs, TabB base mg p.1 p.2) → FnG l.prog w K mg base (CX w) k fa fd [x] sp)
    (hCX : ∀ (w : World) (H : Hp) (s : Shared) (e : Value) (s' : Shared), CX w [] H s (fun _ _ _ => False) e s' → False) :
    PySem.W.WalkO q loose XP YP l.row.toRowW d [] (fun f vs => PySem.call f vs) := by
  refine Att.attach_callB hn hdf ?_
  intro w s0 s1 mg mb fa o pm cd doc a vs ns G Y ho hd hcd hmg hobj hints hlen hbits hg
  obtain ⟨K, fd, sp, cs, KX, hT, nT, C, hb, hsp, hF⟩ := F w mg fa _ Y G.T.g hmg
  exact law_tab KX G.T.g G.T.b G.T.builtins G.T.nolimit hg hT nT C G.T.bmain hobj hints (Nat.le_trans hlen hn2) hr hF hb
    (fun H t hS => hsp H a ns hlen t hS) (fun H e s' => hCX w H s1 e s')
end ME

set_option Elab.async false
set_option linter.all false
set_option maxRecDepth 100000
set_option maxHeartbeats 2000000
/-! zip of a tuple and a list -/
namespace MM
open PySem PySem.Spec PyProof.Rows L2
/-- a tuple at a beside a list at b -/
def ItzM (K : PySem.W.Frag) (a b : Addr) : It where
  go i H := ∃ (us ws : List V) (p q : V), SqT K H a us ∧ SqL K H b ws ∧ us[i]? = some p ∧ ws[i]? = some q
  yld i H v H' := ∃ T p q, v = .ref T ∧ H T = none ∧ H' = upd H T (.tup [p, q]) ∧ (∀ us, SqT K H a us → us[i]? = some p) ∧ ∀ ws, SqL K H b ws → ws[i]? = some q
  stop i H := ∃ us ws : List V, SqT K H a us ∧ SqL K H b ws ∧ i ≤ us.length ∧ i ≤ ws.length ∧ (i = us.length ∨ i = ws.length)
abbrev tnM (a b z TI TO i1 i2 : Addr) (i : Nat) (h : Heap) : Prop :=
  IsZip h z TI TO .none ∧ IsTupOf2 h TI (.ref i1) (.ref i2) ∧ (∃ p q, IsTupOf2 h TO p q) ∧ h.IsTupleIter i1 a i ∧ h.IsListIter i2 b i
theorem sepM {a b z TI TO i1 i2 : Addr} (D : ZipApart z TI TO i1 i2 a b) : ZipSep2 z TI TO i1 i2 [i1, a] [i2, b] := by
  obtain ⟨h1, h2, h3, h4, h5, h6, h7, h8, h9, h10, h11, h12, h13, h14, h15, h16, h17, h18⟩ := D
  constructor <;> simp only [List.mem_cons, List.not_mem_nil, or_false, true_or, not_or, ne_eq]
  · exact h1
  · exact h2
  · exact h5
  · exact h6
  · exact ⟨Ne.symm h3, Ne.symm h11⟩
  · exact ⟨h8, Ne.symm h12⟩
  · exact h7
  · exact ⟨Ne.symm h4, Ne.symm h15⟩
  · exact ⟨h9, Ne.symm h16⟩
  · exact ⟨h10, Ne.symm h17⟩
  · exact ⟨Ne.symm h10, Ne.symm h14⟩
theorem turn_zipM {P : Program} {w : World} {K : PySem.W.Frag} {tgs : List Expr} {n : Nat} {ps : Pos} {a b z TI TO i1 i2 : Addr} (D : ZipApart z TI TO i1 i2 a b) :
    Turn P w K (.Tuple tgs n ps) (ItzM K a b) [z, TI, TO, i1, i2] z (tnM a b z TI TO i1 i2) where
  mem := List.mem_cons_self
  obj := by
    rintro i h ⟨e1, e2, ⟨p, q, e3⟩, ⟨o1, e4, _, d1⟩, ⟨o2, e5, _, d2⟩⟩ c hc
    simp only [List.mem_cons, List.not_mem_nil, or_false] at hc
    rcases hc with rfl | rfl | rfl | rfl | rfl
    · exact ⟨_, e1, nofun⟩
    · exact ⟨_, e2, nofun⟩
    · exact ⟨_, e3, nofun⟩
    · exact ⟨o1, e4, fun v e => by rw [d1] at e; cases e⟩
    · exact ⟨o2, e5, fun v e => by rw [d2] at e; cases e⟩
  keep := by
    rintro i h h' ⟨e1, e2, ⟨p, q, e3⟩, e4, e5⟩ k
    exact ⟨k _ (by simp) _ e1, k _ (by simp) _ e2, ⟨p, q, k _ (by simp) _ e3⟩, e4.at (k _ (by simp)), e5.at (k _ (by simp))⟩
  item := by
    rintro X rfl rfl rfl calm i pins s σ H E I fp ⟨ez, eTI, ⟨p0, q0, eTO⟩, e1, e2⟩ ⟨us, ws, p, q, S1, S2, hp, hq⟩
    obtain ⟨as_, r1, c1, _⟩ := I.tuple S1
    obtain ⟨bs, r2, c2, _⟩ := I.list S2
    obtain ⟨u1, hu1, ru1⟩ := r1.get hp
    obtain ⟨u2, hu2, ru2⟩ := r2.get hq
    have zlt : z < s.heap.objs.size := Heap.lt_size ez
    have hd := I.ok.hd calm
    have l1 : i < as_.toArray.size := by
      rw [List.size_toArray]
      exact (List.getElem?_eq_some_iff.mp hu1).1
    have l2 : i < bs.toArray.size := by
      rw [List.size_toArray]
      exact (List.getElem?_eq_some_iff.mp hu2).1
    refine wpAny_pyNext_zipD2_item (sepM D) (Draws.tuple (A := X.A.in1) hd i1 a D.l1i1 as_.toArray) (Draws.list (A := X.A.in1) hd i2 b D.l2i2 bs.toArray) ez eTI eTO ⟨e1, c1⟩ ⟨e2, c2.isList⟩ l1 l2
      fun x1 x2 h' tk y1 y2 f1 f2 f3 f4 f5 f6 kp => ?_
    have y1' : some u1 = some x1 := by
      rw [← hu1, ← y1]
      simp
    have y2' : some u2 = some x2 := by
      rw [← hu2, ← y2]
      simp
    cases y1'
    cases y2'
    refine ⟨_, rfl, wpAny_letOwnedTupleGo_zip (s := { s with heap := h', toks := tk }) f1 fun h2 g1 sb => ?_⟩
    have zn : s.heap.objs.size ≠ z := Nat.ne_of_gt zlt
    have T2 : h2.get? s.heap.objs.size = some { cls := .type "tuple", data := .seq #[u1, u2] } := (sb.2 _ zn).trans f5
    have new : ObjOk X.prog X.w (upd H s.heap.objs.size (.tup [p, q])) h2 s.heap.objs.size (.tup [p, q]) :=
      ⟨by show 2 ≤ sizeLine; decide, [u1, u2], .cons ru1 (.cons ru2 .nil), ⟨_, T2, rfl, _, rfl⟩⟩
    have I2 : Inv X pins σ (upd H s.heap.objs.size (.tup [p, q])) { s with heap := h2, toks := tk } := by
      refine I.turnedNew (t' := tk) (ch := [z, TI, TO, i1, i2]) (fun c o nc e => ?_) fp (Nat.le_refl _) new
      simp only [List.mem_cons, List.not_mem_nil, or_false, not_or] at nc
      exact (sb.2 c nc.1).trans (kp c o nc.1 nc.2.2.1 nc.2.2.2.1 nc.2.2.2.2 e)
    refine ⟨.ref s.heap.objs.size, _, I2, rfl, ⟨_, p, q, rfl, I.hok.fresh (Nat.le_refl _), rfl, ?_, ?_⟩, ⟨g1, (sb.2 _ D.TIz).trans (kp _ _ D.TIz D.TITO D.TIi1 D.TIi2 eTI), ⟨u1, u2, (sb.2 _ D.TOz).trans f2⟩, f3.1.at fun o e => (sb.2 _ D.i1z).trans e, f4.1.at fun o e => (sb.2 _ D.i2z).trans e⟩, fun c hc => ?_⟩
    · intro l hl
      rw [I.tuple_inj hl S1]
      exact hp
    · intro l hl
      rw [I.list_inj hl S2]
      exact hq
    · have lt : c < s.heap.objs.size := by
        obtain ⟨_, q1, _⟩ := e1
        obtain ⟨_, q2, _⟩ := e2
        have hc2 := hc
        simp only [List.mem_cons, List.not_mem_nil, or_false] at hc2
        rcases hc2 with rfl | rfl | rfl | rfl | rfl
        · exact zlt
        · exact Heap.lt_size eTI
        · exact Heap.lt_size eTO
        · exact Heap.lt_size q1
        · exact Heap.lt_size q2
      rw [upd_ne (Nat.ne_of_lt lt)]
      exact (fp c hc).1
  done := by
    rintro X rfl rfl rfl calm i pins s σ H E I fp ⟨ez, eTI, ⟨p0, q0, eTO⟩, e1, e2⟩ ⟨us, ws, S1, S2, m1, m2, le⟩
    obtain ⟨as_, r1, c1, _⟩ := I.tuple S1
    obtain ⟨bs, r2, c2, _⟩ := I.list S2
    have hd := I.ok.hd calm
    have n1 := r1.length
    have n2 := r2.length
    refine wpAny_pyNext_zipD2_end (sepM D) (Draws.tuple (A := X.A.in1) hd i1 a D.l1i1 as_.toArray) (Draws.list (A := X.A.in1) hd i2 b D.l2i2 bs.toArray) ez eTI eTO ⟨e1, c1⟩ ⟨e2, c2.isList⟩
      (by rw [List.size_toArray]; omega) (by rw [List.size_toArray]; omega) (by rw [List.size_toArray, List.size_toArray]; omega) fun h' tk kp => ⟨rfl, I.turnedL (t' := tk) (ch := [z, TI, TO, i1, i2]) (fun c o nc e => ?_) fp⟩
    simp only [List.mem_cons, List.not_mem_nil, or_false, not_or] at nc
    exact kp c o nc.1 nc.2.2.1 nc.2.2.2.1 nc.2.2.2.2 e
  self := fun A i s Q E st h => wpAny_pyIter_zip st.1 h
def iZipM (K : PySem.W.Frag) (ta : TA) : TI := fun σ H R => ta σ H fun vs H1 => ∃ a b us ws, vs = [.ref a, .ref b] ∧ SqT K H1 a us ∧ SqL K H1 b ws ∧ R (ItzM K a b) H1
theorem pi_zipM {X : Cx} {e e2 : Expr} {ta : TA} {p pos ps : Pos} {tgs : List Expr} {n : Nat} (hg : Gl X "zip") (hm : X.mg "zip" = none) (ha : PA X [e, e2] ta)
    (hs : starEach [e, e2] X.env = (false, eval e X.env) :: starEach [e2] X.env := by rfl) (hpl : (backTo pos (starEach [e2] X.env)).any (·.1) = false := by rfl) :
    PI X (.Tuple tgs n ps) (.Call (.Name "zip" p) [e, e2] [] pos) (iZipM X.K ta) := by
  refine ⟨fun pins s σ H R I h => Call_ (ld_blt I hg hm PyProof.Rows.boot_zip (PyProof.Rows.callWith_type1 (thn (ha.run pos pins s σ H _ I h) fun vals s1 hx => ?_) hs hpl))⟩
  obtain ⟨vs, H1, I1, rs, a, b, us, ws, rfl, S1, S2, q⟩ := hx
  cases rs with
  | cons h1 rs1 =>
  cases rs1 with
  | cons h2 t =>
    cases t
    cases h1
    cases h2
    obtain ⟨as_, r1, c1, _⟩ := I1.tuple S1
    obtain ⟨bs, r2, c2, _⟩ := I1.list S2
    have nw : ∀ k : Nat, FpOk X pins H1 (s1.heap.objs.size + k) := fun k => I1.fpOk (Nat.le_add_right _ _) (I1.hok.fresh (Nat.le_add_right _ _))
    refine zip_begins2 (begins_tuple a as_.toArray) (begins_list b bs.toArray) c1 c2.isList fun h' g1 g2 g3 g4 g5 _ kp => wpAny_pyIter_zip g1 ?_
    have I2 : Inv X pins σ H1 { s1 with heap := h' } := I1.kept (t' := s1.toks) kp
    have la : a < s1.heap.objs.size := by
      obtain ⟨_, z, _⟩ := id c1
      exact Heap.lt_size z
    refine ⟨s1.heap.objs.size + 4, [s1.heap.objs.size + 4, s1.heap.objs.size + 2, s1.heap.objs.size + 3, s1.heap.objs.size, s1.heap.objs.size + 1], _, _, H1, rfl, I2, turn_zipM (PySem.W.ktu_apart s1.heap.objs.size a b la c2.lt), ⟨g1, g2, ⟨_, _, g3⟩, ⟨_, g4, rfl, rfl⟩, ⟨_, g5, rfl, rfl⟩⟩, fun c hc => ?_, q⟩
    simp only [List.mem_cons, List.not_mem_nil, or_false] at hc
    rcases hc with rfl | rfl | rfl | rfl | rfl
    · exact nw 4
    · exact nw 2
    · exact nw 3
    · exact nw 0
    · exact nw 1
section
variable {K : PySem.W.Frag} {a b : Addr} {us ws : List V}
theorem walk_zipM {n : Nat} (hn : n = min us.length ws.length) : Walk (ItzM K a b) n (fun H => SqT K H a us ∧ SqL K H b ws) (YPair (fun i => us[i]?) (fun i => ws[i]?)) := by
  refine ⟨fun i H lt q => ?_, fun H q => ?_, fun i H x H' lt q y => ?_⟩
  · exact ⟨us, ws, us[i]'(by omega), ws[i]'(by omega), q.1, q.2, List.getElem?_eq_getElem _, List.getElem?_eq_getElem _⟩
  · exact ⟨us, ws, q.1, q.2, by omega, by omega, by omega⟩
  · obtain ⟨T, p, r, rfl, fr, rfl, f1, f2⟩ := y
    exact ⟨T, p, r, rfl, fr, rfl, f1 us q.1, f2 ws q.2⟩
variable {v : Nat} {g : TG} {tt : TT} {te : TE} {vs : List Nat} {σ : L2.St} {H1 : Hp} {D : Addr} {Qd : Hp → Prop} {n : Nat}
theorem lc_zipM (hn : n = min us.length ws.length) (Pv : Nat → Hp → Prop) (h0 : Pv 0 (upd H1 D (.lst []))) (hq : ∀ i H, i ≤ n → Pv i H → SqT K H a us ∧ SqL K H b ws)
    (hs : ∀ i x y H T, us[i]? = some x → ws[i]? = some y → Pv i H → H T = none → LcT g tt te vs σ D (Pv (i + 1)) (.ref T) (upd H T (.tup [x, y])))
    (hd : ∀ H, Pv n H → Qd H) : LcW (ItzM K a b) g tt te vs σ H1 D Qd := by
  refine lc_it (walk_zipM hn) Pv h0 hq (fun i x H H' lt p y => ?_) hd
  obtain ⟨T, p1, q1, rfl, fr, rfl, e1, e2⟩ := y
  exact hs i p1 q1 H T e1 e2 p fr
end
end MM

set_option Elab.async false
set_option linter.all false
set_option maxRecDepth 100000
set_option maxHeartbeats 2000000
/-! repr of data, and of the dict without keys -/
namespace MM
open PySem PySem.Spec PyProof.Rows L2
/-- data, or a dict without keys -/
def Dq (K : PySem.W.Frag) (H : Hp) (v : V) (d : PyData) : Prop := (Dp K H v d ∧ SeqAt.shaped d = true) ∨ ∃ a, v = .ref a ∧ H a = some (.dK []) ∧ d = .dict []
def rReprO (K : PySem.W.Frag) : List V → Hp → VK → Prop := fun xs H Q =>
  ∃ x d, xs = [x] ∧ Dq K H x d ∧ d.showable = true ∧ d.shown.length ≤ sizeLine ∧ Q (.str d.shown) H
theorem cr_reprO {X : Cx} (hg : X.A.guards = some []) (hu : X.A.units + 66 < cLine) : CallR X (.builtin "repr") (rReprO X.K) := by
  intro pins s σ H xs us Q I r h
  obtain ⟨x, d, rfl, ⟨hd, hs⟩ | ⟨a, rfl, ha, rfl⟩, hw, hz, q⟩ := h
  · exact cr_repr hg hu pins s σ H _ us Q I r ⟨x, d, rfl, hd, hs, hw, hz, q⟩
  · obtain ⟨u, rfl, ru⟩ := vals1 r
    cases ru
    obtain ⟨_, lo, vs, kv, o, es, n, e1, e2, e3, _, e5, _⟩ := dk_of I.hok ha
    cases kv
    have em : es.toList = [] := List.eq_nil_of_length_eq_zero e5.length
    have rd : Reads s.heap (.ref a) (.dict []) (a :: [] ++ []) := by
      refine Reads.dict e1 e2.1 e3 ?_ ?_
      · rw [em]
        exact .nil
      · rw [em]
        exact .nil
    have ns : sysModules ∉ (a :: [] ++ [] : List Addr) := by
      intro z
      rw [show (a :: [] ++ [] : List Addr) = [a] from rfl, List.mem_singleton] at z
      rw [z, beq_self_eq_true] at lo
      cases lo
    exact repr_of_reads' rd hw (fun _ => ns) hg (Nat.lt_of_le_of_lt (Nat.add_le_add_left (by decide) _) hu) (fun _ _ e => e) (fun h' z tk hk => ⟨.str _, H, I.kept hk, ⟨_, rfl⟩, q⟩) hz
end MM
namespace MM
open PySem PySem.Spec PyProof.Rows L2
/-- a short tuple, many times -/
def rRepW (K : PySem.W.Frag) : R2 := fun x y H Q => ∃ l k xs, x = .ref l ∧ y = .int k ∧ SqT K H l xs ∧ xs ≠ [] ∧ 2 ≤ k ∧ k ≤ 10000 ∧ xs.length ≤ 100 ∧ ∀ p, H p = none → Q (.ref p) (upd H p (.tup (List.replicate k.toNat xs).flatten))
theorem op_repW {X : Cx} : OpR X (binaryOp .Mult) (rRepW X.K) := by
  rintro pins s σ H _ _ v u Q I rx ry ⟨l, k, xs, rfl, rfl, hT, some_, k2, kb, lb, q⟩
  cases rx
  obtain ⟨tok, rfl⟩ := ry
  obtain ⟨vals, r, ⟨⟨cls, dd, data, sl⟩, ho, hc, n, hd⟩, _⟩ := I.tuple hT
  dsimp only at hc hd
  cases hc
  cases hd
  have len : vals.length = xs.length := r.length.symm
  have pos : 0 < vals.length := by
    rw [len]
    exact List.length_pos_iff.mpr some_
  have ie : vals.toArray.isEmpty = false := by
    cases vals with
    | nil => cases pos
    | cons a b => rfl
  have sz : vals.toArray.size = xs.length := by rw [List.size_toArray, len]
  have prod : ((vals.toArray.size : Nat) : Int) * k ≤ 1000000 := by
    rw [sz]
    have : ((xs.length : Nat) : Int) * k ≤ 100 * k := Int.mul_le_mul_of_nonneg_right (by omega) (by omega)
    omega
  have fl : (List.replicate k.toNat vals).flatten.length ≤ sizeLine := by
    rw [PyProof.Rows.lm_len_rep_flat, len, sizeLine_eq]
    have : k.toNat * xs.length ≤ 10000 * 100 := Nat.mul_le_mul (by omega) lb
    omega
  have g0 : (decide (k < -(2 ^ 63)) || decide (k ≥ 2 ^ 63)) = false := by
    rw [Bool.or_eq_false_iff]
    exact ⟨decide_eq_false (by omega), decide_eq_false (by omega)⟩
  have g1 : (vals.toArray.isEmpty || k == 1) = false := by
    rw [Bool.or_eq_false_iff]
    exact ⟨ie, beq_eq_false_iff_ne.mpr (by omega)⟩
  have g2 : (decide (k ≤ 0) || vals.toArray.isEmpty) = false := by
    rw [Bool.or_eq_false_iff]
    exact ⟨decide_eq_false (by omega), ie⟩
  have g3 : Builtin.Tuple.tupleTooMany (((vals.toArray.size : Nat) : Int) * k) = false := by
    unfold Builtin.Tuple.tupleTooMany
    rw [sizeLine_eq]
    exact decide_eq_false (by omega)
  have M := tuple_mulW l vals.toArray n dd sl k tok g0 g1 g2 (by omega) g3 (by rw [size_rep, List.size_toArray]; exact fl)
  have isT : s.TypeIs (.ref l) "tuple" := ⟨_, ho, rfl⟩
  have new : L2.Inv X pins σ (upd H s.heap.objs.size (.tup (List.replicate k.toNat xs).flatten)) { s with heap := s.heap.push { cls := .type "tuple", data := .seq (List.replicate k.toNat vals).flatten.toArray } } := by
    refine I.laid (t' := s.toks) (fun _ _ e => Heap.get?_push_of_some _ e) (Nat.le_refl _) ⟨?_, _, r.rep k.toNat, IsTup.new _ _⟩
    rw [← len] at lb
    rw [PyProof.Rows.lm_len_rep_flat, sizeLine_eq, ← len]
    have : k.toNat * vals.length ≤ 10000 * 100 := Nat.mul_le_mul (by omega) lb
    omega
  refine wpAny_binaryOp_repeat_ref (U := "int") (by decide) isT (fun s' => typeIs_int s' k tok) noFill_tuple_mul F.fills_int_mul
    F.slot_int_rmul repeat_tuple F.slot_int_index.lookup ?_
  refine call_meets F.slot_int_rmul (typeIs_int s k tok) F.entry_int_rmul (F.args_int_rmul_2 _ _)
    (int_rmul_tuple k tok l vals.toArray n dd sl) ⟨ho, rfl, isT, ?_⟩
  refine call_meets F.slot_tuple_mul isT F.entry_tuple_mul (F.args_tuple_mul_2 _ _) M ⟨ho, ?_⟩
  rw [size_rep]
  exact ⟨.ref s.heap.objs.size, _, new, rfl, q _ (I.hok.fresh (Nat.le_refl _))⟩
end MM

set_option Elab.async false
set_option maxRecDepth 100000
set_option maxHeartbeats 2000000
set_option linter.all false
/-! an exception that was caught and is handed on: tracked in the suite, asked by isinstance in another def, its field read -/
namespace ME
open PySem PySem.Spec PyProof.Rows L2
/-- a caught exception of the class cls, its dict at d, at a -/
def ExH (cls : Value) (d : Option Addr) (a : Addr) : HO := .ext fun h => ∃ (oe : Obj) (vs : Array Value), h.get? a = some oe ∧ Zc cls d oe ∧ oe.data = .fields vs
theorem exH_ok {P : Program} {w : World} {H : Hp} {h : Heap} {a : Addr} {cls : Value} {d : Option Addr} {oe : Obj} {vs : Array Value}
    (e : h.get? a = some oe) (z : Zc cls d oe) (hd : oe.data = .fields vs) : ObjOk P w H h a (ExH cls d a) :=
  ⟨⟨oe, vs, e, z, hd⟩, ⟨oe, e⟩, fun _ _ ⟨o, v, q, r⟩ k => ⟨o, v, k o q, r⟩⟩
theorem exH_at {P : Program} {w : World} {H : Hp} {h : Heap} {a : Addr} {cls : Value} {d : Option Addr} (x : HOk P w H h) (e : H a = some (ExH cls d a)) :
    ∃ (oe : Obj) (vs : Array Value), h.get? a = some oe ∧ Zc cls d oe ∧ oe.data = .fields vs := by
  have z : ObjOk P w H h a (ExH cls d a) := x a _ e
  exact z.1
section
variable {X : Cx} {pins : List (Addr × Obj)} {σ : L2.St} {H : Hp} {s : Shared}
/-- an object that is new since the entry is tracked from now on -/
theorem Inv.track {a : Addr} {o : HO} (I : Inv X pins σ H s) (n0 : X.s_0.heap.get? a = none) (hn : H a = none) (ne : a ≠ X.env.locals)
    (nc : ∀ x c, X.env.cells.lookup x = some c → c ≠ a) (np : ∀ p ∈ X.pn ++ pins, p.1 ≠ a) (new : ObjOk X.prog X.w (upd H a o) s.heap a o) :
    Inv X pins σ (upd H a o) s := by
  have b0 : ∀ b u, X.s_0.heap.get? b = some u → b ≠ a := fun b u q z => by
    rw [z, n0] at q
    cases q
  refine ⟨I.ok, I.os, I.bare, ⟨I.base.keep, I.base.slot, fun b u q n hx' => ?_, I.base.there, fun b xs q => ?_, fun b u xs q => ?_, fun b ps q => ?_⟩, I.loc, I.cell, ?_, fun x c e => ?_, fun p hp => ?_, ?_, I.len⟩
  · rw [upd_ne (b0 b u q)]
    exact I.base.free b u q n hx'
  · have z := I.base.tups b xs q
    rw [upd_ne (ne_of_none z hn)]
    exact z
  · have z := I.base.frzs b u xs q
    rw [upd_ne (ne_of_none z hn)]
    exact z
  · obtain ⟨m, z⟩ := I.base.tbls b ps q
    exact ⟨m, by rw [upd_ne (ne_of_none z hn)]; exact z⟩
  · rw [upd_ne ne.symm]
    exact I.free
  · rw [upd_ne (nc x c e)]
    exact I.freeC x c e
  · obtain ⟨e, n, r⟩ := I.pin p hp
    exact ⟨e, by rw [upd_ne (np p hp)]; exact n, r⟩
  · exact HOk.laidN I.hok (fun _ _ q => q) hn new
theorem Inv.inT (I : Inv X pins σ H s) (a : Addr) : Inv (X.suite a X.pn) pins σ H s :=
  ⟨I.ok.suite _ _, I.os, I.bare, I.base, I.loc, I.cell, I.free, I.freeC, I.pin, I.hok, I.len⟩
theorem Inv.outT {a : Addr} (I : Inv (X.suite a X.pn) pins σ H s) (ok : X.Ok) : Inv X pins σ H s :=
  ⟨ok, I.os, I.bare, I.base, I.loc, I.cell, I.free, I.freeC, I.pin, I.hok, I.len⟩
end
section
variable {X : Cx} {pins : List (Addr × Obj)} {σ : L2.St} {H : Hp} {cls : Value} {d : Option Addr} {a : Addr} {B : Heap}
  {sI s : Shared} {h : Heap} {D : Ends} {Wout : WX} {hds : List ExceptHandler} {W : Ends → WX}
/-- the exception as it lies, tracked -/
theorem Lands.tracked (L : Lands X pins σ H cls d a B sI s h) (hs : X.stack = X.env :: X.outer) (hf : X.env.frame = some X.env.locals) (hx : X.ex = []) :
    Inv (X.suite a X.pn) pins σ (upd H a (ExH cls d a)) { s with heap := h } := by
  obtain ⟨oe, vs, he, hz, hd⟩ := L.fly.there
  have away : a ∉ frs (X.env :: X.outer) := by
    intro hm
    obtain ⟨_, o', e', no⟩ := L.fly.2.2.1.mem hm
    rw [he] at e'
    cases e'
    exact no _ hd
  have nL : a ≠ X.env.locals := fun z => away (List.mem_filterMap.mpr ⟨X.env, List.mem_cons_self, by rw [hf, z]⟩)
  have nI : sI.heap.get? a = none := by
    cases e : sI.heap.get? a with
    | none => rfl
    | some o =>
      have z := L.ground a o e (by rw [hs]; exact away)
      rw [L.fly.2.1] at z
      cases z
  have n0 : X.s_0.heap.get? a = none := by
    cases e : X.s_0.heap.get? a with
    | none => rfl
    | some o =>
      obtain ⟨o', z⟩ := L.inv.base.there a o e (by rw [hx]; exact fun z => nomatch z)
      rw [nI] at z
      cases z
  have nc : ∀ x c, X.env.cells.lookup x = some c → c ≠ a := by
    intro x c e z
    obtain ⟨v, o, ho, _⟩ := L.inv.cell x c e
    rw [z, nI] at ho
    cases ho
  have np : ∀ p ∈ X.pn ++ pins, p.1 ≠ a := by
    intro p hp z
    obtain ⟨ho, _⟩ := L.inv.pin p hp
    rw [z, nI] at ho
    cases ho
  exact Inv.inT (Inv.track L.here n0 L.none_ nL nc np (exH_ok he hz hd)) a
end
/-- clauses with a name, the exception tracked in the suite -/
inductive ClT (X : Cx) (Wout : WX) : List ExceptHandler → (Ends → WX) → Prop where
  | nil : ClT X Wout [] (fun _ => Wout)
  | as_ {x n : Str} {i : Nat} {c : Value} {ts : Addr → TS} {b₀ : Stmt} {suite : List Stmt} {np pos : Pos}
      {hds : List ExceptHandler} {W : Ends → WX} (hc : Names X x c) (hN : X.N.Nodup) (hi : X.N[i]? = some n)
      (hl : X.env.kindOf n = some .local)
      (su : ∀ (a : Addr), PSs (X.suite a X.pn) (b₀ :: suite) (ts a))
      (r : ClT X Wout hds W) :
      ClT X Wout (.ExceptHandler (some (.Name x np)) (some n) (b₀ :: suite) pos :: hds) (fun D cls d σ H =>
        ∃ b, PySem.W.exmOne X.K cls c = some b ∧ (b = true → ∀ a, H a = none → σ.length = X.N.length →
          ts a (Ends.drop D i) (σ.set i (some (.ref a))) (upd H a (ExH cls d a))) ∧
          (b = false → W D cls d σ H))
section
variable {X : Cx} {pins : List (Addr × Obj)} {σ : L2.St} {H : Hp} {cls : Value} {d : Option Addr} {a : Addr} {B : Heap}
  {sI s : Shared} {h : Heap} {D : Ends} {Wout : WX} {hds : List ExceptHandler} {W : Ends → WX}
theorem handledT (hs : X.stack = X.env :: X.outer) (hf : X.env.frame = some X.env.locals) (hx : X.ex = []) (tk : Takes X Wout)
    (C : ClT X Wout hds W) : ∀ {h : Heap}, Lands X pins σ H cls d a B sI s h → W D cls d σ H →
      wpAny (model X.prog X.w) X.A (handleBy (.ref a) X.env hds) (SP X pins D) X.xe { s with heap := h } := by
  induction C with
  | nil =>
    intro h L w
    have L0 := L
    refine wpAny_handleBy_nil ?_
    obtain ⟨k1, k2, k3, oe, vs, T, oT, ts', he, hz, hd, h1, hr⟩ := L.fly
    unfold PySem.passOn
    refine wpAny_bind (wpAny_field he hd h1 ?_)
    rw [if_neg (show ¬ ((Value.ref T == Value.none) = true) from by simp)]
    have on : wpAny (model X.prog X.w) X.A (setFlight (.ref a) X.env.frame)
        (fun _ s4 => wpAny (model X.prog X.w) X.A (throw (.ref a) : Sem Flow) (SP X pins D) X.xe s4) X.xe { s with heap := h } := by
      rw [hf]
      refine HandSPX.setFlight_upZ L0.fly fun h4 hh4 up4 => wpAny_throw (tk _ _ ?_)
      exact ⟨a, B, sI, pins, σ, H, cls, d, rfl, L0.inv, L0.ground, L0.up.trans up4, .inr (.inr (by rw [hs]; exact hh4)), L0.none_, L0.os,
        L0.bare, w⟩
    first
      | exact wpAny_bind (wpAny_pure (wpAny_bind on))
      | exact wpAny_bind on
  | @as_ x n i c ts b₀ suite np pos hds' W' hc hN hi hl su r ih =>
    intro h L w
    obtain ⟨b, e, yes, no⟩ := w
    obtain ⟨oe, vs, he, hz, hd, S⟩ := L.suite hf
    refine wpAny_handleBy_cons (codeAny_handlers_test ?_) (by intro q; cases q)
    have ty : PySem.W.Looks (model X.prog X.w) h (typeOf (.ref a)) cls := fun A Q E s k q =>
      wpAny_typeOf_ref (k _ _ he) (by rw [hz.1]; exact q)
    have ask := PySem.W.exm_one (M := model X.prog X.w) L.here.kIn ty e
    have name : ∀ {Q : Value → Shared → Prop} {E : Value → Shared → Prop}, Q c { s with heap := h } →
        wpAny (model X.prog X.w) (X.A.mark (some (.ref a))) (eval (.Name x np) X.env) Q E { s with heap := h } := by
      intro Q E q
      obtain ⟨hg, hdb, hm | ⟨hm, hv, hn⟩⟩ := hc
      · exact ld_glob (X := X.suite a ((a, oe) :: (X.pn ++ pins))) S hg hm q hdb
      · exact ld_blt (X := X.suite a ((a, oe) :: (X.pn ++ pins))) S hg hm hv q hn hdb
    refine name (ask.here ?_)
    cases b with
    | false => exact ih L (no rfl)
    | true =>
      refine codeAny_handlers_suite_as (HandSPX.lands_againZ L.fly fun h4 f4 u4 => ?_)
      have S4 := (L.later f4 u4).tracked hs hf hx
      refine store_ok (X := X.suite a X.pn) (v := .ref a) S4 hN hi (.inl hl) rfl (fun s5 S5 => ?_) (.inr hl)
      refine wpAny_mono ((su a).run pins s5 _ _ _ S5 (yes rfl a L.none_ L.inv.len))
        (fun f s6 q => ?_) (fun _ _ z => False.elim z)
      cases f with
      | ret u =>
        obtain ⟨v, σ6, H6, J, r6, z⟩ := q
        exact gone_ok (Inv.outT J L.inv.ok) hN hi hl fun s7 J7 => ⟨v, _, H6, J7, r6, z⟩
      | next =>
        obtain ⟨σ6, H6, J, z⟩ := q
        exact gone_ok (Inv.outT J L.inv.ok) hN hi hl fun s7 J7 => ⟨_, H6, J7, z⟩
      | brk =>
        obtain ⟨σ6, H6, J, z⟩ := q
        exact gone_ok (Inv.outT J L.inv.ok) hN hi hl fun s7 J7 => ⟨_, H6, J7, z⟩
      | cont =>
        obtain ⟨σ6, H6, J, z⟩ := q
        exact gone_ok (Inv.outT J L.inv.ok) hN hi hl fun s7 J7 => ⟨_, H6, J7, z⟩
/-- try: body / the clauses -/
theorem ps_try_T {body : List Stmt} {h₀ : ExceptHandler} {pos : Pos} {tb : WX → TS} (hs : X.stack = X.env :: X.outer)
    (hf : X.env.frame = some X.env.locals) (hx : X.ex = []) (tk : Takes X Wout) (C : ClT X Wout (h₀ :: hds) W)
    (hb : ∀ (W : WX) (pn : List (Addr × Obj)) (xe : Value → Shared → Prop), Takes (X.tr pn xe) W →
      PassesOwn (model X.prog X.w) X.A X.env xe → PSs (X.tr pn xe) body (tb W)) :
    PS X (.Try body (h₀ :: hds) [] [] pos) (fun D σ H => tb (W D) D σ H) := by
  constructor
  intro pins s σ H D I h
  have ok := I.ok
  have fr : X.A.frames = some (X.env :: X.outer) := by rw [ok.frames, hs]
  refine wpAny_Try_except ?_
  refine wpAny_mono ((hb (W D) (X.pn ++ pins) (fun e s₁ => wpAny (model X.prog X.w) X.A (noteFrame e X.env)
    (fun _ s₂ => wpAny (model X.prog X.w) X.A (setFlight e none) (fun _ s₃ =>
      wpAny (model X.prog X.w) X.A (handleBy e X.env (h₀ :: hds)) (SP X pins D) X.xe s₃) X.xe s₂) X.xe s₁) ?_
    PassesOwn.looking).run [] s σ H D (I.toTry _) h) ?_ (fun e s1 he => he)
  · rintro u s' ⟨a, B, sI, pins', σ', H', cls, d, rfl, J', nb, up, sky, na, os, ag, w⟩
    have J : Inv X pins σ' H' sI := J'.ofTry ok
    have sky' : Sky B (X.env :: X.outer) a (Zc cls d) X.env.locals s'.heap := by
      rw [← hs]
      exact sky
    show wpAny (model X.prog X.w) X.A (noteFrame (.ref a) X.env) _ _ _
    refine Sky.land Zc.steady fr hf sky' fun h3 f3 u3 => ?_
    exact handledT hs hf hx tk C ⟨J, nb, up.trans u3, f3, na, os, ag⟩ w
  · intro f s1 q
    cases f with
    | ret u =>
      obtain ⟨v, σ', H', J, r, z⟩ := q
      exact ⟨v, σ', H', J.ofTry ok, r, z⟩
    | next =>
      obtain ⟨σ', H', J, z⟩ := q
      exact wpAny_execs_nil ⟨σ', H', J.ofTry ok, z⟩
    | brk =>
      obtain ⟨σ', H', J, z⟩ := q
      exact ⟨σ', H', J.ofTry ok, z⟩
    | cont =>
      obtain ⟨σ', H', J, z⟩ := q
      exact ⟨σ', H', J.ofTry ok, z⟩
end
/-! the field of a tracked exception -/
def tXfT (K : PySem.W.Frag) (f : Str) (te : TE) : TE := fun σ H Q => te σ H fun x H1 => ∃ (a C dd : Addr) (fs : List (Str × V)) (v : V),
  x = .ref a ∧ H1 a = some (ExH (.ref C) (some dd) a) ∧ XfC K C ∧ PySem.W.findIn K (.ref C) f = some none ∧ H1 dd = some (.xd fs) ∧ fs.lookup f = some v ∧ Q v H1
theorem pe_xfT {X : Cx} {e : Expr} {te : TE} {pos : Pos} {n : Str} (he : PE X e te) (hb : attributeBase e n X.env (eval e X.env) = eval e X.env := by rfl) :
    PE X (.Attribute e n pos) (tXfT X.K n te) := by
  constructor
  intro pins s σ H Q I h
  refine attr_of hb (thn (he.run pins s σ H _ I h) ?_)
  rintro w s1 ⟨x, H1, I1, rx, a, C, dd, fs, v, rfl, ea, F, own, ed, fnd, q⟩
  cases rx
  obtain ⟨oe, vs, at_, ⟨ec, edd⟩, dat⟩ := exH_at I1.hok ea
  have held : ObjOk X.prog X.w H1 s1.heap dd (.xd fs) := I1.hok dd _ ed
  obtain ⟨mA, ns, rel⟩ := held
  obtain ⟨od, ho, seen⟩ := lookIn_ns ns
  obtain ⟨u, eu, ru⟩ := RelO.some_of (v := v) (o := mA n) (fnd ▸ rel n)
  have plain : PySem.W.notCls oe = true := by
    unfold PySem.W.notCls
    rw [dat]
  have inst : PySem.W.InstAt s1.heap a oe C (some od) := ⟨at_, ec, plain, by rw [edd]; exact ho⟩
  refine HandSPX.exc_get I1.kIn inst F.ga F.gg F.exC (PySem.W.findObj_own F.hdC own rfl ?_) (handed_of ru) ⟨v, H1, I1.tok _, ru, q⟩
  rw [seen, eu]
/-! isinstance of a tracked exception -/
structure Kx (K : PySem.W.Frag) (C : Addr) : Prop where
  cl : (PySem.W.clsIn K C).isSome = true
  ga : PySem.W.findIn K (.ref C) "__getattribute__" = some (some (.builtin "BaseException.__getattribute__"))
  gt : PySem.W.findIn K (.ref C) "__getattr__" = some none
  sub : PySem.W.subIn K (.ref C) (.type "BaseException") = some true
  att : PySem.W.findIn K (.ref C) "__class__" = some (some (.builtin "object.__class__"))
  get : PySem.W.specialIn K (.builtin "object.__class__") "__get__" = some (some (.builtin "getset_descriptor.__get__"))
  tak : PySem.W.takesIn K (.builtin "object.__class__") = some true
  ob : PySem.W.mroIn K C (.type "object") = some true
def kxB (K : PySem.W.Frag) (C : Addr) : Bool :=
  (PySem.W.clsIn K C).isSome && (decide (PySem.W.findIn K (.ref C) "__getattribute__" = some (some (.builtin "BaseException.__getattribute__"))) &&
  (decide (PySem.W.findIn K (.ref C) "__getattr__" = some none) && (decide (PySem.W.subIn K (.ref C) (.type "BaseException") = some true) &&
  (decide (PySem.W.findIn K (.ref C) "__class__" = some (some (.builtin "object.__class__"))) &&
  (decide (PySem.W.specialIn K (.builtin "object.__class__") "__get__" = some (some (.builtin "getset_descriptor.__get__"))) &&
  (decide (PySem.W.takesIn K (.builtin "object.__class__") = some true) && decide (PySem.W.mroIn K C (.type "object") = some true)))))))
theorem kxB_ok {K : PySem.W.Frag} {C : Addr} (h : kxB K C = true) : Kx K C := by
  unfold kxB at h
  simp only [Bool.and_eq_true, decide_eq_true_eq] at h
  obtain ⟨a, b, c, d, e, f, g, i⟩ := h
  exact ⟨a, b, c, d, e, f, g, i⟩
/-- isinstance(e, C') of a tracked exception e -/
def rIsE (K : PySem.W.Frag) : List V → Hp → VK → Prop := fun xs H Q => ∃ (a C : Addr) (d : Option Addr) (c : V) (u : Value) (b : Bool),
  xs = [.ref a, c] ∧ H a = some (ExH (.ref C) d a) ∧ (∀ dd, d = some dd → ∃ fs, H dd = some (.xd fs)) ∧ Kx K C ∧ ClsV c u ∧ PySem.W.kitOne K (.ref C) u = some b ∧ Q (.bl b) H
theorem cr_isE {X : Cx} : CallR X (.builtin "isinstance") (rIsE X.K) := by
  intro pins s σ H xs us Q I r h
  obtain ⟨a, C, d, c, u, b, rfl, ea, ed, T, k, e, q⟩ := h
  obtain ⟨u1, u2, rfl, r1, r2⟩ := vals2 r
  have e2 := k.eq r2
  subst e2
  obtain rfl : u1 = Value.ref a := r1
  obtain ⟨oe, vs, ha, hz, hd⟩ := exH_at I.hok ea
  have nc : PySem.W.notCls oe = true := by
    unfold PySem.W.notCls
    rw [hd]
  cases d with
  | none =>
    have J : PySem.W.InstAt s.heap a oe C none := ⟨ha, hz.1, nc, by rw [hz.2]; trivial⟩
    exact PySem.W.kia_one (PySem.W.kitx_exc T.cl T.ga T.gt T.sub T.att T.get T.tak T.ob) I.kIn J e (fun z => nomatch z) fun tk => ⟨.bl b, H, I.tok tk, rfl, q⟩
  | some dd =>
    obtain ⟨fs, edd⟩ := ed dd rfl
    have hx : ObjOk X.prog X.w H s.heap dd (.xd fs) := I.hok dd _ edd
    obtain ⟨mA, ⟨od, _, _, ho, _⟩, _⟩ := hx
    have J : PySem.W.InstAt s.heap a oe C (some od) := ⟨ha, hz.1, nc, by rw [hz.2]; exact ho⟩
    exact PySem.W.kia_one (PySem.W.kitx_exc T.cl T.ga T.gt T.sub T.att T.get T.tak T.ob) I.kIn J e (fun z => nomatch z) fun tk => ⟨.bl b, H, I.tok tk, rfl, q⟩
end ME

set_option Elab.async false
set_option maxRecDepth 100000
set_option maxHeartbeats 2000000
set_option linter.all false
/-! own exceptions over any built-in base, whose own __init__ asks the base's and keeps one field -/
namespace PySem
namespace HandSPX
/-! an own class of exceptions, by what stands in its row: its __new__ is some base's, its __init__ asks perhaps another base's -/
/-- the row at C: made by mk, above it just the built-in classes of up -/
def Row (h : Heap) (C : Addr) (mk : String) (up : List Value) : Prop :=
  ∃ (nm q : Str) (N : Addr) (bs bm : List Value) (hdct : Bool) (sn : List Str) (sub : List Value) (ab : Bool) (col : Option Bool) (dd : Option Addr)
    (k0 k1 k2 k3 k5 : Option Value), h.get? C = some (excClassObj nm q C N bs bm hdct sn sub ab col dd k0 k1 k2 k3 k5 mk) ∧
      ∀ T : String, (Value.ref C :: bm).contains (.type T) = up.contains (.type T)
theorem Row.of {h : Heap} {C : Addr} {mk : String} {up : List Value} {nm q : Str} {N : Addr} {bs bm : List Value} {hdct : Bool} {sn : List Str} {sub : List Value}
    {ab : Bool} {col : Option Bool} {dd : Option Addr} {k0 k1 k2 k3 k5 : Option Value} (lies : h.get? C = some (excClassObj nm q C N bs bm hdct sn sub ab col dd k0 k1 k2 k3 k5 mk))
    (tl : PySem.W.excTail up bm = true) : Row h C mk up :=
  ⟨nm, q, N, bs, bm, hdct, sn, sub, ab, col, dd, k0, k1, k2, k3, k5, lies, fun T => by
    rw [List.contains_cons]
    exact PySem.W.excTail_contains T bm tl⟩
/-- whose __new__ makes it -/
structure Makes (mk : String) (up : List Value) : Prop where
  by_ : ∃ (Bn initN : String) (bmN : List Value), ExcBaseFacts Bn mk initN bmN ∧ up.contains (.type Bn) = true
  noA : up.contains (.type "AttributeError") = false
  noN : up.contains (.type "NameError") = false
/-- whose __init__ is asked -/
structure Inits (B ini : String) (up : List Value) : Prop where
  has : up.contains (.type B) = true
  star : (B != "*") = true
  quiet : plainId ini = true
  code : entryFor table ini = some Builtin.«BaseException.__init__»
  name : splitId ini = some (B, "__init__")
  kind : builtinKind ini = some .slot
  sig : Manifest.signature? ini = some ⟨.positional, "*", B, .self, [⟨"args", .varPos, false⟩]⟩
structure Bs (B newId initId : String) (top : List Value) : Prop where
  make : Makes newId top
  ini : Inits B initId top
theorem Bs.of {B newId initId : String} {top : List Value} (F : ExcBaseFacts B newId initId top) : Bs B newId initId top :=
  ⟨⟨⟨B, initId, top, F, F.hasB⟩, F.noAttr, F.noName⟩, F.hasB, F.noStar, F.init.plain, F.initEntry, F.initSplit, F.initKind, F.initRow⟩
section
variable {prog : Program} {w : World} {A : Around} {R : Result → Shared → Prop} {h : Heap} {g : Array GenState} {d : Drawn} {t : Nat} {os : OsState}
  {C : Addr} {mk B ini : String} {up : List Value} {us : List Value}
/-- mk(C, ..): the new exception behind its tuple -/
theorem made_by (M : Makes mk up) (r : Row h C mk up) (few : us.length ≤ sizeLine)
    (hR : R (.ok (.ret (.ref (h.objs.size + 1)))) ⟨(h.push (PySem.W.kdv_tup us)).push (excO C h.objs.size), g, d, t, os⟩) :
    codeAny (model prog w) A (.call (.builtin mk) ⟨.ref C :: us, []⟩) R ⟨h, g, d, t, os⟩ := by
  obtain ⟨nm, q, N, bs, bm, hdct, sn, sub, ab, col, dd, k0, k1, k2, k3, k5, lies, tells⟩ := r
  obtain ⟨Bn, initN, bmN, F, hb⟩ := M.by_
  have yes := (tells Bn).trans hb
  have noA := (tells "AttributeError").trans M.noA
  have noN := (tells "NameError").trans M.noN
  have star := F.noStar
  have ends := F.ends
  refine codeAny_call_builtin_code (Code.quiet_builtin _ F.quiet) ?_
  -- the receiver's look
  simp only [F.newRow, F.newSplit, F.newKind, checkBuiltinCall]
  repeat (first
    | (refine wpAny_isSubtype_exc lies ?_; rw [yes])
    | refine wpAny_madeBy_exc lies ?_
    | refine wpAny_staticBase_exc lies ?_
    | refine wpAny_loadPart_at lies ?_
    | simp only [if_false, Bool.false_eq_true, bne_self_eq_false]
    | wp_step)
  -- the making itself
  refine codeAny_builtinAt F.entry ?_
  delta Builtin.«BaseException.__new__»
  refine wpAt_bind ?_
  change wpAt _ _ _ (stack >>= _) _ _ _
  refine wpAt_bind (wpAt_stack fun _ _ => wpAt_of_wpAny ?_)
  wp_walk
  refine wpAt_of_wpAny ?_
  rw [F.owner]
  repeat (first
    | (with_reducible refine wpAny_isSubtype_exc lies ?_; first | rw [yes] | rw [noA] | rw [noN])
    | with_reducible refine wpAny_loadPart_at lies ?_
    | with_reducible refine wpAny_madeHere_exc F.canon lies ?_
    | wp_step)
  change R _ _
  rw [Heap.size_push]
  exact hR
/-- C(..) where C has an own __init__ at fI -/
theorem called_own {fI : Addr} (M : Makes mk up) (r : Row h C mk up) (few : us.length ≤ sizeLine)
    (ini_ : PySem.W.Looks (model prog w) h (typeLookup (.ref C) "__init__") (some (.ref fI)))
    (bnd : ∀ self, PySem.W.Looks (model prog w) h (bindSpecial (.ref fI) self) (.ref fI, [self]))
    (go : codeAny (model prog w) (A.under (.builtin "type.__call__" ⟨.ref C :: us, []⟩)) (.call (.ref fI) ⟨.ref (h.objs.size + 1) :: us, []⟩)
      (PySem.W.InitBack (h.objs.size + 1) R) ⟨(h.push (PySem.W.kdv_tup us)).push (excO C h.objs.size), g, d, t, os⟩) :
    codeAny (model prog w) A (.call (.ref C) ⟨us, []⟩) R ⟨h, g, d, t, os⟩ := by
  have r0 := r
  obtain ⟨nm, q, N, bs, bm, hdct, sn, sub, ab, col, dd, k0, k1, k2, k3, k5, lies, tells⟩ := r
  have look := tc_lookup
  have bind_ := tc_bind (.ref C)
  have meta_ : (⟨h, g, d, t, os⟩ : Shared).TypeIs (.ref C) "type" := ⟨_, lies, rfl⟩
  have stay : ∀ b o, h.get? b = some o → ((h.push (PySem.W.kdv_tup us)).push (excO C h.objs.size)).get? b = some o := by
    intro b o e
    exact Heap.get?_push_of_some _ (Heap.get?_push_of_some _ e)
  have still := stay _ _ lies
  have new : ((h.push (PySem.W.kdv_tup us)).push (excO C h.objs.size)).get? (h.objs.size + 1) = some (excO C h.objs.size) := by heap_get
  have self_ : (Value.ref C :: bm).contains (.ref C) = true := by simp
  refine codeAny_of_tree ?_
  change wpAny _ _ (callAny (.ref C) _) _ _ _
  repeat (any_goals (first | assumption | with_reducible refine wpAny_loadPart_at lies ?_ | wp_step))
  refine ⟨rfl, codeAny_call_builtin_at (Code.quiet_builtin _ (by decide +kernel)) entry_typeCall (wpAny_check_type_call_sub lies ?_)⟩
  change wpAny _ _ (Builtin.«type.__call__» ⟨.ref C :: us, []⟩) _ _ _
  repeat (first | with_reducible refine wpAny_madeBy_exc lies ?_ | with_reducible refine wpAny_loadPart_at lies ?_ | wp_step)
  refine made_by M r0 few ?_
  change wpAny _ _ _ _ _ _
  unfold isInstance
  repeat (first | (with_reducible refine wpAny_isSubtype_exc still ?_; rw [self_]) | with_reducible refine wpAny_loadPart_at new ?_ | wp_step)
  change wpAny _ _ (typeLookup (.ref C) _) _ _ _
  refine (ini_.keeps stay).at (wpAny_holding (wpAny_bind (((bnd (.ref (h.objs.size + 1))).keeps stay).at (wpAny_bind (wpAny_call (codeAny_mono go fun r s' z => ?_))))))
  cases r with
  | error e => exact z
  | ok fl =>
    cases fl with
    | ret v =>
      obtain ⟨rfl, z⟩ := z
      first
        | exact wpAny_pure (wpAny_pure z)
        | (wp_walk; exact z)
    | next => exact z.elim
    | brk => exact z.elim
    | cont => exact z.elim
/-- B.__init__(e, ..) of a new exception e -/
theorem asked_base {e t0 : Addr} (I : Inits B ini up) (r : Row h C mk up) (lie : h.get? e = some (excO C t0)) (few : us.length ≤ sizeLine)
    (hR : ∀ h' t1, (∀ b o, b ≠ e → h.get? b = some o → h'.get? b = some o) → h'.get? e = some (excO C t1) → R (.ok (.ret .none)) ⟨h', g, d, t, os⟩) :
    codeAny (model prog w) A (.call (.builtin ini) ⟨.ref e :: us, []⟩) R ⟨h, g, d, t, os⟩ := by
  obtain ⟨nm, q, N, bs, bm, hdct, sn, sub, ab, col, dd, k0, k1, k2, k3, k5, lies, tells⟩ := r
  have yes := (tells B).trans I.has
  have star := I.star
  refine codeAny_call_builtin I.quiet I.code ?_
  simp only [I.sig, I.name, I.kind, checkBuiltinCall]
  repeat (first
    | (with_reducible refine wpAny_isSubtype_exc lies ?_; rw [yes])
    | (with_reducible refine wpAny_loadPart_at lie ?_; rw [show (excO C t0).cls = .ref C from rfl])
    | with_reducible refine wpAny_loadPart_at lies ?_
    | wp_step)
  refine wpAny_onRaise ?_
  have passes : ∀ (x y : String) (n : Nat), Bind.check ⟨.positional, "*", B, .self, [⟨"args", .varPos, false⟩]⟩ x y n
      (List.map (fun z => z.fst) ({ pos := Value.ref e :: us } : Args).kw) = pure () := fun x y n => check_star_args _ _ _ _ _ _
  rw [passes]
  refine wpAny_pure ?_
  wp_walk
  refine hR _ h.objs.size (fun b o ne ho => ?_) ?_
  · exact (Heap.get?_update_other _ _ (Ne.symm ne)).trans (Heap.get?_push_of_some _ ho)
  · rw [Heap.get?_update_self _ (Heap.get?_push_of_some _ lie) rfl]
    rfl
end
end HandSPX
end PySem
namespace MD
open PySem PySem.Spec PyProof.Rows L2 MM PySem.HandSPX

/-- the class at C stands over B, by own classes between, or none -/
structure Ov (K : PySem.W.Frag) (C : Addr) (B newId initId : String) (top : List Value) : Prop where
  base : Bs B newId initId top
  put : StoreFacts B top "object.__setattr__" "object"
  row : ∃ nm q N bs bm sn sub ab col dd k0 k1 k2 k3 k5,
    K.lookup C = some (excClassObj nm q C N bs bm true sn sub ab col dd k0 k1 k2 k3 k5 newId) ∧ PySem.W.excTail top bm = true
  hook : PySem.W.findIn K (.ref C) "__setattr__" = some (some (.builtin "object.__setattr__"))
  isE : PySem.W.subIn K (.ref C) (.type "BaseException") = some true
  meta_ : PySem.W.typeIn K (.ref C) = some (.type "type")
  keep : PySem.W.keepIn K (.ref C) = true

section
open Builtin Builtin.ObjectAttr
variable {prog : Program} {w : World} {A : Around} {R : Result → Shared → Prop} {hp : Heap} {g : Array GenState} {d : Drawn}
  {t : Nat} {os : OsState} {K : PySem.W.Frag} {C x : Addr} {B newId initId : String} {top : List Value}
/-- the first field of an exception lays its dict -/
theorem first_put {name : Str} {tk : Tok} {v : Value} {fv : Array Value} (T : Ov K C B newId initId top) (X : K.In hp)
    (hx : hp.get? x = some { cls := .ref C, data := .fields fv })
    (ha : PySem.W.findIn K (.ref C) name = some none)
    (hq : ∀ h' tk' dx, (∀ b o, b ≠ x → hp.get? b = some o → h'.get? b = some o) → hp.objs.size ≤ dx → dx ≠ x →
      h'.get? x = some { cls := .ref C, dict := some dx, data := .fields fv } →
      h'.Ns1 dx (fun y => if y = name then some v else none) → R (.ok (.ret .none)) ⟨h', g, d, tk', os⟩) :
    codeAny (model prog w) A (.call (.builtin "object.__setattr__") ⟨[.ref x, .str name tk, v], []⟩) R ⟨hp, g, d, t, os⟩ := by
  obtain ⟨nm, q, N, bs, bm, sn, sub, ab, col, dd, k0, k1, k2, k3, k5, hC, hbm⟩ := T.row
  have hcd : PySem.W.clsIn K C = some { name := nm, bases := bs, mro := .ref C :: bm, ns := N, qualname := q, hasDict := true, slotNames := sn, subclasses := sub, abstract := ab, collection := col, hasDel := false } := by
    unfold PySem.W.clsIn
    rw [hC] <;> rfl
  have hall : PySem.W.excTail top (.ref C :: bm) = true := hbm
  have inst : PySem.W.InstAt hp x { cls := .ref C, data := .fields fv } C none := ⟨hx, rfl, rfl, trivial⟩
  have S := PySem.F.store_object
  have far : x ≠ hp.objs.size := Nat.ne_of_lt (Heap.lt_size hx)
  have obj : (Value.ref C :: bm).contains (.type "object") = true :=
    (PySem.W.excTail_contains "object" _ hall).trans T.put.hasOwner
  have mro : PySem.W.mroIn K C (.type "object") = some true := by
    unfold PySem.W.mroIn
    rw [hcd, Option.bind_some]
    simp only [List.isEmpty_cons, obj, Bool.false_eq_true, if_false]
  have isObj : PySem.W.Looks (model prog w) hp (isInstance (.ref x) (.type "object")) true :=
    inst.type.andThen (PySem.W.looks_mroIn X mro)
  have rd : PySem.W.Looks (model prog w) hp (classData C) _ := PySem.W.looks_clsIn X hcd
  have rm : PySem.W.Looks (model prog w) hp (mroOf (.ref C)) (.ref C :: bm) := rd.andThen .now
  have none_ : PySem.W.Looks (model prog w) hp (storeTaker? none) none := .now
  refine codeAny_call_builtin S.slot.plain S.entry (@PySem.W.check_slot (model prog w) _ _ ⟨hp, g, d, t, os⟩
    "object.__setattr__" "object" "__setattr__" (.ref x) [.str name tk, v] [] _ S.kind S.split isObj (S.args (.ref x) (.str name tk) v) ?_)
  rw [PySem.W.osa_eq, refuse_eq]
  refine wpAny_bind (wpAny_bind (inst.type.at (wpAny_bind (rm.at ?_))))
  rw [PySem.W.excTail_pass _ (T.put.passes _) _ hall]
  refine wpAny_pure (wpAny_bind (inst.type.at (wpAny_bind ((PySem.W.looks_findIn X ha).at (wpAny_bind (none_.at ?_))))))
  show wpAny _ _ (storeInOwnDict (.ref x) (.ref C) (.str name tk) name v false) _ _ _
  unfold storeInOwnDict ownDictForStores
  repeat (first
    | with_reducible refine PySem.HandSPX.store_in_new ?_ ?_
    | with_reducible refine wpAny_loadPart_at hx ?_
    | with_reducible refine rd.at ?_
    | wp_step)
  · refine ⟨_, #[], _, (Heap.get?_update_ne _ _ _ _ far.symm).trans (Heap.get?_push_at rfl rfl), rfl, ?_, fun _ => rfl⟩
    intro e he
    simp at he
  · intro h' tk' hn' hs
    have there : (hp.push { cls := .type "dict", data := .dict #[] }).get? x = some { cls := .ref C, data := .fields fv } :=
      Heap.get?_push_of_some _ hx
    refine hq h' tk' hp.objs.size ?_ (Nat.le_refl _) far.symm ((hs.2 x far).trans (Heap.get?_update_self _ there rfl)) hn'
    intro b o hb ho
    have nb : b ≠ hp.objs.size := Nat.ne_of_lt (Heap.lt_size ho)
    rw [hs.2 b nb, Heap.get?_update_ne _ _ _ _ hb]
    exact Heap.get?_push_of_some _ ho
end

section
variable {X : Cx} {pins : List (Addr × Obj)} {σ : L2.St} {H : Hp} {s : Shared} {a C : Addr} {f : Str} {y : V} {u : Value}
  {E : Value → Shared → Prop} {A : Around} {B newId initId : String} {top : List Value}
/-- self.f = y, the first field -/
theorem put_new {Q : Unit → Shared → Prop} (T : Ov X.K C B newId initId top) (I : Inv X pins σ H s)
    (ea : H a = some (exo a C none)) (no : PySem.W.findIn X.K (.ref C) f = some none) (ry : RelV y u)
    (h : ∀ dx s', H dx = none → dx ≠ a →
      Inv X pins σ (upd (upd H dx (exd dx [(f, y)])) a (exo a C (some dx))) s' → Q () s') :
    wpAny (model X.prog X.w) A (setAttr (.ref a) f u) Q E s := by
  obtain ⟨t1, ho⟩ := exo_at I.hok ea
  obtain ⟨hp, g, d, t, os⟩ := s
  refine PySem.W.set_plain I.kIn (od := none) ⟨ho, rfl, rfl, trivial⟩ T.hook ?_
  refine first_put T I.kIn ho no (fun h' tk' dx kp ge ne hx hn => ?_)
  have free : H dx = none := I.hok.fresh ge
  have old : ∀ {b : Addr} {o : Obj}, hp.get? b = some o → b ≠ dx := by
    intro b o hb
    exact Nat.ne_of_lt (Nat.lt_of_lt_of_le (Heap.lt_size hb) ge)
  have nota : ∀ {b : Addr}, H b = none → b ≠ a := by
    rintro b hb rfl
    rw [ea] at hb
    cases hb
  have same : ∀ {b : Addr} {v : HO}, H b = some v → b ≠ a →
      upd (upd H dx (exd dx [(f, y)])) a (exo a C (some dx)) b = some v := by
    intro b v hb ba
    rw [upd_ne ba, upd_ne (ne_of_none hb free)]
    exact hb
  have un : Un X.fs [] H (upd (upd H dx (exd dx [(f, y)])) a (exo a C (some dx))) hp h' := by
    constructor
    case keep => exact fun b o hb hn _ _ => kp b o (nota hn) hb
    case slot => exact fun b o hb hn _ _ => ⟨o.slots, kp b o (nota hn) hb⟩
    case free =>
      intro b o hb hn _
      rw [upd_ne (nota hn), upd_ne (old hb)]
      exact hn
    case there =>
      intro b o hb _
      by_cases ba : b = a
      · exact ⟨_, ba ▸ hx⟩
      · exact ⟨o, kp b o ba hb⟩
    case tups => exact fun b xs hb => same hb (at_ne ea hb exo_tup)
    case frzs => exact fun b o v hb => same hb (at_ne ea hb exo_frz)
    case tbls =>
      intro b ps hb
      refine ⟨#[], ?_⟩
      rw [same hb (at_ne ea hb exo_tbl)]
      simp
  refine h dx _ free ne (I.un (t' := tk') un fun b o hb => ?_)
  by_cases ba : b = a
  · subst ba
    rw [upd_same] at hb
    cases hb
    exact exo_ok hx
  rw [upd_ne ba] at hb
  by_cases bd : b = dx
  · subst bd
    rw [upd_same] at hb
    cases hb
    exact exd_ok hn (relO_put (fs := []) ry fun _ => True.intro)
  rw [upd_ne bd] at hb
  refine (I.hok b o hb).stay ?_ (fun c hc => same hc (at_ne ea hc exo_own)) (fun c xs hc => same hc (at_ne ea hc exo_tup))
  rintro c v hc z
  refine kp c v ?_ z
  rcases hc with rfl | hc
  · exact ba
  · exact at_ne ea hc exo_own

/-- B.__init__(self, ..) -/
theorem ask_ok {us : List Value} {Q : Value → Shared → Prop} (T : Ov X.K C B newId initId top) (I : Inv X pins σ H s)
    (ea : H a = some (exo a C none)) (hl : us.length ≤ sizeLine) (h : ∀ s', Inv X pins σ H s' → Q .none s') :
    wpAny (model X.prog X.w) A (call (.builtin initId) (.ref a :: us)) Q E s := by
  obtain ⟨nm, q, N, bs, bm, sn, sub, ab, col, dd, k0, k1, k2, k3, k5, hC, hbm⟩ := T.row
  obtain ⟨t1, ho⟩ := exo_at I.hok ea
  obtain ⟨hp, g, d, t, os⟩ := s
  refine wpAny_call (asked_base T.base.ini (Row.of (I.kIn _ _ hC) hbm) ho hl ?_)
  intro h' t2 kp hx
  have J := I.write (t' := t) (x := a) (e := a) (o := exo a C none) (by rw [ea]; exact True.intro) (.inl rfl) kp ⟨_, hx⟩ (exo_ok hx)
  have same : upd H a (exo a C none) = H := by
    funext b
    by_cases hb : b = a
    · subst hb
      rw [upd_same, ea]
    · rw [upd_ne hb]
  rw [same] at J
  exact h _ J
end

/-- B.__init__(self, ..): nothing of it is told -/
def tAsk (K : PySem.W.Frag) (B newId initId : String) (top : List Value) (ta : TA) : TE := fun σ H Q =>
  ta σ H fun vs H1 => ∃ (a C : Addr) (ws : List V), vs = .ref a :: ws ∧ ws.length ≤ 1000 ∧ Ov K C B newId initId top ∧
    H1 a = some (exo a C none) ∧ Q .non H1
/-- self.f = e, the first field -/
def tPut (K : PySem.W.Frag) (B newId initId : String) (top : List Value) (f : Str) (to te : TE) : TS := fun D σ H =>
  te σ H fun y H1 => to σ H1 fun x H2 => ∃ a C : Addr, x = .ref a ∧ Ov K C B newId initId top ∧
    PySem.W.findIn K (.ref C) f = some none ∧ H2 a = some (exo a C none) ∧
    ∀ dx, H2 dx = none → dx ≠ a → D.nx σ (upd (upd H2 dx (exd dx [(f, y)])) a (exo a C (some dx)))
section
variable {X : Cx} {o e : Expr} {es : List Expr} {to te : TE} {ta : TA} {f : Str} {p p' p1 p2 pos : Pos}
  {B newId initId : String} {top : List Value}
theorem ps_put (ho : PE X o to) (he : PE X e te)
    (hs : swapsWith e (some (.Attribute o f p')) pos.line X.env = pure false := by rfl) :
    PS X (.Assign [.Attribute o f p'] e pos) (tPut X.K B newId initId top f to te) := by
  constructor
  intro pins s σ H D I h
  refine plainObj_wpAny_Assign_Attribute (thn (he.run pins s σ H _ I h) ?_) hs
  rintro v s1 ⟨y, H1, I1, r1, q1⟩
  refine thn (ho.run pins s1 σ H1 _ I1 q1) ?_
  rintro u s2 ⟨x, H2, I2, r2, a, C, rfl, T, no, ea, q⟩
  obtain rfl : u = Value.ref a := r2
  exact put_new T I2 ea no r1 fun dx s' n ne J => ⟨σ, _, J, q dx n ne⟩
theorem pe_ask {pl : Sem Bool} (hg : Gl X B) (hm : X.mg B = none) (hv : bootBuiltins B = some (.type B))
    (ty : typeOf (.type B) = pure (.type "type")) (st : Manifest.isStub B = false)
    (vV : PySem.W.findCls X.K (.type B) (.type "type") "__init__" = some (.val (.builtin initId)))
    (hi : PySem.W.handedIn (.builtin initId) = true)
    (ha : PA X (e :: es) ta) (hn : (B : Str) ≠ "__name__" := by decide) (hdb : ((B : Str) == ("__debug__" : Str)) = false := by decide)
    (hc : eval (.Call (.Attribute (.Name B p1) "__init__" p2) (e :: es) [] pos) X.env = (do
      let ov ← eval (.Name B p1) X.env
      standAt p2.atName
      let (f, first) ← holding [ov] (getMethod ov "__init__" pl)
      callWith pos f first (backTo pos (starEach (e :: es) X.env)) (backToKw pos (keywordEach [] X.env))) := by rfl)
    (he : starEach (e :: es) X.env = (false, eval e X.env) :: starEach es X.env := by rfl)
    (hpl : (backTo pos (starEach es X.env)).any (·.1) = false := by rfl) :
    PE X (.Call (.Attribute (.Name B p1) "__init__" p2) (e :: es) [] pos) (tAsk X.K B newId initId top ta) := by
  constructor
  intro pins s σ H Q I h
  refine PySem.W.methodCall_KW (ld_blt I hg hm hv ?_ hn hdb) hc
  obtain ⟨m, fr⟩ := I.fr
  refine PySem.W.method_type fr I.ok.mod.kin ty st vV hi ?_
  show wpAny _ _ (callWith pos (Value.builtin initId) [] (backTo pos (starEach (e :: es) X.env)) []) _ _ _
  refine PyProof.Rows.callWith_method1 (thn (ha.run pos pins _ σ H _ (I.tok _) h) ?_) he hpl
  rintro us s1 ⟨vs, H1, I1, r1, a, C, ws, rfl, hl, T, ea, q⟩
  cases r1 with
  | @cons _ u0 _ ur ra rw' =>
    obtain rfl : u0 = Value.ref a := ra
    refine ask_ok T I1 ea ?_ fun s' J => ⟨.non, H1, J, rfl, q⟩
    rw [← Paired.length rw', sizeLine_eq]
    omega
end

/-- what __init__ of such a class keeps: one field, called f -/
def spKeep (C : Addr) (f : Str) : Sp := fun vs H Q _ => ∃ (a : Addr) (y : V), vs = [.ref a, y] ∧ H a = some (exo a C none) ∧
  ∀ dx, H dx = none → dx ≠ a → Q .non (upd (upd H dx (exd dx [(f, y)])) a (exo a C (some dx)))
/-- C(e) is made: its class, its dict, which keeps e under f -/
def tMade (C : Addr) (f : Str) (ta : TA) : L2.St → Hp → XK → Prop := fun σ H Q => ta σ H fun vs H1 => ∃ y, vs = [y] ∧
  ∀ d, H1 d = none → Q (.ref C) (some d) (upd H1 d (.xd [(f, y)]))
section
variable {X : Cx} {e : Expr} {es : List Expr} {ta : TA} {p pos : Pos} {CX : CXT} {x f : Str} {C fI : Addr} {k : Nat} {fd : FuncData}
  {ps : List Str} {B newId initId : String} {top : List Value}
theorem room_make {A : Around} (r : MM.Rm (k + 1) A) (C : Addr) (us : List Value) (kw : List (Str × Value)) :
    MM.Rm k (A.under (.builtin "type.__call__" ⟨.ref C :: us, kw⟩)) := ⟨r.room.make C us kw, r.still⟩
theorem pmk_made (T : Ov X.K C B newId initId top) (iC : PySem.W.findIn X.K (.ref C) "__init__" = some (some (.ref fI)))
    (tI : PySem.W.typeIn X.K (.ref fI) = some (.type "function"))
    (F : MM.FnG X.prog X.w X.K X.mg X.base CX k fI fd ps (spKeep C f)) (hr : MM.Rm (k + 1) X.A) (hb : Binds X.K fd ps [])
    (hx : Passes CX X (fun _ _ _ => False)) (hm : X.mg x = some (.ref C)) (ha : PA X (e :: es) ta) (hg : Gl X x := by rfl)
    (hdb : (x == ("__debug__" : Str)) = false := by decide)
    (he : starEach (e :: es) X.env = (false, eval e X.env) :: starEach es X.env := by rfl)
    (hpl : (backTo pos (starEach es X.env)).any (·.1) = false := by rfl) :
    PMk X (.Call (.Name x p) (e :: es) [] pos) (tMade C f ta) := by
  intro pins s σ H Q I h
  obtain ⟨nm, q, N, bs, bm, sn, sub, ab, col, dd, k0, k1, k2, k3, k5, hC, hbm⟩ := T.row
  refine wpAny_Call_Name_kw (ld_glob I hg hm ?_ hdb)
  refine PySem.W.callWith_K (h₀ := X.base) I.ok.mod.kin T.keep (thn (ha.run pos pins s σ H _ I h) ?_) he hpl
  rintro us s1 ⟨vs, H1, I1, r1, y, rfl, q1⟩
  refine ⟨I1.kIn, ?_⟩
  obtain ⟨u, rfl, ry⟩ := vals1 r1
  show wpAny _ _ (call (.ref C) [u]) _ _ _
  obtain ⟨hp, g, dr, tk, os⟩ := s1
  have size : hp.objs.size ≤ hp.objs.size + 1 := Nat.le_succ _
  have new : H1 (hp.objs.size + 1) = none := I1.hok.fresh size
  have kept : ∀ b o, hp.get? b = some o →
      ((hp.push (PySem.W.kdv_tup [u])).push (PySem.HandSPX.excO C hp.objs.size)).get? b = some o := by
    intro b o z
    exact Heap.get?_push_of_some _ (Heap.get?_push_of_some _ z)
  have lies : ((hp.push (PySem.W.kdv_tup [u])).push (PySem.HandSPX.excO C hp.objs.size)).get? (hp.objs.size + 1) =
      some (PySem.HandSPX.excO C hp.objs.size) := by heap_get
  have I2 := I1.laid (t' := tk) (a := hp.objs.size + 1) (o := exo (hp.objs.size + 1) C none) kept size (exo_ok lies)
  have r2 : Vals [V.ref (hp.objs.size + 1), y] [Value.ref (hp.objs.size + 1), u] := .cons rfl (.cons ry .nil)
  have sp : spKeep C f [V.ref (hp.objs.size + 1), y] (upd H1 (hp.objs.size + 1) (exo (hp.objs.size + 1) C none))
      (fun v H2 => v = .non ∧ ∃ d, H1 d = none ∧ d ≠ hp.objs.size + 1 ∧
        H2 = upd (upd (upd H1 (hp.objs.size + 1) (exo (hp.objs.size + 1) C none)) d (exd d [(f, y)])) (hp.objs.size + 1) (exo (hp.objs.size + 1) C (some d)))
      (fun _ _ _ => False) := by
    refine ⟨_, y, rfl, upd_same, fun dx n ne => ⟨rfl, dx, ?_, ne, rfl⟩⟩
    rw [upd_ne ne] at n
    exact n
  have len := F.arity sp
  have bd := hb ⟨_, g, dr, tk, os⟩ [Value.ref (hp.objs.size + 1), u] I2.kIn (by rw [List.append_nil]; exact len)
  rw [List.append_nil] at bd
  refine wpAny_call (called_own T.base.make (Row.of (I1.kIn _ _ hC) hbm) (by show 1 ≤ sizeLine; rw [sizeLine_eq]; omega)
    (PySem.W.looks_findIn I1.kIn iC) (fun self => PySem.W.bind_fn I1.kIn self tI)
    (codeAny_mono (F.runs (out := X.stack) (room_make hr C [u] []) (I2.env0.make C [u] []) bd r2 sp) ?_))
  intro r s' hq
  cases r with
  | error er => exact hx pins σ _ _ er s' I2 hq
  | ok fl =>
    cases fl with
    | next => exact hq.elim
    | brk => exact hq.elim
    | cont => exact hq.elim
    | ret u' =>
      obtain ⟨v, H2, os2, bare2, un2, hok2, rv, rfl, d, nd, ne, rfl⟩ := hq
      obtain ⟨h2, g2, d2, t2, os'⟩ := s'
      have ed : (upd (upd (upd H1 (hp.objs.size + 1) (exo (hp.objs.size + 1) C none)) d (exd d [(f, y)])) (hp.objs.size + 1)
          (exo (hp.objs.size + 1) C (some d))) d = some (exd d [(f, y)]) := by
        rw [upd_ne ne, upd_same]
      refine ⟨rv, mk_end (raises_own T.isE T.meta_) I1 size kept un2 hok2 os2 bare2 upd_same ed nd ?_⟩
      have same : upd (del (upd (upd (upd H1 (hp.objs.size + 1) (exo (hp.objs.size + 1) C none)) d (exd d [(f, y)])) (hp.objs.size + 1)
          (exo (hp.objs.size + 1) C (some d))) (hp.objs.size + 1)) d (.xd [(f, y)]) = upd H1 d (.xd [(f, y)]) := by
        funext b
        by_cases b1 : b = d
        · subst b1
          rw [upd_same, upd_same]
        rw [upd_ne b1, upd_ne b1]
        by_cases b2 : b = hp.objs.size + 1
        · subst b2
          rw [del_same, new]
        rw [del_ne b2, upd_ne b2, upd_ne b1, upd_ne b2]
      rw [same]
      exact q1 d nd
end
/-! Base.__init__(self, ..), Base an own class -/
structure Asks (K : PySem.W.Frag) (C : Addr) (initId : String) : Prop where
  sp : PySem.W.specialIn K (.ref C) "__getattribute__" = some (some (.builtin "type.__getattribute__"))
  rd : PySem.W.readsIn K C (.type "type") = true
  fi : PySem.W.findCls K (.ref C) (.type "type") "__init__" = some (.val (.builtin initId))
section
variable {X : Cx} {x : Str} {C : Addr} {e : Expr} {es : List Expr} {ta : TA} {p1 p2 pos : Pos} {B newId initId : String} {top : List Value}
theorem pe_askC {pl : Sem Bool} (T0 : Asks X.K C initId) (hg : Gl X x) (hm : X.mg x = some (.ref C))
    (hi : PySem.W.handedIn (.builtin initId) = true)
    (ha : PA X (e :: es) ta) (hdb : (x == ("__debug__" : Str)) = false := by decide)
    (hc : eval (.Call (.Attribute (.Name x p1) "__init__" p2) (e :: es) [] pos) X.env = (do
      let ov ← eval (.Name x p1) X.env
      standAt p2.atName
      let (f, first) ← holding [ov] (getMethod ov "__init__" pl)
      callWith pos f first (backTo pos (starEach (e :: es) X.env)) (backToKw pos (keywordEach [] X.env))) := by rfl)
    (he : starEach (e :: es) X.env = (false, eval e X.env) :: starEach es X.env := by rfl)
    (hpl : (backTo pos (starEach es X.env)).any (·.1) = false := by rfl) :
    PE X (.Call (.Attribute (.Name x p1) "__init__" p2) (e :: es) [] pos) (tAsk X.K B newId initId top ta) := by
  constructor
  intro pins s σ H Q I h
  refine PySem.W.methodCall_KW (ld_glob I hg hm ?_ hdb) hc
  refine PySem.W.method_cls I.kIn T0.sp (PySem.W.cls_value I.kIn T0.rd T0.fi hi ?_)
  show wpAny _ _ (callWith pos (Value.builtin initId) [] (backTo pos (starEach (e :: es) X.env)) []) _ _ _
  refine PyProof.Rows.callWith_method1 (thn (ha.run pos pins _ σ H _ (I.tok _) h) ?_) he hpl
  rintro us s1 ⟨vs, H1, I1, r1, a, C', ws, rfl, hl, T, ea, q⟩
  cases r1 with
  | @cons _ u0 _ ur ra rw' =>
    obtain rfl : u0 = Value.ref a := ra
    refine ask_ok T I1 ea ?_ fun s' J => ⟨.non, H1, J, rfl, q⟩
    rw [← Paired.length rw', sizeLine_eq]
    omega
end
end MD

set_option Elab.async false
set_option maxRecDepth 100000
set_option maxHeartbeats 2000000
set_option linter.all false
/-! a def that raises nothing, called where an exception is being handled -/
namespace MM
open PySem PySem.Spec PyProof.Rows L2
structure RmT (k : Nat) (A : Around) : Prop where
  room : L2H.RoomH k A
  still : A.guards = some []
theorem RmT.le {j k : Nat} {A : Around} (h : RmT k A) (le : j ≤ k) : RmT j A := ⟨h.room.mono le, h.still⟩
theorem Rm.hot {k : Nat} {A : Around} (h : Rm k A) (x : Option Value) : RmT k (A.mark x) := ⟨⟨h.room.dp, h.room.un⟩, h.still⟩
structure FnT (P : Program) (w : World) (K : PySem.W.Frag) (mg : Str → Option Value) (base : Heap)
    (k : Nat) (f : Addr) (fd : FuncData) (ps : List Str) (sp : Sp) : Prop where
  arity : ∀ {vs H Q E}, sp vs H Q E → vs.length = ps.length
  runs : ∀ {A : Around} {out : List Env} {s : Shared} {H : Hp} {ar : Args} {us : List Value} {vs : List V} {Q : VK} {E : XK},
    RmT k A → Env0 P w K mg base A out s H → BindsTo s fd ar (ps.zip us) → Vals vs us → sp vs H Q E →
      codeAny (model P w) A (.call (.ref f) ar) (CR CX0 out P w H s Q E) s
/-- its body's context: nothing may be raised in it -/
def cxT (P : Program) (w : World) (K : PySem.W.Frag) (mg : Str → Option Value) (base : Heap) (N : List Str) (qual : Str) (scope : Scope) (f : Addr) (cd : Value) (A : Around) (outer : List Env) (s : Shared) (H : Hp) (E : XK) : Cx :=
  { cxOf CX0 P w K mg base N qual scope f cd A outer s H E with calm := false }
theorem inv_startT {P : Program} {w : World} {K : PySem.W.Frag} {mg : Str → Option Value} {base : Heap} {N ps : List Str} {qual : Str} {scope : Scope} {f : Addr} {cd : Value} {A : Around} {outer : List Env} {s s1 : Shared} {H : Hp} {E : XK} {us : List Value} {vs : List V}
    (S : FnScope N ps scope) (e0 : Env0 P w K mg base A outer s H) (hl : vs.length = ps.length) (r : Vals vs us)
    (x : InCallC s s.heap.objs.size (bindL (envOfC qual scope s.heap.objs.size f cd).kindOf (ps.zip us) fun _ => none) (cellsFrom (s.heap.objs.size + 1) scope.names []) (bindC (envOfC qual scope s.heap.objs.size f cd).kindOf (ps.zip us) fun _ => none) s1) :
    Inv (cxT P w K mg base N qual scope f cd A outer s H E) [] (L2.start N vs) H s1 := by
  have e1 : Env0 P w K mg base { A with handled := none } outer s H := ⟨e0.frames, e0.mod, e0.bs, e0.bsz, e0.funs, e0.frf, e0.hok, e0.bare⟩
  have J := inv_start (CX := CX0) (E := E) (qual := qual) (f := f) (cd := cd) S (A := { A with handled := none }) rfl e1 hl r x
  exact ⟨⟨J.ok.mod, J.ok.kind, J.ok.glob, J.ok.blt, J.ok.above, J.ok.inj, J.ok.has, J.ok.cab, (fun z => Bool.noConfusion (show false = true from z)), J.ok.frames, J.ok.stk, J.ok.exf, J.ok.bs, J.ok.bsz, J.ok.noex, J.ok.exfs, J.ok.funs, J.ok.frf⟩,
    J.os, J.bare, J.base, J.loc, J.cell, J.free, J.freeC, J.pin, J.hok, J.len⟩
def DefT (P : Program) (w : World) (K : PySem.W.Frag) (mg : Str → Option Value) (base : Heap) (k : Nat) (x : Str) (ps : List Str) (sp : Sp) : Prop :=
  ∃ f fd, FnT P w K mg base k f fd ps sp ∧ mg x = some (.ref f) ∧ PySem.W.keepIn K (.ref f) = true ∧ L2.Binds K fd ps []
section
variable {P : Program} {w : World} {K : PySem.W.Frag} {mg : Str → Option Value} {base : Heap} {k : Nat} {x : Str} {ps : List Str} {sp : Sp} {st : Stmt}
theorem At.defT {N : List Str} (T : At K mg x st) (S : FnScope N ps (defScope st))
    (hb : ∀ (kV doc pm : Value) (an : Option Addr) (cd ct : Value) (us : List Value), us.length = ps.length →
      bindArgs (PySem.W.fnOf x x (defArgs st) (defBody st) (defScope st) .none kV doc pm an cd ct) ⟨us, []⟩ = pure (ps.zip us))
    (arity : ∀ vs H Q E, sp vs H Q E → vs.length = ps.length)
    (body : ∀ (f : Addr) (cd : Value) (A : Around) (out : List Env) (s : Shared) (H : Hp) (vs : List V) (Q : VK) (E : XK),
      RmT k (A.deeper (envOfC x (defScope st) s.heap.objs.size f cd)) → sp vs H Q E →
      ∃ t, PSs (cxT P w K mg base N x (defScope st) f cd A out s H E).nox (defBody st) t ∧
        t { nx := fun _ H' => Q .non H', rt := Q } (start N vs) H) : DefT P w K mg base (k + 1) x ps sp := by
  obtain ⟨fd, F⟩ := T.fn
  have bnd := F.bindsN hb
  have kp := F.kp
  obtain ⟨oc, od, dV, kV, doc, pm, an, cd, ct, osl, rfl, lk, hcd, _, _⟩ := F.ex
  refine ⟨_, _, ⟨fun h => arity _ _ _ _ h, ?_⟩, T.glo, kp, bnd⟩
  intro A out s H ar us vs Q E hr e0 hbd hv h
  have nv := arity _ _ _ _ h
  have inK : K.In s.heap := e0.mod.kin.keeps (fun b o e => (e0.bs b o e).1)
  have nl : s.heap.NoLimit := e0.mod.nolimit.keeps (fun b o e => (e0.bs b o e).1)
  have kd : ∀ y ∈ ps.zip us, (defScope st).names.lookup y.1 = some .local ∨
      ((defScope st).names.lookup y.1 = some .cell ∧ ((cellsFrom (s.heap.objs.size + 1) (defScope st).names []).lookup y.1).isSome = true) := by
    rintro ⟨n, v⟩ hy
    cases S.par n (List.of_mem_zip hy).1 with
    | inl q => exact .inl q
    | inr q => exact .inr ⟨q, PySem.W.cellsFrom_some _ _ _ (.inl q)⟩
  refine codeAny_call_function hr.room.depth (inK _ _ lk) rfl S.co S.gen rfl (PySem.W.codeRec_of inK hcd) (hbd _ _ _ _ ?_)
  refine wpAny_newFunctionEnv_cells S.kind kd (fun env he s1 xc => ?_)
  subst he
  refine ⟨nl.keeps xc.toInCall.keep, codeAny_func ?_⟩
  obtain ⟨t, ht, hq⟩ := body _ cd A out s H vs Q E ⟨hr.room.deeper _, hr.still⟩ h
  have I := inv_startT (P := P) (w := w) (qual := x) (cd := cd) (f := He.ga K x) (E := E) S e0 nv hv xc
  refine wpAny_mono (ht.nox.run [] s1 (start N vs) H _ I hq) (fun fl s' hs => ?_) (fun e s' hs => hs)
  cases fl with
  | ret u =>
    obtain ⟨v, σ', H', J, rv, q⟩ := hs
    exact ⟨v, H', J.os, J.bare, J.base, J.hok, rv, q⟩
  | next =>
    obtain ⟨σ', H', J, q⟩ := hs
    exact ⟨.non, H', J.os, J.bare, J.base, J.hok, rfl, q⟩
  | brk =>
    obtain ⟨_, _, _, q⟩ := hs
    exact q.elim
  | cont =>
    obtain ⟨_, _, _, q⟩ := hs
    exact q.elim
end
section
variable {X : Cx} {k : Nat} {ps : List Str} {sp : Sp} {x : Str} {p pos : Pos} {e : Expr} {es : List Expr} {t : TA}
theorem pe_dT (D : DefT X.prog X.w X.K X.mg X.base k x ps sp) (hr : RmT k X.A) (hx : Passes CX0 X (fun _ _ _ => False)) (ha : PA X (e :: es) t) (hg : Gl X x := by rfl)
    (hdb : (x == ("__debug__" : Str)) = false := by decide)
    (he : starEach (e :: es) X.env = (false, eval e X.env) :: starEach es X.env := by rfl)
    (hpl : (backTo pos (starEach es X.env)).any (·.1) = false := by rfl) : PE X (.Call (.Name x p) (e :: es) [] pos) (tD sp (fun _ _ _ => False) t) := by
  obtain ⟨f, fd, F, hm, hk, hb⟩ := D
  constructor
  intro pins s σ H Q I h
  refine wpAny_Call_Name_kw (ld_glob I hg hm ?_ hdb)
  refine PySem.W.callWith_K (h₀ := X.base) I.ok.mod.kin hk ?_ he hpl
  refine thn (ha.run pos pins s σ H _ I h) fun us s1 ⟨vs, H1, I1, r, q⟩ => ⟨I1.kIn, ?_⟩
  have nl : (us ++ []).length = ps.length := by
    rw [List.append_nil, ← r.length]
    exact F.arity q
  have bd := hb s1 us I1.kIn nl
  rw [List.append_nil] at bd
  refine wpAny_call (codeAny_mono (F.runs hr I1.env0 bd r q) ?_)
  intro res s' hq
  cases res with
  | error e => exact hx pins σ H1 s1 e s' I1 hq
  | ok fl =>
    cases fl with
    | ret u => exact I1.after hq
    | next => exact hq.elim
    | brk => exact hq.elim
    | cont => exact hq.elim
end
end MM

set_option Elab.async false
set_option maxRecDepth 100000
set_option maxHeartbeats 2000000
set_option linter.all false
namespace PySem
namespace HandSPX
/-! KeyError as a base: its __new__ is LookupError's -/
theorem bs_KeyError : Bs "KeyError" "LookupError.__new__" "KeyError.__init__" [.type "KeyError", .type "LookupError", .type "Exception", .type "BaseException", .type "object"] :=
  ⟨⟨⟨_, _, _, PySem.F.excBase_LookupError, by decide +kernel⟩, by decide +kernel, by decide +kernel⟩, by decide +kernel, PyProof.Rows.excClass_KeyError.notStar,
    PyProof.Rows.excClass_KeyError.init.plain, PyProof.Rows.excClass_KeyError.initEntry, PyProof.Rows.excClass_KeyError.initSplit, PyProof.Rows.excClass_KeyError.initKind,
    PyProof.Rows.excClass_KeyError.initSig⟩
theorem store_KeyError : StoreFacts "KeyError" [.type "KeyError", .type "LookupError", .type "Exception", .type "BaseException", .type "object"] "object.__setattr__" "object" where
  mro := by kernel_rfl
  slot := .of (owner := "object") (n := "__setattr__") (by rw [typeLookup_type, builtinLookup_eq_fast]; kernel_rfl) (by decide +kernel) (by decide +kernel) (by decide +kernel)
    (by first | exact .inl (by decide +kernel) | exact .inr (by decide +kernel)) (by rw [isSubtype_type]; kernel_rfl)
  entry := PySem.F.store_IndexError.entry
  kind := by decide +kernel
  split := by decide +kernel
  hasOwner := by decide +kernel
  args := fun a b c => by unfold argsOk; kernel_rfl
  passes := fun self => by kernel_rfl
end HandSPX
end PySem
namespace MM
open PySem PySem.Spec PyProof.Rows L2
/-! z * n of a text -/
def rRepS : V → V → Hp → VK → Prop := fun x y H Q => ∃ (z : Str) (n : Int), x = .str z ∧ y = .int n ∧ 1 ≤ n ∧ n ≤ 1000 ∧ 1 ≤ z.length ∧ z.length ≤ 1000 ∧ ∀ t : Str, t.length ≤ 1000000 → Q (.str t) H
theorem foldl_size (l : List (Array Nat)) (acc : Array Nat) : (l.foldl (· ++ ·) acc).size = acc.size + (l.map (·.size)).sum := by
  induction l generalizing acc with
  | nil => simp
  | cons a r ih =>
    rw [List.foldl_cons, ih, Array.size_append, List.map_cons, List.sum_cons]
    omega
theorem op_repS {X : Cx} : OpR X (binaryOp .Mult) rRepS := by
  intro pins s σ H x y v u Q I rx ry h
  obtain ⟨z, n, rfl, rfl, n1, n2, z1, z2, q⟩ := h
  obtain ⟨t, rfl⟩ := rx
  obtain ⟨t', rfl⟩ := ry
  have small : z.length * n.toNat ≤ 1000 * 1000 := Nat.mul_le_mul z2 (by omega)
  refine PySem.P.mul_str ?_ (fun _ _ => ?_) (fun _ _ => ?_) ?_
  · rw [decide_eq_false (by omega), decide_eq_false (by omega)]
    rfl
  · have e : ((n.toNat : Nat) : Int) = n := Int.toNat_of_nonneg (by omega)
    have sm : (z.length : Int) * n ≤ 2 ^ 63 - 1 := by
      rw [← e, ← Int.natCast_mul]
      omega
    have := Int.le_ediv_of_mul_le (by omega) sm
    omega
  · show decide (_ > sizeLine) = false
    refine decide_eq_false ?_
    rw [sizeLine_eq]
    omega
  · rw [if_neg (by omega)]
    split
    · exact ⟨.str z, H, I, ⟨t, rfl⟩, q z (by omega)⟩
    · have len : (List.foldl (· ++ ·) #[] (List.replicate n.toNat z.cps)).size = z.length * n.toNat := by
        rw [foldl_size, List.map_replicate, List.sum_replicate_nat]
        show 0 + n.toNat * z.cps.size = z.cps.size * n.toNat
        rw [Nat.mul_comm, Nat.zero_add]
      refine ⟨?_, .str _, H, I.tok _, ⟨_, rfl⟩, q _ ?_⟩
      · show (List.foldl (· ++ ·) #[] (List.replicate n.toNat z.cps)).size ≤ sizeLine
        rw [len, sizeLine_eq]
        omega
      · show (List.foldl (· ++ ·) #[] (List.replicate n.toNat z.cps)).size ≤ 1000000
        rw [len]
        omega
/-! repr of a dict of texts and tuples of ints -/
/-- a tuple of ints -/
def TupI (K : PySem.W.Frag) (H : Hp) (v : V) (ns : List Int) : Prop := ∃ a, v = .ref a ∧ SqT K H a (ns.map V.int)
section
variable {X : Cx} {pins : List (Addr × Obj)} {σ : L2.St} {H : Hp} {s : Shared}
theorem reads_ints {h : Heap} : ∀ (ns : List Int) (us : List Value), Vals (ns.map V.int) us → ReadsAll h us (ns.map PyData.int) []
  | [], _, r => by
    cases r
    exact .nil
  | n :: r, _, q => by
    cases q with
    | cons r1 r2 =>
      obtain ⟨t, rfl⟩ := r1
      exact ReadsAll.cons (Reads.int n t) (reads_ints r _ r2)
theorem reads_tupI (I : Inv X pins σ H s) {v : V} {u : Value} {ns : List Int} (h : TupI X.K H v ns) (r : RelV v u) : Reads s.heap u (.tuple (ns.map PyData.int)) [] := by
  obtain ⟨a, rfl, S⟩ := h
  cases r
  obtain ⟨its, rv, ⟨o, ho, hc, n, hd⟩, _⟩ := I.tuple S
  exact Reads.tuple ho hc hd (reads_ints ns its (by simpa using rv))
/-- the pairs of the dict: texts, tuples of ints -/
inductive DkI (K : PySem.W.Frag) (H : Hp) : List (Key × V) → List (Str × List Int) → Prop
  | nil : DkI K H [] []
  | cons {k : Str} {v : V} {ns : List Int} {r : List (Key × V)} {q : List (Str × List Int)} (h : TupI K H v ns) (t : DkI K H r q) : DkI K H ((.inr k, v) :: r) ((k, ns) :: q)
def dkD (q : List (Str × List Int)) : PyData := .dict (q.map fun p => (.str p.1, .tuple (p.2.map PyData.int)))
theorem reads_dk (I : Inv X pins σ H s) : ∀ {kvs : List (Key × V)} {q : List (Str × List Int)} {vs : List (Key × Value)} {es : List DictEntry}, DkI X.K H kvs q → KV kvs vs → Pairs (mixKind X.prog X.w) es vs →
    ReadsAll s.heap (es.map (·.key)) (q.map fun p => .str p.1) [] ∧ ReadsAll s.heap (es.map (·.val)) (q.map fun p => .tuple (p.2.map PyData.int)) [] := by
  intro kvs q vs es h
  induction h generalizing vs es with
  | nil =>
    intro r p
    cases r
    cases p
    exact ⟨.nil, .nil⟩
  | @cons k v ns rr qq hv _ ih =>
    intro r p
    cases r with
    | @cons _ kv _ vs' r1 r2 =>
      cases p with
      | @cons e _ es' _ p1 p2 p3 =>
        obtain ⟨e1, e2⟩ := r1
        obtain ⟨i1, i2⟩ := ih r2 p3
        have p1' : keyIs kv.1 e.key = true := p1
        rw [← e1] at p1'
        have ek : ∃ t, e.key = Value.str k t := by
          rcases keyIs_shape p1' with ⟨i, t, z, _⟩ | ⟨x, t, z, ek⟩
          · cases z
          · cases z
            exact ⟨t, ek⟩
        obtain ⟨t, ek⟩ := ek
        refine ⟨?_, ?_⟩
        · show ReadsAll s.heap (e.key :: _) (.str _ :: _) _
          rw [ek]
          exact ReadsAll.cons (Reads.str _ t) i1
        · show ReadsAll s.heap (e.val :: _) (.tuple _ :: _) _
          rw [p2]
          exact ReadsAll.cons (reads_tupI I hv e2) i2
end
def rReprK (K : PySem.W.Frag) : List V → Hp → VK → Prop := fun xs H Q => ∃ (a : Addr) (kvs : List (Key × V)) (q : List (Str × List Int)), xs = [.ref a] ∧ H a = some (.dK kvs) ∧ DkI K H kvs q ∧
  (dkD q).showable = true ∧ (dkD q).depth ≤ 60 ∧ (dkD q).shown.length ≤ sizeLine ∧ Q (.str (dkD q).shown) H
theorem cr_reprK {X : Cx} (hg : X.A.guards = some []) (hu : X.A.units + 66 < cLine) : CallR X (.builtin "repr") (rReprK X.K) := by
  intro pins s σ H xs us Q I r h
  obtain ⟨a, kvs, q, rfl, ha, hk, hw, hdp, hz, hq⟩ := h
  obtain ⟨u, rfl, ru⟩ := vals1 r
  cases ru
  obtain ⟨_, ns, vs, kv, o, es, ep, ho, hx, hd, _, hp, _⟩ := (show ObjOk X.prog X.w H s.heap a (.dK kvs) from I.hok a _ ha)
  obtain ⟨r1, r2⟩ := reads_dk I hk kv hp
  have rd : Reads s.heap (.ref a) (dkD q) (a :: [] ++ []) := Reads.dict ho hx.1 hd (by rw [List.map_map]; exact r1) (by rw [List.map_map]; exact r2)
  refine repr_of_reads' rd hw (fun _ => ?_) hg (by omega) (fun _ _ e => e) (fun h' z tk hk => ⟨.str _, H, I.kept hk, ⟨_, rfl⟩, hq⟩) hz
  intro z
  have e : sysModules = a := by simpa using z
  rw [← e] at ns
  simp at ns
/-- repr of data, or of such a dict -/
def rReprX (K : PySem.W.Frag) : List V → Hp → VK → Prop := fun xs H Q => rRepr K xs H Q ∨ rReprK K xs H Q
theorem cr_reprX {X : Cx} (hg : X.A.guards = some []) (hu : X.A.units + 66 < cLine) : CallR X (.builtin "repr") (rReprX X.K) := by
  intro pins s σ H xs us Q I r h
  rcases h with h | h
  · exact cr_repr hg hu pins s σ H xs us Q I r h
  · exact cr_reprK hg hu pins s σ H xs us Q I r h
end MM

set_option Elab.async false
set_option linter.all false
set_option maxRecDepth 100000
set_option maxHeartbeats 2000000
namespace K87
open PySem PySem.Spec PyProof.Rows L2 MM
/-! own words for the readings: a step, its side -/
local macro_rules | `(tactic| walk_at "side") => `(tactic| first
  | omega
  | exact ⟨by omega, by omega⟩
  | exact Or.inl ⟨by omega, by omega⟩
  | exact Or.inr ⟨by omega, by omega⟩
  | (show CPw _ _; decide +kernel)
  | (show (0 : Int) < _; decide +kernel)
  | (show CDivW _ _; first | assumption | exact ⟨by decide, by decide +kernel⟩))
local macro_rules | `(tactic| walk_at "here") => `(tactic| first
  | assumption
  | exact upd_same
  | exact Or.inl (Or.inl upd_same)
  | exact Or.inl upd_same)
local macro_rules | `(tactic| walk_at "one") => `(tactic| first
  | refine ⟨_, rfl, ?_⟩
  | refine Or.inl ⟨_, rfl, ?_⟩
  | refine Or.inr ⟨_, rfl, ?_⟩
  | refine ⟨_, _, rfl, rfl, (by walk_at "side"), ?_⟩
  | refine ⟨_, _, rfl, rfl, ?_⟩
  | refine ⟨_, _, rfl, Or.inl (by walk_at "here"), ?_⟩
  | refine ⟨_, _, rfl, Or.inr (by walk_at "here"), ?_⟩
  | refine ⟨_, _, rfl, (by walk_at "here"), ?_⟩
  | refine ⟨_, _, _, _, rfl, rfl, (by walk_at "here"), rfl, ?_⟩
  | refine ⟨_, _, rfl, ?_⟩
  | refine ifT (by rfl) ?_
  | refine ifF (by rfl) ?_
  | refine ifT (decide_eq_true (by omega)) ?_
  | refine ifF (decide_eq_false (by omega)) ?_)
local macro_rules | `(tactic| walk_at "st") => `(tactic| repeat (walk_at "one"))

structure Tx (K : PySem.W.Frag) (mg : Str → Option Value) : Prop where
  t_is_whole : At K mg "is_whole" sIsWhole
  t_is_integer : At K mg "is_integer" sIsInteger
  t_is_between : At K mg "is_between" sIsBetween
  t_need_between : At K mg "need_between" sNeedBetween
  t_is_arrangement : At K mg "is_arrangement" sIsArrangement
  t_need_places : At K mg "need_places" sNeedPlaces
  t_need_move : At K mg "_need_move" sNeedMove
  t_cycles : At K mg "cycles" sCycles
  t_need_group : At K mg "need_group" sNeedGroup
  t_need_text : At K mg "_need_text" sNeedText
  t_is_at : At K mg "_is_at" sIsAt
  t_behind : At K mg "_behind" sBehind
  t_is_digit_at : At K mg "_is_digit_at" sIsDigitAt
  t_read_plain : At K mg "_read_plain" sReadPlain
  t_read_less : At K mg "_read_less" sReadLess
  t_write_move : At K mg "write_move" sWriteMove
  t_read_move : At K mg "read_move" sReadMove
  t_write_group : At K mg "write_group" sWriteGroup
  t_read_group : At K mg "read_group" sReadGroup
  t_are_members : At K mg "_are_members" sAreMembers
  t_write_row : At K mg "write_row" sWriteRow
  t_read_signed : At K mg "_read_signed" sReadSigned
  t_read_row : At K mg "read_row" sReadRow
  t_write_kinds : At K mg "write_kinds" sWriteKinds
  t_read_term : At K mg "_read_term" sReadTerm
  t_read_terms : At K mg "_read_terms" sReadTerms
  t_read_kinds : At K mg "read_kinds" sReadKinds
  t_table_lines : At K mg "table_lines" sTableLines
  t_law_bag : At K mg "_law_bag" sBagL
  t_law_grab : At K mg "_law_grab" sGrabL
  t_law_one_of : At K mg "_law_one_of" sOneOfL
  t_law_word : At K mg "_law_word" sWordL
  t_law_written_right : At K mg "_law_written_right" sWrittenRightL
  t_law_read_right : At K mg "_law_read_right" sReadRightL
  t_law : At K mg "law" sLaw
  f_IndexError : mg "IndexError" = none
  f_abs : mg "abs" = none
  f_all : mg "all" = none
  f_bool : mg "bool" = none
  f_int : mg "int" = none
  f_isinstance : mg "isinstance" = none
  f_len : mg "len" = none
  f_list : mg "list" = none
  f_max : mg "max" = none
  f_min : mg "min" = none
  f_range : mg "range" = none
  f_repr : mg "repr" = none
  f_set : mg "set" = none
  f_str : mg "str" = none
  f_sum : mg "sum" = none
  f_tuple : mg "tuple" = none
  c_TOO_LONG : ∃ u, mg "_TOO_LONG" = some u ∧ RelV (.int (10 ^ 60)) u
  c_MAX_PLACES : ∃ u, mg "MAX_PLACES" = some u ∧ RelV (.int (24)) u
  c_MOST_SIGNS : ∃ u, mg "MOST_SIGNS" = some u ∧ RelV (.int (3000)) u
  c_MOST_MEMBERS : ∃ u, mg "MOST_MEMBERS" = some u ∧ RelV (.int (60)) u
  c_DIGITS : ∃ u, mg "_DIGITS" = some u ∧ RelV (.str "0123456789") u
  c_MOST_DIGITS : ∃ u, mg "_MOST_DIGITS" = some u ∧ RelV (.int (60)) u

section
variable {P : Program} {w : World} {K : PySem.W.Frag} {mg : Str → Option Value} {base : Heap}
/-- a bag of draws -/
def BagAt (H : Hp) (p : Addr) : Prop := ∃ g m c : Int, H p = some (.lst [.int g, .int m, .int c])
def spBag (K : PySem.W.Frag) : Sp := fun vs H Q _ => ∃ (a : Addr) (n : Nat) (ns : List Int), vs = [.ref a, .int n] ∧ SqL K H a (ns.map V.int) ∧ n ≤ 100 ∧
  ∀ (H' : Hp) (p : Addr), Same H H' → H p = none → BagAt H' p → Q (.ref p) H'
theorem scBagL : FnScope ["_law_script", "_law_spot", "_law_cell", "_law_great", "_law_mixed"] ["_law_script", "_law_spot"] (defScope sBagL) :=
  ⟨rfl, rfl, rfl, by decide +kernel, rfl, by decide +kernel, by decide +kernel⟩
theorem dBagL (T : Tx K mg) : Def P w K mg base CX0 1 "_law_bag" ["_law_script", "_law_spot"] (spBag K) := by
  refine T.t_law_bag.def_ (N := ["_law_script", "_law_spot", "_law_cell", "_law_great", "_law_mixed"]) scBagL (fun _ _ _ _ _ _ us hl => match us, hl with | [_, _], _ => rfl) ?_ ?_
  · intro vs H Q E h
    obtain ⟨a, n, ns, rfl, _⟩ := h
    rfl
  · intro f cd A out s H vs Q E hr h
    obtain ⟨a, n, ns, rfl, hS, hn, q⟩ := h
    refine ⟨_, (pss_cons (ps_set (i := 2) scBagL.nd rfl (Or.inl rfl) (pe_ifExp (pt_cmpR op_lt (pv 1) (pe_callB call_len_seq rfl T.f_len (by decide +kernel) (pa_cons (pv 0) pa_nil)) (nomark _)) (pe_ix ix_list (pv 0) (pv 1) (fun _ _ => rfl)) (pe_op op_add (pe_op op_add (pe_callB (cr_sum rfl) rfl T.f_sum (by decide +kernel) (pa_cons (pe_slice sl_list (pv 0) po_none (po_some pe_int)) pa_nil)) (pe_op op_mul pe_int (pv 1))) pe_int)))
      (pss_cons (ps_set (i := 3) scBagL.nd rfl (Or.inl rfl) (pe_op op_mod (pe_callTy call_int1 rfl T.f_int (by decide +kernel) (pa_cons (pe_callB call_abs rfl T.f_abs (by decide +kernel) (pa_cons (pv 2) pa_nil)) pa_nil)) (pe_op op_pw (pe_op op_pw pe_int pe_int) pe_int)))
      (pss_cons (ps_set (i := 4) scBagL.nd rfl (Or.inl rfl) (pe_op op_add (pe_op op_add (pe_op op_add (pe_op op_mul (pe_op op_mod (pe_callTy call_int1 rfl T.f_int (by decide +kernel) (pa_cons (pv 3) pa_nil)) pe_int) pe_int) (pe_op op_mul pe_int (pv 1))) (pe_op op_mul pe_int (pe_callTy call_int1 rfl T.f_int (by decide +kernel) (pa_cons (pe_cmpR op_lt (pv 2) pe_int (nomark _)) pa_nil)))) pe_int))
      (pss_one (ps_ret (pe_lst (pa_cons (pe_callB (call_max2 rfl) rfl T.f_max (by decide +kernel) (pa_cons pe_int (pa_cons (pe_op op_sub (pv 3) (pe_op op_pw pe_int pe_int)) pa_nil))) (pa_cons (pe_op op_mod (pe_callTy call_int1 rfl T.f_int (by decide +kernel) (pa_cons (pv 4) pa_nil)) pe_int) (pa_cons pe_int pa_nil))))))))), ?_⟩
    -- behind the cell: whatever it is
    have fin : ∀ (H1 : Hp) (u v : Int), Same H H1 → ∀ p, H1 p = none → Q (.ref p) (upd H1 p (.lst [.int u, .int v, .int 0])) := by
      intro H1 u v sm p hp
      refine q _ p ?_ (sm.free hp) ⟨u, v, 0, upd_same⟩
      intro b o e
      rw [upd_ne (ne_of_none (sm b o e) hp)]
      exact sm b o e
    walk_at "st"
    refine ite2 (fun c => ?_) (fun c => ?_)
    · have lt : n < ns.length := by
        have := of_decide_eq_true c
        rw [List.length_map] at this
        omega
      refine ⟨_, rfl, _, rfl, a, _, _, _, rfl, rfl, hS, atI_cell lt, ?_⟩
      walk_at "st"
      exact ⟨by show 3 ≤ sizeLine; decide, fin H _ _ (Same.refl H)⟩
    · walk_at "st"
      intro p hp
      have sm : Same H (upd H p (.lst (cutV (ns.map V.int) none (some 1)))) := by
        intro b o e
        rw [upd_ne (ne_of_none e hp)]
        exact e
      have ec : cutV (ns.map V.int) none (some 1) = (ns.take 1).map V.int := by
        unfold cutV
        rw [HT.sIx_none, show HT.sIx (ns.map V.int).length (ns.map V.int).length (some 1) = min 1 (ns.map V.int).length from HT.sIx_nat _ _ 1, List.map_take, List.drop_zero, Nat.sub_zero]
        cases ns with
        | nil => rfl
        | cons x r => simp
      refine ⟨_, ns.take 1, rfl, ?_, ?_⟩
      · rw [← ec]
        exact .inl (.inl upd_same)
      walk_at "st"
      exact ⟨by show 3 ≤ sizeLine; decide, fin _ _ _ sm⟩
def spGrab : Sp := fun vs H Q _ => ∃ (p : Addr) (t g m c : Int), vs = [.ref p, .int t] ∧ H p = some (.lst [.int g, .int m, .int c]) ∧ CDivW 0 t ∧
  ∀ r g' m' c' : Int, 0 ≤ r → r < t → Q (.int r) (upd H p (.lst [.int g', .int m', .int c']))
theorem grab_out {H : Hp} {p : Addr} {t r : Int} {xs : List V} {Q : VK} (q : ∀ r g' m' c' : Int, 0 ≤ r → r < t → Q (.int r) (upd H p (.lst [.int g', .int m', .int c'])))
    (ht : 0 < t) (z : Int) (e : r = z % t) (ex : ∃ g' m' c', xs = [V.int g', V.int m', V.int c']) : Q (.int r) (upd H p (.lst xs)) := by
  obtain ⟨g', m', c', rfl⟩ := ex
  rw [e]
  exact q _ _ _ _ (Int.emod_nonneg _ (by omega)) (Int.emod_lt_of_pos _ ht)
theorem scGrabL : FnScope ["_law_bag_here", "_law_total", "_law_found", "_law_one", "_law_two"] ["_law_bag_here", "_law_total"] (defScope sGrabL) :=
  ⟨rfl, rfl, rfl, by decide +kernel, rfl, by decide +kernel, by decide +kernel⟩
theorem dGrabL (T : Tx K mg) : Def P w K mg base CX0 1 "_law_grab" ["_law_bag_here", "_law_total"] spGrab := by
  refine T.t_law_grab.def_ (N := ["_law_bag_here", "_law_total", "_law_found", "_law_one", "_law_two"]) scGrabL (fun _ _ _ _ _ _ us hl => match us, hl with | [_, _], _ => rfl) ?_ ?_
  · intro vs H Q E h
    obtain ⟨p, t, g, m, c, rfl, _⟩ := h
    rfl
  · intro f cd A out s H vs Q E hr h
    obtain ⟨p, t, g, m, c, rfl, hp, ht, q⟩ := h
    have ht0 : 0 < t := ht.1
    have hS : SqL K H p _ := .inl (.inl hp)
    have hd : ∀ i, CDivW i t := fun _ => ht
    refine ⟨_, (pss_cons (ps_if (pt_cmpR op_gt (pe_ix ix_list (pv 0) pe_int (fun _ _ => rfl)) pe_int (nomark _)) (pss_cons (ps_set (i := 2) scGrabL.nd rfl (Or.inl rfl) (pe_op op_mod (pe_callTy call_int1 rfl T.f_int (by decide +kernel) (pa_cons (pe_ix ix_list (pv 0) pe_int (fun _ _ => rfl)) pa_nil)) (pv 1)))
        (pss_cons (ps_asg (pe_op op_fdivW (pe_ix ix_list (pv 0) pe_int (fun _ _ => rfl)) (pv 1)) (pg_sub (pv 0) pe_int set_list))
        (pss_one (ps_ret (pv 2))))) pss_nil)
      (pss_cons (ps_asg (pe_op op_add (pe_ix ix_list (pv 0) pe_int (fun _ _ => rfl)) pe_int) (pg_sub (pv 0) pe_int set_list))
      (pss_cons (ps_set (i := 3) scGrabL.nd rfl (Or.inl rfl) (pe_op op_mod (pe_callTy call_int1 rfl T.f_int (by decide +kernel) (pa_cons (pe_op op_add (pe_ix ix_list (pv 0) pe_int (fun _ _ => rfl)) (pe_op op_mul pe_int (pe_ix ix_list (pv 0) pe_int (fun _ _ => rfl)))) pa_nil)) pe_int))
      (pss_cons (ps_set (i := 4) scGrabL.nd rfl (Or.inl rfl) (pe_op op_add (pe_op op_mul (pe_op op_mod (pe_callTy call_int1 rfl T.f_int (by decide +kernel) (pa_cons (pe_op op_mul (pv 3) (pv 3)) pa_nil)) pe_int) (pv 3)) (pe_op op_mul pe_int (pe_ix ix_list (pv 0) pe_int (fun _ _ => rfl)))))
      (pss_one (ps_ret (pe_op op_mod (pe_callTy call_int1 rfl T.f_int (by decide +kernel) (pa_cons (pe_op op_fdivW (pe_op op_mod (pe_callTy call_int1 rfl T.f_int (by decide +kernel) (pa_cons (pv 4) pa_nil)) pe_int) pe_int) pa_nil)) (pv 1)))))))), ?_⟩
    walk_at "st"
    refine ite2 (fun c => ?_) (fun c => ?_)
    · walk_at "st"
      refine grab_out q ht0 g rfl ⟨_, _, _, rfl⟩
    · walk_at "st"
      refine grab_out q ht0 _ rfl ⟨_, _, _, rfl⟩
theorem sql_upd {K : PySem.W.Frag} {H : Hp} {p l : Addr} {xs : List V} {o : HO} (h : SqL K H l xs) (ne : l ≠ p) : SqL K (upd H p o) l xs := by
  rcases h with (h | ⟨u, h⟩) | h
  · exact .inl (.inl (by rw [upd_ne ne]; exact h))
  · exact .inl (.inr ⟨u, by rw [upd_ne ne]; exact h⟩)
  · exact .inr h
theorem at_in {xs : List V} {r : Int} (h0 : 0 ≤ r) (h1 : r < xs.length) : ∃ v, v ∈ xs ∧ atI xs r = some v := by
  have lt : r.toNat < xs.length := by omega
  refine ⟨xs[r.toNat], List.getElem_mem lt, ?_⟩
  have e : ((r.toNat : Nat) : Int) = r := by omega
  have q := atI_nat (xs := xs) (j := r.toNat) (List.getElem?_eq_getElem lt)
  rw [e] at q
  exact q
theorem div_small {n : Nat} (h0 : 0 < n) (h : n ≤ 100000) : CDivW 0 (n : Int) := by
  refine wide_div (b := 20) (by omega) ?_ (by decide) (by decide)
  have e : ((n : Int)).natAbs = n := Int.natAbs_natCast n
  rw [e]
  exact Nat.lt_of_le_of_lt h (by decide)
def spOneOf (K : PySem.W.Frag) : Sp := fun vs H Q _ => ∃ (p l : Addr) (g m c : Int) (xs : List V), vs = [.ref p, .ref l] ∧ H p = some (.lst [.int g, .int m, .int c]) ∧ SqL K H l xs ∧
  l ≠ p ∧ 0 < xs.length ∧ xs.length ≤ 1000 ∧ ∀ v g' m' c', v ∈ xs → Q v (upd H p (.lst [.int g', .int m', .int c']))
theorem scOneOfL : FnScope ["_law_bag_here", "_law_items"] ["_law_bag_here", "_law_items"] (defScope sOneOfL) :=
  ⟨rfl, rfl, rfl, by decide +kernel, rfl, by decide +kernel, by decide +kernel⟩
theorem dOneOfL (T : Tx K mg) (DGrabL : Def P w K mg base CX0 1 "_law_grab" ["_law_bag_here", "_law_total"] spGrab) : Def P w K mg base CX0 2 "_law_one_of" ["_law_bag_here", "_law_items"] (spOneOf K) := by
  refine T.t_law_one_of.def_ (N := ["_law_bag_here", "_law_items"]) scOneOfL (fun _ _ _ _ _ _ us hl => match us, hl with | [_, _], _ => rfl) ?_ ?_
  · intro vs H Q E h
    obtain ⟨p, l, g, m, c, xs, rfl, _⟩ := h
    rfl
  · intro f cd A out s H vs Q E hr h
    have hr1 : Rm 1 _ := hr.le (by decide)
    obtain ⟨p, l, g, m, c, xs, rfl, hp, hS, ne, h0, h1, q⟩ := h
    refine ⟨_, (pss_one (ps_ret (pe_ix ix_list (pv 1) (pe_d DGrabL (hr1.le (by decide)) pass0 (pa_cons (pv 0) (pa_cons (pe_callB call_len_seq rfl T.f_len (by decide +kernel) (pa_cons (pv 1) pa_nil)) pa_nil))) (fun _ _ => rfl)))), ?_⟩
    walk_at "st"
    refine ⟨p, _, g, m, c, rfl, hp, div_small h0 (by omega), fun r g' m' c' r0 r1 => ?_⟩
    obtain ⟨v, hv, e⟩ := at_in r0 r1
    exact ⟨_, _, _, v, rfl, rfl, sql_upd hS ne, e, q v g' m' c' hv⟩
end
end K87


set_option Elab.async false
set_option linter.all false
set_option maxRecDepth 100000
set_option maxHeartbeats 2000000
namespace K87
open PySem PySem.Spec PyProof.Rows L2 MM
/-! own words for the readings: a step, its side -/
local macro_rules | `(tactic| walk_at "side") => `(tactic| first
  | omega
  | exact ⟨by omega, by omega⟩
  | exact Or.inl ⟨by omega, by omega⟩
  | exact Or.inr ⟨by omega, by omega⟩
  | (show CPw _ _; decide +kernel)
  | (show (0 : Int) < _; decide +kernel)
  | (show CDivW _ _; first | assumption | exact ⟨by decide, by decide +kernel⟩))
local macro_rules | `(tactic| walk_at "here") => `(tactic| first
  | assumption
  | exact upd_same
  | exact Or.inl (Or.inl upd_same)
  | exact Or.inl upd_same)
local macro_rules | `(tactic| walk_at "one") => `(tactic| first
  | refine ⟨_, rfl, ?_⟩
  | refine Or.inl ⟨_, rfl, ?_⟩
  | refine Or.inr ⟨_, rfl, ?_⟩
  | refine ⟨_, _, rfl, rfl, (by walk_at "side"), ?_⟩
  | refine ⟨_, _, rfl, rfl, ?_⟩
  | refine ⟨_, _, rfl, Or.inl (by walk_at "here"), ?_⟩
  | refine ⟨_, _, rfl, Or.inr (by walk_at "here"), ?_⟩
  | refine ⟨_, _, rfl, (by walk_at "here"), ?_⟩
  | refine ⟨_, _, _, _, rfl, rfl, (by walk_at "here"), rfl, ?_⟩
  | refine ⟨_, _, rfl, ?_⟩
  | refine ifT (by rfl) ?_
  | refine ifF (by rfl) ?_
  | refine ifT (decide_eq_true (by omega)) ?_
  | refine ifF (decide_eq_false (by omega)) ?_)
local macro_rules | `(tactic| walk_at "st") => `(tactic| repeat (walk_at "one"))

section
variable {P : Program} {w : World} {K : PySem.W.Frag} {mg : Str → Option Value} {base : Heap}
def spIsWhole (K : PySem.W.Frag) : Sp := fun vs H Q _ => ∃ x n, vs = [x] ∧ Kd K H x n ∧ Q (.bl (isW x)) H
theorem scIsWhole : FnScope ["value"] ["value"] (defScope sIsWhole) :=
  ⟨rfl, rfl, rfl, by decide +kernel, rfl, by decide +kernel, by decide +kernel⟩
theorem dIsWhole (T : Tx K mg) : Def P w K mg base CX0 1 "is_whole" ["value"] (spIsWhole K) := by
  refine T.t_is_whole.def_ (N := ["value"]) scIsWhole (fun _ _ _ _ _ _ us hl => match us, hl with | [_], _ => rfl) ?_ ?_
  · intro vs H Q E h
    obtain ⟨x, n, rfl, _⟩ := h
    rfl
  · intro f cd A out s H vs Q E hr h
    obtain ⟨x, n, rfl, hk, q⟩ := h
    refine ⟨_, (pss_one (ps_ret (pe_and (pe_callB (cr_is .int) rfl T.f_isinstance (by decide +kernel) (pa_cons (pv 0) (pa_cons (pe_ty .int T.f_int (by decide +kernel)) pa_nil))) (pe_one (pe_not (pe_callB (cr_is .bl) rfl T.f_isinstance (by decide +kernel) (pa_cons (pv 0) (pa_cons (pe_ty .bl T.f_bool (by decide +kernel)) pa_nil)))))))), ?_⟩
    refine ⟨_, rfl, _, _, rfl, hk, _, rfl, ?_⟩
    cases hk
    all_goals walk_at "st"
    all_goals first
      | exact q
      | (refine ⟨_, _, rfl, .int _, ?_⟩; walk_at "st"; exact q)
      | (refine ⟨_, _, rfl, .bl _, ?_⟩; walk_at "st"; exact q)
def isI : V → Bool
  | .int i => decide (-10 ^ 60 < i) && decide (i < 10 ^ 60)
  | _ => false
def spIsInteger (K : PySem.W.Frag) : Sp := fun vs H Q _ => ∃ x n, vs = [x] ∧ Kd K H x n ∧ Q (.bl (isI x)) H
theorem scIsInteger : FnScope ["value"] ["value"] (defScope sIsInteger) :=
  ⟨rfl, rfl, rfl, by decide +kernel, rfl, by decide +kernel, by decide +kernel⟩
theorem dIsInteger (T : Tx K mg) (DIsWhole : Def P w K mg base CX0 1 "is_whole" ["value"] (spIsWhole K)) : Def P w K mg base CX0 2 "is_integer" ["value"] (spIsInteger K) := by
  refine T.t_is_integer.def_ (N := ["value"]) scIsInteger (fun _ _ _ _ _ _ us hl => match us, hl with | [_], _ => rfl) ?_ ?_
  · intro vs H Q E h
    obtain ⟨x, n, rfl, _⟩ := h
    rfl
  · intro f cd A out s H vs Q E hr h
    have hr1 : Rm 1 _ := hr.le (by decide)
    obtain ⟨x, n, rfl, hk, q⟩ := h
    refine ⟨_, (pss_one (ps_ret (pe_and (pe_d DIsWhole (hr1.le (by decide)) pass0 (pa_cons (pv 0) pa_nil)) (pe_one (pe_chain op_lt op_lt (pe_un un_neg (C8.pe_gc rfl T.c_TOO_LONG)) (pv 0) (C8.pe_gc rfl T.c_TOO_LONG)))))), ?_⟩
    refine ⟨_, rfl, _, n, rfl, hk, _, rfl, ?_⟩
    cases hk
    all_goals walk_at "st"
    all_goals first
      | exact q
      | skip
    rename_i i
    refine ite2 (fun c => ?_) (fun c => ?_)
    · walk_at "st"
      have q' : Q (.bl (decide (-10 ^ 60 < i) && decide (i < 10 ^ 60))) H := q
      rw [show decide (-10 ^ 60 < i) = true from c, Bool.true_and] at q'
      exact q'
    · have q' : Q (.bl (decide (-10 ^ 60 < i) && decide (i < 10 ^ 60))) H := q
      rw [show decide (-10 ^ 60 < i) = false from Bool.eq_false_iff.mpr c, Bool.false_and] at q'
      exact q'
def isB (x : V) (l m : Int) : Bool := match x with
  | .int i => decide (l ≤ i) && decide (i ≤ m)
  | _ => false
def spIsBetween (K : PySem.W.Frag) : Sp := fun vs H Q _ => ∃ x n l m, vs = [x, .int l, .int m] ∧ Kd K H x n ∧ Q (.bl (isB x l m)) H
theorem scIsBetween : FnScope ["value", "least", "most"] ["value", "least", "most"] (defScope sIsBetween) :=
  ⟨rfl, rfl, rfl, by decide +kernel, rfl, by decide +kernel, by decide +kernel⟩
theorem dIsBetween (T : Tx K mg) (DIsWhole : Def P w K mg base CX0 1 "is_whole" ["value"] (spIsWhole K)) : Def P w K mg base CX0 2 "is_between" ["value", "least", "most"] (spIsBetween K) := by
  refine T.t_is_between.def_ (N := ["value", "least", "most"]) scIsBetween (fun _ _ _ _ _ _ us hl => match us, hl with | [_, _, _], _ => rfl) ?_ ?_
  · intro vs H Q E h
    obtain ⟨x, n, l, m, rfl, _⟩ := h
    rfl
  · intro f cd A out s H vs Q E hr h
    have hr1 : Rm 1 _ := hr.le (by decide)
    obtain ⟨x, n, l, m, rfl, hk, q⟩ := h
    refine ⟨_, (pss_one (ps_ret (pe_and (pe_d DIsWhole (hr1.le (by decide)) pass0 (pa_cons (pv 0) pa_nil)) (pe_one (pe_chain op_le op_le (pv 1) (pv 0) (pv 2)))))), ?_⟩
    refine ⟨_, rfl, _, n, rfl, hk, _, rfl, ?_⟩
    cases hk
    all_goals walk_at "st"
    all_goals first
      | exact q
      | skip
    rename_i i
    refine ite2 (fun c => ?_) (fun c => ?_)
    · walk_at "st"
      have q' : Q (.bl (decide (l ≤ i) && decide (i ≤ m))) H := q
      rw [show decide (l ≤ i) = true from c, Bool.true_and] at q'
      exact q'
    · have q' : Q (.bl (decide (l ≤ i) && decide (i ≤ m))) H := q
      rw [show decide (l ≤ i) = false from Bool.eq_false_iff.mpr c, Bool.false_and] at q'
      exact q'
def spNeedBetween (K : PySem.W.Frag) : Sp := fun vs H Q _ => ∃ i l m : Int, vs = [.int i, .int l, .int m] ∧ l ≤ i ∧ i ≤ m ∧ Q .non H
theorem scNeedBetween : FnScope ["value", "least", "most"] ["value", "least", "most"] (defScope sNeedBetween) :=
  ⟨rfl, rfl, rfl, by decide +kernel, rfl, by decide +kernel, by decide +kernel⟩
theorem dNeedBetween (T : Tx K mg) (DIsBetween : Def P w K mg base CX0 2 "is_between" ["value", "least", "most"] (spIsBetween K)) : Def P w K mg base CX0 3 "need_between" ["value", "least", "most"] (spNeedBetween K) := by
  refine T.t_need_between.def_ (N := ["value", "least", "most"]) scNeedBetween (fun _ _ _ _ _ _ us hl => match us, hl with | [_, _, _], _ => rfl) ?_ ?_
  · intro vs H Q E h
    obtain ⟨i, l, m, rfl, _⟩ := h
    rfl
  · intro f cd A out s H vs Q E hr h
    have hr1 : Rm 2 _ := hr.le (by decide)
    obtain ⟨i, l, m, rfl, h1, h2, q⟩ := h
    refine ⟨_, (pss_one (ps_if (pt_not (pt_val (pe_d DIsBetween (hr1.le (by decide)) pass0 (pa_cons (pv 0) (pa_cons (pv 1) (pa_cons (pv 2) pa_nil)))))) (pss_one ps_never) pss_nil)), ?_⟩
    refine ⟨_, rfl, _, rfl, _, rfl, _, .int, l, m, rfl, .int i, _, rfl, ?_⟩
    refine ifF ?_ q
    show (!(decide (l ≤ i) && decide (i ≤ m))) = false
    rw [decide_eq_true h1, decide_eq_true h2] <;> rfl
def noDiv (i : Int) : Bool := ((List.range (i - 2).toNat).map fun (k : Nat) => !decide (i % (2 + (k : Int)) = 0)).all id
def isP : V → Bool
  | .int i => decide (2 ≤ i) && decide (i ≤ 99) && noDiv i
  | _ => false
def spIsPrime (K : PySem.W.Frag) : Sp := fun vs H Q _ => ∃ x n, vs = [x] ∧ Kd K H x n ∧ ∀ H', Same H H' → Q (.bl (isP x)) H'
def spNeedPrime (K : PySem.W.Frag) : Sp := fun vs H Q _ => ∃ i, vs = [.int i] ∧ isP (.int i) = true ∧ ∀ H', Same H H' → Q .non H'
/-- a value, and its members if it is a tuple -/
inductive Rv (K : PySem.W.Frag) (H : Hp) : V → Option (List V) → Prop where
  | no {x : V} {n : Kn} (h : Kd K H x n) (ne : n.isa .tup = false) : Rv K H x none
  | yes {a : Addr} {xs : List V} (h : SqT K H a xs) (m : ∀ y, y ∈ xs → ∃ n, Kd K H y n) : Rv K H (.ref a) (some xs)
def rat2 : V → V → Bool
  | .int i, .int j => isI (.int i) && (isI (.int j) && (decide (0 < j) && decide (Nat.gcd i.natAbs j.natAbs = 1)))
  | _, _ => false
def isRat : Option (List V) → Bool
  | some [x, y] => rat2 x y
  | _ => false
def spIsRatio (K : PySem.W.Frag) : Sp := fun vs H Q _ => ∃ x o, vs = [x] ∧ Rv K H x o ∧ Q (.bl (isRat o)) H
end
end K87


set_option Elab.async false
set_option linter.all false
set_option maxRecDepth 100000
set_option maxHeartbeats 2000000
namespace K87
open PySem PySem.Spec PyProof.Rows L2 MM
/-! the classes of errors -/
/-- an own class under ValueError, without __init__ -/
structure Plain (K : PySem.W.Frag) (mg : Str → Option Value) (x : Str) : Prop where
  glo : mg x = some (.ref (ga K x))
  keep : PySem.W.keepIn K (.ref (ga K x)) = true
  row : PySem.W.excIn K (ga K x) veTop "ValueError.__new__" = true
  isE : PySem.W.subIn K (.ref (ga K x)) (.type "BaseException") = some true
  meta_ : PySem.W.typeIn K (.ref (ga K x)) = some (.type "type")
theorem plain_ok {K : PySem.W.Frag} {mg : Str → Option Value} {x : Str} (g : mg x = some (.ref (ga K x))) (h : plainB K x = true) : Plain K mg x := by
  unfold plainB at h
  simp only [Bool.and_eq_true, decide_eq_true_eq] at h
  obtain ⟨⟨⟨a, b⟩, c⟩, d⟩ := h
  exact ⟨g, a, b, c, d⟩
/-- an own class with an __init__ that keeps one field -/
structure Kep (K : PySem.W.Frag) (mg : Str → Option Value) (x f : Str) (B newId initId : String) (top : List Value) (st : Stmt) : Prop where
  glo : mg x = some (.ref (ga K x))
  over : MD.Ov K (ga K x) B newId initId top
  none_ : PySem.W.findIn K (.ref (ga K x)) f = some none
  field : XfC K (ga K x)
  ini : ∃ fI fd, PySem.W.findIn K (.ref (ga K x)) "__init__" = some (some (.ref fI)) ∧ PySem.W.typeIn K (.ref fI) = some (.type "function") ∧
    FunD K "__init__" (x ++ ".__init__") (defArgs st) (defBody st) (defScope st) [] [] fI fd
structure Ex (K : PySem.W.Frag) (mg : Str → Option Value) : Prop where
  mv : Plain K mg "InvalidMove"
  gr : Plain K mg "InvalidGroup"
  rw : Plain K mg "InvalidRow"
  ks : Plain K mg "InvalidKinds"
  ask : MD.Asks K (ga K "MarkError") "ValueError.__init__"
  mark : mg "MarkError" = some (.ref (ga K "MarkError"))
  ie : mg "IndexError" = none
  par : Kep K mg "ParseError" "index" "ValueError" "ValueError.__new__" "ValueError.__init__" veTop sIniP
  num : Kep K mg "InvalidNumber" "given" "IndexError" "IndexError.__new__" "IndexError.__init__" ieTop sIniN
  exm : ∀ i, i < 6 → ∀ j, j ≤ i → PySem.W.exmOne K (.ref (ga K (cn i))) (.ref (ga K (cn j))) = some (decide (i = j))
  grp : mg "Group" = some (.ref (ga K "Group"))
  ns : PySem.W.subIn K (.ref (ga K "InvalidGroup")) (.type "StopIteration") = some false
  kit : ∀ n : Kn, PySem.W.kitOne K (.type n.name) (.ref (ga K "Group")) = some false
theorem scIP : FnScope ["self", "index"] ["self", "index"] (defScope sIniP) :=
  ⟨rfl, rfl, rfl, by decide +kernel, rfl, by decide +kernel, by decide +kernel⟩
theorem scIN : FnScope ["self", "given"] ["self", "given"] (defScope sIniN) :=
  ⟨rfl, rfl, rfl, by decide +kernel, rfl, by decide +kernel, by decide +kernel⟩
theorem vIE (K : PySem.W.Frag) : PySem.W.findCls K (.type "IndexError") (.type "type") "__init__" = some (.val (.builtin "IndexError.__init__")) := by kernel_rfl
theorem bIE : bootBuiltins "IndexError" = some (.type "IndexError") := by decide +kernel
theorem tIE : typeOf (.type "IndexError") = pure (.type "type") := by kernel_rfl
section
variable {P : Program} {w : World} {K : PySem.W.Frag} {mg : Str → Option Value} {base : Heap}
theorem iniP (Y : Ex K mg) {fI : Addr} {fd : FuncData}
    (F : FunD K "__init__" ("ParseError" ++ ".__init__") (defArgs sIniP) (defBody sIniP) (defScope sIniP) [] [] fI fd) :
    FnG P w K mg base CX0 1 fI fd ["self", "index"] (MD.spKeep (ga K "ParseError") "index") := by
  refine FnG.body (N := ["self", "index"]) F scIP ?_ ?_
  · intro vs H Q E h
    obtain ⟨a, y, rfl, _⟩ := h
    rfl
  · intro cd A out s H vs Q E hr h
    obtain ⟨a, y, rfl, ea, q⟩ := h
    refine ⟨_, pss_cons (ps_expr (MD.pe_askC (B := "ValueError") (top := veTop) (initId := "ValueError.__init__") (newId := "ValueError.__new__") Y.ask rfl Y.mark (by decide +kernel) (pa_cons (pv 0) (pa_cons pe_str pa_nil)))) (pss_one (MD.ps_put (B := "ValueError") (newId := "ValueError.__new__") (initId := "ValueError.__init__") (top := veTop) (pv 0) (pv 1))), ?_⟩
    refine ⟨_, rfl, a, _, _, rfl, by decide, Y.par.over, ea, ?_⟩
    refine ⟨_, rfl, _, rfl, a, _, rfl, Y.par.over, Y.par.none_, ea, fun dx n ne => ?_⟩
    exact q dx n ne
theorem iniN (Y : Ex K mg) {fI : Addr} {fd : FuncData}
    (F : FunD K "__init__" ("InvalidNumber" ++ ".__init__") (defArgs sIniN) (defBody sIniN) (defScope sIniN) [] [] fI fd) :
    FnG P w K mg base CX0 1 fI fd ["self", "given"] (MD.spKeep (ga K "InvalidNumber") "given") := by
  refine FnG.body (N := ["self", "given"]) F scIN ?_ ?_
  · intro vs H Q E h
    obtain ⟨a, y, rfl, _⟩ := h
    rfl
  · intro cd A out s H vs Q E hr h
    obtain ⟨a, y, rfl, ea, q⟩ := h
    refine ⟨_, pss_cons (ps_expr (MD.pe_ask (top := ieTop) (initId := "IndexError.__init__") (newId := "IndexError.__new__") rfl Y.ie bIE tIE (by decide +kernel) (vIE K) (by decide +kernel) (pa_cons (pv 0) (pa_cons pe_str pa_nil)))) (pss_one (MD.ps_put (B := "IndexError") (newId := "IndexError.__new__") (initId := "IndexError.__init__") (top := ieTop) (pv 0) (pv 1))), ?_⟩
    refine ⟨_, rfl, a, _, _, rfl, by decide, Y.num.over, ea, ?_⟩
    refine ⟨_, rfl, _, rfl, a, _, rfl, Y.num.over, Y.num.none_, ea, fun dx n ne => ?_⟩
    exact q dx n ne
end
section
variable {X : Cx} {W : WX} {x m : Str} {j : Nat} {p p1 p2 pos : Pos} {e : Expr} {es : List Expr} {ta : TA}
/-- raise X('..') -/
theorem ps_plain (Y : Plain X.K X.mg x) (hc : X.calm = true) (tk : Takes X W) (hg : Gl X x := by rfl)
    (hdb : (x == ("__debug__" : Str)) = false := by decide) :
    PS X (.Raise (some (.Call (.Name x p) [.Constant (.str m) j p2] [] p1)) none pos) (fun _ σ H => W (.ref (ga X.K x)) none σ H) :=
  ps_raise hc tk (pmk_own PySem.F.excBase_ValueError Y.row Y.glo Y.keep (raises_own Y.isE Y.meta_) hg hdb)
/-- raise ParseError(e) -/
theorem ps_parse (Y : Ex X.K X.mg) (hc : X.calm = true) (tk : Takes X W) (hr : Rm 2 X.A)
    (ha : PA X (e :: es) ta) (hg : Gl X "ParseError" := by rfl)
    (he : starEach (e :: es) X.env = (false, eval e X.env) :: starEach es X.env := by rfl)
    (hpl : (backTo p1 (starEach es X.env)).any (·.1) = false := by rfl) :
    PS X (.Raise (some (.Call (.Name "ParseError" p) (e :: es) [] p1)) none pos) (fun _ σ H => ta σ H fun vs H1 => ∃ y, vs = [y] ∧
      ∀ d, H1 d = none → W (.ref (ga X.K "ParseError")) (some d) σ (upd H1 d (.xd [("index", y)]))) := by
  obtain ⟨fI, fd, iC, tI, F⟩ := Y.par.ini
  exact ps_raise hc tk (MD.pmk_made Y.par.over iC tI (iniP (P := X.prog) (w := X.w) (base := X.base) Y F) hr
    (F.bindsN (fun _ _ _ _ _ _ us hl => match us, hl with | [_, _], _ => rfl)) pass0 Y.par.glo ha hg (by decide) he hpl)
/-- raise InvalidNumber(e) -/
theorem ps_num (Y : Ex X.K X.mg) (hc : X.calm = true) (tk : Takes X W) (hr : Rm 2 X.A)
    (ha : PA X (e :: es) ta) (hg : Gl X "InvalidNumber" := by rfl)
    (he : starEach (e :: es) X.env = (false, eval e X.env) :: starEach es X.env := by rfl)
    (hpl : (backTo p1 (starEach es X.env)).any (·.1) = false := by rfl) :
    PS X (.Raise (some (.Call (.Name "InvalidNumber" p) (e :: es) [] p1)) none pos) (fun _ σ H => ta σ H fun vs H1 => ∃ y, vs = [y] ∧
      ∀ d, H1 d = none → W (.ref (ga X.K "InvalidNumber")) (some d) σ (upd H1 d (.xd [("given", y)]))) := by
  obtain ⟨fI, fd, iC, tI, F⟩ := Y.num.ini
  exact ps_raise hc tk (MD.pmk_made Y.num.over iC tI (iniN (P := X.prog) (w := X.w) (base := X.base) Y F) hr
    (F.bindsN (fun _ _ _ _ _ _ us hl => match us, hl with | [_, _], _ => rfl)) pass0 Y.num.glo ha hg (by decide) he hpl)
end
section
variable {P : Program} {w : World} {K : PySem.W.Frag} {mg : Str → Option Value} {base : Heap} {CX : CXT} {j k l : Nat} {x : Str} {ps : List Str}
end
abbrev orS (a b : Sp) : Sp := fun vs H Q E => a vs H Q E ∨ b vs H Q E
theorem def_or {P : Program} {w : World} {K : PySem.W.Frag} {mg : Str → Option Value} {base : Heap} {CX : CXT} {j k l : Nat} {x : Str} {ps : List Str}
    {a b : Sp} (D : Def P w K mg base CX0 j x ps a) (B : Def P w K mg base CX k x ps b) (hj : j ≤ l) (hk : k ≤ l) :
    Def P w K mg base CX l x ps (orS a b) := by
  obtain ⟨f, fd, F, hm, kp, bd, oc, od, sl, lk⟩ := D
  obtain ⟨f', fd', F', hm', kp', bd', oc', od', sl', lk'⟩ := B
  obtain rfl : f = f' := by
    rw [hm] at hm'
    cases hm'
    rfl
  obtain rfl : fd = fd' := by
    rw [lk] at lk'
    cases lk'
    rfl
  refine ⟨f, fd, ⟨?_, ?_⟩, hm, kp, bd, oc, od, sl, lk⟩
  · rintro vs H Q E (h | h)
    · exact F.arity h
    · exact F'.arity h
  · rintro A out s H ar us vs Q E hr e0 hb hv (h | h)
    · refine codeAny_mono (F.runs (hr.le hj) e0 hb hv h) fun r s' q => ?_
      cases r with
      | error e => exact (show False from q).elim
      | ok fl => cases fl <;> exact q
    · exact F'.runs (hr.le hk) e0 hb hv h
end K87

set_option Elab.async false
set_option linter.all false
set_option maxRecDepth 100000
set_option maxHeartbeats 2000000
namespace K87
open PySem PySem.Spec PyProof.Rows L2 MM PySem.NumText
/-! own words for the readings: a step, its side -/
local macro_rules | `(tactic| walk_at "side") => `(tactic| first
  | omega
  | exact ⟨by omega, by omega⟩
  | exact Or.inl ⟨by omega, by omega⟩
  | exact Or.inr ⟨by omega, by omega⟩
  | (show CPw _ _; decide +kernel)
  | (show (0 : Int) < _; decide +kernel)
  | (show CDivW _ _; first | assumption | exact ⟨by decide, by decide +kernel⟩))
local macro_rules | `(tactic| walk_at "here") => `(tactic| first
  | assumption
  | exact upd_same
  | exact Or.inl (Or.inl upd_same)
  | exact Or.inl upd_same)
local macro_rules | `(tactic| walk_at "one") => `(tactic| first
  | refine ⟨_, rfl, ?_⟩
  | refine Or.inl ⟨_, rfl, ?_⟩
  | refine Or.inr ⟨_, rfl, ?_⟩
  | refine ⟨_, _, rfl, rfl, (by walk_at "side"), ?_⟩
  | refine ⟨_, _, rfl, rfl, ?_⟩
  | refine ⟨_, _, rfl, Or.inl (by walk_at "here"), ?_⟩
  | refine ⟨_, _, rfl, Or.inr (by walk_at "here"), ?_⟩
  | refine ⟨_, _, rfl, (by walk_at "here"), ?_⟩
  | refine ⟨_, _, _, _, rfl, rfl, (by walk_at "here"), rfl, ?_⟩
  | refine ⟨_, _, rfl, ?_⟩
  | refine ifT (by rfl) ?_
  | refine ifF (by rfl) ?_
  | refine ifT (decide_eq_true (by omega)) ?_
  | refine ifF (decide_eq_false (by omega)) ?_)
local macro_rules | `(tactic| walk_at "st") => `(tactic| repeat (walk_at "one"))

section
variable {P : Program} {w : World} {K : PySem.W.Frag} {mg : Str → Option Value} {base : Heap}
/-! texts, by their signs -/
abbrev cds (z : Str) : List Nat := z.cps.toList
def isAt (cs : List Nat) (i c : Nat) : Bool := decide (cs[i]? = some c)
def dg (cs : List Nat) (i : Nat) : Bool := match cs[i]? with
  | some c => decide (48 ≤ c) && decide (c ≤ 57)
  | none => false
theorem cut_list (cs : List Nat) (i j : Nat) : (cs.drop (min i cs.length)).take (min j cs.length - min i cs.length) = (cs.drop i).take (j - i) := by
  by_cases h : i ≤ cs.length
  · rw [Nat.min_eq_left h]
    by_cases h2 : j ≤ cs.length
    · rw [Nat.min_eq_left h2]
    · rw [Nat.min_eq_right (by omega), List.take_of_length_le (by rw [List.length_drop]; omega), List.take_of_length_le (by rw [List.length_drop]; omega)]
  · rw [Nat.min_eq_right (by omega : cs.length ≤ i), List.drop_of_length_le (Nat.le_refl _), List.drop_of_length_le (by omega : cs.length ≤ i)]
    simp
theorem cut_nat (z : Str) (i j : Nat) : cutS z (some (i : Int)) (some (j : Int)) = ⟨(((cds z).drop i).take (j - i)).toArray⟩ := by
  unfold cutS
  rw [HT.sIx_nat, HT.sIx_nat, show z.length = (cds z).length from (Array.length_toList).symm, cut_list]
theorem cut_one (z : Str) (i c : Nat) : decide (V.str (cutS z (some (i : Int)) (some ((i : Int) + 1))) = V.str ⟨#[c]⟩) = isAt (cds z) i c := by
  rw [show (i : Int) + 1 = ((i + 1 : Nat) : Int) by omega, cut_nat, show i + 1 - i = 1 by omega]
  unfold isAt
  refine decide_eq_decide.mpr ?_
  generalize cds z = cs
  constructor
  · intro h
    injection h with h
    injection h with h
    have h2 : ((cs.drop i).take 1) = [c] := by
      have := congrArg Array.toList h
      simpa using this
    cases e : cs.drop i with
    | nil =>
      rw [e] at h2
      cases h2
    | cons x r =>
      rw [e] at h2
      have hx : x = c := by simpa using h2
      have := List.getElem?_drop (xs := cs) (i := i) (j := 0)
      rw [e] at this
      rw [Nat.add_zero] at this
      rw [← this, ← hx]
      rfl
  · intro h
    have e : cs.drop i = c :: cs.drop (i + 1) := by
      obtain ⟨lt, e⟩ := List.getElem?_eq_some_iff.mp h
      rw [← e]
      exact List.drop_eq_getElem_cons lt
    rw [e]
    rfl
def spIsAt : Sp := fun vs H Q _ => ∃ (z : Str) (i c : Nat), vs = [.str z, .int (i : Int), .str ⟨#[c]⟩] ∧ z.length ≤ 4000 ∧ Q (.bl (isAt (cds z) i c)) H
theorem line4000 {n : Nat} (h : n ≤ 4000) : n ≤ sizeLine := Nat.le_trans h (by decide)
theorem scIsAt : FnScope ["text", "at", "sign"] ["text", "at", "sign"] (defScope sIsAt) :=
  ⟨rfl, rfl, rfl, by decide +kernel, rfl, by decide +kernel, by decide +kernel⟩
theorem dIsAt (T : Tx K mg) : Def P w K mg base CX0 1 "_is_at" ["text", "at", "sign"] spIsAt := by
  refine T.t_is_at.def_ (N := ["text", "at", "sign"]) scIsAt (fun _ _ _ _ _ _ us hl => match us, hl with | [_, _, _], _ => rfl) ?_ ?_
  · intro vs H Q E h
    obtain ⟨z, i, c, rfl, _⟩ := h
    rfl
  · intro f cd A out s H vs Q E hr h
    obtain ⟨z, i, c, rfl, hz, q⟩ := h
    refine ⟨_, (pss_one (ps_ret (pe_cmpR op_eq (pe_slice sl_str (pv 0) (po_some (pv 1)) (po_some (pe_op op_add (pv 1) pe_int))) (pv 2) (nomark _)))), ?_⟩
    rw [← cut_one] at q
    exact ⟨_, rfl, _, rfl, _, rfl, _, rfl, _, _, rfl, rfl, _, rfl, z, rfl, line4000 hz, _, rfl, rfl, q⟩
theorem dig_in (c : Nat) : decide (c ∈ ("0123456789" : Str).cps.toList) = (decide (48 ≤ c) && decide (c ≤ 57)) := by
  rw [show ("0123456789" : Str).cps.toList = [48, 49, 50, 51, 52, 53, 54, 55, 56, 57] by decide +kernel, ← Bool.decide_and]
  refine decide_eq_decide.mpr ?_
  simp only [List.mem_cons, List.not_mem_nil, or_false]
  omega
def spDig : Sp := fun vs H Q _ => ∃ (z : Str) (i : Nat), vs = [.str z, .int (i : Int)] ∧ z.length ≤ 4000 ∧ Q (.bl (dg (cds z) i)) H
theorem scIsDigitAt : FnScope ["text", "at"] ["text", "at"] (defScope sIsDigitAt) :=
  ⟨rfl, rfl, rfl, by decide +kernel, rfl, by decide +kernel, by decide +kernel⟩
theorem dIsDigitAt (T : Tx K mg) : Def P w K mg base CX0 1 "_is_digit_at" ["text", "at"] spDig := by
  refine T.t_is_digit_at.def_ (N := ["text", "at"]) scIsDigitAt (fun _ _ _ _ _ _ us hl => match us, hl with | [_, _], _ => rfl) ?_ ?_
  · intro vs H Q E h
    obtain ⟨z, i, rfl, _⟩ := h
    rfl
  · intro f cd A out s H vs Q E hr h
    obtain ⟨z, i, rfl, hz, q⟩ := h
    refine ⟨_, (pss_one (ps_ret (pe_and (pe_cmpR op_lt (pv 1) (pe_callB call_len_str rfl T.f_len (by decide +kernel) (pa_cons (pv 0) pa_nil)) (nomark _)) (pe_one (pe_cmpR op_in_sign (pe_ix ix_str (pv 0) (pv 1) (fun _ _ => rfl)) (C8.pe_gc rfl T.c_DIGITS) rfl))))), ?_⟩
    refine ⟨_, rfl, _, rfl, z, rfl, line4000 hz, _, _, rfl, rfl, ?_⟩
    have hl : z.length = (cds z).length := (Array.length_toList).symm
    refine ⟨_, rfl, ?_⟩
    by_cases lt : i < (cds z).length
    · refine ifT (decide_eq_true (by rw [hl]; omega)) ?_
      refine ⟨_, rfl, _, rfl, z, i, (cds z)[i], rfl, rfl, line4000 hz, atI_nat (List.getElem?_eq_getElem lt), (cds z)[i], "0123456789", rfl, rfl, ?_⟩
      rw [dig_in]
      unfold dg at q
      rw [List.getElem?_eq_getElem lt] at q
      exact q
    · refine ifF (decide_eq_false (by rw [hl]; omega)) ?_
      unfold dg at q
      rw [List.getElem?_eq_none (by omega)] at q
      exact q
/-! numbers in a text -/
/-- how many digits stand from i on, at most k -/
def run (cs : List Nat) : Nat → Nat → Nat
  | _, 0 => 0
  | i, k + 1 => if dg cs i = true then run cs (i + 1) k + 1 else 0
def endP (cs : List Nat) (i : Nat) : Nat := i + 1 + run cs (i + 1) (if isAt cs i 48 = true then 0 else 59)
def valP (cs : List Nat) (i : Nat) : Nat := digitsVal ((cs.drop i).take (endP cs i - i))
def plainP (cs : List Nat) (i : Nat) : Option (Nat × Nat) := if dg cs i = true then some (valP cs i, endP cs i) else none
theorem run_zero (cs : List Nat) (i : Nat) : run cs i 0 = 0 := rfl
theorem run_succ (cs : List Nat) (i k : Nat) : run cs i (k + 1) = if dg cs i = true then run cs (i + 1) k + 1 else 0 := rfl
theorem dg_lt {cs : List Nat} {i : Nat} (h : dg cs i = true) : ∃ c, cs[i]? = some c ∧ 48 ≤ c ∧ c ≤ 57 := by
  unfold dg at h
  cases e : cs[i]? with
  | none => rw [e] at h; cases h
  | some c =>
    rw [e, Bool.and_eq_true] at h
    exact ⟨c, rfl, of_decide_eq_true h.1, of_decide_eq_true h.2⟩
theorem run_le (cs : List Nat) : ∀ k i, run cs i k ≤ k
  | 0, _ => Nat.le_refl _
  | k + 1, i => by
    unfold run
    split
    · exact Nat.succ_le_succ (run_le cs k (i + 1))
    · exact Nat.zero_le _
theorem run_dg (cs : List Nat) : ∀ k i j, j < run cs i k → dg cs (i + j) = true
  | 0, i, j, h => absurd h (Nat.not_lt_zero _)
  | k + 1, i, j, h => by
    unfold run at h
    split at h
    · rename_i c
      cases j with
      | zero => exact c
      | succ j =>
        have := run_dg cs k (i + 1) j (by omega)
        rw [show i + (j + 1) = i + 1 + j by omega]
        exact this
    · exact absurd h (Nat.not_lt_zero _)
theorem endP_le (cs : List Nat) (i : Nat) : i + 1 ≤ endP cs i ∧ endP cs i ≤ i + 60 := by
  unfold endP
  have := run_le cs (if isAt cs i 48 = true then 0 else 59) (i + 1)
  have h2 : (if isAt cs i 48 = true then 0 else 59) ≤ 59 := by split <;> omega
  omega
theorem endP_dg {cs : List Nat} {i : Nat} (h : dg cs i = true) : ∀ j, i ≤ j → j < endP cs i → dg cs j = true := by
  intro j h1 h2
  unfold endP at h2
  by_cases e : j = i
  · rw [e]; exact h
  · have := run_dg cs (if isAt cs i 48 = true then 0 else 59) (i + 1) (j - (i + 1)) (by omega)
    rw [show i + 1 + (j - (i + 1)) = j by omega] at this
    exact this
theorem all_dg {cs : List Nat} {i e : Nat} (h : ∀ j, i ≤ j → j < e → dg cs j = true) : AllDigits ((cs.drop i).take (e - i)) := by
  intro c hc
  obtain ⟨k, lt, rfl⟩ := List.getElem_of_mem hc
  rw [List.getElem_take, List.getElem_drop]
  have l2 : k < e - i := by
    rw [List.length_take] at lt
    omega
  obtain ⟨c, h1, h2⟩ := dg_lt (h (i + k) (by omega) (by omega))
  have e : cs[i + k]? = some (cs[i + k]'(by
    rw [List.length_take, List.length_drop] at lt
    omega)) := List.getElem?_eq_getElem _
  rw [e] at h1
  have h3 := Option.some.inj h1
  rw [h3]
  exact h2
theorem int_part {z : Str} {i e : Nat} (h : ∀ j, i ≤ j → j < e → dg (cds z) j = true) (l1 : i < e) (l2 : e ≤ i + 60) :
    intText? (cutS z (some (i : Int)) (some (e : Int))) = some ((digitsVal (((cds z).drop i).take (e - i)) : Nat) : Int) ∧ (cutS z (some (i : Int)) (some (e : Int))).length ≤ 640 := by
  rw [cut_nat]
  have len : (((cds z).drop i).take (e - i)).length ≤ 60 := by
    rw [List.length_take]
    omega
  have ne : ((cds z).drop i).take (e - i) ≠ [] := by
    obtain ⟨c, hc, _⟩ := dg_lt (h i (Nat.le_refl _) l1)
    obtain ⟨lt, _⟩ := List.getElem?_eq_some_iff.mp hc
    intro z0
    have := congrArg List.length z0
    rw [List.length_take, List.length_drop, List.length_nil] at this
    omega
  have e1 : (⟨(((cds z).drop i).take (e - i)).toArray⟩ : Str).cps.toList = ((cds z).drop i).take (e - i) := by simp
  have len2 : (⟨(((cds z).drop i).take (e - i)).toArray⟩ : Str).length ≤ 60 := by
    show (((cds z).drop i).take (e - i)).toArray.size ≤ 60
    rw [List.size_toArray]
    exact len
  refine ⟨?_, by omega⟩
  rw [intText_digits (by rw [e1]; exact all_dg h) (by rw [e1]; exact ne) (by omega), e1]
/-- what an error of a text tells -/
abbrev rPar (K : PySem.W.Frag) (H : Hp) (i : Nat) (E : XK) : Prop := ∀ H' d, Same H H' → H d = none → H' d = some (.xd [("index", .int (i : Int))]) → E (.ref (ga K "ParseError")) (some d) H'
theorem par_new {H H1 : Hp} {i : Nat} {E : XK} (q : rPar K H i E) (s : Same H H1) {d : Addr} (hd : H1 d = none) : E (.ref (ga K "ParseError")) (some d) (upd H1 d (.xd [("index", .int (i : Int))])) :=
  q _ d (s.trans (same_new hd)) (s.free hd) upd_same
/-- two values in a tuple -/
abbrev rTwo (x y : V) (H : Hp) (Q : VK) : Prop := ∀ H' r, Same H H' → H' r = some (.tup [x, y]) → Q (.ref r) H'
def spPlain (K : PySem.W.Frag) : Sp := fun vs H Q E => ∃ (z : Str) (i : Nat), vs = [.str z, .int (i : Int)] ∧ z.length ≤ 4000 ∧
  (dg (cds z) i = false → rPar K H i E) ∧ (dg (cds z) i = true → rTwo (.int (valP (cds z) i : Nat)) (.int (endP (cds z) i : Nat)) H Q)
theorem scReadPlain : FnScope ["text", "at", "most", "end"] ["text", "at"] (defScope sReadPlain) :=
  ⟨rfl, rfl, rfl, by decide +kernel, rfl, by decide +kernel, by decide +kernel⟩
theorem bReadPlain (T : Tx K mg) (Y : Ex K mg) (DIsDigitAt : Def P w K mg base CX0 1 "_is_digit_at" ["text", "at"] spDig) (DIsAt : Def P w K mg base CX0 1 "_is_at" ["text", "at", "sign"] spIsAt) : Def P w K mg base (L2.CX P w) 3 "_read_plain" ["text", "at"] (spPlain K) := by
  refine T.t_read_plain.defX (N := ["text", "at", "most", "end"]) scReadPlain (fun _ _ _ _ _ _ us hl => match us, hl with | [_, _], _ => rfl) ?_ ?_
  · intro vs H Q E h
    obtain ⟨z, i, rfl, _⟩ := h
    rfl
  · intro f cd A out s H vs Q E hr h
    have hr1 : Rm 1 _ := hr.le (by decide)
    have tk : Takes (cxOf (L2.CX P w) P w K mg base ["text", "at", "most", "end"] "_read_plain" (defScope sReadPlain) f cd A out s H E) (fun cls d _ H1 => E cls d H1) := takes_of rfl rfl rfl rfl
    obtain ⟨z, i, rfl, hz, q1, q2⟩ := h
    refine ⟨_, (pss_cons (ps_if (pt_not (pt_val (pe_d DIsDigitAt (hr1.le (by decide)) pass0 (pa_cons (pv 0) (pa_cons (pv 1) pa_nil))))) (pss_one (ps_parse Y rfl tk (hr.le (by decide)) (pa_cons (pv 1) pa_nil))) pss_nil)
      (pss_cons (ps_set (i := 2) scReadPlain.nd rfl (Or.inl rfl) (pe_ifExp (pt_val (pe_d DIsAt (hr1.le (by decide)) pass0 (pa_cons (pv 0) (pa_cons (pv 1) (pa_cons pe_str pa_nil))))) (pe_op op_add (pv 1) pe_int) (pe_op op_add (pv 1) (C8.pe_gc rfl T.c_MOST_DIGITS))))
      (pss_cons (ps_set (i := 3) scReadPlain.nd rfl (Or.inl rfl) (pe_op op_add (pv 1) pe_int))
      (pss_cons (ps_while (passes_of rfl) (PW.pt (pw_and (pt_cmpR op_lt (pv 3) (pv 2) (nomark _)) (pw_and1 (pt_val (pe_d DIsDigitAt (hr1.le (by decide)) pass0 (pa_cons (pv 0) (pa_cons (pv 3) pa_nil)))))))
        (pss_one (ps_aug (i := 3) scReadPlain.nd rfl (Or.inl rfl) pe_int ip_add)))
      (pss_one (ps_ret (pe_tup (pa_cons (pe_callTy call_int_str rfl T.f_int (by decide +kernel) (pa_cons (pe_slice sl_str (pv 0) (po_some (pv 1)) (po_some (pv 3))) pa_nil)) (pa_cons (pv 3) pa_nil))))))))), ?_⟩
    refine ⟨_, rfl, _, rfl, z, i, rfl, hz, ?_⟩
    cases hb : dg (cds z) i with
    | false =>
      refine ⟨_, rfl, ?_⟩
      refine ifT rfl ?_
      exact ⟨_, rfl, _, rfl, fun d hd => par_new (q1 hb) (Same.refl H) hd⟩
    | true =>
      refine ⟨_, rfl, ?_⟩
      refine ifF rfl ?_
      have hl : z.length = (cds z).length := (Array.length_toList).symm
      refine ⟨_, rfl, _, rfl, z, i, 48, rfl, hz, ?_⟩
      refine ⟨_, rfl, ?_⟩
      have q3 := q2 hb
      have hd := endP_dg hb
      have he := endP_le (cds z) i
      unfold valP at q3
      have ee : endP (cds z) i = i + 1 + run (cds z) (i + 1) (if isAt (cds z) i 48 = true then 0 else 59) := rfl
      generalize endP (cds z) i = e at q3 hd he ee
      cases h48 : isAt (cds z) i 48
      case' true =>
        refine ifT rfl ?_
        refine ⟨_, rfl, _, _, rfl, rfl, ?_⟩
        show gName 2 (V.int ((i : Int) + 1)) _ _ _
        obtain ⟨m, hm, em, m9⟩ : ∃ m : Nat, (i : Int) + 1 = ((i + 1 + m : Nat) : Int) ∧ (if isAt (cds z) i 48 = true then 0 else 59) = m ∧ m ≤ 59 := ⟨0, by omega, by rw [h48]; rfl, by omega⟩
        rw [hm]
      case' false =>
        refine ifF rfl ?_
        refine ⟨_, rfl, _, _, rfl, rfl, ?_⟩
        show gName 2 (V.int ((i : Int) + 60)) _ _ _
        obtain ⟨m, hm, em, m9⟩ : ∃ m : Nat, (i : Int) + 60 = ((i + 1 + m : Nat) : Int) ∧ (if isAt (cds z) i 48 = true then 0 else 59) = m ∧ m ≤ 59 := ⟨59, by omega, by rw [h48]; rfl, by omega⟩
        rw [hm]
      all_goals
        rw [em] at ee
        clear em hm h48
        refine ⟨_, rfl, _, _, rfl, rfl, ?_⟩
        refine while_by (fun σ H2 => ∃ k : Nat, σ = [some (.str z), some (.int (i : Int)), some (.int ((i + 1 + m : Nat) : Int)), some (.int ((i + 1 + k : Nat) : Int))] ∧ H2 = H ∧ k ≤ m ∧ k + run (cds z) (i + 1 + k) (m - k) = run (cds z) (i + 1) m)
          (fun σ _ => match σ with | [_, _, _, some (.int e)] => ((i + 1 + m : Nat) - e).toNat | _ => 0) ?_ ?_ ?_
        · exact ⟨0, rfl, rfl, Nat.zero_le _, by simp⟩
        · rintro σ H2 ⟨k, rfl, rfl, km, kr⟩
          refine ⟨_, rfl, _, rfl, _, _, rfl, rfl, _, rfl, ?_⟩
          by_cases lt : k < m
          · refine ifT (decide_eq_true (by omega)) ?_
            refine ⟨_, rfl, _, rfl, z, _, rfl, hz, ?_⟩
            refine ⟨_, rfl, ?_⟩
            obtain ⟨m', rfl⟩ : ∃ m', m = k + (m' + 1) := ⟨m - k - 1, by omega⟩
            rw [show k + (m' + 1) - k = m' + 1 by omega] at kr
            rw [run_succ (cds z) (i + 1 + k) m'] at kr
            cases hg : dg (cds z) (i + 1 + k) with
            | false =>
              refine ifF rfl ?_
              rw [hg, if_neg (by decide)] at kr
              have hk : i + 1 + k = e := by omega
              rw [hk]
              obtain ⟨it, il⟩ := int_part (z := z) hd (by omega) (by omega)
              refine ⟨_, rfl, _, rfl, _, rfl, _, rfl, _, rfl, z, rfl, line4000 hz, _, _, rfl, it, il, _, rfl, by show 2 ≤ sizeLine; decide, fun r hr => ?_⟩
              exact q3 _ r (same_new hr) upd_same
            | true =>
              refine ifT rfl ?_
              rw [hg, if_pos rfl] at kr
              refine ⟨_, rfl, _, _, rfl, rfl, ?_⟩
              refine ⟨⟨k + 1, ?_, rfl, by omega, ?_⟩, ?_⟩
              · show [some (V.str z), some (V.int (i : Int)), _, some (V.int (((i + 1 + k : Nat) : Int) + 1))] = _
                rw [show ((i + 1 + k : Nat) : Int) + 1 = ((i + 1 + (k + 1) : Nat) : Int) by omega]
              · rw [show k + (m' + 1) - (k + 1) = m' by omega, show i + 1 + (k + 1) = i + 1 + k + 1 by omega]
                omega
              · show ((i + 1 + (k + (m' + 1)) : Nat) - (((i + 1 + k : Nat) : Int) + 1)).toNat < ((i + 1 + (k + (m' + 1)) : Nat) - ((i + 1 + k : Nat) : Int)).toNat
                omega
          · refine ifF (decide_eq_false (by omega)) ?_
            have z0 : m - k = 0 := by omega
            rw [z0, run_zero] at kr
            have hk : i + 1 + k = e := by omega
            rw [hk]
            obtain ⟨it, il⟩ := int_part (z := z) hd (by omega) (by omega)
            refine ⟨_, rfl, _, rfl, _, rfl, _, rfl, _, rfl, z, rfl, line4000 hz, _, _, rfl, it, il, _, rfl, by show 2 ≤ sizeLine; decide, fun r hr => ?_⟩
            exact q3 _ r (same_new hr) upd_same
        · rintro σ H2 Q1 Q2 mono ⟨x1, h1, x2, h2, a, b, e1, e2, c, hc, h3⟩
          refine ⟨x1, h1, x2, h2, a, b, e1, e2, c, hc, ?_⟩
          cases c with
          | false => exact mono _ _ h3
          | true =>
            obtain ⟨y1, g1, y2, g2, z', i', ez, hz', c2, hc2, h4⟩ := h3
            exact ⟨y1, g1, y2, g2, z', i', ez, hz', c2, hc2, mono _ _ h4⟩
end
end K87


set_option Elab.async false
set_option linter.all false
set_option maxRecDepth 100000
set_option maxHeartbeats 2000000
namespace K87
open PySem PySem.Spec PyProof.Rows L2 MM PySem.NumText
/-! own words for the readings: a step, its side -/
local macro_rules | `(tactic| walk_at "side") => `(tactic| first
  | omega
  | exact ⟨by omega, by omega⟩
  | exact Or.inl ⟨by omega, by omega⟩
  | exact Or.inr ⟨by omega, by omega⟩
  | (show CPw _ _; decide +kernel)
  | (show (0 : Int) < _; decide +kernel)
  | (show CDivW _ _; first | assumption | exact ⟨by decide, by decide +kernel⟩))
local macro_rules | `(tactic| walk_at "here") => `(tactic| first
  | assumption
  | exact upd_same
  | exact Or.inl (Or.inl upd_same)
  | exact Or.inl upd_same)
local macro_rules | `(tactic| walk_at "one") => `(tactic| first
  | refine ⟨_, rfl, ?_⟩
  | refine Or.inl ⟨_, rfl, ?_⟩
  | refine Or.inr ⟨_, rfl, ?_⟩
  | refine ⟨_, _, rfl, rfl, (by walk_at "side"), ?_⟩
  | refine ⟨_, _, rfl, rfl, ?_⟩
  | refine ⟨_, _, rfl, Or.inl (by walk_at "here"), ?_⟩
  | refine ⟨_, _, rfl, Or.inr (by walk_at "here"), ?_⟩
  | refine ⟨_, _, rfl, (by walk_at "here"), ?_⟩
  | refine ⟨_, _, _, _, rfl, rfl, (by walk_at "here"), rfl, ?_⟩
  | refine ⟨_, _, rfl, ?_⟩
  | refine ifT (by rfl) ?_
  | refine ifF (by rfl) ?_
  | refine ifT (decide_eq_true (by omega)) ?_
  | refine ifF (decide_eq_false (by omega)) ?_)
local macro_rules | `(tactic| walk_at "st") => `(tactic| repeat (walk_at "one"))

section
variable {P : Program} {w : World} {K : PySem.W.Frag} {mg : Str → Option Value} {base : Heap}
/-- a text of at most 3000 signs -/
def okT : V → Bool
  | .str z => decide (z.length ≤ 3000)
  | _ => false
def spNeedText (K : PySem.W.Frag) : Sp := fun vs H Q E => ∃ x n, vs = [x] ∧ Kd K H x n ∧ (∀ z, x = .str z → z.length ≤ 4000) ∧ (okT x = false → rPar K H 0 E) ∧ (okT x = true → Q .non H)
theorem scNeedText : FnScope ["text"] ["text"] (defScope sNeedText) :=
  ⟨rfl, rfl, rfl, by decide +kernel, rfl, by decide +kernel, by decide +kernel⟩
theorem bNeedText (T : Tx K mg) (Y : Ex K mg) : Def P w K mg base (L2.CX P w) 3 "_need_text" ["text"] (spNeedText K) := by
  refine T.t_need_text.defX (N := ["text"]) scNeedText (fun _ _ _ _ _ _ us hl => match us, hl with | [_], _ => rfl) ?_ ?_
  · intro vs H Q E h
    obtain ⟨x, n, rfl, _⟩ := h
    rfl
  · intro f cd A out s H vs Q E hr h
    have tk : Takes (cxOf (L2.CX P w) P w K mg base ["text"] "_need_text" (defScope sNeedText) f cd A out s H E) (fun cls d _ H1 => E cls d H1) := takes_of rfl rfl rfl rfl
    obtain ⟨x, n, rfl, hk, hz, q1, q2⟩ := h
    refine ⟨_, (pss_one (ps_if (PW.pt (pw_or (pt_not (pt_val (pe_callB (cr_is .str) rfl T.f_isinstance (by decide +kernel) (pa_cons (pv 0) (pa_cons (pe_ty .str T.f_str (by decide +kernel)) pa_nil))))) (pw_or1 (pt_cmpR op_gt (pe_callB call_len_str rfl T.f_len (by decide +kernel) (pa_cons (pv 0) pa_nil)) (C8.pe_gc rfl T.c_MOST_SIGNS) (nomark _))))) (pss_one (ps_parse Y rfl tk (hr.le (by decide)) (pa_cons pe_int pa_nil))) pss_nil)), ?_⟩
    refine ⟨_, rfl, _, _, rfl, hk, _, rfl, ?_⟩
    by_cases st : n.isa .str = true
    · refine ifF (by rw [st]; rfl) ?_
      obtain ⟨z, rfl⟩ : ∃ z, x = .str z := by
        cases hk <;> first | exact ⟨_, rfl⟩ | cases st
      refine ⟨_, rfl, z, rfl, line4000 (hz z rfl), _, _, rfl, rfl, _, rfl, ?_⟩
      cases b : okT (.str z) with
      | true =>
        have le : z.length ≤ 3000 := of_decide_eq_true b
        exact ifF (decide_eq_false (by omega)) (q2 b)
      | false =>
        have le : ¬ z.length ≤ 3000 := of_decide_eq_false b
        refine ifT (decide_eq_true (by omega)) ?_
        exact ⟨_, rfl, fun d hd => par_new (i := 0) (q1 b) (Same.refl H) hd⟩
    · have sf : n.isa .str = false := by
        cases e : n.isa .str with
        | true => exact absurd e st
        | false => rfl
      refine ifT (by rw [sf]; rfl) ?_
      have b : okT x = false := by
        cases hk <;> first | rfl | exact absurd rfl st
      exact ifT rfl ⟨_, rfl, fun d hd => par_new (i := 0) (q1 b) (Same.refl H) hd⟩
def spBehind (K : PySem.W.Frag) : Sp := fun vs H Q E => ∃ (z : Str) (i c : Nat), vs = [.str z, .int (i : Int), .str ⟨#[c]⟩] ∧ z.length ≤ 4000 ∧ (isAt (cds z) i c = false → rPar K H i E) ∧ (isAt (cds z) i c = true → Q (.int ((i + 1 : Nat) : Int)) H)
theorem scBehind : FnScope ["text", "at", "sign"] ["text", "at", "sign"] (defScope sBehind) :=
  ⟨rfl, rfl, rfl, by decide +kernel, rfl, by decide +kernel, by decide +kernel⟩
theorem bBehind (T : Tx K mg) (Y : Ex K mg) (DIsAt : Def P w K mg base CX0 1 "_is_at" ["text", "at", "sign"] spIsAt) : Def P w K mg base (L2.CX P w) 3 "_behind" ["text", "at", "sign"] (spBehind K) := by
  refine T.t_behind.defX (N := ["text", "at", "sign"]) scBehind (fun _ _ _ _ _ _ us hl => match us, hl with | [_, _, _], _ => rfl) ?_ ?_
  · intro vs H Q E h
    obtain ⟨z, i, c, rfl, _⟩ := h
    rfl
  · intro f cd A out s H vs Q E hr h
    have hr1 : Rm 1 _ := hr.le (by decide)
    have tk : Takes (cxOf (L2.CX P w) P w K mg base ["text", "at", "sign"] "_behind" (defScope sBehind) f cd A out s H E) (fun cls d _ H1 => E cls d H1) := takes_of rfl rfl rfl rfl
    obtain ⟨z, i, c, rfl, hz, q1, q2⟩ := h
    refine ⟨_, (pss_cons (ps_if (pt_not (pt_val (pe_d DIsAt (hr1.le (by decide)) pass0 (pa_cons (pv 0) (pa_cons (pv 1) (pa_cons (pv 2) pa_nil)))))) (pss_one (ps_parse Y rfl tk (hr.le (by decide)) (pa_cons (pv 1) pa_nil))) pss_nil)
      (pss_one (ps_ret (pe_op op_add (pv 1) pe_int)))), ?_⟩
    refine ⟨_, rfl, _, rfl, _, rfl, z, i, c, rfl, hz, ?_⟩
    refine ⟨_, rfl, ?_⟩
    cases b : isAt (cds z) i c with
    | false =>
      refine ifT rfl ?_
      exact ⟨_, rfl, _, rfl, fun d hd => par_new (q1 b) (Same.refl H) hd⟩
    | true =>
      refine ifF rfl ?_
      exact ⟨_, rfl, _, _, rfl, rfl, q2 b⟩
def spLess (K : PySem.W.Frag) : Sp := fun vs H Q E => ∃ (z : Str) (i : Nat), vs = [.str z, .int (i : Int)] ∧ z.length ≤ 4000 ∧ (isAt (cds z) i 45 = false → rTwo (.bl false) (.int (i : Int)) H Q) ∧
  (isAt (cds z) i 45 = true → isAt (cds z) (i + 1) 48 = true → rPar K H (i + 1) E) ∧ (isAt (cds z) i 45 = true → isAt (cds z) (i + 1) 48 = false → rTwo (.bl true) (.int ((i + 1 : Nat) : Int)) H Q)
theorem scReadLess : FnScope ["text", "at"] ["text", "at"] (defScope sReadLess) :=
  ⟨rfl, rfl, rfl, by decide +kernel, rfl, by decide +kernel, by decide +kernel⟩
theorem bReadLess (T : Tx K mg) (Y : Ex K mg) (DIsAt : Def P w K mg base CX0 1 "_is_at" ["text", "at", "sign"] spIsAt) : Def P w K mg base (L2.CX P w) 3 "_read_less" ["text", "at"] (spLess K) := by
  refine T.t_read_less.defX (N := ["text", "at"]) scReadLess (fun _ _ _ _ _ _ us hl => match us, hl with | [_, _], _ => rfl) ?_ ?_
  · intro vs H Q E h
    obtain ⟨z, i, rfl, _⟩ := h
    rfl
  · intro f cd A out s H vs Q E hr h
    have hr1 : Rm 1 _ := hr.le (by decide)
    have tk : Takes (cxOf (L2.CX P w) P w K mg base ["text", "at"] "_read_less" (defScope sReadLess) f cd A out s H E) (fun cls d _ H1 => E cls d H1) := takes_of rfl rfl rfl rfl
    obtain ⟨z, i, rfl, hz, q0, q1, q2⟩ := h
    refine ⟨_, (pss_cons (ps_if (pt_not (pt_val (pe_d DIsAt (hr1.le (by decide)) pass0 (pa_cons (pv 0) (pa_cons (pv 1) (pa_cons pe_str pa_nil)))))) (pss_one (ps_ret (pe_tup (pa_cons pe_bl (pa_cons (pv 1) pa_nil))))) pss_nil)
      (pss_cons (ps_if (pt_val (pe_d DIsAt (hr1.le (by decide)) pass0 (pa_cons (pv 0) (pa_cons (pe_op op_add (pv 1) pe_int) (pa_cons pe_str pa_nil))))) (pss_one (ps_parse Y rfl tk (hr.le (by decide)) (pa_cons (pe_op op_add (pv 1) pe_int) pa_nil))) pss_nil)
      (pss_one (ps_ret (pe_tup (pa_cons pe_bl (pa_cons (pe_op op_add (pv 1) pe_int) pa_nil))))))), ?_⟩
    refine ⟨_, rfl, _, rfl, z, i, 45, rfl, hz, ?_⟩
    refine ⟨_, rfl, ?_⟩
    cases b : isAt (cds z) i 45 with
    | false =>
      refine ifT rfl ?_
      exact ⟨_, rfl, by show 2 ≤ sizeLine; decide, fun r hr => q0 b _ r (same_new hr) upd_same⟩
    | true =>
      refine ifF rfl ?_
      refine ⟨_, rfl, _, rfl, _, _, rfl, rfl, z, i + 1, 48, rfl, hz, ?_⟩
      refine ⟨_, rfl, ?_⟩
      cases b2 : isAt (cds z) (i + 1) 48 with
      | true =>
        refine ifT rfl ?_
        exact ⟨_, rfl, _, _, rfl, rfl, _, rfl, fun d hd => par_new (q1 b b2) (Same.refl H) hd⟩
      | false =>
        refine ifF rfl ?_
        exact ⟨_, rfl, _, _, rfl, rfl, by show 2 ≤ sizeLine; decide, fun r hr => q2 b b2 _ r (same_new hr) upd_same⟩
/-! what reading tells: the value, or the index of the first wrong sign -/
abbrev Rd (α : Type) := Except Nat α
def rRes {α : Type} (K : PySem.W.Frag) (H : Hp) (E : XK) (r : Rd α) (k : α → Prop) : Prop := match r with
  | .ok a => k a
  | .error i => rPar K H i E
def plainR (cs : List Nat) (i : Nat) : Rd (Nat × Nat) := if dg cs i = true then .ok (valP cs i, endP cs i) else .error i
def behindR (cs : List Nat) (i c : Nat) : Rd Nat := if isAt cs i c = true then .ok (i + 1) else .error i
def lessR (cs : List Nat) (i : Nat) : Rd (Bool × Nat) := if isAt cs i 45 = true then (if isAt cs (i + 1) 48 = true then .error (i + 1) else .ok (true, i + 1)) else .ok (false, i)
def sgn (b : Bool) (n : Nat) : Int := if b = true then -(n : Int) else (n : Int)
def signedR (cs : List Nat) (i : Nat) : Rd (Int × Nat) := match lessR cs i with
  | .error j => .error j
  | .ok (b, s) => match plainR cs s with
    | .error j => .error j
    | .ok (n, e) => .ok (sgn b n, e)
theorem rPar.same {H H1 : Hp} {i : Nat} {E : XK} (q : rPar K H i E) (s : Same H H1) : rPar K H1 i E := fun H' d s' fd ed => q H' d (s.trans s') (s.free fd) ed
def spSigned (K : PySem.W.Frag) : Sp := fun vs H Q E => ∃ (z : Str) (i : Nat), vs = [.str z, .int (i : Int)] ∧ z.length ≤ 4000 ∧ rRes K H E (signedR (cds z) i) fun r => rTwo (.int r.1) (.int (r.2 : Nat)) H Q
theorem scReadSigned : FnScope ["text", "at", "is_less", "start", "number", "end"] ["text", "at"] (defScope sReadSigned) :=
  ⟨rfl, rfl, rfl, by decide +kernel, rfl, by decide +kernel, by decide +kernel⟩
theorem bReadSigned (T : Tx K mg) (Y : Ex K mg) (BReadLess : Def P w K mg base (L2.CX P w) 3 "_read_less" ["text", "at"] (spLess K)) (BReadPlain : Def P w K mg base (L2.CX P w) 3 "_read_plain" ["text", "at"] (spPlain K)) : Def P w K mg base (L2.CX P w) 4 "_read_signed" ["text", "at"] (spSigned K) := by
  refine T.t_read_signed.defX (N := ["text", "at", "is_less", "start", "number", "end"]) scReadSigned (fun _ _ _ _ _ _ us hl => match us, hl with | [_, _], _ => rfl) ?_ ?_
  · intro vs H Q E h
    obtain ⟨z, i, rfl, _⟩ := h
    rfl
  · intro f cd A out s H vs Q E hr h
    have hr2 : Rm 3 _ := hr.le (by decide)
    have tk : Takes (cxOf (L2.CX P w) P w K mg base ["text", "at", "is_less", "start", "number", "end"] "_read_signed" (defScope sReadSigned) f cd A out s H E) (fun cls d _ H1 => E cls d H1) := takes_of rfl rfl rfl rfl
    obtain ⟨z, i, rfl, hz, q⟩ := h
    refine ⟨_, (pss_cons (ps_asg (ME.pe_dS BReadLess (hr2.le (by decide)) (passAt tk) (pa_cons (pv 0) (pa_cons (pv 1) pa_nil))) (pg_tup rfl (pgs_cons (pg_name (i := 2) scReadSigned.nd rfl (Or.inl rfl)) (pgs_cons (pg_name (i := 3) scReadSigned.nd rfl (Or.inl rfl)) pgs_nil))))
      (pss_cons (ps_asg (ME.pe_dS BReadPlain (hr2.le (by decide)) (passAt tk) (pa_cons (pv 0) (pa_cons (pv 3) pa_nil))) (pg_tup rfl (pgs_cons (pg_name (i := 4) scReadSigned.nd rfl (Or.inl rfl)) (pgs_cons (pg_name (i := 5) scReadSigned.nd rfl (Or.inl rfl)) pgs_nil))))
      (pss_one (ps_ret (pe_tup (pa_cons (pe_ifExp (pt_val (pv 2)) (pe_un un_neg (pv 4)) (pv 4)) (pa_cons (pv 5) pa_nil))))))), ?_⟩
    have fin : ∀ (b : Bool) (s : Nat), (rRes K H E (match plainR (cds z) s with
        | .error j => .error j
        | .ok (n, e) => .ok (sgn b n, e)) fun r => rTwo (.int r.1) (.int (r.2 : Nat)) H Q) →
        (dg (cds z) s = false → rPar K H s E) ∧ (dg (cds z) s = true → rTwo (.int (sgn b (valP (cds z) s))) (.int (endP (cds z) s : Nat)) H Q) := by
      intro b s h
      unfold plainR at h
      constructor
      · intro e
        rw [e, if_neg (by decide)] at h
        exact h
      · intro e
        rw [e, if_pos rfl] at h
        exact h
    refine ⟨_, rfl, _, rfl, z, i, rfl, hz, fun b H1 r s1 hr_ => ?_, fun b1 b2 => ?_, fun b1 b2 H1 r s1 hr_ => ?_⟩
    · have q' := fin false i (by
        unfold signedR lessR at q
        rw [b, if_neg (by decide)] at q
        exact q)
      refine ⟨r, _, rfl, .inl (.inl hr_), rfl, _, _, rfl, ?_⟩
      refine ⟨_, _, rfl, rfl, ?_⟩
      refine ⟨_, rfl, _, rfl, z, i, rfl, hz, fun e => (q'.1 e).same s1, fun e H2 r2 s2 hr2 => ?_⟩
      refine ⟨r2, _, rfl, .inl (.inl hr2), rfl, _, _, rfl, ?_⟩
      refine ⟨_, _, rfl, rfl, ?_⟩
      refine ⟨_, rfl, _, rfl, ?_⟩
      refine ifF rfl ?_
      exact ⟨_, rfl, _, rfl, by show 2 ≤ sizeLine; decide, fun r3 h3 => q'.2 e _ r3 ((s1.trans s2).trans (same_new h3)) upd_same⟩
    · unfold signedR lessR at q
      rw [b1, if_pos rfl, b2, if_pos rfl] at q
      exact q
    · have q' := fin true (i + 1) (by
        unfold signedR lessR at q
        rw [b1, if_pos rfl, b2, if_neg (by decide)] at q
        exact q)
      refine ⟨r, _, rfl, .inl (.inl hr_), rfl, _, _, rfl, ?_⟩
      refine ⟨_, _, rfl, rfl, ?_⟩
      refine ⟨_, rfl, _, rfl, z, i + 1, rfl, hz, fun e => (q'.1 e).same s1, fun e H2 r2 s2 hr2 => ?_⟩
      refine ⟨r2, _, rfl, .inl (.inl hr2), rfl, _, _, rfl, ?_⟩
      refine ⟨_, _, rfl, rfl, ?_⟩
      refine ⟨_, rfl, _, rfl, ?_⟩
      refine ifT rfl ?_
      exact ⟨_, rfl, _, rfl, _, rfl, by show 2 ≤ sizeLine; decide, fun r3 h3 => q'.2 e _ r3 ((s1.trans s2).trans (same_new h3)) upd_same⟩
/-- one more integer behind a comma, as long as signs are left -/
def rowGo (cs : List Nat) : Nat → List Int → Nat → Rd (List Int)
  | 0, row, _ => .ok row
  | f + 1, row, e => if e < cs.length then (match behindR cs e 44 with
      | .error j => .error j
      | .ok s => match signedR cs s with
        | .error j => .error j
        | .ok (n, e2) => rowGo cs f (row ++ [n]) e2) else .ok row
def rowR (cs : List Nat) : Rd (List Int) := match signedR cs 0 with
  | .error j => .error j
  | .ok (n, e) => rowGo cs cs.length [n] e
theorem rowGo_end {cs : List Nat} {f : Nat} {row : List Int} {e : Nat} (h : ¬ e < cs.length) : rowGo cs f row e = .ok row := by
  cases f with
  | zero => rfl
  | succ f => exact if_neg h
theorem plainR_gt {cs : List Nat} {i n e : Nat} (h : plainR cs i = .ok (n, e)) : i < e := by
  unfold plainR at h
  split at h
  · injection h with h
    injection h with h1 h2
    rw [← h2]
    exact (endP_le cs i).1
  · cases h
theorem signedR_gt {cs : List Nat} {i e : Nat} {n : Int} (h : signedR cs i = .ok (n, e)) : i < e := by
  unfold signedR at h
  split at h
  · cases h
  · rename_i b s hl
    have ls : i ≤ s := by
      unfold lessR at hl
      split at hl
      · split at hl
        · cases hl
        · injection hl with hl
          injection hl with _ h2
          omega
      · injection hl with hl
        injection hl with _ h2
        omega
    split at h
    · cases h
    · rename_i n' e' hp
      have := plainR_gt hp
      injection h with h
      injection h with _ h2
      omega
abbrev rRw (K : PySem.W.Frag) (H : Hp) (E : XK) : Prop := ∀ H', Same H H' → E (.ref (ga K "InvalidRow")) none H'
def spReadRow (K : PySem.W.Frag) : Sp := fun vs H Q E => ∃ x n, vs = [x] ∧ Kd K H x n ∧ (∀ z, x = .str z → z.length ≤ 4000) ∧ (okT x = false → rPar K H 0 E) ∧
  ∀ z : Str, x = .str z → okT x = true → rRes K H E (rowR (cds z)) fun row => (row.length ≤ 60 → ∀ H' t, Same H H' → SqT K H' t (row.map V.int) → Q (.ref t) H') ∧ (60 < row.length → rRw K H E)
theorem scReadRow : FnScope ["text", "number", "end", "row"] ["text"] (defScope sReadRow) :=
  ⟨rfl, rfl, rfl, by decide +kernel, rfl, by decide +kernel, by decide +kernel⟩
theorem bReadRow (T : Tx K mg) (Y : Ex K mg) (BNeedText : Def P w K mg base (L2.CX P w) 3 "_need_text" ["text"] (spNeedText K)) (BReadSigned : Def P w K mg base (L2.CX P w) 4 "_read_signed" ["text", "at"] (spSigned K)) (BBehind : Def P w K mg base (L2.CX P w) 3 "_behind" ["text", "at", "sign"] (spBehind K)) : Def P w K mg base (L2.CX P w) 5 "read_row" ["text"] (spReadRow K) := by
  refine T.t_read_row.defX (N := ["text", "number", "end", "row"]) scReadRow (fun _ _ _ _ _ _ us hl => match us, hl with | [_], _ => rfl) ?_ ?_
  · intro vs H Q E h
    obtain ⟨x, n, rfl, _⟩ := h
    rfl
  · intro f cd A out s H vs Q E hr h
    have hr2 : Rm 4 _ := hr.le (by decide)
    have tk : Takes (cxOf (L2.CX P w) P w K mg base ["text", "number", "end", "row"] "read_row" (defScope sReadRow) f cd A out s H E) (fun cls d _ H1 => E cls d H1) := takes_of rfl rfl rfl rfl
    obtain ⟨x, n, rfl, hk, hz, q1, q2⟩ := h
    refine ⟨_, (pss_cons (ps_expr (ME.pe_dS BNeedText (hr2.le (by decide)) (passAt tk) (pa_cons (pv 0) pa_nil)))
      (pss_cons (ps_asg (ME.pe_dS BReadSigned (hr2.le (by decide)) (passAt tk) (pa_cons (pv 0) (pa_cons pe_int pa_nil))) (pg_tup rfl (pgs_cons (pg_name (i := 1) scReadRow.nd rfl (Or.inl rfl)) (pgs_cons (pg_name (i := 2) scReadRow.nd rfl (Or.inl rfl)) pgs_nil))))
      (pss_cons (ps_set (i := 3) scReadRow.nd rfl (Or.inl rfl) (pe_lst (pa_cons (pv 1) pa_nil)))
      (pss_cons (ps_while (passes_of rfl) (pt_cmpR op_lt (pv 2) (pe_callB call_len_str rfl T.f_len (by decide +kernel) (pa_cons (pv 0) pa_nil)) (nomark _))
        (pss_cons (ps_asg (ME.pe_dS BReadSigned (hr2.le (by decide)) (passAt tk) (pa_cons (pv 0) (pa_cons (ME.pe_dS BBehind (hr2.le (by decide)) (passAt tk) (pa_cons (pv 0) (pa_cons (pv 2) (pa_cons pe_str pa_nil)))) pa_nil))) (pg_tup rfl (pgs_cons (pg_name (i := 1) scReadRow.nd rfl (Or.inl rfl)) (pgs_cons (pg_name (i := 2) scReadRow.nd rfl (Or.inl rfl)) pgs_nil))))
        (pss_one (ps_expr (pe_bm PySem.F.plainAttrs_list PySem.F.slot_list_append PySem.F.type_list_append mt_append (pv 3) (pa_cons (pv 1) pa_nil))))))
      (pss_cons (ps_if (pt_cmpR op_gt (pe_callB call_len_seq rfl T.f_len (by decide +kernel) (pa_cons (pv 3) pa_nil)) (C8.pe_gc rfl T.c_MOST_MEMBERS) (nomark _)) (pss_one (ps_plain Y.rw rfl tk)) pss_nil)
      (pss_one (ps_ret (pe_callTy call_tuple_of rfl T.f_tuple (by decide +kernel) (pa_cons (pv 3) pa_nil))))))))), ?_⟩
    refine ⟨_, rfl, x, n, rfl, hk, hz, q1, fun b => ?_⟩
    obtain ⟨z, rfl⟩ : ∃ z, x = .str z := by
      cases hk <;> first | exact ⟨_, rfl⟩ | cases b
    have q := q2 z rfl b
    have z4 := hz z rfl
    have hl : z.length = (cds z).length := (Array.length_toList).symm
    refine ⟨_, rfl, z, 0, rfl, z4, ?_⟩
    unfold rowR at q
    cases e0 : signedR (cds z) 0 with
    | error j =>
      rw [e0] at q
      exact q
    | ok r =>
      obtain ⟨n0, e⟩ := r
      rw [e0] at q
      intro H1 t s1 ht
      refine ⟨t, _, rfl, .inl (.inl ht), rfl, _, _, rfl, ?_⟩
      refine ⟨_, _, rfl, rfl, ?_⟩
      refine ⟨_, rfl, by show 1 ≤ sizeLine; decide, fun l fl => ?_⟩
      have sl := s1.trans (same_new fl (o := .lst [.int n0]))
      have el : (upd H1 l (.lst [.int n0])) l = some (.lst (([n0] : List Int).map V.int)) := upd_same
      have l0 : H l = none := s1.free fl
      generalize upd H1 l _ = H2 at sl el ⊢
      have e1 := signedR_gt e0
      replace q : rRes K H E (rowGo (cds z) (cds z).length [n0] e) fun row => (row.length ≤ 60 → ∀ H' t, Same H H' → SqT K H' t (row.map V.int) → Q (.ref t) H') ∧ (60 < row.length → rRw K H E) := q
      generalize hR : rowGo (cds z) (cds z).length [n0] e = R at q
      refine while_by (fun σ H3 => ∃ (nn : Int) (row : List Int) (e f : Nat), σ = [some (.str z), some (.int nn), some (.int (e : Int)), some (.ref l)] ∧ Same H H3 ∧ H3 l = some (.lst (row.map V.int)) ∧
          rowGo (cds z) f row e = R ∧ (cds z).length ≤ f + e ∧ row.length ≤ e)
        (fun σ _ => match σ with | [_, _, some (.int e), _] => ((cds z).length - e).toNat | _ => 0) ?_ ?_ ?_
      · exact ⟨n0, [n0], e, (cds z).length, rfl, sl, el, hR, by omega, by show 1 ≤ e; omega⟩
      · rintro σ H3 ⟨nn, row, e', f, rfl, s3, h3, gR, fl, rl⟩
        refine ⟨_, rfl, _, rfl, z, rfl, line4000 z4, _, _, rfl, rfl, _, rfl, ?_⟩
        by_cases lt : e' < (cds z).length
        · refine ifT (decide_eq_true (by rw [hl]; omega)) ?_
          obtain ⟨f', rfl⟩ : ∃ f', f = f' + 1 := ⟨f - 1, by omega⟩
          rw [show rowGo (cds z) (f' + 1) row e' = (match behindR (cds z) e' 44 with
            | .error j => .error j
            | .ok s => match signedR (cds z) s with
              | .error j => .error j
              | .ok (n, e2) => rowGo (cds z) f' (row ++ [n]) e2) from if_pos lt] at gR
          unfold behindR at gR
          refine ⟨_, rfl, _, rfl, _, rfl, z, e', 44, rfl, z4, fun b => ?_, fun b => ?_⟩
          · rw [b, if_neg (by decide)] at gR
            rw [← gR] at q
            exact rPar.same q s3
          · rw [b, if_pos rfl] at gR
            refine ⟨z, e' + 1, rfl, z4, ?_⟩
            cases hs : signedR (cds z) (e' + 1) with
            | error j =>
              simp only [hs] at gR
              rw [← gR] at q
              exact rPar.same q s3
            | ok r =>
              obtain ⟨n1, e2⟩ := r
              simp only [hs] at gR
              have gt := signedR_gt hs
              intro H4 t4 s4 ht4
              have h4 := s4 _ _ h3
              refine ⟨t4, _, rfl, .inl (.inl ht4), rfl, _, _, rfl, ?_⟩
              refine ⟨_, _, rfl, rfl, ?_⟩
              refine ⟨_, rfl, .inl ⟨rfl, _, .inl (.inl h4)⟩, _, rfl, l, _, _, rfl, rfl, h4, ?_, ?_⟩
              · rw [List.length_map, sizeLine_eq]
                omega
              refine ⟨⟨n1, row ++ [n1], e2, f', rfl, ?_, ?_, gR, by omega, by rw [List.length_append]; show row.length + 1 ≤ e2; omega⟩, ?_⟩
              · intro b o hb
                rw [upd_ne (ne_of_none hb l0)]
                exact s4 _ _ (s3 _ _ hb)
              · rw [upd_same, List.map_append]
                rfl
              · show (((cds z).length : Int) - (e2 : Int)).toNat < (((cds z).length : Int) - (e' : Int)).toNat
                omega
        · refine ifF (decide_eq_false (by rw [hl]; omega)) ?_
          rw [rowGo_end lt] at gR
          rw [← gR] at q
          obtain ⟨qa, qb⟩ := q
          refine ⟨_, rfl, l, _, rfl, .inl (.inl (.inl h3)), _, _, rfl, rfl, _, rfl, ?_⟩
          by_cases c : row.length ≤ 60
          · refine ifF (decide_eq_false (by rw [List.length_map]; omega)) ?_
            exact ⟨_, rfl, l, _, rfl, .inl ⟨.inl (.inl h3), fun t ft => qa c _ t (s3.trans (same_new ft)) (.inl (.inl upd_same))⟩⟩
          · refine ifT (decide_eq_true (by rw [List.length_map]; omega)) ?_
            exact qb (by omega) _ s3
      · rintro σ H2 Q1 Q2 mono ⟨x1, h1, x2, h2, z', hz', lz, a, b, e1, e2, c, hc, h3⟩
        exact ⟨x1, h1, x2, h2, z', hz', lz, a, b, e1, e2, c, hc, mono _ _ h3⟩
end
end K87


set_option Elab.async false
set_option linter.all false
set_option maxRecDepth 100000
set_option maxHeartbeats 2000000
namespace K87
open PySem PySem.Spec PyProof.Rows L2 MM PySem.NumText
/-! own words for the readings: a step, its side -/
local macro_rules | `(tactic| walk_at "side") => `(tactic| first
  | omega
  | exact ⟨by omega, by omega⟩
  | exact Or.inl ⟨by omega, by omega⟩
  | exact Or.inr ⟨by omega, by omega⟩
  | (show CPw _ _; decide +kernel)
  | (show (0 : Int) < _; decide +kernel)
  | (show CDivW _ _; first | assumption | exact ⟨by decide, by decide +kernel⟩))
local macro_rules | `(tactic| walk_at "here") => `(tactic| first
  | assumption
  | exact upd_same
  | exact Or.inl (Or.inl upd_same)
  | exact Or.inl upd_same)
local macro_rules | `(tactic| walk_at "one") => `(tactic| first
  | refine ⟨_, rfl, ?_⟩
  | refine Or.inl ⟨_, rfl, ?_⟩
  | refine Or.inr ⟨_, rfl, ?_⟩
  | refine ⟨_, _, rfl, rfl, (by walk_at "side"), ?_⟩
  | refine ⟨_, _, rfl, rfl, ?_⟩
  | refine ⟨_, _, rfl, Or.inl (by walk_at "here"), ?_⟩
  | refine ⟨_, _, rfl, Or.inr (by walk_at "here"), ?_⟩
  | refine ⟨_, _, rfl, (by walk_at "here"), ?_⟩
  | refine ⟨_, _, _, _, rfl, rfl, (by walk_at "here"), rfl, ?_⟩
  | refine ⟨_, _, rfl, ?_⟩
  | refine ifT (by rfl) ?_
  | refine ifF (by rfl) ?_
  | refine ifT (decide_eq_true (by omega)) ?_
  | refine ifF (decide_eq_false (by omega)) ?_)
local macro_rules | `(tactic| walk_at "st") => `(tactic| repeat (walk_at "one"))

section
variable {P : Program} {w : World} {K : PySem.W.Frag} {mg : Str → Option Value} {base : Heap}
/-- three values in a tuple -/
abbrev rThree (x y v : V) (H : Hp) (Q : VK) : Prop := ∀ H' r, Same H H' → H' r = some (.tup [x, y, v]) → Q (.ref r) H'
/-- the number ahead of an index -/
def headR (cs : List Nat) (i : Nat) : Rd (Nat × Nat) := if isAt cs i 91 = true then .ok (1, i) else plainR cs i
def termR (cs : List Nat) (i : Nat) : Rd (Nat × Nat × Nat) := match headR cs i with
  | .error j => .error j
  | .ok (m, e) => match behindR cs e 91 with
    | .error j => .error j
    | .ok s => match plainR cs s with
      | .error j => .error j
      | .ok (x, e1) => match behindR cs e1 93 with
        | .error j => .error j
        | .ok e2 => .ok (x, m, e2)
def spTerm (K : PySem.W.Frag) : Sp := fun vs H Q E => ∃ (z : Str) (i : Nat), vs = [.str z, .int (i : Int)] ∧ z.length ≤ 4000 ∧ rRes K H E (termR (cds z) i) fun r => rThree (.int (r.1 : Nat)) (.int (r.2.1 : Nat)) (.int (r.2.2 : Nat)) H Q
theorem scReadTerm : FnScope ["text", "at", "many", "end", "index"] ["text", "at"] (defScope sReadTerm) :=
  ⟨rfl, rfl, rfl, by decide +kernel, rfl, by decide +kernel, by decide +kernel⟩
theorem bReadTerm (T : Tx K mg) (Y : Ex K mg) (DIsAt : Def P w K mg base CX0 1 "_is_at" ["text", "at", "sign"] spIsAt) (BReadPlain : Def P w K mg base (L2.CX P w) 3 "_read_plain" ["text", "at"] (spPlain K)) (BBehind : Def P w K mg base (L2.CX P w) 3 "_behind" ["text", "at", "sign"] (spBehind K)) : Def P w K mg base (L2.CX P w) 4 "_read_term" ["text", "at"] (spTerm K) := by
  refine T.t_read_term.defX (N := ["text", "at", "many", "end", "index"]) scReadTerm (fun _ _ _ _ _ _ us hl => match us, hl with | [_, _], _ => rfl) ?_ ?_
  · intro vs H Q E h
    obtain ⟨z, i, rfl, _⟩ := h
    rfl
  · intro f cd A out s H vs Q E hr h
    have hr1 : Rm 1 _ := hr.le (by decide)
    have hr2 : Rm 3 _ := hr.le (by decide)
    have tk : Takes (cxOf (L2.CX P w) P w K mg base ["text", "at", "many", "end", "index"] "_read_term" (defScope sReadTerm) f cd A out s H E) (fun cls d _ H1 => E cls d H1) := takes_of rfl rfl rfl rfl
    obtain ⟨z, i, rfl, hz, q⟩ := h
    refine ⟨_, (pss_cons (ps_par (i := 2) (j := 3) rfl scReadTerm.nd rfl rfl (by decide) rfl rfl (pa_cons pe_int (pa_cons (pv 1) pa_nil)) (by rfl))
      (pss_cons (ps_if (pt_not (pt_val (pe_d DIsAt (hr1.le (by decide)) pass0 (pa_cons (pv 0) (pa_cons (pv 1) (pa_cons pe_str pa_nil)))))) (pss_one (ps_asg (ME.pe_dS BReadPlain (hr2.le (by decide)) (passAt tk) (pa_cons (pv 0) (pa_cons (pv 1) pa_nil))) (pg_tup rfl (pgs_cons (pg_name (i := 2) scReadTerm.nd rfl (Or.inl rfl)) (pgs_cons (pg_name (i := 3) scReadTerm.nd rfl (Or.inl rfl)) pgs_nil))))) pss_nil)
      (pss_cons (ps_asg (ME.pe_dS BReadPlain (hr2.le (by decide)) (passAt tk) (pa_cons (pv 0) (pa_cons (ME.pe_dS BBehind (hr2.le (by decide)) (passAt tk) (pa_cons (pv 0) (pa_cons (pv 3) (pa_cons pe_str pa_nil)))) pa_nil))) (pg_tup rfl (pgs_cons (pg_name (i := 4) scReadTerm.nd rfl (Or.inl rfl)) (pgs_cons (pg_name (i := 3) scReadTerm.nd rfl (Or.inl rfl)) pgs_nil))))
      (pss_one (ps_ret (pe_tup (pa_cons (pv 4) (pa_cons (pv 2) (pa_cons (ME.pe_dS BBehind (hr2.le (by decide)) (passAt tk) (pa_cons (pv 0) (pa_cons (pv 3) (pa_cons pe_str pa_nil)))) pa_nil))))))))), ?_⟩
    unfold termR headR at q
    refine ⟨_, rfl, _, _, rfl, ?_⟩
    refine ⟨_, rfl, _, rfl, z, i, 91, rfl, hz, ?_⟩
    refine ⟨_, rfl, ?_⟩
    cases b0 : isAt (cds z) i 91 with
    | true =>
      refine ifF rfl ?_
      rw [b0] at q
      replace q : rRes K H E (match behindR (cds z) i 91 with
        | .error j => .error j
        | .ok s => match plainR (cds z) s with
          | .error j => .error j
          | .ok (x, e1) => match behindR (cds z) e1 93 with
            | .error j => .error j
            | .ok e2 => .ok (x, 1, e2)) fun r => rThree (.int (r.1 : Nat)) (.int (r.2.1 : Nat)) (.int (r.2.2 : Nat)) H Q := q
      have qm := q
      unfold behindR at qm
      refine ⟨_, rfl, _, rfl, _, rfl, z, i, 91, rfl, hz, fun b1 => ?_, fun b1 => ?_⟩
      · rw [b1, if_neg (by decide)] at qm
        exact rPar.same qm (Same.refl H)
      · rw [b1, if_pos rfl] at qm
        refine ⟨z, i + 1, rfl, hz, fun d1 => ?_, fun d1 H2 r2 s2 hr2 => ?_⟩
        · unfold plainR at qm
          simp only [d1, if_neg Bool.false_ne_true] at qm
          exact rPar.same qm (Same.refl H)
        · unfold plainR at qm
          simp only [d1, if_pos] at qm
          refine ⟨r2, _, rfl, .inl (.inl hr2), rfl, _, _, rfl, ?_⟩
          refine ⟨_, _, rfl, rfl, ?_⟩
          refine ⟨_, rfl, _, rfl, _, rfl, _, rfl, z, _, 93, rfl, hz, fun b2 => ?_, fun b2 => ?_⟩
          · rw [b2] at qm
            exact rPar.same qm ((Same.refl H).trans s2)
          · rw [b2] at qm
            exact ⟨by show 3 ≤ sizeLine; decide, fun r3 h3 => qm _ r3 (((Same.refl H).trans s2).trans (same_new h3)) upd_same⟩
    | false =>
      refine ifT rfl ?_
      rw [b0] at q
      refine ⟨_, rfl, _, rfl, z, i, rfl, hz, fun d0 => ?_, fun d0 H1 r1 s1 hr1' => ?_⟩
      · unfold plainR at q
        rw [d0] at q
        exact q
      refine ⟨r1, _, rfl, .inl (.inl hr1'), rfl, _, _, rfl, ?_⟩
      refine ⟨_, _, rfl, rfl, ?_⟩
      replace q : rRes K H E (match behindR (cds z) (endP (cds z) i) 91 with
        | .error j => .error j
        | .ok s => match plainR (cds z) s with
          | .error j => .error j
          | .ok (x, e1) => match behindR (cds z) e1 93 with
            | .error j => .error j
            | .ok e2 => .ok (x, valP (cds z) i, e2)) fun r => rThree (.int (r.1 : Nat)) (.int (r.2.1 : Nat)) (.int (r.2.2 : Nat)) H Q := by
        rw [show plainR (cds z) i = .ok (valP (cds z) i, endP (cds z) i) from if_pos d0] at q
        exact q
      generalize endP (cds z) i = e0 at q hr1' ⊢
      generalize valP (cds z) i = m0 at q hr1' ⊢
      have qm := q
      unfold behindR at qm
      refine ⟨_, rfl, _, rfl, _, rfl, z, e0, 91, rfl, hz, fun b1 => ?_, fun b1 => ?_⟩
      · rw [b1, if_neg (by decide)] at qm
        exact rPar.same qm s1
      · rw [b1, if_pos rfl] at qm
        refine ⟨z, e0 + 1, rfl, hz, fun d1 => ?_, fun d1 H2 r2 s2 hr2 => ?_⟩
        · unfold plainR at qm
          simp only [d1, if_neg Bool.false_ne_true] at qm
          exact rPar.same qm s1
        · unfold plainR at qm
          simp only [d1, if_pos] at qm
          refine ⟨r2, _, rfl, .inl (.inl hr2), rfl, _, _, rfl, ?_⟩
          refine ⟨_, _, rfl, rfl, ?_⟩
          refine ⟨_, rfl, _, rfl, _, rfl, _, rfl, z, _, 93, rfl, hz, fun b2 => ?_, fun b2 => ?_⟩
          · rw [b2] at qm
            exact rPar.same qm (s1.trans s2)
          · rw [b2] at qm
            exact ⟨by show 3 ≤ sizeLine; decide, fun r3 h3 => qm _ r3 ((s1.trans s2).trans (same_new h3)) upd_same⟩
def termsGo (cs : List Nat) : Nat → List (Nat × Int) → Nat → Rd (List (Nat × Int))
  | 0, ts, _ => .ok ts
  | f + 1, ts, e => if e < cs.length then (match behindR cs e 32 with
      | .error j => .error j
      | .ok e1 => match behindR cs e1 (if isAt cs e1 45 = true then 45 else 43) with
        | .error j => .error j
        | .ok e2 => match behindR cs e2 32 with
          | .error j => .error j
          | .ok s => match termR cs s with
            | .error j => .error j
            | .ok (x, m, e3) => termsGo cs f (ts ++ [(x, sgn (isAt cs e1 45) m)]) e3) else .ok ts
def termsR (cs : List Nat) : Rd (List (Nat × Int)) := match lessR cs 0 with
  | .error j => .error j
  | .ok (b, s) => match termR cs s with
    | .error j => .error j
    | .ok (x, m, e) => termsGo cs cs.length [(x, sgn b m)] e
theorem termsGo_end {cs : List Nat} {f : Nat} {ts : List (Nat × Int)} {e : Nat} (h : ¬ e < cs.length) : termsGo cs f ts e = .ok ts := by
  cases f with
  | zero => rfl
  | succ f => exact if_neg h
theorem behind_ok {cs : List Nat} {i c : Nat} (h : isAt cs i c = true) : behindR cs i c = .ok (i + 1) := if_pos h
theorem behind_no {cs : List Nat} {i c : Nat} (h : isAt cs i c = false) : behindR cs i c = .error i := if_neg (by rw [h]; decide)
theorem behindR_eq {cs : List Nat} {i c e : Nat} (h : behindR cs i c = .ok e) : e = i + 1 := by
  unfold behindR at h
  split at h
  · injection h with h
    exact h.symm
  · cases h
theorem termR_gt {cs : List Nat} {i x m e : Nat} (h : termR cs i = .ok (x, m, e)) : i < e := by
  unfold termR at h
  split at h
  · cases h
  · rename_i m0 e0 hh
    have l0 : i ≤ e0 := by
      unfold headR at hh
      split at hh
      · injection hh with hh
        injection hh with _ h2
        omega
      · exact Nat.le_of_lt (plainR_gt hh)
    split at h
    · cases h
    · rename_i s hs
      have := behindR_eq hs
      split at h
      · cases h
      · rename_i x1 e1 hp
        have := plainR_gt hp
        split at h
        · cases h
        · rename_i e2 he
          have := behindR_eq he
          injection h with h
          injection h with _ h
          injection h with _ h
          omega
theorem pairedI {α β : Type} {R S : α → β → Prop} : ∀ {us : List α} {os : List β}, Paired R us os → (∀ a b, R a b → S a b) → Paired S us os
  | _, _, .nil, _ => .nil
  | _, _, .cons r t, f => .cons (f _ _ r) (pairedI t f)
/-- pairs of an index and an integer, in tuples elsewhere than at l -/
def PT (K : PySem.W.Frag) (l : Addr) (H : Hp) (vs : List V) (ts : List (Nat × Int)) : Prop := Paired (fun v (p : Nat × Int) => ∃ a, v = .ref a ∧ a ≠ l ∧ H a = some (.tup [.int (p.1 : Nat), .int p.2])) vs ts
theorem pt_same {l : Addr} {H H' : Hp} {vs : List V} {ts : List (Nat × Int)} (h : PT K l H vs ts) (s : Same H H') : PT K l H' vs ts :=
  pairedI h fun _ _ ⟨a, e, n, S⟩ => ⟨a, e, n, s _ _ S⟩
theorem pt_upd {l : Addr} {H : Hp} {o : HO} {vs : List V} {ts : List (Nat × Int)} (h : PT K l H vs ts) : PT K l (upd H l o) vs ts :=
  pairedI h fun _ _ ⟨a, e, n, S⟩ => ⟨a, e, n, by rw [upd_ne n]; exact S⟩
theorem pt_len {l : Addr} {H : Hp} : ∀ {vs : List V} {ts : List (Nat × Int)}, PT K l H vs ts → vs.length = ts.length
  | _, _, .nil => rfl
  | _, _, .cons _ h => congrArg (· + 1) (pt_len h)
theorem pt_add {l u : Addr} {H : Hp} {p : Nat × Int} : ∀ {vs : List V} {ts : List (Nat × Int)}, PT K l H vs ts → u ≠ l → H u = some (.tup [.int (p.1 : Nat), .int p.2]) → PT K l H (vs ++ [.ref u]) (ts ++ [p])
  | _, _, .nil, n, e => .cons ⟨u, rfl, n, e⟩ .nil
  | _, _, .cons r h, n, e => .cons r (pt_add h n e)
def spTerms (K : PySem.W.Frag) : Sp := fun vs H Q E => ∃ (z : Str), vs = [.str z] ∧ z.length ≤ 4000 ∧ rRes K H E (termsR (cds z)) fun ts => ∀ H' l vs, Same H H' → H' l = some (.lst vs) → PT K l H' vs ts → Q (.ref l) H'
theorem scReadTerms : FnScope ["text", "is_less", "start", "index", "many", "end", "terms"] ["text"] (defScope sReadTerms) :=
  ⟨rfl, rfl, rfl, by decide +kernel, rfl, by decide +kernel, by decide +kernel⟩
theorem bReadTerms (T : Tx K mg) (Y : Ex K mg) (DIsAt : Def P w K mg base CX0 1 "_is_at" ["text", "at", "sign"] spIsAt) (BReadLess : Def P w K mg base (L2.CX P w) 3 "_read_less" ["text", "at"] (spLess K)) (BReadTerm : Def P w K mg base (L2.CX P w) 4 "_read_term" ["text", "at"] (spTerm K)) (BBehind : Def P w K mg base (L2.CX P w) 3 "_behind" ["text", "at", "sign"] (spBehind K)) : Def P w K mg base (L2.CX P w) 5 "_read_terms" ["text"] (spTerms K) := by
  refine T.t_read_terms.defX (N := ["text", "is_less", "start", "index", "many", "end", "terms"]) scReadTerms (fun _ _ _ _ _ _ us hl => match us, hl with | [_], _ => rfl) ?_ ?_
  · intro vs H Q E h
    obtain ⟨z, rfl, _⟩ := h
    rfl
  · intro f cd A out s H vs Q E hr h
    have hr1 : Rm 1 _ := hr.le (by decide)
    have hr2 : Rm 4 _ := hr.le (by decide)
    have tk : Takes (cxOf (L2.CX P w) P w K mg base ["text", "is_less", "start", "index", "many", "end", "terms"] "_read_terms" (defScope sReadTerms) f cd A out s H E) (fun cls d _ H1 => E cls d H1) := takes_of rfl rfl rfl rfl
    obtain ⟨z, rfl, hz, q⟩ := h
    refine ⟨_, (pss_cons (ps_asg (ME.pe_dS BReadLess (hr2.le (by decide)) (passAt tk) (pa_cons (pv 0) (pa_cons pe_int pa_nil))) (pg_tup rfl (pgs_cons (pg_name (i := 1) scReadTerms.nd rfl (Or.inl rfl)) (pgs_cons (pg_name (i := 2) scReadTerms.nd rfl (Or.inl rfl)) pgs_nil))))
      (pss_cons (ps_asg (ME.pe_dS BReadTerm (hr2.le (by decide)) (passAt tk) (pa_cons (pv 0) (pa_cons (pv 2) pa_nil))) (pg_tup rfl (pgs_cons (pg_name (i := 3) scReadTerms.nd rfl (Or.inl rfl)) (pgs_cons (pg_name (i := 4) scReadTerms.nd rfl (Or.inl rfl)) (pgs_cons (pg_name (i := 5) scReadTerms.nd rfl (Or.inl rfl)) pgs_nil)))))
      (pss_cons (ps_set (i := 6) scReadTerms.nd rfl (Or.inl rfl) (pe_lst (pa_cons (pe_tup (pa_cons (pv 3) (pa_cons (pe_ifExp (pt_val (pv 1)) (pe_un un_neg (pv 4)) (pv 4)) pa_nil))) pa_nil)))
      (pss_cons (ps_while (passes_of rfl) (pt_cmpR op_lt (pv 5) (pe_callB call_len_str rfl T.f_len (by decide +kernel) (pa_cons (pv 0) pa_nil)) (nomark _))
        (pss_cons (ps_set (i := 5) scReadTerms.nd rfl (Or.inl rfl) (ME.pe_dS BBehind (hr2.le (by decide)) (passAt tk) (pa_cons (pv 0) (pa_cons (pv 5) (pa_cons pe_str pa_nil)))))
        (pss_cons (ps_set (i := 1) scReadTerms.nd rfl (Or.inl rfl) (pe_d DIsAt (hr1.le (by decide)) pass0 (pa_cons (pv 0) (pa_cons (pv 5) (pa_cons pe_str pa_nil)))))
        (pss_cons (ps_set (i := 5) scReadTerms.nd rfl (Or.inl rfl) (ME.pe_dS BBehind (hr2.le (by decide)) (passAt tk) (pa_cons (pv 0) (pa_cons (pv 5) (pa_cons (pe_ifExp (pt_val (pv 1)) pe_str pe_str) pa_nil)))))
        (pss_cons (ps_asg (ME.pe_dS BReadTerm (hr2.le (by decide)) (passAt tk) (pa_cons (pv 0) (pa_cons (ME.pe_dS BBehind (hr2.le (by decide)) (passAt tk) (pa_cons (pv 0) (pa_cons (pv 5) (pa_cons pe_str pa_nil)))) pa_nil))) (pg_tup rfl (pgs_cons (pg_name (i := 3) scReadTerms.nd rfl (Or.inl rfl)) (pgs_cons (pg_name (i := 4) scReadTerms.nd rfl (Or.inl rfl)) (pgs_cons (pg_name (i := 5) scReadTerms.nd rfl (Or.inl rfl)) pgs_nil)))))
        (pss_one (ps_expr (pe_bm PySem.F.plainAttrs_list PySem.F.slot_list_append PySem.F.type_list_append mt_append (pv 6) (pa_cons (pe_tup (pa_cons (pv 3) (pa_cons (pe_ifExp (pt_val (pv 1)) (pe_un un_neg (pv 4)) (pv 4)) pa_nil))) pa_nil)))))))))
      (pss_one (ps_ret (pv 6))))))), ?_⟩
    have hl : z.length = (cds z).length := (Array.length_toList).symm
    -- behind the sign
    refine ⟨_, rfl, z, 0, rfl, hz, fun b => ?_, fun b1 b2 => ?_, fun b1 b2 => ?_⟩
    case' refine_2 =>
      unfold termsR lessR at q
      rw [b1, b2] at q
      exact q
    · have q' : rRes K H E (match termR (cds z) 0 with
        | .error j => .error j
        | .ok (x, m, e) => termsGo (cds z) (cds z).length [(x, sgn false m)] e) fun ts => ∀ H' l vs, Same H H' → H' l = some (.lst vs) → PT K l H' vs ts → Q (.ref l) H' := by
        unfold termsR lessR at q
        rw [b] at q
        exact q
      clear q b
      intro H1 r s1 hr_
      refine ⟨r, _, rfl, .inl (.inl hr_), rfl, _, _, rfl, ?_⟩
      refine ⟨_, _, rfl, rfl, ?_⟩
      refine ⟨_, rfl, _, rfl, z, 0, rfl, hz, ?_⟩
      cases e0 : termR (cds z) 0 with
      | error j =>
        simp only [e0] at q'
        exact rPar.same q' s1
      | ok r0 =>
        obtain ⟨x0, m0, en⟩ := r0
        simp only [e0] at q'
        have gt0 := termR_gt e0
        intro H2 t2 s2 ht2
        refine ⟨t2, _, rfl, .inl (.inl ht2), rfl, _, _, rfl, ?_⟩
        refine ⟨_, _, rfl, ?_⟩
        refine ⟨_, _, rfl, rfl, ?_⟩
        refine ⟨_, rfl, _, rfl, _, rfl, ?_⟩
        refine ifF rfl ?_
        refine ⟨_, rfl, by show 2 ≤ sizeLine; decide, fun u fu => ?_⟩
        generalize eH : upd H2 u _ = H5
        have s5 : Same H H5 := by rw [← eH]; exact (s1.trans s2).trans (same_new fu)
        have eu : H5 u = some (.tup [.int (x0 : Nat), .int (sgn false m0)]) := by rw [← eH]; exact upd_same
        clear eH
        refine ⟨by show 1 ≤ sizeLine; decide, fun l fl => ?_⟩
        have un : u ≠ l := by
          rintro rfl
          rw [eu] at fl
          cases fl
        have l0 : H l = none := s5.free fl
        generalize eH : upd H5 l _ = H6
        have s6 : Same H H6 := by rw [← eH]; exact s5.trans (same_new fl)
        have el : H6 l = some (.lst [.ref u]) := by rw [← eH]; exact upd_same
        have pe : PT K l H6 [.ref u] [(x0, sgn false m0)] := .cons ⟨u, rfl, un, by rw [← eH, upd_ne un]; exact eu⟩ .nil
        clear eH
        replace q : rRes K H E (termsGo (cds z) (cds z).length [(x0, sgn false m0)] en) fun ts => ∀ H' l vs, Same H H' → H' l = some (.lst vs) → PT K l H' vs ts → Q (.ref l) H' := q'
        generalize hR : termsGo (cds z) (cds z).length [(x0, sgn false m0)] en = R at q
        refine while_by (fun σ H3 => ∃ (w1 w2 w3 w4 : Option V) (vs : List V) (ts : List (Nat × Int)) (e f : Nat), σ = [some (.str z), w1, w2, w3, w4, some (.int (e : Int)), some (.ref l)] ∧ Same H H3 ∧ H3 l = some (.lst vs) ∧ PT K l H3 vs ts ∧
            termsGo (cds z) f ts e = R ∧ (cds z).length ≤ f + e ∧ ts.length ≤ e)
          (fun σ _ => match σ with | [_, _, _, _, _, some (.int e), _] => ((cds z).length - e).toNat | _ => 0) ?_ ?_ ?_
        · exact ⟨_, _, _, _, [.ref u], _, en, (cds z).length, rfl, s6, el, pe, hR, by omega, by show 1 ≤ en; omega⟩
        · rintro σ H3 ⟨w1, w2, w3, w4, vs, ts, e', f, rfl, s3, h3, p3, gR, fl, rl⟩
          refine ⟨_, rfl, _, rfl, z, rfl, line4000 hz, _, _, rfl, rfl, _, rfl, ?_⟩
          by_cases lt : e' < (cds z).length
          · refine ifT (decide_eq_true (by rw [hl]; omega)) ?_
            obtain ⟨f', rfl⟩ : ∃ f', f = f' + 1 := ⟨f - 1, by omega⟩
            rw [show termsGo (cds z) (f' + 1) ts e' = _ from if_pos lt] at gR
            refine ⟨_, rfl, _, rfl, z, e', 32, rfl, hz, fun b1 => ?_, fun b1 => ?_⟩
            · rw [behind_no b1] at gR
              replace gR : Except.error e' = R := gR
              rw [← gR] at q
              exact rPar.same q s3
            rw [behind_ok b1] at gR
            dsimp only at gR
            refine ⟨_, rfl, _, rfl, z, e' + 1, 45, rfl, hz, ?_⟩
            cases hs45 : isAt (cds z) (e' + 1) 45 with
            | true =>
              refine ⟨_, rfl, _, rfl, _, rfl, _, rfl, ?_⟩
              refine ifT rfl ?_
              refine ⟨z, e' + 1, 45, rfl, hz, fun b2 => ?_, fun b2 => ?_⟩
              · rw [b2] at hs45
                cases hs45
              rw [hs45, if_pos rfl, behind_ok b2] at gR
              dsimp only at gR
              refine ⟨_, rfl, _, rfl, _, rfl, z, e' + 1 + 1, 32, rfl, hz, fun b3 => ?_, fun b3 => ?_⟩
              · rw [behind_no b3] at gR
                replace gR : Except.error (e' + 1 + 1) = R := gR
                rw [← gR] at q
                exact rPar.same q s3
              · rw [behind_ok b3] at gR
                dsimp only at gR
                refine ⟨z, e' + 1 + 1 + 1, rfl, hz, ?_⟩
                replace gR : (match termR (cds z) (e' + 1 + 1 + 1) with
                  | .error j => .error j
                  | .ok (x, m, e3) => termsGo (cds z) f' (ts ++ [(x, sgn true m)]) e3) = R := gR
                cases hs : termR (cds z) (e' + 1 + 1 + 1) with
                | error j =>
                  simp only [hs] at gR
                  rw [← gR] at q
                  exact rPar.same q s3
                | ok r =>
                  obtain ⟨x, m, e3⟩ := r
                  simp only [hs] at gR
                  have gt := termR_gt hs
                  intro H4 t4 s4 ht4
                  have h4 := s4 _ _ h3
                  have p4 := pt_same p3 s4
                  refine ⟨t4, _, rfl, .inl (.inl ht4), rfl, _, _, rfl, ?_⟩
                  refine ⟨_, _, rfl, ?_⟩
                  refine ⟨_, _, rfl, rfl, ?_⟩
                  refine ⟨_, rfl, .inl ⟨rfl, _, .inl (.inl h4)⟩, _, rfl, _, rfl, _, rfl, ?_⟩
                  refine ifT rfl ?_
                  refine ⟨_, rfl, _, rfl, by show 2 ≤ sizeLine; decide, fun u fu => ?_⟩
                  have s5 := same_new fu (o := .tup [.int (x : Nat), .int (sgn true m)])
                  have h5 := s5 _ _ h4
                  have p5 := pt_same p4 s5
                  have eu : (upd H4 u (.tup [.int (x : Nat), .int (sgn true m)])) u = some (.tup [.int (x : Nat), .int (sgn true m)]) := upd_same
                  have un : u ≠ l := by
                    rintro rfl
                    rw [h4] at fu
                    cases fu
                  refine ⟨l, _, _, rfl, rfl, h5, ?_, ?_⟩
                  · rw [pt_len p5, sizeLine_eq]
                    omega
                  refine ⟨⟨_, _, _, _, vs ++ [.ref u], ts ++ [(x, sgn true m)], e3, f', rfl, ?_, upd_same, ?_, gR, by omega, by rw [List.length_append]; show ts.length + 1 ≤ e3; omega⟩, ?_⟩
                  · intro b o hb
                    rw [upd_ne (ne_of_none hb l0)]
                    exact s5 _ _ (s4 _ _ (s3 _ _ hb))
                  · exact pt_upd (pt_add p5 un eu)
                  · show (((cds z).length : Int) - (e3 : Int)).toNat < (((cds z).length : Int) - (e' : Int)).toNat
                    omega
            | false =>
              refine ⟨_, rfl, _, rfl, _, rfl, _, rfl, ?_⟩
              refine ifF rfl ?_
              refine ⟨z, e' + 1, 43, rfl, hz, fun b2 => ?_, fun b2 => ?_⟩
              · rw [hs45, if_neg (by decide), behind_no b2] at gR
                replace gR : Except.error (e' + 1) = R := gR
                rw [← gR] at q
                exact rPar.same q s3
              rw [hs45, if_neg (by decide), behind_ok b2] at gR
              dsimp only at gR
              refine ⟨_, rfl, _, rfl, _, rfl, z, e' + 1 + 1, 32, rfl, hz, fun b3 => ?_, fun b3 => ?_⟩
              · rw [behind_no b3] at gR
                replace gR : Except.error (e' + 1 + 1) = R := gR
                rw [← gR] at q
                exact rPar.same q s3
              · rw [behind_ok b3] at gR
                dsimp only at gR
                refine ⟨z, e' + 1 + 1 + 1, rfl, hz, ?_⟩
                replace gR : (match termR (cds z) (e' + 1 + 1 + 1) with
                  | .error j => .error j
                  | .ok (x, m, e3) => termsGo (cds z) f' (ts ++ [(x, sgn false m)]) e3) = R := gR
                cases hs : termR (cds z) (e' + 1 + 1 + 1) with
                | error j =>
                  simp only [hs] at gR
                  rw [← gR] at q
                  exact rPar.same q s3
                | ok r =>
                  obtain ⟨x, m, e3⟩ := r
                  simp only [hs] at gR
                  have gt := termR_gt hs
                  intro H4 t4 s4 ht4
                  have h4 := s4 _ _ h3
                  have p4 := pt_same p3 s4
                  refine ⟨t4, _, rfl, .inl (.inl ht4), rfl, _, _, rfl, ?_⟩
                  refine ⟨_, _, rfl, ?_⟩
                  refine ⟨_, _, rfl, rfl, ?_⟩
                  refine ⟨_, rfl, .inl ⟨rfl, _, .inl (.inl h4)⟩, _, rfl, _, rfl, _, rfl, ?_⟩
                  refine ifF rfl ?_
                  refine ⟨_, rfl, by show 2 ≤ sizeLine; decide, fun u fu => ?_⟩
                  have s5 := same_new fu (o := .tup [.int (x : Nat), .int (sgn false m)])
                  have h5 := s5 _ _ h4
                  have p5 := pt_same p4 s5
                  have eu : (upd H4 u (.tup [.int (x : Nat), .int (sgn false m)])) u = some (.tup [.int (x : Nat), .int (sgn false m)]) := upd_same
                  have un : u ≠ l := by
                    rintro rfl
                    rw [h4] at fu
                    cases fu
                  refine ⟨l, _, _, rfl, rfl, h5, ?_, ?_⟩
                  · rw [pt_len p5, sizeLine_eq]
                    omega
                  refine ⟨⟨_, _, _, _, vs ++ [.ref u], ts ++ [(x, sgn false m)], e3, f', rfl, ?_, upd_same, ?_, gR, by omega, by rw [List.length_append]; show ts.length + 1 ≤ e3; omega⟩, ?_⟩
                  · intro b o hb
                    rw [upd_ne (ne_of_none hb l0)]
                    exact s5 _ _ (s4 _ _ (s3 _ _ hb))
                  · exact pt_upd (pt_add p5 un eu)
                  · show (((cds z).length : Int) - (e3 : Int)).toNat < (((cds z).length : Int) - (e' : Int)).toNat
                    omega
          · refine ifF (decide_eq_false (by rw [hl]; omega)) ?_
            rw [termsGo_end lt] at gR
            rw [← gR] at q
            have lz : z.length = (cds z).length := hl
            exact ⟨_, rfl, q _ l vs s3 h3 p3⟩
        · rintro σ H2 Q1 Q2 mono ⟨x1, h1, x2, h2, z', hz', lz, a, b, e1, e2, c, hc, h3⟩
          exact ⟨x1, h1, x2, h2, z', hz', lz, a, b, e1, e2, c, hc, mono _ _ h3⟩
    · have q' : rRes K H E (match termR (cds z) 1 with
        | .error j => .error j
        | .ok (x, m, e) => termsGo (cds z) (cds z).length [(x, sgn true m)] e) fun ts => ∀ H' l vs, Same H H' → H' l = some (.lst vs) → PT K l H' vs ts → Q (.ref l) H' := by
        unfold termsR lessR at q
        rw [b1, b2] at q
        exact q
      clear q b1 b2
      intro H1 r s1 hr_
      refine ⟨r, _, rfl, .inl (.inl hr_), rfl, _, _, rfl, ?_⟩
      refine ⟨_, _, rfl, rfl, ?_⟩
      refine ⟨_, rfl, _, rfl, z, 1, rfl, hz, ?_⟩
      cases e0 : termR (cds z) 1 with
      | error j =>
        simp only [e0] at q'
        exact rPar.same q' s1
      | ok r0 =>
        obtain ⟨x0, m0, en⟩ := r0
        simp only [e0] at q'
        have gt0 := termR_gt e0
        intro H2 t2 s2 ht2
        refine ⟨t2, _, rfl, .inl (.inl ht2), rfl, _, _, rfl, ?_⟩
        refine ⟨_, _, rfl, ?_⟩
        refine ⟨_, _, rfl, rfl, ?_⟩
        refine ⟨_, rfl, _, rfl, _, rfl, ?_⟩
        refine ifT rfl ?_
        refine ⟨_, rfl, _, rfl, by show 2 ≤ sizeLine; decide, fun u fu => ?_⟩
        generalize eH : upd H2 u _ = H5
        have s5 : Same H H5 := by rw [← eH]; exact (s1.trans s2).trans (same_new fu)
        have eu : H5 u = some (.tup [.int (x0 : Nat), .int (sgn true m0)]) := by rw [← eH]; exact upd_same
        clear eH
        refine ⟨by show 1 ≤ sizeLine; decide, fun l fl => ?_⟩
        have un : u ≠ l := by
          rintro rfl
          rw [eu] at fl
          cases fl
        have l0 : H l = none := s5.free fl
        generalize eH : upd H5 l _ = H6
        have s6 : Same H H6 := by rw [← eH]; exact s5.trans (same_new fl)
        have el : H6 l = some (.lst [.ref u]) := by rw [← eH]; exact upd_same
        have pe : PT K l H6 [.ref u] [(x0, sgn true m0)] := .cons ⟨u, rfl, un, by rw [← eH, upd_ne un]; exact eu⟩ .nil
        clear eH
        replace q : rRes K H E (termsGo (cds z) (cds z).length [(x0, sgn true m0)] en) fun ts => ∀ H' l vs, Same H H' → H' l = some (.lst vs) → PT K l H' vs ts → Q (.ref l) H' := q'
        generalize hR : termsGo (cds z) (cds z).length [(x0, sgn true m0)] en = R at q
        refine while_by (fun σ H3 => ∃ (w1 w2 w3 w4 : Option V) (vs : List V) (ts : List (Nat × Int)) (e f : Nat), σ = [some (.str z), w1, w2, w3, w4, some (.int (e : Int)), some (.ref l)] ∧ Same H H3 ∧ H3 l = some (.lst vs) ∧ PT K l H3 vs ts ∧
            termsGo (cds z) f ts e = R ∧ (cds z).length ≤ f + e ∧ ts.length ≤ e)
          (fun σ _ => match σ with | [_, _, _, _, _, some (.int e), _] => ((cds z).length - e).toNat | _ => 0) ?_ ?_ ?_
        · exact ⟨_, _, _, _, [.ref u], _, en, (cds z).length, rfl, s6, el, pe, hR, by omega, by show 1 ≤ en; omega⟩
        · rintro σ H3 ⟨w1, w2, w3, w4, vs, ts, e', f, rfl, s3, h3, p3, gR, fl, rl⟩
          refine ⟨_, rfl, _, rfl, z, rfl, line4000 hz, _, _, rfl, rfl, _, rfl, ?_⟩
          by_cases lt : e' < (cds z).length
          · refine ifT (decide_eq_true (by rw [hl]; omega)) ?_
            obtain ⟨f', rfl⟩ : ∃ f', f = f' + 1 := ⟨f - 1, by omega⟩
            rw [show termsGo (cds z) (f' + 1) ts e' = _ from if_pos lt] at gR
            refine ⟨_, rfl, _, rfl, z, e', 32, rfl, hz, fun b1 => ?_, fun b1 => ?_⟩
            · rw [behind_no b1] at gR
              replace gR : Except.error e' = R := gR
              rw [← gR] at q
              exact rPar.same q s3
            rw [behind_ok b1] at gR
            dsimp only at gR
            refine ⟨_, rfl, _, rfl, z, e' + 1, 45, rfl, hz, ?_⟩
            cases hs45 : isAt (cds z) (e' + 1) 45 with
            | true =>
              refine ⟨_, rfl, _, rfl, _, rfl, _, rfl, ?_⟩
              refine ifT rfl ?_
              refine ⟨z, e' + 1, 45, rfl, hz, fun b2 => ?_, fun b2 => ?_⟩
              · rw [b2] at hs45
                cases hs45
              rw [hs45, if_pos rfl, behind_ok b2] at gR
              dsimp only at gR
              refine ⟨_, rfl, _, rfl, _, rfl, z, e' + 1 + 1, 32, rfl, hz, fun b3 => ?_, fun b3 => ?_⟩
              · rw [behind_no b3] at gR
                replace gR : Except.error (e' + 1 + 1) = R := gR
                rw [← gR] at q
                exact rPar.same q s3
              · rw [behind_ok b3] at gR
                dsimp only at gR
                refine ⟨z, e' + 1 + 1 + 1, rfl, hz, ?_⟩
                replace gR : (match termR (cds z) (e' + 1 + 1 + 1) with
                  | .error j => .error j
                  | .ok (x, m, e3) => termsGo (cds z) f' (ts ++ [(x, sgn true m)]) e3) = R := gR
                cases hs : termR (cds z) (e' + 1 + 1 + 1) with
                | error j =>
                  simp only [hs] at gR
                  rw [← gR] at q
                  exact rPar.same q s3
                | ok r =>
                  obtain ⟨x, m, e3⟩ := r
                  simp only [hs] at gR
                  have gt := termR_gt hs
                  intro H4 t4 s4 ht4
                  have h4 := s4 _ _ h3
                  have p4 := pt_same p3 s4
                  refine ⟨t4, _, rfl, .inl (.inl ht4), rfl, _, _, rfl, ?_⟩
                  refine ⟨_, _, rfl, ?_⟩
                  refine ⟨_, _, rfl, rfl, ?_⟩
                  refine ⟨_, rfl, .inl ⟨rfl, _, .inl (.inl h4)⟩, _, rfl, _, rfl, _, rfl, ?_⟩
                  refine ifT rfl ?_
                  refine ⟨_, rfl, _, rfl, by show 2 ≤ sizeLine; decide, fun u fu => ?_⟩
                  have s5 := same_new fu (o := .tup [.int (x : Nat), .int (sgn true m)])
                  have h5 := s5 _ _ h4
                  have p5 := pt_same p4 s5
                  have eu : (upd H4 u (.tup [.int (x : Nat), .int (sgn true m)])) u = some (.tup [.int (x : Nat), .int (sgn true m)]) := upd_same
                  have un : u ≠ l := by
                    rintro rfl
                    rw [h4] at fu
                    cases fu
                  refine ⟨l, _, _, rfl, rfl, h5, ?_, ?_⟩
                  · rw [pt_len p5, sizeLine_eq]
                    omega
                  refine ⟨⟨_, _, _, _, vs ++ [.ref u], ts ++ [(x, sgn true m)], e3, f', rfl, ?_, upd_same, ?_, gR, by omega, by rw [List.length_append]; show ts.length + 1 ≤ e3; omega⟩, ?_⟩
                  · intro b o hb
                    rw [upd_ne (ne_of_none hb l0)]
                    exact s5 _ _ (s4 _ _ (s3 _ _ hb))
                  · exact pt_upd (pt_add p5 un eu)
                  · show (((cds z).length : Int) - (e3 : Int)).toNat < (((cds z).length : Int) - (e' : Int)).toNat
                    omega
            | false =>
              refine ⟨_, rfl, _, rfl, _, rfl, _, rfl, ?_⟩
              refine ifF rfl ?_
              refine ⟨z, e' + 1, 43, rfl, hz, fun b2 => ?_, fun b2 => ?_⟩
              · rw [hs45, if_neg (by decide), behind_no b2] at gR
                replace gR : Except.error (e' + 1) = R := gR
                rw [← gR] at q
                exact rPar.same q s3
              rw [hs45, if_neg (by decide), behind_ok b2] at gR
              dsimp only at gR
              refine ⟨_, rfl, _, rfl, _, rfl, z, e' + 1 + 1, 32, rfl, hz, fun b3 => ?_, fun b3 => ?_⟩
              · rw [behind_no b3] at gR
                replace gR : Except.error (e' + 1 + 1) = R := gR
                rw [← gR] at q
                exact rPar.same q s3
              · rw [behind_ok b3] at gR
                dsimp only at gR
                refine ⟨z, e' + 1 + 1 + 1, rfl, hz, ?_⟩
                replace gR : (match termR (cds z) (e' + 1 + 1 + 1) with
                  | .error j => .error j
                  | .ok (x, m, e3) => termsGo (cds z) f' (ts ++ [(x, sgn false m)]) e3) = R := gR
                cases hs : termR (cds z) (e' + 1 + 1 + 1) with
                | error j =>
                  simp only [hs] at gR
                  rw [← gR] at q
                  exact rPar.same q s3
                | ok r =>
                  obtain ⟨x, m, e3⟩ := r
                  simp only [hs] at gR
                  have gt := termR_gt hs
                  intro H4 t4 s4 ht4
                  have h4 := s4 _ _ h3
                  have p4 := pt_same p3 s4
                  refine ⟨t4, _, rfl, .inl (.inl ht4), rfl, _, _, rfl, ?_⟩
                  refine ⟨_, _, rfl, ?_⟩
                  refine ⟨_, _, rfl, rfl, ?_⟩
                  refine ⟨_, rfl, .inl ⟨rfl, _, .inl (.inl h4)⟩, _, rfl, _, rfl, _, rfl, ?_⟩
                  refine ifF rfl ?_
                  refine ⟨_, rfl, by show 2 ≤ sizeLine; decide, fun u fu => ?_⟩
                  have s5 := same_new fu (o := .tup [.int (x : Nat), .int (sgn false m)])
                  have h5 := s5 _ _ h4
                  have p5 := pt_same p4 s5
                  have eu : (upd H4 u (.tup [.int (x : Nat), .int (sgn false m)])) u = some (.tup [.int (x : Nat), .int (sgn false m)]) := upd_same
                  have un : u ≠ l := by
                    rintro rfl
                    rw [h4] at fu
                    cases fu
                  refine ⟨l, _, _, rfl, rfl, h5, ?_, ?_⟩
                  · rw [pt_len p5, sizeLine_eq]
                    omega
                  refine ⟨⟨_, _, _, _, vs ++ [.ref u], ts ++ [(x, sgn false m)], e3, f', rfl, ?_, upd_same, ?_, gR, by omega, by rw [List.length_append]; show ts.length + 1 ≤ e3; omega⟩, ?_⟩
                  · intro b o hb
                    rw [upd_ne (ne_of_none hb l0)]
                    exact s5 _ _ (s4 _ _ (s3 _ _ hb))
                  · exact pt_upd (pt_add p5 un eu)
                  · show (((cds z).length : Int) - (e3 : Int)).toNat < (((cds z).length : Int) - (e' : Int)).toNat
                    omega
          · refine ifF (decide_eq_false (by rw [hl]; omega)) ?_
            rw [termsGo_end lt] at gR
            rw [← gR] at q
            have lz : z.length = (cds z).length := hl
            exact ⟨_, rfl, q _ l vs s3 h3 p3⟩
        · rintro σ H2 Q1 Q2 mono ⟨x1, h1, x2, h2, z', hz', lz, a, b, e1, e2, c, hc, h3⟩
          exact ⟨x1, h1, x2, h2, z', hz', lz, a, b, e1, e2, c, hc, mono _ _ h3⟩
end
end K87


set_option Elab.async false
set_option linter.all false
set_option maxRecDepth 100000
set_option maxHeartbeats 2000000
namespace K87
open PySem PySem.Spec PyProof.Rows L2 MM PySem.NumText
/-! own words for the readings: a step, its side -/
local macro_rules | `(tactic| walk_at "side") => `(tactic| first
  | omega
  | exact ⟨by omega, by omega⟩
  | exact Or.inl ⟨by omega, by omega⟩
  | exact Or.inr ⟨by omega, by omega⟩
  | (show CPw _ _; decide +kernel)
  | (show (0 : Int) < _; decide +kernel)
  | (show CDivW _ _; first | assumption | exact ⟨by decide, by decide +kernel⟩))
local macro_rules | `(tactic| walk_at "here") => `(tactic| first
  | assumption
  | exact upd_same
  | exact Or.inl (Or.inl upd_same)
  | exact Or.inl upd_same)
local macro_rules | `(tactic| walk_at "one") => `(tactic| first
  | refine ⟨_, rfl, ?_⟩
  | refine Or.inl ⟨_, rfl, ?_⟩
  | refine Or.inr ⟨_, rfl, ?_⟩
  | refine ⟨_, _, rfl, rfl, (by walk_at "side"), ?_⟩
  | refine ⟨_, _, rfl, rfl, ?_⟩
  | refine ⟨_, _, rfl, Or.inl (by walk_at "here"), ?_⟩
  | refine ⟨_, _, rfl, Or.inr (by walk_at "here"), ?_⟩
  | refine ⟨_, _, rfl, (by walk_at "here"), ?_⟩
  | refine ⟨_, _, _, _, rfl, rfl, (by walk_at "here"), rfl, ?_⟩
  | refine ⟨_, _, rfl, ?_⟩
  | refine ifT (by rfl) ?_
  | refine ifF (by rfl) ?_
  | refine ifT (decide_eq_true (by omega)) ?_
  | refine ifF (decide_eq_false (by omega)) ?_)
local macro_rules | `(tactic| walk_at "st") => `(tactic| repeat (walk_at "one"))

section
variable {P : Program} {w : World} {K : PySem.W.Frag} {mg : Str → Option Value} {base : Heap}
/-- the error for the number y -/
abbrev rNum (K : PySem.W.Frag) (H : Hp) (y : V) (E : XK) : Prop := ∀ H' d, Same H H' → H d = none → H' d = some (.xd [("given", y)]) → E (.ref (ga K "InvalidNumber")) (some d) H'
/-- need_between(x, l, m), both ways -/
def spBetw (K : PySem.W.Frag) : Sp := fun vs H Q E => ∃ x n l m, vs = [x, .int l, .int m] ∧ Kd K H x n ∧ (isB x l m = false → rNum K H x E) ∧ (isB x l m = true → Q .non H)
theorem bNeedBetween (T : Tx K mg) (Y : Ex K mg) (DIsBetween : Def P w K mg base CX0 2 "is_between" ["value", "least", "most"] (spIsBetween K)) : Def P w K mg base (L2.CX P w) 3 "need_between" ["value", "least", "most"] (spBetw K) := by
  refine T.t_need_between.defX (N := ["value", "least", "most"]) scNeedBetween (fun _ _ _ _ _ _ us hl => match us, hl with | [_, _, _], _ => rfl) ?_ ?_
  · intro vs H Q E h
    obtain ⟨x, n, l, m, rfl, _⟩ := h
    rfl
  · intro f cd A out s H vs Q E hr h
    have hr1 : Rm 2 _ := hr.le (by decide)
    have tk : Takes (cxOf (L2.CX P w) P w K mg base ["value", "least", "most"] "need_between" (defScope sNeedBetween) f cd A out s H E) (fun cls d _ H1 => E cls d H1) := takes_of rfl rfl rfl rfl
    obtain ⟨x, n, l, m, rfl, hk, q1, q2⟩ := h
    refine ⟨_, (pss_one (ps_if (pt_not (pt_val (pe_d DIsBetween (hr1.le (by decide)) pass0 (pa_cons (pv 0) (pa_cons (pv 1) (pa_cons (pv 2) pa_nil)))))) (pss_one (ps_num Y rfl tk (hr.le (by decide)) (pa_cons (pv 0) pa_nil))) pss_nil)), ?_⟩
    refine ⟨_, rfl, _, rfl, _, rfl, x, n, l, m, rfl, hk, _, rfl, ?_⟩
    cases b : isB x l m with
    | false => exact ifT rfl ⟨_, rfl, x, rfl, fun d hd => q1 b _ d (same_new hd) hd upd_same⟩
    | true => exact ifF rfl (q2 b)
/-- terms added up -/
def addT (ks : List Int) : List (Nat × Int) → Option (List Int)
  | [] => some ks
  | (i, m) :: r => if i < ks.length then addT (ks.set i (ks.getD i 0 + m)) r else none
def kindsT (cs : List Nat) : Rd (List (Nat × Int)) := if cs = [48] then .ok [] else termsR cs
abbrev rKs (K : PySem.W.Frag) (H : Hp) (E : XK) : Prop := ∀ H', Same H H' → E (.ref (ga K "InvalidKinds")) none H'
/-- what the terms tell -/
def endK (K : PySem.W.Frag) (H : Hp) (Q : VK) (E : XK) : Option (List Int) → Prop
  | none => rKs K H E
  | some ks => if (ks.all fun k => isI (.int k)) = true then (∀ H' t, Same H H' → SqT K H' t (ks.map V.int) → Q (.ref t) H') else rKs K H E
theorem zero_text (z : Str) : decide (V.str z = V.str "0") = decide (cds z = [48]) := by
  refine decide_eq_decide.mpr ⟨fun h => ?_, fun h => ?_⟩
  · injection h with h
    rw [h]
    decide +kernel
  · congr 1
    obtain ⟨a⟩ := z
    have e : a = #[48] := by
      apply Array.ext'
      exact h
    rw [e]
    rfl
theorem range_const {α : Type} (n : Nat) (c : α) : ((List.range n).map fun _ => c) = List.replicate n c := by
  refine List.ext_getElem ?_ ?_
  · simp
  · intro i h1 h2
    simp
theorem ixN_in {n j : Nat} (h : j < n) : ixN n (j : Int) = some j := by
  show (if 0 ≤ (j : Int) then _ else _) = _
  rw [if_pos (Int.natCast_nonneg j), if_pos (by omega), Int.toNat_natCast]
theorem paired_at {α β : Type} {R : α → β → Prop} : ∀ {us : List α} {os : List β}, Paired R us os → ∀ {i : Nat} {u : α}, us[i]? = some u → ∃ o, os[i]? = some o ∧ R u o
  | _, _, .nil, i, _, h => by cases h
  | _, _, .cons r t, 0, _, h => ⟨_, rfl, by cases h; exact r⟩
  | _, _, .cons r t, i + 1, _, h => paired_at t h
def spReadKinds (K : PySem.W.Frag) : Sp := fun vs H Q E => ∃ x n y m, vs = [x, y] ∧ Kd K H x n ∧ Kd K H y m ∧ (∀ z, x = .str z → z.length ≤ 4000) ∧ (okT x = false → rPar K H 0 E) ∧
  (okT x = true → isB y 1 60 = false → rNum K H y E) ∧
  (∀ (z : Str) (len : Nat), x = .str z → okT x = true → y = .int (len : Int) → 1 ≤ len → len ≤ 60 → rRes K H E (kindsT (cds z)) fun ts => endK K H Q E (addT (List.replicate len 0) ts))
theorem scReadKinds : FnScope ["text", "length", "terms", "kinds", "_", "index", "many"] ["text", "length"] (defScope sReadKinds) :=
  ⟨rfl, rfl, rfl, by decide +kernel, rfl, by decide +kernel, by decide +kernel⟩
theorem bReadKinds (T : Tx K mg) (Y : Ex K mg) (DIsInteger : Def P w K mg base CX0 2 "is_integer" ["value"] (spIsInteger K)) (BNeedText : Def P w K mg base (L2.CX P w) 3 "_need_text" ["text"] (spNeedText K)) (BNeedBetween : Def P w K mg base (L2.CX P w) 3 "need_between" ["value", "least", "most"] (spBetw K)) (BReadTerms : Def P w K mg base (L2.CX P w) 5 "_read_terms" ["text"] (spTerms K)) : Def P w K mg base (L2.CX P w) 6 "read_kinds" ["text", "length"] (spReadKinds K) := by
  refine T.t_read_kinds.defX (N := ["text", "length", "terms", "kinds", "_", "index", "many"]) scReadKinds (fun _ _ _ _ _ _ us hl => match us, hl with | [_, _], _ => rfl) ?_ ?_
  · intro vs H Q E h
    obtain ⟨x, n, y, m, rfl, _⟩ := h
    rfl
  · intro f cd A out s H vs Q E hr h
    have hr1 : Rm 2 _ := hr.le (by decide)
    have hr2 : Rm 5 _ := hr.le (by decide)
    have tk : Takes (cxOf (L2.CX P w) P w K mg base ["text", "length", "terms", "kinds", "_", "index", "many"] "read_kinds" (defScope sReadKinds) f cd A out s H E) (fun cls d _ H1 => E cls d H1) := takes_of rfl rfl rfl rfl
    obtain ⟨x, n, y, m, rfl, hk, hm, hz, q1, q2, q3⟩ := h
    refine ⟨_, (pss_cons (ps_expr (ME.pe_dS BNeedText (hr2.le (by decide)) (passAt tk) (pa_cons (pv 0) pa_nil)))
      (pss_cons (ps_expr (ME.pe_dS BNeedBetween (hr2.le (by decide)) (passAt tk) (pa_cons (pv 1) (pa_cons pe_int (pa_cons (C8.pe_gc rfl T.c_MOST_MEMBERS) pa_nil)))))
      (pss_cons (ps_set (i := 2) scReadKinds.nd rfl (Or.inl rfl) (pe_ifExp (pt_cmpR op_ne (pv 0) pe_str (nomark _)) (ME.pe_dS BReadTerms (hr2.le (by decide)) (passAt tk) (pa_cons (pv 0) pa_nil)) (pe_lst pa_nil)))
      (pss_cons (ps_setLc (i := 3) (own := [("_", 4)]) (g := gName 4) (tt := tYes) rfl scReadKinds.nd rfl rfl (sw_true rfl rfl rfl rfl) (pi_range1 rfl T.f_range (pa_cons (pv 1) pa_nil)) (blkOk_by (N := ["text", "length", "terms", "kinds", "_", "index", "many"]) (sc := defScope sReadKinds) (by decide +kernel)) (fun _ _ _ _ _ => pg_name (i := 4) scReadKinds.nd rfl (Or.inl rfl)) (fun _ _ _ _ _ => pts_nil) (fun _ _ _ _ _ => pe_int))
      (pss_cons (ps_for (passes_of rfl) rfl (pi_list (pv 2)) (pg_tup rfl (pgs_cons (pg_name (i := 5) scReadKinds.nd rfl (Or.inl rfl)) (pgs_cons (pg_name (i := 6) scReadKinds.nd rfl (Or.inl rfl)) pgs_nil)))
        (pss_cons (ps_if (pt_cmpR op_ge (pv 5) (pv 1) (nomark _)) (pss_one (ps_plain Y.ks rfl tk)) pss_nil)
        (pss_one (ps_asg (pe_op op_add (pe_ix ix_list (pv 3) (pv 5) (fun _ _ => rfl)) (pv 6)) (pg_sub (pv 3) (pv 5) set_list)))))
      (pss_cons (ps_if (pt_not (pt_val (pe_callB (cr_all rfl) rfl T.f_all (by decide +kernel) (pa_cons (pe_lc (own := [("many", 6)]) (g := gName 6) (tt := tYes) rfl scReadKinds.nd (pi_list (pv 3)) (blkOk_by (N := ["text", "length", "terms", "kinds", "_", "index", "many"]) (sc := defScope sReadKinds) (by decide +kernel)) (fun _ _ _ _ _ => pg_name (i := 6) scReadKinds.nd rfl (Or.inl rfl)) (fun _ _ _ _ _ => pts_nil) (fun _ _ _ _ _ => (pe_d DIsInteger (hr1.le (by decide)) pass0 (pa_cons (pv 6) pa_nil)))) pa_nil)))) (pss_one (ps_plain Y.ks rfl tk)) pss_nil)
      (pss_one (ps_ret (pe_callTy call_tuple_of rfl T.f_tuple (by decide +kernel) (pa_cons (pv 3) pa_nil)))))))))), ?_⟩
    refine ⟨_, rfl, x, n, rfl, hk, hz, q1, fun b => ?_⟩
    refine ⟨_, rfl, y, m, 1, 60, rfl, hm, q2 b, fun b2 => ?_⟩
    obtain ⟨z, rfl⟩ : ∃ z, x = .str z := by
      cases hk <;> first | exact ⟨_, rfl⟩ | cases b
    obtain ⟨len, rfl, l1, l2⟩ : ∃ len : Nat, y = .int (len : Int) ∧ 1 ≤ len ∧ len ≤ 60 := by
      cases hm <;> first | cases b2 | skip
      rename_i i
      have h2 : (decide (1 ≤ i) && decide (i ≤ 60)) = true := b2
      rw [Bool.and_eq_true, decide_eq_true_eq, decide_eq_true_eq] at h2
      exact ⟨i.toNat, by congr 1; omega, by omega, by omega⟩
    have q := q3 z len rfl b rfl l1 l2
    have z4 := hz z rfl
    clear q1 q2 q3
    refine ⟨_, rfl, rfl, ?_⟩
    refine ⟨_, rfl, ?_⟩
    rw [zero_text]
    by_cases c0 : cds z = [48]
    case' neg =>
      refine ifT (by rw [decide_eq_false c0]; rfl) ?_
      refine ⟨_, rfl, z, rfl, z4, ?_⟩
      unfold kindsT at q
      rw [if_neg c0] at q
      cases et : termsR (cds z)
      case' error j =>
        rw [et] at q
        exact q
      rename_i ts
      rw [et] at q
      intro H5 l vs s5 el pe
    case' pos =>
      refine ifF (by rw [decide_eq_true c0]; rfl) ?_
      refine ⟨Nat.zero_le _, fun l fl => ?_⟩
      obtain ⟨ts, hts⟩ : ∃ ts : List (Nat × Int), ts = [] := ⟨_, rfl⟩
      obtain ⟨vs, hvs⟩ : ∃ vs : List V, vs = [] := ⟨_, rfl⟩
      unfold kindsT at q
      rw [if_pos c0, ← hts] at q
      generalize eH : upd H l _ = H5
      have s5 : Same H H5 := by rw [← eH]; exact same_new fl
      have el : H5 l = some (.lst vs) := by rw [← eH, hvs]; exact upd_same
      have pe : PT K l H5 vs ts := by
        rw [hts, hvs]
        exact .nil
    all_goals
      replace q : endK K H Q E (addT (List.replicate len 0) ts) := q
      refine ⟨_, rfl, (len : Int), rfl, by omega, by omega, fun D nD => ?_⟩
      refine lc_rng (fun _ => .int 0) (Nat.le_trans (by omega : _ ≤ 60) (by decide)) (fun i acc hi Q' q' => q') ?_
      have S6 : Same H (upd H5 D (.lst ((List.range ((len : Int)).toNat).map fun _ => V.int 0))) := s5.trans (same_new nD)
      have eD : (upd H5 D (.lst ((List.range ((len : Int)).toNat).map fun _ => V.int 0))) D = some (.lst ((List.replicate len (0 : Int)).map V.int)) := by
        rw [upd_same]
        congr 2
        rw [Int.toNat_natCast, List.map_replicate]
        exact range_const len (V.int 0)
      have S5 : Same H5 (upd H5 D (.lst ((List.range ((len : Int)).toNat).map fun _ => V.int 0))) := same_new nD
      generalize upd H5 D _ = H6 at S6 eD S5 ⊢
      have kl0 : (List.replicate len (0 : Int)).length = len := List.length_replicate
      generalize List.replicate len (0 : Int) = k0 at q eD kl0
      generalize hR : addT k0 ts = R at q
      have tl := pt_len pe
      refine ⟨_, rfl, l, rfl, ⟨_, .inl (.inl (S5 _ _ el))⟩, for_list (K := K) (a := l) (xs := vs) (fun i σ H7 => Same H5 H7 ∧ (∃ ks : List Int, H7 D = some (.lst (ks.map V.int)) ∧ ks.length = len ∧ addT ks (ts.drop i) = R) ∧
          ∃ w1 w2 w3, σ = [some (.str z), some (.int (len : Int)), some (.ref l), some (.ref D), w1, w2, w3]) ⟨S5, ⟨k0, eD, kl0, hR⟩, _, _, _, rfl⟩ (fun i σ H7 _ h => .inl (.inl (h.1 _ _ el))) ?_ ?_⟩
      · rintro i x σ H7 hx ⟨S7, ⟨ks, hD, kl, gR⟩, w1, w2, w3, rfl⟩
        obtain ⟨lx, ex⟩ := List.getElem?_eq_some_iff.mp hx
        have lt : i < ts.length := by omega
        obtain ⟨p, hp, a, rfl, na, ea⟩ := paired_at pe hx
        have dr : ts.drop i = p :: ts.drop (i + 1) := by
          obtain ⟨lt2, e2⟩ := List.getElem?_eq_some_iff.mp hp
          rw [← e2]
          exact List.drop_eq_getElem_cons lt2
        rw [dr] at gR
        obtain ⟨ix, m⟩ := p
        refine ⟨a, _, rfl, .inl (.inl (S7 _ _ ea)), rfl, _, _, rfl, ?_⟩
        refine ⟨_, _, rfl, rfl, ?_⟩
        refine ⟨_, rfl, _, rfl, _, _, rfl, rfl, _, rfl, ?_⟩
        by_cases c : ix < len
        · refine ifF (decide_eq_false (by omega)) ?_
          rw [show addT ks ((ix, m) :: ts.drop (i + 1)) = addT (ks.set ix (ks.getD ix 0 + m)) (ts.drop (i + 1)) from if_pos (by rw [kl]; exact c)] at gR
          have gd : (ks.map V.int)[ix]? = some (.int (ks.getD ix 0)) := by
            rw [List.getElem?_map, List.getD_eq_getElem?_getD, List.getElem?_eq_getElem (by omega)]
            rfl
          refine ⟨_, rfl, _, rfl, D, _, _, _, rfl, rfl, .inl (.inl hD), atI_nat gd, _, rfl, _, _, rfl, rfl, ?_⟩
          refine ⟨_, rfl, _, rfl, D, _, (ix : Int), ix, rfl, rfl, hD, ixN_in (by rw [List.length_map]; omega), ?_⟩
          refine ⟨?_, ⟨ks.set ix (ks.getD ix 0 + m), ?_, by rw [List.length_set]; exact kl, gR⟩, _, _, _, rfl⟩
          · intro b o hb
            rw [upd_ne (ne_of_none hb nD)]
            exact S7 _ _ hb
          · rw [upd_same, List.map_set]
        · refine ifT (decide_eq_true (by omega)) ?_
          rw [show addT ks ((ix, m) :: ts.drop (i + 1)) = none from if_neg (by rw [kl]; exact c)] at gR
          rw [← gR] at q
          exact q _ (s5.trans S7)
      · rintro σ H7 ⟨S7, ⟨ks, hD, kl, gR⟩, w1, w2, w3, rfl⟩
        rw [tl, List.drop_length] at gR
        replace gR : some ks = R := gR
        rw [← gR] at q
        refine ⟨_, rfl, D, rfl, ⟨_, .inl (.inl hD)⟩, fun D2 nD2 => ?_⟩
        refine lc_seq (fun x => .bl (isI x)) (.inl (.inl hD)) nD2 (by rw [List.length_map, kl]; exact Nat.le_trans l2 (by decide)) ?_ ?_
        · intro x acc hx Q' q'
          obtain ⟨k, _, rfl⟩ := List.mem_map.mp hx
          exact ⟨_, rfl, _, _, rfl, .int k, q'⟩
        have S8 := same_new nD2 (o := .lst ((ks.map V.int).map fun x => V.bl (isI x)))
        have hD8 := S8 _ _ hD
        have e2 : (upd H7 D2 (.lst ((ks.map V.int).map fun x => V.bl (isI x)))) D2 = some (.lst ((ks.map V.int).map fun x => V.bl (isI x))) := upd_same
        generalize upd H7 D2 (.lst ((ks.map V.int).map fun x => V.bl (isI x))) = H8 at S8 hD8 e2 ⊢
        refine ⟨D2, (ks.map V.int).map isI, rfl, .inl (.inl (Eq.trans e2 ?_)), ?_⟩
        · rw [List.map_map, List.map_map, List.map_map]
          rfl
        refine ⟨_, rfl, ?_⟩
        have ev : ((ks.map V.int).map isI).all id = ks.all fun k => isI (.int k) := by
          rw [List.all_map, List.all_map]
          rfl
        rw [ev]
        have S := (s5.trans S7).trans S8
        cases ba : ks.all fun k => isI (.int k) with
        | false =>
          refine ifT rfl ?_
          unfold endK at q
          simp only [ba] at q
          exact q _ S
        | true =>
          refine ifF rfl ?_
          unfold endK at q
          simp only [ba] at q
          exact ⟨_, rfl, D, _, rfl, .inl ⟨.inl (.inl hD8), fun t ft => q _ t (S.trans (same_new ft)) (.inl (.inl upd_same))⟩⟩
end
end K87


set_option Elab.async false
set_option linter.all false
set_option maxRecDepth 100000
set_option maxHeartbeats 2000000
namespace K87
open PySem PySem.Spec PyProof.Rows L2 MM PySem.NumText
/-! own words for the readings: a step, its side -/
local macro_rules | `(tactic| walk_at "side") => `(tactic| first
  | omega
  | exact ⟨by omega, by omega⟩
  | exact Or.inl ⟨by omega, by omega⟩
  | exact Or.inr ⟨by omega, by omega⟩
  | (show CPw _ _; decide +kernel)
  | (show (0 : Int) < _; decide +kernel)
  | (show CDivW _ _; first | assumption | exact ⟨by decide, by decide +kernel⟩))
local macro_rules | `(tactic| walk_at "here") => `(tactic| first
  | assumption
  | exact upd_same
  | exact Or.inl (Or.inl upd_same)
  | exact Or.inl upd_same)
local macro_rules | `(tactic| walk_at "one") => `(tactic| first
  | refine ⟨_, rfl, ?_⟩
  | refine Or.inl ⟨_, rfl, ?_⟩
  | refine Or.inr ⟨_, rfl, ?_⟩
  | refine ⟨_, _, rfl, rfl, (by walk_at "side"), ?_⟩
  | refine ⟨_, _, rfl, rfl, ?_⟩
  | refine ⟨_, _, rfl, Or.inl (by walk_at "here"), ?_⟩
  | refine ⟨_, _, rfl, Or.inr (by walk_at "here"), ?_⟩
  | refine ⟨_, _, rfl, (by walk_at "here"), ?_⟩
  | refine ⟨_, _, _, _, rfl, rfl, (by walk_at "here"), rfl, ?_⟩
  | refine ⟨_, _, rfl, ?_⟩
  | refine ifT (by rfl) ?_
  | refine ifF (by rfl) ?_
  | refine ifT (decide_eq_true (by omega)) ?_
  | refine ifF (decide_eq_false (by omega)) ?_)
local macro_rules | `(tactic| walk_at "st") => `(tactic| repeat (walk_at "one"))

section
variable {P : Program} {w : World} {K : PySem.W.Frag} {mg : Str → Option Value} {base : Heap}
def toI : V → Int
  | .int i => i
  | _ => 0
def isArr (n : Nat) : Option (List V) → Bool
  | some xs => decide (xs.length = n) && ((xs.map fun x => isB x 0 ((n : Int) - 1)).all id && decide ((xs.map toI).Nodup))
  | none => false
theorem isArr_some (n : Nat) (xs : List V) : isArr n (some xs) = (decide (xs.length = n) && ((xs.map fun x => isB x 0 ((n : Int) - 1)).all id && decide ((xs.map toI).Nodup))) := rfl
def spArr (K : PySem.W.Frag) : Sp := fun vs H Q _ => ∃ (n : Nat) (x : V) (o : Option (List V)), vs = [.int (n : Int), x] ∧ Rv K H x o ∧ n ≤ 1000 ∧ ∀ H', Same H H' → Q (.bl (isArr n o)) H'
theorem ints_back {xs : List V} {n : Int} (h : (xs.map fun x => isB x 0 n).all id = true) : xs = (xs.map toI).map V.int := by
  rw [List.all_map, List.all_eq_true] at h
  induction xs with
  | nil => rfl
  | cons x r ih =>
    have h1 := h x (by simp)
    rw [List.map_cons, List.map_cons, ← ih fun y hy => h y (by simp [hy])]
    cases x <;> first | rfl | cases h1
theorem scIsArrangement : FnScope ["size", "value", "member"] ["size", "value"] (defScope sIsArrangement) :=
  ⟨rfl, rfl, rfl, by decide +kernel, rfl, by decide +kernel, by decide +kernel⟩
theorem dIsArrangement (T : Tx K mg) (DIsBetween : Def P w K mg base CX0 2 "is_between" ["value", "least", "most"] (spIsBetween K)) : Def P w K mg base CX0 3 "is_arrangement" ["size", "value"] (spArr K) := by
  refine T.t_is_arrangement.def_ (N := ["size", "value", "member"]) scIsArrangement (fun _ _ _ _ _ _ us hl => match us, hl with | [_, _], _ => rfl) ?_ ?_
  · intro vs H Q E h
    obtain ⟨n, x, o, rfl, _⟩ := h
    rfl
  · intro f cd A out s H vs Q E hr h
    have hr1 : Rm 2 _ := hr.le (by decide)
    obtain ⟨n, x, o, rfl, hv, small, q⟩ := h
    refine ⟨_, (pss_cons (ps_if (PW.pt (pw_or (pt_not (pt_val (pe_callB (cr_is .tup) rfl T.f_isinstance (by decide +kernel) (pa_cons (pv 1) (pa_cons (pe_ty .tup T.f_tuple (by decide +kernel)) pa_nil))))) (pw_or1 (pt_cmpR op_ne (pe_callB call_len_seq rfl T.f_len (by decide +kernel) (pa_cons (pv 1) pa_nil)) (pv 0) (nomark _))))) (pss_one (ps_ret pe_bl)) pss_nil)
      (pss_cons (ps_if (pt_not (pt_val (pe_callB (cr_all rfl) rfl T.f_all (by decide +kernel) (pa_cons (pe_lc (own := [("member", 2)]) (g := gName 2) (tt := tYes) rfl scIsArrangement.nd (pi_tup (pv 1)) (blkOk_by (N := ["size", "value", "member"]) (sc := defScope sIsArrangement) (by decide +kernel)) (fun _ _ _ _ _ => pg_name (i := 2) scIsArrangement.nd rfl (Or.inl rfl)) (fun _ _ _ _ _ => pts_nil) (fun _ _ _ _ _ => (pe_d DIsBetween (hr1.le (by decide)) pass0 (pa_cons (pv 2) (pa_cons pe_int (pa_cons (pe_op op_sub (pv 0) pe_int) pa_nil)))))) pa_nil)))) (pss_one (ps_ret pe_bl)) pss_nil)
      (pss_one (ps_ret (pe_cmpR op_eq (pe_callB cr_lenSet rfl T.f_len (by decide +kernel) (pa_cons (pe_callTy (cr_setI rfl) rfl T.f_set (by decide +kernel) (pa_cons (pv 1) pa_nil)) pa_nil)) (pv 0) (nomark _)))))), ?_⟩
    cases hv with
    | no hk ne =>
      refine ⟨_, rfl, _, _, rfl, hk, _, rfl, ?_⟩
      refine ifT (by rw [ne]; rfl) ?_
      exact q H (Same.refl H)
    | yes S m =>
      rename_i a xs
      refine ⟨_, rfl, _, _, rfl, .tup S, _, rfl, ?_⟩
      refine ifF rfl ?_
      refine ⟨_, rfl, _, _, rfl, .inr S, _, rfl, rfl, _, rfl, ?_⟩
      show (if (!decide (V.int (xs.length : Int) = V.int (n : Int))) = true then _ else _)
      rw [dInt, show decide ((xs.length : Int) = (n : Int)) = decide (xs.length = n) from decide_eq_decide.mpr (by omega)]
      by_cases c : xs.length = n
      · refine ifF (by rw [decide_eq_true c]; rfl) ?_
        have ei : ∀ b1 b2 : Bool, (b1 && b2) = (if b1 = true then b2 else false) := fun b1 b2 => by cases b1 <;> rfl
        refine ⟨_, rfl, a, rfl, ⟨_, S⟩, fun D nD => ?_⟩
        refine lc_tpl (fun x => .bl (isB x 0 ((n : Int) - 1))) S nD (Nat.le_of_lt (small1000 (by omega))) ?_ ?_
        · intro x acc hx Q' q'
          obtain ⟨kn, hk⟩ := m x hx
          exact ⟨_, rfl, _, rfl, _, _, rfl, rfl, x, kn, _, _, rfl, hk.same (same_new nD), q'⟩
        refine ⟨D, xs.map fun x => isB x 0 ((n : Int) - 1), rfl, .inl (.inl (Eq.trans upd_same (by rw [List.map_map]; rfl))), ?_⟩
        refine ⟨_, rfl, ?_⟩
        have S1 : Same H (upd H D (.lst (xs.map fun x => V.bl (isB x 0 ((n : Int) - 1))))) := same_new nD
        generalize upd H D _ = H1 at S1 ⊢
        cases e : (xs.map fun x => isB x 0 ((n : Int) - 1)).all id with
        | false =>
          have q' := q H1 S1
          rw [show isArr n (some xs) = false from (by rw [isArr_some, e]; simp)] at q'
          exact q'
        | true =>
          have back := ints_back e
          have S2 := same_sqt S1 S
          rw [back] at S2
          refine ⟨_, rfl, a, xs.map toI, rfl, S2, by rw [List.length_map]; omega, fun t k ft hk le => ?_⟩
          refine ⟨t, _, k, rfl, upd_same, ?_⟩
          refine ⟨_, rfl, rfl, ?_⟩
          have q' := q (upd H1 t (.set (fun j => decide (j ∈ xs.map toI)) k)) (S1.trans (same_new ft))
          rw [show isArr n (some xs) = decide (V.int (k : Int) = V.int (n : Int)) from (by
            rw [List.length_map, c] at hk
            rw [dInt]
            rw [isArr_some, e, decide_eq_true c, Bool.true_and, Bool.true_and]
            exact decide_eq_decide.mpr (by rw [← hk]; omega))] at q'
          exact q'
      · refine ifT (by rw [decide_eq_false c]; rfl) ?_
        have q' := q H (Same.refl H)
        rw [show isArr n (some xs) = false from (by rw [isArr_some, decide_eq_false c]; rfl)] at q'
        exact q'
/-- what passes as a move -/
def okM : Option (List V) → Bool
  | none => false
  | some xs => decide (1 ≤ xs.length) && (decide (xs.length ≤ 24) && isArr xs.length (some xs))
/-- no move -/
def BadM (K : PySem.W.Frag) (H : Hp) (x : V) : Prop := ∃ o, Rv K H x o ∧ okM o = false ∧ ∀ xs, o = some xs → xs.length ≤ 1000
abbrev rMv (K : PySem.W.Frag) (H : Hp) (E : XK) : Prop := ∀ H', Same H H' → E (.ref (ga K "InvalidMove")) none H'
def spMoveX (K : PySem.W.Frag) : Sp := fun vs H _ E => ∃ x, vs = [x] ∧ BadM K H x ∧ rMv K H E
theorem scNeedMove : FnScope ["move"] ["move"] (defScope sNeedMove) :=
  ⟨rfl, rfl, rfl, by decide +kernel, rfl, by decide +kernel, by decide +kernel⟩
theorem bNeedMove (T : Tx K mg) (Y : Ex K mg) (DIsArrangement : Def P w K mg base CX0 3 "is_arrangement" ["size", "value"] (spArr K)) : Def P w K mg base (L2.CX P w) 4 "_need_move" ["move"] (spMoveX K) := by
  refine T.t_need_move.defX (N := ["move"]) scNeedMove (fun _ _ _ _ _ _ us hl => match us, hl with | [_], _ => rfl) ?_ ?_
  · intro vs H Q E h
    obtain ⟨x, rfl, _⟩ := h
    rfl
  · intro f cd A out s H vs Q E hr h
    have hr1 : Rm 3 _ := hr.le (by decide)
    have tk : Takes (cxOf (L2.CX P w) P w K mg base ["move"] "_need_move" (defScope sNeedMove) f cd A out s H E) (fun cls d _ H1 => E cls d H1) := takes_of rfl rfl rfl rfl
    obtain ⟨x, rfl, ⟨o, hv, bad, small⟩, q⟩ := h
    refine ⟨_, (pss_cons (ps_if (PW.pt (pw_or (pt_not (pt_val (pe_callB (cr_is .tup) rfl T.f_isinstance (by decide +kernel) (pa_cons (pv 0) (pa_cons (pe_ty .tup T.f_tuple (by decide +kernel)) pa_nil))))) (pw_or1 (pt_not (pt_chain op_le op_le pe_int (pe_callB call_len_seq rfl T.f_len (by decide +kernel) (pa_cons (pv 0) pa_nil)) (C8.pe_gc rfl T.c_MAX_PLACES)))))) (pss_one (ps_plain Y.mv rfl tk)) pss_nil)
      (pss_one (ps_if (pt_not (pt_val (pe_d DIsArrangement (hr1.le (by decide)) pass0 (pa_cons (pe_callB call_len_seq rfl T.f_len (by decide +kernel) (pa_cons (pv 0) pa_nil)) (pa_cons (pv 0) pa_nil))))) (pss_one (ps_plain Y.mv rfl tk)) pss_nil))), ?_⟩
    cases hv with
    | no hk ne =>
      refine ⟨_, rfl, _, _, rfl, hk, _, rfl, ?_⟩
      refine ifT (by rw [ne]; rfl) ?_
      exact q H (Same.refl H)
    | yes S m =>
      rename_i a xs
      have sm := small xs rfl
      refine ⟨_, rfl, _, _, rfl, .tup S, _, rfl, ?_⟩
      refine ifF rfl ?_
      refine ⟨_, rfl, _, _, rfl, .inr S, _, _, rfl, rfl, _, rfl, ?_⟩
      by_cases l1 : 1 ≤ xs.length
      · refine ifT (decide_eq_true (by omega)) ?_
        refine ⟨_, _, rfl, rfl, _, rfl, ?_⟩
        by_cases l2 : xs.length ≤ 24
        · refine ifF ?_ ?_
          · show (!decide ((xs.length : Int) ≤ 24)) = false
            rw [decide_eq_true (by omega)]
            rfl
          refine ⟨_, rfl, _, _, rfl, .inr S, _, rfl, xs.length, _, _, rfl, .yes S m, by omega, fun H' s => ?_⟩
          refine ⟨_, rfl, ?_⟩
          refine ifT ?_ (q H' s)
          have b2 : (decide (1 ≤ xs.length) && (decide (xs.length ≤ 24) && isArr xs.length (some xs))) = false := bad
          rw [decide_eq_true l1, decide_eq_true l2, Bool.true_and, Bool.true_and] at b2
          show (!isArr xs.length (some xs)) = true
          rw [b2]
          rfl
        · refine ifT ?_ (q H (Same.refl H))
          show (!decide ((xs.length : Int) ≤ 24)) = true
          rw [decide_eq_false (by omega)]
          rfl
      · refine ifF (decide_eq_false (by omega)) ?_
        refine ⟨_, rfl, ?_⟩
        exact ifT rfl (q H (Same.refl H))
theorem scCycles : FnScope ["move"] ["move"] (defScope sCycles) :=
  ⟨rfl, rfl, rfl, by decide +kernel, rfl, by decide +kernel, by decide +kernel⟩
theorem bCycles (T : Tx K mg) (Y : Ex K mg) (BNeedMove : Def P w K mg base (L2.CX P w) 4 "_need_move" ["move"] (spMoveX K)) : Def P w K mg base (L2.CX P w) 5 "cycles" ["move"] (spMoveX K) := by
  refine T.t_cycles.defX (N := ["move"]) scCycles (fun _ _ _ _ _ _ us hl => match us, hl with | [_], _ => rfl) ?_ ?_
  · intro vs H Q E h
    obtain ⟨x, rfl, _⟩ := h
    rfl
  · intro f cd A out s H vs Q E hr h
    have hr2 : Rm 4 _ := hr.le (by decide)
    have tk : Takes (cxOf (L2.CX P w) P w K mg base ["move"] "cycles" (defScope sCycles) f cd A out s H E) (fun cls d _ H1 => E cls d H1) := takes_of rfl rfl rfl rfl
    obtain ⟨x, rfl, bx, q⟩ := h
    refine ⟨_, (pss_cons (ps_expr (ME.pe_dS BNeedMove (hr2.le (by decide)) (passAt tk) (pa_cons (pv 0) pa_nil))) (pss_one ps_never)), ?_⟩
    exact ⟨_, rfl, x, rfl, bx, q⟩
theorem scWriteMove : FnScope ["move", "rings", "ring", "place"] ["move"] (defScope sWriteMove) :=
  ⟨rfl, rfl, rfl, by decide +kernel, rfl, by decide +kernel, by decide +kernel⟩
theorem bWriteMove (T : Tx K mg) (Y : Ex K mg) (BCycles : Def P w K mg base (L2.CX P w) 5 "cycles" ["move"] (spMoveX K)) : Def P w K mg base (L2.CX P w) 6 "write_move" ["move"] (spMoveX K) := by
  refine T.t_write_move.defX (N := ["move", "rings", "ring", "place"]) scWriteMove (fun _ _ _ _ _ _ us hl => match us, hl with | [_], _ => rfl) ?_ ?_
  · intro vs H Q E h
    obtain ⟨x, rfl, _⟩ := h
    rfl
  · intro f cd A out s H vs Q E hr h
    have hr2 : Rm 5 _ := hr.le (by decide)
    have tk : Takes (cxOf (L2.CX P w) P w K mg base ["move", "rings", "ring", "place"] "write_move" (defScope sWriteMove) f cd A out s H E) (fun cls d _ H1 => E cls d H1) := takes_of rfl rfl rfl rfl
    obtain ⟨x, rfl, bx, q⟩ := h
    refine ⟨_, (pss_cons (ps_setLc (i := 1) (own := [("ring", 2)]) (g := gName 2) rfl scWriteMove.nd rfl rfl (sw_true rfl rfl rfl rfl) (pi_tup (ME.pe_dS BCycles (hr2.le (by decide)) (passAt tk) (pa_cons (pv 0) pa_nil))) (blkOk_by (N := ["move", "rings", "ring", "place"]) (sc := defScope sWriteMove) (by decide +kernel)) (fun _ _ _ _ _ => pg_name (i := 2) scWriteMove.nd rfl (Or.inl rfl)) (fun _ _ _ _ _ => (pts_one (pt_cmpR op_gt (pe_callB (cr_lenK (K := K) rfl) rfl T.f_len (by decide +kernel) (pa_cons (pv 2) pa_nil)) pe_int (nomark _)))) (fun _ _ _ _ _ => (pv 2))) (pss_cons ps_never (pss_one ps_never))), ?_⟩
    exact ⟨_, rfl, x, rfl, bx, q⟩
/-- no group -/
def spGroupX (K : PySem.W.Frag) : Sp := fun vs H _ E => ∃ x n, vs = [x] ∧ Kd K H x n ∧ ∀ H', Same H H' → E (.ref (ga K "InvalidGroup")) none H'
theorem scNeedGroup : FnScope ["group"] ["group"] (defScope sNeedGroup) :=
  ⟨rfl, rfl, rfl, by decide +kernel, rfl, by decide +kernel, by decide +kernel⟩
theorem bNeedGroup (T : Tx K mg) (Y : Ex K mg) : Def P w K mg base (L2.CX P w) 3 "need_group" ["group"] (spGroupX K) := by
  refine T.t_need_group.defX (N := ["group"]) scNeedGroup (fun _ _ _ _ _ _ us hl => match us, hl with | [_], _ => rfl) ?_ ?_
  · intro vs H Q E h
    obtain ⟨x, n, rfl, _⟩ := h
    rfl
  · intro f cd A out s H vs Q E hr h
    have tk : Takes (cxOf (L2.CX P w) P w K mg base ["group"] "need_group" (defScope sNeedGroup) f cd A out s H E) (fun cls d _ H1 => E cls d H1) := takes_of rfl rfl rfl rfl
    obtain ⟨x, n, rfl, hk, q⟩ := h
    refine ⟨_, (pss_one (ps_if (pt_not (pt_val (pe_callB call_isi rfl T.f_isinstance (by decide +kernel) (pa_cons (pv 0) (pa_cons (C8.pe_gc (v := .ref (ga K "Group")) rfl ⟨_, Y.grp, rfl⟩) pa_nil))))) (pss_one (ps_plain Y.gr rfl tk)) pss_nil)), ?_⟩
    refine ⟨_, rfl, x, _, _, _, false, rfl, .own _, hk.ty, Y.kit n, ?_⟩
    refine ⟨_, rfl, ?_⟩
    exact ifT rfl (q H (Same.refl H))
theorem scWriteGroup : FnScope ["group", "maker"] ["group"] (defScope sWriteGroup) :=
  ⟨rfl, rfl, rfl, by decide +kernel, rfl, by decide +kernel, by decide +kernel⟩
theorem bWriteGroup (T : Tx K mg) (Y : Ex K mg) (BNeedGroup : Def P w K mg base (L2.CX P w) 3 "need_group" ["group"] (spGroupX K)) : Def P w K mg base (L2.CX P w) 4 "write_group" ["group"] (spGroupX K) := by
  refine T.t_write_group.defX (N := ["group", "maker"]) scWriteGroup (fun _ _ _ _ _ _ us hl => match us, hl with | [_], _ => rfl) ?_ ?_
  · intro vs H Q E h
    obtain ⟨x, n, rfl, _⟩ := h
    rfl
  · intro f cd A out s H vs Q E hr h
    have hr2 : Rm 3 _ := hr.le (by decide)
    have tk : Takes (cxOf (L2.CX P w) P w K mg base ["group", "maker"] "write_group" (defScope sWriteGroup) f cd A out s H E) (fun cls d _ H1 => E cls d H1) := takes_of rfl rfl rfl rfl
    obtain ⟨x, n, rfl, hk, q⟩ := h
    refine ⟨_, (pss_cons (ps_expr (ME.pe_dS BNeedGroup (hr2.le (by decide)) (passAt tk) (pa_cons (pv 0) pa_nil))) (pss_one ps_never)), ?_⟩
    exact ⟨_, rfl, x, n, rfl, hk, q⟩
def isMem : Option (List V) → Bool
  | some xs => decide (1 ≤ xs.length) && (decide (xs.length ≤ 60) && xs.all isI)
  | none => false
theorem Rv.same {H H' : Hp} {x : V} {o : Option (List V)} (h : Rv K H x o) (s : Same H H') : Rv K H' x o := by
  cases h with
  | no hk ne => exact .no (hk.same s) ne
  | yes S m => exact .yes (same_sqt s S) fun y hy => let ⟨n, hk⟩ := m y hy; ⟨n, hk.same s⟩
def spMem (K : PySem.W.Frag) : Sp := fun vs H Q _ => ∃ x o, vs = [x] ∧ Rv K H x o ∧ ∀ H', Same H H' → Q (.bl (isMem o)) H'
theorem scAreMembers : FnScope ["value", "member"] ["value"] (defScope sAreMembers) :=
  ⟨rfl, rfl, rfl, by decide +kernel, rfl, by decide +kernel, by decide +kernel⟩
theorem dAreMembers (T : Tx K mg) (DIsInteger : Def P w K mg base CX0 2 "is_integer" ["value"] (spIsInteger K)) : Def P w K mg base CX0 3 "_are_members" ["value"] (spMem K) := by
  refine T.t_are_members.def_ (N := ["value", "member"]) scAreMembers (fun _ _ _ _ _ _ us hl => match us, hl with | [_], _ => rfl) ?_ ?_
  · intro vs H Q E h
    obtain ⟨x, o, rfl, _⟩ := h
    rfl
  · intro f cd A out s H vs Q E hr h
    have hr1 : Rm 2 _ := hr.le (by decide)
    obtain ⟨x, o, rfl, hv, q⟩ := h
    refine ⟨_, (pss_cons (ps_if (PW.pt (pw_or (pt_not (pt_val (pe_callB (cr_is .tup) rfl T.f_isinstance (by decide +kernel) (pa_cons (pv 0) (pa_cons (pe_ty .tup T.f_tuple (by decide +kernel)) pa_nil))))) (pw_or1 (pt_not (pt_chain op_le op_le pe_int (pe_callB call_len_seq rfl T.f_len (by decide +kernel) (pa_cons (pv 0) pa_nil)) (C8.pe_gc rfl T.c_MOST_MEMBERS)))))) (pss_one (ps_ret pe_bl)) pss_nil)
      (pss_one (ps_ret (pe_callB (cr_all rfl) rfl T.f_all (by decide +kernel) (pa_cons (pe_lc (own := [("member", 1)]) (g := gName 1) (tt := tYes) rfl scAreMembers.nd (pi_tup (pv 0)) (blkOk_by (N := ["value", "member"]) (sc := defScope sAreMembers) (by decide +kernel)) (fun _ _ _ _ _ => pg_name (i := 1) scAreMembers.nd rfl (Or.inl rfl)) (fun _ _ _ _ _ => pts_nil) (fun _ _ _ _ _ => (pe_d DIsInteger (hr1.le (by decide)) pass0 (pa_cons (pv 1) pa_nil)))) pa_nil))))), ?_⟩
    cases hv with
    | no hk ne =>
      refine ⟨_, rfl, _, _, rfl, hk, _, rfl, ?_⟩
      refine ifT (by rw [ne]; rfl) ?_
      exact ifT rfl (q H (Same.refl H))
    | yes S m =>
      rename_i a xs
      refine ⟨_, rfl, _, _, rfl, .tup S, _, rfl, ?_⟩
      refine ifF rfl ?_
      refine ⟨_, rfl, _, _, rfl, .inr S, _, _, rfl, rfl, _, rfl, ?_⟩
      by_cases l1 : 1 ≤ xs.length
      · refine ifT (decide_eq_true (by omega)) ?_
        refine ⟨_, _, rfl, rfl, _, rfl, ?_⟩
        by_cases l2 : xs.length ≤ 60
        · refine ifF ?_ ?_
          · show (!decide ((xs.length : Int) ≤ 60)) = false
            rw [decide_eq_true (by omega)]
            rfl
          refine ⟨_, rfl, a, rfl, ⟨_, S⟩, ?_⟩
          intro D nD
          refine lc_tpl (fun x => .bl (isI x)) S nD (Nat.le_of_lt (small1000 (by omega))) ?_ ?_
          · intro x acc hx Q' q'
            obtain ⟨n, hk⟩ := m x hx
            exact ⟨_, rfl, _, n, rfl, hk.same (same_new nD), q'⟩
          · refine ⟨D, xs.map isI, rfl, .inl (.inl (Eq.trans upd_same ?_)), ?_⟩
            · rw [List.map_map]
              rfl
            · have q' := q _ (same_new (o := .lst (xs.map fun x => V.bl (isI x))) nD)
              have e : isMem (some xs) = (xs.map isI).all id := by
                show (decide (1 ≤ xs.length) && (decide (xs.length ≤ 60) && xs.all isI)) = _
                rw [decide_eq_true l1, decide_eq_true l2, Bool.true_and, Bool.true_and, List.all_map]
                rfl
              rw [e] at q'
              exact q'
        · refine ifT ?_ ?_
          · show (!decide ((xs.length : Int) ≤ 60)) = true
            rw [decide_eq_false (by omega)]
            rfl
          have q' := q H (Same.refl H)
          have e : isMem (some xs) = false := by
            show (decide (1 ≤ xs.length) && (decide (xs.length ≤ 60) && xs.all isI)) = _
            rw [decide_eq_false l2, Bool.false_and, Bool.and_false]
          rw [e] at q'
          exact q'
      · refine ifF (decide_eq_false (by omega)) ?_
        refine ⟨_, rfl, ?_⟩
        have q' := q H (Same.refl H)
        have e : isMem (some xs) = false := by
          show (decide (1 ≤ xs.length) && (decide (xs.length ≤ 60) && xs.all isI)) = _
          rw [decide_eq_false l1, Bool.false_and]
        rw [e] at q'
        exact ifT rfl q'
def spWRow (K : PySem.W.Frag) : Sp := fun vs H _ E => ∃ x o, vs = [x] ∧ Rv K H x o ∧ isMem o = false ∧ rRw K H E
theorem scWriteRow : FnScope ["row", "member"] ["row"] (defScope sWriteRow) :=
  ⟨rfl, rfl, rfl, by decide +kernel, rfl, by decide +kernel, by decide +kernel⟩
theorem bWriteRow (T : Tx K mg) (Y : Ex K mg) (DAreMembers : Def P w K mg base CX0 3 "_are_members" ["value"] (spMem K)) : Def P w K mg base (L2.CX P w) 4 "write_row" ["row"] (spWRow K) := by
  refine T.t_write_row.defX (N := ["row", "member"]) scWriteRow (fun _ _ _ _ _ _ us hl => match us, hl with | [_], _ => rfl) ?_ ?_
  · intro vs H Q E h
    obtain ⟨x, o, rfl, _⟩ := h
    rfl
  · intro f cd A out s H vs Q E hr h
    have hr1 : Rm 3 _ := hr.le (by decide)
    have tk : Takes (cxOf (L2.CX P w) P w K mg base ["row", "member"] "write_row" (defScope sWriteRow) f cd A out s H E) (fun cls d _ H1 => E cls d H1) := takes_of rfl rfl rfl rfl
    obtain ⟨x, o, rfl, hv, bad, q⟩ := h
    refine ⟨_, (pss_cons (ps_if (pt_not (pt_val (pe_d DAreMembers (hr1.le (by decide)) pass0 (pa_cons (pv 0) pa_nil)))) (pss_one (ps_plain Y.rw rfl tk)) pss_nil) (pss_one ps_never)), ?_⟩
    refine ⟨_, rfl, x, o, rfl, hv, fun H1 s1 => ?_⟩
    refine ⟨_, rfl, ?_⟩
    exact ifT (by rw [bad]; rfl) (q H1 s1)
def spWKinds (K : PySem.W.Frag) : Sp := fun vs H _ E => ∃ x o, vs = [x] ∧ Rv K H x o ∧ isMem o = false ∧ rKs K H E
theorem scWriteKinds : FnScope ["kinds", "text", "index", "many"] ["kinds"] (defScope sWriteKinds) :=
  ⟨rfl, rfl, rfl, by decide +kernel, rfl, by decide +kernel, by decide +kernel⟩
theorem bWriteKinds (T : Tx K mg) (Y : Ex K mg) (DAreMembers : Def P w K mg base CX0 3 "_are_members" ["value"] (spMem K)) : Def P w K mg base (L2.CX P w) 4 "write_kinds" ["kinds"] (spWKinds K) := by
  refine T.t_write_kinds.defX (N := ["kinds", "text", "index", "many"]) scWriteKinds (fun _ _ _ _ _ _ us hl => match us, hl with | [_], _ => rfl) ?_ ?_
  · intro vs H Q E h
    obtain ⟨x, o, rfl, _⟩ := h
    rfl
  · intro f cd A out s H vs Q E hr h
    have hr1 : Rm 3 _ := hr.le (by decide)
    have tk : Takes (cxOf (L2.CX P w) P w K mg base ["kinds", "text", "index", "many"] "write_kinds" (defScope sWriteKinds) f cd A out s H E) (fun cls d _ H1 => E cls d H1) := takes_of rfl rfl rfl rfl
    obtain ⟨x, o, rfl, hv, bad, q⟩ := h
    refine ⟨_, (pss_cons (ps_if (pt_not (pt_val (pe_d DAreMembers (hr1.le (by decide)) pass0 (pa_cons (pv 0) pa_nil)))) (pss_one (ps_plain Y.ks rfl tk)) pss_nil) (pss_cons ps_never (pss_cons ps_never (pss_one ps_never)))), ?_⟩
    refine ⟨_, rfl, x, o, rfl, hv, fun H1 s1 => ?_⟩
    refine ⟨_, rfl, ?_⟩
    exact ifT (by rw [bad]; rfl) (q H1 s1)
def spPlaces (K : PySem.W.Frag) : Sp := fun vs H Q E => ∃ x n, vs = [x] ∧ Kd K H x n ∧ (isB x 1 24 = false → rNum K H x E) ∧ (isB x 1 24 = true → Q .non H)
theorem scNeedPlaces : FnScope ["places"] ["places"] (defScope sNeedPlaces) :=
  ⟨rfl, rfl, rfl, by decide +kernel, rfl, by decide +kernel, by decide +kernel⟩
theorem bNeedPlaces (T : Tx K mg) (Y : Ex K mg) (BNeedBetween : Def P w K mg base (L2.CX P w) 3 "need_between" ["value", "least", "most"] (spBetw K)) : Def P w K mg base (L2.CX P w) 4 "need_places" ["places"] (spPlaces K) := by
  refine T.t_need_places.defX (N := ["places"]) scNeedPlaces (fun _ _ _ _ _ _ us hl => match us, hl with | [_], _ => rfl) ?_ ?_
  · intro vs H Q E h
    obtain ⟨x, n, rfl, _⟩ := h
    rfl
  · intro f cd A out s H vs Q E hr h
    have hr2 : Rm 3 _ := hr.le (by decide)
    have tk : Takes (cxOf (L2.CX P w) P w K mg base ["places"] "need_places" (defScope sNeedPlaces) f cd A out s H E) (fun cls d _ H1 => E cls d H1) := takes_of rfl rfl rfl rfl
    obtain ⟨x, n, rfl, hk, q1, q2⟩ := h
    refine ⟨_, (pss_one (ps_expr (ME.pe_dS BNeedBetween (hr2.le (by decide)) (passAt tk) (pa_cons (pv 0) (pa_cons pe_int (pa_cons (C8.pe_gc rfl T.c_MAX_PLACES) pa_nil)))))), ?_⟩
    exact ⟨_, rfl, x, n, 1, 24, rfl, hk, q1, q2⟩
def spReadMoveX (K : PySem.W.Frag) : Sp := fun vs H _ E => ∃ x n y m, vs = [x, y] ∧ Kd K H x n ∧ Kd K H y m ∧ (∀ z, x = .str z → z.length ≤ 4000) ∧ ((okT x = false ∧ rPar K H 0 E) ∨ (okT x = true ∧ isB y 1 24 = false ∧ rNum K H y E))
theorem scReadMove : FnScope ["text", "places", "rings", "end"] ["text", "places"] (defScope sReadMove) :=
  ⟨rfl, rfl, rfl, by decide +kernel, rfl, by decide +kernel, by decide +kernel⟩
theorem bReadMove (T : Tx K mg) (Y : Ex K mg) (BNeedText : Def P w K mg base (L2.CX P w) 3 "_need_text" ["text"] (spNeedText K)) (BNeedPlaces : Def P w K mg base (L2.CX P w) 4 "need_places" ["places"] (spPlaces K)) : Def P w K mg base (L2.CX P w) 5 "read_move" ["text", "places"] (spReadMoveX K) := by
  refine T.t_read_move.defX (N := ["text", "places", "rings", "end"]) scReadMove (fun _ _ _ _ _ _ us hl => match us, hl with | [_, _], _ => rfl) ?_ ?_
  · intro vs H Q E h
    obtain ⟨x, n, y, m, rfl, _⟩ := h
    rfl
  · intro f cd A out s H vs Q E hr h
    have hr2 : Rm 4 _ := hr.le (by decide)
    have tk : Takes (cxOf (L2.CX P w) P w K mg base ["text", "places", "rings", "end"] "read_move" (defScope sReadMove) f cd A out s H E) (fun cls d _ H1 => E cls d H1) := takes_of rfl rfl rfl rfl
    obtain ⟨x, n, y, m, rfl, hk, hm, hz, q⟩ := h
    refine ⟨_, (pss_cons (ps_expr (ME.pe_dS BNeedText (hr2.le (by decide)) (passAt tk) (pa_cons (pv 0) pa_nil))) (pss_cons (ps_expr (ME.pe_dS BNeedPlaces (hr2.le (by decide)) (passAt tk) (pa_cons (pv 1) pa_nil))) (pss_cons ps_never (pss_cons ps_never (pss_one ps_never))))), ?_⟩
    refine ⟨_, rfl, x, n, rfl, hk, hz, fun b => ?_, fun b => ?_⟩
    · rcases q with ⟨_, q⟩ | ⟨b2, _, q⟩
      · exact q
      · rw [b] at b2; cases b2
    · rcases q with ⟨b2, _⟩ | ⟨_, b2, q⟩
      · rw [b] at b2; cases b2
      · refine ⟨_, rfl, y, m, rfl, hm, fun _ => q, fun b3 => ?_⟩
        rw [b2] at b3; cases b3
def spReadGroupX (K : PySem.W.Frag) : Sp := fun vs H _ E => ∃ x n, vs = [x] ∧ Kd K H x n ∧ (∀ z, x = .str z → z.length ≤ 4000) ∧ okT x = false ∧ rPar K H 0 E
theorem scReadGroup : FnScope ["text", "places", "end", "told", "rings"] ["text"] (defScope sReadGroup) :=
  ⟨rfl, rfl, rfl, by decide +kernel, rfl, by decide +kernel, by decide +kernel⟩
theorem bReadGroup (T : Tx K mg) (Y : Ex K mg) (BNeedText : Def P w K mg base (L2.CX P w) 3 "_need_text" ["text"] (spNeedText K)) : Def P w K mg base (L2.CX P w) 4 "read_group" ["text"] (spReadGroupX K) := by
  refine T.t_read_group.defX (N := ["text", "places", "end", "told", "rings"]) scReadGroup (fun _ _ _ _ _ _ us hl => match us, hl with | [_], _ => rfl) ?_ ?_
  · intro vs H Q E h
    obtain ⟨x, n, rfl, _⟩ := h
    rfl
  · intro f cd A out s H vs Q E hr h
    have hr2 : Rm 3 _ := hr.le (by decide)
    have tk : Takes (cxOf (L2.CX P w) P w K mg base ["text", "places", "end", "told", "rings"] "read_group" (defScope sReadGroup) f cd A out s H E) (fun cls d _ H1 => E cls d H1) := takes_of rfl rfl rfl rfl
    obtain ⟨x, n, rfl, hk, hz, b, q⟩ := h
    refine ⟨_, (pss_cons (ps_expr (ME.pe_dS BNeedText (hr2.le (by decide)) (passAt tk) (pa_cons (pv 0) pa_nil))) (pss_cons ps_never (pss_cons ps_never (pss_cons ps_never (pss_cons ps_never (pss_cons ps_never (pss_one ps_never))))))), ?_⟩
    refine ⟨_, rfl, x, n, rfl, hk, hz, fun _ => q, fun b2 => ?_⟩
    rw [b] at b2; cases b2
end
end K87


set_option Elab.async false
set_option linter.all false
set_option maxRecDepth 100000
set_option maxHeartbeats 2000000
/-! a generator def that raises before it hands out anything, under list(..) -/
namespace ME
open PySem PySem.Spec PyProof.Rows L2 LamX MM
/-- what leaves is no StopIteration -/
abbrev NSE (K : PySem.W.Frag) (E : XK) : XK := fun cls d H => E cls d H ∧ PySem.W.subIn K cls (.type "StopIteration") = some false
/-- a generator def of the text -/
def GD (P : Program) (w : World) (K : PySem.W.Frag) (mg : Str → Option Value) (base : Heap) (k : Nat) (x : Str) (ps : List Str) (sp : SpG) : Prop :=
  ∃ f fd, mg x = some (.ref f) ∧ PySem.W.keepIn K (.ref f) = true ∧ Binds K fd ps [] ∧ GFn P w K mg base k f fd ps sp
theorem pe_listX {X : Cx} {k : Nat} {x : Str} {ps : List Str} {sp : SpG} {E : XK} {p p2 pos pos' : Pos} {e : Expr} {es : List Expr} {t : TA}
    (D : GD X.prog X.w X.K X.mg X.base k x ps sp) (hr : Room (k + 3) X.A) (tk : Takes X (fun cls d _ H => E cls d H)) (ha : PA X (e :: es) t)
    (hl : X.mg "list" = none) (hg0 : Gl X "list" := by rfl) (hg : Gl X x := by rfl) (hdb : (x == ("__debug__" : Str)) = false := by decide)
    (he : starEach (e :: es) X.env = (false, eval e X.env) :: starEach es X.env := by rfl) (hpl : (backTo pos' (starEach es X.env)).any (·.1) = false := by rfl)
    (he0 : starEach [.Call (.Name x p) (e :: es) [] pos'] X.env = (false, eval (.Call (.Name x p) (e :: es) [] pos') X.env) :: starEach [] X.env := by rfl) :
    PE X (.Call (.Name "list" p2) [.Call (.Name x p) (e :: es) [] pos'] [] pos) (tListG (tCallG sp [] (NSE X.K E) t)) := by
  obtain ⟨f, fd, hm, hk, hb, F⟩ := D
  refine pe_listG (pgen_call (E := NSE X.K E) F (hr.mono (Nat.le_add_right _ _)) hg hm hk hb .nil ha hdb he hpl) ?_ (fun cls d H h => h.2) hr hg0 hl (by decide +kernel) (by decide) (by decide) he0
  intro pins σ H s u s' I c
  obtain ⟨a, B, H', cls, d, z1, fl, z2, ub, z3, z4, z5, z6⟩ := c
  exact passAt tk σ pins H s u s' I ⟨a, B, H', cls, d, z1, fl, z2, ub, z3, z4, z5, z6.1⟩
end ME
namespace K87
open PySem PySem.Spec PyProof.Rows L2 MM PySem.NumText
section
variable {P : Program} {w : World} {K : PySem.W.Frag} {mg : Str → Option Value} {base : Heap}
theorem needGroupOk (T : Tx K mg) (Y : Ex K mg) : ∃ fd, FnOk P w K mg base (L2.CX P w) 1 (He.ga K "need_group") fd ["group"] (spGroupX K) ∧ PySem.W.keepIn K (.ref (He.ga K "need_group")) = true ∧ Binds K fd ["group"] [] := by
  obtain ⟨fd, F⟩ := T.t_need_group.fn
  refine ⟨fd, F.ok (N := ["group"]) scNeedGroup ?_ ?_, F.kp, F.bindsN (fun _ _ _ _ _ _ us hl => match us, hl with | [_], _ => rfl)⟩
  · intro vs H Q E h
    obtain ⟨x, n, rfl, _⟩ := h
    rfl
  · intro cd A out s H vs Q E hr h
    have tk : Takes (cxOf (L2.CX P w) P w K mg base ["group"] "need_group" (defScope sNeedGroup) (He.ga K "need_group") cd A out s H E) (fun cls d _ H1 => E cls d H1) := takes_of rfl rfl rfl rfl
    obtain ⟨x, n, rfl, hk, q⟩ := h
    refine ⟨_, (pss_one (ps_if (pt_not (pt_val (pe_callB call_isi rfl T.f_isinstance (by decide +kernel) (pa_cons (pv 0) (pa_cons (C8.pe_gc (v := .ref (ga K "Group")) rfl ⟨_, Y.grp, rfl⟩) pa_nil))))) (pss_one (ps_plain Y.gr rfl tk)) pss_nil)), ?_⟩
    refine ⟨_, rfl, x, _, _, _, false, rfl, .own _, hk.ty, Y.kit n, ?_⟩
    refine ⟨_, rfl, ?_⟩
    exact ifT rfl (q H (Same.refl H))
/-- no group: nothing is handed out -/
def spGenX (K : PySem.W.Frag) : SpG := fun vs H _ E => ∃ x n, vs = [x] ∧ Kd K H x n ∧ ∀ H', Same H H' → E (.ref (ga K "InvalidGroup")) none H'
theorem scTableLines : GScope ["group", "body", "row", "number"] ["group"] (defScope sTableLines) :=
  ⟨rfl, rfl, rfl, by decide +kernel, rfl, by decide +kernel, by decide +kernel⟩
theorem gTableLines (T : Tx K mg) (Y : Ex K mg) : ME.GD P w K mg base 2 "table_lines" ["group"] (spGenX K) := by
  obtain ⟨fd, F⟩ := T.t_table_lines.fn
  have B := F.bindsN (ps := ["group"]) (fun _ _ _ _ _ _ us hl => match us, hl with | [_], _ => rfl)
  have kp := F.kp
  obtain ⟨oc, od, dV, kV, doc, pm, an, cdv, ct, osl, rfl, lk, hcd, _, _⟩ := F.ex
  refine ⟨_, _, T.t_table_lines.glo, kp, B, ?_⟩
  obtain ⟨fdG, FG, kG, bG⟩ := needGroupOk (P := P) (w := w) (base := base) T Y
  refine gfn_of lk hcd (N := ["group", "body", "row", "number"]) scTableLines ?_ ?_
  · intro vs H Q E h
    obtain ⟨x, n, rfl, _⟩ := h
    rfl
  · intro A outer s H vs Q E pn hr h
    obtain ⟨x, n, rfl, hk, q⟩ := h
    refine ⟨_, gss_cons (gs_ps (ps_expr (pe_callS (CX := L2.CX P w) (E := WE fun cls d _ H1 => E cls d H1) FG hr rfl T.t_need_group.glo kG bG (fun σ => passAt takes_gcx σ) (pa_cons (pv 0) pa_nil)))) (gss_pss (pss_one ps_never)), ?_⟩
    exact ⟨_, rfl, x, n, rfl, hk, q⟩
end
end K87

set_option Elab.async false
set_option linter.all false
set_option maxRecDepth 100000
set_option maxHeartbeats 2000000
namespace K87
open PySem PySem.Spec PyProof.Rows L2 MM LamX
/-! own words for the readings: a step, its side -/
local macro_rules | `(tactic| walk_at "side") => `(tactic| first
  | omega
  | exact ⟨by omega, by omega⟩
  | exact Or.inl ⟨by omega, by omega⟩
  | exact Or.inr ⟨by omega, by omega⟩
  | (show CPw _ _; decide +kernel)
  | (show (0 : Int) < _; decide +kernel)
  | (show CDivW _ _; first | assumption | exact ⟨by decide, by decide +kernel⟩))
local macro_rules | `(tactic| walk_at "here") => `(tactic| first
  | assumption
  | exact upd_same
  | exact Or.inl (Or.inl upd_same)
  | exact Or.inl upd_same)
local macro_rules | `(tactic| walk_at "one") => `(tactic| first
  | refine ⟨_, rfl, ?_⟩
  | refine Or.inl ⟨_, rfl, ?_⟩
  | refine Or.inr ⟨_, rfl, ?_⟩
  | refine ⟨_, _, rfl, rfl, (by walk_at "side"), ?_⟩
  | refine ⟨_, _, rfl, rfl, ?_⟩
  | refine ⟨_, _, rfl, Or.inl (by walk_at "here"), ?_⟩
  | refine ⟨_, _, rfl, Or.inr (by walk_at "here"), ?_⟩
  | refine ⟨_, _, rfl, (by walk_at "here"), ?_⟩
  | refine ⟨_, _, _, _, rfl, rfl, (by walk_at "here"), rfl, ?_⟩
  | refine ⟨_, _, rfl, ?_⟩
  | refine ifT (by rfl) ?_
  | refine ifF (by rfl) ?_
  | refine ifT (decide_eq_true (by omega)) ?_
  | refine ifF (decide_eq_false (by omega)) ?_)
local macro_rules | `(tactic| walk_at "st") => `(tactic| repeat (walk_at "one"))

section
variable {P : Program} {w : World} {K : PySem.W.Frag} {mg : Str → Option Value} {base : Heap}
/-! heaps in which tables of code objects grow -/
theorem sqtE {H H' : Hp} {a : Addr} {xs : List V} (h : SqT K H a xs) (e : ExtN H H') : SqT K H' a xs := by
  rcases h with (h | ⟨o, h⟩) | h
  · exact .inl (.inl (e _ _ h (fun ps z => by cases z)))
  · exact .inl (.inr ⟨o, e _ _ h (fun ps z => by cases z)⟩)
  · exact .inr h
theorem sqlE {H H' : Hp} {a : Addr} {xs : List V} (h : SqL K H a xs) (e : ExtN H H') : SqL K H' a xs := by
  rcases h with (h | ⟨o, h⟩) | h
  · exact .inl (.inl (e _ _ h (fun ps z => by cases z)))
  · exact .inl (.inr ⟨o, e _ _ h (fun ps z => by cases z)⟩)
  · exact .inr h
theorem kdE {H H' : Hp} {x : V} {n : Kn} (h : Kd K H x n) (e : ExtN H H') : Kd K H' x n := by
  cases h with
  | non => exact .non
  | bl b => exact .bl b
  | int i => exact .int i
  | str z => exact .str z
  | lst h => exact .lst (sqlE h e)
  | tup h => exact .tup (sqtE h e)
  | dct h => exact .dct (e _ _ h (fun ps z => by cases z))
theorem rvE {H H' : Hp} {x : V} {o : Option (List V)} (h : Rv K H x o) (e : ExtN H H') : Rv K H' x o := by
  cases h with
  | no hk ne => exact .no (kdE hk e) ne
  | yes S m => exact .yes (sqtE S e) fun y hy => let ⟨n, hk⟩ := m y hy; ⟨n, kdE hk e⟩
theorem ext_same {H H' : Hp} (s : Same H H') : ExtN H H' := fun b o h _ => s b o h
mutual
theorem dpE {H H' : Hp} (e : ExtN H H') : ∀ (d : PyData) (v : V), Dp K H v d → Dp K H' v d
  | .none, _, h => by cases h; exact .non
  | .bool b, _, h => by cases h; exact .bl b
  | .int i, _, h => by cases h; exact .int i
  | .str z, _, h => by cases h; exact .str z
  | .list ds, _, h => by
    cases h with
    | lst h1 h2 => exact .lst (sqlE h1 e) (dpsE e ds _ h2)
  | .tuple ds, _, h => by
    cases h with
    | tup h1 h2 => exact .tup (sqtE h1 e) (dpsE e ds _ h2)
  | .dict _, _, h => nomatch h
theorem dpsE {H H' : Hp} (e : ExtN H H') : ∀ (ds : List PyData) (vs : List V), DpAll K H vs ds → DpAll K H' vs ds
  | [], _, h => by cases h; exact .nil
  | d :: ds, _, h => by
    cases h with
    | cons h1 h2 => exact .cons (dpE e d _ h1) (dpsE e ds _ h2)
end
/-- without p -/
def wo (H : Hp) (p : Addr) : Hp := fun b => if b = p then none else H b
theorem wo_ne {H : Hp} {p b : Addr} (h : b ≠ p) : wo H p b = H b := if_neg h
theorem wo_some {H : Hp} {g b : Addr} {o : HO} (h : wo H g b = some o) : b ≠ g ∧ H b = some o := by
  by_cases e : b = g
  · have : wo H g b = none := if_pos e
    rw [this] at h
    cases h
  · rw [wo_ne e] at h
    exact ⟨e, h⟩
/-- a value whose text can be told -/
def Shows (K : PySem.W.Frag) (H : Hp) (v : V) (t : Str) : Prop := ∃ d, Dq K H v d ∧ d.showable = true ∧ d.shown.length ≤ 900 ∧ d.shown = t
/-- what the clauses make of an error -/
def Caught (K : PySem.W.Frag) (Q : VK) : XK := fun cls d H' =>
  (cls = .ref (ga K "InvalidMove") ∧ Q (.str "move") H') ∨ (cls = .ref (ga K "InvalidGroup") ∧ Q (.str "group") H') ∨
  (cls = .ref (ga K "InvalidRow") ∧ Q (.str "row") H') ∨ (cls = .ref (ga K "InvalidKinds") ∧ Q (.str "kinds") H') ∨
  (cls = .ref (ga K "ParseError") ∧ ∃ dd v t, d = some dd ∧ H' dd = some (.xd [("index", v)]) ∧ Shows K H' v t ∧ Q (.str ("parse " ++ t)) H') ∨
  (cls = .ref (ga K "InvalidNumber") ∧ ∃ dd v t, d = some dd ∧ H' dd = some (.xd [("given", v)]) ∧ Shows K H' v t ∧ Q (.str ("number " ++ t)) H')
def TTW (K : PySem.W.Frag) : (XK → Hp → VK → Prop) → Hp → VK → Prop := fun tl H Q => tl (Caught K Q) H (fun _ H' => Q (.str "fine") H')
theorem scWord : FnScope ["_law_call", "error"] ["_law_call"] (defScope sWordL) :=
  ⟨rfl, rfl, rfl, by decide +kernel, rfl, by decide +kernel, by decide +kernel⟩
theorem word_gives {X : Cx} {k : Nat} {q : Str} {g : Addr} {cd : Value} (T : Tx X.K X.mg) (Y : Ex X.K X.mg) (hr : Rm (k + 1) X.A) :
    GivesTo X ["_law_call", "error"] "_law_word" (defScope sWordL) g cd (defBody sWordL) "_law_call" q (TTW X.K) := by
  intro f c' s H Q tl act hc h
  have hrd : Rm k (X.A.deeper (envOfC "_law_word" (defScope sWordL) s.heap.objs.size g cd)) := hr.down
  have fl : ∀ i j, i < 6 → j < i → PySem.W.exmOne X.K (.ref (ga X.K (cn i))) (.ref (ga X.K (cn j))) = some false := fun i j hi hj => by
    rw [Y.exm i hi j (Nat.le_of_lt hj), decide_eq_false (by omega)]
  have tr : ∀ i, i < 6 → PySem.W.exmOne X.K (.ref (ga X.K (cn i))) (.ref (ga X.K (cn i))) = some true := fun i hi => by
    rw [Y.exm i hi i (Nat.le_refl _), decide_eq_true rfl]
  refine ⟨_, pss_cons (ME.ps_try_cl (X := (cxOf C8.CX0 X.prog X.w X.K X.mg X.base ["_law_call", "error"] "_law_word" (defScope sWordL) g cd X.A X.stack s H C8.E0).nox)
    (Wout := fun _ _ _ _ => False)
    (tb := fun W D σ H => ∃ Ech : XK, (∀ cls d σ' H', Ech cls d H' → W cls d σ' H') ∧ σ[0]? = some (some (.ref f)) ∧ H c' = some (CodeO c' q) ∧ tl Ech H (fun _ H1 => D.nx σ H1))
    rfl rfl takes0
    (.no (c := .ref (ga X.K "InvalidMove")) ⟨rfl, by decide, .inl Y.mv.glo⟩ (fun _ _ _ _ _ _ _ => pss_one (ps_ret pe_str))
      (.no (c := .ref (ga X.K "InvalidGroup")) ⟨rfl, by decide, .inl Y.gr.glo⟩ (fun _ _ _ _ _ _ _ => pss_one (ps_ret pe_str))
        (.no (c := .ref (ga X.K "InvalidRow")) ⟨rfl, by decide, .inl Y.rw.glo⟩ (fun _ _ _ _ _ _ _ => pss_one (ps_ret pe_str))
          (.no (c := .ref (ga X.K "InvalidKinds")) ⟨rfl, by decide, .inl Y.ks.glo⟩ (fun _ _ _ _ _ _ _ => pss_one (ps_ret pe_str))
            (.as_ (i := 1) (c := .ref (ga X.K "ParseError")) ⟨rfl, by decide, .inl Y.par.glo⟩ scWord.nd rfl rfl
              (fun a oe cls d pn hz hf => pss_one (ps_ret (pe_op op_add_str pe_str (pe_callB (show CallR _ _ (rReprO X.K) from cr_reprO (hrd).still (hrd).hu66) rfl T.f_repr (by decide +kernel) (pa_cons (pe_xf Y.par.field Y.par.none_ hz hf (pv 1)) pa_nil)))))
              (.as_ (i := 1) (c := .ref (ga X.K "InvalidNumber")) ⟨rfl, by decide, .inl Y.num.glo⟩ scWord.nd rfl rfl
                (fun a oe cls d pn hz hf => pss_one (ps_ret (pe_op op_add_str pe_str (pe_callB (show CallR _ _ (rReprO X.K) from cr_reprO (hrd).still (hrd).hu66) rfl T.f_repr (by decide +kernel) (pa_cons (pe_xf Y.num.field Y.num.none_ hz hf (pv 1)) pa_nil)))))
                .nil))))))
    (fun W pn xe tk _ => ?_)) (pss_one (ps_ret pe_str)), ?_⟩
  · refine ⟨fun pins s' σ H' D I h' => ?_⟩
    obtain ⟨Ech, hW, h1, h2, h3⟩ := h'
    exact (pss_one (ps_expr (act W pn xe Ech _ _ tk hW))).run pins s' σ H' D I ⟨h1, h2, h3⟩
  · refine ⟨Caught X.K Q, ?_, rfl, hc, h⟩
    rintro cls d σ' H' (⟨rfl, z⟩ | ⟨rfl, z⟩ | ⟨rfl, z⟩ | ⟨rfl, z⟩ | ⟨rfl, dd, v, t, rfl, ed, ⟨dt, h1, h2, h3, rfl⟩, z⟩ | ⟨rfl, dd, v, t, rfl, ed, ⟨dt, h1, h2, h3, rfl⟩, z⟩)
    · exact ⟨true, tr 0 (by decide), fun _ _ _ => z, fun n => nomatch n⟩
    · exact ⟨false, fl 1 0 (by decide) (by decide), (fun n => nomatch n), fun _ => ⟨true, tr 1 (by decide), fun _ _ _ => z, fun n => nomatch n⟩⟩
    · exact ⟨false, fl 2 0 (by decide) (by decide), (fun n => nomatch n), fun _ => ⟨false, fl 2 1 (by decide) (by decide), (fun n => nomatch n), fun _ => ⟨true, tr 2 (by decide), fun _ _ _ => z, fun n => nomatch n⟩⟩⟩
    · exact ⟨false, fl 3 0 (by decide) (by decide), (fun n => nomatch n), fun _ => ⟨false, fl 3 1 (by decide) (by decide), (fun n => nomatch n), fun _ => ⟨false, fl 3 2 (by decide) (by decide), (fun n => nomatch n), fun _ => ⟨true, tr 3 (by decide), fun _ _ _ => z, fun n => nomatch n⟩⟩⟩⟩
    · refine ⟨false, fl 4 0 (by decide) (by decide), (fun n => nomatch n), fun _ => ⟨false, fl 4 1 (by decide) (by decide), (fun n => nomatch n), fun _ => ⟨false, fl 4 2 (by decide) (by decide), (fun n => nomatch n), fun _ => ⟨false, fl 4 3 (by decide) (by decide), (fun n => nomatch n), fun _ => ⟨true, tr 4 (by decide), fun _ a na len => ?_, fun n => nomatch n⟩⟩⟩⟩⟩
      have e1 : (σ'.set 1 (some (V.ref a)))[1]? = some (some (V.ref a)) := by
        have l2 : σ'.length = 2 := len
        rw [List.getElem?_set_self (by omega)]
      exact ⟨_, e1, rfl, rfl, dd, _, v, rfl, ed, rfl, _, dt, rfl, h1, h2, Nat.le_trans h3 (by decide), _, _, rfl, rfl, Nat.le_trans (Nat.add_le_add_left h3 _) (by decide), z⟩
    · refine ⟨false, fl 5 0 (by decide) (by decide), (fun n => nomatch n), fun _ => ⟨false, fl 5 1 (by decide) (by decide), (fun n => nomatch n), fun _ => ⟨false, fl 5 2 (by decide) (by decide), (fun n => nomatch n), fun _ => ⟨false, fl 5 3 (by decide) (by decide), (fun n => nomatch n), fun _ => ⟨false, fl 5 4 (by decide) (by decide), (fun n => nomatch n), fun _ => ⟨true, tr 5 (by decide), fun _ a na len => ?_, fun n => nomatch n⟩⟩⟩⟩⟩⟩
      have e1 : (σ'.set 1 (some (V.ref a)))[1]? = some (some (V.ref a)) := by
        have l2 : σ'.length = 2 := len
        rw [List.getElem?_set_self (by omega)]
      exact ⟨_, e1, rfl, rfl, dd, _, v, rfl, ed, rfl, _, dt, rfl, h1, h2, Nat.le_trans h3 (by decide), _, _, rfl, rfl, Nat.le_trans (Nat.add_le_add_left h3 _) (by decide), z⟩
section
variable {CX : CXT} {k : Nat} {x : Str} {ps : List Str} {sp : Sp} {st : Stmt}
/-- a def whose body makes lambdas: its code object is known -/
theorem defC {N : List Str} (T : At K mg x st) (S : FnScope N ps (defScope st))
    (hb : ∀ (kV doc pm : Value) (an : Option Addr) (cd ct : Value) (us : List Value), us.length = ps.length →
      bindArgs (PySem.W.fnOf x x (defArgs st) (defBody st) (defScope st) .none kV doc pm an cd ct) ⟨us, []⟩ = pure (ps.zip us))
    (arity : ∀ vs H Q E, sp vs H Q E → vs.length = ps.length)
    (body : ∀ (f : Addr) (cd : Value) (A : Around) (out : List Env) (s : Shared) (H : Hp) (vs : List V) (Q : VK) (E : XK),
      cd = .ref (He.codeOf K (x, none)) → Rm k (A.deeper (envOfC x (defScope st) s.heap.objs.size f cd)) → sp vs H Q E →
      ∃ t, PSs (cxOf CX P w K mg base N x (defScope st) f cd A out s H E).nox (defBody st) t ∧
        t { nx := fun _ H' => Q .non H', rt := Q } (start N vs) H) : Def P w K mg base CX (k + 1) x ps sp := by
  obtain ⟨fd, F⟩ := T.fn
  have F' := F
  have bnd := F.bindsN hb
  obtain ⟨oc, od, dV, kV, doc, pm, an, cd, ct, osl, rfl, lk, hcd, _, _⟩ := F.ex
  have ec : cd = .ref (He.codeOf K (x, none)) := by
    obtain ⟨c, rfl⟩ := He.codeIn_ref hcd
    rw [He.codeOf_eq (p := (x, none)) lk rfl]
  refine ⟨_, _, ⟨fun h => arity _ _ _ _ h, ?_⟩, T.glo, F'.kp, bnd, oc, od, osl, lk⟩
  intro A out s H ar us vs Q E hr e0 hbd hv h
  have nv := arity _ _ _ _ h
  have inK : K.In s.heap := e0.mod.kin.keeps (fun b o e => (e0.bs b o e).1)
  have nl : s.heap.NoLimit := e0.mod.nolimit.keeps (fun b o e => (e0.bs b o e).1)
  have kd : ∀ y ∈ ps.zip us, (defScope st).names.lookup y.1 = some .local ∨
      ((defScope st).names.lookup y.1 = some .cell ∧ ((cellsFrom (s.heap.objs.size + 1) (defScope st).names []).lookup y.1).isSome = true) := by
    rintro ⟨n, v⟩ hy
    cases S.par n (List.of_mem_zip hy).1 with
    | inl q => exact .inl q
    | inr q => exact .inr ⟨q, PySem.W.cellsFrom_some _ _ _ (.inl q)⟩
  refine codeAny_call_function hr.room.depth (inK _ _ lk) rfl S.co S.gen rfl (PySem.W.codeRec_of inK hcd) (hbd _ _ _ _ ?_)
  refine wpAny_newFunctionEnv_cells S.kind kd (fun env he s1 xc => ?_)
  subst he
  refine ⟨nl.keeps xc.toInCall.keep, codeAny_func ?_⟩
  obtain ⟨t, ht, hq⟩ := body _ cd A out s H vs Q E ec hr.down h
  have I := inv_start (CX := CX) (P := P) (w := w) (qual := x) (cd := cd) (f := He.ga K x) (E := E) S hr.room.hd e0 nv hv xc
  refine wpAny_mono (ht.nox.run [] s1 (start N vs) H _ I hq) (fun fl s' hs => ?_) (fun e s' hs => hs)
  cases fl with
  | ret u =>
    obtain ⟨v, σ', H', J, rv, q⟩ := hs
    exact ⟨v, H', J.os, J.bare, J.base, J.hok, rv, q⟩
  | next =>
    obtain ⟨σ', H', J, q⟩ := hs
    exact ⟨.non, H', J.os, J.bare, J.base, J.hok, rfl, q⟩
  | brk =>
    obtain ⟨_, _, _, q⟩ := hs
    exact q.elim
  | cont =>
    obtain ⟨_, _, _, q⟩ := hs
    exact q.elim
end
abbrev q1 : Str := (envOfC sNr (defScope sWrittenRightL) 0 0 .none).qual ++ "<lambda>"
abbrev q2 : Str := (envOfC sTr (defScope sReadRightL) 0 0 .none).qual ++ "<lambda>"
abbrev q3 : Str := (envOfC sLw (defScope sLaw) 0 0 .none).qual ++ "<lambda>"
abbrev TL (K : PySem.W.Frag) : List (Addr × Str) := [((cd1 K).2, q1), ((cd2 K).2, q2), ((cd3 K).2, q3)]
structure Tb (K : PySem.W.Frag) (mg : Str → Option Value) (base : Heap) : Prop where
  t1 : TabB base mg (cd1 K).1 (cd1 K).2
  t2 : TabB base mg (cd2 K).1 (cd2 K).2
  t3 : TabB base mg (cd3 K).1 (cd3 K).2
  n12 : (cd1 K).2 ≠ (cd2 K).2
  n13 : (cd1 K).2 ≠ (cd3 K).2
  n23 : (cd2 K).2 ≠ (cd3 K).2
theorem tl_mem {p : Addr × Str} (h : p ∈ TL K) : p = ((cd1 K).2, q1) ∨ p = ((cd2 K).2, q2) ∨ p = ((cd3 K).2, q3) := by
  simpa only [List.mem_cons, List.not_mem_nil, or_false] using h
theorem Tb.u1 (h : Tb K mg base) : ∀ p ∈ TL K, p.1 = (cd1 K).2 → p.2 = q1 := by
  intro p hp e
  rcases tl_mem hp with rfl | rfl | rfl
  · rfl
  · exact absurd e.symm h.n12
  · exact absurd e.symm h.n13
theorem Tb.u2 (h : Tb K mg base) : ∀ p ∈ TL K, p.1 = (cd2 K).2 → p.2 = q2 := by
  intro p hp e
  rcases tl_mem hp with rfl | rfl | rfl
  · exact absurd e h.n12
  · rfl
  · exact absurd e.symm h.n23
theorem Tb.u3 (h : Tb K mg base) : ∀ p ∈ TL K, p.1 = (cd3 K).2 → p.2 = q3 := by
  intro p hp e
  rcases tl_mem hp with rfl | rfl | rfl
  · exact absurd e h.n13
  · exact absurd e h.n23
  · rfl
theorem m1 : ((cd1 K).2, q1) ∈ TL K := List.mem_cons_self
theorem m2 : ((cd2 K).2, q2) ∈ TL K := List.mem_cons_of_mem _ List.mem_cons_self
theorem m3 : ((cd3 K).2, q3) ∈ TL K := List.mem_cons_of_mem _ (List.mem_cons_of_mem _ List.mem_cons_self)
/-! lists of words and numbers -/
def vI : Str ⊕ Int → V
  | .inl z => .str z
  | .inr i => .int i
def dI : Str ⊕ Int → PyData
  | .inl z => .str z
  | .inr i => .int i
abbrev Wd (H : Hp) (p : Addr) (os : List (Str ⊕ Int)) : Prop := H p = some (.lst (os.map vI))
/-- a heap behind H0, in which tables and the list at p have grown -/
structure On (K : PySem.W.Frag) (H0 : Hp) (p : Addr) (os : List (Str ⊕ Int)) (H : Hp) : Prop where
  ext : ExtN H0 H
  new : H0 p = none
  wd : Wd H p os
  tab : Tabs (TL K) H
theorem wo_ext1 {H H' : Hp} {g : Addr} (s : ExtN H H') : ExtN (wo H g) (wo H' g) := by
  intro b o h nt
  obtain ⟨n, e⟩ := wo_some h
  rw [wo_ne n]
  exact s _ _ e nt
theorem On.same {H0 H H1 : Hp} {p : Addr} {os : List (Str ⊕ Int)} (h : On K H0 p os H) (s : Same H H1) : On K H0 p os H1 :=
  ⟨fun b o e n => s _ _ (h.ext b o e n), h.new, s _ _ h.wd, h.tab.ext s⟩
theorem On.step {H0 H H1 H2 : Hp} {p : Addr} {os : List (Str ⊕ Int)} {o : Str ⊕ Int} (h : On K H0 p os H) (e : ExtN H H1) (t : Tabs (TL K) H1) (s : Same H1 H2) :
    H2 p = some (.lst (os.map vI)) ∧ On K H0 p (os ++ [o]) (upd H2 p (.lst (os.map vI ++ [vI o]))) := by
  have w2 : H2 p = some (.lst (os.map vI)) := s _ _ (e _ _ h.wd (by nofun))
  refine ⟨w2, fun b o hb nt => ?_, h.new, ?_, ?_⟩
  · have nb : b ≠ p := by
      rintro rfl
      rw [h.new] at hb
      cases hb
    rw [upd_ne nb]
    exact s _ _ (e _ _ (h.ext _ _ hb nt) nt)
  · show upd H2 p _ p = _
    rw [upd_same, List.map_append]
    rfl
  · have t2 := t.ext s
    intro q hq
    obtain ⟨ps, h1, h2, h3⟩ := t2 q hq
    have nq : q.1 ≠ p := by
      intro z
      rw [z, w2] at h1
      cases h1
    refine ⟨ps, by rw [upd_ne nq]; exact h1, h2, fun pos cv hc => ?_⟩
    obtain ⟨c, e1, e2⟩ := h3 pos cv hc
    have nc : c ≠ p := by
      rintro rfl
      rw [w2] at e2
      unfold CodeO at e2
      cases e2
    exact ⟨c, e1, by rw [upd_ne nc]; exact e2⟩
theorem On.first {H2 : Hp} {p : Addr} {os : List (Str ⊕ Int)} (t : Tabs (TL K) H2) (fp : H2 p = none) : On K H2 p os (upd H2 p (.lst (os.map vI))) :=
  ⟨ext_same (same_new fp), fp, upd_same, t.ext (same_new fp)⟩
/-- what a word's value promises -/
def Ret (H1 : Hp) (Q : VK) (z : Str) : Prop := ∀ H2, Same H1 H2 → Q (.str z) H2
theorem ret_fine {H1 H' : Hp} {Q : VK} (q : Ret H1 Q "fine") (s : Same H1 H') : Q (.str "fine") H' := q _ s
theorem ret_mv {H1 : Hp} {Q : VK} (q : Ret H1 Q "move") : rMv K H1 (Caught K Q) := fun _ s => .inl ⟨rfl, q _ s⟩
theorem ret_gr {H1 : Hp} {Q : VK} (q : Ret H1 Q "group") : ∀ H', Same H1 H' → Caught K Q (.ref (ga K "InvalidGroup")) none H' := fun _ s => .inr (.inl ⟨rfl, q _ s⟩)
theorem ret_rw {H1 : Hp} {Q : VK} (q : Ret H1 Q "row") : rRw K H1 (Caught K Q) := fun _ s => .inr (.inr (.inl ⟨rfl, q _ s⟩))
theorem ret_ks {H1 : Hp} {Q : VK} (q : Ret H1 Q "kinds") : rKs K H1 (Caught K Q) := fun _ s => .inr (.inr (.inr (.inl ⟨rfl, q _ s⟩)))
theorem zero_shows (H : Hp) : Shows K H (.int 0) "0" := ⟨_, .inl ⟨.int 0, by decide +kernel⟩, by decide +kernel, by decide +kernel, by decide +kernel⟩
theorem ret_par {H1 : Hp} {Q : VK} (q : Ret H1 Q "parse 0") : rPar K H1 0 (Caught K Q) :=
  fun H' d s fd ed => .inr (.inr (.inr (.inr (.inl ⟨rfl, d, _, "0", rfl, ed, zero_shows H', q _ s⟩))))
theorem ret_num {H1 : Hp} {Q : VK} {v : V} {t : Str} (h : ∀ H', Same H1 H' → Shows K H' v t) (q : Ret H1 Q ("number " ++ t)) : rNum K H1 v (Caught K Q) :=
  fun H' d s fd ed => .inr (.inr (.inr (.inr (.inr ⟨rfl, d, v, t, rfl, ed, h H' s, q _ s⟩))))
/-- told.append(word(lambda: ..)) -/
theorem stepW {H0 H : Hp} {p : Addr} {os : List (Str ⊕ Int)} {z : Str} {σ : L2.St} {i : Nat} {t : XK → TE} {D : Ends} (h : On K H0 p os H)
    (hi : σ[i]? = some (some (.ref p))) (sz : os.length < 100)
    (call : ∀ (H1 : Hp), ExtN H H1 → ∀ Q : VK, Ret H1 Q z → TTW K (fun E H' Q' => t E σ H' Q') H1 Q)
    (next : ∀ H', On K H0 p (os ++ [.inl z]) H' → D.nx σ H') :
    tDrop (tBM K "list" rAppend (tVar i) (tCons (tLam (TL K) (TTW K) t) tNil)) D σ H := by
  refine ⟨_, hi, .inl ⟨rfl, _, .inl (.inl h.wd)⟩, ?_⟩
  refine ⟨h.tab, fun H1 e1 t1 => call H1 e1 _ fun H2 s2 => ?_⟩
  obtain ⟨w2, o2⟩ := h.step (o := .inl z) e1 t1 s2
  refine ⟨p, _, _, rfl, rfl, w2, ?_, next _ o2⟩
  rw [List.length_map]
  exact Nat.lt_of_lt_of_le sz (by decide)
/-! lists of words against one another -/
def dW (os : List (Str ⊕ Int)) : PyData := .list (os.map dI)
theorem dp_flat {H : Hp} : ∀ os : List (Str ⊕ Int), DpAll K H (os.map vI) (os.map dI)
  | [] => .nil
  | .inl z :: r => .cons (.str z) (dp_flat r)
  | .inr i :: r => .cons (.int i) (dp_flat r)
theorem dp_list {H : Hp} {p : Addr} {os : List (Str ⊕ Int)} (e : H p = some (.lst (os.map vI))) : Dp K H (.ref p) (dW os) := .lst (.inl (.inl e)) (dp_flat os)
theorem On.dp {H0 H : Hp} {p : Addr} {os : List (Str ⊕ Int)} (h : On K H0 p os H) : Dp K H (.ref p) (dW os) := dp_list h.wd
def okI : Str ⊕ Int → Prop
  | .inl z => PyData.strOk z = true
  | .inr i => PyData.canLay0 (.int i) = true
theorem lay_its : ∀ os : List (Str ⊕ Int), (∀ o ∈ os, okI o) → PyData.canLayAll0 (os.map dI) = true
  | [], _ => rfl
  | o :: r, h => by
    show (PyData.canLay0 (dI o) && PyData.canLayAll0 (r.map dI)) = true
    rw [lay_its r (fun z hz => h z (List.mem_cons_of_mem _ hz)), Bool.and_true]
    have ho := h o List.mem_cons_self
    cases o with
    | inl z =>
      show PyData.canLay0 (.str z) = true
      unfold PyData.canLay0
      exact ho
    | inr i => exact ho
theorem dep_its : ∀ os : List (Str ⊕ Int), PyData.depthAll (os.map dI) ≤ 1
  | [] => by decide
  | o :: r => by
    have := dep_its r
    have h0 : PyData.depth (dI o) ≤ 1 := by
      cases o with
      | inl z => show PyData.depth (.str z) ≤ 1; simp only [PyData.depth]; omega
      | inr i => show PyData.depth (.int i) ≤ 1; simp only [PyData.depth]; omega
    simp only [List.map_cons, PyData.depthAll]
    omega
theorem shapedW (os : List (Str ⊕ Int)) (ok : ∀ o ∈ os, okI o) : SeqAt.shaped (dW os) = true := by
  unfold SeqAt.shaped dW
  have h := dep_its os
  rw [show PyData.canLay0 (.list (os.map dI)) = true from lay_its os ok, Bool.true_and]
  refine decide_eq_true ?_
  simp only [PyData.depth]
  omega
theorem eqvW : ∀ os : List (Str ⊕ Int), PyData.eqvAll (os.map dI) (os.map dI) = true
  | [] => rfl
  | .inl z :: r => by
    show (PyData.eqv (.str z) (.str z) && PyData.eqvAll (r.map dI) (r.map dI)) = true
    rw [eqvW r, Bool.and_true]
    show (z == z) = true
    exact beq_self_eq_true z
  | .inr i :: r => by
    show (PyData.eqv (.int i) (.int i) && PyData.eqvAll (r.map dI) (r.map dI)) = true
    rw [eqvW r, Bool.and_true]
    show (i == i) = true
    exact beq_self_eq_true i
/-! values drawn -/
theorem new_obj {J : Hp} {u g : Addr} {o x : HO} (eg : J g = some x) (f : J u = none) : u ≠ g ∧ Same J (upd J u o) ∧ (upd J u o) u = some o ∧ (upd J u o) g = some x := by
  have n : u ≠ g := by
    rintro rfl
    rw [eg] at f
    cases f
  exact ⟨n, same_new f, upd_same, (upd_ne (Ne.symm n)).trans eg⟩
theorem wo_upd {J : Hp} {g : Addr} {o : HO} : wo (upd J g o) g = wo J g := by
  funext b
  by_cases c : b = g
  · rw [c]
    show (if g = g then none else _) = (if g = g then none else _)
    rw [if_pos rfl, if_pos rfl]
  · rw [wo_ne c, wo_ne c, upd_ne c]
theorem low_ext {H H' : Hp} {g : Addr} (e : ExtN H H') : ExtN (wo H g) H' := fun b o h nt => e _ _ (wo_some h).2 nt
theorem dqE {H H' : Hp} {v : V} {d : PyData} (h : Dq K H v d) (e : ExtN H H') : Dq K H' v d := by
  rcases h with ⟨h, s⟩ | ⟨a, rfl, h, rfl⟩
  · exact .inl ⟨dpE e _ _ h, s⟩
  · exact .inr ⟨a, rfl, e _ _ h (by nofun), rfl⟩
/-- a value that p does not hold of, and its text -/
def NV (K : PySem.W.Frag) (H : Hp) (v : V) (p : V → Bool) (t : Str) : Prop :=
  ∃ kn d, Kd K H v kn ∧ p v = false ∧ Dq K H v d ∧ d.showable = true ∧ d.shown.length ≤ 900 ∧ PyData.strOk d.shown = true ∧ d.shown = t
theorem nvE {H H' : Hp} {v : V} {p : V → Bool} {t : Str} (h : NV K H v p t) (e : ExtN H H') : NV K H' v p t :=
  let ⟨kn, d, a, b, c, r⟩ := h
  ⟨kn, d, kdE a e, b, dqE c e, r⟩
theorem NV.shows {H : Hp} {v : V} {p : V → Bool} {t : Str} (h : NV K H v p t) : ∀ H', Same H H' → Shows K H' v t := fun H' s =>
  let ⟨_, d, _, _, c, r1, r2, _, r3⟩ := h
  ⟨d, dqE c (ext_same s), r1, r2, r3⟩
theorem NV.kd {H : Hp} {v : V} {p : V → Bool} {t : Str} (h : NV K H v p t) : ∃ n, Kd K H v n := let ⟨kn, _, a, _⟩ := h; ⟨kn, a⟩
theorem NV.no {H : Hp} {v : V} {p : V → Bool} {t : Str} (h : NV K H v p t) : p v = false := let ⟨_, _, _, a, _⟩ := h; a
theorem NV.ok {H : Hp} {v : V} {p : V → Bool} {t : Str} (h : NV K H v p t) : PyData.strOk t = true := let ⟨_, _, _, _, _, _, _, a, b⟩ := h; b ▸ a
/-- no tuple of 1 to 60 integers -/
def BV (K : PySem.W.Frag) (H : Hp) (v : V) : Prop := ∃ o, Rv K H v o ∧ isMem o = false
theorem bvE {H H' : Hp} {v : V} (h : BV K H v) (e : ExtN H H') : BV K H' v := let ⟨o, a, b⟩ := h; ⟨o, rvE a e, b⟩
theorem bmE {H H' : Hp} {v : V} (h : BadM K H v) (e : ExtN H H') : BadM K H' v := let ⟨o, a, b⟩ := h; ⟨o, rvE a e, b⟩
/-- of some kind -/
def KV' (K : PySem.W.Frag) (H : Hp) (v : V) : Prop := ∃ n, Kd K H v n
theorem kvE {H H' : Hp} {v : V} (h : KV' K H v) (e : ExtN H H') : KV' K H' v := let ⟨n, a⟩ := h; ⟨n, kdE a e⟩
structure Upto (p : Addr) (H H' : Hp) : Prop where
  same : ∀ b o, b ≠ p → H b = some o → H' b = some o
  bag : BagAt H' p
theorem Upto.refl {p : Addr} {H : Hp} (h : BagAt H p) : Upto p H H := ⟨fun _ _ _ e => e, h⟩
theorem Upto.draw {p : Addr} {H H' : Hp} {a b c : Int} (h : Upto p H H') : Upto p H (upd H' p (.lst [.int a, .int b, .int c])) :=
  ⟨fun x o n e => by rw [upd_ne n]; exact h.same x o n e, ⟨a, b, c, upd_same⟩⟩
theorem Upto.new {p t : Addr} {H H' : Hp} {o : HO} (h : Upto p H H') (f : H' t = none) : Upto p H (upd H' t o) := by
  obtain ⟨a, b, c, e⟩ := h.bag
  exact ⟨fun x y n e => by rw [upd_ne (ne_of_none (h.same x y n e) f)]; exact h.same x y n e, ⟨a, b, c, by rw [upd_ne (ne_of_none e f)]; exact e⟩⟩
theorem Upto.trans {p : Addr} {H H' H2 : Hp} (h : Upto p H H') (k : Upto p H' H2) : Upto p H H2 := ⟨fun x o n e => k.same x o n (h.same x o n e), k.bag⟩
theorem Upto.keep {p : Addr} {H H' H2 : Hp} (h : Upto p H H') (k : Same H' H2) : Upto p H H2 := by
  obtain ⟨a, b, c, e⟩ := h.bag
  exact ⟨fun x o n e => k x o (h.same x o n e), ⟨a, b, c, k _ _ e⟩⟩
theorem tab_upto {g : Addr} {H1 H2 : Hp} (t : Tabs (TL K) H1) (b : BagAt H1 g) (u : Upto g H1 H2) : Tabs (TL K) H2 := by
  obtain ⟨x, y, z, eb⟩ := b
  intro q hq
  obtain ⟨ps, h1, h2, h3⟩ := t q hq
  have nq : q.1 ≠ g := by
    intro z
    rw [z, eb] at h1
    cases h1
  refine ⟨ps, u.same _ _ nq h1, h2, fun pos cv hc => ?_⟩
  obtain ⟨c, e1, e2⟩ := h3 pos cv hc
  have nc : c ≠ g := by
    rintro rfl
    rw [eb] at e2
    unfold CodeO at e2
    cases e2
  exact ⟨c, e1, u.same _ _ nc e2⟩
theorem bag_ext {g : Addr} {H H1 : Hp} (b : BagAt H g) (e : ExtN H H1) : BagAt H1 g :=
  let ⟨x, y, z, h⟩ := b
  ⟨x, y, z, e _ _ h (fun ps z => by cases z)⟩
theorem up_ext {H H' : Hp} {g : Addr} (u : Upto g H H') : ExtN (wo H g) (wo H' g) := by
  intro b o h _
  obtain ⟨n, e⟩ := wo_some h
  rw [wo_ne n]
  exact u.same _ _ n e
/-- a draw behind what is laid for it -/
theorem draw_up {H J : Hp} {g : Addr} {a b c : Int} (s : Same H J) (bag : BagAt H g) : Upto g H (upd J g (.lst [.int a, .int b, .int c])) := ⟨fun x o n e => by rw [upd_ne n]; exact s _ _ e, ⟨a, b, c, upd_same⟩⟩
end
end K87


set_option Elab.async false
set_option linter.all false
set_option maxRecDepth 100000
set_option maxHeartbeats 2000000
namespace K87
open PySem PySem.Spec PyProof.Rows L2 MM LamX
/-! texts put together -/
def rAddS : R2 := fun x y H Q => ∃ i j, x = .str i ∧ y = .str j ∧ i.length + j.length ≤ sizeLine ∧ Q (.str (i ++ j)) H
/-- a short text, many times -/
def manyS (z : Str) (n : Nat) : Str := ⟨((List.replicate n z.cps.toList).flatten).toArray⟩
def rRepB : R2 := fun x y H Q => ∃ (z : Str) (n : Nat), x = .str z ∧ y = .int (n : Int) ∧ 1 ≤ n ∧ n ≤ 5000 ∧ 1 ≤ z.length ∧ z.length ≤ 100 ∧ Q (.str (manyS z n)) H
theorem fold_many (a : Array Nat) : ∀ (n : Nat) (acc : Array Nat), List.foldl (· ++ ·) acc (List.replicate n a) = acc ++ ((List.replicate n a.toList).flatten).toArray
  | 0, acc => by simp
  | n + 1, acc => by
    rw [List.replicate_succ, List.foldl_cons, fold_many a n, List.replicate_succ, List.flatten_cons]
    apply Array.ext'
    simp
theorem manyS_len (z : Str) (n : Nat) : (manyS z n).length = n * z.length := by
  show ((List.replicate n z.cps.toList).flatten).toArray.size = _
  rw [List.size_toArray, PyProof.Rows.lm_len_rep_flat]
  rfl
theorem op_repB {X : Cx} : OpR X (binaryOp .Mult) rRepB := by
  rintro pins s σ H _ _ v u Q I rx ry ⟨z, n, rfl, rfl, n1, n2, z1, z2, q⟩
  obtain ⟨t, rfl⟩ := rx
  obtain ⟨t', rfl⟩ := ry
  have small : z.length * n ≤ 100 * 5000 := Nat.mul_le_mul z2 n2
  have e : List.foldl (· ++ ·) #[] (List.replicate ((n : Int)).toNat z.cps) = (manyS z n).cps := by
    rw [fold_many, Int.toNat_natCast]
    show #[] ++ _ = _
    simp [manyS]
  refine PySem.P.mul_str ?_ (fun _ _ => ?_) (fun _ _ => ?_) ?_
  · rw [decide_eq_false (by omega), decide_eq_false (by omega)]
    rfl
  · have sm : (z.length : Int) * (n : Int) ≤ 2 ^ 63 - 1 := by
      rw [← Int.natCast_mul]
      omega
    have := Int.le_ediv_of_mul_le (by omega) sm
    omega
  · show decide (_ > sizeLine) = false
    refine decide_eq_false ?_
    rw [sizeLine_eq]
    have : (z.length : Int) * (n : Int) = ((z.length * n : Nat) : Int) := (Int.natCast_mul _ _).symm
    first | omega | (rw [Int.toNat_natCast]; omega)
  · rw [if_neg (by omega)]
    split
    · rename_i h
      have n1' : n = 1 := by
        rcases Bool.or_eq_true_iff.mp h with h | h
        · have := eq_of_beq h
          omega
        · have := eq_of_beq h
          omega
      have ez : manyS z n = z := by
        rw [n1']
        obtain ⟨c⟩ := z
        unfold manyS
        simp
      rw [ez] at q
      exact ⟨.str z, H, I, ⟨t, rfl⟩, q⟩
    · refine ⟨?_, .str _, H, I.tok _, ⟨_, rfl⟩, ?_⟩
      · show (List.foldl (· ++ ·) #[] (List.replicate ((n : Int)).toNat z.cps)).size ≤ sizeLine
        rw [e, sizeLine_eq]
        show (manyS z n).length ≤ _
        rw [manyS_len, Nat.mul_comm]
        omega
      · show Q (.str ⟨List.foldl (· ++ ·) #[] (List.replicate ((n : Int)).toNat z.cps)⟩) H
        rw [e]
        exact q
end K87

set_option Elab.async false
set_option linter.all false
set_option maxRecDepth 100000
set_option maxHeartbeats 4000000
namespace K87
open PySem PySem.Spec PyProof.Rows L2 MM LamX
/-! own words for the readings: a step, its side -/
local macro_rules | `(tactic| walk_at "side") => `(tactic| first
  | omega
  | exact ⟨by omega, by omega⟩
  | exact Or.inl ⟨by omega, by omega⟩
  | exact Or.inr ⟨by omega, by omega⟩
  | (show CPw _ _; decide +kernel)
  | (show (0 : Int) < _; decide +kernel)
  | (show CDivW _ _; first | assumption | exact ⟨by decide, by decide +kernel⟩))
local macro_rules | `(tactic| walk_at "here") => `(tactic| first
  | assumption
  | exact upd_same
  | exact Or.inl (Or.inl upd_same)
  | exact Or.inl upd_same)
local macro_rules | `(tactic| walk_at "one") => `(tactic| first
  | refine ⟨_, rfl, ?_⟩
  | refine Or.inl ⟨_, rfl, ?_⟩
  | refine Or.inr ⟨_, rfl, ?_⟩
  | refine ⟨_, _, rfl, rfl, (by walk_at "side"), ?_⟩
  | refine ⟨_, _, rfl, rfl, ?_⟩
  | refine ⟨_, _, rfl, Or.inl (by walk_at "here"), ?_⟩
  | refine ⟨_, _, rfl, Or.inr (by walk_at "here"), ?_⟩
  | refine ⟨_, _, rfl, (by walk_at "here"), ?_⟩
  | refine ⟨_, _, _, _, rfl, rfl, (by walk_at "here"), rfl, ?_⟩
  | refine ⟨_, _, rfl, ?_⟩
  | refine ifT (by rfl) ?_
  | refine ifF (by rfl) ?_
  | refine ifT (decide_eq_true (by omega)) ?_
  | refine ifF (decide_eq_false (by omega)) ?_)
local macro_rules | `(tactic| walk_at "st") => `(tactic| repeat (walk_at "one"))

section
variable {P : Program} {w : World} {K : PySem.W.Frag} {mg : Str → Option Value} {base : Heap}
theorem rep_mem {x y : V} {k : Nat} (h : y ∈ (List.replicate k [x]).flatten) : y = x := by
  obtain ⟨l, hl, hy⟩ := List.mem_flatten.mp h
  rw [List.eq_of_mem_replicate hl, List.mem_singleton] at hy
  exact hy
theorem moveV {H : Hp} {au1 au2 au3 au4 au5 au6 au7 au8 au9 au10 au11 : Addr} {v : V} (h : v ∈ [.non, .ref au1, .ref au2, .ref au3, .ref au4, .ref au5, .ref au6, .str "()", .int 3, .ref au7, .ref au8, .ref au9, .ref au11]) (e_au1 : H au1 = some (.tup [])) (e_au2 : H au2 = some (.tup [.int 0, .int 0])) (e_au3 : H au3 = some (.tup [.int 1, .int 2])) (e_au4 : H au4 = some (.lst [.int 0, .int 1])) (e_au5 : H au5 = some (.tup [.bl true, .int 0])) (e_au6 : H au6 = some (.tup (rgV 0 25))) (e_au7 : H au7 = some (.tup [.int 0, .int 2])) (e_au8 : H au8 = some (.dK [])) (e_au9 : H au9 = some (.tup [.int (-1), .int 0])) (e_au10 : H au10 = some (.tup [.int 0])) (e_au11 : H au11 = some (.tup [.ref au10])) : BadM K H v := by
  simp only [List.mem_cons, List.not_mem_nil, or_false] at h
  rcases h with rfl | rfl | rfl | rfl | rfl | rfl | rfl | rfl | rfl | rfl | rfl | rfl | rfl
  · exact ⟨none, .no (.non) rfl, rfl, nofun⟩
  · exact ⟨some [], .yes (.inl (.inl e_au1)) (fun y hy => nomatch hy), by decide +kernel, fun xs e => by cases e; show 0 ≤ 1000; decide⟩
  · exact ⟨some [.int 0, .int 0], .yes (.inl (.inl e_au2)) (fun y hy => by
      simp only [List.mem_cons, List.not_mem_nil, or_false] at hy
      rcases hy with rfl | rfl
      · exact ⟨_, .int _⟩
      · exact ⟨_, .int _⟩), by decide +kernel, fun xs e => by cases e; show 2 ≤ 1000; decide⟩
  · exact ⟨some [.int 1, .int 2], .yes (.inl (.inl e_au3)) (fun y hy => by
      simp only [List.mem_cons, List.not_mem_nil, or_false] at hy
      rcases hy with rfl | rfl
      · exact ⟨_, .int _⟩
      · exact ⟨_, .int _⟩), by decide +kernel, fun xs e => by cases e; show 2 ≤ 1000; decide⟩
  · exact ⟨none, .no (.lst (.inl (.inl e_au4))) rfl, rfl, nofun⟩
  · exact ⟨some [.bl true, .int 0], .yes (.inl (.inl e_au5)) (fun y hy => by
      simp only [List.mem_cons, List.not_mem_nil, or_false] at hy
      rcases hy with rfl | rfl
      · exact ⟨_, .bl _⟩
      · exact ⟨_, .int _⟩), by decide +kernel, fun xs e => by cases e; show 2 ≤ 1000; decide⟩
  · exact ⟨some (rgV 0 25), .yes (.inl (.inl e_au6)) (fun y hy => by
      obtain ⟨k, _, rfl⟩ := List.mem_map.mp hy
      exact ⟨_, .int _⟩), by decide +kernel, fun xs e => by cases e; decide +kernel⟩
  · exact ⟨none, .no (.str _) rfl, rfl, nofun⟩
  · exact ⟨none, .no (.int _) rfl, rfl, nofun⟩
  · exact ⟨some [.int 0, .int 2], .yes (.inl (.inl e_au7)) (fun y hy => by
      simp only [List.mem_cons, List.not_mem_nil, or_false] at hy
      rcases hy with rfl | rfl
      · exact ⟨_, .int _⟩
      · exact ⟨_, .int _⟩), by decide +kernel, fun xs e => by cases e; show 2 ≤ 1000; decide⟩
  · exact ⟨none, .no (.dct e_au8) rfl, rfl, nofun⟩
  · exact ⟨some [.int (-1), .int 0], .yes (.inl (.inl e_au9)) (fun y hy => by
      simp only [List.mem_cons, List.not_mem_nil, or_false] at hy
      rcases hy with rfl | rfl
      · exact ⟨_, .int _⟩
      · exact ⟨_, .int _⟩), by decide +kernel, fun xs e => by cases e; show 2 ≤ 1000; decide⟩
  · exact ⟨some [.ref au10], .yes (.inl (.inl e_au11)) (fun y hy => by
      simp only [List.mem_cons, List.not_mem_nil, or_false] at hy
      rcases hy with rfl
      · exact ⟨_, .tup (.inl (.inl e_au10))⟩), rfl, fun xs e => by cases e; show 1 ≤ 1000; decide⟩
theorem groupV {H : Hp} {bu1 bu2 bu3 bu4 bu5 bu6 bu7 : Addr} {v : V} (h : v ∈ [.non, .ref bu1, .str "2:", .int 2, .ref bu3, .ref bu4, .ref bu5, .ref bu7]) (e_bu1 : H bu1 = some (.tup [])) (e_bu2 : H bu2 = some (.tup [])) (e_bu3 : H bu3 = some (.tup [.int 2, .ref bu2])) (e_bu4 : H bu4 = some (.lst [])) (e_bu5 : H bu5 = some (.dK [])) (e_bu6 : H bu6 = some (.tup [.int 1, .int 0])) (e_bu7 : H bu7 = some (.tup [.ref bu6])) : KV' K H v := by
  simp only [List.mem_cons, List.not_mem_nil, or_false] at h
  rcases h with rfl | rfl | rfl | rfl | rfl | rfl | rfl | rfl
  · exact ⟨_, .non⟩
  · exact ⟨_, .tup (.inl (.inl e_bu1))⟩
  · exact ⟨_, .str _⟩
  · exact ⟨_, .int _⟩
  · exact ⟨_, .tup (.inl (.inl e_bu3))⟩
  · exact ⟨_, .lst (.inl (.inl e_bu4))⟩
  · exact ⟨_, .dct e_bu5⟩
  · exact ⟨_, .tup (.inl (.inl e_bu7))⟩
theorem rowV {H : Hp} {cu1 cu2 cu3 cu4 cu5 cu6 cu7 cu8 cu9 cu10 cu11 cu12 : Addr} {v : V} (h : v ∈ [.non, .ref cu1, .ref cu3, .ref cu4, .ref cu5, .ref cu6, .ref cu7, .str "1", .int 1, .ref cu8, .ref cu9, .ref cu11, .ref cu12]) (e_cu1 : H cu1 = some (.tup [])) (e_cu2 : H cu2 = some (.tup [.int 0])) (e_cu3 : H cu3 = some (.tup (List.replicate (Int.toNat 61) [.int 0]).flatten)) (e_cu4 : H cu4 = some (.lst [.int 1])) (e_cu5 : H cu5 = some (.tup [.int 1, .non])) (e_cu6 : H cu6 = some (.tup [.int (10 ^ 60)])) (e_cu7 : H cu7 = some (.tup [.bl true])) (e_cu8 : H cu8 = some (.dK [])) (e_cu9 : H cu9 = some (.tup [.int (-(10 ^ 60))])) (e_cu10 : H cu10 = some (.tup [.int 1])) (e_cu11 : H cu11 = some (.tup [.ref cu10])) (e_cu12 : H cu12 = some (.tup [.str "1"])) : BV K H v := by
  simp only [List.mem_cons, List.not_mem_nil, or_false] at h
  rcases h with rfl | rfl | rfl | rfl | rfl | rfl | rfl | rfl | rfl | rfl | rfl | rfl | rfl
  · exact ⟨none, .no (.non) rfl, rfl⟩
  · exact ⟨some [], .yes (.inl (.inl e_cu1)) (fun y hy => nomatch hy), by decide +kernel⟩
  · exact ⟨_, .yes (.inl (.inl e_cu3)) (fun y hy => ⟨.int, by rw [rep_mem hy]; exact .int _⟩), by decide +kernel⟩
  · exact ⟨none, .no (.lst (.inl (.inl e_cu4))) rfl, rfl⟩
  · exact ⟨some [.int 1, .non], .yes (.inl (.inl e_cu5)) (fun y hy => by
      simp only [List.mem_cons, List.not_mem_nil, or_false] at hy
      rcases hy with rfl | rfl
      · exact ⟨_, .int _⟩
      · exact ⟨_, .non⟩), by decide +kernel⟩
  · exact ⟨some [.int (10 ^ 60)], .yes (.inl (.inl e_cu6)) (fun y hy => by
      simp only [List.mem_cons, List.not_mem_nil, or_false] at hy
      rcases hy with rfl
      · exact ⟨_, .int _⟩), by decide +kernel⟩
  · exact ⟨some [.bl true], .yes (.inl (.inl e_cu7)) (fun y hy => by
      simp only [List.mem_cons, List.not_mem_nil, or_false] at hy
      rcases hy with rfl
      · exact ⟨_, .bl _⟩), by decide +kernel⟩
  · exact ⟨none, .no (.str _) rfl, rfl⟩
  · exact ⟨none, .no (.int _) rfl, rfl⟩
  · exact ⟨none, .no (.dct e_cu8) rfl, rfl⟩
  · exact ⟨some [.int (-(10 ^ 60))], .yes (.inl (.inl e_cu9)) (fun y hy => by
      simp only [List.mem_cons, List.not_mem_nil, or_false] at hy
      rcases hy with rfl
      · exact ⟨_, .int _⟩), by decide +kernel⟩
  · exact ⟨some [.ref cu10], .yes (.inl (.inl e_cu11)) (fun y hy => by
      simp only [List.mem_cons, List.not_mem_nil, or_false] at hy
      rcases hy with rfl
      · exact ⟨_, .tup (.inl (.inl e_cu10))⟩), rfl⟩
  · exact ⟨some [.str "1"], .yes (.inl (.inl e_cu12)) (fun y hy => by
      simp only [List.mem_cons, List.not_mem_nil, or_false] at hy
      rcases hy with rfl
      · exact ⟨_, .str _⟩), by decide +kernel⟩
def spWrittenR (K : PySem.W.Frag) : Sp := fun vs H Q _ => ∃ (g : Addr), vs = [.ref g] ∧ BagAt H g ∧ Tabs (TL K) H ∧ ∀ H', ExtN (wo H g) H' → BagAt H' g → Tabs (TL K) H' → Q (.bl true) H'
theorem scWrittenRightL : FnScope ["_law_bag_here", "_law_move", "_law_group", "_law_row", "_law_told"] ["_law_bag_here"] (defScope sWrittenRightL) :=
  ⟨rfl, rfl, rfl, by decide +kernel, rfl, by decide +kernel, by decide +kernel⟩
theorem dWrittenRightL (T : Tx K mg) (Y : Ex K mg) (TB : Tb K mg base) (DOneOfL : Def P w K mg base CX0 2 "_law_one_of" ["_law_bag_here", "_law_items"] (spOneOf K)) (CWriteMove : Def P w K mg base (L2.CX P w) 6 "write_move" ["move"] (spMoveX K)) (CWriteGroup : Def P w K mg base (L2.CX P w) 4 "write_group" ["group"] (spGroupX K)) (CWriteRow : Def P w K mg base (L2.CX P w) 4 "write_row" ["row"] (spWRow K)) (CWriteKinds : Def P w K mg base (L2.CX P w) 4 "write_kinds" ["kinds"] (spWKinds K)) (GTableLines : ME.GD P w K mg base 2 "table_lines" ["group"] (spGenX K)) : Def P w K mg base CX0 9 "_law_written_right" ["_law_bag_here"] (spWrittenR K) := by
  refine defC T.t_law_written_right (N := ["_law_bag_here", "_law_move", "_law_group", "_law_row", "_law_told"]) scWrittenRightL (fun _ _ _ _ _ _ us hl => match us, hl with | [_], _ => rfl) ?_ ?_
  · intro vs H Q E h
    obtain ⟨g, rfl, _⟩ := h
    rfl
  · intro f cd A out s H vs Q E ec hr h
    subst ec
    have hr1 : Rm 2 _ := hr.le (by decide)
    obtain ⟨g, rfl, bag, hT, q⟩ := h
    refine ⟨_, (pss_cons (ps_set (i := 1) scWrittenRightL.nd rfl (Or.inr rfl) (pe_d DOneOfL (hr1.le (by decide)) pass0 (pa_cons (pv 0) (pa_cons (pe_lst (pa_cons pe_non (pa_cons (pe_tup pa_nil) (pa_cons (pe_tup (pa_cons pe_int (pa_cons pe_int pa_nil))) (pa_cons (pe_tup (pa_cons pe_int (pa_cons pe_int pa_nil))) (pa_cons (pe_lst (pa_cons pe_int (pa_cons pe_int pa_nil))) (pa_cons (pe_tup (pa_cons pe_bl (pa_cons pe_int pa_nil))) (pa_cons (pe_tupRg rfl rfl T.f_tuple (prg_1 rfl T.f_range pe_int)) (pa_cons pe_str (pa_cons pe_int (pa_cons (pe_tup (pa_cons pe_int (pa_cons pe_int pa_nil))) (pa_cons pe_dnewK (pa_cons (pe_tup (pa_cons (pe_un un_neg pe_int) (pa_cons pe_int pa_nil))) (pa_cons (pe_tup (pa_cons (pe_tup (pa_cons pe_int pa_nil)) pa_nil)) pa_nil)))))))))))))) pa_nil))))
      (pss_cons (ps_set (i := 2) scWrittenRightL.nd rfl (Or.inr rfl) (pe_d DOneOfL (hr1.le (by decide)) pass0 (pa_cons (pv 0) (pa_cons (pe_lst (pa_cons pe_non (pa_cons (pe_tup pa_nil) (pa_cons pe_str (pa_cons pe_int (pa_cons (pe_tup (pa_cons pe_int (pa_cons (pe_tup pa_nil) pa_nil))) (pa_cons (pe_lst pa_nil) (pa_cons pe_dnewK (pa_cons (pe_tup (pa_cons (pe_tup (pa_cons pe_int (pa_cons pe_int pa_nil))) pa_nil)) pa_nil))))))))) pa_nil))))
      (pss_cons (ps_set (i := 3) scWrittenRightL.nd rfl (Or.inr rfl) (pe_d DOneOfL (hr1.le (by decide)) pass0 (pa_cons (pv 0) (pa_cons (pe_lst (pa_cons pe_non (pa_cons (pe_tup pa_nil) (pa_cons (pe_op op_repW (pe_tup (pa_cons pe_int pa_nil)) pe_int) (pa_cons (pe_lst (pa_cons pe_int pa_nil)) (pa_cons (pe_tup (pa_cons pe_int (pa_cons pe_non pa_nil))) (pa_cons (pe_tup (pa_cons (pe_op op_pw pe_int pe_int) pa_nil)) (pa_cons (pe_tup (pa_cons pe_bl pa_nil)) (pa_cons pe_str (pa_cons pe_int (pa_cons pe_dnewK (pa_cons (pe_tup (pa_cons (pe_un un_neg (pe_op op_pw pe_int pe_int)) pa_nil)) (pa_cons (pe_tup (pa_cons (pe_tup (pa_cons pe_int pa_nil)) pa_nil)) (pa_cons (pe_tup (pa_cons pe_str pa_nil)) pa_nil)))))))))))))) pa_nil))))
      (pss_cons (ps_set (i := 4) scWrittenRightL.nd rfl (Or.inl rfl) (pe_lst (pa_cons (ME.pe_lam (T := TL K) (TT := TTW K) (k := 6) (t := fun E1 => (ME.tDS (spMoveX K) (fun _ => E1) (tCons (tVar 1) tNil))) T.t_law_word (fun _ _ _ _ _ _ us hl => match us, hl with | [_], _ => rfl) scWord rfl (Or.inl rfl) (fun g cd => word_gives (k := 1) T Y (hr.le (by decide))) TB.t1 rfl m1 TB.u1 (hr.le (by decide)) (show LamS _ _ from lamS_by (sc := defScope sWrittenRightL) (by decide +kernel)) rfl (fun _ _ _ _ _ => rfl) (fun A1 o1 s1 H1 E1 f1 c1 hr9 => (show PE _ _ (ME.tDS (spMoveX K) (fun _ => E1) (tCons (tVar 1) tNil)) from ME.pe_dS CWriteMove (hr9.le (by decide)) (passAt (takes_of rfl rfl rfl rfl)) (pa_cons (pv 1) pa_nil)))) pa_nil)))
      (pss_cons (ps_expr (pe_bm PySem.F.plainAttrs_list PySem.F.slot_list_append PySem.F.type_list_append mt_append (pv 4) (pa_cons (ME.pe_lam (T := TL K) (TT := TTW K) (k := 6) (t := fun E1 => (ME.tDS (spGroupX K) (fun _ => E1) (tCons (tVar 2) tNil))) T.t_law_word (fun _ _ _ _ _ _ us hl => match us, hl with | [_], _ => rfl) scWord rfl (Or.inl rfl) (fun g cd => word_gives (k := 1) T Y (hr.le (by decide))) TB.t1 rfl m1 TB.u1 (hr.le (by decide)) (show LamS _ _ from lamS_by (sc := defScope sWrittenRightL) (by decide +kernel)) rfl (fun _ _ _ _ _ => rfl) (fun A1 o1 s1 H1 E1 f1 c1 hr9 => (show PE _ _ (ME.tDS (spGroupX K) (fun _ => E1) (tCons (tVar 2) tNil)) from ME.pe_dS CWriteGroup (hr9.le (by decide)) (passAt (takes_of rfl rfl rfl rfl)) (pa_cons (pv 2) pa_nil)))) pa_nil)))
      (pss_cons (ps_expr (pe_bm PySem.F.plainAttrs_list PySem.F.slot_list_append PySem.F.type_list_append mt_append (pv 4) (pa_cons (ME.pe_lam (T := TL K) (TT := TTW K) (k := 6) (t := fun E1 => (ME.tDS (spWRow K) (fun _ => E1) (tCons (tVar 3) tNil))) T.t_law_word (fun _ _ _ _ _ _ us hl => match us, hl with | [_], _ => rfl) scWord rfl (Or.inl rfl) (fun g cd => word_gives (k := 1) T Y (hr.le (by decide))) TB.t1 rfl m1 TB.u1 (hr.le (by decide)) (show LamS _ _ from lamS_by (sc := defScope sWrittenRightL) (by decide +kernel)) rfl (fun _ _ _ _ _ => rfl) (fun A1 o1 s1 H1 E1 f1 c1 hr9 => (show PE _ _ (ME.tDS (spWRow K) (fun _ => E1) (tCons (tVar 3) tNil)) from ME.pe_dS CWriteRow (hr9.le (by decide)) (passAt (takes_of rfl rfl rfl rfl)) (pa_cons (pv 3) pa_nil)))) pa_nil)))
      (pss_cons (ps_expr (pe_bm PySem.F.plainAttrs_list PySem.F.slot_list_append PySem.F.type_list_append mt_append (pv 4) (pa_cons (ME.pe_lam (T := TL K) (TT := TTW K) (k := 6) (t := fun E1 => (ME.tDS (spWKinds K) (fun _ => E1) (tCons (tVar 3) tNil))) T.t_law_word (fun _ _ _ _ _ _ us hl => match us, hl with | [_], _ => rfl) scWord rfl (Or.inl rfl) (fun g cd => word_gives (k := 1) T Y (hr.le (by decide))) TB.t1 rfl m1 TB.u1 (hr.le (by decide)) (show LamS _ _ from lamS_by (sc := defScope sWrittenRightL) (by decide +kernel)) rfl (fun _ _ _ _ _ => rfl) (fun A1 o1 s1 H1 E1 f1 c1 hr9 => (show PE _ _ (ME.tDS (spWKinds K) (fun _ => E1) (tCons (tVar 3) tNil)) from ME.pe_dS CWriteKinds (hr9.le (by decide)) (passAt (takes_of rfl rfl rfl rfl)) (pa_cons (pv 3) pa_nil)))) pa_nil)))
      (pss_cons (ps_expr (pe_bm PySem.F.plainAttrs_list PySem.F.slot_list_append PySem.F.type_list_append mt_append (pv 4) (pa_cons (ME.pe_lam (T := TL K) (TT := TTW K) (k := 6) (t := fun E1 => (tListG (tCallG (spGenX K) [] (ME.NSE K E1) (tCons (tVar 2) tNil)))) T.t_law_word (fun _ _ _ _ _ _ us hl => match us, hl with | [_], _ => rfl) scWord rfl (Or.inl rfl) (fun g cd => word_gives (k := 1) T Y (hr.le (by decide))) TB.t1 rfl m1 TB.u1 (hr.le (by decide)) (show LamS _ _ from lamS_by (sc := defScope sWrittenRightL) (by decide +kernel)) rfl (fun _ _ _ _ _ => rfl) (fun A1 o1 s1 H1 E1 f1 c1 hr9 => (show PE _ _ (tListG (tCallG (spGenX K) [] (ME.NSE K E1) (tCons (tVar 2) tNil))) from ME.pe_listX GTableLines (hr9.room.mono (by decide)) (takes_of rfl rfl rfl rfl) (pa_cons (pv 2) pa_nil) T.f_list))) pa_nil)))
      (pss_one (ps_ret (pe_cmpR (op_eqD hr.hu) (pv 4) (pe_lst (pa_cons pe_str (pa_cons pe_str (pa_cons pe_str (pa_cons pe_str (pa_cons pe_str pa_nil)))))) (nomark _)))))))))))), ?_⟩
    obtain ⟨b0, b1, b2, eg⟩ := id bag
    refine ⟨_, rfl, ?_⟩
    refine ⟨by show 0 ≤ sizeLine; decide, fun au1 f_au1 => ?_⟩
    generalize eH : upd H au1 _ = aJ1
    obtain ⟨n_au1, S_au1, e_au1, eg⟩ : au1 ≠ g ∧ Same H aJ1 ∧ aJ1 au1 = some (.tup []) ∧ aJ1 g = some (.lst [.int b0, .int b1, .int b2]) := by
      rw [← eH]
      exact new_obj eg f_au1
    clear eH
    refine ⟨by show 2 ≤ sizeLine; decide, fun au2 f_au2 => ?_⟩
    generalize eH : upd aJ1 au2 _ = aJ2
    obtain ⟨n_au2, S_au2, e_au2, eg⟩ : au2 ≠ g ∧ Same aJ1 aJ2 ∧ aJ2 au2 = some (.tup [.int 0, .int 0]) ∧ aJ2 g = some (.lst [.int b0, .int b1, .int b2]) := by
      rw [← eH]
      exact new_obj eg f_au2
    clear eH
    refine ⟨by show 2 ≤ sizeLine; decide, fun au3 f_au3 => ?_⟩
    generalize eH : upd aJ2 au3 _ = aJ3
    obtain ⟨n_au3, S_au3, e_au3, eg⟩ : au3 ≠ g ∧ Same aJ2 aJ3 ∧ aJ3 au3 = some (.tup [.int 1, .int 2]) ∧ aJ3 g = some (.lst [.int b0, .int b1, .int b2]) := by
      rw [← eH]
      exact new_obj eg f_au3
    clear eH
    refine ⟨by show 2 ≤ sizeLine; decide, fun au4 f_au4 => ?_⟩
    generalize eH : upd aJ3 au4 _ = aJ4
    obtain ⟨n_au4, S_au4, e_au4, eg⟩ : au4 ≠ g ∧ Same aJ3 aJ4 ∧ aJ4 au4 = some (.lst [.int 0, .int 1]) ∧ aJ4 g = some (.lst [.int b0, .int b1, .int b2]) := by
      rw [← eH]
      exact new_obj eg f_au4
    clear eH
    refine ⟨by show 2 ≤ sizeLine; decide, fun au5 f_au5 => ?_⟩
    generalize eH : upd aJ4 au5 _ = aJ5
    obtain ⟨n_au5, S_au5, e_au5, eg⟩ : au5 ≠ g ∧ Same aJ4 aJ5 ∧ aJ5 au5 = some (.tup [.bl true, .int 0]) ∧ aJ5 g = some (.lst [.int b0, .int b1, .int b2]) := by
      rw [← eH]
      exact new_obj eg f_au5
    clear eH
    refine ⟨_, rfl, ⟨by decide, by decide, by decide, by decide, by decide⟩, fun au6 f_au6 => ?_⟩
    generalize eH : upd aJ5 au6 _ = aJ6
    obtain ⟨n_au6, S_au6, e_au6, eg⟩ : au6 ≠ g ∧ Same aJ5 aJ6 ∧ aJ6 au6 = some (.tup (rgV 0 25)) ∧ aJ6 g = some (.lst [.int b0, .int b1, .int b2]) := by
      rw [← eH]
      exact new_obj eg f_au6
    clear eH
    refine ⟨by show 2 ≤ sizeLine; decide, fun au7 f_au7 => ?_⟩
    generalize eH : upd aJ6 au7 _ = aJ7
    obtain ⟨n_au7, S_au7, e_au7, eg⟩ : au7 ≠ g ∧ Same aJ6 aJ7 ∧ aJ7 au7 = some (.tup [.int 0, .int 2]) ∧ aJ7 g = some (.lst [.int b0, .int b1, .int b2]) := by
      rw [← eH]
      exact new_obj eg f_au7
    clear eH
    intro au8 f_au8
    generalize eH : upd aJ7 au8 _ = aJ8
    obtain ⟨n_au8, S_au8, e_au8, eg⟩ : au8 ≠ g ∧ Same aJ7 aJ8 ∧ aJ8 au8 = some (.dK []) ∧ aJ8 g = some (.lst [.int b0, .int b1, .int b2]) := by
      rw [← eH]
      exact new_obj eg f_au8
    clear eH
    refine ⟨_, rfl, ?_⟩
    refine ⟨by show 2 ≤ sizeLine; decide, fun au9 f_au9 => ?_⟩
    generalize eH : upd aJ8 au9 _ = aJ9
    obtain ⟨n_au9, S_au9, e_au9, eg⟩ : au9 ≠ g ∧ Same aJ8 aJ9 ∧ aJ9 au9 = some (.tup [.int (-1), .int 0]) ∧ aJ9 g = some (.lst [.int b0, .int b1, .int b2]) := by
      rw [← eH]
      exact new_obj eg f_au9
    clear eH
    refine ⟨by show 1 ≤ sizeLine; decide, fun au10 f_au10 => ?_⟩
    generalize eH : upd aJ9 au10 _ = aJ10
    obtain ⟨n_au10, S_au10, e_au10, eg⟩ : au10 ≠ g ∧ Same aJ9 aJ10 ∧ aJ10 au10 = some (.tup [.int 0]) ∧ aJ10 g = some (.lst [.int b0, .int b1, .int b2]) := by
      rw [← eH]
      exact new_obj eg f_au10
    clear eH
    refine ⟨by show 1 ≤ sizeLine; decide, fun au11 f_au11 => ?_⟩
    generalize eH : upd aJ10 au11 _ = aJ11
    obtain ⟨n_au11, S_au11, e_au11, eg⟩ : au11 ≠ g ∧ Same aJ10 aJ11 ∧ aJ11 au11 = some (.tup [.ref au10]) ∧ aJ11 g = some (.lst [.int b0, .int b1, .int b2]) := by
      rw [← eH]
      exact new_obj eg f_au11
    clear eH
    refine ⟨by show 13 ≤ sizeLine; decide, fun au12 f_au12 => ?_⟩
    generalize eH : upd aJ11 au12 _ = aJ12
    obtain ⟨n_au12, S_au12, e_au12, eg⟩ : au12 ≠ g ∧ Same aJ11 aJ12 ∧ aJ12 au12 = some (.lst [.non, .ref au1, .ref au2, .ref au3, .ref au4, .ref au5, .ref au6, .str "()", .int 3, .ref au7, .ref au8, .ref au9, .ref au11]) ∧ aJ12 g = some (.lst [.int b0, .int b1, .int b2]) := by
      rw [← eH]
      exact new_obj eg f_au12
    clear eH
    have T_au12 := Same.refl aJ12
    have T_au11 := S_au12.trans T_au12
    have T_au10 := S_au11.trans T_au11
    have T_au9 := S_au10.trans T_au10
    have T_au8 := S_au9.trans T_au9
    have T_au7 := S_au8.trans T_au8
    have T_au6 := S_au7.trans T_au7
    have T_au5 := S_au6.trans T_au6
    have T_au4 := S_au5.trans T_au5
    have T_au3 := S_au4.trans T_au4
    have T_au2 := S_au3.trans T_au3
    have T_au1 := S_au2.trans T_au2
    have aall := S_au1.trans T_au1
    have w_au1 := (wo_ne n_au1).trans (T_au1 _ _ e_au1)
    have w_au2 := (wo_ne n_au2).trans (T_au2 _ _ e_au2)
    have w_au3 := (wo_ne n_au3).trans (T_au3 _ _ e_au3)
    have w_au4 := (wo_ne n_au4).trans (T_au4 _ _ e_au4)
    have w_au5 := (wo_ne n_au5).trans (T_au5 _ _ e_au5)
    have w_au6 := (wo_ne n_au6).trans (T_au6 _ _ e_au6)
    have w_au7 := (wo_ne n_au7).trans (T_au7 _ _ e_au7)
    have w_au8 := (wo_ne n_au8).trans (T_au8 _ _ e_au8)
    have w_au9 := (wo_ne n_au9).trans (T_au9 _ _ e_au9)
    have w_au10 := (wo_ne n_au10).trans (T_au10 _ _ e_au10)
    have w_au11 := (wo_ne n_au11).trans (T_au11 _ _ e_au11)
    have w_au12 := (wo_ne n_au12).trans (T_au12 _ _ e_au12)
    refine ⟨g, au12, b0, b1, b2, [.non, .ref au1, .ref au2, .ref au3, .ref au4, .ref au5, .ref au6, .str "()", .int 3, .ref au7, .ref au8, .ref au9, .ref au11], rfl, eg, .inl (.inl e_au12), n_au12, Nat.succ_pos _, by show 13 ≤ 1000; decide, fun vm h0 h1 h2 hv => ?_⟩
    have U : Upto g H (upd aJ12 g (.lst [.int h0, .int h1, .int h2])) := draw_up aall bag
    have Fm := moveV (K := K) (H := wo aJ12 g) hv w_au1 w_au2 w_au3 w_au4 w_au5 w_au6 w_au7 w_au8 w_au9 w_au10 w_au11
    rw [← wo_upd (o := .lst [.int h0, .int h1, .int h2])] at Fm
    generalize upd aJ12 g _ = H1 at U Fm ⊢
    replace hT := tab_upto hT bag U
    have extH1 := up_ext U
    have bagH1 := U.bag
    clear n_au1 e_au1 S_au1 T_au1 w_au1 f_au1 n_au2 e_au2 S_au2 T_au2 w_au2 f_au2 n_au3 e_au3 S_au3 T_au3 w_au3 f_au3 n_au4 e_au4 S_au4 T_au4 w_au4 f_au4 n_au5 e_au5 S_au5 T_au5 w_au5 f_au5 n_au6 e_au6 S_au6 T_au6 w_au6 f_au6 n_au7 e_au7 S_au7 T_au7 w_au7 f_au7 n_au8 e_au8 S_au8 T_au8 w_au8 f_au8 n_au9 e_au9 S_au9 T_au9 w_au9 f_au9 n_au10 e_au10 S_au10 T_au10 w_au10 f_au10 n_au11 e_au11 S_au11 T_au11 w_au11 f_au11 n_au12 e_au12 S_au12 T_au12 w_au12 f_au12 aall U hv
    obtain ⟨b0, b1, b2, eg⟩ := id bagH1
    refine ⟨_, rfl, ?_⟩
    refine ⟨by show 0 ≤ sizeLine; decide, fun bu1 f_bu1 => ?_⟩
    generalize eH : upd H1 bu1 _ = bJ1
    obtain ⟨n_bu1, S_bu1, e_bu1, eg⟩ : bu1 ≠ g ∧ Same H1 bJ1 ∧ bJ1 bu1 = some (.tup []) ∧ bJ1 g = some (.lst [.int b0, .int b1, .int b2]) := by
      rw [← eH]
      exact new_obj eg f_bu1
    clear eH
    refine ⟨by show 0 ≤ sizeLine; decide, fun bu2 f_bu2 => ?_⟩
    generalize eH : upd bJ1 bu2 _ = bJ2
    obtain ⟨n_bu2, S_bu2, e_bu2, eg⟩ : bu2 ≠ g ∧ Same bJ1 bJ2 ∧ bJ2 bu2 = some (.tup []) ∧ bJ2 g = some (.lst [.int b0, .int b1, .int b2]) := by
      rw [← eH]
      exact new_obj eg f_bu2
    clear eH
    refine ⟨by show 2 ≤ sizeLine; decide, fun bu3 f_bu3 => ?_⟩
    generalize eH : upd bJ2 bu3 _ = bJ3
    obtain ⟨n_bu3, S_bu3, e_bu3, eg⟩ : bu3 ≠ g ∧ Same bJ2 bJ3 ∧ bJ3 bu3 = some (.tup [.int 2, .ref bu2]) ∧ bJ3 g = some (.lst [.int b0, .int b1, .int b2]) := by
      rw [← eH]
      exact new_obj eg f_bu3
    clear eH
    refine ⟨by show 0 ≤ sizeLine; decide, fun bu4 f_bu4 => ?_⟩
    generalize eH : upd bJ3 bu4 _ = bJ4
    obtain ⟨n_bu4, S_bu4, e_bu4, eg⟩ : bu4 ≠ g ∧ Same bJ3 bJ4 ∧ bJ4 bu4 = some (.lst []) ∧ bJ4 g = some (.lst [.int b0, .int b1, .int b2]) := by
      rw [← eH]
      exact new_obj eg f_bu4
    clear eH
    intro bu5 f_bu5
    generalize eH : upd bJ4 bu5 _ = bJ5
    obtain ⟨n_bu5, S_bu5, e_bu5, eg⟩ : bu5 ≠ g ∧ Same bJ4 bJ5 ∧ bJ5 bu5 = some (.dK []) ∧ bJ5 g = some (.lst [.int b0, .int b1, .int b2]) := by
      rw [← eH]
      exact new_obj eg f_bu5
    clear eH
    refine ⟨by show 2 ≤ sizeLine; decide, fun bu6 f_bu6 => ?_⟩
    generalize eH : upd bJ5 bu6 _ = bJ6
    obtain ⟨n_bu6, S_bu6, e_bu6, eg⟩ : bu6 ≠ g ∧ Same bJ5 bJ6 ∧ bJ6 bu6 = some (.tup [.int 1, .int 0]) ∧ bJ6 g = some (.lst [.int b0, .int b1, .int b2]) := by
      rw [← eH]
      exact new_obj eg f_bu6
    clear eH
    refine ⟨by show 1 ≤ sizeLine; decide, fun bu7 f_bu7 => ?_⟩
    generalize eH : upd bJ6 bu7 _ = bJ7
    obtain ⟨n_bu7, S_bu7, e_bu7, eg⟩ : bu7 ≠ g ∧ Same bJ6 bJ7 ∧ bJ7 bu7 = some (.tup [.ref bu6]) ∧ bJ7 g = some (.lst [.int b0, .int b1, .int b2]) := by
      rw [← eH]
      exact new_obj eg f_bu7
    clear eH
    refine ⟨by show 8 ≤ sizeLine; decide, fun bu8 f_bu8 => ?_⟩
    generalize eH : upd bJ7 bu8 _ = bJ8
    obtain ⟨n_bu8, S_bu8, e_bu8, eg⟩ : bu8 ≠ g ∧ Same bJ7 bJ8 ∧ bJ8 bu8 = some (.lst [.non, .ref bu1, .str "2:", .int 2, .ref bu3, .ref bu4, .ref bu5, .ref bu7]) ∧ bJ8 g = some (.lst [.int b0, .int b1, .int b2]) := by
      rw [← eH]
      exact new_obj eg f_bu8
    clear eH
    have T_bu8 := Same.refl bJ8
    have T_bu7 := S_bu8.trans T_bu8
    have T_bu6 := S_bu7.trans T_bu7
    have T_bu5 := S_bu6.trans T_bu6
    have T_bu4 := S_bu5.trans T_bu5
    have T_bu3 := S_bu4.trans T_bu4
    have T_bu2 := S_bu3.trans T_bu3
    have T_bu1 := S_bu2.trans T_bu2
    have ball := S_bu1.trans T_bu1
    have w_bu1 := (wo_ne n_bu1).trans (T_bu1 _ _ e_bu1)
    have w_bu2 := (wo_ne n_bu2).trans (T_bu2 _ _ e_bu2)
    have w_bu3 := (wo_ne n_bu3).trans (T_bu3 _ _ e_bu3)
    have w_bu4 := (wo_ne n_bu4).trans (T_bu4 _ _ e_bu4)
    have w_bu5 := (wo_ne n_bu5).trans (T_bu5 _ _ e_bu5)
    have w_bu6 := (wo_ne n_bu6).trans (T_bu6 _ _ e_bu6)
    have w_bu7 := (wo_ne n_bu7).trans (T_bu7 _ _ e_bu7)
    have w_bu8 := (wo_ne n_bu8).trans (T_bu8 _ _ e_bu8)
    refine ⟨g, bu8, b0, b1, b2, [.non, .ref bu1, .str "2:", .int 2, .ref bu3, .ref bu4, .ref bu5, .ref bu7], rfl, eg, .inl (.inl e_bu8), n_bu8, Nat.succ_pos _, by show 8 ≤ 1000; decide, fun vg h0 h1 h2 hv => ?_⟩
    have U : Upto g H1 (upd bJ8 g (.lst [.int h0, .int h1, .int h2])) := draw_up ball bagH1
    have Fg := groupV (K := K) (H := wo bJ8 g) hv w_bu1 w_bu2 w_bu3 w_bu4 w_bu5 w_bu6 w_bu7
    rw [← wo_upd (o := .lst [.int h0, .int h1, .int h2])] at Fg
    generalize upd bJ8 g _ = H2 at U Fg ⊢
    replace Fm := bmE Fm (up_ext U)
    replace hT := tab_upto hT bagH1 U
    have extH2 := up_ext U
    have bagH2 := U.bag
    clear n_bu1 e_bu1 S_bu1 T_bu1 w_bu1 f_bu1 n_bu2 e_bu2 S_bu2 T_bu2 w_bu2 f_bu2 n_bu3 e_bu3 S_bu3 T_bu3 w_bu3 f_bu3 n_bu4 e_bu4 S_bu4 T_bu4 w_bu4 f_bu4 n_bu5 e_bu5 S_bu5 T_bu5 w_bu5 f_bu5 n_bu6 e_bu6 S_bu6 T_bu6 w_bu6 f_bu6 n_bu7 e_bu7 S_bu7 T_bu7 w_bu7 f_bu7 n_bu8 e_bu8 S_bu8 T_bu8 w_bu8 f_bu8 ball U hv
    obtain ⟨b0, b1, b2, eg⟩ := id bagH2
    refine ⟨_, rfl, ?_⟩
    refine ⟨by show 0 ≤ sizeLine; decide, fun cu1 f_cu1 => ?_⟩
    generalize eH : upd H2 cu1 _ = cJ1
    obtain ⟨n_cu1, S_cu1, e_cu1, eg⟩ : cu1 ≠ g ∧ Same H2 cJ1 ∧ cJ1 cu1 = some (.tup []) ∧ cJ1 g = some (.lst [.int b0, .int b1, .int b2]) := by
      rw [← eH]
      exact new_obj eg f_cu1
    clear eH
    refine ⟨by show 1 ≤ sizeLine; decide, fun cu2 f_cu2 => ?_⟩
    generalize eH : upd cJ1 cu2 _ = cJ2
    obtain ⟨n_cu2, S_cu2, e_cu2, eg⟩ : cu2 ≠ g ∧ Same cJ1 cJ2 ∧ cJ2 cu2 = some (.tup [.int 0]) ∧ cJ2 g = some (.lst [.int b0, .int b1, .int b2]) := by
      rw [← eH]
      exact new_obj eg f_cu2
    clear eH
    refine ⟨cu2, 61, [.int 0], rfl, rfl, .inl (.inl e_cu2), by nofun, by decide, by decide, by show 1 ≤ 100; decide, ?_⟩
    intro cu3 f_cu3
    generalize eH : upd cJ2 cu3 _ = cJ3
    obtain ⟨n_cu3, S_cu3, e_cu3, eg⟩ : cu3 ≠ g ∧ Same cJ2 cJ3 ∧ cJ3 cu3 = some (.tup (List.replicate (Int.toNat 61) [.int 0]).flatten) ∧ cJ3 g = some (.lst [.int b0, .int b1, .int b2]) := by
      rw [← eH]
      exact new_obj eg f_cu3
    clear eH
    refine ⟨by show 1 ≤ sizeLine; decide, fun cu4 f_cu4 => ?_⟩
    generalize eH : upd cJ3 cu4 _ = cJ4
    obtain ⟨n_cu4, S_cu4, e_cu4, eg⟩ : cu4 ≠ g ∧ Same cJ3 cJ4 ∧ cJ4 cu4 = some (.lst [.int 1]) ∧ cJ4 g = some (.lst [.int b0, .int b1, .int b2]) := by
      rw [← eH]
      exact new_obj eg f_cu4
    clear eH
    refine ⟨by show 2 ≤ sizeLine; decide, fun cu5 f_cu5 => ?_⟩
    generalize eH : upd cJ4 cu5 _ = cJ5
    obtain ⟨n_cu5, S_cu5, e_cu5, eg⟩ : cu5 ≠ g ∧ Same cJ4 cJ5 ∧ cJ5 cu5 = some (.tup [.int 1, .non]) ∧ cJ5 g = some (.lst [.int b0, .int b1, .int b2]) := by
      rw [← eH]
      exact new_obj eg f_cu5
    clear eH
    refine ⟨10, 60, rfl, rfl, (by show CPw _ _; decide +kernel), ?_⟩
    refine ⟨by show 1 ≤ sizeLine; decide, fun cu6 f_cu6 => ?_⟩
    generalize eH : upd cJ5 cu6 _ = cJ6
    obtain ⟨n_cu6, S_cu6, e_cu6, eg⟩ : cu6 ≠ g ∧ Same cJ5 cJ6 ∧ cJ6 cu6 = some (.tup [.int (10 ^ 60)]) ∧ cJ6 g = some (.lst [.int b0, .int b1, .int b2]) := by
      rw [← eH]
      exact new_obj eg f_cu6
    clear eH
    refine ⟨by show 1 ≤ sizeLine; decide, fun cu7 f_cu7 => ?_⟩
    generalize eH : upd cJ6 cu7 _ = cJ7
    obtain ⟨n_cu7, S_cu7, e_cu7, eg⟩ : cu7 ≠ g ∧ Same cJ6 cJ7 ∧ cJ7 cu7 = some (.tup [.bl true]) ∧ cJ7 g = some (.lst [.int b0, .int b1, .int b2]) := by
      rw [← eH]
      exact new_obj eg f_cu7
    clear eH
    intro cu8 f_cu8
    generalize eH : upd cJ7 cu8 _ = cJ8
    obtain ⟨n_cu8, S_cu8, e_cu8, eg⟩ : cu8 ≠ g ∧ Same cJ7 cJ8 ∧ cJ8 cu8 = some (.dK []) ∧ cJ8 g = some (.lst [.int b0, .int b1, .int b2]) := by
      rw [← eH]
      exact new_obj eg f_cu8
    clear eH
    refine ⟨10, 60, rfl, rfl, (by show CPw _ _; decide +kernel), ?_⟩
    refine ⟨_, rfl, ?_⟩
    refine ⟨by show 1 ≤ sizeLine; decide, fun cu9 f_cu9 => ?_⟩
    generalize eH : upd cJ8 cu9 _ = cJ9
    obtain ⟨n_cu9, S_cu9, e_cu9, eg⟩ : cu9 ≠ g ∧ Same cJ8 cJ9 ∧ cJ9 cu9 = some (.tup [.int (-(10 ^ 60))]) ∧ cJ9 g = some (.lst [.int b0, .int b1, .int b2]) := by
      rw [← eH]
      exact new_obj eg f_cu9
    clear eH
    refine ⟨by show 1 ≤ sizeLine; decide, fun cu10 f_cu10 => ?_⟩
    generalize eH : upd cJ9 cu10 _ = cJ10
    obtain ⟨n_cu10, S_cu10, e_cu10, eg⟩ : cu10 ≠ g ∧ Same cJ9 cJ10 ∧ cJ10 cu10 = some (.tup [.int 1]) ∧ cJ10 g = some (.lst [.int b0, .int b1, .int b2]) := by
      rw [← eH]
      exact new_obj eg f_cu10
    clear eH
    refine ⟨by show 1 ≤ sizeLine; decide, fun cu11 f_cu11 => ?_⟩
    generalize eH : upd cJ10 cu11 _ = cJ11
    obtain ⟨n_cu11, S_cu11, e_cu11, eg⟩ : cu11 ≠ g ∧ Same cJ10 cJ11 ∧ cJ11 cu11 = some (.tup [.ref cu10]) ∧ cJ11 g = some (.lst [.int b0, .int b1, .int b2]) := by
      rw [← eH]
      exact new_obj eg f_cu11
    clear eH
    refine ⟨by show 1 ≤ sizeLine; decide, fun cu12 f_cu12 => ?_⟩
    generalize eH : upd cJ11 cu12 _ = cJ12
    obtain ⟨n_cu12, S_cu12, e_cu12, eg⟩ : cu12 ≠ g ∧ Same cJ11 cJ12 ∧ cJ12 cu12 = some (.tup [.str "1"]) ∧ cJ12 g = some (.lst [.int b0, .int b1, .int b2]) := by
      rw [← eH]
      exact new_obj eg f_cu12
    clear eH
    refine ⟨by show 13 ≤ sizeLine; decide, fun cu13 f_cu13 => ?_⟩
    generalize eH : upd cJ12 cu13 _ = cJ13
    obtain ⟨n_cu13, S_cu13, e_cu13, eg⟩ : cu13 ≠ g ∧ Same cJ12 cJ13 ∧ cJ13 cu13 = some (.lst [.non, .ref cu1, .ref cu3, .ref cu4, .ref cu5, .ref cu6, .ref cu7, .str "1", .int 1, .ref cu8, .ref cu9, .ref cu11, .ref cu12]) ∧ cJ13 g = some (.lst [.int b0, .int b1, .int b2]) := by
      rw [← eH]
      exact new_obj eg f_cu13
    clear eH
    have T_cu13 := Same.refl cJ13
    have T_cu12 := S_cu13.trans T_cu13
    have T_cu11 := S_cu12.trans T_cu12
    have T_cu10 := S_cu11.trans T_cu11
    have T_cu9 := S_cu10.trans T_cu10
    have T_cu8 := S_cu9.trans T_cu9
    have T_cu7 := S_cu8.trans T_cu8
    have T_cu6 := S_cu7.trans T_cu7
    have T_cu5 := S_cu6.trans T_cu6
    have T_cu4 := S_cu5.trans T_cu5
    have T_cu3 := S_cu4.trans T_cu4
    have T_cu2 := S_cu3.trans T_cu3
    have T_cu1 := S_cu2.trans T_cu2
    have call := S_cu1.trans T_cu1
    have w_cu1 := (wo_ne n_cu1).trans (T_cu1 _ _ e_cu1)
    have w_cu2 := (wo_ne n_cu2).trans (T_cu2 _ _ e_cu2)
    have w_cu3 := (wo_ne n_cu3).trans (T_cu3 _ _ e_cu3)
    have w_cu4 := (wo_ne n_cu4).trans (T_cu4 _ _ e_cu4)
    have w_cu5 := (wo_ne n_cu5).trans (T_cu5 _ _ e_cu5)
    have w_cu6 := (wo_ne n_cu6).trans (T_cu6 _ _ e_cu6)
    have w_cu7 := (wo_ne n_cu7).trans (T_cu7 _ _ e_cu7)
    have w_cu8 := (wo_ne n_cu8).trans (T_cu8 _ _ e_cu8)
    have w_cu9 := (wo_ne n_cu9).trans (T_cu9 _ _ e_cu9)
    have w_cu10 := (wo_ne n_cu10).trans (T_cu10 _ _ e_cu10)
    have w_cu11 := (wo_ne n_cu11).trans (T_cu11 _ _ e_cu11)
    have w_cu12 := (wo_ne n_cu12).trans (T_cu12 _ _ e_cu12)
    have w_cu13 := (wo_ne n_cu13).trans (T_cu13 _ _ e_cu13)
    refine ⟨g, cu13, b0, b1, b2, [.non, .ref cu1, .ref cu3, .ref cu4, .ref cu5, .ref cu6, .ref cu7, .str "1", .int 1, .ref cu8, .ref cu9, .ref cu11, .ref cu12], rfl, eg, .inl (.inl e_cu13), n_cu13, Nat.succ_pos _, by show 13 ≤ 1000; decide, fun vr h0 h1 h2 hv => ?_⟩
    have U : Upto g H2 (upd cJ13 g (.lst [.int h0, .int h1, .int h2])) := draw_up call bagH2
    have Fr := rowV (K := K) (H := wo cJ13 g) hv w_cu1 w_cu2 w_cu3 w_cu4 w_cu5 w_cu6 w_cu7 w_cu8 w_cu9 w_cu10 w_cu11 w_cu12
    rw [← wo_upd (o := .lst [.int h0, .int h1, .int h2])] at Fr
    generalize upd cJ13 g _ = H3 at U Fr ⊢
    replace Fm := bmE Fm (up_ext U)
    replace Fg := kvE Fg (up_ext U)
    replace hT := tab_upto hT bagH2 U
    have extH3 := up_ext U
    have bagH3 := U.bag
    clear n_cu1 e_cu1 S_cu1 T_cu1 w_cu1 f_cu1 n_cu2 e_cu2 S_cu2 T_cu2 w_cu2 f_cu2 n_cu3 e_cu3 S_cu3 T_cu3 w_cu3 f_cu3 n_cu4 e_cu4 S_cu4 T_cu4 w_cu4 f_cu4 n_cu5 e_cu5 S_cu5 T_cu5 w_cu5 f_cu5 n_cu6 e_cu6 S_cu6 T_cu6 w_cu6 f_cu6 n_cu7 e_cu7 S_cu7 T_cu7 w_cu7 f_cu7 n_cu8 e_cu8 S_cu8 T_cu8 w_cu8 f_cu8 n_cu9 e_cu9 S_cu9 T_cu9 w_cu9 f_cu9 n_cu10 e_cu10 S_cu10 T_cu10 w_cu10 f_cu10 n_cu11 e_cu11 S_cu11 T_cu11 w_cu11 f_cu11 n_cu12 e_cu12 S_cu12 T_cu12 w_cu12 f_cu12 n_cu13 e_cu13 S_cu13 T_cu13 w_cu13 f_cu13 call U hv
    have X5 : ExtN (wo H g) (wo H3 g) := (extH1.trans extH2).trans extH3
    clear extH1 extH2 extH3 bagH1 bagH2 bag
    refine ⟨hT, fun H6 e6 t6 => ?_⟩
    replace Fm := bmE Fm (low_ext e6)
    replace Fg := kvE Fg (low_ext e6)
    replace Fr := bvE Fr (low_ext e6)
    have X6 : ExtN (wo H g) H6 := X5.trans (low_ext e6)
    replace bag := bag_ext bagH3 e6
    clear e6 hT bagH3 X5
    refine ⟨_, rfl, _, rfl, Fm, ret_mv fun H7 s7 => ⟨by show 1 ≤ sizeLine; decide, fun p fp => ?_⟩⟩
    have o1 := On.first (K := K) (os := [.inl "move"]) (t6.ext s7) fp
    replace Fg := kvE Fg (ext_same s7)
    replace Fr := bvE Fr (ext_same s7)
    replace X6 := X6.trans (ext_same s7)
    replace bag := bag_ext bag (ext_same s7)
    generalize eH : upd H7 p _ = H8
    replace o1 : On K H7 p [.inl "move"] H8 := by rw [← eH]; exact o1
    clear s7 t6 fp Fm eH
    refine stepW (z := "group") o1 rfl (by show 1 < 100; decide) (fun H4 e4 Q' q' => ?_) (fun H9 o2 => ?_)
    · have E := o1.ext.trans e4
      exact let ⟨n, hk⟩ := kvE Fg E; ⟨_, rfl, _, n, rfl, hk, ret_gr q'⟩
    refine stepW (z := "row") o2 rfl (by show 2 < 100; decide) (fun H4 e4 Q' q' => ?_) (fun H10 o3 => ?_)
    · have E := o2.ext.trans e4
      exact let ⟨o, rv, no⟩ := bvE Fr E; ⟨_, rfl, _, o, rfl, rv, no, ret_rw q'⟩
    refine stepW (z := "kinds") o3 rfl (by show 3 < 100; decide) (fun H4 e4 Q' q' => ?_) (fun H11 o4 => ?_)
    · have E := o3.ext.trans e4
      exact let ⟨o, rv, no⟩ := bvE Fr E; ⟨_, rfl, _, o, rfl, rv, no, ret_ks q'⟩
    refine stepW (z := "group") o4 rfl (by show 4 < 100; decide) (fun H4 e4 Q' q' => ?_) (fun H12 o5 => ?_)
    · have E := o4.ext.trans e4
      exact let ⟨n, hk⟩ := kvE Fg E; ⟨_, rfl, _, n, rfl, hk, fun H' s => ⟨ret_gr q' H' s, Y.ns⟩⟩
    refine ⟨_, rfl, by show 5 ≤ sizeLine; decide, fun r fr => ?_⟩
    have o6 := o5.same (same_new fr (o := .lst [.str "move", .str "group", .str "row", .str "kinds", .str "group"]))
    refine ⟨dW [.inl "move", .inl "group", .inl "row", .inl "kinds", .inl "group"], dW [.inl "move", .inl "group", .inl "row", .inl "kinds", .inl "group"], o6.dp, dp_list (p := r) (os := [.inl "move", .inl "group", .inl "row", .inl "kinds", .inl "group"]) upd_same, by decide +kernel, by decide +kernel, ?_⟩
    rw [show PyData.eqv (dW [.inl "move", .inl "group", .inl "row", .inl "kinds", .inl "group"]) (dW [.inl "move", .inl "group", .inl "row", .inl "kinds", .inl "group"]) = true from eqvW _]
    exact q _ (X6.trans o6.ext) (bag_ext bag o6.ext) o6.tab
end
end K87


set_option Elab.async false
set_option linter.all false
set_option maxRecDepth 100000
set_option maxHeartbeats 4000000
namespace K87
open PySem PySem.Spec PyProof.Rows L2 MM LamX
/-! own words for the readings: a step, its side -/
local macro_rules | `(tactic| walk_at "side") => `(tactic| first
  | omega
  | exact ⟨by omega, by omega⟩
  | exact Or.inl ⟨by omega, by omega⟩
  | exact Or.inr ⟨by omega, by omega⟩
  | (show CPw _ _; decide +kernel)
  | (show (0 : Int) < _; decide +kernel)
  | (show CDivW _ _; first | assumption | exact ⟨by decide, by decide +kernel⟩))
local macro_rules | `(tactic| walk_at "here") => `(tactic| first
  | assumption
  | exact upd_same
  | exact Or.inl (Or.inl upd_same)
  | exact Or.inl upd_same)
local macro_rules | `(tactic| walk_at "one") => `(tactic| first
  | refine ⟨_, rfl, ?_⟩
  | refine Or.inl ⟨_, rfl, ?_⟩
  | refine Or.inr ⟨_, rfl, ?_⟩
  | refine ⟨_, _, rfl, rfl, (by walk_at "side"), ?_⟩
  | refine ⟨_, _, rfl, rfl, ?_⟩
  | refine ⟨_, _, rfl, Or.inl (by walk_at "here"), ?_⟩
  | refine ⟨_, _, rfl, Or.inr (by walk_at "here"), ?_⟩
  | refine ⟨_, _, rfl, (by walk_at "here"), ?_⟩
  | refine ⟨_, _, _, _, rfl, rfl, (by walk_at "here"), rfl, ?_⟩
  | refine ⟨_, _, rfl, ?_⟩
  | refine ifT (by rfl) ?_
  | refine ifF (by rfl) ?_
  | refine ifT (decide_eq_true (by omega)) ?_
  | refine ifF (decide_eq_false (by omega)) ?_)
local macro_rules | `(tactic| walk_at "st") => `(tactic| repeat (walk_at "one"))

section
variable {P : Program} {w : World} {K : PySem.W.Frag} {mg : Str → Option Value} {base : Heap}
/-- a value that passes as a text, or doesn't -/
def TX (K : PySem.W.Frag) (H : Hp) (v : V) (b : Bool) : Prop := ∃ n, Kd K H v n ∧ (∀ z, v = .str z → z.length ≤ 4000) ∧ okT v = b
theorem txE {H H' : Hp} {v : V} {b : Bool} (h : TX K H v b) (e : ExtN H H') : TX K H' v b := let ⟨n, a, r⟩ := h; ⟨n, kdE a e, r⟩
theorem num_bad {y : V} {l u : Nat} (no : isB y (l : Int) (u : Int) = false) (len : Nat) (e : y = .int (len : Int)) (h1 : l ≤ len) (h2 : len ≤ u) : False := by
  subst e
  have h : (decide ((l : Int) ≤ (len : Int)) && decide ((len : Int) ≤ (u : Int))) = false := no
  rw [decide_eq_true (by omega), decide_eq_true (by omega)] at h
  cases h
theorem num_ok {t : Str} (h : PyData.strOk t = true) : PyData.strOk ("number " ++ t) = true := by
  have a : PyData.strOk "number " = true := by decide +kernel
  unfold PyData.strOk at *
  show ((_ : Array Nat) ++ _).all _ = true
  rw [Array.all_append, Bool.and_eq_true]
  exact ⟨a, h⟩
theorem noneX {H : Hp} {au1 au2 au3 au4 au5 : Addr} {v : V} (h : v ∈ [.non, .int 0, .ref au1, .ref au2, .ref au3, .ref au4, .bl true, .str (manyS "0," 1501), .str (manyS "(" 3001), .str (manyS "1" 3001), .ref au5]) (e_au1 : H au1 = some (.tup [])) (e_au2 : H au2 = some (.tup [.str "()"])) (e_au3 : H au3 = some (.lst [.str "0"])) (e_au4 : H au4 = some (.dK [])) (e_au5 : H au5 = some (.tup [.str "1"])) : TX K H v false := by
  simp only [List.mem_cons, List.not_mem_nil, or_false] at h
  rcases h with rfl | rfl | rfl | rfl | rfl | rfl | rfl | rfl | rfl | rfl | rfl
  · exact ⟨_, .non, (fun z e => nomatch e), rfl⟩
  · exact ⟨_, .int _, (fun z e => nomatch e), rfl⟩
  · exact ⟨_, .tup (.inl (.inl e_au1)), (fun z e => nomatch e), rfl⟩
  · exact ⟨_, .tup (.inl (.inl e_au2)), (fun z e => nomatch e), rfl⟩
  · exact ⟨_, .lst (.inl (.inl e_au3)), (fun z e => nomatch e), rfl⟩
  · exact ⟨_, .dct e_au4, (fun z e => nomatch e), rfl⟩
  · exact ⟨_, .bl _, (fun z e => nomatch e), rfl⟩
  · exact ⟨_, .str _, (fun z e => by
      cases e
      show (manyS "0," 1501).length ≤ 4000
      rw [manyS_len]
      decide), by
      show decide ((manyS "0," 1501).length ≤ 3000) = false
      rw [manyS_len]
      decide⟩
  · exact ⟨_, .str _, (fun z e => by
      cases e
      show (manyS "(" 3001).length ≤ 4000
      rw [manyS_len]
      decide), by
      show decide ((manyS "(" 3001).length ≤ 3000) = false
      rw [manyS_len]
      decide⟩
  · exact ⟨_, .str _, (fun z e => by
      cases e
      show (manyS "1" 3001).length ≤ 4000
      rw [manyS_len]
      decide), by
      show decide ((manyS "1" 3001).length ≤ 3000) = false
      rw [manyS_len]
      decide⟩
  · exact ⟨_, .tup (.inl (.inl e_au5)), (fun z e => nomatch e), rfl⟩
theorem placesX {H : Hp} {bu1 : Addr} {v : V} (h : v ∈ [.int 0, .int 25, .int (-1), .non, .bl true, .str "3", .ref bu1, .int (10 ^ 60)]) (e_bu1 : H bu1 = some (.tup [.int 3])) : ∃ t, NV K H v (fun x => isB x 1 24) t := by
  simp only [List.mem_cons, List.not_mem_nil, or_false] at h
  rcases h with rfl | rfl | rfl | rfl | rfl | rfl | rfl | rfl
  · exact ⟨_, _, _, .int _, by decide +kernel, .inl ⟨.int _, by decide +kernel⟩, by decide +kernel, by decide +kernel, by decide +kernel, rfl⟩
  · exact ⟨_, _, _, .int _, by decide +kernel, .inl ⟨.int _, by decide +kernel⟩, by decide +kernel, by decide +kernel, by decide +kernel, rfl⟩
  · exact ⟨_, _, _, .int _, by decide +kernel, .inl ⟨.int _, by decide +kernel⟩, by decide +kernel, by decide +kernel, by decide +kernel, rfl⟩
  · exact ⟨_, _, _, .non, rfl, .inl ⟨.non, by decide +kernel⟩, by decide +kernel, by decide +kernel, by decide +kernel, rfl⟩
  · exact ⟨_, _, _, .bl _, rfl, .inl ⟨.bl _, by decide +kernel⟩, by decide +kernel, by decide +kernel, by decide +kernel, rfl⟩
  · exact ⟨_, _, _, .str _, rfl, .inl ⟨.str _, by decide +kernel⟩, by decide +kernel, by decide +kernel, by decide +kernel, rfl⟩
  · exact ⟨_, _, _, .tup (.inl (.inl e_bu1)), rfl, .inl ⟨.tup (.inl (.inl e_bu1)) (.cons (.int _) .nil), by decide +kernel⟩, by decide +kernel, by decide +kernel, by decide +kernel, rfl⟩
  · exact ⟨_, _, _, .int _, by decide +kernel, .inl ⟨.int _, by decide +kernel⟩, by decide +kernel, by decide +kernel, by decide +kernel, rfl⟩
theorem lengthX {H : Hp} {cu1 : Addr} {v : V} (h : v ∈ [.int 0, .int 61, .int (-1), .non, .bl true, .str "3", .ref cu1, .int (10 ^ 60)]) (e_cu1 : H cu1 = some (.tup [.int 3])) : ∃ t, NV K H v (fun x => isB x 1 60) t := by
  simp only [List.mem_cons, List.not_mem_nil, or_false] at h
  rcases h with rfl | rfl | rfl | rfl | rfl | rfl | rfl | rfl
  · exact ⟨_, _, _, .int _, by decide +kernel, .inl ⟨.int _, by decide +kernel⟩, by decide +kernel, by decide +kernel, by decide +kernel, rfl⟩
  · exact ⟨_, _, _, .int _, by decide +kernel, .inl ⟨.int _, by decide +kernel⟩, by decide +kernel, by decide +kernel, by decide +kernel, rfl⟩
  · exact ⟨_, _, _, .int _, by decide +kernel, .inl ⟨.int _, by decide +kernel⟩, by decide +kernel, by decide +kernel, by decide +kernel, rfl⟩
  · exact ⟨_, _, _, .non, rfl, .inl ⟨.non, by decide +kernel⟩, by decide +kernel, by decide +kernel, by decide +kernel, rfl⟩
  · exact ⟨_, _, _, .bl _, rfl, .inl ⟨.bl _, by decide +kernel⟩, by decide +kernel, by decide +kernel, by decide +kernel, rfl⟩
  · exact ⟨_, _, _, .str _, rfl, .inl ⟨.str _, by decide +kernel⟩, by decide +kernel, by decide +kernel, by decide +kernel, rfl⟩
  · exact ⟨_, _, _, .tup (.inl (.inl e_cu1)), rfl, .inl ⟨.tup (.inl (.inl e_cu1)) (.cons (.int _) .nil), by decide +kernel⟩, by decide +kernel, by decide +kernel, by decide +kernel, rfl⟩
  · exact ⟨_, _, _, .int _, by decide +kernel, .inl ⟨.int _, by decide +kernel⟩, by decide +kernel, by decide +kernel, by decide +kernel, rfl⟩
theorem oddX {H : Hp} {v : V} (h : v ∈ [.str "", .str "x", .str "(0 1", .str "[0", .str "1,", .str ")"])  : TX K H v true := by
  simp only [List.mem_cons, List.not_mem_nil, or_false] at h
  rcases h with rfl | rfl | rfl | rfl | rfl | rfl
  · exact ⟨_, .str _, (fun z e => by cases e; decide +kernel), by decide +kernel⟩
  · exact ⟨_, .str _, (fun z e => by cases e; decide +kernel), by decide +kernel⟩
  · exact ⟨_, .str _, (fun z e => by cases e; decide +kernel), by decide +kernel⟩
  · exact ⟨_, .str _, (fun z e => by cases e; decide +kernel), by decide +kernel⟩
  · exact ⟨_, .str _, (fun z e => by cases e; decide +kernel), by decide +kernel⟩
  · exact ⟨_, .str _, (fun z e => by cases e; decide +kernel), by decide +kernel⟩
def spReadR (K : PySem.W.Frag) : Sp := fun vs H Q _ => ∃ (g : Addr), vs = [.ref g] ∧ BagAt H g ∧ Tabs (TL K) H ∧ ∀ H', ExtN (wo H g) H' → BagAt H' g → Tabs (TL K) H' → Q (.bl true) H'
theorem scReadRightL : FnScope ["_law_bag_here", "_law_none", "_law_places", "_law_length", "_law_odd", "_law_told", "_law_due"] ["_law_bag_here"] (defScope sReadRightL) :=
  ⟨rfl, rfl, rfl, by decide +kernel, rfl, by decide +kernel, by decide +kernel⟩
theorem dReadRightL (T : Tx K mg) (Y : Ex K mg) (TB : Tb K mg base) (DOneOfL : Def P w K mg base CX0 2 "_law_one_of" ["_law_bag_here", "_law_items"] (spOneOf K)) (CReadMove : Def P w K mg base (L2.CX P w) 5 "read_move" ["text", "places"] (spReadMoveX K)) (CReadKinds : Def P w K mg base (L2.CX P w) 6 "read_kinds" ["text", "length"] (spReadKinds K)) (CReadRow : Def P w K mg base (L2.CX P w) 5 "read_row" ["text"] (spReadRow K)) (CReadGroup : Def P w K mg base (L2.CX P w) 4 "read_group" ["text"] (spReadGroupX K)) : Def P w K mg base CX0 9 "_law_read_right" ["_law_bag_here"] (spReadR K) := by
  refine defC T.t_law_read_right (N := ["_law_bag_here", "_law_none", "_law_places", "_law_length", "_law_odd", "_law_told", "_law_due"]) scReadRightL (fun _ _ _ _ _ _ us hl => match us, hl with | [_], _ => rfl) ?_ ?_
  · intro vs H Q E h
    obtain ⟨g, rfl, _⟩ := h
    rfl
  · intro f cd A out s H vs Q E ec hr h
    subst ec
    have hr1 : Rm 2 _ := hr.le (by decide)
    obtain ⟨g, rfl, bag, hT, q⟩ := h
    refine ⟨_, (pss_cons (ps_set (i := 1) scReadRightL.nd rfl (Or.inr rfl) (pe_d DOneOfL (hr1.le (by decide)) pass0 (pa_cons (pv 0) (pa_cons (pe_lst (pa_cons pe_non (pa_cons pe_int (pa_cons (pe_tup pa_nil) (pa_cons (pe_tup (pa_cons pe_str pa_nil)) (pa_cons (pe_lst (pa_cons pe_str pa_nil)) (pa_cons pe_dnewK (pa_cons pe_bl (pa_cons (pe_op op_repB pe_str pe_int) (pa_cons (pe_op op_repB pe_str pe_int) (pa_cons (pe_op op_repB pe_str pe_int) (pa_cons (pe_tup (pa_cons pe_str pa_nil)) pa_nil)))))))))))) pa_nil))))
      (pss_cons (ps_set (i := 2) scReadRightL.nd rfl (Or.inr rfl) (pe_d DOneOfL (hr1.le (by decide)) pass0 (pa_cons (pv 0) (pa_cons (pe_lst (pa_cons pe_int (pa_cons pe_int (pa_cons (pe_un un_neg pe_int) (pa_cons pe_non (pa_cons pe_bl (pa_cons pe_str (pa_cons (pe_tup (pa_cons pe_int pa_nil)) (pa_cons (pe_op op_pw pe_int pe_int) pa_nil))))))))) pa_nil))))
      (pss_cons (ps_set (i := 3) scReadRightL.nd rfl (Or.inr rfl) (pe_d DOneOfL (hr1.le (by decide)) pass0 (pa_cons (pv 0) (pa_cons (pe_lst (pa_cons pe_int (pa_cons pe_int (pa_cons (pe_un un_neg pe_int) (pa_cons pe_non (pa_cons pe_bl (pa_cons pe_str (pa_cons (pe_tup (pa_cons pe_int pa_nil)) (pa_cons (pe_op op_pw pe_int pe_int) pa_nil))))))))) pa_nil))))
      (pss_cons (ps_set (i := 4) scReadRightL.nd rfl (Or.inr rfl) (pe_d DOneOfL (hr1.le (by decide)) pass0 (pa_cons (pv 0) (pa_cons (pe_lst (pa_cons pe_str (pa_cons pe_str (pa_cons pe_str (pa_cons pe_str (pa_cons pe_str (pa_cons pe_str pa_nil))))))) pa_nil))))
      (pss_cons (ps_set (i := 5) scReadRightL.nd rfl (Or.inl rfl) (pe_lst (pa_cons (ME.pe_lam (T := TL K) (TT := TTW K) (k := 6) (t := fun E1 => (ME.tDS (spReadMoveX K) (fun _ => E1) (tCons (tVar 1) (tCons (tVar 2) tNil)))) T.t_law_word (fun _ _ _ _ _ _ us hl => match us, hl with | [_], _ => rfl) scWord rfl (Or.inl rfl) (fun g cd => word_gives (k := 1) T Y (hr.le (by decide))) TB.t2 rfl m2 TB.u2 (hr.le (by decide)) (show LamS _ _ from lamS_by (sc := defScope sReadRightL) (by decide +kernel)) rfl (fun _ _ _ _ _ => rfl) (fun A1 o1 s1 H1 E1 f1 c1 hr9 => (show PE _ _ (ME.tDS (spReadMoveX K) (fun _ => E1) (tCons (tVar 1) (tCons (tVar 2) tNil))) from ME.pe_dS CReadMove (hr9.le (by decide)) (passAt (takes_of rfl rfl rfl rfl)) (pa_cons (pv 1) (pa_cons (pv 2) pa_nil))))) pa_nil)))
      (pss_cons (ps_expr (pe_bm PySem.F.plainAttrs_list PySem.F.slot_list_append PySem.F.type_list_append mt_append (pv 5) (pa_cons (ME.pe_lam (T := TL K) (TT := TTW K) (k := 6) (t := fun E1 => (ME.tDS (spReadMoveX K) (fun _ => E1) (tCons (tVar 4) (tCons (tVar 2) tNil)))) T.t_law_word (fun _ _ _ _ _ _ us hl => match us, hl with | [_], _ => rfl) scWord rfl (Or.inl rfl) (fun g cd => word_gives (k := 1) T Y (hr.le (by decide))) TB.t2 rfl m2 TB.u2 (hr.le (by decide)) (show LamS _ _ from lamS_by (sc := defScope sReadRightL) (by decide +kernel)) rfl (fun _ _ _ _ _ => rfl) (fun A1 o1 s1 H1 E1 f1 c1 hr9 => (show PE _ _ (ME.tDS (spReadMoveX K) (fun _ => E1) (tCons (tVar 4) (tCons (tVar 2) tNil))) from ME.pe_dS CReadMove (hr9.le (by decide)) (passAt (takes_of rfl rfl rfl rfl)) (pa_cons (pv 4) (pa_cons (pv 2) pa_nil))))) pa_nil)))
      (pss_cons (ps_expr (pe_bm PySem.F.plainAttrs_list PySem.F.slot_list_append PySem.F.type_list_append mt_append (pv 5) (pa_cons (ME.pe_lam (T := TL K) (TT := TTW K) (k := 6) (t := fun E1 => (ME.tDS (spReadMoveX K) (fun _ => E1) (tCons (tC (.str "(0 9)")) (tCons (tVar 2) tNil)))) T.t_law_word (fun _ _ _ _ _ _ us hl => match us, hl with | [_], _ => rfl) scWord rfl (Or.inl rfl) (fun g cd => word_gives (k := 1) T Y (hr.le (by decide))) TB.t2 rfl m2 TB.u2 (hr.le (by decide)) (show LamS _ _ from lamS_by (sc := defScope sReadRightL) (by decide +kernel)) rfl (fun _ _ _ _ _ => rfl) (fun A1 o1 s1 H1 E1 f1 c1 hr9 => (show PE _ _ (ME.tDS (spReadMoveX K) (fun _ => E1) (tCons (tC (.str "(0 9)")) (tCons (tVar 2) tNil))) from ME.pe_dS CReadMove (hr9.le (by decide)) (passAt (takes_of rfl rfl rfl rfl)) (pa_cons pe_str (pa_cons (pv 2) pa_nil))))) pa_nil)))
      (pss_cons (ps_expr (pe_bm PySem.F.plainAttrs_list PySem.F.slot_list_append PySem.F.type_list_append mt_append (pv 5) (pa_cons (ME.pe_lam (T := TL K) (TT := TTW K) (k := 6) (t := fun E1 => (ME.tDS (spReadKinds K) (fun _ => E1) (tCons (tVar 1) (tCons (tVar 3) tNil)))) T.t_law_word (fun _ _ _ _ _ _ us hl => match us, hl with | [_], _ => rfl) scWord rfl (Or.inl rfl) (fun g cd => word_gives (k := 1) T Y (hr.le (by decide))) TB.t2 rfl m2 TB.u2 (hr.le (by decide)) (show LamS _ _ from lamS_by (sc := defScope sReadRightL) (by decide +kernel)) rfl (fun _ _ _ _ _ => rfl) (fun A1 o1 s1 H1 E1 f1 c1 hr9 => (show PE _ _ (ME.tDS (spReadKinds K) (fun _ => E1) (tCons (tVar 1) (tCons (tVar 3) tNil))) from ME.pe_dS CReadKinds (hr9.le (by decide)) (passAt (takes_of rfl rfl rfl rfl)) (pa_cons (pv 1) (pa_cons (pv 3) pa_nil))))) pa_nil)))
      (pss_cons (ps_expr (pe_bm PySem.F.plainAttrs_list PySem.F.slot_list_append PySem.F.type_list_append mt_append (pv 5) (pa_cons (ME.pe_lam (T := TL K) (TT := TTW K) (k := 6) (t := fun E1 => (ME.tDS (spReadKinds K) (fun _ => E1) (tCons (tVar 4) (tCons (tVar 3) tNil)))) T.t_law_word (fun _ _ _ _ _ _ us hl => match us, hl with | [_], _ => rfl) scWord rfl (Or.inl rfl) (fun g cd => word_gives (k := 1) T Y (hr.le (by decide))) TB.t2 rfl m2 TB.u2 (hr.le (by decide)) (show LamS _ _ from lamS_by (sc := defScope sReadRightL) (by decide +kernel)) rfl (fun _ _ _ _ _ => rfl) (fun A1 o1 s1 H1 E1 f1 c1 hr9 => (show PE _ _ (ME.tDS (spReadKinds K) (fun _ => E1) (tCons (tVar 4) (tCons (tVar 3) tNil))) from ME.pe_dS CReadKinds (hr9.le (by decide)) (passAt (takes_of rfl rfl rfl rfl)) (pa_cons (pv 4) (pa_cons (pv 3) pa_nil))))) pa_nil)))
      (pss_cons (ps_expr (pe_bm PySem.F.plainAttrs_list PySem.F.slot_list_append PySem.F.type_list_append mt_append (pv 5) (pa_cons (ME.pe_lam (T := TL K) (TT := TTW K) (k := 6) (t := fun E1 => (ME.tDS (spReadKinds K) (fun _ => E1) (tCons (tC (.str "[70]")) (tCons (tVar 3) tNil)))) T.t_law_word (fun _ _ _ _ _ _ us hl => match us, hl with | [_], _ => rfl) scWord rfl (Or.inl rfl) (fun g cd => word_gives (k := 1) T Y (hr.le (by decide))) TB.t2 rfl m2 TB.u2 (hr.le (by decide)) (show LamS _ _ from lamS_by (sc := defScope sReadRightL) (by decide +kernel)) rfl (fun _ _ _ _ _ => rfl) (fun A1 o1 s1 H1 E1 f1 c1 hr9 => (show PE _ _ (ME.tDS (spReadKinds K) (fun _ => E1) (tCons (tC (.str "[70]")) (tCons (tVar 3) tNil))) from ME.pe_dS CReadKinds (hr9.le (by decide)) (passAt (takes_of rfl rfl rfl rfl)) (pa_cons pe_str (pa_cons (pv 3) pa_nil))))) pa_nil)))
      (pss_cons (ps_expr (pe_bm PySem.F.plainAttrs_list PySem.F.slot_list_append PySem.F.type_list_append mt_append (pv 5) (pa_cons (ME.pe_lam (T := TL K) (TT := TTW K) (k := 6) (t := fun E1 => (ME.tDS (spReadRow K) (fun _ => E1) (tCons (tVar 1) tNil))) T.t_law_word (fun _ _ _ _ _ _ us hl => match us, hl with | [_], _ => rfl) scWord rfl (Or.inl rfl) (fun g cd => word_gives (k := 1) T Y (hr.le (by decide))) TB.t2 rfl m2 TB.u2 (hr.le (by decide)) (show LamS _ _ from lamS_by (sc := defScope sReadRightL) (by decide +kernel)) rfl (fun _ _ _ _ _ => rfl) (fun A1 o1 s1 H1 E1 f1 c1 hr9 => (show PE _ _ (ME.tDS (spReadRow K) (fun _ => E1) (tCons (tVar 1) tNil)) from ME.pe_dS CReadRow (hr9.le (by decide)) (passAt (takes_of rfl rfl rfl rfl)) (pa_cons (pv 1) pa_nil)))) pa_nil)))
      (pss_cons (ps_expr (pe_bm PySem.F.plainAttrs_list PySem.F.slot_list_append PySem.F.type_list_append mt_append (pv 5) (pa_cons (ME.pe_lam (T := TL K) (TT := TTW K) (k := 6) (t := fun E1 => (ME.tDS (spReadGroupX K) (fun _ => E1) (tCons (tVar 1) tNil))) T.t_law_word (fun _ _ _ _ _ _ us hl => match us, hl with | [_], _ => rfl) scWord rfl (Or.inl rfl) (fun g cd => word_gives (k := 1) T Y (hr.le (by decide))) TB.t2 rfl m2 TB.u2 (hr.le (by decide)) (show LamS _ _ from lamS_by (sc := defScope sReadRightL) (by decide +kernel)) rfl (fun _ _ _ _ _ => rfl) (fun A1 o1 s1 H1 E1 f1 c1 hr9 => (show PE _ _ (ME.tDS (spReadGroupX K) (fun _ => E1) (tCons (tVar 1) tNil)) from ME.pe_dS CReadGroup (hr9.le (by decide)) (passAt (takes_of rfl rfl rfl rfl)) (pa_cons (pv 1) pa_nil)))) pa_nil)))
      (pss_cons (ps_set (i := 6) scReadRightL.nd rfl (Or.inl rfl) (pe_lst (pa_cons pe_str (pa_cons (pe_op (show OpR _ _ rAddS from op_add_str) pe_str (pe_callB (show CallR _ _ (rReprO K) from cr_reprO hr.still hr.hu66) rfl T.f_repr (by decide +kernel) (pa_cons (pv 2) pa_nil))) (pa_cons (pe_op (show OpR _ _ rAddS from op_add_str) pe_str (pe_callB (show CallR _ _ (rReprO K) from cr_reprO hr.still hr.hu66) rfl T.f_repr (by decide +kernel) (pa_cons (pv 2) pa_nil))) (pa_cons pe_str pa_nil))))))
      (pss_one (ps_ret (pe_cmpR (op_eqD hr.hu) (pv 5) (pe_op op_cat (pv 6) (pe_lst (pa_cons (pe_op (show OpR _ _ rAddS from op_add_str) pe_str (pe_callB (show CallR _ _ (rReprO K) from cr_reprO hr.still hr.hu66) rfl T.f_repr (by decide +kernel) (pa_cons (pv 3) pa_nil))) (pa_cons (pe_op (show OpR _ _ rAddS from op_add_str) pe_str (pe_callB (show CallR _ _ (rReprO K) from cr_reprO hr.still hr.hu66) rfl T.f_repr (by decide +kernel) (pa_cons (pv 3) pa_nil))) (pa_cons pe_str (pa_cons pe_str pa_nil)))))) (nomark _))))))))))))))))), ?_⟩
    obtain ⟨b0, b1, b2, eg⟩ := id bag
    refine ⟨_, rfl, ?_⟩
    refine ⟨by show 0 ≤ sizeLine; decide, fun au1 f_au1 => ?_⟩
    generalize eH : upd H au1 _ = aJ1
    obtain ⟨n_au1, S_au1, e_au1, eg⟩ : au1 ≠ g ∧ Same H aJ1 ∧ aJ1 au1 = some (.tup []) ∧ aJ1 g = some (.lst [.int b0, .int b1, .int b2]) := by
      rw [← eH]
      exact new_obj eg f_au1
    clear eH
    refine ⟨by show 1 ≤ sizeLine; decide, fun au2 f_au2 => ?_⟩
    generalize eH : upd aJ1 au2 _ = aJ2
    obtain ⟨n_au2, S_au2, e_au2, eg⟩ : au2 ≠ g ∧ Same aJ1 aJ2 ∧ aJ2 au2 = some (.tup [.str "()"]) ∧ aJ2 g = some (.lst [.int b0, .int b1, .int b2]) := by
      rw [← eH]
      exact new_obj eg f_au2
    clear eH
    refine ⟨by show 1 ≤ sizeLine; decide, fun au3 f_au3 => ?_⟩
    generalize eH : upd aJ2 au3 _ = aJ3
    obtain ⟨n_au3, S_au3, e_au3, eg⟩ : au3 ≠ g ∧ Same aJ2 aJ3 ∧ aJ3 au3 = some (.lst [.str "0"]) ∧ aJ3 g = some (.lst [.int b0, .int b1, .int b2]) := by
      rw [← eH]
      exact new_obj eg f_au3
    clear eH
    intro au4 f_au4
    generalize eH : upd aJ3 au4 _ = aJ4
    obtain ⟨n_au4, S_au4, e_au4, eg⟩ : au4 ≠ g ∧ Same aJ3 aJ4 ∧ aJ4 au4 = some (.dK []) ∧ aJ4 g = some (.lst [.int b0, .int b1, .int b2]) := by
      rw [← eH]
      exact new_obj eg f_au4
    clear eH
    refine ⟨"0,", 1501, rfl, rfl, by decide, by decide, by decide, by decide, ?_⟩
    refine ⟨"(", 3001, rfl, rfl, by decide, by decide, by decide, by decide, ?_⟩
    refine ⟨"1", 3001, rfl, rfl, by decide, by decide, by decide, by decide, ?_⟩
    refine ⟨by show 1 ≤ sizeLine; decide, fun au5 f_au5 => ?_⟩
    generalize eH : upd aJ4 au5 _ = aJ5
    obtain ⟨n_au5, S_au5, e_au5, eg⟩ : au5 ≠ g ∧ Same aJ4 aJ5 ∧ aJ5 au5 = some (.tup [.str "1"]) ∧ aJ5 g = some (.lst [.int b0, .int b1, .int b2]) := by
      rw [← eH]
      exact new_obj eg f_au5
    clear eH
    refine ⟨by show 11 ≤ sizeLine; decide, fun au6 f_au6 => ?_⟩
    generalize eH : upd aJ5 au6 _ = aJ6
    obtain ⟨n_au6, S_au6, e_au6, eg⟩ : au6 ≠ g ∧ Same aJ5 aJ6 ∧ aJ6 au6 = some (.lst [.non, .int 0, .ref au1, .ref au2, .ref au3, .ref au4, .bl true, .str (manyS "0," 1501), .str (manyS "(" 3001), .str (manyS "1" 3001), .ref au5]) ∧ aJ6 g = some (.lst [.int b0, .int b1, .int b2]) := by
      rw [← eH]
      exact new_obj eg f_au6
    clear eH
    have T_au6 := Same.refl aJ6
    have T_au5 := S_au6.trans T_au6
    have T_au4 := S_au5.trans T_au5
    have T_au3 := S_au4.trans T_au4
    have T_au2 := S_au3.trans T_au3
    have T_au1 := S_au2.trans T_au2
    have aall := S_au1.trans T_au1
    have w_au1 := (wo_ne n_au1).trans (T_au1 _ _ e_au1)
    have w_au2 := (wo_ne n_au2).trans (T_au2 _ _ e_au2)
    have w_au3 := (wo_ne n_au3).trans (T_au3 _ _ e_au3)
    have w_au4 := (wo_ne n_au4).trans (T_au4 _ _ e_au4)
    have w_au5 := (wo_ne n_au5).trans (T_au5 _ _ e_au5)
    have w_au6 := (wo_ne n_au6).trans (T_au6 _ _ e_au6)
    refine ⟨g, au6, b0, b1, b2, [.non, .int 0, .ref au1, .ref au2, .ref au3, .ref au4, .bl true, .str (manyS "0," 1501), .str (manyS "(" 3001), .str (manyS "1" 3001), .ref au5], rfl, eg, .inl (.inl e_au6), n_au6, Nat.succ_pos _, by show 11 ≤ 1000; decide, fun vn h0 h1 h2 hv => ?_⟩
    have U : Upto g H (upd aJ6 g (.lst [.int h0, .int h1, .int h2])) := draw_up aall bag
    have Fn := noneX (K := K) (H := wo aJ6 g) hv w_au1 w_au2 w_au3 w_au4 w_au5
    rw [← wo_upd (o := .lst [.int h0, .int h1, .int h2])] at Fn
    generalize upd aJ6 g _ = H1 at U Fn ⊢
    replace hT := tab_upto hT bag U
    have extH1 := up_ext U
    have bagH1 := U.bag
    clear n_au1 e_au1 S_au1 T_au1 w_au1 f_au1 n_au2 e_au2 S_au2 T_au2 w_au2 f_au2 n_au3 e_au3 S_au3 T_au3 w_au3 f_au3 n_au4 e_au4 S_au4 T_au4 w_au4 f_au4 n_au5 e_au5 S_au5 T_au5 w_au5 f_au5 n_au6 e_au6 S_au6 T_au6 w_au6 f_au6 aall U hv
    obtain ⟨b0, b1, b2, eg⟩ := id bagH1
    refine ⟨_, rfl, ?_⟩
    refine ⟨_, rfl, ?_⟩
    refine ⟨by show 1 ≤ sizeLine; decide, fun bu1 f_bu1 => ?_⟩
    generalize eH : upd H1 bu1 _ = bJ1
    obtain ⟨n_bu1, S_bu1, e_bu1, eg⟩ : bu1 ≠ g ∧ Same H1 bJ1 ∧ bJ1 bu1 = some (.tup [.int 3]) ∧ bJ1 g = some (.lst [.int b0, .int b1, .int b2]) := by
      rw [← eH]
      exact new_obj eg f_bu1
    clear eH
    refine ⟨10, 60, rfl, rfl, (by show CPw _ _; decide +kernel), ?_⟩
    refine ⟨by show 8 ≤ sizeLine; decide, fun bu2 f_bu2 => ?_⟩
    generalize eH : upd bJ1 bu2 _ = bJ2
    obtain ⟨n_bu2, S_bu2, e_bu2, eg⟩ : bu2 ≠ g ∧ Same bJ1 bJ2 ∧ bJ2 bu2 = some (.lst [.int 0, .int 25, .int (-1), .non, .bl true, .str "3", .ref bu1, .int (10 ^ 60)]) ∧ bJ2 g = some (.lst [.int b0, .int b1, .int b2]) := by
      rw [← eH]
      exact new_obj eg f_bu2
    clear eH
    have T_bu2 := Same.refl bJ2
    have T_bu1 := S_bu2.trans T_bu2
    have ball := S_bu1.trans T_bu1
    have w_bu1 := (wo_ne n_bu1).trans (T_bu1 _ _ e_bu1)
    have w_bu2 := (wo_ne n_bu2).trans (T_bu2 _ _ e_bu2)
    refine ⟨g, bu2, b0, b1, b2, [.int 0, .int 25, .int (-1), .non, .bl true, .str "3", .ref bu1, .int (10 ^ 60)], rfl, eg, .inl (.inl e_bu2), n_bu2, Nat.succ_pos _, by show 8 ≤ 1000; decide, fun vp h0 h1 h2 hv => ?_⟩
    have U : Upto g H1 (upd bJ2 g (.lst [.int h0, .int h1, .int h2])) := draw_up ball bagH1
    obtain ⟨tp, Fp⟩ := placesX (K := K) (H := wo bJ2 g) hv w_bu1
    rw [← wo_upd (o := .lst [.int h0, .int h1, .int h2])] at Fp
    generalize upd bJ2 g _ = H2 at U Fp ⊢
    replace Fn := txE Fn (up_ext U)
    replace hT := tab_upto hT bagH1 U
    have extH2 := up_ext U
    have bagH2 := U.bag
    clear n_bu1 e_bu1 S_bu1 T_bu1 w_bu1 f_bu1 n_bu2 e_bu2 S_bu2 T_bu2 w_bu2 f_bu2 ball U hv
    obtain ⟨b0, b1, b2, eg⟩ := id bagH2
    refine ⟨_, rfl, ?_⟩
    refine ⟨_, rfl, ?_⟩
    refine ⟨by show 1 ≤ sizeLine; decide, fun cu1 f_cu1 => ?_⟩
    generalize eH : upd H2 cu1 _ = cJ1
    obtain ⟨n_cu1, S_cu1, e_cu1, eg⟩ : cu1 ≠ g ∧ Same H2 cJ1 ∧ cJ1 cu1 = some (.tup [.int 3]) ∧ cJ1 g = some (.lst [.int b0, .int b1, .int b2]) := by
      rw [← eH]
      exact new_obj eg f_cu1
    clear eH
    refine ⟨10, 60, rfl, rfl, (by show CPw _ _; decide +kernel), ?_⟩
    refine ⟨by show 8 ≤ sizeLine; decide, fun cu2 f_cu2 => ?_⟩
    generalize eH : upd cJ1 cu2 _ = cJ2
    obtain ⟨n_cu2, S_cu2, e_cu2, eg⟩ : cu2 ≠ g ∧ Same cJ1 cJ2 ∧ cJ2 cu2 = some (.lst [.int 0, .int 61, .int (-1), .non, .bl true, .str "3", .ref cu1, .int (10 ^ 60)]) ∧ cJ2 g = some (.lst [.int b0, .int b1, .int b2]) := by
      rw [← eH]
      exact new_obj eg f_cu2
    clear eH
    have T_cu2 := Same.refl cJ2
    have T_cu1 := S_cu2.trans T_cu2
    have call := S_cu1.trans T_cu1
    have w_cu1 := (wo_ne n_cu1).trans (T_cu1 _ _ e_cu1)
    have w_cu2 := (wo_ne n_cu2).trans (T_cu2 _ _ e_cu2)
    refine ⟨g, cu2, b0, b1, b2, [.int 0, .int 61, .int (-1), .non, .bl true, .str "3", .ref cu1, .int (10 ^ 60)], rfl, eg, .inl (.inl e_cu2), n_cu2, Nat.succ_pos _, by show 8 ≤ 1000; decide, fun vl h0 h1 h2 hv => ?_⟩
    have U : Upto g H2 (upd cJ2 g (.lst [.int h0, .int h1, .int h2])) := draw_up call bagH2
    obtain ⟨tl, Fl⟩ := lengthX (K := K) (H := wo cJ2 g) hv w_cu1
    rw [← wo_upd (o := .lst [.int h0, .int h1, .int h2])] at Fl
    generalize upd cJ2 g _ = H3 at U Fl ⊢
    replace Fn := txE Fn (up_ext U)
    replace Fp := nvE Fp (up_ext U)
    replace hT := tab_upto hT bagH2 U
    have extH3 := up_ext U
    have bagH3 := U.bag
    clear n_cu1 e_cu1 S_cu1 T_cu1 w_cu1 f_cu1 n_cu2 e_cu2 S_cu2 T_cu2 w_cu2 f_cu2 call U hv
    obtain ⟨b0, b1, b2, eg⟩ := id bagH3
    refine ⟨_, rfl, ?_⟩
    refine ⟨by show 6 ≤ sizeLine; decide, fun du1 f_du1 => ?_⟩
    generalize eH : upd H3 du1 _ = dJ1
    obtain ⟨n_du1, S_du1, e_du1, eg⟩ : du1 ≠ g ∧ Same H3 dJ1 ∧ dJ1 du1 = some (.lst [.str "", .str "x", .str "(0 1", .str "[0", .str "1,", .str ")"]) ∧ dJ1 g = some (.lst [.int b0, .int b1, .int b2]) := by
      rw [← eH]
      exact new_obj eg f_du1
    clear eH
    have T_du1 := Same.refl dJ1
    have dall := S_du1.trans T_du1
    have w_du1 := (wo_ne n_du1).trans (T_du1 _ _ e_du1)
    refine ⟨g, du1, b0, b1, b2, [.str "", .str "x", .str "(0 1", .str "[0", .str "1,", .str ")"], rfl, eg, .inl (.inl e_du1), n_du1, Nat.succ_pos _, by show 6 ≤ 1000; decide, fun vo h0 h1 h2 hv => ?_⟩
    have U : Upto g H3 (upd dJ1 g (.lst [.int h0, .int h1, .int h2])) := draw_up dall bagH3
    have Fo := oddX (K := K) (H := wo dJ1 g) hv 
    rw [← wo_upd (o := .lst [.int h0, .int h1, .int h2])] at Fo
    generalize upd dJ1 g _ = H4 at U Fo ⊢
    replace Fn := txE Fn (up_ext U)
    replace Fp := nvE Fp (up_ext U)
    replace Fl := nvE Fl (up_ext U)
    replace hT := tab_upto hT bagH3 U
    have extH4 := up_ext U
    have bagH4 := U.bag
    clear n_du1 e_du1 S_du1 T_du1 w_du1 f_du1 dall U hv
    have X5 : ExtN (wo H g) (wo H4 g) := ((extH1.trans extH2).trans extH3).trans extH4
    clear extH1 extH2 extH3 extH4 bagH1 bagH2 bagH3 bag
    refine ⟨hT, fun H6 e6 t6 => ?_⟩
    replace Fn := txE Fn (low_ext e6)
    replace Fp := nvE Fp (low_ext e6)
    replace Fl := nvE Fl (low_ext e6)
    replace Fo := txE Fo (low_ext e6)
    have X6 : ExtN (wo H g) H6 := X5.trans (low_ext e6)
    replace bag := bag_ext bagH4 e6
    clear e6 hT bagH4 X5
    obtain ⟨n0, hk0, hz0, no0⟩ := id Fn
    obtain ⟨kp, hkp⟩ := Fp.kd
    refine ⟨_, rfl, _, rfl, _, n0, _, kp, rfl, hk0, hkp, hz0, .inl ⟨no0, ret_par fun H7 s7 => ⟨by show 1 ≤ sizeLine; decide, fun p fp => ?_⟩⟩⟩
    have o1 := On.first (K := K) (os := [.inl "parse 0"]) (t6.ext s7) fp
    replace Fn := txE Fn (ext_same s7)
    replace Fp := nvE Fp (ext_same s7)
    replace Fl := nvE Fl (ext_same s7)
    replace Fo := txE Fo (ext_same s7)
    replace X6 := X6.trans (ext_same s7)
    replace bag := bag_ext bag (ext_same s7)
    generalize eH : upd H7 p _ = H8
    replace o1 : On K H7 p [.inl "parse 0"] H8 := by rw [← eH]; exact o1
    clear s7 t6 fp eH hk0 hz0 no0 hkp
    refine stepW (z := ("number " ++ tp)) o1 rfl (by show 1 < 100; decide) (fun H4 e4 Q' q' => ?_) (fun H9 o2 => ?_)
    · have E := o1.ext.trans e4
      exact let ⟨n1, h1, hz, no⟩ := txE Fo E; let ⟨n2, h2⟩ := (nvE Fp E).kd; ⟨_, rfl, _, rfl, _, n1, _, n2, rfl, h1, h2, hz, .inr ⟨no, Fp.no, ret_num (nvE Fp E).shows q'⟩⟩
    refine stepW (z := ("number " ++ tp)) o2 rfl (by show 2 < 100; decide) (fun H4 e4 Q' q' => ?_) (fun H10 o3 => ?_)
    · have E := o2.ext.trans e4
      exact let ⟨n2, h2⟩ := (nvE Fp E).kd; ⟨_, rfl, _, _, _, n2, rfl, .str _, h2, (fun z e => by cases e; decide +kernel), .inr ⟨by decide +kernel, Fp.no, ret_num (nvE Fp E).shows q'⟩⟩
    refine stepW (z := "parse 0") o3 rfl (by show 3 < 100; decide) (fun H4 e4 Q' q' => ?_) (fun H11 o4 => ?_)
    · have E := o3.ext.trans e4
      exact let ⟨n1, h1, hz, no⟩ := txE Fn E; let ⟨n2, h2⟩ := (nvE Fl E).kd; ⟨_, rfl, _, rfl, _, n1, _, n2, rfl, h1, h2, hz, fun _ => ret_par q', fun b => absurd (no.symm.trans b) Bool.false_ne_true, fun z len e b => absurd (no.symm.trans b) Bool.false_ne_true⟩
    refine stepW (z := ("number " ++ tl)) o4 rfl (by show 4 < 100; decide) (fun H4 e4 Q' q' => ?_) (fun H12 o5 => ?_)
    · have E := o4.ext.trans e4
      exact let ⟨n1, h1, hz, no⟩ := txE Fo E; let ⟨n2, h2⟩ := (nvE Fl E).kd; ⟨_, rfl, _, rfl, _, n1, _, n2, rfl, h1, h2, hz, fun b => absurd (b.symm.trans no) Bool.false_ne_true, fun _ _ => ret_num (nvE Fl E).shows q', fun z len e b ey l1 l2 => (num_bad (l := 1) (u := 60) Fl.no len ey l1 l2).elim⟩
    refine stepW (z := ("number " ++ tl)) o5 rfl (by show 5 < 100; decide) (fun H4 e4 Q' q' => ?_) (fun H13 o6 => ?_)
    · have E := o5.ext.trans e4
      exact let ⟨n2, h2⟩ := (nvE Fl E).kd; ⟨_, rfl, _, _, _, n2, rfl, .str _, h2, (fun z e => by cases e; decide +kernel), fun b => absurd (b.symm.trans (by decide +kernel)) Bool.false_ne_true, fun _ _ => ret_num (nvE Fl E).shows q', fun z len e b ey l1 l2 => (num_bad (l := 1) (u := 60) Fl.no len ey l1 l2).elim⟩
    refine stepW (z := "parse 0") o6 rfl (by show 6 < 100; decide) (fun H4 e4 Q' q' => ?_) (fun H14 o7 => ?_)
    · have E := o6.ext.trans e4
      exact let ⟨n1, h1, hz, no⟩ := txE Fn E; ⟨_, rfl, _, n1, rfl, h1, hz, fun _ => ret_par q', fun z e b => absurd (no.symm.trans b) Bool.false_ne_true⟩
    refine stepW (z := "parse 0") o7 rfl (by show 7 < 100; decide) (fun H4 e4 Q' q' => ?_) (fun H15 o8 => ?_)
    · have E := o7.ext.trans e4
      exact let ⟨n1, h1, hz, no⟩ := txE Fn E; ⟨_, rfl, _, n1, rfl, h1, hz, no, ret_par q'⟩
    have ok8 : ∀ o ∈ ([.inl "parse 0", .inl ("number " ++ tp), .inl ("number " ++ tp), .inl "parse 0", .inl ("number " ++ tl), .inl ("number " ++ tl), .inl "parse 0", .inl "parse 0"] : List (Str ⊕ Int)), okI o := by
      intro o ho
      simp only [List.mem_cons, List.not_mem_nil, or_false] at ho
      have w1 : PyData.strOk "parse 0" = true := by decide +kernel
      rcases ho with rfl | rfl | rfl | rfl | rfl | rfl | rfl | rfl <;> first | exact w1 | exact num_ok Fp.ok | exact num_ok Fl.ok
    obtain ⟨dp_, p1, p2, p3, p4⟩ := (nvE Fp o8.ext).shows _ (Same.refl _)
    have le7 : ∀ {m : Nat}, m ≤ 900 → ("number " : Str).length + m ≤ sizeLine := fun h => Nat.le_trans (Nat.add_le_add_left h _) (by decide)
    refine ⟨_, rfl, _, dp_, rfl, p1, p2, Nat.le_trans p3 (by decide), _, _, rfl, rfl, le7 p3, ?_⟩
    refine ⟨_, rfl, _, dp_, rfl, p1, p2, Nat.le_trans p3 (by decide), _, _, rfl, rfl, le7 p3, ?_⟩
    rw [p4]
    refine ⟨by show 4 ≤ sizeLine; decide, fun r fr => ?_⟩
    have s1 := same_new fr (o := .lst [.str "parse 0", .str ("number " ++ tp), .str ("number " ++ tp), .str "parse 0"])
    have e1 : (upd H15 r (.lst [.str "parse 0", .str ("number " ++ tp), .str ("number " ++ tp), .str "parse 0"])) r = some (.lst [.str "parse 0", .str ("number " ++ tp), .str ("number " ++ tp), .str "parse 0"]) := upd_same
    have o9 := o8.same s1
    generalize upd H15 r _ = H20 at s1 e1 o9 ⊢
    obtain ⟨dl_, l1, l2, l3, l4⟩ := (nvE Fl o9.ext).shows _ (Same.refl _)
    refine ⟨_, rfl, _, rfl, _, rfl, _, dl_, rfl, l1, l2, Nat.le_trans l3 (by decide), _, _, rfl, rfl, le7 l3, ?_⟩
    refine ⟨_, rfl, _, dl_, rfl, l1, l2, Nat.le_trans l3 (by decide), _, _, rfl, rfl, le7 l3, ?_⟩
    rw [l4]
    refine ⟨by show 4 ≤ sizeLine; decide, fun r2 f2 => ?_⟩
    have s2 := same_new f2 (o := .lst [.str ("number " ++ tl), .str ("number " ++ tl), .str "parse 0", .str "parse 0"])
    have e2 : (upd H20 r2 (.lst [.str ("number " ++ tl), .str ("number " ++ tl), .str "parse 0", .str "parse 0"])) r2 = some (.lst [.str ("number " ++ tl), .str ("number " ++ tl), .str "parse 0", .str "parse 0"]) := upd_same
    have e1' := s2 _ _ e1
    have o10 := o9.same s2
    generalize upd H20 r2 _ = H21 at s2 e2 e1' o10 ⊢
    refine ⟨r, r2, _, _, rfl, rfl, e1', e2, by show 4 + 4 ≤ sizeLine; decide, fun r3 f3 => ?_⟩
    have o11 := o10.same (same_new f3 (o := .lst ([.str "parse 0", .str ("number " ++ tp), .str ("number " ++ tp), .str "parse 0"] ++ [.str ("number " ++ tl), .str ("number " ++ tl), .str "parse 0", .str "parse 0"])))
    refine ⟨dW [.inl "parse 0", .inl ("number " ++ tp), .inl ("number " ++ tp), .inl "parse 0", .inl ("number " ++ tl), .inl ("number " ++ tl), .inl "parse 0", .inl "parse 0"], dW [.inl "parse 0", .inl ("number " ++ tp), .inl ("number " ++ tp), .inl "parse 0", .inl ("number " ++ tl), .inl ("number " ++ tl), .inl "parse 0", .inl "parse 0"], o11.dp, dp_list (p := r3) (os := [.inl "parse 0", .inl ("number " ++ tp), .inl ("number " ++ tp), .inl "parse 0", .inl ("number " ++ tl), .inl ("number " ++ tl), .inl "parse 0", .inl "parse 0"]) upd_same, shapedW _ ok8, shapedW _ ok8, ?_⟩
    rw [show PyData.eqv (dW [.inl "parse 0", .inl ("number " ++ tp), .inl ("number " ++ tp), .inl "parse 0", .inl ("number " ++ tl), .inl ("number " ++ tl), .inl "parse 0", .inl "parse 0"]) (dW [.inl "parse 0", .inl ("number " ++ tp), .inl ("number " ++ tp), .inl "parse 0", .inl ("number " ++ tl), .inl ("number " ++ tl), .inl "parse 0", .inl "parse 0"]) = true from eqvW _]
    exact q _ (X6.trans o11.ext) (bag_ext bag o11.ext) o11.tab
end
end K87


set_option Elab.async false
set_option linter.all false
set_option maxRecDepth 100000
set_option maxHeartbeats 4000000
namespace K87
open PySem PySem.Spec PyProof.Rows L2 MM LamX
/-! own words for the readings: a step, its side -/
local macro_rules | `(tactic| walk_at "side") => `(tactic| first
  | omega
  | exact ⟨by omega, by omega⟩
  | exact Or.inl ⟨by omega, by omega⟩
  | exact Or.inr ⟨by omega, by omega⟩
  | (show CPw _ _; decide +kernel)
  | (show (0 : Int) < _; decide +kernel)
  | (show CDivW _ _; first | assumption | exact ⟨by decide, by decide +kernel⟩))
local macro_rules | `(tactic| walk_at "here") => `(tactic| first
  | assumption
  | exact upd_same
  | exact Or.inl (Or.inl upd_same)
  | exact Or.inl upd_same)
local macro_rules | `(tactic| walk_at "one") => `(tactic| first
  | refine ⟨_, rfl, ?_⟩
  | refine Or.inl ⟨_, rfl, ?_⟩
  | refine Or.inr ⟨_, rfl, ?_⟩
  | refine ⟨_, _, rfl, rfl, (by walk_at "side"), ?_⟩
  | refine ⟨_, _, rfl, rfl, ?_⟩
  | refine ⟨_, _, rfl, Or.inl (by walk_at "here"), ?_⟩
  | refine ⟨_, _, rfl, Or.inr (by walk_at "here"), ?_⟩
  | refine ⟨_, _, rfl, (by walk_at "here"), ?_⟩
  | refine ⟨_, _, _, _, rfl, rfl, (by walk_at "here"), rfl, ?_⟩
  | refine ⟨_, _, rfl, ?_⟩
  | refine ifT (by rfl) ?_
  | refine ifF (by rfl) ?_
  | refine ifT (decide_eq_true (by omega)) ?_
  | refine ifF (decide_eq_false (by omega)) ?_)
local macro_rules | `(tactic| walk_at "st") => `(tactic| repeat (walk_at "one"))

section
variable {P : Program} {w : World} {K : PySem.W.Frag} {mg : Str → Option Value} {base : Heap}
theorem wo_ext2 {H H' : Hp} {g : Addr} (e : ExtN (wo H g) H') : ExtN (wo H g) (wo H' g) := by
  intro b o h nt
  have n := (wo_some h).1
  rw [wo_ne n]
  exact e _ _ h nt
theorem flat_rep {x : V} (k : Nat) : (List.replicate k [x]).flatten = List.replicate k x := by
  induction k with
  | zero => rfl
  | succ k ih => rw [List.replicate_succ, List.flatten_cons, ih]; rfl
/-! rows of ones -/
/-- no digit ahead -/
def ND (rest : List Nat) : Prop := ∀ c, rest.head? = some c → ¬ (48 ≤ c ∧ c ≤ 57)
theorem at_drop {cs rest : List Nat} {i c : Nat} (h : cs.drop i = c :: rest) : cs[i]? = some c := by
  rw [← List.head?_drop, h]
  rfl
theorem at_end {cs : List Nat} {i : Nat} (h : cs.drop i = []) : cs[i]? = none := by
  rw [← List.head?_drop, h]
  rfl
theorem drop_next {cs rest : List Nat} {i c : Nat} (h : cs.drop i = c :: rest) : cs.drop (i + 1) = rest := by
  rw [← List.drop_drop, h]
  rfl
theorem dg_at {cs : List Nat} {i c : Nat} (h : cs[i]? = some c) : dg cs i = (decide (48 ≤ c) && decide (c ≤ 57)) := by
  unfold dg
  rw [h]
theorem isAt_at {cs : List Nat} {i c d : Nat} (h : cs[i]? = some c) : isAt cs i d = decide (c = d) := by
  unfold isAt
  rw [h]
  exact decide_eq_decide.mpr ⟨fun e => Option.some.inj e, fun e => congrArg some e⟩
theorem dg_nd {cs rest : List Nat} {i : Nat} (h : cs.drop i = rest) (n : ND rest) : dg cs i = false := by
  cases rest with
  | nil =>
    unfold dg
    rw [at_end h]
  | cons c r =>
    rw [dg_at (at_drop h)]
    have := n c rfl
    cases h1 : (decide (48 ≤ c) && decide (c ≤ 57)) with
    | false => rfl
    | true =>
      rw [Bool.and_eq_true, decide_eq_true_eq, decide_eq_true_eq] at h1
      exact absurd h1 this
theorem run_ones {cs rest : List Nat} (n : ND rest) : ∀ (k m i : Nat), cs.drop i = List.replicate m 49 ++ rest → run cs i k = min m k
  | 0, m, i, _ => by rw [run_zero, Nat.min_zero]
  | k + 1, 0, i, h => by
    rw [run_succ, dg_nd (by simpa using h) n, if_neg (by decide), Nat.zero_min]
  | k + 1, m + 1, i, h => by
    rw [List.replicate_succ, List.cons_append] at h
    rw [run_succ, dg_at (at_drop h), if_pos (by decide), run_ones n k m (i + 1) (drop_next h), Nat.succ_min_succ]
theorem signed_ones {cs rest : List Nat} (n : ND rest) {m i : Nat} (m1 : 1 ≤ m) (m2 : m ≤ 60) (h : cs.drop i = List.replicate m 49 ++ rest) : ∃ x : Int, signedR cs i = .ok (x, i + m) := by
  obtain ⟨m, rfl⟩ : ∃ m', m = m' + 1 := ⟨m - 1, by omega⟩
  rw [List.replicate_succ, List.cons_append] at h
  have a := at_drop h
  have r := run_ones n 59 m (i + 1) (drop_next h)
  have e : endP cs i = i + (m + 1) := by
    unfold endP
    rw [isAt_at a, if_neg (by decide), r]
    omega
  refine ⟨sgn false (valP cs i), ?_⟩
  unfold signedR lessR
  rw [isAt_at a, if_neg (by decide)]
  show (match plainR cs i with
    | .error j => _
    | .ok (n, e) => _) = _
  unfold plainR
  rw [dg_at a, if_pos (by decide), e]
/-- blocks of ones behind commas -/
def tlB : List Nat → List Nat
  | [] => []
  | m :: ms => 44 :: (List.replicate m 49 ++ tlB ms)
theorem nd_tlB : ∀ ms, ND (tlB ms)
  | [] => fun c h => nomatch h
  | m :: ms => fun c h => by
    cases h
    decide
theorem row_ones {cs : List Nat} : ∀ (ms : List Nat) (f : Nat) (row : List Int) (e : Nat), (∀ m ∈ ms, 1 ≤ m ∧ m ≤ 60) → cs.drop e = tlB ms → ms.length ≤ f → ∃ r, rowGo cs f row e = .ok r ∧ r.length = row.length + ms.length
  | [], f, row, e, _, h, _ => by
    refine ⟨row, rowGo_end ?_, rfl⟩
    have := congrArg List.length h
    rw [List.length_drop] at this
    have z : (tlB []).length = 0 := rfl
    omega
  | m :: ms, 0, row, e, _, _, l => absurd l (by rw [List.length_cons]; omega)
  | m :: ms, f + 1, row, e, hm, h, l => by
    have lt : e < cs.length := (List.getElem?_eq_some_iff.mp (at_drop h)).1
    have d := drop_next h
    obtain ⟨m1, m2⟩ := hm m List.mem_cons_self
    obtain ⟨x, hx⟩ := signed_ones (nd_tlB ms) m1 m2 d
    have d2 : cs.drop (e + 1 + m) = tlB ms := by
      rw [← List.drop_drop, d]
      exact List.drop_left' List.length_replicate
    obtain ⟨r, h1, h2⟩ := row_ones ms f (row ++ [x]) (e + 1 + m) (fun m' hm' => hm m' (List.mem_cons_of_mem _ hm')) d2 (by rw [List.length_cons] at l; omega)
    refine ⟨r, ?_, ?_⟩
    · rw [show rowGo cs (f + 1) row e = _ from if_pos lt, behind_ok (by rw [isAt_at (at_drop h)]; rfl)]
      show (match signedR cs (e + 1) with
        | .error j => _
        | .ok (n, e2) => _) = _
      rw [hx]
      exact h1
    · rw [h2, List.length_append, List.length_cons, List.length_cons, List.length_nil]
      omega
theorem tlB_len : ∀ ms, (tlB ms).length = ms.sum + ms.length
  | [] => rfl
  | m :: ms => by
    show (44 :: (List.replicate m 49 ++ tlB ms)).length = _
    rw [List.length_cons, List.length_append, List.length_replicate, tlB_len ms, List.sum_cons, List.length_cons]
    omega
theorem rowR_ones {cs : List Nat} {m : Nat} {ms : List Nat} (h : cs = List.replicate m 49 ++ tlB ms) (m1 : 1 ≤ m ∧ m ≤ 60) (hm : ∀ m ∈ ms, 1 ≤ m ∧ m ≤ 60) : ∃ r, rowR cs = .ok r ∧ r.length = 1 + ms.length := by
  obtain ⟨x, hx⟩ := signed_ones (cs := cs) (i := 0) (nd_tlB ms) m1.1 m1.2 h
  rw [Nat.zero_add] at hx
  have d : cs.drop m = tlB ms := by
    rw [h]
    exact List.drop_left' List.length_replicate
  obtain ⟨r, h1, h2⟩ := row_ones ms cs.length [x] m hm d (by
    rw [h, List.length_append, tlB_len]
    omega)
  refine ⟨r, ?_, h2⟩
  unfold rowR
  rw [hx]
  exact h1
theorem join_ones : ∀ k, TL.joinL [44] (List.replicate (k + 1) (List.replicate 49 49)) = List.replicate 49 49 ++ tlB (List.replicate k 49)
  | 0 => by
    show List.replicate 49 49 = List.replicate 49 49 ++ []
    rw [List.append_nil]
  | k + 1 => by
    rw [List.replicate_succ, List.replicate_succ]
    show List.replicate 49 49 ++ ([44] ++ TL.joinL [44] (List.replicate 49 49 :: List.replicate k (List.replicate 49 49))) = _
    rw [← List.replicate_succ, join_ones k]
    rfl
theorem tlB_more {j : Nat} : ∀ (ms : List Nat) (m : Nat), tlB (ms ++ [m]) ++ List.replicate j 49 = tlB (ms ++ [m + j])
  | [], m => by
    show 44 :: (List.replicate m 49 ++ []) ++ _ = 44 :: (List.replicate (m + j) 49 ++ [])
    rw [List.append_nil, List.append_nil, List.cons_append, List.replicate_append_replicate]
  | x :: ms, m => by
    show 44 :: (List.replicate x 49 ++ tlB (ms ++ [m])) ++ _ = 44 :: (List.replicate x 49 ++ tlB (ms ++ [m + j]))
    rw [List.cons_append, List.append_assoc, tlB_more ms m]
theorem len_app (a b : Str) : (a ++ b).length = a.length + b.length := by
  show (a.cps ++ b.cps).size = _
  rw [Array.size_append]
  rfl
theorem len_cds (z : Str) : z.length = (cds z).length := (Array.length_toList).symm
/-- a row that is read well -/
theorem fine_row {z : Str} {m : Nat} {ms : List Nat} (h : cds z = List.replicate m 49 ++ tlB ms) (m1 : 1 ≤ m ∧ m ≤ 60) (hm : ∀ m ∈ ms, 1 ≤ m ∧ m ≤ 60) (l : ms.length ≤ 59) (lz : z.length ≤ 3000)
    {H : Hp} {Q : VK} {E : XK} (q : ∀ v H', Same H H' → Q v H') : spReadRow K [.str z] H Q E := by
  refine ⟨_, _, rfl, .str z, (fun z' e => by cases e; omega), fun b => ?_, fun z' e _ => ?_⟩
  · have : decide (z.length ≤ 3000) = false := b
    rw [decide_eq_true lz] at this
    cases this
  · cases e
    obtain ⟨r, h1, h2⟩ := rowR_ones h m1 hm
    rw [h1]
    exact ⟨fun _ H' t s _ => q _ H' s, fun lt => absurd lt (by omega)⟩
/-! terms of kind 0 -/
theorem plain_zero {cs rest : List Nat} {i : Nat} (h : cs.drop i = 48 :: rest) : plainR cs i = .ok (0, i + 1) := by
  have a := at_drop h
  have e : endP cs i = i + 1 := by
    unfold endP
    rw [isAt_at a, if_pos (by decide), run_zero]
  unfold plainR
  rw [dg_at a, if_pos (by decide), e]
  unfold valP
  rw [e, h, show i + 1 - i = 1 by omega]
  rfl
theorem term_zero {cs rest : List Nat} {i : Nat} (h : cs.drop i = 91 :: 48 :: 93 :: rest) : termR cs i = .ok (0, 1, i + 3) ∧ cs.drop (i + 3) = rest := by
  have h1 := drop_next h
  have h2 := drop_next h1
  have h3 := drop_next h2
  refine ⟨?_, h3⟩
  unfold termR headR
  have b0 : isAt cs i 91 = true := by rw [isAt_at (at_drop h)]; rfl
  have b2 : isAt cs (i + 1 + 1) 93 = true := by rw [isAt_at (at_drop h2)]; rfl
  rw [if_pos b0]
  show (match behindR cs i 91 with
    | .error j => _
    | .ok s => _) = _
  rw [behind_ok b0]
  show (match plainR cs (i + 1) with
    | .error j => _
    | .ok (x, e1) => _) = _
  rw [plain_zero h1]
  show (match behindR cs (i + 1 + 1) 93 with
    | .error j => _
    | .ok e2 => _) = _
  rw [behind_ok b2]
def tlZ (k : Nat) : List Nat := (List.replicate k [32, 43, 32, 91, 48, 93]).flatten
theorem tlZ_succ (k : Nat) : tlZ (k + 1) = 32 :: 43 :: 32 :: 91 :: 48 :: 93 :: tlZ k := by
  unfold tlZ
  rw [List.replicate_succ, List.flatten_cons]
  rfl
theorem terms_zero {cs : List Nat} : ∀ (k f : Nat) (ts : List (Nat × Int)) (e : Nat), cs.drop e = tlZ k → k ≤ f → termsGo cs f ts e = .ok (ts ++ List.replicate k (0, 1))
  | 0, f, ts, e, h, _ => by
    rw [termsGo_end, List.replicate_zero, List.append_nil]
    have := congrArg List.length h
    rw [List.length_drop] at this
    have z : (tlZ 0).length = 0 := rfl
    omega
  | k + 1, 0, ts, e, _, l => absurd l (by omega)
  | k + 1, f + 1, ts, e, h, l => by
    rw [tlZ_succ] at h
    have lt : e < cs.length := (List.getElem?_eq_some_iff.mp (at_drop h)).1
    have h1 := drop_next h
    have h2 := drop_next h1
    have h3 := drop_next h2
    obtain ⟨t1, t2⟩ := term_zero h3
    have ih := terms_zero k f (ts ++ [(0, 1)]) _ t2 (by omega)
    have n45 : isAt cs (e + 1) 45 = false := by rw [isAt_at (at_drop h1)]; rfl
    rw [show termsGo cs (f + 1) ts e = _ from if_pos lt, behind_ok (by rw [isAt_at (at_drop h)]; rfl)]
    dsimp only
    rw [n45, if_neg (by decide), behind_ok (by rw [isAt_at (at_drop h1)]; rfl)]
    dsimp only
    rw [behind_ok (by rw [isAt_at (at_drop h2)]; rfl)]
    dsimp only
    rw [t1]
    show termsGo cs f (ts ++ [(0, 1)]) (e + 1 + 1 + 1 + 3) = _
    rw [ih, List.append_assoc, List.replicate_succ]
    rfl
theorem addT_zero : ∀ (n : Nat) (j : Int), addT [j] (List.replicate n (0, 1)) = some [j + n]
  | 0, j => by
    show some [j] = _
    rw [Int.natCast_zero, Int.add_zero]
  | n + 1, j => by
    rw [List.replicate_succ]
    show addT [j + 1] (List.replicate n (0, 1)) = _
    rw [addT_zero n (j + 1)]
    congr 2
    omega
theorem kinds_zero {cs : List Nat} {k : Nat} (h : cs = 91 :: 48 :: 93 :: tlZ k) : kindsT cs = .ok (List.replicate (k + 1) (0, 1)) := by
  obtain ⟨t1, t2⟩ := term_zero (cs := cs) (i := 0) h
  unfold kindsT
  rw [if_neg (by rw [h]; nofun)]
  unfold termsR lessR
  have a0 : cs[0]? = some 91 := at_drop (i := 0) h
  rw [isAt_at a0, if_neg (by decide)]
  show (match termR cs 0 with
    | .error j => _
    | .ok (x, m, e) => _) = _
  rw [t1]
  show termsGo cs cs.length [(0, 1)] (0 + 3) = _
  rw [terms_zero k cs.length _ _ t2 (by
    rw [h, List.length_cons, List.length_cons, List.length_cons]
    unfold tlZ
    rw [PyProof.Rows.lm_len_rep_flat]
    show k ≤ k * 6 + 1 + 1 + 1
    omega), List.replicate_succ]
  rfl
theorem endK_ok {H : Hp} {Q : VK} {E : XK} {ks : List Int} (h : (ks.all fun k => isI (.int k)) = true) (q : ∀ H' t, Same H H' → SqT K H' t (ks.map V.int) → Q (.ref t) H') : endK K H Q E (some ks) := by
  unfold endK
  dsimp only
  rw [if_pos h]
  exact q
theorem res_ok {α : Type} {H : Hp} {E : XK} {r : Rd α} {a : α} {k : α → Prop} (e : r = .ok a) (q : k a) : rRes K H E r k := by
  rw [e]
  exact q
theorem one_nat {len : Nat} (e : V.int 1 = V.int (len : Int)) : len = 1 := by
  injection e with e
  omega
theorem fine_kinds {z : Str} {k : Nat} (h : cds z = 91 :: 48 :: 93 :: tlZ k) (lz : z.length ≤ 3000) (ok : isI (.int (0 + ((k + 1 : Nat) : Int))) = true) {H : Hp} {Q : VK} {E : XK} (q : ∀ v H', Same H H' → Q v H') : spReadKinds K [.str z, .int 1] H Q E := by
  have okz : okT (.str z) = true := decide_eq_true lz
  refine ⟨_, _, _, _, rfl, .str z, .int 1, (fun z' e => by cases e; omega), fun b => ?_, fun _ b => ?_, fun z' len e _ el l1 l2 => ?_⟩
  · rw [okz] at b
    cases b
  · exact absurd b (by decide)
  · cases e
    have e1 := one_nat el
    subst e1
    have key : endK K H Q E (addT [0] (List.replicate (k + 1) (0, 1))) := by
      rw [addT_zero]
      generalize hks : ([0 + ((k + 1 : Nat) : Int)] : List Int) = ks
      have al : (ks.all fun k => isI (.int k)) = true := by
        rw [← hks, List.all_cons, List.all_nil, Bool.and_true]
        exact ok
      have p : ∀ H' t, Same H H' → SqT K H' t (ks.map V.int) → Q (.ref t) H' := by
        intro H' t s _
        exact q _ H' s
      have z := @endK_ok K H Q E ks al
      have z2 := z p
      exact z2
    exact res_ok (kinds_zero h) key
/-- the text of sixty numbers -/
theorem full_cds : cds (Txt.join "," (List.replicate 60 (manyS "1" 49))) = List.replicate 49 49 ++ tlB (List.replicate 59 49) := by
  show TL.tl _ = _
  rw [TL.join_eq, TL.tl_join, List.map_replicate]
  rw [show TL.tl "," = [44] by decide +kernel, show TL.tl (manyS "1" 49) = List.replicate 49 49 by decide +kernel]
  exact join_ones 59
def spLawT (K : PySem.W.Frag) : Sp := fun vs H Q _ => ∃ (a : Addr) (ns : List Int), vs = [.ref a] ∧ SqL K H a (ns.map V.int) ∧ ns.length ≤ 1000 ∧ Tabs (TL K) H ∧ ∀ H', Q (.bl true) H'
theorem scLaw : FnScope ["_law_script", "_law_spot", "_law_bag_here", "_law_full", "_law_told"] ["_law_script"] (defScope sLaw) :=
  ⟨rfl, rfl, rfl, by decide +kernel, rfl, by decide +kernel, by decide +kernel⟩
theorem dLaw (T : Tx K mg) (Y : Ex K mg) (TB : Tb K mg base) (DBagL : Def P w K mg base CX0 1 "_law_bag" ["_law_script", "_law_spot"] (spBag K)) (DReadRightL : Def P w K mg base CX0 9 "_law_read_right" ["_law_bag_here"] (spReadR K)) (DWrittenRightL : Def P w K mg base CX0 9 "_law_written_right" ["_law_bag_here"] (spWrittenR K)) (CReadRow : Def P w K mg base (L2.CX P w) 5 "read_row" ["text"] (spReadRow K)) (CReadKinds : Def P w K mg base (L2.CX P w) 6 "read_kinds" ["text", "length"] (spReadKinds K)) (CWriteRow : Def P w K mg base (L2.CX P w) 4 "write_row" ["row"] (spWRow K)) (CWriteKinds : Def P w K mg base (L2.CX P w) 4 "write_kinds" ["kinds"] (spWKinds K)) : Def P w K mg base CX0 10 "law" ["_law_script"] (spLawT K) := by
  refine defC T.t_law (N := ["_law_script", "_law_spot", "_law_bag_here", "_law_full", "_law_told"]) scLaw (fun _ _ _ _ _ _ us hl => match us, hl with | [_], _ => rfl) ?_ ?_
  · intro vs H Q E h
    obtain ⟨a, ns, rfl, _⟩ := h
    rfl
  · intro f cd A out s H vs Q E ec hr h
    subst ec
    have hr1 : Rm 9 _ := hr.le (by decide)
    obtain ⟨a, ns, rfl, hS, hl, hT, q⟩ := h
    refine ⟨_, (pss_cons (ps_for PassesOwn.never rfl (pi_range1 rfl T.f_range (pa_cons (pe_callB (call_max2 rfl) rfl T.f_max (by decide +kernel) (pa_cons pe_int (pa_cons (pe_callB (call_min2 rfl) rfl T.f_min (by decide +kernel) (pa_cons pe_int (pa_cons (pe_callB call_len_seq rfl T.f_len (by decide +kernel) (pa_cons (pv 0) pa_nil)) pa_nil))) pa_nil))) pa_nil)) (pg_name (i := 1) scLaw.nd rfl (Or.inl rfl))
        (pss_cons (ps_set (i := 2) scLaw.nd rfl (Or.inl rfl) (pe_d DBagL (hr1.le (by decide)) pass0 (pa_cons (pv 0) (pa_cons (pv 1) pa_nil))))
        (pss_one (ps_if (PW.pt (pw_or (pt_not (pt_val (pe_d DWrittenRightL (hr1.le (by decide)) pass0 (pa_cons (pv 2) pa_nil)))) (pw_or1 (pt_not (pt_val (pe_d DReadRightL (hr1.le (by decide)) pass0 (pa_cons (pv 2) pa_nil))))))) (pss_one (ps_ret pe_bl)) pss_nil))))
      (pss_cons (ps_set (i := 3) scLaw.nd rfl (Or.inr rfl) (pe_join pe_str (pe_op op_rep (pe_lst (pa_cons (pe_op op_repB pe_str pe_int) pa_nil)) pe_int)))
      (pss_cons (ps_set (i := 4) scLaw.nd rfl (Or.inl rfl) (pe_lst (pa_cons (ME.pe_lam (T := TL K) (TT := TTW K) (k := 6) (t := fun E1 => (ME.tDS (spReadRow K) (fun _ => E1) (tCons (tVar 3) tNil))) T.t_law_word (fun _ _ _ _ _ _ us hl => match us, hl with | [_], _ => rfl) scWord rfl (Or.inl rfl) (fun g cd => word_gives (k := 1) T Y (hr.le (by decide))) TB.t3 rfl m3 TB.u3 (hr.le (by decide)) (show LamS _ _ from lamS_by (sc := defScope sLaw) (by decide +kernel)) rfl (fun _ _ _ _ _ => rfl) (fun A1 o1 s1 H1 E1 f1 c1 hr9 => (show PE _ _ (ME.tDS (spReadRow K) (fun _ => E1) (tCons (tVar 3) tNil)) from ME.pe_dS CReadRow (hr9.le (by decide)) (passAt (takes_of rfl rfl rfl rfl)) (pa_cons (pv 3) pa_nil)))) (pa_cons (pe_callB call_len_str rfl T.f_len (by decide +kernel) (pa_cons (pv 3) pa_nil)) pa_nil))))
      (pss_cons (ps_expr (pe_bm PySem.F.plainAttrs_list PySem.F.slot_list_append PySem.F.type_list_append mt_append (pv 4) (pa_cons (ME.pe_lam (T := TL K) (TT := TTW K) (k := 6) (t := fun E1 => (ME.tDS (spReadRow K) (fun _ => E1) (tCons (tOp rAddS (tVar 3) (tC (.str "1"))) tNil))) T.t_law_word (fun _ _ _ _ _ _ us hl => match us, hl with | [_], _ => rfl) scWord rfl (Or.inl rfl) (fun g cd => word_gives (k := 1) T Y (hr.le (by decide))) TB.t3 rfl m3 TB.u3 (hr.le (by decide)) (show LamS _ _ from lamS_by (sc := defScope sLaw) (by decide +kernel)) rfl (fun _ _ _ _ _ => rfl) (fun A1 o1 s1 H1 E1 f1 c1 hr9 => (show PE _ _ (ME.tDS (spReadRow K) (fun _ => E1) (tCons (tOp rAddS (tVar 3) (tC (.str "1"))) tNil)) from ME.pe_dS CReadRow (hr9.le (by decide)) (passAt (takes_of rfl rfl rfl rfl)) (pa_cons (pe_op (show OpR _ _ rAddS from op_add_str) (pv 3) pe_str) pa_nil)))) pa_nil)))
      (pss_cons (ps_expr (pe_bm PySem.F.plainAttrs_list PySem.F.slot_list_append PySem.F.type_list_append mt_append (pv 4) (pa_cons (ME.pe_lam (T := TL K) (TT := TTW K) (k := 6) (t := fun E1 => (ME.tDS (spReadRow K) (fun _ => E1) (tCons (tOp rAddS (tVar 3) (tC (.str "1,"))) tNil))) T.t_law_word (fun _ _ _ _ _ _ us hl => match us, hl with | [_], _ => rfl) scWord rfl (Or.inl rfl) (fun g cd => word_gives (k := 1) T Y (hr.le (by decide))) TB.t3 rfl m3 TB.u3 (hr.le (by decide)) (show LamS _ _ from lamS_by (sc := defScope sLaw) (by decide +kernel)) rfl (fun _ _ _ _ _ => rfl) (fun A1 o1 s1 H1 E1 f1 c1 hr9 => (show PE _ _ (ME.tDS (spReadRow K) (fun _ => E1) (tCons (tOp rAddS (tVar 3) (tC (.str "1,"))) tNil)) from ME.pe_dS CReadRow (hr9.le (by decide)) (passAt (takes_of rfl rfl rfl rfl)) (pa_cons (pe_op (show OpR _ _ rAddS from op_add_str) (pv 3) pe_str) pa_nil)))) pa_nil)))
      (pss_cons (ps_expr (pe_bm PySem.F.plainAttrs_list PySem.F.slot_list_append PySem.F.type_list_append mt_append (pv 4) (pa_cons (ME.pe_lam (T := TL K) (TT := TTW K) (k := 6) (t := fun E1 => (ME.tDS (spReadKinds K) (fun _ => E1) (tCons (tOp rAddS (tC (.str "[0]")) (tOp rRepB (tC (.str " + [0]")) (tC (.int 499)))) (tCons (tC (.int 1)) tNil)))) T.t_law_word (fun _ _ _ _ _ _ us hl => match us, hl with | [_], _ => rfl) scWord rfl (Or.inl rfl) (fun g cd => word_gives (k := 1) T Y (hr.le (by decide))) TB.t3 rfl m3 TB.u3 (hr.le (by decide)) (show LamS _ _ from lamS_by (sc := defScope sLaw) (by decide +kernel)) rfl (fun _ _ _ _ _ => rfl) (fun A1 o1 s1 H1 E1 f1 c1 hr9 => (show PE _ _ (ME.tDS (spReadKinds K) (fun _ => E1) (tCons (tOp rAddS (tC (.str "[0]")) (tOp rRepB (tC (.str " + [0]")) (tC (.int 499)))) (tCons (tC (.int 1)) tNil))) from ME.pe_dS CReadKinds (hr9.le (by decide)) (passAt (takes_of rfl rfl rfl rfl)) (pa_cons (pe_op (show OpR _ _ rAddS from op_add_str) pe_str (pe_op op_repB pe_str pe_int)) (pa_cons pe_int pa_nil))))) pa_nil)))
      (pss_cons (ps_expr (pe_bm PySem.F.plainAttrs_list PySem.F.slot_list_append PySem.F.type_list_append mt_append (pv 4) (pa_cons (ME.pe_lam (T := TL K) (TT := TTW K) (k := 6) (t := fun E1 => (ME.tDS (spWRow K) (fun _ => E1) (tCons (tTup tNil) tNil))) T.t_law_word (fun _ _ _ _ _ _ us hl => match us, hl with | [_], _ => rfl) scWord rfl (Or.inl rfl) (fun g cd => word_gives (k := 1) T Y (hr.le (by decide))) TB.t3 rfl m3 TB.u3 (hr.le (by decide)) (show LamS _ _ from lamS_by (sc := defScope sLaw) (by decide +kernel)) rfl (fun _ _ _ _ _ => rfl) (fun A1 o1 s1 H1 E1 f1 c1 hr9 => (show PE _ _ (ME.tDS (spWRow K) (fun _ => E1) (tCons (tTup tNil) tNil)) from ME.pe_dS CWriteRow (hr9.le (by decide)) (passAt (takes_of rfl rfl rfl rfl)) (pa_cons (pe_tup pa_nil) pa_nil)))) pa_nil)))
      (pss_cons (ps_expr (pe_bm PySem.F.plainAttrs_list PySem.F.slot_list_append PySem.F.type_list_append mt_append (pv 4) (pa_cons (ME.pe_lam (T := TL K) (TT := TTW K) (k := 6) (t := fun E1 => (ME.tDS (spWKinds K) (fun _ => E1) (tCons (tOp (rRepW K) (tTup (tCons (tC (.int 0)) tNil)) (tC (.int 61))) tNil))) T.t_law_word (fun _ _ _ _ _ _ us hl => match us, hl with | [_], _ => rfl) scWord rfl (Or.inl rfl) (fun g cd => word_gives (k := 1) T Y (hr.le (by decide))) TB.t3 rfl m3 TB.u3 (hr.le (by decide)) (show LamS _ _ from lamS_by (sc := defScope sLaw) (by decide +kernel)) rfl (fun _ _ _ _ _ => rfl) (fun A1 o1 s1 H1 E1 f1 c1 hr9 => (show PE _ _ (ME.tDS (spWKinds K) (fun _ => E1) (tCons (tOp (rRepW K) (tTup (tCons (tC (.int 0)) tNil)) (tC (.int 61))) tNil)) from ME.pe_dS CWriteKinds (hr9.le (by decide)) (passAt (takes_of rfl rfl rfl rfl)) (pa_cons (pe_op op_repW (pe_tup (pa_cons pe_int pa_nil)) pe_int) pa_nil)))) pa_nil)))
      (pss_one (ps_ret (pe_cmpR (op_eqD hr.hu) (pv 4) (pe_lst (pa_cons pe_str (pa_cons pe_int (pa_cons pe_str (pa_cons pe_str (pa_cons pe_str (pa_cons pe_str (pa_cons pe_str pa_nil)))))))) (nomark _)))))))))))), ?_⟩
    refine ⟨_, rfl, a, _, rfl, .inl hS, _, _, rfl, _, _, rfl, ?_⟩
    obtain ⟨j, ej, j1, j2⟩ : ∃ j : Int, j = (if (if ((ns.map V.int).length : Int) < 2 then ((ns.map V.int).length : Int) else 2) > 1 then (if ((ns.map V.int).length : Int) < 2 then ((ns.map V.int).length : Int) else 2) else 1) ∧ 1 ≤ j ∧ j ≤ 2 := by
      refine ⟨_, rfl, ?_, ?_⟩
      all_goals
        split
        · split <;> omega
        · omega
    refine ⟨j, by rw [ej], by omega, by omega, for_range (fun i σ H' => SqL K H' a (ns.map V.int) ∧ Tabs (TL K) H' ∧ ∃ x1 x2 x3 x4, σ = [some (.ref a), x1, x2, x3, x4]) ⟨hS, hT, none, none, none, none, rfl⟩ ?_ ?_⟩
    · rintro i σ H0 hi ⟨hS, hT, x1, x2, x3, x4, rfl⟩
      refine ⟨_, rfl, _, rfl, a, i, ns, ?_, hS, by omega, fun H1 p sm np hb => ?_⟩
      · show [V.ref a, V.int (0 + (i : Int))] = _
        rw [Int.zero_add]
      have E0 : ExtN H0 (wo H1 p) := by
        intro b o h _
        have nb : b ≠ p := ne_of_none h np
        rw [wo_ne nb]
        exact sm _ _ h
      refine ⟨_, rfl, p, rfl, hb, hT.ext sm, fun HB eB bB TB' => ?_⟩
      refine ⟨_, rfl, ?_⟩
      refine ifF rfl ?_
      refine ⟨_, rfl, p, rfl, bB, TB', fun HC eC bC TC => ?_⟩
      refine ⟨_, rfl, ?_⟩
      refine ifF rfl ?_
      exact ⟨sqlE hS ((E0.trans (wo_ext2 eB)).trans eC), TC, _, _, _, _, rfl⟩
    · rintro σ H' ⟨hS, hT, x1, x2, x3, x4, rfl⟩
      refine ⟨⟨_, rfl⟩, ?_⟩
      refine ⟨"1", 49, rfl, rfl, by decide, by decide, by decide, by decide, ?_⟩
      refine ⟨by show 1 ≤ sizeLine; decide, fun r0 f0 => ?_⟩
      refine ⟨r0, 60, _, rfl, rfl, upd_same, by decide, by decide, by show 1 * 60 ≤ sizeLine; decide, fun r1 f1 => ?_⟩
      refine ⟨",", r1, List.replicate 60 (manyS "1" 49), rfl, rfl, .inl (.inl (.inl (Eq.trans upd_same (by rw [flat_rep, List.map_replicate]; rfl)))), by decide +kernel, ?_⟩
      have TJ := (hT.ext (same_new f0 (o := .lst [.str (manyS "1" 49)]))).ext (same_new f1 (o := .lst (List.replicate (Int.toNat 60) [V.str (manyS "1" 49)]).flatten))
      generalize upd (upd H' r0 _) r1 _ = J at TJ ⊢
      have hF := full_cds
      generalize Txt.join "," (List.replicate 60 (manyS "1" 49)) = FS at hF ⊢
      have lF : FS.length = 2999 := by
        rw [len_cds, hF, List.length_append, tlB_len]
        decide +kernel
      clear hT hS
      refine ⟨TJ, fun H6 e6 t6 => ?_⟩
      have okF : okT (.str FS) = true := decide_eq_true (by omega)
      refine ⟨_, rfl, _, _, rfl, .str FS, (fun z' e => by cases e; omega), (fun b => absurd (b.symm.trans okF) Bool.false_ne_true), fun z' e _ => ?_⟩
      cases e
      obtain ⟨rw_, h1, h2⟩ := rowR_ones hF (by decide) (by decide +kernel)
      refine res_ok h1 ⟨fun _ H7 t7 s7 _ => ?_, fun lt => absurd lt (by rw [h2]; decide)⟩
      clear h1 h2
      refine ⟨_, rfl, FS, rfl, line4000 (by omega), ?_⟩
      refine ⟨by show 2 ≤ sizeLine; decide, fun p fp => ?_⟩
      rw [lF]
      have o1 := On.first (K := K) (os := [.inl "fine", .inr 2999]) (t6.ext s7) fp
      generalize eH : upd H7 p _ = H8
      replace o1 : On K H7 p [.inl "fine", .inr 2999] H8 := by rw [← eH]; exact o1
      clear s7 t6 fp e6 eH TJ
      refine stepW (z := "fine") o1 rfl (by show 2 < 100; decide) (fun H4 e4 Q' q' => ?_) (fun H9 o2 => ?_)
      · refine ⟨_, rfl, _, _, rfl, rfl, Nat.le_trans (Nat.add_le_add_right (Nat.le_of_eq lF) _) (by decide), ?_⟩
        refine fine_row (m := 49) (ms := List.replicate 58 49 ++ [50]) ?_ (by decide) (by decide +kernel) (by decide) (by rw [len_app, lF]; decide) fun _ H7 s7 => ret_fine q' s7
        rw [show cds (FS ++ "1") = cds FS ++ List.replicate 1 49 from (TL.tl_append FS "1").trans (by congr 1), hF, List.append_assoc]
        congr 1
      refine stepW (z := "parse 0") o2 rfl (by show 3 < 100; decide) (fun H4 e4 Q' q' => ?_) (fun H10 o3 => ?_)
      · refine ⟨_, rfl, _, _, rfl, rfl, Nat.le_trans (Nat.add_le_add_right (Nat.le_of_eq lF) _) (by decide), ?_⟩
        have l2 : (FS ++ "1,").length = 3001 := by rw [len_app, lF]; decide
        have no : okT (.str (FS ++ "1,")) = false := decide_eq_false (by omega)
        exact ⟨_, _, rfl, .str _, (fun z' e => by cases e; omega), fun _ => ret_par q', fun z' e b => absurd (no.symm.trans b) Bool.false_ne_true⟩
      refine stepW (z := "fine") o3 rfl (by show 4 < 100; decide) (fun H4 e4 Q' q' => ?_) (fun H11 o4 => ?_)
      · refine ⟨" + [0]", 499, rfl, rfl, by decide, by decide, by decide, by decide, ?_⟩
        have lm : (manyS " + [0]" 499).length = 499 * 6 := manyS_len _ _
        refine ⟨_, _, rfl, rfl, Nat.le_trans (Nat.add_le_add_left (Nat.le_of_eq lm) _) (by decide), ?_⟩
        refine fine_kinds (k := 499) ?_ (by rw [len_app, lm]; decide) (by decide +kernel) fun _ H7 s7 => ret_fine q' s7
        refine (TL.tl_append _ _).trans ?_
        rw [show TL.tl "[0]" = [91, 48, 93] by decide +kernel]
        show [91, 48, 93] ++ (List.replicate 499 (" + [0]" : Str).cps.toList).flatten = _
        rw [show (" + [0]" : Str).cps.toList = [32, 43, 32, 91, 48, 93] by decide +kernel]
        rfl
      refine stepW (z := "row") o4 rfl (by show 5 < 100; decide) (fun H4 e4 Q' q' => ?_) (fun H12 o5 => ?_)
      · refine ⟨by show 0 ≤ sizeLine; decide, fun u fu => ?_⟩
        exact ⟨_, some [], rfl, .yes (.inl (.inl upd_same)) (fun y hy => nomatch hy), rfl, fun H' s => ret_rw q' H' ((same_new fu).trans s)⟩
      refine stepW (z := "kinds") o5 rfl (by show 6 < 100; decide) (fun H4 e4 Q' q' => ?_) (fun H13 o6 => ?_)
      · refine ⟨by show 1 ≤ sizeLine; decide, fun u f => ⟨u, 61, [.int 0], rfl, rfl, .inl (.inl upd_same), by nofun, by decide, by decide, by decide, fun u2 f2 => ?_⟩⟩
        exact ⟨_, some (List.replicate (Int.toNat 61) [V.int 0]).flatten, rfl, .yes (.inl (.inl upd_same)) (fun y hy => ⟨.int, by rw [rep_mem hy]; exact .int _⟩), by decide +kernel, fun H' s => ret_ks q' H' (((same_new f).trans (same_new f2)).trans s)⟩
      refine ⟨_, rfl, ?_⟩
      refine ⟨by show 7 ≤ sizeLine; decide, fun r fr => ?_⟩
      have o7 := o6.same (same_new fr (o := .lst [.str "fine", .int 2999, .str "fine", .str "parse 0", .str "fine", .str "row", .str "kinds"]))
      refine ⟨dW [.inl "fine", .inr 2999, .inl "fine", .inl "parse 0", .inl "fine", .inl "row", .inl "kinds"], dW [.inl "fine", .inr 2999, .inl "fine", .inl "parse 0", .inl "fine", .inl "row", .inl "kinds"], o7.dp, dp_list (p := r) (os := [.inl "fine", .inr 2999, .inl "fine", .inl "parse 0", .inl "fine", .inl "row", .inl "kinds"]) upd_same, by decide +kernel, by decide +kernel, ?_⟩
      rw [show PyData.eqv (dW [.inl "fine", .inr 2999, .inl "fine", .inl "parse 0", .inl "fine", .inl "row", .inl "kinds"]) (dW [.inl "fine", .inr 2999, .inl "fine", .inl "parse 0", .inl "fine", .inl "row", .inl "kinds"]) = true from eqvW _]
      exact q _
end
end K87


set_option Elab.async false
set_option linter.all false
set_option maxRecDepth 100000
set_option maxHeartbeats 2000000
namespace K87
open PySem PySem.Spec PyProof.Rows L2 MM LamX
theorem kepRow_ok {K : PySem.W.Frag} {C : Addr} {top : List Value} {newId : String} (h : kepRow K C top newId = true) : ∃ nm q N bs bm sn sub ab col dd k0 k1 k2 k3 k5,
    K.lookup C = some (excClassObj nm q C N bs bm true sn sub ab col dd k0 k1 k2 k3 k5 newId) ∧ PySem.W.excTail top bm = true := by
  unfold kepRow at h
  split at h
  · rename_i dd cd sl lk
    obtain ⟨nm, bs, mro, ns, qn, hd, sn, sub, ab, col, del⟩ := cd
    simp only [Bool.and_eq_true, Bool.not_eq_true'] at h
    obtain ⟨⟨⟨h1, h2⟩, h3⟩, h4⟩ := h
    subst h3 h4
    split at h1
    · rename_i C' bm
      rw [Bool.and_eq_true, decide_eq_true_eq] at h1
      obtain ⟨rfl, ht⟩ := h1
      split at h2
      · rename_i k0 k1 k2 k3 n k5 e2
        have e3 : n = newId := of_decide_eq_true h2
        subst e3
        have e4 : sl = #[k0, k1, k2, k3, some (.builtin n), k5] := by
          obtain ⟨l⟩ := sl
          simp only at e2
          rw [e2]
        subst e4
        exact ⟨nm, qn, ns, bs, bm, sn, sub, ab, col, dd, k0, k1, k2, k3, k5, lk, ht⟩
      · cases h2
    · cases h1
  · cases h
theorem kep_ok {K : PySem.W.Frag} {mg : Str → Option Value} {x f : Str} (g : mg x = some (.ref (ga K x))) {B newId initId : String} {top : List Value} {st : Stmt} (h : kepB K x f top newId = true) (hb : PySem.HandSPX.Bs B newId initId top)
    (hp : StoreFacts B top "object.__setattr__" "object")
    (F : ∃ fd, FunD K "__init__" (x ++ ".__init__") (defArgs st) (defBody st) (defScope st) [] [] (He.ma K (ga K x) "__init__") fd) : Kep K mg x f B newId initId top st := by
  unfold kepB at h
  simp only [Bool.and_eq_true, decide_eq_true_eq] at h
  obtain ⟨⟨⟨⟨⟨⟨⟨⟨r1, r2⟩, r3⟩, r4⟩, r5⟩, r6⟩, r7⟩, r8⟩, r9⟩ := h
  obtain ⟨fd, F⟩ := F
  exact ⟨g, ⟨hb, hp, kepRow_ok r1, r2, r3, r4, r5⟩, r6, xfB_ok r7, ⟨_, fd, r8, r9, F⟩⟩
theorem ask_ok {K : PySem.W.Frag} (h : askB K = true) : MD.Asks K (ga K "MarkError") "ValueError.__init__" := by
  unfold askB at h
  simp only [Bool.and_eq_true, decide_eq_true_eq] at h
  obtain ⟨⟨a, b⟩, c⟩ := h
  refine ⟨a, b, ?_⟩
  split at c
  · rename_i n e
    have e3 : n = "ValueError.__init__" := of_decide_eq_true c
    subst e3
    exact e
  · cases c
theorem ex_ok {K : PySem.W.Frag} {mg : Str → Option Value} (h : allB K = true) (g1 : mg "InvalidMove" = some (.ref (ga K "InvalidMove"))) (g2 : mg "InvalidGroup" = some (.ref (ga K "InvalidGroup")))
    (g3 : mg "InvalidRow" = some (.ref (ga K "InvalidRow"))) (g4 : mg "InvalidKinds" = some (.ref (ga K "InvalidKinds"))) (g5 : mg "MarkError" = some (.ref (ga K "MarkError")))
    (g6 : mg "ParseError" = some (.ref (ga K "ParseError"))) (g7 : mg "InvalidNumber" = some (.ref (ga K "InvalidNumber"))) (g8 : mg "Group" = some (.ref (ga K "Group")))
    (ie : mg "IndexError" = none)
    (F1 : ∃ fd, FunD K "__init__" ("ParseError" ++ ".__init__") (defArgs sIniP) (defBody sIniP) (defScope sIniP) [] [] (He.ma K (ga K "ParseError") "__init__") fd)
    (F2 : ∃ fd, FunD K "__init__" ("InvalidNumber" ++ ".__init__") (defArgs sIniN) (defBody sIniN) (defScope sIniN) [] [] (He.ma K (ga K "InvalidNumber") "__init__") fd) :
    Ex K mg ∧ (cd1 K).2 ≠ (cd2 K).2 ∧ (cd1 K).2 ≠ (cd3 K).2 ∧ (cd2 K).2 ≠ (cd3 K).2 := by
  unfold allB at h
  simp only [Bool.and_eq_true] at h
  obtain ⟨p1, p2, p3, p4, as, k1, k2, ex, ns, kit, d1, d2, d3⟩ := h
  rw [List.all_eq_true] at ex kit
  exact ⟨{
    mv := plain_ok g1 p1
    gr := plain_ok g2 p2
    rw := plain_ok g3 p3
    ks := plain_ok g4 p4
    ask := ask_ok as
    mark := g5
    ie := ie
    par := kep_ok g6 k1 (PySem.HandSPX.Bs.of PySem.F.excBase_ValueError) PySem.F.store_ValueError F1
    num := kep_ok g7 k2 (PySem.HandSPX.Bs.of PySem.F.excBase_IndexError) PySem.F.store_IndexError F2
    exm := fun i hi j hj => of_decide_eq_true ((List.all_eq_true.mp (ex i (List.mem_range.mpr hi))) j (List.mem_range.mpr (by omega)))
    grp := g8
    ns := of_decide_eq_true ns
    kit := fun n => of_decide_eq_true (kit n.name (by cases n <;> decide)) }, of_decide_eq_true d1, of_decide_eq_true d2, of_decide_eq_true d3⟩
end K87

set_option Elab.async false
set_option linter.all false
set_option maxRecDepth 100000
set_option maxHeartbeats 0
namespace K87
open PySem PySem.Spec PyProof.Rows L2 MM LamX
theorem law_def {P : Program} {w : World} {K : PySem.W.Frag} {mg : Str → Option Value} {base : Heap} (T : Tx K mg) (Y : Ex K mg) (TB : Tb K mg base) : Def P w K mg base CX0 10 "law" ["_law_script"] (spLawT K) := by
  have GTableLines := gTableLines (P := P) (w := w) (base := base) T Y
  have DBagL := dBagL (P := P) (w := w) (base := base) T 
  have DGrabL := dGrabL (P := P) (w := w) (base := base) T 
  have DOneOfL := dOneOfL (P := P) (w := w) (base := base) T DGrabL
  have DIsWhole := dIsWhole (P := P) (w := w) (base := base) T 
  have DIsInteger := dIsInteger (P := P) (w := w) (base := base) T DIsWhole
  have DIsBetween := dIsBetween (P := P) (w := w) (base := base) T DIsWhole
  have DNeedBetween := dNeedBetween (P := P) (w := w) (base := base) T DIsBetween
  have DIsAt := dIsAt (P := P) (w := w) (base := base) T 
  have DIsDigitAt := dIsDigitAt (P := P) (w := w) (base := base) T 
  have BReadPlain := bReadPlain (P := P) (w := w) (base := base) T Y DIsDigitAt DIsAt
  have BNeedText := bNeedText (P := P) (w := w) (base := base) T Y 
  have BBehind := bBehind (P := P) (w := w) (base := base) T Y DIsAt
  have BReadLess := bReadLess (P := P) (w := w) (base := base) T Y DIsAt
  have BReadSigned := bReadSigned (P := P) (w := w) (base := base) T Y BReadLess BReadPlain
  have BReadRow := bReadRow (P := P) (w := w) (base := base) T Y BNeedText BReadSigned BBehind
  have BReadTerm := bReadTerm (P := P) (w := w) (base := base) T Y DIsAt BReadPlain BBehind
  have BReadTerms := bReadTerms (P := P) (w := w) (base := base) T Y DIsAt BReadLess BReadTerm BBehind
  have BNeedBetween := bNeedBetween (P := P) (w := w) (base := base) T Y DIsBetween
  have BReadKinds := bReadKinds (P := P) (w := w) (base := base) T Y DIsInteger BNeedText BNeedBetween BReadTerms
  have DIsArrangement := dIsArrangement (P := P) (w := w) (base := base) T DIsBetween
  have BNeedMove := bNeedMove (P := P) (w := w) (base := base) T Y DIsArrangement
  have BCycles := bCycles (P := P) (w := w) (base := base) T Y BNeedMove
  have BWriteMove := bWriteMove (P := P) (w := w) (base := base) T Y BCycles
  have BNeedGroup := bNeedGroup (P := P) (w := w) (base := base) T Y 
  have BWriteGroup := bWriteGroup (P := P) (w := w) (base := base) T Y BNeedGroup
  have DAreMembers := dAreMembers (P := P) (w := w) (base := base) T DIsInteger
  have BWriteRow := bWriteRow (P := P) (w := w) (base := base) T Y DAreMembers
  have BWriteKinds := bWriteKinds (P := P) (w := w) (base := base) T Y DAreMembers
  have BNeedPlaces := bNeedPlaces (P := P) (w := w) (base := base) T Y BNeedBetween
  have BReadMove := bReadMove (P := P) (w := w) (base := base) T Y BNeedText BNeedPlaces
  have BReadGroup := bReadGroup (P := P) (w := w) (base := base) T Y BNeedText
  have DWrittenRightL := dWrittenRightL (P := P) (w := w) (base := base) T Y TB DOneOfL BWriteMove BWriteGroup BWriteRow BWriteKinds GTableLines
  have DReadRightL := dReadRightL (P := P) (w := w) (base := base) T Y TB DOneOfL BReadMove BReadKinds BReadRow BReadGroup
  exact dLaw T Y TB DBagL DReadRightL DWrittenRightL BReadRow BReadKinds BWriteRow BWriteKinds
theorem tx {K : PySem.W.Frag} {h : Heap} {mg : Str → Option Value} (X : K.In h) (G : h.Ns mainGlobals mg) (c : He.SaysD fa fn K) (ez : ex K = true) : Tx K mg := by
  have e := (He.ba ez).2
  exact {
    t_is_whole := ⟨c.def_ 0 rfl, He.glo_ok X G (c.fact 0 rfl)⟩
    t_is_integer := ⟨c.def_ 1 rfl, He.glo_ok X G (c.fact 1 rfl)⟩
    t_is_between := ⟨c.def_ 2 rfl, He.glo_ok X G (c.fact 2 rfl)⟩
    t_need_between := ⟨c.def_ 3 rfl, He.glo_ok X G (c.fact 3 rfl)⟩
    t_is_arrangement := ⟨c.def_ 4 rfl, He.glo_ok X G (c.fact 4 rfl)⟩
    t_need_places := ⟨c.def_ 5 rfl, He.glo_ok X G (c.fact 5 rfl)⟩
    t_need_move := ⟨c.def_ 6 rfl, He.glo_ok X G (c.fact 6 rfl)⟩
    t_cycles := ⟨c.def_ 7 rfl, He.glo_ok X G (c.fact 7 rfl)⟩
    t_need_group := ⟨c.def_ 8 rfl, He.glo_ok X G (c.fact 8 rfl)⟩
    t_need_text := ⟨c.def_ 9 rfl, He.glo_ok X G (c.fact 9 rfl)⟩
    t_is_at := ⟨c.def_ 10 rfl, He.glo_ok X G (c.fact 10 rfl)⟩
    t_behind := ⟨c.def_ 11 rfl, He.glo_ok X G (c.fact 11 rfl)⟩
    t_is_digit_at := ⟨c.def_ 12 rfl, He.glo_ok X G (c.fact 12 rfl)⟩
    t_read_plain := ⟨c.def_ 13 rfl, He.glo_ok X G (c.fact 13 rfl)⟩
    t_read_less := ⟨c.def_ 14 rfl, He.glo_ok X G (c.fact 14 rfl)⟩
    t_write_move := ⟨c.def_ 15 rfl, He.glo_ok X G (c.fact 15 rfl)⟩
    t_read_move := ⟨c.def_ 16 rfl, He.glo_ok X G (c.fact 16 rfl)⟩
    t_write_group := ⟨c.def_ 17 rfl, He.glo_ok X G (c.fact 17 rfl)⟩
    t_read_group := ⟨c.def_ 18 rfl, He.glo_ok X G (c.fact 18 rfl)⟩
    t_are_members := ⟨c.def_ 19 rfl, He.glo_ok X G (c.fact 19 rfl)⟩
    t_write_row := ⟨c.def_ 20 rfl, He.glo_ok X G (c.fact 20 rfl)⟩
    t_read_signed := ⟨c.def_ 21 rfl, He.glo_ok X G (c.fact 21 rfl)⟩
    t_read_row := ⟨c.def_ 22 rfl, He.glo_ok X G (c.fact 22 rfl)⟩
    t_write_kinds := ⟨c.def_ 23 rfl, He.glo_ok X G (c.fact 23 rfl)⟩
    t_read_term := ⟨c.def_ 24 rfl, He.glo_ok X G (c.fact 24 rfl)⟩
    t_read_terms := ⟨c.def_ 25 rfl, He.glo_ok X G (c.fact 25 rfl)⟩
    t_read_kinds := ⟨c.def_ 26 rfl, He.glo_ok X G (c.fact 26 rfl)⟩
    t_table_lines := ⟨c.def_ 27 rfl, He.glo_ok X G (c.fact 27 rfl)⟩
    t_law_bag := ⟨c.def_ 28 rfl, He.glo_ok X G (c.fact 28 rfl)⟩
    t_law_grab := ⟨c.def_ 29 rfl, He.glo_ok X G (c.fact 29 rfl)⟩
    t_law_one_of := ⟨c.def_ 30 rfl, He.glo_ok X G (c.fact 30 rfl)⟩
    t_law_word := ⟨c.def_ 31 rfl, He.glo_ok X G (c.fact 31 rfl)⟩
    t_law_written_right := ⟨c.def_ 32 rfl, He.glo_ok X G (c.fact 32 rfl)⟩
    t_law_read_right := ⟨c.def_ 33 rfl, He.glo_ok X G (c.fact 33 rfl)⟩
    t_law := ⟨c.def_ 34 rfl, He.glo_ok X G (c.fact 34 rfl)⟩
    f_IndexError := He.free_ok X G (c.fact 35 rfl)
    f_abs := He.free_ok X G (c.fact 36 rfl)
    f_all := He.free_ok X G (c.fact 37 rfl)
    f_bool := He.free_ok X G (c.fact 38 rfl)
    f_int := He.free_ok X G (c.fact 39 rfl)
    f_isinstance := He.free_ok X G (c.fact 40 rfl)
    f_len := He.free_ok X G (c.fact 41 rfl)
    f_list := He.free_ok X G (c.fact 42 rfl)
    f_max := He.free_ok X G (c.fact 43 rfl)
    f_min := He.free_ok X G (c.fact 44 rfl)
    f_range := He.free_ok X G (c.fact 45 rfl)
    f_repr := He.free_ok X G (c.fact 46 rfl)
    f_set := He.free_ok X G (c.fact 47 rfl)
    f_str := He.free_ok X G (c.fact 48 rfl)
    f_sum := He.free_ok X G (c.fact 49 rfl)
    f_tuple := He.free_ok X G (c.fact 50 rfl)
    c_TOO_LONG := by
      obtain ⟨t, e⟩ := He.int_ok X G (c.fact 51 rfl)
      exact ⟨_, e, t, rfl⟩
    c_MAX_PLACES := by
      obtain ⟨t, e⟩ := He.int_ok X G (c.fact 52 rfl)
      exact ⟨_, e, t, rfl⟩
    c_MOST_SIGNS := by
      obtain ⟨t, e⟩ := He.int_ok X G (c.fact 53 rfl)
      exact ⟨_, e, t, rfl⟩
    c_MOST_MEMBERS := by
      obtain ⟨t, e⟩ := He.int_ok X G (c.fact 54 rfl)
      exact ⟨_, e, t, rfl⟩
    c_DIGITS := by
      obtain ⟨t, e⟩ := He.str_ok X G (c.fact 55 rfl)
      exact ⟨_, e, t, rfl⟩
    c_MOST_DIGITS := by
      obtain ⟨t, e⟩ := He.int_ok X G (c.fact 56 rfl)
      exact ⟨_, e, t, rfl⟩
    }
theorem exs {K : PySem.W.Frag} {h : Heap} {mg : Str → Option Value} (X : K.In h) (G : h.Ns mainGlobals mg) (c : He.SaysD fa fn K) (e : ex K = true) : Ex K mg ∧ (cd1 K).2 ≠ (cd2 K).2 ∧ (cd1 K).2 ≠ (cd3 K).2 ∧ (cd2 K).2 ≠ (cd3 K).2 :=
  ex_ok (He.ba e).1 (He.glo_ok X G (c.fact 57 rfl)) (He.glo_ok X G (c.fact 58 rfl)) (He.glo_ok X G (c.fact 59 rfl)) (He.glo_ok X G (c.fact 60 rfl)) (He.glo_ok X G (c.fact 61 rfl)) (He.glo_ok X G (c.fact 62 rfl)) (He.glo_ok X G (c.fact 63 rfl)) (He.glo_ok X G (c.fact 64 rfl)) (tx X G c e).f_IndexError (c.def_ 35 rfl) (c.def_ 36 rfl)
theorem law_ends {P : Program} {w : World} {K : PySem.W.Frag} {h : Heap} {mg : Str → Option Value} {f : Addr} (X : K.In h) (G : h.Ns mainGlobals mg) (hfa : mg ("law" : Str) = some (.ref f)) (c : He.SaysD fa fn K) (e : ex K = true) :
    ∃ fd : FuncData, (∀ (s : Shared) (v : Value), BindsTo s fd ⟨[v], []⟩ [("_law_script", v)]) ∧ ∀ base : Heap, K.In base → base.Ns mainGlobals mg → (∀ p ∈ cs K, TabB base mg p.1 p.2) → FnG P w K mg base CX0 10 f fd ["_law_script"] (spLawT K) := by
  have T : Tx K mg := tx X G c e
  obtain ⟨Y, n12, n13, n23⟩ := exs X G c e
  obtain ⟨fd, F⟩ := T.t_law.fn
  have b := FunD.bindsA (ps := ["_law_script"]) F fun _ _ _ _ _ _ us hl => match us, hl with | [_], _ => rfl
  refine ⟨fd, fun s v => b s [v] rfl, fun base _ _ tb => ?_⟩
  have TB : Tb K mg base := ⟨tb (cd1 K) List.mem_cons_self, tb (cd2 K) (List.mem_cons_of_mem _ List.mem_cons_self), tb (cd3 K) (List.mem_cons_of_mem _ (List.mem_cons_of_mem _ List.mem_cons_self)), n12, n13, n23⟩
  obtain ⟨oc, od, _, _, _, _, _, _, _, osl, _, lk, _⟩ := F.ex
  obtain ⟨f2, fd2, F2, hm, _, _, oc2, od2, sl2, lk2⟩ := law_def (P := P) (w := w) (base := base) T Y TB
  have e1 : f2 = f := by
    rw [hfa] at hm
    injection hm with hm
    injection hm with hm
    exact hm.symm
  have e2 : He.ga K "law" = f := by
    have g := T.t_law.glo
    rw [hfa] at g
    injection g with g
    injection g with g
    exact g.symm
  subst e1
  rw [e2] at lk
  rw [lk] at lk2
  injection lk2 with lk2
  injection lk2 with z1 z2 z3 z4
  injection z3 with z3
  subst z3
  exact F2
end K87

set_option Elab.async false
set_option linter.all false
set_option maxRecDepth 100000
set_option maxHeartbeats 0
namespace K87
open PySem PySem.Spec PyProof.Rows L2 MM
end K87
open PySem PySem.W PySem.Calls PyProof.Rows
theorem PySem.Challenge.cw_movemarks_k87_errors_of_texts_holds : PySem.Challenge.rw_movemarks_k87_errors_of_texts.Holds := by
  w_on; o_law
  refine HandSHeadRun.head_imp (r := OpenLaw.row PySem.Challenge.rw_movemarks_k87_errors_of_texts) (q := view (OpenLaw.row PySem.Challenge.rw_movemarks_k87_errors_of_texts).prog [92]) (H := K87.hk) (ob := K87.ob) (M := 20000) (loose := K87.names)
    (d := HandSHeadRun.topDef (OpenLaw.row PySem.Challenge.rw_movemarks_k87_errors_of_texts).prog 92) (kwd := []) K87.ob_eq K87.run9 (by kernel_rfl) (by kernel_rfl) (by kernel_rfl) (by rfl) (by first | assumption | decide +kernel) (by decide +kernel) ⟨rfl, rfl, rfl, rfl, rfl, by decide +kernel⟩ ?hw ?hc
  case hw => w_witness2
  case hc =>
    refine ME.walk_tab (l := PySem.Challenge.rw_movemarks_k87_errors_of_texts) (n := 63) (k := 10) (x := "_law_script") (CX := fun _ => L2.CX0) rfl (by decide) (by kernel_rfl) ⟨⟨rfl, by decide, by decide⟩, rfl⟩ ?F (fun _ _ _ _ _ z => z)
    intro w mg fa h Y G hmg0
    obtain ⟨K, KX, c⟩ := Y
    have hmg : mg ("law" : PySem.Str) = some (.ref fa) := by
      have e : (HandSHeadRun.topDef (OpenLaw.row PySem.Challenge.rw_movemarks_k87_errors_of_texts).prog 92).name = ("law" : PySem.Str) := by kernel_rfl
      rw [← e]
      exact hmg0
    obtain ⟨fd, hb, hF⟩ := K87.law_ends (P := (PySem.Challenge.rw_movemarks_k87_errors_of_texts).prog) (w := w) KX G hmg c.t.d c.more
    have m1 : ((K87.sNr, none) : He.Defn) ∈ K87.tf := List.mem_cons_self
    have m2 : ((K87.sTr, none) : He.Defn) ∈ K87.tf := List.mem_cons_of_mem _ List.mem_cons_self
    have m3 : ((K87.sLw, none) : He.Defn) ∈ K87.tf := List.mem_cons_of_mem _ (List.mem_cons_of_mem _ List.mem_cons_self)
    have all3 : ∀ (φ : PySem.Addr × PySem.Addr → Prop), φ (K87.cd1 K) → φ (K87.cd2 K) → φ (K87.cd3 K) → ∀ p ∈ K87.cs K, φ p := by
      intro φ a b c p hp
      have hp2 : p = K87.cd1 K ∨ p = K87.cd2 K ∨ p = K87.cd3 K := by simpa only [List.mem_cons, List.not_mem_nil, or_false] using hp
      rcases hp2 with rfl | rfl | rfl
      · exact a
      · exact b
      · exact c
    refine ⟨K, fd, K87.spLawT K, K87.cs K, KX, all3 _ (c.empty _ m1) (c.empty _ m2) (c.empty _ m3), all3 _ (c.out _ m1) (c.out _ m2) (c.out _ m3),
      all3 _ (PySem.W.codeHd_of_K KX (c.hd _ m1)) (PySem.W.codeHd_of_K KX (c.hd _ m2)) (PySem.W.codeHd_of_K KX (c.hd _ m3)), hb, fun H a ns hl ht hS => ?_, hF⟩
    refine ⟨a, ns, rfl, hS, by omega, ?_, fun _ => rfl⟩
    intro p hp
    rcases K87.tl_mem hp with rfl | rfl | rfl
    · exact LamX.TabS.nil (ht (K87.cd1 K) List.mem_cons_self)
    · exact LamX.TabS.nil (ht (K87.cd2 K) (List.mem_cons_of_mem _ List.mem_cons_self))
    · exact LamX.TabS.nil (ht (K87.cd3 K) (List.mem_cons_of_mem _ (List.mem_cons_of_mem _ List.mem_cons_self)))
