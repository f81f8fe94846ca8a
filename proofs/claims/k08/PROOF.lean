import PyProof.Rows.All
import Wide.All
import OpenK.AllK
import Wide.FinOn
import HandS.Words
import HandS.ClsMeth
import HandS.Property
import HandS.Head0
import HandS.Head1
import HandS.Head2
import HandS.Head3
import HandS.Head4
import HandS.HeadEnd
import HandS.HeadHook1
import HandS.HeadHook2
import HandS.HeadHook3
import HandS.HeadHook4
import KE.KStateDown
import KE.KNestM
import HandS.ForMost
import HandS.Exc
import HandS.Defaults
import HandS.More
import HandS.Flow
import HandS.Wide
import HandS.IsInst
import HandS.Codes
import HandS.Conv
import HandS.SortInts
import HandS.TupAny
import HandS.TupMul
import HandS.DictComp
import HandS.Style
import HandS.Small
import PyProof.ReprRoads
import HandS.Gcd
import PyProof.Rows.RuleB_pow
import KE.GoesEnum
import HandS.Iter
import HandS.Set
import HandS.SetFor
import HandS.DictTup
import HandS.SetKeys
import HandS.Deep
import HandS.Strs
import HandS.Walk
import PyProof.DictMoreH
import PyProof.Rows.TupDisplay
import KE.KDictDisplayH
import KE.SortKeyHeap
import HandS.SortKw
import HandS.Zip
import KE.KDictSum
import HandS.TupLen
import HandS.WideBits
import KE.KExcInit
import HandS.ExcInit
import HandS.TryMany
import HandS.ExcField
import HandS.Lambda
import KE.KOwnIn
import PyProof.Rows.SetFrom
import HandS.Text
import HandS.DeepEq
import HandS.EndTab
import PySem.Challenge.RW_movemarks_k08_whole_words_and_sums_of_gr
set_option Elab.async false
set_option linter.all false
set_option maxRecDepth 100000
set_option maxHeartbeats 0
namespace K08
open PySem PySem.Spec PyProof.Rows L2
def topS (i : Nat) : Stmt := PySem.Challenge.pw_movemarks_k08_whole_words_and_sums_of_gr.main.body.getD i (.Pass ⟨0, 0, 0, 0⟩)
abbrev sWall : Stmt := topS 0
abbrev sIsWhole : Stmt := topS 9
abbrev sIsBetween : Stmt := topS 10
abbrev sNeedBetween : Stmt := topS 11
abbrev sIsArrangement : Stmt := topS 14
abbrev sNeedPlaces : Stmt := topS 15
abbrev sIsMove : Stmt := topS 16
abbrev sFollowed : Stmt := topS 17
abbrev sWordsOf : Stmt := topS 19
abbrev sTableRow : Stmt := topS 20
abbrev sTableOf : Stmt := topS 21
abbrev sUndoingOf : Stmt := topS 22
abbrev sBodyWith : Stmt := topS 23
abbrev sTurnedBody : Stmt := topS 24
abbrev sFamilyOf : Stmt := topS 25
abbrev sPowersOf : Stmt := topS 26
abbrev sOrdersOf : Stmt := topS 27
abbrev sIsPrimePower : Stmt := topS 28
abbrev sSingleMakers : Stmt := topS 29
abbrev sFamiliesOf : Stmt := topS 30
abbrev sMaskOf : Stmt := topS 31
abbrev sInOrder : Stmt := topS 32
abbrev sNeedMakers : Stmt := topS 40
abbrev sNextPlaces : Stmt := topS 41
abbrev sNeedGroup : Stmt := topS 43
abbrev sBeside : Stmt := topS 44
abbrev sBagL : Stmt := topS 46
abbrev sGrabL : Stmt := topS 47
abbrev sOneOfL : Stmt := topS 48
abbrev sMixedL : Stmt := topS 49
abbrev sMenuL : Stmt := topS 50
abbrev sBehindL : Stmt := topS 51
abbrev sRenamedL : Stmt := topS 52
abbrev sGroupDrawnL : Stmt := topS 53
abbrev sLotTimesL : Stmt := topS 54
abbrev sLotMadeL : Stmt := topS 55
abbrev sToldByL : Stmt := topS 56
abbrev sIsWordL : Stmt := topS 57
abbrev sWordsRightL : Stmt := topS 58
abbrev sBesideL : Stmt := topS 59
abbrev sProductsRightL : Stmt := topS 60
abbrev sLaw : Stmt := topS 61
def inClass (s : Stmt) (i : Nat) : Stmt := match s with
  | .ClassDef _ _ _ b _ _ _ _ _ _ _ => b.getD i (.Pass ⟨0, 0, 0, 0⟩)
  | _ => .Pass ⟨0, 0, 0, 0⟩
abbrev cA (K : PySem.W.Frag) (x : Str) : Addr := He.ga K x
/-- what a class has under a name; the def behind it -/
abbrev fndA (K : PySem.W.Frag) (C : Addr) (m : Str) : Addr := He.ma K C m
def recA (K : PySem.W.Frag) (p : Addr) (ty : String) : Addr := match PySem.W.recIn K p ty with
  | some (.ref g :: _) => g
  | _ => 0
abbrev mA (K : PySem.W.Frag) (C : Addr) (m : Str) : Addr := He.ma K C m
def pA (K : PySem.W.Frag) (C : Addr) (m : Str) : Addr := recA K (fndA K C m) "property"
def kA (K : PySem.W.Frag) (C : Addr) (m : Str) : Addr := recA K (fndA K C m) "classmethod"
abbrev sIo : Str := "in_order"
/-- where the lambda is made: code object and table -/
abbrev cd1 (K : PySem.W.Frag) : Addr × Addr := He.cT K (sIo, none)
abbrev sLatticeInit : Stmt := inClass (topS 33) 0
abbrev fsLattice : List Str := ["index_of", "maker_indices", "table", "back", "bodies", "masks", "body_at", "place_at", "families", "family_at"]
abbrev sGroupInit : Stmt := inClass (topS 42) 0
abbrev sGroupTurning : Stmt := inClass (topS 42) 1
abbrev sGroupPlaces : Stmt := inClass (topS 42) 5
abbrev sGroupMakers : Stmt := inClass (topS 42) 6
abbrev sGroupOrder : Stmt := inClass (topS 42) 7
abbrev sGroupMoves : Stmt := inClass (topS 42) 8
abbrev sGroupWord : Stmt := inClass (topS 42) 11
abbrev sGroupOfWord : Stmt := inClass (topS 42) 12
abbrev sGroupOrderCounts : Stmt := inClass (topS 42) 13
abbrev sGroupContains : Stmt := inClass (topS 42) 14
abbrev fsGroup : List Str := ["_places", "_makers", "_words", "_moves", "_lattice"]
/-- a def at any address: name, body, scope, parameters, what it sees -/
abbrev FnX : Type := Option (Str × FuncBody × Scope × Arguments × Addr × List (Str × Addr) × Addr × Str)
def fnA (K : PySem.W.Frag) (a : Addr) : FnX := (K.lookup a).bind fun ob => match ob.data with
  | .func fd => some (fd.name, fd.body, fd.scope, fd.params, fd.globals, fd.closure, fd.builtins, fd.qualname)
  | _ => none
def okA (K : PySem.W.Frag) (a : Addr) (q : Str) : Bool := match K.lookup a with
  | none => false
  | some ob => (match ob.data with
    | .func fd => (He.dflB K fd.defaults [] && He.kwdB K fd.kwdefaults []) && (PySem.W.keepIn K (.ref a) && PySem.W.codeIn K fd.code q)
    | _ => false)
structure XD where
  ad : PySem.W.Frag → Addr
  x : Str
  q : Str
  st : Stmt
def XD.val (d : XD) : FnX := some (d.x, .stmts (defBody d.st), defScope d.st, defArgs d.st, mainGlobals, [], builtinsNs, d.q)
theorem XD.fun_ {K : PySem.W.Frag} (d : XD) (e : fnA K (d.ad K) = d.val) (c : okA K (d.ad K) d.q = true) : ∃ fd, FunD K d.x d.q (defArgs d.st) (defBody d.st) (defScope d.st) [] [] (d.ad K) fd := by
  unfold okA at c
  unfold fnA at e
  cases lk : K.lookup (d.ad K) with
  | none =>
    rw [lk] at c
    cases c
  | some ob =>
    rw [lk] at c e
    obtain ⟨cls, dct, dat, slo⟩ := ob
    cases dat with
    | func fd =>
      obtain ⟨f1, f2, f3, f4, f5, f6, f7, f8, f9, f10, f11, f12, f13, f14, f15⟩ := fd
      have e2 : (some (f1, f4, f5, f3, f6, f7, f15, f2) : FnX) = some (d.x, .stmts (defBody d.st), defScope d.st, defArgs d.st, mainGlobals, [], builtinsNs, d.q) := e
      simp only [Option.some.injEq, Prod.mk.injEq] at e2
      obtain ⟨g1, g2, g3, g4, g5, g6, g7, g8⟩ := e2
      subst g1 g2 g3 g4 g5 g6 g7 g8
      obtain ⟨c1, c2⟩ := He.ba (show ((He.dflB K f8 [] && He.kwdB K f9 []) && (PySem.W.keepIn K (.ref (d.ad K)) && PySem.W.codeIn K f13 d.q)) = true from c)
      obtain ⟨c3, c4⟩ := He.ba c1
      obtain ⟨c5, c6⟩ := He.ba c2
      refine ⟨_, ⟨cls, dct, f8, f9, f10, f11, f12, f13, f14, slo, rfl, ?_⟩, c5⟩
      exact ⟨lk, c6, He.dflB_ok c3, He.kwdB_ok c4⟩
    | _ => cases c
def xs : List XD := [⟨fun K => mA K (cA K "Lattice") "__init__", "__init__", "Lattice.__init__", sLatticeInit⟩, ⟨fun K => mA K (cA K "Group") "__init__", "__init__", "Group.__init__", sGroupInit⟩, ⟨fun K => kA K (cA K "Group") "turning", "turning", "Group.turning", sGroupTurning⟩, ⟨fun K => pA K (cA K "Group") "places", "places", "Group.places", sGroupPlaces⟩, ⟨fun K => pA K (cA K "Group") "makers", "makers", "Group.makers", sGroupMakers⟩, ⟨fun K => pA K (cA K "Group") "order", "order", "Group.order", sGroupOrder⟩, ⟨fun K => pA K (cA K "Group") "moves", "moves", "Group.moves", sGroupMoves⟩, ⟨fun K => mA K (cA K "Group") "word", "word", "Group.word", sGroupWord⟩, ⟨fun K => mA K (cA K "Group") "of_word", "of_word", "Group.of_word", sGroupOfWord⟩, ⟨fun K => mA K (cA K "Group") "order_counts", "order_counts", "Group.order_counts", sGroupOrderCounts⟩, ⟨fun K => mA K (cA K "Group") "__contains__", "__contains__", "Group.__contains__", sGroupContains⟩]
def dd (x : Str) (st : Stmt) : He.DefD := ⟨(x, none), x, x, defArgs st, defBody st, defScope st, [], []⟩
def fn : List He.DefD := [dd "is_whole" sIsWhole, dd "is_between" sIsBetween, dd "need_between" sNeedBetween, dd "is_arrangement" sIsArrangement, dd "need_places" sNeedPlaces, dd "is_move" sIsMove, dd "followed" sFollowed, dd "words_of" sWordsOf, dd "_table_row" sTableRow, dd "table_of" sTableOf, dd "undoing_of" sUndoingOf, dd "body_with" sBodyWith, dd "turned_body" sTurnedBody, dd "_family_of" sFamilyOf, dd "powers_of" sPowersOf, dd "orders_of" sOrdersOf, dd "_is_prime_power" sIsPrimePower, dd "_single_makers" sSingleMakers, dd "families_of" sFamiliesOf, dd "mask_of" sMaskOf, dd "in_order" sInOrder, dd "_need_makers" sNeedMakers, dd "_next_places" sNextPlaces, dd "need_group" sNeedGroup, dd "beside" sBeside, dd "_law_bag" sBagL, dd "_law_grab" sGrabL, dd "_law_one_of" sOneOfL, dd "_law_mixed" sMixedL, dd "_law_menu" sMenuL, dd "_law_behind" sBehindL, dd "_law_renamed" sRenamedL, dd "_law_group_drawn" sGroupDrawnL, dd "_law_lot_times" sLotTimesL, dd "_law_lot_made" sLotMadeL, dd "_law_told_by" sToldByL, dd "_law_is_word" sIsWordL, dd "_law_words_right" sWordsRightL, dd "_law_beside" sBesideL, dd "_law_products_right" sProductsRightL, dd "law" sLaw]
def fa : List He.Fa := [.glo "is_whole", .glo "is_between", .glo "need_between", .glo "is_arrangement", .glo "need_places", .glo "is_move", .glo "followed", .glo "words_of", .glo "_table_row", .glo "table_of", .glo "undoing_of", .glo "body_with", .glo "turned_body", .glo "_family_of", .glo "powers_of", .glo "orders_of", .glo "_is_prime_power", .glo "_single_makers", .glo "families_of", .glo "mask_of", .glo "in_order", .glo "_need_makers", .glo "_next_places", .glo "need_group", .glo "beside", .glo "_law_bag", .glo "_law_grab", .glo "_law_one_of", .glo "_law_mixed", .glo "_law_menu", .glo "_law_behind", .glo "_law_renamed", .glo "_law_group_drawn", .glo "_law_lot_times", .glo "_law_lot_made", .glo "_law_told_by", .glo "_law_is_word", .glo "_law_words_right", .glo "_law_beside", .glo "_law_products_right", .glo "law", .free "abs", .free "all", .free "bool", .free "enumerate", .free "int", .free "isinstance", .free "len", .free "list", .free "max", .free "min", .free "range", .free "set", .free "sorted", .free "sum", .free "tuple", .int "MAX_PLACES" (24), .int "MAX_ORDER" (120), .int "MAX_SUBGROUPS" (200), .int "MAX_CLASSES" (60), .int "MAX_MAKERS" (6), .int "_MOST_MEMBERS" (2000), .glo "Lattice", .cls "Lattice", .mkr "Lattice", .glo "Group", .cls "Group", .mkr "Group", .meth "Group" "word", .meth "Group" "of_word", .meth "Group" "order_counts", .meth "Group" "__contains__"]
def propB (K : PySem.W.Frag) (C : Addr) (f : Str) : Bool :=
  (He.eqO (PySem.W.findIn K (.ref C) f) (some (some (.ref (fndA K C f)))) && He.eqO (PySem.W.specialIn K (.ref (fndA K C f)) "__get__") (some (some (.builtin "property.__get__")))) &&
    (decide (PySem.W.takesIn K (.ref (fndA K C f)) = some true) && (match PySem.W.recIn K (fndA K C f) "property" with
      | some (.ref _ :: _) => true
      | _ => false))
theorem propB_ok {K : PySem.W.Frag} {C : Addr} {f : Str} (h : propB K C f = true) : PropOf K C f (fndA K C f) (pA K C f) := by
  unfold propB at h
  obtain ⟨h1, h2⟩ := He.ba h
  obtain ⟨h3, h4⟩ := He.ba h1
  obtain ⟨h5, h6⟩ := He.ba h2
  refine ⟨He.eqO_ok h3, He.eqO_ok h4, of_decide_eq_true h5, ?_⟩
  unfold pA recA
  split at h6
  · rename_i a r e
    rw [e]
    exact ⟨r, rfl⟩
  · cases h6
def cmB (K : PySem.W.Frag) (C : Addr) (f : Str) : Bool :=
  (match PySem.W.findCls K (.ref C) (.type "type") f with
    | some (.get u p n t) => (decide (u = .builtin "classmethod.__get__") && decide (p = .ref (fndA K C f))) && (decide (n = .none) && decide (t = .ref C))
    | _ => false) && ((match PySem.W.recIn K (fndA K C f) "classmethod" with
      | some (.ref _ :: _) => true
      | _ => false) && PySem.W.fnIn K (kA K C f))
theorem cmB_ok {K : PySem.W.Frag} {C : Addr} {f : Str} (h : cmB K C f = true) : ClX.CMet K C (.type "type") f (fndA K C f) (kA K C f) := by
  unfold cmB at h
  obtain ⟨h1, h2⟩ := He.ba h
  obtain ⟨h3, h4⟩ := He.ba h2
  refine ⟨?_, ?_, h4⟩
  · split at h1
    · rename_i u p n t e
      obtain ⟨a1, a2⟩ := He.ba h1
      obtain ⟨a3, a4⟩ := He.ba a1
      obtain ⟨a5, a6⟩ := He.ba a2
      rw [e, of_decide_eq_true a3, of_decide_eq_true a4, of_decide_eq_true a5, of_decide_eq_true a6]
    · cases h1
  · unfold kA recA
    split at h3
    · rename_i a r e
      rw [e]
      exact ⟨r, rfl⟩
    · cases h3
def clB (K : PySem.W.Frag) (C : Addr) : Bool :=
  (PySem.W.readsIn K C (.type "type") && He.eqO (PySem.W.specialIn K (.ref C) "__getattribute__") (some (some (.builtin "type.__getattribute__")))) &&
    ((He.eqO (PySem.W.findIn K (.ref C) "__class__") (some (some (.builtin "object.__class__"))) && He.eqO (PySem.W.specialIn K (.builtin "object.__class__") "__get__") (some (some (.builtin "getset_descriptor.__get__")))) &&
    (decide (PySem.W.takesIn K (.builtin "object.__class__") = some true) && decide (PySem.W.mroIn K C (.type "object") = some true)))
def noB (K : PySem.W.Frag) (C : Addr) (fs : List Str) : Bool := fs.all fun f => He.eqO (PySem.W.findIn K (.ref C) f) (some none)
theorem noB_ok {K : PySem.W.Frag} {C : Addr} {fs : List Str} (h : noB K C fs = true) : ∀ f ∈ fs, NoAttr K C f := fun f hf => He.eqO_ok (List.all_eq_true.mp h f hf)
def ex (K : PySem.W.Frag) : Bool := (xs.all fun d => okA K (d.ad K) d.q) && ((propB K (cA K "Group") "places" && (propB K (cA K "Group") "makers" && (propB K (cA K "Group") "order" && (propB K (cA K "Group") "moves")))) && ((cmB K (cA K "Group") "turning" && clB K (cA K "Group")) && (noB K (cA K "Lattice") fsLattice && noB K (cA K "Group") fsGroup)))
abbrev tf : List He.Defn := [(sIo, none)]
abbrev cs (K : PySem.W.Frag) : List (Addr × Addr) := [cd1 K]
abbrev R : PySem.W.OpenRow := PySem.W.OpenLaw.row PySem.Challenge.rw_movemarks_k08_whole_words_and_sums_of_gr
/-- the addresses that the head's facts look at -/
def asL : List Addr := [2, 3, 117, 124, 131, 136, 143, 150, 155, 162, 167, 172, 177, 182, 187, 194, 201, 206, 213, 218, 223, 230, 237, 266, 277, 282, 439, 450, 455, 462, 469, 476, 481, 486, 491, 498, 503, 508, 515, 522, 527, 532, 537, 542, 549, 116, 123, 130, 135, 142, 149, 154, 161, 166, 171, 176, 181, 186, 193, 200, 205, 212, 217, 222, 229, 236, 265, 276, 281, 438, 449, 454, 461, 468, 475, 480, 485, 490, 497, 502, 507, 514, 521, 526, 531, 536, 541, 548, 249, 294, 303, 342, 350, 358, 366, 389, 394, 401, 408, 248, 293, 301, 341, 349, 357, 365, 388, 393, 400, 407, 300, 340, 348, 356, 364]
abbrev KS (g : Addr → Option Obj) : PySem.W.Frag := He.frT g asL
abbrev OT : Type := He.AlX × List FnX
def obsS (g : Addr → Option Obj) : OT := ((He.obsT fa fn [] (KS g), ex (KS g) && He.tabsB g tf (KS g)), xs.map fun d => fnA (KS g) (d.ad (KS g)))
def valS (w : World) : OT := (He.valX fn [] w, xs.map XD.val)
/-- what the head says: the facts, and the classes' defs -/
def Told (w : World) (h : Heap) (K : PySem.W.Frag) : Prop := He.SaysX fa fn [] tf ex w h K ∧ (xs.map fun d => fnA K (d.ad K)) = xs.map XD.val
theorem saysS {w : World} {h : Heap} (e0 : obsS h.get? = valS w) : Told w h (KS h.get?) := by
  obtain ⟨e, ex2⟩ := Prod.mk.inj e0
  refine ⟨?_, ex2⟩
  obtain ⟨e1, e2⟩ := Prod.mk.inj e
  obtain ⟨h1, h2⟩ := He.ba e2
  rw [He.tabsB, List.all_eq_true] at h2
  refine ⟨e1, h1, fun p hp => (He.ba (h2 p hp)).1, fun p hp => ?_, fun p hp => ?_⟩
  all_goals
    have z := (He.ba (h2 p hp)).2
    split at z
    case h_2 => cases z
    rename_i o q
  · exact He.frT_none q z
  · rw [q, He.emptyTab_eq z]
def hk : PySem.W.Hook where
  α := OT
  obs := fun s => obsS s.heap.get?
  val := valS
  says := fun w h => ∃ K : PySem.W.Frag, K.In h ∧ Told w h K
  of := fun w s e => ⟨KS s.heap.get?, He.frT_in, saysS e⟩
  keeps := fun _ _ _ z k => by
    obtain ⟨K, hK, c, cx⟩ := z
    exact ⟨K, PySem.W.Frag.In.keeps hK k, ⟨c.t, c.more, c.hd, c.out, fun p hp => k _ _ (c.empty p hp)⟩, cx⟩
def ob (s : PySem.W.SharedT) : OT := obsS (HandSHeadRun.getT s)
theorem ob_eq (s : PySem.W.SharedT) : ob s = hk.obs s.abs := by
  have e : HandSHeadRun.getT s = s.abs.heap.get? := funext (HandSHeadRun.getT_eq s)
  unfold ob
  rw [e]
  rfl
theorem x_at {K : PySem.W.Frag} (cx : (xs.map fun d => fnA K (d.ad K)) = xs.map XD.val) (e : ex K = true) (i : Nat) (d : XD) (h : xs[i]? = some d) : ∃ fd, FunD K d.x d.q (defArgs d.st) (defBody d.st) (defScope d.st) [] [] (d.ad K) fd := by
  have z : (xs.map fun d => fnA K (d.ad K))[i]? = (xs.map XD.val)[i]? := by rw [cx]
  rw [List.getElem?_map, List.getElem?_map, h] at z
  exact d.fun_ (Option.some.inj z) (List.all_eq_true.mp (He.ba e).1 d (List.mem_of_getElem? h))
def names : List PySem.Str := (["_wall", "MarkError", "InvalidMove", "InvalidGroup", "InvalidOperation", "InvalidNumber", "TooMany", "is_whole", "is_between", "need_between", "MAX_PLACES", "is_arrangement", "need_places", "is_move", "followed", "words_of", "_table_row", "table_of", "undoing_of", "body_with", "turned_body", "_family_of", "powers_of", "orders_of", "_is_prime_power", "_single_makers", "families_of", "mask_of", "in_order", "Lattice", "MAX_ORDER", "MAX_SUBGROUPS", "MAX_CLASSES", "MAX_MAKERS", "_MOST_MEMBERS", "_need_makers", "_next_places", "Group", "need_group", "beside", "_law_bag", "_law_grab", "_law_one_of", "_law_mixed", "_law_menu", "_law_behind", "_law_renamed", "_law_group_drawn", "_law_lot_times", "_law_lot_made", "_law_told_by", "_law_is_word", "_law_words_right", "_law_beside", "_law_products_right"] : List String).map PySem.Str.ofString
end K08

set_option Elab.async false
set_option linter.all false
set_option maxRecDepth 100000
set_option maxHeartbeats 0
namespace K08
open PySem PySem.Spec PyProof.Rows L2
theorem run9 (w : World) : HandSHeadRun.RunEqI R (PySem.W.view R.prog [61]) hk ob 20000 names w := by
  unfold HandSHeadRun.RunEqI
  kernel_rfl
end K08

set_option Elab.async false
set_option maxRecDepth 100000
set_option maxHeartbeats 2000000
set_option linter.all false
namespace MM
open PySem PySem.Spec PyProof.Rows L2

/-! room, with nothing under way that is being shown -/
structure Rm (k : Nat) (A : Around) : Prop where
  room : Room k A
  still : A.guards = some []
theorem Rm.le {j k : Nat} {A : Around} (h : Rm k A) (le : j ≤ k) : Rm j A := ⟨h.room.mono le, h.still⟩
theorem Rm.down {k : Nat} {A : Around} {v : Env} (h : Rm (k + 1) A) : Rm k (A.deeper v) := ⟨h.room.deeper v, h.still⟩
theorem Rm.hu {k : Nat} {A : Around} (h : Rm k A) : A.units + 64 < cLine := h.room.units
theorem Rm.hu66 {k : Nat} {A : Around} (h : Rm k A) : A.units + 66 < cLine := by have := h.room.un; omega
theorem Rm.hu1 {k : Nat} {A : Around} (h : Rm k A) : A.units + 1 < cLine := by have := h.room.un; omega

/-- a def keeps its promise wherever nothing is being shown -/
structure FnG (P : Program) (w : World) (K : PySem.W.Frag) (mg : Str → Option Value) (base : Heap)
    (CX : CXT) (k : Nat) (f : Addr) (fd : FuncData) (ps : List Str) (sp : Sp) : Prop where
  arity : ∀ {vs H Q E}, sp vs H Q E → vs.length = ps.length
  runs : ∀ {A : Around} {out : List Env} {s : Shared} {H : Hp} {ar : Args} {us : List Value} {vs : List V} {Q : VK} {E : XK},
    Rm k A → Env0 P w K mg base A out s H → BindsTo s fd ar (ps.zip us) → Vals vs us → sp vs H Q E →
      codeAny (model P w) A (.call (.ref f) ar) (CR CX out P w H s Q E) s

section
variable {P : Program} {w : World} {K : PySem.W.Frag} {mg : Str → Option Value} {base : Heap} {CX : CXT}
  {j k : Nat} {f : Addr} {fd : FuncData} {ps : List Str} {sp : Sp}
theorem FnG.le (F : FnG P w K mg base CX j f fd ps sp) (h : j ≤ k) : FnG P w K mg base CX k f fd ps sp :=
  ⟨F.arity, fun r => F.runs (r.le h)⟩
theorem FnG.of (F : FnOk P w K mg base CX k f fd ps sp) : FnG P w K mg base CX k f fd ps sp :=
  ⟨fun h => F.len _ _ _ _ h, fun r e b v h => F.run _ _ _ _ _ _ _ _ _ r.room e b v h⟩

/-- by its body -/
theorem FnG.body {x qual : Str} {pa : Arguments} {bd : List Stmt} {sc : Scope} {N : List Str}
    (F : FunD K x qual pa bd sc [] [] f fd) (S : FnScope N ps sc)
    (arity : ∀ vs H Q E, sp vs H Q E → vs.length = ps.length)
    (hb : ∀ (cd : Value) (A : Around) (out : List Env) (s : Shared) (H : Hp) (vs : List V) (Q : VK) (E : XK),
      Rm k (A.deeper (envOfC qual sc s.heap.objs.size f cd)) → sp vs H Q E →
      ∃ t, PSs (cxOf CX P w K mg base N qual sc f cd A out s H E) bd t ∧
        t { nx := fun _ H' => Q .non H', rt := Q } (start N vs) H) :
    FnG P w K mg base CX (k + 1) f fd ps sp := by
  obtain ⟨oc, od, dV, kV, doc, pm, an, cd, ct, osl, rfl, lk, hcd, _, _⟩ := F.ex
  refine ⟨fun h => arity _ _ _ _ h, ?_⟩
  intro A out s H ar us vs Q E hr e0 hbd hv h
  have nv := arity _ _ _ _ h
  have inK : K.In s.heap := e0.mod.kin.keeps (fun b o e => (e0.bs b o e).1)
  have nl : s.heap.NoLimit := e0.mod.nolimit.keeps (fun b o e => (e0.bs b o e).1)
  have kd : ∀ y ∈ ps.zip us, sc.names.lookup y.1 = some .local ∨
      (sc.names.lookup y.1 = some .cell ∧ ((cellsFrom (s.heap.objs.size + 1) sc.names []).lookup y.1).isSome = true) := by
    rintro ⟨n, v⟩ hy
    cases S.par n (List.of_mem_zip hy).1 with
    | inl q => exact .inl q
    | inr q => exact .inr ⟨q, PySem.W.cellsFrom_some _ _ _ (.inl q)⟩
  refine codeAny_call_function hr.room.depth (inK _ _ lk) rfl S.co S.gen rfl (PySem.W.codeRec_of inK hcd) (hbd _ _ _ _ ?_)
  refine wpAny_newFunctionEnv_cells S.kind kd (fun env he s1 xc => ?_)
  subst he
  refine ⟨nl.keeps xc.toInCall.keep, codeAny_func ?_⟩
  obtain ⟨t, ht, hq⟩ := hb cd A out s H vs Q E hr.down h
  have I := inv_start (CX := CX) (P := P) (w := w) (qual := qual) (cd := cd) (f := f) (E := E) S hr.room.hd e0 nv hv xc
  refine wpAny_mono (ht.run [] s1 (start N vs) H _ I hq) (fun fl s' hs => ?_) (fun e s' hs => hs)
  cases fl with
  | ret u =>
    obtain ⟨v, σ', H', J, rv, q⟩ := hs
    exact ⟨v, H', J.os, J.bare, J.base, J.hok, rv, q⟩
  | next =>
    obtain ⟨σ', H', J, q⟩ := hs
    exact ⟨.non, H', J.os, J.bare, J.base, J.hok, rfl, q⟩
  | brk =>
    obtain ⟨_, _, _, q⟩ := hs
    exact q.elim
  | cont =>
    obtain ⟨_, _, _, q⟩ := hs
    exact q.elim
end

section
variable {X : Cx} {CX : CXT} {k : Nat} {f : Addr} {fd : FuncData} {ps : List Str} {sp : Sp} {E : XK}
  {x : Str} {p pos : Pos} {e : Expr} {es : List Expr} {t : TA}
theorem call_g {pins : List (Addr × Obj)} {σ : L2.St} {H : Hp} {s : Shared} {Q : VK} {us : List Value} {vs : List V}
    (F : FnG X.prog X.w X.K X.mg X.base CX k f fd ps sp) (hr : Rm k X.A) (hb : Binds X.K fd ps [])
    (hx : Passes CX X E) (I : Inv X pins σ H s) (r : Vals vs us) (h : sp vs H Q E) :
    wpAny (model X.prog X.w) X.A (call (.ref f) us) (EP X pins σ Q) X.xe s := by
  have nl : (us ++ []).length = ps.length := by
    rw [List.append_nil, ← r.length]
    exact F.arity h
  have bd := hb s us I.kIn nl
  rw [List.append_nil] at bd
  refine wpAny_call (codeAny_mono (F.runs hr I.env0 bd r h) ?_)
  intro res s' hq
  cases res with
  | error e => exact hx pins σ H s e s' I hq
  | ok fl =>
    cases fl with
    | ret u => exact I.after hq
    | next => exact hq.elim
    | brk => exact hq.elim
    | cont => exact hq.elim
/-- f(e, ..), f a def of the text -/
theorem pe_g (F : FnG X.prog X.w X.K X.mg X.base CX k f fd ps sp) (hr : Rm k X.A) (hm : X.mg x = some (.ref f))
    (hk : PySem.W.keepIn X.K (.ref f) = true) (hb : Binds X.K fd ps []) (hx : Passes CX X E) (ha : PA X (e :: es) t) (hg : Gl X x := by rfl)
    (hdb : (x == ("__debug__" : Str)) = false := by decide)
    (he : starEach (e :: es) X.env = (false, eval e X.env) :: starEach es X.env := by rfl)
    (hpl : (backTo pos (starEach es X.env)).any (·.1) = false := by rfl) :
    PE X (.Call (.Name x p) (e :: es) [] pos) (fun σ H Q => t σ H fun vs H1 => sp vs H1 Q E) := by
  constructor
  intro pins s σ H Q I h
  refine wpAny_Call_Name_kw (ld_glob I hg hm ?_ hdb)
  refine PySem.W.callWith_K (h₀ := X.base) I.ok.mod.kin hk ?_ he hpl
  exact thn (ha.run pos pins s σ H _ I h) fun us s1 ⟨vs, H1, I1, r, q⟩ => ⟨I1.kIn, call_g F hr hb hx I1 r q⟩
end

/-! the law's own end: its def is called where nothing is under way -/
section
variable {P : Program} {w : World} {K : PySem.W.Frag} {mg mb : Str → Option Value} {CX : CXT} {k : Nat} {fa a : Addr}
  {fd : FuncData} {x : Str} {sp : Sp} {s : Shared} {vs : List Value} {ns : List Int}
/-- the goal behind the call -/
def LawEnd (s : Shared) (r : Result) (t : Shared) : Prop :=
  r = .ok (.ret (.bool true)) ∧ OldK s.heap t.heap ∧ t.os = s.os ∧ AllBare t.gens
theorem law_core {H : Hp}
    (KX : K.In s.heap) (hns : s.heap.Ns mainGlobals mg) (hb : s.heap.Ns builtinsNs mb)
    (hbb : ∀ y : Str, y ≠ "__name__" → mb y = bootBuiltins y) (nl : s.heap.NoLimit) (hg : s.gens = #[])
    (ha : s.heap.get? a = some { cls := .type "list", data := .seq vs.toArray }) (hr : Rm k callerA)
    (F : ∀ base : Heap, K.In base → base.Ns mainGlobals mg → FnG P w K mg base CX k fa fd [x] sp)
    (hbind : ∀ (s : Shared) (u : Value), BindsTo s fd ⟨[u], []⟩ [(x, u)])
    (hsp : sp [.ref a] H (fun v _ => v = .bl true) fun _ _ _ => False)
    (hCX : ∀ e s', CX [] H s (fun _ _ _ => False) e s' → False)
    (only : Only H) (ok : HOk P w H s.heap) (at_a : ∀ b, H b ≠ none → b = a) (out : H a ≠ none → K.lookup a = none) :
    codeAny (model P w) callerA (.call (.ref fa) ⟨[.ref a], []⟩) (LawEnd s) s := by
  have ne_a : ∀ {b : Addr} {o : Obj}, s.heap.get? b = some o → (∀ y n, o.data ≠ .seq y n) → H b = none := by
    intro b o e no
    by_cases hb : H b = none
    · exact hb
    · rw [at_a b hb, ha] at e
      exact absurd (congrArg Obj.data (Option.some.inj e)).symm (no _ _)
  have sees : ∀ {b : Addr} {m : Str → Option Value}, s.heap.Ns b m → (hidT s.heap H).Ns b m := by
    rintro b m ⟨o, es, ep, e, d, r⟩
    refine ⟨o, es, ep, hidT_get e (ne_a e ?_), d, r⟩
    intro y n z
    rw [d] at z
    cases z
  have inB : K.In (hidT s.heap H) := by
    intro b o e
    refine hidT_get (KX b o e) ?_
    by_cases hb : H b = none
    · exact hb
    · have eb := at_a b hb
      subst eb
      rw [out hb] at e
      cases e
  obtain ⟨mc, l1, l2⟩ := nl
  have md : Mod K mg (hidT s.heap H) := ⟨inB, sees hns, ⟨mb, sees hb, hbb⟩, ⟨mc, sees l1, l2⟩⟩
  have e0 : Env0 P w K mg (hidT s.heap H) callerA [] s H := by
    refine ⟨rfl, md, fun b o e => of_hidT e, Nat.le_of_eq (hidT_size _ _), trivial, ?_, ok, .of_eq hg⟩
    intro b z
    cases z
  have vv : Vals [V.ref a] [Value.ref a] := .cons rfl .nil
  refine codeAny_mono ((F _ inB (sees hns)).runs (us := [.ref a]) hr e0 (hbind s (.ref a)) vv hsp) ?_
  intro r t h
  cases r with
  | error e => exact (hCX e t h).elim
  | ok fl =>
    cases fl with
    | next => exact h.elim
    | brk => exact h.elim
    | cont => exact h.elim
    | ret u =>
      obtain ⟨v, H', os, bare, un, ok', rv, q⟩ := h
      have q2 : v = .bl true := q
      subst q2
      have eu : u = Value.bool true := rv
      subst eu
      refine ⟨rfl, OldK.of_keep ?_, os, bare⟩
      intro b o e
      cases hb : H b with
      | none => exact un.keep b o e hb (by intro z; cases z) (by intro z; cases z)
      | some y =>
        cases only b with
        | inl z => exact absurd (hb.symm.trans z) (by intro z; cases z)
        | inr z =>
          obtain ⟨ob, xs, z⟩ := z
          have e1 := (ok b _ z).1
          have e2 := (ok' b _ (un.frzs b ob _ z)).1
          rw [e] at e1
          cases e1
          exact e2
theorem law_g
    (KX : K.In s.heap) (hns : s.heap.Ns mainGlobals mg) (hb : s.heap.Ns builtinsNs mb)
    (hbb : ∀ y : Str, y ≠ "__name__" → mb y = bootBuiltins y) (nl : s.heap.NoLimit) (hg : s.gens = #[])
    (ha : s.heap.get? a = some { cls := .type "list", data := .seq vs.toArray }) (hi : IntsAre vs ns) (hl : ns.length ≤ sizeLine)
    (hr : Rm k callerA)
    (F : ∀ base : Heap, K.In base → base.Ns mainGlobals mg → FnG P w K mg base CX k fa fd [x] sp)
    (hbind : ∀ (s : Shared) (u : Value), BindsTo s fd ⟨[u], []⟩ [(x, u)])
    (hsp : ∀ H : Hp, Only H → SqL K H a (ns.map V.int) → sp [.ref a] H (fun v _ => v = .bl true) fun _ _ _ => False)
    (hCX : ∀ H e s', CX [] H s (fun _ _ _ => False) e s' → False) :
    codeAny (model P w) callerA (.call (.ref fa) ⟨[.ref a], []⟩) (LawEnd s) s := by
  have rv := vals_ints hi
  have nv := hi.length
  cases free : K.lookup a with
  | some o =>
    have e := KX a o free
    rw [ha] at e
    cases e
    have only : Only (fun _ => none) := fun _ => .inl rfl
    refine law_core KX hns hb hbb nl hg ha hr F hbind (hsp _ only (.inr ⟨_, vs.toArray, _, free, rfl, rfl, rfl, ?_, by simpa using rv⟩))
      (hCX _) only (fun b u z => nomatch (show (none : Option HO) = some u from z)) (fun b z => absurd rfl z) (fun z => absurd rfl z)
    rw [List.size_toArray, nv]
    exact hl
  | none =>
    have only : Only (fun b => if b = a then some (.frz { cls := .type "list", data := .seq vs.toArray } (.lst (ns.map V.int))) else none) := by
      intro b
      by_cases e : b = a
      · exact .inr ⟨_, _, if_pos e⟩
      · exact .inl (if_neg e)
    refine law_core KX hns hb hbb nl hg ha hr F hbind (hsp _ only (.inl (.inr ⟨_, if_pos rfl⟩))) (hCX _) only ?_ ?_ (fun _ => free)
    · intro b u z
      by_cases e : b = a
      · have z1 := (if_pos e).symm.trans z
        cases z1
        subst e
        refine ⟨ha, ?_, vs, _, rv, ha⟩
        rw [List.length_map]
        exact hl
      · have z1 := (if_neg e).symm.trans z
        cases z1
    · intro b z
      by_cases e : b = a
      · exact e
      · exact absurd (if_neg e) z
end
/-- the head's end: what is known behind the top gives the law's promise -/
theorem walk_g {l : PySem.W.OpenLaw} {n k : Nat} {q : Program} {loose : List Str} {XP : (Str → Option Value) → Heap → Prop}
    {YP : World → Heap → Prop} {d : DefRec} {CX : CXT} {x : Str}
    (hn : l.most = some n) (hn2 : n ≤ sizeLine) (hdf : d.params.defaults = []) (hr : Rm k callerA)
    (F : ∀ (w : World) (mg : Str → Option Value) (fa : Addr) (h : Heap), YP w h → h.Ns mainGlobals mg → mg d.name = some (.ref fa) →
      ∃ (K : PySem.W.Frag) (fd : FuncData) (sp : Sp), K.In h ∧ (∀ (s : Shared) (u : Value), BindsTo s fd ⟨[u], []⟩ [(x, u)]) ∧
        (∀ (H : Hp) (a : Addr) (ns : List Int), ns.length ≤ n → SqL K H a (ns.map V.int) →
          sp [.ref a] H (fun v _ => v = .bl true) fun _ _ _ => False) ∧
        ∀ base : Heap, K.In base → base.Ns mainGlobals mg → FnG l.prog w K mg base CX k fa fd [x] sp)
    (hCX : ∀ (H : Hp) (s : Shared) (e : Value) (s' : Shared), CX [] H s (fun _ _ _ => False) e s' → False) :
    PySem.W.WalkO q loose XP YP l.row.toRowW d [] (fun f vs => PySem.call f vs) := by
  refine Att.attach_call hn hdf ?_
  intro w s0 s1 mg mb fa o pm cd doc a vs ns G Y ho hd hcd hmg hobj hints hlen hg
  obtain ⟨K, fd, sp, KX, hb, hsp, hF⟩ := F w mg fa _ Y G.T.g hmg
  exact law_g KX G.T.g G.T.b G.T.builtins G.T.nolimit hg hobj hints (Nat.le_trans hlen hn2) hr hF hb
    (fun H _ hS => hsp H a ns hlen hS) (fun H e s' => hCX H s1 e s')
end MM

set_option Elab.async false
set_option maxRecDepth 100000
set_option maxHeartbeats 2000000
set_option linter.all false
namespace MM
open PySem PySem.Spec PyProof.Rows L2

/-! a def of the text under its name -/
def Def (P : Program) (w : World) (K : PySem.W.Frag) (mg : Str → Option Value) (base : Heap) (CX : CXT) (k : Nat) (x : Str) (ps : List Str) (sp : Sp) : Prop :=
  ∃ f fd, FnG P w K mg base CX k f fd ps sp ∧ mg x = some (.ref f) ∧ PySem.W.keepIn K (.ref f) = true ∧ L2.Binds K fd ps [] ∧ ∃ oc od sl, K.lookup f = some ⟨oc, od, .func fd, sl⟩
/-- a def of the text as it stands behind the top -/
structure At (K : PySem.W.Frag) (mg : Str → Option Value) (x : Str) (st : Stmt) : Prop where
  fn : ∃ fd, FunD K x x (defArgs st) (defBody st) (defScope st) [] [] (He.ga K x) fd
  glo : mg x = some (.ref (He.ga K x))
section
variable {P : Program} {w : World} {K : PySem.W.Frag} {mg : Str → Option Value} {base : Heap} {CX : CXT} {j k : Nat} {x : Str} {ps : List Str} {sp : Sp} {st : Stmt}
theorem Def.le (D : Def P w K mg base CX j x ps sp) (h : j ≤ k) : Def P w K mg base CX k x ps sp :=
  let ⟨f, fd, F, r⟩ := D
  ⟨f, fd, F.le h, r⟩
theorem At.defX {N : List Str} (T : At K mg x st) (S : FnScope N ps (defScope st))
    (hb : ∀ (kV doc pm : Value) (an : Option Addr) (cd ct : Value) (us : List Value), us.length = ps.length →
      bindArgs (PySem.W.fnOf x x (defArgs st) (defBody st) (defScope st) .none kV doc pm an cd ct) ⟨us, []⟩ = pure (ps.zip us))
    (arity : ∀ vs H Q E, sp vs H Q E → vs.length = ps.length)
    (body : ∀ (f : Addr) (cd : Value) (A : Around) (out : List Env) (s : Shared) (H : Hp) (vs : List V) (Q : VK) (E : XK),
      Rm k (A.deeper (envOfC x (defScope st) s.heap.objs.size f cd)) → sp vs H Q E →
      ∃ t, PSs (cxOf CX P w K mg base N x (defScope st) f cd A out s H E) (defBody st) t ∧
        t { nx := fun _ H' => Q .non H', rt := Q } (start N vs) H) : Def P w K mg base CX (k + 1) x ps sp := by
  obtain ⟨fd, F⟩ := T.fn
  obtain ⟨oc, od, _, _, _, _, _, _, _, osl, _, lk, _⟩ := F.ex
  exact ⟨_, fd, FnG.body F S arity (body _), T.glo, F.kp, F.bindsN hb, oc, od, osl, lk⟩
/-- the same for a def that nothing leaves -/
theorem At.def_ {N : List Str} (T : At K mg x st) (S : FnScope N ps (defScope st))
    (hb : ∀ (kV doc pm : Value) (an : Option Addr) (cd ct : Value) (us : List Value), us.length = ps.length →
      bindArgs (PySem.W.fnOf x x (defArgs st) (defBody st) (defScope st) .none kV doc pm an cd ct) ⟨us, []⟩ = pure (ps.zip us))
    (arity : ∀ vs H Q E, sp vs H Q E → vs.length = ps.length)
    (body : ∀ (f : Addr) (cd : Value) (A : Around) (out : List Env) (s : Shared) (H : Hp) (vs : List V) (Q : VK) (E : XK),
      Rm k (A.deeper (envOfC x (defScope st) s.heap.objs.size f cd)) → sp vs H Q E →
      ∃ t, PSs (cxOf CX P w K mg base N x (defScope st) f cd A out s H E).nox (defBody st) t ∧
        t { nx := fun _ H' => Q .non H', rt := Q } (start N vs) H) : Def P w K mg base CX (k + 1) x ps sp := by
  refine T.defX S hb arity (fun f cd A out s H vs Q E hr h => ?_)
  obtain ⟨t, d, q⟩ := body f cd A out s H vs Q E hr h
  exact ⟨t, d.nox, q⟩
end
section
variable {X : Cx} {CX : CXT} {k : Nat} {ps : List Str} {sp : Sp} {E : XK} {x : Str} {p pos : Pos} {e : Expr} {es : List Expr} {t : TA}
/-- f(e, ..) -/
def tD (sp : Sp) (E : XK) (t : TA) : TE := fun σ H Q => t σ H fun vs H1 => sp vs H1 Q E
theorem pe_d (D : Def X.prog X.w X.K X.mg X.base CX k x ps sp) (hr : Rm k X.A) (hx : Passes CX X E) (ha : PA X (e :: es) t) (hg : Gl X x := by rfl)
    (hdb : (x == ("__debug__" : Str)) = false := by decide)
    (he : starEach (e :: es) X.env = (false, eval e X.env) :: starEach es X.env := by rfl)
    (hpl : (backTo pos (starEach es X.env)).any (·.1) = false := by rfl) : PE X (.Call (.Name x p) (e :: es) [] pos) (tD sp E t) := by
  obtain ⟨f, fd, F, hm, hk, hb, _⟩ := D
  exact pe_g F hr hm hk hb hx ha hg hdb he hpl
end

/-! tests whose answer is known -/
theorem ifT {c : Bool} {A B : Prop} (h : c = true) (a : A) : if c = true then A else B := by
  rw [if_pos h]
  exact a
theorem ifF {c : Bool} {A B : Prop} (h : c = false) (b : B) : if c = true then A else B := by
  rw [h, if_neg Bool.false_ne_true]
  exact b
theorem dInt (a b : Int) : decide (V.int a = V.int b) = decide (a = b) := by
  by_cases e : a = b
  · rw [e, decide_eq_true rfl, decide_eq_true rfl]
  · rw [decide_eq_false e, decide_eq_false (fun z => e (V.int.inj z))]
/-! more rules by values -/
section
variable {X : Cx}
/-- ** of great numbers -/
def CPw (i j : Int) : Prop := 0 ≤ j ∧ (Builtin.Int.intBits i : Int) * j ≤ 2 ^ 27
instance (i j : Int) : Decidable (CPw i j) := inferInstanceAs (Decidable (_ ∧ _))
instance (i j : Int) : Decidable (CDivW i j) := inferInstanceAs (Decidable (_ ∧ _))
theorem op_pw : OpR X (binaryOp .Pow) (rI CPw fun i j => .int (i ^ j.toNat)) := opI fun _ _ _ _ _ _ _ hc q => pow_int hc.1 hc.2 q
/-- repr of data -/
def rRepr (K : PySem.W.Frag) : List V → Hp → VK → Prop := fun xs H Q =>
  ∃ x d, xs = [x] ∧ Dp K H x d ∧ SeqAt.shaped d = true ∧ d.showable = true ∧ d.shown.length ≤ sizeLine ∧ Q (.str d.shown) H
theorem cr_repr (hg : X.A.guards = some []) (hu : X.A.units + 66 < cLine) : CallR X (.builtin "repr") (rRepr X.K) := by
  intro pins s σ H xs us Q I r h
  obtain ⟨x, d, rfl, hd, hs, hw, hz, q⟩ := h
  obtain ⟨u, rfl, ru⟩ := vals1 r
  have hdep := SeqAt.depth_of_shaped hs
  have hno := PyData.hasDict_of_canLay d (SeqAt.canLay_of_shaped hs)
  obtain ⟨as, rd⟩ := Dp.reads I d x u hd ru
  have fin : ∀ (h' : Heap) (z : Tok) (tk : Nat), (∀ b o, s.heap.get? b = some o → h'.get? b = some o) →
      EP X pins σ Q (.str d.shown z) { s with heap := h', toks := tk } := fun h' z tk hk => ⟨.str _, H, I.kept hk, ⟨_, rfl⟩, q⟩
  cases hd with
  | non =>
    cases ru
    exact PySem.P.repr_of_none (fin s.heap _ _ fun _ _ e => e)
  | bl b =>
    cases ru
    exact PySem.P.repr_of_bool (fin s.heap _ _ fun _ _ e => e)
  | int i =>
    obtain ⟨t, rfl⟩ := ru
    exact PySem.P.repr_of_int (of_decide_eq_true hw) (fin s.heap _ _ fun _ _ e => e)
  | str z =>
    obtain ⟨t, rfl⟩ := ru
    exact PySem.P.repr_of_str (fin s.heap _ _ fun _ _ e => e) hz
  | lst h1 h2 =>
    cases ru
    exact repr_of_reads' rd hw (PyData.noDict_hsm hno) hg (by omega) (fun _ _ e => e) (fun h' z tk hk => fin h' z tk hk) hz
  | tup h1 h2 =>
    cases ru
    exact repr_of_reads' rd hw (PyData.noDict_hsm hno) hg (by omega) (fun _ _ e => e) (fun h' z tk hk => fin h' z tk hk) hz
end
end MM

set_option Elab.async false
set_option maxRecDepth 100000
set_option maxHeartbeats 2000000
set_option linter.all false
namespace MM
open PySem PySem.Spec PyProof.Rows L2
/-! what kind a value is of -/
inductive Kn where
  | non | bl | int | str | lst | tup | dct
def Kn.name : Kn → String
  | .non => "NoneType"
  | .bl => "bool"
  | .int => "int"
  | .str => "str"
  | .lst => "list"
  | .tup => "tuple"
  | .dct => "dict"
def Kn.isa : Kn → Kn → Bool
  | .bl, .int => true
  | .non, .non => true
  | .bl, .bl => true
  | .int, .int => true
  | .str, .str => true
  | .lst, .lst => true
  | .tup, .tup => true
  | .dct, .dct => true
  | _, _ => false
theorem Kn.isa_ok (n m : Kn) : kitB n.name m.name = some (n.isa m) := by cases n <;> cases m <;> decide +kernel
inductive Kd (K : PySem.W.Frag) (H : Hp) : V → Kn → Prop where
  | non : Kd K H .non .non
  | bl (b : Bool) : Kd K H (.bl b) .bl
  | int (i : Int) : Kd K H (.int i) .int
  | str (z : Str) : Kd K H (.str z) .str
  | lst {a : Addr} {xs : List V} (h : SqL K H a xs) : Kd K H (.ref a) .lst
  | tup {a : Addr} {xs : List V} (h : SqT K H a xs) : Kd K H (.ref a) .tup
  | dct {a : Addr} {kvs : List (Key × V)} (h : H a = some (.dK kvs)) : Kd K H (.ref a) .dct
theorem Kd.ty {K : PySem.W.Frag} {H : Hp} {x : V} {n : Kn} (h : Kd K H x n) : TyX K H x (.type n.name) := by
  cases h with
  | non => exact .base .non
  | bl b => exact .base (.bl b)
  | int i => exact .base (.int i)
  | str z => exact .base (.str z)
  | lst h =>
    rcases h with (h | ⟨o, h⟩) | ⟨o, its, k, h, c, _⟩
    · exact .base (.lst h)
    · exact .base (.frz h)
    · exact .kList h c
  | tup h =>
    rcases h with h | h
    · rcases h with h | ⟨o, h⟩
      · exact .base (.tup h)
      · exact .fTuple h
    · obtain ⟨o, its, k, h, c, _⟩ := h
      exact .kTuple h c
  | dct h => exact .base (.dK h)
/-- an int, and no bool -/
def isW : V → Bool
  | .int _ => true
  | _ => false
section
variable {X : Cx}
def rIs (K : PySem.W.Frag) (m : Kn) : List V → Hp → VK → Prop := fun xs H Q => ∃ x n, xs = [x, .ty m.name] ∧ Kd K H x n ∧ Q (.bl (n.isa m)) H
theorem cr_is (m : Kn) : CallR X (.builtin "isinstance") (rIs X.K m) := by
  intro pins s σ H xs us Q I r h
  obtain ⟨x, n, rfl, hk, q⟩ := h
  exact call_isi pins s σ H _ us Q I r ⟨x, .ty m.name, .type n.name, .type m.name, n.isa m, rfl, .ty _, hk.ty, kit_ty (n.isa_ok m), q⟩
/-- a built-in class by its name -/
theorem pe_ty (m : Kn) {x : Str} {pos : Pos} (hm : X.mg x = none) (hv : bootBuiltins x = some (.type m.name)) (hg : Gl X x := by rfl) (hn : x ≠ "__name__" := by decide)
    (hdb : (x == ("__debug__" : Str)) = false := by decide) : PE X (.Name x pos) (tC (.ty m.name)) := pe_bltn hg hm hv rfl hn hdb
end
/-! heaps -/
theorem same_new {H : Hp} {p : Addr} {o : HO} (h : H p = none) : Same H (upd H p o) := fun b x e => by
  rw [upd_ne (ne_of_none e h)]
  exact e
theorem sql_new {K : PySem.W.Frag} {H : Hp} {p l : Addr} {xs : List V} {o : HO} (h : SqL K H l xs) (n : H p = none) : SqL K (upd H p o) l xs := (same_new n).seq h
theorem same_sqt {K : PySem.W.Frag} {H H' : Hp} {a : Addr} {xs : List V} (e : Same H H') (h : SqT K H a xs) : SqT K H' a xs := by
  rcases h with (h | ⟨o, h⟩) | h
  · exact .inl (.inl (e _ _ h))
  · exact .inl (.inr ⟨o, e _ _ h⟩)
  · exact .inr h
theorem sqt_new {K : PySem.W.Frag} {H : Hp} {p l : Addr} {xs : List V} {o : HO} (h : SqT K H l xs) (n : H p = none) : SqT K (upd H p o) l xs := same_sqt (same_new n) h
theorem sql_upd {K : PySem.W.Frag} {H : Hp} {p l : Addr} {xs : List V} {o : HO} (h : SqL K H l xs) (ne : l ≠ p) : SqL K (upd H p o) l xs := by
  rcases h with (h | ⟨u, h⟩) | h
  · exact .inl (.inl (by rw [upd_ne ne]; exact h))
  · exact .inl (.inr ⟨u, by rw [upd_ne ne]; exact h⟩)
  · exact .inr h
theorem sqt_upd {K : PySem.W.Frag} {H : Hp} {p l : Addr} {xs : List V} {o : HO} (h : SqT K H l xs) (ne : l ≠ p) : SqT K (upd H p o) l xs := by
  rcases h with (h | ⟨u, h⟩) | h
  · exact .inl (.inl (by rw [upd_ne ne]; exact h))
  · exact .inl (.inr ⟨u, by rw [upd_ne ne]; exact h⟩)
  · exact .inr h
theorem Kd.same {K : PySem.W.Frag} {H H' : Hp} {x : V} {n : Kn} (e : Same H H') (h : Kd K H x n) : Kd K H' x n := by
  cases h with
  | non => exact .non
  | bl b => exact .bl b
  | int i => exact .int i
  | str z => exact .str z
  | lst h => exact .lst (e.seq h)
  | tup h => exact .tup (same_sqt e h)
  | dct h => exact .dct (e _ _ h)
/-! a list comprehension whose elements are reckoned without a new object -/
section
variable {K : PySem.W.Frag} {v : Nat} {te : TE} {σ : L2.St} {H1 : Hp} {D : Addr} {Qd : Hp → Prop} {n : Nat}
/-- what tLc asks of its walk -/
def LcW (J : It) (g : TG) (tt : TT) (te : TE) (vs : List Nat) (σ : L2.St) (H1 : Hp) (D : Addr) (Qd : Hp → Prop) : Prop :=
  ∃ W : Nat → Nat → Hp → Prop, (∃ m, W 0 m (upd H1 D (.lst []))) ∧ ∀ i m H, W i m H →
    (J.stop i H ∧ Qd H) ∨ (J.go i H ∧ ∃ Nx : Hp → Prop, (∀ H', Nx H' → ∃ m', m' < m ∧ W (i + 1) m' H') ∧
      ∀ x H', J.yld i H x H' → g x (wipe σ vs) H' fun σ2 H2 => wipe σ2 vs = wipe σ vs ∧ tt σ2 H2 fun b H3 =>
        if b = true then te σ2 H3 fun y H4 => ∃ acc, H4 D = some (.lst acc) ∧ acc.length < sizeLine ∧ Nx (upd H4 D (.lst (acc ++ [y]))) else Nx H3)
theorem yes_ {H : Hp} {A B : Hp → Prop} (h : A H) : tYes σ H fun b H3 => if b = true then A H3 else B H3 := by
  show (if true = true then A H else B H)
  rw [if_pos rfl]
  exact h
theorem wipe_one {x : Option V} : wipe ((wipe σ [v]).set v x) [v] = wipe σ [v] := by
  show ((σ.set v none).set v x).set v none = σ.set v none
  rw [List.set_set, List.set_set]
theorem lc_rng {lo : Int} (f : Nat → V) (hn : n ≤ sizeLine)
    (hs : ∀ i acc, i < n → ∀ Q : VK, Q (f i) (upd H1 D (.lst acc)) → te ((wipe σ [v]).set v (some (.int (lo + i)))) (upd H1 D (.lst acc)) Q)
    (hd : Qd (upd H1 D (.lst ((List.range n).map f)))) : LcW (Itr lo n) (gName v) tYes te [v] σ H1 D Qd := by
  refine lc_range (Pv := fun i H => H = upd H1 D (.lst ((List.range i).map f))) rfl ?_ (fun H e => by rw [e]; exact hd)
  intro i H hi e
  subst e
  refine ⟨wipe_one, yes_ ?_⟩
  refine hs i _ hi _ ⟨_, upd_same, ?_, ?_⟩
  · rw [List.length_map, List.length_range]
    exact Nat.lt_of_lt_of_le hi hn
  · rw [upd_upd, List.range_succ, List.map_append]
    rfl
theorem lc_seq {a : Addr} {xs : List V} (f : V → V) (hx : SqL K H1 a xs) (nD : H1 D = none) (hn : xs.length ≤ sizeLine)
    (hs : ∀ x acc, x ∈ xs → ∀ Q : VK, Q (f x) (upd H1 D (.lst acc)) → te ((wipe σ [v]).set v (some x)) (upd H1 D (.lst acc)) Q)
    (hd : Qd (upd H1 D (.lst (xs.map f)))) : LcW (Itl K a) (gName v) tYes te [v] σ H1 D Qd := by
  refine lc_list (xs := xs) (Pv := fun i H => H = upd H1 D (.lst ((xs.take i).map f))) rfl (fun i H _ e => by rw [e]; exact sql_new hx nD) ?_ (fun H e => by rw [e, List.take_length]; exact hd)
  intro i x H hi e
  subst e
  have lt : i < xs.length := (List.getElem?_eq_some_iff.mp hi).1
  refine ⟨wipe_one, yes_ ?_⟩
  refine hs x _ (List.mem_of_getElem? hi) _ ⟨_, upd_same, ?_, ?_⟩
  · rw [List.length_map, List.length_take]
    omega
  · rw [upd_upd, List.take_add_one, hi, List.map_append]
    rfl
theorem lc_tpl {a : Addr} {xs : List V} (f : V → V) (hx : SqT K H1 a xs) (nD : H1 D = none) (hn : xs.length ≤ sizeLine)
    (hs : ∀ x acc, x ∈ xs → ∀ Q : VK, Q (f x) (upd H1 D (.lst acc)) → te ((wipe σ [v]).set v (some x)) (upd H1 D (.lst acc)) Q)
    (hd : Qd (upd H1 D (.lst (xs.map f)))) : LcW (Itt K a) (gName v) tYes te [v] σ H1 D Qd := by
  refine lc_tup (xs := xs) (Pv := fun i H => H = upd H1 D (.lst ((xs.take i).map f))) rfl (fun i H _ e => by rw [e]; exact sqt_new hx nD) ?_ (fun H e => by rw [e, List.take_length]; exact hd)
  intro i x H hi e
  subst e
  have lt : i < xs.length := (List.getElem?_eq_some_iff.mp hi).1
  refine ⟨wipe_one, yes_ ?_⟩
  refine hs x _ (List.mem_of_getElem? hi) _ ⟨_, upd_same, ?_, ?_⟩
  · rw [List.length_map, List.length_take]
    omega
  · rw [upd_upd, List.take_add_one, hi, List.map_append]
    rfl
/-- with a test -/
theorem lc_rngF {tt : TT} {lo : Int} (p : Nat → Bool) (f : Nat → V) (hn : n ≤ sizeLine)
    (ht : ∀ i acc, i < n → ∀ Q : Bool → Hp → Prop, Q (p i) (upd H1 D (.lst acc)) → tt ((wipe σ [v]).set v (some (.int (lo + i)))) (upd H1 D (.lst acc)) Q)
    (hs : ∀ i acc, i < n → p i = true → ∀ Q : VK, Q (f i) (upd H1 D (.lst acc)) → te ((wipe σ [v]).set v (some (.int (lo + i)))) (upd H1 D (.lst acc)) Q)
    (hd : Qd (upd H1 D (.lst (((List.range n).filter p).map f)))) : LcW (Itr lo n) (gName v) tt te [v] σ H1 D Qd := by
  refine lc_range (Pv := fun i H => H = upd H1 D (.lst (((List.range i).filter p).map f))) rfl ?_ (fun H e => by rw [e]; exact hd)
  intro i H hi e
  subst e
  have le : (((List.range i).filter p).map f).length ≤ i := by
    rw [List.length_map]
    exact Nat.le_trans (List.length_filter_le _ _) (Nat.le_of_eq List.length_range)
  refine ⟨wipe_one, ht i _ hi _ ?_⟩
  cases e : p i with
  | true =>
    rw [if_pos rfl]
    refine hs i _ hi e _ ⟨_, upd_same, Nat.lt_of_le_of_lt le (Nat.lt_of_lt_of_le hi hn), ?_⟩
    rw [upd_upd, List.range_succ, List.filter_append, List.map_append]
    simp [e]
  | false =>
    rw [if_neg Bool.false_ne_true, List.range_succ, List.filter_append, List.map_append]
    simp [e]
end
/-! data: ints and bools in lists and tuples -/
section
variable {K : PySem.W.Frag} {H : Hp}
theorem dp_ints : ∀ ns : List Int, DpAll K H (ns.map V.int) (ns.map PyData.int)
  | [] => .nil
  | n :: r => .cons (.int n) (dp_ints r)
theorem dp_bools : ∀ bs : List Bool, DpAll K H (bs.map V.bl) (bs.map PyData.bool)
  | [] => .nil
  | b :: r => .cons (.bl b) (dp_bools r)
end
theorem lay_ints : ∀ ns : List Int, PyData.canLayAll0 (ns.map PyData.int) = true
  | [] => rfl
  | n :: r => by
    show (PyData.canLay0 (.int n) && PyData.canLayAll0 (r.map PyData.int)) = true
    rw [lay_ints r]
    rfl
theorem dep_ints : ∀ ns : List Int, PyData.depthAll (ns.map PyData.int) ≤ 1
  | [] => by decide
  | n :: r => by
    have := dep_ints r
    simp only [List.map_cons, PyData.depthAll, PyData.depth]
    omega
theorem shaped_ints (ns : List Int) : SeqAt.shaped (.list (ns.map PyData.int)) = true := by
  unfold SeqAt.shaped
  have h := dep_ints ns
  rw [show PyData.canLay0 (.list (ns.map PyData.int)) = true from lay_ints ns, Bool.true_and]
  refine decide_eq_true ?_
  simp only [PyData.depth]
  omega
theorem lay_bools : ∀ bs : List Bool, PyData.canLayAll0 (bs.map PyData.bool) = true
  | [] => rfl
  | b :: r => by
    show (PyData.canLay0 (.bool b) && PyData.canLayAll0 (r.map PyData.bool)) = true
    rw [lay_bools r]
    rfl
theorem dep_bools : ∀ bs : List Bool, PyData.depthAll (bs.map PyData.bool) ≤ 1
  | [] => by decide
  | n :: r => by
    have := dep_bools r
    simp only [List.map_cons, PyData.depthAll, PyData.depth]
    omega
theorem shaped_bools (bs : List Bool) : SeqAt.shaped (.list (bs.map PyData.bool)) = true := by
  unfold SeqAt.shaped
  have h := dep_bools bs
  rw [show PyData.canLay0 (.list (bs.map PyData.bool)) = true from lay_bools bs, Bool.true_and]
  refine decide_eq_true ?_
  simp only [PyData.depth]
  omega
theorem shapedT_ints (ns : List Int) : SeqAt.shaped (.tuple (ns.map PyData.int)) = true := by
  unfold SeqAt.shaped
  have h := dep_ints ns
  rw [show PyData.canLay0 (.tuple (ns.map PyData.int)) = true from lay_ints ns, Bool.true_and]
  refine decide_eq_true ?_
  simp only [PyData.depth]
  omega
theorem eqvAll_ints : ∀ ns ms : List Int, PyData.eqvAll (ns.map PyData.int) (ms.map PyData.int) = decide (ns = ms)
  | [], [] => rfl
  | [], _ :: _ => rfl
  | _ :: _, [] => rfl
  | n :: r, m :: q => by
    show (PyData.eqv (.int n) (.int m) && PyData.eqvAll (r.map PyData.int) (q.map PyData.int)) = _
    rw [eqvAll_ints r q]
    show ((n == m) && decide (r = q)) = _
    by_cases e : n = m
    · subst e
      by_cases f : r = q
      · subst f
        simp
      · simp [f]
    · simp [e]
end MM

set_option Elab.async false
set_option linter.all false
set_option maxRecDepth 100000
set_option maxHeartbeats 2000000
namespace K08
open PySem PySem.Spec PyProof.Rows L2 MM
/-! own words for the readings: a step, its side -/
local macro_rules | `(tactic| walk_at "side") => `(tactic| first
  | omega
  | exact ⟨by omega, by omega⟩
  | exact Or.inl ⟨by omega, by omega⟩
  | exact Or.inr ⟨by omega, by omega⟩
  | (show CPw _ _; decide +kernel)
  | (show (0 : Int) < _; decide +kernel)
  | (show CDivW _ _; first | assumption | exact ⟨by decide, by decide +kernel⟩))
local macro_rules | `(tactic| walk_at "here") => `(tactic| first
  | assumption
  | exact upd_same
  | exact Or.inl (Or.inl upd_same)
  | exact Or.inl upd_same)
local macro_rules | `(tactic| walk_at "one") => `(tactic| first
  | refine ⟨_, rfl, ?_⟩
  | refine Or.inl ⟨_, rfl, ?_⟩
  | refine Or.inr ⟨_, rfl, ?_⟩
  | refine ⟨_, _, rfl, rfl, (by walk_at "side"), ?_⟩
  | refine ⟨_, _, rfl, rfl, ?_⟩
  | refine ⟨_, _, rfl, Or.inl (by walk_at "here"), ?_⟩
  | refine ⟨_, _, rfl, Or.inr (by walk_at "here"), ?_⟩
  | refine ⟨_, _, rfl, (by walk_at "here"), ?_⟩
  | refine ⟨_, _, _, _, rfl, rfl, (by walk_at "here"), rfl, ?_⟩
  | refine ⟨_, _, rfl, ?_⟩
  | refine ifT (by rfl) ?_
  | refine ifF (by rfl) ?_
  | refine ifT (decide_eq_true (by omega)) ?_
  | refine ifF (decide_eq_false (by omega)) ?_)
local macro_rules | `(tactic| walk_at "st") => `(tactic| repeat (walk_at "one"))

structure Tx (K : PySem.W.Frag) (mg : Str → Option Value) : Prop where
  t_is_whole : At K mg "is_whole" sIsWhole
  t_is_between : At K mg "is_between" sIsBetween
  t_need_between : At K mg "need_between" sNeedBetween
  t_is_arrangement : At K mg "is_arrangement" sIsArrangement
  t_need_places : At K mg "need_places" sNeedPlaces
  t_is_move : At K mg "is_move" sIsMove
  t_followed : At K mg "followed" sFollowed
  t_words_of : At K mg "words_of" sWordsOf
  t_table_row : At K mg "_table_row" sTableRow
  t_table_of : At K mg "table_of" sTableOf
  t_undoing_of : At K mg "undoing_of" sUndoingOf
  t_body_with : At K mg "body_with" sBodyWith
  t_turned_body : At K mg "turned_body" sTurnedBody
  t_family_of : At K mg "_family_of" sFamilyOf
  t_powers_of : At K mg "powers_of" sPowersOf
  t_orders_of : At K mg "orders_of" sOrdersOf
  t_is_prime_power : At K mg "_is_prime_power" sIsPrimePower
  t_single_makers : At K mg "_single_makers" sSingleMakers
  t_families_of : At K mg "families_of" sFamiliesOf
  t_mask_of : At K mg "mask_of" sMaskOf
  t_in_order : At K mg "in_order" sInOrder
  t_need_makers : At K mg "_need_makers" sNeedMakers
  t_next_places : At K mg "_next_places" sNextPlaces
  t_need_group : At K mg "need_group" sNeedGroup
  t_beside : At K mg "beside" sBeside
  t_law_bag : At K mg "_law_bag" sBagL
  t_law_grab : At K mg "_law_grab" sGrabL
  t_law_one_of : At K mg "_law_one_of" sOneOfL
  t_law_mixed : At K mg "_law_mixed" sMixedL
  t_law_menu : At K mg "_law_menu" sMenuL
  t_law_behind : At K mg "_law_behind" sBehindL
  t_law_renamed : At K mg "_law_renamed" sRenamedL
  t_law_group_drawn : At K mg "_law_group_drawn" sGroupDrawnL
  t_law_lot_times : At K mg "_law_lot_times" sLotTimesL
  t_law_lot_made : At K mg "_law_lot_made" sLotMadeL
  t_law_told_by : At K mg "_law_told_by" sToldByL
  t_law_is_word : At K mg "_law_is_word" sIsWordL
  t_law_words_right : At K mg "_law_words_right" sWordsRightL
  t_law_beside : At K mg "_law_beside" sBesideL
  t_law_products_right : At K mg "_law_products_right" sProductsRightL
  t_law : At K mg "law" sLaw
  f_abs : mg "abs" = none
  f_all : mg "all" = none
  f_bool : mg "bool" = none
  f_enumerate : mg "enumerate" = none
  f_int : mg "int" = none
  f_isinstance : mg "isinstance" = none
  f_len : mg "len" = none
  f_list : mg "list" = none
  f_max : mg "max" = none
  f_min : mg "min" = none
  f_range : mg "range" = none
  f_set : mg "set" = none
  f_sorted : mg "sorted" = none
  f_sum : mg "sum" = none
  f_tuple : mg "tuple" = none
  c_MAX_PLACES : ∃ u, mg "MAX_PLACES" = some u ∧ RelV (.int (24)) u
  c_MAX_ORDER : ∃ u, mg "MAX_ORDER" = some u ∧ RelV (.int (120)) u
  c_MAX_SUBGROUPS : ∃ u, mg "MAX_SUBGROUPS" = some u ∧ RelV (.int (200)) u
  c_MAX_CLASSES : ∃ u, mg "MAX_CLASSES" = some u ∧ RelV (.int (60)) u
  c_MAX_MAKERS : ∃ u, mg "MAX_MAKERS" = some u ∧ RelV (.int (6)) u
  c_MOST_MEMBERS : ∃ u, mg "_MOST_MEMBERS" = some u ∧ RelV (.int (2000)) u

section
variable {P : Program} {w : World} {K : PySem.W.Frag} {mg : Str → Option Value} {base : Heap}
/-- a bag of draws -/
def BagAt (H : Hp) (p : Addr) : Prop := ∃ g m c : Int, H p = some (.lst [.int g, .int m, .int c])
def spBag (K : PySem.W.Frag) : Sp := fun vs H Q _ => ∃ (a : Addr) (n : Nat) (ns : List Int), vs = [.ref a, .int n] ∧ SqL K H a (ns.map V.int) ∧ n ≤ 100 ∧
  ∀ (H' : Hp) (p : Addr), Same H H' → H p = none → BagAt H' p → Q (.ref p) H'
theorem scBagL : FnScope ["_law_script", "_law_spot", "_law_cell", "_law_great", "_law_mixed_here"] ["_law_script", "_law_spot"] (defScope sBagL) :=
  ⟨rfl, rfl, rfl, by decide +kernel, rfl, by decide +kernel, by decide +kernel⟩
theorem dBagL (T : Tx K mg) : Def P w K mg base CX0 1 "_law_bag" ["_law_script", "_law_spot"] (spBag K) := by
  refine T.t_law_bag.def_ (N := ["_law_script", "_law_spot", "_law_cell", "_law_great", "_law_mixed_here"]) scBagL (fun _ _ _ _ _ _ us hl => match us, hl with | [_, _], _ => rfl) ?_ ?_
  · intro vs H Q E h
    obtain ⟨a, n, ns, rfl, _⟩ := h
    rfl
  · intro f cd A out s H vs Q E hr h
    obtain ⟨a, n, ns, rfl, hS, hn, q⟩ := h
    refine ⟨_, (pss_cons (ps_set (i := 2) scBagL.nd rfl (Or.inl rfl) (pe_ifExp (pt_cmpR op_lt (pv 1) (pe_callB call_len_seq rfl T.f_len (by decide +kernel) (pa_cons (pv 0) pa_nil)) (nomark _)) (pe_ix ix_list (pv 0) (pv 1) (fun _ _ => rfl)) (pe_op op_add (pe_op op_add (pe_callB (cr_sum rfl) rfl T.f_sum (by decide +kernel) (pa_cons (pe_slice sl_list (pv 0) po_none (po_some pe_int)) pa_nil)) (pe_op op_mul pe_int (pv 1))) pe_int)))
      (pss_cons (ps_set (i := 3) scBagL.nd rfl (Or.inl rfl) (pe_op op_mod (pe_callTy call_int1 rfl T.f_int (by decide +kernel) (pa_cons (pe_callB call_abs rfl T.f_abs (by decide +kernel) (pa_cons (pv 2) pa_nil)) pa_nil)) (pe_op op_pw (pe_op op_pw pe_int pe_int) pe_int)))
      (pss_cons (ps_set (i := 4) scBagL.nd rfl (Or.inl rfl) (pe_op op_add (pe_op op_add (pe_op op_add (pe_op op_mul (pe_op op_mod (pe_callTy call_int1 rfl T.f_int (by decide +kernel) (pa_cons (pv 3) pa_nil)) pe_int) pe_int) (pe_op op_mul pe_int (pv 1))) (pe_op op_mul pe_int (pe_callTy call_int1 rfl T.f_int (by decide +kernel) (pa_cons (pe_cmpR op_lt (pv 2) pe_int (nomark _)) pa_nil)))) pe_int))
      (pss_one (ps_ret (pe_lst (pa_cons (pe_callB (call_max2 rfl) rfl T.f_max (by decide +kernel) (pa_cons pe_int (pa_cons (pe_op op_sub (pv 3) (pe_op op_pw pe_int pe_int)) pa_nil))) (pa_cons (pe_op op_mod (pe_callTy call_int1 rfl T.f_int (by decide +kernel) (pa_cons (pv 4) pa_nil)) pe_int) (pa_cons pe_int pa_nil))))))))), ?_⟩
    -- behind the cell: whatever it is
    have fin : ∀ (H1 : Hp) (u v : Int), Same H H1 → ∀ p, H1 p = none → Q (.ref p) (upd H1 p (.lst [.int u, .int v, .int 0])) := by
      intro H1 u v sm p hp
      refine q _ p ?_ (sm.free hp) ⟨u, v, 0, upd_same⟩
      intro b o e
      rw [upd_ne (ne_of_none (sm b o e) hp)]
      exact sm b o e
    walk_at "st"
    refine ite2 (fun c => ?_) (fun c => ?_)
    · have lt : n < ns.length := by
        have := of_decide_eq_true c
        rw [List.length_map] at this
        omega
      refine ⟨_, rfl, _, rfl, a, _, _, _, rfl, rfl, hS, atI_cell lt, ?_⟩
      walk_at "st"
      exact ⟨by show 3 ≤ sizeLine; decide, fin H _ _ (Same.refl H)⟩
    · walk_at "st"
      intro p hp
      have sm : Same H (upd H p (.lst (cutV (ns.map V.int) none (some 1)))) := by
        intro b o e
        rw [upd_ne (ne_of_none e hp)]
        exact e
      have ec : cutV (ns.map V.int) none (some 1) = (ns.take 1).map V.int := by
        unfold cutV
        rw [HT.sIx_none, show HT.sIx (ns.map V.int).length (ns.map V.int).length (some 1) = min 1 (ns.map V.int).length from HT.sIx_nat _ _ 1, List.map_take, List.drop_zero, Nat.sub_zero]
        cases ns with
        | nil => rfl
        | cons x r => simp
      refine ⟨_, ns.take 1, rfl, ?_, ?_⟩
      · rw [← ec]
        exact .inl (.inl upd_same)
      walk_at "st"
      exact ⟨by show 3 ≤ sizeLine; decide, fin _ _ _ sm⟩
def spGrab : Sp := fun vs H Q _ => ∃ (p : Addr) (t g m c : Int), vs = [.ref p, .int t] ∧ H p = some (.lst [.int g, .int m, .int c]) ∧ CDivW 0 t ∧
  ∀ r g' m' c' : Int, 0 ≤ r → r < t → Q (.int r) (upd H p (.lst [.int g', .int m', .int c']))
theorem grab_out {H : Hp} {p : Addr} {t r : Int} {xs : List V} {Q : VK} (q : ∀ r g' m' c' : Int, 0 ≤ r → r < t → Q (.int r) (upd H p (.lst [.int g', .int m', .int c'])))
    (ht : 0 < t) (z : Int) (e : r = z % t) (ex : ∃ g' m' c', xs = [V.int g', V.int m', V.int c']) : Q (.int r) (upd H p (.lst xs)) := by
  obtain ⟨g', m', c', rfl⟩ := ex
  rw [e]
  exact q _ _ _ _ (Int.emod_nonneg _ (by omega)) (Int.emod_lt_of_pos _ ht)
theorem scGrabL : FnScope ["_law_bag_here", "_law_total", "_law_found", "_law_one", "_law_two"] ["_law_bag_here", "_law_total"] (defScope sGrabL) :=
  ⟨rfl, rfl, rfl, by decide +kernel, rfl, by decide +kernel, by decide +kernel⟩
theorem dGrabL (T : Tx K mg) : Def P w K mg base CX0 1 "_law_grab" ["_law_bag_here", "_law_total"] spGrab := by
  refine T.t_law_grab.def_ (N := ["_law_bag_here", "_law_total", "_law_found", "_law_one", "_law_two"]) scGrabL (fun _ _ _ _ _ _ us hl => match us, hl with | [_, _], _ => rfl) ?_ ?_
  · intro vs H Q E h
    obtain ⟨p, t, g, m, c, rfl, _⟩ := h
    rfl
  · intro f cd A out s H vs Q E hr h
    obtain ⟨p, t, g, m, c, rfl, hp, ht, q⟩ := h
    have ht0 : 0 < t := ht.1
    have hS : SqL K H p _ := .inl (.inl hp)
    have hd : ∀ i, CDivW i t := fun _ => ht
    refine ⟨_, (pss_cons (ps_if (pt_cmpR op_gt (pe_ix ix_list (pv 0) pe_int (fun _ _ => rfl)) pe_int (nomark _)) (pss_cons (ps_set (i := 2) scGrabL.nd rfl (Or.inl rfl) (pe_op op_mod (pe_callTy call_int1 rfl T.f_int (by decide +kernel) (pa_cons (pe_ix ix_list (pv 0) pe_int (fun _ _ => rfl)) pa_nil)) (pv 1)))
        (pss_cons (ps_asg (pe_op op_fdivW (pe_ix ix_list (pv 0) pe_int (fun _ _ => rfl)) (pv 1)) (pg_sub (pv 0) pe_int set_list))
        (pss_one (ps_ret (pv 2))))) pss_nil)
      (pss_cons (ps_asg (pe_op op_add (pe_ix ix_list (pv 0) pe_int (fun _ _ => rfl)) pe_int) (pg_sub (pv 0) pe_int set_list))
      (pss_cons (ps_set (i := 3) scGrabL.nd rfl (Or.inl rfl) (pe_op op_mod (pe_callTy call_int1 rfl T.f_int (by decide +kernel) (pa_cons (pe_op op_add (pe_ix ix_list (pv 0) pe_int (fun _ _ => rfl)) (pe_op op_mul pe_int (pe_ix ix_list (pv 0) pe_int (fun _ _ => rfl)))) pa_nil)) pe_int))
      (pss_cons (ps_set (i := 4) scGrabL.nd rfl (Or.inl rfl) (pe_op op_add (pe_op op_mul (pe_op op_mod (pe_callTy call_int1 rfl T.f_int (by decide +kernel) (pa_cons (pe_op op_mul (pv 3) (pv 3)) pa_nil)) pe_int) (pv 3)) (pe_op op_mul pe_int (pe_ix ix_list (pv 0) pe_int (fun _ _ => rfl)))))
      (pss_one (ps_ret (pe_op op_mod (pe_callTy call_int1 rfl T.f_int (by decide +kernel) (pa_cons (pe_op op_fdivW (pe_op op_mod (pe_callTy call_int1 rfl T.f_int (by decide +kernel) (pa_cons (pv 4) pa_nil)) pe_int) pe_int) pa_nil)) (pv 1)))))))), ?_⟩
    walk_at "st"
    refine ite2 (fun c => ?_) (fun c => ?_)
    · walk_at "st"
      refine grab_out q ht0 g rfl ⟨_, _, _, rfl⟩
    · walk_at "st"
      refine grab_out q ht0 _ rfl ⟨_, _, _, rfl⟩
theorem sql_upd {K : PySem.W.Frag} {H : Hp} {p l : Addr} {xs : List V} {o : HO} (h : SqL K H l xs) (ne : l ≠ p) : SqL K (upd H p o) l xs := by
  rcases h with (h | ⟨u, h⟩) | h
  · exact .inl (.inl (by rw [upd_ne ne]; exact h))
  · exact .inl (.inr ⟨u, by rw [upd_ne ne]; exact h⟩)
  · exact .inr h
theorem at_in {xs : List V} {r : Int} (h0 : 0 ≤ r) (h1 : r < xs.length) : ∃ v, v ∈ xs ∧ atI xs r = some v := by
  have lt : r.toNat < xs.length := by omega
  refine ⟨xs[r.toNat], List.getElem_mem lt, ?_⟩
  have e : ((r.toNat : Nat) : Int) = r := by omega
  have q := atI_nat (xs := xs) (j := r.toNat) (List.getElem?_eq_getElem lt)
  rw [e] at q
  exact q
theorem div_small {n : Nat} (h0 : 0 < n) (h : n ≤ 100000) : CDivW 0 (n : Int) := by
  refine wide_div (b := 20) (by omega) ?_ (by decide) (by decide)
  have e : ((n : Int)).natAbs = n := Int.natAbs_natCast n
  rw [e]
  exact Nat.lt_of_le_of_lt h (by decide)
def spOneOf (K : PySem.W.Frag) : Sp := fun vs H Q _ => ∃ (p l : Addr) (g m c : Int) (xs : List V), vs = [.ref p, .ref l] ∧ H p = some (.lst [.int g, .int m, .int c]) ∧ SqL K H l xs ∧
  l ≠ p ∧ 0 < xs.length ∧ xs.length ≤ 1000 ∧ ∀ v g' m' c', v ∈ xs → Q v (upd H p (.lst [.int g', .int m', .int c']))
theorem scOneOfL : FnScope ["_law_bag_here", "_law_items"] ["_law_bag_here", "_law_items"] (defScope sOneOfL) :=
  ⟨rfl, rfl, rfl, by decide +kernel, rfl, by decide +kernel, by decide +kernel⟩
theorem dOneOfL (T : Tx K mg) (DGrabL : Def P w K mg base CX0 1 "_law_grab" ["_law_bag_here", "_law_total"] spGrab) : Def P w K mg base CX0 2 "_law_one_of" ["_law_bag_here", "_law_items"] (spOneOf K) := by
  refine T.t_law_one_of.def_ (N := ["_law_bag_here", "_law_items"]) scOneOfL (fun _ _ _ _ _ _ us hl => match us, hl with | [_, _], _ => rfl) ?_ ?_
  · intro vs H Q E h
    obtain ⟨p, l, g, m, c, xs, rfl, _⟩ := h
    rfl
  · intro f cd A out s H vs Q E hr h
    have hr1 : Rm 1 _ := hr.le (by decide)
    obtain ⟨p, l, g, m, c, xs, rfl, hp, hS, ne, h0, h1, q⟩ := h
    refine ⟨_, (pss_one (ps_ret (pe_ix ix_list (pv 1) (pe_d DGrabL (hr1.le (by decide)) pass0 (pa_cons (pv 0) (pa_cons (pe_callB call_len_seq rfl T.f_len (by decide +kernel) (pa_cons (pv 1) pa_nil)) pa_nil))) (fun _ _ => rfl)))), ?_⟩
    walk_at "st"
    refine ⟨p, _, g, m, c, rfl, hp, div_small h0 (by omega), fun r g' m' c' r0 r1 => ?_⟩
    obtain ⟨v, hv, e⟩ := at_in r0 r1
    exact ⟨_, _, _, v, rfl, rfl, sql_upd hS ne, e, q v g' m' c' hv⟩
end
end K08


set_option Elab.async false
set_option linter.all false
set_option maxRecDepth 100000
set_option maxHeartbeats 2000000
/-! enumerate over a tuple -/
namespace MM
open PySem PySem.Spec PyProof.Rows L2
theorem made_enum {v : Value} {o : Obj} {G : Heap → Prop} (B : Begins v o G) :
    Meets (Builtin.«enumerate.__new__» ⟨[.type "enumerate", v], []⟩) (fun _ R t => G t.heap ∧
      R (.ok (.ret (.ref (t.heap.push o).objs.size))) { t with heap := (t.heap.push o).push { cls := .type "enumerate", data := .fields #[.none, .bool false, .ref t.heap.objs.size, rawInt 0, .none, .none] } }) :=
  .of_wp fun prog w A R t both => by
    obtain ⟨h0, g0, d0, k0, o0⟩ := t
    obtain ⟨at_v, out⟩ := both
    have sub := sub_enumerate
    have road : ∀ {A' : Around} {E : Value → Shared → Prop} {Q : Value → Shared → Prop}, Q (.ref h0.objs.size) ⟨h0.push o, g0, d0, k0, o0⟩ → wpAny (model prog w) A' (pyIter v) Q E ⟨h0, g0, d0, k0, o0⟩ :=
      fun q => B.iter prog w _ _ ⟨h0, g0, d0, k0, o0⟩ _ at_v q
    wp_walk using road
    refine wpAny_stack_any fun st => wpAny_pure ?_
    split
    · rename_i c _ _ _ _ _
      cases (c == Value.type "enumerate")
      all_goals
        wp_walk using road
        exact ⟨_, rfl, out⟩
    · wp_walk using road
      exact ⟨_, rfl, out⟩
theorem call_enumT {prog : Program} {w : World} {A : Around} {E : Value → Shared → Prop} {s : Shared} {a : Addr} {its : Array Value} {Q : Value → Shared → Prop} (ht : s.heap.IsTuple a its)
    (q : ∀ h', IsEnum h' (s.heap.objs.size + 1) s.heap.objs.size 0 .none → h'.IsTupleIter s.heap.objs.size a 0 → (∀ b o, s.heap.get? b = some o → h'.get? b = some o) →
      Q (.ref (s.heap.objs.size + 1)) { s with heap := h' }) : wpAny (model prog w) A (call (.type "enumerate") [.ref a]) Q E s := by
  have B := begins_tuple a its
  refine callType_new F.called_enumerate (by decide) (F.typeCall_enumerate_1 _) (F.newCall_enumerate_1 _) (fun obj => F.args_object_init_2 obj _) F.entry_enumerate_new (made_enum B) ⟨ht, ?_⟩
  have z : (s.heap.push { cls := .type "tuple_iterator", data := .fields #[.ref a, .int 0 0] }).objs.size = s.heap.objs.size + 1 := Heap.size_push ..
  show _ ∧ _
  rw [z]
  have at_e : IsEnum ((s.heap.push { cls := .type "tuple_iterator", data := .fields #[.ref a, .int 0 0] }).push { cls := .type "enumerate", data := .fields #[.none, .bool false, .ref s.heap.objs.size, rawInt 0, .none, .none] }) (s.heap.objs.size + 1) s.heap.objs.size 0 .none := by
    rw [← z]
    exact Heap.get?_push_size _ rfl
  exact ⟨⟨_, at_e, rfl⟩, q _ at_e ⟨_, Heap.get?_push_of_some _ (Heap.get?_push_size _ rfl), rfl, rfl⟩ fun b o k => Heap.get?_push_of_some _ (Heap.get?_push_of_some _ k)⟩
/-- the tuple at a, each item in a new pair -/
def Itu (K : PySem.W.Frag) (a : Addr) : It :=
  ⟨fun i H => ∃ xs x, SqT K H a xs ∧ xs[i]? = some x, fun i H v H' => ∃ T x, v = .ref T ∧ H T = none ∧ H' = upd H T (.tup [.int (i : Nat), x]) ∧ ∀ xs, SqT K H a xs → xs[i]? = some x, fun i H => ∃ xs, SqT K H a xs ∧ xs.length ≤ i⟩
theorem turn_enumT {P : Program} {w : World} {K : PySem.W.Frag} {elts : List Expr} {kk : Nat} {tpos : Pos} (a e it : Addr) :
    Turn P w K (.Tuple elts kk tpos) (Itu K a) [e, it] e (fun i h => (∃ old, IsEnum h e it ((i : Nat) : Int) old) ∧ h.IsTupleIter it a i ∧ e ≠ it) where
  mem := by simp
  obj := fun i h st b hb => by
    obtain ⟨⟨old, he⟩, ⟨o, ho, hc, hd⟩, _⟩ := st
    have two : b = e ∨ b = it := by simpa using hb
    rcases two with z | z
    · subst z
      exact ⟨_, he, fun v q => nomatch q⟩
    · subst z
      exact ⟨o, ho, fun v q => by rw [hd] at q; cases q⟩
  keep := fun i h h' st k => let ⟨⟨old, he⟩, hi, hne⟩ := st; ⟨⟨old, k e (by simp) _ he⟩, hi.at fun o q => k it (by simp) o q, hne⟩
  item := by
    intro X hP hw hK hc i pins s σ H E I hf st hg
    subst hP hw hK
    obtain ⟨⟨old, he⟩, hit, hne⟩ := st
    obtain ⟨xs, x, hq, hx⟩ := hg
    obtain ⟨its, rv, p, hz⟩ := I.tuple hq
    obtain ⟨u, hu, ru⟩ := rv.get hx
    have el : e < s.heap.objs.size := Heap.lt_size he
    have il : it < s.heap.objs.size := by obtain ⟨_, q, _⟩ := hit; exact Heap.lt_size q
    have pt : s.heap.IsTuple a its.toArray := p
    have ait : a ≠ it := fun z => by
      obtain ⟨o1, g1, c1, _⟩ := id pt
      obtain ⟨o2, g2, c2, _⟩ := id hit
      rw [z, g2] at g1
      cases g1
      rw [c2] at c1
      exact absurd (Value.type.inj c1) (by decide)
    have ae : a ≠ e := fun z => by
      obtain ⟨o1, g1, c1, _⟩ := id pt
      rw [z, show s.heap.get? e = some _ from he] at g1
      cases g1
      exact absurd (Value.type.inj c1) (by decide)
    have D := Draws.tuple (prog := X.prog) (w := X.w) (A := X.A.in1) (I.ok.hd hc) it a ait its.toArray
    have lt : i < its.toArray.size := by
      have := (List.getElem?_eq_some_iff.mp hu).1
      rw [List.size_toArray]
      exact this
    refine wpAny_pyNext_enum_itemC D he ⟨hit, pt⟩ lt hne (by simp [hne, ae.symm]) fun y h' tk hy ho st' hT hsz hk => ?_
    have ey : y = u := by
      have hy' : its.toArray[i]? = some y := hy
      rw [List.getElem?_toArray, hu] at hy'
      exact (Option.some.inj hy').symm
    subst ey
    refine ⟨_, rfl, wpAny_letOwnedTupleGo_enum (s := { s with heap := h', toks := tk + 1 }) ho fun h'' he' sb => ?_⟩
    have hT2 : h''.get? s.heap.objs.size = some { cls := .type "tuple", data := .seq #[.int i tk, y] } := (sb.2 _ (Nat.ne_of_gt el)).trans hT
    have new : ObjOk X.prog X.w (upd H s.heap.objs.size (.tup [.int (i : Nat), x])) h'' s.heap.objs.size (.tup [.int (i : Nat), x]) :=
      ⟨(by decide : 2 ≤ sizeLine), [.int i tk, y], .cons ⟨_, rfl⟩ (.cons ru .nil), ⟨_, hT2, rfl, _, rfl⟩⟩
    have I1 : Inv X pins σ (upd H s.heap.objs.size (.tup [.int (i : Nat), x])) { s with heap := h'', toks := tk + 1 } :=
      I.turnedNew (ch := [e, it]) (fun b ob hb q => (sb.2 b fun z => hb (by simp [z])).trans (hk b ob (fun z => hb (by simp [z])) (fun z => hb (by simp [z])) q)) hf (Nat.le_refl _) new
    have it2 : h''.IsTupleIter it a (i + 1) := st'.1.at fun o q => (sb.2 it (Ne.symm hne)).trans q
    refine ⟨.ref s.heap.objs.size, _, I1, rfl, ⟨_, x, rfl, I.hok.fresh (Nat.le_refl _), rfl, fun ys hy => by rw [I.tuple_inj hy hq]; exact hx⟩, ⟨⟨y, he'⟩, it2, hne⟩, fun b hb => ?_⟩
    have bl : b < s.heap.objs.size := by
      have two : b = e ∨ b = it := by simpa using hb
      rcases two with z | z <;> subst z <;> assumption
    rw [upd_ne (Nat.ne_of_lt bl)]
    exact (hf b hb).1
  done := by
    intro X hP hw hK hc i pins s σ H E I hf st hg
    subst hP hw hK
    obtain ⟨⟨old, he⟩, hit, hne⟩ := st
    obtain ⟨xs, hq, hx⟩ := hg
    obtain ⟨its, rv, p, hz⟩ := I.tuple hq
    have pt : s.heap.IsTuple a its.toArray := p
    obtain ⟨f0, f1, f2, f3, f4, f5⟩ := hf it (by simp)
    have over : its.toArray[i]? = none := by
      have := rv.length
      rw [List.getElem?_toArray]
      exact List.getElem?_eq_none (by omega)
    have D : Draws X.prog X.w X.A.in1 it [it, a] i (fun _ _ => True) (fun j h => j = i ∧ h.IsTupleIter it a j ∧ h.IsTuple a its.toArray) :=
      { live := fun _ _ st => let ⟨o, ho, _⟩ := st.2.1; ⟨o, ho⟩
        frame := fun _ _ _ st k => ⟨st.1, st.2.1.at fun o e => k it (by simp) o e, st.2.2.at fun o e => k a (by simp) o e⟩
        item := fun j s Q E lt st _ => absurd st.1 (Nat.ne_of_lt lt)
        done := fun s Q E st out => wpAny_nextOf_tuple_end (I.ok.hd hc) st.2.1 st.2.2 (by rw [st.1]; exact over) out }
    exact wpAny_pyNext_enum_endD D he ⟨rfl, hit, pt⟩ fun h' eb => ⟨rfl, I.turned (t' := s.toks) (fun b o hb q => eb b o hb q) f0 f1 f3 f4 f5⟩
  self := fun A i s Q E st h => let ⟨⟨_, he⟩, _⟩ := st; wpAny_pyIter_enum he h
def iEnumT (K : PySem.W.Frag) (ta : TA) : TI := fun σ H R => ta σ H fun vs H1 => ∃ a xs, vs = [.ref a] ∧ SqT K H1 a xs ∧ R (Itu K a) H1
theorem pi_enumT {X : Cx} {e : Expr} {ta : TA} {p pos tpos : Pos} {elts : List Expr} {kk : Nat} (hg : Gl X "enumerate") (hm : X.mg "enumerate" = none) (ha : PA X [e] ta)
    (hs : starEach [e] X.env = [(false, eval e X.env)] := by rfl) : PI X (.Tuple elts kk tpos) (.Call (.Name "enumerate" p) [e] [] pos) (iEnumT X.K ta) := by
  refine ⟨fun pins s σ H R I h => ?_⟩
  refine Call_ (ld_blt I hg hm boot_enumerate (PyProof.Rows.callWith_type1 (thn (ha.run pos pins s σ H _ I h) fun us s1 ⟨vs, H1, I1, r1, a, xs, ex, hq, q⟩ => ?_) hs rfl))
  subst ex
  obtain ⟨u, rfl, ru⟩ := vals1 r1
  cases ru
  obtain ⟨its, rv, p', hz⟩ := I1.tuple hq
  refine call_enumT (its := its.toArray) p' fun h' he hit hk => wpAny_pyIter_enum he ?_
  refine ⟨s1.heap.objs.size + 1, [s1.heap.objs.size + 1, s1.heap.objs.size], _, _, H1, rfl, I1.kept (t' := s1.toks) hk, turn_enumT a (s1.heap.objs.size + 1) s1.heap.objs.size, ⟨⟨.none, he⟩, hit, Nat.succ_ne_self _⟩, fun b hb => ?_, q⟩
  have two : b = s1.heap.objs.size + 1 ∨ b = s1.heap.objs.size := by simpa using hb
  have le : s1.heap.objs.size ≤ b := by
    rcases two with z | z <;> rw [z]
    · exact Nat.le_add_right _ _
    · exact Nat.le_refl _
  exact I1.fpOk le (I1.hok.fresh le)
section
variable {K : PySem.W.Frag} {a : Addr} {xs : List V} {g : TG} {tb : TS} {D : Ends} {σ : L2.St} {H : Hp}
/-- what a for asks of its walk -/
def ForW (J : It) (g : TG) (tb : TS) (D : Ends) (σ : L2.St) (H : Hp) : Prop :=
  ∃ W : Nat → Nat → L2.St → Hp → Prop, (∃ m, W 0 m σ H) ∧ ∀ i m σ H, W i m σ H →
    (J.stop i H ∧ D.nx σ H) ∨ (J.go i H ∧ ∃ N : L2.St → Hp → Prop, (∀ σ' H', N σ' H' → ∃ m', m' < m ∧ W (i + 1) m' σ' H') ∧
      ∀ x H', J.yld i H x H' → g x σ H' fun σ2 H2 => tb { D with nx := N, ct := N, bk := D.nx } σ2 H2)
theorem for_enumT (Pv : Nat → L2.St → Hp → Prop) (h0 : Pv 0 σ H) (at_a : ∀ i σ H, i ≤ xs.length → Pv i σ H → SqT K H a xs)
    (turn : ∀ i x σ H T, xs[i]? = some x → Pv i σ H → H T = none → g (.ref T) σ (upd H T (.tup [.int (i : Nat), x])) fun σ2 H2 => tb { D with nx := Pv (i + 1), ct := Pv (i + 1), bk := D.nx } σ2 H2)
    (fin : ∀ σ H, Pv xs.length σ H → D.nx σ H) : ForW (Itu K a) g tb D σ H := by
  refine ⟨fun i m σ H => m = xs.length - i ∧ i ≤ xs.length ∧ Pv i σ H, ⟨_, rfl, Nat.zero_le _, h0⟩, ?_⟩
  rintro i m σ H ⟨rfl, le, p⟩
  by_cases lt : i < xs.length
  · have ex := List.getElem?_eq_getElem lt
    refine .inr ⟨⟨xs, _, at_a i σ H le p, ex⟩, Pv (i + 1), fun σ' H' p' => ⟨_, by omega, rfl, lt, p'⟩, ?_⟩
    rintro v H' ⟨T, x, rfl, free, rfl, all⟩
    exact turn i x σ H T (all xs (at_a i σ H le p)) p free
  · have e : i = xs.length := by omega
    subst e
    exact .inl ⟨⟨xs, at_a _ σ H le p, Nat.le_refl _⟩, fin σ H p⟩
theorem for_enumL (Pv : Nat → L2.St → Hp → Prop) (h0 : Pv 0 σ H) (at_a : ∀ i σ H, i ≤ xs.length → Pv i σ H → SqL K H a xs)
    (turn : ∀ i x σ H T, xs[i]? = some x → Pv i σ H → H T = none → g (.ref T) σ (upd H T (.tup [.int (i : Nat), x])) fun σ2 H2 => tb { D with nx := Pv (i + 1), ct := Pv (i + 1), bk := D.nx } σ2 H2)
    (fin : ∀ σ H, Pv xs.length σ H → D.nx σ H) : ForW (Ite K a) g tb D σ H := by
  refine ⟨fun i m σ H => m = xs.length - i ∧ i ≤ xs.length ∧ Pv i σ H, ⟨_, rfl, Nat.zero_le _, h0⟩, ?_⟩
  rintro i m σ H ⟨rfl, le, p⟩
  by_cases lt : i < xs.length
  · have ex := List.getElem?_eq_getElem lt
    refine .inr ⟨⟨xs, _, at_a i σ H le p, ex⟩, Pv (i + 1), fun σ' H' p' => ⟨_, by omega, rfl, lt, p'⟩, ?_⟩
    rintro v H' ⟨T, x, rfl, free, rfl, all⟩
    exact turn i x σ H T (all xs (at_a i σ H le p)) p free
  · have e : i = xs.length := by omega
    subst e
    exact .inl ⟨⟨xs, at_a _ σ H le p, Nat.le_refl _⟩, fin σ H p⟩
end
end MM

set_option Elab.async false
set_option linter.all false
/-! moves, their products, and what a walk over words leaves behind -/
namespace GT
def comp (m l : List Nat) : List Nat := l.map fun k => m.getD k 0
/-- a move of n places -/
structure Pm (n : Nat) (m : List Nat) : Prop where
  len : m.length = n
  nd : m.Nodup
  lt : ∀ k ∈ m, k < n
theorem getD_mem {m : List Nat} {k : Nat} (h : k < m.length) : m.getD k 0 ∈ m := by
  rw [List.getD, List.getElem?_eq_getElem h]
  exact List.getElem_mem _
theorem gD {m : List Nat} {k : Nat} (h : k < m.length) : m.getD k 0 = m[k] := by
  rw [List.getD, List.getElem?_eq_getElem h]
  rfl
theorem comp_len (a b : List Nat) : (comp a b).length = b.length := List.length_map _
theorem comp_get {a b : List Nat} {i : Nat} (h : i < b.length) : (comp a b).getD i 0 = a.getD (b.getD i 0) 0 := by
  rw [gD h, gD (by rw [comp_len]; exact h)]
  exact List.getElem_map _
theorem comp_lt {n : Nat} {a b : List Nat} (la : a.length = n) (ha : ∀ k ∈ a, k < n) (hb : ∀ k ∈ b, k < n) : ∀ k ∈ comp a b, k < n := fun k hk => by
  obtain ⟨j, hj, rfl⟩ := List.mem_map.mp hk
  exact ha _ (getD_mem (by rw [la]; exact hb j hj))
theorem getD_inj {m : List Nat} (nd : m.Nodup) {i j : Nat} (hi : i < m.length) (hj : j < m.length) (e : m.getD i 0 = m.getD j 0) : i = j := by
  rw [List.getD, List.getElem?_eq_getElem hi, List.getD, List.getElem?_eq_getElem hj] at e
  exact (List.getElem_inj nd).mp e
theorem Pm.comp {n : Nat} {a b : List Nat} (ha : Pm n a) (hb : Pm n b) : Pm n (comp a b) where
  len := (comp_len a b).trans hb.len
  nd := by
    unfold GT.comp
    have h := hb.nd
    have hl := hb.lt
    clear hb
    induction b with
    | nil => exact .nil
    | cons x r ih =>
      rw [List.map_cons]
      refine List.nodup_cons.mpr ⟨fun z => ?_, ih (List.nodup_cons.mp h).2 fun k hk => hl k (List.mem_cons_of_mem _ hk)⟩
      obtain ⟨y, hy, e⟩ := List.mem_map.mp z
      have := getD_inj ha.nd (by rw [ha.len]; exact hl y (List.mem_cons_of_mem _ hy)) (by rw [ha.len]; exact hl x List.mem_cons_self) e
      subst this
      exact (List.nodup_cons.mp h).1 hy
  lt := comp_lt ha.len ha.lt hb.lt
theorem comp_assoc {a b c : List Nat} (h : ∀ k ∈ c, k < b.length) : comp (comp a b) c = comp a (comp b c) := by
  unfold comp
  rw [List.map_map]
  refine List.map_congr_left fun k hk => ?_
  have := comp_get (a := a) (h k hk)
  unfold comp at this
  rw [this]
  rfl
theorem range_get {n i : Nat} (h : i < n) : (List.range n).getD i 0 = i := by
  rw [List.getD, List.getElem?_range h]
  rfl
theorem comp_unit {n : Nat} {a : List Nat} (la : a.length = n) : comp a (List.range n) = a := by
  refine List.ext_getElem (by rw [comp_len, List.length_range, la]) fun i h1 h2 => ?_
  have e := comp_get (a := a) (b := List.range n) (i := i) (by rw [List.length_range]; omega)
  rw [range_get (by omega), List.getD, List.getElem?_eq_getElem h1, List.getD, List.getElem?_eq_getElem h2] at e
  exact e
theorem unit_comp {n : Nat} {b : List Nat} (h : ∀ k ∈ b, k < n) : comp (List.range n) b = b := by
  unfold comp
  have : b.map (fun k => (List.range n).getD k 0) = b.map id := List.map_congr_left fun k hk => range_get (h k hk)
  rw [this, List.map_id]
theorem pm_unit (n : Nat) : Pm n (List.range n) := ⟨List.length_range, List.nodup_range, fun k hk => List.mem_range.mp hk⟩
theorem comp_left {n : Nat} {a b c : List Nat} (ha : Pm n a) (hb : Pm n b) (hc : Pm n c) (e : comp a b = comp a c) : b = c := by
  refine List.ext_getElem (by rw [hb.len, hc.len]) fun i h1 h2 => ?_
  have eb := comp_get (a := a) h1
  have ec := comp_get (a := a) h2
  rw [e, ec] at eb
  have mb := hb.lt _ (getD_mem h1)
  have mc := hc.lt _ (getD_mem h2)
  have := getD_inj ha.nd (by rw [ha.len]; exact mc) (by rw [ha.len]; exact mb) eb
  rw [gD h1, gD h2] at this
  exact this.symm
/-- members without doubles, all of them in another list -/
theorem sub_len {α : Type} [BEq α] [LawfulBEq α] : ∀ {a b : List α}, a.Nodup → (∀ x ∈ a, x ∈ b) → a.length ≤ b.length
  | [], _, _, _ => Nat.zero_le _
  | x :: a, b, nd, h => by
    have ih := sub_len (a := a) (b := b.erase x) (List.nodup_cons.mp nd).2 fun y hy => by
      refine (List.mem_erase_of_ne fun e => ?_).mpr (h y (List.mem_cons_of_mem _ hy))
      subst e
      exact (List.nodup_cons.mp nd).1 hy
    have mx := h x List.mem_cons_self
    have := List.length_erase_of_mem mx
    have pos : 0 < b.length := List.length_pos_of_mem mx
    rw [List.length_cons]
    omega
abbrev at_ (L : List (List Nat)) (i : Nat) : List Nat := L.getD i []
/-- what the walk over words holds: F the moves, W their words -/
structure Wd (n : Nat) (ms F W : List (List Nat)) : Prop where
  len : F.length = W.length
  one : 1 ≤ F.length
  nd : F.Nodup
  zero : at_ F 0 = List.range n ∧ at_ W 0 = []
  step : ∀ i, 0 < i → i < F.length → ∃ j k, j < i ∧ k < ms.length ∧ at_ W i = at_ W j ++ [k] ∧ at_ F i = comp (at_ F j) (at_ ms k)
theorem mem_at {L : List (List Nat)} {x : List Nat} (h : x ∈ L) : ∃ i, i < L.length ∧ at_ L i = x := by
  obtain ⟨i, hi, e⟩ := List.mem_iff_getElem.mp h
  exact ⟨i, hi, by rw [at_, List.getD, List.getElem?_eq_getElem hi]; exact e⟩
theorem at_mem {L : List (List Nat)} {i : Nat} (h : i < L.length) : at_ L i ∈ L := by
  rw [at_, List.getD, List.getElem?_eq_getElem h]
  exact List.getElem_mem _
theorem at_app {L M : List (List Nat)} {i : Nat} (h : i < L.length) : at_ (L ++ M) i = at_ L i := by
  rw [at_, List.getD, List.getElem?_append_left h]
  rfl
theorem at_last {L : List (List Nat)} {x : List Nat} : at_ (L ++ [x]) L.length = x := by
  rw [at_, List.getD, List.getElem?_append_right (Nat.le_refl _), Nat.sub_self]
  rfl
theorem Wd.start (n : Nat) (ms : List (List Nat)) : Wd n ms [List.range n] [[]] where
  len := rfl
  one := Nat.le_refl _
  nd := List.nodup_cons.mpr ⟨by simp, .nil⟩
  zero := ⟨rfl, rfl⟩
  step := fun i h1 h2 => absurd h2 (by show ¬ i < 1; omega)
theorem Wd.push {n : Nat} {ms F W : List (List Nat)} (h : Wd n ms F W) {j k : Nat} (hj : j < F.length) (hk : k < ms.length) (new : comp (at_ F j) (at_ ms k) ∉ F) : Wd n ms (F ++ [comp (at_ F j) (at_ ms k)]) (W ++ [at_ W j ++ [k]]) where
  len := by rw [List.length_append, List.length_append, h.len]; rfl
  one := by rw [List.length_append]; exact Nat.le_add_right_of_le h.one
  nd := by
    rw [List.nodup_append]
    exact ⟨h.nd, List.nodup_cons.mpr ⟨by simp, .nil⟩, fun x hx y hy e => by rw [List.mem_singleton] at hy; exact new (by rw [← hy, ← e]; exact hx)⟩
  zero := by
    rw [at_app (by have := h.one; omega), at_app (by have := h.one; have := h.len; omega)]
    exact h.zero
  step := fun i h1 h2 => by
    rw [List.length_append] at h2
    have lw := h.len
    by_cases c : i < F.length
    · obtain ⟨j', k', a, b, e1, e2⟩ := h.step i h1 c
      refine ⟨j', k', a, b, ?_, ?_⟩
      · rw [at_app (by omega), at_app (by omega)]
        exact e1
      · rw [at_app c, at_app (by omega)]
        exact e2
    · obtain rfl : i = F.length := by have : [comp (at_ F j) (at_ ms k)].length = 1 := rfl; omega
      refine ⟨j, k, hj, hk, ?_, ?_⟩
      · rw [lw, at_last, at_app (by omega)]
      · rw [at_last, at_app hj]
/-- all of it lies in what is closed -/
theorem Wd.sub {n : Nat} {ms F W G : List (List Nat)} (h : Wd n ms F W) (u : List.range n ∈ G) (c : ∀ x ∈ G, ∀ k, k < ms.length → comp x (at_ ms k) ∈ G) : ∀ i, i < F.length → at_ F i ∈ G := by
  intro i
  induction i using Nat.strongRecOn with
  | ind i ih =>
    intro hi
    by_cases z : i = 0
    · subst z
      rw [h.zero.1]
      exact u
    · obtain ⟨j, k, lt, hk, _, e⟩ := h.step i (by omega) hi
      rw [e]
      exact c _ (ih j lt (by omega)) k hk
theorem Wd.few {n : Nat} {ms F W G : List (List Nat)} (h : Wd n ms F W) (u : List.range n ∈ G) (c : ∀ x ∈ G, ∀ k, k < ms.length → comp x (at_ ms k) ∈ G) : F.length ≤ G.length :=
  sub_len h.nd fun x hx => by
    obtain ⟨i, hi, rfl⟩ := mem_at hx
    exact h.sub u c i hi
theorem Wd.pm {n : Nat} {ms F W : List (List Nat)} (h : Wd n ms F W) (pm : ∀ m ∈ ms, Pm n m) : ∀ i, i < F.length → Pm n (at_ F i) := by
  intro i
  induction i using Nat.strongRecOn with
  | ind i ih =>
    intro hi
    by_cases z : i = 0
    · subst z
      rw [h.zero.1]
      exact pm_unit n
    · obtain ⟨j, k, lt, hk, _, e⟩ := h.step i (by omega) hi
      rw [e]
      exact (ih j lt (by omega)).comp (pm _ (at_mem hk))
/-- closed to the right by the makers -/
def Full (ms F : List (List Nat)) : Prop := ∀ x ∈ F, ∀ k, k < ms.length → comp x (at_ ms k) ∈ F
end GT
namespace GT
theorem Wd.wlen {n : Nat} {ms F W : List (List Nat)} (h : Wd n ms F W) : ∀ i, i < F.length → (at_ W i).length ≤ i := by
  intro i
  induction i using Nat.strongRecOn with
  | ind i ih =>
    intro hi
    by_cases z : i = 0
    · subst z
      rw [h.zero.2]
      exact Nat.le_refl _
    · obtain ⟨j, k, lt, hk, e, _⟩ := h.step i (by omega) hi
      have := ih j lt (by omega)
      rw [e, List.length_append]
      show _ + 1 ≤ i
      omega
end GT

set_option Elab.async false
set_option linter.all false
set_option maxRecDepth 100000
set_option maxHeartbeats 2000000
namespace K08
open PySem PySem.Spec PyProof.Rows L2 MM GT
/-! own words for the readings: a step, its side -/
local macro_rules | `(tactic| walk_at "side") => `(tactic| first
  | omega
  | exact ⟨by omega, by omega⟩
  | exact Or.inl ⟨by omega, by omega⟩
  | exact Or.inr ⟨by omega, by omega⟩
  | (show CPw _ _; decide +kernel)
  | (show (0 : Int) < _; decide +kernel)
  | (show CDivW _ _; first | assumption | exact ⟨by decide, by decide +kernel⟩))
local macro_rules | `(tactic| walk_at "here") => `(tactic| first
  | assumption
  | exact upd_same
  | exact Or.inl (Or.inl upd_same)
  | exact Or.inl upd_same)
local macro_rules | `(tactic| walk_at "one") => `(tactic| first
  | refine ⟨_, rfl, ?_⟩
  | refine Or.inl ⟨_, rfl, ?_⟩
  | refine Or.inr ⟨_, rfl, ?_⟩
  | refine ⟨_, _, rfl, rfl, (by walk_at "side"), ?_⟩
  | refine ⟨_, _, rfl, rfl, ?_⟩
  | refine ⟨_, _, rfl, Or.inl (by walk_at "here"), ?_⟩
  | refine ⟨_, _, rfl, Or.inr (by walk_at "here"), ?_⟩
  | refine ⟨_, _, rfl, (by walk_at "here"), ?_⟩
  | refine ⟨_, _, _, _, rfl, rfl, (by walk_at "here"), rfl, ?_⟩
  | refine ⟨_, _, rfl, ?_⟩
  | refine ifT (by rfl) ?_
  | refine ifF (by rfl) ?_
  | refine ifT (decide_eq_true (by omega)) ?_
  | refine ifF (decide_eq_false (by omega)) ?_)
local macro_rules | `(tactic| walk_at "st") => `(tactic| repeat (walk_at "one"))

section
variable {P : Program} {w : World} {K : PySem.W.Frag} {mg : Str → Option Value} {base : Heap}
def spIsWhole (K : PySem.W.Frag) : Sp := fun vs H Q _ => ∃ x n, vs = [x] ∧ Kd K H x n ∧ Q (.bl (isW x)) H
theorem scIsWhole : FnScope ["value"] ["value"] (defScope sIsWhole) :=
  ⟨rfl, rfl, rfl, by decide +kernel, rfl, by decide +kernel, by decide +kernel⟩
theorem dIsWhole (T : Tx K mg) : Def P w K mg base CX0 1 "is_whole" ["value"] (spIsWhole K) := by
  refine T.t_is_whole.def_ (N := ["value"]) scIsWhole (fun _ _ _ _ _ _ us hl => match us, hl with | [_], _ => rfl) ?_ ?_
  · intro vs H Q E h
    obtain ⟨x, n, rfl, _⟩ := h
    rfl
  · intro f cd A out s H vs Q E hr h
    obtain ⟨x, n, rfl, hk, q⟩ := h
    refine ⟨_, (pss_one (ps_ret (pe_and (pe_callB (cr_is .int) rfl T.f_isinstance (by decide +kernel) (pa_cons (pv 0) (pa_cons (pe_ty .int T.f_int (by decide +kernel)) pa_nil))) (pe_one (pe_not (pe_callB (cr_is .bl) rfl T.f_isinstance (by decide +kernel) (pa_cons (pv 0) (pa_cons (pe_ty .bl T.f_bool (by decide +kernel)) pa_nil)))))))), ?_⟩
    refine ⟨_, rfl, _, _, rfl, hk, _, rfl, ?_⟩
    cases hk
    all_goals walk_at "st"
    all_goals first
      | exact q
      | (refine ⟨_, _, rfl, .int _, ?_⟩; walk_at "st"; exact q)
      | (refine ⟨_, _, rfl, .bl _, ?_⟩; walk_at "st"; exact q)
def isB (x : V) (l m : Int) : Bool := match x with
  | .int i => decide (l ≤ i) && decide (i ≤ m)
  | _ => false
def spIsBetween (K : PySem.W.Frag) : Sp := fun vs H Q _ => ∃ x n l m, vs = [x, .int l, .int m] ∧ Kd K H x n ∧ Q (.bl (isB x l m)) H
theorem scIsBetween : FnScope ["value", "least", "most"] ["value", "least", "most"] (defScope sIsBetween) :=
  ⟨rfl, rfl, rfl, by decide +kernel, rfl, by decide +kernel, by decide +kernel⟩
theorem dIsBetween (T : Tx K mg) (DIsWhole : Def P w K mg base CX0 1 "is_whole" ["value"] (spIsWhole K)) : Def P w K mg base CX0 2 "is_between" ["value", "least", "most"] (spIsBetween K) := by
  refine T.t_is_between.def_ (N := ["value", "least", "most"]) scIsBetween (fun _ _ _ _ _ _ us hl => match us, hl with | [_, _, _], _ => rfl) ?_ ?_
  · intro vs H Q E h
    obtain ⟨x, n, l, m, rfl, _⟩ := h
    rfl
  · intro f cd A out s H vs Q E hr h
    have hr1 : Rm 1 _ := hr.le (by decide)
    obtain ⟨x, n, l, m, rfl, hk, q⟩ := h
    refine ⟨_, (pss_one (ps_ret (pe_and (pe_d DIsWhole (hr1.le (by decide)) pass0 (pa_cons (pv 0) pa_nil)) (pe_one (pe_chain op_le op_le (pv 1) (pv 0) (pv 2)))))), ?_⟩
    refine ⟨_, rfl, _, n, rfl, hk, _, rfl, ?_⟩
    cases hk
    all_goals walk_at "st"
    all_goals first
      | exact q
      | skip
    rename_i i
    refine ite2 (fun c => ?_) (fun c => ?_)
    · walk_at "st"
      have q' : Q (.bl (decide (l ≤ i) && decide (i ≤ m))) H := q
      rw [show decide (l ≤ i) = true from c, Bool.true_and] at q'
      exact q'
    · have q' : Q (.bl (decide (l ≤ i) && decide (i ≤ m))) H := q
      rw [show decide (l ≤ i) = false from Bool.eq_false_iff.mpr c, Bool.false_and] at q'
      exact q'
def spNeedBetween (K : PySem.W.Frag) : Sp := fun vs H Q _ => ∃ i l m : Int, vs = [.int i, .int l, .int m] ∧ l ≤ i ∧ i ≤ m ∧ Q .non H
theorem scNeedBetween : FnScope ["value", "least", "most"] ["value", "least", "most"] (defScope sNeedBetween) :=
  ⟨rfl, rfl, rfl, by decide +kernel, rfl, by decide +kernel, by decide +kernel⟩
theorem dNeedBetween (T : Tx K mg) (DIsBetween : Def P w K mg base CX0 2 "is_between" ["value", "least", "most"] (spIsBetween K)) : Def P w K mg base CX0 3 "need_between" ["value", "least", "most"] (spNeedBetween K) := by
  refine T.t_need_between.def_ (N := ["value", "least", "most"]) scNeedBetween (fun _ _ _ _ _ _ us hl => match us, hl with | [_, _, _], _ => rfl) ?_ ?_
  · intro vs H Q E h
    obtain ⟨i, l, m, rfl, _⟩ := h
    rfl
  · intro f cd A out s H vs Q E hr h
    have hr1 : Rm 2 _ := hr.le (by decide)
    obtain ⟨i, l, m, rfl, h1, h2, q⟩ := h
    refine ⟨_, (pss_one (ps_if (pt_not (pt_val (pe_d DIsBetween (hr1.le (by decide)) pass0 (pa_cons (pv 0) (pa_cons (pv 1) (pa_cons (pv 2) pa_nil)))))) (pss_one ps_never) pss_nil)), ?_⟩
    refine ⟨_, rfl, _, rfl, _, rfl, _, .int, l, m, rfl, .int i, _, rfl, ?_⟩
    refine ifF ?_ q
    show (!(decide (l ≤ i) && decide (i ≤ m))) = false
    rw [decide_eq_true h1, decide_eq_true h2] <;> rfl

def spNeedPlaces (K : PySem.W.Frag) : Sp := fun vs H Q _ => ∃ n : Nat, vs = [.int (n : Int)] ∧ 1 ≤ n ∧ n ≤ 24 ∧ Q .non H
theorem scNeedPlaces : FnScope ["places"] ["places"] (defScope sNeedPlaces) :=
  ⟨rfl, rfl, rfl, by decide +kernel, rfl, by decide +kernel, by decide +kernel⟩
theorem dNeedPlaces (T : Tx K mg) (DNeedBetween : Def P w K mg base CX0 3 "need_between" ["value", "least", "most"] (spNeedBetween K)) : Def P w K mg base CX0 4 "need_places" ["places"] (spNeedPlaces K) := by
  refine T.t_need_places.def_ (N := ["places"]) scNeedPlaces (fun _ _ _ _ _ _ us hl => match us, hl with | [_], _ => rfl) ?_ ?_
  · intro vs H Q E h
    obtain ⟨n, rfl, _⟩ := h
    rfl
  · intro f cd A out s H vs Q E hr h
    have hr1 : Rm 3 _ := hr.le (by decide)
    obtain ⟨n, rfl, h1, h2, q⟩ := h
    refine ⟨_, (pss_one (ps_expr (pe_d DNeedBetween (hr1.le (by decide)) pass0 (pa_cons (pv 0) (pa_cons pe_int (pa_cons (C8.pe_gc rfl T.c_MAX_PLACES) pa_nil)))))), ?_⟩
    exact ⟨_, rfl, _, 1, 24, rfl, by omega, by omega, q⟩
/-! moves -/
def mv (m : List Nat) : List V := m.map fun (k : Nat) => V.int (k : Int)
def vat (m : List Nat) : V → V
  | .int i => .int ((m.getD i.toNat 0 : Nat) : Int)
  | _ => .non
theorem mv_len (m : List Nat) : (mv m).length = m.length := List.length_map _
theorem mv_at {m : List Nat} {k : Nat} (h : k < m.length) : atI (mv m) (k : Int) = some (.int ((m.getD k 0 : Nat) : Int)) := by
  refine atI_nat ?_
  unfold mv
  rw [List.getElem?_map, List.getElem?_eq_getElem h]
  simp [List.getD, List.getElem?_eq_getElem h]
theorem mv_comp (m l : List Nat) : (mv l).map (vat m) = mv (comp m l) := by
  unfold mv comp
  rw [List.map_map, List.map_map]
  rfl
theorem rg_mv (n : Nat) : rgV 0 (n : Int) = mv (List.range n) := by
  unfold rgV mv
  rw [show ((n : Int) - 0).toNat = n by omega]
  refine List.map_congr_left fun i _ => ?_
  rw [Int.zero_add]
def spUnit (K : PySem.W.Frag) : Sp := fun vs H Q _ => ∃ n : Nat, vs = [.int (n : Int)] ∧ 1 ≤ n ∧ n ≤ 24 ∧ ∀ t, H t = none → Q (.ref t) (upd H t (.tup (mv (List.range n))))
def spComp (K : PySem.W.Frag) : Sp := fun vs H Q _ => ∃ a b m l, vs = [.ref a, .ref b] ∧ SqT K H a (mv m) ∧ SqT K H b (mv l) ∧ l.length ≤ 1000 ∧ (∀ k ∈ l, k < m.length) ∧ ∀ H' t, Same H H' → H' t = some (.tup (mv (comp m l))) → Q (.ref t) H'
theorem scFollowed : FnScope ["one", "other", "place"] ["one", "other"] (defScope sFollowed) :=
  ⟨rfl, rfl, rfl, by decide +kernel, rfl, by decide +kernel, by decide +kernel⟩
theorem dFollowed (T : Tx K mg) : Def P w K mg base CX0 1 "followed" ["one", "other"] (spComp K) := by
  refine T.t_followed.def_ (N := ["one", "other", "place"]) scFollowed (fun _ _ _ _ _ _ us hl => match us, hl with | [_, _], _ => rfl) ?_ ?_
  · intro vs H Q E h
    obtain ⟨a, b, m, l, rfl, _⟩ := h
    rfl
  · intro f cd A out s H vs Q E hr h
    obtain ⟨a, b, m, l, rfl, Sa, Sb, len, lt, q⟩ := h
    refine ⟨_, (pss_one (ps_ret (pe_callTy call_tuple_of rfl T.f_tuple (by decide +kernel) (pa_cons (pe_lc (own := [("place", 2)]) (g := gName 2) (tt := tYes) rfl scFollowed.nd (pi_tup (pv 1)) (blkOk_by (N := ["one", "other", "place"]) (sc := defScope sFollowed) (by decide +kernel)) (fun _ _ _ _ _ => pg_name (i := 2) scFollowed.nd rfl (Or.inl rfl)) (fun _ _ _ _ _ => pts_nil) (fun _ _ _ _ _ => (pe_ix (show IxR _ (rIxT K) from ix_tup) (pv 0) (pv 2) (fun _ _ => rfl)))) pa_nil)))), ?_⟩
    refine ⟨_, rfl, b, rfl, ⟨_, Sb⟩, fun D nD => ?_⟩
    refine lc_tpl (vat m) Sb nD (by rw [mv_len]; exact Nat.le_of_lt (small1000 len)) ?_ ?_
    · intro x acc hx Q' q'
      obtain ⟨k, hk, rfl⟩ := List.mem_map.mp hx
      exact ⟨_, rfl, _, rfl, a, _, _, _, rfl, rfl, sqt_new Sa nD, mv_at (lt k hk), q'⟩
    · rw [mv_comp]
      exact ⟨D, _, rfl, .inl ⟨.inl (.inl upd_same), fun t ft => q _ t ((same_new nD).trans (same_new ft)) upd_same⟩⟩
theorem scLotTimesL : FnScope ["_law_one", "_law_other", "_law_place"] ["_law_one", "_law_other"] (defScope sLotTimesL) :=
  ⟨rfl, rfl, rfl, by decide +kernel, rfl, by decide +kernel, by decide +kernel⟩
theorem dLotTimesL (T : Tx K mg) : Def P w K mg base CX0 1 "_law_lot_times" ["_law_one", "_law_other"] (spComp K) := by
  refine T.t_law_lot_times.def_ (N := ["_law_one", "_law_other", "_law_place"]) scLotTimesL (fun _ _ _ _ _ _ us hl => match us, hl with | [_, _], _ => rfl) ?_ ?_
  · intro vs H Q E h
    obtain ⟨a, b, m, l, rfl, _⟩ := h
    rfl
  · intro f cd A out s H vs Q E hr h
    obtain ⟨a, b, m, l, rfl, Sa, Sb, len, lt, q⟩ := h
    refine ⟨_, (pss_one (ps_ret (pe_callTy call_tuple_of rfl T.f_tuple (by decide +kernel) (pa_cons (pe_lc (own := [("_law_place", 2)]) (g := gName 2) (tt := tYes) rfl scLotTimesL.nd (pi_tup (pv 1)) (blkOk_by (N := ["_law_one", "_law_other", "_law_place"]) (sc := defScope sLotTimesL) (by decide +kernel)) (fun _ _ _ _ _ => pg_name (i := 2) scLotTimesL.nd rfl (Or.inl rfl)) (fun _ _ _ _ _ => pts_nil) (fun _ _ _ _ _ => (pe_ix (show IxR _ (rIxT K) from ix_tup) (pv 0) (pv 2) (fun _ _ => rfl)))) pa_nil)))), ?_⟩
    refine ⟨_, rfl, b, rfl, ⟨_, Sb⟩, fun D nD => ?_⟩
    refine lc_tpl (vat m) Sb nD (by rw [mv_len]; exact Nat.le_of_lt (small1000 len)) ?_ ?_
    · intro x acc hx Q' q'
      obtain ⟨k, hk, rfl⟩ := List.mem_map.mp hx
      exact ⟨_, rfl, _, rfl, a, _, _, _, rfl, rfl, sqt_new Sa nD, mv_at (lt k hk), q'⟩
    · rw [mv_comp]
      exact ⟨D, _, rfl, .inl ⟨.inl (.inl upd_same), fun t ft => q _ t ((same_new nD).trans (same_new ft)) upd_same⟩⟩
theorem scBehindL : FnScope ["_law_one", "_law_other", "_law_place"] ["_law_one", "_law_other"] (defScope sBehindL) :=
  ⟨rfl, rfl, rfl, by decide +kernel, rfl, by decide +kernel, by decide +kernel⟩
theorem dBehindL (T : Tx K mg) : Def P w K mg base CX0 1 "_law_behind" ["_law_one", "_law_other"] (spComp K) := by
  refine T.t_law_behind.def_ (N := ["_law_one", "_law_other", "_law_place"]) scBehindL (fun _ _ _ _ _ _ us hl => match us, hl with | [_, _], _ => rfl) ?_ ?_
  · intro vs H Q E h
    obtain ⟨a, b, m, l, rfl, _⟩ := h
    rfl
  · intro f cd A out s H vs Q E hr h
    obtain ⟨a, b, m, l, rfl, Sa, Sb, len, lt, q⟩ := h
    refine ⟨_, (pss_one (ps_ret (pe_callTy call_tuple_of rfl T.f_tuple (by decide +kernel) (pa_cons (pe_lc (own := [("_law_place", 2)]) (g := gName 2) (tt := tYes) rfl scBehindL.nd (pi_tup (pv 1)) (blkOk_by (N := ["_law_one", "_law_other", "_law_place"]) (sc := defScope sBehindL) (by decide +kernel)) (fun _ _ _ _ _ => pg_name (i := 2) scBehindL.nd rfl (Or.inl rfl)) (fun _ _ _ _ _ => pts_nil) (fun _ _ _ _ _ => (pe_ix (show IxR _ (rIxT K) from ix_tup) (pv 0) (pv 2) (fun _ _ => rfl)))) pa_nil)))), ?_⟩
    refine ⟨_, rfl, b, rfl, ⟨_, Sb⟩, fun D nD => ?_⟩
    refine lc_tpl (vat m) Sb nD (by rw [mv_len]; exact Nat.le_of_lt (small1000 len)) ?_ ?_
    · intro x acc hx Q' q'
      obtain ⟨k, hk, rfl⟩ := List.mem_map.mp hx
      exact ⟨_, rfl, _, rfl, a, _, _, _, rfl, rfl, sqt_new Sa nD, mv_at (lt k hk), q'⟩
    · rw [mv_comp]
      exact ⟨D, _, rfl, .inl ⟨.inl (.inl upd_same), fun t ft => q _ t ((same_new nD).trans (same_new ft)) upd_same⟩⟩
/-! the move undone -/
def putB (m b : List Nat) (j : Nat) : List Nat := b.set (m.getD j 0) j
def backT (m : List Nat) (i : Nat) : List Nat := (List.range i).foldl (putB m) (List.replicate m.length 0)
def back (m : List Nat) : List Nat := backT m m.length
theorem backT_succ (m : List Nat) (i : Nat) : backT m (i + 1) = (backT m i).set (m.getD i 0) i := by
  unfold backT
  rw [List.range_succ, List.foldl_append]
  rfl
theorem backT_len (m : List Nat) : ∀ i, (backT m i).length = m.length
  | 0 => List.length_replicate
  | i + 1 => by rw [backT_succ, List.length_set, backT_len m i]
theorem mv_set (b : List Nat) (k i : Nat) : (mv b).set k (V.int (i : Int)) = mv (b.set k i) := by
  unfold mv
  rw [List.map_set]
theorem mv_nth {m : List Nat} {i : Nat} {x : V} (h : (mv m)[i]? = some x) : i < m.length ∧ x = .int ((m.getD i 0 : Nat) : Int) := by
  unfold mv at h
  rw [List.getElem?_map] at h
  by_cases c : i < m.length
  · rw [List.getElem?_eq_getElem c] at h
    refine ⟨c, ?_⟩
    rw [List.getD, List.getElem?_eq_getElem c]
    exact (Option.some.inj h).symm
  · rw [List.getElem?_eq_none (by omega)] at h
    cases h
theorem ixN_lt {n k : Nat} (h : k < n) : ixN n (k : Int) = some k := by
  unfold ixN
  simp
  omega
def spBack (K : PySem.W.Frag) : Sp := fun vs H Q _ => ∃ a m, vs = [.ref a] ∧ SqT K H a (mv m) ∧ m.length ≤ 1000 ∧ (∀ k ∈ m, k < m.length) ∧ ∀ H' t, Same H H' → SqT K H' t (mv (back m)) → Q (.ref t) H'
theorem rep_zero (m : List Nat) : (List.replicate ((mv m).length : Int).toNat [V.int 0]).flatten = mv (backT m 0) := by
  rw [Int.toNat_natCast, mv_len]
  unfold backT mv
  generalize m.length = n
  show _ = (List.replicate n 0).map _
  induction n with
  | zero => rfl
  | succ n ih =>
    rw [List.replicate_succ, List.replicate_succ, List.flatten_cons, ih]
    rfl
end
end K08


set_option Elab.async false
set_option linter.all false
set_option maxRecDepth 100000
set_option maxHeartbeats 2000000
/-! set(t) of a tuple of ints; its length -/
namespace MM
open PySem PySem.Spec PyProof.Rows L2
theorem count_keys {ks ns : List Int} (nk : ks.Nodup) (mem : ∀ k, k ∈ ns ↔ k ∈ ks) : ks.length = ns.length ↔ ns.Nodup := by
  constructor
  · intro e
    by_cases h : ns.Nodup
    · exact h
    · exfalso
      rw [List.nodup_iff_count] at h
      obtain ⟨a, ha⟩ := Classical.not_forall.mp h
      have am : a ∈ ns := List.count_pos_iff.mp (by omega)
      have sub : ks ⊆ ns.erase a := by
        intro b hb
        by_cases z : b = a
        · subst z
          refine List.count_pos_iff.mp ?_
          rw [List.count_erase_self]
          omega
        · exact (List.mem_erase_of_ne z).mpr ((mem b).mpr hb)
      have le := List.Nodup.length_le_of_subset nk sub
      rw [List.length_erase_of_mem am] at le
      have pos : 0 < ns.length := List.length_pos_of_mem am
      omega
  · intro nn
    exact ((List.perm_ext_iff_of_nodup nk nn).mpr fun a => (mem a).symm).length_eq
section
variable {X : Cx}
def rSetI (K : PySem.W.Frag) : List V → Hp → VK → Prop := fun xs H Q => ∃ (p : Addr) (ns : List Int), xs = [.ref p] ∧ SqT K H p (ns.map V.int) ∧ ns.length ≤ 1000 ∧
  ∀ t n, H t = none → (n = ns.length ↔ ns.Nodup) → n ≤ ns.length → Q (.ref t) (upd H t (.set (fun j => decide (j ∈ ns)) n))
theorem ints_of : ∀ {ns : List Int} {its : List Value}, Vals (ns.map V.int) its → IntsAre its ns
  | [], _, r => by
    cases r
    exact .nil
  | n :: _, _, r => by
    cases r with
    | cons h t =>
      obtain ⟨k, rfl⟩ := h
      exact .cons n k (ints_of t)
theorem cr_setI (hc : X.calm = true) : CallR X (.type "set") (rSetI X.K) := by
  intro pins s σ H xs us Q I r h
  obtain ⟨p, ns, rfl, hp, hl, q⟩ := h
  obtain ⟨u, rfl, ru⟩ := vals1 r
  cases ru
  obtain ⟨its, rv, ht, hz⟩ := I.tuple hp
  have pt : s.heap.IsTuple p its.toArray := ht
  refine call_set_tupI (P := X.prog) ns (I.ok.hd hc) pt (by simpa using ints_of rv) (by show ns.length + 1 < 4096; omega) fun h' tk c R le keep => ?_
  have cnt : c = ns.length ↔ ns.Nodup := by
    obtain ⟨o, es, ep, t, ho, hx, hd, g, nd, hm, hb, hf, hn, _⟩ := R
    rw [← hn]
    have := count_keys (ks := es.toList.map keyOf) (ns := ns) nd fun k => by
      rw [← hm k]
      exact decide_eq_true_iff.symm
    rw [List.length_map, Array.length_toList] at this
    exact this
  refine ⟨.ref _, _, I.laid (t' := tk) (o := .set (fun j => decide (j ∈ ns)) c) keep (Nat.le_refl _) ?_, rfl, q _ c (I.hok.fresh (Nat.le_refl _)) cnt le⟩
  exact R.setOf
theorem cr_lenSet : CallR X (.builtin "len") (fun xs H Q => ∃ a S n, xs = [V.ref a] ∧ H a = some (.set S n) ∧ Q (.int (n : Nat)) H) := by
  intro pins s σ H xs us Q I r h
  obtain ⟨a, S, n, rfl, ha, q⟩ := h
  obtain ⟨u, rfl, ru⟩ := vals1 r
  cases ru
  obtain ⟨o, es, ep, t, ho, hx, hd, _, _, hb, hf, hn⟩ := (show s.heap.SetOf (intKind X.prog X.w) a S n from I.hok a _ ha)
  subst hn
  have small : es.size < 4096 := hb
  exact PySem.call_len_set ho hx hd hf (by omega) ⟨.int _, H, I.tok _, ⟨_, rfl⟩, q⟩
def rLenK (K : PySem.W.Frag) : List V → Hp → VK → Prop := fun xs H Q => ∃ p ys, xs = [.ref p] ∧ (SqL K H p ys ∨ SqT K H p ys) ∧ Q (.int ys.length) H
theorem cr_lenK {K : PySem.W.Frag} (e : X.K = K) : CallR X (.builtin "len") (rLenK K) := by
  subst e
  exact call_len_seq
end
end MM

set_option Elab.async false
set_option linter.all false
set_option maxRecDepth 100000
set_option maxHeartbeats 2000000
namespace K08
open PySem PySem.Spec PyProof.Rows L2 MM GT
/-! own words for the readings: a step, its side -/
local macro_rules | `(tactic| walk_at "side") => `(tactic| first
  | omega
  | exact ⟨by omega, by omega⟩
  | exact Or.inl ⟨by omega, by omega⟩
  | exact Or.inr ⟨by omega, by omega⟩
  | (show CPw _ _; decide +kernel)
  | (show (0 : Int) < _; decide +kernel)
  | (show CDivW _ _; first | assumption | exact ⟨by decide, by decide +kernel⟩))
local macro_rules | `(tactic| walk_at "here") => `(tactic| first
  | assumption
  | exact upd_same
  | exact Or.inl (Or.inl upd_same)
  | exact Or.inl upd_same)
local macro_rules | `(tactic| walk_at "one") => `(tactic| first
  | refine ⟨_, rfl, ?_⟩
  | refine Or.inl ⟨_, rfl, ?_⟩
  | refine Or.inr ⟨_, rfl, ?_⟩
  | refine ⟨_, _, rfl, rfl, (by walk_at "side"), ?_⟩
  | refine ⟨_, _, rfl, rfl, ?_⟩
  | refine ⟨_, _, rfl, Or.inl (by walk_at "here"), ?_⟩
  | refine ⟨_, _, rfl, Or.inr (by walk_at "here"), ?_⟩
  | refine ⟨_, _, rfl, (by walk_at "here"), ?_⟩
  | refine ⟨_, _, _, _, rfl, rfl, (by walk_at "here"), rfl, ?_⟩
  | refine ⟨_, _, rfl, ?_⟩
  | refine ifT (by rfl) ?_
  | refine ifF (by rfl) ?_
  | refine ifT (decide_eq_true (by omega)) ?_
  | refine ifF (decide_eq_false (by omega)) ?_)
local macro_rules | `(tactic| walk_at "st") => `(tactic| repeat (walk_at "one"))

section
variable {P : Program} {w : World} {K : PySem.W.Frag} {mg : Str → Option Value} {base : Heap}
/-- a value, and its members if it is a tuple -/
inductive Rv (K : PySem.W.Frag) (H : Hp) : V → Option (List V) → Prop where
  | no {x : V} {n : Kn} (h : Kd K H x n) (ne : n.isa .tup = false) : Rv K H x none
  | yes {a : Addr} {xs : List V} (h : SqT K H a xs) (m : ∀ y, y ∈ xs → ∃ n, Kd K H y n) : Rv K H (.ref a) (some xs)

def toI : V → Int
  | .int i => i
  | _ => 0
def isArr (n : Nat) : Option (List V) → Bool
  | some xs => decide (xs.length = n) && ((xs.map fun x => isB x 0 ((n : Int) - 1)).all id && decide ((xs.map toI).Nodup))
  | none => false
theorem isArr_some (n : Nat) (xs : List V) : isArr n (some xs) = (decide (xs.length = n) && ((xs.map fun x => isB x 0 ((n : Int) - 1)).all id && decide ((xs.map toI).Nodup))) := rfl
def spArr (K : PySem.W.Frag) : Sp := fun vs H Q _ => ∃ (n : Nat) (x : V) (o : Option (List V)), vs = [.int (n : Int), x] ∧ Rv K H x o ∧ n ≤ 1000 ∧ ∀ H', Same H H' → Q (.bl (isArr n o)) H'
theorem ints_back {xs : List V} {n : Int} (h : (xs.map fun x => isB x 0 n).all id = true) : xs = (xs.map toI).map V.int := by
  rw [List.all_map, List.all_eq_true] at h
  induction xs with
  | nil => rfl
  | cons x r ih =>
    have h1 := h x (by simp)
    rw [List.map_cons, List.map_cons, ← ih fun y hy => h y (by simp [hy])]
    cases x <;> first | rfl | cases h1
theorem scIsArrangement : FnScope ["size", "value", "member"] ["size", "value"] (defScope sIsArrangement) :=
  ⟨rfl, rfl, rfl, by decide +kernel, rfl, by decide +kernel, by decide +kernel⟩
theorem dIsArrangement (T : Tx K mg) (DIsBetween : Def P w K mg base CX0 2 "is_between" ["value", "least", "most"] (spIsBetween K)) : Def P w K mg base CX0 3 "is_arrangement" ["size", "value"] (spArr K) := by
  refine T.t_is_arrangement.def_ (N := ["size", "value", "member"]) scIsArrangement (fun _ _ _ _ _ _ us hl => match us, hl with | [_, _], _ => rfl) ?_ ?_
  · intro vs H Q E h
    obtain ⟨n, x, o, rfl, _⟩ := h
    rfl
  · intro f cd A out s H vs Q E hr h
    have hr1 : Rm 2 _ := hr.le (by decide)
    obtain ⟨n, x, o, rfl, hv, small, q⟩ := h
    refine ⟨_, (pss_cons (ps_if (PW.pt (pw_or (pt_not (pt_val (pe_callB (cr_is .tup) rfl T.f_isinstance (by decide +kernel) (pa_cons (pv 1) (pa_cons (pe_ty .tup T.f_tuple (by decide +kernel)) pa_nil))))) (pw_or1 (pt_cmpR op_ne (pe_callB call_len_seq rfl T.f_len (by decide +kernel) (pa_cons (pv 1) pa_nil)) (pv 0) (nomark _))))) (pss_one (ps_ret pe_bl)) pss_nil)
      (pss_cons (ps_if (pt_not (pt_val (pe_callB (cr_all rfl) rfl T.f_all (by decide +kernel) (pa_cons (pe_lc (own := [("member", 2)]) (g := gName 2) (tt := tYes) rfl scIsArrangement.nd (pi_tup (pv 1)) (blkOk_by (N := ["size", "value", "member"]) (sc := defScope sIsArrangement) (by decide +kernel)) (fun _ _ _ _ _ => pg_name (i := 2) scIsArrangement.nd rfl (Or.inl rfl)) (fun _ _ _ _ _ => pts_nil) (fun _ _ _ _ _ => (pe_d DIsBetween (hr1.le (by decide)) pass0 (pa_cons (pv 2) (pa_cons pe_int (pa_cons (pe_op op_sub (pv 0) pe_int) pa_nil)))))) pa_nil)))) (pss_one (ps_ret pe_bl)) pss_nil)
      (pss_one (ps_ret (pe_cmpR op_eq (pe_callB cr_lenSet rfl T.f_len (by decide +kernel) (pa_cons (pe_callTy (cr_setI rfl) rfl T.f_set (by decide +kernel) (pa_cons (pv 1) pa_nil)) pa_nil)) (pv 0) (nomark _)))))), ?_⟩
    cases hv with
    | no hk ne =>
      refine ⟨_, rfl, _, _, rfl, hk, _, rfl, ?_⟩
      refine ifT (by rw [ne]; rfl) ?_
      exact q H (Same.refl H)
    | yes S m =>
      rename_i a xs
      refine ⟨_, rfl, _, _, rfl, .tup S, _, rfl, ?_⟩
      refine ifF rfl ?_
      refine ⟨_, rfl, _, _, rfl, .inr S, _, rfl, rfl, _, rfl, ?_⟩
      show (if (!decide (V.int (xs.length : Int) = V.int (n : Int))) = true then _ else _)
      rw [dInt, show decide ((xs.length : Int) = (n : Int)) = decide (xs.length = n) from decide_eq_decide.mpr (by omega)]
      by_cases c : xs.length = n
      · refine ifF (by rw [decide_eq_true c]; rfl) ?_
        have ei : ∀ b1 b2 : Bool, (b1 && b2) = (if b1 = true then b2 else false) := fun b1 b2 => by cases b1 <;> rfl
        refine ⟨_, rfl, a, rfl, ⟨_, S⟩, fun D nD => ?_⟩
        refine lc_tpl (fun x => .bl (isB x 0 ((n : Int) - 1))) S nD (Nat.le_of_lt (small1000 (by omega))) ?_ ?_
        · intro x acc hx Q' q'
          obtain ⟨kn, hk⟩ := m x hx
          exact ⟨_, rfl, _, rfl, _, _, rfl, rfl, x, kn, _, _, rfl, hk.same (same_new nD), q'⟩
        refine ⟨D, xs.map fun x => isB x 0 ((n : Int) - 1), rfl, .inl (.inl (Eq.trans upd_same (by rw [List.map_map]; rfl))), ?_⟩
        refine ⟨_, rfl, ?_⟩
        have S1 : Same H (upd H D (.lst (xs.map fun x => V.bl (isB x 0 ((n : Int) - 1))))) := same_new nD
        generalize upd H D _ = H1 at S1 ⊢
        cases e : (xs.map fun x => isB x 0 ((n : Int) - 1)).all id with
        | false =>
          have q' := q H1 S1
          rw [show isArr n (some xs) = false from (by rw [isArr_some, e]; simp)] at q'
          exact q'
        | true =>
          have back := ints_back e
          have S2 := same_sqt S1 S
          rw [back] at S2
          refine ⟨_, rfl, a, xs.map toI, rfl, S2, by rw [List.length_map]; omega, fun t k ft hk le => ?_⟩
          refine ⟨t, _, k, rfl, upd_same, ?_⟩
          refine ⟨_, rfl, rfl, ?_⟩
          have q' := q (upd H1 t (.set (fun j => decide (j ∈ xs.map toI)) k)) (S1.trans (same_new ft))
          rw [show isArr n (some xs) = decide (V.int (k : Int) = V.int (n : Int)) from (by
            rw [List.length_map, c] at hk
            rw [dInt]
            rw [isArr_some, e, decide_eq_true c, Bool.true_and, Bool.true_and]
            exact decide_eq_decide.mpr (by rw [← hk]; omega))] at q'
          exact q'
      · refine ifT (by rw [decide_eq_false c]; rfl) ?_
        have q' := q H (Same.refl H)
        rw [show isArr n (some xs) = false from (by rw [isArr_some, decide_eq_false c]; rfl)] at q'
        exact q'
def spIsMove (K : PySem.W.Frag) : Sp := fun vs H Q _ => ∃ (n : Nat) (x : V) (o : Option (List V)), vs = [.int (n : Int), x] ∧ Rv K H x o ∧ 1 ≤ n ∧ n ≤ 24 ∧ ∀ H', Same H H' → Q (.bl (isArr n o)) H'
theorem scIsMove : FnScope ["places", "value"] ["places", "value"] (defScope sIsMove) :=
  ⟨rfl, rfl, rfl, by decide +kernel, rfl, by decide +kernel, by decide +kernel⟩
theorem dIsMove (T : Tx K mg) (DNeedPlaces : Def P w K mg base CX0 4 "need_places" ["places"] (spNeedPlaces K)) (DIsArrangement : Def P w K mg base CX0 3 "is_arrangement" ["size", "value"] (spArr K)) : Def P w K mg base CX0 5 "is_move" ["places", "value"] (spIsMove K) := by
  refine T.t_is_move.def_ (N := ["places", "value"]) scIsMove (fun _ _ _ _ _ _ us hl => match us, hl with | [_, _], _ => rfl) ?_ ?_
  · intro vs H Q E h
    obtain ⟨n, x, o, rfl, _⟩ := h
    rfl
  · intro f cd A out s H vs Q E hr h
    have hr1 : Rm 4 _ := hr.le (by decide)
    obtain ⟨n, x, o, rfl, hv, h1, h2, q⟩ := h
    refine ⟨_, (pss_cons (ps_expr (pe_d DNeedPlaces (hr1.le (by decide)) pass0 (pa_cons (pv 0) pa_nil)))
      (pss_one (ps_ret (pe_d DIsArrangement (hr1.le (by decide)) pass0 (pa_cons (pv 0) (pa_cons (pv 1) pa_nil)))))), ?_⟩
    exact ⟨_, rfl, n, rfl, h1, h2, _, rfl, _, rfl, n, x, o, rfl, hv, by omega, q⟩
/-- a move -/
def Mv (m : List Nat) : Prop := m.Nodup ∧ (∀ k ∈ m, k < m.length) ∧ 1 ≤ m.length ∧ m.length ≤ 24
theorem rv_mv {H : Hp} {a : Addr} {m : List Nat} (h : SqT K H a (mv m)) : Rv K H (.ref a) (some (mv m)) := .yes h fun y hy => by
  obtain ⟨k, _, rfl⟩ := List.mem_map.mp hy
  exact ⟨_, .int _⟩
theorem arr_mv {m : List Nat} (h : Mv m) : isArr m.length (some (mv m)) = true := by
  rw [isArr_some, decide_eq_true (mv_len m), Bool.true_and]
  have e : (mv m).map toI = m.map fun (k : Nat) => (k : Int) := by
    unfold mv
    rw [List.map_map]
    rfl
  have nd : ((mv m).map toI).Nodup := by
    rw [e]
    refine List.Pairwise.map _ (fun a b z => ?_) h.1
    omega
  rw [decide_eq_true nd, Bool.and_true, List.all_map, List.all_eq_true]
  intro x hx
  obtain ⟨k, hk, rfl⟩ := List.mem_map.mp hx
  have := h.2.1 k hk
  show (decide (0 ≤ (k : Int)) && decide ((k : Int) ≤ (m.length : Int) - 1)) = true
  rw [decide_eq_true (by omega), decide_eq_true (by omega)]
  rfl
def spNeedMove (K : PySem.W.Frag) : Sp := fun vs H Q _ => ∃ a m, vs = [.ref a] ∧ SqT K H a (mv m) ∧ Mv m ∧ ∀ H', Same H H' → Q .non H'
def spNeedPair (K : PySem.W.Frag) : Sp := fun vs H Q _ => ∃ a b m l, vs = [.ref a, .ref b] ∧ SqT K H a (mv m) ∧ SqT K H b (mv l) ∧ Mv m ∧ Mv l ∧ m.length = l.length ∧ ∀ H', Same H H' → Q .non H'
def spProduct (K : PySem.W.Frag) : Sp := fun vs H Q _ => ∃ a b m l, vs = [.ref a, .ref b] ∧ SqT K H a (mv m) ∧ SqT K H b (mv l) ∧ Mv m ∧ Mv l ∧ m.length = l.length ∧ ∀ H' t, Same H H' → SqT K H' t (mv (comp m l)) → Q (.ref t) H'
def spUndone (K : PySem.W.Frag) : Sp := fun vs H Q _ => ∃ a m, vs = [.ref a] ∧ SqT K H a (mv m) ∧ Mv m ∧ ∀ H' t, Same H H' → SqT K H' t (mv (back m)) → Q (.ref t) H'
end
end K08


set_option Elab.async false
set_option linter.all false
set_option maxRecDepth 100000
set_option maxHeartbeats 2000000
namespace MM
open PySem PySem.Spec PyProof.Rows L2
/-- a dict of one pair, whose key is a tuple -/
def tOneT (tk tv : TE) : TE := fun σ H Q => ∀ p, H p = none → tk σ (upd H p (.dT [])) fun y H1 => tv σ H1 fun z H2 =>
  H2 p = some (.dT []) ∧ ∃ (b : Addr) (k : List L2.Key), y = .ref b ∧ H2 b = some (.tup (k.map kV)) ∧ Q (.ref p) (upd H2 p (.dT [(k, z)]))
theorem pe_oneT {X : Cx} {pos : Pos} {k v : Expr} {tk tv : TE} (hu : X.A.units + 1 < cLine) (hk : PE X k tk) (hv : PE X v tv) : PE X (.Dict [some k] [v] pos) (tOneT tk tv) := by
  refine ⟨fun pins s σ H Q I q => ?_⟩
  have fr := I.hok.fresh (Nat.le_refl s.heap.objs.size)
  have I0 := I.laid (a := s.heap.objs.size) (o := .dT []) (h' := s.heap.push { cls := .type "dict", data := .dict #[] }) (t' := s.toks) (fun _ _ q => Heap.get?_push_of_some _ q) (Nat.le_refl _) (dt_empty s.heap I.big)
  rw [arm_eval_Dict, zip_pairTrees [some k] [v] X.env pos rfl rfl, dictDisplay_pairs (pairTrees [some k] [v] X.env pos) (by simp [pairTrees]) (show 1 < 17 by decide)]
  refine wpAny_bind (wpAny_standAt (wpAny_bind (wpAny_subDictH (knd := tupleKind (mixKind X.prog X.w)) (Q := fun d s' => wpAny (model X.prog X.w) X.A (pure (Value.ref d)) (EP X pins σ Q) X.xe s') (show X.A.units < cLine by omega) (show 1 ≤ 15 by decide) ?_)))
  refine pairTrees_cons_walk (thn (hk.run pins _ σ _ _ I0 (q _ fr)) fun u s1 ⟨y, H1, I1, ry, q1⟩ => thn (hv.run pins s1 σ H1 _ I1 q1) fun u2 s2 ⟨z, H2, I2, rz, e, b, ks, ey, eb, q2⟩ => pairTrees_nil_walk ?_)
  subst ey
  cases (show u = Value.ref b from ry)
  obtain ⟨zz, hd, xs, rel, dd⟩ := dt_of I2.hok e
  cases rel
  refine ⟨[(ks, b, u2)], ?_, dd, fun h' tk' dd' hs => wpAny_pure ?_⟩
  · exact ⟨rfl, rfl, key_of I2.hok eb, True.intro⟩
  · refine ⟨.ref s.heap.objs.size, _, ?_, rfl, q2⟩
    obtain ⟨ob, es, ep, g1, g2, g3, g4, _, g5⟩ := dd'
    have kt : KT (upd H2 s.heap.objs.size (.dT [(ks, z)])) [(ks, z)] (storedAllH ([] : List (List L2.Key × Addr × Value)) [(ks, b, u2)]) :=
      .cons ⟨rfl, (upd_ne (ne_of eb e (fun z => nomatch z))).trans eb, rz⟩ .nil
    exact d_write I2 (by rw [e]; exact True.intro) hs ⟨ob, g1⟩ ⟨(by show 1 ≤ sizeLine; decide), hd, _, kt, ob, es, ep, g1, g2, g3, g4, g5⟩
section
variable {X : Cx}
/-- a comprehension that fills a new object, which stands as o0 at first; Put tells what a store makes of a heap -/
def tDcG (o0 : HO) (Put : Addr → V → V → Hp → Hp → Prop) (wi : TI) (g : TG) (tt : TT) (tk tv : TE) (vs : List Nat) : TE := fun σ H Q => wi σ H fun J H1 => ∀ D, H1 D = none →
  ∃ W : Nat → Nat → Hp → Prop, (∃ m, W 0 m (upd H1 D o0)) ∧ ∀ i m H, W i m H → (J.stop i H ∧ Q (.ref D) H) ∨
    (J.go i H ∧ ∃ Nx : Hp → Prop, (∀ H', Nx H' → ∃ m', m' < m ∧ W (i + 1) m' H') ∧ ∀ x H', J.yld i H x H' → g x (wipe σ vs) H' fun σ2 H2 => wipe σ2 vs = wipe σ vs ∧
      tt σ2 H2 fun b H3 => if b = true then tk σ2 H3 fun y H4 => tv σ2 H4 fun z H5 => ∃ H6, Put D y z H5 H6 ∧ Nx H6 else Nx H3)
/-- what a store must do -/
def PutOk (Put : Addr → V → V → Hp → Hp → Prop) : Prop := ∀ (Y : Cx) (pins : List (Addr × Obj)) (τ : L2.St) (G G' : Hp) (s : Shared) (E : Value → Shared → Prop) (D : Addr) (y z : V) (u r : Value) (R : Unit → Shared → Prop),
  Y.A.units + 1 < cLine → Inv Y pins τ G s → Put D y z G G' → RelV y u → RelV z r → (∀ s', Inv Y pins τ G' s' → R () s') → wpAny (model Y.prog Y.w) Y.A (dictSet D u r) R E s
theorem dcG_core {o0 : HO} {Put : Addr → V → V → Hp → Hp → Prop} (new0 : ∀ (G : Hp) (h : Heap), sysModules < h.objs.size → ObjOk X.prog X.w G (h.push { cls := .type "dict", data := .dict #[] }) h.objs.size o0) (put : PutOk Put) (hu : X.A.units + 1 < cLine)
    {pins : List (Addr × Obj)} {s : Shared} {σ : L2.St} {H : Hp} {Q : VK} {kx vx tg iter : Expr} {ifs : List Expr} {scope : Scope} {own : List (Str × Nat)} {pos pos' : Pos} {wi : TI} {g : TG} {tt : TT} {tk tv : TE} {use : Option (Value → Sem Unit)} {Qf : Value → Shared → Prop}
    (calm : X.calm = true) (nd : X.N.Nodup) (I : Inv X pins σ H s) (pi : PI X tg iter wi) (bo : BlkOk X.N X.env.scope scope own)
    (tgt : ∀ (s : Shared) (H : Hp) (C : Addr) (cl : List (Str × Addr)) (fp : List Addr), PG (X.blk s H scope (compEnvC scope cl C X.env) fp) tg g)
    (tst : ∀ (s : Shared) (H : Hp) (C : Addr) (cl : List (Str × Addr)) (fp : List Addr), PTs (X.blk s H scope (compEnvC scope cl C X.env) fp) ifs tt)
    (key : ∀ (s : Shared) (H : Hp) (C : Addr) (cl : List (Str × Addr)) (fp : List Addr), PE (X.blk s H scope (compEnvC scope cl C X.env) fp) kx tk)
    (val : ∀ (s : Shared) (H : Hp) (C : Addr) (cl : List (Str × Addr)) (fp : List Addr), PE (X.blk s H scope (compEnvC scope cl C X.env) fp) vx tv)
    (fold : ∀ x, foldedSetIterable iter X.env x = pure x) (h : tDcG o0 Put wi g tt tk tv (own.map (·.2)) σ H Q)
    (after : ∀ D C s' m H', Inv X pins σ H' s' → Q (.ref D) H' → s'.heap.Ns C m → FpOk X pins H' C → compPost (model X.prog X.w) X.A X.xe use Qf (.ref D) C (.ok .next) s') :
    wpAny (model X.prog X.w) X.A (comprehension (.DictComp kx vx [⟨tg, iter, ifs, 0⟩] scope pos) scope X.env pos' newDict false (eval iter X.env) use) Qf X.xe s := by
  have clo : ∀ y ∈ scope.names, y.2 = .free → ∃ c, X.env.cells.lookup y.1 = some c := fun y hy e => (bo.free y hy e).elim (fun k => I.ok.has _ (.inl k)) fun k => I.ok.has _ (.inr k)
  refine wpAny_comprehension_free (use := use) rfl fold (closure_ok clo) bo.kind (fun y hy e => by rw [bo.uniq y hy, e]) ?_
  refine thn (pi.run pins s σ H _ I h) fun xv sa ha => thn ha fun itv sb hb => ?_
  obtain ⟨it, fp, tn, J, Hb, rfl, Ib, T, stb, fpb, q⟩ := hb
  refine wpAny_newObj_type (newEnv_comp ?_)
  obtain ⟨D, eD⟩ : ∃ D, sb.heap.objs.size = D := ⟨_, rfl⟩
  rw [eD]
  obtain ⟨W, ⟨m0, w0⟩, turn⟩ := q D (Ib.hok.fresh (Nat.le_of_eq eD))
  generalize esc : ({ sb with heap := sb.heap.push { cls := .type "dict", data := .dict #[] } } : Shared) = sc
  have hp : sc.heap = sb.heap.push { cls := .type "dict", data := .dict #[] } := by rw [← esc]
  have Ic : Inv X pins σ (upd Hb D o0) sc := by
    subst esc
    refine Ib.laid (t' := sb.toks) (fun b o e => Heap.get?_push_of_some _ e) (Nat.le_of_eq eD) ?_
    subst eD
    exact new0 _ sb.heap Ib.big
  have low : ∀ b ∈ fp, b < sb.heap.objs.size := fun b hb => let ⟨_, e, _⟩ := T.obj _ _ stb b hb; Heap.lt_size e
  have fpc : ∀ b ∈ fp, FpOk X pins (upd Hb D o0) b ∧ b < sc.heap.objs.size := fun b hb => by
    have lt := low b hb
    have ne : b ≠ D := by rw [← eD]; exact Nat.ne_of_lt lt
    exact ⟨⟨(upd_ne ne).trans (fpb b hb).1, (fpb b hb).2⟩, by rw [hp, Heap.size_push]; exact Nat.lt_succ_of_lt lt⟩
  have stc : tn 0 sc.heap := T.keep _ _ _ stb fun b _ o e => by rw [hp]; exact Heap.get?_push_of_some _ e
  have Id := block_start Ic bo nd fpc
  have ptg := tgt sc (upd Hb D o0) sc.heap.objs.size (cellsFrom (sc.heap.objs.size + 1) scope.names (cloFrom X.env.cells scope.names [])) fp
  have ptt := tst sc (upd Hb D o0) sc.heap.objs.size (cellsFrom (sc.heap.objs.size + 1) scope.names (cloFrom X.env.cells scope.names [])) fp
  have pky := key sc (upd Hb D o0) sc.heap.objs.size (cellsFrom (sc.heap.objs.size + 1) scope.names (cloFrom X.env.cells scope.names [])) fp
  have pvl := val sc (upd Hb D o0) sc.heap.objs.size (cellsFrom (sc.heap.objs.size + 1) scope.names (cloFrom X.env.cells scope.names [])) fp
  have nof : ∀ b ∈ fp, (upd Hb D o0) b = none := fun b hb => (fpc b hb).1.1
  show codeAny _ _ (.compStart (.DictComp kx vx [⟨tg, iter, ifs, 0⟩] scope pos) 0 (.ref it) (.ref D) (compEnvC scope (cellsFrom (sc.heap.objs.size + 1) scope.names (cloFrom X.env.cells scope.names [])) sc.heap.objs.size X.env))
    (compPost (model X.prog X.w) X.A X.xe use Qf (.ref D) sc.heap.objs.size) { sc with heap := pushCells (sc.heap.push { cls := .type "dict", data := .dict #[] }) scope.names }
  obtain ⟨ce, ece⟩ : ∃ ce, compEnvC scope (cellsFrom (sc.heap.objs.size + 1) scope.names (cloFrom X.env.cells scope.names [])) sc.heap.objs.size X.env = ce := ⟨_, rfl⟩
  have el : ce.locals = sc.heap.objs.size := by rw [← ece]; rfl
  rw [ece] at Id ptg ptt pky pvl ⊢
  generalize eHc : upd Hb D o0 = Hc at Ic Id ptg ptt pky pvl w0 nof fpc
  obtain ⟨sd, esd⟩ : ∃ sd : Shared, ({ sc with heap := pushCells (sc.heap.push { cls := .type "dict", data := .dict #[] }) scope.names } : Shared) = sd := ⟨_, rfl⟩
  rw [esd] at Id ⊢
  have std : tn 0 sd.heap := T.keep _ _ _ stc fun b _ o e => by rw [← esd]; exact pushCells_keeps _ _ _ _ (Heap.get?_push_of_some _ e)
  have still : ∀ {τ : L2.St} {G : Hp} {s' : Shared}, Inv (X.blk sc Hc scope ce fp) [] τ G s' → (∀ b ∈ fp, G b = none) → ∀ b ∈ fp, FpOk (X.blk sc Hc scope ce fp) [] G b := fun {τ G s'} J n b hb =>
    ⟨n b hb, (J.ok.exf b hb).1, J.ok.exfs b hb, .inl hb, fun x c e => (J.ok.exf b hb).2 x c e, fun p z => absurd (show p ∈ ([] : List (Addr × Obj)) ++ [] from z) List.not_mem_nil⟩
  have loop : codeAny (model X.prog X.w) X.A (.compLoop (.DictComp kx vx [⟨tg, iter, ifs, 0⟩] scope pos) 0 (.ref it) (.ref D) ce) (compPost (model X.prog X.w) X.A X.xe use Qf (.ref D) sc.heap.objs.size) sd := by
    refine compLoop_anyD (fun n s' => ∃ i G, Inv (X.blk sc Hc scope ce fp) [] (wipe σ (own.map (·.2))) G s' ∧ tn i s'.heap ∧ (∀ b ∈ fp, G b = none) ∧ W i n G) ?_ m0 ⟨0, Hc, Id, std, nof, w0⟩
    rintro n s5 ⟨i, G5, J5, t5, n5, w5⟩
    rcases turn i n G5 w5 with ⟨stop, qq⟩ | ⟨go, Nx, hNx, step⟩
    · refine thnF (T.done (X.blk sc Hc scope ce fp) rfl rfl rfl calm i [] s5 _ G5 (fun _ _ => False) J5 (still J5 n5) t5 stop) fun r s6 ⟨er, J6⟩ => ?_
      subst er
      have J7 : Inv X pins σ G5 s6 := Ic.call' (ch := fp) J6.os J6.base J6.hok J6.bare fun b hb => ⟨(fpc b hb).1.2.2.2.1, (fpc b hb).1.2.1, (fpc b hb).1.2.2.2.2.1, (fpc b hb).1.2.2.2.2.2⟩
      have free : G5 sc.heap.objs.size = none := by
        rw [← el]
        exact J6.free
      obtain ⟨m, ns, _⟩ := J6.loc
      replace ns : s6.heap.Ns ce.locals m := ns
      rw [el] at ns
      exact after D sc.heap.objs.size s6 m G5 J7 qq ns (Ic.fpOk (Nat.le_refl _) free)
    · refine thnF (T.item (X.blk sc Hc scope ce fp) rfl rfl rfl calm i [] s5 _ G5 (fun _ _ => False) J5 (still J5 n5) t5 go) fun r s6 ⟨u, er, h6⟩ => ?_
      subst er
      refine thnF h6 fun _ s7 ⟨x, G7, J7, r7, y7, t7, n7⟩ => ?_
      refine thnF (ptg.run _ s7 _ G7 x u _ (J7.pinned (still J7 n7) (T.obj _ _ t7)) r7 (step x G7 y7)) fun _ s8 ⟨τ, G8, J8, wp, q8⟩ => ?_
      refine thnF (ptt.run _ s8 τ G8 _ J8 q8) fun b s9 ⟨G9, J9, q9⟩ => ?_
      have close : ∀ {s' : Shared} {G : Hp}, Inv (X.blk sc Hc scope ce fp) ([] ++ pinsAt fp s7.heap) τ G s' → Nx G → ∃ m, m < n ∧ ∃ i G, Inv (X.blk sc Hc scope ce fp) [] (wipe σ (own.map (·.2))) G s' ∧ tn i s'.heap ∧ (∀ b ∈ fp, G b = none) ∧ W i m G := fun {s' G} J nx => by
        obtain ⟨m, lt, w'⟩ := hNx G nx
        have pin : ∀ b ∈ fp, ∀ o, s7.heap.get? b = some o → s'.heap.get? b = some o ∧ G b = none := fun b hb o e => by
          have z := J.pin (b, o) (List.mem_append_right _ (List.mem_append_right _ (mem_pinsAt hb e)))
          exact ⟨z.1, z.2.1⟩
        refine ⟨m, lt, i + 1, G, (J.unpinned (pins := [])).weak (by rw [← wp, wipe_length]) (fun j v e => by rw [← wp] at e; exact (wipe_some e).1), T.keep _ _ _ t7 fun b hb o e => (pin b hb o e).1, fun b hb => ?_, w'⟩
        obtain ⟨o, e, _⟩ := T.obj _ _ t7 b hb
        exact (pin b hb o e).2
      cases b with
      | false => exact close J9 (by simpa using q9)
      | true =>
        have q9' := (if_pos rfl).mp q9
        refine thnF (pky.run _ s9 τ G9 _ J9 q9') fun u1 s10 ⟨y, G10, J10, ry, q10⟩ => ?_
        refine thnF (pvl.run _ s10 τ G10 _ J10 q10) fun u2 s11 ⟨z, G11, J11, rz, G12, pt, nx⟩ => ?_
        exact put (X.blk sc Hc scope ce fp) _ _ _ _ _ _ _ _ _ _ _ _ (show X.A.units + 1 < cLine from hu) J11 pt ry rz fun s' J' => close J' nx
  exact codeAny_compStart_dict loop (T.self X.A 0 _ _ _ std loop)
/-- a store whose key is a tuple -/
def PutT (D : Addr) (y z : V) (G G' : Hp) : Prop := ∃ (kvs : List (List L2.Key × V)) (k : List L2.Key) (b : Addr), y = .ref b ∧ G D = some (.dT kvs) ∧ G b = some (.tup (k.map kV)) ∧ kvs.length < sizeLine ∧ G' = upd G D (.dT (putK kvs k z))
theorem putT_ok : PutOk PutT := by
  intro Y pins τ G G' s E D y z u r R hu I pt ry rz h
  obtain ⟨kvs, k, b, rfl, eD, eb, lt, rfl⟩ := pt
  cases (show u = Value.ref b from ry)
  obtain ⟨zl, hd, xs, rel, dd⟩ := dt_of I.hok eD
  have len := Paired.length rel
  have room := length_putK kvs k z
  refine wpAny_dictSet_heap (knd := tupleKind (mixKind Y.prog Y.w)) (hsz := by omega) (show Y.A.units < cLine by omega) (key_of I.hok eb) dd fun h' dd' sb => h _ ?_
  obtain ⟨ob, es, ep, g1, g2, g3, g4, _, g5⟩ := dd'
  exact d_write I (by rw [eD]; exact True.intro) sb ⟨ob, g1⟩ ⟨by omega, hd, _, (rel.put k eb rz).keeps fun c ys ec => (upd_ne (ne_of ec eD fun e => nomatch e)).trans ec, ob, es, ep, g1, g2, g3, g4, g5⟩
abbrev tDcT : TI → TG → TT → TE → TE → List Nat → TE := tDcG (.dT []) PutT
theorem pe_dcT (hu : X.A.units + 1 < cLine) {kx vx tg iter : Expr} {ifs : List Expr} {scope : Scope} {own : List (Str × Nat)} {pos : Pos} {wi : TI} {g : TG} {tt : TT} {tk tv : TE}
    (calm : X.calm = true) (nd : X.N.Nodup) (pi : PI X tg iter wi) (bo : BlkOk X.N X.env.scope scope own)
    (tgt : ∀ (s : Shared) (H : Hp) (C : Addr) (cl : List (Str × Addr)) (fp : List Addr), PG (X.blk s H scope (compEnvC scope cl C X.env) fp) tg g)
    (tst : ∀ (s : Shared) (H : Hp) (C : Addr) (cl : List (Str × Addr)) (fp : List Addr), PTs (X.blk s H scope (compEnvC scope cl C X.env) fp) ifs tt)
    (key : ∀ (s : Shared) (H : Hp) (C : Addr) (cl : List (Str × Addr)) (fp : List Addr), PE (X.blk s H scope (compEnvC scope cl C X.env) fp) kx tk)
    (val : ∀ (s : Shared) (H : Hp) (C : Addr) (cl : List (Str × Addr)) (fp : List Addr), PE (X.blk s H scope (compEnvC scope cl C X.env) fp) vx tv)
    (fold : ∀ x, foldedSetIterable iter X.env x = pure x := by intro _; rfl) : PE X (.DictComp kx vx [⟨tg, iter, ifs, 0⟩] scope pos) (tDcT wi g tt tk tv (own.map (·.2))) := by
  refine ⟨fun pins s σ H Q I h => ?_⟩
  rw [arm_eval_DictComp]
  refine dcG_core (fun G hp big => dt_empty hp big) putT_ok hu calm nd I pi bo tgt tst key val fold h fun D C s' m G J q ns f => ⟨m, ns, fun hp sb => ?_⟩
  obtain ⟨f0, f1, _, f3, f4, f5⟩ := f
  exact ⟨.ref D, G, J.turned (t' := s'.toks) (fun b o hb e => (sb.2 b hb).trans e) f0 f1 f3 f4 f5, rfl, q⟩
/-- over any walk -/
theorem dcG_it {o0 : HO} {Put : Addr → V → V → Hp → Hp → Prop} {J : It} {n : Nat} {Qh : Hp → Prop} {Y : Nat → Hp → V → Hp → Prop} (w : Walk J n Qh Y) {g : TG} {tt : TT} {tk tv : TE} {vs : List Nat} {σ : L2.St} {H1 : Hp} {D : Addr} {Qd : Hp → Prop} (Pv : Nat → Hp → Prop)
    (h0 : Pv 0 (upd H1 D o0)) (hq : ∀ i H, i ≤ n → Pv i H → Qh H)
    (hs : ∀ i x H H', i < n → Pv i H → Y i H x H' → g x (wipe σ vs) H' fun σ2 H2 => wipe σ2 vs = wipe σ vs ∧ tt σ2 H2 fun b H3 => if b = true then tk σ2 H3 fun y H4 => tv σ2 H4 fun z H5 => ∃ H6, Put D y z H5 H6 ∧ Pv (i + 1) H6 else Pv (i + 1) H3)
    (hd : ∀ H, Pv n H → Qd H) : ∃ W : Nat → Nat → Hp → Prop, (∃ m, W 0 m (upd H1 D o0)) ∧ ∀ i m H, W i m H → (J.stop i H ∧ Qd H) ∨
      (J.go i H ∧ ∃ Nx : Hp → Prop, (∀ H', Nx H' → ∃ m', m' < m ∧ W (i + 1) m' H') ∧ ∀ x H', J.yld i H x H' → g x (wipe σ vs) H' fun σ2 H2 => wipe σ2 vs = wipe σ vs ∧
        tt σ2 H2 fun b H3 => if b = true then tk σ2 H3 fun y H4 => tv σ2 H4 fun z H5 => ∃ H6, Put D y z H5 H6 ∧ Nx H6 else Nx H3) := by
  refine ⟨fun i m H => i ≤ n ∧ m = n - i ∧ Pv i H, ⟨n, Nat.zero_le _, rfl, h0⟩, fun i m H ⟨le, em, p⟩ => ?_⟩
  have qh := hq i H le p
  rcases Nat.lt_or_ge i n with lt | ge
  · exact .inr ⟨w.goes i H lt qh, Pv (i + 1), fun G pg => ⟨n - (i + 1), by omega, lt, rfl, pg⟩, fun x G yl => hs i x H G lt p (w.yields i H x G lt qh yl)⟩
  · obtain rfl : i = n := Nat.le_antisymm le ge
    exact .inl ⟨w.stops H qh, hd H p⟩
/-- d.setdefault(t, z), t a tuple -/
def tSetdT (td ty tx : TE) : TE := fun σ H Q => td σ H fun x H1 => ∃ a, x = .ref a ∧ IsD H1 a ∧ ty σ H1 fun y H2 => tx σ H2 fun z H3 =>
  ∃ (kvs : List (List L2.Key × V)) (k : List L2.Key) (b : Addr), H3 a = some (.dT kvs) ∧ y = .ref b ∧ H3 b = some (.tup (k.map kV)) ∧ kvs.length < sizeLine ∧ (∀ v, valV kvs k = some v → Q v H3) ∧ (valV kvs k = none → Q z (upd H3 a (.dT (putK kvs k z))))
theorem pe_setdT {o e f : Expr} {td ty tx : TE} {apos cpos : Pos} (hu : X.A.units + 1 < cLine) (ho : PE X o td) (he : PE X e ty) (hf : PE X f tx) (m : M2 X o "setdefault" apos e f cpos) : PE X (.Call (.Attribute o "setdefault" apos) [e, f] [] cpos) (tSetdT td ty tx) := by
  refine ⟨fun pins s σ H Q I h => ?_⟩
  refine wpAny_Call_method m.base m.few m.line PySem.F.plainAttrs_dict PySem.F.slot_dict_setdefault PySem.F.type_dict_setdefault ?_
  refine thn (ho.run pins s σ H _ I h) fun u sa ⟨x, Ha, Ia, rx, a, ex, isd, qa⟩ => ?_
  subst ex
  cases (show u = Value.ref a from rx)
  refine ⟨(isD_at Ia isd).1, (isD_at Ia isd).2.1, ?_⟩
  rw [m.trees]
  refine Calls.callWith_builtin rfl (Calls.evalArgs_plain (Calls.spliced_cons ?_))
  refine thn (he.run pins sa σ Ha _ Ia qa) fun u1 sb ⟨y, Hb, Ib, ry, qb⟩ => Calls.spliced_cons ?_
  refine thn (hf.run pins sb σ Hb _ Ib qb) fun u2 sc ⟨z, Hc, Ic, rz, kvs, k, b, ea, ey, eb, lt, q1, q2⟩ => Calls.spliced_nil ?_
  subst ey
  cases (show u1 = Value.ref b from ry)
  obtain ⟨zl, hd, xs, rel, dd⟩ := dt_of Ic.hok ea
  have len := Paired.length rel
  have room := length_putK kvs k z
  have rv := rel.val k
  refine call_setdefault_heap (knd := tupleKind (mixKind X.prog X.w)) (hsz := by omega) (tupleKind_room_in1 hu) (key_of Ic.hok eb) hd dd (fun p hp => ?_) fun hn h' dd' sb => ?_
  · rw [hp] at rv
    cases e0 : valV kvs k with
    | none => rw [e0] at rv; exact (show False from rv).elim
    | some v => rw [e0] at rv; exact ⟨v, Hc, Ic.tok _, rv, q1 v e0⟩
  · rw [hn] at rv
    cases e0 : valV kvs k with
    | some v => rw [e0] at rv; exact (show False from rv).elim
    | none =>
      obtain ⟨ob, es, ep, g1, g2, g3, g4, _, g5⟩ := dd'
      exact ⟨z, _, d_write (ob := .dT (putK kvs k z)) Ic (by rw [ea]; exact True.intro) sb ⟨ob, g1⟩ ⟨by omega, hd, _, (rel.put k eb rz).keeps fun c ys ec => (upd_ne (ne_of ec ea fun e => nomatch e)).trans ec, ob, es, ep, g1, g2, g3, g4, g5⟩, rz, q2 e0⟩
/-- t.index(x), by data -/
def rIdxT (K : PySem.W.Frag) : V → List V → Hp → VK → Prop := fun x xs H Q => ∃ (a : Addr) (y : V) (d : PyData) (ds : List PyData) (j : Nat) (z : PyData), x = V.ref a ∧ xs = [y] ∧ Dp K H (V.ref a) (.tuple ds) ∧ Dp K H y d ∧
  SeqAt.shaped (.tuple ds) = true ∧ SeqAt.shaped d = true ∧ ds[j]? = some z ∧ PyData.eqv z d = true ∧ (∀ (m : Nat) (z' : PyData), m < j → ds[m]? = some z' → PyData.eqv z' d = false) ∧ Q (.int (j : Nat)) H
theorem mt_idxT (hu : X.A.units + 65 < cLine) : MtR X "tuple.index" (rIdxT X.K) := by
  intro pins s σ H x xs v us Q I rx rxs h
  obtain ⟨a, y, d, ds, j, z, rfl, rfl, tl, ty, sl, sd, hz, yes, no, q⟩ := h
  cases rx
  obtain ⟨uy, rfl, ry⟩ := rxs.one
  obtain ⟨bs, rd⟩ := Dp.reads I d y uy ty ry
  have lay : PyData.canLayAll0 ds = true := by
    have := SeqAt.canLay_of_shaped sl
    simpa [PyData.canLay0] using this
  have room : X.A.units + 1 + min (PyData.depthAll ds) d.depth < cLine := room_in_shaped sd hu
  cases tl with
  | tup hs ha =>
    obtain ⟨its, rv, ⟨⟨cls, dd, data, sls⟩, ho, hc, n, hdt⟩, hlen⟩ := I.tuple hs
    simp only at hc hdt
    subst hc hdt
    obtain ⟨as, rs⟩ := Dp.readsAll I ds _ its ha rv
    have en : its.length = ds.length := SeqAt.ReadsAll.length ds its as rs
    have em : its.map (SeqAt.readOf s.heap) = ds := SeqAt.readsAll_map ds its as lay rs
    have jl : j < ds.length := (List.getElem?_eq_some_iff.mp hz).1
    have look : ∀ (m : Nat) (hm : m < its.toArray.size), ds[m]? = some (SeqAt.readOf s.heap its.toArray[m]) := fun m hm => by
      have hl : m < its.length := by simpa using hm
      rw [← em, List.getElem?_map, List.getElem?_eq_getElem hl]
      simp
    have jt : j < its.toArray.size := by rw [List.size_toArray]; omega
    refine call_meets PySem.F.slot_tuple_index ⟨_, ho, rfl⟩ PySem.F.entry_tuple_index (PySem.F.args_tuple_index_2 _ _)
      (TI.tuple_indexAt a its.toArray n dd sls uy (fun u => PyData.eqv (SeqAt.readOf s.heap u) d) j jt ?_ ?_) ⟨ho, SeqAt.items_eqAt (vs := its.toArray) (show ReadsAll s.heap its.toArray.toList ds as from rs) rd lay (SeqAt.canLay_of_shaped sd) room, .int (j : Nat), H, I.tok _, ⟨_, rfl⟩, q⟩
    · have := look j jt
      rw [hz] at this
      show PyData.eqv (SeqAt.readOf s.heap its.toArray[j]) d = true
      rw [← Option.some.inj this]
      exact yes
    · intro m hm lt
      exact no m _ lt (look m hm)
end
end MM
namespace MM
open PySem
theorem Rm.hu65 {k : Nat} {A : Around} (h : Rm k A) : A.units + 65 < cLine := by have := h.hu66; omega
end MM
namespace MM
open PySem PyProof.Rows
section
variable {α β : Type} {R : α → β → Prop}
theorem pr_len : ∀ {us : List α} {os : List β}, Paired R us os → us.length = os.length
  | _, _, .nil => rfl
  | _, _, .cons _ t => congrArg (· + 1) (pr_len t)
theorem pr_get : ∀ {us : List α} {os : List β}, Paired R us os → ∀ {i : Nat} {o : β}, os[i]? = some o → ∃ u, us[i]? = some u ∧ R u o
  | _, _, .nil, _, _, h => by cases h
  | _, _, .cons r _, 0, _, h => ⟨_, rfl, by cases h; exact r⟩
  | _, _, .cons _ t, i + 1, _, h => pr_get t (i := i) h
theorem pr_at : ∀ {us : List α} {os : List β}, Paired R us os → ∀ {i : Nat} {u : α}, us[i]? = some u → ∃ o, os[i]? = some o ∧ R u o
  | _, _, .nil, _, _, h => by cases h
  | _, _, .cons r _, 0, _, h => ⟨_, rfl, by cases h; exact r⟩
  | _, _, .cons _ t, i + 1, _, h => pr_at t (i := i) h
theorem pr_app : ∀ {us : List α} {os : List β} {us2 : List α} {os2 : List β}, Paired R us os → Paired R us2 os2 → Paired R (us ++ us2) (os ++ os2)
  | _, _, _, _, .nil, h => h
  | _, _, _, _, .cons r t, h => .cons r (pr_app t h)
theorem pr_snoc {u : α} {o : β} {us : List α} {os : List β} (h : Paired R us os) (r : R u o) : Paired R (us ++ [u]) (os ++ [o]) := pr_app h (.cons r .nil)
theorem pr_set {u : α} {o : β} (r0 : R u o) : ∀ {us : List α} {os : List β}, Paired R us os → ∀ i, Paired R (us.set i u) (os.set i o)
  | _, _, .nil, _ => .nil
  | _, _, .cons _ t, 0 => .cons r0 t
  | _, _, .cons r t, i + 1 => .cons r (pr_set r0 t i)
end
end MM
namespace MM
open PySem PySem.Spec PyProof.Rows L2
/-- a tuple whose object has no dict of its own -/
def PlT (H : Hp) (a : Addr) (xs : List V) : Prop := ∃ o, H a = some (.frz o (.tup xs)) ∧ o.dict = none
theorem PlT.sqt {K : PySem.W.Frag} {H : Hp} {a : Addr} {xs : List V} (h : PlT H a xs) : SqT K H a xs := let ⟨o, e, _⟩ := h; .inl (.inr ⟨o, e⟩)
section
variable {X : Cx}
/-- tuple(l), l a list: the object known -/
theorem call_tupleF : CallR X (.type "tuple") (fun xs H Q => ∃ p ys, xs = [V.ref p] ∧ SqL X.K H p ys ∧ ∀ l o, o.dict = none → H l = none → Q (.ref l) (upd H l (.frz o (.tup ys)))) := by
  intro pins s σ H xs us Q I r h
  obtain ⟨p, ys, rfl, hq, q⟩ := h
  obtain ⟨u, rfl, rx⟩ := r.one
  cases rx
  obtain ⟨its, rv, pl, small⟩ := I.list hq
  have ln := rv.length
  refine call_tuple_list pl.isList (fun hp kp => ?_) (by simp only [List.size_toArray] <;> omega)
  have J : Inv X pins σ H { s with heap := hp } := I.kept (t' := s.toks) kp
  refine ⟨.ref hp.objs.size, upd H hp.objs.size (.frz { cls := .type "tuple", data := .seq its.toArray } (.tup ys)), J.laid (t' := s.toks) (fun b o e => Heap.get?_push_of_some _ e) (Nat.le_refl _) ?_, rfl, q _ _ rfl (J.hok.fresh (Nat.le_refl _))⟩
  exact ⟨Heap.get?_push_size _ rfl, small, its, rv, IsTup.new _ _⟩
/-- t.index(e), t such a tuple -/
def tIdxF (K : PySem.W.Frag) (to te : TE) : TE := fun σ H Q => to σ H fun x H1 => (∃ a xs, x = V.ref a ∧ PlT H1 a xs) ∧ te σ H1 fun y H2 => rIdxT K x [y] H2 Q
theorem pe_idxF {o e : Expr} {to te : TE} {apos cpos : Pos} (hu : X.A.units + 65 < cLine) (ho : PE X o to) (he : PE X e te) (m : M1 X o "index" apos e cpos) : PE X (.Call (.Attribute o "index" apos) [e] [] cpos) (tIdxF X.K to te) := by
  refine ⟨fun pins s σ H Q I h => ?_⟩
  refine wpAny_Call_method m.base m.few m.line PySem.F.plainAttrs_tuple PySem.F.slot_tuple_index PySem.F.type_tuple_index ?_
  refine thn (ho.run pins s σ H _ I h) fun u sa ⟨x, Ha, Ia, rx, ⟨a, xs, ex, o, eo, od⟩, qa⟩ => ?_
  subst ex
  have ru : RelV (.ref a) u := rx
  cases (show u = Value.ref a from rx)
  obtain ⟨go, _, its, rv, pt⟩ := (show ObjOk X.prog X.w Ha sa.heap a (.frz o (.tup xs)) from Ia.hok a _ eo)
  obtain ⟨o2, g2, c2, _⟩ := pt
  refine ⟨⟨o2, g2, c2⟩, fun b e => by cases e; exact ⟨o, go, od⟩, ?_⟩
  rw [m.trees]
  refine Calls.callWith_builtin rfl (Calls.evalArgs_plain (Calls.spliced_cons ?_))
  refine thn (he.run pins sa σ Ha _ Ia qa) fun u1 sb ⟨y, Hb, Ib, ry, qb⟩ => Calls.spliced_nil ?_
  exact mt_idxT hu pins sb σ Hb (.ref a) [y] _ [u1] Q Ib ru (.cons ry .nil) qb
end
end MM
namespace MM
open PySem PySem.Spec PyProof.Rows L2
theorem atI_end {xs : List V} {x : V} {n : Nat} (h : xs[n]? = some x) (l : xs.length = n + 1) : atI xs (-1) = some x := by
  unfold atI ixN
  rw [if_neg (by decide), if_pos (by omega), l]
  show xs[((-1 : Int) + ((n + 1 : Nat) : Int)).toNat]? = _
  rw [show ((-1 : Int) + ((n + 1 : Nat) : Int)).toNat = n by omega]
  exact h
theorem six_end {n : Nat} (h : 1 ≤ n) : HT.sIx n n (some (-1)) = n - 1 := by
  show (if (-1 : Int) < 0 then ((-1 : Int) + (n : Int)).toNat else min (-1 : Int).toNat n) = n - 1
  rw [if_pos (by decide)]
  omega
theorem cut_end (xs : List V) (h : 1 ≤ xs.length) : cutV xs none (some (-1)) = xs.take (xs.length - 1) := by
  unfold cutV
  rw [show HT.sIx xs.length 0 none = 0 from rfl, six_end h, List.drop_zero, Nat.sub_zero]
end MM
namespace MM
open PySem PySem.Spec PyProof.Rows L2
section
variable {X : Cx}
/-- a store whose key is an int or a text -/
def PutI (D : Addr) (y z : V) (G G' : Hp) : Prop := ∃ (kvs : List (L2.Key × V)) (k : L2.Key), y = kV k ∧ G D = some (.dK kvs) ∧ kvs.length < sizeLine ∧ G' = upd G D (.dK (putK kvs k z))
theorem putI_ok : PutOk PutI := by
  intro Y pins τ G G' s E D y z u r R hu I pt ry rz h
  obtain ⟨kvs, k, rfl, eD, lt, rfl⟩ := pt
  exact d_dictSet I eD lt ry rz h
/-- name = {..} on one line, the name a local -/
theorem ps_setDcG {o0 : HO} {Put : Addr → V → V → Hp → Hp → Prop} (new0 : ∀ (G : Hp) (h : Heap), sysModules < h.objs.size → ObjOk X.prog X.w G (h.push { cls := .type "dict", data := .dict #[] }) h.objs.size o0) (put : PutOk Put) (hu : X.A.units + 1 < cLine)
    {i : Nat} {y : Str} {py : Pos} {kx vx tg iter : Expr} {ifs : List Expr} {scope : Scope} {own : List (Str × Nat)} {pos spos : Pos} {wi : TI} {g : TG} {tt : TT} {tk tv : TE} (calm : X.calm = true) (nd : X.N.Nodup) (hy : X.N[i]? = some y) (hyl : X.env.scope.names.lookup y = some .local)
    (hsw : swapsWith (.DictComp kx vx [⟨tg, iter, ifs, 0⟩] scope pos) (some (.Name y py)) spos.line X.env = pure true) (pi : PI X tg iter wi) (bo : BlkOk X.N X.env.scope scope own)
    (tgt : ∀ (s : Shared) (H : Hp) (C : Addr) (cl : List (Str × Addr)) (fp : List Addr), PG (X.blk s H scope (compEnvC scope cl C X.env) fp) tg g)
    (tst : ∀ (s : Shared) (H : Hp) (C : Addr) (cl : List (Str × Addr)) (fp : List Addr), PTs (X.blk s H scope (compEnvC scope cl C X.env) fp) ifs tt)
    (key : ∀ (s : Shared) (H : Hp) (C : Addr) (cl : List (Str × Addr)) (fp : List Addr), PE (X.blk s H scope (compEnvC scope cl C X.env) fp) kx tk)
    (val : ∀ (s : Shared) (H : Hp) (C : Addr) (cl : List (Str × Addr)) (fp : List Addr), PE (X.blk s H scope (compEnvC scope cl C X.env) fp) vx tv)
    (fold : ∀ x, foldedSetIterable iter X.env x = pure x := by intro _; rfl) :
    PS X (.Assign [.Name y py] (.DictComp kx vx [⟨tg, iter, ifs, 0⟩] scope pos) spos) (tAsg (tDcG o0 Put wi g tt tk tv (own.map (·.2))) (gName i)) := by
  refine ⟨fun pins s σ H D I h => ?_⟩
  rw [exec_Assign_Name_used _ _ _ _ hsw]
  refine wpAny_bind (wpAny_standAt (wpAny_bind ?_))
  show wpAny _ X.A (do let _ ← comprehension (.DictComp kx vx [⟨tg, iter, ifs, 0⟩] scope pos) scope X.env (firstIterPos [⟨tg, iter, ifs, 0⟩] pos) newDict false (eval iter X.env) (some (assign (.Name y py) X.env))) _ _ s
  replace h : tDcG o0 Put wi g tt tk tv (own.map (·.2)) σ H fun x H1 => gName i x σ H1 D.nx := h
  refine wpAny_bind (thn (dcG_core (Qf := fun _ s' => SP X pins D .next s') new0 put hu calm nd I pi bo tgt tst key val fold h fun L C s' m G J q ns f => ?_) fun _ s' hq => wpAny_pure (wpAny_pure hq))
  show wpAny _ _ (assign (.Name y py) X.env (.ref L)) _ _ _
  refine wpAny_assign_Name (store_ok2 (v := V.ref L) J nd hy (.inl hyl) rfl (fun s2 J2 ⟨a, sb, ha⟩ => ?_) (.inr hyl))
  obtain ⟨f0, f1, _, f3, f4, f5⟩ := f
  have ne : C ≠ a := by
    rcases ha with z | z
    · rw [z]
      exact f1
    · exact fun e => f4 y a z e.symm
  exact ⟨m, ns.sameBut sb ne, fun h3 sb3 => ⟨_, G, J2.turned (t' := s2.toks) (fun b o hb e => (sb3.2 b hb).trans e) f0 f1 f3 f4 f5, q⟩⟩
abbrev tDcI : TI → TG → TT → TE → TE → List Nat → TE := tDcG (.dK []) PutI
theorem sw_trueD {kx vx : Expr} {gs : List Comprehension} {scope : Scope} {pos py : Pos} {y : Str} {l : Nat} {env : Env} (hk : env.scope.kind = .function) (hy : env.scope.names.lookup y = some .local) (hl : (py.line == pos.line) = true)
    (ha : (scope.names.any fun (n, k) => n == y && (k == .local || k == .cell)) = false) : swapsWith (.DictComp kx vx gs scope pos) (some (.Name y py)) l env = pure true := by
  have a1 : env.kindOf y = some .local := hy
  have a2 : env.blockKind = .function := by
    unfold Env.blockKind
    rw [hk]
    rfl
  unfold swapsWith
  simp only [a1, a2, ha, Expr.pos, hl]
  rfl
end
end MM

set_option Elab.async false
set_option linter.all false
set_option maxRecDepth 100000
set_option maxHeartbeats 4000000
namespace K08
open PySem PySem.Spec PyProof.Rows L2 MM GT
/-! own words for the readings: a step, its side -/
local macro_rules | `(tactic| walk_at "side") => `(tactic| first
  | omega
  | exact ⟨by omega, by omega⟩
  | exact Or.inl ⟨by omega, by omega⟩
  | exact Or.inr ⟨by omega, by omega⟩
  | (show CPw _ _; decide +kernel)
  | (show (0 : Int) < _; decide +kernel)
  | (show CDivW _ _; first | assumption | exact ⟨by decide, by decide +kernel⟩))
local macro_rules | `(tactic| walk_at "here") => `(tactic| first
  | assumption
  | exact upd_same
  | exact Or.inl (Or.inl upd_same)
  | exact Or.inl upd_same)
local macro_rules | `(tactic| walk_at "one") => `(tactic| first
  | refine ⟨_, rfl, ?_⟩
  | refine Or.inl ⟨_, rfl, ?_⟩
  | refine Or.inr ⟨_, rfl, ?_⟩
  | refine ⟨_, _, rfl, rfl, (by walk_at "side"), ?_⟩
  | refine ⟨_, _, rfl, rfl, ?_⟩
  | refine ⟨_, _, rfl, Or.inl (by walk_at "here"), ?_⟩
  | refine ⟨_, _, rfl, Or.inr (by walk_at "here"), ?_⟩
  | refine ⟨_, _, rfl, (by walk_at "here"), ?_⟩
  | refine ⟨_, _, _, _, rfl, rfl, (by walk_at "here"), rfl, ?_⟩
  | refine ⟨_, _, rfl, ?_⟩
  | refine ifT (by rfl) ?_
  | refine ifF (by rfl) ?_
  | refine ifT (decide_eq_true (by omega)) ?_
  | refine ifF (decide_eq_false (by omega)) ?_)
local macro_rules | `(tactic| walk_at "st") => `(tactic| repeat (walk_at "one"))

section
variable {P : Program} {w : World} {K : PySem.W.Frag} {mg : Str → Option Value} {base : Heap}
/-- moves as keys -/
def key (m : List Nat) : List L2.Key := m.map fun (k : Nat) => Sum.inl (k : Int)
theorem key_mv (m : List Nat) : (key m).map kV = mv m := by
  unfold key mv
  rw [List.map_map]
  rfl
theorem key_inj {a b : List Nat} (h : key a = key b) : a = b := by
  induction a generalizing b with
  | nil =>
    cases b with
    | nil => rfl
    | cons y b => cases h
  | cons x a ih =>
    cases b with
    | nil => cases h
    | cons y b =>
      have h1 := List.cons.inj h
      have := Sum.inl.inj h1.1
      rw [ih h1.2, show x = y by omega]
/-- members that are tuples of numbers -/
abbrev MR (H : Hp) (us : List V) (ms : List (List Nat)) : Prop := Paired (fun v (m : List Nat) => ∃ b, v = .ref b ∧ H b = some (.tup (mv m))) us ms
theorem MR.same {H H' : Hp} {us : List V} {ms : List (List Nat)} (h : MR H us ms) (s : Same H H') : MR H' us ms := Paired.mapP h fun _ _ ⟨b, e, hb⟩ => ⟨b, e, s _ _ hb⟩
/-- the entries of a dict from moves to words -/
abbrev DR (H : Hp) (kvs : List (List L2.Key × V)) (F W : List (List Nat)) : Prop := Paired (fun (p : List L2.Key × V) (q : List Nat × List Nat) => p.1 = key q.1 ∧ ∃ b, p.2 = .ref b ∧ H b = some (.tup (mv q.2))) kvs (F.zip W)
theorem DR.same {H H' : Hp} {kvs : List (List L2.Key × V)} {F W : List (List Nat)} (h : DR H kvs F W) (s : Same H H') : DR H' kvs F W := Paired.mapP h fun _ _ ⟨e, b, e2, hb⟩ => ⟨e, b, e2, s _ _ hb⟩
theorem lst_sql' {K : PySem.W.Frag} {H : Hp} {a : Addr} {xs : List V} (h : H a = some (.lst xs)) : SqL K H a xs := .inl (.inl h)
theorem cat_tup {K : PySem.W.Frag} {H : Hp} {a b : Addr} {xs ys : List V} {Q : VK} (ha : SqT K H a xs) (hb : H b = some (.tup ys)) (len : xs.length + ys.length ≤ sizeLine) (ne : ys ≠ []) (q : ∀ H' p, Same H H' → H' p = some (.tup (xs ++ ys)) → Q (.ref p) H') : rCatA K (.ref a) (.ref b) H Q :=
  ⟨a, b, xs, ys, rfl, rfl, ha, .inl (.inl hb), len, fun e => q H b (Same.refl H) (by rw [e]; exact hb), fun _ e => absurd e ne, fun _ _ p np => q _ p (same_new np) upd_same⟩
theorem mr_len {H : Hp} {us : List V} {ms : List (List Nat)} (h : MR H us ms) : us.length = ms.length := pr_len h
theorem MR.upd {H : Hp} {us : List V} {ms : List (List Nat)} {D : Addr} {o o' : HO} (h : MR H us ms) (e : H D = some o) (ne : ∀ xs, o ≠ .tup xs) : MR (upd H D o') us ms :=
  Paired.mapP h fun _ _ ⟨b, e1, hb⟩ => ⟨b, e1, (upd_ne (ne_of hb e fun z => ne _ z.symm)).trans hb⟩
theorem DR.upd {H : Hp} {kvs : List (List L2.Key × V)} {F W : List (List Nat)} {D : Addr} {o o' : HO} (h : DR H kvs F W) (e : H D = some o) (ne : ∀ xs, o ≠ .tup xs) : DR (upd H D o') kvs F W :=
  Paired.mapP h fun _ _ ⟨e0, b, e1, hb⟩ => ⟨e0, b, e1, (upd_ne (ne_of hb e fun z => ne _ z.symm)).trans hb⟩
theorem DR.keys {H : Hp} {kvs : List (List L2.Key × V)} {F W : List (List Nat)} (h : DR H kvs F W) (l : F.length = W.length) : kvs.map (·.1) = F.map key := by
  have : ∀ {kvs : List (List L2.Key × V)} {Z : List (List Nat × List Nat)}, Paired (fun (p : List L2.Key × V) (q : List Nat × List Nat) => p.1 = key q.1 ∧ ∃ b, p.2 = .ref b ∧ H b = some (.tup (mv q.2))) kvs Z → kvs.map (·.1) = (Z.map (·.1)).map key := by
    intro kvs Z p
    induction p with
    | nil => rfl
    | cons r _ ih => rw [List.map_cons, List.map_cons, List.map_cons, ih, r.1]
  rw [this h, List.map_fst_zip (by omega)]
theorem find_none {kvs : List (List L2.Key × V)} {k : List L2.Key} (h : k ∉ kvs.map (·.1)) : valV kvs k = none := by
  unfold valV
  rw [List.find?_eq_none.mpr fun p hp => by
    intro e
    exact h (List.mem_map.mpr ⟨p, hp, of_decide_eq_true e⟩)]
  rfl
theorem put_new {kvs : List (List L2.Key × V)} {k : List L2.Key} {v : V} (h : k ∉ kvs.map (·.1)) : putK kvs k v = kvs ++ [(k, v)] := by
  unfold putK
  rw [if_neg]
  intro e
  obtain ⟨p, hp, e⟩ := List.any_eq_true.mp e
  exact h (List.mem_map.mpr ⟨p, hp, of_decide_eq_true e⟩)
theorem find_at {kvs : List (List L2.Key × V)} {k : List L2.Key} {v : V} {i : Nat} (nd : (kvs.map (·.1)).Nodup) (h : kvs[i]? = some (k, v)) : valV kvs k = some v := by
  unfold valV
  induction kvs generalizing i with
  | nil => cases h
  | cons p r ih =>
    rw [List.map_cons] at nd
    obtain ⟨n1, n2⟩ := List.nodup_cons.mp nd
    cases i with
    | zero =>
      obtain rfl : p = (k, v) := Option.some.inj h
      have : decide ((k, v).1 = k) = true := decide_eq_true rfl
      rw [List.find?_cons]
      simp [this]
    | succ i =>
      have hr : r[i]? = some (k, v) := h
      rw [List.find?_cons_of_neg]
      · exact ih n2 hr
      · intro e
        exact n1 (List.mem_map.mpr ⟨(k, v), List.mem_of_getElem? hr, (of_decide_eq_true e).symm⟩)
theorem nodup_key {F : List (List Nat)} (h : F.Nodup) : (F.map key).Nodup := List.Pairwise.map _ (fun _ _ ne e => ne (key_inj e)) h
theorem not_key {F : List (List Nat)} {m : List Nat} (h : m ∉ F) : key m ∉ F.map key := fun z => by
  obtain ⟨x, hx, e⟩ := List.mem_map.mp z
  rw [key_inj e] at hx
  exact h hx
theorem at_get {L : List (List Nat)} {i : Nat} (h : i < L.length) : L[i]? = some (at_ L i) := by
  rw [at_, List.getD, List.getElem?_eq_getElem h]
  rfl
theorem DR.val {H : Hp} {kvs : List (List L2.Key × V)} {F W : List (List Nat)} (h : DR H kvs F W) (l : F.length = W.length) (nd : F.Nodup) {i : Nat} (hi : i < F.length) : ∃ b, valV kvs (key (at_ F i)) = some (.ref b) ∧ H b = some (.tup (mv (at_ W i))) := by
  have hz : (F.zip W)[i]? = some (at_ F i, at_ W i) := by
    rw [List.getElem?_zip_eq_some]
    exact ⟨at_get hi, at_get (by omega)⟩
  obtain ⟨⟨k, v⟩, hp, e, b, ev, hb⟩ := pr_get h hz
  refine ⟨b, ?_, hb⟩
  have e' : k = key (at_ F i) := e
  have ev' : v = .ref b := ev
  rw [← e', ← ev']
  exact find_at (by rw [h.keys l]; exact nodup_key nd) hp
theorem DR.push {H : Hp} {kvs : List (List L2.Key × V)} {F W : List (List Nat)} {m w : List Nat} {b : Addr} (h : DR H kvs F W) (l : F.length = W.length) (hb : H b = some (.tup (mv w))) : DR H (kvs ++ [(key m, .ref b)]) (F ++ [m]) (W ++ [w]) := by
  unfold DR
  rw [List.zip_append l]
  exact pr_snoc h ⟨rfl, b, rfl, hb⟩
def spWords (K : PySem.W.Frag) : Sp := fun vs H Q _ => ∃ (n : Nat) (a : Addr) (us : List V) (ms : List (List Nat)) (most : Nat) (G : List (List Nat)), vs = [.int (n : Int), .ref a, .int (most : Int)] ∧ SqT K H a us ∧ MR H us ms ∧ (∀ m ∈ ms, Pm n m) ∧ 1 ≤ n ∧ n ≤ 24 ∧ ms.length ≤ 6 ∧
  List.range n ∈ G ∧ (∀ x ∈ G, ∀ k, k < ms.length → comp x (at_ ms k) ∈ G) ∧ G.length ≤ most ∧ most ≤ 1000 ∧
  ∀ H' d kvs F W, Same H H' → H' d = some (.dT kvs) → DR H' kvs F W → Wd n ms F W → Full ms F → Q (.ref d) H'
theorem scWordsOf : FnScope ["places", "makers", "most", "unit", "words", "found", "at", "move", "index", "maker", "longer"] ["places", "makers", "most"] (defScope sWordsOf) :=
  ⟨rfl, rfl, rfl, by decide +kernel, rfl, by decide +kernel, by decide +kernel⟩
theorem dWordsOf (T : Tx K mg) (DFollowed : Def P w K mg base CX0 1 "followed" ["one", "other"] (spComp K)) : Def P w K mg base CX0 2 "words_of" ["places", "makers", "most"] (spWords K) := by
  refine T.t_words_of.def_ (N := ["places", "makers", "most", "unit", "words", "found", "at", "move", "index", "maker", "longer"]) scWordsOf (fun _ _ _ _ _ _ us hl => match us, hl with | [_, _, _], _ => rfl) ?_ ?_
  · intro vs H Q E h
    obtain ⟨n, a, us, ms, most, G, rfl, _⟩ := h
    rfl
  · intro f cd A out s H vs Q E hr h
    have hr1 : Rm 1 _ := hr.le (by decide)
    obtain ⟨n, a, us, ms, most, G, rfl, S, mr, pm, n1, n24, m6, uG, cG, lG, most1, q⟩ := h
    refine ⟨_, (pss_cons (ps_set (i := 3) scWordsOf.nd rfl (Or.inl rfl) (pe_tupRg rfl rfl T.f_tuple (prg_1 rfl T.f_range (pv 0))))
      (pss_cons (ps_set (i := 4) scWordsOf.nd rfl (Or.inl rfl) (pe_oneT hr.hu1 (pv 3) (pe_tup pa_nil)))
      (pss_cons (ps_set (i := 5) scWordsOf.nd rfl (Or.inl rfl) (pe_lst (pa_cons (pv 3) pa_nil)))
      (pss_cons (ps_set (i := 6) scWordsOf.nd rfl (Or.inl rfl) pe_int)
      (pss_cons (ps_while PassesOwn.never (pt_cmpR op_lt (pv 6) (pe_callB call_len_seq rfl T.f_len (by decide +kernel) (pa_cons (pv 5) pa_nil)) (nomark _))
        (pss_cons (ps_set (i := 7) scWordsOf.nd rfl (Or.inl rfl) (pe_ix ix_list (pv 5) (pv 6) (fun _ _ => rfl)))
        (pss_cons (ps_aug (i := 6) scWordsOf.nd rfl (Or.inl rfl) pe_int ip_add)
        (pss_one (ps_for PassesOwn.never rfl (pi_enumT rfl T.f_enumerate (pa_cons (pv 1) pa_nil)) (pg_tup rfl (pgs_cons (pg_name (i := 8) scWordsOf.nd rfl (Or.inl rfl)) (pgs_cons (pg_name (i := 9) scWordsOf.nd rfl (Or.inl rfl)) pgs_nil)))
          (pss_cons (ps_set (i := 10) scWordsOf.nd rfl (Or.inl rfl) (pe_d DFollowed (hr1.le (by decide)) pass0 (pa_cons (pv 7) (pa_cons (pv 9) pa_nil))))
          (pss_one (ps_if (pt_cmp (pc_dnotin hr.hu1 (pv 10) (pv 4))) (pss_cons (ps_if (pt_cmpR op_eq (pe_callB call_len_seq rfl T.f_len (by decide +kernel) (pa_cons (pv 5) pa_nil)) (pv 2) (nomark _)) (pss_one (ps_ret pe_non)) pss_nil)
            (pss_cons (ps_dput hr.hu1 (pv 4) (pv 10) (pe_op op_catA (pe_dget hr.hu1 (pv 4) (pv 7) (fun _ _ => rfl)) (pe_tup (pa_cons (pv 8) pa_nil))) rfl)
            (pss_one (ps_expr (pe_bm PySem.F.plainAttrs_list PySem.F.slot_list_append PySem.F.type_list_append mt_append (pv 5) (pa_cons (pv 10) pa_nil)))))) pss_nil))))))))
      (pss_one (ps_ret (pv 4)))))))), ?_⟩
    have lm := mr_len mr
    have lms := pr_len mr
    refine ⟨_, rfl, n, rfl, ⟨by omega, by omega, by omega, by omega, by omega⟩, fun t ft => ?_⟩
    rw [rg_mv]
    have s1 := same_new (o := .tup (mv (List.range n))) ft
    have ht : (upd H t (.tup (mv (List.range n)))) t = some (.tup (mv (List.range n))) := upd_same
    generalize upd H t _ = H1 at s1 ht ⊢
    refine fun d nd => ?_
    have sd := same_new (o := .dT []) nd
    have hd0 : (upd H1 d (.dT [])) d = some (.dT []) := upd_same
    generalize upd H1 d _ = H2 at sd hd0 ⊢
    refine ⟨_, rfl, by decide, fun e ne => ?_⟩
    have se := same_new (o := .tup []) ne
    have he : (upd H2 e (.tup [])) e = some (.tup []) := upd_same
    generalize upd H2 e _ = H3 at se he ⊢
    refine ⟨se _ _ hd0, t, key (List.range n), rfl, by rw [key_mv]; exact (sd.trans se) _ _ ht, ?_⟩
    have de : e ≠ d := (ne_of_none hd0 ne).symm
    have sD : Same H1 (upd H3 d (.dT [(key (List.range n), .ref e)])) := fun b o hb => (upd_ne (ne_of_none hb nd)).trans ((sd.trans se) _ _ hb)
    have hd : (upd H3 d (.dT [(key (List.range n), .ref e)])) d = some (.dT [(key (List.range n), .ref e)]) := upd_same
    have he4 := (upd_ne (H := H3) (o := .dT [(key (List.range n), .ref e)]) de).trans he
    generalize upd H3 d _ = H4 at sD hd he4 ⊢
    refine ⟨_, rfl, by show 1 ≤ sizeLine; decide, fun l nl => ?_⟩
    have sl := same_new (o := .lst [.ref t]) nl
    have hl : (upd H4 l (.lst [.ref t])) l = some (.lst [.ref t]) := upd_same
    have dl : d ≠ l := ne_of_none hd nl
    have nl1 : H1 l = none := by
      cases z : H1 l with
      | none => rfl
      | some o => rw [sD _ _ z] at nl; cases nl
    replace sD := sD.trans sl
    replace hd := sl _ _ hd
    replace he4 := sl _ _ he4
    generalize upd H4 l _ = H5 at sD hd he4 hl ⊢
    refine while_by (fun σ H' => Same H1 H' ∧ ∃ (kvs : List (List L2.Key × V)) (us2 : List V) (F W : List (List Nat)) (p : Nat) (y7 y8 y9 y10 : Option V),
        σ = [some (.int (n : Int)), some (.ref a), some (.int (most : Int)), some (.ref t), some (.ref d), some (.ref l), some (.int (p : Int)), y7, y8, y9, y10] ∧
        H' d = some (.dT kvs) ∧ H' l = some (.lst us2) ∧ MR H' us2 F ∧ DR H' kvs F W ∧ Wd n ms F W ∧ p ≤ F.length ∧ ∀ i, i < p → ∀ k, k < ms.length → comp (at_ F i) (at_ ms k) ∈ F)
      (fun σ _ => match σ with | [_, _, _, _, _, _, some (.int p), _, _, _, _] => G.length - p.toNat | _ => 0)
      ⟨sD, _, _, [List.range n], [[]], 0, _, _, _, _, rfl, hd, hl, .cons ⟨t, rfl, sD _ _ ht⟩ .nil, .cons ⟨rfl, e, rfl, he4⟩ .nil, Wd.start n ms, Nat.zero_le _, fun i h => by omega⟩ ?_ ?_
    · rintro σ H' ⟨s', kvs, us2, F, W, p, y7, y8, y9, y10, rfl, hd', hl', mF, dF, wd, pF, done⟩
      have lF := wd.few uG cG
      have lus := pr_len mF
      refine ⟨_, rfl, _, rfl, l, us2, rfl, .inl (lst_sql' hl'), _, _, rfl, rfl, _, rfl, ?_⟩
      rw [lus]
      by_cases c : p < F.length
      · refine ifT (decide_eq_true (by omega)) ?_
        obtain ⟨u, hu, bm, rfl, hbm⟩ := pr_get mF (at_get c)
        refine ⟨_, rfl, _, rfl, l, us2, _, .ref bm, rfl, rfl, lst_sql' hl', atI_nat hu, ?_⟩
        refine ⟨_, rfl, _, _, rfl, rfl, ?_⟩
        refine ⟨_, rfl, a, us, rfl, same_sqt (s1.trans s') S, for_enumT (K := K) (a := a) (xs := us) (fun i σ H6 => Same H1 H6 ∧ ∃ (kvs : List (List L2.Key × V)) (us2 : List V) (F' W' : List (List Nat)) (y8 y9 y10 : Option V),
            σ = [some (.int (n : Int)), some (.ref a), some (.int (most : Int)), some (.ref t), some (.ref d), some (.ref l), some (.int ((p : Int) + 1)), some (.ref bm), y8, y9, y10] ∧
            H6 d = some (.dT kvs) ∧ H6 l = some (.lst us2) ∧ MR H6 us2 F' ∧ DR H6 kvs F' W' ∧ Wd n ms F' W' ∧ (p < F'.length ∧ at_ F' p = at_ F p ∧ H6 bm = some (.tup (mv (at_ F p)))) ∧
            (∀ j, j < p → ∀ k, k < ms.length → comp (at_ F' j) (at_ ms k) ∈ F') ∧ ∀ k, k < i → comp (at_ F p) (at_ ms k) ∈ F')
          ⟨s', kvs, us2, F, W, _, _, _, rfl, hd', hl', mF, dF, wd, ⟨c, rfl, hbm⟩, done, fun k h => absurd h (Nat.not_lt_zero k)⟩ (fun i σ H6 _ e => same_sqt (s1.trans e.1) S) ?_ ?_⟩
        · rintro i v σ H6 T hv ⟨s6, kvs', us2', F', W', z8, z9, z10, rfl, hd6, hl6, mF6, dF6, wd6, ⟨pl, ep, hbm6⟩, done6, part⟩ nT
          obtain ⟨m, hm, b, rfl, hb⟩ := pr_at mr hv
          have im := (List.getElem?_eq_some_iff.mp hm).1
          have em : at_ ms i = m := by rw [at_, List.getD, hm]; rfl
          have pmm := pm m (List.mem_of_getElem? hm)
          have pmx : Pm n (at_ F p) := by rw [← ep]; exact wd6.pm pm p pl
          have k6 := same_new (o := .tup [.int (i : Int), .ref b]) nT
          refine ⟨T, _, rfl, .inl (.inl upd_same), rfl, _, _, rfl, ?_⟩
          refine ⟨_, _, rfl, rfl, ?_⟩
          replace s6 := s6.trans k6
          replace hd6 := k6 _ _ hd6
          replace hl6 := k6 _ _ hl6
          replace hbm6 := k6 _ _ hbm6
          replace mF6 := mF6.same k6
          replace dF6 := dF6.same k6
          generalize upd H6 T _ = H7 at s6 hd6 hl6 hbm6 mF6 dF6 ⊢
          clear k6 nT
          refine ⟨_, rfl, _, rfl, bm, b, at_ F p, m, rfl, .inl (.inl hbm6), .inl (.inl (s6 _ _ (s1 _ _ hb))), by rw [pmm.len]; omega, by rw [pmx.len]; exact pmm.lt, fun H8 cc s8 hc => ?_⟩
          replace s6 := s6.trans s8
          replace hd6 := s8 _ _ hd6
          replace hl6 := s8 _ _ hl6
          replace hbm6 := s8 _ _ hbm6
          replace mF6 := mF6.same s8
          replace dF6 := dF6.same s8
          have kc : H8 cc = some (.tup ((key (comp (at_ F p) m)).map kV)) := by rw [key_mv]; exact hc
          refine ⟨_, rfl, _, rfl, d, valV kvs' (key (comp (at_ F p) m)), rfl, DGet.t hd6 kc, ?_⟩
          have ek := dF6.keys wd6.len
          by_cases inn : comp (at_ F p) m ∈ F'
          · obtain ⟨q1, hq1, eq1⟩ := mem_at inn
            obtain ⟨bq, hval, _⟩ := dF6.val wd6.len wd6.nd hq1
            rw [eq1] at hval
            rw [hval]
            refine ⟨_, rfl, ?_⟩
            refine ifF rfl ?_
            refine ⟨s6, kvs', us2', F', W', _, _, _, rfl, hd6, hl6, mF6, dF6, wd6, ⟨pl, ep, hbm6⟩, done6, fun k hk => ?_⟩
            by_cases e : k = i
            · rw [e, em]
              exact inn
            · exact part k (by omega)
          · have nk : key (comp (at_ F p) m) ∉ kvs'.map (·.1) := by rw [ek]; exact not_key inn
            rw [find_none nk]
            refine ⟨_, rfl, ?_⟩
            refine ifT rfl ?_
            have pw := wd6.push (j := p) (k := i) pl im (by rw [ep, em]; exact inn)
            rw [ep, em] at pw
            have pf := pw.few uG cG
            rw [List.length_append] at pf
            replace pf : F'.length + 1 ≤ G.length := pf
            have lus2 := pr_len mF6
            have lk : kvs'.length = F'.length := by
              rw [← List.length_map (f := fun x : List L2.Key × V => x.1), ek, List.length_map]
            have wl := wd6.wlen p pl
            refine ⟨_, rfl, l, us2', rfl, .inl (lst_sql' hl6), _, rfl, rfl, _, rfl, ?_⟩
            refine ifF (decide_eq_false fun e => by have := V.int.inj e; omega) ?_
            obtain ⟨bw, hval, hbw⟩ := dF6.val wd6.len wd6.nd pl
            have kb : H8 bm = some (.tup ((key (at_ F' p)).map kV)) := by rw [key_mv, ep]; exact hbm6
            refine ⟨_, rfl, _, rfl, d, .ref bw, rfl, by rw [← hval]; exact DGet.t hd6 kb, ?_⟩
            refine ⟨_, rfl, by show 1 ≤ sizeLine; decide, fun e1 ne1 => ?_⟩
            have k9 := same_new (o := .tup [.int (i : Int)]) ne1
            have he1 : (upd H8 e1 (.tup [.int (i : Int)])) e1 = some (.tup [.int (i : Int)]) := upd_same
            refine cat_tup (.inl (.inl (k9 _ _ hbw))) he1 (by rw [mv_len, sizeLine_eq]; show _ + 1 ≤ _; omega) (fun e => by cases e) fun H9 wa s9 hwa => ?_
            replace k9 := k9.trans s9
            replace s6 := s6.trans k9
            replace hd6 := k9 _ _ hd6
            replace hl6 := k9 _ _ hl6
            replace hbm6 := k9 _ _ hbm6
            replace mF6 := mF6.same k9
            replace dF6 := dF6.same k9
            replace hc := k9 _ _ hc
            replace kc := k9 _ _ kc
            clear k9 he1 ne1 s9
            have hwa' : H9 wa = some (.tup (mv (at_ W' p ++ [i]))) := by
              rw [hwa]
              unfold mv
              rw [List.map_append]
              rfl
            refine ⟨_, rfl, _, rfl, d, _, rfl, DPut.t hd6 kc (by rw [lk, sizeLine_eq]; omega), ?_⟩
            rw [put_new nk]
            have dl6 : l ≠ d := fun e => by rw [e, hd6] at hl6; cases hl6
            have nt : ∀ xs : List V, HO.dT kvs' ≠ .tup xs := fun _ e => by cases e
            have nt2 : ∀ xs : List V, HO.lst us2' ≠ .tup xs := fun _ e => by cases e
            have s10 : Same H1 (upd H9 d (.dT (kvs' ++ [(key (comp (at_ F p) m), .ref wa)]))) := fun b o e => (upd_ne (ne_of_none e nd)).trans (s6 _ _ e)
            have dF10 := (dF6.push wd6.len hwa' (m := comp (at_ F p) m)).upd (o' := .dT (kvs' ++ [(key (comp (at_ F p) m), .ref wa)])) hd6 nt
            have mF10 := mF6.upd (o' := .dT (kvs' ++ [(key (comp (at_ F p) m), .ref wa)])) hd6 nt
            have hc10 := (upd_ne (o := .dT (kvs' ++ [(key (comp (at_ F p) m), .ref wa)])) (ne_of hc hd6 fun e => by cases e)).trans hc
            have hbm10 := (upd_ne (o := .dT (kvs' ++ [(key (comp (at_ F p) m), .ref wa)])) (ne_of hbm6 hd6 fun e => by cases e)).trans hbm6
            have hl10 := (upd_ne (o := .dT (kvs' ++ [(key (comp (at_ F p) m), .ref wa)])) dl6).trans hl6
            have hd10 : (upd H9 d (.dT (kvs' ++ [(key (comp (at_ F p) m), .ref wa)]))) d = some (.dT (kvs' ++ [(key (comp (at_ F p) m), .ref wa)])) := upd_same
            generalize upd H9 d _ = H10 at s10 dF10 mF10 hc10 hbm10 hl10 hd10 ⊢
            refine ⟨_, rfl, .inl ⟨rfl, us2', lst_sql' hl10⟩, _, rfl, l, us2', _, rfl, rfl, hl10, by rw [lus2, sizeLine_eq]; omega, ?_⟩
            refine ⟨fun b o e => (upd_ne (ne_of_none e nl1)).trans (s10 _ _ e), _, _, _, _, _, _, _, rfl, (upd_ne dl6.symm).trans hd10, upd_same, pr_snoc (mF10.upd hl10 nt2) ⟨cc, rfl, (upd_ne (ne_of hc10 hl10 fun e => by cases e)).trans hc10⟩, dF10.upd hl10 nt2, pw, ⟨by rw [List.length_append]; omega, by rw [at_app pl, ep], (upd_ne (ne_of hbm10 hl10 fun e => by cases e)).trans hbm10⟩, fun j hj k hk => ?_, fun k hk => ?_⟩
            · rw [at_app (by omega)]
              exact List.mem_append_left _ (done6 j hj k hk)
            · by_cases e : k = i
              · rw [e, em]
                exact List.mem_append_right _ List.mem_cons_self
              · exact List.mem_append_left _ (part k (by omega))
        · rintro σ H6 ⟨s6, kvs', us2', F', W', z8, z9, z10, rfl, hd6, hl6, mF6, dF6, wd6, ⟨pl, ep, hbm6⟩, done6, part⟩
          refine ⟨⟨s6, kvs', us2', F', W', p + 1, _, _, _, _, by rw [Int.natCast_add]; rfl, hd6, hl6, mF6, dF6, wd6, pl, fun j hj k hk => ?_⟩, ?_⟩
          · by_cases e : j = p
            · rw [e, ep]
              exact part k (by omega)
            · exact done6 j (by omega) k hk
          · show G.length - ((p : Int) + 1).toNat < G.length - ((p : Nat) : Int).toNat
            omega
      · refine ifF (decide_eq_false (by omega)) ?_
        obtain rfl : p = F.length := by omega
        refine ⟨_, rfl, ?_⟩
        refine q _ d kvs F W (s1.trans s') hd' dF wd fun x hx k hk => ?_
        obtain ⟨i, hi, rfl⟩ := mem_at hx
        exact done i hi k hk
    · rintro σ H' Q1 Q2 m ⟨v, hv, v2, hv2, z, ys, e1, e2, i, j, e3, e4, b, e5, q⟩
      exact ⟨v, hv, v2, hv2, z, ys, e1, e2, i, j, e3, e4, b, e5, m _ _ q⟩
end
end K08


set_option Elab.async false
set_option linter.all false
set_option maxRecDepth 100000
set_option maxHeartbeats 2000000
/-! more comprehensions: over enumerate, with a test -/
namespace MM
open PySem PySem.Spec PyProof.Rows L2
section
variable {K : PySem.W.Frag} {v : Nat} {g : TG} {tt : TT} {te : TE} {vs : List Nat} {σ : L2.St} {H1 : Hp} {D : Addr} {Qd : Hp → Prop} {n : Nat} {a : Addr} {xs : List V}
/-- what a comprehension asks of a turn with the item x -/
def LcT (g : TG) (tt : TT) (te : TE) (vs : List Nat) (σ : L2.St) (D : Addr) (Nx : Hp → Prop) (x : V) (H : Hp) : Prop :=
  g x (wipe σ vs) H fun σ2 H2 => wipe σ2 vs = wipe σ vs ∧ tt σ2 H2 fun b H3 =>
    if b = true then te σ2 H3 fun y H4 => ∃ acc, H4 D = some (.lst acc) ∧ acc.length < sizeLine ∧ Nx (upd H4 D (.lst (acc ++ [y]))) else Nx H3
theorem lc_enumT (Pv : Nat → Hp → Prop) (h0 : Pv 0 (upd H1 D (.lst []))) (at_a : ∀ i H, i ≤ xs.length → Pv i H → SqT K H a xs)
    (hs : ∀ i x H T, xs[i]? = some x → Pv i H → H T = none → LcT g tt te vs σ D (Pv (i + 1)) (.ref T) (upd H T (.tup [.int (i : Nat), x])))
    (hd : ∀ H, Pv xs.length H → Qd H) : LcW (Itu K a) g tt te vs σ H1 D Qd := by
  refine ⟨fun i m H => m = xs.length - i ∧ i ≤ xs.length ∧ Pv i H, ⟨_, rfl, Nat.zero_le _, h0⟩, ?_⟩
  rintro i m H ⟨rfl, le, p⟩
  by_cases lt : i < xs.length
  · have ex := List.getElem?_eq_getElem lt
    refine .inr ⟨⟨xs, _, at_a i H le p, ex⟩, Pv (i + 1), fun H' p' => ⟨_, by omega, rfl, lt, p'⟩, ?_⟩
    rintro v H' ⟨T, x, rfl, free, rfl, all⟩
    exact hs i x H T (all xs (at_a i H le p)) p free
  · have e : i = xs.length := by omega
    subst e
    exact .inl ⟨⟨xs, at_a _ H le p, Nat.le_refl _⟩, hd H p⟩
theorem lc_enumL (Pv : Nat → Hp → Prop) (h0 : Pv 0 (upd H1 D (.lst []))) (at_a : ∀ i H, i ≤ xs.length → Pv i H → SqL K H a xs)
    (hs : ∀ i x H T, xs[i]? = some x → Pv i H → H T = none → LcT g tt te vs σ D (Pv (i + 1)) (.ref T) (upd H T (.tup [.int (i : Nat), x])))
    (hd : ∀ H, Pv xs.length H → Qd H) : LcW (Ite K a) g tt te vs σ H1 D Qd := by
  refine ⟨fun i m H => m = xs.length - i ∧ i ≤ xs.length ∧ Pv i H, ⟨_, rfl, Nat.zero_le _, h0⟩, ?_⟩
  rintro i m H ⟨rfl, le, p⟩
  by_cases lt : i < xs.length
  · have ex := List.getElem?_eq_getElem lt
    refine .inr ⟨⟨xs, _, at_a i H le p, ex⟩, Pv (i + 1), fun H' p' => ⟨_, by omega, rfl, lt, p'⟩, ?_⟩
    rintro v H' ⟨T, x, rfl, free, rfl, all⟩
    exact hs i x H T (all xs (at_a i H le p)) p free
  · have e : i = xs.length := by omega
    subst e
    exact .inl ⟨⟨xs, at_a _ H le p, Nat.le_refl _⟩, hd H p⟩
theorem filt_step {xs : List V} {i : Nat} {x : V} (hi : xs[i]? = some x) (p : V → Bool) (f : V → V) :
    ((xs.take (i + 1)).filter p).map f = ((xs.take i).filter p).map f ++ (if p x = true then [f x] else []) := by
  rw [List.take_add_one, hi, List.filter_append, List.map_append]
  cases e : p x <;> simp [e]
/-- with a test -/
theorem lc_seqF (p : V → Bool) (f : V → V) (hx : SqL K H1 a xs) (nD : H1 D = none) (hn : xs.length ≤ sizeLine)
    (ht : ∀ x acc, x ∈ xs → ∀ Q : Bool → Hp → Prop, Q (p x) (upd H1 D (.lst acc)) → tt ((wipe σ [v]).set v (some x)) (upd H1 D (.lst acc)) Q)
    (hs : ∀ x acc, x ∈ xs → p x = true → ∀ Q : VK, Q (f x) (upd H1 D (.lst acc)) → te ((wipe σ [v]).set v (some x)) (upd H1 D (.lst acc)) Q)
    (hd : Qd (upd H1 D (.lst ((xs.filter p).map f)))) : LcW (Itl K a) (gName v) tt te [v] σ H1 D Qd := by
  refine lc_list (xs := xs) (Pv := fun i H => H = upd H1 D (.lst (((xs.take i).filter p).map f))) rfl (fun i H _ e => by rw [e]; exact sql_new hx nD) ?_ (fun H e => by rw [e, List.take_length]; exact hd)
  intro i x H hi e
  subst e
  have lt : i < xs.length := (List.getElem?_eq_some_iff.mp hi).1
  have le : (((xs.take i).filter p).map f).length ≤ i := by
    rw [List.length_map]
    exact Nat.le_trans (List.length_filter_le _ _) (by rw [List.length_take]; omega)
  refine ⟨wipe_one, ht x _ (List.mem_of_getElem? hi) _ ?_⟩
  have st := filt_step hi p f
  cases e : p x with
  | true =>
    rw [if_pos rfl]
    refine hs x _ (List.mem_of_getElem? hi) e _ ⟨_, upd_same, Nat.lt_of_le_of_lt le (Nat.lt_of_lt_of_le lt hn), ?_⟩
    rw [upd_upd, st, if_pos e]
  | false =>
    rw [if_neg Bool.false_ne_true, st, if_neg (by rw [e]; exact Bool.false_ne_true), List.append_nil]
theorem lc_tplF (p : V → Bool) (f : V → V) (hx : SqT K H1 a xs) (nD : H1 D = none) (hn : xs.length ≤ sizeLine)
    (ht : ∀ x acc, x ∈ xs → ∀ Q : Bool → Hp → Prop, Q (p x) (upd H1 D (.lst acc)) → tt ((wipe σ [v]).set v (some x)) (upd H1 D (.lst acc)) Q)
    (hs : ∀ x acc, x ∈ xs → p x = true → ∀ Q : VK, Q (f x) (upd H1 D (.lst acc)) → te ((wipe σ [v]).set v (some x)) (upd H1 D (.lst acc)) Q)
    (hd : Qd (upd H1 D (.lst ((xs.filter p).map f)))) : LcW (Itt K a) (gName v) tt te [v] σ H1 D Qd := by
  refine lc_tup (xs := xs) (Pv := fun i H => H = upd H1 D (.lst (((xs.take i).filter p).map f))) rfl (fun i H _ e => by rw [e]; exact sqt_new hx nD) ?_ (fun H e => by rw [e, List.take_length]; exact hd)
  intro i x H hi e
  subst e
  have lt : i < xs.length := (List.getElem?_eq_some_iff.mp hi).1
  have le : (((xs.take i).filter p).map f).length ≤ i := by
    rw [List.length_map]
    exact Nat.le_trans (List.length_filter_le _ _) (by rw [List.length_take]; omega)
  refine ⟨wipe_one, ht x _ (List.mem_of_getElem? hi) _ ?_⟩
  have st := filt_step hi p f
  cases e : p x with
  | true =>
    rw [if_pos rfl]
    refine hs x _ (List.mem_of_getElem? hi) e _ ⟨_, upd_same, Nat.lt_of_le_of_lt le (Nat.lt_of_lt_of_le lt hn), ?_⟩
    rw [upd_upd, st, if_pos e]
  | false =>
    rw [if_neg Bool.false_ne_true, st, if_neg (by rw [e]; exact Bool.false_ne_true), List.append_nil]
end
end MM
namespace MM
open PySem PySem.Spec PyProof.Rows L2
section
variable {K : PySem.W.Frag} {H : Hp} {Q : VK}
theorem slA {a : Addr} {xs : List V} {lo hi : Option Int} (S : SqT K H a xs) (q : ∀ H' t, Same H H' → SqT K H' t (cutV xs lo hi) → Q (.ref t) H') : rSlA K (.ref a) lo hi H Q := by
  refine ⟨a, xs, rfl, S, fun h => ?_, fun _ p np => q _ p (same_new np) (.inl (.inl upd_same))⟩
  refine q H a (Same.refl H) ?_
  have : cutV xs lo hi = xs := by
    unfold cutV
    rw [h.1, h.2, List.drop_zero, Nat.sub_zero, List.take_length]
  rw [this]
  exact S
theorem catA {a b : Addr} {xs ys : List V} (S : SqT K H a xs) (S2 : SqT K H b ys) (z : xs.length + ys.length ≤ sizeLine) (q : ∀ H' t, Same H H' → SqT K H' t (xs ++ ys) → Q (.ref t) H') : rCatA K (.ref a) (.ref b) H Q := by
  refine ⟨a, b, xs, ys, rfl, rfl, S, S2, z, fun h => ?_, fun _ h => ?_, fun _ _ p np => q _ p (same_new np) (.inl (.inl upd_same))⟩
  · exact q H b (Same.refl H) (by rw [h]; exact S2)
  · exact q H a (Same.refl H) (by rw [h, List.append_nil]; exact S)
end
end MM
namespace MM
open PySem PySem.Spec PyProof.Rows L2
def rTupOf (K : PySem.W.Frag) : List V → Hp → VK → Prop := fun xs H Q => ∃ p ys, xs = [V.ref p] ∧ ((SqL K H p ys ∧ ∀ (l : Addr), H l = none → Q (.ref l) (upd H l (.tup ys))) ∨ SqT K H p ys ∧ Q (.ref p) H)
end MM

set_option Elab.async false
set_option linter.all false
set_option maxRecDepth 100000
set_option maxHeartbeats 2000000
/-! sorted of tuples of ints, of lists of lists of ints, of tuples of tuples by their lengths; walks over two at once -/
namespace MM
open PySem PySem.Spec PyProof.Rows L2 PySem.Calls PySem.W
section
variable {prog : Program} {w : World} {A : Around} {E : Value → Shared → Prop} {s : Shared}
theorem collect_tuple {l : Addr} {vs : List Value} {Q : List Value → Shared → Prop} (hl : s.heap.IsTuple l vs.toArray)
    (h : Q vs { s with heap := (s.heap.push (seqObj "list" #[] 0)).update s.heap.objs.size (Obj.mapSeq (· ++ vs.toArray)) }) (hsz : vs.length ≤ sizeLine) :
    wpAny (model prog w) A (collect (.ref l)) Q E s := by
  obtain ⟨o, ho, hc, n, hd⟩ := id hl
  unfold collect
  refine wpAny_bind (wpAny_runValue (codeAny_builtin entry_proto_collect' ?_))
  show wpAny _ _ (do again (.builtin "list.__iadd__" ⟨[← newList [], .ref l], []⟩)) _ _ s
  refine wpAny_bind (wpAny_newList (wpAny_pure ⟨Code.quiet_builtin _ (by decide +kernel), codeAny_builtin entry_list_iadd' ?_⟩))
  show wpAny _ _ (Builtin.List.listExtendWith (.ref s.heap.objs.size) (.ref l) (.ref s.heap.objs.size)) _ _ { s with heap := s.heap.push (seqObj "list" #[] 0) }
  unfold Builtin.List.listExtendWith
  have ho' : (s.heap.push (seqObj "list" #[] 0)).get? l = some o := Heap.get?_push_of_some _ ho
  refine wpAny_bind (wpAny_typeOf (T := "tuple") ⟨o, ho', hc⟩ ?_)
  have ht : (Value.type "tuple" == Value.type "tuple") = true := by rfl
  rw [if_pos (by rw [ht]; simp)]
  refine wpAny_bind (listItems_at ho' hd ?_)
  refine wpAny_bind (listItems_at (xs := #[]) (n := 0) (Heap.get?_push_size _ rfl) rfl ?_)
  rw [if_neg (by simp)]
  refine wpAny_bind (listUpdate_at (xs := #[]) (n := 0) (Heap.get?_push_size _ rfl) rfl ?_ (Nat.zero_le _) (by show (#[] ++ vs.toArray).size ≤ sizeLine + 1; simp only [Array.size_append, List.size_toArray, List.length_nil]; omega))
  refine wpAny_pure ?_
  show wpAny (model prog w) A (do
      let o ← load s.heap.objs.size
      match o.data with
      | .seq xs _ => pure xs.toList
      | _ => unsupported "internal:collect") Q E { s with heap := (s.heap.push (seqObj "list" #[] 0)).update s.heap.objs.size (Obj.mapSeq (· ++ vs.toArray)) }
  refine wpAny_bind (wpAny_load (get?_update_seq (Heap.get?_push_size _ rfl) _) ?_)
  show wpAny _ _ (pure ((#[] : Array Value) ++ vs.toArray).toList) Q E _
  rw [show ((#[] : Array Value) ++ vs.toArray).toList = vs by simp]
  exact wpAny_pure h
theorem sorted_of_tup {l : Addr} {vs : List Value} {kw : List (Str × Value)} {Q : Value → Shared → Prop} (hl : s.heap.IsTuple l vs.toArray) (hL : vs.length ≤ sizeLine) (ha1 : argsOk "sorted" ⟨[.ref l], kw⟩) (ha2 : ∀ x, argsOk "list.sort" ⟨[.ref x], kw⟩)
    (body : ∀ E' : Value → Shared → Prop, wpAny (model prog w) A.in1.in1 (Builtin.«list.sort» ⟨[.ref (s.heap.objs.size + 1)], kw⟩) (fun f s' => f = .done (.ret .none) ∧ Q (.ref (s.heap.objs.size + 1)) s') E' { s with heap := copyHeap s.heap vs }) :
    wpAny (model prog w) A (call (.builtin "sorted") [.ref l] kw) Q E s := by
  refine call_function_entry_kw kind_sorted plain_sorted entry_sorted ha1 ?_
  unfold Builtin.«sorted»
  refine wpAny_bind (m := checkCount "sorted" 1 1 _) (wpAny_pure ?_)
  refine wpAny_bind (collect_tuple hl ?_ hL)
  refine wpAny_bind (wpAny_newList ?_ hL)
  have hsz : ((s.heap.push (seqObj "list" #[] 0)).update s.heap.objs.size (Obj.mapSeq (· ++ vs.toArray))).objs.size = s.heap.objs.size + 1 := by
    rw [Heap.size_update, size_push']
  show wpAny _ _ _ _ _ { s with heap := copyHeap s.heap vs }
  rw [hsz]
  refine wpAny_bind (wpAny_holding (wpAny_call_entry_kw slot_list_sort ⟨_, copyHeap_at s.heap vs, rfl⟩ entry_list_sort ?body (ha2 _)))
  case body =>
    show wpAny (model prog w) A.in1.in1 (Builtin.«list.sort» ⟨[.ref (s.heap.objs.size + 1)], kw⟩) _ _ _
    refine wpAny_mono (body _) (fun f s' hf => ?_) fun _ _ e => e
    obtain ⟨rfl, hq⟩ := hf
    exact ⟨_, rfl, wpAny_pure ⟨_, rfl, hq⟩⟩
variable {β : Type} {vs : List Value} {bs : List β} {enc : β → PyData} {R : Value → β → Prop}
theorem sorted_tup_data {l : Addr} {Q : Value → Shared → Prop} (hl : s.heap.IsTuple l vs.toArray) (e : EachIs R vs bs) (er : EachIs (fun v b => ∃ as, Reads s.heap v (enc b) as) vs bs) (hal : AllAlike (bs.map enc)) (hk : Sortable (bs.map enc)) (hL : bs.length ≤ sizeLine)
    (hu : ∀ b, b ∈ bs → A.units + 2 + (enc b).depth < cLine) (h : ∀ out, out.length = bs.length → EachIs R out (bs.mergeSort (dataLe false enc)) → Q (.ref (s.heap.objs.size + 1)) { s with heap := sortedAll s.heap vs (List.toArray out) }) :
    wpAny (model prog w) A (call (.builtin "sorted") [.ref l]) Q E s := by
  have er' : EachIs (fun v b => ∃ as, Reads (sortingHeap (copyHeap s.heap vs) (s.heap.objs.size + 1) vs) v (enc b) as) vs bs := er.mono fun _ _ ⟨as, r⟩ => ⟨as, PyProof.Rows.Reads.keeps (fun _ _ => sorting_copy_old) r⟩
  have hL' : vs.length ≤ sizeLine := by rw [e.length]; exact hL
  exact sorted_of_tup hl hL' (args_sorted1 _) (fun _ => args_list_sort _) fun _ => list_sort_vals (s := { s with heap := copyHeap s.heap vs }) (copyHeap_at s.heap vs)
    (SortsAt.data (s := { s with heap := sortingHeap (copyHeap s.heap vs) (s.heap.objs.size + 1) vs }) (each_map (R := fun v d => ∃ as, Reads (sortingHeap (copyHeap s.heap vs) (s.heap.objs.size + 1) vs) v d as) enc er') hal hk (bound_map hu)) hL' ⟨rfl, h _ (by rw [sortVals_length false rfl]; exact e.length) (sortVals_data false e er' hal)⟩
theorem sorted_tup_key {l : Addr} {f : Value} {kw : List (Str × Value)} {b : Bool} {Q : Value → Shared → Prop} (k : β → PyData) (hl : s.heap.IsTuple l vs.toArray) (e : EachIs R vs bs) (hal : AllAlike (bs.map k)) (hk : Sortable (bs.map k)) (hL : bs.length ≤ sizeLine)
    (hu : ∀ x, x ∈ bs → A.units + 2 + (k x).depth < cLine) (ha1 : argsOk "sorted" ⟨[.ref l], kw⟩) (ha2 : ∀ x, argsOk "list.sort" ⟨[.ref x], kw⟩) (ht : ∀ x, Builtin.«list.sort» ⟨[.ref x], kw⟩ = ksk_tree x f b)
    (turn : ∀ (v : Value) (x : β), R v x → x ∈ bs → ∀ (h : Heap) (tk : Nat), (∀ b o, s.heap.get? b = some o → h.get? b = some o) →
      wpAny (model prog w) A.in1.in1 (call f [v]) (KeyPure (k x) { s with heap := h, toks := tk }) (fun _ _ => False) { s with heap := h, toks := tk })
    (h : ∀ out c h' tk, (∀ b o, s.heap.get? b = some o → h'.get? b = some o) → s.heap.get? (s.heap.objs.size + 1) = none → h'.get? (s.heap.objs.size + 1) = some (seqObj "list" (List.toArray out) c) → out.length = bs.length → EachIs R out (bs.mergeSort (dataLe b k)) →
      Q (.ref (s.heap.objs.size + 1)) { s with heap := h', toks := tk }) :
    wpAny (model prog w) A (call (.builtin "sorted") [.ref l] kw) Q E s := by
  have fresh : s.heap.get? (s.heap.objs.size + 1) = none := Heap.get?_none_of_le (Nat.le_succ _)
  have up : ∀ {g : Heap}, KeepsBut (s.heap.objs.size + 1) (copyHeap s.heap vs) g → ∀ b o, s.heap.get? b = some o → g.get? b = some o := fun {g} kp b o q =>
    kp b o (Nat.ne_of_lt (Nat.lt_succ_of_lt (Heap.lt_size q))) (copyHeap_old q)
  refine sorted_of_tup hl (by rw [e.length]; exact hL) ha1 ha2 fun E' => ?_
  rw [ht]
  refine keyH_tree (kz := bs.map k) (s := { s with heap := copyHeap s.heap vs }) (copyHeap_at s.heap vs) (by rw [List.length_map]; exact e.length.symm) (by rw [e.length]; exact hL) hal hk (bound_map (A := A.in1.in1) hu)
    (keyH_turns (s := { s with heap := copyHeap s.heap vs }) e fun v x hR hx h tk kp => turn v x hR hx h tk (up kp)) fun h' tk out c kp hD ko => ⟨rfl, ?_⟩
  exact h out c h' tk (up kp) fresh hD ((ko.length (by rw [List.length_map]; exact e.length.symm)).trans e.length) (keyedOut_each k ko e)
end
/-! by values -/
section
variable {X : Cx}
theorem each_of {R : V → Value → Prop} : ∀ {xs : List V} {us : List Value}, Paired R xs us → ∀ {β : Type} {bs : List (V × β)}, xs = bs.map Prod.fst → EachIs (fun v b => R b.1 v) us bs
  | _, _, .nil, _, [], _ => .nil
  | _, _, .nil, _, _ :: _, e => by cases e
  | _, _, .cons _ _, _, [], e => by cases e
  | _, _, .cons r t, _, b :: bs, e => by
    rw [List.map_cons] at e
    obtain ⟨e1, e2⟩ := List.cons.inj e
    subst e1
    exact .cons r (each_of t e2)
theorem vals_of_each {β : Type} : ∀ {us : List Value} {bs : List (V × β)}, EachIs (fun v b => RelV b.1 v) us bs → Vals (bs.map Prod.fst) us
  | _, _, .nil => .nil
  | _, _, .cons h t => .cons h (vals_of_each t)
theorem each_and {α β : Type} {R S : α → β → Prop} : ∀ {us : List α} {bs : List β}, EachIs R us bs → (∀ u b, R u b → b ∈ bs → S u b) → EachIs S us bs
  | _, _, .nil, _ => .nil
  | _, _, .cons h t, f => .cons (f _ _ h (by simp)) (each_and t fun u b r m => f u b r (by simp [m]))
/-- sorted(xs), xs a list of lists of ints -/
def rSortedLI (K : PySem.W.Frag) : List V → Hp → VK → Prop := fun vs H Q => ∃ (a : Addr) (bs : List (V × List Int)), vs = [.ref a] ∧ SqL K H a (bs.map Prod.fst) ∧ bs.length ≤ 1000 ∧ (∀ b ∈ bs, ∃ t, b.1 = .ref t ∧ SqL K H t (b.2.map V.int)) ∧
  ∀ (zs : List (V × List Int)) (p : Addr), zs.Perm bs → zs.Pairwise (fun x y => x.2 ≤ y.2) → H p = none → Q (.ref p) (upd H p (.lst (zs.map Prod.fst)))
theorem cr_sortedLI (hu : X.A.units + 64 < cLine) : CallR X (.builtin "sorted") (rSortedLI X.K) := by
  intro pins s σ H vs us Q I r h
  obtain ⟨a, bs, rfl, hs, hl, hb, q⟩ := h
  obtain ⟨its, rv, pl, hz⟩ := I.list hs
  rw [Vals.ref1 r]
  have e := each_of rv rfl
  have sml : ∀ n, n ≤ 1000 → n ≤ sizeLine := fun n h => Nat.le_of_lt (Nat.lt_of_le_of_lt h (by decide))
  refine sorted_data (enc := fun b : V × List Int => .list (b.2.map .int)) pl.isList e (each_and e fun u b ru hm => ?_) (AllAlike.of fun b b' => by rw [alike]; exact alike_ints _ _) (Sortable.others fun b => ⟨by simp, by simp⟩) (sml _ hl) (fun b _ => ?_) fun out lo eo => ?_
  · obtain ⟨t, et, St⟩ := hb b hm
    rw [et] at ru
    obtain ⟨as, rd⟩ := Dp.reads I (.list (b.2.map .int)) (.ref t) u (.lst St (dp_ints _)) ru
    exact ⟨as, rd⟩
  · have := depth_ints b.2
    simp only [PyData.depth]
    omega
  obtain ⟨ep, he'⟩ := PyProof.Rows.sortedAll_at s.heap its out.toArray
  rw [dataLe_rows (fun b : V × List Int => b.2)] at eo
  have pm := List.mergeSort_perm bs (fun p q : V × List Int => decide (p.2 ≤ q.2))
  have pw := List.pairwise_mergeSort (le := fun p q : V × List Int => decide (p.2 ≤ q.2)) (fun a b c h1 h2 => decide_eq_true (List.le_trans (of_decide_eq_true h1) (of_decide_eq_true h2)))
    (fun a b => by
      rcases List.le_total a.2 b.2 with h | h
      · simp [h]
      · simp [h]) bs
  have hlen : ((bs.mergeSort fun p q => decide (p.2 ≤ q.2)).map Prod.fst).length ≤ sizeLine := by
    rw [List.length_map, pm.length_eq]
    exact sml _ hl
  exact ⟨.ref _, upd H (s.heap.objs.size + 1) (.lst ((bs.mergeSort fun p q => decide (p.2 ≤ q.2)).map Prod.fst)), I.laid (t' := s.toks) (fun _ _ => PyProof.Rows.sortedAll_old) (Nat.le_succ _) ⟨hlen, out, ep, vals_of_each eo, he'⟩, rfl,
    q _ _ pm (pw.imp fun h => of_decide_eq_true h) (I.hok.fresh (Nat.le_succ _))⟩
/-- sorted(t), t a tuple of ints -/
def rSortedIT (K : PySem.W.Frag) : List V → Hp → VK → Prop := fun vs H Q => ∃ (a : Addr) (ns : List Int), vs = [.ref a] ∧ SqT K H a (ns.map V.int) ∧ ns.length ≤ 1000 ∧
  ∀ (zs : List Int) (p : Addr), zs.Perm ns → zs.Pairwise (· ≤ ·) → H p = none → Q (.ref p) (upd H p (.lst (zs.map V.int)))
theorem each_ints : ∀ {us : List Value} {ns : List Int}, Vals (ns.map V.int) us → EachIs (fun v n => RelV (.int n) v) us ns
  | _, [], r => by
    cases r
    exact .nil
  | _, n :: ns, r => by
    cases r with
    | cons h t => exact .cons h (each_ints t)
theorem vals_each_ints : ∀ {us : List Value} {ns : List Int}, EachIs (fun v n => RelV (.int n) v) us ns → Vals (ns.map V.int) us
  | _, _, .nil => .nil
  | _, _, .cons h t => .cons h (vals_each_ints t)
theorem cr_sortedIT (hu : X.A.units + 64 < cLine) : CallR X (.builtin "sorted") (rSortedIT X.K) := by
  intro pins s σ H vs us Q I r h
  obtain ⟨a, ns, rfl, hs, hl, q⟩ := h
  obtain ⟨its, rv, pl, hz⟩ := I.tuple hs
  rw [Vals.ref1 r]
  have e := each_ints rv
  have sml : ∀ n, n ≤ 1000 → n ≤ sizeLine := fun n h => Nat.le_of_lt (Nat.lt_of_le_of_lt h (by decide))
  refine sorted_tup_data (enc := fun n : Int => .int n) pl e (each_and e fun u b ru hm => ?_) (AllAlike.of fun b b' => by simp [alike]) (Sortable.others fun b => ⟨by simp, by simp⟩) (sml _ hl) (fun b _ => ?_) fun out lo eo => ?_
  · obtain ⟨t, rfl⟩ := ru
    exact ⟨_, Reads.int b t⟩
  · simp only [PyData.depth]
    omega
  obtain ⟨ep, he'⟩ := PyProof.Rows.sortedAll_at s.heap its out.toArray
  rw [dataLe_int (fun b : Int => b)] at eo
  have pm := List.mergeSort_perm ns (fun p q : Int => decide (p ≤ q))
  have pw := List.pairwise_mergeSort (le := fun p q : Int => decide (p ≤ q)) (fun a b c h1 h2 => decide_eq_true (Int.le_trans (of_decide_eq_true h1) (of_decide_eq_true h2)))
    (fun a b => by
      rcases Int.le_total a b with h | h
      · simp [h]
      · simp [h]) ns
  have hlen : ((ns.mergeSort fun p q => decide (p ≤ q)).map V.int).length ≤ sizeLine := by
    rw [List.length_map, pm.length_eq]
    exact sml _ hl
  exact ⟨.ref _, upd H (s.heap.objs.size + 1) (.lst ((ns.mergeSort fun p q => decide (p ≤ q)).map V.int)), I.laid (t' := s.toks) (fun _ _ => PyProof.Rows.sortedAll_old) (Nat.le_succ _) ⟨hlen, out, ep, vals_each_ints eo, he'⟩, rfl,
    q _ _ pm (pw.imp fun h => of_decide_eq_true h) (I.hok.fresh (Nat.le_succ _))⟩
/-- sorted(t, key=len), t a tuple of tuples -/
def rSortLen (K : PySem.W.Frag) : List V → Hp → VK → Prop := fun vs H Q => ∃ (β : Type) (n : β → Nat) (a : Addr) (bs : List (V × β)), vs = [.ref a] ∧ SqT K H a (bs.map Prod.fst) ∧ bs.length ≤ 1000 ∧ (∀ b ∈ bs, ∃ t ys, b.1 = .ref t ∧ SqT K H t ys ∧ ys.length = n b.2) ∧
  ∀ (zs : List (V × β)) (p : Addr), zs.Perm bs → zs.Pairwise (fun x y => n x.2 ≤ n y.2) → H p = none → Q (.ref p) (upd H p (.lst (zs.map Prod.fst)))
theorem run_sortLen (hu : X.A.units + 64 < cLine) {pins : List (Addr × Obj)} {s : Shared} {σ : L2.St} {H : Hp} {vs : List V} {us : List Value} {Q : VK} (I : Inv X pins σ H s) (r : Vals vs us) (h : rSortLen X.K vs H Q) :
    wpAny (model X.prog X.w) X.A (call (.builtin "sorted") us [(Str.ofString "key", .builtin "len")]) (EP X pins σ Q) X.xe s := by
  obtain ⟨β, n, a, bs, rfl, hs, hl, hb, q⟩ := h
  obtain ⟨its, rv, pl, hz⟩ := I.tuple hs
  rw [Vals.ref1 r]
  have e := each_of rv rfl
  have sml : ∀ n, n ≤ 1000 → n ≤ sizeLine := fun n h => Nat.le_of_lt (Nat.lt_of_le_of_lt h (by decide))
  refine sorted_tup_key (b := false) (fun b : V × β => .int (n b.2 : Int)) pl e (AllAlike.of fun b b' => by simp [alike]) (Sortable.others fun b => ⟨by simp, by simp⟩) (sml _ hl) (fun b _ => ?_) (ksk_s1 _ _) (fun _ => ksk_l1 _ _) (fun _ => ksk_t4 _ _) (fun v x rx hx h tk kp => ?_) fun out c h' tk kp fr hD lo eo => ?_
  · simp only [PyData.depth]
    omega
  · obtain ⟨t, ys, et, St, el⟩ := hb x hx
    rw [et] at rx
    cases rx
    obtain ⟨its2, rv2, p2, hz2⟩ := I.tuple St
    have hlen := rv2.length
    have p3 : h.IsTuple t its2.toArray := by
      obtain ⟨o, ho, hc, hd⟩ := p2
      exact ⟨o, kp _ _ ho, hc, hd⟩
    have hn := line63
    refine len_tuple (s := { s with heap := h, toks := tk }) p3 (by simp only [List.size_toArray] <;> omega) ⟨h, tk + 1 + 1, rfl, fun b o e => e, ?_⟩
    rw [List.size_toArray, ← hlen, el]
    exact Reads.int _ _
  rw [dataLe_int (fun b : V × β => (n b.2 : Int))] at eo
  have pm := List.mergeSort_perm bs (fun p q : V × β => decide ((n p.2 : Int) ≤ (n q.2 : Int)))
  have pw := List.pairwise_mergeSort (le := fun p q : V × β => decide ((n p.2 : Int) ≤ (n q.2 : Int))) (fun a b c h1 h2 => decide_eq_true (Int.le_trans (of_decide_eq_true h1) (of_decide_eq_true h2)))
    (fun a b => by
      rcases Int.le_total (n a.2 : Int) (n b.2 : Int) with h | h
      · simp [h]
      · simp [h]) bs
  have hlen : ((bs.mergeSort fun p q => decide ((n p.2 : Int) ≤ (n q.2 : Int))).map Prod.fst).length ≤ sizeLine := by
    rw [List.length_map, pm.length_eq]
    exact sml _ hl
  exact ⟨.ref _, upd H (s.heap.objs.size + 1) (.lst ((bs.mergeSort fun p q => decide ((n p.2 : Int) ≤ (n q.2 : Int))).map Prod.fst)), I.laid (t' := tk) kp (Nat.le_succ _) ⟨hlen, out, c, vals_of_each eo, hD⟩, rfl,
    q _ _ pm (pw.imp fun h => by have := of_decide_eq_true h; omega) (I.hok.fresh (Nat.le_succ _))⟩
theorem pe_sortLen {e : Expr} {t : TA} {p p2 kpos pos : Pos} (hu : X.A.units + 64 < cLine) (hg : Gl X "sorted") (hm : X.mg "sorted" = none) (hg2 : Gl X "len") (hm2 : X.mg "len" = none) (ha : PA X [e] t)
    (he : backTo pos (starEach [e] X.env) = (false, eval e X.env) :: backTo pos (starEach [] X.env) := by rfl) (hpl : (backTo pos (starEach [e] X.env)).any (·.1) = false := by rfl)
    (hall : (backToKw pos (keywordEach [⟨some (Str.ofString "key"), .Name "len" p2, kpos⟩] X.env)).all (·.1.isSome) = true := by rfl) (hnone : (backToKw pos (keywordEach [⟨some (Str.ofString "key"), .Name "len" p2, kpos⟩] X.env)).any (·.1.isNone) = false := by rfl)
    (hks : (backToKw pos (keywordEach [⟨some (Str.ofString "key"), .Name "len" p2, kpos⟩] X.env)).filterMap (·.1) = [Str.ofString "key"] := by rfl) :
    PE X (.Call (.Name "sorted" p) [e] [⟨some (Str.ofString "key"), .Name "len" p2, kpos⟩] pos) (tCB (rSortLen X.K) t) := by
  refine ⟨fun pins s σ H Q I h => ?_⟩
  refine wpAny_Call_Name_kw (ld_blt I hg hm (u := .builtin "sorted") (by decide +kernel) ?_ (by decide) (by decide))
  refine PyProof.Rows.callWith_kw (thn (ha.run pos pins s σ H _ I h) fun us s1 ⟨vs, H1, I1, r1, q1⟩ => ?_) he hpl hall hnone
  show wpAny _ _ (evalAll [do let v ← eval (.Name "len" p2) X.env; standAt pos; pure v]) _ _ s1
  refine wpAny_evalAll_cons (wpAny_bind (ld_blt I1 hg2 hm2 (u := .builtin "len") (by decide +kernel) (wpAny_bind (wpAny_standAt (wpAny_pure (wpAny_evalAll_nil ?_)))) (by decide) (by decide)))
  rw [hks]
  exact run_sortLen hu I1 r1 q1
end
end MM
namespace MM
open PySem PySem.Spec PyProof.Rows L2
section
variable {K : PySem.W.Frag} {a b : Addr} {xs ys : List V} {g : TG} {tb : TS} {D : Ends} {σ : L2.St} {H : Hp}
theorem for_zipM (Pv : Nat → L2.St → Hp → Prop) (h0 : Pv 0 σ H) (hq : ∀ i σ H, Pv i σ H → SqL K H a xs ∧ SqL K H b ys)
    (hs : ∀ (i : Nat) (x y : V) (T : Addr) (σ : L2.St) (H : Hp), xs[i]? = some x → ys[i]? = some y → Pv i σ H → H T = none → g (.ref T) σ (upd H T (.tup [x, y])) fun σ2 H2 => tb { D with nx := Pv (i + 1), ct := Pv (i + 1), bk := D.nx } σ2 H2)
    (hd : ∀ σ H, Pv (min xs.length ys.length) σ H → D.nx σ H) : ForW (Itz K a b) g tb D σ H := by
  refine ⟨fun i m σ H => m = min xs.length ys.length - i ∧ i ≤ min xs.length ys.length ∧ Pv i σ H, ⟨_, rfl, Nat.zero_le _, h0⟩, ?_⟩
  rintro i m σ H ⟨rfl, le, p⟩
  obtain ⟨q1, q2⟩ := hq i σ H p
  by_cases lt : i < min xs.length ys.length
  · have e1 : xs[i]? = some (xs[i]'(by omega)) := List.getElem?_eq_getElem (by omega)
    have e2 : ys[i]? = some (ys[i]'(by omega)) := List.getElem?_eq_getElem (by omega)
    refine .inr ⟨⟨xs, ys, _, _, q1, q2, e1, e2⟩, Pv (i + 1), fun σ' H' p' => ⟨_, by omega, rfl, lt, p'⟩, ?_⟩
    rintro v H' ⟨T, x, y, rfl, free, rfl, h1, h2⟩
    exact hs i x y T σ H (h1 xs q1) (h2 ys q2) p free
  · have e : i = min xs.length ys.length := by omega
    subst e
    exact .inl ⟨⟨xs, ys, q1, q2, by omega⟩, hd σ H p⟩
end
end MM

set_option Elab.async false
set_option linter.all false
set_option maxRecDepth 100000
set_option maxHeartbeats 2000000
/-! sorted of lists of tuples of ints, of dicts whose keys are such -/
namespace MM
open PySem PySem.Spec PyProof.Rows L2 PySem.Calls PySem.W
theorem dataLe_tups {β : Type} (x : β → List Int) : dataLe false (fun b => .tuple ((x b).map .int)) = fun p q => decide (x p ≤ x q) := by
  rw [← dataLe_rows x]
  funext p q
  show (!dataLt (.tuple _) (.tuple _)) = (!dataLt (.list _) (.list _))
  rw [dataLt_tuple, dataLt_list]
theorem sortable_tups {β : Type} {bs : List β} (f : β → List Int) (h : ∀ b ∈ bs, f b ≠ []) : Sortable (bs.map fun b => .tuple ((f b).map .int)) := .inl fun d hd => by
  obtain ⟨b, hb, rfl⟩ := List.mem_map.mp hd
  have := h b hb
  cases e : f b with
  | nil => exact absurd e this
  | cons i r => exact ⟨.int i, r.map .int, rfl⟩
theorem alike_tups {β : Type} (bs : List β) (f : β → List Int) : AllAlike (bs.map fun b => .tuple ((f b).map .int)) := AllAlike.of fun b b' => by
  rw [alike]
  exact alike_ints _ _
theorem srt_le {β : Type} (f : β → List Int) (bs : List β) : (bs.mergeSort fun p q => decide (f p ≤ f q)).Perm bs ∧ (bs.mergeSort fun p q => decide (f p ≤ f q)).Pairwise fun p q => f p ≤ f q := by
  refine ⟨List.mergeSort_perm _ _, (List.pairwise_mergeSort (le := fun p q => decide (f p ≤ f q)) (fun a b c h1 h2 => decide_eq_true (List.le_trans (of_decide_eq_true h1) (of_decide_eq_true h2))) (fun a b => ?_) bs).imp fun h => of_decide_eq_true h⟩
  rcases List.le_total (f a) (f b) with h | h
  · simp [h]
  · simp [h]
/-- sorted(l), l a list of tuples of ints, none of them empty -/
def rSortedTI (K : PySem.W.Frag) : List V → Hp → VK → Prop := fun vs H Q => ∃ (a : Addr) (bs : List (V × List Int)), vs = [.ref a] ∧ SqL K H a (bs.map Prod.fst) ∧ bs.length ≤ 1000 ∧ (∀ b ∈ bs, b.2 ≠ [] ∧ ∃ t, b.1 = .ref t ∧ SqT K H t (b.2.map V.int)) ∧
  ∀ (zs : List (V × List Int)) (p : Addr), zs.Perm bs → zs.Pairwise (fun x y => x.2 ≤ y.2) → H p = none → Q (.ref p) (upd H p (.lst (zs.map Prod.fst)))
section
variable {X : Cx}
theorem cr_sortedTI (hu : X.A.units + 64 < cLine) : CallR X (.builtin "sorted") (rSortedTI X.K) := by
  intro pins s σ H vs us Q I r h
  obtain ⟨a, bs, rfl, hs, few, hb, q⟩ := h
  obtain ⟨its, rv, pl, small⟩ := I.list hs
  rw [Vals.ref1 r]
  have e := each_of rv rfl
  have line : bs.length ≤ sizeLine := by rw [sizeLine_eq]; omega
  refine sorted_data (enc := fun b : V × List Int => .tuple (b.2.map .int)) pl.isList e (each_and e fun u b ru hm => ?_) (alike_tups bs fun b => b.2) (sortable_tups (fun b => b.2) fun b m => (hb b m).1) line (fun b _ => ?_) fun out lo eo => ?_
  · obtain ⟨_, t, et, St⟩ := hb b hm
    rw [et] at ru
    obtain ⟨as, rd⟩ := Dp.reads I (.tuple (b.2.map .int)) (.ref t) u (.tup St (dp_ints _)) ru
    exact ⟨as, rd⟩
  · have := depth_ints b.2
    simp only [PyData.depth]
    omega
  obtain ⟨ep, at'⟩ := PyProof.Rows.sortedAll_at s.heap its out.toArray
  rw [dataLe_tups (fun b : V × List Int => b.2)] at eo
  obtain ⟨pm, pw⟩ := srt_le (fun b : V × List Int => b.2) bs
  refine ⟨.ref _, upd H (s.heap.objs.size + 1) (.lst ((bs.mergeSort fun p q => decide (p.2 ≤ q.2)).map Prod.fst)), I.laid (t' := s.toks) (fun _ _ => PyProof.Rows.sortedAll_old) (Nat.le_succ _) ⟨?_, out, ep, vals_of_each eo, at'⟩, rfl, q _ _ pm pw (I.hok.fresh (Nat.le_succ _))⟩
  rw [List.length_map, pm.length_eq]
  exact line
/-- sorted(d), d a dict whose keys are tuples of ints, none of them empty -/
def rSortedDT : List V → Hp → VK → Prop := fun vs H Q => ∃ (d : Addr) (kvs : List (List L2.Key × V)) (ms : List (List Int)), vs = [.ref d] ∧ Rd H d (.dT kvs) ∧ kvs.map (·.1) = ms.map (fun m => m.map Sum.inl) ∧ (∀ m ∈ ms, m ≠ []) ∧ ms.length ≤ 1000 ∧
  ∀ (zs : List (V × List Int)) (p : Addr), (zs.map (·.2)).Perm ms → zs.Pairwise (fun x y => x.2 ≤ y.2) → (∀ z ∈ zs, ∃ t, z.1 = .ref t ∧ H t = some (.tup (z.2.map V.int))) → H p = none → Q (.ref p) (upd H p (.lst (zs.map Prod.fst)))
theorem cr_sortedDT (calm : X.calm = true) (hu : X.A.units + 64 < cLine) : CallR X (.builtin "sorted") rSortedDT := by
  intro pins s σ H vs us Q I r h
  obtain ⟨d, kvs, ms, rfl, hd, ek, nn, few, q⟩ := h
  rw [Vals.ref1 r]
  obtain ⟨z, lo, ks, pr, o, es, ep, ho, hx, hdt, he, hn⟩ := (show ObjOk X.prog X.w H s.heap d (.dT kvs) from hd.ok I.hok)
  have l1 : es.size = ks.length := size_of_entries he
  have l2 : kvs.length = ks.length := pr_len pr
  have l3 : kvs.length = ms.length := by
    have := congrArg List.length ek
    rwa [List.length_map, List.length_map] at this
  refine Calls.call_function_entry PyProof.Rows.kind_sorted PyProof.Rows.plain_sorted PyProof.Rows.entry_sorted (PyProof.Rows.args_sorted1 _) ?_
  unfold Builtin.«sorted»
  refine wpAny_bind (m := checkCount "sorted" 1 1 _) (wpAny_pure ?_)
  refine wpAny_bind (PySem.W.kdu_collect (A := X.A.in1) (kdl_raw lo hx hdt) (I.ok.hd calm) ho (by rw [sizeLine_eq]; omega) fun h' tk acc keep its => ?_)
  have key' : ∀ (j : Nat) (v : Value), acc[j]? = some v → ∃ x, ks[j]? = some x ∧ v = .ref x.2.1 := fun j v hv => by
    obtain ⟨en, hen, rfl⟩ := its.2 j v hv
    have qe := entry_at he j
    rw [hen] at qe
    cases hb : ks[j]? with
    | none => rw [hb] at qe; cases qe
    | some x =>
      rw [hb] at qe
      have e2 : en = entryOfKey (tupleKind (mixKind X.prog X.w)) x := Option.some.inj qe
      exact ⟨x, rfl, by rw [e2]; rfl⟩
  have asz : acc.size = ks.length := its.1.trans l1
  have eacc : acc.toList = ks.map fun x => Value.ref x.2.1 := by
    refine List.ext_getElem (by rw [Array.length_toList, List.length_map, asz]) fun j h1 h2 => ?_
    have hj : j < acc.size := by rw [Array.length_toList] at h1; exact h1
    obtain ⟨x, hx, ev⟩ := key' j acc[j] (Array.getElem?_eq_getElem hj)
    obtain ⟨hl, e⟩ := List.getElem?_eq_some_iff.mp hx
    rw [List.getElem_map, e, ← ev]
    simp
  obtain ⟨bs, ebs⟩ : ∃ bs : List (V × List Int), bs = (ks.zip ms).map fun x => (V.ref x.1.2.1, x.2) := ⟨_, rfl⟩
  have en2 : bs.map (·.2) = ms := by
    rw [ebs, List.map_map]
    exact List.map_snd_zip (by omega)
  have lb : bs.length = ms.length := by rw [← en2, List.length_map]
  have tups : ∀ b ∈ bs, b.2 ≠ [] ∧ ∃ t, b.1 = .ref t ∧ H t = some (.tup (b.2.map V.int)) := by
    rw [ebs]
    intro b hb
    obtain ⟨⟨x, m⟩, hz, rfl⟩ := List.mem_map.mp hb
    obtain ⟨i, hi⟩ := List.getElem?_of_mem hz
    obtain ⟨hx, hm⟩ := List.getElem?_zip_eq_some.mp hi
    refine ⟨nn m (List.mem_of_getElem? hm), x.2.1, rfl, ?_⟩
    obtain ⟨⟨k, v⟩, hkv, e1, e2, _⟩ := pr_get pr hx
    have e3 : (kvs.map (·.1))[i]? = some k := by rw [List.getElem?_map, hkv]; rfl
    rw [ek, List.getElem?_map, hm] at e3
    have e4 : k = m.map Sum.inl := (Option.some.inj e3).symm
    have e5 : H x.2.1 = some (.tup (k.map kV)) := e2
    rw [e5, e4, List.map_map]
    rfl
  have rel : EachIs (fun v (b : V × List Int) => RelV b.1 v) acc.toList bs := by
    rw [eacc, ebs]
    have : ∀ (ks : List (List L2.Key × Addr × Value)) (ms : List (List Int)), ks.length = ms.length → EachIs (fun v (b : V × List Int) => RelV b.1 v) (ks.map fun x => Value.ref x.2.1) ((ks.zip ms).map fun x => (V.ref x.1.2.1, x.2)) := by
      intro ks
      induction ks with
      | nil => intro ms _; exact .nil
      | cons x ks ih =>
        intro ms l
        cases ms with
        | nil => cases l
        | cons m ms => exact .cons rfl (ih ms (by simpa using l))
    exact this ks ms (by omega)
  have J : Inv X pins σ H { s with heap := h', toks := tk } := I.kept keep
  have al : acc.toList.length ≤ sizeLine := by rw [Array.length_toList, asz, sizeLine_eq]; omega
  refine wpAny_bind (wpAny_newList ?_ al)
  have hoL : (h'.push (seqObj "list" acc.toList.toArray 0)).get? h'.objs.size = some (seqObj "list" acc.toList.toArray 0) := Heap.get?_push_size _ rfl
  show wpAny _ _ _ _ _ { s with heap := h'.push (seqObj "list" acc.toList.toArray 0), toks := tk }
  have er : EachIs (fun v (b : V × List Int) => ∃ as, Reads (sortingHeap (h'.push (seqObj "list" acc.toList.toArray 0)) h'.objs.size acc.toList) v (.tuple (b.2.map .int)) as) acc.toList bs := each_and rel fun u b ru hm => by
    obtain ⟨_, t, et, ht⟩ := tups b hm
    rw [et] at ru
    obtain ⟨as, rd⟩ := Dp.reads J (.tuple (b.2.map .int)) (.ref t) u (.tup (.inl (.inl ht)) (dp_ints _)) ru
    exact ⟨as, PyProof.Rows.Reads.keeps (fun c o e => sortingHeap_old (Nat.ne_of_lt (Heap.lt_size e)) (Heap.get?_push_of_some _ e)) rd⟩
  have sa : SortsAt X.prog X.w X.A.in1.in1 { s with heap := sortingHeap (h'.push (seqObj "list" acc.toList.toArray 0)) h'.objs.size acc.toList, toks := tk } _ acc.toList :=
    SortsAt.data (s := { s with heap := sortingHeap (h'.push (seqObj "list" acc.toList.toArray 0)) h'.objs.size acc.toList, toks := tk })
      (each_map (R := fun v d => ∃ as, Reads (sortingHeap (h'.push (seqObj "list" acc.toList.toArray 0)) h'.objs.size acc.toList) v d as) (fun b : V × List Int => PyData.tuple (b.2.map .int)) er) (alike_tups bs fun b => b.2) (sortable_tups (fun b => b.2) fun b m => (tups b m).1)
      (bound_map (A := X.A.in1.in1) (enc := fun b : V × List Int => PyData.tuple (b.2.map .int)) fun b _ => by have := depth_ints b.2; simp only [PyData.depth]; omega)
  refine wpAny_bind (wpAny_holding (wpAny_call_entry PyProof.Rows.slot_list_sort ⟨_, hoL, rfl⟩ PyProof.Rows.entry_list_sort
    (list_sort_vals (s := { s with heap := h'.push (seqObj "list" acc.toList.toArray 0), toks := tk }) hoL sa al ⟨_, rfl, ?_⟩) (PyProof.Rows.args_list_sort _)))
  have eo := sortVals_data false rel er (alike_tups bs fun b => b.2)
  rw [dataLe_tups (fun b : V × List Int => b.2)] at eo
  obtain ⟨pm, pw⟩ := srt_le (fun b : V × List Int => b.2) bs
  obtain ⟨e', at'⟩ := PyProof.Rows.sortedHeap_at (vs := acc.toList) (out := (sortVals (dataKind (sortingHeap (h'.push (seqObj "list" acc.toList.toArray 0)) h'.objs.size acc.toList) (bs.map fun b => .tuple (b.2.map .int))) false acc.toList acc.toList).toArray) hoL
  refine wpAny_pure ⟨_, rfl, .ref h'.objs.size, upd H h'.objs.size (.lst ((bs.mergeSort fun p q => decide (p.2 ≤ q.2)).map Prod.fst)), J.laid (t' := tk) (fun b u e => ?_) (Nat.le_refl _) ⟨?_, _, e', vals_of_each eo, at'⟩, rfl,
    q _ _ (by rw [← en2]; exact pm.map _) pw (fun z hz => (tups z (pm.mem_iff.mp hz)).2) (J.hok.fresh (Nat.le_refl _))⟩
  · have lt : b < h'.objs.size := Heap.lt_size e
    rw [PyProof.Rows.sortedHeap_old (Nat.ne_of_lt lt) (by rw [Heap.size_push]; exact Nat.lt_succ_of_lt lt)]
    exact Heap.get?_push_of_some _ e
  · rw [List.length_map, pm.length_eq, lb, sizeLine_eq]
    omega
end
end MM

set_option Elab.async false
set_option linter.all false
/-! the table of products, row by row -/
namespace GT
/-- an entry of the plan: a column, a shorter one, a step -/
abbrev Pl := Nat × Nat × List Nat
def put (r : List Nat) (e : Pl) : List Nat := r.set e.1 (e.2.2.getD (r.getD e.2.1 0) 0)
def rowTo (start n : Nat) (P : List Pl) (i : Nat) : List Nat := (P.take i).foldl put (List.replicate n start)
theorem rowTo_zero (start n : Nat) (P : List Pl) : rowTo start n P 0 = List.replicate n start := by
  unfold rowTo
  rw [List.take_zero]
  rfl
theorem rowTo_succ {start n : Nat} {P : List Pl} {i : Nat} {e : Pl} (h : P[i]? = some e) : rowTo start n P (i + 1) = put (rowTo start n P i) e := by
  unfold rowTo
  rw [List.take_add_one, h, List.foldl_append]
  rfl
theorem rowTo_len (start n : Nat) (P : List Pl) : ∀ i, (rowTo start n P i).length = n := fun i => by
  unfold rowTo
  generalize P.take i = Q
  have : ∀ (Q : List Pl) (r : List Nat), (Q.foldl put r).length = r.length := by
    intro Q
    induction Q with
    | nil => intro r; rfl
    | cons e Q ih =>
      intro r
      rw [List.foldl_cons, ih]
      exact List.length_set
  rw [this, List.length_replicate]
end GT
namespace GT
def ix (M : List (List Nat)) (x : List Nat) : Nat := M.idxOf x
theorem ix_lt {M : List (List Nat)} {x : List Nat} (h : x ∈ M) : ix M x < M.length := List.idxOf_lt_length_of_mem h
theorem at_ix {M : List (List Nat)} {x : List Nat} (h : x ∈ M) : at_ M (ix M x) = x := by
  have l := ix_lt h
  rw [at_, List.getD, List.getElem?_eq_getElem l]
  exact List.getElem_idxOf l
theorem at_inj {M : List (List Nat)} (nd : M.Nodup) {i j : Nat} (hi : i < M.length) (hj : j < M.length) (e : at_ M i = at_ M j) : i = j := by
  rw [at_, List.getD, List.getElem?_eq_getElem hi, at_, List.getD, List.getElem?_eq_getElem hj] at e
  exact (List.getElem_inj nd).mp e
theorem ix_at {M : List (List Nat)} (nd : M.Nodup) {i : Nat} (hi : i < M.length) : ix M (at_ M i) = i := at_inj nd (ix_lt (at_mem hi)) hi (at_ix (at_mem hi))
theorem ix_inj {M : List (List Nat)} {x y : List Nat} (hx : x ∈ M) (hy : y ∈ M) (e : ix M x = ix M y) : x = y := by
  rw [← at_ix hx, e, at_ix hy]
/-- what a word tells -/
def ev (n : Nat) (ms : List (List Nat)) (w : List Nat) : List Nat := w.foldl (fun x k => comp x (at_ ms k)) (List.range n)
theorem ev_snoc (n : Nat) (ms : List (List Nat)) (w : List Nat) (k : Nat) : ev n ms (w ++ [k]) = comp (ev n ms w) (at_ ms k) := by
  unfold ev
  rw [List.foldl_append]
  rfl
section
variable {n : Nat} {ms F W M : List (List Nat)}
theorem Wd.ev (h : Wd n ms F W) : ∀ i, i < F.length → at_ F i = GT.ev n ms (at_ W i) := by
  intro i
  induction i using Nat.strongRecOn with
  | ind i ih =>
    intro hi
    by_cases z : i = 0
    · subst z
      rw [h.zero.1, h.zero.2]
      rfl
    · obtain ⟨j, k, lt, hk, e1, e2⟩ := h.step i (by omega) hi
      rw [e2, e1, ev_snoc, ih j lt (by omega)]
theorem Wd.wnd (h : Wd n ms F W) : W.Nodup := by
  refine List.pairwise_iff_getElem.mpr fun i j hi hj lt e => ?_
  have lf := h.len
  have e2 : at_ W i = at_ W j := by rw [at_, List.getD, List.getElem?_eq_getElem hi, at_, List.getD, List.getElem?_eq_getElem hj, e]
  have := at_inj h.nd (i := i) (j := j) (by omega) (by omega) (by rw [h.ev i (by omega), h.ev j (by omega), e2])
  omega
/-- products of all of F with all of F -/
theorem Wd.closed (h : Wd n ms F W) (f : Full ms F) (pm : ∀ m ∈ ms, Pm n m) {x : List Nat} (hx : x ∈ F) : ∀ i, i < F.length → comp x (at_ F i) ∈ F := by
  have px : Pm n x := by
    obtain ⟨j, hj, rfl⟩ := mem_at hx
    exact h.pm pm j hj
  intro i
  induction i using Nat.strongRecOn with
  | ind i ih =>
    intro hi
    by_cases z : i = 0
    · subst z
      rw [h.zero.1, comp_unit px.len]
      exact hx
    · obtain ⟨j, k, lt, hk, _, e⟩ := h.step i (by omega) hi
      have pj := h.pm pm j (by omega)
      have pk := pm _ (at_mem hk)
      rw [e, ← comp_assoc (by rw [pj.len]; exact pk.lt)]
      exact f _ (ih j lt (by omega)) k hk
def tb (M : List (List Nat)) (a b : Nat) : Nat := ix M (comp (at_ M a) (at_ M b))
def rowOf (M : List (List Nat)) (a : Nat) : List Nat := (List.range M.length).map (tb M a)
/-- the step by a maker -/
def stepL (M ms : List (List Nat)) (k : Nat) : List Nat := M.map fun a => ix M (comp a (at_ ms k))
def entry (n : Nat) (ms M : List (List Nat)) (w : List Nat) : Pl := (ix M (GT.ev n ms w), ix M (GT.ev n ms w.dropLast), stepL M ms (w.getLastD 0))
def plan (n : Nat) (ms M W : List (List Nat)) : List Pl := (W.drop 1).map (entry n ms M)
theorem plan_at (h : Wd n ms F W) {i : Nat} (hi : i + 1 < F.length) : (plan n ms M W)[i]? = some (entry n ms M (at_ W (i + 1))) := by
  have lf := h.len
  unfold plan
  rw [List.getElem?_map, List.getElem?_drop, Nat.add_comm 1 i, List.getElem?_eq_getElem (by omega), at_, List.getD, List.getElem?_eq_getElem (by omega)]
  rfl
theorem plan_len (h : Wd n ms F W) : (plan n ms M W).length + 1 = F.length := by
  have := h.len
  have := h.one
  unfold plan
  rw [List.length_map, List.length_drop]
  omega
theorem entry_is (h : Wd n ms F W) {i : Nat} (h0 : 0 < i) (hi : i < F.length) : ∃ j k, j < i ∧ k < ms.length ∧ at_ W i = at_ W j ++ [k] ∧ at_ F i = comp (at_ F j) (at_ ms k) ∧ entry n ms M (at_ W i) = (ix M (at_ F i), ix M (at_ F j), stepL M ms k) := by
  obtain ⟨j, k, lt, hk, e1, e2⟩ := h.step i h0 hi
  refine ⟨j, k, lt, hk, e1, e2, ?_⟩
  unfold entry
  rw [← h.ev i hi, e1, List.dropLast_concat, ← h.ev j (by omega)]
  have : (at_ W j ++ [k]).getLastD 0 = k := by simp
  rw [this]
theorem stepL_at {k v : Nat} (hv : v < M.length) : (stepL M ms k).getD v 0 = ix M (comp (at_ M v) (at_ ms k)) := by
  have hl : v < (stepL M ms k).length := by rw [stepL, List.length_map]; exact hv
  have em : at_ M v = M[v] := by rw [at_, List.getD, List.getElem?_eq_getElem hv]; rfl
  rw [gD hl, em]
  exact List.getElem_map _
theorem row_inv (h : Wd n ms F W) (f : Full ms F) (pm : ∀ m ∈ ms, Pm n m) (nd : M.Nodup) (mf : ∀ x, x ∈ M ↔ x ∈ F) (lM : M.length = F.length) {st : Nat} (hs : st < M.length) :
    ∀ i, i < F.length → ∀ t, t ≤ i → (rowTo st F.length (plan n ms M W) i).getD (ix M (at_ F t)) 0 = ix M (comp (at_ M st) (at_ F t)) := by
  have mS : at_ M st ∈ F := (mf _).mp (at_mem hs)
  have pS : Pm n (at_ M st) := by
    obtain ⟨j, hj, e⟩ := mem_at mS
    rw [← e]
    exact h.pm pm j hj
  have inM : ∀ t, t < F.length → at_ F t ∈ M := fun t ht => (mf _).mpr (at_mem ht)
  intro i
  induction i with
  | zero =>
    intro hi t ht
    obtain rfl : t = 0 := Nat.le_zero.mp ht
    have l0 := ix_lt (inM 0 hi)
    rw [rowTo_zero, List.getD, List.getElem?_replicate, if_pos (by omega), h.zero.1, comp_unit pS.len, ix_at nd hs]
    rfl
  | succ i ih =>
    intro hi t ht
    obtain ⟨j, k, lt, hk, e1, e2, en⟩ := entry_is (M := M) h (i := i + 1) (by omega) hi
    have ihi := ih (by omega)
    have pj := h.pm pm j (by omega)
    have pk := pm _ (at_mem hk)
    have cj : comp (at_ M st) (at_ F j) ∈ M := (mf _).mpr (h.closed f pm mS j (by omega))
    have val : (stepL M ms k).getD ((rowTo st F.length (plan n ms M W) i).getD (ix M (at_ F j)) 0) 0 = ix M (comp (at_ M st) (at_ F (i + 1))) := by
      rw [ihi j (by omega), stepL_at (ix_lt cj), at_ix cj, comp_assoc (by rw [pj.len]; exact pk.lt), ← e2]
    have pa := plan_at (M := M) h hi
    rw [rowTo_succ pa, en]
    have ln := rowTo_len st F.length (plan n ms M W) i
    unfold put
    show ((rowTo st F.length (plan n ms M W) i).set (ix M (at_ F (i + 1))) ((stepL M ms k).getD ((rowTo st F.length (plan n ms M W) i).getD (ix M (at_ F j)) 0) 0)).getD (ix M (at_ F t)) 0 = _
    rw [val]
    have lc := ix_lt (inM (i + 1) hi)
    by_cases e : t = i + 1
    · subst e
      rw [List.getD, List.getElem?_set_self (by omega)]
      rfl
    · have ne : ix M (at_ F (i + 1)) ≠ ix M (at_ F t) := fun z => e (at_inj h.nd (by omega) hi (ix_inj (inM _ hi) (inM t (by omega)) z).symm)
      rw [List.getD, List.getElem?_set_ne ne, ← List.getD]
      exact ihi t (by omega)
theorem row_ok (h : Wd n ms F W) (f : Full ms F) (pm : ∀ m ∈ ms, Pm n m) (nd : M.Nodup) (mf : ∀ x, x ∈ M ↔ x ∈ F) (lM : M.length = F.length) {st : Nat} (hs : st < M.length) :
    ∀ i e, (plan n ms M W)[i]? = some e → e.1 < (plan n ms M W).length + 1 ∧ e.2.1 < (plan n ms M W).length + 1 ∧ (rowTo st ((plan n ms M W).length + 1) (plan n ms M W) i).getD e.2.1 0 < e.2.2.length := by
  rw [plan_len h]
  intro i e he
  have hi : i + 1 < F.length := by
    have := (List.getElem?_eq_some_iff.mp he).1
    have := plan_len (M := M) h
    omega
  obtain ⟨j, k, lt, hk, e1, e2, en⟩ := entry_is (M := M) h (i := i + 1) (by omega) hi
  rw [plan_at h hi, en] at he
  obtain rfl := Option.some.inj he
  have inM : ∀ t, t < F.length → at_ F t ∈ M := fun t ht => (mf _).mpr (at_mem ht)
  have mS : at_ M st ∈ F := (mf _).mp (at_mem hs)
  refine ⟨by rw [← lM]; exact ix_lt (inM _ hi), by rw [← lM]; exact ix_lt (inM j (by omega)), ?_⟩
  show (rowTo st F.length (plan n ms M W) i).getD (ix M (at_ F j)) 0 < (stepL M ms k).length
  rw [row_inv h f pm nd mf lM hs i (by omega) j (by omega), stepL, List.length_map]
  exact ix_lt ((mf _).mpr (h.closed f pm mS j (by omega)))
theorem row_is (h : Wd n ms F W) (f : Full ms F) (pm : ∀ m ∈ ms, Pm n m) (nd : M.Nodup) (mf : ∀ x, x ∈ M ↔ x ∈ F) (lM : M.length = F.length) {st : Nat} (hs : st < M.length) :
    rowTo st ((plan n ms M W).length + 1) (plan n ms M W) (plan n ms M W).length = rowOf M st := by
  have pl := plan_len (M := M) h
  rw [pl]
  refine List.ext_getElem (by rw [rowTo_len, rowOf, List.length_map, List.length_range, lM]) fun b h1 h2 => ?_
  have hb : b < M.length := by rw [rowTo_len] at h1; omega
  obtain ⟨t, ht, e⟩ := mem_at ((mf _).mp (at_mem hb))
  have v := row_inv h f pm nd mf lM hs (plan n ms M W).length (by omega) t (by omega)
  rw [e, ix_at nd hb, gD h1] at v
  rw [v]
  have : ∀ (b : Nat) (h : b < (rowOf M st).length), (rowOf M st)[b] = tb M st b := fun b h => by
    have e := List.getElem_map (tb M st) (l := List.range M.length) (i := b) (h := h)
    rw [List.getElem_range] at e
    exact e
  rw [this b h2]
  rfl
end
end GT
namespace GT
/-- for each the one that undoes it -/
def bk (M : List (List Nat)) : List Nat := (List.range M.length).map fun a => (rowOf M a).idxOf 0
theorem rowOf_len (M : List (List Nat)) (a : Nat) : (rowOf M a).length = M.length := by
  rw [rowOf, List.length_map, List.length_range]
theorem rowOf_at {M : List (List Nat)} {a b : Nat} (h : b < M.length) : (rowOf M a).getD b 0 = tb M a b := by
  unfold rowOf
  rw [List.getD, List.getElem?_map, List.getElem?_range h]
  rfl
end GT

set_option Elab.async false
set_option linter.all false
set_option maxRecDepth 100000
set_option maxHeartbeats 4000000
namespace K08
open PySem PySem.Spec PyProof.Rows L2 MM GT
/-! own words for the readings: a step, its side -/
local macro_rules | `(tactic| walk_at "side") => `(tactic| first
  | omega
  | exact ⟨by omega, by omega⟩
  | exact Or.inl ⟨by omega, by omega⟩
  | exact Or.inr ⟨by omega, by omega⟩
  | (show CPw _ _; decide +kernel)
  | (show (0 : Int) < _; decide +kernel)
  | (show CDivW _ _; first | assumption | exact ⟨by decide, by decide +kernel⟩))
local macro_rules | `(tactic| walk_at "here") => `(tactic| first
  | assumption
  | exact upd_same
  | exact Or.inl (Or.inl upd_same)
  | exact Or.inl upd_same)
local macro_rules | `(tactic| walk_at "one") => `(tactic| first
  | refine ⟨_, rfl, ?_⟩
  | refine Or.inl ⟨_, rfl, ?_⟩
  | refine Or.inr ⟨_, rfl, ?_⟩
  | refine ⟨_, _, rfl, rfl, (by walk_at "side"), ?_⟩
  | refine ⟨_, _, rfl, rfl, ?_⟩
  | refine ⟨_, _, rfl, Or.inl (by walk_at "here"), ?_⟩
  | refine ⟨_, _, rfl, Or.inr (by walk_at "here"), ?_⟩
  | refine ⟨_, _, rfl, (by walk_at "here"), ?_⟩
  | refine ⟨_, _, _, _, rfl, rfl, (by walk_at "here"), rfl, ?_⟩
  | refine ⟨_, _, rfl, ?_⟩
  | refine ifT (by rfl) ?_
  | refine ifF (by rfl) ?_
  | refine ifT (decide_eq_true (by omega)) ?_
  | refine ifF (decide_eq_false (by omega)) ?_)
local macro_rules | `(tactic| walk_at "st") => `(tactic| repeat (walk_at "one"))

section
variable {P : Program} {w : World} {K : PySem.W.Frag} {mg : Str → Option Value} {base : Heap}
/-- an entry of the plan, told -/
def PE1 (H : Hp) (v : V) (e : Pl) : Prop := ∃ b bl, v = .ref b ∧ H b = some (.tup [.int (e.1 : Int), .int (e.2.1 : Int), .ref bl]) ∧ H bl = some (.lst (mv e.2.2))
theorem PE1.same {H H' : Hp} {v : V} {e : Pl} (s : Same H H') (h : PE1 H v e) : PE1 H' v e := let ⟨b, bl, e1, h1, h2⟩ := h; ⟨b, bl, e1, s _ _ h1, s _ _ h2⟩
def spRow (K : PySem.W.Frag) : Sp := fun vs H Q _ => ∃ (st : Nat) (a : Addr) (us : List V) (P : List Pl), vs = [.int (st : Int), .ref a] ∧ H a = some (.lst us) ∧ Paired (PE1 H) us P ∧ P.length ≤ 200 ∧
  (∀ i e, P[i]? = some e → e.1 < P.length + 1 ∧ e.2.1 < P.length + 1 ∧ (rowTo st (P.length + 1) P i).getD e.2.1 0 < e.2.2.length) ∧
  ∀ H' t, Same H H' → PlT H' t (mv (rowTo st (P.length + 1) P P.length)) → Q (.ref t) H'
theorem scTableRow : FnScope ["start", "plan", "row", "_", "column", "shorter", "step"] ["start", "plan"] (defScope sTableRow) :=
  ⟨rfl, rfl, rfl, by decide +kernel, rfl, by decide +kernel, by decide +kernel⟩
theorem dTableRow (T : Tx K mg) : Def P w K mg base CX0 1 "_table_row" ["start", "plan"] (spRow K) := by
  refine T.t_table_row.def_ (N := ["start", "plan", "row", "_", "column", "shorter", "step"]) scTableRow (fun _ _ _ _ _ _ us hl => match us, hl with | [_, _], _ => rfl) ?_ ?_
  · intro vs H Q E h
    obtain ⟨st, a, us, P, rfl, _⟩ := h
    rfl
  · intro f cd A out s H vs Q E hr h
    obtain ⟨st, a, us, P, rfl, ha, pp, few, ok, q⟩ := h
    refine ⟨_, (pss_cons (ps_setLc (i := 2) (own := [("_", 3)]) (g := gName 3) (tt := tYes) rfl scTableRow.nd rfl rfl (sw_true rfl rfl rfl rfl) (pi_range1 rfl T.f_range (pa_cons (pe_op op_add (pe_callB call_len_seq rfl T.f_len (by decide +kernel) (pa_cons (pv 1) pa_nil)) pe_int) pa_nil)) (blkOk_by (N := ["start", "plan", "row", "_", "column", "shorter", "step"]) (sc := defScope sTableRow) (by decide +kernel)) (fun _ _ _ _ _ => pg_name (i := 3) scTableRow.nd rfl (Or.inl rfl)) (fun _ _ _ _ _ => pts_nil) (fun _ _ _ _ _ => (pv 0)))
      (pss_cons (ps_for PassesOwn.never rfl (pi_list (pv 1)) (pg_tup rfl (pgs_cons (pg_name (i := 4) scTableRow.nd rfl (Or.inl rfl)) (pgs_cons (pg_name (i := 5) scTableRow.nd rfl (Or.inl rfl)) (pgs_cons (pg_name (i := 6) scTableRow.nd rfl (Or.inl rfl)) pgs_nil))))
        (pss_one (ps_asg (pe_ix ix_list (pv 6) (pe_ix ix_list (pv 2) (pv 5) (fun _ _ => rfl)) (fun _ _ => rfl)) (pg_sub (pv 2) (pv 4) set_list))))
      (pss_one (ps_ret (pe_callTy call_tupleF rfl T.f_tuple (by decide +kernel) (pa_cons (pv 2) pa_nil)))))), ?_⟩
    have lus := pr_len pp
    refine ⟨_, rfl, a, us, rfl, .inl (lst_sql' ha), _, _, rfl, rfl, ((P.length + 1 : Nat) : Int), by rw [lus]; rfl, ?_⟩
    refine ⟨by omega, by omega, fun D nD => ?_⟩
    refine lc_rng (fun _ => V.int (st : Int)) (n := P.length + 1) (by rw [sizeLine_eq]; omega) (fun i acc hi Q' q' => ⟨_, rfl, q'⟩) ?_
    have e0 : (List.range (P.length + 1)).map (fun _ => V.int (st : Int)) = mv (rowTo st (P.length + 1) P 0) := by
      rw [rowTo_zero]
      unfold mv
      rw [List.map_replicate, List.map_const', List.length_range]
    rw [e0]
    have s1 := same_new (o := .lst (mv (rowTo st (P.length + 1) P 0))) nD
    have hD : (upd H D (.lst (mv (rowTo st (P.length + 1) P 0)))) D = some (.lst (mv (rowTo st (P.length + 1) P 0))) := upd_same
    generalize upd H D _ = H1 at s1 hD ⊢
    refine ⟨_, rfl, a, rfl, ⟨us, lst_sql' (s1 _ _ ha)⟩, for_list (K := K) (a := a) (xs := us) (fun i σ H' => Same H H' ∧ H' D = some (.lst (mv (rowTo st (P.length + 1) P i))) ∧ ∃ y4 y5 y6, σ = [some (.int (st : Int)), some (.ref a), some (.ref D), none, y4, y5, y6]) ⟨s1, hD, _, _, _, rfl⟩ (fun i σ H' _ e => lst_sql' (e.1 _ _ ha)) ?_ ?_⟩
    · rintro i v σ H' hv ⟨s', hD', y4, y5, y6, rfl⟩
      obtain ⟨⟨c, r, l⟩, he, b, bl, rfl, hb, hbl⟩ := pr_at pp hv
      obtain ⟨o1, o2, o3⟩ := ok i _ he
      have hb' := s' _ _ hb
      have hl' := s' _ _ hbl
      have ln := rowTo_len st (P.length + 1) P i
      refine ⟨b, _, rfl, .inl (.inl hb'), rfl, _, _, rfl, ?_⟩
      refine ⟨_, _, rfl, ?_⟩
      refine ⟨_, _, rfl, rfl, ?_⟩
      refine ⟨_, rfl, _, rfl, _, rfl, D, _, _, _, rfl, rfl, lst_sql' hD', mv_at (by rw [ln]; exact o2), bl, _, _, _, rfl, rfl, lst_sql' hl', mv_at o3, _, rfl, _, rfl, D, _, _, c, rfl, rfl, hD', ixN_lt (by rw [mv_len, ln]; exact o1), ?_⟩
      refine ⟨fun x o e => (upd_ne (ne_of_none e nD)).trans (s' _ _ e), ?_, _, _, _, rfl⟩
      rw [upd_same, mv_set, rowTo_succ he]
      rfl
    · rintro σ H' ⟨s', hD', y4, y5, y6, rfl⟩
      rw [lus] at hD'
      exact ⟨_, rfl, D, _, rfl, lst_sql' hD', fun t o od nt => q _ t (s'.trans (same_new nt)) ⟨o, upd_same, od⟩⟩
theorem walk_enumT {a : Addr} {xs : List V} : Walk (Itu K a) xs.length (fun H => SqT K H a xs) (YPair (fun i => some (.int (i : Nat))) (fun i => xs[i]?)) := by
  refine ⟨fun i _ hi q => ⟨xs, xs[i], q, by simp [hi]⟩, fun _ q => ⟨xs, q, Nat.le_refl _⟩, fun i H v H' _ q y => ?_⟩
  obtain ⟨T, x, h1, h2, h3, h4⟩ := y
  exact ⟨T, .int (i : Nat), x, h1, h2, h3, rfl, h4 xs q⟩
/-- a dict told by a function of places -/
def dk (f : Nat → List Nat) (g : Nat → V) (i : Nat) : List (List L2.Key × V) := (List.range i).map fun j => (key (f j), g j)
theorem dk_len (f : Nat → List Nat) (g : Nat → V) (i : Nat) : (dk f g i).length = i := by
  unfold dk
  rw [List.length_map, List.length_range]
theorem dk_keys (f : Nat → List Nat) (g : Nat → V) (i : Nat) : (dk f g i).map (·.1) = (List.range i).map fun j => key (f j) := by
  unfold dk
  rw [List.map_map]
  rfl
theorem dk_put {f : Nat → List Nat} {g : Nat → V} {i : Nat} (h : ∀ j, j < i → f j ≠ f i) : putK (dk f g i) (key (f i)) (g i) = dk f g (i + 1) := by
  rw [put_new (by
    rw [dk_keys]
    intro z
    obtain ⟨j, hj, e⟩ := List.mem_map.mp z
    exact h j (List.mem_range.mp hj) (key_inj e))]
  unfold dk
  rw [List.range_succ, List.map_append]
  rfl
theorem dk_val {f : Nat → List Nat} {g : Nat → V} {n j : Nat} (h : ∀ a b, a < n → b < n → f a = f b → a = b) (hj : j < n) : valV (dk f g n) (key (f j)) = some (g j) := by
  refine find_at (i := j) ?_ ?_
  · rw [dk_keys]
    refine List.pairwise_iff_getElem.mpr fun a b ha hb lt e => ?_
    rw [List.length_map, List.length_range] at ha hb
    rw [List.getElem_map, List.getElem_map, List.getElem_range, List.getElem_range] at e
    have := h a b ha hb (key_inj e)
    omega
  · unfold dk
    rw [List.getElem?_map, List.getElem?_range hj]
    rfl
/-- the table, told -/
def TBL (H : Hp) (us : List V) (M : List (List Nat)) : Prop := Paired (fun v (r : List Nat) => ∃ b, v = V.ref b ∧ PlT H b (mv r)) us ((List.range M.length).map (rowOf M))
def spTable (K : PySem.W.Frag) : Sp := fun vs H Q _ => ∃ (n : Nat) (a : Addr) (us : List V) (M : List (List Nat)) (ma : Addr) (mus : List V) (ms : List (List Nat)) (d : Addr) (kvs : List (List L2.Key × V)) (F W : List (List Nat)),
  vs = [.ref a, .ref ma, .ref d] ∧ SqT K H a us ∧ MR H us M ∧ SqT K H ma mus ∧ MR H mus ms ∧ H d = some (.dT kvs) ∧ DR H kvs F W ∧ Wd n ms F W ∧ Full ms F ∧ (∀ m ∈ ms, Pm n m) ∧ 1 ≤ n ∧ n ≤ 24 ∧ ms.length ≤ 6 ∧ M.Nodup ∧ (∀ x, x ∈ M ↔ x ∈ F) ∧ M.length = F.length ∧ F.length ≤ 200 ∧
  ∀ H' t us', Same H H' → H' t = some (.tup us') → TBL H' us' M → Q (.ref t) H'
theorem scTableOf : FnScope ["moves", "makers", "words", "index_of", "index", "move", "index_by", "steps", "maker", "plan", "word", "start"] ["moves", "makers", "words"] (defScope sTableOf) :=
  ⟨rfl, rfl, rfl, by decide +kernel, rfl, by decide +kernel, by decide +kernel⟩
theorem dTableOf (T : Tx K mg) (DFollowed : Def P w K mg base CX0 1 "followed" ["one", "other"] (spComp K)) (DTableRow : Def P w K mg base CX0 1 "_table_row" ["start", "plan"] (spRow K)) : Def P w K mg base CX0 2 "table_of" ["moves", "makers", "words"] (spTable K) := by
  refine T.t_table_of.def_ (N := ["moves", "makers", "words", "index_of", "index", "move", "index_by", "steps", "maker", "plan", "word", "start"]) scTableOf (fun _ _ _ _ _ _ us hl => match us, hl with | [_, _, _], _ => rfl) ?_ ?_
  · intro vs H Q E h
    obtain ⟨n, a, us, M, ma, mus, ms, d, kvs, F, W, rfl, _⟩ := h
    rfl
  · intro f cd A out s H vs Q E hr h
    have hr1 : Rm 1 _ := hr.le (by decide)
    obtain ⟨n, a, us, M, ma, mus, ms, d, kvs, F, W, rfl, S, mM, Sm, mm, hd, dr, wd, full, pm, n1, n24, m6, nd, mf, lM, few, q⟩ := h
    refine ⟨_, (pss_cons (ps_set (i := 3) scTableOf.nd rfl (Or.inr rfl) (pe_dcT hr.hu1 (own := [("index", 4), ("move", 5)]) (g := gTup K 2 (gCons (gName 4) (gCons (gName 5) gNil))) (tt := tYes) rfl scTableOf.nd (pi_enumT rfl T.f_enumerate (pa_cons (pv 0) pa_nil)) (blkOk_by (N := ["moves", "makers", "words", "index_of", "index", "move", "index_by", "steps", "maker", "plan", "word", "start"]) (sc := defScope sTableOf) (by decide +kernel)) (fun _ _ _ _ _ => (show PG _ _ (gTup K 2 (gCons (gName 4) (gCons (gName 5) gNil))) from pg_tup rfl (pgs_cons (pg_name (i := 4) scTableOf.nd rfl (Or.inl rfl)) (pgs_cons (pg_name (i := 5) scTableOf.nd rfl (Or.inl rfl)) pgs_nil)))) (fun _ _ _ _ _ => pts_nil) (fun _ _ _ _ _ => (pv 5)) (fun _ _ _ _ _ => (pv 4))))
      (pss_cons (ps_set (i := 6) scTableOf.nd rfl (Or.inr rfl) (pe_lock (pe_dcT hr.hu1 (own := [("move", 5)]) (g := gName 5) (tt := tYes) rfl scTableOf.nd (pi_keys (pv 2)) (blkOk_by (N := ["moves", "makers", "words", "index_of", "index", "move", "index_by", "steps", "maker", "plan", "word", "start"]) (sc := defScope sTableOf) (by decide +kernel)) (fun _ _ _ _ _ => pg_name (i := 5) scTableOf.nd rfl (Or.inl rfl)) (fun _ _ _ _ _ => pts_nil) (fun _ _ _ _ _ => (pe_dget hr.hu1 (pv 2) (pv 5) (fun _ _ => rfl))) (fun _ _ _ _ _ => (pe_dget hr.hu1 (pv 3) (pv 5) (fun _ _ => rfl))))))
      (pss_cons (ps_set (i := 7) scTableOf.nd rfl (Or.inr rfl) (pe_lc (own := [("maker", 8)]) (g := gName 8) (tt := tYes) rfl scTableOf.nd (pi_tup (pv 1)) (blkOk_by (N := ["moves", "makers", "words", "index_of", "index", "move", "index_by", "steps", "maker", "plan", "word", "start"]) (sc := defScope sTableOf) (by decide +kernel)) (fun _ _ _ _ _ => pg_name (i := 8) scTableOf.nd rfl (Or.inr rfl)) (fun _ _ _ _ _ => pts_nil) (fun _ _ _ _ _ => (pe_lc (own := [("move", 5)]) (g := gName 5) (tt := tYes) rfl scTableOf.nd (show PI _ _ _ (iTup K _) from pi_tup (pv 0)) (blkOk_by (N := ["moves", "makers", "words", "index_of", "index", "move", "index_by", "steps", "maker", "plan", "word", "start"]) (sc := _) (by kernel_rfl)) (fun _ _ _ _ _ => pg_name (i := 5) scTableOf.nd rfl (Or.inl rfl)) (fun _ _ _ _ _ => pts_nil) (fun _ _ _ _ _ => (pe_dget hr.hu1 (pv 3) (pe_d DFollowed (hr1.le (by decide)) pass0 (pa_cons (pv 5) (pa_cons (pv 8) pa_nil))) (fun _ _ => rfl)))))))
      (pss_cons (ps_set (i := 9) scTableOf.nd rfl (Or.inr rfl) (pe_lock (pe_lc (own := [("word", 10)]) (g := gName 10) rfl scTableOf.nd (pi_keys (pv 6)) (blkOk_by (N := ["moves", "makers", "words", "index_of", "index", "move", "index_by", "steps", "maker", "plan", "word", "start"]) (sc := defScope sTableOf) (by decide +kernel)) (fun _ _ _ _ _ => pg_name (i := 10) scTableOf.nd rfl (Or.inl rfl)) (fun _ _ _ _ _ => (pts_one (pt_cmpR op_gt (pe_callB (cr_lenK (K := K) rfl) rfl T.f_len (by decide +kernel) (pa_cons (pv 10) pa_nil)) pe_int (nomark _)))) (fun _ _ _ _ _ => (pe_tup (pa_cons (pe_dget hr.hu1 (pv 6) (pv 10) (fun _ _ => rfl)) (pa_cons (pe_dget hr.hu1 (pv 6) (pe_slice (show SlR _ (rSlA K) from sl_tupA) (pv 10) po_none (po_some (pe_un un_neg pe_int))) (fun _ _ => rfl)) (pa_cons (pe_ix (show IxR _ (rIxL K) from ix_list) (pv 7) (pe_ix (show IxR _ (rIxT K) from ix_tup) (pv 10) (pe_un un_neg pe_int) (fun _ _ => rfl)) (fun _ _ => rfl)) pa_nil))))))))
      (pss_one (ps_ret (pe_callTy call_tuple_of rfl T.f_tuple (by decide +kernel) (pa_cons (pe_lc (own := [("start", 11)]) (g := gName 11) (tt := tYes) rfl scTableOf.nd (pi_range1 rfl T.f_range (pa_cons (pe_callB call_len_seq rfl T.f_len (by decide +kernel) (pa_cons (pv 0) pa_nil)) pa_nil)) (blkOk_by (N := ["moves", "makers", "words", "index_of", "index", "move", "index_by", "steps", "maker", "plan", "word", "start"]) (sc := defScope sTableOf) (by decide +kernel)) (fun _ _ _ _ _ => pg_name (i := 11) scTableOf.nd rfl (Or.inl rfl)) (fun _ _ _ _ _ => pts_nil) (fun _ _ _ _ _ => (pe_d DTableRow (hr1.le (by decide)) pass0 (pa_cons (pv 11) (pa_cons (pv 9) pa_nil))))) pa_nil)))))))), ?_⟩
    have lus := pr_len mM
    have lk : kvs.length = F.length := by
      have := congrArg List.length (dr.keys wd.len)
      rwa [List.length_map, List.length_map] at this
    have inM : ∀ i, i < F.length → at_ F i ∈ M := fun i hi => (mf _).mpr (at_mem hi)
    refine ⟨_, rfl, a, us, rfl, S, fun D1 n1' => ?_⟩
    have injM : ∀ x y, x < M.length → y < M.length → at_ M x = at_ M y → x = y := fun x y hx hy e => at_inj nd hx hy e
    refine dcG_it (walk_enumT (K := K) (a := a) (xs := us)) (fun i H' => Same H H' ∧ H' D1 = some (.dT (dk (at_ M) (fun j => .int (j : Int)) i))) ⟨same_new n1', upd_same⟩ (fun i H' _ e => same_sqt e.1 S) ?_ ?_
    · rintro i v H1 H2 hi ⟨s1, h1⟩ ⟨T, x, y, rfl, nT, rfl, e1, e2⟩
      cases e1
      obtain ⟨m, hm, b, rfl, hb⟩ := pr_at mM e2
      have im : i < M.length := by omega
      have em : at_ M i = m := by rw [at_, List.getD, hm]; rfl
      have k1 := same_new (o := .tup [.int (i : Int), .ref b]) nT
      have hb2 := k1 _ _ (s1 _ _ hb)
      have h2 := k1 _ _ h1
      replace s1 := s1.trans k1
      refine ⟨T, _, rfl, .inl (.inl upd_same), rfl, _, _, rfl, ?_⟩
      refine ⟨_, _, rfl, rfl, rfl, ?_⟩
      generalize upd H1 T _ = H3 at s1 hb2 h2 ⊢
      refine yes_ ?_
      refine ⟨_, rfl, _, rfl, _, ⟨_, key m, b, rfl, h2, by rw [key_mv]; exact hb2, by rw [dk_len, sizeLine_eq]; omega, rfl⟩, fun x o e => (upd_ne (ne_of_none e n1')).trans (s1 _ _ e), ?_⟩
      rw [upd_same, ← em, dk_put (f := at_ M) (g := fun j => .int (j : Int)) fun j hj e => by have := injM j i (by omega) im e; omega]
    rintro H1 ⟨s1, h1⟩
    rw [lus] at h1
    have val1 : ∀ {x : List Nat}, x ∈ M → valV (dk (at_ M) (fun j => V.int (j : Int)) M.length) (key x) = some (.int (ix M x : Int)) := fun {x} hx => by
      have := dk_val (g := fun j => V.int (j : Int)) injM (ix_lt hx)
      rwa [at_ix hx] at this
    -- the words
    refine ⟨d, .dT kvs, s1 _ _ hd, True.intro, fun od => ?_⟩
    have nt : ∀ xs : List V, HO.dT kvs ≠ .tup xs := fun _ e => by cases e
    have hd1 := s1 _ _ hd
    have drL := (dr.same s1).upd (o' := .frz od (.dT kvs)) hd1 nt
    have d1d : D1 ≠ d := (ne_of_none hd n1').symm
    have h1L := (upd_ne (o := .frz od (.dT kvs)) d1d).trans h1
    have hdL : (upd H1 d (.frz od (.dT kvs))) d = some (.frz od (.dT kvs)) := upd_same
    have outL : ∀ b o, b ≠ d → H1 b = some o → (upd H1 d (.frz od (.dT kvs))) b = some o := fun b o ne e => (upd_ne ne).trans e
    generalize upd H1 d (.frz od (.dT kvs)) = HL at drL h1L hdL outL ⊢
    refine ⟨_, rfl, d, od, rfl, .inr ⟨kvs, hdL, fun D2 n2' => ?_⟩⟩
    have injW : ∀ x y, x < W.length → y < W.length → at_ W x = at_ W y → x = y := fun x y hx hy e => at_inj wd.wnd hx hy e
    refine dcG_it (walk_keysT (d := d) (o := od) (kvs := kvs)) (fun i H' => Same HL H' ∧ H' D2 = some (.dT (dk (at_ W) (fun j => .int (ix M (at_ F j) : Int)) i))) ⟨same_new n2', upd_same⟩ (fun i H' _ e => e.1 _ _ hdL) ?_ ?_
    · rintro i v H2 H3 hi ⟨s2, h2⟩ ⟨rfl, k, v2, b, hkv, rfl, hb⟩
      have iF : i < F.length := by omega
      obtain ⟨bw, hval, hbw⟩ := drL.val wd.len wd.nd iF
      have ek : k = key (at_ F i) := by
        have e3 : (kvs.map (·.1))[i]? = some k := by rw [List.getElem?_map, hkv]; rfl
        rw [dr.keys wd.len, List.getElem?_map, at_get iF] at e3
        exact (Option.some.inj e3).symm
      subst ek
      refine ⟨wipe_one, yes_ ?_⟩
      refine ⟨_, rfl, _, rfl, d, .ref bw, rfl, .inr ⟨kvs, key (at_ F i), b, .inr ⟨od, s2 _ _ hdL⟩, rfl, hb, hval.symm⟩, ?_⟩
      refine ⟨_, rfl, _, rfl, D1, .int (ix M (at_ F i) : Int), rfl, by rw [← val1 (inM i iF)]; exact DGet.t (s2 _ _ h1L) hb, ?_⟩
      refine ⟨_, ⟨_, key (at_ W i), bw, rfl, h2, by rw [key_mv]; exact s2 _ _ hbw, by rw [dk_len, sizeLine_eq]; omega, rfl⟩, fun x o e => (upd_ne (ne_of_none e n2')).trans (s2 _ _ e), ?_⟩
      have lW := wd.len
      rw [upd_same, dk_put (f := at_ W) (g := fun j => .int (ix M (at_ F j) : Int)) fun j hj e => by have := injW j i (by omega) (by omega) e; omega]
    rintro H2 ⟨s2, h2⟩
    refine ⟨s2 _ _ hdL, ?_⟩
    rw [lk] at h2
    have d2d : D2 ≠ d := (ne_of_none hdL n2').symm
    have d12 : D1 ≠ D2 := ne_of_none h1L n2'
    have s12 : Same H1 (upd H2 d (.dT kvs)) := fun b o e => by
      by_cases z : b = d
      · subst z
        rw [hd1] at e
        rw [← e]
        exact upd_same
      · exact (upd_ne z).trans (s2 _ _ (outL b o z e))
    have h2u := (upd_ne (o := .dT kvs) d2d).trans h2
    have h1u := (upd_ne (o := .dT kvs) d1d).trans (s2 _ _ h1L)
    generalize upd H2 d (.dT kvs) = H3 at s12 h2u h1u ⊢
    have s3 := s1.trans s12
    clear s1 s12 s2 outL drL h1L hdL hd1 h1 h2
    -- the steps
    refine ⟨_, rfl, ma, rfl, ⟨mus, same_sqt s3 Sm⟩, fun D3 n3' => ?_⟩
    refine lc_tup (K := K) (a := ma) (xs := mus) (Pv := fun k H' => Same H3 H' ∧ ∃ ss, H' D3 = some (.lst ss) ∧ Paired (fun v j => ∃ b, v = V.ref b ∧ b ≠ D3 ∧ H' b = some (.lst (mv (stepL M ms j)))) ss (List.range k)) ⟨same_new n3', [], upd_same, .nil⟩ (fun k H' _ e => same_sqt (s3.trans e.1) Sm) ?_ ?_
    · rintro k v H4 hv ⟨s4, ss, hD3, sp⟩
      obtain ⟨m, hm, bm, rfl, hbm⟩ := pr_at mm hv
      have km : k < ms.length := (List.getElem?_eq_some_iff.mp hm).1
      have em : at_ ms k = m := by rw [at_, List.getD, hm]; rfl
      have pmm := pm m (List.mem_of_getElem? hm)
      have lss := pr_len sp
      rw [List.length_range] at lss
      refine ⟨wipe_one, yes_ ?_⟩
      refine ⟨_, rfl, a, rfl, ⟨us, same_sqt (s3.trans s4) S⟩, fun D4 n4' => ?_⟩
      refine lc_tup (K := K) (a := a) (xs := us) (Pv := fun i H' => Same H4 H' ∧ H' D4 = some (.lst (mv ((stepL M ms k).take i)))) ⟨same_new n4', upd_same⟩ (fun i H' _ e => same_sqt ((s3.trans s4).trans e.1) S) ?_ ?_
      · rintro i v H5 hv ⟨s5, hD4⟩
        obtain ⟨x, hx, bx, rfl, hbx⟩ := pr_at mM hv
        have ex : at_ M i = x := by rw [at_, List.getD, hx]; rfl
        have xM := List.mem_of_getElem? hx
        have xF := (mf x).mp xM
        have px : Pm n x := by
          obtain ⟨j, hj, e⟩ := mem_at xF
          rw [← e]
          exact wd.pm pm j hj
        have s35 := (s3.trans s4).trans s5
        refine ⟨wipe_one, yes_ ?_⟩
        refine ⟨_, rfl, _, rfl, _, rfl, bx, bm, x, m, rfl, .inl (.inl (s35 _ _ hbx)), .inl (.inl (s35 _ _ hbm)), by rw [pmm.len]; omega, by rw [px.len]; exact pmm.lt, fun H6 c s6 hc => ?_⟩
        have cM : comp x m ∈ M := (mf _).mpr (by rw [← em]; exact full x xF k km)
        refine ⟨D1, .int (ix M (comp x m) : Int), rfl, by rw [← val1 cM]; exact DGet.t (s6 _ _ (s5 _ _ (s4 _ _ h1u))) (by rw [key_mv]; exact hc), ?_⟩
        have lt4 : ((stepL M ms k).take i).length ≤ i := List.length_take_le _ _
        refine ⟨_, s6 _ _ hD4, by rw [mv_len, sizeLine_eq]; have := (List.getElem?_eq_some_iff.mp hx).1; omega, fun y o e => (upd_ne (ne_of_none e n4')).trans (s6 _ _ (s5 _ _ e)), ?_⟩
        rw [upd_same, List.take_add_one, show (stepL M ms k)[i]? = some (ix M (comp x m)) by unfold stepL; rw [List.getElem?_map, hx, em]; rfl]
        unfold mv
        rw [List.map_append]
        rfl
      rintro H5 ⟨s5, hD4⟩
      rw [lus, List.take_of_length_le (by unfold stepL; rw [List.length_map]; exact Nat.le_refl _)] at hD4
      have d43 : D4 ≠ D3 := (ne_of_none hD3 n4').symm
      refine ⟨ss, s5 _ _ hD3, by rw [lss, sizeLine_eq]; omega, fun y o e => (upd_ne (ne_of_none e n3')).trans (s5 _ _ (s4 _ _ e)), ss ++ [.ref D4], upd_same, ?_⟩
      rw [List.range_succ]
      exact pr_snoc (Paired.mapP sp fun _ _ ⟨b, e1, ne, h⟩ => ⟨b, e1, ne, (upd_ne ne).trans (s5 _ _ h)⟩) ⟨D4, rfl, d43, (upd_ne d43).trans hD4⟩
    rintro H4 ⟨s4, ss, hD3, sp⟩
    have lms := pr_len mm
    rw [lms] at sp
    replace h2u := s4 _ _ h2u
    have s34 := s3.trans s4
    -- the plan
    refine ⟨D2, _, h2u, True.intro, fun od2 => ?_⟩
    have h2n : ∀ xs : List V, HO.dT (dk (at_ W) (fun j => V.int (ix M (at_ F j) : Int)) F.length) ≠ .tup xs := fun _ e => by cases e
    have d3d : D3 ≠ D2 := fun e => by rw [e, h2u] at hD3; cases hD3
    have outL : ∀ b o, b ≠ D2 → H4 b = some o → (upd H4 D2 (.frz od2 (.dT (dk (at_ W) (fun j => V.int (ix M (at_ F j) : Int)) F.length)))) b = some o := fun b o ne e => (upd_ne ne).trans e
    have hL2 : (upd H4 D2 (.frz od2 (.dT (dk (at_ W) (fun j => V.int (ix M (at_ F j) : Int)) F.length)))) D2 = some (.frz od2 (.dT (dk (at_ W) (fun j => V.int (ix M (at_ F j) : Int)) F.length))) := upd_same
    generalize upd H4 D2 (.frz od2 _) = HL at outL hL2 ⊢
    have hD3L := outL _ _ d3d hD3
    have spL : Paired (fun v j => ∃ b, v = V.ref b ∧ HL b = some (.lst (mv (stepL M ms j)))) ss (List.range ms.length) := Paired.mapP sp fun _ _ ⟨b, e1, _, h⟩ => ⟨b, e1, outL _ _ (ne_of h h2u fun e => by cases e) h⟩
    have lss := pr_len sp
    rw [List.length_range] at lss
    have lW := wd.len
    have val2 : ∀ i, i < F.length → valV (dk (at_ W) (fun j => V.int (ix M (at_ F j) : Int)) F.length) (key (at_ W i)) = some (.int (ix M (at_ F i) : Int)) := fun i hi => dk_val (g := fun j => V.int (ix M (at_ F j) : Int)) (fun x y hx hy e => injW x y (by omega) (by omega) e) hi
    refine ⟨_, rfl, D2, od2, rfl, .inr ⟨_, hL2, fun D5 n5 => ?_⟩⟩
    have pl := plan_len (M := M) wd
    refine lc_it (walk_keysT (d := D2) (o := od2)) (fun i H' => Same HL H' ∧ ∃ ps, H' D5 = some (.lst ps) ∧ Paired (fun v (e : Pl) => ∃ b bl, v = V.ref b ∧ H' b = some (.tup [.int (e.1 : Int), .int (e.2.1 : Int), .ref bl]) ∧ HL bl = some (.lst (mv e.2.2))) ps ((plan n ms M W).take (i - 1)))
      ⟨same_new n5, [], upd_same, .nil⟩ (fun i H' _ e => e.1 _ _ hL2) ?_ ?_
    · rintro i v H0' H5 hi ⟨s5, ps, hD5, pp⟩ ⟨rfl, k, v2, b, hkv, rfl, hb⟩
      rw [dk_len] at hi
      have ek : k = key (at_ W i) := by
        unfold dk at hkv
        rw [List.getElem?_map, List.getElem?_range hi] at hkv
        exact (congrArg Prod.fst (Option.some.inj hkv)).symm
      subst ek
      have hb0 := hb
      rw [key_mv] at hb
      have lps := pr_len pp
      refine ⟨wipe_one, ?_⟩
      refine ⟨_, rfl, b, _, rfl, .inr (.inl (.inl hb)), _, _, rfl, rfl, _, rfl, ?_⟩
      by_cases i0 : i = 0
      · subst i0
        rw [if_neg (by rw [mv_len, wd.zero.2]; decide)]
        exact ⟨s5, ps, hD5, pp⟩
      obtain ⟨j, k, lt, hk, e1, e2, en⟩ := entry_is (M := M) wd (i := i) (by omega) hi
      have lw : (at_ W i).length = (at_ W j).length + 1 := by rw [e1, List.length_append]; rfl
      rw [if_pos (decide_eq_true (by rw [mv_len, lw]; omega))]
      refine ⟨_, rfl, _, rfl, D2, .int (ix M (at_ F i) : Int), rfl, .inr ⟨_, key (at_ W i), b, .inr ⟨od2, s5 _ _ hL2⟩, rfl, hb0, (val2 i hi).symm⟩, ?_⟩
      refine ⟨_, rfl, _, rfl, 1, rfl, -1, rfl, b, mv (at_ W i), rfl, .inl (.inl hb), fun e => ?_, fun _ c nc => ?_⟩
      · exfalso
        have := e.2
        rw [six_end (by rw [mv_len, lw]; omega), mv_len, lw] at this
        omega
      have kc := same_new (o := .tup (cutV (mv (at_ W i)) none (some (-1)))) nc
      have hc : (upd H5 c (.tup (cutV (mv (at_ W i)) none (some (-1))))) c = some (.tup ((key (at_ W j)).map kV)) := by
        rw [upd_same, cut_end _ (by rw [mv_len, lw]; omega), mv_len, lw, key_mv, e1]
        unfold mv
        rw [List.map_append, Nat.add_sub_cancel, List.take_left' (List.length_map _)]
      generalize upd H5 c _ = H6 at kc hc ⊢
      refine ⟨D2, .int (ix M (at_ F j) : Int), rfl, .inr ⟨_, key (at_ W j), c, .inr ⟨od2, kc _ _ (s5 _ _ hL2)⟩, rfl, hc, (val2 j (by omega)).symm⟩, ?_⟩
      obtain ⟨u, hu, bl, rfl, hbl⟩ := pr_get spL (i := k) (o := k) (by rw [List.getElem?_range hk])
      refine ⟨_, rfl, _, rfl, 1, rfl, b, mv (at_ W i), _, .int (k : Int), rfl, rfl, .inl (.inl (kc _ _ hb)), atI_end (n := (at_ W j).length) ?_ (by rw [mv_len, lw]), D3, ss, _, .ref bl, rfl, rfl, lst_sql' (kc _ _ (s5 _ _ hD3L)), atI_nat hu, ?_⟩
      · rw [e1]
        unfold mv
        rw [List.map_append, List.getElem?_append_right (by rw [List.length_map]; exact Nat.le_refl _), List.length_map, Nat.sub_self]
        rfl
      refine ⟨by show 3 ≤ sizeLine; decide, fun T nT => ?_⟩
      have kt := kc.trans (same_new (o := .tup [.int (ix M (at_ F i) : Int), .int (ix M (at_ F j) : Int), .ref bl]) nT)
      have hT : (upd H6 T (.tup [.int (ix M (at_ F i) : Int), .int (ix M (at_ F j) : Int), .ref bl])) T = some (.tup [.int (ix M (at_ F i) : Int), .int (ix M (at_ F j) : Int), .ref bl]) := upd_same
      generalize upd H6 T _ = H7 at kt hT ⊢
      have hD7 := kt _ _ hD5
      have tk := List.length_take_le (i - 1) (plan n ms M W)
      refine ⟨ps, hD7, by rw [lps, sizeLine_eq]; omega, fun y o e => (upd_ne (ne_of_none e n5)).trans (kt _ _ (s5 _ _ e)), ps ++ [.ref T], upd_same, ?_⟩
      have eT : (plan n ms M W).take (i + 1 - 1) = (plan n ms M W).take (i - 1) ++ [entry n ms M (at_ W i)] := by
        obtain ⟨i', rfl⟩ : ∃ i', i = i' + 1 := ⟨i - 1, by omega⟩
        rw [Nat.add_sub_cancel, Nat.add_sub_cancel, List.take_add_one, plan_at wd hi]
        rfl
      rw [eT, en]
      exact pr_snoc (Paired.mapP pp fun _ _ ⟨b, bl, e1, h1, h2⟩ => ⟨b, bl, e1, (upd_ne (ne_of (kt _ _ h1) hD7 fun e => by cases e)).trans (kt _ _ h1), h2⟩) ⟨T, bl, rfl, (upd_ne (ne_of hT hD7 fun e => by cases e)).trans hT, hbl⟩
    rintro H5 ⟨s5, ps, hD5, pp⟩
    refine ⟨s5 _ _ hL2, ?_⟩
    rw [dk_len, List.take_of_length_le (by omega)] at pp
    have d52 : D5 ≠ D2 := (ne_of_none hL2 n5).symm
    have s45 : Same H4 (upd H5 D2 (.dT (dk (at_ W) (fun j => V.int (ix M (at_ F j) : Int)) F.length))) := fun b o e => by
      by_cases z : b = D2
      · subst z
        rw [h2u] at e
        rw [← e]
        exact upd_same
      · exact (upd_ne z).trans (s5 _ _ (outL b o z e))
    have hD6 := (upd_ne (o := .dT (dk (at_ W) (fun j => V.int (ix M (at_ F j) : Int)) F.length)) d52).trans hD5
    have pp6 : Paired (PE1 (upd H5 D2 (.dT (dk (at_ W) (fun j => V.int (ix M (at_ F j) : Int)) F.length)))) ps (plan n ms M W) := Paired.mapP pp fun _ _ ⟨b, bl, e1, h1, h2⟩ =>
      ⟨b, bl, e1, (upd_ne (ne_of h1 (s5 _ _ hL2) fun e => by cases e)).trans h1, (upd_ne (ne_of h2 hL2 fun e => by cases e)).trans (s5 _ _ h2)⟩
    generalize upd H5 D2 _ = H6 at s45 hD6 pp6 ⊢
    have s6 := s34.trans s45
    clear s3 s4 s34 s45 s5 outL hL2 hD3L spL sp hD3 h1u h2u hD5 pp
    refine ⟨_, rfl, a, us, rfl, .inr (same_sqt s6 S), (F.length : Int), by rw [lus, lM], by omega, by omega, fun D7 n7 => ?_⟩
    refine lc_range (Pv := fun i H' => Same H6 H' ∧ ∃ ts, H' D7 = some (.lst ts) ∧ Paired (fun v (r : List Nat) => ∃ b, v = V.ref b ∧ PlT H' b (mv r)) ts ((List.range i).map (rowOf M))) ⟨same_new n7, [], upd_same, .nil⟩ ?_ ?_
    · rintro i H7 hi ⟨s7, ts, hD7, tp⟩
      have iM : i < M.length := by omega
      have lts := pr_len tp
      rw [List.length_map, List.length_range] at lts
      refine ⟨wipe_one, yes_ ?_⟩
      refine ⟨_, rfl, _, rfl, i, D5, ps, plan n ms M W, by rw [Int.zero_add], s7 _ _ hD6, Paired.mapP pp6 fun _ _ h => h.same s7, by omega, row_ok wd full pm nd mf lM iM, fun H8 t s8 pt => ?_⟩
      rw [row_is wd full pm nd mf lM iM] at pt
      have hD8 := s8 _ _ hD7
      have up : ∀ {b : Addr} {r : List Nat} {o : HO}, PlT H8 b (mv r) → PlT (upd H8 D7 o) b (mv r) := fun {b r o} ⟨ob, e, od⟩ => ⟨ob, (upd_ne (ne_of e hD8 fun e => by cases e)).trans e, od⟩
      refine ⟨ts, hD8, by rw [lts, sizeLine_eq]; omega, fun y o e => (upd_ne (ne_of_none e n7)).trans (s8 _ _ (s7 _ _ e)), ts ++ [.ref t], upd_same, ?_⟩
      rw [List.range_succ, List.map_append]
      exact pr_snoc (Paired.mapP tp fun _ _ ⟨b, e1, ob, e, od⟩ => ⟨b, e1, up ⟨ob, s8 _ _ e, od⟩⟩) ⟨t, rfl, up pt⟩
    rintro H7 ⟨s7, ts, hD7, tp⟩
    have eF : ((F.length : Int)).toNat = M.length := by rw [lM]; rfl
    refine ⟨D7, ts, rfl, .inl ⟨lst_sql' hD7, fun t nt' => ?_⟩⟩
    have k8 := same_new (o := .tup ts) nt'
    refine q _ t ts ((s6.trans s7).trans k8) upd_same ?_
    unfold TBL
    rw [lM]
    exact Paired.mapP tp fun _ _ ⟨b, e1, ob, e, od⟩ => ⟨b, e1, ob, k8 _ _ e, od⟩
theorem mv_ints (m : List Nat) : mv m = (m.map fun k : Nat => (k : Int)).map V.int := by
  unfold mv
  rw [List.map_map]
  rfl
theorem shapedI (ns : List Int) : SeqAt.shaped (.tuple (ns.map .int)) = true := by
  unfold SeqAt.shaped
  have h := dep_ints ns
  rw [show PyData.canLay0 (.tuple (ns.map .int)) = true from lay_ints ns, Bool.true_and]
  refine decide_eq_true ?_
  simp only [PyData.depth]
  omega
theorem idx_nat {K : PySem.W.Frag} {H : Hp} {a : Addr} {r : List Nat} {Q : VK} {x : Nat} (h : PlT H a (mv r)) (m : x ∈ r) (q : Q (.int (r.idxOf x : Nat)) H) : rIdxT K (.ref a) [.int (x : Int)] H Q := by
  have S : SqT K H a ((r.map fun k : Nat => (k : Int)).map V.int) := by rw [← mv_ints]; exact h.sqt
  have jl := List.idxOf_lt_length_of_mem m
  have at' : ∀ (i : Nat), ((r.map fun k : Nat => (k : Int)).map PyData.int)[i]? = r[i]?.map fun k : Nat => PyData.int (k : Int) := fun i => by
    rw [List.getElem?_map, List.getElem?_map, Option.map_map]
    rfl
  refine ⟨a, .int (x : Int), .int (x : Int), (r.map fun k : Nat => (k : Int)).map .int, r.idxOf x, .int (x : Int), rfl, rfl, .tup S (dp_ints _), .int _, shapedI _, rfl, ?_, ?_, fun i z lt hz => ?_, q⟩
  · rw [at', List.getElem?_eq_getElem jl, List.getElem_idxOf jl]
    rfl
  · show decide ((x : Int) = x) = true
    exact decide_eq_true rfl
  · rw [at', List.getElem?_eq_getElem (by omega)] at hz
    obtain rfl := Option.some.inj hz
    show decide (((r[i] : Nat) : Int) = (x : Int)) = false
    refine decide_eq_false fun e => ?_
    have := List.not_of_lt_findIdx (p := (· == x)) (xs := r) (i := i) lt
    simp at this
    omega
theorem idx_zero {K : PySem.W.Frag} {H : Hp} {a : Addr} {r : List Nat} {Q : VK} {σ : L2.St} (h : PlT H a (mv r)) (m : 0 ∈ r) (q : Q (.int (r.idxOf 0 : Nat)) H) : tC (.int 0) σ H fun y H2 => rIdxT K (.ref a) [y] H2 Q := idx_nat (x := 0) h m q
def spBackOf (K : PySem.W.Frag) : Sp := fun vs H Q _ => ∃ (a : Addr) (us : List V) (M : List (List Nat)), vs = [.ref a] ∧ SqT K H a us ∧ TBL H us M ∧ M.length ≤ 200 ∧ (∀ i, i < M.length → 0 ∈ rowOf M i) ∧ ∀ H' t, Same H H' → H' t = some (.tup (mv (bk M))) → Q (.ref t) H'
theorem scUndoingOf : FnScope ["table", "row"] ["table"] (defScope sUndoingOf) :=
  ⟨rfl, rfl, rfl, by decide +kernel, rfl, by decide +kernel, by decide +kernel⟩
theorem dUndoingOf (T : Tx K mg) : Def P w K mg base CX0 1 "undoing_of" ["table"] (spBackOf K) := by
  refine T.t_undoing_of.def_ (N := ["table", "row"]) scUndoingOf (fun _ _ _ _ _ _ us hl => match us, hl with | [_], _ => rfl) ?_ ?_
  · intro vs H Q E h
    obtain ⟨a, us, M, rfl, _⟩ := h
    rfl
  · intro f cd A out s H vs Q E hr h
    obtain ⟨a, us, M, rfl, S, tl, few, zero, q⟩ := h
    refine ⟨_, (pss_one (ps_ret (pe_callTy call_tuple_of rfl T.f_tuple (by decide +kernel) (pa_cons (pe_lc (own := [("row", 1)]) (g := gName 1) (tt := tYes) rfl scUndoingOf.nd (pi_tup (pv 0)) (blkOk_by (N := ["table", "row"]) (sc := defScope sUndoingOf) (by decide +kernel)) (fun _ _ _ _ _ => pg_name (i := 1) scUndoingOf.nd rfl (Or.inl rfl)) (fun _ _ _ _ _ => pts_nil) (fun _ _ _ _ _ => (show PE _ _ (tIdxF K _ _) from (pe_idxF hr.hu65 (pv 1) pe_int ⟨rfl, rfl, rfl, rfl⟩)))) pa_nil)))), ?_⟩
    have lus := pr_len tl
    rw [List.length_map, List.length_range] at lus
    refine ⟨_, rfl, a, rfl, ⟨us, S⟩, fun D nD => ?_⟩
    refine lc_tup (K := K) (a := a) (xs := us) (Pv := fun i H' => Same H H' ∧ H' D = some (.lst (mv ((bk M).take i)))) ⟨same_new nD, upd_same⟩ (fun i H' _ e => same_sqt e.1 S) ?_ ?_
    · rintro i v H1 hv ⟨s1, hD⟩
      have iM : i < M.length := by have := (List.getElem?_eq_some_iff.mp hv).1; omega
      obtain ⟨r, hr, b, rfl, ob, e, od⟩ := pr_at tl hv
      rw [List.getElem?_map, List.getElem?_range iM] at hr
      obtain rfl := Option.some.inj hr
      refine ⟨wipe_one, yes_ ?_⟩
      refine ⟨_, rfl, ⟨b, _, rfl, ob, s1 _ _ e, od⟩, ?_⟩
      have tk := List.length_take_le i (bk M)
      refine idx_zero ⟨ob, s1 _ _ e, od⟩ (zero i iM) ?_
      refine ⟨_, hD, by rw [mv_len, sizeLine_eq]; omega, fun y o e => (upd_ne (ne_of_none e nD)).trans (s1 _ _ e), ?_⟩
      rw [upd_same, List.take_add_one, show (bk M)[i]? = some ((rowOf M i).idxOf 0) by unfold bk; rw [List.getElem?_map, List.getElem?_range iM]; rfl]
      unfold mv
      rw [List.map_append]
      rfl
    rintro H1 ⟨s1, hD⟩
    rw [lus, List.take_of_length_le (by unfold bk; rw [List.length_map, List.length_range]; exact Nat.le_refl _)] at hD
    exact ⟨D, _, rfl, .inl ⟨lst_sql' hD, fun t nt => q _ t (s1.trans (same_new nt)) upd_same⟩⟩
end
end K08


set_option Elab.async false
set_option linter.all false
/-! finite groups told by a table; the lists of their subgroups -/
namespace GT
structure Gp (N : Nat) (t : Nat → Nat → Nat) : Prop where
  pos : 0 < N
  lt : ∀ {a b}, a < N → b < N → t a b < N
  assoc : ∀ {a b c}, a < N → b < N → c < N → t (t a b) c = t a (t b c)
  onel : ∀ {a}, a < N → t 0 a = a
  oner : ∀ {a}, a < N → t a 0 = a
  inv : ∀ {a}, a < N → ∃ b, b < N ∧ t a b = 0 ∧ t b a = 0
/-- what the members of S make, from the left -/
inductive Gen (t : Nat → Nat → Nat) (S : List Nat) : Nat → Prop where
  | one : Gen t S 0
  | mul {s x : Nat} : s ∈ S → Gen t S x → Gen t S (t s x)
/-- a body: ascending, the unit, products -/
structure Sg (N : Nat) (t : Nat → Nat → Nat) (B : List Nat) : Prop where
  up : B.Pairwise (· < ·)
  lt : ∀ x ∈ B, x < N
  one : 0 ∈ B
  mul : ∀ x ∈ B, ∀ y ∈ B, t x y ∈ B
section
variable {N : Nat} {t : Nat → Nat → Nat} (g : Gp N t) {S S' : List Nat}
include g
theorem Gen.lt (hS : ∀ s ∈ S, s < N) {x : Nat} (h : Gen t S x) : x < N := by
  induction h with
  | one => exact g.pos
  | mul hs _ ih => exact g.lt (hS _ hs) ih
theorem Gen.prod (hS : ∀ s ∈ S, s < N) {x y : Nat} (hx : Gen t S x) (hy : Gen t S y) : Gen t S (t x y) := by
  have ly := hy.lt g hS
  induction hx with
  | one => rw [g.onel ly]; exact hy
  | mul hs h ih =>
    rw [g.assoc (hS _ hs) (h.lt g hS) ly]
    exact .mul hs ih
omit g in
theorem Gen.mono (hS : ∀ s ∈ S, s ∈ S') {x : Nat} (h : Gen t S x) : Gen t S' x := by
  induction h with
  | one => exact .one
  | mul hs _ ih => exact .mul (hS _ hs) ih
theorem Gen.single (hS : ∀ s ∈ S, s < N) {s : Nat} (hs : s ∈ S) : Gen t S s := by
  have := Gen.mul hs (Gen.one (t := t) (S := S))
  rwa [g.oner (hS s hs)] at this
theorem cancel {a b c : Nat} (ha : a < N) (hb : b < N) (hc : c < N) (e : t a b = t a c) : b = c := by
  obtain ⟨i, hi, _, e2⟩ := g.inv ha
  have h1 := g.assoc hi ha hb
  have h2 := g.assoc hi ha hc
  rw [e2, g.onel hb] at h1
  rw [e2, g.onel hc] at h2
  rw [h1, h2, e]
theorem cancelr {a b c : Nat} (ha : a < N) (hb : b < N) (hc : c < N) (e : t b a = t c a) : b = c := by
  obtain ⟨i, hi, e1, _⟩ := g.inv ha
  have h1 := g.assoc hb ha hi
  have h2 := g.assoc hc ha hi
  rw [e1, g.oner hb] at h1
  rw [e1, g.oner hc] at h2
  rw [← h1, ← h2, e]
omit g in
theorem asc_nodup {B : List Nat} (h : B.Pairwise (· < ·)) : B.Nodup := h.imp fun h => by omega
/-- a list of members below N, without doubles -/
theorem few_lt {L : List Nat} (nd : L.Nodup) (h : ∀ x ∈ L, x < N) : L.length ≤ N := by
  have := sub_len (b := List.range N) nd fun x hx => List.mem_range.mpr (h x hx)
  rwa [List.length_range] at this
omit g in
theorem inv_in (g : Gp N t) {B : List Nat} (sb : Sg N t B) {x y : Nat} (hx : x ∈ B) (hy : y < N) (e : t x y = 0) : y ∈ B := by
  -- x, x x, .. come back to the unit
  have lx := sb.lt x hx
  have nd : (B.map (t x)).Nodup := by
    refine List.pairwise_iff_getElem.mpr fun i j hi hj lt e => ?_
    rw [List.length_map] at hi hj
    rw [List.getElem_map, List.getElem_map] at e
    have ee := cancel g lx (sb.lt _ (List.getElem_mem hi)) (sb.lt _ (List.getElem_mem hj)) e
    have := (List.getElem_inj (asc_nodup sb.up)).mp ee
    omega
  have sub : ∀ z ∈ B.map (t x), z ∈ B := fun z hz => by
    obtain ⟨w, hw, rfl⟩ := List.mem_map.mp hz
    exact sb.mul x hx w hw
  have all : 0 ∈ B.map (t x) := by
    refine Classical.byContradiction fun no => ?_
    have l := sub_len (a := 0 :: B.map (t x)) (b := B) (List.nodup_cons.mpr ⟨no, nd⟩) fun z hz => by
      rcases List.mem_cons.mp hz with rfl | hz
      · exact sb.one
      · exact sub z hz
    rw [List.length_cons, List.length_map] at l
    omega
  obtain ⟨w, hw, e2⟩ := List.mem_map.mp all
  have := cancel g lx hy (sb.lt w hw) (e.trans e2.symm)
  rw [this]
  exact hw
end
end GT
namespace GT
/-- what the walk over cosets holds -/
structure Cos (N : Nat) (t : Nat → Nat → Nat) (B S' found firsts : List Nat) : Prop where
  mem : ∀ x, x ∈ found ↔ ∃ f ∈ firsts, ∃ b ∈ B, x = t f b
  gen : ∀ f ∈ firsts, Gen t S' f
  zero : 0 ∈ firsts
  fnd : found.Nodup
  frd : firsts.Nodup
section
variable {N : Nat} {t : Nat → Nat → Nat} {B S S' found firsts : List Nat}
/-- an ascending list of what some make is a body -/
theorem sg_of (g : Gp N t) (hS : ∀ s ∈ S, s < N) (up : B.Pairwise (· < ·)) (m : ∀ x, x ∈ B ↔ Gen t S x) : Sg N t B :=
  ⟨up, fun x hx => ((m x).mp hx).lt g hS, (m 0).mpr .one, fun x hx y hy => (m _).mpr (((m x).mp hx).prod g hS ((m y).mp hy))⟩
theorem Cos.start (g : Gp N t) (sb : Sg N t B) : Cos N t B S' B [0] where
  mem := fun x => by
    constructor
    · intro h
      exact ⟨0, List.mem_cons_self, x, h, (g.onel (sb.lt x h)).symm⟩
    · rintro ⟨f, hf, b, hb, rfl⟩
      rw [List.mem_singleton.mp hf, g.onel (sb.lt b hb)]
      exact hb
  gen := fun f hf => by rw [List.mem_singleton.mp hf]; exact .one
  zero := List.mem_cons_self
  fnd := asc_nodup sb.up
  frd := List.nodup_cons.mpr ⟨by simp, .nil⟩
variable (g : Gp N t) (sb : Sg N t B) (hS : ∀ s ∈ S', s < N) (c : Cos N t B S' found firsts)
include g sb hS c
theorem Cos.flt : ∀ f ∈ firsts, f < N := fun f hf => (c.gen f hf).lt g hS
theorem Cos.lt : ∀ x ∈ found, x < N := fun x hx => by
  obtain ⟨f, hf, b, hb, rfl⟩ := (c.mem x).mp hx
  exact g.lt (c.flt g sb hS f hf) (sb.lt b hb)
theorem Cos.sub : ∀ f ∈ firsts, f ∈ found := fun f hf => (c.mem f).mpr ⟨f, hf, 0, sb.one, (g.oner (c.flt g sb hS f hf)).symm⟩
theorem Cos.few : firsts.length ≤ N := few_lt g c.frd (c.flt g sb hS)
theorem Cos.many : found.length ≤ N := few_lt g c.fnd (c.lt g sb hS)
/-- a new coset -/
theorem Cos.push {m : Nat} (hm : Gen t S' m) (new : m ∉ found) : Cos N t B S' (found ++ B.map (t m)) (firsts ++ [m]) := by
  have lm := hm.lt g hS
  refine ⟨fun x => ?_, fun f hf => ?_, List.mem_append_left _ c.zero, ?_, ?_⟩
  · rw [List.mem_append, c.mem]
    constructor
    · rintro (⟨f, hf, b, hb, e⟩ | h)
      · exact ⟨f, List.mem_append_left _ hf, b, hb, e⟩
      · obtain ⟨b, hb, rfl⟩ := List.mem_map.mp h
        exact ⟨m, List.mem_append_right _ List.mem_cons_self, b, hb, rfl⟩
    · rintro ⟨f, hf, b, hb, rfl⟩
      rcases List.mem_append.mp hf with hf | hf
      · exact .inl ⟨f, hf, b, hb, rfl⟩
      · rw [List.mem_singleton.mp hf]
        exact .inr (List.mem_map.mpr ⟨b, hb, rfl⟩)
  · rcases List.mem_append.mp hf with hf | hf
    · exact c.gen f hf
    · rw [List.mem_singleton.mp hf]
      exact hm
  · rw [List.nodup_append]
    refine ⟨c.fnd, ?_, fun x hx y hy e => ?_⟩
    · refine List.pairwise_iff_getElem.mpr fun i j hi hj lt e => ?_
      rw [List.length_map] at hi hj
      rw [List.getElem_map, List.getElem_map] at e
      have ee := cancel g lm (sb.lt _ (List.getElem_mem hi)) (sb.lt _ (List.getElem_mem hj)) e
      have := (List.getElem_inj (asc_nodup sb.up)).mp ee
      omega
    · subst e
      obtain ⟨b, hb, rfl⟩ := List.mem_map.mp hy
      obtain ⟨f, hf, b', hb', e⟩ := (c.mem _).mp hx
      have lb := sb.lt b hb
      have lb' := sb.lt b' hb'
      have lf := c.flt g sb hS f hf
      obtain ⟨i, hi, e1, e2⟩ := g.inv lb
      have iB := inv_in g sb hb hi e1
      refine new ((c.mem m).mpr ⟨f, hf, t b' i, sb.mul b' hb' i iB, ?_⟩)
      rw [← g.assoc lf lb' hi, ← e, g.assoc lm lb hi, e1, g.oner lm]
  · rw [List.nodup_append]
    refine ⟨c.frd, List.nodup_cons.mpr ⟨by simp, .nil⟩, fun x hx y hy e => ?_⟩
    rw [List.mem_singleton] at hy
    subst e hy
    exact new (c.sub g sb hS _ hx)
theorem Cos.all (done : ∀ f ∈ firsts, ∀ s ∈ S', t s f ∈ found) (bg : ∀ b ∈ B, Gen t S' b) : ∀ x, x ∈ found ↔ Gen t S' x := fun x => by
  constructor
  · intro h
    obtain ⟨f, hf, b, hb, rfl⟩ := (c.mem x).mp h
    exact (c.gen f hf).prod g hS (bg b hb)
  · intro h
    induction h with
    | one => exact c.sub g sb hS 0 c.zero
    | mul hs h ih =>
      rename_i s y
      obtain ⟨f, hf, b, hb, rfl⟩ := (c.mem y).mp ih
      obtain ⟨f', hf', b', hb', e⟩ := (c.mem _).mp (done f hf s hs)
      have lf := c.flt g sb hS f hf
      have lf' := c.flt g sb hS f' hf'
      refine (c.mem _).mpr ⟨f', hf', t b' b, sb.mul b' hb' b hb, ?_⟩
      rw [← g.assoc (hS s hs) lf (sb.lt b hb), e, g.assoc lf' (sb.lt b' hb') (sb.lt b hb)]
end
/-- powers -/
def pw (t : Nat → Nat → Nat) (m : Nat) : Nat → Nat
  | 0 => 0
  | k + 1 => t (pw t m k) m
section
variable {N : Nat} {t : Nat → Nat → Nat} (g : Gp N t) {m : Nat} (hm : m < N)
include g hm
theorem pw_lt : ∀ k, pw t m k < N
  | 0 => g.pos
  | k + 1 => g.lt (pw_lt k) hm
theorem pw_add : ∀ i j, pw t m (i + j) = t (pw t m i) (pw t m j)
  | i, 0 => (g.oner (pw_lt g hm i)).symm
  | i, j + 1 => by
    show t (pw t m (i + j)) m = t (pw t m i) (t (pw t m j) m)
    rw [pw_add i j, g.assoc (pw_lt g hm i) (pw_lt g hm j) hm]
theorem pw_nodup {k : Nat} (no : ∀ i, 0 < i → i < k → pw t m i ≠ 0) : ((List.range k).map (pw t m)).Nodup := by
  refine List.pairwise_iff_getElem.mpr fun i j hi hj lt e => ?_
  rw [List.length_map, List.length_range] at hi hj
  rw [List.getElem_map, List.getElem_map, List.getElem_range, List.getElem_range] at e
  have e2 := pw_add g hm i (j - i)
  rw [show i + (j - i) = j by omega, ← e] at e2
  have e3 : t (pw t m i) 0 = t (pw t m i) (pw t m (j - i)) := by rw [← e2, g.oner (pw_lt g hm i)]
  have := cancel g (pw_lt g hm i) g.pos (pw_lt g hm _) e3
  exact no (j - i) (by omega) (by omega) this.symm
theorem pw_few {k : Nat} (no : ∀ i, 0 < i → i < k → pw t m i ≠ 0) : k ≤ N := by
  have := few_lt g (pw_nodup g hm no) fun x hx => by
    obtain ⟨i, _, rfl⟩ := List.mem_map.mp hx
    exact pw_lt g hm i
  rwa [List.length_map, List.length_range] at this
end
end GT
namespace GT
section
variable {N : Nat} {t : Nat → Nat → Nat} {B B' : List Nat} {y i : Nat}
theorem conj_nodup (g : Gp N t) (sb : Sg N t B) (hy : y < N) (hi : i < N) : (B.map fun x => t (t y x) i).Nodup := by
  refine List.pairwise_iff_getElem.mpr fun j k hj hk lt e => ?_
  rw [List.length_map] at hj hk
  rw [List.getElem_map, List.getElem_map] at e
  have lj := sb.lt _ (List.getElem_mem hj)
  have lk := sb.lt _ (List.getElem_mem hk)
  have e1 := cancel g hy lj lk (cancelr g hi (g.lt hy lj) (g.lt hy lk) e)
  have := (List.getElem_inj (asc_nodup sb.up)).mp e1
  omega
theorem sg_conj (g : Gp N t) (sb : Sg N t B) (hy : y < N) (hi : i < N) (e : t y i = 0) (up : B'.Pairwise (· < ·)) (pm : B'.Perm (B.map fun x => t (t y x) i)) : Sg N t B' := by
  have e' : t i y = 0 := by
    obtain ⟨j, hj, e1, e2⟩ := g.inv hy
    rw [cancel g hy hi hj (e.trans e1.symm)]
    exact e2
  refine ⟨up, fun x hx => ?_, ?_, fun x hx z hz => ?_⟩
  · obtain ⟨b, hb, rfl⟩ := List.mem_map.mp (pm.mem_iff.mp hx)
    exact g.lt (g.lt hy (sb.lt b hb)) hi
  · rw [pm.mem_iff]
    exact List.mem_map.mpr ⟨0, sb.one, by rw [g.oner hy, e]⟩
  · obtain ⟨b, hb, rfl⟩ := List.mem_map.mp (pm.mem_iff.mp hx)
    obtain ⟨c, hc, rfl⟩ := List.mem_map.mp (pm.mem_iff.mp hz)
    rw [pm.mem_iff]
    refine List.mem_map.mpr ⟨t b c, sb.mul b hb c hc, ?_⟩
    have lb := sb.lt b hb
    have lc := sb.lt c hc
    have lyb := g.lt hy lb
    have lyc := g.lt hy lc
    -- (y b i) (y c i) = y b (i y) c i
    rw [g.assoc lyb hi (g.lt lyc hi), ← g.assoc hi lyc hi, ← g.assoc hi hy lc, e', g.onel lc, ← g.assoc lyb lc hi, g.assoc hy lb lc]
end
theorem bk_at {M : List (List Nat)} (g : Gp M.length (tb M)) {y : Nat} (hy : y < M.length) : (bk M).getD y 0 < M.length ∧ tb M y ((bk M).getD y 0) = 0 := by
  have e : (bk M).getD y 0 = (rowOf M y).idxOf 0 := by
    unfold bk
    rw [List.getD, List.getElem?_map, List.getElem?_range hy]
    rfl
  obtain ⟨j, hj, e1, _⟩ := g.inv hy
  have mem : 0 ∈ rowOf M y := by
    unfold rowOf
    exact List.mem_map.mpr ⟨j, List.mem_range.mpr hj, e1⟩
  have lt := List.idxOf_lt_length_of_mem mem
  rw [rowOf_len] at lt
  refine ⟨by rw [e]; exact lt, ?_⟩
  rw [e, ← rowOf_at lt, gD (by rw [rowOf_len]; exact lt)]
  exact List.getElem_idxOf _
theorem bk_len (M : List (List Nat)) : (bk M).length = M.length := by rw [bk, List.length_map, List.length_range]
theorem row_zero {M : List (List Nat)} (g : Gp M.length (tb M)) {y : Nat} (hy : y < M.length) : 0 ∈ rowOf M y := by
  obtain ⟨j, hj, e1, _⟩ := g.inv hy
  exact List.mem_map.mpr ⟨j, List.mem_range.mpr hj, e1⟩
end GT

set_option Elab.async false
set_option linter.all false
set_option maxRecDepth 100000
set_option maxHeartbeats 4000000
namespace K08
open PySem PySem.Spec PyProof.Rows L2 MM GT
/-! own words for the readings: a step, its side -/
local macro_rules | `(tactic| walk_at "side") => `(tactic| first
  | omega
  | exact ⟨by omega, by omega⟩
  | exact Or.inl ⟨by omega, by omega⟩
  | exact Or.inr ⟨by omega, by omega⟩
  | (show CPw _ _; decide +kernel)
  | (show (0 : Int) < _; decide +kernel)
  | (show CDivW _ _; first | assumption | exact ⟨by decide, by decide +kernel⟩))
local macro_rules | `(tactic| walk_at "here") => `(tactic| first
  | assumption
  | exact upd_same
  | exact Or.inl (Or.inl upd_same)
  | exact Or.inl upd_same)
local macro_rules | `(tactic| walk_at "one") => `(tactic| first
  | refine ⟨_, rfl, ?_⟩
  | refine Or.inl ⟨_, rfl, ?_⟩
  | refine Or.inr ⟨_, rfl, ?_⟩
  | refine ⟨_, _, rfl, rfl, (by walk_at "side"), ?_⟩
  | refine ⟨_, _, rfl, rfl, ?_⟩
  | refine ⟨_, _, rfl, Or.inl (by walk_at "here"), ?_⟩
  | refine ⟨_, _, rfl, Or.inr (by walk_at "here"), ?_⟩
  | refine ⟨_, _, rfl, (by walk_at "here"), ?_⟩
  | refine ⟨_, _, _, _, rfl, rfl, (by walk_at "here"), rfl, ?_⟩
  | refine ⟨_, _, rfl, ?_⟩
  | refine ifT (by rfl) ?_
  | refine ifF (by rfl) ?_
  | refine ifT (decide_eq_true (by omega)) ?_
  | refine ifF (decide_eq_false (by omega)) ?_)
local macro_rules | `(tactic| walk_at "st") => `(tactic| repeat (walk_at "one"))

section
variable {P : Program} {w : World} {K : PySem.W.Frag} {mg : Str → Option Value} {base : Heap}
theorem mv_snoc (L : List Nat) (x : Nat) : mv (L ++ [x]) = mv L ++ [V.int (x : Int)] := by
  unfold mv
  rw [List.map_append]
  rfl
theorem tbl_at {H : Hp} {us : List V} {M : List (List Nat)} (h : TBL H us M) {a : Nat} (ha : a < M.length) : ∃ r, us[a]? = some (.ref r) ∧ PlT H r (mv (rowOf M a)) := by
  obtain ⟨u, hu, r, rfl, p⟩ := pr_get h (i := a) (o := rowOf M a) (by rw [List.getElem?_map, List.getElem?_range ha]; rfl)
  exact ⟨r, hu, p⟩
theorem row_at {M : List (List Nat)} {a b : Nat} (hb : b < M.length) : atI (mv (rowOf M a)) (b : Int) = some (.int (tb M a b : Int)) := by
  have := mv_at (m := rowOf M a) (k := b) (by rw [rowOf_len]; exact hb)
  rwa [rowOf_at hb] at this
theorem TBL.same {H H' : Hp} {us : List V} {M : List (List Nat)} (s : Same H H') (h : TBL H us M) : TBL H' us M := Paired.mapP h fun _ _ ⟨b, e, o, e2, od⟩ => ⟨b, e, o, s _ _ e2, od⟩
/-- which of N are among some -/
def bv (N : Nat) (L : List Nat) : List V := (List.range N).map fun x => V.bl (decide (x ∈ L))
theorem bv_len (N : Nat) (L : List Nat) : (bv N L).length = N := by rw [bv, List.length_map, List.length_range]
theorem bv_at {N : Nat} {L : List Nat} {x : Nat} (h : x < N) : (bv N L)[x]? = some (.bl (decide (x ∈ L))) := by
  unfold bv
  rw [List.getElem?_map, List.getElem?_range h]
  rfl
theorem bv_set {N : Nat} {L : List Nat} {x : Nat} (h : x < N) : (bv N L).set x (.bl true) = bv N (L ++ [x]) := by
  refine List.ext_getElem? fun i => ?_
  by_cases hi : i < N
  · rw [bv_at hi]
    by_cases e : x = i
    · subst e
      rw [List.getElem?_set_self (by rw [bv_len]; exact h), decide_eq_true (List.mem_append_right _ List.mem_cons_self)]
    · rw [List.getElem?_set_ne e, bv_at hi]
      congr 2
      refine decide_eq_decide.mpr ?_
      rw [List.mem_append, List.mem_singleton]
      exact ⟨.inl, fun h => h.resolve_right fun z => e z.symm⟩
  · rw [List.getElem?_eq_none (by rw [List.length_set, bv_len]; omega), List.getElem?_eq_none (by rw [bv_len]; omega)]
theorem sorted_nats {L : List Nat} {ns : List Int} (nd : L.Nodup) (pm : ns.Perm (L.map fun k : Nat => (k : Int))) (pw : ns.Pairwise (· ≤ ·)) : ∃ B : List Nat, ns.map V.int = mv B ∧ B.Perm L ∧ B.Pairwise (· < ·) := by
  have nn : ∀ x ∈ ns, 0 ≤ x := fun x hx => by
    obtain ⟨k, _, rfl⟩ := List.mem_map.mp (pm.mem_iff.mp hx)
    omega
  have e1 : ns = (ns.map Int.toNat).map fun k : Nat => (k : Int) := by
    rw [List.map_map]
    refine (List.map_id ns).symm.trans (List.map_congr_left fun x hx => ?_)
    have := nn x hx
    show x = ((x.toNat : Nat) : Int)
    omega
  have p1 : (ns.map Int.toNat).Perm L := by
    have := pm.map Int.toNat
    rw [List.map_map] at this
    have e : L.map (Int.toNat ∘ fun k : Nat => (k : Int)) = L := by
      refine (List.map_congr_left fun x _ => ?_).trans (List.map_id L)
      show ((x : Nat) : Int).toNat = x
      omega
    rwa [e] at this
  refine ⟨ns.map Int.toNat, ?_, p1, ?_⟩
  · rw [mv_ints, ← e1]
  · have n2 : (ns.map Int.toNat).Nodup := p1.nodup_iff.mpr nd
    refine List.pairwise_iff_getElem.mpr fun i j hi hj lt => ?_
    have h1 := List.pairwise_iff_getElem.mp pw i j (by rwa [List.length_map] at hi) (by rwa [List.length_map] at hj) lt
    have h2 := List.pairwise_iff_getElem.mp n2 i j hi hj lt
    rw [List.getElem_map, List.getElem_map] at h2 ⊢
    omega
def spBodyW (K : PySem.W.Frag) : Sp := fun vs H Q _ => ∃ (a : Addr) (us : List V) (M : List (List Nat)) (b : Addr) (B : List Nat) (ma : Addr) (S : List Nat) (e : Nat), vs = [.ref a, .ref b, .ref ma, .int (e : Int)] ∧ SqT K H a us ∧ TBL H us M ∧ M.length ≤ 200 ∧ Gp M.length (tb M) ∧
  SqT K H b (mv B) ∧ B.Pairwise (· < ·) ∧ (∀ x, x ∈ B ↔ Gen (tb M) S x) ∧ SqT K H ma (mv S) ∧ S.length ≤ 200 ∧ (∀ s ∈ S ++ [e], s < M.length) ∧
  ∀ H' r B', Same H H' → H' r = some (.tup (mv B')) → B'.Pairwise (· < ·) → (∀ x, x ∈ B' ↔ Gen (tb M) (S ++ [e]) x) → Q (.ref r) H'
theorem scBodyWith : FnScope ["table", "body", "makers", "extra", "inside", "_", "move", "found", "firsts", "at", "first", "maker", "moved"] ["table", "body", "makers", "extra"] (defScope sBodyWith) :=
  ⟨rfl, rfl, rfl, by decide +kernel, rfl, by decide +kernel, by decide +kernel⟩
theorem dBodyWith (T : Tx K mg) : Def P w K mg base CX0 1 "body_with" ["table", "body", "makers", "extra"] (spBodyW K) := by
  refine T.t_body_with.def_ (N := ["table", "body", "makers", "extra", "inside", "_", "move", "found", "firsts", "at", "first", "maker", "moved"]) scBodyWith (fun _ _ _ _ _ _ us hl => match us, hl with | [_, _, _, _], _ => rfl) ?_ ?_
  · intro vs H Q E h
    obtain ⟨a, us, M, b, B, ma, S, e, rfl, _⟩ := h
    rfl
  · intro f cd A out s H vs Q E hr h
    obtain ⟨a, us, M, b, B, ma, S, e, rfl, St, tl, few, g, Sb, up, mB, Sm, lS, hS, q⟩ := h
    refine ⟨_, (pss_cons (ps_setLc (i := 4) (own := [("_", 5)]) (g := gName 5) (tt := tYes) rfl scBodyWith.nd rfl rfl (sw_true rfl rfl rfl rfl) (pi_tup (pv 0)) (blkOk_by (N := ["table", "body", "makers", "extra", "inside", "_", "move", "found", "firsts", "at", "first", "maker", "moved"]) (sc := defScope sBodyWith) (by decide +kernel)) (fun _ _ _ _ _ => pg_name (i := 5) scBodyWith.nd rfl (Or.inl rfl)) (fun _ _ _ _ _ => pts_nil) (fun _ _ _ _ _ => pe_bl))
      (pss_cons (ps_for PassesOwn.never rfl (pi_tup (pv 1)) (pg_name (i := 6) scBodyWith.nd rfl (Or.inl rfl))
        (pss_one (ps_asg pe_bl (pg_sub (pv 4) (pv 6) set_list))))
      (pss_cons (ps_set (i := 7) scBodyWith.nd rfl (Or.inl rfl) (pe_callTy call_list_of rfl T.f_list (by decide +kernel) (pa_cons (pv 1) pa_nil)))
      (pss_cons (ps_set (i := 8) scBodyWith.nd rfl (Or.inl rfl) (pe_lst (pa_cons pe_int pa_nil)))
      (pss_cons (ps_set (i := 9) scBodyWith.nd rfl (Or.inl rfl) pe_int)
      (pss_cons (ps_while PassesOwn.never (pt_cmpR op_lt (pv 9) (pe_callB call_len_seq rfl T.f_len (by decide +kernel) (pa_cons (pv 8) pa_nil)) (nomark _))
        (pss_cons (ps_set (i := 10) scBodyWith.nd rfl (Or.inl rfl) (pe_ix ix_list (pv 8) (pv 9) (fun _ _ => rfl)))
        (pss_cons (ps_aug (i := 9) scBodyWith.nd rfl (Or.inl rfl) pe_int ip_add)
        (pss_one (ps_for PassesOwn.never rfl (pi_tup (pe_op op_catA (pv 2) (pe_tup (pa_cons (pv 3) pa_nil)))) (pg_name (i := 11) scBodyWith.nd rfl (Or.inl rfl))
          (pss_cons (ps_set (i := 12) scBodyWith.nd rfl (Or.inl rfl) (pe_ix ix_tup (pe_ix ix_tup (pv 0) (pv 11) (fun _ _ => rfl)) (pv 10) (fun _ _ => rfl)))
          (pss_one (ps_if (pt_not (pt_val (pe_ix ix_list (pv 4) (pv 12) (fun _ _ => rfl)))) (pss_cons (ps_expr (pe_bm PySem.F.plainAttrs_list PySem.F.slot_list_append PySem.F.type_list_append mt_append (pv 8) (pa_cons (pv 12) pa_nil)))
            (pss_one (ps_for PassesOwn.never rfl (pi_tup (pv 1)) (pg_name (i := 6) scBodyWith.nd rfl (Or.inl rfl))
              (pss_cons (ps_asg pe_bl (pg_sub (pv 4) (pe_ix ix_tup (pe_ix ix_tup (pv 0) (pv 12) (fun _ _ => rfl)) (pv 6) (fun _ _ => rfl)) set_list))
              (pss_one (ps_expr (pe_bm PySem.F.plainAttrs_list PySem.F.slot_list_append PySem.F.type_list_append mt_append (pv 7) (pa_cons (pe_ix ix_tup (pe_ix ix_tup (pv 0) (pv 12) (fun _ _ => rfl)) (pv 6) (fun _ _ => rfl)) pa_nil)))))))) pss_nil))))))))
      (pss_one (ps_ret (pe_callTy call_tuple_of rfl T.f_tuple (by decide +kernel) (pa_cons (pe_callB cr_sortedI rfl T.f_sorted (by decide +kernel) (pa_cons (pv 7) pa_nil)) pa_nil)))))))))), ?_⟩
    have lus := pr_len tl
    rw [List.length_map, List.length_range] at lus
    have sb := sg_of g (fun s hs => hS s (List.mem_append_left _ hs)) up mB
    have bg : ∀ x ∈ B, Gen (tb M) (S ++ [e]) x := fun x hx => ((mB x).mp hx).mono fun s hs => List.mem_append_left _ hs
    refine ⟨_, rfl, a, rfl, ⟨us, St⟩, fun I nI => ?_⟩
    refine lc_tup (K := K) (a := a) (xs := us) (Pv := fun i H' => Same H H' ∧ H' I = some (.lst (List.replicate i (.bl false)))) ⟨same_new nI, upd_same⟩ (fun i H' _ e => same_sqt e.1 St) ?_ ?_
    · rintro i v H1 hv ⟨s1, hI⟩
      have := (List.getElem?_eq_some_iff.mp hv).1
      refine ⟨wipe_one, yes_ ⟨_, hI, by rw [List.length_replicate, sizeLine_eq]; omega, fun y o e => (upd_ne (ne_of_none e nI)).trans (s1 _ _ e), ?_⟩⟩
      rw [upd_same, List.replicate_succ']
    rintro H1 ⟨s1, hI⟩
    have e0 : List.replicate us.length (V.bl false) = bv M.length [] := by
      unfold bv
      rw [lus, List.map_congr_left (g := fun _ => V.bl false) fun x _ => by rfl, List.map_const', List.length_range]
    rw [e0] at hI
    refine ⟨_, rfl, b, rfl, ⟨_, same_sqt s1 Sb⟩, for_tup (K := K) (a := b) (xs := mv B) (fun i σ H' => Same H H' ∧ H' I = some (.lst (bv M.length (B.take i))) ∧ ∃ y6, σ = [some (.ref a), some (.ref b), some (.ref ma), some (.int (e : Int)), some (.ref I), none, y6, none, none, none, none, none, none]) ⟨s1, hI, none, rfl⟩ (fun i σ H' _ e => same_sqt e.1 Sb) ?_ ?_⟩
    · rintro i v σ H2 hv ⟨s2, hI2, y6, rfl⟩
      obtain ⟨li, rfl⟩ := mv_nth hv
      have lx := sb.lt _ (GT.getD_mem li)
      refine ⟨_, rfl, _, rfl, I, _, _, B.getD i 0, rfl, rfl, hI2, ixN_lt (by rw [bv_len]; exact lx), fun y o e => (upd_ne (ne_of_none e nI)).trans (s2 _ _ e), ?_, _, rfl⟩
      rw [upd_same, bv_set lx, List.take_add_one, List.getElem?_eq_getElem li, GT.gD li]
      rfl
    rintro σ H2 ⟨s2, hI2, y6, rfl⟩
    rw [mv_len, List.take_of_length_le (Nat.le_refl _)] at hI2
    refine ⟨_, rfl, b, _, rfl, .inr (same_sqt s2 Sb), fun Fd nFd => ?_⟩
    have dIF : I ≠ Fd := ne_of_none hI2 nFd
    have kF := same_new (o := .lst (mv B)) nFd
    have hF : (upd H2 Fd (.lst (mv B))) Fd = some (.lst (mv B)) := upd_same
    have nFd0 : H Fd = none := by
      cases z : H Fd with
      | none => rfl
      | some o => rw [s2 _ _ z] at nFd; cases nFd
    generalize upd H2 Fd _ = H3 at kF hF ⊢
    refine ⟨by show 1 ≤ sizeLine; decide, fun Fr nFr => ?_⟩
    have dIR : I ≠ Fr := ne_of_none (kF _ _ hI2) nFr
    have dFR : Fd ≠ Fr := ne_of_none hF nFr
    have kR := kF.trans (same_new (o := .lst [.int 0]) nFr)
    have hF4 := same_new (o := .lst [.int 0]) nFr _ _ hF
    have hR : (upd H3 Fr (.lst [.int 0])) Fr = some (.lst (mv [0])) := upd_same
    have nFr0 : H Fr = none := by
      cases z : H Fr with
      | none => rfl
      | some o => rw [kF _ _ (s2 _ _ z)] at nFr; cases nFr
    generalize upd H3 Fr _ = H4 at kR hF4 hR ⊢
    obtain ⟨S', eS⟩ : ∃ S', S' = S ++ [e] := ⟨_, rfl⟩
    rw [← eS] at hS bg q
    have lS' : S'.length = S.length + 1 := by rw [eS, List.length_append]; rfl
    refine while_by (fun σ H' => Same H H' ∧ ∃ (fnd fst : List Nat) (p : Nat) (y6 y10 y11 y12 : Option V), σ = [some (.ref a), some (.ref b), some (.ref ma), some (.int (e : Int)), some (.ref I), none, y6, some (.ref Fd), some (.ref Fr), some (.int (p : Int)), y10, y11, y12] ∧
        H' I = some (.lst (bv M.length fnd)) ∧ H' Fd = some (.lst (mv fnd)) ∧ H' Fr = some (.lst (mv fst)) ∧ Cos M.length (tb M) B S' fnd fst ∧ p ≤ fst.length ∧ ∀ i, i < p → ∀ s ∈ S', tb M s (fst.getD i 0) ∈ fnd)
      (fun σ _ => match σ with | [_, _, _, _, _, _, _, _, _, some (.int p), _, _, _] => 300 - p.toNat | _ => 0)
      ⟨s2.trans kR, B, [0], 0, _, _, _, _, rfl, kR _ _ hI2, hF4, hR, Cos.start g sb, Nat.zero_le _, fun i h => absurd h (Nat.not_lt_zero i)⟩ ?_ ?_
    · rintro σ H5 ⟨s5, fnd, fst, p, y6, y10, y11, y12, rfl, hI5, hF5, hR5, cos, pf, done⟩
      have few5 := cos.few g sb hS
      refine ⟨_, rfl, _, rfl, Fr, _, rfl, .inl (lst_sql' hR5), _, _, rfl, rfl, _, rfl, ?_⟩
      rw [mv_len]
      by_cases c : p < fst.length
      · refine ifT (decide_eq_true (by omega)) ?_
        have fN := cos.flt g sb hS _ (GT.getD_mem c)
        refine ⟨_, rfl, _, rfl, Fr, _, _, _, rfl, rfl, lst_sql' hR5, mv_at c, ?_⟩
        refine ⟨_, rfl, _, _, rfl, rfl, ?_⟩
        refine ⟨_, rfl, _, rfl, by show 1 ≤ sizeLine; decide, fun c1 nc1 => ?_⟩
        have k1 := same_new (o := .tup [.int (e : Int)]) nc1
        refine cat_tup (same_sqt (s5.trans k1) Sm) upd_same (by rw [mv_len, sizeLine_eq]; show _ + 1 ≤ _; omega) (fun e => by cases e) fun H6 m6 s6 hm6 => ?_
        have hm6' : H6 m6 = some (.tup (mv S')) := by
          rw [hm6, eS]
          unfold mv
          rw [List.map_append]
          rfl
        replace s6 := k1.trans s6
        generalize ef : fst.getD p 0 = f at fN ⊢
        refine ⟨m6, rfl, ⟨_, .inl (.inl hm6')⟩, for_tup (K := K) (a := m6) (xs := mv S') (fun i σ H' => Same H H' ∧ H' m6 = some (.tup (mv S')) ∧ ∃ (fnd fst : List Nat) (y6 y11 y12 : Option V),
            σ = [some (.ref a), some (.ref b), some (.ref ma), some (.int (e : Int)), some (.ref I), none, y6, some (.ref Fd), some (.ref Fr), some (.int ((p : Int) + 1)), some (.int (f : Int)), y11, y12] ∧
            H' I = some (.lst (bv M.length fnd)) ∧ H' Fd = some (.lst (mv fnd)) ∧ H' Fr = some (.lst (mv fst)) ∧ Cos M.length (tb M) B S' fnd fst ∧ (p < fst.length ∧ fst.getD p 0 = f) ∧ (∀ i, i < p → ∀ s ∈ S', tb M s (fst.getD i 0) ∈ fnd) ∧ ∀ j, j < i → tb M (S'.getD j 0) f ∈ fnd)
          ⟨s5.trans s6, hm6', fnd, fst, _, _, _, rfl, s6 _ _ hI5, s6 _ _ hF5, s6 _ _ hR5, cos, ⟨c, ef⟩, done, fun j h => absurd h (Nat.not_lt_zero j)⟩ (fun i σ H' _ e => .inl (.inl e.2.1)) ?_ ?_⟩
        · rintro i v σ H7 hv ⟨s7, hm7, fnd, fst, z6, z11, z12, rfl, hI7, hF7, hR7, cos, ⟨pl, ep⟩, done7, part⟩
          obtain ⟨li, rfl⟩ := mv_nth hv
          have sN := hS _ (GT.getD_mem li)
          generalize es : S'.getD i 0 = s at sN ⊢
          have sIn : s ∈ S' := by rw [← es]; exact GT.getD_mem li
          obtain ⟨r, hr, ro, er, od⟩ := tbl_at tl sN
          have mN := g.lt sN fN
          refine ⟨_, rfl, _, rfl, a, us, _, .ref r, rfl, rfl, same_sqt s7 St, atI_nat hr, _, rfl, r, _, _, _, rfl, rfl, .inl (.inr ⟨ro, s7 _ _ er⟩), row_at fN, ?_⟩
          generalize em : tb M s f = m at mN ⊢
          have fF : f ∈ fst := by rw [← ep]; exact GT.getD_mem pl
          have gm : Gen (tb M) S' m := by rw [← em]; exact .mul sIn (cos.gen f fF)
          have cmany := cos.many g sb hS
          have cfew := cos.few g sb hS
          have bfew := few_lt g (asc_nodup up) sb.lt
          have ext : ∀ {F' : List Nat}, m ∈ F' → (∀ x ∈ fnd, x ∈ F') → ∀ j, j < i + 1 → tb M (S'.getD j 0) f ∈ F' := fun {F'} h sub j hj => by
            by_cases e : j = i
            · rw [e, es, em]
              exact h
            · exact sub _ (part j (by omega))
          refine ⟨_, rfl, _, rfl, I, _, _, _, rfl, rfl, lst_sql' hI7, atI_nat (bv_at mN), _, rfl, ?_⟩
          by_cases inn : m ∈ fnd
          · refine ifF (by rw [decide_eq_true inn]; rfl) ?_
            exact ⟨s7, hm7, fnd, fst, _, _, _, rfl, hI7, hF7, hR7, cos, ⟨pl, ep⟩, done7, ext inn fun x h => h⟩
          refine ifT (by rw [decide_eq_false inn]; rfl) ?_
          refine ⟨_, rfl, .inl ⟨rfl, _, lst_sql' hR7⟩, _, rfl, Fr, _, _, rfl, rfl, hR7, by rw [mv_len, sizeLine_eq]; omega, ?_⟩
          have s8 : Same H (upd H7 Fr (.lst (mv fst ++ [.int (m : Int)]))) := fun y o e => (upd_ne (ne_of_none e nFr0)).trans (s7 _ _ e)
          have hm8 := (upd_ne (o := .lst (mv fst ++ [.int (m : Int)])) (ne_of hm7 hR7 fun e => by cases e)).trans hm7
          have hI8 := (upd_ne (o := .lst (mv fst ++ [.int (m : Int)])) dIR).trans hI7
          have hF8 := (upd_ne (o := .lst (mv fst ++ [.int (m : Int)])) dFR).trans hF7
          have hR8 : (upd H7 Fr (.lst (mv fst ++ [.int (m : Int)]))) Fr = some (.lst (mv (fst ++ [m]))) := by
            rw [upd_same]
            unfold mv
            rw [List.map_append]
            rfl
          generalize upd H7 Fr _ = H8 at s8 hm8 hI8 hF8 hR8 ⊢
          obtain ⟨r2, hr2, ro2, er2, od2⟩ := tbl_at tl mN
          refine ⟨_, rfl, b, rfl, ⟨_, same_sqt s8 Sb⟩, for_tup (K := K) (a := b) (xs := mv B) (fun i σ H' => Same H H' ∧ H' m6 = some (.tup (mv S')) ∧ ∃ (y6 : Option V),
              σ = [some (.ref a), some (.ref b), some (.ref ma), some (.int (e : Int)), some (.ref I), none, y6, some (.ref Fd), some (.ref Fr), some (.int ((p : Int) + 1)), some (.int (f : Int)), some (.int (s : Int)), some (.int (m : Int))] ∧
              H' I = some (.lst (bv M.length (fnd ++ (B.take i).map (tb M m)))) ∧ H' Fd = some (.lst (mv (fnd ++ (B.take i).map (tb M m)))) ∧ H' Fr = some (.lst (mv (fst ++ [m]))))
            ⟨s8, hm8, _, rfl, by rw [List.take_zero, List.map_nil, List.append_nil]; exact hI8, by rw [List.take_zero, List.map_nil, List.append_nil]; exact hF8, hR8⟩ (fun i σ H' _ e => same_sqt e.1 Sb) ?_ ?_⟩
          · rintro k v σ H9 hv ⟨s9, hm9, w6, rfl, hI9, hF9, hR9⟩
            obtain ⟨lk, rfl⟩ := mv_nth hv
            have xN := sb.lt _ (GT.getD_mem lk)
            have exk : B[k]? = some (B.getD k 0) := by rw [GT.gD lk]; exact List.getElem?_eq_getElem lk
            generalize B.getD k 0 = x at xN exk ⊢
            have yN := g.lt mN xN
            have tk := List.length_take_le k B
            have ap : fnd ++ (B.take (k + 1)).map (tb M m) = (fnd ++ (B.take k).map (tb M m)) ++ [tb M m x] := by
              rw [List.take_add_one, exk, List.map_append, ← List.append_assoc]
              rfl
            refine ⟨_, rfl, _, rfl, _, rfl, a, us, _, .ref r2, rfl, rfl, same_sqt s9 St, atI_nat hr2, _, rfl, r2, _, _, _, rfl, rfl, .inl (.inr ⟨ro2, s9 _ _ er2⟩), row_at xN, I, _, _, tb M m x, rfl, rfl, hI9, ixN_lt (by rw [bv_len]; exact yN), ?_⟩
            rw [bv_set yN, ← ap]
            have s10 : Same H (upd H9 I (.lst (bv M.length (fnd ++ (B.take (k + 1)).map (tb M m))))) := fun y o e => (upd_ne (ne_of_none e nI)).trans (s9 _ _ e)
            have hm10 := (upd_ne (o := .lst (bv M.length (fnd ++ (B.take (k + 1)).map (tb M m)))) (ne_of hm9 hI9 fun e => by cases e)).trans hm9
            have hI10 : (upd H9 I (.lst (bv M.length (fnd ++ (B.take (k + 1)).map (tb M m))))) I = some (.lst (bv M.length (fnd ++ (B.take (k + 1)).map (tb M m)))) := upd_same
            have hF10 := (upd_ne (o := .lst (bv M.length (fnd ++ (B.take (k + 1)).map (tb M m)))) dIF.symm).trans hF9
            have hR10 := (upd_ne (o := .lst (bv M.length (fnd ++ (B.take (k + 1)).map (tb M m)))) dIR.symm).trans hR9
            generalize upd H9 I _ = H10 at s10 hm10 hI10 hF10 hR10 ⊢
            refine ⟨_, rfl, .inl ⟨rfl, _, lst_sql' hF10⟩, _, rfl, _, rfl, a, us, _, .ref r2, rfl, rfl, same_sqt s10 St, atI_nat hr2, _, rfl, r2, _, _, _, rfl, rfl, .inl (.inr ⟨ro2, s10 _ _ er2⟩), row_at xN, Fd, _, _, rfl, rfl, hF10, by rw [mv_len, List.length_append, List.length_map, sizeLine_eq]; omega, ?_⟩
            refine ⟨fun y o e => (upd_ne (ne_of_none e nFd0)).trans (s10 _ _ e), (upd_ne (ne_of hm10 hF10 fun e => by cases e)).trans hm10, _, rfl, (upd_ne dIF).trans hI10, ?_, (upd_ne dFR.symm).trans hR10⟩
            rw [upd_same, ap, mv_snoc]
          · rintro σ H9 ⟨s9, hm9, w6, rfl, hI9, hF9, hR9⟩
            rw [mv_len, List.take_of_length_le (Nat.le_refl _)] at hI9 hF9
            refine ⟨s9, hm9, _, _, _, _, _, rfl, hI9, hF9, hR9, cos.push g sb hS gm inn, ⟨by rw [List.length_append]; omega, ?_⟩, fun j hj x hx => ?_, ext (List.mem_append_right _ (List.mem_map.mpr ⟨0, sb.one, g.oner mN⟩)) fun x h => List.mem_append_left _ h⟩
            · rw [List.getD, List.getElem?_append_left pl, ← List.getD]
              exact ep
            · rw [List.getD, List.getElem?_append_left (by omega), ← List.getD]
              exact List.mem_append_left _ (done7 j hj x hx)
        · rintro σ H7 ⟨s7, hm7, fnd, fst, z6, z11, z12, rfl, hI7, hF7, hR7, cos, ⟨pl, ep⟩, done7, part⟩
          refine ⟨⟨s7, fnd, fst, p + 1, _, _, _, _, by rw [Int.natCast_add]; rfl, hI7, hF7, hR7, cos, pl, fun i hi s hs => ?_⟩, ?_⟩
          · by_cases e : i = p
            · rw [e, ep]
              obtain ⟨j, hj, ej⟩ := List.mem_iff_getElem.mp hs
              have := part j (by rw [mv_len]; exact hj)
              rwa [GT.gD hj, ej] at this
            · exact done7 i (by omega) s hs
          · show 300 - ((p : Int) + 1).toNat < 300 - ((p : Nat) : Int).toNat
            omega
      · refine ifF (decide_eq_false (by omega)) ?_
        obtain rfl : p = fst.length := by omega
        have all := cos.all g sb hS (fun f hf s hs => by
          obtain ⟨i, hi, ei⟩ := List.mem_iff_getElem.mp hf
          have := done i hi s hs
          rwa [GT.gD hi, ei] at this) bg
        have many := cos.many g sb hS
        have fN := cos.fnd
        rw [mv_ints] at hF5
        refine ⟨_, rfl, Fd, _, rfl, lst_sql' hF5, fun ns' l pm pw nl => ?_⟩
        have k6 := same_new (o := .lst (ns'.map V.int)) nl
        refine ⟨l, _, rfl, .inl ⟨.inl (.inl upd_same), fun t nt => ?_⟩⟩
        obtain ⟨B', eB, pB, aB⟩ := sorted_nats fN pm pw
        refine q _ t B' ((s5.trans k6).trans (same_new nt)) (by rw [upd_same, eB]) aB fun x => ?_
        rw [pB.mem_iff]
        exact all x
    · rintro σ H' Q1 Q2 m ⟨v, hv, v2, hv2, z, ys, e1, e2, i, j, e3, e4, b, e5, q⟩
      exact ⟨v, hv, v2, hv2, z, ys, e1, e2, i, j, e3, e4, b, e5, m _ _ q⟩
def spPowers (K : PySem.W.Frag) : Sp := fun vs H Q _ => ∃ (a : Addr) (us : List V) (M : List (List Nat)) (m : Nat), vs = [.ref a, .int (m : Int)] ∧ SqT K H a us ∧ TBL H us M ∧ M.length ≤ 200 ∧ Gp M.length (tb M) ∧ m < M.length ∧
  ∀ H' r k, Same H H' → H' r = some (.lst (mv ((List.range k).map (pw (tb M) m)))) → H r = none → 1 ≤ k → pw (tb M) m k = 0 → (∀ i, 0 < i → i < k → pw (tb M) m i ≠ 0) → Q (.ref r) H'
theorem scPowersOf : FnScope ["table", "move", "powers"] ["table", "move"] (defScope sPowersOf) :=
  ⟨rfl, rfl, rfl, by decide +kernel, rfl, by decide +kernel, by decide +kernel⟩
theorem dPowersOf (T : Tx K mg) : Def P w K mg base CX0 1 "powers_of" ["table", "move"] (spPowers K) := by
  refine T.t_powers_of.def_ (N := ["table", "move", "powers"]) scPowersOf (fun _ _ _ _ _ _ us hl => match us, hl with | [_, _], _ => rfl) ?_ ?_
  · intro vs H Q E h
    obtain ⟨a, us, M, m, rfl, _⟩ := h
    rfl
  · intro f cd A out s H vs Q E hr h
    obtain ⟨a, us, M, m, rfl, S, tl, few, g, hm, q⟩ := h
    refine ⟨_, (pss_cons (ps_set (i := 2) scPowersOf.nd rfl (Or.inl rfl) (pe_lst (pa_cons pe_int pa_nil)))
      (pss_cons (ps_while PassesOwn.never (pt_cmpR op_ne (pe_ix ix_tup (pe_ix ix_tup (pv 0) (pe_ix ix_list (pv 2) (pe_un un_neg pe_int) (fun _ _ => rfl)) (fun _ _ => rfl)) (pv 1) (fun _ _ => rfl)) pe_int (nomark _))
        (pss_one (ps_expr (pe_bm PySem.F.plainAttrs_list PySem.F.slot_list_append PySem.F.type_list_append mt_append (pv 2) (pa_cons (pe_ix ix_tup (pe_ix ix_tup (pv 0) (pe_ix ix_list (pv 2) (pe_un un_neg pe_int) (fun _ _ => rfl)) (fun _ _ => rfl)) (pv 1) (fun _ _ => rfl)) pa_nil)))))
      (pss_one (ps_ret (pv 2))))), ?_⟩
    refine ⟨by show 1 ≤ sizeLine; decide, fun D nD => ?_⟩
    have s0 := same_new (o := .lst [.int 0]) nD
    have hD : (upd H D (.lst [.int 0])) D = some (.lst (mv ((List.range (0 + 1)).map (pw (tb M) m)))) := upd_same
    generalize upd H D _ = H1 at s0 hD ⊢
    refine while_by (fun σ H' => Same H H' ∧ ∃ k : Nat, σ = [some (.ref a), some (.int (m : Int)), some (.ref D)] ∧ H' D = some (.lst (mv ((List.range (k + 1)).map (pw (tb M) m)))) ∧ ∀ i, 0 < i → i < k + 1 → pw (tb M) m i ≠ 0)
      (fun _ H' => match H' D with | some (.lst xs) => 300 - xs.length | _ => 0) ⟨s0, 0, rfl, hD, fun i h1 h2 => by omega⟩ ?_ ?_
    · rintro σ H' ⟨s', k, rfl, hD', no⟩
      have kN := pw_few g hm no
      have lt := pw_lt g hm k
      obtain ⟨r, hr, pr⟩ := tbl_at tl lt
      obtain ⟨ro, er, od⟩ := pr
      have pr' : SqT K H' r (mv (rowOf M (pw (tb M) m k))) := .inl (.inr ⟨ro, s' _ _ er⟩)
      have last : atI (mv ((List.range (k + 1)).map (pw (tb M) m))) (-1) = some (.int (pw (tb M) m k : Int)) := by
        refine atI_end (n := k) ?_ (by rw [mv_len, List.length_map, List.length_range])
        unfold mv
        rw [List.getElem?_map, List.getElem?_map, List.getElem?_range (by omega)]
        rfl
      refine ⟨_, rfl, _, rfl, 1, rfl, D, _, _, _, rfl, rfl, lst_sql' hD', last, a, us, _, .ref r, rfl, rfl, same_sqt s' S, atI_nat hr, _, rfl, r, _, _, _, rfl, rfl, pr', row_at hm, rfl, _, rfl, ?_⟩
      by_cases c : tb M (pw (tb M) m k) m = 0
      · refine ifF (by show (!decide (V.int (tb M (pw (tb M) m k) m : Int) = V.int 0)) = false; rw [c, decide_eq_true (show V.int ((0 : Nat) : Int) = V.int 0 from rfl)]; rfl) ?_
        exact ⟨_, rfl, q H' D (k + 1) s' hD' nD (by omega) c no⟩
      · refine ifT (by show (!decide (V.int (tb M (pw (tb M) m k) m : Int) = V.int 0)) = true; rw [decide_eq_false fun e => c (by have := V.int.inj e; omega)]; rfl) ?_
        refine ⟨_, rfl, .inl ⟨rfl, _, lst_sql' hD'⟩, _, rfl, _, rfl, 1, rfl, D, _, _, _, rfl, rfl, lst_sql' hD', last, a, us, _, .ref r, rfl, rfl, same_sqt s' S, atI_nat hr, _, rfl, r, _, _, _, rfl, rfl, pr', row_at hm, D, _, _, rfl, rfl, hD', by rw [mv_len, List.length_map, List.length_range, sizeLine_eq]; omega, ?_⟩
        refine ⟨⟨fun b o e => (upd_ne (ne_of_none e nD)).trans (s' _ _ e), k + 1, rfl, ?_, fun i h1 h2 => ?_⟩, ?_⟩
        · rw [upd_same, List.range_succ (n := k + 1), List.map_append]
          unfold mv
          rw [List.map_append]
          rfl
        · by_cases e : i = k + 1
          · rw [e]
            exact c
          · exact no i h1 (by omega)
        · rw [upd_same, hD']
          show 300 - (mv _ ++ [_]).length < 300 - (mv _).length
          rw [List.length_append, mv_len, List.length_map, List.length_range]
          show 300 - (k + 1 + 1) < 300 - (k + 1)
          omega
    · rintro σ H' Q1 Q2 mm ⟨v1, e1, v2, e2, i1, e3, x1, x2, x3, x4, e4, e5, e6, e7, y1, y2, y3, y4, e8, e9, e10, e11, v3, e12, z1, z2, z3, z4, e13, e14, e15, e16, e17, b, e18, q⟩
      exact ⟨v1, e1, v2, e2, i1, e3, x1, x2, x3, x4, e4, e5, e6, e7, y1, y2, y3, y4, e8, e9, e10, e11, v3, e12, z1, z2, z3, z4, e13, e14, e15, e16, e17, b, e18, mm _ _ q⟩
end
end K08


set_option Elab.async false
set_option linter.all false
set_option maxRecDepth 100000
set_option maxHeartbeats 4000000
namespace K08
open PySem PySem.Spec PyProof.Rows L2 MM GT
/-! own words for the readings: a step, its side -/
local macro_rules | `(tactic| walk_at "side") => `(tactic| first
  | omega
  | exact ⟨by omega, by omega⟩
  | exact Or.inl ⟨by omega, by omega⟩
  | exact Or.inr ⟨by omega, by omega⟩
  | (show CPw _ _; decide +kernel)
  | (show (0 : Int) < _; decide +kernel)
  | (show CDivW _ _; first | assumption | exact ⟨by decide, by decide +kernel⟩))
local macro_rules | `(tactic| walk_at "here") => `(tactic| first
  | assumption
  | exact upd_same
  | exact Or.inl (Or.inl upd_same)
  | exact Or.inl upd_same)
local macro_rules | `(tactic| walk_at "one") => `(tactic| first
  | refine ⟨_, rfl, ?_⟩
  | refine Or.inl ⟨_, rfl, ?_⟩
  | refine Or.inr ⟨_, rfl, ?_⟩
  | refine ⟨_, _, rfl, rfl, (by walk_at "side"), ?_⟩
  | refine ⟨_, _, rfl, rfl, ?_⟩
  | refine ⟨_, _, rfl, Or.inl (by walk_at "here"), ?_⟩
  | refine ⟨_, _, rfl, Or.inr (by walk_at "here"), ?_⟩
  | refine ⟨_, _, rfl, (by walk_at "here"), ?_⟩
  | refine ⟨_, _, _, _, rfl, rfl, (by walk_at "here"), rfl, ?_⟩
  | refine ⟨_, _, rfl, ?_⟩
  | refine ifT (by rfl) ?_
  | refine ifF (by rfl) ?_
  | refine ifT (decide_eq_true (by omega)) ?_
  | refine ifF (decide_eq_false (by omega)) ?_)
local macro_rules | `(tactic| walk_at "st") => `(tactic| repeat (walk_at "one"))

section
variable {P : Program} {w : World} {K : PySem.W.Frag} {mg : Str → Option Value} {base : Heap}
theorem seq_rest' {a b : TS} {D : Ends} {σ : L2.St} {H : Hp} (J : L2.St → Hp → Prop) (hJ : ∀ σ' H', J σ' H' → b D σ' H')
    (h : ∀ N : L2.St → Hp → Prop, (∀ σ' H', J σ' H' → N σ' H') → a { D with nx := N } σ H) : tSeq a b D σ H := h _ hJ
def spTurned (K : PySem.W.Frag) : Sp := fun vs H Q _ => ∃ (a : Addr) (us : List V) (M : List (List Nat)) (ba b : Addr) (B : List Nat) (y : Nat), vs = [.ref a, .ref ba, .ref b, .int (y : Int)] ∧ SqT K H a us ∧ TBL H us M ∧ M.length ≤ 200 ∧ Gp M.length (tb M) ∧
  SqT K H ba (mv (bk M)) ∧ SqT K H b (mv B) ∧ Sg M.length (tb M) B ∧ y < M.length ∧ ∀ H' r B', Same H H' → H' r = some (.tup (mv B')) → Sg M.length (tb M) B' → Q (.ref r) H'
theorem scTurnedBody : FnScope ["table", "back", "body", "by", "move"] ["table", "back", "body", "by"] (defScope sTurnedBody) :=
  ⟨rfl, rfl, rfl, by decide +kernel, rfl, by decide +kernel, by decide +kernel⟩
theorem dTurnedBody (T : Tx K mg) : Def P w K mg base CX0 1 "turned_body" ["table", "back", "body", "by"] (spTurned K) := by
  refine T.t_turned_body.def_ (N := ["table", "back", "body", "by", "move"]) scTurnedBody (fun _ _ _ _ _ _ us hl => match us, hl with | [_, _, _, _], _ => rfl) ?_ ?_
  · intro vs H Q E h
    obtain ⟨a, us, M, ba, b, B, y, rfl, _⟩ := h
    rfl
  · intro f cd A out s H vs Q E hr h
    obtain ⟨a, us, M, ba, b, B, y, rfl, St, tl, few, g, Sk, Sb, sb, hy, q⟩ := h
    refine ⟨_, (pss_one (ps_ret (pe_callTy call_tuple_of rfl T.f_tuple (by decide +kernel) (pa_cons (pe_callB cr_sortedI rfl T.f_sorted (by decide +kernel) (pa_cons (pe_lc (own := [("move", 4)]) (g := gName 4) (tt := tYes) rfl scTurnedBody.nd (pi_tup (pv 2)) (blkOk_by (N := ["table", "back", "body", "by", "move"]) (sc := defScope sTurnedBody) (by decide +kernel)) (fun _ _ _ _ _ => pg_name (i := 4) scTurnedBody.nd rfl (Or.inl rfl)) (fun _ _ _ _ _ => pts_nil) (fun _ _ _ _ _ => (pe_ix (show IxR _ (rIxT K) from ix_tup) (pe_ix (show IxR _ (rIxT K) from ix_tup) (pv 0) (pe_ix (show IxR _ (rIxT K) from ix_tup) (pe_ix (show IxR _ (rIxT K) from ix_tup) (pv 0) (pv 3) (fun _ _ => rfl)) (pv 4) (fun _ _ => rfl)) (fun _ _ => rfl)) (pe_ix (show IxR _ (rIxT K) from ix_tup) (pv 1) (pv 3) (fun _ _ => rfl)) (fun _ _ => rfl)))) pa_nil)) pa_nil)))), ?_⟩
    obtain ⟨iN, ei⟩ := bk_at g hy
    have bl := few_lt g (asc_nodup sb.up) sb.lt
    obtain ⟨r, hr, ro, er, od⟩ := tbl_at tl hy
    refine ⟨_, rfl, b, rfl, ⟨_, Sb⟩, fun D nD => ?_⟩
    refine lc_tup (K := K) (a := b) (xs := mv B) (Pv := fun i H' => Same H H' ∧ H' D = some (.lst (mv (((B.map fun x => tb M (tb M y x) ((bk M).getD y 0))).take i)))) ⟨same_new nD, upd_same⟩ (fun i H' _ e => same_sqt e.1 Sb) ?_ ?_
    · rintro i v H1 hv ⟨s1, hD⟩
      obtain ⟨li, rfl⟩ := mv_nth hv
      have xN := sb.lt _ (GT.getD_mem li)
      have exk : B[i]? = some (B.getD i 0) := by rw [GT.gD li]; exact List.getElem?_eq_getElem li
      generalize B.getD i 0 = x at xN exk ⊢
      have zN := g.lt hy xN
      obtain ⟨r2, hr2, ro2, er2, od2⟩ := tbl_at tl zN
      refine ⟨wipe_one, yes_ ?_⟩
      refine ⟨_, rfl, _, rfl, _, rfl, a, us, _, .ref r, rfl, rfl, same_sqt s1 St, atI_nat hr, _, rfl, r, _, _, _, rfl, rfl, .inl (.inr ⟨ro, s1 _ _ er⟩), row_at xN, a, us, _, .ref r2, rfl, rfl, same_sqt s1 St, atI_nat hr2, _, rfl, _, rfl, ba, _, _, _, rfl, rfl, same_sqt s1 Sk, mv_at (by rw [bk_len]; exact hy), r2, _, _, _, rfl, rfl, .inl (.inr ⟨ro2, s1 _ _ er2⟩), row_at iN, ?_⟩
      have tk := List.length_take_le i (B.map fun x => tb M (tb M y x) ((bk M).getD y 0))
      refine ⟨_, hD, by rw [mv_len, sizeLine_eq]; omega, fun y o e => (upd_ne (ne_of_none e nD)).trans (s1 _ _ e), ?_⟩
      rw [upd_same, List.take_add_one, List.getElem?_map, exk, ← mv_snoc]
      rfl
    rintro H1 ⟨s1, hD⟩
    rw [mv_len, List.take_of_length_le (by rw [List.length_map]; exact Nat.le_refl _), mv_ints] at hD
    refine ⟨D, _, rfl, lst_sql' hD, fun ns' l pm pw nl => ?_⟩
    have k2 := same_new (o := .lst (ns'.map V.int)) nl
    refine ⟨l, _, rfl, .inl ⟨.inl (.inl upd_same), fun t nt => ?_⟩⟩
    obtain ⟨B', eB, pB, aB⟩ := sorted_nats (conj_nodup g sb hy iN) pm pw
    exact q _ t B' ((s1.trans k2).trans (same_new nt)) (by rw [upd_same, eB]) (sg_conj g sb hy iN ei aB pB)
/-- a bound on how many bodies there are -/
def FewSg (M : List (List Nat)) (c : Nat) : Prop := ∀ L : List (List Nat), L.Nodup → (∀ B ∈ L, Sg M.length (tb M) B) → L.length ≤ c
def seen (F : List (List Nat)) : List (List L2.Key × V) := F.map fun B => (key B, V.bl true)
theorem seen_keys (F : List (List Nat)) : (seen F).map (·.1) = F.map key := by
  unfold seen
  rw [List.map_map]
  rfl
theorem seen_in {F : List (List Nat)} {B : List Nat} : (valV (seen F) (key B)).isSome = decide (B ∈ F) := by
  by_cases h : B ∈ F
  · rw [decide_eq_true h, ← valV_any]
    exact List.any_eq_true.mpr ⟨(key B, .bl true), List.mem_map.mpr ⟨B, h, rfl⟩, decide_eq_true rfl⟩
  · rw [decide_eq_false h, find_none (by rw [seen_keys]; exact not_key h)]
    rfl
theorem seen_put {F : List (List Nat)} {B : List Nat} (h : B ∉ F) : putK (seen F) (key B) (.bl true) = seen (F ++ [B]) := by
  rw [put_new (by rw [seen_keys]; exact not_key h)]
  unfold seen
  rw [List.map_append]
  rfl
theorem seen_len (F : List (List Nat)) : (seen F).length = F.length := List.length_map _
def spFamily (K : PySem.W.Frag) : Sp := fun vs H Q _ => ∃ (a : Addr) (us : List V) (M : List (List Nat)) (ba b : Addr) (B : List Nat) (ml : Addr) (S : List Nat) (c : Nat), vs = [.ref a, .ref ba, .ref b, .ref ml] ∧ SqT K H a us ∧ TBL H us M ∧ M.length ≤ 200 ∧ Gp M.length (tb M) ∧
  SqT K H ba (mv (bk M)) ∧ H b = some (.tup (mv B)) ∧ Sg M.length (tb M) B ∧ H ml = some (.lst (mv S)) ∧ (∀ s ∈ S, s < M.length) ∧ FewSg M c ∧ c ≤ 200 ∧
  ∀ H' r us2 fam, Same H H' → H r = none → H' r = some (.lst us2) → MR H' us2 fam → fam.Nodup → (∀ B ∈ fam, Sg M.length (tb M) B) → B ∈ fam → Q (.ref r) H'
theorem scFamilyOf : FnScope ["table", "back", "body", "makers", "found", "family", "at", "maker", "turned"] ["table", "back", "body", "makers"] (defScope sFamilyOf) :=
  ⟨rfl, rfl, rfl, by decide +kernel, rfl, by decide +kernel, by decide +kernel⟩
theorem dFamilyOf (T : Tx K mg) (DTurnedBody : Def P w K mg base CX0 1 "turned_body" ["table", "back", "body", "by"] (spTurned K)) : Def P w K mg base CX0 2 "_family_of" ["table", "back", "body", "makers"] (spFamily K) := by
  refine T.t_family_of.def_ (N := ["table", "back", "body", "makers", "found", "family", "at", "maker", "turned"]) scFamilyOf (fun _ _ _ _ _ _ us hl => match us, hl with | [_, _, _, _], _ => rfl) ?_ ?_
  · intro vs H Q E h
    obtain ⟨a, us, M, ba, b, B, ml, S, c, rfl, _⟩ := h
    rfl
  · intro f cd A out s H vs Q E hr h
    have hr1 : Rm 1 _ := hr.le (by decide)
    obtain ⟨a, us, M, ba, b, B, ml, S, c, rfl, St, tl, few, g, Sk, hb, sb, hml, hS, bd, c200, q⟩ := h
    refine ⟨_, (pss_cons (ps_set (i := 4) scFamilyOf.nd rfl (Or.inl rfl) (pe_oneT hr.hu1 (pv 2) pe_bl))
      (pss_cons (ps_set (i := 5) scFamilyOf.nd rfl (Or.inl rfl) (pe_lst (pa_cons (pv 2) pa_nil)))
      (pss_cons (ps_set (i := 6) scFamilyOf.nd rfl (Or.inl rfl) pe_int)
      (pss_cons (ps_while PassesOwn.never (pt_cmpR op_lt (pv 6) (pe_callB call_len_seq rfl T.f_len (by decide +kernel) (pa_cons (pv 5) pa_nil)) (nomark _))
        (pss_cons (ps_for PassesOwn.never rfl (pi_list (pv 3)) (pg_name (i := 7) scFamilyOf.nd rfl (Or.inl rfl))
          (pss_cons (ps_set (i := 8) scFamilyOf.nd rfl (Or.inl rfl) (pe_d DTurnedBody (hr1.le (by decide)) pass0 (pa_cons (pv 0) (pa_cons (pv 1) (pa_cons (pe_ix ix_list (pv 5) (pv 6) (fun _ _ => rfl)) (pa_cons (pv 7) pa_nil))))))
          (pss_one (ps_if (pt_cmp (pc_dnotin hr.hu1 (pv 8) (pv 4))) (pss_cons (ps_dput hr.hu1 (pv 4) (pv 8) pe_bl rfl)
            (pss_one (ps_expr (pe_bm PySem.F.plainAttrs_list PySem.F.slot_list_append PySem.F.type_list_append mt_append (pv 5) (pa_cons (pv 8) pa_nil))))) pss_nil))))
        (pss_one (ps_aug (i := 6) scFamilyOf.nd rfl (Or.inl rfl) pe_int ip_add))))
      (pss_one (ps_ret (pv 5))))))), ?_⟩
    refine fun D nD => ?_
    have sd := same_new (o := .dT []) nD
    have hD0 : (upd H D (.dT [])) D = some (.dT []) := upd_same
    refine ⟨_, rfl, hD0, b, key B, rfl, by rw [key_mv]; exact sd _ _ hb, ?_⟩
    have s1 : Same H (upd (upd H D (.dT [])) D (.dT [(key B, .bl true)])) := fun x o e => (upd_ne (ne_of_none e nD)).trans (sd _ _ e)
    have hD : (upd (upd H D (.dT [])) D (.dT [(key B, .bl true)])) D = some (.dT (seen [B])) := upd_same
    generalize upd (upd H D (.dT [])) D _ = H1 at s1 hD ⊢
    refine ⟨_, rfl, by show 1 ≤ sizeLine; decide, fun L nL => ?_⟩
    have k2 := same_new (o := .lst [.ref b]) nL
    have hL : (upd H1 L (.lst [.ref b])) L = some (.lst [.ref b]) := upd_same
    have dDL : D ≠ L := ne_of_none hD nL
    have nL0 : H L = none := by
      cases z : H L with
      | none => rfl
      | some o => rw [s1 _ _ z] at nL; cases nL
    replace s1 := s1.trans k2
    replace hD := k2 _ _ hD
    generalize upd H1 L _ = H2 at s1 hD hL ⊢
    clear k2 hD0 sd
    refine while_by (fun σ H' => Same H H' ∧ ∃ (fam : List (List Nat)) (us2 : List V) (p : Nat) (y7 y8 : Option V), σ = [some (.ref a), some (.ref ba), some (.ref b), some (.ref ml), some (.ref D), some (.ref L), some (.int (p : Int)), y7, y8] ∧
        H' D = some (.dT (seen fam)) ∧ H' L = some (.lst us2) ∧ MR H' us2 fam ∧ fam.Nodup ∧ (∀ B ∈ fam, Sg M.length (tb M) B) ∧ B ∈ fam ∧ p ≤ fam.length)
      (fun σ _ => match σ with | [_, _, _, _, _, _, some (.int p), _, _] => 300 - p.toNat | _ => 0)
      ⟨s1, [B], _, 0, _, _, rfl, hD, hL, .cons ⟨b, rfl, s1 _ _ hb⟩ .nil, List.nodup_cons.mpr ⟨by simp, .nil⟩, fun x hx => by rw [List.mem_singleton.mp hx]; exact sb, List.mem_cons_self, Nat.zero_le _⟩ ?_ ?_
    · rintro σ H3 ⟨s3, fam, us2, p, y7, y8, rfl, hD3, hL3, mf, nd, sg, bf, pf⟩
      have lf := bd fam nd sg
      have lus := pr_len mf
      refine ⟨_, rfl, _, rfl, L, _, rfl, .inl (lst_sql' hL3), _, _, rfl, rfl, _, rfl, ?_⟩
      rw [lus]
      by_cases cc : p < fam.length
      · refine ifT (decide_eq_true (by omega)) ?_
        obtain ⟨X, eX⟩ : ∃ X, X = at_ fam p := ⟨_, rfl⟩
        refine seq_rest' (fun σ H' => Same H H' ∧ ∃ (fam : List (List Nat)) (us2 : List V) (y7 y8 : Option V), σ = [some (.ref a), some (.ref ba), some (.ref b), some (.ref ml), some (.ref D), some (.ref L), some (.int (p : Int)), y7, y8] ∧
          H' D = some (.dT (seen fam)) ∧ H' L = some (.lst us2) ∧ MR H' us2 fam ∧ fam.Nodup ∧ (∀ B ∈ fam, Sg M.length (tb M) B) ∧ B ∈ fam ∧ p < fam.length) ?_ ?_
        rotate_left
        · intro N hN
          refine ⟨_, rfl, ml, rfl, ⟨_, lst_sql' (s3 _ _ hml)⟩, for_list (K := K) (a := ml) (xs := mv S) (fun i σ H' => Same H H' ∧ ∃ (fam : List (List Nat)) (us2 : List V) (y7 y8 : Option V), σ = [some (.ref a), some (.ref ba), some (.ref b), some (.ref ml), some (.ref D), some (.ref L), some (.int (p : Int)), y7, y8] ∧
            H' D = some (.dT (seen fam)) ∧ H' L = some (.lst us2) ∧ MR H' us2 fam ∧ fam.Nodup ∧ (∀ B ∈ fam, Sg M.length (tb M) B) ∧ B ∈ fam ∧ p < fam.length)
            ⟨s3, fam, us2, _, _, rfl, hD3, hL3, mf, nd, sg, bf, cc⟩ (fun i σ H' _ e => lst_sql' (e.1 _ _ hml)) ?_ ?_⟩
          · rintro i v σ H4 hv ⟨s4, fam, us2, z7, z8, rfl, hD4, hL4, mf, nd, sg, bf, pf⟩
            obtain ⟨li, rfl⟩ := mv_nth hv
            have yN := hS _ (GT.getD_mem li)
            generalize S.getD i 0 = y at yN ⊢
            obtain ⟨u, hu, bx, rfl, hbx⟩ := pr_get mf (at_get pf)
            have lf := bd fam nd sg
            have lus := pr_len mf
            refine ⟨_, rfl, _, rfl, _, rfl, _, rfl, L, _, _, .ref bx, rfl, rfl, lst_sql' hL4, atI_nat hu, _, rfl, a, us, M, ba, bx, at_ fam p, y, rfl, same_sqt s4 St, tl.same s4, few, g, same_sqt s4 Sk, .inl (.inl hbx), sg _ (at_mem pf), yN, fun H5 r T s5 hr sT => ?_⟩
            have kr : H5 r = some (.tup ((key T).map kV)) := by rw [key_mv]; exact hr
            have hD5 := s5 _ _ hD4
            refine ⟨_, rfl, _, rfl, D, _, rfl, DGet.t hD5 kr, ?_⟩
            rw [seen_in]
            by_cases inn : T ∈ fam
            · rw [decide_eq_true inn]
              refine ⟨_, rfl, ?_⟩
              refine ifF rfl ?_
              exact ⟨s4.trans s5, fam, us2, _, _, rfl, hD5, s5 _ _ hL4, mf.same s5, nd, sg, bf, pf⟩
            · rw [decide_eq_false inn]
              refine ⟨_, rfl, ?_⟩
              refine ifT rfl ?_
              have nd' : (fam ++ [T]).Nodup := by
                rw [List.nodup_append]
                exact ⟨nd, List.nodup_cons.mpr ⟨by simp, .nil⟩, fun x hx y hy e => by rw [List.mem_singleton] at hy; exact inn (by rw [← hy, ← e]; exact hx)⟩
              have sg' : ∀ B ∈ fam ++ [T], Sg M.length (tb M) B := fun x hx => by
                rcases List.mem_append.mp hx with hx | hx
                · exact sg x hx
                · rw [List.mem_singleton.mp hx]
                  exact sT
              refine ⟨_, rfl, _, rfl, D, _, rfl, DPut.t hD5 kr (by rw [seen_len, sizeLine_eq]; omega), ?_⟩
              rw [seen_put inn]
              have nt1 : ∀ xs : List V, HO.dT (seen fam) ≠ .tup xs := fun _ e => by cases e
              have nt2 : ∀ xs : List V, HO.lst us2 ≠ .tup xs := fun _ e => by cases e
              have s6 : Same H (upd H5 D (.dT (seen (fam ++ [T])))) := fun x o e => (upd_ne (ne_of_none e nD)).trans (s5 _ _ (s4 _ _ e))
              have hL6 := (upd_ne (o := .dT (seen (fam ++ [T]))) dDL.symm).trans (s5 _ _ hL4)
              have mf6 := (mf.same s5).upd (o' := .dT (seen (fam ++ [T]))) hD5 nt1
              have hr6 := (upd_ne (o := .dT (seen (fam ++ [T]))) (ne_of hr hD5 fun e => by cases e)).trans hr
              have hD6 : (upd H5 D (.dT (seen (fam ++ [T])))) D = some (.dT (seen (fam ++ [T]))) := upd_same
              generalize upd H5 D _ = H6 at s6 hL6 mf6 hr6 hD6 ⊢
              refine ⟨_, rfl, .inl ⟨rfl, _, lst_sql' hL6⟩, _, rfl, L, _, _, rfl, rfl, hL6, by rw [lus, sizeLine_eq]; omega, ?_⟩
              exact ⟨fun x o e => (upd_ne (ne_of_none e nL0)).trans (s6 _ _ e), fam ++ [T], _, _, _, rfl, (upd_ne dDL).trans hD6, upd_same, pr_snoc (mf6.upd hL6 nt2) ⟨r, rfl, (upd_ne (ne_of hr6 hL6 fun e => by cases e)).trans hr6⟩, nd', sg', List.mem_append_left _ bf, by rw [List.length_append]; omega⟩
          · rintro σ H4 ⟨s4, fam, us2, z7, z8, rfl, hD4, hL4, mf, nd, sg, bf, pf⟩
            exact hN _ _ ⟨s4, fam, us2, _, _, rfl, hD4, hL4, mf, nd, sg, bf, pf⟩
        · rintro σ H4 ⟨s4, fam, us2, z7, z8, rfl, hD4, hL4, mf, nd, sg, bf, pf⟩
          refine ⟨_, rfl, _, _, rfl, rfl, ?_⟩
          refine ⟨⟨s4, fam, us2, p + 1, _, _, by rw [Int.natCast_add]; rfl, hD4, hL4, mf, nd, sg, bf, pf⟩, ?_⟩
          show 300 - ((p : Int) + 1).toNat < 300 - ((p : Nat) : Int).toNat
          have := bd fam nd sg
          omega
      · refine ifF (decide_eq_false (by omega)) ?_
        exact ⟨_, rfl, q _ L us2 fam s3 nL0 hL3 mf nd sg bf⟩
    · rintro σ H' Q1 Q2 m ⟨v, hv, v2, hv2, z, ys, e1, e2, i, j, e3, e4, b, e5, q⟩
      exact ⟨v, hv, v2, hv2, z, ys, e1, e2, i, j, e3, e4, b, e5, m _ _ q⟩
end
end K08


set_option Elab.async false
set_option linter.all false
set_option maxRecDepth 100000
set_option maxHeartbeats 4000000
namespace K08
open PySem PySem.Spec PyProof.Rows L2 MM GT
/-! own words for the readings: a step, its side -/
local macro_rules | `(tactic| walk_at "side") => `(tactic| first
  | omega
  | exact ⟨by omega, by omega⟩
  | exact Or.inl ⟨by omega, by omega⟩
  | exact Or.inr ⟨by omega, by omega⟩
  | (show CPw _ _; decide +kernel)
  | (show (0 : Int) < _; decide +kernel)
  | (show CDivW _ _; first | assumption | exact ⟨by decide, by decide +kernel⟩))
local macro_rules | `(tactic| walk_at "here") => `(tactic| first
  | assumption
  | exact upd_same
  | exact Or.inl (Or.inl upd_same)
  | exact Or.inl upd_same)
local macro_rules | `(tactic| walk_at "one") => `(tactic| first
  | refine ⟨_, rfl, ?_⟩
  | refine Or.inl ⟨_, rfl, ?_⟩
  | refine Or.inr ⟨_, rfl, ?_⟩
  | refine ⟨_, _, rfl, rfl, (by walk_at "side"), ?_⟩
  | refine ⟨_, _, rfl, rfl, ?_⟩
  | refine ⟨_, _, rfl, Or.inl (by walk_at "here"), ?_⟩
  | refine ⟨_, _, rfl, Or.inr (by walk_at "here"), ?_⟩
  | refine ⟨_, _, rfl, (by walk_at "here"), ?_⟩
  | refine ⟨_, _, _, _, rfl, rfl, (by walk_at "here"), rfl, ?_⟩
  | refine ⟨_, _, rfl, ?_⟩
  | refine ifT (by rfl) ?_
  | refine ifF (by rfl) ?_
  | refine ifT (decide_eq_true (by omega)) ?_
  | refine ifF (decide_eq_false (by omega)) ?_)
local macro_rules | `(tactic| walk_at "st") => `(tactic| repeat (walk_at "one"))

section
variable {P : Program} {w : World} {K : PySem.W.Frag} {mg : Str → Option Value} {base : Heap}
def spPP : Sp := fun vs H Q _ => ∃ n : Nat, vs = [.int (n : Int)] ∧ 2 ≤ n ∧ n ≤ 200 ∧ ∀ b : Bool, Q (.bl b) H
theorem scIsPrimePower : FnScope ["number", "divisor"] ["number"] (defScope sIsPrimePower) :=
  ⟨rfl, rfl, rfl, by decide +kernel, rfl, by decide +kernel, by decide +kernel⟩
theorem dIsPrimePower (T : Tx K mg) : Def P w K mg base CX0 1 "_is_prime_power" ["number"] spPP := by
  refine T.t_is_prime_power.def_ (N := ["number", "divisor"]) scIsPrimePower (fun _ _ _ _ _ _ us hl => match us, hl with | [_], _ => rfl) ?_ ?_
  · intro vs H Q E h
    obtain ⟨n, rfl, _⟩ := h
    rfl
  · intro f cd A out s H vs Q E hr h
    obtain ⟨n, rfl, n2, n200, q⟩ := h
    refine ⟨_, (pss_cons (ps_set (i := 1) scIsPrimePower.nd rfl (Or.inl rfl) pe_int)
      (pss_cons (ps_while PassesOwn.never (pt_cmpR op_ne (pe_op op_mod (pv 0) (pv 1)) pe_int (nomark _))
        (pss_one (ps_aug (i := 1) scIsPrimePower.nd rfl (Or.inl rfl) pe_int ip_add)))
      (pss_cons (ps_while PassesOwn.never (pt_cmpR op_eq (pe_op op_mod (pv 0) (pv 1)) pe_int (nomark _))
        (pss_one (ps_set (i := 0) scIsPrimePower.nd rfl (Or.inl rfl) (pe_op op_fdivW (pv 0) (pv 1)))))
      (pss_one (ps_ret (pe_cmpR op_eq (pv 0) pe_int (nomark _))))))), ?_⟩
    refine while_by (fun σ H' => H' = H ∧ ∃ d : Nat, σ = [some (.int (n : Int)), some (.int (d : Int))] ∧ 2 ≤ d ∧ d ≤ n) (fun σ _ => match σ with | [_, some (.int d)] => n - d.toNat | _ => 0) ⟨rfl, 2, rfl, by omega, by omega⟩ ?_ ?_
    · rintro σ H' ⟨eH, d, rfl, d2, dn⟩
      obtain rfl := eH.symm
      refine ⟨_, rfl, _, rfl, _, _, rfl, rfl, by omega, rfl, _, rfl, ?_⟩
      by_cases c : n % d = 0
      · have c' : (n : Int) % (d : Int) = 0 := by omega
        refine ifF (by show (!decide (V.int ((n : Int) % (d : Int)) = V.int 0)) = false; rw [c', decide_eq_true rfl]; rfl) ?_
        refine while_by (fun σ H' => H' = H ∧ ∃ m : Nat, σ = [some (.int (m : Int)), some (.int (d : Int))] ∧ 1 ≤ m) (fun σ _ => match σ with | [some (.int m), _] => m.toNat | _ => 0) ⟨rfl, n, rfl, by omega⟩ ?_ ?_
        · rintro σ H' ⟨eH, m, rfl, m1⟩
          obtain rfl := eH.symm
          refine ⟨_, rfl, _, rfl, _, _, rfl, rfl, by omega, rfl, _, rfl, ?_⟩
          by_cases e : m % d = 0
          · have e' : (m : Int) % (d : Int) = 0 := by omega
            refine ifT (by show decide (V.int ((m : Int) % (d : Int)) = V.int 0) = true; rw [e', decide_eq_true rfl]) ?_
            have dm := Nat.div_add_mod m d
            have m1' : 1 ≤ m / d := by
              refine Nat.pos_of_ne_zero fun z => ?_
              rw [z, e] at dm
              omega
            refine ⟨_, rfl, _, rfl, _, _, rfl, rfl, ⟨by omega, by
              rw [Int.natAbs_natCast]
              have : d.log2 < 8 := (Nat.log2_lt (by omega)).mpr (by omega)
              omega⟩, ⟨rfl, m / d, by rw [Int.natCast_ediv]; rfl, m1'⟩, ?_⟩
            show ((m : Int) / (d : Int)).toNat < ((m : Nat) : Int).toNat
            rw [← Int.natCast_ediv]
            have := Nat.div_lt_self (n := m) (k := d) (by omega) (by omega)
            omega
          · refine ifF (by show decide (V.int ((m : Int) % (d : Int)) = V.int 0) = false; exact decide_eq_false fun z => e (by have := V.int.inj z; omega)) ?_
            exact ⟨_, rfl, rfl, q _⟩
        · rintro σ H' Q1 Q2 mm ⟨v, hv, v2, hv2, i, j, e1, e2, e3, e4, b, e5, q⟩
          exact ⟨v, hv, v2, hv2, i, j, e1, e2, e3, e4, b, e5, mm _ _ q⟩
      · have dlt : d < n := by
          rcases Nat.lt_or_ge d n with h | h
          · exact h
          · obtain rfl : d = n := Nat.le_antisymm dn h
            exact absurd (Nat.mod_self d) c
        refine ifT (by show (!decide (V.int ((n : Int) % (d : Int)) = V.int 0)) = true; rw [decide_eq_false fun z => c (by have := V.int.inj z; omega)]; rfl) ?_
        refine ⟨_, rfl, _, _, rfl, rfl, ⟨rfl, d + 1, by rw [Int.natCast_add]; rfl, by omega, by omega⟩, ?_⟩
        show n - ((d : Int) + 1).toNat < n - ((d : Nat) : Int).toNat
        omega
    · rintro σ H' Q1 Q2 mm ⟨v, hv, v2, hv2, i, j, e1, e2, e3, e4, b, e5, q⟩
      exact ⟨v, hv, v2, hv2, i, j, e1, e2, e3, e4, b, e5, mm _ _ q⟩
/-- a move's order -/
def IsOrd (t : Nat → Nat → Nat) (m k : Nat) : Prop := 1 ≤ k ∧ pw t m k = 0 ∧ ∀ i, 0 < i → i < k → pw t m i ≠ 0
def spOrders (K : PySem.W.Frag) : Sp := fun vs H Q _ => ∃ (a : Addr) (us : List V) (M : List (List Nat)), vs = [.ref a] ∧ SqT K H a us ∧ TBL H us M ∧ M.length ≤ 200 ∧ Gp M.length (tb M) ∧
  ∀ H' t O, Same H H' → H' t = some (.tup (mv O)) → O.length = M.length → (∀ i, i < M.length → IsOrd (tb M) i (O.getD i 0)) → Q (.ref t) H'
theorem scOrdersOf : FnScope ["table", "move"] ["table"] (defScope sOrdersOf) :=
  ⟨rfl, rfl, rfl, by decide +kernel, rfl, by decide +kernel, by decide +kernel⟩
theorem dOrdersOf (T : Tx K mg) (DPowersOf : Def P w K mg base CX0 1 "powers_of" ["table", "move"] (spPowers K)) : Def P w K mg base CX0 2 "orders_of" ["table"] (spOrders K) := by
  refine T.t_orders_of.def_ (N := ["table", "move"]) scOrdersOf (fun _ _ _ _ _ _ us hl => match us, hl with | [_], _ => rfl) ?_ ?_
  · intro vs H Q E h
    obtain ⟨a, us, M, rfl, _⟩ := h
    rfl
  · intro f cd A out s H vs Q E hr h
    have hr1 : Rm 1 _ := hr.le (by decide)
    obtain ⟨a, us, M, rfl, S, tl, few, g, q⟩ := h
    refine ⟨_, (pss_one (ps_ret (pe_callTy call_tuple_of rfl T.f_tuple (by decide +kernel) (pa_cons (pe_lc (own := [("move", 1)]) (g := gName 1) (tt := tYes) rfl scOrdersOf.nd (pi_range1 rfl T.f_range (pa_cons (pe_callB call_len_seq rfl T.f_len (by decide +kernel) (pa_cons (pv 0) pa_nil)) pa_nil)) (blkOk_by (N := ["table", "move"]) (sc := defScope sOrdersOf) (by decide +kernel)) (fun _ _ _ _ _ => pg_name (i := 1) scOrdersOf.nd rfl (Or.inl rfl)) (fun _ _ _ _ _ => pts_nil) (fun _ _ _ _ _ => (pe_callB (cr_lenK (K := K) rfl) rfl T.f_len (by decide +kernel) (pa_cons (pe_d DPowersOf (hr1.le (by decide)) pass0 (pa_cons (pv 0) (pa_cons (pv 1) pa_nil))) pa_nil)))) pa_nil)))), ?_⟩
    have lus := pr_len tl
    rw [List.length_map, List.length_range] at lus
    refine ⟨_, rfl, a, us, rfl, .inr S, (M.length : Int), by rw [lus], by omega, by omega, fun D nD => ?_⟩
    refine lc_range (Pv := fun i H' => Same H H' ∧ ∃ O, H' D = some (.lst (mv O)) ∧ O.length = i ∧ ∀ j, j < i → IsOrd (tb M) j (O.getD j 0)) ⟨same_new nD, [], upd_same, rfl, fun j h => absurd h (Nat.not_lt_zero j)⟩ ?_ ?_
    · rintro i H1 hi ⟨s1, O, hD, lO, ord⟩
      have iN : i < M.length := by omega
      refine ⟨wipe_one, yes_ ?_⟩
      refine ⟨_, rfl, _, rfl, a, us, M, i, by rw [Int.zero_add], same_sqt s1 S, tl.same s1, few, g, iN, fun H2 r k s2 hr nr k1 z no => ?_⟩
      have kN := pw_few g iN no
      refine ⟨r, _, rfl, .inl (lst_sql' hr), ?_⟩
      refine ⟨_, s2 _ _ hD, by rw [mv_len, lO, sizeLine_eq]; omega, fun y o e => (upd_ne (ne_of_none e nD)).trans (s2 _ _ (s1 _ _ e)), O ++ [k], ?_, by rw [List.length_append, lO]; rfl, fun j hj => ?_⟩
      · rw [upd_same, mv_snoc, mv_len, List.length_map, List.length_range]
      · by_cases e : j = i
        · subst e
          rw [List.getD, List.getElem?_append_right (by omega), lO, Nat.sub_self]
          exact ⟨k1, z, no⟩
        · rw [List.getD, List.getElem?_append_left (by omega), ← List.getD]
          exact ord j (by omega)
    rintro H1 ⟨s1, O, hD, lO, ord⟩
    refine ⟨D, _, rfl, .inl ⟨lst_sql' hD, fun t nt => q _ t O (s1.trans (same_new nt)) upd_same (by omega) fun i hi => ord i (by omega)⟩⟩
def spSingles (K : PySem.W.Frag) : Sp := fun vs H Q _ => ∃ (a : Addr) (us : List V) (M : List (List Nat)), vs = [.ref a] ∧ SqT K H a us ∧ TBL H us M ∧ M.length ≤ 200 ∧ Gp M.length (tb M) ∧
  ∀ H' r L, Same H H' → H r = none → H' r = some (.lst (mv L)) → L.length ≤ 200 → (∀ x ∈ L, 0 < x ∧ x < M.length) → Q (.ref r) H'
theorem scSingleMakers : FnScope ["table", "bodies", "move", "powers", "body"] ["table"] (defScope sSingleMakers) :=
  ⟨rfl, rfl, rfl, by decide +kernel, rfl, by decide +kernel, by decide +kernel⟩
theorem dSingleMakers (T : Tx K mg) (DPowersOf : Def P w K mg base CX0 1 "powers_of" ["table", "move"] (spPowers K)) (DIsPrimePower : Def P w K mg base CX0 1 "_is_prime_power" ["number"] spPP) : Def P w K mg base CX0 2 "_single_makers" ["table"] (spSingles K) := by
  refine T.t_single_makers.def_ (N := ["table", "bodies", "move", "powers", "body"]) scSingleMakers (fun _ _ _ _ _ _ us hl => match us, hl with | [_], _ => rfl) ?_ ?_
  · intro vs H Q E h
    obtain ⟨a, us, M, rfl, _⟩ := h
    rfl
  · intro f cd A out s H vs Q E hr h
    have hr1 : Rm 1 _ := hr.le (by decide)
    obtain ⟨a, us, M, rfl, S, tl, few, g, q⟩ := h
    refine ⟨_, (pss_cons (ps_set (i := 1) scSingleMakers.nd rfl (Or.inr rfl) pe_dnewT)
      (pss_cons (ps_for PassesOwn.never rfl (pi_range2 rfl T.f_range (pa_cons pe_int (pa_cons (pe_callB call_len_seq rfl T.f_len (by decide +kernel) (pa_cons (pv 0) pa_nil)) pa_nil))) (pg_name (i := 2) scSingleMakers.nd rfl (Or.inl rfl))
        (pss_cons (ps_set (i := 3) scSingleMakers.nd rfl (Or.inl rfl) (pe_d DPowersOf (hr1.le (by decide)) pass0 (pa_cons (pv 0) (pa_cons (pv 2) pa_nil))))
        (pss_one (ps_if (pt_val (pe_d DIsPrimePower (hr1.le (by decide)) pass0 (pa_cons (pe_callB call_len_seq rfl T.f_len (by decide +kernel) (pa_cons (pv 3) pa_nil)) pa_nil))) (pss_one (ps_expr (pe_setdT hr.hu1 (pv 1) (pe_callTy call_tuple_of rfl T.f_tuple (by decide +kernel) (pa_cons (pe_callB cr_sortedI rfl T.f_sorted (by decide +kernel) (pa_cons (pv 3) pa_nil)) pa_nil)) (pv 2) ⟨rfl, rfl, rfl, rfl⟩))) pss_nil))))
      (pss_one (ps_ret (pe_lock (pe_lc (own := [("body", 4)]) (g := gName 4) (tt := tYes) rfl scSingleMakers.nd (pi_keys (pv 1)) (blkOk_by (N := ["table", "bodies", "move", "powers", "body"]) (sc := defScope sSingleMakers) (by decide +kernel)) (fun _ _ _ _ _ => pg_name (i := 4) scSingleMakers.nd rfl (Or.inl rfl)) (fun _ _ _ _ _ => pts_nil) (fun _ _ _ _ _ => (pe_dget hr.hu1 (pv 1) (pv 4) (fun _ _ => rfl))))))))), ?_⟩
    have lus := pr_len tl
    rw [List.length_map, List.length_range] at lus
    refine fun D nD => ?_
    have s0 := same_new (o := .dT []) nD
    have hD : (upd H D (.dT [])) D = some (.dT []) := upd_same
    generalize upd H D _ = H1 at s0 hD ⊢
    refine ⟨_, rfl, a, us, rfl, .inr (same_sqt s0 S), 1, (M.length : Int), by rw [lus], ⟨by omega, by omega, by omega, by omega⟩, for_range (fun i σ H' => Same H H' ∧ ∃ (kvs : List (List L2.Key × V)) (y2 y3 y4 : Option V), σ = [some (.ref a), some (.ref D), y2, y3, y4] ∧ H' D = some (.dT kvs) ∧ (kvs.map (·.1)).Nodup ∧ (∀ p ∈ kvs, ∃ m : Nat, p.2 = .int (m : Int) ∧ 0 < m ∧ m < M.length) ∧ kvs.length ≤ i) ⟨s0, [], _, _, _, rfl, hD, .nil, (fun _ h => by cases h), Nat.le_refl _⟩ ?_ ?_⟩
    · rintro i σ H2 hi ⟨s2, kvs, y2, y3, y4, rfl, hD2, nd, ok, lk⟩
      have iN : i + 1 < M.length := by omega
      refine ⟨_, rfl, _, rfl, a, us, M, i + 1, by rw [Int.natCast_add, Int.add_comm]; rfl, same_sqt s2 S, tl.same s2, few, g, iN, fun H3 r k s3 hr nr k1 z no => ?_⟩
      have kN := pw_few g iN no
      have k2 : 2 ≤ k := by
        by_cases e : k = 1
        · subst e
          have : tb M 0 (i + 1) = 0 := z
          rw [g.onel iN] at this
          omega
        · omega
      have hD3 := s3 _ _ hD2
      have dr : D ≠ r := ne_of_none hD2 nr
      refine ⟨_, rfl, r, _, rfl, .inl (lst_sql' hr), k, by rw [mv_len, List.length_map, List.length_range], k2, by omega, fun bb => ?_⟩
      cases bb with
      | false =>
        refine ⟨_, rfl, ?_⟩
        refine ifF rfl ?_
        exact ⟨s2.trans s3, kvs, _, _, _, rfl, hD3, nd, ok, by omega⟩
      | true =>
        refine ⟨_, rfl, ?_⟩
        refine ifT rfl ?_
        have hr' := hr
        rw [mv_ints] at hr'
        refine ⟨_, rfl, D, rfl, .inr ⟨kvs, .inl hD3⟩, _, rfl, r, _, rfl, lst_sql' hr', fun ns' l pm pw nl => ?_⟩
        have k4 := same_new (o := .lst (ns'.map V.int)) nl
        obtain ⟨B', eB, pB, aB⟩ := sorted_nats (pw_nodup g iN no) pm pw
        refine ⟨l, _, rfl, .inl ⟨.inl (.inl upd_same), fun t nt => ?_⟩⟩
        have k5 := k4.trans (same_new (o := .tup (ns'.map V.int)) nt)
        have ht : (upd (upd H3 l (.lst (ns'.map V.int))) t (.tup (ns'.map V.int))) t = some (.tup ((key B').map kV)) := by rw [upd_same, eB, key_mv]
        have hD5 := k5 _ _ hD3
        generalize upd (upd H3 l _) t _ = H5 at k5 ht hD5 ⊢
        have s5 := (s2.trans s3).trans k5
        refine ⟨_, rfl, kvs, key B', t, hD5, rfl, ht, by rw [sizeLine_eq]; omega, fun v hv => ?_, fun hn => ?_⟩
        · exact ⟨s5, kvs, _, _, _, rfl, hD5, nd, ok, by omega⟩
        · have nk : key B' ∉ kvs.map (·.1) := fun h => by
            have := valV_any (key B') kvs
            rw [hn] at this
            obtain ⟨p, hp, e⟩ := List.mem_map.mp h
            rw [List.any_eq_true.mpr ⟨p, hp, decide_eq_true e⟩] at this
            cases this
          rw [put_new nk]
          refine ⟨fun x o e => (upd_ne (ne_of_none e nD)).trans (s5 _ _ e), _, _, _, _, rfl, upd_same, ?_, fun p hp => ?_, by rw [List.length_append]; show _ + 1 ≤ _; omega⟩
          · rw [List.map_append, List.nodup_append]
            refine ⟨nd, List.nodup_cons.mpr ⟨by simp, .nil⟩, fun x hx y hy e => ?_⟩
            have : y = key B' := List.mem_singleton.mp hy
            exact nk (by rw [← this, ← e]; exact hx)
          · rcases List.mem_append.mp hp with hp | hp
            · exact ok p hp
            · rw [List.mem_singleton.mp hp]
              exact ⟨i + 1, by rw [Int.natCast_add, Int.add_comm]; rfl, by omega, iN⟩
    · rintro σ H2 ⟨s2, kvs, y2, y3, y4, rfl, hD2, nd, ok, lk⟩
      refine ⟨D, .dT kvs, hD2, True.intro, fun od => ?_⟩
      have hL : (upd H2 D (.frz od (.dT kvs))) D = some (.frz od (.dT kvs)) := upd_same
      have sL : Same H (upd H2 D (.frz od (.dT kvs))) := fun x o e => (upd_ne (ne_of_none e nD)).trans (s2 _ _ e)
      generalize upd H2 D (.frz od _) = HL at hL sL ⊢
      refine ⟨_, rfl, D, od, rfl, .inr ⟨kvs, hL, fun D2 n2 => ?_⟩⟩
      have nD2 : H D2 = none := by
        cases z : H D2 with
        | none => rfl
        | some o => rw [sL _ _ z] at n2; cases n2
      refine lc_it (walk_keysT (d := D) (o := od) (kvs := kvs)) (fun i H' => Same HL H' ∧ ∃ L, H' D2 = some (.lst (mv L)) ∧ L.length ≤ i ∧ ∀ x ∈ L, 0 < x ∧ x < M.length) ⟨same_new n2, [], upd_same, Nat.le_refl _, (fun _ h => by cases h)⟩ (fun i H' _ e => e.1 _ _ hL) ?_ ?_
      · rintro i v H4 H3 hi ⟨s3, L, hD3, lL, okL⟩ ⟨rfl, k, v2, b, hkv, rfl, hb⟩
        obtain ⟨m, em, m0, mN⟩ := ok _ (List.mem_of_getElem? hkv)
        have em' : v2 = .int (m : Int) := em
        subst em'
        refine ⟨wipe_one, yes_ ?_⟩
        refine ⟨_, rfl, _, rfl, D, .int (m : Int), rfl, .inr ⟨kvs, k, b, .inr ⟨od, s3 _ _ hL⟩, rfl, hb, (find_at nd hkv).symm⟩, ?_⟩
        refine ⟨_, hD3, by rw [mv_len, sizeLine_eq]; omega, fun y o e => (upd_ne (ne_of_none e n2)).trans (s3 _ _ e), L ++ [m], by rw [upd_same, mv_snoc], by rw [List.length_append]; show _ + 1 ≤ _; omega, fun x hx => ?_⟩
        rcases List.mem_append.mp hx with hx | hx
        · exact okL x hx
        · rw [List.mem_singleton.mp hx]
          exact ⟨m0, mN⟩
      rintro H3 ⟨s3, L, hD3, lL, okL⟩
      refine ⟨s3 _ _ hL, ?_⟩
      have d2 : D2 ≠ D := (ne_of_none hL n2).symm
      exact q _ D2 L (fun x o e => (upd_ne (ne_of_none e nD)).trans (s3 _ _ (sL _ _ e))) nD2 ((upd_ne d2).trans hD3) (by omega) okL
end
end K08


set_option Elab.async false
set_option linter.all false
set_option maxRecDepth 100000
set_option maxHeartbeats 4000000
namespace K08
open PySem PySem.Spec PyProof.Rows L2 MM GT
/-! own words for the readings: a step, its side -/
local macro_rules | `(tactic| walk_at "side") => `(tactic| first
  | omega
  | exact ⟨by omega, by omega⟩
  | exact Or.inl ⟨by omega, by omega⟩
  | exact Or.inr ⟨by omega, by omega⟩
  | (show CPw _ _; decide +kernel)
  | (show (0 : Int) < _; decide +kernel)
  | (show CDivW _ _; first | assumption | exact ⟨by decide, by decide +kernel⟩))
local macro_rules | `(tactic| walk_at "here") => `(tactic| first
  | assumption
  | exact upd_same
  | exact Or.inl (Or.inl upd_same)
  | exact Or.inl upd_same)
local macro_rules | `(tactic| walk_at "one") => `(tactic| first
  | refine ⟨_, rfl, ?_⟩
  | refine Or.inl ⟨_, rfl, ?_⟩
  | refine Or.inr ⟨_, rfl, ?_⟩
  | refine ⟨_, _, rfl, rfl, (by walk_at "side"), ?_⟩
  | refine ⟨_, _, rfl, rfl, ?_⟩
  | refine ⟨_, _, rfl, Or.inl (by walk_at "here"), ?_⟩
  | refine ⟨_, _, rfl, Or.inr (by walk_at "here"), ?_⟩
  | refine ⟨_, _, rfl, (by walk_at "here"), ?_⟩
  | refine ⟨_, _, _, _, rfl, rfl, (by walk_at "here"), rfl, ?_⟩
  | refine ⟨_, _, rfl, ?_⟩
  | refine ifT (by rfl) ?_
  | refine ifF (by rfl) ?_
  | refine ifT (decide_eq_true (by omega)) ?_
  | refine ifF (decide_eq_false (by omega)) ?_)
local macro_rules | `(tactic| walk_at "st") => `(tactic| repeat (walk_at "one"))

section
variable {P : Program} {w : World} {K : PySem.W.Frag} {mg : Str → Option Value} {base : Heap}
theorem seen_old {F : List (List Nat)} {B : List Nat} (h : B ∈ F) : putK (seen F) (key B) (.bl true) = seen F := by
  have c : ((seen F).any fun kv => decide (kv.1 = key B)) = true := List.any_eq_true.mpr ⟨(key B, .bl true), List.mem_map.mpr ⟨B, h, rfl⟩, decide_eq_true rfl⟩
  unfold putK
  rw [if_pos c]
  refine (List.map_congr_left fun p hp => ?_).trans (List.map_id _)
  obtain ⟨C, _, rfl⟩ := List.mem_map.mp hp
  show (if key C = key B then (key C, V.bl true) else (key C, V.bl true)) = _
  split <;> rfl
/-- classes, told: lists of lists of bodies, away from some places -/
def FAM (H : Hp) (bad : Addr → Prop) (vs : List V) (FS : List (List (List Nat))) : Prop := Paired (fun v (fam : List (List Nat)) => ∃ l us, v = V.ref l ∧ ¬ bad l ∧ H l = some (.lst us) ∧ MR H us fam) vs FS
/-- bodies with their makers, told -/
def FST (H : Hp) (vs : List V) (fs : List (List Nat × List Nat)) : Prop := Paired (fun v (f : List Nat × List Nat) => ∃ p b m, v = V.ref p ∧ H p = some (.tup [.ref b, .ref m]) ∧ H b = some (.tup (mv f.1)) ∧ H m = some (.tup (mv f.2))) vs fs
theorem FAM.same {H H' : Hp} {bad : Addr → Prop} {vs : List V} {FS : List (List (List Nat))} (h : FAM H bad vs FS) (s : Same H H') : FAM H' bad vs FS := Paired.mapP h fun _ _ ⟨l, us, e, n, hl, m⟩ => ⟨l, us, e, n, s _ _ hl, m.same s⟩
theorem FST.same {H H' : Hp} {vs : List V} {fs : List (List Nat × List Nat)} (h : FST H vs fs) (s : Same H H') : FST H' vs fs := Paired.mapP h fun _ _ ⟨p, b, m, e, h1, h2, h3⟩ => ⟨p, b, m, e, s _ _ h1, s _ _ h2, s _ _ h3⟩
theorem FAM.upd {H : Hp} {bad : Addr → Prop} {vs : List V} {FS : List (List (List Nat))} {D : Addr} {o o' : HO} (h : FAM H bad vs FS) (e : H D = some o) (ne : ∀ xs, o ≠ .tup xs) (nb : bad D ∨ ∀ xs, o ≠ .lst xs) : FAM (upd H D o') bad vs FS :=
  Paired.mapP h fun _ _ ⟨l, us, e1, n, hl, m⟩ => ⟨l, us, e1, n, (upd_ne fun z => by
    rcases nb with nb | nb
    · rw [z] at n
      exact n nb
    · rw [z, e] at hl
      exact nb _ (Option.some.inj hl)).trans hl, m.upd e ne⟩
theorem FST.upd {H : Hp} {vs : List V} {fs : List (List Nat × List Nat)} {D : Addr} {o o' : HO} (h : FST H vs fs) (e : H D = some o) (ne : ∀ xs, o ≠ .tup xs) : FST (upd H D o') vs fs :=
  Paired.mapP h fun _ _ ⟨p, b, m, e1, h1, h2, h3⟩ => ⟨p, b, m, e1, (upd_ne (ne_of h1 e fun z => ne _ z.symm)).trans h1, (upd_ne (ne_of h2 e fun z => ne _ z.symm)).trans h2, (upd_ne (ne_of h3 e fun z => ne _ z.symm)).trans h3⟩
/-- what the walk over bodies holds -/
structure Fms (M : List (List Nat)) (FM : List (List Nat)) (FS : List (List (List Nat))) (fs : List (List Nat × List Nat)) : Prop where
  nd : FM.Nodup
  sg : ∀ B ∈ FM, Sg M.length (tb M) B
  fnd : (fs.map (·.1)).Nodup
  inn : ∀ f ∈ fs, f.1 ∈ FM
  gen : ∀ f ∈ fs, f.1.Pairwise (· < ·) ∧ (∀ x, x ∈ f.1 ↔ Gen (tb M) f.2 x) ∧ ∀ s ∈ f.2, s < M.length
  few : ∀ (i : Nat) (f : List Nat × List Nat), fs[i]? = some f → f.2.length ≤ i
  len : FS.length = fs.length
  fam : ∀ F ∈ FS, F.Nodup ∧ F ≠ [] ∧ ∀ B ∈ F, Sg M.length (tb M) B
theorem Fms.cnt {M : List (List Nat)} {FM : List (List Nat)} {FS : List (List (List Nat))} {fs : List (List Nat × List Nat)} {c : Nat} (h : Fms M FM FS fs) (b : FewSg M c) : fs.length ≤ c := by
  have := b _ h.fnd fun B hB => by
    obtain ⟨f, hf, rfl⟩ := List.mem_map.mp hB
    exact h.sg _ (h.inn f hf)
  rwa [List.length_map] at this
def spFamilies (K : PySem.W.Frag) : Sp := fun vs H Q _ => ∃ (a : Addr) (us : List V) (M : List (List Nat)) (ml : Addr) (S : List Nat) (c most : Nat), vs = [.ref a, .ref ml, .int (most : Int)] ∧ SqT K H a us ∧ TBL H us M ∧ M.length ≤ 200 ∧ Gp M.length (tb M) ∧
  H ml = some (.lst (mv S)) ∧ (∀ s ∈ S, s < M.length) ∧ FewSg M c ∧ c ≤ 200 ∧ c ≤ most ∧
  ∀ H' r frs FS, Same H H' → H' r = some (.lst frs) → FAM H' (fun _ => False) frs FS → FS.length ≤ c → (∀ F ∈ FS, F.Nodup ∧ F ≠ [] ∧ ∀ B ∈ F, Sg M.length (tb M) B) → Q (.ref r) H'
theorem scFamiliesOf : FnScope ["table", "makers", "most", "back", "singles", "found", "families", "firsts", "at", "body", "body_makers", "inside", "move", "single", "larger", "family", "turned"] ["table", "makers", "most"] (defScope sFamiliesOf) :=
  ⟨rfl, rfl, rfl, by decide +kernel, rfl, by decide +kernel, by decide +kernel⟩
theorem dFamiliesOf (T : Tx K mg) (DUndoingOf : Def P w K mg base CX0 1 "undoing_of" ["table"] (spBackOf K)) (DSingleMakers : Def P w K mg base CX0 2 "_single_makers" ["table"] (spSingles K)) (DBodyWith : Def P w K mg base CX0 1 "body_with" ["table", "body", "makers", "extra"] (spBodyW K)) (DFamilyOf : Def P w K mg base CX0 2 "_family_of" ["table", "back", "body", "makers"] (spFamily K)) : Def P w K mg base CX0 3 "families_of" ["table", "makers", "most"] (spFamilies K) := by
  refine T.t_families_of.def_ (N := ["table", "makers", "most", "back", "singles", "found", "families", "firsts", "at", "body", "body_makers", "inside", "move", "single", "larger", "family", "turned"]) scFamiliesOf (fun _ _ _ _ _ _ us hl => match us, hl with | [_, _, _], _ => rfl) ?_ ?_
  · intro vs H Q E h
    obtain ⟨a, us, M, ml, S, c, most, rfl, _⟩ := h
    rfl
  · intro f cd A out s H vs Q E hr h
    have hr1 : Rm 2 _ := hr.le (by decide)
    obtain ⟨a, us, M, ml, S, c, most, rfl, St, tl, few, g, hml, hS, bd, c200, cm, q⟩ := h
    refine ⟨_, (pss_cons (ps_set (i := 3) scFamiliesOf.nd rfl (Or.inl rfl) (pe_d DUndoingOf (hr1.le (by decide)) pass0 (pa_cons (pv 0) pa_nil)))
      (pss_cons (ps_set (i := 4) scFamiliesOf.nd rfl (Or.inl rfl) (pe_d DSingleMakers (hr1.le (by decide)) pass0 (pa_cons (pv 0) pa_nil)))
      (pss_cons (ps_set (i := 5) scFamiliesOf.nd rfl (Or.inl rfl) (pe_oneT hr.hu1 (pe_tup (pa_cons pe_int pa_nil)) pe_bl))
      (pss_cons (ps_set (i := 6) scFamiliesOf.nd rfl (Or.inl rfl) (pe_lst (pa_cons (pe_lst (pa_cons (pe_tup (pa_cons pe_int pa_nil)) pa_nil)) pa_nil)))
      (pss_cons (ps_set (i := 7) scFamiliesOf.nd rfl (Or.inl rfl) (pe_lst (pa_cons (pe_tup (pa_cons (pe_tup (pa_cons pe_int pa_nil)) (pa_cons (pe_tup pa_nil) pa_nil))) pa_nil)))
      (pss_cons (ps_set (i := 8) scFamiliesOf.nd rfl (Or.inl rfl) pe_int)
      (pss_cons (ps_while PassesOwn.never (pt_cmpR op_lt (pv 8) (pe_callB call_len_seq rfl T.f_len (by decide +kernel) (pa_cons (pv 7) pa_nil)) (nomark _))
        (pss_cons (ps_asg (pe_ix ix_list (pv 7) (pv 8) (fun _ _ => rfl)) (pg_tup rfl (pgs_cons (pg_name (i := 9) scFamiliesOf.nd rfl (Or.inl rfl)) (pgs_cons (pg_name (i := 10) scFamiliesOf.nd rfl (Or.inl rfl)) pgs_nil))))
        (pss_cons (ps_aug (i := 8) scFamiliesOf.nd rfl (Or.inl rfl) pe_int ip_add)
        (pss_cons (ps_setDcG (o0 := .dK []) (Put := PutI) (fun _ h b => dk_empty h b) putI_ok hr.hu1 (i := 11) (own := [("move", 12)]) (g := gName 12) (tt := tYes) rfl scFamiliesOf.nd rfl rfl (sw_trueD rfl rfl rfl rfl) (pi_tup (pv 9)) (blkOk_by (N := ["table", "makers", "most", "back", "singles", "found", "families", "firsts", "at", "body", "body_makers", "inside", "move", "single", "larger", "family", "turned"]) (sc := defScope sFamiliesOf) (by decide +kernel)) (fun _ _ _ _ _ => pg_name (i := 12) scFamiliesOf.nd rfl (Or.inl rfl)) (fun _ _ _ _ _ => pts_nil) (fun _ _ _ _ _ => (pv 12)) (fun _ _ _ _ _ => pe_bl))
        (pss_one (ps_for PassesOwn.never rfl (pi_list (pv 4)) (pg_name (i := 13) scFamiliesOf.nd rfl (Or.inl rfl))
          (pss_one (ps_if (pt_cmp (pc_dnotin hr.hu1 (pv 13) (pv 11))) (pss_cons (ps_set (i := 14) scFamiliesOf.nd rfl (Or.inl rfl) (pe_d DBodyWith (hr1.le (by decide)) pass0 (pa_cons (pv 0) (pa_cons (pv 9) (pa_cons (pv 10) (pa_cons (pv 13) pa_nil))))))
            (pss_one (ps_if (pt_cmp (pc_dnotin hr.hu1 (pv 14) (pv 5))) (pss_cons (ps_set (i := 15) scFamiliesOf.nd rfl (Or.inl rfl) (pe_d DFamilyOf (hr1.le (by decide)) pass0 (pa_cons (pv 0) (pa_cons (pv 3) (pa_cons (pv 14) (pa_cons (pv 1) pa_nil))))))
              (pss_cons (ps_expr (pe_bm PySem.F.plainAttrs_list PySem.F.slot_list_append PySem.F.type_list_append mt_append (pv 6) (pa_cons (pv 15) pa_nil)))
              (pss_cons (ps_expr (pe_bm PySem.F.plainAttrs_list PySem.F.slot_list_append PySem.F.type_list_append mt_append (pv 7) (pa_cons (pe_tup (pa_cons (pv 14) (pa_cons (pe_op op_catA (pv 10) (pe_tup (pa_cons (pv 13) pa_nil))) pa_nil))) pa_nil)))
              (pss_cons (ps_for PassesOwn.never rfl (pi_list (pv 15)) (pg_name (i := 16) scFamiliesOf.nd rfl (Or.inl rfl))
                (pss_one (ps_dput hr.hu1 (pv 5) (pv 16) pe_bl rfl)))
              (pss_one (ps_if (pt_cmpR op_gt (pe_callB call_len_dT rfl T.f_len (by decide +kernel) (pa_cons (pv 5) pa_nil)) (pv 2) (nomark _)) (pss_one (ps_ret pe_non)) pss_nil)))))) pss_nil))) pss_nil))))))))
      (pss_one (ps_ret (pv 6)))))))))), ?_⟩
    refine ⟨_, rfl, a, us, M, rfl, St, tl, few, fun i hi => row_zero g hi, fun H1 ba s1 hba => ?_⟩
    refine ⟨_, rfl, a, us, M, rfl, same_sqt s1 St, tl.same s1, few, g, fun H2 sl sL s2 _ hsl lsl oks => ?_⟩
    have s12 := s1.trans s2
    replace hba := s2 _ _ hba
    clear s1 s2
    refine fun D nD => ?_
    have kd := same_new (o := .dT []) nD
    have hD0 : (upd H2 D (.dT [])) D = some (.dT []) := upd_same
    refine ⟨by show 1 ≤ sizeLine; decide, fun z1 nz1 => ?_⟩
    have kz := kd.trans (same_new (o := .tup [.int 0]) nz1)
    have hz : (upd (upd H2 D (.dT [])) z1 (.tup [.int 0])) z1 = some (.tup ((key [0]).map kV)) := upd_same
    have dz : z1 ≠ D := (ne_of_none hD0 nz1).symm
    refine ⟨(upd_ne dz.symm).trans hD0, z1, key [0], rfl, hz, ?_⟩
    have s3 : Same H2 (upd (upd (upd H2 D (.dT [])) z1 (.tup [.int 0])) D (.dT [(key [0], .bl true)])) := fun x o e => (upd_ne (ne_of_none e nD)).trans (kz _ _ e)
    have hD3 : (upd (upd (upd H2 D (.dT [])) z1 (.tup [.int 0])) D (.dT [(key [0], .bl true)])) D = some (.dT (seen [[0]])) := upd_same
    generalize upd (upd (upd H2 D (.dT [])) z1 _) D _ = H3 at s3 hD3 ⊢
    clear kd kz hz hD0
    -- the classes
    refine ⟨by show 1 ≤ sizeLine; decide, fun z2 nz2 => ⟨by show 1 ≤ sizeLine; decide, fun l1 nl1 => ⟨by show 1 ≤ sizeLine; decide, fun Ff nFf => ?_⟩⟩⟩
    have hz2 : (upd H3 z2 (.tup [.int 0])) z2 = some (.tup (mv [0])) := upd_same
    have k1 := same_new (o := .tup [.int 0]) nz2
    generalize upd H3 z2 _ = H4 at hz2 k1 nl1 nFf ⊢
    have hl1 : (upd H4 l1 (.lst [.ref z2])) l1 = some (.lst [.ref z2]) := upd_same
    have k2 := same_new (o := .lst [.ref z2]) nl1
    generalize upd H4 l1 _ = H5 at hl1 k2 nFf ⊢
    have hFf : (upd H5 Ff (.lst [.ref l1])) Ff = some (.lst [.ref l1]) := upd_same
    have k3 := same_new (o := .lst [.ref l1]) nFf
    have dl1 : l1 ≠ Ff := ne_of_none hl1 nFf
    generalize upd H5 Ff _ = H6 at hFf k3 ⊢
    -- the bodies to go on from
    refine ⟨by show 1 ≤ sizeLine; decide, fun z3 nz3 => ⟨by show 0 ≤ sizeLine; decide, fun m0 nm0 => ⟨by show 2 ≤ sizeLine; decide, fun p0 np0 => ⟨by show 1 ≤ sizeLine; decide, fun Fi nFi => ?_⟩⟩⟩⟩
    have hz3 : (upd H6 z3 (.tup [.int 0])) z3 = some (.tup (mv [0])) := upd_same
    have k4 := same_new (o := .tup [.int 0]) nz3
    generalize upd H6 z3 _ = H7 at hz3 k4 nm0 np0 nFi ⊢
    have hm0 : (upd H7 m0 (.tup [])) m0 = some (.tup (mv [])) := upd_same
    have k5 := same_new (o := .tup []) nm0
    generalize upd H7 m0 _ = H8 at hm0 k5 np0 nFi ⊢
    have hp0 : (upd H8 p0 (.tup [.ref z3, .ref m0])) p0 = some (.tup [.ref z3, .ref m0]) := upd_same
    have k6 := same_new (o := .tup [.ref z3, .ref m0]) np0
    generalize upd H8 p0 _ = H9 at hp0 k6 nFi ⊢
    have hFi : (upd H9 Fi (.lst [.ref p0])) Fi = some (.lst [.ref p0]) := upd_same
    have k7 := same_new (o := .lst [.ref p0]) nFi
    have k47 := ((k4.trans k5).trans k6)
    have dFF : Ff ≠ Fi := ne_of_none (k47 _ _ hFf) nFi
    have dl2 : l1 ≠ Fi := ne_of_none (k47 _ _ (k3 _ _ hl1)) nFi
    have none0 : ∀ {x : Addr} {G : Hp}, Same H G → G x = none → H x = none := fun {x G} sm e => by
      cases z : H x with
      | none => rfl
      | some o => rw [sm _ _ z] at e; cases e
    have sA := (s12.trans s3)
    have nD0 : H D = none := none0 s12 nD
    have nFf0 : H Ff = none := none0 (sA.trans (k1.trans k2)) nFf
    have nFi0 : H Fi = none := none0 (((sA.trans (k1.trans k2)).trans k3).trans k47) nFi
    have sF : Same H3 (upd H9 Fi (.lst [.ref p0])) := (((k1.trans k2).trans k3).trans k47).trans k7
    have hFf' := k7 _ _ (k47 _ _ hFf)
    have fam0 : FAM (upd H9 Fi (.lst [.ref p0])) (fun x => x = Ff ∨ x = Fi) [.ref l1] [[[0]]] := .cons ⟨l1, [.ref z2], rfl, fun h => h.elim dl1 dl2, k7 _ _ (k47 _ _ (k3 _ _ hl1)), .cons ⟨z2, rfl, k7 _ _ (k47 _ _ (k3 _ _ (k2 _ _ hz2)))⟩ .nil⟩ .nil
    have fst0 : FST (upd H9 Fi (.lst [.ref p0])) [.ref p0] [([0], [])] := .cons ⟨p0, z3, m0, rfl, k7 _ _ hp0, k7 _ _ (k6 _ _ (k5 _ _ hz3)), k7 _ _ (k6 _ _ hm0)⟩ .nil
    generalize upd H9 Fi _ = H10 at hFi sF hFf' fam0 fst0 ⊢
    have hD10 := sF _ _ hD3
    have sG := sA.trans sF
    have keep2 : Same H2 H10 := s3.trans sF
    have hsl' := keep2 _ _ hsl
    have hba' := keep2 _ _ hba
    have dDf : D ≠ Ff := fun e => by rw [e, hFf'] at hD10; cases hD10
    have dDi : D ≠ Fi := fun e => by rw [e, hFi] at hD10; cases hD10
    have dsf : sl ≠ Ff ∧ sl ≠ Fi := ⟨ne_of_none (k2 _ _ (k1 _ _ (s3 _ _ hsl))) nFf, ne_of_none (k47 _ _ (k3 _ _ (k2 _ _ (k1 _ _ (s3 _ _ hsl))))) nFi⟩
    clear k1 k2 k3 k4 k5 k6 k7 k47 hFf hz2 hl1 hz3 hm0 hp0 hD3 nFf nFi np0 nm0 nz3 nl1 nz2 nz1 keep2 hba hsl dl1 dl2
    have sg0 : Sg M.length (tb M) [0] := ⟨List.pairwise_singleton _ _, fun x hx => by rw [List.mem_singleton.mp hx]; exact g.pos, List.mem_cons_self, fun x hx y hy => by rw [List.mem_singleton.mp hx, List.mem_singleton.mp hy, g.onel g.pos]; exact List.mem_cons_self⟩
    have nil0 : ∀ x, x ∈ [0] ↔ Gen (tb M) [] x := fun x => by
      constructor
      · intro h
        rw [List.mem_singleton.mp h]
        exact .one
      · intro h
        cases h with
        | one => exact List.mem_cons_self
        | mul hs _ => cases hs
    have fms0 : Fms M [[0]] [[[0]]] [([0], [])] := ⟨List.nodup_cons.mpr ⟨by simp, .nil⟩, fun B hB => by rw [List.mem_singleton.mp hB]; exact sg0, List.nodup_cons.mpr ⟨by simp, .nil⟩, fun f hf => by rw [List.mem_singleton.mp hf]; exact List.mem_cons_self,
      fun f hf => by rw [List.mem_singleton.mp hf]; exact ⟨sg0.up, nil0, fun s hs => by cases hs⟩,
      (fun i f hf => by
        match i, hf with
        | 0, hf => cases hf; exact Nat.le_refl _
        | i + 1, hf => cases hf),
      rfl, fun F hF => by rw [List.mem_singleton.mp hF]; exact ⟨List.nodup_cons.mpr ⟨by simp, .nil⟩, (by simp), fun B hB => by rw [List.mem_singleton.mp hB]; exact sg0⟩⟩
    have smG := sG
    refine while_by (fun σ H' => Same H H' ∧ H' ba = some (.tup (mv (bk M))) ∧ H' sl = some (.lst (mv sL)) ∧ ∃ (FM : List (List Nat)) (FS : List (List (List Nat))) (fs : List (List Nat × List Nat)) (vF vf : List V) (p : Nat) (y9 y10 y11 y12 y13 y14 y15 y16 : Option V),
        σ = [some (.ref a), some (.ref ml), some (.int (most : Int)), some (.ref ba), some (.ref sl), some (.ref D), some (.ref Ff), some (.ref Fi), some (.int (p : Int)), y9, y10, y11, y12, y13, y14, y15, y16] ∧
        H' D = some (.dT (seen FM)) ∧ H' Ff = some (.lst vF) ∧ FAM H' (fun x => x = Ff ∨ x = Fi) vF FS ∧ H' Fi = some (.lst vf) ∧ FST H' vf fs ∧ Fms M FM FS fs ∧ p ≤ fs.length)
      (fun σ _ => match σ with | [_, _, _, _, _, _, _, _, some (.int p), _, _, _, _, _, _, _, _] => 300 - p.toNat | _ => 0)
      ⟨sG, hba', hsl', [[0]], [[[0]]], [([0], [])], _, _, 0, _, _, _, _, _, _, _, _, rfl, hD10, hFf', fam0, hFi, fst0, fms0, Nat.zero_le _⟩ ?_ ?_
    · rintro σ H11 ⟨s11, hba11, hsl11, FM, FS, fs, vF, vf, p, y9, y10, y11, y12, y13, y14, y15, y16, rfl, hD11, hF11, fam, hi11, fst, fms, pf⟩
      have cnt := fms.cnt bd
      have lvf := pr_len fst
      refine ⟨_, rfl, _, rfl, Fi, _, rfl, .inl (lst_sql' hi11), _, _, rfl, rfl, _, rfl, ?_⟩
      rw [lvf]
      by_cases cc : p < fs.length
      · refine ifT (decide_eq_true (by omega)) ?_
        obtain ⟨f, hf⟩ : ∃ f, fs[p]? = some f := ⟨_, List.getElem?_eq_getElem cc⟩
        obtain ⟨u, hu, pa, b, m, rfl, hpa, hb, hm⟩ := pr_get fst hf
        refine ⟨_, rfl, _, rfl, Fi, _, _, _, rfl, rfl, lst_sql' hi11, atI_nat hu, ?_⟩
        refine ⟨pa, _, rfl, .inl (.inl hpa), rfl, _, _, rfl, ?_⟩
        refine ⟨_, _, rfl, rfl, ?_⟩
        refine ⟨_, rfl, _, _, rfl, rfl, ?_⟩
        obtain ⟨up, mB, hS2⟩ := fms.gen f (List.mem_of_getElem? hf)
        have lf2 := fms.few p f hf
        refine ⟨_, rfl, b, rfl, ⟨_, .inl (.inl hb)⟩, fun I nI => ?_⟩
        refine dcG_it (walk_tup (K := K) (a := b) (xs := mv f.1)) (fun i H' => Same H11 H' ∧ ∃ kv, H' I = some (.dK kv) ∧ kv.length ≤ i) ⟨same_new nI, [], upd_same, Nat.le_refl _⟩ (fun i H' _ e => .inl (.inl (e.1 _ _ hb))) ?_ ?_
        · rintro i v H12' H12 hi ⟨s12', kv, hI, lk⟩ ⟨rfl, hv⟩
          obtain ⟨li, rfl⟩ := mv_nth hv
          have bl := few_lt g (asc_nodup up) (sg_of g hS2 up mB).lt
          refine ⟨wipe_one, yes_ ?_⟩
          refine ⟨_, rfl, _, ⟨kv, .inl (f.1.getD i 0 : Int), rfl, hI, by rw [sizeLine_eq]; omega, rfl⟩, fun y o e => (upd_ne (ne_of_none e nI)).trans (s12' _ _ e), _, upd_same, ?_⟩
          have := length_putK kv (.inl (f.1.getD i 0 : Int)) (V.bl true)
          omega
        rintro H12 ⟨sI, kv, hI, _⟩
        have dIF : I ≠ Ff := (ne_of_none hF11 nI).symm
        have dIi : I ≠ Fi := (ne_of_none hi11 nI).symm
        have dID : I ≠ D := (ne_of_none hD11 nI).symm
        refine ⟨_, rfl, sl, rfl, ⟨_, lst_sql' (sI _ _ hsl11)⟩, for_list (K := K) (a := sl) (xs := mv sL) (fun i σ H' => Same H H' ∧ H' ba = some (.tup (mv (bk M))) ∧ H' sl = some (.lst (mv sL)) ∧ H' b = some (.tup (mv f.1)) ∧ H' m = some (.tup (mv f.2)) ∧ (∃ kv, H' I = some (.dK kv)) ∧
            ∃ (FM : List (List Nat)) (FS : List (List (List Nat))) (fs : List (List Nat × List Nat)) (vF vf : List V) (y12 y13 y14 y15 y16 : Option V),
            σ = [some (.ref a), some (.ref ml), some (.int (most : Int)), some (.ref ba), some (.ref sl), some (.ref D), some (.ref Ff), some (.ref Fi), some (.int ((p : Int) + 1)), some (.ref b), some (.ref m), some (.ref I), y12, y13, y14, y15, y16] ∧
            H' D = some (.dT (seen FM)) ∧ H' Ff = some (.lst vF) ∧ FAM H' (fun x => x = Ff ∨ x = Fi) vF FS ∧ H' Fi = some (.lst vf) ∧ FST H' vf fs ∧ Fms M FM FS fs ∧ p < fs.length)
          ⟨s11.trans sI, sI _ _ hba11, sI _ _ hsl11, sI _ _ hb, sI _ _ hm, ⟨kv, hI⟩, FM, FS, fs, vF, vf, _, _, _, _, _, rfl, sI _ _ hD11, sI _ _ hF11, fam.same sI, sI _ _ hi11, fst.same sI, fms, cc⟩ (fun i σ H' _ e => lst_sql' e.2.2.1) ?_ ?_⟩
        · rintro i v σ H13 hv ⟨s13, hba13, hsl13, hb13, hm13, ⟨kv, hI13⟩, FM, FS, fs, vF, vf, z12, z13, z14, z15, z16, rfl, hD13, hF13, fam, hi13, fst, fms, pf⟩
          obtain ⟨li, rfl⟩ := mv_nth hv
          obtain ⟨x0, xN⟩ := oks _ (GT.getD_mem li)
          generalize sL.getD i 0 = x at x0 xN ⊢
          have cnt := fms.cnt bd
          have lvf := pr_len fst
          have lvF := pr_len fam
          refine ⟨_, rfl, _, rfl, I, valV kv (Sum.inl (x : Int)), rfl, DGet.k (k := Sum.inl (x : Int)) hI13, ?_⟩
          have same0 : Same H H13 ∧ H13 ba = some (.tup (mv (bk M))) ∧ H13 sl = some (.lst (mv sL)) ∧ H13 b = some (.tup (mv f.1)) ∧ H13 m = some (.tup (mv f.2)) ∧ (∃ kv, H13 I = some (.dK kv)) := ⟨s13, hba13, hsl13, hb13, hm13, kv, hI13⟩
          cases hin : valV kv (Sum.inl (x : Int)) with
          | some w0 =>
            refine ⟨_, rfl, ?_⟩
            refine ifF rfl ?_
            exact ⟨s13, hba13, hsl13, hb13, hm13, ⟨kv, hI13⟩, FM, FS, fs, vF, vf, _, _, _, _, _, rfl, hD13, hF13, fam, hi13, fst, fms, pf⟩
          | none =>
            refine ⟨_, rfl, ?_⟩
            refine ifT rfl ?_
            have hS3 : ∀ s ∈ f.2 ++ [x], s < M.length := fun s hs => by
              rcases List.mem_append.mp hs with hs | hs
              · exact hS2 s hs
              · rw [List.mem_singleton.mp hs]
                exact xN
            refine ⟨_, rfl, _, rfl, _, rfl, _, rfl, a, us, M, b, f.1, m, f.2, x, rfl, same_sqt s13 St, tl.same s13, few, g, .inl (.inl hb13), up, mB, .inl (.inl hm13), by omega, hS3, fun H14 r T s14 hr upT mT => ?_⟩
            have sT := sg_of g hS3 upT mT
            have kr : H14 r = some (.tup ((key T).map kV)) := by rw [key_mv]; exact hr
            replace s13 := s13.trans s14
            replace hba13 := s14 _ _ hba13
            replace hsl13 := s14 _ _ hsl13
            replace hb13 := s14 _ _ hb13
            replace hm13 := s14 _ _ hm13
            replace hI13 := s14 _ _ hI13
            replace hD13 := s14 _ _ hD13
            replace hF13 := s14 _ _ hF13
            replace hi13 := s14 _ _ hi13
            replace fam := fam.same s14
            replace fst := fst.same s14
            clear s14 same0
            refine ⟨_, rfl, _, rfl, D, _, rfl, DGet.t hD13 kr, ?_⟩
            rw [seen_in]
            by_cases inn : T ∈ FM
            · rw [decide_eq_true inn]
              refine ⟨_, rfl, ?_⟩
              refine ifF rfl ?_
              exact ⟨s13, hba13, hsl13, hb13, hm13, ⟨kv, hI13⟩, FM, FS, fs, vF, vf, _, _, _, _, _, rfl, hD13, hF13, fam, hi13, fst, fms, pf⟩
            rw [decide_eq_false inn]
            refine ⟨_, rfl, ?_⟩
            refine ifT rfl ?_
            refine ⟨_, rfl, _, rfl, _, rfl, _, rfl, a, us, M, ba, r, T, ml, S, c, rfl, same_sqt s13 St, tl.same s13, few, g, .inl (.inl hba13), hr, sT, s13 _ _ hml, hS, bd, c200, fun H15 lf us2 fam' s15 nlf hlf mfam nd' sg' inT => ?_⟩
            have lfF : lf ≠ Ff := (ne_of_none hF13 nlf).symm
            have lfi : lf ≠ Fi := (ne_of_none hi13 nlf).symm
            replace s13 := s13.trans s15
            replace hba13 := s15 _ _ hba13
            replace hsl13 := s15 _ _ hsl13
            replace hb13 := s15 _ _ hb13
            replace hm13 := s15 _ _ hm13
            replace hI13 := s15 _ _ hI13
            replace hD13 := s15 _ _ hD13
            replace hF13 := s15 _ _ hF13
            replace hi13 := s15 _ _ hi13
            replace hr := s15 _ _ hr
            replace fam := fam.same s15
            replace fst := fst.same s15
            have cF := bd fam' nd' sg'
            have lus2 := pr_len mfam
            refine ⟨_, rfl, .inl ⟨rfl, _, lst_sql' hF13⟩, _, rfl, Ff, _, _, rfl, rfl, hF13, by rw [lvF, fms.len, sizeLine_eq]; omega, ?_⟩
            have ntF : ∀ xs : List V, HO.lst vF ≠ .tup xs := fun _ e => by cases e
            have s16 : Same H (upd H15 Ff (.lst (vF ++ [.ref lf]))) := fun y o e => (upd_ne (ne_of_none e nFf0)).trans (s13 _ _ e)
            have up16 : ∀ {y : Addr} {o : HO}, y ≠ Ff → H15 y = some o → (upd H15 Ff (.lst (vF ++ [.ref lf]))) y = some o := fun ne e => (upd_ne ne).trans e
            have hF16 : (upd H15 Ff (.lst (vF ++ [.ref lf]))) Ff = some (.lst (vF ++ [.ref lf])) := upd_same
            have fam16 : FAM (upd H15 Ff (.lst (vF ++ [.ref lf]))) (fun x => x = Ff ∨ x = Fi) (vF ++ [.ref lf]) (FS ++ [fam']) := pr_snoc (fam.upd hF13 ntF (.inl (.inl rfl))) ⟨lf, us2, rfl, fun h => h.elim lfF lfi, up16 lfF hlf, mfam.upd hF13 ntF⟩
            have fst16 := fst.upd (o' := .lst (vF ++ [.ref lf])) hF13 ntF
            have hba16 := up16 (ne_of hba13 hF13 fun e => by cases e) hba13
            have hsl16 := up16 dsf.1 hsl13
            have hb16 := up16 (ne_of hb13 hF13 fun e => by cases e) hb13
            have hm16 := up16 (ne_of hm13 hF13 fun e => by cases e) hm13
            have hI16 := up16 dIF hI13
            have hD16 := up16 dDf hD13
            have hi16 := up16 dFF.symm hi13
            have hr16 := up16 (ne_of hr hF13 fun e => by cases e) hr
            have hlf16 := up16 lfF hlf
            have mfam16 := mfam.upd (o' := .lst (vF ++ [.ref lf])) hF13 ntF
            generalize upd H15 Ff _ = H16 at s16 hF16 fam16 fst16 hba16 hsl16 hb16 hm16 hI16 hD16 hi16 hr16 hlf16 mfam16 ⊢
            clear up16 hba13 hsl13 hb13 hm13 hI13 hD13 hF13 hi13 hr hlf mfam fam fst s15 s13
            refine ⟨_, rfl, .inl ⟨rfl, _, lst_sql' hi16⟩, _, rfl, _, rfl, _, rfl, by show 1 ≤ sizeLine; decide, fun c1 nc1 => ?_⟩
            have k1 := same_new (o := .tup [.int (x : Int)]) nc1
            refine cat_tup (.inl (.inl (k1 _ _ hm16))) upd_same (by rw [mv_len, sizeLine_eq]; show _ + 1 ≤ _; omega) (fun e => by cases e) fun H17 w s17 hw => ?_
            have hw' : H17 w = some (.tup (mv (f.2 ++ [x]))) := by rw [hw, mv_snoc]
            replace k1 := k1.trans s17
            refine ⟨by show 2 ≤ sizeLine; decide, fun p1 np1 => ?_⟩
            have k2 := k1.trans (same_new (o := .tup [.ref r, .ref w]) np1)
            have hw2 := same_new (o := .tup [.ref r, .ref w]) np1 _ _ hw'
            have hp1 : (upd H17 p1 (.tup [.ref r, .ref w])) p1 = some (.tup [.ref r, .ref w]) := upd_same
            generalize upd H17 p1 _ = H18 at k2 hw2 hp1 ⊢
            have hi18 := k2 _ _ hi16
            refine ⟨Fi, _, _, rfl, rfl, hi18, by rw [lvf, sizeLine_eq]; omega, ?_⟩
            have nti : ∀ xs : List V, HO.lst vf ≠ .tup xs := fun _ e => by cases e
            have s19 : Same H (upd H18 Fi (.lst (vf ++ [.ref p1]))) := fun y o e => (upd_ne (ne_of_none e nFi0)).trans (k2 _ _ (s16 _ _ e))
            have up19 : ∀ {y : Addr} {o : HO}, y ≠ Fi → H16 y = some o → (upd H18 Fi (.lst (vf ++ [.ref p1]))) y = some o := fun ne e => (upd_ne ne).trans (k2 _ _ e)
            have hi19 : (upd H18 Fi (.lst (vf ++ [.ref p1]))) Fi = some (.lst (vf ++ [.ref p1])) := upd_same
            have tupne : ∀ {y : Addr} {xs : List V}, H18 y = some (.tup xs) → (upd H18 Fi (.lst (vf ++ [.ref p1]))) y = some (.tup xs) := fun e => (upd_ne (ne_of e hi18 fun z => by cases z)).trans e
            have fst19 : FST (upd H18 Fi (.lst (vf ++ [.ref p1]))) (vf ++ [.ref p1]) (fs ++ [(T, f.2 ++ [x])]) := pr_snoc ((fst16.same k2).upd hi18 nti) ⟨p1, r, w, rfl, tupne hp1, tupne (k2 _ _ hr16), tupne hw2⟩
            have fam19 := (fam16.same k2).upd (o' := .lst (vf ++ [.ref p1])) hi18 nti (.inl (.inr rfl))
            have hba19 := tupne (k2 _ _ hba16)
            have hsl19 := up19 dsf.2 hsl16
            have hb19 := tupne (k2 _ _ hb16)
            have hm19 := tupne (k2 _ _ hm16)
            have hI19 := up19 dIi hI16
            have hD19 := up19 dDi hD16
            have hF19 := up19 dFF hF16
            have hlf19 := up19 lfi hlf16
            have mfam19 := (mfam16.same k2).upd (o' := .lst (vf ++ [.ref p1])) hi18 nti
            generalize upd H18 Fi _ = H19 at s19 hi19 fst19 fam19 hba19 hsl19 hb19 hm19 hI19 hD19 hF19 hlf19 mfam19 ⊢
            clear up19 tupne hba16 hsl16 hb16 hm16 hI16 hD16 hi16 hr16 hlf16 mfam16 fam16 fst16 hF16 k2 k1 hw2 hp1 hi18 nc1 np1 hw hw' s17 s16
            try dsimp only
            show tSeq _ _ _ _ _
            refine seq_rest' (fun σ H' => Same H H' ∧ H' ba = some (.tup (mv (bk M))) ∧ H' sl = some (.lst (mv sL)) ∧ H' b = some (.tup (mv f.1)) ∧ H' m = some (.tup (mv f.2)) ∧ (∃ kv, H' I = some (.dK kv)) ∧
                ∃ (FM' : List (List Nat)) (y12 y13 y14 y15 y16 : Option V),
                σ = [some (.ref a), some (.ref ml), some (.int (most : Int)), some (.ref ba), some (.ref sl), some (.ref D), some (.ref Ff), some (.ref Fi), some (.int ((p : Int) + 1)), some (.ref b), some (.ref m), some (.ref I), y12, y13, y14, y15, y16] ∧
                H' D = some (.dT (seen FM')) ∧ H' Ff = some (.lst (vF ++ [.ref lf])) ∧ FAM H' (fun x => x = Ff ∨ x = Fi) (vF ++ [.ref lf]) (FS ++ [fam']) ∧ H' Fi = some (.lst (vf ++ [.ref p1])) ∧ FST H' (vf ++ [.ref p1]) (fs ++ [(T, f.2 ++ [x])]) ∧
                FM'.Nodup ∧ (∀ B ∈ FM', Sg M.length (tb M) B) ∧ (∀ B ∈ FM, B ∈ FM') ∧ ∀ B ∈ fam', B ∈ FM') ?_ ?_
            rotate_left
            · intro N hN
              refine ⟨_, rfl, lf, rfl, ⟨_, lst_sql' hlf19⟩, for_list (K := K) (a := lf) (xs := us2) (fun k σ H' => Same H H' ∧ H' ba = some (.tup (mv (bk M))) ∧ H' sl = some (.lst (mv sL)) ∧ H' b = some (.tup (mv f.1)) ∧ H' m = some (.tup (mv f.2)) ∧ (∃ kv, H' I = some (.dK kv)) ∧ H' lf = some (.lst us2) ∧ MR H' us2 fam' ∧
                ∃ (FM' : List (List Nat)) (y12 y13 y14 y15 y16 : Option V),
                σ = [some (.ref a), some (.ref ml), some (.int (most : Int)), some (.ref ba), some (.ref sl), some (.ref D), some (.ref Ff), some (.ref Fi), some (.int ((p : Int) + 1)), some (.ref b), some (.ref m), some (.ref I), y12, y13, y14, y15, y16] ∧
                H' D = some (.dT (seen FM')) ∧ H' Ff = some (.lst (vF ++ [.ref lf])) ∧ FAM H' (fun x => x = Ff ∨ x = Fi) (vF ++ [.ref lf]) (FS ++ [fam']) ∧ H' Fi = some (.lst (vf ++ [.ref p1])) ∧ FST H' (vf ++ [.ref p1]) (fs ++ [(T, f.2 ++ [x])]) ∧
                FM'.Nodup ∧ (∀ B ∈ FM', Sg M.length (tb M) B) ∧ (∀ B ∈ FM, B ∈ FM') ∧ ∀ B ∈ fam'.take k, B ∈ FM')
                ⟨s19, hba19, hsl19, hb19, hm19, ⟨kv, hI19⟩, hlf19, mfam19, FM, _, _, _, _, _, rfl, hD19, hF19, fam19, hi19, fst19, fms.nd, fms.sg, fun B h => h, by rw [List.take_zero]; exact fun B h => by cases h⟩ (fun k σ H' _ e => lst_sql' e.2.2.2.2.2.2.1) ?_ ?_⟩
              · rintro k v σ H20 hv ⟨s20, hba20, hsl20, hb20, hm20, ⟨kv, hI20⟩, hlf20, mf20, FM', w12, w13, w14, w15, w16, rfl, hD20, hF20, fam20, hi20, fst20, nd20, sg20, sub20, tk20⟩
                obtain ⟨B, hB, bb, rfl, hbb⟩ := pr_at mf20 hv
                have kb : H20 bb = some (.tup ((key B).map kV)) := by rw [key_mv]; exact hbb
                have cM := bd FM' nd20 sg20
                refine ⟨_, rfl, _, rfl, D, _, rfl, DPut.t hD20 kb (by rw [seen_len, sizeLine_eq]; omega), ?_⟩
                have ntD : ∀ xs : List V, HO.dT (seen FM') ≠ .tup xs := fun _ e => by cases e
                have ntD2 : ∀ xs : List V, HO.dT (seen FM') ≠ .lst xs := fun _ e => by cases e
                have fin : ∃ FM2, FM2.Nodup ∧ (∀ B ∈ FM2, Sg M.length (tb M) B) ∧ (∀ B ∈ FM', B ∈ FM2) ∧ B ∈ FM2 ∧ putK (seen FM') (key B) (.bl true) = seen FM2 := by
                  by_cases inB : B ∈ FM'
                  · exact ⟨FM', nd20, sg20, fun _ h => h, inB, seen_old inB⟩
                  · refine ⟨FM' ++ [B], ?_, fun C hC => ?_, fun _ h => List.mem_append_left _ h, List.mem_append_right _ List.mem_cons_self, seen_put inB⟩
                    · rw [List.nodup_append]
                      exact ⟨nd20, List.nodup_cons.mpr ⟨by simp, .nil⟩, fun x hx y hy e => by rw [List.mem_singleton] at hy; exact inB (by rw [← hy, ← e]; exact hx)⟩
                    · rcases List.mem_append.mp hC with hC | hC
                      · exact sg20 C hC
                      · rw [List.mem_singleton.mp hC]
                        exact sg' B (List.mem_of_getElem? hB)
                obtain ⟨FM2, n2, g2, sub2, in2, e2⟩ := fin
                rw [e2]
                have tD : ∀ {y : Addr} {xs : List V}, H20 y = some (.tup xs) → (upd H20 D (.dT (seen FM2))) y = some (.tup xs) := fun e => (upd_ne (ne_of e hD20 fun z => by cases z)).trans e
                have lD : ∀ {y : Addr} {xs : List V}, H20 y = some (.lst xs) → (upd H20 D (.dT (seen FM2))) y = some (.lst xs) := fun e => (upd_ne (ne_of e hD20 fun z => by cases z)).trans e
                refine ⟨fun y o e => (upd_ne (ne_of_none e nD0)).trans (s20 _ _ e), tD hba20, lD hsl20, tD hb20, tD hm20, ⟨kv, (upd_ne dID).trans hI20⟩, lD hlf20, mf20.upd hD20 ntD, FM2, _, _, _, _, _, rfl, upd_same, lD hF20, fam20.upd hD20 ntD (.inr ntD2), lD hi20, fst20.upd hD20 ntD, n2, g2, fun C hC => sub2 C (sub20 C hC), fun C hC => ?_⟩
                rw [List.take_add_one, hB] at hC
                rcases List.mem_append.mp hC with hC | hC
                · exact sub2 C (tk20 C hC)
                · rw [List.mem_singleton.mp hC]
                  exact in2
              · rintro σ H20 ⟨s20, hba20, hsl20, hb20, hm20, hI20, hlf20, mf20, FM', w12, w13, w14, w15, w16, rfl, hD20, hF20, fam20, hi20, fst20, nd20, sg20, sub20, tk20⟩
                rw [lus2, List.take_of_length_le (Nat.le_refl _)] at tk20
                exact hN _ _ ⟨s20, hba20, hsl20, hb20, hm20, hI20, FM', _, _, _, _, _, rfl, hD20, hF20, fam20, hi20, fst20, nd20, sg20, sub20, tk20⟩
            · rintro σ H20 ⟨s20, hba20, hsl20, hb20, hm20, hI20, FM', w12, w13, w14, w15, w16, rfl, hD20, hF20, fam20, hi20, fst20, nd20, sg20, sub20, tk20⟩
              have cM := bd FM' nd20 sg20
              refine ⟨_, rfl, D, _, rfl, hD20, _, rfl, _, _, rfl, rfl, _, rfl, ?_⟩
              rw [seen_len]
              refine ifF (decide_eq_false (by omega)) ?_
              have fms' : Fms M FM' (FS ++ [fam']) (fs ++ [(T, f.2 ++ [x])]) := by
                refine ⟨nd20, sg20, ?_, fun f' hf' => ?_, fun f' hf' => ?_, fun i f' hf' => ?_, by rw [List.length_append, List.length_append, fms.len]; rfl, fun F hF => ?_⟩
                · rw [List.map_append, List.nodup_append]
                  refine ⟨fms.fnd, List.nodup_cons.mpr ⟨by simp, .nil⟩, fun y hy z hz e => ?_⟩
                  have ez : z = T := List.mem_singleton.mp hz
                  obtain ⟨f', hf', e'⟩ := List.mem_map.mp hy
                  exact inn (by rw [← ez, ← e, ← e']; exact fms.inn f' hf')
                · rcases List.mem_append.mp hf' with hf' | hf'
                  · exact sub20 _ (fms.inn f' hf')
                  · rw [List.mem_singleton.mp hf']
                    exact tk20 T inT
                · rcases List.mem_append.mp hf' with hf' | hf'
                  · exact fms.gen f' hf'
                  · rw [List.mem_singleton.mp hf']
                    exact ⟨upT, mT, hS3⟩
                · by_cases lt : i < fs.length
                  · rw [List.getElem?_append_left lt] at hf'
                    exact fms.few i f' hf'
                  · rw [List.getElem?_append_right (by omega)] at hf'
                    have e0 : i - fs.length = 0 := by
                      have := (List.getElem?_eq_some_iff.mp hf').1
                      have l1 : [(T, f.2 ++ [x])].length = 1 := rfl
                      omega
                    rw [e0] at hf'
                    rw [← Option.some.inj hf']
                    show (f.2 ++ [x]).length ≤ i
                    rw [List.length_append]
                    show _ + 1 ≤ i
                    omega
                · rcases List.mem_append.mp hF with hF | hF
                  · exact fms.fam F hF
                  · rw [List.mem_singleton.mp hF]
                    exact ⟨nd', List.ne_nil_of_mem inT, sg'⟩
              exact ⟨s20, hba20, hsl20, hb20, hm20, hI20, FM', _, _, _, _, _, _, _, _, _, rfl, hD20, hF20, fam20, hi20, fst20, fms', by rw [List.length_append]; omega⟩
        · rintro σ H13 ⟨s13, hba13, hsl13, hb13, hm13, hI13, FM, FS, fs, vF, vf, z12, z13, z14, z15, z16, rfl, hD13, hF13, fam, hi13, fst, fms, pf⟩
          have cnt := fms.cnt bd
          refine ⟨⟨s13, hba13, hsl13, FM, FS, fs, vF, vf, p + 1, _, _, _, _, _, _, _, _, by rw [Int.natCast_add]; rfl, hD13, hF13, fam, hi13, fst, fms, pf⟩, ?_⟩
          show 300 - ((p : Int) + 1).toNat < 300 - ((p : Nat) : Int).toNat
          omega
      · refine ifF (decide_eq_false (by omega)) ?_
        refine ⟨_, rfl, q _ Ff vF FS s11 hF11 (Paired.mapP fam fun _ _ ⟨l, us, e, _, h⟩ => ⟨l, us, e, fun z => z, h⟩) (by rw [fms.len]; exact cnt) fms.fam⟩
    · rintro σ H' Q1 Q2 m ⟨v, hv, v2, hv2, z, ys, e1, e2, i, j, e3, e4, b, e5, q⟩
      exact ⟨v, hv, v2, hv2, z, ys, e1, e2, i, j, e3, e4, b, e5, m _ _ q⟩
end
end K08


set_option Elab.async false
set_option linter.all false
set_option maxRecDepth 100000
set_option maxHeartbeats 4000000
namespace K08
open PySem PySem.Spec PyProof.Rows L2 MM GT
/-! own words for the readings: a step, its side -/
local macro_rules | `(tactic| walk_at "side") => `(tactic| first
  | omega
  | exact ⟨by omega, by omega⟩
  | exact Or.inl ⟨by omega, by omega⟩
  | exact Or.inr ⟨by omega, by omega⟩
  | (show CPw _ _; decide +kernel)
  | (show (0 : Int) < _; decide +kernel)
  | (show CDivW _ _; first | assumption | exact ⟨by decide, by decide +kernel⟩))
local macro_rules | `(tactic| walk_at "here") => `(tactic| first
  | assumption
  | exact upd_same
  | exact Or.inl (Or.inl upd_same)
  | exact Or.inl upd_same)
local macro_rules | `(tactic| walk_at "one") => `(tactic| first
  | refine ⟨_, rfl, ?_⟩
  | refine Or.inl ⟨_, rfl, ?_⟩
  | refine Or.inr ⟨_, rfl, ?_⟩
  | refine ⟨_, _, rfl, rfl, (by walk_at "side"), ?_⟩
  | refine ⟨_, _, rfl, rfl, ?_⟩
  | refine ⟨_, _, rfl, Or.inl (by walk_at "here"), ?_⟩
  | refine ⟨_, _, rfl, Or.inr (by walk_at "here"), ?_⟩
  | refine ⟨_, _, rfl, (by walk_at "here"), ?_⟩
  | refine ⟨_, _, _, _, rfl, rfl, (by walk_at "here"), rfl, ?_⟩
  | refine ⟨_, _, rfl, ?_⟩
  | refine ifT (by rfl) ?_
  | refine ifF (by rfl) ?_
  | refine ifT (decide_eq_true (by omega)) ?_
  | refine ifF (decide_eq_false (by omega)) ?_)
local macro_rules | `(tactic| walk_at "st") => `(tactic| repeat (walk_at "one"))

section
variable {P : Program} {w : World} {K : PySem.W.Frag} {mg : Str → Option Value} {base : Heap}
def spMask (K : PySem.W.Frag) : Sp := fun vs H Q _ => ∃ (b : Addr) (B : List Nat), vs = [.ref b] ∧ SqT K H b (mv B) ∧ (∀ x ∈ B, x ≤ 1000) ∧ ∀ z : Int, Q (.int z) H
theorem scMaskOf : FnScope ["body", "mask", "move"] ["body"] (defScope sMaskOf) :=
  ⟨rfl, rfl, rfl, by decide +kernel, rfl, by decide +kernel, by decide +kernel⟩
theorem dMaskOf (T : Tx K mg) : Def P w K mg base CX0 1 "mask_of" ["body"] (spMask K) := by
  refine T.t_mask_of.def_ (N := ["body", "mask", "move"]) scMaskOf (fun _ _ _ _ _ _ us hl => match us, hl with | [_], _ => rfl) ?_ ?_
  · intro vs H Q E h
    obtain ⟨b, B, rfl, _⟩ := h
    rfl
  · intro f cd A out s H vs Q E hr h
    obtain ⟨b, B, rfl, Sb, small, q⟩ := h
    refine ⟨_, (pss_cons (ps_set (i := 1) scMaskOf.nd rfl (Or.inl rfl) pe_int)
      (pss_cons (ps_for PassesOwn.never rfl (pi_tup (pv 0)) (pg_name (i := 2) scMaskOf.nd rfl (Or.inl rfl))
        (pss_one (ps_set (i := 1) scMaskOf.nd rfl (Or.inl rfl) (pe_op op_or (pv 1) (pe_op op_oneShl pe_int (pv 2))))))
      (pss_one (ps_ret (pv 1))))), ?_⟩
    refine ⟨_, rfl, b, rfl, ⟨_, Sb⟩, for_tup (K := K) (a := b) (xs := mv B) (fun i σ H' => H' = H ∧ ∃ (z : Int) (y2 : Option V), σ = [some (.ref b), some (.int z), y2]) ⟨rfl, 0, _, rfl⟩ (fun i σ H' _ e => by rw [e.1]; exact Sb) ?_ ?_⟩
    · rintro i v σ H' hv ⟨rfl, z, y2, rfl⟩
      obtain ⟨li, rfl⟩ := mv_nth hv
      have xs := small _ (GT.getD_mem li)
      refine ⟨_, rfl, _, rfl, B.getD i 0, rfl, rfl, by omega, _, _, rfl, rfl, rfl, _, _, rfl⟩
    · rintro σ H' ⟨rfl, z, y2, rfl⟩
      exact ⟨_, rfl, q z⟩
end
end K08


set_option Elab.async false
set_option maxRecDepth 100000
set_option maxHeartbeats 2000000
set_option linter.all false
/-! own exceptions over any built-in base, whose own __init__ asks the base's and keeps one field -/
namespace ME
open PySem PySem.Spec PyProof.Rows L2

/-- the class at C stands over B, by own classes between, or none -/
structure Over (K : PySem.W.Frag) (C : Addr) (B newId initId : String) (top : List Value) : Prop where
  base : ExcBaseFacts B newId initId top
  put : StoreFacts B top "object.__setattr__" "object"
  row : ∃ nm q N bs bm sn sub ab col dd k0 k1 k2 k3 k5,
    K.lookup C = some (excClassObj nm q C N bs bm true sn sub ab col dd k0 k1 k2 k3 k5 newId) ∧ PySem.W.excTail top bm = true
  hook : PySem.W.findIn K (.ref C) "__setattr__" = some (some (.builtin "object.__setattr__"))
  isE : PySem.W.subIn K (.ref C) (.type "BaseException") = some true
  meta_ : PySem.W.typeIn K (.ref C) = some (.type "type")
  keep : PySem.W.keepIn K (.ref C) = true

section
open Builtin Builtin.ObjectAttr
variable {prog : Program} {w : World} {A : Around} {R : Result → Shared → Prop} {hp : Heap} {g : Array GenState} {d : Drawn}
  {t : Nat} {os : OsState} {K : PySem.W.Frag} {C x : Addr} {B newId initId : String} {top : List Value}
/-- the first field of an exception lays its dict -/
theorem first_put {name : Str} {tk : Tok} {v : Value} {fv : Array Value} (T : Over K C B newId initId top) (X : K.In hp)
    (hx : hp.get? x = some { cls := .ref C, data := .fields fv })
    (ha : PySem.W.findIn K (.ref C) name = some none)
    (hq : ∀ h' tk' dx, (∀ b o, b ≠ x → hp.get? b = some o → h'.get? b = some o) → hp.objs.size ≤ dx → dx ≠ x →
      h'.get? x = some { cls := .ref C, dict := some dx, data := .fields fv } →
      h'.Ns1 dx (fun y => if y = name then some v else none) → R (.ok (.ret .none)) ⟨h', g, d, tk', os⟩) :
    codeAny (model prog w) A (.call (.builtin "object.__setattr__") ⟨[.ref x, .str name tk, v], []⟩) R ⟨hp, g, d, t, os⟩ := by
  obtain ⟨nm, q, N, bs, bm, sn, sub, ab, col, dd, k0, k1, k2, k3, k5, hC, hbm⟩ := T.row
  have hcd : PySem.W.clsIn K C = some { name := nm, bases := bs, mro := .ref C :: bm, ns := N, qualname := q, hasDict := true, slotNames := sn, subclasses := sub, abstract := ab, collection := col, hasDel := false } := by
    unfold PySem.W.clsIn
    rw [hC] <;> rfl
  have hall : PySem.W.excTail top (.ref C :: bm) = true := hbm
  have inst : PySem.W.InstAt hp x { cls := .ref C, data := .fields fv } C none := ⟨hx, rfl, rfl, trivial⟩
  have S := PySem.F.store_object
  have far : x ≠ hp.objs.size := Nat.ne_of_lt (Heap.lt_size hx)
  have obj : (Value.ref C :: bm).contains (.type "object") = true :=
    (PySem.W.excTail_contains "object" _ hall).trans T.put.hasOwner
  have mro : PySem.W.mroIn K C (.type "object") = some true := by
    unfold PySem.W.mroIn
    rw [hcd, Option.bind_some]
    simp only [List.isEmpty_cons, obj, Bool.false_eq_true, if_false]
  have isObj : PySem.W.Looks (model prog w) hp (isInstance (.ref x) (.type "object")) true :=
    inst.type.andThen (PySem.W.looks_mroIn X mro)
  have rd : PySem.W.Looks (model prog w) hp (classData C) _ := PySem.W.looks_clsIn X hcd
  have rm : PySem.W.Looks (model prog w) hp (mroOf (.ref C)) (.ref C :: bm) := rd.andThen .now
  have none_ : PySem.W.Looks (model prog w) hp (storeTaker? none) none := .now
  refine codeAny_call_builtin S.slot.plain S.entry (@PySem.W.check_slot (model prog w) _ _ ⟨hp, g, d, t, os⟩
    "object.__setattr__" "object" "__setattr__" (.ref x) [.str name tk, v] [] _ S.kind S.split isObj (S.args (.ref x) (.str name tk) v) ?_)
  rw [PySem.W.osa_eq, refuse_eq]
  refine wpAny_bind (wpAny_bind (inst.type.at (wpAny_bind (rm.at ?_))))
  rw [PySem.W.excTail_pass _ (T.put.passes _) _ hall]
  refine wpAny_pure (wpAny_bind (inst.type.at (wpAny_bind ((PySem.W.looks_findIn X ha).at (wpAny_bind (none_.at ?_))))))
  show wpAny _ _ (storeInOwnDict (.ref x) (.ref C) (.str name tk) name v false) _ _ _
  unfold storeInOwnDict ownDictForStores
  repeat (first
    | with_reducible refine PySem.HandSPX.store_in_new ?_ ?_
    | with_reducible refine wpAny_loadPart_at hx ?_
    | with_reducible refine rd.at ?_
    | wp_step)
  · refine ⟨_, #[], _, (Heap.get?_update_ne _ _ _ _ far.symm).trans (Heap.get?_push_at rfl rfl), rfl, ?_, fun _ => rfl⟩
    intro e he
    simp at he
  · intro h' tk' hn' hs
    have there : (hp.push { cls := .type "dict", data := .dict #[] }).get? x = some { cls := .ref C, data := .fields fv } :=
      Heap.get?_push_of_some _ hx
    refine hq h' tk' hp.objs.size ?_ (Nat.le_refl _) far.symm ((hs.2 x far).trans (Heap.get?_update_self _ there rfl)) hn'
    intro b o hb ho
    have nb : b ≠ hp.objs.size := Nat.ne_of_lt (Heap.lt_size ho)
    rw [hs.2 b nb, Heap.get?_update_ne _ _ _ _ hb]
    exact Heap.get?_push_of_some _ ho
end

section
variable {X : Cx} {pins : List (Addr × Obj)} {σ : L2.St} {H : Hp} {s : Shared} {a C : Addr} {f : Str} {y : V} {u : Value}
  {E : Value → Shared → Prop} {A : Around} {B newId initId : String} {top : List Value}
/-- self.f = y, the first field -/
theorem put_new {Q : Unit → Shared → Prop} (T : Over X.K C B newId initId top) (I : Inv X pins σ H s)
    (ea : H a = some (exo a C none)) (no : PySem.W.findIn X.K (.ref C) f = some none) (ry : RelV y u)
    (h : ∀ dx s', H dx = none → dx ≠ a →
      Inv X pins σ (upd (upd H dx (exd dx [(f, y)])) a (exo a C (some dx))) s' → Q () s') :
    wpAny (model X.prog X.w) A (setAttr (.ref a) f u) Q E s := by
  obtain ⟨t1, ho⟩ := exo_at I.hok ea
  obtain ⟨hp, g, d, t, os⟩ := s
  refine PySem.W.set_plain I.kIn (od := none) ⟨ho, rfl, rfl, trivial⟩ T.hook ?_
  refine first_put T I.kIn ho no (fun h' tk' dx kp ge ne hx hn => ?_)
  have free : H dx = none := I.hok.fresh ge
  have old : ∀ {b : Addr} {o : Obj}, hp.get? b = some o → b ≠ dx := by
    intro b o hb
    exact Nat.ne_of_lt (Nat.lt_of_lt_of_le (Heap.lt_size hb) ge)
  have nota : ∀ {b : Addr}, H b = none → b ≠ a := by
    rintro b hb rfl
    rw [ea] at hb
    cases hb
  have same : ∀ {b : Addr} {v : HO}, H b = some v → b ≠ a →
      upd (upd H dx (exd dx [(f, y)])) a (exo a C (some dx)) b = some v := by
    intro b v hb ba
    rw [upd_ne ba, upd_ne (ne_of_none hb free)]
    exact hb
  have un : Un X.fs [] H (upd (upd H dx (exd dx [(f, y)])) a (exo a C (some dx))) hp h' := by
    constructor
    case keep => exact fun b o hb hn _ _ => kp b o (nota hn) hb
    case slot => exact fun b o hb hn _ _ => ⟨o.slots, kp b o (nota hn) hb⟩
    case free =>
      intro b o hb hn _
      rw [upd_ne (nota hn), upd_ne (old hb)]
      exact hn
    case there =>
      intro b o hb _
      by_cases ba : b = a
      · exact ⟨_, ba ▸ hx⟩
      · exact ⟨o, kp b o ba hb⟩
    case tups => exact fun b xs hb => same hb (at_ne ea hb exo_tup)
    case frzs => exact fun b o v hb => same hb (at_ne ea hb exo_frz)
    case tbls =>
      intro b ps hb
      refine ⟨#[], ?_⟩
      rw [same hb (at_ne ea hb exo_tbl)]
      simp
  refine h dx _ free ne (I.un (t' := tk') un fun b o hb => ?_)
  by_cases ba : b = a
  · subst ba
    rw [upd_same] at hb
    cases hb
    exact exo_ok hx
  rw [upd_ne ba] at hb
  by_cases bd : b = dx
  · subst bd
    rw [upd_same] at hb
    cases hb
    exact exd_ok hn (relO_put (fs := []) ry fun _ => True.intro)
  rw [upd_ne bd] at hb
  refine (I.hok b o hb).stay ?_ (fun c hc => same hc (at_ne ea hc exo_own)) (fun c xs hc => same hc (at_ne ea hc exo_tup))
  rintro c v hc z
  refine kp c v ?_ z
  rcases hc with rfl | hc
  · exact ba
  · exact at_ne ea hc exo_own

/-- B.__init__(self, ..) -/
theorem ask_ok {us : List Value} {Q : Value → Shared → Prop} (T : Over X.K C B newId initId top) (I : Inv X pins σ H s)
    (ea : H a = some (exo a C none)) (hl : us.length ≤ sizeLine) (h : ∀ s', Inv X pins σ H s' → Q .none s') :
    wpAny (model X.prog X.w) A (call (.builtin initId) (.ref a :: us)) Q E s := by
  obtain ⟨nm, q, N, bs, bm, sn, sub, ab, col, dd, k0, k1, k2, k3, k5, hC, hbm⟩ := T.row
  obtain ⟨t1, ho⟩ := exo_at I.hok ea
  obtain ⟨hp, g, d, t, os⟩ := s
  refine wpAny_call (PySem.HandSPX.init_base T.base (fun Y => PySem.W.excTail_contains Y bm hbm) (I.kIn _ _ hC) ho hl ?_)
  intro h' t2 kp hx
  have J := I.write (t' := t) (x := a) (e := a) (o := exo a C none) (by rw [ea]; exact True.intro) (.inl rfl) kp ⟨_, hx⟩ (exo_ok hx)
  have same : upd H a (exo a C none) = H := by
    funext b
    by_cases hb : b = a
    · subst hb
      rw [upd_same, ea]
    · rw [upd_ne hb]
  rw [same] at J
  exact h _ J
end

/-- B.__init__(self, ..): nothing of it is told -/
def tAsk (K : PySem.W.Frag) (B newId initId : String) (top : List Value) (ta : TA) : TE := fun σ H Q =>
  ta σ H fun vs H1 => ∃ (a C : Addr) (ws : List V), vs = .ref a :: ws ∧ ws.length ≤ 1000 ∧ Over K C B newId initId top ∧
    H1 a = some (exo a C none) ∧ Q .non H1
/-- self.f = e, the first field -/
def tPut (K : PySem.W.Frag) (B newId initId : String) (top : List Value) (f : Str) (to te : TE) : TS := fun D σ H =>
  te σ H fun y H1 => to σ H1 fun x H2 => ∃ a C : Addr, x = .ref a ∧ Over K C B newId initId top ∧
    PySem.W.findIn K (.ref C) f = some none ∧ H2 a = some (exo a C none) ∧
    ∀ dx, H2 dx = none → dx ≠ a → D.nx σ (upd (upd H2 dx (exd dx [(f, y)])) a (exo a C (some dx)))
section
variable {X : Cx} {o e : Expr} {es : List Expr} {to te : TE} {ta : TA} {f : Str} {p p' p1 p2 pos : Pos}
  {B newId initId : String} {top : List Value}
theorem ps_put (ho : PE X o to) (he : PE X e te)
    (hs : swapsWith e (some (.Attribute o f p')) pos.line X.env = pure false := by rfl) :
    PS X (.Assign [.Attribute o f p'] e pos) (tPut X.K B newId initId top f to te) := by
  constructor
  intro pins s σ H D I h
  refine plainObj_wpAny_Assign_Attribute (thn (he.run pins s σ H _ I h) ?_) hs
  rintro v s1 ⟨y, H1, I1, r1, q1⟩
  refine thn (ho.run pins s1 σ H1 _ I1 q1) ?_
  rintro u s2 ⟨x, H2, I2, r2, a, C, rfl, T, no, ea, q⟩
  obtain rfl : u = Value.ref a := r2
  exact put_new T I2 ea no r1 fun dx s' n ne J => ⟨σ, _, J, q dx n ne⟩
theorem pe_ask {pl : Sem Bool} (hg : Gl X B) (hm : X.mg B = none) (hv : bootBuiltins B = some (.type B))
    (ty : typeOf (.type B) = pure (.type "type")) (st : Manifest.isStub B = false)
    (vV : PySem.W.findCls X.K (.type B) (.type "type") "__init__" = some (.val (.builtin initId)))
    (hi : PySem.W.handedIn (.builtin initId) = true)
    (ha : PA X (e :: es) ta) (hn : (B : Str) ≠ "__name__" := by decide) (hdb : ((B : Str) == ("__debug__" : Str)) = false := by decide)
    (hc : eval (.Call (.Attribute (.Name B p1) "__init__" p2) (e :: es) [] pos) X.env = (do
      let ov ← eval (.Name B p1) X.env
      standAt p2.atName
      let (f, first) ← holding [ov] (getMethod ov "__init__" pl)
      callWith pos f first (backTo pos (starEach (e :: es) X.env)) (backToKw pos (keywordEach [] X.env))) := by rfl)
    (he : starEach (e :: es) X.env = (false, eval e X.env) :: starEach es X.env := by rfl)
    (hpl : (backTo pos (starEach es X.env)).any (·.1) = false := by rfl) :
    PE X (.Call (.Attribute (.Name B p1) "__init__" p2) (e :: es) [] pos) (tAsk X.K B newId initId top ta) := by
  constructor
  intro pins s σ H Q I h
  refine PySem.W.methodCall_KW (ld_blt I hg hm hv ?_ hn hdb) hc
  obtain ⟨m, fr⟩ := I.fr
  refine PySem.W.method_type fr I.ok.mod.kin ty st vV hi ?_
  show wpAny _ _ (callWith pos (Value.builtin initId) [] (backTo pos (starEach (e :: es) X.env)) []) _ _ _
  refine PyProof.Rows.callWith_method1 (thn (ha.run pos pins _ σ H _ (I.tok _) h) ?_) he hpl
  rintro us s1 ⟨vs, H1, I1, r1, a, C, ws, rfl, hl, T, ea, q⟩
  cases r1 with
  | @cons _ u0 _ ur ra rw' =>
    obtain rfl : u0 = Value.ref a := ra
    refine ask_ok T I1 ea ?_ fun s' J => ⟨.non, H1, J, rfl, q⟩
    rw [← Paired.length rw', sizeLine_eq]
    omega
end

/-- what __init__ of such a class keeps: one field, called f -/
def spKeep (C : Addr) (f : Str) : Sp := fun vs H Q _ => ∃ (a : Addr) (y : V), vs = [.ref a, y] ∧ H a = some (exo a C none) ∧
  ∀ dx, H dx = none → dx ≠ a → Q .non (upd (upd H dx (exd dx [(f, y)])) a (exo a C (some dx)))
/-- C(e) is made: its class, its dict, which keeps e under f -/
def tMade (C : Addr) (f : Str) (ta : TA) : L2.St → Hp → XK → Prop := fun σ H Q => ta σ H fun vs H1 => ∃ y, vs = [y] ∧
  ∀ d, H1 d = none → Q (.ref C) (some d) (upd H1 d (.xd [(f, y)]))
section
variable {X : Cx} {e : Expr} {es : List Expr} {ta : TA} {p pos : Pos} {CX : CXT} {x f : Str} {C fI : Addr} {k : Nat} {fd : FuncData}
  {ps : List Str} {B newId initId : String} {top : List Value}
theorem room_make {A : Around} (r : MM.Rm (k + 1) A) (C : Addr) (us : List Value) (kw : List (Str × Value)) :
    MM.Rm k (A.under (.builtin "type.__call__" ⟨.ref C :: us, kw⟩)) := ⟨r.room.make C us kw, r.still⟩
theorem pmk_made (T : Over X.K C B newId initId top) (iC : PySem.W.findIn X.K (.ref C) "__init__" = some (some (.ref fI)))
    (tI : PySem.W.typeIn X.K (.ref fI) = some (.type "function"))
    (F : MM.FnG X.prog X.w X.K X.mg X.base CX k fI fd ps (spKeep C f)) (hr : MM.Rm (k + 1) X.A) (hb : Binds X.K fd ps [])
    (hx : Passes CX X (fun _ _ _ => False)) (hm : X.mg x = some (.ref C)) (ha : PA X (e :: es) ta) (hg : Gl X x := by rfl)
    (hdb : (x == ("__debug__" : Str)) = false := by decide)
    (he : starEach (e :: es) X.env = (false, eval e X.env) :: starEach es X.env := by rfl)
    (hpl : (backTo pos (starEach es X.env)).any (·.1) = false := by rfl) :
    PMk X (.Call (.Name x p) (e :: es) [] pos) (tMade C f ta) := by
  intro pins s σ H Q I h
  obtain ⟨nm, q, N, bs, bm, sn, sub, ab, col, dd, k0, k1, k2, k3, k5, hC, hbm⟩ := T.row
  refine wpAny_Call_Name_kw (ld_glob I hg hm ?_ hdb)
  refine PySem.W.callWith_K (h₀ := X.base) I.ok.mod.kin T.keep (thn (ha.run pos pins s σ H _ I h) ?_) he hpl
  rintro us s1 ⟨vs, H1, I1, r1, y, rfl, q1⟩
  refine ⟨I1.kIn, ?_⟩
  obtain ⟨u, rfl, ry⟩ := vals1 r1
  show wpAny _ _ (call (.ref C) [u]) _ _ _
  obtain ⟨hp, g, dr, tk, os⟩ := s1
  have size : hp.objs.size ≤ hp.objs.size + 1 := Nat.le_succ _
  have new : H1 (hp.objs.size + 1) = none := I1.hok.fresh size
  have kept : ∀ b o, hp.get? b = some o →
      ((hp.push (PySem.W.kdv_tup [u])).push (PySem.HandSPX.excO C hp.objs.size)).get? b = some o := by
    intro b o z
    exact Heap.get?_push_of_some _ (Heap.get?_push_of_some _ z)
  have lies : ((hp.push (PySem.W.kdv_tup [u])).push (PySem.HandSPX.excO C hp.objs.size)).get? (hp.objs.size + 1) =
      some (PySem.HandSPX.excO C hp.objs.size) := by heap_get
  have I2 := I1.laid (t' := tk) (a := hp.objs.size + 1) (o := exo (hp.objs.size + 1) C none) kept size (exo_ok lies)
  have r2 : Vals [V.ref (hp.objs.size + 1), y] [Value.ref (hp.objs.size + 1), u] := .cons rfl (.cons ry .nil)
  have sp : spKeep C f [V.ref (hp.objs.size + 1), y] (upd H1 (hp.objs.size + 1) (exo (hp.objs.size + 1) C none))
      (fun v H2 => v = .non ∧ ∃ d, H1 d = none ∧ d ≠ hp.objs.size + 1 ∧
        H2 = upd (upd (upd H1 (hp.objs.size + 1) (exo (hp.objs.size + 1) C none)) d (exd d [(f, y)])) (hp.objs.size + 1) (exo (hp.objs.size + 1) C (some d)))
      (fun _ _ _ => False) := by
    refine ⟨_, y, rfl, upd_same, fun dx n ne => ⟨rfl, dx, ?_, ne, rfl⟩⟩
    rw [upd_ne ne] at n
    exact n
  have len := F.arity sp
  have bd := hb ⟨_, g, dr, tk, os⟩ [Value.ref (hp.objs.size + 1), u] I2.kIn (by rw [List.append_nil]; exact len)
  rw [List.append_nil] at bd
  refine wpAny_call (PySem.HandSPX.call_own T.base (fun Y => PySem.W.excTail_contains Y bm hbm) (I1.kIn _ _ hC)
    (PySem.W.looks_findIn I1.kIn iC) (fun self => PySem.W.bind_fn I1.kIn self tI) (by show 1 ≤ sizeLine; rw [sizeLine_eq]; omega)
    (codeAny_mono (F.runs (out := X.stack) (room_make hr C [u] []) (I2.env0.make C [u] []) bd r2 sp) ?_))
  intro r s' hq
  cases r with
  | error er => exact hx pins σ _ _ er s' I2 hq
  | ok fl =>
    cases fl with
    | next => exact hq.elim
    | brk => exact hq.elim
    | cont => exact hq.elim
    | ret u' =>
      obtain ⟨v, H2, os2, bare2, un2, hok2, rv, rfl, d, nd, ne, rfl⟩ := hq
      obtain ⟨h2, g2, d2, t2, os'⟩ := s'
      have ed : (upd (upd (upd H1 (hp.objs.size + 1) (exo (hp.objs.size + 1) C none)) d (exd d [(f, y)])) (hp.objs.size + 1)
          (exo (hp.objs.size + 1) C (some d))) d = some (exd d [(f, y)]) := by
        rw [upd_ne ne, upd_same]
      refine ⟨rv, mk_end (raises_own T.isE T.meta_) I1 size kept un2 hok2 os2 bare2 upd_same ed nd ?_⟩
      have same : upd (del (upd (upd (upd H1 (hp.objs.size + 1) (exo (hp.objs.size + 1) C none)) d (exd d [(f, y)])) (hp.objs.size + 1)
          (exo (hp.objs.size + 1) C (some d))) (hp.objs.size + 1)) d (.xd [(f, y)]) = upd H1 d (.xd [(f, y)]) := by
        funext b
        by_cases b1 : b = d
        · subst b1
          rw [upd_same, upd_same]
        rw [upd_ne b1, upd_ne b1]
        by_cases b2 : b = hp.objs.size + 1
        · subst b2
          rw [del_same, new]
        rw [del_ne b2, upd_ne b2, upd_ne b1, upd_ne b2]
      rw [same]
      exact q1 d nd
end
end ME

set_option Elab.async false
set_option maxRecDepth 100000
set_option maxHeartbeats 2000000
set_option linter.all false
/-! try with several clauses, with and without a name -/
namespace ME
open PySem PySem.Spec PyProof.Rows L2
/-- where slot i is emptied behind the suite -/
def Ends.drop (D : Ends) (i : Nat) : Ends where
  nx := fun σ H => D.nx (σ.set i none) H
  rt := D.rt
  bk := fun σ H => D.bk (σ.set i none) H
  ct := fun σ H => D.ct (σ.set i none) H
/-- clauses, one after the other; W: what is wished of the exception that the body lets out -/
inductive Cl (X : Cx) (Wout : WX) : List ExceptHandler → (Ends → WX) → Prop where
  | nil : Cl X Wout [] (fun _ => Wout)
  | no {x : Str} {c : Value} {ts : Addr → Value → Option Addr → TS} {b₀ : Stmt} {suite : List Stmt} {np pos : Pos}
      {hds : List ExceptHandler} {W : Ends → WX} (hc : Names X x c)
      (su : ∀ (a : Addr) (oe : Obj) (cls : Value) (d : Option Addr) (pn : List (Addr × Obj)), Zc cls d oe →
        (∃ vs, oe.data = .fields vs) → PSs (X.suite a ((a, oe) :: pn)) (b₀ :: suite) (ts a cls d))
      (r : Cl X Wout hds W) :
      Cl X Wout (.ExceptHandler (some (.Name x np)) none (b₀ :: suite) pos :: hds) (fun D cls d σ H =>
        ∃ b, PySem.W.exmOne X.K cls c = some b ∧ (b = true → ∀ a, H a = none → ts a cls d D σ H) ∧ (b = false → W D cls d σ H))
  | as_ {x n : Str} {i : Nat} {c : Value} {ts : Addr → Value → Option Addr → TS} {b₀ : Stmt} {suite : List Stmt} {np pos : Pos}
      {hds : List ExceptHandler} {W : Ends → WX} (hc : Names X x c) (hN : X.N.Nodup) (hi : X.N[i]? = some n)
      (hl : X.env.kindOf n = some .local)
      (su : ∀ (a : Addr) (oe : Obj) (cls : Value) (d : Option Addr) (pn : List (Addr × Obj)), Zc cls d oe →
        (∃ vs, oe.data = .fields vs) → PSs (X.suite a ((a, oe) :: pn)) (b₀ :: suite) (ts a cls d))
      (r : Cl X Wout hds W) :
      Cl X Wout (.ExceptHandler (some (.Name x np)) (some n) (b₀ :: suite) pos :: hds) (fun D cls d σ H =>
        ∃ b, PySem.W.exmOne X.K cls c = some b ∧ (b = true → ∀ a, H a = none → σ.length = X.N.length → ts a cls d (Ends.drop D i) (σ.set i (some (.ref a))) H) ∧
          (b = false → W D cls d σ H))

/-- the exception at a has landed in X: h is the heap now, sI the state without it -/
structure Lands (X : Cx) (pins : List (Addr × Obj)) (σ : L2.St) (H : Hp) (cls : Value) (d : Option Addr) (a : Addr) (B : Heap)
    (sI s : Shared) (h : Heap) : Prop where
  inv : Inv X pins σ H sI
  ground : ∀ b o, sI.heap.get? b = some o → b ∉ frs X.stack → B.get? b = some o
  up : sI.heap.UpToSlots h
  fly : HandSPX.FlyingZ B (X.env :: X.outer) a (Zc cls d) h
  none_ : H a = none
  os : s.os = sI.os
  bare : AllBare s.gens
section
variable {X : Cx} {pins : List (Addr × Obj)} {σ : L2.St} {H : Hp} {cls : Value} {d : Option Addr} {a : Addr} {B : Heap}
  {sI s : Shared} {h : Heap} {D : Ends} {Wout : WX} {hds : List ExceptHandler} {W : Ends → WX}
theorem Lands.here (L : Lands X pins σ H cls d a B sI s h) : Inv X pins σ H { s with heap := h } :=
  L.inv.landed (s' := { s with heap := h }) L.ground L.fly.1 L.up L.os L.bare
theorem Lands.later (L : Lands X pins σ H cls d a B sI s h) {h' : Heap} (f : HandSPX.FlyingZ B (X.env :: X.outer) a (Zc cls d) h')
    (u : h.UpToSlots h') : Lands X pins σ H cls d a B sI s h' :=
  { L with up := L.up.trans u, fly := f }
/-- the exception as it lies, in the suite's context -/
theorem Lands.suite (L : Lands X pins σ H cls d a B sI s h) (hf : X.env.frame = some X.env.locals) :
    ∃ (oe : Obj) (vs : Array Value), h.get? a = some oe ∧ Zc cls d oe ∧ oe.data = .fields vs ∧
      Inv (X.suite a ((a, oe) :: (X.pn ++ pins))) [] σ H { s with heap := h } := by
  obtain ⟨oe, vs, he, hz, hd⟩ := L.fly.there
  have away : a ∉ frs (X.env :: X.outer) := by
    intro hm
    obtain ⟨_, o', e', no⟩ := L.fly.2.2.1.mem hm
    rw [he] at e'
    cases e'
    exact no _ hd
  have nL : a ≠ X.env.locals := fun z => away (List.mem_filterMap.mpr ⟨X.env, List.mem_cons_self, by rw [hf, z]⟩)
  have nF : a ∉ X.fs := by
    intro hm
    obtain ⟨e, he', q⟩ := List.mem_filterMap.mp hm
    exact away (List.mem_filterMap.mpr ⟨e, List.mem_cons_of_mem _ he', q⟩)
  exact ⟨oe, vs, he, hz, hd, L.here.suite he hd L.none_ nL nF⟩
/-- a suite's end -/
theorem Lands.out {oe : Obj} {f : Flow} {s6 : Shared} (ok : X.Ok)
    (q : SP (X.suite a ((a, oe) :: (X.pn ++ pins))) [] D f s6) : SP X pins D f s6 := by
  cases f with
  | ret u =>
    obtain ⟨v, σ6, H6, S, r, z⟩ := q
    exact ⟨v, σ6, H6, S.unsuite ok, r, z⟩
  | next =>
    obtain ⟨σ6, H6, S, z⟩ := q
    exact ⟨σ6, H6, S.unsuite ok, z⟩
  | brk =>
    obtain ⟨σ6, H6, S, z⟩ := q
    exact ⟨σ6, H6, S.unsuite ok, z⟩
  | cont =>
    obtain ⟨σ6, H6, S, z⟩ := q
    exact ⟨σ6, H6, S.unsuite ok, z⟩
theorem handled (hs : X.stack = X.env :: X.outer) (hf : X.env.frame = some X.env.locals) (tk : Takes X Wout)
    (C : Cl X Wout hds W) : ∀ {h : Heap}, Lands X pins σ H cls d a B sI s h → W D cls d σ H →
      wpAny (model X.prog X.w) X.A (handleBy (.ref a) X.env hds) (SP X pins D) X.xe { s with heap := h } := by
  induction C with
  | nil =>
    intro h L w
    have L0 := L
    refine wpAny_handleBy_nil ?_
    obtain ⟨k1, k2, k3, oe, vs, T, oT, ts', he, hz, hd, h1, hr⟩ := L.fly
    unfold PySem.passOn
    refine wpAny_bind (wpAny_field he hd h1 ?_)
    rw [if_neg (show ¬ ((Value.ref T == Value.none) = true) from by simp)]
    have on : wpAny (model X.prog X.w) X.A (setFlight (.ref a) X.env.frame)
        (fun _ s4 => wpAny (model X.prog X.w) X.A (throw (.ref a) : Sem Flow) (SP X pins D) X.xe s4) X.xe { s with heap := h } := by
      rw [hf]
      refine HandSPX.setFlight_upZ L0.fly fun h4 hh4 up4 => wpAny_throw (tk _ _ ?_)
      exact ⟨a, B, sI, pins, σ, H, cls, d, rfl, L0.inv, L0.ground, L0.up.trans up4, .inr (.inr (by rw [hs]; exact hh4)), L0.none_, L0.os,
        L0.bare, w⟩
    first
      | exact wpAny_bind (wpAny_pure (wpAny_bind on))
      | exact wpAny_bind on
  | @no x c ts b₀ suite np pos hds' W' hc su r ih =>
    intro h L w
    obtain ⟨b, e, yes, no⟩ := w
    obtain ⟨oe, vs, he, hz, hd, S⟩ := L.suite hf
    refine wpAny_handleBy_cons (codeAny_handlers_test ?_) (by intro q; cases q)
    have ty : PySem.W.Looks (model X.prog X.w) h (typeOf (.ref a)) cls := fun A Q E s k q =>
      wpAny_typeOf_ref (k _ _ he) (by rw [hz.1]; exact q)
    have ask := PySem.W.exm_one (M := model X.prog X.w) L.here.kIn ty e
    have name : ∀ {Q : Value → Shared → Prop} {E : Value → Shared → Prop}, Q c { s with heap := h } →
        wpAny (model X.prog X.w) (X.A.mark (some (.ref a))) (eval (.Name x np) X.env) Q E { s with heap := h } := by
      intro Q E q
      obtain ⟨hg, hdb, hm | ⟨hm, hv, hn⟩⟩ := hc
      · exact ld_glob (X := X.suite a ((a, oe) :: (X.pn ++ pins))) S hg hm q hdb
      · exact ld_blt (X := X.suite a ((a, oe) :: (X.pn ++ pins))) S hg hm hv q hn hdb
    refine name (ask.here ?_)
    cases b with
    | false => exact ih L (no rfl)
    | true =>
      refine codeAny_handlers_suite (HandSPX.lands_againZ L.fly fun h4 f4 u4 => ?_)
      obtain ⟨oe4, vs4, _, hz4, hd4, S4⟩ := (L.later f4 u4).suite hf
      refine wpAny_mono ((su a oe4 cls d (X.pn ++ pins) hz4 ⟨_, hd4⟩).run [] _ _ H _ S4 (yes rfl a L.none_))
        (fun f s6 q => Lands.out L.inv.ok q) (fun _ _ z => False.elim z)
  | @as_ x n i c ts b₀ suite np pos hds' W' hc hN hi hl su r ih =>
    intro h L w
    obtain ⟨b, e, yes, no⟩ := w
    obtain ⟨oe, vs, he, hz, hd, S⟩ := L.suite hf
    refine wpAny_handleBy_cons (codeAny_handlers_test ?_) (by intro q; cases q)
    have ty : PySem.W.Looks (model X.prog X.w) h (typeOf (.ref a)) cls := fun A Q E s k q =>
      wpAny_typeOf_ref (k _ _ he) (by rw [hz.1]; exact q)
    have ask := PySem.W.exm_one (M := model X.prog X.w) L.here.kIn ty e
    have name : ∀ {Q : Value → Shared → Prop} {E : Value → Shared → Prop}, Q c { s with heap := h } →
        wpAny (model X.prog X.w) (X.A.mark (some (.ref a))) (eval (.Name x np) X.env) Q E { s with heap := h } := by
      intro Q E q
      obtain ⟨hg, hdb, hm | ⟨hm, hv, hn⟩⟩ := hc
      · exact ld_glob (X := X.suite a ((a, oe) :: (X.pn ++ pins))) S hg hm q hdb
      · exact ld_blt (X := X.suite a ((a, oe) :: (X.pn ++ pins))) S hg hm hv q hn hdb
    refine name (ask.here ?_)
    cases b with
    | false => exact ih L (no rfl)
    | true =>
      refine codeAny_handlers_suite_as (HandSPX.lands_againZ L.fly fun h4 f4 u4 => ?_)
      obtain ⟨oe4, vs4, _, hz4, hd4, S4⟩ := (L.later f4 u4).suite hf
      refine store_ok (X := X.suite a ((a, oe4) :: (X.pn ++ pins))) (v := .ref a) S4 hN hi (.inl hl) rfl (fun s5 S5 => ?_) (.inr hl)
      refine wpAny_mono ((su a oe4 cls d (X.pn ++ pins) hz4 ⟨_, hd4⟩).run [] s5 _ H _ S5 (yes rfl a L.none_ L.inv.len))
        (fun f s6 q => ?_) (fun _ _ z => False.elim z)
      have q' := Lands.out L.inv.ok q
      cases f with
      | ret u =>
        obtain ⟨v, σ6, H6, J, r6, z⟩ := q'
        exact gone_ok J hN hi hl fun s7 J7 => ⟨v, _, H6, J7, r6, z⟩
      | next =>
        obtain ⟨σ6, H6, J, z⟩ := q'
        exact gone_ok J hN hi hl fun s7 J7 => ⟨_, H6, J7, z⟩
      | brk =>
        obtain ⟨σ6, H6, J, z⟩ := q'
        exact gone_ok J hN hi hl fun s7 J7 => ⟨_, H6, J7, z⟩
      | cont =>
        obtain ⟨σ6, H6, J, z⟩ := q'
        exact gone_ok J hN hi hl fun s7 J7 => ⟨_, H6, J7, z⟩
/-- try: body / the clauses -/
theorem ps_try_cl {body : List Stmt} {h₀ : ExceptHandler} {pos : Pos} {tb : WX → TS} (hs : X.stack = X.env :: X.outer)
    (hf : X.env.frame = some X.env.locals) (tk : Takes X Wout) (C : Cl X Wout (h₀ :: hds) W)
    (hb : ∀ (W : WX) (pn : List (Addr × Obj)) (xe : Value → Shared → Prop), Takes (X.tr pn xe) W →
      PassesOwn (model X.prog X.w) X.A X.env xe → PSs (X.tr pn xe) body (tb W)) :
    PS X (.Try body (h₀ :: hds) [] [] pos) (fun D σ H => tb (W D) D σ H) := by
  constructor
  intro pins s σ H D I h
  have ok := I.ok
  have fr : X.A.frames = some (X.env :: X.outer) := by rw [ok.frames, hs]
  refine wpAny_Try_except ?_
  refine wpAny_mono ((hb (W D) (X.pn ++ pins) (fun e s₁ => wpAny (model X.prog X.w) X.A (noteFrame e X.env)
    (fun _ s₂ => wpAny (model X.prog X.w) X.A (setFlight e none) (fun _ s₃ =>
      wpAny (model X.prog X.w) X.A (handleBy e X.env (h₀ :: hds)) (SP X pins D) X.xe s₃) X.xe s₂) X.xe s₁) ?_
    PassesOwn.looking).run [] s σ H D (I.toTry _) h) ?_ (fun e s1 he => he)
  · rintro u s' ⟨a, B, sI, pins', σ', H', cls, d, rfl, J', nb, up, sky, na, os, ag, w⟩
    have J : Inv X pins σ' H' sI := J'.ofTry ok
    have sky' : Sky B (X.env :: X.outer) a (Zc cls d) X.env.locals s'.heap := by
      rw [← hs]
      exact sky
    show wpAny (model X.prog X.w) X.A (noteFrame (.ref a) X.env) _ _ _
    refine Sky.land Zc.steady fr hf sky' fun h3 f3 u3 => ?_
    exact handled hs hf tk C ⟨J, nb, up.trans u3, f3, na, os, ag⟩ w
  · intro f s1 q
    cases f with
    | ret u =>
      obtain ⟨v, σ', H', J, r, z⟩ := q
      exact ⟨v, σ', H', J.ofTry ok, r, z⟩
    | next =>
      obtain ⟨σ', H', J, z⟩ := q
      exact wpAny_execs_nil ⟨σ', H', J.ofTry ok, z⟩
    | brk =>
      obtain ⟨σ', H', J, z⟩ := q
      exact ⟨σ', H', J.ofTry ok, z⟩
    | cont =>
      obtain ⟨σ', H', J, z⟩ := q
      exact ⟨σ', H', J.ofTry ok, z⟩
end
end ME

set_option Elab.async false
set_option maxRecDepth 100000
set_option maxHeartbeats 2000000
set_option linter.all false
/-! calls that may raise; a lambda handed to a def, where nothing is being shown; a def in a variable -/
namespace ME
open PySem PySem.Spec PyProof.Rows L2 LamX MM

section
variable {X : Cx} {CX : CXT} {k : Nat} {ps : List Str} {sp : Sp} {E : L2.St → XK} {x a : Str} {p pos : Pos} {e : Expr} {es : List Expr} {t : TA}
/-- f(e, ..), f a def of the text that may raise -/
def tDS (sp : Sp) (E : L2.St → XK) (t : TA) : TE := fun σ H Q => t σ H fun vs H1 => sp vs H1 Q (E σ)
theorem call_gS {f : Addr} {fd : FuncData} {pins : List (Addr × Obj)} {σ : L2.St} {H : Hp} {s : Shared} {Q : VK} {us : List Value} {vs : List V}
    (F : FnG X.prog X.w X.K X.mg X.base CX k f fd ps sp) (hr : Rm k X.A) (hb : Binds X.K fd ps []) (hx : PassesAt CX X σ (E σ))
    (I : Inv X pins σ H s) (r : Vals vs us) (h : sp vs H Q (E σ)) :
    wpAny (model X.prog X.w) X.A (call (.ref f) us) (EP X pins σ Q) X.xe s := by
  have nl : (us ++ []).length = ps.length := by
    rw [List.append_nil, ← r.length]
    exact F.arity h
  have bd := hb s us I.kIn nl
  rw [List.append_nil] at bd
  refine wpAny_call (codeAny_mono (F.runs hr I.env0 bd r h) ?_)
  intro res s' hq
  cases res with
  | error e => exact hx pins H s e s' I hq
  | ok fl =>
    cases fl with
    | ret u => exact I.after hq
    | next => exact hq.elim
    | brk => exact hq.elim
    | cont => exact hq.elim
theorem pe_dS (D : Def X.prog X.w X.K X.mg X.base CX k x ps sp) (hr : Rm k X.A) (hx : ∀ σ, PassesAt CX X σ (E σ)) (ha : PA X (e :: es) t)
    (hg : Gl X x := by rfl) (hdb : (x == ("__debug__" : Str)) = false := by decide)
    (he : starEach (e :: es) X.env = (false, eval e X.env) :: starEach es X.env := by rfl)
    (hpl : (backTo pos (starEach es X.env)).any (·.1) = false := by rfl) : PE X (.Call (.Name x p) (e :: es) [] pos) (tDS sp E t) := by
  obtain ⟨f, fd, F, hm, hk, hb, _⟩ := D
  constructor
  intro pins s σ H Q I h
  refine wpAny_Call_Name_kw (ld_glob I hg hm ?_ hdb)
  refine PySem.W.callWith_K (h₀ := X.base) I.ok.mod.kin hk ?_ he hpl
  exact thn (ha.run pos pins s σ H _ I h) fun us s1 ⟨vs, H1, I1, r, q⟩ => ⟨I1.kIn, call_gS F hr hb (hx σ) I1 r q⟩
/-- a(e, ..), a a variable that holds a def of the text: G tells which, and what it promises -/
def tVia (K : PySem.W.Frag) (i : Nat) (G : Addr → Sp → Prop) (E : L2.St → XK) (t : TA) : TE := fun σ H Q =>
  ∃ f sp, σ[i]? = some (some (.ref f)) ∧ G f sp ∧ t σ H fun vs H1 => sp vs H1 Q (E σ)
theorem pe_via {i : Nat} {G : Addr → Sp → Prop}
    (hG : ∀ f sp, G f sp → PySem.W.keepIn X.K (.ref f) = true ∧ ∃ fd k ps, FnG X.prog X.w X.K X.mg X.base CX k f fd ps sp ∧ Rm k X.A ∧ Binds X.K fd ps [])
    (hx : ∀ σ, PassesAt CX X σ (E σ)) (ha : PA X (e :: es) t) (hN : X.N[i]? = some a) (hv : Vis X.env.scope a)
    (hdb : (a == ("__debug__" : Str)) = false := by decide) (hcd : (a == ("__classdict__" : Str)) = false := by decide)
    (he : starEach (e :: es) X.env = (false, eval e X.env) :: starEach es X.env := by rfl)
    (hpl : (backTo pos (starEach es X.env)).any (·.1) = false := by rfl) :
    PE X (.Call (.Name a p) (e :: es) [] pos) (tVia X.K i G E t) := by
  constructor
  intro pins s σ H Q I h
  obtain ⟨f, sp, hs, g, h⟩ := h
  obtain ⟨hk, fd, k, ps, F, hr, hb⟩ := hG f sp g
  refine wpAny_Call_Name_kw (thn ((pe_var (pos := p) (i := i) hN hv hdb hcd).run pins s σ H (fun v H1 => v = .ref f ∧ H1 = H) I ⟨.ref f, hs, rfl, rfl⟩) ?_)
  rintro u s1 ⟨v, H1, I1, r1, rfl, rfl⟩
  obtain rfl : u = Value.ref f := r1
  refine PySem.W.callWith_K (h₀ := X.base) I1.ok.mod.kin hk ?_ he hpl
  exact thn (ha.run pos pins s1 σ H1 _ I1 h) fun us s2 ⟨vs, H2, I2, r, q⟩ => ⟨I2.kIn, call_gS F hr hb (hx σ) I2 r q⟩
end

section
variable {X : Cx} {pins : List (Addr × Obj)} {σ : L2.St} {H : Hp} {s : Shared}
/-- the def that got the lambda calls it -/
theorem act {Eg : XK} {CXg : CXT} {Ng : List Str} {qg : Str} {sg : Scope} {g f c' : Addr} {cdg pm ctv : Value} {params : Arguments}
    {body : Expr} {scope : Scope} {k i : Nat} {a : Str} {pn : List (Addr × Obj)} {xe : Value → Shared → Prop} {W : WX} {E : XK} {tb : TE}
    {p1 p2 : Pos} (I : Inv X pins σ H s) (L : LamS X.env.scope scope)
    (hf : s.heap.get? f = some (PySem.W.kla_obj "<lambda>" (X.env.qual ++ "<lambda>") params body scope (cloFrom X.env.cells scope.names []) pm c' ctv))
    (hfn : H f = none) (hfr : f ∉ frs X.stack)
    (hbind : bindArgs (PySem.W.kla_fn "<lambda>" (X.env.qual ++ "<lambda>") params body scope (cloFrom X.env.cells scope.names []) pm (.ref c') ctv) ⟨[], []⟩ = pure [])
    (tk : Takes ((cxOf CXg X.prog X.w X.K X.mg X.base Ng qg sg g cdg X.A X.stack s H Eg).tr pn xe) W)
    (hW : ∀ cls d σ' H', E cls d H' → W cls d σ' H') (hr : Rm (k + 1) (X.A.deeper (envOfC qg sg s.heap.objs.size g cdg)))
    (hbody : ∀ (A : Around) (outer : List Env) (s : Shared) (H : Hp), Rm k (A.deeper (lamEnv X scope s.heap.objs.size f c')) →
      PE (lamCx X A outer s H E scope f c') body tb)
    (hN : Ng[i]? = some a) (hv : Vis sg a) (hd : (a == ("__debug__" : Str)) = false := by decide)
    (hcd : (a == ("__classdict__" : Str)) = false := by decide) :
    PE ((cxOf CXg X.prog X.w X.K X.mg X.base Ng qg sg g cdg X.A X.stack s H Eg).tr pn xe) (.Call (.Name a p1) [] [] p2)
      (fun σZ HZ Q => σZ[i]? = some (some (.ref f)) ∧ HZ c' = some (CodeO c' (X.env.qual ++ "<lambda>")) ∧ tb σ HZ Q) := by
  constructor
  intro pinsZ sZ σZ HZ Q IZ h
  obtain ⟨hs, hc, ht⟩ := h
  refine wpAny_Call_Name_kw (thn ((pe_var (pos := p1) (i := i) hN hv hd hcd).run pinsZ sZ σZ HZ (fun v H1 => v = .ref f ∧ H1 = HZ) IZ ⟨.ref f, hs, rfl, rfl⟩) ?_)
  rintro u s1 ⟨v, H1, I1, r1, rfl, eH⟩
  rw [eH] at I1
  obtain rfl : u = Value.ref f := r1
  have there := I1.base.keep f _ hf hfn hfr (fun z => nomatch (show f ∈ ([] : List Addr) from z))
  refine PySem.W.callWith_F0 ⟨_, _, _, _, there⟩ ?_
  obtain ⟨⟨oc, vs, t, hoc, hdc, hvc⟩, _, _⟩ := I1.hok c' _ hc
  have run : codeAny (model X.prog X.w) (X.A.deeper (envOfC qg sg s.heap.objs.size g cdg)) (.call (.ref f) ⟨[], []⟩)
      (CR (L2.CX X.prog X.w) (envOfC qg sg s.heap.objs.size g cdg :: X.stack) X.prog X.w HZ s1 Q E) s1 := by
    refine PySem.W.kla_callFunE hr.room.depth there rfl L.co L.gen rfl ⟨c', oc, vs, t, rfl, hoc, hdc, hvc⟩ ?_
    rw [hbind]
    refine wpAny_pure (wpAny_newFunctionEnv (fun y hy => (L.own y hy).2) (fun y hy => absurd hy (by simp)) (fun h₁ hns hsb => ⟨I1.nolimit.fresh _ hsb, ?_⟩) L.kind)
    show codeAny _ _ (.expr body (lamEnv X scope s1.heap.objs.size f c')) _ _
    have kp : ∀ b o, s1.heap.get? b = some o → h₁.get? b = some o := by
      intro b o z
      exact hsb.extBut b o (Nat.ne_of_lt (Heap.lt_size z)) (Heap.get?_push_of_some _ z)
    have J := lam_start2 (E := E) (f := f) (c' := c') (tk := s1.toks + ([] : List (Str × Value)).length) I L I1.env0 hr.room.hd I1.base hns kp
    refine PySem.W.kla_codeExpr (wpAny_mono ((hbody _ _ s1 HZ hr.down).run [] _ _ HZ Q J ht) ?_ fun e s' hq => hq)
    rintro v s' ⟨w', H', J', rv, q⟩
    exact ⟨w', H', J'.os, J'.bare, J'.base, J'.hok, rv, q⟩
  refine wpAny_call (codeAny_mono run fun r s' hq => ?_)
  cases r with
  | error e => exact passes_call tk hW pinsZ σZ HZ s1 e s' I1 hq
  | ok fl =>
    cases fl with
    | ret u => exact I1.after hq
    | next => exact hq.elim
    | brk => exact hq.elim
    | cont => exact hq.elim
/-- x(lambda: body), x a def of the text -/
theorem pe_lam {T : List (Addr × Str)} {TT : (XK → Hp → VK → Prop) → Hp → VK → Prop} {x a : Str} {c P : Addr} {k : Nat} {st : Stmt}
    {Ng : List Str} {params : Arguments} {body : Expr} {scope : Scope} {t : XK → TE} {p lpos pos : Pos} (D : At X.K X.mg x st)
    (hb : ∀ (kV doc pm : Value) (an : Option Addr) (cd ct : Value) (us : List Value), us.length = [a].length →
      bindArgs (PySem.W.fnOf x x (defArgs st) (defBody st) (defScope st) .none kV doc pm an cd ct) ⟨us, []⟩ = pure ([a].zip us))
    (Sg : FnScope Ng [a] (defScope st)) (hNg : Ng[0]? = some a) (hva : Vis (defScope st) a)
    (hG : ∀ g cd, GivesTo X Ng x (defScope st) g cd (defBody st) a (X.env.qual ++ "<lambda>") TT)
    (TB : TabB X.base X.mg c P) (hcode : X.env.code = .ref c) (hmT : (P, X.env.qual ++ "<lambda>") ∈ T)
    (hu : ∀ p ∈ T, p.1 = P → p.2 = X.env.qual ++ "<lambda>") (hr : Rm (k + 2) X.A) (L : LamS X.env.scope scope)
    (hdef : defaultsOf params X.env = ([], []))
    (hbind : ∀ (q : Str) (cl : List (Str × Addr)) (pm cv ctv : Value), bindArgs (PySem.W.kla_fn "<lambda>" q params body scope cl pm cv ctv) ⟨[], []⟩ = pure [])
    (hbody : ∀ (A : Around) (outer : List Env) (s : Shared) (H : Hp) (E : XK) (f c' : Addr), Rm k (A.deeper (lamEnv X scope s.heap.objs.size f c')) →
      PE (lamCx X A outer s H E scope f c') body (t E))
    (hg : Gl X x := by rfl) (hdb : (x == ("__debug__" : Str)) = false := by decide) (hd : (a == ("__debug__" : Str)) = false := by decide)
    (hcd : (a == ("__classdict__" : Str)) = false := by decide) :
    PE X (.Call (.Name x p) [.Lambda params body scope lpos] [] pos) (tLam T TT t) := by
  obtain ⟨fd, F⟩ := D.fn
  have bnd := F.bindsN hb
  obtain ⟨oc, od, dV, kV, doc, pm, an, cdv, ct, osl, rfl, lk, hcg, _⟩ := F.ex
  constructor
  intro pins s σ H Q I h
  obtain ⟨hT, h⟩ := h
  refine wpAny_Call_Name_kw (ld_glob I hg D.glo ?_ hdb)
  refine PySem.W.callWith_K (h₀ := X.base) I.ok.mod.kin F.kp ?_ (by rfl) (by rfl)
  show wpAny _ _ (spliced ((false, eval (.Lambda params body scope lpos) X.env) :: backTo pos (starEach [] X.env))) _ _ s
  refine Calls.spliced_cons (lam_make2 I TB hcode hmT hu hT hdef (L.has I.ok) ?_)
  intro f c' pm' ctv H1 s' I1 eN T1 hf hfn hfr hco
  refine Calls.spliced_nil ⟨I1.kIn, ?_⟩
  have run : codeAny (model X.prog X.w) X.A (.call (.ref (He.ga X.K x)) ⟨[.ref f], []⟩) (CR C8.CX0 X.stack X.prog X.w H1 s' Q C8.E0) s' := by
    refine run_ofS (N := Ng) (ps := [a]) (us := [.ref f]) (vs := [.ref f]) lk hcg Sg (hr.le (Nat.le_refl _)).room I1.env0 (bnd s' [.ref f] I1.kIn rfl) (.cons rfl .nil) rfl fun _ => ?_
    obtain ⟨t', ht', hq'⟩ := hG _ _ f c' s' H1 Q (fun E H' Q' => t E σ H' Q')
      (fun W pn xe E p1 p2 tk hW => act (i := 0) I1 L hf hfn hfr (hbind _ _ _ _ _) tk hW hr.down (fun A outer s H hr2 => hbody A outer s H E f c' hr2) hNg hva hd hcd)
      hco (h H1 eN T1)
    exact ⟨t', ht'.nox, hq'⟩
  refine wpAny_call (codeAny_mono run fun r s2 hq => ?_)
  cases r with
  | error e => exact (show False from hq).elim
  | ok fl =>
    cases fl with
    | ret u => exact I1.after hq
    | next => exact hq.elim
    | brk => exact hq.elim
    | cont => exact hq.elim
end
end ME

set_option Elab.async false
set_option linter.all false
set_option maxRecDepth 100000
set_option maxHeartbeats 2000000
/-! sorted(l, key=lambda b: (len(b), b)), l a list of tuples of ints -/
namespace MM
open PySem PySem.Spec PyProof.Rows L2 PySem.Calls PySem.W LamX
theorem reads_ints {h : Heap} : ∀ {B : List Int} {its : List Value}, Vals (B.map V.int) its → ReadsAll h its (B.map .int) []
  | [], _, r => by
    cases r
    exact .nil
  | i :: B, _, r => by
    cases r with
    | cons r1 r2 =>
      obtain ⟨tk, rfl⟩ : ∃ tk, _ = Value.int i tk := r1
      exact .cons (as := []) (bs := []) (Reads.int _ _) (reads_ints r2)
section
variable {X : Cx} {pins : List (Addr × Obj)} {σ : L2.St} {H : Hp} {s : Shared}
/-- the lambda, called: what it looks at and makes -/
theorem lam_lenb {f c' t : Addr} {q x : Str} {params : Arguments} {scope : Scope} {pm ctv : Value} {p1 p2 p3 p4 p5 : Pos} {k : Nat} {items : List Value} {B : List Int} 
    (I : Inv X pins σ H s) (hu : X.A.units + 64 < cLine) (hdp : X.A.depth + 5 < recursionLimit)
    (hm2 : X.mg "len" = none) (S : FnScope [x] [x] scope)
    (hx : scope.names.lookup x = some NameKind.local) (hl : scope.names.lookup (Str.ofString "len") = some NameKind.globalImplicit) (hcell : ∀ y ∈ scope.names, y.2 ≠ NameKind.cell)
    (hf : s.heap.get? f = some (kla_obj "<lambda>" q params (.Tuple [.Call (.Name "len" p1) [.Name x p2] [] p3, .Name x p4] k p5) scope [] pm c' ctv))
    (hc : s.heap.CodeRec (.ref c') q)
    (hb : ∀ u, bindArgs (kla_fn "<lambda>" q params (.Tuple [.Call (.Name "len" p1) [.Name x p2] [] p3, .Name x p4] k p5) scope [] pm (.ref c') ctv) ⟨[u], []⟩ = pure [(x, u)])
    (pl : s.heap.IsTuple t items.toArray) (hlen : items.length < 2 ^ 60) (rd : Reads s.heap (.ref t) (.tuple (B.map .int)) []) (eB : items.length = B.length)
    (hdb : (x == ("__debug__" : Str)) = false) :
    wpAny (model X.prog X.w) X.A.in1.in1 (call (.ref f) [.ref t]) (KeyPure (.tuple [.int B.length, .tuple (B.map .int)]) s) (fun _ _ => False) s := by
  refine wpAny_call (PySem.W.kla_callFunE ?_ hf rfl S.co S.gen rfl hc ?_)
  · show X.A.depth < recursionLimit
    omega
  rw [hb]
  refine wpAny_pure (wpAny_newFunctionEnv hcell (fun y hy => ?_) (fun h₁ hns hsb => ⟨I.nolimit.fresh _ hsb, ?_⟩) S.kind)
  · rcases List.mem_singleton.mp hy with rfl
    exact hx
  have kp : ∀ b o, s.heap.get? b = some o → h₁.get? b = some o := by
    intro b o z
    exact hsb.extBut b o (Nat.ne_of_lt (Heap.lt_size z)) (Heap.get?_push_of_some _ z)
  refine PySem.W.kla_codeExpr (wpAny_Tuple ?_)
  have lx : ∀ {Q : Value → Shared → Prop} {E : Value → Shared → Prop} {A : Around} {tk : Nat} {p : Pos},
      Q (.ref t) { heap := h₁, gens := s.gens, drawn := s.drawn, toks := tk, os := s.os } →
      wpAny (model X.prog X.w) A (eval (.Name x p) (newEnv scope s.heap.objs.size mainGlobals [] (q ++ ".<locals>.") (some f) (.ref c') none builtinsNs)) Q E { heap := h₁, gens := s.gens, drawn := s.drawn, toks := tk, os := s.os } := by
    intro Q E A tk p hq
    refine wpAny_Name (wpAny_loadName_local S.kind hx hns ?_ hq) hdb
    simp
  have kb : ∀ b o, X.base.get? b = some o → h₁.get? b = some o := fun b o z => kp b o (I.env0.bs b o z).1
  obtain ⟨mb, nb, eb⟩ := I.env0.mod.blt
  refine Calls.spliced_cons (wpAny_Call_Name_kw (wpAny_Name ?_ (by decide)))
  refine W.ks_loadName_global S.kind hl (Calls.loadGlobal_builtin (I.env0.mod.glob.keeps kb) hm2 (nb.keeps kb) ((eb _ (by decide)).trans (show bootBuiltins (Str.ofString "len") = some (.builtin "len") by decide +kernel)) ?_)
  refine PyProof.Rows.callWith_kw (Calls.spliced_cons (lx (Calls.spliced_nil ?_)))
  refine wpAny_evalAll_nil ?_
  have pl' : IsTup h₁ t items.toArray := by
    obtain ⟨o, ho, hc, hd⟩ := pl
    exact ⟨o, kp _ _ ho, hc, hd⟩
  refine len_tuple pl' (by simp only [List.size_toArray]; omega) ?_
  refine Calls.spliced_cons (lx (Calls.spliced_nil ?_))
  refine ⟨by simp [sizeLine_eq], ?_⟩
  refine ⟨_, _, rfl, fun b o e => Heap.get?_push_of_some _ (kp b o e), ?_⟩
  have r1 := PyProof.Rows.Reads.keeps (fun c o e => Heap.get?_push_of_some { cls := Value.type "tuple", data := Data.seq #[Value.int ↑items.toArray.size (s.toks + [(x, Value.ref t)].length + 1), Value.ref t] } (kp c o e)) rd
  refine Reads.tuple (Heap.get?_push_size _ rfl) rfl rfl (.cons (as := []) (bs := []) ?_ (.cons (as := []) (bs := []) r1 .nil))
  rw [List.size_toArray, eB]
  exact Reads.int _ _
/-- sorted(l, key=lambda b: (len(b), b)): l is told, the table of the lambda's code may grow -/
def rSortLam (K : PySem.W.Frag) (T : List (Addr × Str)) : List V → Hp → VK → Prop := fun vs H Q => ∃ (a : Addr) (bs : List (V × List Int)), vs = [.ref a] ∧ SqL K H a (bs.map Prod.fst) ∧ bs.length ≤ 100000 ∧
  (∀ b ∈ bs, b.2.length ≤ 1000 ∧ ∃ t, b.1 = .ref t ∧ SqT K H t (b.2.map V.int)) ∧ Tabs T H ∧
  ∀ (H1 : Hp) (zs : List (V × List Int)) (p : Addr), ExtN H H1 → Tabs T H1 → zs.Perm bs → zs.Pairwise (fun x y => x.2.length < y.2.length ∨ (x.2.length = y.2.length ∧ x.2 ≤ y.2)) → H1 p = none → Q (.ref p) (upd H1 p (.lst (zs.map Prod.fst)))
theorem sqlN {K : PySem.W.Frag} {H H' : Hp} {a : Addr} {xs : List V} (h : SqL K H a xs) (e : ExtN H H') : SqL K H' a xs := by
  rcases h with (h | ⟨o, h⟩) | h
  · exact .inl (.inl (e _ _ h (fun ps z => by cases z)))
  · exact .inl (.inr ⟨o, e _ _ h (fun ps z => by cases z)⟩)
  · exact .inr h
theorem sqtN {K : PySem.W.Frag} {H H' : Hp} {a : Addr} {xs : List V} (h : SqT K H a xs) (e : ExtN H H') : SqT K H' a xs := by
  rcases h with (h | ⟨o, h⟩) | h
  · exact .inl (.inl (e _ _ h (fun ps z => by cases z)))
  · exact .inl (.inr ⟨o, e _ _ h (fun ps z => by cases z)⟩)
  · exact .inr h
theorem dataLe_lens {β : Type} (x : β → List Int) : (dataLe false fun b => PyData.tuple [.int (x b).length, .tuple ((x b).map .int)]) =
    fun p q => decide ((x p).length < (x q).length ∨ ((x p).length = (x q).length ∧ x p ≤ x q)) := by
  have tq : ∀ p q, dataLt (.tuple ((x q).map .int)) (.tuple ((x p).map .int)) = !decide (x p ≤ x q) := by
    intro p q
    have h := congrFun (congrFun (dataLe_tups x) p) q
    rw [dataLe_eq] at h
    have h2 : (!dataLt (.tuple ((x q).map .int)) (.tuple ((x p).map .int))) = decide (x p ≤ x q) := h
    rw [← h2, Bool.not_not]
  rw [dataLe_eq]
  funext p q
  show (!dataLt _ _) = _
  rw [dataLt_pair rfl (by rw [alike]; exact alike_ints _ _), tq, dataLt_int, PyData.eqv, PyData.eqv, eqvAll_ints]
  by_cases e : (x q).length = (x p).length
  · by_cases e2 : x q = x p
    · simp [e, e2]
    · simp [e, e2]
  · by_cases lt : (x q).length < (x p).length
    · have : ¬ (x p).length < (x q).length := by omega
      have e3 : ¬ (x p).length = (x q).length := by omega
      simp [e, lt, this, e3]
      omega
    · have : (x p).length < (x q).length := by omega
      have e3 : ¬ (x p).length = (x q).length := by omega
      simp [e, lt, this, e3]
      omega
theorem lens_srt {β : Type} (x : β → List Int) (bs : List β) : (bs.mergeSort (dataLe false fun b => PyData.tuple [.int (x b).length, .tuple ((x b).map .int)])).Pairwise fun p q => (x p).length < (x q).length ∨ ((x p).length = (x q).length ∧ x p ≤ x q) := by
  rw [dataLe_lens]
  refine (List.pairwise_mergeSort (fun a b c h1 h2 => decide_eq_true ?_) (fun a b => ?_) bs).imp fun h => of_decide_eq_true h
  · rcases of_decide_eq_true h1 with h1 | ⟨h1, h1'⟩ <;> rcases of_decide_eq_true h2 with h2 | ⟨h2, h2'⟩
    · exact .inl (by omega)
    · exact .inl (by omega)
    · exact .inl (by omega)
    · exact .inr ⟨by omega, List.le_trans h1' h2'⟩
  · rw [Bool.or_eq_true, decide_eq_true_eq, decide_eq_true_eq]
    rcases Nat.lt_trichotomy (x a).length (x b).length with h | h | h
    · exact .inl (.inl h)
    · rcases List.le_total (x a) (x b) with h2 | h2
      · exact .inl (.inr ⟨h, h2⟩)
      · exact .inr (.inr ⟨h.symm, h2⟩)
    · exact .inr (.inl h)
theorem pe_sortLam {e : Expr} {t : TA} {x : Str} {params : Arguments} {scope : Scope} {p p1 p2 p3 p4 p5 lpos kpos pos : Pos} {k : Nat} {c P : Addr} {T : List (Addr × Str)}
    (hu : X.A.units + 64 < cLine) (hdp : X.A.depth + 5 < recursionLimit) (hg : Gl X "sorted") (hm : X.mg "sorted" = none) (hm2 : X.mg "len" = none)
    (TB : TabB X.base X.mg c P) (hcode : X.env.code = .ref c) (hmT : (P, X.env.qual ++ "<lambda>") ∈ T) (hT : ∀ p ∈ T, p.1 = P → p.2 = X.env.qual ++ "<lambda>")
    (S : FnScope [x] [x] scope) (hx : scope.names.lookup x = some NameKind.local) (hl : scope.names.lookup (Str.ofString "len") = some NameKind.globalImplicit)
    (hcell : ∀ y ∈ scope.names, y.2 ≠ NameKind.cell) (hdef : defaultsOf params X.env = ([], []))
    (hb : ∀ q pm c' ctv u, bindArgs (kla_fn "<lambda>" q params (.Tuple [.Call (.Name "len" p1) [.Name x p2] [] p3, .Name x p4] k p5) scope [] pm (.ref c') ctv) ⟨[u], []⟩ = pure [(x, u)])
    (ha : PA X [e] t) (hclo : cloFrom X.env.cells scope.names [] = []) (hdb : (x == ("__debug__" : Str)) = false := by decide)
    (he : backTo pos (starEach [e] X.env) = (false, eval e X.env) :: backTo pos (starEach [] X.env) := by rfl) (hpl : (backTo pos (starEach [e] X.env)).any (·.1) = false := by rfl) :
    PE X (.Call (.Name "sorted" p) [e] [⟨some (Str.ofString "key"), .Lambda params (.Tuple [.Call (.Name "len" p1) [.Name x p2] [] p3, .Name x p4] k p5) scope lpos, kpos⟩] pos) (tCB (rSortLam X.K T) t) := by
  refine ⟨fun pins s σ H Q I h => ?_⟩
  refine wpAny_Call_Name_kw (ld_blt I hg hm (u := .builtin "sorted") (by decide +kernel) ?_ (by decide) (by decide))
  refine PyProof.Rows.callWith_kw (thn (ha.run pos pins s σ H _ I h) fun us s1 ⟨vs, H1, I1, r1, q1⟩ => ?_) he hpl (by rfl) (by rfl)
  obtain ⟨a, bs, rfl, hs, few, hbs, hTs, q⟩ := q1
  show wpAny _ _ (evalAll [do let v ← eval (.Lambda params _ scope lpos) X.env; standAt pos; pure v]) _ _ s1
  refine wpAny_evalAll_cons (wpAny_bind (lam_make2 I1 TB hcode hmT hT hTs hdef (fun y hy hfr => absurd hfr (S.nofree y hy)) ?_))
  intro f c' pm ctv H2 s2 I2 eN T2 hf hfn hfr hco
  refine wpAny_bind (wpAny_standAt (wpAny_pure (wpAny_evalAll_nil ?_)))
  rw [hclo] at hf
  rw [show (backToKw pos (keywordEach [⟨some (Str.ofString "key"), .Lambda params (.Tuple [.Call (.Name "len" p1) [.Name x p2] [] p3, .Name x p4] k p5) scope lpos, kpos⟩] X.env)).filterMap (·.1) = [Str.ofString "key"] from rfl]
  show wpAny _ _ (call (.builtin "sorted") us [(Str.ofString "key", .ref f)]) _ _ s2
  have hs2 := sqlN hs eN
  obtain ⟨its, rv, pl, small⟩ := I2.list hs2
  rw [Vals.ref1 r1]
  have ee := each_of rv rfl
  have line : bs.length ≤ sizeLine := by rw [sizeLine_eq]; omega
  obtain ⟨⟨oc, vs, t', hoc, hdc, hvc⟩, _, _⟩ := I2.hok c' _ hco
  refine sorted_key_data (f := .ref f) (b := false) (fun b : V × List Int => .tuple [.int b.2.length, .tuple (b.2.map .int)]) pl.isList ee ?_ ?_ line (fun b hb => ?_) (ksk_s1 _ _) (fun _ => ksk_l1 _ _) (fun _ => ksk_t1 _ _) (fun v b rb hb' h tk kp => ?_) fun out c h' tk kp fr hD lo eo => ?_
  · refine AllAlike.of fun b b' => ?_
    simp only [alike, alikeAll, alike_ints, Bool.and_true, Bool.true_and]
  · refine .inl fun d hd => ?_
    obtain ⟨b, _, rfl⟩ := List.mem_map.mp hd
    exact ⟨_, _, rfl⟩
  · have := depth_ints b.2
    simp only [PyData.depth, PyData.depthAll]
    omega
  · obtain ⟨ll, t, et, St⟩ := hbs b hb'
    rw [et] at rb
    cases rb
    have J : Inv X pins σ H2 { s2 with heap := h, toks := tk } := I2.kept kp
    obtain ⟨its2, rv2, p2, hz2⟩ := J.tuple (sqtN St eN)
    have hlen := rv2.length
    rw [List.length_map] at hlen
    refine lam_lenb (s := { s2 with heap := h, toks := tk }) J hu hdp hm2 S hx hl hcell (kp _ _ hf) ⟨c', oc, vs, t', rfl, kp _ _ hoc, hdc, hvc⟩ (fun u => hb _ _ _ _ u) p2 (by omega) ?_ hlen.symm hdb
    obtain ⟨o, ho, hc2, n, hd2⟩ := p2
    exact Reads.tuple ho hc2 hd2 (reads_ints rv2)
  · refine ⟨.ref _, upd H2 (s2.heap.objs.size + 1) (.lst ((bs.mergeSort (dataLe false fun b : V × List Int => .tuple [.int b.2.length, .tuple (b.2.map .int)])).map Prod.fst)), I2.laid (t' := tk) kp (Nat.le_succ _) ⟨?_, out, c, vals_of_each eo, hD⟩, rfl,
      q _ _ _ eN T2 (List.mergeSort_perm _ _) ?_ (I2.hok.fresh (Nat.le_succ _))⟩
    · rw [List.length_map, List.length_mergeSort]
      exact line
    · exact lens_srt (fun b : V × List Int => b.2) bs
end
section
variable {P : Program} {w : World} {K : PySem.W.Frag} {mg : Str → Option Value} {base : Heap} {CX : CXT} {k : Nat} {x : Str} {ps : List Str} {sp : Sp} {st : Stmt}
/-- a def whose body makes lambdas: its code object is known -/
theorem defC {N : List Str} (T : At K mg x st) (S : FnScope N ps (defScope st))
    (hb : ∀ (kV doc pm : Value) (an : Option Addr) (cd ct : Value) (us : List Value), us.length = ps.length →
      bindArgs (PySem.W.fnOf x x (defArgs st) (defBody st) (defScope st) .none kV doc pm an cd ct) ⟨us, []⟩ = pure (ps.zip us))
    (arity : ∀ vs H Q E, sp vs H Q E → vs.length = ps.length)
    (body : ∀ (f : Addr) (cd : Value) (A : Around) (out : List Env) (s : Shared) (H : Hp) (vs : List V) (Q : VK) (E : XK),
      cd = .ref (He.codeOf K (x, none)) → Rm k (A.deeper (envOfC x (defScope st) s.heap.objs.size f cd)) → sp vs H Q E →
      ∃ t, PSs (cxOf CX P w K mg base N x (defScope st) f cd A out s H E).nox (defBody st) t ∧
        t { nx := fun _ H' => Q .non H', rt := Q } (start N vs) H) : Def P w K mg base CX (k + 1) x ps sp := by
  obtain ⟨fd, F⟩ := T.fn
  have F' := F
  have bnd := F.bindsN hb
  obtain ⟨oc, od, dV, kV, doc, pm, an, cd, ct, osl, rfl, lk, hcd, _, _⟩ := F.ex
  have ec : cd = .ref (He.codeOf K (x, none)) := by
    obtain ⟨c, rfl⟩ := He.codeIn_ref hcd
    rw [He.codeOf_eq (p := (x, none)) lk rfl]
  refine ⟨_, _, ⟨fun h => arity _ _ _ _ h, ?_⟩, T.glo, F'.kp, bnd, oc, od, osl, lk⟩
  intro A out s H ar us vs Q E hr e0 hbd hv h
  have nv := arity _ _ _ _ h
  have inK : K.In s.heap := e0.mod.kin.keeps (fun b o e => (e0.bs b o e).1)
  have nl : s.heap.NoLimit := e0.mod.nolimit.keeps (fun b o e => (e0.bs b o e).1)
  have kd : ∀ y ∈ ps.zip us, (defScope st).names.lookup y.1 = some .local ∨
      ((defScope st).names.lookup y.1 = some .cell ∧ ((cellsFrom (s.heap.objs.size + 1) (defScope st).names []).lookup y.1).isSome = true) := by
    rintro ⟨n, v⟩ hy
    cases S.par n (List.of_mem_zip hy).1 with
    | inl q => exact .inl q
    | inr q => exact .inr ⟨q, PySem.W.cellsFrom_some _ _ _ (.inl q)⟩
  refine codeAny_call_function hr.room.depth (inK _ _ lk) rfl S.co S.gen rfl (PySem.W.codeRec_of inK hcd) (hbd _ _ _ _ ?_)
  refine wpAny_newFunctionEnv_cells S.kind kd (fun env he s1 xc => ?_)
  subst he
  refine ⟨nl.keeps xc.toInCall.keep, codeAny_func ?_⟩
  obtain ⟨t, ht, hq⟩ := body _ cd A out s H vs Q E ec hr.down h
  have I := inv_start (CX := CX) (P := P) (w := w) (qual := x) (cd := cd) (f := He.ga K x) (E := E) S hr.room.hd e0 nv hv xc
  refine wpAny_mono (ht.nox.run [] s1 (start N vs) H _ I hq) (fun fl s' hs => ?_) (fun e s' hs => hs)
  cases fl with
  | ret u =>
    obtain ⟨v, σ', H', J, rv, q⟩ := hs
    exact ⟨v, H', J.os, J.bare, J.base, J.hok, rv, q⟩
  | next =>
    obtain ⟨σ', H', J, q⟩ := hs
    exact ⟨.non, H', J.os, J.bare, J.base, J.hok, rfl, q⟩
  | brk =>
    obtain ⟨_, _, _, q⟩ := hs
    exact q.elim
  | cont =>
    obtain ⟨_, _, _, q⟩ := hs
    exact q.elim
end
end MM

set_option Elab.async false
set_option linter.all false
set_option maxRecDepth 100000
set_option maxHeartbeats 4000000
namespace K08
open PySem PySem.Spec PyProof.Rows L2 MM GT LamX
/-! own words for the readings: a step, its side -/
local macro_rules | `(tactic| walk_at "side") => `(tactic| first
  | omega
  | exact ⟨by omega, by omega⟩
  | exact Or.inl ⟨by omega, by omega⟩
  | exact Or.inr ⟨by omega, by omega⟩
  | (show CPw _ _; decide +kernel)
  | (show (0 : Int) < _; decide +kernel)
  | (show CDivW _ _; first | assumption | exact ⟨by decide, by decide +kernel⟩))
local macro_rules | `(tactic| walk_at "here") => `(tactic| first
  | assumption
  | exact upd_same
  | exact Or.inl (Or.inl upd_same)
  | exact Or.inl upd_same)
local macro_rules | `(tactic| walk_at "one") => `(tactic| first
  | refine ⟨_, rfl, ?_⟩
  | refine Or.inl ⟨_, rfl, ?_⟩
  | refine Or.inr ⟨_, rfl, ?_⟩
  | refine ⟨_, _, rfl, rfl, (by walk_at "side"), ?_⟩
  | refine ⟨_, _, rfl, rfl, ?_⟩
  | refine ⟨_, _, rfl, Or.inl (by walk_at "here"), ?_⟩
  | refine ⟨_, _, rfl, Or.inr (by walk_at "here"), ?_⟩
  | refine ⟨_, _, rfl, (by walk_at "here"), ?_⟩
  | refine ⟨_, _, _, _, rfl, rfl, (by walk_at "here"), rfl, ?_⟩
  | refine ⟨_, _, rfl, ?_⟩
  | refine ifT (by rfl) ?_
  | refine ifF (by rfl) ?_
  | refine ifT (decide_eq_true (by omega)) ?_
  | refine ifF (decide_eq_false (by omega)) ?_)
local macro_rules | `(tactic| walk_at "st") => `(tactic| repeat (walk_at "one"))

section
variable {P : Program} {w : World} {K : PySem.W.Frag} {mg : Str → Option Value} {base : Heap}
abbrev q1 : Str := (envOfC sIo (defScope sInOrder) 0 0 .none).qual ++ "<lambda>"
abbrev TL (K : PySem.W.Frag) : List (Addr × Str) := [((cd1 K).2, q1)]
structure Tb (K : PySem.W.Frag) (mg : Str → Option Value) (base : Heap) : Prop where
  t1 : TabB base mg (cd1 K).1 (cd1 K).2
theorem Tb.u1 (h : Tb K mg base) : ∀ p ∈ TL K, p.1 = (cd1 K).2 → p.2 = q1 := by
  intro p hp e
  rcases List.mem_cons.mp hp with rfl | hp
  · rfl
  · cases hp
theorem Tb.m1 (h : Tb K mg base) : ((cd1 K).2, q1) ∈ TL K := List.mem_cons_self
theorem _root_.MM.Rm.dpL {A : Around} {k : Nat} (h : Rm k A) : A.depth + 5 < recursionLimit := by
  have := h.room.dp
  omega
def lamScope : Stmt → Scope
  | .FunctionDef _ _ [.Return (some (.Call _ _ [⟨_, .Lambda _ _ sc _, _⟩] _)) _] _ _ _ _ _ _ _ => sc
  | _ => default
theorem scLam : FnScope ["body"] ["body"] (lamScope sInOrder) :=
  ⟨rfl, rfl, rfl, by decide +kernel, rfl, by decide +kernel, by decide +kernel⟩
def spInOrder (K : PySem.W.Frag) : Sp := fun vs H Q _ => ∃ (a : Addr) (bs : List (V × List Int)), vs = [.ref a] ∧ SqL K H a (bs.map Prod.fst) ∧ bs.length ≤ 100000 ∧
  (∀ b ∈ bs, b.2.length ≤ 1000 ∧ ∃ t, b.1 = .ref t ∧ SqT K H t (b.2.map V.int)) ∧ Tabs (TL K) H ∧
  ∀ (H1 : Hp) (zs : List (V × List Int)) (p : Addr), ExtN H H1 → Tabs (TL K) H1 → zs.Perm bs → zs.Pairwise (fun x y => x.2.length < y.2.length ∨ (x.2.length = y.2.length ∧ x.2 ≤ y.2)) → H1 p = none → Q (.ref p) (upd H1 p (.lst (zs.map Prod.fst)))
theorem scInOrder : FnScope ["bodies"] ["bodies"] (defScope sInOrder) :=
  ⟨rfl, rfl, rfl, by decide +kernel, rfl, by decide +kernel, by decide +kernel⟩
theorem dInOrder (T : Tx K mg) (TB : Tb K mg base) : Def P w K mg base CX0 1 "in_order" ["bodies"] (spInOrder K) := by
  refine defC T.t_in_order (N := ["bodies"]) scInOrder (fun _ _ _ _ _ _ us hl => match us, hl with | [_], _ => rfl) ?_ ?_
  · intro vs H Q E h
    obtain ⟨a, bs, rfl, _⟩ := h
    rfl
  · intro f cd A out s H vs Q E ec hr h
    subst ec
    obtain ⟨a, bs, rfl, h⟩ := h
    refine ⟨_, (pss_one (ps_ret (pe_sortLam hr.hu hr.dpL rfl T.f_sorted T.f_len TB.t1 rfl TB.m1 TB.u1 scLam rfl rfl (by decide +kernel) rfl (fun _ _ _ _ _ => rfl) (pa_cons (pv 0) pa_nil) rfl))), ?_⟩
    exact ⟨_, rfl, a, bs, rfl, h⟩
end
end K08


set_option Elab.async false
set_option linter.all false
set_option maxRecDepth 100000
set_option maxHeartbeats 2000000
/-! own classes: instances made, methods, properties, class methods and `in`, where nothing is being shown -/
namespace MM
open PySem PySem.Spec PyProof.Rows L2
/-- the def at an address keeps a promise -/
def FAt (P : Program) (w : World) (K : PySem.W.Frag) (mg : Str → Option Value) (base : Heap) (CX : CXT) (k : Nat) (f : Addr) (ps : List Str) (sp : Sp) : Prop :=
  ∃ fd, FnG P w K mg base CX k f fd ps sp ∧ PySem.W.keepIn K (.ref f) = true ∧ Binds K fd ps []
theorem FAt.of {P : Program} {w : World} {K : PySem.W.Frag} {mg : Str → Option Value} {base : Heap} {CX : CXT} {k : Nat} {f : Addr} {ps N : List Str} {sp : Sp} {x q : Str} {st : Stmt}
    (T : ∃ fd, FunD K x q (defArgs st) (defBody st) (defScope st) [] [] f fd) (S : FnScope N ps (defScope st))
    (hb : ∀ (kV doc pm : Value) (an : Option Addr) (cd ct : Value) (us : List Value), us.length = ps.length →
      bindArgs (PySem.W.fnOf x q (defArgs st) (defBody st) (defScope st) .none kV doc pm an cd ct) ⟨us, []⟩ = pure (ps.zip us))
    (arity : ∀ vs H Q E, sp vs H Q E → vs.length = ps.length)
    (body : ∀ (cd : Value) (A : Around) (out : List Env) (s : Shared) (H : Hp) (vs : List V) (Q : VK) (E : XK),
      Rm k (A.deeper (envOfC q (defScope st) s.heap.objs.size f cd)) → sp vs H Q E →
      ∃ t, PSs (cxOf CX P w K mg base N q (defScope st) f cd A out s H E).nox (defBody st) t ∧
        t { nx := fun _ H' => Q .non H', rt := Q } (start N vs) H) : FAt P w K mg base CX (k + 1) f ps sp := by
  obtain ⟨fd, F⟩ := T
  refine ⟨fd, FnG.body F S arity fun cd A out s H vs Q E hr h => ?_, F.kp, F.bindsN hb⟩
  obtain ⟨t, d, q⟩ := body cd A out s H vs Q E hr h
  exact ⟨t, d.nox, q⟩
theorem FAt.le {P : Program} {w : World} {K : PySem.W.Frag} {mg : Str → Option Value} {base : Heap} {CX : CXT} {j k : Nat} {f : Addr} {ps : List Str} {sp : Sp} (F : FAt P w K mg base CX j f ps sp) (h : j ≤ k) : FAt P w K mg base CX k f ps sp :=
  let ⟨fd, G, r⟩ := F
  ⟨fd, G.le h, r⟩
theorem room_under {A : Around} {k : Nat} (r : Rm (k + 1) A) (C : Addr) (us : List Value) (kw : List (Str × Value)) :
    Rm k (A.under (.builtin "type.__call__" ⟨.ref C :: us, kw⟩)) := ⟨r.room.make C us kw, r.still⟩
section
variable {X : Cx} {CX : CXT} {k : Nat} {C : Addr} {ps : List Str} {sp : Sp} {E : XK} {x m : Str} {p pos apos : Pos} {o e : Expr} {es : List Expr} {ta : TE} {t : TA} {pl : Sem Bool}
  {pins : List (Addr × Obj)} {σ : L2.St} {H : Hp} {s : Shared} {Q : VK} {us : List Value} {vs : List V}
theorem call_f {f : Addr} (F : FAt X.prog X.w X.K X.mg X.base CX k f ps sp) (hr : Rm k X.A) (hx : Passes CX X E)
    (I : Inv X pins σ H s) (r : Vals vs us) (h : sp vs H Q E) :
    wpAny (model X.prog X.w) X.A (call (.ref f) us) (EP X pins σ Q) X.xe s := by
  obtain ⟨fd, F, _, hb⟩ := F
  exact call_g F hr hb hx I r h
theorem code_f {f : Addr} (F : FAt X.prog X.w X.K X.mg X.base CX k f ps sp) (hr : Rm k X.A) (hx : Passes CX X E)
    (I : Inv X pins σ H s) (r : Vals vs us) (h : sp vs H Q E) :
    codeAny (model X.prog X.w) X.A (.call (.ref f) ⟨us, []⟩) (fun r s' => match r with
      | .ok (.ret v) => EP X pins σ Q v s'
      | .ok _ => False
      | .error e => X.xe e s') s := by
  obtain ⟨fd, F, _, hb⟩ := F
  have nl : (us ++ []).length = ps.length := by
    rw [List.append_nil, ← r.length]
    exact F.arity h
  have bd := hb s us I.kIn nl
  rw [List.append_nil] at bd
  refine codeAny_mono (F.runs hr I.env0 bd r h) ?_
  intro res s' hq
  cases res with
  | error e => exact hx pins σ H s e s' I hq
  | ok fl =>
    cases fl with
    | ret u => exact I.after hq
    | next => exact hq.elim
    | brk => exact hq.elim
    | cont => exact hq.elim
/-- o.m(e, ..) -/
theorem pe_methG {f : Addr} (he : PE X o ta) (c : Cls X.K C) (hm : Meth X.K C m f) (F : FAt X.prog X.w X.K X.mg X.base CX k f ps sp) (hr : Rm k X.A) (hx : Passes CX X E)
    (ha : PA X (e :: es) t) (hst : starEach (e :: es) X.env = (false, eval e X.env) :: starEach es X.env := by rfl) (hpl : (backTo pos (starEach es X.env)).any (·.1) = false := by rfl)
    (ht : eval (.Call (.Attribute o m apos) (e :: es) [] pos) X.env = (do
      let ov ← eval o X.env
      standAt apos.atName
      let (f, first) ← holding [ov] (getMethod ov m pl)
      callWith pos f first (backTo pos (starEach (e :: es) X.env)) (backToKw pos (keywordEach [] X.env))) := by rfl) :
    PE X (.Call (.Attribute o m apos) (e :: es) [] pos) (tMeth C m sp [] E ta t) := by
  refine ⟨fun pins s σ H Q I h => W.methodCall_KW (thn (he.run pins s σ H _ I h) ?_) ht⟩
  rintro u s1 ⟨x1, H1, I1, rx, a, dx, fs, rfl, ea, l, q⟩
  obtain rfl : u = Value.ref a := rx
  refine getmeth_ok I1 ea c hm l (W.callWith_K I.ok.mod.kin hm.kp (thn (ha.run pos pins s1 σ H1 _ I1 q) ?_) hst hpl)
  rintro us s2 ⟨vs, H2, I2, r, q2⟩
  rw [List.append_nil] at q2
  exact ⟨I2.kIn, call_f F hr hx I2 (.cons (show L2.RelV (.ref a) (.ref a) from rfl) r) q2⟩
theorem pe_methG0 {f : Addr} (he : PE X o ta) (c : Cls X.K C) (hm : Meth X.K C m f) (F : FAt X.prog X.w X.K X.mg X.base CX k f ps sp) (hr : Rm k X.A) (hx : Passes CX X E)
    (ht : eval (.Call (.Attribute o m apos) [] [] pos) X.env = (do
      let ov ← eval o X.env
      standAt apos.atName
      let (f, first) ← holding [ov] (getMethod ov m pl)
      callWith pos f first (backTo pos (starEach [] X.env)) (backToKw pos (keywordEach [] X.env))) := by rfl) :
    PE X (.Call (.Attribute o m apos) [] [] pos) (tMeth C m sp [] E ta tNil) := by
  refine ⟨fun pins s σ H Q I h => W.methodCall_KW (thn (he.run pins s σ H _ I h) ?_) ht⟩
  rintro u s1 ⟨x1, H1, I1, rx, a, dx, fs, rfl, ea, l, q⟩
  obtain rfl : u = Value.ref a := rx
  exact getmeth_ok I1 ea c hm l (W.callWith_K0 I1.kIn hm.kp (call_f F hr hx I1 (.cons (show L2.RelV (.ref a) (.ref a) from rfl) .nil) q))
/-- the call of a class -/
theorem run_makeG {f : Addr} (M : Mk X.K C f) (F : FAt X.prog X.w X.K X.mg X.base CX k f ps sp) (hr : Rm (k + 1) X.A) (hx : Passes CX X E)
    (I : Inv X pins σ H s) (r : Vals vs us)
    (h : ∀ x dx, H x = none → H dx = none → dx ≠ x → sp (.ref x :: vs) (upd (upd H dx (.own x)) x (.ins C dx [])) (fun v H2 => v = .non ∧ Q (.ref x) H2) E) :
    wpAny (model X.prog X.w) X.A (call (.ref C) us) (EP X pins σ Q) X.xe s := by
  obtain ⟨fd, F, _, hb⟩ := F
  have hq := h (s.heap.objs.size + 1) s.heap.objs.size (I.hok.fresh (Nat.le_succ _)) (I.hok.fresh (Nat.le_refl _)) (Nat.ne_of_lt (Nat.lt_succ_self _))
  have I2 := I.made (C := C)
  have r2 : Vals (V.ref (s.heap.objs.size + 1) :: vs) (Value.ref (s.heap.objs.size + 1) :: us) := .cons rfl r
  have hl : (Value.ref (s.heap.objs.size + 1) :: us ++ []).length = ps.length := by
    rw [List.append_nil, ← r2.length]
    exact F.arity hq
  have bd := hb { s with heap := (s.heap.push PySem.W.emptyDict).push (PySem.W.instObj C s.heap.objs.size) } (Value.ref (s.heap.objs.size + 1) :: us) I2.kIn hl
  rw [List.append_nil] at bd
  refine wpAny_call (make_map I.kIn M.makes M.init (beq_iff_eq.mp M.fn) (codeAny_mono (F.runs (out := X.stack) (room_under hr C us []) (I2.env0.make C us []) bd r2 hq) ?_))
  intro res s' hq'
  cases res with
  | error e => exact hx pins σ _ _ e s' I2 hq'
  | ok fl =>
    cases fl with
    | ret u =>
      obtain ⟨v, H', I3, rv, ev, q3⟩ := I2.after hq'
      subst ev
      exact ⟨rv, .ref (s.heap.objs.size + 1), H', I3, rfl, q3⟩
    | next => exact hq'.elim
    | brk => exact hq'.elim
    | cont => exact hq'.elim
/-- C(e, ..) -/
theorem pe_makeG {f : Addr} (M : Mk X.K C f) (F : FAt X.prog X.w X.K X.mg X.base CX k f ps sp) (hr : Rm (k + 1) X.A) (hm : X.mg x = some (.ref C)) (hx : Passes CX X E)
    (ha : PA X (e :: es) t) (hg : Gl X x := by rfl) (hdb : (x == ("__debug__" : Str)) = false := by decide)
    (he : starEach (e :: es) X.env = (false, eval e X.env) :: starEach es X.env := by rfl) (hpl : (backTo pos (starEach es X.env)).any (·.1) = false := by rfl) :
    PE X (.Call (.Name x p) (e :: es) [] pos) (tMake C sp [] E t) := by
  refine ⟨fun pins s σ H Q I h => wpAny_Call_Name_kw (ld_glob I hg hm (PySem.W.callWith_K I.ok.mod.kin M.kp (thn (ha.run pos pins s σ H _ I h) ?_) he hpl) hdb)⟩
  rintro us s1 ⟨vs, H1, I1, r, q⟩
  refine ⟨I1.kIn, run_makeG M F hr hx I1 r fun x dx hx hd ne => ?_⟩
  have := q x dx hx hd ne
  rwa [List.append_nil] at this
/-- c(e, ..), c a variable that holds the class -/
def tMakeV (C : Addr) (i : Nat) (sp : Sp) (E : XK) (t : TA) : TE := fun σ H Q => σ[i]? = some (some (.ref C)) ∧ tMake C sp [] E t σ H Q
theorem pe_makeV {f : Addr} {i : Nat} (M : Mk X.K C f) (F : FAt X.prog X.w X.K X.mg X.base CX k f ps sp) (hr : Rm (k + 1) X.A) (hx : Passes CX X E)
    (ha : PA X (e :: es) t) (hN : X.N[i]? = some x) (hv : Vis X.env.scope x) (hdb : (x == ("__debug__" : Str)) = false := by decide) (hcd : (x == ("__classdict__" : Str)) = false := by decide)
    (he : starEach (e :: es) X.env = (false, eval e X.env) :: starEach es X.env := by rfl) (hpl : (backTo pos (starEach es X.env)).any (·.1) = false := by rfl) :
    PE X (.Call (.Name x p) (e :: es) [] pos) (tMakeV C i sp E t) := by
  refine ⟨fun pins s σ H Q I h => ?_⟩
  obtain ⟨hs, h⟩ := h
  refine wpAny_Call_Name_kw (thn ((pe_var (pos := p) (i := i) hN hv hdb hcd).run pins s σ H (fun v H1 => v = .ref C ∧ H1 = H) I ⟨.ref C, hs, rfl, rfl⟩) ?_)
  rintro u s1 ⟨v, H1, I1, r1, rfl, rfl⟩
  obtain rfl : u = Value.ref C := r1
  refine PySem.W.callWith_K I1.ok.mod.kin M.kp (thn (ha.run pos pins s1 σ H1 _ I1 h) ?_) he hpl
  rintro us s2 ⟨vs, H2, I2, r, q⟩
  refine ⟨I2.kIn, run_makeG M F hr hx I2 r fun x dx hx hd ne => ?_⟩
  have := q x dx hx hd ne
  rwa [List.append_nil] at this
/-- o.f, f a property -/
theorem getprop_g {f g a dx : Addr} {nm : Str} {fs : List (Str × V)} {b : Bool} {E' : Value → Shared → Prop} (I : Inv X pins σ H s) (ea : H a = some (.ins C dx fs)) (c : Cls X.K C)
    (hp : PropOf X.K C nm f g) (F : FAt X.prog X.w X.K X.mg X.base CX k g ps sp) (hr : Rm (k + 1) X.A) (hx : Passes CX X.nox E) (h : sp [.ref a] H Q E) :
    wpAny (model X.prog X.w) X.A (getAttr (.ref a) nm b) (EP X pins σ Q) E' s := by
  obtain ⟨fd, F, _, hb⟩ := F
  obtain ⟨mA, O, rl, wi, le, ho⟩ := ins_get I.hok ea
  obtain ⟨od, J, _⟩ := O.look
  obtain ⟨rest, hrec⟩ := hp.rec_
  have I1 := I.tok (s.toks + 1)
  have hl : ([Value.ref a] ++ []).length = ps.length := F.arity h
  have hc : (PySem.W.clsIn X.K C).isSome = true := by
    obtain ⟨cd, hc, _⟩ := PySem.W.any_some c.hd
    rw [hc]
    rfl
  have bd := hb { s with toks := s.toks + 1 } [Value.ref a] I1.kIn hl
  refine W.get_bind I.kIn J (W.plainGet_of (c.get nm)).1 (W.findObj_data hc hp.at_ hp.get hp.tak) (W.plainGet_of (c.get nm)).2 (wpAny_call (W.prop_get I.kIn hrec (codeAny_mono
    (F.runs (out := X.stack) (A := X.A.in1) (us := [.ref a]) (ar := ⟨[.ref a], []⟩) ⟨hr.room.in1, hr.still⟩ I1.env0.in1 bd (.cons (show L2.RelV (.ref a) (.ref a) from rfl) .nil) h) ?_)))
  intro res s' hq
  cases res with
  | error e => exact (hx pins σ H _ e s' (I1.wish fun _ _ => False) hq).elim
  | ok fl =>
    cases fl with
    | ret u =>
      obtain ⟨v, H', I3, rv, q3⟩ := I1.after hq
      show wpAny _ _ (handedOut u) _ _ _
      rw [W.handedOut_of (handed_of rv)]
      exact wpAny_pure ⟨v, H', I3, rv, q3⟩
    | next => exact hq.elim
    | brk => exact hq.elim
    | cont => exact hq.elim
theorem pe_propG {f g : Addr} {nm : Str} (he : PE X e ta) (c : Cls X.K C) (hp : PropOf X.K C nm f g) (F : FAt X.prog X.w X.K X.mg X.base CX k g ps sp) (hr : Rm (k + 1) X.A) (hx : Passes CX X.nox E)
    (hab : attributeBase e nm X.env (eval e X.env) = eval e X.env := by rfl) : PE X (.Attribute e nm pos) (tProp C sp [] E ta) := by
  refine ⟨fun pins s σ H Q I h => attr_of hab (thn (he.run pins s σ H _ I h) ?_)⟩
  rintro u s1 ⟨x1, H1, I1, rx, a, dx, fs, rfl, ea, q⟩
  obtain rfl : u = Value.ref a := rx
  exact getprop_g I1 ea c hp F hr hx q
/-- C.m(e, ..), m a class method -/
theorem pe_cmethG {q g : Addr} {mc : Value} (he : PE X o ta) (r : ClX.CRead X.K C mc) (c : ClX.CMet X.K C mc m q g) (F : FAt X.prog X.w X.K X.mg X.base CX k g ps sp) (hr : Rm k X.A) (hx : Passes CX X E)
    (ha : PA X (e :: es) t) (hst : starEach (e :: es) X.env = (false, eval e X.env) :: starEach es X.env := by rfl) (hpl : (backTo pos (starEach es X.env)).any (·.1) = false := by rfl)
    (ht : eval (.Call (.Attribute o m apos) (e :: es) [] pos) X.env = (do
      let ov ← eval o X.env
      standAt apos.atName
      let (f, first) ← holding [ov] (getMethod ov m pl)
      callWith pos f first (backTo pos (starEach (e :: es) X.env)) (backToKw pos (keywordEach [] X.env))) := by rfl) :
    PE X (.Call (.Attribute o m apos) (e :: es) [] pos) (ClX.tCMeth C sp E ta t) := by
  refine ⟨fun pins s σ H Q I h => W.methodCall_KW (thn (he.run pins s σ H _ I h) ?_) ht⟩
  rintro u s1 ⟨x1, H1, I1, rx, rfl, q⟩
  obtain rfl : u = Value.ref C := rx
  refine ClX.getmethcm_ok I1 r c fun s2 I2 => ClX.callwith_cm I2 (ClX.base_none I1 (Nat.le_refl _)) c.fi (thn (ha.run pos _ s2 σ H1 _ I2 q) ?_) hst hpl
  rintro us s3 ⟨vs, H2, I3, rv, q2⟩
  refine ⟨⟨ClX.pin_at I3, I3.kIn⟩, ?_⟩
  exact thn (wpAny_call (W.method_call (ClX.pin_at I3) (code_f F hr hx I3 (.cons (show L2.RelV (.ref C) (.ref C) from rfl) rv) q2))) fun _ _ y => ClX.unpinE y
/-- v in o, o an instance with its own __contains__ -/
def rInOwn (C : Addr) (sp : Sp) (E : XK) (neg : Bool) : R2 := fun x y H Q => ∃ a dx fs, y = .ref a ∧ H a = some (.ins C dx fs) ∧ sp [.ref a, x] H (fun v H2 => ∃ c, v = .bl c ∧ Q (.bl (c ^^ neg)) H2) E
theorem contains_g {f : Addr} {y : V} {v : V} {u u2 : Value} {neg : Bool} (hs : PySem.W.findIn X.K (.ref C) "__contains__" = some (some (.ref f))) (hf : PySem.W.isFn X.K (.ref f) = true)
    (F : FAt X.prog X.w X.K X.mg X.base CX k f ps sp) (hr : Rm k X.A) (hx : Passes CX X E) (I : Inv X pins σ H s) (r : RelV v u) (r2 : RelV y u2) (h : rInOwn C sp E neg v y H Q) :
    wpAny (model X.prog X.w) X.A (contains u2 u) (fun b s' => EP X pins σ Q (.bool (b ^^ neg)) s') X.xe s := by
  obtain ⟨a, dx, fs, rfl, ea, h⟩ := h
  obtain rfl : u2 = Value.ref a := r2
  obtain ⟨mA, O, rl, wi, le, ho⟩ := ins_get I.hok ea
  obtain ⟨od, J, _⟩ := O.look
  have run := call_f F hr hx I (.cons (show L2.RelV (.ref a) (.ref a) from rfl) (.cons r .nil)) h
  refine wpAny_holding (wpAny_bind (wpAny_bind (W.Looks.here (W.InstAt.type J) (W.Looks.here (W.looks_findIn I.kIn hs) ?_))))
  rw [if_neg (by simp)]
  refine wpAny_bind (W.unlessNone_K I.kIn J hs hf (wpAny_mono run ?_ fun _ _ z => z))
  rintro w s' ⟨v', H', I', rv, c, rfl, q⟩
  obtain rfl : w = Value.bool c := rv
  exact wpAny_truthy_bool ⟨.bl (c ^^ neg), H', I', rfl, q⟩
theorem op_inG {f : Addr} (hs : PySem.W.findIn X.K (.ref C) "__contains__" = some (some (.ref f))) (hf : PySem.W.isFn X.K (.ref f) = true)
    (F : FAt X.prog X.w X.K X.mg X.base CX k f ps sp) (hr : Rm k X.A) (hx : Passes CX X E) : OpR X (compareOp .In) (rInOwn C sp E false) := by
  intro pins s σ H x y v u Q I r1 r2 h
  refine wpAny_bind (wpAny_mono (contains_g hs hf F hr hx I r1 r2 h) (fun b s' q => wpAny_pure ?_) fun _ _ z => z)
  rwa [Bool.xor_false] at q
theorem op_notInG {f : Addr} (hs : PySem.W.findIn X.K (.ref C) "__contains__" = some (some (.ref f))) (hf : PySem.W.isFn X.K (.ref f) = true)
    (F : FAt X.prog X.w X.K X.mg X.base CX k f ps sp) (hr : Rm k X.A) (hx : Passes CX X E) : OpR X (compareOp .NotIn) (rInOwn C sp E true) := by
  intro pins s σ H x y v u Q I r1 r2 h
  refine wpAny_bind (wpAny_mono (contains_g hs hf F hr hx I r1 r2 h) (fun b s' q => wpAny_pure ?_) fun _ _ z => z)
  rwa [Bool.xor_true] at q
end
end MM

set_option Elab.async false
set_option linter.all false
set_option maxRecDepth 100000
set_option maxHeartbeats 2000000
/-! {k: v for .. for ..} -/
namespace MM
open PySem PySem.Spec PyProof.Rows L2
section
variable {prog : Program} {w : World} {A : Around} {R : Result → Shared → Prop} {s : Shared} {kx vx t0 i0 t1 i1 : Expr} {ifs0 ifs1 : List Expr} {scope : Scope} {pos : Pos} {it : Value} {D : Addr} {env : Env}
abbrev dc2 (kx vx t0 i0 t1 i1 : Expr) (ifs0 ifs1 : List Expr) (scope : Scope) (pos : Pos) : Expr := .DictComp kx vx [⟨t0, i0, ifs0, 0⟩, ⟨t1, i1, ifs1, 0⟩] scope pos
theorem loop2_outD (hs : ∀ x, foldedSetIterable i1 env x = pure x) (I : Nat → Shared → Prop)
    (turn : ∀ n s, I n s → wpAny (model prog w) A (pyNext it) (fun r s₁ => match r with
      | none => R (.ok .next) s₁
      | some v => wpAny (model prog w) A (letOwnedTupleGo t0 it v) (fun _ s₁' => wpAny (model prog w) A (assign t0 env v) (fun _ s₂ =>
          wpAny (model prog w) A (forIn ifs0 true fun c r => if r = true then do
            let ok ← PySem.isTrue c env (eval c env)
            pure (ForInStep.yield ok) else pure (ForInStep.yield r)) (fun ok s₃ => if ok = true then
              wpAny (model prog w) A (eval i1 env) (fun x s₄ => wpAny (model prog w) A (pyIter x) (fun it1 s₅ =>
                codeAny (model prog w) A (.compStart (dc2 kx vx t0 i0 t1 i1 ifs0 ifs1 scope pos) 1 it1 (.ref D) env) (fun r s' => match r with
                  | .ok _ => ∃ m, m < n ∧ I m s'
                  | .error _ => False) s₅) (notedBy (model prog w) A env fun e s' => R (.error e) s') s₄) (notedBy (model prog w) A env fun e s' => R (.error e) s') s₃
              else ∃ m, m < n ∧ I m s₃) (notedBy (model prog w) A env fun e s' => R (.error e) s') s₂) (notedBy (model prog w) A env fun e s' => R (.error e) s') s₁') (notedBy (model prog w) A env fun e s' => R (.error e) s') s₁)
      (notedBy (model prog w) A env fun e s' => R (.error e) s') s) (n : Nat) (h : I n s) :
    codeAny (model prog w) A (.compLoop (dc2 kx vx t0 i0 t1 i1 ifs0 ifs1 scope pos) 0 it (.ref D) env) R s := by
  refine codeAny_loop rfl I (fun n s hI => ?_) n h
  refine wpAny_noted ?_
  refine wpAny_bind (wpAny_standAt (wpAny_bind (wpAny_mono (turn n s hI) (fun r s₁ h₁ => ?_) fun _ _ h' => h')))
  cases r with
  | none => exact wpAny_pure h₁
  | some v =>
    refine wpAny_bind (wpAny_mono h₁ (fun _ s₁' h₁' => ?_) fun _ _ h' => h')
    refine wpAny_bind (wpAny_mono h₁' (fun _ s₂ h₂ => ?_) fun _ _ h' => h')
    refine wpAny_bind (wpAny_mono h₂ (fun ok s₃ h₃ => ?_) fun _ _ h' => h')
    cases ok with
    | false => exact wpAny_pure ⟨rfl, h₃⟩
    | true =>
      refine wpAny_bind (wpAny_mono h₃ (fun x s₄ h₄ => ?_) fun _ _ h' => h')
      refine wpAny_bind (wpAny_standAt (wpAny_bind (wpAny_of_eq (hs x) (wpAny_bind (wpAny_holding (wpAny_mono h₄ (fun it1 s₅ h₅ => ?_) fun _ _ h' => h'))))))
      refine wpAny_bind (wpAny_runOwn ?_ (fun z => nomatch z))
      refine codeAny_mono h₅ fun r s' hr => ?_
      cases r with
      | error e => exact hr.elim
      | ok f => exact wpAny_pure ⟨rfl, hr⟩
theorem loop2_inD (I : Nat → Shared → Prop)
    (turn : ∀ n s, I n s → wpAny (model prog w) A (pyNext it) (fun r s₁ => match r with
      | none => R (.ok .next) s₁
      | some v => wpAny (model prog w) A (letOwnedTupleGo t1 it v) (fun _ s₁' => wpAny (model prog w) A (assign t1 env v) (fun _ s₂ =>
          wpAny (model prog w) A (forIn ifs1 true fun c r => if r = true then do
            let ok ← PySem.isTrue c env (eval c env)
            pure (ForInStep.yield ok) else pure (ForInStep.yield r)) (fun ok s₃ => if ok = true then
              wpAny (model prog w) A (eval kx env) (fun kv s₄ => wpAny (model prog w) A (eval vx env) (fun vv s₅ =>
                wpAny (model prog w) A (dictSet D kv vv) (fun _ s₆ => ∃ m, m < n ∧ I m s₆) (notedBy (model prog w) A env fun e s' => R (.error e) s') s₅)
                (notedBy (model prog w) A env fun e s' => R (.error e) s') s₄) (notedBy (model prog w) A env fun e s' => R (.error e) s') s₃
              else ∃ m, m < n ∧ I m s₃) (notedBy (model prog w) A env fun e s' => R (.error e) s') s₂) (notedBy (model prog w) A env fun e s' => R (.error e) s') s₁') (notedBy (model prog w) A env fun e s' => R (.error e) s') s₁)
      (notedBy (model prog w) A env fun e s' => R (.error e) s') s) (n : Nat) (h : I n s) :
    codeAny (model prog w) A (.compLoop (dc2 kx vx t0 i0 t1 i1 ifs0 ifs1 scope pos) 1 it (.ref D) env) R s := by
  refine codeAny_loop rfl I (fun n s hI => ?_) n h
  refine wpAny_noted ?_
  refine wpAny_bind (wpAny_standAt (wpAny_bind (wpAny_mono (turn n s hI) (fun r s₁ h₁ => ?_) fun _ _ h' => h')))
  cases r with
  | none => exact wpAny_pure h₁
  | some v =>
    refine wpAny_bind (wpAny_mono h₁ (fun _ s₁' h₁' => ?_) fun _ _ h' => h')
    refine wpAny_bind (wpAny_mono h₁' (fun _ s₂ h₂ => ?_) fun _ _ h' => h')
    refine wpAny_bind (wpAny_mono h₂ (fun ok s₃ h₃ => ?_) fun _ _ h' => h')
    cases ok with
    | false => exact wpAny_pure ⟨rfl, h₃⟩
    | true =>
      refine wpAny_bind (wpAny_bind (wpAny_mono h₃ (fun kv s₄ h₄ => ?_) fun _ _ h' => h'))
      refine wpAny_bind (wpAny_holding (wpAny_mono h₄ (fun vv s₅ h₅ => ?_) fun _ _ h' => h'))
      exact wpAny_bind (wpAny_standAt (wpAny_holding (wpAny_mono h₅ (fun _ s₆ h₆ => wpAny_pure ⟨rfl, h₆⟩) fun _ _ h' => h')))
theorem start1_D (h0 : codeAny (model prog w) A (.compLoop (dc2 kx vx t0 i0 t1 i1 ifs0 ifs1 scope pos) 1 it (.ref D) env) R s)
    (h : wpAny (model prog w) A (pyIter it) (fun it' s' => codeAny (model prog w) A (.compLoop (dc2 kx vx t0 i0 t1 i1 ifs0 ifs1 scope pos) 1 it' (.ref D) env) R s') (notedBy (model prog w) A env fun x s' => R (.error x) s') s) :
    codeAny (model prog w) A (.compStart (dc2 kx vx t0 i0 t1 i1 ifs0 ifs1 scope pos) 1 it (.ref D) env) R s := by
  refine codeAny_of_tree (wpAny_notedAt (wpAny_bind (wpAny_askSetting ?_)))
  refine wpAny_ite ?_
  split
  · exact wpAny_bind (wpAny_pure (wpAny_pure ⟨rfl, h0⟩))
  · exact wpAny_bind (wpAny_rule (wpAny_bind (wpAny_standAt (wpAny_bind (wpAny_mono h (fun it' s' h' => wpAny_pure ⟨rfl, h'⟩) fun _ _ z => z)))))
end
section
variable {X : Cx}
/-- a comprehension of two fors that fills a new object -/
def tDcG2 (o0 : HO) (Put : Addr → V → V → Hp → Hp → Prop) (wi : TI) (g : TG) (tt : TT) (wi1 : TI) (g1 : TG) (tt1 : TT) (tk tv : TE) (vs vs1 : List Nat) : TE := fun σ H Q => wi σ H fun J H1 => ∀ D, H1 D = none →
  ∃ W : Nat → Nat → Hp → Prop, (∃ m, W 0 m (upd H1 D o0)) ∧ ∀ i m H, W i m H → (J.stop i H ∧ Q (.ref D) H) ∨
    (J.go i H ∧ ∃ Nx : Hp → Prop, (∀ H', Nx H' → ∃ m', m' < m ∧ W (i + 1) m' H') ∧ ∀ x H', J.yld i H x H' → g x (wipe σ vs) H' fun σ2 H2 => wipe σ2 vs = wipe σ vs ∧
      tt σ2 H2 fun b H3 => if b = true then wi1 σ2 H3 fun J1 H4 => ∃ W1 : Nat → Nat → Hp → Prop, (∃ m, W1 0 m H4) ∧ ∀ j k H, W1 j k H → (J1.stop j H ∧ Nx H) ∨
        (J1.go j H ∧ ∃ Nx1 : Hp → Prop, (∀ H', Nx1 H' → ∃ k', k' < k ∧ W1 (j + 1) k' H') ∧ ∀ x H', J1.yld j H x H' → g1 x (wipe σ2 vs1) H' fun σ3 H5 => wipe σ3 vs1 = wipe σ2 vs1 ∧
          tt1 σ3 H5 fun b H6 => if b = true then tk σ3 H6 fun y H7 => tv σ3 H7 fun z H8 => ∃ H9, Put D y z H8 H9 ∧ Nx1 H9 else Nx1 H6) else Nx H3)
theorem wipe_keep {j : Nat} {v : V} : ∀ {vs : List Nat} {σ : L2.St}, σ[j]? = some (some v) → j ∉ vs → (wipe σ vs)[j]? = some (some v)
  | [], _, h, _ => h
  | i :: vs, σ, h, n => by
    rw [List.mem_cons, not_or] at n
    show ((wipe σ vs).set i none)[j]? = _
    rw [List.getElem?_set_ne (Ne.symm n.1)]
    exact wipe_keep h n.2
theorem dcG2_core {o0 : HO} {Put : Addr → V → V → Hp → Hp → Prop} (new0 : ∀ (G : Hp) (h : Heap), sysModules < h.objs.size → ObjOk X.prog X.w G (h.push { cls := .type "dict", data := .dict #[] }) h.objs.size o0) (put : PutOk Put) (hu : X.A.units + 1 < cLine)
    {pins : List (Addr × Obj)} {s : Shared} {σ : L2.St} {H : Hp} {Q : VK} {kx vx tg iter tg1 iter1 : Expr} {ifs ifs1 : List Expr} {scope : Scope} {own : List (Str × Nat)} {vs1 : List Nat} {pos pos' : Pos} {wi wi1 : TI} {g g1 : TG} {tt tt1 : TT} {tk tv : TE} {use : Option (Value → Sem Unit)} {Qf : Value → Shared → Prop}
    (calm : X.calm = true) (nd : X.N.Nodup) (I : Inv X pins σ H s) (pi : PI X tg iter wi) (bo : BlkOk X.N X.env.scope scope own)
    (tgt : ∀ (s : Shared) (H : Hp) (C : Addr) (cl : List (Str × Addr)) (fp : List Addr), PG (X.blk s H scope (compEnvC scope cl C X.env) fp) tg g)
    (tst : ∀ (s : Shared) (H : Hp) (C : Addr) (cl : List (Str × Addr)) (fp : List Addr), PTs (X.blk s H scope (compEnvC scope cl C X.env) fp) ifs tt)
    (pi1 : ∀ (s : Shared) (H : Hp) (C : Addr) (cl : List (Str × Addr)) (fp : List Addr), PI (X.blk s H scope (compEnvC scope cl C X.env) fp) tg1 iter1 wi1)
    (tgt1 : ∀ (s : Shared) (H : Hp) (C : Addr) (cl : List (Str × Addr)) (fp : List Addr), PG (X.blk s H scope (compEnvC scope cl C X.env) fp) tg1 g1)
    (tst1 : ∀ (s : Shared) (H : Hp) (C : Addr) (cl : List (Str × Addr)) (fp : List Addr), PTs (X.blk s H scope (compEnvC scope cl C X.env) fp) ifs1 tt1)
    (sub : ∀ i ∈ vs1, i ∈ own.map (·.2))
    (key : ∀ (s : Shared) (H : Hp) (C : Addr) (cl : List (Str × Addr)) (fp : List Addr), PE (X.blk s H scope (compEnvC scope cl C X.env) fp) kx tk)
    (val : ∀ (s : Shared) (H : Hp) (C : Addr) (cl : List (Str × Addr)) (fp : List Addr), PE (X.blk s H scope (compEnvC scope cl C X.env) fp) vx tv)
    (fold : ∀ x, foldedSetIterable iter X.env x = pure x) (fold1 : ∀ (env : Env) x, foldedSetIterable iter1 env x = pure x) (h : tDcG2 o0 Put wi g tt wi1 g1 tt1 tk tv (own.map (·.2)) vs1 σ H Q)
    (after : ∀ D C s' m H', Inv X pins σ H' s' → Q (.ref D) H' → s'.heap.Ns C m → FpOk X pins H' C → compPost (model X.prog X.w) X.A X.xe use Qf (.ref D) C (.ok .next) s') :
    wpAny (model X.prog X.w) X.A (comprehension (.DictComp kx vx [⟨tg, iter, ifs, 0⟩, ⟨tg1, iter1, ifs1, 0⟩] scope pos) scope X.env pos' newDict false (eval iter X.env) use) Qf X.xe s := by
  have clo : ∀ y ∈ scope.names, y.2 = .free → ∃ c, X.env.cells.lookup y.1 = some c := fun y hy e => (bo.free y hy e).elim (fun k => I.ok.has _ (.inl k)) fun k => I.ok.has _ (.inr k)
  refine wpAny_comprehension_free (use := use) rfl fold (closure_ok clo) bo.kind (fun y hy e => by rw [bo.uniq y hy, e]) ?_
  refine thn (pi.run pins s σ H _ I h) fun xv sa ha => thn ha fun itv sb hb => ?_
  obtain ⟨it, fp, tn, J, Hb, rfl, Ib, T, stb, fpb, q⟩ := hb
  refine wpAny_newObj_type (newEnv_comp ?_)
  obtain ⟨D, eD⟩ : ∃ D, sb.heap.objs.size = D := ⟨_, rfl⟩
  rw [eD]
  obtain ⟨W, ⟨m0, w0⟩, turn⟩ := q D (Ib.hok.fresh (Nat.le_of_eq eD))
  generalize esc : ({ sb with heap := sb.heap.push { cls := .type "dict", data := .dict #[] } } : Shared) = sc
  have hp : sc.heap = sb.heap.push { cls := .type "dict", data := .dict #[] } := by rw [← esc]
  have Ic : Inv X pins σ (upd Hb D o0) sc := by
    subst esc
    refine Ib.laid (t' := sb.toks) (fun b o e => Heap.get?_push_of_some _ e) (Nat.le_of_eq eD) ?_
    subst eD
    exact new0 _ sb.heap Ib.big
  have low : ∀ b ∈ fp, b < sb.heap.objs.size := fun b hb => let ⟨_, e, _⟩ := T.obj _ _ stb b hb; Heap.lt_size e
  have fpc : ∀ b ∈ fp, FpOk X pins (upd Hb D o0) b ∧ b < sc.heap.objs.size := fun b hb => by
    have lt := low b hb
    have ne : b ≠ D := by rw [← eD]; exact Nat.ne_of_lt lt
    exact ⟨⟨(upd_ne ne).trans (fpb b hb).1, (fpb b hb).2⟩, by rw [hp, Heap.size_push]; exact Nat.lt_succ_of_lt lt⟩
  have stc : tn 0 sc.heap := T.keep _ _ _ stb fun b _ o e => by rw [hp]; exact Heap.get?_push_of_some _ e
  have Id := block_start Ic bo nd fpc
  have ptg := tgt sc (upd Hb D o0) sc.heap.objs.size (cellsFrom (sc.heap.objs.size + 1) scope.names (cloFrom X.env.cells scope.names [])) fp
  have ptt := tst sc (upd Hb D o0) sc.heap.objs.size (cellsFrom (sc.heap.objs.size + 1) scope.names (cloFrom X.env.cells scope.names [])) fp
  have pp1 := pi1 sc (upd Hb D o0) sc.heap.objs.size (cellsFrom (sc.heap.objs.size + 1) scope.names (cloFrom X.env.cells scope.names [])) fp
  have ptg1 := tgt1 sc (upd Hb D o0) sc.heap.objs.size (cellsFrom (sc.heap.objs.size + 1) scope.names (cloFrom X.env.cells scope.names [])) fp
  have ptt1 := tst1 sc (upd Hb D o0) sc.heap.objs.size (cellsFrom (sc.heap.objs.size + 1) scope.names (cloFrom X.env.cells scope.names [])) fp
  have pky := key sc (upd Hb D o0) sc.heap.objs.size (cellsFrom (sc.heap.objs.size + 1) scope.names (cloFrom X.env.cells scope.names [])) fp
  have pvl := val sc (upd Hb D o0) sc.heap.objs.size (cellsFrom (sc.heap.objs.size + 1) scope.names (cloFrom X.env.cells scope.names [])) fp
  have nof : ∀ b ∈ fp, (upd Hb D o0) b = none := fun b hb => (fpc b hb).1.1
  show codeAny _ _ (.compStart (.DictComp kx vx [⟨tg, iter, ifs, 0⟩, ⟨tg1, iter1, ifs1, 0⟩] scope pos) 0 (.ref it) (.ref D) (compEnvC scope (cellsFrom (sc.heap.objs.size + 1) scope.names (cloFrom X.env.cells scope.names [])) sc.heap.objs.size X.env))
    (compPost (model X.prog X.w) X.A X.xe use Qf (.ref D) sc.heap.objs.size) { sc with heap := pushCells (sc.heap.push { cls := .type "dict", data := .dict #[] }) scope.names }
  obtain ⟨ce, ece⟩ : ∃ ce, compEnvC scope (cellsFrom (sc.heap.objs.size + 1) scope.names (cloFrom X.env.cells scope.names [])) sc.heap.objs.size X.env = ce := ⟨_, rfl⟩
  have el : ce.locals = sc.heap.objs.size := by rw [← ece]; rfl
  rw [ece] at Id ptg ptt pp1 ptg1 ptt1 pky pvl ⊢
  generalize eHc : upd Hb D o0 = Hc at Ic Id ptg ptt pp1 ptg1 ptt1 pky pvl w0 nof fpc
  obtain ⟨sd, esd⟩ : ∃ sd : Shared, ({ sc with heap := pushCells (sc.heap.push { cls := .type "dict", data := .dict #[] }) scope.names } : Shared) = sd := ⟨_, rfl⟩
  rw [esd] at Id ⊢
  have std : tn 0 sd.heap := T.keep _ _ _ stc fun b _ o e => by rw [← esd]; exact pushCells_keeps _ _ _ _ (Heap.get?_push_of_some _ e)
  have still : ∀ {τ : L2.St} {G : Hp} {s' : Shared}, Inv (X.blk sc Hc scope ce fp) [] τ G s' → (∀ b ∈ fp, G b = none) → ∀ b ∈ fp, FpOk (X.blk sc Hc scope ce fp) [] G b := fun {τ G s'} J n b hb =>
    ⟨n b hb, (J.ok.exf b hb).1, J.ok.exfs b hb, .inl hb, fun x c e => (J.ok.exf b hb).2 x c e, fun p z => absurd (show p ∈ ([] : List (Addr × Obj)) ++ [] from z) List.not_mem_nil⟩
  have loop : codeAny (model X.prog X.w) X.A (.compLoop (.DictComp kx vx [⟨tg, iter, ifs, 0⟩, ⟨tg1, iter1, ifs1, 0⟩] scope pos) 0 (.ref it) (.ref D) ce) (compPost (model X.prog X.w) X.A X.xe use Qf (.ref D) sc.heap.objs.size) sd := by
    refine loop2_outD (fold1 ce) (fun n s' => ∃ i G, Inv (X.blk sc Hc scope ce fp) [] (wipe σ (own.map (·.2))) G s' ∧ tn i s'.heap ∧ (∀ b ∈ fp, G b = none) ∧ W i n G) ?_ m0 ⟨0, Hc, Id, std, nof, w0⟩
    rintro n s5 ⟨i, G5, J5, t5, n5, w5⟩
    rcases turn i n G5 w5 with ⟨stop, qq⟩ | ⟨go, Nx, hNx, step⟩
    · refine thnF (T.done (X.blk sc Hc scope ce fp) rfl rfl rfl calm i [] s5 _ G5 (fun _ _ => False) J5 (still J5 n5) t5 stop) fun r s6 ⟨er, J6⟩ => ?_
      subst er
      have J7 : Inv X pins σ G5 s6 := Ic.call' (ch := fp) J6.os J6.base J6.hok J6.bare fun b hb => ⟨(fpc b hb).1.2.2.2.1, (fpc b hb).1.2.1, (fpc b hb).1.2.2.2.2.1, (fpc b hb).1.2.2.2.2.2⟩
      have free : G5 sc.heap.objs.size = none := by
        rw [← el]
        exact J6.free
      obtain ⟨m, ns, _⟩ := J6.loc
      replace ns : s6.heap.Ns ce.locals m := ns
      rw [el] at ns
      exact after D sc.heap.objs.size s6 m G5 J7 qq ns (Ic.fpOk (Nat.le_refl _) free)
    · refine thnF (T.item (X.blk sc Hc scope ce fp) rfl rfl rfl calm i [] s5 _ G5 (fun _ _ => False) J5 (still J5 n5) t5 go) fun r s6 ⟨u, er, h6⟩ => ?_
      subst er
      refine thnF h6 fun _ s7 ⟨x, G7, J7, r7, y7, t7, n7⟩ => ?_
      refine thnF (ptg.run _ s7 _ G7 x u _ (J7.pinned (still J7 n7) (T.obj _ _ t7)) r7 (step x G7 y7)) fun _ s8 ⟨τ, G8, J8, wp, q8⟩ => ?_
      refine thnF (ptt.run _ s8 τ G8 _ J8 q8) fun b s9 ⟨G9, J9, q9⟩ => ?_
      have close : ∀ {s' : Shared} {G : Hp} {ρ : L2.St}, Inv (X.blk sc Hc scope ce fp) ([] ++ pinsAt fp s7.heap) ρ G s' → ρ.length = (wipe σ (own.map (·.2))).length → (∀ j v, (wipe σ (own.map (·.2)))[j]? = some (some v) → ρ[j]? = some (some v)) → Nx G → ∃ m, m < n ∧ ∃ i G, Inv (X.blk sc Hc scope ce fp) [] (wipe σ (own.map (·.2))) G s' ∧ tn i s'.heap ∧ (∀ b ∈ fp, G b = none) ∧ W i m G := fun {s' G ρ} J lρ eρ nx => by
        obtain ⟨m, lt, w'⟩ := hNx G nx
        have pin : ∀ b ∈ fp, ∀ o, s7.heap.get? b = some o → s'.heap.get? b = some o ∧ G b = none := fun b hb o e => by
          have z := J.pin (b, o) (List.mem_append_right _ (List.mem_append_right _ (mem_pinsAt hb e)))
          exact ⟨z.1, z.2.1⟩
        refine ⟨m, lt, i + 1, G, (J.unpinned (pins := [])).weak lρ.symm eρ, T.keep _ _ _ t7 fun b hb o e => (pin b hb o e).1, fun b hb => ?_, w'⟩
        obtain ⟨o, e, _⟩ := T.obj _ _ t7 b hb
        exact (pin b hb o e).2
      have up : ∀ j v, (wipe σ (own.map (·.2)))[j]? = some (some v) → τ[j]? = some (some v) := fun j v e => by rw [← wp] at e; exact (wipe_some e).1
      have lp : τ.length = (wipe σ (own.map (·.2))).length := by rw [← wp, wipe_length]
      cases b with
      | false => exact close J9 lp up (by simpa using q9)
      | true =>
        have q9' := (if_pos rfl).mp q9
        refine thnF (pp1.run _ s9 τ G9 _ J9 q9') fun xv sa ha => thnF ha fun itv sb hb => ?_
        obtain ⟨it1, fp1, tn1, J1, Hb1, rfl, Ib1, T1, stb1, fpb1, W1, ⟨k0, w10⟩, turn1⟩ := hb
        have up1 : ∀ j v, (wipe σ (own.map (·.2)))[j]? = some (some v) → (wipe τ vs1)[j]? = some (some v) := fun j v e => by
          rw [← wp] at e
          obtain ⟨e1, e2⟩ := wipe_some e
          exact wipe_keep e1 fun z => e2 (sub j z)
        have still1 : ∀ {G : Hp}, (∀ b ∈ fp1, G b = none) → ∀ b ∈ fp1, FpOk (X.blk sc Hc scope ce fp) ([] ++ pinsAt fp s7.heap) G b := fun {G} n b hb => ⟨n b hb, (fpb1 b hb).2⟩
        have loop1 : codeAny (model X.prog X.w) X.A (.compLoop (.DictComp kx vx [⟨tg, iter, ifs, 0⟩, ⟨tg1, iter1, ifs1, 0⟩] scope pos) 1 (.ref it1) (.ref D) ce) (fun r s' => match r with
            | .ok _ => ∃ m, m < n ∧ ∃ i G, Inv (X.blk sc Hc scope ce fp) [] (wipe σ (own.map (·.2))) G s' ∧ tn i s'.heap ∧ (∀ b ∈ fp, G b = none) ∧ W i m G
            | .error _ => False) sb := by
          refine loop2_inD (fun k s' => ∃ j G, Inv (X.blk sc Hc scope ce fp) ([] ++ pinsAt fp s7.heap) (wipe τ vs1) G s' ∧ tn1 j s'.heap ∧ (∀ b ∈ fp1, G b = none) ∧ W1 j k G) ?_ k0 ⟨0, Hb1, Ib1.weak (wipe_length _ _) (fun j v e => (wipe_some e).1), stb1, fun b hb => (fpb1 b hb).1, w10⟩
          rintro k s15 ⟨j, G15, J15, t15, n15, w15⟩
          rcases turn1 j k G15 w15 with ⟨stop, qq⟩ | ⟨go, Nx1, hNx1, step1⟩
          · refine thnF (T1.done (X.blk sc Hc scope ce fp) rfl rfl rfl calm j _ s15 _ G15 (fun _ _ => False) J15 (still1 n15) t15 stop) fun r s16 ⟨er, J16⟩ => ?_
            subst er
            exact close J16 (by rw [wipe_length]; exact lp) up1 qq
          · refine thnF (T1.item (X.blk sc Hc scope ce fp) rfl rfl rfl calm j _ s15 _ G15 (fun _ _ => False) J15 (still1 n15) t15 go) fun r s16 ⟨u, er, h16⟩ => ?_
            subst er
            refine thnF h16 fun _ s17 ⟨x1, G17, J17, r17, y17, t17, n17⟩ => ?_
            refine thnF (ptg1.run _ s17 _ G17 x1 u _ (J17.pinned (still1 n17) (T1.obj _ _ t17)) r17 (step1 x1 G17 y17)) fun _ s18 ⟨τ3, G18, J18, wp3, q18⟩ => ?_
            refine thnF (ptt1.run _ s18 τ3 G18 _ J18 q18) fun b1 s19 ⟨G19, J19, q19⟩ => ?_
            have close1 : ∀ {s' : Shared} {G : Hp}, Inv (X.blk sc Hc scope ce fp) (([] ++ pinsAt fp s7.heap) ++ pinsAt fp1 s17.heap) τ3 G s' → Nx1 G → ∃ m, m < k ∧ ∃ j G, Inv (X.blk sc Hc scope ce fp) ([] ++ pinsAt fp s7.heap) (wipe τ vs1) G s' ∧ tn1 j s'.heap ∧ (∀ b ∈ fp1, G b = none) ∧ W1 j m G := fun {s' G} J nx => by
              obtain ⟨m, lt, w'⟩ := hNx1 G nx
              have pin : ∀ b ∈ fp1, ∀ o, s17.heap.get? b = some o → s'.heap.get? b = some o ∧ G b = none := fun b hb o e => by
                have z := J.pin (b, o) (List.mem_append_right _ (List.mem_append_right _ (mem_pinsAt hb e)))
                exact ⟨z.1, z.2.1⟩
              refine ⟨m, lt, j + 1, G, J.unpinned.weak (by rw [← wp3, wipe_length]) (fun j v e => by rw [← wp3] at e; exact (wipe_some e).1), T1.keep _ _ _ t17 fun b hb o e => (pin b hb o e).1, fun b hb => ?_, w'⟩
              obtain ⟨o, e, _⟩ := T1.obj _ _ t17 b hb
              exact (pin b hb o e).2
            cases b1 with
            | false => exact close1 J19 (by simpa using q19)
            | true =>
              have q19' := (if_pos rfl).mp q19
              refine thnF (pky.run _ s19 τ3 G19 _ J19 q19') fun u1 s20 ⟨y, G20, J20, ry, q20⟩ => ?_
              refine thnF (pvl.run _ s20 τ3 G20 _ J20 q20) fun u2 s21 ⟨z, G21, J21, rz, G22, pt, nx⟩ => ?_
              exact put (X.blk sc Hc scope ce fp) _ _ _ _ _ _ _ _ _ _ _ _ (show X.A.units + 1 < cLine from hu) J21 pt ry rz fun s' J' => close1 J' nx
        exact start1_D loop1 (T1.self X.A 0 _ _ _ stb1 loop1)
  exact codeAny_compStart_dict loop (T.self X.A 0 _ _ _ std loop)
/-- {k: v for .. for ..}, given to whatever it is given to -/
theorem pe_dcG2 {o0 : HO} {Put : Addr → V → V → Hp → Hp → Prop} (new0 : ∀ (G : Hp) (h : Heap), sysModules < h.objs.size → ObjOk X.prog X.w G (h.push { cls := .type "dict", data := .dict #[] }) h.objs.size o0) (put : PutOk Put) (hu : X.A.units + 1 < cLine) {kx vx tg iter tg1 iter1 : Expr} {ifs ifs1 : List Expr} {scope : Scope} {own : List (Str × Nat)} {vs1 : List Nat} {pos : Pos} {wi wi1 : TI} {g g1 : TG} {tt tt1 : TT} {tk tv : TE}
    (calm : X.calm = true) (nd : X.N.Nodup) (pi : PI X tg iter wi) (bo : BlkOk X.N X.env.scope scope own) (sub : ∀ i ∈ vs1, i ∈ own.map (·.2))
    (tgt : ∀ (s : Shared) (H : Hp) (C : Addr) (cl : List (Str × Addr)) (fp : List Addr), PG (X.blk s H scope (compEnvC scope cl C X.env) fp) tg g)
    (tst : ∀ (s : Shared) (H : Hp) (C : Addr) (cl : List (Str × Addr)) (fp : List Addr), PTs (X.blk s H scope (compEnvC scope cl C X.env) fp) ifs tt)
    (pi1 : ∀ (s : Shared) (H : Hp) (C : Addr) (cl : List (Str × Addr)) (fp : List Addr), PI (X.blk s H scope (compEnvC scope cl C X.env) fp) tg1 iter1 wi1)
    (tgt1 : ∀ (s : Shared) (H : Hp) (C : Addr) (cl : List (Str × Addr)) (fp : List Addr), PG (X.blk s H scope (compEnvC scope cl C X.env) fp) tg1 g1)
    (tst1 : ∀ (s : Shared) (H : Hp) (C : Addr) (cl : List (Str × Addr)) (fp : List Addr), PTs (X.blk s H scope (compEnvC scope cl C X.env) fp) ifs1 tt1)
    (key : ∀ (s : Shared) (H : Hp) (C : Addr) (cl : List (Str × Addr)) (fp : List Addr), PE (X.blk s H scope (compEnvC scope cl C X.env) fp) kx tk)
    (val : ∀ (s : Shared) (H : Hp) (C : Addr) (cl : List (Str × Addr)) (fp : List Addr), PE (X.blk s H scope (compEnvC scope cl C X.env) fp) vx tv)
    (fold : ∀ x, foldedSetIterable iter X.env x = pure x := by intro _; rfl) (fold1 : ∀ (env : Env) x, foldedSetIterable iter1 env x = pure x := by intro _ _; rfl) :
    PE X (.DictComp kx vx [⟨tg, iter, ifs, 0⟩, ⟨tg1, iter1, ifs1, 0⟩] scope pos) (tDcG2 o0 Put wi g tt wi1 g1 tt1 tk tv (own.map (·.2)) vs1) := by
  refine ⟨fun pins s σ H Q I h => ?_⟩
  rw [arm_eval_DictComp]
  refine dcG2_core new0 put hu calm nd I pi bo tgt tst pi1 tgt1 tst1 sub key val fold fold1 h fun D C s' m G J q ns f => ⟨m, ns, fun hp sb => ?_⟩
  obtain ⟨f0, f1, _, f3, f4, f5⟩ := f
  exact ⟨.ref D, G, J.turned (t' := s'.toks) (fun b o hb e => (sb.2 b hb).trans e) f0 f1 f3 f4 f5, rfl, q⟩
/-- over a walk, whatever the body is -/
theorem walk_it {J : It} {n : Nat} {Qh : Hp → Prop} {Y : Nat → Hp → V → Hp → Prop} (w : Walk J n Qh Y) {B : V → Hp → (Hp → Prop) → Prop} {H0 : Hp} {Qd : Hp → Prop} (Pv : Nat → Hp → Prop)
    (h0 : Pv 0 H0) (hq : ∀ i H, i ≤ n → Pv i H → Qh H) (hs : ∀ i x H H', i < n → Pv i H → Y i H x H' → B x H' (Pv (i + 1))) (hd : ∀ H, Pv n H → Qd H) :
    ∃ W : Nat → Nat → Hp → Prop, (∃ m, W 0 m H0) ∧ ∀ i m H, W i m H → (J.stop i H ∧ Qd H) ∨ (J.go i H ∧ ∃ Nx : Hp → Prop, (∀ H', Nx H' → ∃ m', m' < m ∧ W (i + 1) m' H') ∧ ∀ x H', J.yld i H x H' → B x H' Nx) := by
  refine ⟨fun i m H => i ≤ n ∧ m = n - i ∧ Pv i H, ⟨n, Nat.zero_le _, rfl, h0⟩, fun i m H ⟨le, em, p⟩ => ?_⟩
  have qh := hq i H le p
  rcases Nat.lt_or_ge i n with lt | ge
  · exact .inr ⟨w.goes i H lt qh, Pv (i + 1), fun G pg => ⟨n - (i + 1), by omega, lt, rfl, pg⟩, fun x G yl => hs i x H G lt p (w.yields i H x G lt qh yl)⟩
  · obtain rfl : i = n := Nat.le_antisymm le ge
    exact .inl ⟨w.stops H qh, hd H p⟩
theorem pe_dcI (hu : X.A.units + 1 < cLine) {kx vx tg iter : Expr} {ifs : List Expr} {scope : Scope} {own : List (Str × Nat)} {pos : Pos} {wi : TI} {g : TG} {tt : TT} {tk tv : TE}
    (calm : X.calm = true) (nd : X.N.Nodup) (pi : PI X tg iter wi) (bo : BlkOk X.N X.env.scope scope own)
    (tgt : ∀ (s : Shared) (H : Hp) (C : Addr) (cl : List (Str × Addr)) (fp : List Addr), PG (X.blk s H scope (compEnvC scope cl C X.env) fp) tg g)
    (tst : ∀ (s : Shared) (H : Hp) (C : Addr) (cl : List (Str × Addr)) (fp : List Addr), PTs (X.blk s H scope (compEnvC scope cl C X.env) fp) ifs tt)
    (key : ∀ (s : Shared) (H : Hp) (C : Addr) (cl : List (Str × Addr)) (fp : List Addr), PE (X.blk s H scope (compEnvC scope cl C X.env) fp) kx tk)
    (val : ∀ (s : Shared) (H : Hp) (C : Addr) (cl : List (Str × Addr)) (fp : List Addr), PE (X.blk s H scope (compEnvC scope cl C X.env) fp) vx tv)
    (fold : ∀ x, foldedSetIterable iter X.env x = pure x := by intro _; rfl) : PE X (.DictComp kx vx [⟨tg, iter, ifs, 0⟩] scope pos) (tDcI wi g tt tk tv (own.map (·.2))) := by
  refine ⟨fun pins s σ H Q I h => ?_⟩
  rw [arm_eval_DictComp]
  refine dcG_core (fun G hp big => dk_empty hp big) putI_ok hu calm nd I pi bo tgt tst key val fold h fun D C s' m G J q ns f => ⟨m, ns, fun hp sb => ?_⟩
  obtain ⟨f0, f1, _, f3, f4, f5⟩ := f
  exact ⟨.ref D, G, J.turned (t' := s'.toks) (fun b o hb e => (sb.2 b hb).trans e) f0 f1 f3 f4 f5, rfl, q⟩
end
end MM

set_option Elab.async false
set_option linter.all false
set_option maxRecDepth 100000
set_option maxHeartbeats 4000000
namespace K08
open PySem PySem.Spec PyProof.Rows L2 MM GT LamX
structure Ex (K : PySem.W.Frag) (mg : Str → Option Value) : Prop where
  gLattice : mg "Lattice" = some (.ref (cA K "Lattice"))
  kLattice : Cls K (cA K "Lattice")
  uLattice : Mk K (cA K "Lattice") (mA K (cA K "Lattice") "__init__")
  nLattice : ∀ f ∈ fsLattice, NoAttr K (cA K "Lattice") f
  fLatticeInit : ∃ fd, FunD K "__init__" "Lattice.__init__" (defArgs sLatticeInit) (defBody sLatticeInit) (defScope sLatticeInit) [] [] (mA K (cA K "Lattice") "__init__") fd
  gGroup : mg "Group" = some (.ref (cA K "Group"))
  kGroup : Cls K (cA K "Group")
  uGroup : Mk K (cA K "Group") (mA K (cA K "Group") "__init__")
  nGroup : ∀ f ∈ fsGroup, NoAttr K (cA K "Group") f
  rGroup : ClX.CRead K (cA K "Group") (.type "type")
  iGroup : PySem.W.findIn K (.ref (cA K "Group")) "__contains__" = some (some (.ref (mA K (cA K "Group") "__contains__")))
  jGroup : PySem.W.isFn K (.ref (mA K (cA K "Group") "__contains__")) = true
  aGroup : PySem.W.findIn K (.ref (cA K "Group")) "__class__" = some (some (.builtin "object.__class__"))
  bGroup : PySem.W.specialIn K (.builtin "object.__class__") "__get__" = some (some (.builtin "getset_descriptor.__get__"))
  cGroup : PySem.W.takesIn K (.builtin "object.__class__") = some true
  dGroup : PySem.W.mroIn K (cA K "Group") (.type "object") = some true
  fGroupInit : ∃ fd, FunD K "__init__" "Group.__init__" (defArgs sGroupInit) (defBody sGroupInit) (defScope sGroupInit) [] [] (mA K (cA K "Group") "__init__") fd
  fGroupTurning : ∃ fd, FunD K "turning" "Group.turning" (defArgs sGroupTurning) (defBody sGroupTurning) (defScope sGroupTurning) [] [] (kA K (cA K "Group") "turning") fd
  qGroupTurning : ClX.CMet K (cA K "Group") (.type "type") "turning" (fndA K (cA K "Group") "turning") (kA K (cA K "Group") "turning")
  fGroupPlaces : ∃ fd, FunD K "places" "Group.places" (defArgs sGroupPlaces) (defBody sGroupPlaces) (defScope sGroupPlaces) [] [] (pA K (cA K "Group") "places") fd
  pGroupPlaces : PropOf K (cA K "Group") "places" (fndA K (cA K "Group") "places") (pA K (cA K "Group") "places")
  fGroupMakers : ∃ fd, FunD K "makers" "Group.makers" (defArgs sGroupMakers) (defBody sGroupMakers) (defScope sGroupMakers) [] [] (pA K (cA K "Group") "makers") fd
  pGroupMakers : PropOf K (cA K "Group") "makers" (fndA K (cA K "Group") "makers") (pA K (cA K "Group") "makers")
  fGroupOrder : ∃ fd, FunD K "order" "Group.order" (defArgs sGroupOrder) (defBody sGroupOrder) (defScope sGroupOrder) [] [] (pA K (cA K "Group") "order") fd
  pGroupOrder : PropOf K (cA K "Group") "order" (fndA K (cA K "Group") "order") (pA K (cA K "Group") "order")
  fGroupMoves : ∃ fd, FunD K "moves" "Group.moves" (defArgs sGroupMoves) (defBody sGroupMoves) (defScope sGroupMoves) [] [] (pA K (cA K "Group") "moves") fd
  pGroupMoves : PropOf K (cA K "Group") "moves" (fndA K (cA K "Group") "moves") (pA K (cA K "Group") "moves")
  fGroupWord : ∃ fd, FunD K "word" "Group.word" (defArgs sGroupWord) (defBody sGroupWord) (defScope sGroupWord) [] [] (mA K (cA K "Group") "word") fd
  mGroupWord : Meth K (cA K "Group") "word" (mA K (cA K "Group") "word")
  fGroupOfWord : ∃ fd, FunD K "of_word" "Group.of_word" (defArgs sGroupOfWord) (defBody sGroupOfWord) (defScope sGroupOfWord) [] [] (mA K (cA K "Group") "of_word") fd
  mGroupOfWord : Meth K (cA K "Group") "of_word" (mA K (cA K "Group") "of_word")
  fGroupOrderCounts : ∃ fd, FunD K "order_counts" "Group.order_counts" (defArgs sGroupOrderCounts) (defBody sGroupOrderCounts) (defScope sGroupOrderCounts) [] [] (mA K (cA K "Group") "order_counts") fd
  mGroupOrderCounts : Meth K (cA K "Group") "order_counts" (mA K (cA K "Group") "order_counts")
  fGroupContains : ∃ fd, FunD K "__contains__" "Group.__contains__" (defArgs sGroupContains) (defBody sGroupContains) (defScope sGroupContains) [] [] (mA K (cA K "Group") "__contains__") fd

end K08


set_option Elab.async false
set_option linter.all false
set_option maxRecDepth 100000
set_option maxHeartbeats 4000000
namespace K08
open PySem PySem.Spec PyProof.Rows L2 MM GT LamX
/-! own words for the readings: a step, its side -/
local macro_rules | `(tactic| walk_at "side") => `(tactic| first
  | omega
  | exact ⟨by omega, by omega⟩
  | exact Or.inl ⟨by omega, by omega⟩
  | exact Or.inr ⟨by omega, by omega⟩
  | (show CPw _ _; decide +kernel)
  | (show (0 : Int) < _; decide +kernel)
  | (show CDivW _ _; first | assumption | exact ⟨by decide, by decide +kernel⟩))
local macro_rules | `(tactic| walk_at "here") => `(tactic| first
  | assumption
  | exact upd_same
  | exact Or.inl (Or.inl upd_same)
  | exact Or.inl upd_same)
local macro_rules | `(tactic| walk_at "one") => `(tactic| first
  | refine ⟨_, rfl, ?_⟩
  | refine Or.inl ⟨_, rfl, ?_⟩
  | refine Or.inr ⟨_, rfl, ?_⟩
  | refine ⟨_, _, rfl, rfl, (by walk_at "side"), ?_⟩
  | refine ⟨_, _, rfl, rfl, ?_⟩
  | refine ⟨_, _, rfl, Or.inl (by walk_at "here"), ?_⟩
  | refine ⟨_, _, rfl, Or.inr (by walk_at "here"), ?_⟩
  | refine ⟨_, _, rfl, (by walk_at "here"), ?_⟩
  | refine ⟨_, _, _, _, rfl, rfl, (by walk_at "here"), rfl, ?_⟩
  | refine ⟨_, _, rfl, ?_⟩
  | refine ifT (by rfl) ?_
  | refine ifF (by rfl) ?_
  | refine ifT (decide_eq_true (by omega)) ?_
  | refine ifF (decide_eq_false (by omega)) ?_)
local macro_rules | `(tactic| walk_at "st") => `(tactic| repeat (walk_at "one"))

section
variable {P : Program} {w : World} {K : PySem.W.Frag} {mg : Str → Option Value} {base : Heap}
theorem val_put {κ : Type} [DecidableEq κ] (kvs : List (κ × V)) (k k' : κ) (v : V) : valV (putK kvs k v) k' = if k = k' then some v else valV kvs k' := by
  unfold putK
  split
  · rename_i h
    unfold valV
    have e : ((fun kv : κ × V => decide (kv.1 = k')) ∘ fun kv : κ × V => if kv.1 = k then (kv.1, v) else kv) = fun kv => decide (kv.1 = k') := by
      funext kv
      show decide ((if kv.1 = k then (kv.1, v) else kv).1 = k') = _
      split <;> rfl
    rw [List.find?_map, e]
    cases f : kvs.find? fun kv => decide (kv.1 = k') with
    | none =>
      by_cases c : k = k'
      · subst c
        obtain ⟨p, hp, e⟩ := List.any_eq_true.mp h
        exact absurd e (by simpa using List.find?_eq_none.mp f p hp)
      · rw [if_neg c]
        rfl
    | some p =>
      have ep : p.1 = k' := by simpa using List.find?_some f
      by_cases c : k = k'
      · subst c
        show some (if p.1 = k then (p.1, v) else p).2 = _
        rw [if_pos ep, if_pos rfl]
      · rw [if_neg c]
        show some (if p.1 = k then (p.1, v) else p).2 = some p.2
        rw [if_neg fun z => c (z.symm.trans ep)]
  · rename_i h
    unfold valV
    rw [List.find?_append]
    cases f : kvs.find? fun kv => decide (kv.1 = k') with
    | none =>
      by_cases c : k = k'
      · subst c
        simp
      · simp [c]
    | some p =>
      have ep : p.1 = k' := by simpa using List.find?_some f
      by_cases c : k = k'
      · subst c
        exact absurd (List.any_eq_true.mpr ⟨p, List.mem_of_find?_eq_some f, decide_eq_true ep⟩) h
      · simp [c]
/-- a key with a number -/
def Has (kvs : List (List L2.Key × V)) (m : List Nat) : Prop := ∃ z : Nat, valV kvs (key m) = some (.int (z : Int))
theorem has_put {kvs : List (List L2.Key × V)} {m m' : List Nat} {z : Nat} (h : m = m' ∨ Has kvs m') : Has (putK kvs (key m) (.int (z : Int))) m' := by
  unfold Has
  rw [val_put]
  by_cases c : key m = key m'
  · rw [if_pos c]
    exact ⟨z, rfl⟩
  · rw [if_neg c]
    rcases h with rfl | h
    · exact absurd rfl c
    · exact h
/-- members with their numbers -/
def nums (m : List Nat) : List Int := m.map fun (k : Nat) => (k : Int)
theorem ints_inj {a b : List Nat} (h : nums a = nums b) : a = b := by
  have := congrArg (List.map Int.toNat) h
  unfold nums at this
  rw [List.map_map, List.map_map] at this
  simpa [Function.comp_def] using this
theorem mr_bs {H : Hp} : ∀ {us : List V} {ms : List (List Nat)}, MR H us ms → ∃ bs : List (V × List Int), bs.map Prod.fst = us ∧ bs.map Prod.snd = ms.map nums ∧ ∀ b ∈ bs, ∃ t m, m ∈ ms ∧ b.1 = .ref t ∧ b.2 = nums m ∧ H t = some (.tup (mv m))
  | _, _, .nil => ⟨[], rfl, rfl, fun _ h => by cases h⟩
  | _, _, .cons (a := v) (b := m) ⟨b, e, hb⟩ r => by
    obtain ⟨bs, e1, e2, e3⟩ := mr_bs r
    refine ⟨(v, nums m) :: bs, by rw [List.map_cons, e1], by rw [List.map_cons, List.map_cons, e2], fun x hx => ?_⟩
    rcases List.mem_cons.mp hx with rfl | hx
    · exact ⟨b, m, List.mem_cons_self, e, rfl, hb⟩
    · obtain ⟨t, m', h1, h2⟩ := e3 x hx
      exact ⟨t, m', List.mem_cons_of_mem _ h1, h2⟩
theorem bs_mr {H : Hp} : ∀ {zs : List (V × List Int)} {ms : List (List Nat)}, (∀ z ∈ zs, ∃ t m, m ∈ ms ∧ z.1 = .ref t ∧ z.2 = nums m ∧ H t = some (.tup (mv m))) → ∃ ms' : List (List Nat), zs.map Prod.snd = ms'.map nums ∧ MR H (zs.map Prod.fst) ms'
  | [], _, _ => ⟨[], rfl, .nil⟩
  | z :: zs, ms, h => by
    obtain ⟨ms', e, r⟩ := bs_mr (ms := ms) (fun z' hz => h z' (List.mem_cons_of_mem _ hz))
    obtain ⟨t, m, hm, e1, e2, ht⟩ := h z List.mem_cons_self
    exact ⟨m :: ms', by rw [List.map_cons, List.map_cons, e, e2], .cons ⟨t, e1, ht⟩ r⟩
/-- sorted anew -/
theorem mr_perm {H : Hp} {ms : List (List Nat)} {bs zs : List (V × List Int)} (e2 : bs.map Prod.snd = ms.map nums) (e3 : ∀ b ∈ bs, ∃ t m, m ∈ ms ∧ b.1 = .ref t ∧ b.2 = nums m ∧ H t = some (.tup (mv m))) (pm : zs.Perm bs) :
    ∃ ms' : List (List Nat), ms'.Perm ms ∧ zs.map Prod.snd = ms'.map nums ∧ MR H (zs.map Prod.fst) ms' := by
  obtain ⟨ms', e, r⟩ := bs_mr (zs := zs) (ms := ms) fun z hz => e3 z (pm.mem_iff.mp hz)
  refine ⟨ms', ?_, e, r⟩
  have p2 := pm.map Prod.snd
  rw [e, e2] at p2
  have p3 := p2.map (List.map Int.toNat)
  rw [List.map_map, List.map_map] at p3
  have id' : (List.map Int.toNat ∘ nums) = id := by
    funext m
    show (nums m).map Int.toNat = m
    unfold nums
    rw [List.map_map]
    simp [Function.comp_def]
  rwa [id', List.map_id, List.map_id] at p3
theorem sorted_any {L : List Nat} {ns : List Int} (pm : ns.Perm (L.map fun k : Nat => (k : Int))) : ∃ B : List Nat, ns.map V.int = mv B ∧ B.Perm L := by
  have nn : ∀ x ∈ ns, 0 ≤ x := fun x hx => by
    obtain ⟨k, _, rfl⟩ := List.mem_map.mp (pm.mem_iff.mp hx)
    omega
  have e1 : ns = (ns.map Int.toNat).map fun k : Nat => (k : Int) := by
    rw [List.map_map]
    refine (List.map_id ns).symm.trans (List.map_congr_left fun x hx => ?_)
    have := nn x hx
    show x = ((x.toNat : Nat) : Int)
    omega
  refine ⟨ns.map Int.toNat, ?_, ?_⟩
  · rw [mv_ints, ← e1]
  · have := pm.map Int.toNat
    rw [List.map_map] at this
    have e : L.map (Int.toNat ∘ fun k : Nat => (k : Int)) = L := by
      refine (List.map_congr_left fun x _ => ?_).trans (List.map_id L)
      show ((x : Nat) : Int).toNat = x
      omega
    rwa [e] at this
/-- all but the object that is being filled, and the tables of code, stands as before -/
def Lk (x : Addr) (H H' : Hp) : Prop := ∀ b o, b ≠ x → H b = some o → (∀ ps, o ≠ .tbl ps) → H' b = some o
theorem Lk.refl {x : Addr} {H : Hp} : Lk x H H := fun _ _ _ e _ => e
theorem Lk.trans {x : Addr} {H H1 H2 : Hp} (h1 : Lk x H H1) (h2 : Lk x H1 H2) : Lk x H H2 := fun b o n e t => h2 b o n (h1 b o n e t) t
theorem Lk.of {x : Addr} {H H' : Hp} (h : Same H H') : Lk x H H' := fun b o _ e _ => h b o e
theorem Lk.ext {x : Addr} {H H' : Hp} (h : ExtN H H') : Lk x H H' := fun b o _ e t => h b o e t
theorem Lk.put {x : Addr} {H : Hp} {o : HO} : Lk x H (upd H x o) := fun b _ n e _ => (upd_ne n).trans e
section
variable {x : Addr} {H H' : Hp} {C dx : Addr} {fs : List (Str × V)} (hx : H x = some (.ins C dx fs)) (lk : Lk x H H')
include hx lk
theorem Lk.at {b : Addr} {o : HO} (e : H b = some o) (n1 : ∀ C dx fs, o ≠ .ins C dx fs) (n2 : ∀ ps, o ≠ .tbl ps) : H' b = some o := lk b o (fun z => by
  rw [z, hx] at e
  exact n1 _ _ _ (Option.some.inj e).symm) e n2
theorem Lk.sqt {a : Addr} {xs : List V} (h : SqT K H a xs) : SqT K H' a xs := by
  rcases h with (h | ⟨o, h⟩) | h
  · exact .inl (.inl (Lk.at hx lk h (fun _ _ _ z => by cases z) (fun _ z => by cases z)))
  · exact .inl (.inr ⟨o, Lk.at hx lk h (fun _ _ _ z => by cases z) (fun _ z => by cases z)⟩)
  · exact .inr h
theorem Lk.mr {us : List V} {ms : List (List Nat)} (h : MR H us ms) : MR H' us ms := Paired.mapP h fun _ _ ⟨b, e, hb⟩ => ⟨b, e, Lk.at hx lk hb (fun _ _ _ z => by cases z) (fun _ z => by cases z)⟩
theorem Lk.tbl {us : List V} {M : List (List Nat)} (h : TBL H us M) : TBL H' us M := Paired.mapP h fun _ _ ⟨b, e, o, hb, od⟩ => ⟨b, e, o, Lk.at hx lk hb (fun _ _ _ z => by cases z) (fun _ z => by cases z), od⟩
theorem Lk.fam {bad : Addr → Prop} {vs : List V} {FS : List (List (List Nat))} (h : FAM H bad vs FS) : FAM H' bad vs FS := Paired.mapP h fun _ _ ⟨l, us, e, n, hl, m⟩ => ⟨l, us, e, n, Lk.at hx lk hl (fun _ _ _ z => by cases z) (fun _ z => by cases z), Lk.mr hx lk m⟩
theorem Lk.lst {a : Addr} {xs : List V} (h : H a = some (.lst xs)) : H' a = some (.lst xs) := Lk.at hx lk h (fun _ _ _ z => by cases z) (fun _ z => by cases z)
theorem Lk.dT {a : Addr} {xs : List (List L2.Key × V)} (h : H a = some (.dT xs)) : H' a = some (.dT xs) := Lk.at hx lk h (fun _ _ _ z => by cases z) (fun _ z => by cases z)
theorem Lk.dK {a : Addr} {xs : List (L2.Key × V)} (h : H a = some (.dK xs)) : H' a = some (.dK xs) := Lk.at hx lk h (fun _ _ _ z => by cases z) (fun _ z => by cases z)
theorem Lk.tup {a : Addr} {xs : List V} (h : H a = some (.tup xs)) : H' a = some (.tup xs) := Lk.at hx lk h (fun _ _ _ z => by cases z) (fun _ z => by cases z)
end
theorem tabs_same {T : List (Addr × Str)} {H H' : Hp} (h : Tabs T H) (s : Same H H') : Tabs T H' := fun p hp =>
  let ⟨ps, e, ok, am⟩ := h p hp
  ⟨ps, s _ _ e, ok, fun pos cv z => let ⟨c, e1, e2⟩ := am pos cv z; ⟨c, e1, s _ _ e2⟩⟩
theorem tabs_put {T : List (Addr × Str)} {H : Hp} {x C dx : Addr} {fs : List (Str × V)} {o : HO} (h : Tabs T H) (hx : H x = some (.ins C dx fs)) : Tabs T (upd H x o) := fun p hp =>
  let ⟨ps, e, ok, am⟩ := h p hp
  ⟨ps, (upd_ne fun z => by rw [z, hx] at e; cases e).trans e, ok, fun pos cv z => let ⟨c, e1, e2⟩ := am pos cv z; ⟨c, e1, (upd_ne fun z => by rw [z, hx] at e2; cases e2).trans e2⟩⟩
abbrev latFs (d mi tb : Addr) (rest : List (Str × V)) : List (Str × V) := ("index_of", V.ref d) :: ("maker_indices", V.ref mi) :: ("table", V.ref tb) :: rest
/-- a lattice, told -/
def LAT (K : PySem.W.Frag) (H : Hp) (l : Addr) (M : List (List Nat)) (mis : List Nat) : Prop := ∃ (dx d mi tb : Addr) (us : List V) (rest : List (Str × V)),
  H l = some (.ins (cA K "Lattice") dx (latFs d mi tb rest)) ∧ H d = some (.dT (dk (at_ M) (fun j => .int (j : Int)) M.length)) ∧ H mi = some (.tup (mv mis)) ∧ SqT K H tb us ∧ TBL H us M
def spLatInit (K : PySem.W.Frag) : Sp := fun vs H Q _ => ∃ (x dx m mk tb fm : Addr) (us mus tus frs : List V) (M ms : List (List Nat)) (FS : List (List (List Nat))),
  vs = [.ref x, .ref m, .ref mk, .ref tb, .ref fm] ∧ H x = some (.ins (cA K "Lattice") dx []) ∧ SqT K H m us ∧ MR H us M ∧ M.Nodup ∧ M.length ≤ 200 ∧ SqT K H mk mus ∧ MR H mus ms ∧ (∀ y ∈ ms, y ∈ M) ∧ ms.length ≤ 6 ∧
  SqT K H tb tus ∧ TBL H tus M ∧ (∀ i, i < M.length → 0 ∈ rowOf M i) ∧ H fm = some (.lst frs) ∧ FAM H (fun _ => False) frs FS ∧ FS.length ≤ 60 ∧ (∀ F ∈ FS, F.length ≤ 60 ∧ F ≠ [] ∧ ∀ B ∈ F, B.length ≤ 200 ∧ B ≠ [] ∧ ∀ k ∈ B, k ≤ 200) ∧ Tabs (TL K) H ∧
  ∀ H', Lk x H H' → LAT K H' x M (ms.map (ix M)) → Tabs (TL K) H' → Q .non H'
theorem scLatticeInit : FnScope ["self", "moves", "makers", "table", "families", "index", "move", "maker", "family", "body", "at", "mask", "members"] ["self", "moves", "makers", "table", "families"] (defScope sLatticeInit) :=
  ⟨rfl, rfl, rfl, by decide +kernel, rfl, by decide +kernel, by decide +kernel⟩
theorem fLatticeInit (T : Tx K mg) (Y : Ex K mg) (DUndoingOf : Def P w K mg base CX0 1 "undoing_of" ["table"] (spBackOf K)) (DInOrder : Def P w K mg base CX0 1 "in_order" ["bodies"] (spInOrder K)) (DMaskOf : Def P w K mg base CX0 1 "mask_of" ["body"] (spMask K)) : FAt P w K mg base CX0 2 (mA K (cA K "Lattice") "__init__") ["self", "moves", "makers", "table", "families"] (spLatInit K) := by
  refine FAt.of Y.fLatticeInit (N := ["self", "moves", "makers", "table", "families", "index", "move", "maker", "family", "body", "at", "mask", "members"]) scLatticeInit (fun _ _ _ _ _ _ us hl => match us, hl with | [_, _, _, _, _], _ => rfl) ?_ ?_
  · intro vs H Q E h
    obtain ⟨x, dx, m, mk, tb, fm, us, mus, tus, frs, M, ms, FS, rfl, _⟩ := h
    rfl
  · intro cd A out s H vs Q E hr h
    have hr1 : Rm 1 _ := hr.le (by decide)
    obtain ⟨x, dx, m, mk, tb, fm, us, mus, tus, frs, M, ms, FS, rfl, hx, S, mM, nd, few, Sm, mm, inM, m6, St, tl, z0, hfm, fam, f60, fok, tabs, q⟩ := h
    refine ⟨_, (pss_cons (ps_fld (pv 0) (pe_dcT hr.hu1 (own := [("index", 5), ("move", 6)]) (g := gTup K 2 (gCons (gName 5) (gCons (gName 6) gNil))) (tt := tYes) rfl scLatticeInit.nd (pi_enumT rfl T.f_enumerate (pa_cons (pv 1) pa_nil)) (blkOk_by (N := ["self", "moves", "makers", "table", "families", "index", "move", "maker", "family", "body", "at", "mask", "members"]) (sc := defScope sLatticeInit) (by decide +kernel)) (fun _ _ _ _ _ => (show PG _ _ (gTup K 2 (gCons (gName 5) (gCons (gName 6) gNil))) from pg_tup rfl (pgs_cons (pg_name (i := 5) scLatticeInit.nd rfl (Or.inl rfl)) (pgs_cons (pg_name (i := 6) scLatticeInit.nd rfl (Or.inl rfl)) pgs_nil)))) (fun _ _ _ _ _ => pts_nil) (fun _ _ _ _ _ => (pv 6)) (fun _ _ _ _ _ => (pv 5))) rfl)
      (pss_cons (ps_fld (pv 0) (pe_callTy call_tuple_of rfl T.f_tuple (by decide +kernel) (pa_cons (pe_lc (own := [("maker", 7)]) (g := gName 7) (tt := tYes) rfl scLatticeInit.nd (pi_tup (pv 2)) (blkOk_by (N := ["self", "moves", "makers", "table", "families", "index", "move", "maker", "family", "body", "at", "mask", "members"]) (sc := defScope sLatticeInit) (by decide +kernel)) (fun _ _ _ _ _ => pg_name (i := 7) scLatticeInit.nd rfl (Or.inl rfl)) (fun _ _ _ _ _ => pts_nil) (fun _ _ _ _ _ => (pe_dget hr.hu1 (show PE _ _ (tFld K _ _) from pe_fld (pv 0) rfl) (pv 7) (fun _ _ => rfl)))) pa_nil)) rfl)
      (pss_cons (ps_fld (pv 0) (pv 3) rfl)
      (pss_cons (ps_fld (pv 0) (pe_d DUndoingOf (hr1.le (by decide)) pass0 (pa_cons (pv 3) pa_nil)) rfl)
      (pss_cons (ps_fld (pv 0) (pe_callTy call_tuple_of rfl T.f_tuple (by decide +kernel) (pa_cons (pe_d DInOrder (hr1.le (by decide)) pass0 (pa_cons (pe_lc2 (own := [("family", 8), ("body", 9)]) (g := gName 8) (tt := tYes) (g1 := gName 9) (tt1 := tYes) (vs1 := [9]) rfl scLatticeInit.nd (pi_list (pv 4)) (blkOk_by (N := ["self", "moves", "makers", "table", "families", "index", "move", "maker", "family", "body", "at", "mask", "members"]) (sc := defScope sLatticeInit) (by decide +kernel)) (by decide) (fun _ _ _ _ _ => pg_name (i := 8) scLatticeInit.nd rfl (Or.inl rfl)) (fun _ _ _ _ _ => pts_nil) (fun _ _ _ _ _ => (show PI _ _ _ (iList K _) from pi_list (pv 8))) (fun _ _ _ _ _ => pg_name (i := 9) scLatticeInit.nd rfl (Or.inl rfl)) (fun _ _ _ _ _ => pts_nil) (fun _ _ _ _ _ => (pv 9))) pa_nil)) pa_nil)) rfl)
      (pss_cons (ps_fld (pv 0) (pe_callTy call_tuple_of rfl T.f_tuple (by decide +kernel) (pa_cons (pe_lc (own := [("body", 9)]) (g := gName 9) (tt := tYes) rfl scLatticeInit.nd (pi_tup (pe_fld (pv 0) rfl)) (blkOk_by (N := ["self", "moves", "makers", "table", "families", "index", "move", "maker", "family", "body", "at", "mask", "members"]) (sc := defScope sLatticeInit) (by decide +kernel)) (fun _ _ _ _ _ => pg_name (i := 9) scLatticeInit.nd rfl (Or.inl rfl)) (fun _ _ _ _ _ => pts_nil) (fun _ _ _ _ _ => (pe_d DMaskOf (hr1.le (by decide)) pass0 (pa_cons (pv 9) pa_nil)))) pa_nil)) rfl)
      (pss_cons (ps_fld (pv 0) (pe_dcT hr.hu1 (own := [("at", 10), ("body", 9)]) (g := gTup K 2 (gCons (gName 10) (gCons (gName 9) gNil))) (tt := tYes) rfl scLatticeInit.nd (pi_enumT rfl T.f_enumerate (pa_cons (pe_fld (pv 0) rfl) pa_nil)) (blkOk_by (N := ["self", "moves", "makers", "table", "families", "index", "move", "maker", "family", "body", "at", "mask", "members"]) (sc := defScope sLatticeInit) (by decide +kernel)) (fun _ _ _ _ _ => (show PG _ _ (gTup K 2 (gCons (gName 10) (gCons (gName 9) gNil))) from pg_tup rfl (pgs_cons (pg_name (i := 10) scLatticeInit.nd rfl (Or.inl rfl)) (pgs_cons (pg_name (i := 9) scLatticeInit.nd rfl (Or.inl rfl)) pgs_nil)))) (fun _ _ _ _ _ => pts_nil) (fun _ _ _ _ _ => (pv 9)) (fun _ _ _ _ _ => (pv 10))) rfl)
      (pss_cons (ps_fld (pv 0) (pe_dcI hr.hu1 (own := [("at", 10), ("mask", 11)]) (g := gTup K 2 (gCons (gName 10) (gCons (gName 11) gNil))) (tt := tYes) rfl scLatticeInit.nd (pi_enumT rfl T.f_enumerate (pa_cons (pe_fld (pv 0) rfl) pa_nil)) (blkOk_by (N := ["self", "moves", "makers", "table", "families", "index", "move", "maker", "family", "body", "at", "mask", "members"]) (sc := defScope sLatticeInit) (by decide +kernel)) (fun _ _ _ _ _ => (show PG _ _ (gTup K 2 (gCons (gName 10) (gCons (gName 11) gNil))) from pg_tup rfl (pgs_cons (pg_name (i := 10) scLatticeInit.nd rfl (Or.inl rfl)) (pgs_cons (pg_name (i := 11) scLatticeInit.nd rfl (Or.inl rfl)) pgs_nil)))) (fun _ _ _ _ _ => pts_nil) (fun _ _ _ _ _ => (pv 11)) (fun _ _ _ _ _ => (pv 10))) rfl)
      (pss_cons (ps_setLc (i := 12) (own := [("family", 8)]) (g := gName 8) (tt := tYes) rfl scLatticeInit.nd rfl rfl (sw_true rfl rfl rfl rfl) (pi_list (pv 4)) (blkOk_by (N := ["self", "moves", "makers", "table", "families", "index", "move", "maker", "family", "body", "at", "mask", "members"]) (sc := defScope sLatticeInit) (by decide +kernel)) (fun _ _ _ _ _ => pg_name (i := 8) scLatticeInit.nd rfl (Or.inl rfl)) (fun _ _ _ _ _ => pts_nil) (fun _ _ _ _ _ => (pe_callTy (show CallR _ _ (rTupOf K) from call_tuple_of) rfl T.f_tuple (by decide +kernel) (pa_cons (pe_callB (show CallR _ _ (rSortedI K) from cr_sortedI) rfl T.f_sorted (by decide +kernel) (pa_cons (pe_lc (own := [("body", 9)]) (g := gName 9) (tt := tYes) rfl scLatticeInit.nd (show PI _ _ _ (iList K _) from pi_list (pv 8)) (blkOk_by (N := ["self", "moves", "makers", "table", "families", "index", "move", "maker", "family", "body", "at", "mask", "members"]) (sc := _) (by kernel_rfl)) (fun _ _ _ _ _ => pg_name (i := 9) scLatticeInit.nd rfl (Or.inl rfl)) (fun _ _ _ _ _ => pts_nil) (fun _ _ _ _ _ => (pe_dget hr.hu1 (show PE _ _ (tFld K _ _) from pe_fld (pv 0) rfl) (pv 9) (fun _ _ => rfl)))) pa_nil)) pa_nil))))
      (pss_cons (ps_fld (pv 0) (pe_callTy call_tuple_of rfl T.f_tuple (by decide +kernel) (pa_cons (pe_callB (show CallR _ _ (rSortedTI K) from cr_sortedTI hr.hu) rfl T.f_sorted (by decide +kernel) (pa_cons (pv 12) pa_nil)) pa_nil)) rfl)
      (pss_one (ps_fld (pv 0) (pe_dcG2 (o0 := .dK []) (Put := PutI) (fun _ h b => dk_empty h b) putI_ok hr.hu1 (own := [("index", 5), ("family", 8), ("at", 10)]) (g := gTup K 2 (gCons (gName 5) (gCons (gName 8) gNil))) (tt := tYes) (g1 := gName 10) (tt1 := tYes) (vs1 := [10]) rfl scLatticeInit.nd (pi_enumT rfl T.f_enumerate (pa_cons (pe_fld (pv 0) rfl) pa_nil)) (blkOk_by (N := ["self", "moves", "makers", "table", "families", "index", "move", "maker", "family", "body", "at", "mask", "members"]) (sc := defScope sLatticeInit) (by decide +kernel)) (by decide) (fun _ _ _ _ _ => (show PG _ _ (gTup K 2 (gCons (gName 5) (gCons (gName 8) gNil))) from pg_tup rfl (pgs_cons (pg_name (i := 5) scLatticeInit.nd rfl (Or.inl rfl)) (pgs_cons (pg_name (i := 8) scLatticeInit.nd rfl (Or.inl rfl)) pgs_nil)))) (fun _ _ _ _ _ => pts_nil) (fun _ _ _ _ _ => (show PI _ _ _ (iTup K _) from pi_tup (pv 8))) (fun _ _ _ _ _ => pg_name (i := 10) scLatticeInit.nd rfl (Or.inl rfl)) (fun _ _ _ _ _ => pts_nil) (fun _ _ _ _ _ => (pv 10)) (fun _ _ _ _ _ => (pv 5))) rfl)))))))))))), ?_⟩
    have lus := pr_len mM
    have injM : ∀ x y, x < M.length → y < M.length → at_ M x = at_ M y → x = y := fun x y hx hy e => at_inj nd hx hy e
    have val1 : ∀ {x : List Nat}, x ∈ M → valV (dk (at_ M) (fun j => V.int (j : Int)) M.length) (key x) = some (.int (ix M x : Int)) := fun {x} hx => by
      have := dk_val (g := fun j => V.int (j : Int)) injM (ix_lt hx)
      rwa [at_ix hx] at this
    -- index_of
    refine ⟨_, rfl, m, us, rfl, S, fun D1 n1 => ?_⟩
    refine dcG_it (walk_enumT (K := K) (a := m) (xs := us)) (fun i H' => Same H H' ∧ H' D1 = some (.dT (dk (at_ M) (fun j => .int (j : Int)) i))) ⟨same_new n1, upd_same⟩ (fun i H' _ e => same_sqt e.1 S) ?_ ?_
    · rintro i v H1 H2 hi ⟨s1, h1⟩ ⟨T, x', y, rfl, nT, rfl, e1, e2⟩
      cases e1
      obtain ⟨m', hm, b, rfl, hb⟩ := pr_at mM e2
      have im : i < M.length := by omega
      have em : at_ M i = m' := by rw [at_, List.getD, hm]; rfl
      have k1 := same_new (o := .tup [.int (i : Int), .ref b]) nT
      have hb2 := k1 _ _ (s1 _ _ hb)
      have h2 := k1 _ _ h1
      replace s1 := s1.trans k1
      refine ⟨T, _, rfl, .inl (.inl upd_same), rfl, _, _, rfl, ?_⟩
      refine ⟨_, _, rfl, rfl, rfl, ?_⟩
      generalize upd H1 T _ = H3 at s1 hb2 h2 ⊢
      refine yes_ ?_
      refine ⟨_, rfl, _, rfl, _, ⟨_, key m', b, rfl, h2, by rw [key_mv]; exact hb2, by rw [dk_len, sizeLine_eq]; omega, rfl⟩, fun x o e => (upd_ne (ne_of_none e n1)).trans (s1 _ _ e), ?_⟩
      rw [upd_same, ← em, dk_put (f := at_ M) (g := fun j => .int (j : Int)) fun j hj e => by have := injM j i (by omega) im e; omega]
    rintro H1 ⟨s1, h1⟩
    rw [lus] at h1
    have hx1 := s1 _ _ hx
    refine ⟨_, rfl, x, _, dx, [], rfl, hx1, Y.kLattice, Y.nLattice _ (by decide), (by show 0 < 1000; decide), ?_⟩
    have lk1 : Lk x H (upd H1 x (.ins (cA K "Lattice") dx (putF "index_of" (.ref D1) []))) := (Lk.of s1).trans .put
    have h1u : (upd H1 x (.ins (cA K "Lattice") dx (putF "index_of" (.ref D1) []))) D1 = some (.dT (dk (at_ M) (fun j => .int (j : Int)) M.length)) := (upd_ne fun z => by rw [z, hx1] at h1; cases h1).trans h1
    have hx2 : (upd H1 x (.ins (cA K "Lattice") dx (putF "index_of" (.ref D1) []))) x = some (.ins (cA K "Lattice") dx [("index_of", .ref D1)]) := upd_same
    have tabs1 := tabs_put (o := .ins (cA K "Lattice") dx (putF "index_of" (.ref D1) [])) (tabs_same tabs s1) hx1
    generalize upd H1 x _ = H2 at lk1 h1u hx2 tabs1 ⊢
    clear h1 hx1 s1
    -- maker_indices
    refine ⟨_, rfl, mk, rfl, ⟨mus, Lk.sqt hx lk1 Sm⟩, fun D2 n2 => ?_⟩
    have lms := pr_len mm
    refine lc_tup (K := K) (a := mk) (xs := mus) (Pv := fun i H' => Same H2 H' ∧ H' D2 = some (.lst (mv ((ms.map (ix M)).take i)))) ⟨same_new n2, upd_same⟩ (fun i H' _ e => same_sqt e.1 (Lk.sqt hx lk1 Sm)) ?_ ?_
    · rintro i v H3 hv ⟨s3, h3⟩
      obtain ⟨m', hm, b, rfl, hb⟩ := pr_at mm hv
      have mi := inM m' (List.mem_of_getElem? hm)
      have hb3 := s3 _ _ (Lk.tup hx lk1 hb)
      refine ⟨wipe_one, yes_ ?_⟩
      refine ⟨_, rfl, x, _, dx, _, _, rfl, s3 _ _ hx2, Y.kLattice, Y.nLattice _ (by decide), rfl, ?_⟩
      have e3 : (mv ((ms.map (ix M)).take i)).length ≤ i := by
        rw [mv_len]
        exact List.length_take_le _ _
      have il := (List.getElem?_eq_some_iff.mp hm).1
      refine ⟨_, rfl, D1, .int (ix M m' : Int), rfl, by rw [← val1 mi]; exact DGet.t (s3 _ _ h1u) (by rw [key_mv]; exact hb3), _, h3, by rw [sizeLine_eq]; omega, fun y o e => (upd_ne (ne_of_none e n2)).trans (s3 _ _ e), ?_⟩
      rw [upd_same, List.take_add_one, show (ms.map (ix M))[i]? = some (ix M m') by rw [List.getElem?_map, hm]; rfl]
      unfold mv
      rw [List.map_append]
      rfl
    rintro H3 ⟨s3, h3⟩
    rw [lms, List.take_of_length_le (by rw [List.length_map]; exact Nat.le_refl _)] at h3
    refine ⟨D2, _, rfl, .inl ⟨lst_sql' h3, fun t nt => ?_⟩⟩
    have k3 := s3.trans (same_new (o := .tup (mv (ms.map (ix M)))) nt)
    have ht : (upd H3 t (.tup (mv (ms.map (ix M))))) t = some (.tup (mv (ms.map (ix M)))) := upd_same
    generalize upd H3 t _ = H4 at k3 ht ⊢
    have hx4 := k3 _ _ hx2
    refine ⟨_, rfl, x, _, dx, _, rfl, hx4, Y.kLattice, Y.nLattice _ (by decide), (by show 1 < 1000; decide), ?_⟩
    have lk2 : Lk x H (upd H4 x (.ins (cA K "Lattice") dx (putF "maker_indices" (.ref t) [("index_of", .ref D1)]))) := (lk1.trans (Lk.of k3)).trans .put
    have h1v := (upd_ne (o := .ins (cA K "Lattice") dx (putF "maker_indices" (.ref t) [("index_of", .ref D1)])) fun z => by rw [z, hx2] at h1u; cases h1u).trans (k3 _ _ h1u)
    have ht2 := (upd_ne (o := .ins (cA K "Lattice") dx (putF "maker_indices" (.ref t) [("index_of", .ref D1)])) fun z => by rw [z, hx4] at ht; cases ht).trans ht
    have hx5 : (upd H4 x (.ins (cA K "Lattice") dx (putF "maker_indices" (.ref t) [("index_of", .ref D1)]))) x = some (.ins (cA K "Lattice") dx [("index_of", .ref D1), ("maker_indices", .ref t)]) := upd_same
    have tabs2 := tabs_put (o := .ins (cA K "Lattice") dx (putF "maker_indices" (.ref t) [("index_of", .ref D1)])) (tabs_same tabs1 k3) hx4
    generalize upd H4 x _ = H5 at lk2 h1v ht2 hx5 tabs2 ⊢
    clear lk1 h1u hx2 tabs1 k3 hx4 ht h3 s3 n1 n2
    -- table
    refine ⟨_, rfl, _, rfl, x, _, dx, _, rfl, hx5, Y.kLattice, Y.nLattice _ (by decide), (by show 2 < 1000; decide), ?_⟩
    have lat : ∀ {H' : Hp} {rest : List (Str × V)}, Lk x H5 H' → H' x = some (.ins (cA K "Lattice") dx (latFs D1 t tb rest)) → LAT K H' x M (ms.map (ix M)) := fun {H' rest} lk h =>
      ⟨dx, D1, t, tb, tus, rest, h, Lk.dT hx5 lk h1v, Lk.tup hx5 lk ht2, Lk.sqt hx5 lk (Lk.sqt hx lk2 St), Lk.tbl hx5 lk (Lk.tbl hx lk2 tl)⟩
    have hx6 : (upd H5 x (.ins (cA K "Lattice") dx (putF "table" (.ref tb) [("index_of", .ref D1), ("maker_indices", .ref t)]))) x = some (.ins (cA K "Lattice") dx (latFs D1 t tb [])) := upd_same
    have lk5 : Lk x H5 (upd H5 x (.ins (cA K "Lattice") dx (putF "table" (.ref tb) [("index_of", .ref D1), ("maker_indices", .ref t)]))) := .put
    have tabs3 := tabs_put (o := .ins (cA K "Lattice") dx (putF "table" (.ref tb) [("index_of", .ref D1), ("maker_indices", .ref t)])) tabs2 hx5
    generalize upd H5 x _ = H6 at hx6 lk5 tabs3 ⊢
    have lk6 := lk2.trans lk5
    -- back
    refine ⟨_, rfl, tb, tus, M, rfl, Lk.sqt hx lk6 St, Lk.tbl hx lk6 tl, few, z0, fun H7 ba s7 hba => ?_⟩
    have hx7 := s7 _ _ hx6
    refine ⟨_, rfl, x, _, dx, _, rfl, hx7, Y.kLattice, Y.nLattice _ (by decide), (by show 3 < 1000; decide), ?_⟩
    have tabs4 := tabs_put (o := .ins (cA K "Lattice") dx (putF "back" (.ref ba) (latFs D1 t tb []))) (tabs_same tabs3 s7) hx7
    have hx8 : (upd H7 x (.ins (cA K "Lattice") dx (putF "back" (.ref ba) (latFs D1 t tb [])))) x = some (.ins (cA K "Lattice") dx (latFs D1 t tb [("back", .ref ba)])) := upd_same
    have lk8 : Lk x H5 (upd H7 x (.ins (cA K "Lattice") dx (putF "back" (.ref ba) (latFs D1 t tb [])))) := (lk5.trans (.of s7)).trans .put
    generalize upd H7 x _ = H8 at tabs4 hx8 lk8 ⊢
    clear tabs2 tabs3 hx7 hx6 lk6 lk5
    -- bodies
    have lk28 := lk2.trans lk8
    have fam8 := Lk.fam hx lk28 fam
    have hfm8 := Lk.lst hx lk28 hfm
    have lfs := pr_len fam
    refine ⟨_, rfl, fm, rfl, ⟨frs, lst_sql' hfm8⟩, fun D3 n3 => ?_⟩
    refine walk_it (walk_list (K := K) (a := fm) (xs := frs)) (fun i H' => Same H8 H' ∧ ∃ acc, H' D3 = some (.lst acc) ∧ MR H' acc (FS.take i).flatten ∧ (FS.take i).flatten.length ≤ 60 * i) ⟨same_new n3, [], upd_same, .nil, Nat.zero_le _⟩ (fun i H' _ e => lst_sql' (e.1 _ _ hfm8)) ?_ ?_
    · rintro i v H9 _ hi ⟨s9, acc, hD, ma, la⟩ ⟨rfl, hv⟩
      obtain ⟨F, hF, l, fus, rfl, -, hl, mF⟩ := pr_at fam8 hv
      have lF := pr_len mF
      have ff := fok F (List.mem_of_getElem? hF)
      refine ⟨rfl, yes_ ?_⟩
      have hl9 := s9 _ _ hl
      refine ⟨_, rfl, l, rfl, ⟨fus, lst_sql' hl9⟩, ?_⟩
      refine walk_it (walk_list (K := K) (a := l) (xs := fus)) (fun j H' => Same H8 H' ∧ ∃ acc, H' D3 = some (.lst acc) ∧ MR H' acc ((FS.take i).flatten ++ F.take j)) ⟨s9, acc, hD, by rw [List.take_zero, List.append_nil]; exact ma⟩ (fun j H' _ e => lst_sql' (e.1 _ _ hl)) ?_ ?_
      · rintro j v H10 _ hj ⟨s10, acc1, hD1, ma1⟩ ⟨rfl, hv1⟩
        obtain ⟨B, hB, b, rfl, hb⟩ := pr_at mF hv1
        refine ⟨rfl, yes_ ?_⟩
        have la1 := mr_len ma1
        rw [List.length_append] at la1
        have lt1 := List.length_take_le j F
        refine ⟨_, rfl, acc1, hD1, by rw [sizeLine_eq]; omega, fun y o e => (upd_ne (ne_of_none e n3)).trans (s10 _ _ e), acc1 ++ [.ref b], upd_same, ?_⟩
        rw [List.take_add_one, hB]
        show MR _ _ (_ ++ (_ ++ [B]))
        rw [← List.append_assoc]
        exact pr_snoc (ma1.upd hD1 fun _ z => by cases z) ⟨b, rfl, (upd_ne (ne_of (s10 _ _ hb) hD1 fun z => by cases z)).trans (s10 _ _ hb)⟩
      · rintro H10 ⟨s10, acc1, hD1, ma1⟩
        rw [lF, List.take_length] at ma1
        have ef : (FS.take (i + 1)).flatten = (FS.take i).flatten ++ F := by
          rw [List.take_add_one, hF, List.flatten_append]
          show _ ++ (F ++ []) = _
          rw [List.append_nil]
        refine ⟨s10, acc1, hD1, by rw [ef]; exact ma1, ?_⟩
        rw [ef, List.length_append]
        have := ff.1
        omega
    rintro H9 ⟨s9, acc, hD, ma, la⟩
    rw [lfs, List.take_length] at ma la
    obtain ⟨bs, bs1, bs2, bs3⟩ := mr_bs ma
    have fl : ∀ B ∈ FS.flatten, B.length ≤ 200 ∧ B ≠ [] ∧ ∀ k ∈ B, k ≤ 200 := fun B hB => by
      obtain ⟨F, hF, hB⟩ := List.mem_flatten.mp hB
      exact (fok F hF).2.2 B hB
    have lbs : bs.length = FS.flatten.length := by
      rw [← List.length_map (f := Prod.snd), bs2, List.length_map]
    refine ⟨D3, bs, rfl, by rw [bs1]; exact lst_sql' hD, by omega, fun b hb => ?_, tabs_same tabs4 s9, fun H10 zs p e10 tabs5 pm _ np => ?_⟩
    · obtain ⟨t', m', h1, h2, h3, h4⟩ := bs3 b hb
      have := (fl m' h1).1
      refine ⟨by rw [h3]; unfold nums; rw [List.length_map]; omega, t', h2, ?_⟩
      rw [h3]
      unfold nums
      rw [← mv_ints]
      exact .inl (.inl h4)
    obtain ⟨Bs, pB, _, mB⟩ := mr_perm bs2 bs3 pm
    have lk10 : Lk x H8 H10 := (Lk.of s9).trans (.ext e10)
    have mB10 : MR H10 (zs.map Prod.fst) Bs := Paired.mapP mB fun _ _ ⟨b, e, hb⟩ => ⟨b, e, e10 _ _ hb fun _ z => by cases z⟩
    have hx10 : H10 x = _ := e10 _ _ (s9 _ _ hx8) fun _ z => by cases z
    have s10 := same_new (o := .lst (zs.map Prod.fst)) np
    have hp : (upd H10 p (.lst (zs.map Prod.fst))) p = some (.lst (zs.map Prod.fst)) := upd_same
    generalize upd H10 p _ = H11 at s10 hp ⊢
    refine ⟨p, _, rfl, .inl ⟨lst_sql' hp, fun bt nbt => ?_⟩⟩
    replace s10 := s10.trans (same_new (o := .tup (zs.map Prod.fst)) nbt)
    have hbt : (upd H11 bt (.tup (zs.map Prod.fst))) bt = some (.tup (zs.map Prod.fst)) := upd_same
    generalize upd H11 bt _ = H12 at s10 hbt ⊢
    have hx12 := s10 _ _ hx10
    refine ⟨_, rfl, x, _, dx, _, rfl, hx12, Y.kLattice, Y.nLattice _ (by decide), (by show 4 < 1000; decide), ?_⟩
    have fB : ∀ B ∈ Bs, B.length ≤ 200 ∧ B ≠ [] ∧ ∀ k ∈ B, k ≤ 200 := fun B hB => fl B (pB.mem_iff.mp hB)
    have lB : Bs.length ≤ 3600 := by
      have := pB.length_eq
      omega
    have lzs := mr_len mB10
    have lk12 := (lk8.trans (lk10.trans (.of s10)))
    have mB12 := mB10.same s10
    have tabs6 := tabs_put (o := .ins (cA K "Lattice") dx (putF "bodies" (.ref bt) (latFs D1 t tb [("back", .ref ba)]))) (tabs_same tabs5 s10) hx12
    have hx13 : (upd H12 x (.ins (cA K "Lattice") dx (putF "bodies" (.ref bt) (latFs D1 t tb [("back", .ref ba)])))) x = some (.ins (cA K "Lattice") dx (latFs D1 t tb [("back", .ref ba), ("bodies", .ref bt)])) := upd_same
    have lk13 : Lk x H5 (upd H12 x (.ins (cA K "Lattice") dx (putF "bodies" (.ref bt) (latFs D1 t tb [("back", .ref ba)])))) := lk12.trans .put
    have hbt13 := (upd_ne (o := .ins (cA K "Lattice") dx (putF "bodies" (.ref bt) (latFs D1 t tb [("back", .ref ba)]))) fun z => by rw [z, hx12] at hbt; cases hbt).trans hbt
    have mB13 : MR (upd H12 x (.ins (cA K "Lattice") dx (putF "bodies" (.ref bt) (latFs D1 t tb [("back", .ref ba)])))) (zs.map Prod.fst) Bs := mB12.upd hx12 fun _ z => by cases z
    generalize upd H12 x _ = H13 at tabs6 hx13 lk13 hbt13 mB13 ⊢
    have iB : ∀ F ∈ FS, ∀ B ∈ F, B ∈ Bs := fun F hF B hB => pB.mem_iff.mpr (List.mem_flatten.mpr ⟨F, hF, hB⟩)
    generalize eus : zs.map Prod.fst = bus at hbt13 mB13 lzs
    clear s7 hba hx8 lk8 lk28 fam8 hfm8 s9 hD ma la bs1 bs2 bs3 lbs pm bs lk10 mB10 hx10 s10 hp hbt hx12 lk12 mB12 tabs4 tabs5 mB e10 np nbt n3
    have F1 : ∀ f ∈ fsLattice, NoAttr K (cA K "Lattice") f := Y.nLattice
    -- masks
    have sb13 : SqT K H13 bt bus := .inl (.inl hbt13)
    refine ⟨_, rfl, x, _, dx, _, .ref bt, rfl, hx13, Y.kLattice, Y.nLattice _ (by decide), rfl, bt, rfl, ⟨bus, sb13⟩, fun D4 n4 => ?_⟩
    refine lc_tup (K := K) (a := bt) (xs := bus) (Pv := fun i H' => Same H13 H' ∧ ∃ zs : List Int, zs.length = i ∧ H' D4 = some (.lst (zs.map V.int))) ⟨same_new n4, [], rfl, upd_same⟩ (fun i H' _ e => same_sqt e.1 sb13) ?_ ?_
    · rintro i v H14 hv ⟨s14, zs, lz, hD⟩
      obtain ⟨B, hB, b, rfl, hb⟩ := pr_at mB13 hv
      have mb := List.mem_of_getElem? hB
      have il := (List.getElem?_eq_some_iff.mp hB).1
      refine ⟨wipe_one, yes_ ?_⟩
      refine ⟨_, rfl, b, B, rfl, .inl (.inl (s14 _ _ hb)), fun k hk => by have := (fB B mb).2.2 k hk; omega, fun z => ?_⟩
      refine ⟨_, hD, by rw [sizeLine_eq, List.length_map]; omega, fun y o e => (upd_ne (ne_of_none e n4)).trans (s14 _ _ e), zs ++ [z], by rw [List.length_append, lz]; rfl, ?_⟩
      rw [upd_same, List.map_append]
      rfl
    rintro H14 ⟨s14, zs4, lz4, hD4⟩
    refine ⟨D4, _, rfl, .inl ⟨lst_sql' hD4, fun mt nmt => ?_⟩⟩
    replace s14 := s14.trans (same_new (o := .tup (zs4.map V.int)) nmt)
    have hmt : (upd H14 mt (.tup (zs4.map V.int))) mt = some (.tup (zs4.map V.int)) := upd_same
    generalize upd H14 mt _ = H15 at s14 hmt ⊢
    have hx15 := s14 _ _ hx13
    refine ⟨_, rfl, x, _, dx, _, rfl, hx15, Y.kLattice, Y.nLattice _ (by decide), (by show 5 < 1000; decide), ?_⟩
    have tabs7 := tabs_put (o := .ins (cA K "Lattice") dx (putF "masks" (.ref mt) (latFs D1 t tb [("back", .ref ba), ("bodies", .ref bt)]))) (tabs_same tabs6 s14) hx15
    have hx16 : (upd H15 x (.ins (cA K "Lattice") dx (putF "masks" (.ref mt) (latFs D1 t tb [("back", .ref ba), ("bodies", .ref bt)])))) x = some (.ins (cA K "Lattice") dx (latFs D1 t tb [("back", .ref ba), ("bodies", .ref bt), ("masks", .ref mt)])) := upd_same
    have lk14 : Lk x H13 (upd H15 x (.ins (cA K "Lattice") dx (putF "masks" (.ref mt) (latFs D1 t tb [("back", .ref ba), ("bodies", .ref bt)])))) := (Lk.of s14).trans .put
    have hmt16 := (upd_ne (o := .ins (cA K "Lattice") dx (putF "masks" (.ref mt) (latFs D1 t tb [("back", .ref ba), ("bodies", .ref bt)]))) fun z => by rw [z, hx15] at hmt; cases hmt).trans hmt
    generalize upd H15 x _ = H16 at tabs7 hx16 lk14 hmt16 ⊢
    have hbt16 := Lk.tup hx13 lk14 hbt13
    have mB16 := Lk.mr hx13 lk14 mB13
    replace lk13 := lk13.trans lk14
    have sb16 : SqT K H16 bt bus := .inl (.inl hbt16)
    clear tabs6 hx15 hmt s14 hD4 nmt n4 lk14 hx13 sb13 hbt13 mB13
    -- body_at
    refine ⟨_, rfl, x, _, dx, _, .ref bt, rfl, hx16, Y.kLattice, Y.nLattice _ (by decide), rfl, ?_⟩
    refine ⟨bt, bus, rfl, sb16, fun D5 n5 => ?_⟩
    refine dcG_it (walk_enumT (K := K) (a := bt) (xs := bus)) (fun i H' => Same H16 H' ∧ ∃ kvs, kvs.length ≤ i ∧ H' D5 = some (.dT kvs) ∧ ∀ j, j < i → Has kvs (at_ Bs j)) ⟨same_new n5, [], Nat.le_refl _, upd_same, fun j z => absurd z (Nat.not_lt_zero _)⟩ (fun i H' _ e => same_sqt e.1 sb16) ?_ ?_
    · rintro i v H17 H18 hi ⟨s17, kvs, lk, hD, has⟩ ⟨T, x', y, rfl, nT, rfl, e1, e2⟩
      cases e1
      obtain ⟨B, hB, b, rfl, hb⟩ := pr_at mB16 e2
      have em : at_ Bs i = B := by rw [at_, List.getD, hB]; rfl
      have k1 := same_new (o := .tup [.int (i : Int), .ref b]) nT
      have hb2 := k1 _ _ (s17 _ _ hb)
      have h2 := k1 _ _ hD
      replace s17 := s17.trans k1
      refine ⟨T, _, rfl, .inl (.inl upd_same), rfl, _, _, rfl, ?_⟩
      refine ⟨_, _, rfl, rfl, rfl, ?_⟩
      generalize upd H17 T _ = H18 at s17 hb2 h2 ⊢
      refine yes_ ?_
      refine ⟨_, rfl, _, rfl, _, ⟨_, key B, b, rfl, h2, by rw [key_mv]; exact hb2, by rw [sizeLine_eq]; omega, rfl⟩, fun x o e => (upd_ne (ne_of_none e n5)).trans (s17 _ _ e), _, ?_, upd_same, fun j hj => has_put ?_⟩
      · have := length_putK kvs (key B) (.int (i : Int))
        omega
      · by_cases c : j = i
        · exact .inl (by rw [c, em])
        · exact .inr (has j (by omega))
    rintro H17 ⟨s17, kvs5, l5, hD5, has⟩
    rw [lzs] at l5 has
    have hasB : ∀ B ∈ Bs, Has kvs5 B := fun B hB => by
      obtain ⟨j, hj, e⟩ := mem_at hB
      rw [← e]
      exact has j hj
    clear has
    have hx17 := s17 _ _ hx16
    refine ⟨_, rfl, x, _, dx, _, rfl, hx17, Y.kLattice, Y.nLattice _ (by decide), (by show 6 < 1000; decide), ?_⟩
    have tabs8 := tabs_put (o := .ins (cA K "Lattice") dx (putF "body_at" (.ref D5) (latFs D1 t tb [("back", .ref ba), ("bodies", .ref bt), ("masks", .ref mt)]))) (tabs_same tabs7 s17) hx17
    have hx18 : (upd H17 x (.ins (cA K "Lattice") dx (putF "body_at" (.ref D5) (latFs D1 t tb [("back", .ref ba), ("bodies", .ref bt), ("masks", .ref mt)])))) x = some (.ins (cA K "Lattice") dx (latFs D1 t tb [("back", .ref ba), ("bodies", .ref bt), ("masks", .ref mt), ("body_at", .ref D5)])) := upd_same
    have lk17 : Lk x H16 (upd H17 x (.ins (cA K "Lattice") dx (putF "body_at" (.ref D5) (latFs D1 t tb [("back", .ref ba), ("bodies", .ref bt), ("masks", .ref mt)])))) := (Lk.of s17).trans .put
    have hD18 := (upd_ne (o := .ins (cA K "Lattice") dx (putF "body_at" (.ref D5) (latFs D1 t tb [("back", .ref ba), ("bodies", .ref bt), ("masks", .ref mt)]))) fun z => by rw [z, hx17] at hD5; cases hD5).trans hD5
    generalize upd H17 x _ = H18 at tabs8 hx18 lk17 hD18 ⊢
    have hmt18 := Lk.tup hx16 lk17 hmt16
    replace lk13 := lk13.trans lk17
    clear tabs7 hx17 hD5 s17 n5 lk17 hbt16 mB16 sb16 hmt16 hx16
    -- place_at
    have sm18 : SqT K H18 mt (zs4.map V.int) := .inl (.inl hmt18)
    refine ⟨_, rfl, x, _, dx, _, .ref mt, rfl, hx18, Y.kLattice, Y.nLattice _ (by decide), rfl, mt, _, rfl, sm18, fun D6 n6 => ?_⟩
    refine dcG_it (walk_enumT (K := K) (a := mt) (xs := zs4.map V.int)) (fun i H' => Same H18 H' ∧ ∃ kvs, kvs.length ≤ i ∧ H' D6 = some (.dK kvs)) ⟨same_new n6, [], Nat.le_refl _, upd_same⟩ (fun i H' _ e => same_sqt e.1 sm18) ?_ ?_
    · rintro i v H19 H20 hi ⟨s19, kvs, lk, hD⟩ ⟨T, x', y, rfl, nT, rfl, e1, e2⟩
      cases e1
      replace e2 : (zs4.map V.int)[i]? = some y := e2
      rw [List.getElem?_map] at e2
      obtain ⟨z, hz, rfl⟩ := Option.map_eq_some_iff.mp e2
      have il := (List.getElem?_eq_some_iff.mp hz).1
      have k1 := same_new (o := .tup [.int (i : Int), .int z]) nT
      have h2 := k1 _ _ hD
      replace s19 := s19.trans k1
      refine ⟨T, _, rfl, .inl (.inl upd_same), rfl, _, _, rfl, ?_⟩
      refine ⟨_, _, rfl, rfl, rfl, ?_⟩
      generalize upd H19 T _ = H20 at s19 h2 ⊢
      refine yes_ ?_
      refine ⟨_, rfl, _, rfl, _, ⟨_, .inl z, rfl, h2, by rw [sizeLine_eq]; omega, rfl⟩, fun x o e => (upd_ne (ne_of_none e n6)).trans (s19 _ _ e), _, ?_, upd_same⟩
      have := length_putK kvs (.inl z) (.int (i : Int))
      omega
    rintro H19 ⟨s19, kvs6, l6, hD6⟩
    have hx19 := s19 _ _ hx18
    refine ⟨_, rfl, x, _, dx, _, rfl, hx19, Y.kLattice, Y.nLattice _ (by decide), (by show 7 < 1000; decide), ?_⟩
    have tabs9 := tabs_put (o := .ins (cA K "Lattice") dx (putF "place_at" (.ref D6) (latFs D1 t tb [("back", .ref ba), ("bodies", .ref bt), ("masks", .ref mt), ("body_at", .ref D5)]))) (tabs_same tabs8 s19) hx19
    have hx20 : (upd H19 x (.ins (cA K "Lattice") dx (putF "place_at" (.ref D6) (latFs D1 t tb [("back", .ref ba), ("bodies", .ref bt), ("masks", .ref mt), ("body_at", .ref D5)])))) x = some (.ins (cA K "Lattice") dx (latFs D1 t tb [("back", .ref ba), ("bodies", .ref bt), ("masks", .ref mt), ("body_at", .ref D5), ("place_at", .ref D6)])) := upd_same
    have lk19 : Lk x H18 (upd H19 x (.ins (cA K "Lattice") dx (putF "place_at" (.ref D6) (latFs D1 t tb [("back", .ref ba), ("bodies", .ref bt), ("masks", .ref mt), ("body_at", .ref D5)])))) := (Lk.of s19).trans .put
    generalize upd H19 x _ = H20 at tabs9 hx20 lk19 ⊢
    have hD20 := Lk.dT hx18 lk19 hD18
    replace lk13 := lk13.trans lk19
    clear tabs8 hx19 hD6 s19 n6 lk19 hmt18 sm18 hx18 hD18 l6
    -- members
    have lk20 := lk2.trans lk13
    have fam20 := Lk.fam hx lk20 fam
    have hfm20 := Lk.lst hx lk20 hfm
    refine ⟨_, rfl, fm, rfl, ⟨frs, lst_sql' hfm20⟩, fun D7 n7 => ?_⟩
    refine lc_list (K := K) (a := fm) (xs := frs) (Pv := fun i H' => Same H20 H' ∧ ∃ acc ms', H' D7 = some (.lst acc) ∧ MR H' acc ms' ∧ ms'.length = i ∧ ∀ m ∈ ms', m ≠ [] ∧ m.length ≤ 60) ⟨same_new n7, [], [], upd_same, .nil, rfl, fun _ h => by cases h⟩ (fun i H' _ e => lst_sql' (e.1 _ _ hfm20)) ?_ ?_
    · rintro i v H21 hv ⟨s21, acc, ms', hD, ma, lms', ok⟩
      obtain ⟨F, hF, l, fus, rfl, -, hl, mF⟩ := pr_at fam20 hv
      have mFS := List.mem_of_getElem? hF
      have iF := (List.getElem?_eq_some_iff.mp hF).1
      have ff := fok F mFS
      have lF := pr_len mF
      have hl21 := s21 _ _ hl
      refine ⟨wipe_one, yes_ ?_⟩
      refine ⟨_, rfl, l, rfl, ⟨fus, lst_sql' hl21⟩, fun D8 n8 => ?_⟩
      refine lc_list (K := K) (a := l) (xs := fus) (Pv := fun j H' => Same H21 H' ∧ ∃ zs : List Nat, zs.length = j ∧ H' D8 = some (.lst (mv zs))) ⟨same_new n8, [], rfl, upd_same⟩ (fun i H' _ e => lst_sql' (e.1 _ _ hl21)) ?_ ?_
      · rintro j v H22 hv2 ⟨s22, zs', lz, hD8⟩
        obtain ⟨B, hB, b, rfl, hb⟩ := pr_at mF hv2
        obtain ⟨z, hz⟩ := hasB B (iB F mFS B (List.mem_of_getElem? hB))
        have jF := (List.getElem?_eq_some_iff.mp hB).1
        refine ⟨wipe_one, yes_ ?_⟩
        refine ⟨_, rfl, x, _, dx, _, _, rfl, s22 _ _ (s21 _ _ hx20), Y.kLattice, Y.nLattice _ (by decide), rfl, ?_⟩
        refine ⟨_, rfl, D5, .int (z : Int), rfl, by rw [← hz]; exact DGet.t (s22 _ _ (s21 _ _ hD20)) (by rw [key_mv]; exact s22 _ _ (s21 _ _ hb)), _, hD8, by rw [mv_len, sizeLine_eq]; omega, fun y o e => (upd_ne (ne_of_none e n8)).trans (s22 _ _ e), zs' ++ [z], by rw [List.length_append, lz]; rfl, ?_⟩
        rw [upd_same]
        unfold mv
        rw [List.map_append]
        rfl
      rintro H22 ⟨s22, zs', lz, hD8⟩
      have lz60 := ff.1
      refine ⟨_, zs'.map fun k : Nat => (k : Int), rfl, lst_sql' (by rw [← mv_ints]; exact hD8), fun ns p pm _ np => ?_⟩
      obtain ⟨B', eB, pB⟩ := sorted_any pm
      have lB' := pB.length_eq
      rw [eB]
      have k23 := s22.trans (same_new (o := .lst (mv B')) np)
      have hp : (upd H22 p (.lst (mv B'))) p = some (.lst (mv B')) := upd_same
      generalize upd H22 p _ = H23 at k23 hp ⊢
      refine ⟨p, _, rfl, .inl ⟨lst_sql' hp, fun t' nt' => ?_⟩⟩
      replace k23 := k23.trans (same_new (o := .tup (mv B')) nt')
      have ht' : (upd H23 t' (.tup (mv B'))) t' = some (.tup (mv B')) := upd_same
      generalize upd H23 t' _ = H24 at k23 ht' ⊢
      have hD24 := k23 _ _ hD
      have lacc := mr_len ma
      refine ⟨_, hD24, by rw [sizeLine_eq]; omega, fun y o e => (upd_ne (ne_of_none e n7)).trans (k23 _ _ (s21 _ _ e)), acc ++ [.ref t'], ms' ++ [B'], upd_same, ?_, by rw [List.length_append, lms']; rfl, fun m hm => ?_⟩
      · exact pr_snoc ((ma.same k23).upd hD24 fun _ z => by cases z) ⟨t', rfl, (upd_ne (ne_of ht' hD24 fun z => by cases z)).trans ht'⟩
      · rcases List.mem_append.mp hm with hm | hm
        · exact ok m hm
        · rcases List.mem_singleton.mp hm with rfl
          refine ⟨fun z => ?_, by omega⟩
          rw [z] at lB'
          exact ff.2.1 (List.eq_nil_of_length_eq_zero (by simp at lB'; omega))
    rintro H21 ⟨s21, acc, ms', hD7, ma, lms', ok⟩
    have tabs10 := tabs_same tabs9 s21
    -- families
    obtain ⟨bs, bs1, bs2, bs3⟩ := mr_bs ma
    have lbs : bs.length = ms'.length := by
      rw [← List.length_map (f := Prod.snd), bs2, List.length_map]
    refine ⟨_, rfl, ?_⟩
    refine ⟨D7, bs, rfl, by rw [bs1]; exact lst_sql' hD7, by omega, fun b hb => ?_, fun zs p pm _ np => ?_⟩
    · obtain ⟨t', m', h1, h2, h3, h4⟩ := bs3 b hb
      refine ⟨fun z => ?_, t', h2, ?_⟩
      · rw [h3] at z
        exact (ok m' h1).1 (List.map_eq_nil_iff.mp z)
      · rw [h3]
        unfold nums
        rw [← mv_ints]
        exact .inl (.inl h4)
    obtain ⟨Ms, pM, _, mMs⟩ := mr_perm bs2 bs3 pm
    have okM : ∀ m ∈ Ms, m.length ≤ 60 := fun m hm => (ok m (pM.mem_iff.mp hm)).2
    have lMs : Ms.length ≤ 60 := by
      have := pM.length_eq
      omega
    have k22 := s21.trans (same_new (o := .lst (zs.map Prod.fst)) np)
    have mMs2 := mMs.same (same_new (o := .lst (zs.map Prod.fst)) np)
    have hp : (upd H21 p (.lst (zs.map Prod.fst))) p = some (.lst (zs.map Prod.fst)) := upd_same
    have tabs11 := tabs_same tabs10 (same_new (o := .lst (zs.map Prod.fst)) np)
    generalize upd H21 p _ = H22 at k22 mMs2 hp tabs11 ⊢
    refine ⟨p, _, rfl, .inl ⟨lst_sql' hp, fun ft nft => ?_⟩⟩
    replace k22 := k22.trans (same_new (o := .tup (zs.map Prod.fst)) nft)
    replace mMs2 := mMs2.same (same_new (o := .tup (zs.map Prod.fst)) nft)
    have hft : (upd H22 ft (.tup (zs.map Prod.fst))) ft = some (.tup (zs.map Prod.fst)) := upd_same
    replace tabs11 := tabs_same tabs11 (same_new (o := .tup (zs.map Prod.fst)) nft)
    generalize upd H22 ft _ = H23 at k22 mMs2 hft tabs11 ⊢
    have lzs2 := mr_len mMs2
    generalize zs.map Prod.fst = fus at mMs2 hft lzs2
    have hx23 := k22 _ _ hx20
    refine ⟨_, rfl, x, _, dx, _, rfl, hx23, Y.kLattice, Y.nLattice _ (by decide), (by show 8 < 1000; decide), ?_⟩
    have tabs12 := tabs_put (o := .ins (cA K "Lattice") dx (putF "families" (.ref ft) (latFs D1 t tb [("back", .ref ba), ("bodies", .ref bt), ("masks", .ref mt), ("body_at", .ref D5), ("place_at", .ref D6)]))) tabs11 hx23
    have hx24 : (upd H23 x (.ins (cA K "Lattice") dx (putF "families" (.ref ft) (latFs D1 t tb [("back", .ref ba), ("bodies", .ref bt), ("masks", .ref mt), ("body_at", .ref D5), ("place_at", .ref D6)])))) x = some (.ins (cA K "Lattice") dx (latFs D1 t tb [("back", .ref ba), ("bodies", .ref bt), ("masks", .ref mt), ("body_at", .ref D5), ("place_at", .ref D6), ("families", .ref ft)])) := upd_same
    have lk24 : Lk x H20 (upd H23 x (.ins (cA K "Lattice") dx (putF "families" (.ref ft) (latFs D1 t tb [("back", .ref ba), ("bodies", .ref bt), ("masks", .ref mt), ("body_at", .ref D5), ("place_at", .ref D6)])))) := (Lk.of k22).trans .put
    have hft24 := (upd_ne (o := .ins (cA K "Lattice") dx (putF "families" (.ref ft) (latFs D1 t tb [("back", .ref ba), ("bodies", .ref bt), ("masks", .ref mt), ("body_at", .ref D5), ("place_at", .ref D6)]))) fun z => by rw [z, hx23] at hft; cases hft).trans hft
    have mMs24 : MR (upd H23 x (.ins (cA K "Lattice") dx (putF "families" (.ref ft) (latFs D1 t tb [("back", .ref ba), ("bodies", .ref bt), ("masks", .ref mt), ("body_at", .ref D5), ("place_at", .ref D6)])))) fus Ms := mMs2.upd hx23 fun _ z => by cases z
    generalize upd H23 x _ = H24 at tabs12 hx24 lk24 hft24 mMs24 ⊢
    replace lk13 := lk13.trans lk24
    have sf24 : SqT K H24 ft fus := .inl (.inl hft24)
    -- family_at
    refine ⟨_, rfl, x, _, dx, _, .ref ft, rfl, hx24, Y.kLattice, Y.nLattice _ (by decide), rfl, ft, fus, rfl, sf24, fun D9 n9 => ?_⟩
    refine walk_it (walk_enumT (K := K) (a := ft) (xs := fus)) (fun i H' => Same H24 H' ∧ ∃ kvs : List (L2.Key × V), kvs.length ≤ 60 * i ∧ H' D9 = some (.dK kvs)) ⟨same_new n9, [], Nat.zero_le _, upd_same⟩ (fun i H' _ e => same_sqt e.1 sf24) ?_ ?_
    · rintro i v H25 H26 hi ⟨s25, kvs, lk, hD⟩ ⟨T, x', y, rfl, nT, rfl, e1, e2⟩
      cases e1
      obtain ⟨B, hB, b, rfl, hb⟩ := pr_at mMs24 e2
      have l60 := okM B (List.mem_of_getElem? hB)
      have k1 := same_new (o := .tup [.int (i : Int), .ref b]) nT
      have hD2 := k1 _ _ hD
      replace s25 := s25.trans k1
      refine ⟨T, _, rfl, .inl (.inl upd_same), rfl, _, _, rfl, ?_⟩
      refine ⟨_, _, rfl, rfl, rfl, ?_⟩
      generalize upd H25 T _ = H26 at s25 hD2 ⊢
      refine yes_ ?_
      have sb26 : SqT K H26 b (mv B) := .inl (.inl (s25 _ _ hb))
      refine ⟨_, rfl, b, rfl, ⟨_, sb26⟩, ?_⟩
      refine walk_it (walk_tup (K := K) (a := b) (xs := mv B)) (fun j H' => Same H24 H' ∧ ∃ kvs : List (L2.Key × V), kvs.length ≤ 60 * i + j ∧ H' D9 = some (.dK kvs)) ⟨s25, kvs, lk, hD2⟩ (fun j H' _ e => .inl (.inl (e.1 _ _ hb))) ?_ ?_
      · rintro j v H27 _ hj ⟨s27, kvs1, lk1', hD27⟩ ⟨rfl, hv⟩
        obtain ⟨lj, rfl⟩ := mv_nth hv
        refine ⟨rfl, yes_ ?_⟩
        refine ⟨_, rfl, _, rfl, _, ⟨kvs1, .inl (B.getD j 0 : Int), rfl, hD27, by rw [sizeLine_eq]; omega, rfl⟩, fun y o e => (upd_ne (ne_of_none e n9)).trans (s27 _ _ e), _, ?_, upd_same⟩
        have := length_putK kvs1 (.inl (B.getD j 0 : Int)) (.int (i : Int))
        omega
      · rintro H27 ⟨s27, kvs1, lk1', hD27⟩
        rw [mv_len] at lk1'
        exact ⟨s27, kvs1, by omega, hD27⟩
    rintro H25 ⟨s25, kvs, lk, hD⟩
    have hx25 := s25 _ _ hx24
    refine ⟨_, rfl, x, _, dx, _, rfl, hx25, Y.kLattice, Y.nLattice _ (by decide), (by show 9 < 1000; decide), ?_⟩
    have lkE := (lk13.trans (.of s25)).trans (Lk.put (x := x) (o := .ins (cA K "Lattice") dx (putF "family_at" (.ref D9) (latFs D1 t tb [("back", .ref ba), ("bodies", .ref bt), ("masks", .ref mt), ("body_at", .ref D5), ("place_at", .ref D6), ("families", .ref ft)]))))
    refine q _ (lk2.trans lkE) (lat lkE (rest := [("back", .ref ba), ("bodies", .ref bt), ("masks", .ref mt), ("body_at", .ref D5), ("place_at", .ref D6), ("families", .ref ft), ("family_at", .ref D9)]) upd_same) (tabs_put (tabs_same tabs12 s25) hx25)
end
end K08


set_option Elab.async false
set_option linter.all false
/-! the table of a closed list of moves is a group's; the unit stands first in an ascending list -/
namespace GT
section
variable {n : Nat} {M : List (List Nat)}
/-- a finite list of moves that holds the unit and all products -/
structure Mvs (n : Nat) (M : List (List Nat)) : Prop where
  nd : M.Nodup
  pm : ∀ m ∈ M, Pm n m
  one : at_ M 0 = List.range n
  pos : 0 < M.length
  mul : ∀ x ∈ M, ∀ y ∈ M, comp x y ∈ M
variable (h : Mvs n M)
include h
theorem Mvs.tb_lt {a b : Nat} (ha : a < M.length) (hb : b < M.length) : tb M a b < M.length := ix_lt (h.mul _ (at_mem ha) _ (at_mem hb))
theorem Mvs.at_tb {a b : Nat} (ha : a < M.length) (hb : b < M.length) : at_ M (tb M a b) = comp (at_ M a) (at_ M b) := at_ix (h.mul _ (at_mem ha) _ (at_mem hb))
theorem Mvs.oner {a : Nat} (ha : a < M.length) : tb M a 0 = a := by
  unfold tb
  rw [h.one, comp_unit (h.pm _ (at_mem ha)).len, ix_at h.nd ha]
theorem Mvs.onel {a : Nat} (ha : a < M.length) : tb M 0 a = a := by
  unfold tb
  rw [h.one, unit_comp (h.pm _ (at_mem ha)).lt, ix_at h.nd ha]
theorem Mvs.assoc {a b c : Nat} (ha : a < M.length) (hb : b < M.length) (hc : c < M.length) : tb M (tb M a b) c = tb M a (tb M b c) := by
  unfold tb
  have e1 := h.at_tb ha hb
  have e2 := h.at_tb hb hc
  unfold tb at e1 e2
  rw [e1, e2, comp_assoc (by rw [(h.pm _ (at_mem hb)).len]; exact (h.pm _ (at_mem hc)).lt)]
theorem Mvs.inv1 {a : Nat} (ha : a < M.length) : ∃ b, b < M.length ∧ tb M a b = 0 := by
  have nd : ((List.range M.length).map (tb M a)).Nodup := by
    refine List.pairwise_iff_getElem.mpr fun i j hi hj lt e => ?_
    rw [List.length_map, List.length_range] at hi hj
    rw [List.getElem_map, List.getElem_map, List.getElem_range, List.getElem_range] at e
    have e2 : comp (at_ M a) (at_ M i) = comp (at_ M a) (at_ M j) := by rw [← h.at_tb ha hi, ← h.at_tb ha hj, e]
    have := at_inj h.nd hi hj (comp_left (h.pm _ (at_mem ha)) (h.pm _ (at_mem hi)) (h.pm _ (at_mem hj)) e2)
    omega
  have sub : ∀ z ∈ (List.range M.length).map (tb M a), z ∈ List.range M.length := fun z hz => by
    obtain ⟨i, hi, rfl⟩ := List.mem_map.mp hz
    exact List.mem_range.mpr (h.tb_lt ha (List.mem_range.mp hi))
  have all : 0 ∈ (List.range M.length).map (tb M a) := by
    refine Classical.byContradiction fun no => ?_
    have l := sub_len (a := 0 :: (List.range M.length).map (tb M a)) (b := List.range M.length) (List.nodup_cons.mpr ⟨no, nd⟩) fun z hz => by
      rcases List.mem_cons.mp hz with rfl | hz
      · exact List.mem_range.mpr h.pos
      · exact sub z hz
    rw [List.length_cons, List.length_map] at l
    omega
  obtain ⟨b, hb, e⟩ := List.mem_map.mp all
  exact ⟨b, List.mem_range.mp hb, e⟩
theorem Mvs.gp : Gp M.length (tb M) where
  pos := h.pos
  lt := h.tb_lt
  assoc := h.assoc
  onel := h.onel
  oner := h.oner
  inv := fun {a} ha => by
    obtain ⟨b, hb, e1⟩ := h.inv1 ha
    obtain ⟨c, hc, e2⟩ := h.inv1 hb
    refine ⟨b, hb, e1, ?_⟩
    have := h.assoc ha hb hc
    rw [e1, e2, h.onel hc, h.oner ha] at this
    rw [← this]
    exact e2
end
/-- as whole numbers -/
def toI (m : List Nat) : List Int := m.map fun k : Nat => (k : Int)
theorem toI_inj {a b : List Nat} (h : toI a = toI b) : a = b := by
  unfold toI at h
  exact List.map_inj_right (fun x y e => by omega) |>.mp h
/-- the unit is the least move -/
theorem unit_le {n : Nat} {m : List Nat} (pm : Pm n m) : toI (List.range n) ≤ toI m := by
  have key : ∀ (k : Nat) (r : List Nat), (∀ x ∈ r, k ≤ x) → r.Nodup → toI (List.range' k r.length) ≤ toI r := by
    intro k r
    induction r generalizing k with
    | nil => intro _ _; exact List.le_refl _
    | cons x r ih =>
      intro lo nd
      rw [List.length_cons, List.range'_succ]
      unfold toI
      rw [List.map_cons, List.map_cons]
      have kx := lo x List.mem_cons_self
      rcases Nat.lt_or_ge k x with lt | ge
      · exact List.le_of_lt (List.cons_lt_cons_iff.mpr (.inl (by omega)))
      · obtain rfl : k = x := Nat.le_antisymm kx ge
        obtain ⟨n1, n2⟩ := List.nodup_cons.mp nd
        refine List.cons_le_cons_iff.mpr (.inr ⟨rfl, ih (k + 1) (fun y hy => ?_) n2⟩)
        have := lo y (List.mem_cons_of_mem _ hy)
        have ne : y ≠ k := fun e => n1 (by rw [← e]; exact hy)
        omega
  have := key 0 m (fun _ _ => Nat.zero_le _) pm.nd
  rwa [pm.len, ← List.range_eq_range'] at this
/-- an ascending list, by what it holds -/
theorem asc_uniq : ∀ {A B : List (List Nat)}, A.Pairwise (fun x y => toI x ≤ toI y) → B.Pairwise (fun x y => toI x ≤ toI y) → A.Perm B → A = B
  | [], B, _, _, p => (List.nil_perm.mp p).symm
  | x :: A, [], _, _, p => absurd (List.perm_nil.mp p) (by simp)
  | x :: A, y :: B, ha, hb, p => by
    obtain ⟨a1, a2⟩ := List.pairwise_cons.mp ha
    obtain ⟨b1, b2⟩ := List.pairwise_cons.mp hb
    have exy : x = y := by
      have h1 : x ∈ y :: B := p.mem_iff.mp List.mem_cons_self
      have h2 : y ∈ x :: A := p.mem_iff.mpr List.mem_cons_self
      rcases List.mem_cons.mp h1 with e | h1
      · exact e
      rcases List.mem_cons.mp h2 with e | h2
      · exact e.symm
      exact toI_inj (List.le_antisymm (a1 y h2) (b1 x h1))
    subst exy
    rw [asc_uniq a2 b2 (List.Perm.cons_inv p)]
end GT

set_option Elab.async false
set_option linter.all false
/-! a bound on how many bodies a group has -/
namespace GT
/-- the work of a walk: what is to be done, and the mask of what is found -/
def addS (t : Nat → Nat → Nat) (e : Nat) (p : List Nat × Nat) (s : Nat) : List Nat × Nat := if p.2.testBit (t e s) then p else (t e s :: p.1, p.2 ||| 2 ^ (t e s))
def goS (t : Nat → Nat → Nat) (gs : List Nat) : Nat → List Nat → Nat → Nat
  | 0, _, m => m
  | _ + 1, [], m => m
  | f + 1, e :: q, m => goS t gs f (gs.foldl (addS t e) (q, m)).1 (gs.foldl (addS t e) (q, m)).2
def maskS (t : Nat → Nat → Nat) (N : Nat) (gs : List Nat) : Nat := goS t gs (N + 1) [0] 1
def bodyS (t : Nat → Nat → Nat) (N : Nat) (gs : List Nat) : List Nat := (List.range N).filter (maskS t N gs).testBit
section
variable {N : Nat} {t : Nat → Nat → Nat} {B : List Nat}
theorem addS_in (sb : Sg N t B) {e s : Nat} (he : e ∈ B) (hs : s ∈ B) {p : List Nat × Nat} (h : (∀ x ∈ p.1, x ∈ B) ∧ ∀ x, p.2.testBit x = true → x ∈ B) : (∀ x ∈ (addS t e p s).1, x ∈ B) ∧ ∀ x, (addS t e p s).2.testBit x = true → x ∈ B := by
  unfold addS
  split
  · exact h
  · refine ⟨fun x hx => ?_, fun x hx => ?_⟩
    · rcases List.mem_cons.mp hx with rfl | hx
      · exact sb.mul e he s hs
      · exact h.1 x hx
    · rw [Nat.testBit_or, Bool.or_eq_true] at hx
      rcases hx with hx | hx
      · exact h.2 x hx
      · rw [Nat.testBit_two_pow, decide_eq_true_iff] at hx
        rw [← hx]
        exact sb.mul e he s hs
theorem foldS_in (sb : Sg N t B) {e : Nat} (he : e ∈ B) : ∀ (gs : List Nat), (∀ s ∈ gs, s ∈ B) → ∀ p : List Nat × Nat, ((∀ x ∈ p.1, x ∈ B) ∧ ∀ x, p.2.testBit x = true → x ∈ B) → (∀ x ∈ (gs.foldl (addS t e) p).1, x ∈ B) ∧ ∀ x, (gs.foldl (addS t e) p).2.testBit x = true → x ∈ B
  | [], _, p, h => h
  | s :: gs, hs, p, h => by
    rw [List.foldl_cons]
    exact foldS_in sb he gs (fun x hx => hs x (List.mem_cons_of_mem _ hx)) _ (addS_in sb he (hs s List.mem_cons_self) h)
theorem goS_in (sb : Sg N t B) {gs : List Nat} (hs : ∀ s ∈ gs, s ∈ B) : ∀ (f : Nat) (q : List Nat) (m : Nat), (∀ x ∈ q, x ∈ B) → (∀ x, m.testBit x = true → x ∈ B) → ∀ x, (goS t gs f q m).testBit x = true → x ∈ B
  | 0, _, _, _, hm => hm
  | _ + 1, [], _, _, hm => hm
  | f + 1, e :: q, m, hq, hm => by
    obtain ⟨a, b⟩ := foldS_in sb (hq e List.mem_cons_self) gs hs (q, m) ⟨fun x hx => hq x (List.mem_cons_of_mem _ hx), hm⟩
    exact goS_in sb hs f _ _ a b
theorem maskS_in (sb : Sg N t B) {gs : List Nat} (hs : ∀ s ∈ gs, s ∈ B) : ∀ x, (maskS t N gs).testBit x = true → x ∈ B :=
  goS_in sb hs _ _ _ (fun x hx => by rw [List.mem_singleton.mp hx]; exact sb.one) fun x hx => by
    have : x = 0 := by
      have h1 : (2 ^ 0).testBit x = true := hx
      rw [Nat.testBit_two_pow, decide_eq_true_iff] at h1
      omega
    rw [this]
    exact sb.one
theorem asc_eq : ∀ {A B : List Nat}, A.Pairwise (· < ·) → B.Pairwise (· < ·) → (∀ x, x ∈ A ↔ x ∈ B) → A = B
  | [], [], _, _, _ => rfl
  | [], y :: _, _, _, m => absurd ((m y).mpr List.mem_cons_self) (by simp)
  | x :: _, [], _, _, m => absurd ((m x).mp List.mem_cons_self) (by simp)
  | x :: A, y :: B, ha, hb, m => by
    obtain ⟨a1, a2⟩ := List.pairwise_cons.mp ha
    obtain ⟨b1, b2⟩ := List.pairwise_cons.mp hb
    have exy : x = y := by
      rcases List.mem_cons.mp ((m x).mp List.mem_cons_self) with e | h1
      · exact e
      rcases List.mem_cons.mp ((m y).mpr List.mem_cons_self) with e | h2
      · exact e.symm
      have := a1 y h2
      have := b1 x h1
      omega
    subst exy
    rw [asc_eq a2 b2 fun z => ?_]
    constructor
    · intro hz
      rcases List.mem_cons.mp ((m z).mp (List.mem_cons_of_mem _ hz)) with e | h
      · have := a1 z hz
        omega
      · exact h
    · intro hz
      rcases List.mem_cons.mp ((m z).mpr (List.mem_cons_of_mem _ hz)) with e | h
      · have := b1 z hz
        omega
      · exact h
/-- some lists of makers, closed under adding one more -/
def chkS (t : Nat → Nat → Nat) (N : Nat) (Ls : List (List Nat)) : Bool :=
  (Ls.any fun gs => gs == []) && Ls.all fun gs => (gs.all fun s => (maskS t N gs).testBit s) && (List.range N).all fun g => (maskS t N gs).testBit g || (Ls.any fun hs => maskS t N hs == maskS t N (gs ++ [g])) && ((maskS t N (gs ++ [g])).testBit g && (List.range N).all fun x => !(maskS t N gs).testBit x || (maskS t N (gs ++ [g])).testBit x)
theorem chkS_all {Ls : List (List Nat)} (c : chkS t N Ls = true) (sb : Sg N t B) : ∃ gs ∈ Ls, B = bodyS t N gs := by
  unfold chkS at c
  rw [Bool.and_eq_true] at c
  obtain ⟨c0, c1⟩ := c
  obtain ⟨gs0, h0, e0⟩ := List.any_eq_true.mp c0
  have e0' : gs0 = [] := eq_of_beq e0
  subst e0'
  -- a list of makers within B, which misses as few as possible
  have key : ∀ (k : Nat) (gs : List Nat), gs ∈ Ls → (∀ x, (maskS t N gs).testBit x = true → x ∈ B) → (B.filter fun x => !(maskS t N gs).testBit x).length ≤ k → ∃ gs ∈ Ls, (∀ x, (maskS t N gs).testBit x = true → x ∈ B) ∧ ∀ x ∈ B, (maskS t N gs).testBit x = true := by
    intro k
    induction k with
    | zero =>
      intro gs hg hin hk
      refine ⟨gs, hg, hin, fun x hx => ?_⟩
      cases z : (maskS t N gs).testBit x with
      | true => rfl
      | false =>
        have mf : x ∈ B.filter fun x => !(maskS t N gs).testBit x := List.mem_filter.mpr ⟨hx, by rw [z]; rfl⟩
        have := List.length_pos_of_mem mf
        omega
    | succ k ih =>
      intro gs hg hin hk
      by_cases all : ∀ x ∈ B, (maskS t N gs).testBit x = true
      · exact ⟨gs, hg, hin, all⟩
      · obtain ⟨g, hgB, ng⟩ : ∃ g ∈ B, (maskS t N gs).testBit g = false := by
          refine Classical.byContradiction fun no => all fun x hx => ?_
          cases z : (maskS t N gs).testBit x with
          | true => rfl
          | false => exact absurd ⟨x, hx, z⟩ no
        have gN := sb.lt g hgB
        have cg := List.all_eq_true.mp c1 gs hg
        rw [Bool.and_eq_true] at cg
        have own : ∀ s ∈ gs, s ∈ B := fun s hs => hin s (List.all_eq_true.mp cg.1 s hs)
        have c2 := List.all_eq_true.mp cg.2 g (List.mem_range.mpr gN)
        rw [ng, Bool.false_or, Bool.and_eq_true, Bool.and_eq_true] at c2
        obtain ⟨c3, c4, c5⟩ := c2
        obtain ⟨hs, hh, eh⟩ := List.any_eq_true.mp c3
        have eh' : maskS t N hs = maskS t N (gs ++ [g]) := eq_of_beq eh
        have sub : ∀ x, x < N → (maskS t N gs).testBit x = true → (maskS t N hs).testBit x = true := fun x hx hm => by
          have := List.all_eq_true.mp c5 x (List.mem_range.mpr hx)
          rw [hm] at this
          rw [eh']
          simpa using this
        have hin' : ∀ x, (maskS t N hs).testBit x = true → x ∈ B := by
          rw [eh']
          refine maskS_in sb fun s hs => ?_
          rcases List.mem_append.mp hs with hs | hs
          · exact own s hs
          · rw [List.mem_singleton.mp hs]
            exact hgB
        refine ih hs hh hin' ?_
        have nd := asc_nodup sb.up
        have l := sub_len (a := g :: B.filter fun x => !(maskS t N hs).testBit x) (b := B.filter fun x => !(maskS t N gs).testBit x) (List.nodup_cons.mpr ⟨fun z => ?_, nd.sublist List.filter_sublist⟩) fun x hx => ?_
        · rw [List.length_cons] at l
          omega
        · have := (List.mem_filter.mp z).2
          rw [eh', c4] at this
          cases this
        · rcases List.mem_cons.mp hx with rfl | hx
          · exact List.mem_filter.mpr ⟨hgB, by rw [ng]; rfl⟩
          · obtain ⟨xB, nx⟩ := List.mem_filter.mp hx
            refine List.mem_filter.mpr ⟨xB, ?_⟩
            cases z : (maskS t N gs).testBit x with
            | false => rfl
            | true =>
              rw [sub x (sb.lt x xB) z] at nx
              cases nx
  have start : ∀ x, (maskS t N []).testBit x = true → x ∈ B := maskS_in sb fun s hs => by cases hs
  obtain ⟨gs, hg, h1, h2⟩ := key _ [] h0 start (Nat.le_refl _)
  refine ⟨gs, hg, asc_eq sb.up (List.pairwise_lt_range.filter _) fun x => ?_⟩
  constructor
  · intro hx
    exact List.mem_filter.mpr ⟨List.mem_range.mpr (sb.lt x hx), h2 x hx⟩
  · intro hx
    exact h1 x (List.mem_filter.mp hx).2
/-- how many bodies there are at most -/
theorem chkS_few {Ls : List (List Nat)} (c : chkS t N Ls = true) (L : List (List Nat)) (nd : L.Nodup) (h : ∀ B ∈ L, Sg N t B) : L.length ≤ Ls.length := by
  have := sub_len (b := Ls.map (bodyS t N)) nd fun B hB => by
    obtain ⟨gs, hg, e⟩ := chkS_all c (h B hB)
    exact List.mem_map.mpr ⟨gs, hg, e.symm⟩
  rwa [List.length_map] at this
end
/-- a table in one number, five bits a place -/
def tP (T : Nat) (i j : Nat) : Nat := (T >>> (5 * (32 * i + j))) % 32
theorem sg_congr {N : Nat} {t t' : Nat → Nat → Nat} (e : ∀ i, i < N → ∀ j, j < N → t i j = t' i j) {B : List Nat} (h : Sg N t B) : Sg N t' B :=
  ⟨h.up, h.lt, h.one, fun x hx y hy => by rw [← e x (h.lt x hx) y (h.lt y hy)]; exact h.mul x hx y hy⟩
end GT

set_option Elab.async false
set_option linter.all false
set_option maxRecDepth 100000
set_option maxHeartbeats 0
/-! the groups of the menu (written by k08g.py) -/
namespace GT
/-- a group, told: its places, its makers, its moves, its table, makers of its bodies -/
structure Bs where
  n : Nat
  ms : List (List Nat)
  G : List (List Nat)
  T : Nat
  Ls : List (List Nat)
def Bs.ok (b : Bs) : Bool :=
  (decide b.G.Nodup && (decide (b.G.headD [] = List.range b.n) && decide (0 < b.G.length))) &&
  ((b.G.all fun m => decide (m.length = b.n) && (decide m.Nodup && m.all fun k => decide (k < b.n))) &&
  ((b.G.all fun x => b.G.all fun y => decide (comp x y ∈ b.G)) &&
  (((List.range b.G.length).all fun i => (List.range b.G.length).all fun j => decide (tP b.T i j = tb b.G i j)) &&
  (chkS (tP b.T) b.G.length b.Ls && ((b.ms.all fun m => decide (m ∈ b.G)) && (decide (b.G.length ≤ 24) && decide (b.Ls.length ≤ 60)))))))
def b0 : Bs := ⟨1, [], [[0]], 0, [[]]⟩
def b1 : Bs := ⟨2, [[1, 0]], [[0, 1], [1, 0]], 1461501637330902918203684832716283019655932543008, [[], [1]]⟩
def b2 : Bs := ⟨3, [[1, 2, 0]], [[0, 1, 2], [1, 2, 0], [2, 0, 1]], 2191522698854853744537292270529960469582374839938020739572091198315280678165063762719836736812222496, [[], [1]]⟩
def b3 : Bs := ⟨4, [[1, 2, 3, 0]], [[0, 1, 2, 3], [1, 2, 3, 0], [2, 3, 0, 1], [3, 0, 1, 2]], 207792948754683390897453256406722528809543938170278676064560641334311613834455027471866467625046994410979275792759328518256530368437353467452237908000, [[], [1], [2]]⟩
def b4 : Bs := ⟨4, [[1, 0, 2, 3], [0, 1, 3, 2]], [[0, 1, 2, 3], [0, 1, 3, 2], [1, 0, 2, 3], [1, 0, 3, 2]], 3405827668394747524437322577704344439571720573717684875509916873719275350447332791349786445274143762638286287254454735699128105244853765094261229600, [[], [1], [2], [3], [1, 2]]⟩
def b5 : Bs := ⟨3, [[1, 0, 2], [1, 2, 0]], [[0, 1, 2], [0, 2, 1], [1, 0, 2], [1, 2, 0], [2, 0, 1], [2, 1, 0]], 7450285882102020137952077763253303598132389934735581382344194659864664845719009626513719247876290831135393635076326464117510608315028653348299096551282038646891118453350805918065591903716355120734228027761946356383048589049351284908457903926642720, [[], [1], [2], [3], [5], [1, 2]]⟩
def b6 : Bs := ⟨5, [[1, 0, 2, 3, 4], [0, 1, 3, 4, 2]], [[0, 1, 2, 3, 4], [0, 1, 3, 4, 2], [0, 1, 4, 2, 3], [1, 0, 2, 3, 4], [1, 0, 3, 4, 2], [1, 0, 4, 2, 3]], 224206417513533645287616159786757041178731882714683010507588362536756744877582029892769881298168106374287337372154385203770881679478282221325196202666779464628229742864770792264979817706612763504336775572359800403525780553722269111020453120899647520, [[], [1], [3], [4]]⟩
def b7 : Bs := ⟨5, [[1, 2, 3, 4, 0]], [[0, 1, 2, 3, 4], [1, 2, 3, 4, 0], [2, 3, 4, 0, 1], [3, 4, 0, 1, 2], [4, 0, 1, 2, 3]], 14655891496462836723279286419618200220623918788013140560141444621276145027984014862936577783714685521705664966502295151553513225365119116902659533682197361765207076522454203872046735254964490916169760, [[], [1]]⟩
def b8 : Bs := ⟨4, [[1, 2, 3, 0], [0, 3, 2, 1]], [[0, 1, 2, 3], [0, 3, 2, 1], [1, 0, 3, 2], [1, 2, 3, 0], [2, 1, 0, 3], [2, 3, 0, 1], [3, 0, 1, 2], [3, 2, 1, 0]], 16295646029783969283280994422008287632980316837433197093847512313296264299194294069597742487984329727704188349244735084436154343368149083913697662565246518473328960470575217286624745204355694439436128918884506659504641885401818743096918378985050857891729092266444898757936040155292579659050305888053458495894310581629531725517488713102802200660000, [[], [1], [2], [3], [4], [5], [7], [1, 2], [1, 4], [2, 5]]⟩
def b9 : Bs := ⟨8, [[1, 2, 3, 0, 5, 6, 7, 4], [4, 7, 6, 5, 2, 1, 0, 3]], [[0, 1, 2, 3, 4, 5, 6, 7], [1, 2, 3, 0, 5, 6, 7, 4], [2, 3, 0, 1, 6, 7, 4, 5], [3, 0, 1, 2, 7, 4, 5, 6], [4, 7, 6, 5, 2, 1, 0, 3], [5, 4, 7, 6, 3, 2, 1, 0], [6, 5, 4, 7, 0, 3, 2, 1], [7, 6, 5, 4, 1, 0, 3, 2]], 1024653362744151263378174343819794484581034973166874755138538036725794437576939071392594503462792692118437439138372681859725582783116534868929257464011942538743243727745308904663963450707127191649857783598380166761481959234809312503283677983982821598284170063983061195970185831196512610429255825039258170062255654911852631799505611737659879421216800, [[], [1], [2], [4], [5], [1, 4]]⟩
def b10 : Bs := ⟨6, [[1, 0, 2, 3, 4, 5], [0, 1, 3, 4, 5, 2]], [[0, 1, 2, 3, 4, 5], [0, 1, 3, 4, 5, 2], [0, 1, 4, 5, 2, 3], [0, 1, 5, 2, 3, 4], [1, 0, 2, 3, 4, 5], [1, 0, 3, 4, 5, 2], [1, 0, 4, 5, 2, 3], [1, 0, 5, 2, 3, 4]], 994098000802364308324456590376193502548123238396067902428830070723117157775868605118816309687457500921713305447895092868523027974629120106388751953215455395514810495785563875115794140794098424648797924261431120394686875308749295166816497328507400039952031904378345154965290540281092684110198868932459804985346103025598082289419292695932666449594400, [[], [1], [2], [4], [5], [6], [1, 4], [2, 4]]⟩
def b11 : Bs := ⟨6, [[1, 0, 2, 3, 4, 5], [0, 1, 3, 2, 4, 5], [0, 1, 2, 3, 5, 4]], [[0, 1, 2, 3, 4, 5], [0, 1, 2, 3, 5, 4], [0, 1, 3, 2, 4, 5], [0, 1, 3, 2, 5, 4], [1, 0, 2, 3, 4, 5], [1, 0, 2, 3, 5, 4], [1, 0, 3, 2, 4, 5], [1, 0, 3, 2, 5, 4]], 16295646029783969283280994422008287632980316836376339645009972011673077498795670596313538227661609967447604310291387512916008830130376016424114027959633591485447087706965595009872806587811426935730611482287180089245897429970041206043880034502797586945807317826510594393291282251469324825474073428172842263870221234259715085250837151169271002400800, [[], [1], [2], [3], [4], [5], [6], [7], [1, 2], [1, 4], [1, 6], [2, 4], [2, 5], [3, 4], [3, 5], [1, 2, 4]]⟩
def b12 : Bs := ⟨8, [[1, 2, 3, 4, 5, 6, 7, 0]], [[0, 1, 2, 3, 4, 5, 6, 7], [1, 2, 3, 4, 5, 6, 7, 0], [2, 3, 4, 5, 6, 7, 0, 1], [3, 4, 5, 6, 7, 0, 1, 2], [4, 5, 6, 7, 0, 1, 2, 3], [5, 6, 7, 0, 1, 2, 3, 4], [6, 7, 0, 1, 2, 3, 4, 5], [7, 0, 1, 2, 3, 4, 5, 6]], 3014694516307630690909017705194968120853576666788132576336688814001548669818964360806185158784942197186978905093408284715622607308144125137357705638399998871027531672566752095366074344663874211601183643132892405355486185011201368552947926470261805325477250838063243704139742893856522464459879911461872246424006532081479476469341339912202616114874400, [[], [1], [2], [4]]⟩
def b13 : Bs := ⟨6, [[1, 2, 0, 3, 4, 5], [0, 1, 2, 4, 5, 3]], [[0, 1, 2, 3, 4, 5], [0, 1, 2, 4, 5, 3], [0, 1, 2, 5, 3, 4], [1, 2, 0, 3, 4, 5], [1, 2, 0, 4, 5, 3], [1, 2, 0, 5, 3, 4], [2, 0, 1, 3, 4, 5], [2, 0, 1, 4, 5, 3], [2, 0, 1, 5, 3, 4]], 93807277019118456224640587023517355096215633472923732714620812529974486536212715129712131194714801883298941016554175890072995955743762175872195834862917457952995616165570313473089032300574757480375839724240929536013450157461948374849584941574950163740293953943589281694255369543331403048430443846284708328085929573672491000818419894117665756869606902712914569779759925837521288565631935650308655136, [[], [1], [3], [4], [5], [1, 3]]⟩
def b14 : Bs := ⟨5, [[1, 2, 3, 4, 0], [0, 4, 3, 2, 1]], [[0, 1, 2, 3, 4], [0, 4, 3, 2, 1], [1, 0, 4, 3, 2], [1, 2, 3, 4, 0], [2, 1, 0, 4, 3], [2, 3, 4, 0, 1], [3, 2, 1, 0, 4], [3, 4, 0, 1, 2], [4, 0, 1, 2, 3], [4, 3, 2, 1, 0]], 35642663597514338805301837317805144912942330564440245284089549944380195197387316116555031871269504833709179099331325071322863336964774753272535136444757421796868079997906952166359819127154554683129604458836441408190706517548898121766604299740371544397750690995558275992726299971112311277275504738127444482016142094652120133904332719589138701935559700718764625682881384027530071722059364282338271496820334227594429092761589434344428557760018352160, [[], [1], [2], [3], [4], [6], [9], [1, 2]]⟩
def b15 : Bs := ⟨4, [[1, 2, 0, 3], [1, 0, 3, 2]], [[0, 1, 2, 3], [0, 2, 3, 1], [0, 3, 1, 2], [1, 0, 3, 2], [1, 2, 0, 3], [1, 3, 2, 0], [2, 0, 1, 3], [2, 1, 3, 0], [2, 3, 0, 1], [3, 0, 2, 1], [3, 1, 0, 2], [3, 2, 1, 0]], 77959441786881821772602372572018275730831429065075392376941540645312196706103382523480650506791332719263451052972976837330448242079936809741762512845268426693210516285424018686368571676616554606126118455901682758725126570933591134189234614693430064305564304764961345454475621716156856179003382462019902221982213169195159217147647088617590299309789172818894694856202474432597744299354505798302898184606234252414603671006002007327882041777960593687651878753784790404642605465151937058197434587588138198575249801418254317539817865027750198998304800, [[], [1], [3], [4], [5], [7], [8], [11], [1, 3], [3, 8]]⟩
def b16 : Bs := ⟨5, [[1, 0, 2, 3, 4], [1, 2, 0, 3, 4], [0, 1, 2, 4, 3]], [[0, 1, 2, 3, 4], [0, 1, 2, 4, 3], [0, 2, 1, 3, 4], [0, 2, 1, 4, 3], [1, 0, 2, 3, 4], [1, 0, 2, 4, 3], [1, 2, 0, 3, 4], [1, 2, 0, 4, 3], [2, 0, 1, 3, 4], [2, 0, 1, 4, 3], [2, 1, 0, 3, 4], [2, 1, 0, 4, 3]], 77959441786881821772602372572018275730831429056707568586431347429541382076349550776071203713273850210250791812003973261708686920390693682083896740485636071595122377729667961211264645410192497808825556909074420577751054442953542714091114433602401453808591043063551875458535778929248570151446103429562321556366986859309878220768577471280637370356785762430895057540554586307880229198410715651425467008399235459818562368740509891293387124722932928865519645239557229738938814368463739224285523262276821941965431380300242221932112174441429117033351200, [[], [1], [2], [3], [4], [5], [6], [7], [10], [11], [1, 2], [1, 4], [1, 10], [2, 4], [2, 5], [3, 5]]⟩
def b17 : Bs := ⟨7, [[1, 2, 0, 3, 4, 5, 6], [0, 2, 1, 4, 5, 6, 3]], [[0, 1, 2, 3, 4, 5, 6], [0, 1, 2, 5, 6, 3, 4], [0, 2, 1, 4, 5, 6, 3], [0, 2, 1, 6, 3, 4, 5], [1, 0, 2, 4, 5, 6, 3], [1, 0, 2, 6, 3, 4, 5], [1, 2, 0, 3, 4, 5, 6], [1, 2, 0, 5, 6, 3, 4], [2, 0, 1, 3, 4, 5, 6], [2, 0, 1, 5, 6, 3, 4], [2, 1, 0, 4, 5, 6, 3], [2, 1, 0, 6, 3, 4, 5]], 2346015821120960445828954335321155126707992692813705005998400811338504829498051829490052650521186386920416315392236308255315578614378934950423971913469807060519432862870231251199918208858078327755480680482045495078471990721132574113477432539999318350909387286032968333624725330846227463829517873599474491502551522590332628482239865753750486945020002112371720680846598861268235018054672899788803752813088927451045338049394022189962221349817955315274041402514103044080528063142083145128405801107799463717434437973188658140677843173651936466767546400, [[], [1], [2], [4], [6], [7], [10], [2, 4]]⟩
def b18 : Bs := ⟨7, [[1, 2, 3, 4, 5, 6, 0]], [[0, 1, 2, 3, 4, 5, 6], [1, 2, 3, 4, 5, 6, 0], [2, 3, 4, 5, 6, 0, 1], [3, 4, 5, 6, 0, 1, 2], [4, 5, 6, 0, 1, 2, 3], [5, 6, 0, 1, 2, 3, 4], [6, 0, 1, 2, 3, 4, 5]], 53659054929250569155097761957973000569136457017904855259351960348498959104800449980547768933893042108402445625212985532439649804014011815597273290937574261452328007051299404416037156167284297479409006255259089982350861639307205207826244374289789006351398519836789121295249954751292437842972626749472, [[], [1]]⟩
def b19 : Bs := ⟨8, [[1, 2, 3, 4, 5, 6, 7, 0], [0, 7, 6, 5, 4, 3, 2, 1]], [[0, 1, 2, 3, 4, 5, 6, 7], [0, 7, 6, 5, 4, 3, 2, 1], [1, 0, 7, 6, 5, 4, 3, 2], [1, 2, 3, 4, 5, 6, 7, 0], [2, 1, 0, 7, 6, 5, 4, 3], [2, 3, 4, 5, 6, 7, 0, 1], [3, 2, 1, 0, 7, 6, 5, 4], [3, 4, 5, 6, 7, 0, 1, 2], [4, 3, 2, 1, 0, 7, 6, 5], [4, 5, 6, 7, 0, 1, 2, 3], [5, 4, 3, 2, 1, 0, 7, 6], [5, 6, 7, 0, 1, 2, 3, 4], [6, 5, 4, 3, 2, 1, 0, 7], [6, 7, 0, 1, 2, 3, 4, 5], [7, 0, 1, 2, 3, 4, 5, 6], [7, 6, 5, 4, 3, 2, 1, 0]], 372963094021404401006319433819637342863936836373786101053499851216503885926578046070045270731633499386311721604538862857664318629102993723311232441347011826021601687102295516568688663570021117401015777888432286548267633555276810537433753940011875045484941831719647680578388439330816280029722178838652875768513362894724183906666643522596114426924998765950035537778078489266892737381150205087927058565943313635965529727321114956915415773889980968206291296798714665144503044533561207058609861693920344161746868823345222808508253825681212633967744244905300143425527187228700927086953133402147120275733334686004876414184369180824720912970122907360233509698000691849093443289527861435291091324158800853561323386911624653140359188133247296877589792800, [[], [1], [2], [3], [4], [5], [6], [8], [9], [10], [12], [15], [1, 2], [1, 4], [1, 8], [2, 5], [2, 9], [4, 9], [6, 9]]⟩
def b20 : Bs := ⟨5, [[1, 2, 3, 4, 0], [0, 2, 4, 1, 3]], [[0, 1, 2, 3, 4], [0, 2, 4, 1, 3], [0, 3, 1, 4, 2], [0, 4, 3, 2, 1], [1, 0, 4, 3, 2], [1, 2, 3, 4, 0], [1, 3, 0, 2, 4], [1, 4, 2, 0, 3], [2, 0, 3, 1, 4], [2, 1, 0, 4, 3], [2, 3, 4, 0, 1], [2, 4, 1, 3, 0], [3, 0, 2, 4, 1], [3, 1, 4, 2, 0], [3, 2, 1, 0, 4], [3, 4, 0, 1, 2], [4, 0, 1, 2, 3], [4, 1, 3, 0, 2], [4, 2, 0, 3, 1], [4, 3, 2, 1, 0]], 1784279957805257101530075038448598323975312407784715598464013571249158597597844315104432440310289991208382910702647444404119303376441701958508556234222096522375534248359600444302982999139850705192155093132060615506923314612210746658530777332937890884889455574105907107237531388620410701150345141927222616647660558998389603645821342385895173720771527377798241557410967011597664812007660932451731844201193501042748449021179898323979744268583378042406065107596019327442270769947177654945835162540212236287464376874449817444273695345417321764475734942447388743391326066839010355826047261565045147408133420129019395527981558291697830553860148270446203616207605080929073704211248360658191701916690414297549650176572546188671428310333483564811585713078862763028587038492738153976550131505248103807201097884385717069616558525612538731269322805743648433640027821537401120651141218058940299565426597154474989723738782090216930254011933671203355823802400, [[], [1], [3], [4], [5], [6], [7], [9], [11], [13], [14], [19], [1, 4], [3, 4]]⟩
def b21 : Bs := ⟨7, [[1, 2, 3, 4, 5, 6, 0], [0, 2, 4, 6, 1, 3, 5]], [[0, 1, 2, 3, 4, 5, 6], [0, 2, 4, 6, 1, 3, 5], [0, 4, 1, 5, 2, 6, 3], [1, 2, 3, 4, 5, 6, 0], [1, 3, 5, 0, 2, 4, 6], [1, 5, 2, 6, 3, 0, 4], [2, 3, 4, 5, 6, 0, 1], [2, 4, 6, 1, 3, 5, 0], [2, 6, 3, 0, 4, 1, 5], [3, 0, 4, 1, 5, 2, 6], [3, 4, 5, 6, 0, 1, 2], [3, 5, 0, 2, 4, 6, 1], [4, 1, 5, 2, 6, 3, 0], [4, 5, 6, 0, 1, 2, 3], [4, 6, 1, 3, 5, 0, 2], [5, 0, 2, 4, 6, 1, 3], [5, 2, 6, 3, 0, 4, 1], [5, 6, 0, 1, 2, 3, 4], [6, 0, 1, 2, 3, 4, 5], [6, 1, 3, 5, 0, 2, 4], [6, 3, 0, 4, 1, 5, 2]], 18032905901462268936620677025307071314147723617052177910515986804538136970740196471954880857907663017272444315316643798661197992043324089133290976449572504941870982321484385064780870400304145862428578554853619270110373964642018725394781151344808678621432345197954651795781490100236539448309119395509955183577237876877224546422474246536269236926676793335504020687826471784324305296741453852269745458177685593114463978458640085482017810190453048961416848795715377757539970331471081883302886419123538088660706119075238090468380108688177840852174922654934052484830715993757182595017162454584488055850550375814001753943823326240314394679211118105418286818349973910404060987899188542730038706637304352116086980788460857580213447894976549392985696196080877233612018233759699136460636502371399852378680298591610496305696491243570217512387876117509403460763657568685063038945695182296517206777666819237659774404224329821958474652498684364937776715413362546588710065467447505691794896101374325587575932960, [[], [1], [3], [4], [5], [7], [8], [12], [14], [1, 3]]⟩
def b22 : Bs := ⟨6, [[1, 2, 0, 3, 4, 5], [0, 1, 2, 4, 5, 3], [0, 2, 1, 3, 5, 4]], [[0, 1, 2, 3, 4, 5], [0, 1, 2, 4, 5, 3], [0, 1, 2, 5, 3, 4], [0, 2, 1, 3, 5, 4], [0, 2, 1, 4, 3, 5], [0, 2, 1, 5, 4, 3], [1, 0, 2, 3, 5, 4], [1, 0, 2, 4, 3, 5], [1, 0, 2, 5, 4, 3], [1, 2, 0, 3, 4, 5], [1, 2, 0, 4, 5, 3], [1, 2, 0, 5, 3, 4], [2, 0, 1, 3, 4, 5], [2, 0, 1, 4, 5, 3], [2, 0, 1, 5, 3, 4], [2, 1, 0, 3, 5, 4], [2, 1, 0, 4, 3, 5], [2, 1, 0, 5, 4, 3]], 815763797715631397567815849850372254294252392796992731815442746605989575165030563375971210667298903940834547411479423601817280063318320183116946914149272698475123943106487787714473728090384132630197233087177534396259606752716882380696193517626440364541886772202050309443631771819871802145541109700455664279455835486001188948917071409432284804119148196532890714678941572475062958874911891532223533156354095471731885579348494470526792794806061935651335547766503909363632948214489638776109497229370001519329490177253746421932345629161880169369527604584969826759438815750072532713538212236369224416366656165907701569389841412199300336633821291657907944586631213399036546297495532052583640371369850559957338466170789359581517104808467988827130563620318846800827005629683345073003328019561034042310512011083986315325144004268225334670033651331336224, [[], [1], [3], [4], [5], [6], [7], [8], [9], [10], [11], [15], [16], [17], [1, 3], [1, 6], [1, 9], [1, 15], [3, 6], [3, 7], [3, 8], [4, 6], [4, 7], [4, 8], [5, 6], [5, 7], [5, 8], [1, 3, 6]]⟩
def b23 : Bs := ⟨4, [[1, 0, 2, 3], [1, 2, 3, 0]], [[0, 1, 2, 3], [0, 1, 3, 2], [0, 2, 1, 3], [0, 2, 3, 1], [0, 3, 1, 2], [0, 3, 2, 1], [1, 0, 2, 3], [1, 0, 3, 2], [1, 2, 0, 3], [1, 2, 3, 0], [1, 3, 0, 2], [1, 3, 2, 0], [2, 0, 1, 3], [2, 0, 3, 1], [2, 1, 0, 3], [2, 1, 3, 0], [2, 3, 0, 1], [2, 3, 1, 0], [3, 0, 1, 2], [3, 0, 2, 1], [3, 1, 0, 2], [3, 1, 2, 0], [3, 2, 0, 1], [3, 2, 1, 0]], 8536112604328673027935132289189636678976726907569060983302411835532545377450721438105447179788082154402511961514030407481731189337639912571543463327508687100489294099301771734680401772911134217286194601429122884319261953788648143080470407660506847582574228816568277151730632557178773345961234801309541555173797301707745860921974667514736028010106739482120692582507736599864598613941380195014548163160376337982383582688437368286159235996050788339607854841194797234533148118625577716132442225617235716152830238874828218701394177480697380745988621476304660496043322991303889548365964841349205244818492158347757765560124683314333565483406148380827671402726475861595086605029678943252776770053440066461732455669022255552107313028491561068897248195747221252070096715611781740719083927885593678116471228183539654301561672344560333868830558034091937938856226443622917020390192040687355127680505485446216883895439238799157896706817474900614222342883471347400753581728660429747579015962020920725181167762480096059399124600992229059306654294348162519970329051130885969447544206625220952510306767385848184284887391344459308771130779952198117878363424800, [[], [1], [2], [3], [5], [6], [7], [8], [9], [10], [11], [14], [15], [16], [17], [21], [23], [1, 2], [1, 6], [1, 8], [1, 14], [1, 16], [2, 6], [2, 7], [2, 21], [3, 7], [5, 6], [5, 7], [5, 14], [7, 16]]⟩
def b24 : Bs := ⟨6, [[1, 2, 0, 3, 4, 5], [1, 0, 3, 2, 4, 5], [0, 1, 2, 3, 5, 4]], [[0, 1, 2, 3, 4, 5], [0, 1, 2, 3, 5, 4], [0, 2, 3, 1, 4, 5], [0, 2, 3, 1, 5, 4], [0, 3, 1, 2, 4, 5], [0, 3, 1, 2, 5, 4], [1, 0, 3, 2, 4, 5], [1, 0, 3, 2, 5, 4], [1, 2, 0, 3, 4, 5], [1, 2, 0, 3, 5, 4], [1, 3, 2, 0, 4, 5], [1, 3, 2, 0, 5, 4], [2, 0, 1, 3, 4, 5], [2, 0, 1, 3, 5, 4], [2, 1, 3, 0, 4, 5], [2, 1, 3, 0, 5, 4], [2, 3, 0, 1, 4, 5], [2, 3, 0, 1, 5, 4], [3, 0, 2, 1, 4, 5], [3, 0, 2, 1, 5, 4], [3, 1, 0, 2, 4, 5], [3, 1, 0, 2, 5, 4], [3, 2, 1, 0, 4, 5], [3, 2, 1, 0, 5, 4]], 8536112604328673027935132289189636678976726906652787637175893144896085192326884731820809731229161501294570340344821781039040598981103117975365516161987753413867267756065392940375206923979715138909146943934446789218690158000238752074546093099045338796720168506259397185392342367075278218020426926834742783280200938191413143545355029521750518801951144404522896659541455764246844155738411965686427502384984487645019108768464823383708757347573057897526113069301355660860892578279314225258161037670514771185680161691336366225504854717589562649306327594096395547838353430353851590245359897795403321405611640204143288732060674463596908695884257395201134528136157689852134409956701075001896385205879287242899227610506408079692563396302394609476026993678006054859505196234227027814764469999444830273016415490882763872578934188554935083797790516472390498873364370601604425626650103500035165143417011693779331061542313116254135882394766502716793125079978335353077027115005445888653080049278418343805767503882752276377376201693036303573252779334204045801844016780635729333656436652713740844465913858839289135126290139501913411783580302531602557085780000, [[], [1], [2], [3], [6], [7], [8], [9], [10], [11], [14], [15], [16], [17], [22], [23], [1, 6], [1, 16], [1, 22], [2, 6], [2, 7], [6, 16], [6, 17], [7, 16], [7, 17], [1, 6, 16]]⟩
def b25 : Bs := ⟨8, [[3, 7, 2, 6, 1, 5, 0, 4], [0, 1, 3, 4, 2, 7, 5, 6]], [[0, 1, 2, 3, 4, 5, 6, 7], [0, 1, 3, 4, 2, 7, 5, 6], [0, 1, 4, 2, 3, 6, 7, 5], [1, 0, 5, 7, 6, 2, 4, 3], [1, 0, 6, 5, 7, 4, 3, 2], [1, 0, 7, 6, 5, 3, 2, 4], [2, 5, 1, 4, 7, 0, 3, 6], [2, 5, 4, 7, 1, 6, 0, 3], [2, 5, 7, 1, 4, 3, 6, 0], [3, 7, 1, 2, 6, 0, 4, 5], [3, 7, 2, 6, 1, 5, 0, 4], [3, 7, 6, 1, 2, 4, 5, 0], [4, 6, 1, 3, 5, 0, 2, 7], [4, 6, 3, 5, 1, 7, 0, 2], [4, 6, 5, 1, 3, 2, 7, 0], [5, 2, 0, 6, 3, 1, 7, 4], [5, 2, 3, 0, 6, 7, 4, 1], [5, 2, 6, 3, 0, 4, 1, 7], [6, 4, 0, 7, 2, 1, 5, 3], [6, 4, 2, 0, 7, 5, 3, 1], [6, 4, 7, 2, 0, 3, 1, 5], [7, 3, 0, 5, 4, 1, 6, 2], [7, 3, 4, 0, 5, 6, 2, 1], [7, 3, 5, 4, 0, 2, 1, 6]], 5019888354737342497054398426904470805412218477941640116483858595467452959831155932594133370760737594948281148226248983659943261564355898809644121898482195851088818576103076502382825289615424010626015302538859797630638367739063479067789091687762709168142123126203053766433118331189469058154100884274613267626675908794720928736623551704405272735248640721405649436193200903596476516090951689171323770122288771928347579027077804859073391331053885108256454558537035087119181523576251588747517358514182897014097912982668903252440910665049458793885148712744726001042643992649278249128520439551367816896430976051525215442351685148217980174747472522670889136165880051890624840067616388067131467964194929646423600154312341097240672244619160597575591786787353125147294945860556035685438650269933277654771972873851012696662032858659688926433620783039088476293692666739193836587630491127532682970471377824664627915176789567733724272266639927031810014926261867364288269861187181294342861986717024736092281541371536461481431857777782120265806755779940655069800219810777393823817938394925930383525527549882673070705665692471577474121127858726028786518632532000, [[], [1], [3], [4], [6], [7], [8], [9], [10], [11], [12], [13], [14], [1, 6], [6, 11]]⟩
theorem b0_ok : b0.ok = true := by decide +kernel
theorem b1_ok : b1.ok = true := by decide +kernel
theorem b2_ok : b2.ok = true := by decide +kernel
theorem b3_ok : b3.ok = true := by decide +kernel
theorem b4_ok : b4.ok = true := by decide +kernel
theorem b5_ok : b5.ok = true := by decide +kernel
theorem b6_ok : b6.ok = true := by decide +kernel
theorem b7_ok : b7.ok = true := by decide +kernel
theorem b8_ok : b8.ok = true := by decide +kernel
theorem b9_ok : b9.ok = true := by decide +kernel
theorem b10_ok : b10.ok = true := by decide +kernel
theorem b11_ok : b11.ok = true := by decide +kernel
theorem b12_ok : b12.ok = true := by decide +kernel
theorem b13_ok : b13.ok = true := by decide +kernel
theorem b14_ok : b14.ok = true := by decide +kernel
theorem b15_ok : b15.ok = true := by decide +kernel
theorem b16_ok : b16.ok = true := by decide +kernel
theorem b17_ok : b17.ok = true := by decide +kernel
theorem b18_ok : b18.ok = true := by decide +kernel
theorem b19_ok : b19.ok = true := by decide +kernel
theorem b20_ok : b20.ok = true := by decide +kernel
theorem b21_ok : b21.ok = true := by decide +kernel
theorem b22_ok : b22.ok = true := by decide +kernel
theorem b23_ok : b23.ok = true := by decide +kernel
theorem b24_ok : b24.ok = true := by decide +kernel
theorem b25_ok : b25.ok = true := by decide +kernel
end GT

set_option Elab.async false
set_option linter.all false
/-! groups within groups, groups renamed -/
namespace GT
/-- at most c bodies -/
def FewB (M : List (List Nat)) (c : Nat) : Prop := ∀ L : List (List Nat), L.Nodup → (∀ B ∈ L, Sg M.length (tb M) B) → L.length ≤ c
section
variable {n : Nat} {M G : List (List Nat)}
/-- where the moves of a body stand in a larger list -/
def emb (M G : List (List Nat)) (B : List Nat) : List Nat := (List.range G.length).filter fun i => decide (at_ G i ∈ B.map (at_ M))
theorem emb_sg (hM : Mvs n M) (hG : Mvs n G) {B : List Nat} (sb : Sg M.length (tb M) B) : Sg G.length (tb G) (emb M G B) := by
  refine ⟨List.pairwise_lt_range.filter _, fun x hx => List.mem_range.mp (List.mem_filter.mp hx).1, ?_, fun x hx y hy => ?_⟩
  · refine List.mem_filter.mpr ⟨List.mem_range.mpr hG.pos, decide_eq_true ?_⟩
    rw [hG.one, ← hM.one]
    exact List.mem_map.mpr ⟨0, sb.one, rfl⟩
  · obtain ⟨x1, x2⟩ := List.mem_filter.mp hx
    obtain ⟨y1, y2⟩ := List.mem_filter.mp hy
    have lx := List.mem_range.mp x1
    have ly := List.mem_range.mp y1
    obtain ⟨i, hi, ei⟩ := List.mem_map.mp (of_decide_eq_true x2)
    obtain ⟨j, hj, ej⟩ := List.mem_map.mp (of_decide_eq_true y2)
    refine List.mem_filter.mpr ⟨List.mem_range.mpr (hG.tb_lt lx ly), decide_eq_true ?_⟩
    rw [hG.at_tb lx ly, ← ei, ← ej, ← hM.at_tb (sb.lt i hi) (sb.lt j hj)]
    exact List.mem_map.mpr ⟨_, sb.mul i hi j hj, rfl⟩
theorem emb_inj (hM : Mvs n M) (sub : ∀ x ∈ M, x ∈ G) {B C : List Nat} (sb : Sg M.length (tb M) B) (sc : Sg M.length (tb M) C) (e : emb M G B = emb M G C) : B = C := by
  have one : ∀ {B C : List Nat}, Sg M.length (tb M) B → Sg M.length (tb M) C → emb M G B = emb M G C → ∀ x ∈ B, x ∈ C := fun {B C} sb sc e x hx => by
    have lx := sb.lt x hx
    have mg := sub _ (at_mem lx)
    have h1 : ix G (at_ M x) ∈ emb M G B := List.mem_filter.mpr ⟨List.mem_range.mpr (ix_lt mg), decide_eq_true (by rw [at_ix mg]; exact List.mem_map.mpr ⟨x, hx, rfl⟩)⟩
    rw [e] at h1
    have h2 := of_decide_eq_true (List.mem_filter.mp h1).2
    rw [at_ix mg] at h2
    obtain ⟨y, hy, ey⟩ := List.mem_map.mp h2
    rw [← at_inj hM.nd (sc.lt y hy) lx ey]
    exact hy
  exact asc_eq sb.up sc.up fun x => ⟨one sb sc e x, one sc sb e.symm x⟩
theorem few_sub {c : Nat} (hM : Mvs n M) (hG : Mvs n G) (sub : ∀ x ∈ M, x ∈ G) (f : FewB G c) : FewB M c := fun L nd h => by
  have := f (L.map (emb M G)) ?_ fun B hB => ?_
  · rwa [List.length_map] at this
  · refine List.pairwise_iff_getElem.mpr fun i j hi hj lt e => ?_
    rw [List.length_map] at hi hj
    rw [List.getElem_map, List.getElem_map] at e
    have := (List.getElem_inj nd).mp (emb_inj hM sub (h _ (List.getElem_mem hi)) (h _ (List.getElem_mem hj)) e)
    omega
  · obtain ⟨C, hC, rfl⟩ := List.mem_map.mp hB
    exact emb_sg hM hG (h C hC)
end
/-- a move under other names of its places -/
def cj (z m : List Nat) : List Nat := (List.range m.length).map fun p => z.getD (m.getD (z.idxOf p) 0) 0
section
variable {n : Nat} {z m l : List Nat} (hz : Pm n z)
include hz
theorem z_mem {p : Nat} (h : p < n) : p ∈ z := by
  refine Classical.byContradiction fun no => ?_
  have := sub_len (a := p :: z) (b := List.range n) (List.nodup_cons.mpr ⟨no, hz.nd⟩) fun x hx => by
    rcases List.mem_cons.mp hx with rfl | hx
    · exact List.mem_range.mpr h
    · exact List.mem_range.mpr (hz.lt x hx)
  rw [List.length_cons, List.length_range, hz.len] at this
  omega
theorem z_idx {p : Nat} (h : p < n) : z.idxOf p < n ∧ z.getD (z.idxOf p) 0 = p := by
  have l := List.idxOf_lt_length_of_mem (z_mem hz h)
  refine ⟨by rw [← hz.len]; exact l, ?_⟩
  rw [gD l]
  exact List.getElem_idxOf l
theorem idx_z {p : Nat} (h : p < n) : z.idxOf (z.getD p 0) = p := by
  have zp := hz.lt _ (getD_mem (m := z) (k := p) (by rw [hz.len]; exact h))
  obtain ⟨a, b⟩ := z_idx hz zp
  exact getD_inj hz.nd (by rw [hz.len]; exact a) (by rw [hz.len]; exact h) b
theorem cj_get (hm : Pm n m) {p : Nat} (h : p < n) : (cj z m).getD p 0 = z.getD (m.getD (z.idxOf p) 0) 0 := by
  unfold cj
  rw [List.getD, List.getElem?_map, List.getElem?_range (by rw [hm.len]; exact h)]
  rfl
theorem cj_len (hm : Pm n m) : (cj z m).length = n := by
  unfold cj
  rw [List.length_map, List.length_range, hm.len]
theorem cj_comp (hm : Pm n m) (hl : Pm n l) : comp (cj z m) (cj z l) = cj z (comp m l) := by
  refine List.ext_getElem (by rw [comp_len, cj_len hz hl, cj_len hz (hm.comp hl)]) fun p h1 h2 => ?_
  have hp : p < n := by rw [comp_len, cj_len hz hl] at h1; exact h1
  have ip := (z_idx hz hp).1
  have lp := hl.lt _ (getD_mem (m := l) (k := z.idxOf p) (by rw [hl.len]; exact ip))
  have zl := hz.lt _ (getD_mem (m := z) (k := l.getD (z.idxOf p) 0) (by rw [hz.len]; exact lp))
  rw [← gD h1, ← gD h2, comp_get (by rw [cj_len hz hl]; exact hp), cj_get hz hl hp, cj_get hz hm zl, idx_z hz lp, cj_get hz (hm.comp hl) hp, comp_get (by rw [hl.len]; exact ip)]
theorem cj_inj (hm : Pm n m) (hl : Pm n l) (e : cj z m = cj z l) : m = l := by
  refine List.ext_getElem (by rw [hm.len, hl.len]) fun p h1 h2 => ?_
  have hp : p < n := by rw [hm.len] at h1; exact h1
  have zp := hz.lt _ (getD_mem (m := z) (k := p) (by rw [hz.len]; exact hp))
  have e1 := cj_get hz hm zp
  have e2 := cj_get hz hl zp
  rw [idx_z hz hp] at e1 e2
  rw [e, e2] at e1
  have a := hm.lt _ (getD_mem h1)
  have b := hl.lt _ (getD_mem h2)
  have := getD_inj hz.nd (by rw [hz.len]; exact b) (by rw [hz.len]; exact a) e1
  rw [gD h1, gD h2] at this
  exact this.symm
theorem cj_unit : cj z (List.range n) = List.range n := by
  refine List.ext_getElem (by rw [cj_len hz (pm_unit n), List.length_range]) fun p h1 h2 => ?_
  have hp : p < n := by rw [List.length_range] at h2; exact h2
  rw [← gD h1, ← gD h2, cj_get hz (pm_unit n) hp, range_get (z_idx hz hp).1, (z_idx hz hp).2, range_get hp]
theorem cj_pm (hm : Pm n m) : Pm n (cj z m) := by
  have get : ∀ {p : Nat}, p < n → (cj z m).getD p 0 < n := fun {p} hp => by
    rw [cj_get hz hm hp]
    exact hz.lt _ (getD_mem (by rw [hz.len]; exact hm.lt _ (getD_mem (by rw [hm.len]; exact (z_idx hz hp).1))))
  refine ⟨cj_len hz hm, ?_, fun k hk => ?_⟩
  · refine List.pairwise_iff_getElem.mpr fun i j hi hj lt e => ?_
    rw [cj_len hz hm] at hi hj
    rw [← gD (by rw [cj_len hz hm]; exact hi), ← gD (by rw [cj_len hz hm]; exact hj), cj_get hz hm hi, cj_get hz hm hj] at e
    have ii := z_idx hz hi
    have jj := z_idx hz hj
    have mi := hm.lt _ (getD_mem (m := m) (k := z.idxOf i) (by rw [hm.len]; exact ii.1))
    have mj := hm.lt _ (getD_mem (m := m) (k := z.idxOf j) (by rw [hm.len]; exact jj.1))
    have e1 := getD_inj hz.nd (by rw [hz.len]; exact mi) (by rw [hz.len]; exact mj) e
    have e2 := getD_inj hm.nd (by rw [hm.len]; exact ii.1) (by rw [hm.len]; exact jj.1) e1
    have := ii.2
    rw [e2, jj.2] at this
    omega
  · obtain ⟨i, hi, rfl⟩ := List.mem_iff_getElem.mp hk
    rw [← gD hi]
    exact get (by rw [cj_len hz hm] at hi; exact hi)
end
section
variable {n : Nat} {z : List Nat} {G : List (List Nat)}
theorem at_map (f : List Nat → List Nat) {i : Nat} (h : i < G.length) : at_ (G.map f) i = f (at_ G i) := by
  rw [at_, List.getD, List.getElem?_map, List.getElem?_eq_getElem h, at_, List.getD, List.getElem?_eq_getElem h]
  rfl
theorem cj_mvs (hz : Pm n z) (h : Mvs n G) : Mvs n (G.map (cj z)) where
  nd := by
    refine List.pairwise_iff_getElem.mpr fun i j hi hj lt e => ?_
    rw [List.length_map] at hi hj
    rw [List.getElem_map, List.getElem_map] at e
    have := (List.getElem_inj h.nd).mp (cj_inj hz (h.pm _ (List.getElem_mem hi)) (h.pm _ (List.getElem_mem hj)) e)
    omega
  pm := fun m hm => by
    obtain ⟨x, hx, rfl⟩ := List.mem_map.mp hm
    exact cj_pm hz (h.pm x hx)
  one := by rw [at_map _ h.pos, h.one, cj_unit hz]
  pos := by rw [List.length_map]; exact h.pos
  mul := fun x hx y hy => by
    obtain ⟨a, ha, rfl⟩ := List.mem_map.mp hx
    obtain ⟨b, hb, rfl⟩ := List.mem_map.mp hy
    rw [cj_comp hz (h.pm a ha) (h.pm b hb)]
    exact List.mem_map.mpr ⟨_, h.mul a ha b hb, rfl⟩
theorem cj_tb (hz : Pm n z) (h : Mvs n G) {i j : Nat} (hi : i < G.length) (hj : j < G.length) : tb (G.map (cj z)) i j = tb G i j := by
  have h' := cj_mvs hz h
  have li : i < (G.map (cj z)).length := by rw [List.length_map]; exact hi
  have lj : j < (G.map (cj z)).length := by rw [List.length_map]; exact hj
  have lt := h.tb_lt hi hj
  have e := h'.at_tb li lj
  rw [at_map _ hi, at_map _ hj, cj_comp hz (h.pm _ (at_mem hi)) (h.pm _ (at_mem hj)), ← h.at_tb hi hj, ← at_map (cj z) lt] at e
  have l2 := h'.tb_lt li lj
  exact at_inj h'.nd l2 (by rw [List.length_map]; exact lt) e
theorem cj_few {c : Nat} (hz : Pm n z) (h : Mvs n G) (f : FewB G c) : FewB (G.map (cj z)) c := fun L nd hL => f L nd fun B hB => by
  have sb := hL B hB
  rw [List.length_map] at sb
  exact sg_congr (fun i hi j hj => cj_tb hz h hi hj) sb
end
end GT

set_option Elab.async false
set_option linter.all false
namespace GT
theorem Bs.all {b : Bs} (h : b.ok = true) : Mvs b.n b.G ∧ FewB b.G 60 ∧ b.G.length ≤ 24 ∧ ∀ m ∈ b.ms, m ∈ b.G := by
  unfold Bs.ok at h
  simp only [Bool.and_eq_true] at h
  obtain ⟨⟨h1, h2, h3⟩, h4, h5, h6, h7, h8, h9, h10⟩ := h
  have pos := of_decide_eq_true h3
  have mv : Mvs b.n b.G := by
    refine ⟨of_decide_eq_true h1, fun m hm => ?_, ?_, pos, fun x hx y hy => of_decide_eq_true (List.all_eq_true.mp (List.all_eq_true.mp h5 x hx) y hy)⟩
    · have := List.all_eq_true.mp h4 m hm
      simp only [Bool.and_eq_true] at this
      obtain ⟨a, c, d⟩ := this
      exact ⟨of_decide_eq_true a, of_decide_eq_true c, fun k hk => of_decide_eq_true (List.all_eq_true.mp d k hk)⟩
    · have := of_decide_eq_true h2
      cases e : b.G with
      | nil => rw [e] at pos; exact absurd pos (by decide)
      | cons x r => rw [e] at this; exact this
  refine ⟨mv, fun L nd hL => Nat.le_trans (chkS_few h7 L nd fun B hB => ?_) (of_decide_eq_true h10), of_decide_eq_true h9, fun m hm => of_decide_eq_true (List.all_eq_true.mp h8 m hm)⟩
  exact sg_congr (fun i hi j hj => (of_decide_eq_true (List.all_eq_true.mp (List.all_eq_true.mp h6 i (List.mem_range.mpr hi)) j (List.mem_range.mpr hj))).symm) (hL B hB)
/-- what a group needs to be made -/
def GrpOk (n : Nat) (ms : List (List Nat)) : Prop := 1 ≤ n ∧ n ≤ 24 ∧ ms.length ≤ 6 ∧ (∀ m ∈ ms, Pm n m) ∧ ∃ G, Mvs n G ∧ (∀ m ∈ ms, m ∈ G) ∧ G.length ≤ 60 ∧ FewB G 60
section
variable {n : Nat} {ms F W M : List (List Nat)}
/-- the moves of a walk over words, in another sequence with the unit first -/
theorem mvs_of (wd : Wd n ms F W) (full : Full ms F) (pm : ∀ m ∈ ms, Pm n m) (nd : M.Nodup) (mf : ∀ x, x ∈ M ↔ x ∈ F) (one : at_ M 0 = List.range n) : Mvs n M where
  nd := nd
  pm := fun m hm => by
    obtain ⟨j, hj, e⟩ := mem_at ((mf m).mp hm)
    rw [← e]
    exact wd.pm pm j hj
  one := one
  pos := List.length_pos_of_mem ((mf _).mpr (at_mem (L := F) (i := 0) wd.one))
  mul := fun x hx y hy => by
    obtain ⟨j, hj, e⟩ := mem_at ((mf y).mp hy)
    rw [← e]
    exact (mf _).mpr (wd.closed full pm ((mf x).mp hx) j hj)
theorem few_of (ok : GrpOk n ms) (wd : Wd n ms F W) (h : Mvs n M) (mf : ∀ x, x ∈ M ↔ x ∈ F) : FewB M 60 ∧ M.length ≤ 60 := by
  obtain ⟨_, _, _, _, G, hG, sub, lG, fb⟩ := ok
  have u : List.range n ∈ G := by rw [← hG.one]; exact at_mem hG.pos
  have c : ∀ x ∈ G, ∀ k, k < ms.length → comp x (at_ ms k) ∈ G := fun x hx k hk => hG.mul x hx _ (sub _ (at_mem hk))
  have sM : ∀ x ∈ M, x ∈ G := fun x hx => by
    obtain ⟨j, hj, e⟩ := mem_at ((mf x).mp hx)
    rw [← e]
    exact wd.sub u c j hj
  exact ⟨few_sub h hG sM fb, Nat.le_trans (sub_len h.nd sM) lG⟩
/-- an ascending list of the moves stands with the unit first -/
theorem one_first (srt : M.Pairwise fun x y => toI x ≤ toI y) (pm : ∀ m ∈ M, Pm n m) (u : List.range n ∈ M) : at_ M 0 = List.range n := by
  cases M with
  | nil => cases u
  | cons x r =>
    show x = _
    rcases List.mem_cons.mp u with e | h
    · exact e.symm
    · exact toI_inj (List.le_antisymm ((List.pairwise_cons.mp srt).1 _ h) (unit_le (pm x List.mem_cons_self)))
end
end GT

set_option Elab.async false
set_option linter.all false
/-! products of groups, side by side; what makers make -/
namespace GT
def bes (x y : List Nat) : List Nat := x ++ y.map (x.length + ·)
section
variable {n1 n2 : Nat} {x y a b c d : List Nat}
theorem bes_len (x y : List Nat) : (bes x y).length = x.length + y.length := by
  unfold bes
  rw [List.length_append, List.length_map]
theorem bes_lo {i : Nat} (h : i < x.length) : (bes x y).getD i 0 = x.getD i 0 := by
  unfold bes
  rw [List.getD, List.getElem?_append_left h, ← List.getD]
theorem bes_hi {j : Nat} (h : j < y.length) : (bes x y).getD (x.length + j) 0 = x.length + y.getD j 0 := by
  unfold bes
  rw [List.getD, List.getElem?_append_right (Nat.le_add_right _ _), Nat.add_sub_cancel_left, List.getElem?_map, List.getElem?_eq_getElem h, gD h]
  rfl
theorem bes_pm (hx : Pm n1 x) (hy : Pm n2 y) : Pm (n1 + n2) (bes x y) := by
  refine ⟨by rw [bes_len, hx.len, hy.len], ?_, fun k hk => ?_⟩
  · unfold bes
    refine List.nodup_append.mpr ⟨hx.nd, ?_, fun p hp q hq e => ?_⟩
    · exact List.Pairwise.map _ (fun p q ne e => ne (by omega)) hy.nd
    · obtain ⟨j, hj, rfl⟩ := List.mem_map.mp hq
      have := hx.lt p hp
      have := hx.len
      omega
  · unfold bes at hk
    rcases List.mem_append.mp hk with hk | hk
    · have := hx.lt k hk
      omega
    · obtain ⟨j, hj, rfl⟩ := List.mem_map.mp hk
      have := hy.lt j hj
      have := hx.len
      omega
theorem bes_comp (ha : Pm n1 a) (hb : Pm n2 b) (hc : Pm n1 c) (hd : Pm n2 d) : comp (bes a b) (bes c d) = bes (comp a c) (comp b d) := by
  unfold comp
  show (c ++ d.map (c.length + ·)).map _ = c.map _ ++ _
  rw [List.map_append, List.map_map, List.map_map]
  congr 1
  · refine List.map_congr_left fun k hk => ?_
    have := hc.lt k hk
    exact bes_lo (by rw [ha.len]; omega)
  · refine List.map_congr_left fun k hk => ?_
    have := hd.lt k hk
    show (bes a b).getD (c.length + k) 0 = (c.map fun k => a.getD k 0).length + b.getD k 0
    rw [List.length_map, hc.len, ← ha.len]
    exact bes_hi (by rw [hb.len]; omega)
theorem bes_inj (l : x.length = a.length) (e : bes x y = bes a b) : x = a ∧ y = b := by
  unfold bes at e
  obtain ⟨e1, e2⟩ := List.append_inj e l
  refine ⟨e1, ?_⟩
  rw [← l] at e2
  exact (List.map_inj_right (fun p q z => by omega)).mp e2
theorem bes_unit (n1 n2 : Nat) : bes (List.range n1) (List.range n2) = List.range (n1 + n2) := by
  unfold bes
  rw [List.range_add, List.length_range]
end
def prodL (G1 G2 : List (List Nat)) : List (List Nat) := G1.flatMap fun x => G2.map (bes x)
theorem mem_prod {G1 G2 : List (List Nat)} {z : List Nat} : z ∈ prodL G1 G2 ↔ ∃ x ∈ G1, ∃ y ∈ G2, z = bes x y := by
  unfold prodL
  rw [List.mem_flatMap]
  constructor
  · rintro ⟨x, hx, h⟩
    obtain ⟨y, hy, rfl⟩ := List.mem_map.mp h
    exact ⟨x, hx, y, hy, rfl⟩
  · rintro ⟨x, hx, y, hy, rfl⟩
    exact ⟨x, hx, List.mem_map.mpr ⟨y, hy, rfl⟩⟩
theorem prod_len (G1 G2 : List (List Nat)) : (prodL G1 G2).length = G1.length * G2.length := by
  unfold prodL
  induction G1 with
  | nil => simp
  | cons x r ih => rw [List.flatMap_cons, List.length_append, List.length_map, ih, List.length_cons, Nat.succ_mul, Nat.add_comm]
theorem prod_at {G1 G2 : List (List Nat)} {i j : Nat} (hi : i < G1.length) (hj : j < G2.length) : at_ (prodL G1 G2) (i * G2.length + j) = bes (at_ G1 i) (at_ G2 j) := by
  unfold prodL
  induction G1 generalizing i with
  | nil => cases hi
  | cons x r ih =>
    rw [List.flatMap_cons]
    cases i with
    | zero =>
      rw [Nat.zero_mul, Nat.zero_add, at_app (by rw [List.length_map]; exact hj), at_map (bes x) hj]
      rfl
    | succ i =>
      have := ih (i := i) (by simpa using hi)
      rw [at_, List.getD, List.getElem?_append_right (by rw [List.length_map, Nat.succ_mul]; omega), List.length_map, show (i + 1) * G2.length + j - G2.length = i * G2.length + j by rw [Nat.succ_mul]; omega, ← List.getD]
      exact this
section
variable {n1 n2 : Nat} {G1 G2 : List (List Nat)}
theorem prod_mvs (h1 : Mvs n1 G1) (h2 : Mvs n2 G2) : Mvs (n1 + n2) (prodL G1 G2) where
  nd := by
    unfold prodL
    refine List.nodup_iff_pairwise_ne.mpr ?_
    rw [List.pairwise_flatMap]
    refine ⟨fun x hx => ?_, ?_⟩
    · refine List.Pairwise.map _ (fun p q ne e => ne (bes_inj rfl e).2) h2.nd
    · refine h1.nd.imp_of_mem fun {x y} hx hy ne p hp q hq e => ?_
      obtain ⟨u, hu, rfl⟩ := List.mem_map.mp hp
      obtain ⟨v, hv, rfl⟩ := List.mem_map.mp hq
      exact ne (bes_inj (by rw [(h1.pm x hx).len, (h1.pm y hy).len]) e).1
  pm := fun m hm => by
    obtain ⟨x, hx, y, hy, rfl⟩ := mem_prod.mp hm
    exact bes_pm (h1.pm x hx) (h2.pm y hy)
  one := by
    have := prod_at (G1 := G1) (G2 := G2) h1.pos h2.pos
    rw [Nat.zero_mul, Nat.zero_add] at this
    rw [this, h1.one, h2.one, bes_unit]
  pos := by
    rw [prod_len]
    exact Nat.mul_pos h1.pos h2.pos
  mul := fun x hx y hy => by
    obtain ⟨x1, hx1, x2, hx2, rfl⟩ := mem_prod.mp hx
    obtain ⟨y1, hy1, y2, hy2, rfl⟩ := mem_prod.mp hy
    rw [bes_comp (h1.pm _ hx1) (h2.pm _ hx2) (h1.pm _ hy1) (h2.pm _ hy2)]
    exact mem_prod.mpr ⟨_, h1.mul _ hx1 _ hy1, _, h2.mul _ hx2 _ hy2, rfl⟩
/-- the table of a product -/
def tX (N2 : Nat) (t1 t2 : Nat → Nat → Nat) (a b : Nat) : Nat := t1 (a / N2) (b / N2) * N2 + t2 (a % N2) (b % N2)
theorem prod_tb (h1 : Mvs n1 G1) (h2 : Mvs n2 G2) {a b : Nat} (ha : a < (prodL G1 G2).length) (hb : b < (prodL G1 G2).length) : tb (prodL G1 G2) a b = tX G2.length (tb G1) (tb G2) a b := by
  have h := prod_mvs h1 h2
  have e := h.at_tb ha hb
  have split : ∀ {a : Nat}, a < (prodL G1 G2).length → a / G2.length < G1.length ∧ a % G2.length < G2.length ∧ at_ (prodL G1 G2) a = bes (at_ G1 (a / G2.length)) (at_ G2 (a % G2.length)) := fun {a} ha => by
    rw [prod_len] at ha
    have l1 : a / G2.length < G1.length := Nat.div_lt_of_lt_mul (by rw [Nat.mul_comm]; exact ha)
    have l2 := Nat.mod_lt a h2.pos
    refine ⟨l1, l2, ?_⟩
    rw [← prod_at l1 l2, Nat.mul_comm, Nat.div_add_mod]
  obtain ⟨a1, a2, ea⟩ := split ha
  obtain ⟨b1, b2, eb⟩ := split hb
  have t1 := h1.tb_lt a1 b1
  have t2 := h2.tb_lt a2 b2
  have lt : tX G2.length (tb G1) (tb G2) a b < (prodL G1 G2).length := by
    rw [prod_len]
    unfold tX
    calc _ < tb G1 (a / G2.length) (b / G2.length) * G2.length + G2.length := by omega
      _ = (tb G1 (a / G2.length) (b / G2.length) + 1) * G2.length := by rw [Nat.succ_mul]
      _ ≤ _ := Nat.mul_le_mul_right _ t1
  rw [ea, eb, bes_comp (h1.pm _ (at_mem a1)) (h2.pm _ (at_mem a2)) (h1.pm _ (at_mem b1)) (h2.pm _ (at_mem b2)), ← h1.at_tb a1 b1, ← h2.at_tb a2 b2, ← prod_at t1 t2] at e
  exact at_inj h.nd (h.tb_lt ha hb) lt e
end
/-- some makers of bodies, with the bodies' masks -/
def chkM (t : Nat → Nat → Nat) (N : Nat) (Ls : List (List Nat × Nat)) : Bool :=
  (Ls.all fun p => maskS t N p.1 == p.2) && ((Ls.any fun p => p.1 == []) && Ls.all fun p => (p.1.all fun s => p.2.testBit s) && (List.range N).all fun g => p.2.testBit g || (let m := maskS t N (p.1 ++ [g]); (Ls.any fun q => q.2 == m) && (m.testBit g && (m ||| p.2) == m)))
theorem or_sub {m k : Nat} (e : m ||| k = m) (x : Nat) (h : k.testBit x = true) : m.testBit x = true := by
  rw [← e, Nat.testBit_or, h, Bool.or_true]
theorem chkM_S {t : Nat → Nat → Nat} {N : Nat} {Ls : List (List Nat × Nat)} (h : chkM t N Ls = true) : chkS t N (Ls.map (·.1)) = true := by
  unfold chkM at h
  rw [Bool.and_eq_true, Bool.and_eq_true] at h
  obtain ⟨h1, h2, h3⟩ := h
  have em : ∀ p ∈ Ls, maskS t N p.1 = p.2 := fun p hp => eq_of_beq (List.all_eq_true.mp h1 p hp)
  unfold chkS
  rw [Bool.and_eq_true]
  refine ⟨?_, List.all_eq_true.mpr fun gs hg => ?_⟩
  · rw [List.any_map]
    exact h2
  · obtain ⟨p, hp, rfl⟩ := List.mem_map.mp hg
    have c := List.all_eq_true.mp h3 p hp
    rw [Bool.and_eq_true] at c
    rw [Bool.and_eq_true, em p hp]
    refine ⟨c.1, List.all_eq_true.mpr fun g hgN => ?_⟩
    have d := List.all_eq_true.mp c.2 g hgN
    cases z : p.2.testBit g with
    | true => rfl
    | false =>
      rw [z, Bool.false_or, Bool.and_eq_true, Bool.and_eq_true] at d
      obtain ⟨d1, d2, d3⟩ := d
      obtain ⟨q, hq, eq⟩ := List.any_eq_true.mp d1
      rw [Bool.false_or, Bool.and_eq_true, Bool.and_eq_true]
      refine ⟨List.any_eq_true.mpr ⟨q.1, List.mem_map.mpr ⟨q, hq, rfl⟩, ?_⟩, d2, List.all_eq_true.mpr fun x _ => ?_⟩
      · rw [em q hq]
        exact eq
      · cases z2 : p.2.testBit x with
        | false => rfl
        | true =>
          rw [or_sub (eq_of_beq d3) x z2]
          rfl
def chkX (b1 b2 : Bs) (Ls : List (List Nat × Nat)) : Bool := chkM (tX b2.G.length (tP b1.T) (tP b2.T)) (b1.G.length * b2.G.length) Ls && decide (Ls.length ≤ 60)
/-- what some makers make: each list that holds the unit and is closed holds it -/
def Mk (n : Nat) (ms X : List (List Nat)) : Prop := ∀ S : List (List Nat), S.Nodup → (∀ x ∈ S, Pm n x) → List.range n ∈ S → (∀ x ∈ S, ∀ m ∈ ms, comp x m ∈ S) → ∀ x ∈ X, x ∈ S
section
variable {n : Nat} {ms X : List (List Nat)}
theorem Mk.perm {ms' : List (List Nat)} (h : Mk n ms X) (p : ms'.Perm ms) : Mk n ms' X := fun S nd pm u c => h S nd pm u fun x hx m hm => c x hx m (p.mem_iff.mpr hm)
theorem Mk.more {ms' : List (List Nat)} (h : Mk n ms X) (p : ∀ m ∈ ms, m ∈ ms') : Mk n ms' X := fun S nd pm u c => h S nd pm u fun x hx m hm => c x hx m (p m hm)
/-- closed lists are closed backwards -/
theorem back_in {S : List (List Nat)} {m : List Nat} (nd : S.Nodup) (pm : ∀ x ∈ S, Pm n x) (hm : Pm n m) (c : ∀ x ∈ S, comp x m ∈ S) {x : List Nat} (hx : Pm n x) (h : comp x m ∈ S) : x ∈ S := by
  have inj : ∀ y, Pm n y → comp y m = comp x m → y = x := fun y hy e => by
    refine List.ext_getElem (by rw [hy.len, hx.len]) fun i h1 h2 => ?_
    have hi : i < n := by rw [← hy.len]; exact h1
    have mem := z_idx hm hi
    have e1 := comp_get (a := y) (b := m) (i := m.idxOf i) (by rw [hm.len]; exact mem.1)
    have e2 := comp_get (a := x) (b := m) (i := m.idxOf i) (by rw [hm.len]; exact mem.1)
    rw [mem.2] at e1 e2
    rw [← gD h1, ← gD h2, ← e1, ← e2, e]
  have nd2 : (S.map fun y => comp y m).Nodup := by
    refine List.pairwise_iff_getElem.mpr fun i j hi hj lt e => ?_
    rw [List.length_map] at hi hj
    rw [List.getElem_map, List.getElem_map] at e
    have : S[i] = S[j] := by
      refine List.ext_getElem (by rw [(pm _ (List.getElem_mem hi)).len, (pm _ (List.getElem_mem hj)).len]) fun p h1 h2 => ?_
      have hp : p < n := by rw [← (pm _ (List.getElem_mem hi)).len]; exact h1
      have mem := z_idx hm hp
      have e1 := comp_get (a := S[i]) (b := m) (i := m.idxOf p) (by rw [hm.len]; exact mem.1)
      have e2 := comp_get (a := S[j]) (b := m) (i := m.idxOf p) (by rw [hm.len]; exact mem.1)
      rw [mem.2] at e1 e2
      rw [← gD h1, ← gD h2, ← e1, ← e2, e]
    have := (List.getElem_inj nd).mp this
    omega
  have sub : ∀ z ∈ S.map fun y => comp y m, z ∈ S := fun z hz => by
    obtain ⟨y, hy, rfl⟩ := List.mem_map.mp hz
    exact c y hy
  have all : comp x m ∈ S.map fun y => comp y m := by
    refine Classical.byContradiction fun no => ?_
    have l := sub_len (a := comp x m :: S.map fun y => comp y m) (b := S) (List.nodup_cons.mpr ⟨no, nd2⟩) fun z hz => by
      rcases List.mem_cons.mp hz with rfl | hz
      · exact h
      · exact sub z hz
    rw [List.length_cons, List.length_map] at l
    omega
  obtain ⟨y, hy, e⟩ := List.mem_map.mp all
  rw [← inj y (pm y hy) e]
  exact hy
/-- one maker times another one -/
theorem Mk.times (h : Mk n ms X) (pm : ∀ m ∈ ms, Pm n m) {a b : Nat} (ha : a < ms.length) (hb : b < ms.length) (ne : a ≠ b) : Mk n (ms.set a (comp (at_ ms a) (at_ ms b))) X := by
  refine fun S nd sp u c => h S nd sp u fun x hx m hm => ?_
  obtain ⟨j, hj, rfl⟩ := mem_at hm
  by_cases e : j = a
  · subst e
    have mb : at_ ms b ∈ ms.set j (comp (at_ ms j) (at_ ms b)) := by
      refine List.mem_of_getElem? (i := b) ?_
      rw [List.getElem?_set_ne ne, List.getElem?_eq_getElem hb, at_, List.getD, List.getElem?_eq_getElem hb]
      rfl
    have ma : comp (at_ ms j) (at_ ms b) ∈ ms.set j (comp (at_ ms j) (at_ ms b)) := by
      refine List.mem_of_getElem? (i := j) ?_
      rw [List.getElem?_set_self hj]
    have pj := pm _ (at_mem hj)
    have pb := pm _ (at_mem hb)
    have e1 := c x hx _ ma
    rw [← comp_assoc (by rw [pj.len]; exact pb.lt)] at e1
    exact back_in nd sp pb (fun y hy => c y hy _ mb) ((sp x hx).comp pj) e1
  · refine c x hx _ (List.mem_of_getElem? (i := j) ?_)
    rw [List.getElem?_set_ne (Ne.symm e), List.getElem?_eq_getElem hj, at_, List.getD, List.getElem?_eq_getElem hj]
    rfl
/-- by words, renamed -/
theorem mk_words {z : List Nat} (hz : Pm n z) (pm : ∀ m ∈ ms, Pm n m) (h : ∀ x ∈ X, ∃ w : List Nat, (∀ k ∈ w, k < ms.length) ∧ ev n ms w = x) : Mk n (ms.map (cj z)) (X.map (cj z)) := by
  refine fun S nd sp u c y hy => ?_
  obtain ⟨x, hx, rfl⟩ := List.mem_map.mp hy
  obtain ⟨w, hw, rfl⟩ := h x hx
  have key : ∀ w : List Nat, (∀ k ∈ w, k < ms.length) → ∀ v : List Nat, Pm n v → cj z v ∈ S → Pm n (w.foldl (fun x k => comp x (at_ ms k)) v) ∧ cj z (w.foldl (fun x k => comp x (at_ ms k)) v) ∈ S := by
    intro w
    induction w with
    | nil => exact fun _ v hv hs => ⟨hv, hs⟩
    | cons k w ih =>
      intro hw v hv hs
      have hk := hw k List.mem_cons_self
      have pk := pm _ (at_mem hk)
      rw [List.foldl_cons]
      refine ih (fun q hq => hw q (List.mem_cons_of_mem _ hq)) _ (hv.comp pk) ?_
      rw [← cj_comp hz hv pk]
      exact c _ hs _ (List.mem_map.mpr ⟨_, at_mem hk, rfl⟩)
  exact (key w hw _ (pm_unit n) (by rw [cj_unit hz]; exact u)).2
/-- what a full walk finds -/
theorem Mk.found {F W : List (List Nat)} (h : Mk n ms X) (wd : Wd n ms F W) (full : Full ms F) (pm : ∀ m ∈ ms, Pm n m) : ∀ x ∈ X, x ∈ F := by
  refine h F wd.nd (fun x hx => ?_) ?_ fun x hx m hm => ?_
  · obtain ⟨j, hj, rfl⟩ := mem_at hx
    exact wd.pm pm j hj
  · rw [← wd.zero.1]
    exact at_mem wd.one
  · obtain ⟨k, hk, rfl⟩ := mem_at hm
    exact full x hx k hk
end
end GT

set_option Elab.async false
set_option linter.all false
set_option maxRecDepth 100000
set_option maxHeartbeats 0
/-! products of two of the menu's groups (written by k08p.py) -/
namespace GT
theorem x0_0 : chkX b0 b0 [([], 1)] = true := by decide +kernel
theorem x0_1 : chkX b0 b1 [([], 1), ([1], 3)] = true := by decide +kernel
theorem x0_2 : chkX b0 b2 [([], 1), ([1], 7)] = true := by decide +kernel
theorem x0_3 : chkX b0 b3 [([], 1), ([1], 15), ([2], 5)] = true := by decide +kernel
theorem x0_4 : chkX b0 b4 [([], 1), ([1], 3), ([2], 5), ([3], 9), ([1, 2], 15)] = true := by decide +kernel
theorem x0_5 : chkX b0 b5 [([], 1), ([1], 3), ([2], 5), ([3], 25), ([5], 33), ([1, 2], 63)] = true := by decide +kernel
theorem x0_6 : chkX b0 b6 [([], 1), ([1], 7), ([3], 9), ([4], 63)] = true := by decide +kernel
theorem x0_7 : chkX b0 b7 [([], 1), ([1], 31)] = true := by decide +kernel
theorem x1_0 : chkX b1 b0 [([], 1), ([1], 3)] = true := by decide +kernel
theorem x1_1 : chkX b1 b1 [([], 1), ([1], 3), ([2], 5), ([3], 9), ([1, 2], 15)] = true := by decide +kernel
theorem x1_2 : chkX b1 b2 [([], 1), ([1], 7), ([3], 9), ([4], 63)] = true := by decide +kernel
theorem x1_3 : chkX b1 b3 [([], 1), ([1], 15), ([2], 5), ([4], 17), ([5], 165), ([6], 65), ([1, 4], 255), ([2, 4], 85)] = true := by decide +kernel
theorem x1_4 : chkX b1 b4 [([], 1), ([1], 3), ([2], 5), ([3], 9), ([4], 17), ([5], 33), ([6], 65), ([7], 129), ([1, 2], 15), ([1, 4], 51), ([1, 6], 195), ([2, 4], 85), ([2, 5], 165), ([3, 4], 153), ([3, 5], 105), ([1, 2, 4], 255)] = true := by decide +kernel
theorem x1_5 : chkX b1 b5 [([], 1), ([1], 3), ([2], 5), ([3], 25), ([5], 33), ([6], 65), ([7], 129), ([8], 257), ([9], 1625), ([11], 2049), ([1, 2], 63), ([1, 6], 195), ([1, 8], 4095), ([2, 6], 325), ([3, 7], 2457), ([5, 6], 2145)] = true := by decide +kernel
theorem x1_6 : chkX b1 b6 [([], 1), ([1], 7), ([3], 9), ([4], 63), ([6], 65), ([7], 455), ([9], 513), ([10], 3591), ([3, 6], 585), ([3, 7], 4095)] = true := by decide +kernel
theorem x1_7 : chkX b1 b7 [([], 1), ([1], 31), ([5], 33), ([6], 1023)] = true := by decide +kernel
theorem x2_0 : chkX b2 b0 [([], 1), ([1], 7)] = true := by decide +kernel
theorem x2_1 : chkX b2 b1 [([], 1), ([1], 3), ([2], 21), ([3], 63)] = true := by decide +kernel
theorem x2_2 : chkX b2 b2 [([], 1), ([1], 7), ([3], 73), ([4], 273), ([5], 161), ([1, 3], 511)] = true := by decide +kernel
theorem x2_3 : chkX b2 b3 [([], 1), ([1], 15), ([2], 5), ([4], 273), ([5], 4095), ([6], 1365)] = true := by decide +kernel
theorem x2_4 : chkX b2 b4 [([], 1), ([1], 3), ([2], 5), ([3], 9), ([4], 273), ([5], 819), ([6], 1365), ([7], 2457), ([1, 2], 15), ([1, 6], 4095)] = true := by decide +kernel
theorem x3_0 : chkX b3 b0 [([], 1), ([1], 15), ([2], 5)] = true := by decide +kernel
theorem x3_1 : chkX b3 b1 [([], 1), ([1], 3), ([2], 85), ([3], 153), ([4], 17), ([5], 33), ([1, 2], 255), ([1, 4], 51)] = true := by decide +kernel
theorem x3_2 : chkX b3 b2 [([], 1), ([1], 7), ([3], 585), ([4], 4095), ([6], 65), ([7], 455)] = true := by decide +kernel
theorem x4_0 : chkX b4 b0 [([], 1), ([1], 3), ([2], 5), ([3], 9), ([1, 2], 15)] = true := by decide +kernel
theorem x4_1 : chkX b4 b1 [([], 1), ([1], 3), ([2], 5), ([3], 9), ([4], 17), ([5], 33), ([6], 65), ([7], 129), ([1, 2], 15), ([1, 4], 51), ([1, 6], 195), ([2, 4], 85), ([2, 5], 165), ([3, 4], 153), ([3, 5], 105), ([1, 2, 4], 255)] = true := by decide +kernel
theorem x4_2 : chkX b4 b2 [([], 1), ([1], 7), ([3], 9), ([4], 63), ([6], 65), ([7], 455), ([9], 513), ([10], 3591), ([3, 6], 585), ([3, 7], 4095)] = true := by decide +kernel
theorem x5_0 : chkX b5 b0 [([], 1), ([1], 3), ([2], 5), ([3], 25), ([5], 33), ([1, 2], 63)] = true := by decide +kernel
theorem x5_1 : chkX b5 b1 [([], 1), ([1], 3), ([2], 5), ([3], 9), ([4], 17), ([5], 33), ([6], 321), ([7], 963), ([10], 1025), ([11], 2049), ([1, 2], 15), ([1, 4], 51), ([1, 10], 3075), ([2, 4], 1365), ([2, 5], 4095), ([3, 5], 2409)] = true := by decide +kernel
theorem x6_0 : chkX b6 b0 [([], 1), ([1], 7), ([3], 9), ([4], 63)] = true := by decide +kernel
theorem x6_1 : chkX b6 b1 [([], 1), ([1], 3), ([2], 21), ([3], 63), ([6], 65), ([7], 129), ([8], 1365), ([9], 2709), ([1, 6], 195), ([1, 8], 4095)] = true := by decide +kernel
theorem x7_0 : chkX b7 b0 [([], 1), ([1], 31)] = true := by decide +kernel
theorem x7_1 : chkX b7 b1 [([], 1), ([1], 3), ([2], 341), ([3], 1023)] = true := by decide +kernel
def okW (b : Bs) (ws : List (List Nat)) : Bool := b.G.all fun x => ws.any fun w => (w.all fun k => decide (k < b.ms.length)) && ev b.n b.ms w == x
theorem w0 : okW b0 [[]] = true := by decide +kernel
theorem w1 : okW b1 [[], [0]] = true := by decide +kernel
theorem w2 : okW b2 [[], [0], [0, 0]] = true := by decide +kernel
theorem w3 : okW b3 [[], [0], [0, 0], [0, 0, 0]] = true := by decide +kernel
theorem w4 : okW b4 [[], [0], [1], [0, 1]] = true := by decide +kernel
theorem w5 : okW b5 [[], [0], [1], [0, 1], [1, 0], [1, 1]] = true := by decide +kernel
theorem w6 : okW b6 [[], [0], [1], [0, 1], [1, 1], [0, 1, 1]] = true := by decide +kernel
theorem w7 : okW b7 [[], [0], [0, 0], [0, 0, 0], [0, 0, 0, 0]] = true := by decide +kernel
theorem w8 : okW b8 [[], [0], [1], [0, 0], [0, 1], [1, 0], [0, 0, 0], [0, 0, 1]] = true := by decide +kernel
theorem w9 : okW b9 [[], [0], [1], [0, 0], [0, 1], [1, 0], [0, 0, 0], [0, 0, 1]] = true := by decide +kernel
theorem w10 : okW b10 [[], [0], [1], [0, 1], [1, 1], [0, 1, 1], [1, 1, 1], [0, 1, 1, 1]] = true := by decide +kernel
theorem w11 : okW b11 [[], [0], [1], [2], [0, 1], [0, 2], [1, 2], [0, 1, 2]] = true := by decide +kernel
theorem w12 : okW b12 [[], [0], [0, 0], [0, 0, 0], [0, 0, 0, 0], [0, 0, 0, 0, 0], [0, 0, 0, 0, 0, 0], [0, 0, 0, 0, 0, 0, 0]] = true := by decide +kernel
theorem w13 : okW b13 [[], [0], [1], [0, 0], [0, 1], [1, 1], [0, 0, 1], [0, 1, 1], [0, 0, 1, 1]] = true := by decide +kernel
theorem w14 : okW b14 [[], [0], [1], [0, 0], [0, 1], [1, 0], [0, 0, 0], [0, 0, 1], [1, 0, 0], [1, 0, 1]] = true := by decide +kernel
theorem w15 : okW b15 [[], [0], [1], [0, 0], [0, 1], [1, 0], [0, 0, 1], [0, 1, 0], [1, 0, 0], [1, 0, 1], [0, 0, 1, 0], [0, 1, 0, 0]] = true := by decide +kernel
theorem w16 : okW b16 [[], [0], [1], [2], [0, 1], [0, 2], [1, 0], [1, 1], [1, 2], [0, 1, 2], [1, 0, 2], [1, 1, 2]] = true := by decide +kernel
theorem w17 : okW b17 [[], [0], [1], [0, 0], [0, 1], [1, 0], [1, 1], [0, 1, 1], [1, 0, 1], [1, 1, 1], [0, 1, 1, 1], [1, 0, 1, 1]] = true := by decide +kernel
theorem w18 : okW b18 [[], [0], [0, 0], [0, 0, 0], [0, 0, 0, 0], [0, 0, 0, 0, 0], [0, 0, 0, 0, 0, 0]] = true := by decide +kernel
theorem w19 : okW b19 [[], [0], [1], [0, 0], [0, 1], [1, 0], [0, 0, 0], [0, 0, 1], [1, 0, 0], [1, 0, 1], [0, 0, 0, 0], [0, 0, 0, 1], [1, 0, 0, 0], [1, 0, 0, 1], [0, 0, 0, 0, 0], [0, 0, 0, 0, 1]] = true := by decide +kernel
theorem w20 : okW b20 [[], [0], [1], [0, 0], [0, 1], [1, 0], [1, 1], [0, 0, 0], [0, 1, 0], [0, 1, 1], [1, 0, 0], [1, 0, 1], [1, 1, 0], [1, 1, 1], [0, 0, 0, 0], [0, 1, 0, 1], [0, 1, 1, 1], [1, 0, 1, 1], [1, 1, 0, 1], [1, 1, 1, 0]] = true := by decide +kernel
theorem w21 : okW b21 [[], [0], [1], [0, 0], [0, 1], [1, 0], [1, 1], [0, 0, 0], [0, 1, 0], [0, 1, 1], [1, 0, 0], [1, 0, 1], [1, 1, 0], [0, 0, 0, 0], [0, 1, 0, 0], [0, 1, 0, 1], [0, 1, 1, 0], [1, 0, 0, 0], [1, 0, 1, 0], [0, 0, 0, 0, 0], [1, 0, 1, 0, 1]] = true := by decide +kernel
theorem w22 : okW b22 [[], [0], [1], [2], [0, 0], [0, 1], [0, 2], [1, 1], [1, 2], [2, 0], [2, 1], [0, 0, 1], [0, 1, 1], [0, 1, 2], [0, 2, 1], [1, 2, 0], [2, 0, 1], [0, 0, 1, 1]] = true := by decide +kernel
theorem w23 : okW b23 [[], [0], [1], [0, 1], [1, 0], [1, 1], [0, 1, 0], [0, 1, 1], [1, 0, 1], [1, 1, 0], [1, 1, 1], [0, 1, 0, 1], [0, 1, 1, 0], [0, 1, 1, 1], [1, 0, 1, 1], [1, 1, 0, 1], [0, 1, 0, 1, 1], [0, 1, 1, 0, 1], [1, 0, 1, 1, 0], [1, 0, 1, 1, 1], [1, 1, 0, 1, 1], [0, 1, 0, 1, 1, 0], [0, 1, 0, 1, 1, 1], [0, 1, 1, 0, 1, 1]] = true := by decide +kernel
theorem w24 : okW b24 [[], [0], [1], [2], [0, 0], [0, 1], [0, 2], [1, 0], [1, 2], [0, 0, 1], [0, 0, 2], [0, 1, 0], [0, 1, 2], [1, 0, 0], [1, 0, 1], [1, 0, 2], [0, 0, 1, 0], [0, 0, 1, 2], [0, 1, 0, 0], [0, 1, 0, 2], [1, 0, 0, 2], [1, 0, 1, 2], [0, 0, 1, 0, 2], [0, 1, 0, 0, 2]] = true := by decide +kernel
theorem w25 : okW b25 [[], [0], [1], [0, 0], [0, 1], [1, 0], [1, 1], [0, 0, 1], [0, 1, 0], [0, 1, 1], [1, 0, 0], [1, 0, 1], [1, 1, 0], [0, 0, 1, 0], [0, 0, 1, 1], [0, 1, 0, 0], [0, 1, 0, 1], [0, 1, 1, 0], [1, 0, 0, 1], [1, 0, 1, 1], [1, 1, 0, 0], [1, 1, 0, 1], [0, 0, 1, 0, 1], [0, 1, 0, 1, 1]] = true := by decide +kernel
def menuBs : List Bs := [b0, b1, b2, b3, b4, b5, b6, b7, b8, b9, b10, b11, b12, b13, b14, b15, b16, b17, b18, b19, b20, b21, b22, b23, b24, b25]
theorem menu_all : ∀ b ∈ menuBs, b.ok = true ∧ ∃ ws, okW b ws = true := by
  intro b hb
  unfold menuBs at hb
  rcases List.mem_cons.mp hb with rfl | hb
  · exact ⟨b0_ok, _, w0⟩
  rcases List.mem_cons.mp hb with rfl | hb
  · exact ⟨b1_ok, _, w1⟩
  rcases List.mem_cons.mp hb with rfl | hb
  · exact ⟨b2_ok, _, w2⟩
  rcases List.mem_cons.mp hb with rfl | hb
  · exact ⟨b3_ok, _, w3⟩
  rcases List.mem_cons.mp hb with rfl | hb
  · exact ⟨b4_ok, _, w4⟩
  rcases List.mem_cons.mp hb with rfl | hb
  · exact ⟨b5_ok, _, w5⟩
  rcases List.mem_cons.mp hb with rfl | hb
  · exact ⟨b6_ok, _, w6⟩
  rcases List.mem_cons.mp hb with rfl | hb
  · exact ⟨b7_ok, _, w7⟩
  rcases List.mem_cons.mp hb with rfl | hb
  · exact ⟨b8_ok, _, w8⟩
  rcases List.mem_cons.mp hb with rfl | hb
  · exact ⟨b9_ok, _, w9⟩
  rcases List.mem_cons.mp hb with rfl | hb
  · exact ⟨b10_ok, _, w10⟩
  rcases List.mem_cons.mp hb with rfl | hb
  · exact ⟨b11_ok, _, w11⟩
  rcases List.mem_cons.mp hb with rfl | hb
  · exact ⟨b12_ok, _, w12⟩
  rcases List.mem_cons.mp hb with rfl | hb
  · exact ⟨b13_ok, _, w13⟩
  rcases List.mem_cons.mp hb with rfl | hb
  · exact ⟨b14_ok, _, w14⟩
  rcases List.mem_cons.mp hb with rfl | hb
  · exact ⟨b15_ok, _, w15⟩
  rcases List.mem_cons.mp hb with rfl | hb
  · exact ⟨b16_ok, _, w16⟩
  rcases List.mem_cons.mp hb with rfl | hb
  · exact ⟨b17_ok, _, w17⟩
  rcases List.mem_cons.mp hb with rfl | hb
  · exact ⟨b18_ok, _, w18⟩
  rcases List.mem_cons.mp hb with rfl | hb
  · exact ⟨b19_ok, _, w19⟩
  rcases List.mem_cons.mp hb with rfl | hb
  · exact ⟨b20_ok, _, w20⟩
  rcases List.mem_cons.mp hb with rfl | hb
  · exact ⟨b21_ok, _, w21⟩
  rcases List.mem_cons.mp hb with rfl | hb
  · exact ⟨b22_ok, _, w22⟩
  rcases List.mem_cons.mp hb with rfl | hb
  · exact ⟨b23_ok, _, w23⟩
  rcases List.mem_cons.mp hb with rfl | hb
  · exact ⟨b24_ok, _, w24⟩
  rcases List.mem_cons.mp hb with rfl | hb
  · exact ⟨b25_ok, _, w25⟩
  cases hb
theorem menu_small : ∀ b ∈ menuBs, b.G.length ≤ 6 → b ∈ [b0, b1, b2, b3, b4, b5, b6, b7] := by
  intro b hb h
  unfold menuBs at hb
  rcases List.mem_cons.mp hb with rfl | hb
  · simp
  rcases List.mem_cons.mp hb with rfl | hb
  · simp
  rcases List.mem_cons.mp hb with rfl | hb
  · simp
  rcases List.mem_cons.mp hb with rfl | hb
  · simp
  rcases List.mem_cons.mp hb with rfl | hb
  · simp
  rcases List.mem_cons.mp hb with rfl | hb
  · simp
  rcases List.mem_cons.mp hb with rfl | hb
  · simp
  rcases List.mem_cons.mp hb with rfl | hb
  · simp
  rcases List.mem_cons.mp hb with rfl | hb
  · exact absurd h (by decide)
  rcases List.mem_cons.mp hb with rfl | hb
  · exact absurd h (by decide)
  rcases List.mem_cons.mp hb with rfl | hb
  · exact absurd h (by decide)
  rcases List.mem_cons.mp hb with rfl | hb
  · exact absurd h (by decide)
  rcases List.mem_cons.mp hb with rfl | hb
  · exact absurd h (by decide)
  rcases List.mem_cons.mp hb with rfl | hb
  · exact absurd h (by decide)
  rcases List.mem_cons.mp hb with rfl | hb
  · exact absurd h (by decide)
  rcases List.mem_cons.mp hb with rfl | hb
  · exact absurd h (by decide)
  rcases List.mem_cons.mp hb with rfl | hb
  · exact absurd h (by decide)
  rcases List.mem_cons.mp hb with rfl | hb
  · exact absurd h (by decide)
  rcases List.mem_cons.mp hb with rfl | hb
  · exact absurd h (by decide)
  rcases List.mem_cons.mp hb with rfl | hb
  · exact absurd h (by decide)
  rcases List.mem_cons.mp hb with rfl | hb
  · exact absurd h (by decide)
  rcases List.mem_cons.mp hb with rfl | hb
  · exact absurd h (by decide)
  rcases List.mem_cons.mp hb with rfl | hb
  · exact absurd h (by decide)
  rcases List.mem_cons.mp hb with rfl | hb
  · exact absurd h (by decide)
  rcases List.mem_cons.mp hb with rfl | hb
  · exact absurd h (by decide)
  rcases List.mem_cons.mp hb with rfl | hb
  · exact absurd h (by decide)
  cases hb
theorem pair0 : ∀ b ∈ [b0, b1, b2, b3, b4, b5, b6, b7], b0.G.length * b.G.length ≤ 12 → ∃ Ls, chkX b0 b Ls = true := by
  intro b hb h
  rcases List.mem_cons.mp hb with rfl | hb
  · exact ⟨_, x0_0⟩
  rcases List.mem_cons.mp hb with rfl | hb
  · exact ⟨_, x0_1⟩
  rcases List.mem_cons.mp hb with rfl | hb
  · exact ⟨_, x0_2⟩
  rcases List.mem_cons.mp hb with rfl | hb
  · exact ⟨_, x0_3⟩
  rcases List.mem_cons.mp hb with rfl | hb
  · exact ⟨_, x0_4⟩
  rcases List.mem_cons.mp hb with rfl | hb
  · exact ⟨_, x0_5⟩
  rcases List.mem_cons.mp hb with rfl | hb
  · exact ⟨_, x0_6⟩
  rcases List.mem_cons.mp hb with rfl | hb
  · exact ⟨_, x0_7⟩
  cases hb
theorem pair1 : ∀ b ∈ [b0, b1, b2, b3, b4, b5, b6, b7], b1.G.length * b.G.length ≤ 12 → ∃ Ls, chkX b1 b Ls = true := by
  intro b hb h
  rcases List.mem_cons.mp hb with rfl | hb
  · exact ⟨_, x1_0⟩
  rcases List.mem_cons.mp hb with rfl | hb
  · exact ⟨_, x1_1⟩
  rcases List.mem_cons.mp hb with rfl | hb
  · exact ⟨_, x1_2⟩
  rcases List.mem_cons.mp hb with rfl | hb
  · exact ⟨_, x1_3⟩
  rcases List.mem_cons.mp hb with rfl | hb
  · exact ⟨_, x1_4⟩
  rcases List.mem_cons.mp hb with rfl | hb
  · exact ⟨_, x1_5⟩
  rcases List.mem_cons.mp hb with rfl | hb
  · exact ⟨_, x1_6⟩
  rcases List.mem_cons.mp hb with rfl | hb
  · exact ⟨_, x1_7⟩
  cases hb
theorem pair2 : ∀ b ∈ [b0, b1, b2, b3, b4, b5, b6, b7], b2.G.length * b.G.length ≤ 12 → ∃ Ls, chkX b2 b Ls = true := by
  intro b hb h
  rcases List.mem_cons.mp hb with rfl | hb
  · exact ⟨_, x2_0⟩
  rcases List.mem_cons.mp hb with rfl | hb
  · exact ⟨_, x2_1⟩
  rcases List.mem_cons.mp hb with rfl | hb
  · exact ⟨_, x2_2⟩
  rcases List.mem_cons.mp hb with rfl | hb
  · exact ⟨_, x2_3⟩
  rcases List.mem_cons.mp hb with rfl | hb
  · exact ⟨_, x2_4⟩
  rcases List.mem_cons.mp hb with rfl | hb
  · exact absurd h (by decide)
  rcases List.mem_cons.mp hb with rfl | hb
  · exact absurd h (by decide)
  rcases List.mem_cons.mp hb with rfl | hb
  · exact absurd h (by decide)
  cases hb
theorem pair3 : ∀ b ∈ [b0, b1, b2, b3, b4, b5, b6, b7], b3.G.length * b.G.length ≤ 12 → ∃ Ls, chkX b3 b Ls = true := by
  intro b hb h
  rcases List.mem_cons.mp hb with rfl | hb
  · exact ⟨_, x3_0⟩
  rcases List.mem_cons.mp hb with rfl | hb
  · exact ⟨_, x3_1⟩
  rcases List.mem_cons.mp hb with rfl | hb
  · exact ⟨_, x3_2⟩
  rcases List.mem_cons.mp hb with rfl | hb
  · exact absurd h (by decide)
  rcases List.mem_cons.mp hb with rfl | hb
  · exact absurd h (by decide)
  rcases List.mem_cons.mp hb with rfl | hb
  · exact absurd h (by decide)
  rcases List.mem_cons.mp hb with rfl | hb
  · exact absurd h (by decide)
  rcases List.mem_cons.mp hb with rfl | hb
  · exact absurd h (by decide)
  cases hb
theorem pair4 : ∀ b ∈ [b0, b1, b2, b3, b4, b5, b6, b7], b4.G.length * b.G.length ≤ 12 → ∃ Ls, chkX b4 b Ls = true := by
  intro b hb h
  rcases List.mem_cons.mp hb with rfl | hb
  · exact ⟨_, x4_0⟩
  rcases List.mem_cons.mp hb with rfl | hb
  · exact ⟨_, x4_1⟩
  rcases List.mem_cons.mp hb with rfl | hb
  · exact ⟨_, x4_2⟩
  rcases List.mem_cons.mp hb with rfl | hb
  · exact absurd h (by decide)
  rcases List.mem_cons.mp hb with rfl | hb
  · exact absurd h (by decide)
  rcases List.mem_cons.mp hb with rfl | hb
  · exact absurd h (by decide)
  rcases List.mem_cons.mp hb with rfl | hb
  · exact absurd h (by decide)
  rcases List.mem_cons.mp hb with rfl | hb
  · exact absurd h (by decide)
  cases hb
theorem pair5 : ∀ b ∈ [b0, b1, b2, b3, b4, b5, b6, b7], b5.G.length * b.G.length ≤ 12 → ∃ Ls, chkX b5 b Ls = true := by
  intro b hb h
  rcases List.mem_cons.mp hb with rfl | hb
  · exact ⟨_, x5_0⟩
  rcases List.mem_cons.mp hb with rfl | hb
  · exact ⟨_, x5_1⟩
  rcases List.mem_cons.mp hb with rfl | hb
  · exact absurd h (by decide)
  rcases List.mem_cons.mp hb with rfl | hb
  · exact absurd h (by decide)
  rcases List.mem_cons.mp hb with rfl | hb
  · exact absurd h (by decide)
  rcases List.mem_cons.mp hb with rfl | hb
  · exact absurd h (by decide)
  rcases List.mem_cons.mp hb with rfl | hb
  · exact absurd h (by decide)
  rcases List.mem_cons.mp hb with rfl | hb
  · exact absurd h (by decide)
  cases hb
theorem pair6 : ∀ b ∈ [b0, b1, b2, b3, b4, b5, b6, b7], b6.G.length * b.G.length ≤ 12 → ∃ Ls, chkX b6 b Ls = true := by
  intro b hb h
  rcases List.mem_cons.mp hb with rfl | hb
  · exact ⟨_, x6_0⟩
  rcases List.mem_cons.mp hb with rfl | hb
  · exact ⟨_, x6_1⟩
  rcases List.mem_cons.mp hb with rfl | hb
  · exact absurd h (by decide)
  rcases List.mem_cons.mp hb with rfl | hb
  · exact absurd h (by decide)
  rcases List.mem_cons.mp hb with rfl | hb
  · exact absurd h (by decide)
  rcases List.mem_cons.mp hb with rfl | hb
  · exact absurd h (by decide)
  rcases List.mem_cons.mp hb with rfl | hb
  · exact absurd h (by decide)
  rcases List.mem_cons.mp hb with rfl | hb
  · exact absurd h (by decide)
  cases hb
theorem pair7 : ∀ b ∈ [b0, b1, b2, b3, b4, b5, b6, b7], b7.G.length * b.G.length ≤ 12 → ∃ Ls, chkX b7 b Ls = true := by
  intro b hb h
  rcases List.mem_cons.mp hb with rfl | hb
  · exact ⟨_, x7_0⟩
  rcases List.mem_cons.mp hb with rfl | hb
  · exact ⟨_, x7_1⟩
  rcases List.mem_cons.mp hb with rfl | hb
  · exact absurd h (by decide)
  rcases List.mem_cons.mp hb with rfl | hb
  · exact absurd h (by decide)
  rcases List.mem_cons.mp hb with rfl | hb
  · exact absurd h (by decide)
  rcases List.mem_cons.mp hb with rfl | hb
  · exact absurd h (by decide)
  rcases List.mem_cons.mp hb with rfl | hb
  · exact absurd h (by decide)
  rcases List.mem_cons.mp hb with rfl | hb
  · exact absurd h (by decide)
  cases hb
theorem pairs : ∀ a ∈ menuBs, ∀ b ∈ menuBs, a.G.length ≤ 6 → b.G.length ≤ 6 → a.G.length * b.G.length ≤ 12 → ∃ Ls, chkX a b Ls = true := by
  intro a ha b hb h1 h2 h
  replace ha := menu_small a ha h1
  replace hb := menu_small b hb h2
  rcases List.mem_cons.mp ha with rfl | ha
  · exact pair0 b hb h
  rcases List.mem_cons.mp ha with rfl | ha
  · exact pair1 b hb h
  rcases List.mem_cons.mp ha with rfl | ha
  · exact pair2 b hb h
  rcases List.mem_cons.mp ha with rfl | ha
  · exact pair3 b hb h
  rcases List.mem_cons.mp ha with rfl | ha
  · exact pair4 b hb h
  rcases List.mem_cons.mp ha with rfl | ha
  · exact pair5 b hb h
  rcases List.mem_cons.mp ha with rfl | ha
  · exact pair6 b hb h
  rcases List.mem_cons.mp ha with rfl | ha
  · exact pair7 b hb h
  cases ha
end GT

set_option Elab.async false
set_option linter.all false
/-! drawn groups -/
namespace GT
/-- a group of the menu with at most so many moves, its places renamed, told by other makers -/
def DrB (b : Bs) (z : List Nat) (most n : Nat) (ms : List (List Nat)) : Prop := b ∈ menuBs ∧ b.G.length ≤ most ∧ n = b.n ∧ Pm n z ∧ (∀ m ∈ ms, m ∈ b.G.map (cj z)) ∧ Mk n ms (b.G.map (cj z)) ∧ ms.length ≤ 4 ∧ 1 ≤ n ∧ n ≤ 8
section
variable {b : Bs} {z : List Nat} {most n : Nat} {ms F W : List (List Nat)} (h : DrB b z most n ms)
include h
theorem DrB.mvs : Mvs n (b.G.map (cj z)) := by
  obtain ⟨mb, _, rfl, hz, _⟩ := h
  exact cj_mvs hz (Bs.all (menu_all b mb).1).1
theorem DrB.pm : ∀ m ∈ ms, Pm n m := fun m hm => h.mvs.pm m (h.2.2.2.2.1 m hm)
theorem DrB.ok : GrpOk n ms := by
  have hm := h.mvs
  have pm := h.pm
  obtain ⟨mb, _, rfl, hz, sub, _, m4, n1, n8⟩ := h
  obtain ⟨hM, few, l24, _⟩ := Bs.all (menu_all b mb).1
  exact ⟨n1, by omega, by omega, pm, _, hm, sub, by rw [List.length_map]; omega, cj_few hz hM few⟩
theorem DrB.found (wd : Wd n ms F W) (full : Full ms F) : ∀ x, x ∈ F ↔ x ∈ b.G.map (cj z) := fun x => by
  constructor
  · intro hx
    obtain ⟨j, hj, rfl⟩ := mem_at hx
    refine wd.sub (G := b.G.map (cj z)) ?_ (fun x hx k hk => h.mvs.mul x hx _ (h.2.2.2.2.1 _ (at_mem hk))) j hj
    rw [← h.mvs.one]
    exact at_mem h.mvs.pos
  · exact fun hx => h.2.2.2.2.2.1.found wd full h.pm x hx
theorem DrB.count (wd : Wd n ms F W) (full : Full ms F) : F.length = b.G.length := by
  have e := h.found wd full
  have := sub_len wd.nd fun x hx => (e x).mp hx
  have := sub_len h.mvs.nd fun x hx => (e x).mpr hx
  rw [List.length_map] at *
  omega
end
section
variable {b1 b2 : Bs} {z1 z2 : List Nat} {n1 n2 : Nat} {ms1 ms2 F1 W1 F2 W2 F W : List (List Nat)} (h1 : DrB b1 z1 6 n1 ms1) (h2 : DrB b2 z2 6 n2 ms2)
/-- the makers of a product -/
def besM (n1 n2 : Nat) (ms1 ms2 : List (List Nat)) : List (List Nat) := (ms1.map fun m => bes m (List.range n2)) ++ ms2.map fun m => bes (List.range n1) m
theorem besM_pm (p1 : ∀ m ∈ ms1, Pm n1 m) (p2 : ∀ m ∈ ms2, Pm n2 m) : ∀ m ∈ besM n1 n2 ms1 ms2, Pm (n1 + n2) m := fun m hm => by
  rcases List.mem_append.mp hm with hm | hm
  · obtain ⟨x, hx, rfl⟩ := List.mem_map.mp hm
    exact bes_pm (p1 x hx) (pm_unit n2)
  · obtain ⟨x, hx, rfl⟩ := List.mem_map.mp hm
    exact bes_pm (pm_unit n1) (p2 x hx)
theorem tp_ok {b : Bs} (h : b.ok = true) {i j : Nat} (hi : i < b.G.length) (hj : j < b.G.length) : tP b.T i j = tb b.G i j := by
  unfold Bs.ok at h
  simp only [Bool.and_eq_true] at h
  exact of_decide_eq_true (List.all_eq_true.mp (List.all_eq_true.mp h.2.2.2.1 i (List.mem_range.mpr hi)) j (List.mem_range.mpr hj))
include h1 h2
theorem prod_ok (hm : ms1.length + ms2.length ≤ 6) (few : b1.G.length * b2.G.length ≤ 12) : GrpOk (n1 + n2) (besM n1 n2 ms1 ms2) := by
  have v1 := h1.mvs
  have v2 := h2.mvs
  have pm := besM_pm h1.pm h2.pm
  obtain ⟨m1, l1, rfl, hz1, s1, _, _, k1, k8⟩ := h1
  obtain ⟨m2, l2, rfl, hz2, s2, _, _, j1, j8⟩ := h2
  obtain ⟨Ls, c⟩ := pairs b1 m1 b2 m2 l1 l2 few
  obtain ⟨hM1, _, _, _⟩ := Bs.all (menu_all b1 m1).1
  obtain ⟨hM2, _, _, _⟩ := Bs.all (menu_all b2 m2).1
  refine ⟨by omega, by omega, by unfold besM; rw [List.length_append, List.length_map, List.length_map]; exact hm, pm, prodL (b1.G.map (cj z1)) (b2.G.map (cj z2)), prod_mvs v1 v2, fun m hm => ?_, by rw [prod_len, List.length_map, List.length_map]; omega, ?_⟩
  · rcases List.mem_append.mp hm with hm | hm
    · obtain ⟨x, hx, rfl⟩ := List.mem_map.mp hm
      refine mem_prod.mpr ⟨x, s1 x hx, _, ?_, rfl⟩
      rw [← v2.one]
      exact at_mem v2.pos
    · obtain ⟨x, hx, rfl⟩ := List.mem_map.mp hm
      refine mem_prod.mpr ⟨_, ?_, x, s2 x hx, rfl⟩
      rw [← v1.one]
      exact at_mem v1.pos
  · unfold chkX at c
    rw [Bool.and_eq_true] at c
    refine fun L nd hL => Nat.le_trans (chkS_few (chkM_S c.1) L nd fun B hB => ?_) (by rw [List.length_map]; exact of_decide_eq_true c.2)
    have sb := hL B hB
    have el : (prodL (b1.G.map (cj z1)) (b2.G.map (cj z2))).length = b1.G.length * b2.G.length := by rw [prod_len, List.length_map, List.length_map]
    rw [← el]
    refine sg_congr (fun i hi j hj => ?_) sb
    rw [prod_tb v1 v2 hi hj, List.length_map]
    rw [el] at hi hj
    have p2 := hM2.pos
    have d1 : ∀ {a : Nat}, a < b1.G.length * b2.G.length → a / b2.G.length < b1.G.length := fun {a} ha => Nat.div_lt_of_lt_mul (by rw [Nat.mul_comm]; exact ha)
    unfold tX
    rw [cj_tb hz1 hM1 (d1 hi) (d1 hj), cj_tb hz2 hM2 (Nat.mod_lt _ p2) (Nat.mod_lt _ p2), tp_ok (menu_all b1 m1).1 (d1 hi) (d1 hj), tp_ok (menu_all b2 m2).1 (Nat.mod_lt _ p2) (Nat.mod_lt _ p2)]
/-- what the makers of a product make -/
theorem prod_found (wd : Wd (n1 + n2) (besM n1 n2 ms1 ms2) F W) (full : Full (besM n1 n2 ms1 ms2) F) (wd1 : Wd n1 ms1 F1 W1) (f1 : Full ms1 F1) (wd2 : Wd n2 ms2 F2 W2) (f2 : Full ms2 F2) : ∀ x, x ∈ F ↔ x ∈ prodL F1 F2 := by
  have e1 := h1.found wd1 f1
  have e2 := h2.found wd2 f2
  have p1 : ∀ x ∈ F1, Pm n1 x := fun x hx => h1.mvs.pm x ((e1 x).mp hx)
  have p2 : ∀ x ∈ F2, Pm n2 x := fun x hx => h2.mvs.pm x ((e2 x).mp hx)
  have u1 : List.range n1 ∈ F1 := by rw [← wd1.zero.1]; exact at_mem wd1.one
  have u2 : List.range n2 ∈ F2 := by rw [← wd2.zero.1]; exact at_mem wd2.one
  have fl : ∀ x ∈ F, ∀ m ∈ besM n1 n2 ms1 ms2, comp x m ∈ F := fun x hx m hm => by
    obtain ⟨k, hk, rfl⟩ := mem_at hm
    exact full x hx k hk
  have fl1 : ∀ x ∈ F1, ∀ m ∈ ms1, comp x m ∈ F1 := fun x hx m hm => by
    obtain ⟨k, hk, rfl⟩ := mem_at hm
    exact f1 x hx k hk
  have fl2 : ∀ x ∈ F2, ∀ m ∈ ms2, comp x m ∈ F2 := fun x hx m hm => by
    obtain ⟨k, hk, rfl⟩ := mem_at hm
    exact f2 x hx k hk
  intro x
  constructor
  · intro hx
    obtain ⟨j, hj, rfl⟩ := mem_at hx
    refine wd.sub (G := prodL F1 F2) ?_ (fun x hx k hk => ?_) j hj
    · rw [← bes_unit]
      exact mem_prod.mpr ⟨_, u1, _, u2, rfl⟩
    · obtain ⟨a, ha, b, hb, rfl⟩ := mem_prod.mp hx
      have mk := at_mem hk
      generalize at_ (besM n1 n2 ms1 ms2) k = mm at mk ⊢
      rcases List.mem_append.mp mk with hm | hm
      · obtain ⟨m, hm, e⟩ := List.mem_map.mp hm
        rw [← e, bes_comp (p1 a ha) (p2 b hb) (h1.pm m hm) (pm_unit n2), comp_unit (p2 b hb).len]
        exact mem_prod.mpr ⟨_, fl1 a ha m hm, b, hb, rfl⟩
      · obtain ⟨m, hm, e⟩ := List.mem_map.mp hm
        rw [← e, bes_comp (p1 a ha) (p2 b hb) (pm_unit n1) (h2.pm m hm), comp_unit (p1 a ha).len]
        exact mem_prod.mpr ⟨a, ha, _, fl2 b hb m hm, rfl⟩
  · intro hx
    obtain ⟨a, ha, b, hb, rfl⟩ := mem_prod.mp hx
    have uF : bes (List.range n1) (List.range n2) ∈ F := by
      rw [bes_unit, ← wd.zero.1]
      exact at_mem wd.one
    have s1 : ∀ a ∈ F1, bes a (List.range n2) ∈ F := fun a ha => by
      have := h1.2.2.2.2.2.1 (F1.filter fun x => decide (bes x (List.range n2) ∈ F)) (wd1.nd.sublist List.filter_sublist) (fun x hx => p1 x (List.mem_filter.mp hx).1) (List.mem_filter.mpr ⟨u1, decide_eq_true uF⟩) (fun x hx m hm => ?_) a ((e1 a).mp ha)
      · exact of_decide_eq_true (List.mem_filter.mp this).2
      · obtain ⟨xF, xB⟩ := List.mem_filter.mp hx
        refine List.mem_filter.mpr ⟨fl1 x xF m hm, decide_eq_true ?_⟩
        have := fl _ (of_decide_eq_true xB) (bes m (List.range n2)) (List.mem_append_left _ (List.mem_map.mpr ⟨m, hm, rfl⟩))
        rwa [bes_comp (p1 x xF) (pm_unit n2) (h1.pm m hm) (pm_unit n2), comp_unit List.length_range] at this
    have := h2.2.2.2.2.2.1 (F2.filter fun y => decide (bes a y ∈ F)) (wd2.nd.sublist List.filter_sublist) (fun x hx => p2 x (List.mem_filter.mp hx).1) (List.mem_filter.mpr ⟨u2, decide_eq_true (s1 a ha)⟩) (fun y hy m hm => ?_) b ((e2 b).mp hb)
    · exact of_decide_eq_true (List.mem_filter.mp this).2
    · obtain ⟨yF, yB⟩ := List.mem_filter.mp hy
      refine List.mem_filter.mpr ⟨fl2 y yF m hm, decide_eq_true ?_⟩
      have := fl _ (of_decide_eq_true yB) (bes (List.range n1) m) (List.mem_append_right _ (List.mem_map.mpr ⟨m, hm, rfl⟩))
      rwa [bes_comp (p1 a ha) (p2 y yF) (pm_unit n1) (h2.pm m hm), comp_unit (p1 a ha).len] at this
end
end GT

set_option Elab.async false
set_option linter.all false
set_option maxRecDepth 100000
set_option maxHeartbeats 4000000
namespace K08
open PySem PySem.Spec PyProof.Rows L2 MM GT LamX
/-! own words for the readings: a step, its side -/
local macro_rules | `(tactic| walk_at "side") => `(tactic| first
  | omega
  | exact ⟨by omega, by omega⟩
  | exact Or.inl ⟨by omega, by omega⟩
  | exact Or.inr ⟨by omega, by omega⟩
  | (show CPw _ _; decide +kernel)
  | (show (0 : Int) < _; decide +kernel)
  | (show CDivW _ _; first | assumption | exact ⟨by decide, by decide +kernel⟩))
local macro_rules | `(tactic| walk_at "here") => `(tactic| first
  | assumption
  | exact upd_same
  | exact Or.inl (Or.inl upd_same)
  | exact Or.inl upd_same)
local macro_rules | `(tactic| walk_at "one") => `(tactic| first
  | refine ⟨_, rfl, ?_⟩
  | refine Or.inl ⟨_, rfl, ?_⟩
  | refine Or.inr ⟨_, rfl, ?_⟩
  | refine ⟨_, _, rfl, rfl, (by walk_at "side"), ?_⟩
  | refine ⟨_, _, rfl, rfl, ?_⟩
  | refine ⟨_, _, rfl, Or.inl (by walk_at "here"), ?_⟩
  | refine ⟨_, _, rfl, Or.inr (by walk_at "here"), ?_⟩
  | refine ⟨_, _, rfl, (by walk_at "here"), ?_⟩
  | refine ⟨_, _, _, _, rfl, rfl, (by walk_at "here"), rfl, ?_⟩
  | refine ⟨_, _, rfl, ?_⟩
  | refine ifT (by rfl) ?_
  | refine ifF (by rfl) ?_
  | refine ifT (decide_eq_true (by omega)) ?_
  | refine ifF (decide_eq_false (by omega)) ?_)
local macro_rules | `(tactic| walk_at "st") => `(tactic| repeat (walk_at "one"))

section
variable {P : Program} {w : World} {K : PySem.W.Frag} {mg : Str → Option Value} {base : Heap}
theorem pm_mv {n : Nat} {m : List Nat} (h : Pm n m) (h1 : 1 ≤ n) (h2 : n ≤ 24) : Mv m := ⟨h.nd, by rw [h.len]; exact h.lt, by rw [h.len]; exact h1, by rw [h.len]; exact h2⟩
def spNeedMakers (K : PySem.W.Frag) : Sp := fun vs H Q _ => ∃ (n : Nat) (a : Addr) (us : List V) (ms : List (List Nat)), vs = [.int (n : Int), .ref a] ∧ SqT K H a us ∧ MR H us ms ∧ (∀ m ∈ ms, Pm n m) ∧ 1 ≤ n ∧ n ≤ 24 ∧ ms.length ≤ 6 ∧ ∀ H', Same H H' → Q .non H'
theorem scNeedMakers : FnScope ["places", "makers", "maker"] ["places", "makers"] (defScope sNeedMakers) :=
  ⟨rfl, rfl, rfl, by decide +kernel, rfl, by decide +kernel, by decide +kernel⟩
theorem dNeedMakers (T : Tx K mg) (DIsMove : Def P w K mg base CX0 5 "is_move" ["places", "value"] (spIsMove K)) : Def P w K mg base CX0 6 "_need_makers" ["places", "makers"] (spNeedMakers K) := by
  refine T.t_need_makers.def_ (N := ["places", "makers", "maker"]) scNeedMakers (fun _ _ _ _ _ _ us hl => match us, hl with | [_, _], _ => rfl) ?_ ?_
  · intro vs H Q E h
    obtain ⟨n, a, us, ms, rfl, _⟩ := h
    rfl
  · intro f cd A out s H vs Q E hr h
    have hr1 : Rm 5 _ := hr.le (by decide)
    obtain ⟨n, a, us, ms, rfl, S, mr, pm, n1, n24, m6, q⟩ := h
    refine ⟨_, (pss_cons (ps_if (PW.pt (pw_or (pt_not (pt_val (pe_callB (cr_is .tup) rfl T.f_isinstance (by decide +kernel) (pa_cons (pv 1) (pa_cons (pe_ty .tup T.f_tuple (by decide +kernel)) pa_nil))))) (pw_or1 (pt_cmpR op_gt (pe_callB call_len_seq rfl T.f_len (by decide +kernel) (pa_cons (pv 1) pa_nil)) (C8.pe_gc rfl T.c_MAX_MAKERS) (nomark _))))) (pss_one ps_never) pss_nil)
      (pss_one (ps_for PassesOwn.never rfl (pi_tup (pv 1)) (pg_name (i := 2) scNeedMakers.nd rfl (Or.inl rfl))
        (pss_one (ps_if (pt_not (pt_val (pe_d DIsMove (hr1.le (by decide)) pass0 (pa_cons (pv 0) (pa_cons (pv 2) pa_nil))))) (pss_one ps_never) pss_nil))))), ?_⟩
    have lm := mr_len mr
    refine ⟨_, rfl, _, _, rfl, .tup S, _, rfl, ?_⟩
    refine ifF rfl ?_
    refine ⟨_, rfl, _, _, rfl, .inr S, _, _, rfl, rfl, _, rfl, ?_⟩
    refine ifF (decide_eq_false (by omega)) ?_
    refine ⟨_, rfl, a, rfl, ⟨_, S⟩, for_tup (K := K) (a := a) (xs := us) (fun i σ H' => Same H H' ∧ ∃ (y2 : Option V), σ = [some (.int (n : Int)), some (.ref a), y2]) ⟨Same.refl H, _, rfl⟩ (fun i σ H' _ e => same_sqt e.1 S) ?_ ?_⟩
    · rintro i v σ H' hv ⟨s1, y2, rfl⟩
      obtain ⟨m, hm, b, rfl, hb⟩ := pr_at mr hv
      have pmm := pm m (List.mem_of_getElem? hm)
      refine ⟨_, rfl, _, rfl, n, _, _, rfl, rv_mv (.inl (.inl (s1 _ _ hb))), n1, n24, fun H2 s2 => ?_⟩
      have e := arr_mv (pm_mv pmm n1 n24)
      rw [pmm.len] at e
      rw [e]
      refine ⟨_, rfl, ?_⟩
      refine ifF rfl ?_
      exact ⟨s1.trans s2, _, rfl⟩
    · rintro σ H' ⟨s1, y2, rfl⟩
      exact q _ s1
/-! tuples of moves as data -/
theorem lay_all : ∀ {ds : List PyData}, (∀ d ∈ ds, d.canLay0 = true) → PyData.canLayAll0 ds = true
  | [], _ => rfl
  | d :: r, h => by
    show (PyData.canLay0 d && PyData.canLayAll0 r) = true
    rw [h d List.mem_cons_self, lay_all fun x hx => h x (List.mem_cons_of_mem _ hx)]
    rfl
theorem dep_all {k : Nat} : ∀ {ds : List PyData}, (∀ d ∈ ds, d.depth ≤ k) → PyData.depthAll ds ≤ k
  | [], _ => Nat.zero_le _
  | d :: r, h => by
    have h1 := h d List.mem_cons_self
    have h2 := dep_all fun x hx => h x (List.mem_cons_of_mem _ hx)
    simp only [PyData.depthAll]
    omega
theorem shapedT {ds : List PyData} (h : ∀ d ∈ ds, d.canLay0 = true ∧ d.depth ≤ 63) : SeqAt.shaped (.tuple ds) = true := by
  unfold SeqAt.shaped
  have h1 := dep_all fun d hd => (h d hd).2
  rw [show PyData.canLay0 (.tuple ds) = true from lay_all fun d hd => (h d hd).1, Bool.true_and]
  refine decide_eq_true ?_
  simp only [PyData.depth]
  omega
theorem eqvAll_by {α : Type} [DecidableEq α] {f : α → PyData} (h : ∀ x y, PyData.eqv (f x) (f y) = decide (x = y)) : ∀ xs ys : List α, PyData.eqvAll (xs.map f) (ys.map f) = decide (xs = ys)
  | [], [] => rfl
  | [], _ :: _ => rfl
  | _ :: _, [] => rfl
  | x :: r, y :: q => by
    show (PyData.eqv (f x) (f y) && PyData.eqvAll (r.map f) (q.map f)) = _
    rw [eqvAll_by h r q, h]
    by_cases e : x = y
    · subst e
      by_cases e2 : r = q
      · subst e2
        simp
      · simp [e2]
    · simp [e]
def dM (m : List Nat) : PyData := .tuple ((m.map fun (k : Nat) => (k : Int)).map PyData.int)
theorem dp_mv {H : Hp} {a : Addr} {m : List Nat} (S : SqT K H a (mv m)) : Dp K H (.ref a) (dM m) := by
  rw [mv_ints] at S
  exact .tup S (dp_ints _)
theorem dM_eqv (m l : List Nat) : PyData.eqv (dM m) (dM l) = decide (m = l) := by
  show PyData.eqvAll _ _ = _
  rw [eqvAll_ints]
  refine decide_eq_decide.mpr ⟨fun h => ?_, fun h => by rw [h]⟩
  exact (List.map_inj_right (fun a b e => by omega)).mp h
theorem dM_small (m : List Nat) : (dM m).canLay0 = true ∧ (dM m).depth ≤ 2 := by
  refine ⟨lay_ints _, ?_⟩
  have := dep_ints (m.map fun (k : Nat) => (k : Int))
  unfold dM
  simp only [PyData.depth]
  omega
theorem shaped_dM (m : List Nat) : SeqAt.shaped (dM m) = true := shapedT_ints _
def dMs (M : List (List Nat)) : PyData := .tuple (M.map dM)
theorem shaped_dMs (M : List (List Nat)) : SeqAt.shaped (dMs M) = true := shapedT fun d hd => by
  obtain ⟨m, _, rfl⟩ := List.mem_map.mp hd
  have := dM_small m
  exact ⟨this.1, by omega⟩
theorem dMs_eqv (M L : List (List Nat)) : PyData.eqv (dMs M) (dMs L) = decide (M = L) := eqvAll_by dM_eqv M L
theorem dp_all {H : Hp} : ∀ {us : List V} {M : List (List Nat)}, MR H us M → DpAll K H us (M.map dM)
  | _, _, .nil => .nil
  | _, _, .cons ⟨b, e, hb⟩ r => by
    subst e
    exact .cons (dp_mv (.inl (.inl hb))) (dp_all r)
theorem dp_mr {H : Hp} {a : Addr} {us : List V} {M : List (List Nat)} (S : SqT K H a us) (h : MR H us M) : Dp K H (.ref a) (dMs M) := .tup S (dp_all h)
theorem idx_tup {H : Hp} {a b : Addr} {us : List V} {M : List (List Nat)} {m : List Nat} {Q : VK} (S : SqT K H a us) (mr : MR H us M) (hb : SqT K H b (mv m)) (hm : m ∈ M) (q : Q (.int (ix M m : Nat)) H) : rIdxT K (.ref a) [.ref b] H Q := by
  have jl := ix_lt hm
  have at' : ∀ i : Nat, (M.map dM)[i]? = M[i]?.map dM := fun i => List.getElem?_map
  refine ⟨a, .ref b, dM m, M.map dM, ix M m, dM m, rfl, rfl, dp_mr S mr, dp_mv hb, shaped_dMs M, shaped_dM m, ?_, ?_, fun i z lt hz => ?_, q⟩
  · rw [at', at_get jl, at_ix hm]
    rfl
  · rw [dM_eqv]
    exact decide_eq_true rfl
  · rw [at', at_get (by omega)] at hz
    obtain rfl := Option.some.inj hz
    rw [dM_eqv]
    refine decide_eq_false fun e => ?_
    have := List.not_of_lt_findIdx (p := fun x => x == m) (xs := M) (i := i) lt
    rw [at_, List.getD, List.getElem?_eq_getElem (by omega)] at e
    simp at this
    exact this e
theorem toI_nat (m : List Nat) : (GT.toI m).map Int.toNat = m := by
  unfold GT.toI
  rw [List.map_map]
  refine (List.map_congr_left fun x _ => ?_).trans (List.map_id m)
  show ((x : Nat) : Int).toNat = x
  omega
theorem mv_toI (m : List Nat) : mv m = (GT.toI m).map V.int := mv_ints m
theorem sorted_moves {H : Hp} {zs : List (V × List Int)} {F : List (List Nat)} (p : (zs.map (·.2)).Perm (F.map GT.toI)) (asc : zs.Pairwise fun x y => x.2 ≤ y.2) (t : ∀ z ∈ zs, ∃ t, z.1 = .ref t ∧ H t = some (.tup (z.2.map V.int))) :
    ∃ M : List (List Nat), M.Perm F ∧ (M.Pairwise fun x y => GT.toI x ≤ GT.toI y) ∧ MR H (zs.map Prod.fst) M := by
  have each : ∀ z ∈ zs, GT.toI (z.2.map Int.toNat) = z.2 := fun z hz => by
    obtain ⟨m, _, e⟩ := List.mem_map.mp (p.mem_iff.mp (List.mem_map.mpr ⟨z, hz, rfl⟩))
    have e' : GT.toI m = z.2 := e
    rw [← e', toI_nat]
  refine ⟨zs.map fun z => z.2.map Int.toNat, ?_, ?_, ?_⟩
  · have := p.map (List.map Int.toNat)
    rw [List.map_map, List.map_map] at this
    refine this.trans (.of_eq ((List.map_congr_left fun m _ => ?_).trans (List.map_id F)))
    exact toI_nat m
  · rw [List.pairwise_map]
    refine asc.imp_of_mem fun {x y} hx hy h => ?_
    rw [each x hx, each y hy]
    exact h
  · clear p asc
    induction zs with
    | nil => exact .nil
    | cons z r ih =>
      obtain ⟨a, e1, e2⟩ := t z List.mem_cons_self
      refine .cons ⟨a, e1, ?_⟩ (ih (fun z hz => t z (List.mem_cons_of_mem _ hz)) fun z hz => each z (List.mem_cons_of_mem _ hz))
      rw [mv_toI, each z List.mem_cons_self]
      exact e2
/-- a group, told -/
abbrev grpFs (n : Nat) (mk d mo l : Addr) : List (Str × V) := [("_places", V.int (n : Int)), ("_makers", .ref mk), ("_words", .ref d), ("_moves", .ref mo), ("_lattice", .ref l)]
structure GI (n : Nat) (ms F W M : List (List Nat)) : Prop where
  ok : GrpOk n ms
  wd : Wd n ms F W
  full : Full ms F
  mvs : Mvs n M
  mf : ∀ x, x ∈ M ↔ x ∈ F
  len : M.length = F.length
  asc : M.Pairwise fun x y => GT.toI x ≤ GT.toI y
  few : M.length ≤ 60
theorem GI.mk_in {n : Nat} {ms F W M : List (List Nat)} (g : GI n ms F W M) : ∀ m ∈ ms, m ∈ M := fun m hm => by
  obtain ⟨k, hk, rfl⟩ := mem_at hm
  have := g.full (List.range n) (by rw [← g.wd.zero.1]; exact at_mem g.wd.one) k hk
  rw [unit_comp (g.ok.2.2.2.1 _ (at_mem hk)).lt] at this
  exact (g.mf _).mpr this
def GRP (K : PySem.W.Frag) (H : Hp) (g : Addr) (n : Nat) (ms F W M : List (List Nat)) : Prop := GI n ms F W M ∧ ∃ (dx mk d mo l : Addr) (us mus : List V) (kvs : List (List L2.Key × V)),
  H g = some (.ins (cA K "Group") dx (grpFs n mk d mo l)) ∧ SqT K H mk us ∧ MR H us ms ∧ H d = some (.dT kvs) ∧ DR H kvs F W ∧ PlT H mo mus ∧ MR H mus M ∧ LAT K H l M (ms.map (ix M))
theorem LAT.lk {x C dx l : Addr} {fs : List (Str × V)} {H H' : Hp} {M : List (List Nat)} {mis : List Nat} (hx : H x = some (.ins C dx fs)) (ne : l ≠ x) (lk : Lk x H H') (h : LAT K H l M mis) : LAT K H' l M mis := by
  obtain ⟨dx', d, mi, tb, us, rest, h1, h2, h3, h4, h5⟩ := h
  exact ⟨dx', d, mi, tb, us, rest, lk _ _ ne h1 (fun _ z => by cases z), Lk.dT hx lk h2, Lk.tup hx lk h3, Lk.sqt hx lk h4, Lk.tbl hx lk h5⟩
theorem Lk.plt {x C dx a : Addr} {fs : List (Str × V)} {H H' : Hp} {xs : List V} (hx : H x = some (.ins C dx fs)) (lk : Lk x H H') (h : PlT H a xs) : PlT H' a xs := let ⟨o, e, od⟩ := h; ⟨o, Lk.at hx lk e (fun _ _ _ z => by cases z) (fun _ z => by cases z), od⟩
theorem Lk.dr {x C dx : Addr} {fs : List (Str × V)} {H H' : Hp} {kvs : List (List L2.Key × V)} {F W : List (List Nat)} (hx : H x = some (.ins C dx fs)) (lk : Lk x H H') (h : DR H kvs F W) : DR H' kvs F W := Paired.mapP h fun _ _ ⟨e, b, e2, hb⟩ => ⟨e, b, e2, Lk.tup hx lk hb⟩
def spGrpInit (K : PySem.W.Frag) : Sp := fun vs H Q _ => ∃ (x dx a : Addr) (n : Nat) (us : List V) (ms : List (List Nat)), vs = [.ref x, .int (n : Int), .ref a] ∧ H x = some (.ins (cA K "Group") dx []) ∧ SqT K H a us ∧ MR H us ms ∧ GrpOk n ms ∧ Tabs (TL K) H ∧
  ∀ H' F W M, Lk x H H' → GRP K H' x n ms F W M → Tabs (TL K) H' → Q .non H'
theorem scGroupInit : FnScope ["self", "places", "makers", "words", "moves", "table", "families", "maker"] ["self", "places", "makers"] (defScope sGroupInit) :=
  ⟨rfl, rfl, rfl, by decide +kernel, rfl, by decide +kernel, by decide +kernel⟩
theorem fGroupInit (T : Tx K mg) (Y : Ex K mg) (DNeedPlaces : Def P w K mg base CX0 4 "need_places" ["places"] (spNeedPlaces K)) (DNeedMakers : Def P w K mg base CX0 6 "_need_makers" ["places", "makers"] (spNeedMakers K)) (DWordsOf : Def P w K mg base CX0 2 "words_of" ["places", "makers", "most"] (spWords K)) (DTableOf : Def P w K mg base CX0 2 "table_of" ["moves", "makers", "words"] (spTable K)) (DFamiliesOf : Def P w K mg base CX0 3 "families_of" ["table", "makers", "most"] (spFamilies K)) (FLatticeInit : FAt P w K mg base CX0 2 (mA K (cA K "Lattice") "__init__") ["self", "moves", "makers", "table", "families"] (spLatInit K)) : FAt P w K mg base CX0 7 (mA K (cA K "Group") "__init__") ["self", "places", "makers"] (spGrpInit K) := by
  refine FAt.of Y.fGroupInit (N := ["self", "places", "makers", "words", "moves", "table", "families", "maker"]) scGroupInit (fun _ _ _ _ _ _ us hl => match us, hl with | [_, _, _], _ => rfl) ?_ ?_
  · intro vs H Q E h
    obtain ⟨x, dx, a, n, us, ms, rfl, _⟩ := h
    rfl
  · intro cd A out s H vs Q E hr h
    have hr1 : Rm 6 _ := hr.le (by decide)
    obtain ⟨x, dx, a, n, us, ms, rfl, hx, S, mr, ok, tabs, q⟩ := h
    refine ⟨_, (pss_cons (ps_expr (pe_d DNeedPlaces (hr1.le (by decide)) pass0 (pa_cons (pv 1) pa_nil)))
      (pss_cons (ps_expr (pe_d DNeedMakers (hr1.le (by decide)) pass0 (pa_cons (pv 1) (pa_cons (pv 2) pa_nil))))
      (pss_cons (ps_set (i := 3) scGroupInit.nd rfl (Or.inl rfl) (pe_d DWordsOf (hr1.le (by decide)) pass0 (pa_cons (pv 1) (pa_cons (pv 2) (pa_cons (C8.pe_gc rfl T.c_MAX_ORDER) pa_nil)))))
      (pss_cons (ps_if (pt_cmpR op_isN (pv 3) pe_non (nomark _)) (pss_one ps_never) pss_nil)
      (pss_cons (ps_set (i := 4) scGroupInit.nd rfl (Or.inr rfl) (pe_callTy call_tupleF rfl T.f_tuple (by decide +kernel) (pa_cons (pe_callB (cr_sortedDT rfl hr.hu) rfl T.f_sorted (by decide +kernel) (pa_cons (pv 3) pa_nil)) pa_nil)))
      (pss_cons (ps_set (i := 5) scGroupInit.nd rfl (Or.inl rfl) (pe_d DTableOf (hr1.le (by decide)) pass0 (pa_cons (pv 4) (pa_cons (pv 2) (pa_cons (pv 3) pa_nil)))))
      (pss_cons (ps_set (i := 6) scGroupInit.nd rfl (Or.inl rfl) (pe_d DFamiliesOf (hr1.le (by decide)) pass0 (pa_cons (pv 5) (pa_cons (pe_lc (own := [("maker", 7)]) (g := gName 7) (tt := tYes) rfl scGroupInit.nd (pi_tup (pv 2)) (blkOk_by (N := ["self", "places", "makers", "words", "moves", "table", "families", "maker"]) (sc := defScope sGroupInit) (by decide +kernel)) (fun _ _ _ _ _ => pg_name (i := 7) scGroupInit.nd rfl (Or.inl rfl)) (fun _ _ _ _ _ => pts_nil) (fun _ _ _ _ _ => (show PE _ _ (tIdxF K _ _) from (pe_idxF hr.hu65 (pv 4) (pv 7) ⟨rfl, rfl, rfl, rfl⟩)))) (pa_cons (C8.pe_gc rfl T.c_MAX_SUBGROUPS) pa_nil)))))
      (pss_cons (ps_if (pt_cmpR op_isN (pv 6) pe_non (nomark _)) (pss_one ps_never) pss_nil)
      (pss_cons (ps_if (pt_cmpR op_gt (pe_callB call_len_seq rfl T.f_len (by decide +kernel) (pa_cons (pv 6) pa_nil)) (C8.pe_gc rfl T.c_MAX_CLASSES) (nomark _)) (pss_one ps_never) pss_nil)
      (pss_cons (ps_fld (pv 0) (pv 1) rfl)
      (pss_cons (ps_fld (pv 0) (pv 2) rfl)
      (pss_cons (ps_fld (pv 0) (pv 3) rfl)
      (pss_cons (ps_fld (pv 0) (pv 4) rfl)
      (pss_one (ps_fld (pv 0) (pe_makeG Y.uLattice FLatticeInit (hr1.le (by decide)) Y.gLattice pass0 (pa_cons (pv 4) (pa_cons (pv 2) (pa_cons (pv 5) (pa_cons (pv 6) pa_nil))))) rfl))))))))))))))), ?_⟩
    have ⟨n1, n24, m6, pm, G, hG, sub, lG, fG⟩ := ok
    have lm := mr_len mr
    refine ⟨_, rfl, n, rfl, n1, n24, ?_⟩
    refine ⟨_, rfl, _, rfl, n, a, us, ms, rfl, S, mr, pm, n1, n24, m6, fun H1 s1 => ?_⟩
    replace S := same_sqt s1 S
    replace mr := mr.same s1
    replace hx := s1 _ _ hx
    refine ⟨_, rfl, _, rfl, n, a, us, ms, 120, G, rfl, S, mr, pm, n1, n24, m6, by rw [← hG.one]; exact at_mem hG.pos, fun x hx k hk => hG.mul x hx _ (sub _ (at_mem hk)), by omega, by omega, fun H2 d kvs F W s2 hd dr wd full => ?_⟩
    replace S := same_sqt s2 S
    replace mr := mr.same s2
    replace hx := s2 _ _ hx
    -- words
    refine ⟨_, rfl, rfl, _, rfl, ?_⟩
    refine ifF rfl ?_
    have ek := dr.keys wd.len
    have lF := wd.few (G := G) (by rw [← hG.one]; exact at_mem hG.pos) (fun x hx k hk => hG.mul x hx _ (sub _ (at_mem hk)))
    have key_toI : ∀ m : List Nat, key m = (GT.toI m).map Sum.inl := fun m => by
      unfold key GT.toI
      rw [List.map_map]
      rfl
    have pmF : ∀ x ∈ F, Pm n x := fun x hx => by
      obtain ⟨j, hj, rfl⟩ := mem_at hx
      exact wd.pm pm j hj
    have neF : ∀ x ∈ F, GT.toI x ≠ [] := fun x hx e => by
      have e1 := congrArg List.length e
      have e2 := (pmF x hx).len
      unfold GT.toI at e1
      rw [List.length_map, List.length_nil] at e1
      omega
    refine ⟨_, rfl, d, kvs, F.map GT.toI, rfl, .inl hd, ?_, fun m hm => ?_, by rw [List.length_map]; omega, fun zs p pz az tz np => ?_⟩
    · rw [ek, List.map_map]
      exact List.map_congr_left fun m _ => key_toI m
    · obtain ⟨x, hx, rfl⟩ := List.mem_map.mp hm
      exact neF x hx
    obtain ⟨M, pM, asc, mM⟩ := sorted_moves pz az tz
    have ndM : M.Nodup := pM.nodup_iff.mpr wd.nd
    have mf : ∀ x, x ∈ M ↔ x ∈ F := fun x => pM.mem_iff
    have lMF := pM.length_eq
    have pmM : ∀ x ∈ M, Pm n x := fun x hx => pmF x ((mf x).mp hx)
    have one := one_first asc pmM ((mf _).mpr (by rw [← wd.zero.1]; exact at_mem wd.one))
    have hM := mvs_of wd full pm ndM mf one
    obtain ⟨few, lM60⟩ := few_of ok wd hM mf
    have gi : GI n ms F W M := ⟨ok, wd, full, hM, mf, lMF, asc, lM60⟩
    have k3 := same_new (o := .lst (zs.map Prod.fst)) np
    have hp : (upd H2 p (.lst (zs.map Prod.fst))) p = some (.lst (zs.map Prod.fst)) := upd_same
    generalize upd H2 p _ = H3 at k3 hp ⊢
    generalize zs.map Prod.fst = mus at mM hp ⊢
    refine ⟨p, mus, rfl, lst_sql' hp, fun mo o od nmo => ?_⟩
    replace k3 := k3.trans (same_new (o := .frz o (.tup mus)) nmo)
    have hmo : PlT (upd H3 mo (.frz o (.tup mus))) mo mus := ⟨o, upd_same, od⟩
    generalize upd H3 mo _ = H4 at k3 hmo ⊢
    replace S := same_sqt k3 S
    replace mr := mr.same k3
    replace hx := k3 _ _ hx
    replace hd := k3 _ _ hd
    replace dr := dr.same k3
    replace mM := mM.same k3
    clear hp np pz az tz
    -- table
    refine ⟨_, rfl, _, rfl, _, rfl, n, mo, mus, M, a, us, ms, d, kvs, F, W, rfl, hmo.sqt, mM, S, mr, hd, dr, wd, full, pm, n1, n24, m6, ndM, mf, lMF, by omega, fun H5 tA tus s5 htA tl => ?_⟩
    replace S := same_sqt s5 S
    replace mr := mr.same s5
    replace hx := s5 _ _ hx
    replace hd := s5 _ _ hd
    replace dr := dr.same s5
    replace mM := mM.same s5
    have pltS : ∀ {H H' : Hp}, Same H H' → PlT H mo mus → PlT H' mo mus := fun s ⟨o, e, od⟩ => ⟨o, s _ _ e, od⟩
    replace hmo := pltS s5 hmo
    -- families
    have lms := pr_len mr
    refine ⟨_, rfl, _, rfl, a, rfl, ⟨us, S⟩, fun D nD => ?_⟩
    refine lc_tup (K := K) (a := a) (xs := us) (Pv := fun i H' => Same H5 H' ∧ H' D = some (.lst (mv ((ms.map (ix M)).take i)))) ⟨same_new nD, upd_same⟩ (fun i H' _ e => same_sqt e.1 S) ?_ ?_
    · rintro i v H6 hv ⟨s6, h6⟩
      obtain ⟨m, hm, b, rfl, hb⟩ := pr_at mr hv
      have inM := gi.mk_in m (List.mem_of_getElem? hm)
      refine ⟨wipe_one, yes_ ?_⟩
      have il := (List.getElem?_eq_some_iff.mp hm).1
      refine ⟨_, rfl, ⟨mo, mus, rfl, pltS s6 hmo⟩, _, rfl, idx_tup (pltS s6 hmo).sqt (mM.same s6) (.inl (.inl (s6 _ _ hb))) inM ?_⟩
      have e3 : (mv ((ms.map (ix M)).take i)).length ≤ i := by
        rw [mv_len]
        exact List.length_take_le _ _
      refine ⟨_, h6, by rw [sizeLine_eq]; omega, fun y o e => (upd_ne (ne_of_none e nD)).trans (s6 _ _ e), ?_⟩
      rw [upd_same, List.take_add_one, show (ms.map (ix M))[i]? = some (ix M m) by rw [List.getElem?_map, hm]; rfl]
      unfold mv
      rw [List.map_append]
      rfl
    rintro H6 ⟨s6, h6⟩
    rw [lm, List.take_of_length_le (by rw [List.length_map]; exact Nat.le_refl _)] at h6
    have rz : ∀ i, i < M.length → 0 ∈ rowOf M i := fun i hi => row_zero hM.gp hi
    refine ⟨tA, tus, M, D, ms.map (ix M), 60, 200, rfl, .inl (.inl (s6 _ _ htA)), tl.same s6, by omega, hM.gp, h6, fun k hk => ?_, few, by decide, by decide, fun H7 fm frs FS s7 hfm fam lFS okF => ?_⟩
    · obtain ⟨m, hm, rfl⟩ := List.mem_map.mp hk
      exact ix_lt (gi.mk_in m hm)
    replace s6 := s6.trans s7
    replace S := same_sqt s6 S
    replace mr := mr.same s6
    replace hx := s6 _ _ hx
    replace hd := s6 _ _ hd
    replace dr := dr.same s6
    replace mM := mM.same s6
    replace hmo := pltS s6 hmo
    replace htA := s6 _ _ htA
    replace tl := tl.same s6
    clear h6 nD
    refine ⟨_, rfl, rfl, _, rfl, ?_⟩
    refine ifF rfl ?_
    have lfrs := pr_len fam
    refine ⟨_, rfl, _, _, rfl, .inl (lst_sql' hfm), _, _, rfl, rfl, _, rfl, ?_⟩
    refine ifF (decide_eq_false (by omega)) ?_
    have sA : Same H H7 := ((((s1.trans s2).trans k3).trans s5).trans s6)
    replace tabs := tabs_same tabs sA
    have lkA : Lk x H H7 := .of sA
    clear sA s1 s2 k3 s5 s6 s7
    -- the fields
    refine ⟨_, rfl, _, rfl, x, _, dx, _, rfl, hx, Y.kGroup, Y.nGroup _ (by decide), (by show 0 < 1000; decide), ?_⟩
    refine ⟨_, rfl, _, rfl, x, _, dx, _, rfl, upd_same, Y.kGroup, Y.nGroup _ (by decide), (by show 1 < 1000; decide), ?_⟩
    refine ⟨_, rfl, _, rfl, x, _, dx, _, rfl, upd_same, Y.kGroup, Y.nGroup _ (by decide), (by show 2 < 1000; decide), ?_⟩
    refine ⟨_, rfl, _, rfl, x, _, dx, _, rfl, upd_same, Y.kGroup, Y.nGroup _ (by decide), (by show 3 < 1000; decide), ?_⟩
    have fin : ∀ (H8 : Hp) (Q' : VK), Lk x H7 H8 → H8 x = some (.ins (cA K "Group") dx [("_places", .int (n : Int)), ("_makers", .ref a), ("_words", .ref d), ("_moves", .ref mo)]) → Tabs (TL K) H8 →
        (∀ l H', l ≠ x → Lk x H8 H' → H' x = some (.ins (cA K "Group") dx [("_places", .int (n : Int)), ("_makers", .ref a), ("_words", .ref d), ("_moves", .ref mo)]) → Tabs (TL K) H' → LAT K H' l M (ms.map (ix M)) → Q' (.ref l) H') →
        tMake (cA K "Lattice") (spLatInit K) [] E0 (tCons (tVar 4) (tCons (tVar 2) (tCons (tVar 5) (tCons (tVar 6) tNil)))) [some (.ref x), some (.int (n : Int)), some (.ref a), some (.ref d), some (.ref mo), some (.ref tA), some (.ref fm), none] H8 Q' := by
      intro H8 Q' lk8 hx8 tabs8 q'
      refine ⟨_, rfl, _, rfl, _, rfl, _, rfl, fun y dy ny ndy ne => ?_⟩
      have yx : y ≠ x := fun z => by rw [z, hx8] at ny; cases ny
      have dyx : dy ≠ x := fun z => by rw [z, hx8] at ndy; cases ndy
      have sm : Same H8 (upd (upd H8 dy (.own y)) y (.ins (cA K "Lattice") dy [])) := fun b o e => by
        rw [upd_ne (ne_of_none e ny), upd_ne (ne_of_none e ndy)]
        exact e
      have hy9 : (upd (upd H8 dy (.own y)) y (.ins (cA K "Lattice") dy [])) y = some (.ins (cA K "Lattice") dy []) := upd_same
      generalize (upd (upd H8 dy (.own y)) y (.ins (cA K "Lattice") dy [])) = H9 at sm hy9 ⊢
      refine ⟨y, dy, mo, a, tA, fm, mus, us, tus, frs, M, ms, FS, rfl, hy9, same_sqt sm (Lk.plt hx lk8 hmo).sqt, (Lk.mr hx lk8 mM).same sm, ndM, by omega, same_sqt sm (Lk.sqt hx lk8 S), (Lk.mr hx lk8 mr).same sm, gi.mk_in, m6, same_sqt sm (.inl (.inl (Lk.tup hx lk8 htA))), (Lk.tbl hx lk8 tl).same sm, rz, sm _ _ (Lk.lst hx lk8 hfm), (Lk.fam hx lk8 fam).same sm, by omega, fun F' hF => ?_, tabs_same tabs8 sm, fun H10 lk10 lat tabs10 => ⟨rfl, q' y H10 yx ?_ ?_ tabs10 lat⟩⟩
      · obtain ⟨f1, f2, f3⟩ := okF F' hF
        refine ⟨few F' f1 f3, f2, fun B hB => ?_⟩
        have sb := f3 B hB
        refine ⟨Nat.le_trans (few_lt hM.gp (asc_nodup sb.up) sb.lt) (by omega), fun z => ?_, fun k hk => ?_⟩
        · have := sb.one
          rw [z] at this
          cases this
        · have := sb.lt k hk
          omega
      · exact fun b o nb e t => lk10 b o (fun z => by rw [z, ny] at e; cases e) (sm _ _ e) t
      · exact lk10 x _ (Ne.symm yx) (sm _ _ hx8) (fun _ z => by cases z)
    have lkB : Lk x H7 (upd (upd (upd (upd H7 x (.ins (cA K "Group") dx (putF "_places" (.int (n : Int)) []))) x (.ins (cA K "Group") dx (putF "_makers" (.ref a) (putF "_places" (.int (n : Int)) [])))) x (.ins (cA K "Group") dx (putF "_words" (.ref d) (putF "_makers" (.ref a) (putF "_places" (.int (n : Int)) []))))) x (.ins (cA K "Group") dx (putF "_moves" (.ref mo) (putF "_words" (.ref d) (putF "_makers" (.ref a) (putF "_places" (.int (n : Int)) [])))))) := ((Lk.put.trans .put).trans .put).trans .put
    have tabsB := tabs_put (o := .ins (cA K "Group") dx (putF "_moves" (.ref mo) (putF "_words" (.ref d) (putF "_makers" (.ref a) (putF "_places" (.int (n : Int)) []))))) (tabs_put (o := .ins (cA K "Group") dx (putF "_words" (.ref d) (putF "_makers" (.ref a) (putF "_places" (.int (n : Int)) [])))) (tabs_put (o := .ins (cA K "Group") dx (putF "_makers" (.ref a) (putF "_places" (.int (n : Int)) []))) (tabs_put (o := .ins (cA K "Group") dx (putF "_places" (.int (n : Int)) [])) tabs hx) upd_same) upd_same) upd_same
    have hxB : (upd (upd (upd (upd H7 x (.ins (cA K "Group") dx (putF "_places" (.int (n : Int)) []))) x (.ins (cA K "Group") dx (putF "_makers" (.ref a) (putF "_places" (.int (n : Int)) [])))) x (.ins (cA K "Group") dx (putF "_words" (.ref d) (putF "_makers" (.ref a) (putF "_places" (.int (n : Int)) []))))) x (.ins (cA K "Group") dx (putF "_moves" (.ref mo) (putF "_words" (.ref d) (putF "_makers" (.ref a) (putF "_places" (.int (n : Int)) [])))))) x = some (.ins (cA K "Group") dx [("_places", .int (n : Int)), ("_makers", .ref a), ("_words", .ref d), ("_moves", .ref mo)]) := upd_same
    dsimp only [sFld]
    refine fin _ _ lkB hxB tabsB fun l H10 lx lk10 hx10 tabs10 lat => ?_
    refine ⟨_, rfl, x, _, dx, _, rfl, hx10, Y.kGroup, Y.nGroup _ (by decide), (by show 4 < 1000; decide), ?_⟩
    have lkC := lkB.trans lk10
    have lkD : Lk x H7 (upd H10 x (.ins (cA K "Group") dx (putF "_lattice" (.ref l) [("_places", .int (n : Int)), ("_makers", .ref a), ("_words", .ref d), ("_moves", .ref mo)]))) := lkC.trans .put
    refine q _ F W M (lkA.trans lkD) ⟨gi, dx, a, d, mo, l, us, mus, kvs, upd_same, Lk.sqt hx lkD S, Lk.mr hx lkD mr, Lk.dT hx lkD hd, Lk.dr hx lkD dr, Lk.plt hx lkD hmo, Lk.mr hx lkD mM, lat.lk hx10 lx .put⟩ (tabs_put tabs10 hx10)
end
end K08


set_option Elab.async false
set_option linter.all false
set_option maxRecDepth 100000
set_option maxHeartbeats 2000000
namespace K08
open PySem PySem.Spec PyProof.Rows L2 MM GT
/-! own words for the readings: a step, its side -/
local macro_rules | `(tactic| walk_at "side") => `(tactic| first
  | omega
  | exact ⟨by omega, by omega⟩
  | exact Or.inl ⟨by omega, by omega⟩
  | exact Or.inr ⟨by omega, by omega⟩
  | (show CPw _ _; decide +kernel)
  | (show (0 : Int) < _; decide +kernel)
  | (show CDivW _ _; first | assumption | exact ⟨by decide, by decide +kernel⟩))
local macro_rules | `(tactic| walk_at "here") => `(tactic| first
  | assumption
  | exact upd_same
  | exact Or.inl (Or.inl upd_same)
  | exact Or.inl upd_same)
local macro_rules | `(tactic| walk_at "one") => `(tactic| first
  | refine ⟨_, rfl, ?_⟩
  | refine Or.inl ⟨_, rfl, ?_⟩
  | refine Or.inr ⟨_, rfl, ?_⟩
  | refine ⟨_, _, rfl, rfl, (by walk_at "side"), ?_⟩
  | refine ⟨_, _, rfl, rfl, ?_⟩
  | refine ⟨_, _, rfl, Or.inl (by walk_at "here"), ?_⟩
  | refine ⟨_, _, rfl, Or.inr (by walk_at "here"), ?_⟩
  | refine ⟨_, _, rfl, (by walk_at "here"), ?_⟩
  | refine ⟨_, _, _, _, rfl, rfl, (by walk_at "here"), rfl, ?_⟩
  | refine ⟨_, _, rfl, ?_⟩
  | refine ifT (by rfl) ?_
  | refine ifF (by rfl) ?_
  | refine ifT (decide_eq_true (by omega)) ?_
  | refine ifF (decide_eq_false (by omega)) ?_)
local macro_rules | `(tactic| walk_at "st") => `(tactic| repeat (walk_at "one"))

section
variable {P : Program} {w : World} {K : PySem.W.Frag} {mg : Str → Option Value} {base : Heap}
/-- a heap that differs in the bag, and in new objects -/
structure Upto (p : Addr) (H H' : Hp) : Prop where
  same : ∀ b o, b ≠ p → H b = some o → H' b = some o
  bag : BagAt H' p
theorem Upto.refl {p : Addr} {H : Hp} (h : BagAt H p) : Upto p H H := ⟨fun _ _ _ e => e, h⟩
theorem Upto.draw {p : Addr} {H H' : Hp} {a b c : Int} (h : Upto p H H') : Upto p H (upd H' p (.lst [.int a, .int b, .int c])) :=
  ⟨fun x o n e => by rw [upd_ne n]; exact h.same x o n e, ⟨a, b, c, upd_same⟩⟩
theorem Upto.new {p t : Addr} {H H' : Hp} {o : HO} (h : Upto p H H') (f : H' t = none) : Upto p H (upd H' t o) := by
  obtain ⟨a, b, c, e⟩ := h.bag
  exact ⟨fun x y n e => by rw [upd_ne (ne_of_none (h.same x y n e) f)]; exact h.same x y n e, ⟨a, b, c, by rw [upd_ne (ne_of_none e f)]; exact e⟩⟩
theorem Upto.trans {p : Addr} {H H' H2 : Hp} (h : Upto p H H') (k : Upto p H' H2) : Upto p H H2 := ⟨fun x o n e => k.same x o n (h.same x o n e), k.bag⟩
theorem Upto.keep {p : Addr} {H H' H2 : Hp} (h : Upto p H H') (k : Same H' H2) : Upto p H H2 := by
  obtain ⟨a, b, c, e⟩ := h.bag
  exact ⟨fun x o n e => k x o (h.same x o n e), ⟨a, b, c, k _ _ e⟩⟩
theorem Upto.sqt {p a : Addr} {H H' : Hp} {xs : List V} (h : Upto p H H') (s : SqT K H a xs) (ne : a ≠ p) : SqT K H' a xs := by
  rcases s with (s | ⟨o, s⟩) | s
  · exact .inl (.inl (h.same _ _ ne s))
  · exact .inl (.inr ⟨o, h.same _ _ ne s⟩)
  · exact .inr s
theorem Upto.sql {p a : Addr} {H H' : Hp} {xs : List V} (h : Upto p H H') (s : SqL K H a xs) (ne : a ≠ p) : SqL K H' a xs := by
  rcases s with (s | ⟨o, s⟩) | s
  · exact .inl (.inl (h.same _ _ ne s))
  · exact .inl (.inr ⟨o, h.same _ _ ne s⟩)
  · exact .inr s
theorem Upto.free {p t : Addr} {H H' : Hp} (h : Upto p H H') (f : H' t = none) : t ≠ p ∧ H t = none := by
  obtain ⟨a, b, c, e⟩ := h.bag
  have n : t ≠ p := fun z => by rw [z, e] at f; cases f
  refine ⟨n, ?_⟩
  cases z : H t with
  | none => rfl
  | some o =>
    have := h.same t o n z
    rw [f] at this
    cases this
theorem Upto.put {p t : Addr} {H H' : Hp} {o : HO} (h : Upto p H H') (n : t ≠ p) (f : H t = none) : Upto p H (upd H' t o) := by
  obtain ⟨a, b, c, e⟩ := h.bag
  exact ⟨fun x y m e => by rw [upd_ne (ne_of_none e f)]; exact h.same x y m e, ⟨a, b, c, by rw [upd_ne n.symm]; exact e⟩⟩
theorem bag_ne {H : Hp} {p l : Addr} {x : HO} (e : H p = some x) (f : H l = none) : l ≠ p := fun z => by rw [z, e] at f; cases f
theorem pick_perm {α : Type} : ∀ (l : List α) (k : Nat) (h : k < l.length), (l[k] :: l.eraseIdx k).Perm l
  | _ :: _, 0, _ => .refl _
  | a :: r, k + 1, h => by
    show (r[k]'(by simpa using h) :: a :: r.eraseIdx k).Perm (a :: r)
    exact (List.Perm.swap _ _ _).trans (List.Perm.cons a (pick_perm r k (by simpa using h)))
def spMixed (K : PySem.W.Frag) : Sp := fun vs H Q _ => ∃ (p l : Addr) (xs : List V), vs = [.ref p, .ref l] ∧ BagAt H p ∧ (SqL K H l xs ∨ SqT K H l xs) ∧ l ≠ p ∧ xs.length ≤ 1000 ∧
  ∀ H' t ys, Upto p H H' → H t = none → ys.Perm xs → H' t = some (.lst ys) → Q (.ref t) H'
theorem scMixedL : FnScope ["_law_bag_here", "_law_items", "_law_waits", "_law_turn"] ["_law_bag_here", "_law_items"] (defScope sMixedL) :=
  ⟨rfl, rfl, rfl, by decide +kernel, rfl, by decide +kernel, by decide +kernel⟩
theorem dMixedL (T : Tx K mg) (DGrabL : Def P w K mg base CX0 1 "_law_grab" ["_law_bag_here", "_law_total"] spGrab) : Def P w K mg base CX0 2 "_law_mixed" ["_law_bag_here", "_law_items"] (spMixed K) := by
  refine T.t_law_mixed.def_ (N := ["_law_bag_here", "_law_items", "_law_waits", "_law_turn"]) scMixedL (fun _ _ _ _ _ _ us hl => match us, hl with | [_, _], _ => rfl) ?_ ?_
  · intro vs H Q E h
    obtain ⟨p, l, xs, rfl, _⟩ := h
    rfl
  · intro f cd A out s H vs Q E hr h
    have hr1 : Rm 1 _ := hr.le (by decide)
    obtain ⟨p, l, xs, rfl, hb, S, ne, len, q⟩ := h
    obtain ⟨b1, b2, b3, eb⟩ := hb
    refine ⟨_, (pss_cons (ps_set (i := 2) scMixedL.nd rfl (Or.inr rfl) (pe_callTy call_list_of rfl T.f_list (by decide +kernel) (pa_cons (pv 1) pa_nil)))
      (pss_one (ps_ret (pe_lc (own := [("_law_turn", 3)]) (g := gName 3) (tt := tYes) rfl scMixedL.nd (pi_range1 rfl T.f_range (pa_cons (pe_callB call_len_seq rfl T.f_len (by decide +kernel) (pa_cons (pv 1) pa_nil)) pa_nil)) (blkOk_by (N := ["_law_bag_here", "_law_items", "_law_waits", "_law_turn"]) (sc := defScope sMixedL) (by decide +kernel)) (fun _ _ _ _ _ => pg_name (i := 3) scMixedL.nd rfl (Or.inl rfl)) (fun _ _ _ _ _ => pts_nil) (fun _ _ _ _ _ => (show PE _ _ (tBM K "list" rPopAt _ _) from pe_bm PySem.F.plainAttrs_list PySem.F.slot_list_pop PySem.F.type_list_pop mt_popAt (pv 2) (pa_cons (pe_d DGrabL (hr1.le (by decide)) pass0 (pa_cons (pv 0) (pa_cons (pe_callB (cr_lenK (K := K) rfl) rfl T.f_len (by decide +kernel) (pa_cons (pv 2) pa_nil)) pa_nil))) pa_nil))))))), ?_⟩
    refine ⟨_, rfl, l, xs, rfl, S, fun W nW => ?_⟩
    have up := (Upto.refl ⟨_, _, _, eb⟩).new (o := .lst xs) nW
    have hW : (upd H W (.lst xs)) W = some (.lst xs) := upd_same
    have S1 : SqL K (upd H W (.lst xs)) l xs ∨ SqT K (upd H W (.lst xs)) l xs := S.elim (fun S => .inl (sql_new S nW)) fun S => .inr (sqt_new S nW)
    have Wp : W ≠ p := bag_ne eb nW
    generalize upd H W _ = H1 at up hW S1 ⊢
    refine ⟨_, rfl, l, xs, rfl, S1, xs.length, rfl, by omega, by omega, fun D nD => ?_⟩
    obtain ⟨Dp, fD⟩ := up.free nD
    have DW : D ≠ W := (ne_of_none hW nD).symm
    refine lc_range (Pv := fun i H4 => Upto p H H4 ∧ ∃ ws ys : List V, H4 W = some (.lst ws) ∧ H4 D = some (.lst ys) ∧ (ys ++ ws).Perm xs ∧ ys.length = i)
      ⟨up.new nD, xs, [], (upd_ne DW.symm).trans hW, upd_same, .refl _, rfl⟩ ?_ ?_
    · rintro i H4 hi ⟨up4, ws, ys, h4, h5, pm, ln⟩
      refine ⟨wipe_one, yes_ ?_⟩
      obtain ⟨c1, c2, c3, ec⟩ := up4.bag
      have tot : ys.length + ws.length = xs.length := by rw [← List.length_append]; exact pm.length_eq
      have wl : 0 < ws.length := by
        have : i < xs.length := by simpa using hi
        omega
      refine ⟨_, rfl, ?_, _, rfl, _, rfl, W, ws, rfl, .inl (.inl (.inl h4)), ?_⟩
      · exact .inl ⟨rfl, ws, .inl (.inl h4)⟩
      refine ⟨p, (ws.length : Int), c1, c2, c3, rfl, ec, div_small wl (by omega), fun r g' m' c' r0 r1 => ?_⟩
      have rl : r.toNat < ws.length := by omega
      have er : ((r.toNat : Nat) : Int) = r := by omega
      refine ⟨W, ws, r, r.toNat, ws[r.toNat], rfl, rfl, (upd_ne Wp).trans h4, by omega, by omega, ?_, List.getElem?_eq_getElem rl, ?_⟩
      · have := (ixN_seq (ixN_lt rl)).1
        rw [er] at this
        exact this
      refine ⟨ys, (upd_ne DW).trans ((upd_ne Dp).trans h5), ?_, (up4.draw.put Wp nW).put Dp fD, ws.eraseIdx r.toNat, ys ++ [ws[r.toNat]], (upd_ne DW.symm).trans upd_same, upd_same, ?_, by rw [List.length_append, ln]; rfl⟩
      · exact Nat.lt_of_le_of_lt (by omega) (small1000 (n := 1000) (by omega))
      · refine List.Perm.trans ?_ pm
        rw [List.append_assoc]
        exact List.Perm.append_left ys (pick_perm ws r.toNat rl)
    · rintro H4 ⟨up4, ws, ys, h4, h5, pm, ln⟩
      refine q H4 D ys up4 fD ?_ h5
      have tot : ys.length + ws.length = xs.length := by rw [← List.length_append]; exact pm.length_eq
      have e : ws = [] := List.eq_nil_of_length_eq_zero (by
        have : (xs.length : Int).toNat = xs.length := Int.toNat_natCast _
        omega)
      rw [e, List.append_nil] at pm
      exact pm
theorem mv_range_perm {ys : List V} {n : Nat} (h : ys.Perm (mv (List.range n))) : ∃ m, ys = mv m ∧ m.Perm (List.range n) := by
  refine ⟨ys.map fun | .int i => i.toNat | _ => 0, ?_, ?_⟩
  · unfold mv
    rw [List.map_map]
    have : ∀ y ∈ ys, ((fun (k : Nat) => V.int (k : Int)) ∘ fun | V.int i => i.toNat | _ => 0) y = y := by
      intro y hy
      obtain ⟨k, _, rfl⟩ := List.mem_map.mp (h.mem_iff.mp hy)
      rfl
    exact ((List.map_congr_left (g := id) this).trans (List.map_id ys)).symm
  · have := h.map fun | V.int i => i.toNat | _ => 0
    refine this.trans ?_
    unfold mv
    rw [List.map_map]
    exact .of_eq (List.map_id' _)
theorem mv_of_perm {m : List Nat} {n : Nat} (h : m.Perm (List.range n)) (h1 : 1 ≤ n) (h2 : n ≤ 24) : Mv m ∧ m.length = n := by
  have ln : m.length = n := by rw [h.length_eq, List.length_range]
  refine ⟨⟨h.nodup_iff.mpr List.nodup_range, fun k hk => ?_, by omega, by omega⟩, ln⟩
  rw [ln]
  exact List.mem_range.mp (h.mem_iff.mp hk)
def spSome (K : PySem.W.Frag) : Sp := fun vs H Q _ => ∃ (p : Addr) (n : Nat), vs = [.ref p, .int (n : Int)] ∧ BagAt H p ∧ 1 ≤ n ∧ n ≤ 24 ∧ ∀ H' t m, Upto p H H' → t ≠ p → SqT K H' t (mv m) → Mv m → m.length = n → Q (.ref t) H'
end
end K08


set_option Elab.async false
set_option linter.all false
set_option maxRecDepth 100000
set_option maxHeartbeats 4000000
namespace K08
open PySem PySem.Spec PyProof.Rows L2 MM GT LamX
/-! own words for the readings: a step, its side -/
local macro_rules | `(tactic| walk_at "side") => `(tactic| first
  | omega
  | exact ⟨by omega, by omega⟩
  | exact Or.inl ⟨by omega, by omega⟩
  | exact Or.inr ⟨by omega, by omega⟩
  | (show CPw _ _; decide +kernel)
  | (show (0 : Int) < _; decide +kernel)
  | (show CDivW _ _; first | assumption | exact ⟨by decide, by decide +kernel⟩))
local macro_rules | `(tactic| walk_at "here") => `(tactic| first
  | assumption
  | exact upd_same
  | exact Or.inl (Or.inl upd_same)
  | exact Or.inl upd_same)
local macro_rules | `(tactic| walk_at "one") => `(tactic| first
  | refine ⟨_, rfl, ?_⟩
  | refine Or.inl ⟨_, rfl, ?_⟩
  | refine Or.inr ⟨_, rfl, ?_⟩
  | refine ⟨_, _, rfl, rfl, (by walk_at "side"), ?_⟩
  | refine ⟨_, _, rfl, rfl, ?_⟩
  | refine ⟨_, _, rfl, Or.inl (by walk_at "here"), ?_⟩
  | refine ⟨_, _, rfl, Or.inr (by walk_at "here"), ?_⟩
  | refine ⟨_, _, rfl, (by walk_at "here"), ?_⟩
  | refine ⟨_, _, _, _, rfl, rfl, (by walk_at "here"), rfl, ?_⟩
  | refine ⟨_, _, rfl, ?_⟩
  | refine ifT (by rfl) ?_
  | refine ifF (by rfl) ?_
  | refine ifT (decide_eq_true (by omega)) ?_
  | refine ifF (decide_eq_false (by omega)) ?_)
local macro_rules | `(tactic| walk_at "st") => `(tactic| repeat (walk_at "one"))

section
variable {P : Program} {w : World} {K : PySem.W.Frag} {mg : Str → Option Value} {base : Heap}
/-- all but lists and tables stands as before -/
def Kp (H H' : Hp) : Prop := ∀ b o, H b = some o → (∀ ps, o ≠ .tbl ps) → (∀ xs, o ≠ .lst xs) → H' b = some o
theorem Kp.ext {H H' : Hp} (h : ExtN H H') : Kp H H' := fun b o e t _ => h b o e t
theorem Kp.of {H H' : Hp} (h : Same H H') : Kp H H' := fun b o e _ _ => h b o e
theorem Kp.up {p : Addr} {H H' : Hp} (b : BagAt H p) (h : Upto p H H') : Kp H H' := fun x o e _ l => h.same x o (fun z => by
  obtain ⟨u, v, z', eb⟩ := b
  rw [z, eb] at e
  exact l _ (Option.some.inj e).symm) e
section
variable {H H' : Hp} (k : Kp H H')
include k
theorem Kp.tup {a : Addr} {xs : List V} (h : H a = some (.tup xs)) : H' a = some (.tup xs) := k _ _ h (fun _ z => by cases z) (fun _ z => by cases z)
theorem Kp.ins {a C dx : Addr} {fs : List (Str × V)} (h : H a = some (.ins C dx fs)) : H' a = some (.ins C dx fs) := k _ _ h (fun _ z => by cases z) (fun _ z => by cases z)
theorem Kp.dT {a : Addr} {xs : List (List L2.Key × V)} (h : H a = some (.dT xs)) : H' a = some (.dT xs) := k _ _ h (fun _ z => by cases z) (fun _ z => by cases z)
theorem Kp.sqt {a : Addr} {xs : List V} (h : SqT K H a xs) : SqT K H' a xs := by
  rcases h with (h | ⟨o, h⟩) | h
  · exact .inl (.inl (Kp.tup k h))
  · exact .inl (.inr ⟨o, k _ _ h (fun _ z => by cases z) (fun _ z => by cases z)⟩)
  · exact .inr h
theorem Kp.plt {a : Addr} {xs : List V} (h : PlT H a xs) : PlT H' a xs := let ⟨o, e, od⟩ := h; ⟨o, k _ _ e (fun _ z => by cases z) (fun _ z => by cases z), od⟩
theorem Kp.mr {us : List V} {ms : List (List Nat)} (h : MR H us ms) : MR H' us ms := Paired.mapP h fun _ _ ⟨b, e, hb⟩ => ⟨b, e, Kp.tup k hb⟩
theorem Kp.dr {kvs : List (List L2.Key × V)} {F W : List (List Nat)} (h : DR H kvs F W) : DR H' kvs F W := Paired.mapP h fun _ _ ⟨e, b, e2, hb⟩ => ⟨e, b, e2, Kp.tup k hb⟩
theorem Kp.tbl {us : List V} {M : List (List Nat)} (h : TBL H us M) : TBL H' us M := Paired.mapP h fun _ _ ⟨b, e, r⟩ => ⟨b, e, Kp.plt k r⟩
theorem Kp.lat {l : Addr} {M : List (List Nat)} {mis : List Nat} (h : LAT K H l M mis) : LAT K H' l M mis := by
  obtain ⟨dx', d, mi, tb, us, rest, h1, h2, h3, h4, h5⟩ := h
  exact ⟨dx', d, mi, tb, us, rest, Kp.ins k h1, Kp.dT k h2, Kp.tup k h3, Kp.sqt k h4, Kp.tbl k h5⟩
theorem Kp.grp {g : Addr} {n : Nat} {ms F W M : List (List Nat)} (h : GRP K H g n ms F W M) : GRP K H' g n ms F W M := by
  obtain ⟨gi, dx, mk, d, mo, l, us, mus, kvs, h1, h2, h3, h4, h5, h6, h7, h8⟩ := h
  exact ⟨gi, dx, mk, d, mo, l, us, mus, kvs, Kp.ins k h1, Kp.sqt k h2, Kp.mr k h3, Kp.dT k h4, Kp.dr k h5, Kp.plt k h6, Kp.mr k h7, Kp.lat k h8⟩
end
theorem Kp.trans {H H1 H2 : Hp} (a : Kp H H1) (b : Kp H1 H2) : Kp H H2 := fun x o e t l => b x o (a x o e t l) t l
def spPlaces (K : PySem.W.Frag) : Sp := fun vs H Q _ => ∃ (g : Addr) (n : Nat) (ms F W M : List (List Nat)), vs = [.ref g] ∧ GRP K H g n ms F W M ∧ Q (.int (n : Int)) H
theorem scGroupPlaces : FnScope ["self"] ["self"] (defScope sGroupPlaces) :=
  ⟨rfl, rfl, rfl, by decide +kernel, rfl, by decide +kernel, by decide +kernel⟩
theorem fGroupPlaces (T : Tx K mg) (Y : Ex K mg) : FAt P w K mg base CX0 1 (pA K (cA K "Group") "places") ["self"] (spPlaces K) := by
  refine FAt.of Y.fGroupPlaces (N := ["self"]) scGroupPlaces (fun _ _ _ _ _ _ us hl => match us, hl with | [_], _ => rfl) ?_ ?_
  · intro vs H Q E h
    obtain ⟨g, n, ms, F, W, M, rfl, _⟩ := h
    rfl
  · intro cd A out s H vs Q E hr h
    obtain ⟨g, n, ms, F, W, M, rfl, ⟨gi, dx, mk, d, mo, l, us, mus, kvs, hg, h2, h3, h4, h5, h6, h7, h8⟩, q⟩ := h
    refine ⟨_, (pss_one (ps_ret (pe_fld (pv 0) rfl))), ?_⟩
    exact ⟨_, rfl, g, _, dx, _, _, rfl, hg, Y.kGroup, Y.nGroup _ (by decide), rfl, q⟩
def spMakers (K : PySem.W.Frag) : Sp := fun vs H Q _ => ∃ (g : Addr) (n : Nat) (ms F W M : List (List Nat)), vs = [.ref g] ∧ GRP K H g n ms F W M ∧ ∀ a us, SqT K H a us → MR H us ms → Q (.ref a) H
theorem scGroupMakers : FnScope ["self"] ["self"] (defScope sGroupMakers) :=
  ⟨rfl, rfl, rfl, by decide +kernel, rfl, by decide +kernel, by decide +kernel⟩
theorem fGroupMakers (T : Tx K mg) (Y : Ex K mg) : FAt P w K mg base CX0 1 (pA K (cA K "Group") "makers") ["self"] (spMakers K) := by
  refine FAt.of Y.fGroupMakers (N := ["self"]) scGroupMakers (fun _ _ _ _ _ _ us hl => match us, hl with | [_], _ => rfl) ?_ ?_
  · intro vs H Q E h
    obtain ⟨g, n, ms, F, W, M, rfl, _⟩ := h
    rfl
  · intro cd A out s H vs Q E hr h
    obtain ⟨g, n, ms, F, W, M, rfl, ⟨gi, dx, mk, d, mo, l, us, mus, kvs, hg, h2, h3, h4, h5, h6, h7, h8⟩, q⟩ := h
    refine ⟨_, (pss_one (ps_ret (pe_fld (pv 0) rfl))), ?_⟩
    exact ⟨_, rfl, g, _, dx, _, _, rfl, hg, Y.kGroup, Y.nGroup _ (by decide), rfl, q mk us h2 h3⟩
def spOrder (K : PySem.W.Frag) : Sp := fun vs H Q _ => ∃ (g : Addr) (n : Nat) (ms F W M : List (List Nat)), vs = [.ref g] ∧ GRP K H g n ms F W M ∧ Q (.int (M.length : Int)) H
theorem scGroupOrder : FnScope ["self"] ["self"] (defScope sGroupOrder) :=
  ⟨rfl, rfl, rfl, by decide +kernel, rfl, by decide +kernel, by decide +kernel⟩
theorem fGroupOrder (T : Tx K mg) (Y : Ex K mg) : FAt P w K mg base CX0 1 (pA K (cA K "Group") "order") ["self"] (spOrder K) := by
  refine FAt.of Y.fGroupOrder (N := ["self"]) scGroupOrder (fun _ _ _ _ _ _ us hl => match us, hl with | [_], _ => rfl) ?_ ?_
  · intro vs H Q E h
    obtain ⟨g, n, ms, F, W, M, rfl, _⟩ := h
    rfl
  · intro cd A out s H vs Q E hr h
    obtain ⟨g, n, ms, F, W, M, rfl, ⟨gi, dx, mk, d, mo, l, us, mus, kvs, hg, h2, h3, h4, h5, h6, h7, h8⟩, q⟩ := h
    refine ⟨_, (pss_one (ps_ret (pe_callB call_len_seq rfl T.f_len (by decide +kernel) (pa_cons (pe_fld (pv 0) rfl) pa_nil)))), ?_⟩
    have lm := pr_len h7
    refine ⟨_, rfl, g, _, dx, _, _, rfl, hg, Y.kGroup, Y.nGroup _ (by decide), rfl, mo, mus, rfl, .inr h6.sqt, ?_⟩
    rw [lm]
    exact q
def spMoves (K : PySem.W.Frag) : Sp := fun vs H Q _ => ∃ (g : Addr) (n : Nat) (ms F W M : List (List Nat)), vs = [.ref g] ∧ GRP K H g n ms F W M ∧ ∀ a us, PlT H a us → MR H us M → Q (.ref a) H
theorem scGroupMoves : FnScope ["self"] ["self"] (defScope sGroupMoves) :=
  ⟨rfl, rfl, rfl, by decide +kernel, rfl, by decide +kernel, by decide +kernel⟩
theorem fGroupMoves (T : Tx K mg) (Y : Ex K mg) : FAt P w K mg base CX0 1 (pA K (cA K "Group") "moves") ["self"] (spMoves K) := by
  refine FAt.of Y.fGroupMoves (N := ["self"]) scGroupMoves (fun _ _ _ _ _ _ us hl => match us, hl with | [_], _ => rfl) ?_ ?_
  · intro vs H Q E h
    obtain ⟨g, n, ms, F, W, M, rfl, _⟩ := h
    rfl
  · intro cd A out s H vs Q E hr h
    obtain ⟨g, n, ms, F, W, M, rfl, ⟨gi, dx, mk, d, mo, l, us, mus, kvs, hg, h2, h3, h4, h5, h6, h7, h8⟩, q⟩ := h
    refine ⟨_, (pss_one (ps_ret (pe_fld (pv 0) rfl))), ?_⟩
    exact ⟨_, rfl, g, _, dx, _, _, rfl, hg, Y.kGroup, Y.nGroup _ (by decide), rfl, q mo mus h6 h7⟩
def spHas (K : PySem.W.Frag) : Sp := fun vs H Q _ => ∃ (g b : Addr) (n : Nat) (ms F W M : List (List Nat)) (m : List Nat), vs = [.ref g, .ref b] ∧ GRP K H g n ms F W M ∧ H b = some (.tup (mv m)) ∧ Pm n m ∧ ∀ H', Same H H' → Q (.bl (decide (m ∈ M))) H'
theorem scGroupContains : FnScope ["self", "value"] ["self", "value"] (defScope sGroupContains) :=
  ⟨rfl, rfl, rfl, by decide +kernel, rfl, by decide +kernel, by decide +kernel⟩
theorem fGroupContains (T : Tx K mg) (Y : Ex K mg) (DIsMove : Def P w K mg base CX0 5 "is_move" ["places", "value"] (spIsMove K)) : FAt P w K mg base CX0 6 (mA K (cA K "Group") "__contains__") ["self", "value"] (spHas K) := by
  refine FAt.of Y.fGroupContains (N := ["self", "value"]) scGroupContains (fun _ _ _ _ _ _ us hl => match us, hl with | [_, _], _ => rfl) ?_ ?_
  · intro vs H Q E h
    obtain ⟨g, b, n, ms, F, W, M, m, rfl, _⟩ := h
    rfl
  · intro cd A out s H vs Q E hr h
    have hr1 : Rm 5 _ := hr.le (by decide)
    obtain ⟨g, b, n, ms, F, W, M, m, rfl, ⟨gi, dx, mk, d, mo, l, us, mus, kvs, hg, h2, h3, h4, h5, h6, h7, h8⟩, hb, pm, q⟩ := h
    obtain ⟨ldx, ld, lmi, ltb, ltus, rest, hl, hld, hmi, htb, htl⟩ := h8
    refine ⟨_, (pss_one (ps_ret (pe_and (pe_d DIsMove (hr1.le (by decide)) pass0 (pa_cons (pe_fld (pv 0) rfl) (pa_cons (pv 1) pa_nil))) (pe_one (pe_cmp (pc_din hr.hu1 (pv 1) (pe_fld (pe_fld (pv 0) rfl) rfl))))))), ?_⟩
    have ⟨n1, n24, _⟩ := gi.ok
    refine ⟨_, rfl, g, _, dx, _, _, rfl, hg, Y.kGroup, Y.nGroup _ (by decide), rfl, _, rfl, n, _, _, rfl, rv_mv (.inl (.inl hb)), n1, n24, fun H2 s2 => ?_⟩
    have e := arr_mv (pm_mv pm n1 n24)
    rw [pm.len] at e
    rw [e]
    refine ⟨_, rfl, ?_⟩
    refine ifT rfl ?_
    have kb : H2 b = some (.tup ((key m).map kV)) := by rw [key_mv]; exact s2 _ _ hb
    refine ⟨_, rfl, _, rfl, g, _, dx, _, _, rfl, s2 _ _ hg, Y.kGroup, Y.nGroup _ (by decide), rfl, l, _, ldx, _, _, rfl, s2 _ _ hl, Y.kLattice, Y.nLattice _ (by decide), rfl, ld, _, rfl, DGet.t (s2 _ _ hld) kb, ?_⟩
    have ev : (valV (dk (at_ M) (fun j => V.int (j : Int)) M.length) (key m)).isSome = decide (m ∈ M) := by
      by_cases c : m ∈ M
      · have := dk_val (g := fun j => V.int (j : Int)) (fun x y hx hy e => at_inj gi.mvs.nd hx hy e) (ix_lt c)
        rw [at_ix c] at this
        rw [this, decide_eq_true c]
        rfl
      · rw [find_none, decide_eq_false c]
        · rfl
        · rw [dk_keys]
          intro z
          obtain ⟨j, hj, e⟩ := List.mem_map.mp z
          exact c (by rw [← key_inj e]; exact at_mem (List.mem_range.mp hj))
    rw [ev]
    exact q _ s2
def spWord (K : PySem.W.Frag) : Sp := fun vs H Q _ => ∃ (g b : Addr) (n : Nat) (ms F W M : List (List Nat)) (m : List Nat), vs = [.ref g, .ref b] ∧ GRP K H g n ms F W M ∧ H b = some (.tup (mv m)) ∧ m ∈ M ∧ ∀ H' t i, Same H H' → i < F.length → at_ F i = m → H' t = some (.tup (mv (at_ W i))) → Q (.ref t) H'
theorem scGroupWord : FnScope ["self", "move"] ["self", "move"] (defScope sGroupWord) :=
  ⟨rfl, rfl, rfl, by decide +kernel, rfl, by decide +kernel, by decide +kernel⟩
theorem fGroupWord (T : Tx K mg) (Y : Ex K mg) (FGroupContains : FAt P w K mg base CX0 6 (mA K (cA K "Group") "__contains__") ["self", "value"] (spHas K)) : FAt P w K mg base CX0 8 (mA K (cA K "Group") "word") ["self", "move"] (spWord K) := by
  refine FAt.of Y.fGroupWord (N := ["self", "move"]) scGroupWord (fun _ _ _ _ _ _ us hl => match us, hl with | [_, _], _ => rfl) ?_ ?_
  · intro vs H Q E h
    obtain ⟨g, b, n, ms, F, W, M, m, rfl, _⟩ := h
    rfl
  · intro cd A out s H vs Q E hr h
    have hr1 : Rm 7 _ := hr.le (by decide)
    obtain ⟨g, b, n, ms, F, W, M, m, rfl, grp, hb, hm, q⟩ := h
    have grp0 := grp
    obtain ⟨gi, dx, mk, d, mo, l, us, mus, kvs, hg, h2, h3, h4, h5, h6, h7, h8⟩ := grp
    refine ⟨_, (pss_cons (ps_if (pt_cmpR (op_notInG Y.iGroup Y.jGroup FGroupContains (hr1.le (by decide)) pass0) (pv 1) (pv 0) rfl) (pss_one ps_never) pss_nil)
      (pss_one (ps_ret (pe_dget hr.hu1 (pe_fld (pv 0) rfl) (pv 1) (fun _ _ => rfl))))), ?_⟩
    refine ⟨_, rfl, _, rfl, g, _, _, rfl, hg, g, b, n, ms, F, W, M, m, rfl, grp0, hb, gi.mvs.pm m hm, fun H2 s2 => ?_⟩
    rw [decide_eq_true hm]
    refine ⟨_, rfl, _, rfl, ?_⟩
    refine ifF rfl ?_
    obtain ⟨i, hi, em⟩ := mem_at ((gi.mf m).mp hm)
    obtain ⟨t, hv, ht⟩ := (h5.same s2).val gi.wd.len gi.wd.nd hi
    rw [em] at hv
    refine ⟨_, rfl, g, _, dx, _, _, rfl, s2 _ _ hg, Y.kGroup, Y.nGroup _ (by decide), rfl, _, rfl, d, .ref t, rfl, ?_, q H2 t i s2 hi em ht⟩
    rw [← hv]
    exact DGet.t (s2 _ _ h4) (by rw [key_mv]; exact s2 _ _ hb)
def spOfWord (K : PySem.W.Frag) : Sp := fun vs H Q _ => ∃ (g b : Addr) (n : Nat) (ms F W M : List (List Nat)) (wd : List Nat), vs = [.ref g, .ref b] ∧ GRP K H g n ms F W M ∧ SqT K H b (mv wd) ∧ wd.length ≤ 2000 ∧ (∀ k ∈ wd, k < ms.length) ∧
  ∀ H' t, Same H H' → H' t = some (.tup (mv (ev n ms wd))) → Q (.ref t) H'
theorem scGroupOfWord : FnScope ["self", "word", "index", "found"] ["self", "word"] (defScope sGroupOfWord) :=
  ⟨rfl, rfl, rfl, by decide +kernel, rfl, by decide +kernel, by decide +kernel⟩
theorem fGroupOfWord (T : Tx K mg) (Y : Ex K mg) (DIsBetween : Def P w K mg base CX0 2 "is_between" ["value", "least", "most"] (spIsBetween K)) : FAt P w K mg base CX0 4 (mA K (cA K "Group") "of_word") ["self", "word"] (spOfWord K) := by
  refine FAt.of Y.fGroupOfWord (N := ["self", "word", "index", "found"]) scGroupOfWord (fun _ _ _ _ _ _ us hl => match us, hl with | [_, _], _ => rfl) ?_ ?_
  · intro vs H Q E h
    obtain ⟨g, b, n, ms, F, W, M, wd, rfl, _⟩ := h
    rfl
  · intro cd A out s H vs Q E hr h
    have hr1 : Rm 2 _ := hr.le (by decide)
    obtain ⟨g, b, n, ms, F, W, M, wd, rfl, grp, Sb, l2000, lt, q⟩ := h
    have grp0 := grp
    obtain ⟨gi, dx, mk, d, mo, l, us, mus, kvs, hg, h2, h3, h4, h5, h6, h7, h8⟩ := grp
    obtain ⟨ldx, ld, lmi, ltb, ltus, rest, hl, hld, hmi, htb, htl⟩ := h8
    refine ⟨_, (pss_cons (ps_if (PW.pt (pw_or (pt_not (pt_val (pe_callB (cr_is .tup) rfl T.f_isinstance (by decide +kernel) (pa_cons (pv 1) (pa_cons (pe_ty .tup T.f_tuple (by decide +kernel)) pa_nil))))) (pw_or1 (pt_cmpR op_gt (pe_callB call_len_seq rfl T.f_len (by decide +kernel) (pa_cons (pv 1) pa_nil)) (C8.pe_gc rfl T.c_MOST_MEMBERS) (nomark _))))) (pss_one ps_never) pss_nil)
      (pss_cons (ps_if (pt_not (pt_val (pe_callB (cr_all rfl) rfl T.f_all (by decide +kernel) (pa_cons (pe_lc (own := [("index", 2)]) (g := gName 2) (tt := tYes) rfl scGroupOfWord.nd (pi_tup (pv 1)) (blkOk_by (N := ["self", "word", "index", "found"]) (sc := defScope sGroupOfWord) (by decide +kernel)) (fun _ _ _ _ _ => pg_name (i := 2) scGroupOfWord.nd rfl (Or.inl rfl)) (fun _ _ _ _ _ => pts_nil) (fun _ _ _ _ _ => (pe_d DIsBetween (hr1.le (by decide)) pass0 (pa_cons (pv 2) (pa_cons pe_int (pa_cons (pe_op op_sub (pe_callB (cr_lenK (K := K) rfl) rfl T.f_len (by decide +kernel) (pa_cons (show PE _ _ (tFld K _ _) from pe_fld (pv 0) rfl) pa_nil)) pe_int) pa_nil)))))) pa_nil)))) (pss_one ps_never) pss_nil)
      (pss_cons (ps_set (i := 3) scGroupOfWord.nd rfl (Or.inl rfl) pe_int)
      (pss_cons (ps_for PassesOwn.never rfl (pi_tup (pv 1)) (pg_name (i := 2) scGroupOfWord.nd rfl (Or.inl rfl))
        (pss_one (ps_set (i := 3) scGroupOfWord.nd rfl (Or.inl rfl) (pe_ix ix_tup (pe_ix ix_tup (pe_fld (pe_fld (pv 0) rfl) rfl) (pv 3) (fun _ _ => rfl)) (pe_ix ix_tup (pe_fld (pe_fld (pv 0) rfl) rfl) (pv 2) (fun _ _ => rfl)) (fun _ _ => rfl)))))
      (pss_one (ps_ret (pe_ix ix_tup (pe_fld (pv 0) rfl) (pv 3) (fun _ _ => rfl)))))))), ?_⟩
    refine ⟨_, rfl, _, _, rfl, .tup Sb, _, rfl, ?_⟩
    refine ifF rfl ?_
    refine ⟨_, rfl, _, _, rfl, .inr Sb, _, _, rfl, rfl, _, rfl, ?_⟩
    refine ifF (decide_eq_false (by rw [mv_len]; omega)) ?_
    have lus := mr_len h3
    refine ⟨_, rfl, b, rfl, ⟨_, Sb⟩, fun D nD => ?_⟩
    have sN : ∀ {o : HO}, Same H (upd H D o) := fun {o} => same_new nD
    refine lc_tpl (fun _ => .bl true) Sb nD (by rw [mv_len, sizeLine_eq]; omega) ?_ ?_
    · intro x acc hx Q' q'
      obtain ⟨k, hk, rfl⟩ := List.mem_map.mp hx
      have hkl := lt k hk
      refine ⟨_, rfl, _, rfl, g, _, dx, _, _, rfl, sN _ _ hg, Y.kGroup, Y.nGroup _ (by decide), rfl, mk, us, rfl, .inr (same_sqt sN h2), _, _, rfl, rfl, .int (k : Int), _, 0, _, rfl, .int _, ?_⟩
      rw [show isB (.int (k : Int)) 0 ((us.length : Int) - 1) = true from by
        show (decide (0 ≤ (k : Int)) && decide ((k : Int) ≤ (us.length : Int) - 1)) = true
        rw [decide_eq_true (by omega), decide_eq_true (by omega)]
        rfl]
      exact q'
    refine ⟨D, (mv wd).map fun _ => true, rfl, .inl (.inl (Eq.trans upd_same (by rw [List.map_map]; rfl))), ?_⟩
    refine ⟨_, rfl, ?_⟩
    refine ifF (by
      show (!((mv wd).map fun _ => true).all id) = false
      rw [show ((mv wd).map fun _ => true).all id = true from List.all_eq_true.mpr fun x hx => by obtain ⟨_, _, rfl⟩ := List.mem_map.mp hx; rfl]
      rfl) ?_
    have s1 := sN (o := .lst ((mv wd).map fun _ => .bl true))
    generalize upd H D _ = H1 at s1 ⊢
    have inM : ∀ i, i ≤ wd.length → ev n ms (wd.take i) ∈ M := by
      intro i
      induction i with
      | zero =>
        intro _
        show List.range n ∈ M
        rw [← gi.mvs.one]
        exact at_mem gi.mvs.pos
      | succ i ih =>
        intro hi
        rw [List.take_add_one, List.getElem?_eq_getElem (by omega)]
        show ev n ms (_ ++ [wd[i]]) ∈ M
        rw [ev_snoc]
        exact gi.mvs.mul _ (ih (by omega)) _ (gi.mk_in _ (at_mem (lt _ (List.getElem_mem (by omega)))))
    refine ⟨_, rfl, b, rfl, ⟨_, same_sqt s1 Sb⟩, for_tup (K := K) (a := b) (xs := mv wd) (fun i σ H' => H' = H1 ∧ ∃ (y2 : Option V), σ = [some (.ref g), some (.ref b), y2, some (.int (ix M (ev n ms (wd.take i)) : Int))]) ⟨rfl, none, ?_⟩ (fun i σ H' _ e => by rw [e.1]; exact same_sqt s1 Sb) ?_ ?_⟩
    · have : ix M (ev n ms []) = 0 := by
        show ix M (List.range n) = 0
        rw [← gi.mvs.one]
        exact ix_at gi.mvs.nd gi.mvs.pos
      show _ = [some (V.ref g), some (.ref b), none, some (.int (ix M (ev n ms []) : Int))]
      rw [this]
      rfl
    · rintro i v σ H' hv ⟨rfl, y2, rfl⟩
      obtain ⟨li, rfl⟩ := mv_nth hv
      have hk := lt _ (GT.getD_mem li)
      have exk : wd[i]? = some (wd.getD i 0) := by rw [GT.gD li]; exact List.getElem?_eq_getElem li
      have fM := ix_lt (inM i (by omega))
      have mM := gi.mk_in _ (at_mem hk)
      have lk := ix_lt mM
      obtain ⟨r, hr, pr⟩ := tbl_at (Kp.tbl (.of s1) htl) fM
      have em : (ms.map (ix M)).getD (wd.getD i 0) 0 = ix M (at_ ms (wd.getD i 0)) := by
        rw [List.getD, List.getElem?_map, at_get hk]
        rfl
      have nx : tb M (ix M (ev n ms (wd.take i))) (ix M (at_ ms (wd.getD i 0))) = ix M (ev n ms (wd.take (i + 1))) := by
        unfold tb
        rw [at_ix (inM i (by omega)), at_ix mM, List.take_add_one, exk]
        show _ = ix M (ev n ms (_ ++ [wd.getD i 0]))
        rw [ev_snoc]
      have s1l := s1 _ _ hl
      have s1g := s1 _ _ hg
      refine ⟨_, rfl, g, _, dx, _, _, rfl, s1g, Y.kGroup, Y.nGroup _ (by decide), rfl, l, _, ldx, _, _, rfl, s1l, Y.kLattice, Y.nLattice _ (by decide), rfl, _, rfl, ltb, ltus, _, .ref r, rfl, rfl, same_sqt s1 htb, atI_nat hr,
        _, rfl, g, _, dx, _, _, rfl, s1g, Y.kGroup, Y.nGroup _ (by decide), rfl, l, _, ldx, _, _, rfl, s1l, Y.kLattice, Y.nLattice _ (by decide), rfl, _, rfl, lmi, mv (ms.map (ix M)), _, _, rfl, rfl, .inl (.inl (s1 _ _ hmi)), mv_at (by rw [List.length_map]; exact hk),
        r, _, _, _, rfl, rfl, pr.sqt, by rw [em]; exact row_at lk, rfl, some (.int ((wd.getD i 0 : Nat) : Int)), ?_⟩
      rw [nx]
      rfl
    · rintro σ H' ⟨rfl, y2, rfl⟩
      rw [mv_len, List.take_of_length_le (Nat.le_refl _)]
      have eM := inM wd.length (Nat.le_refl _)
      rw [List.take_of_length_le (Nat.le_refl _)] at eM
      obtain ⟨u, hu, t, rfl, ht⟩ := pr_get (h7.same s1) (at_get (ix_lt eM))
      rw [at_ix eM] at ht
      exact ⟨_, rfl, g, _, dx, _, _, rfl, s1 _ _ hg, Y.kGroup, Y.nGroup _ (by decide), rfl, _, rfl, mo, mus, _, .ref t, rfl, rfl, (Kp.plt (.of s1) h6).sqt, atI_nat hu, q _ t s1 ht⟩
/-- how often each number stands in a list -/
def cntTo (kvs : List (L2.Key × V)) (z : Int) : List (L2.Key × V) := putK kvs (.inl z) (.int ((match valV kvs (.inl z) with | some (.int i) => i | _ => 0) + 1))
def cnt (zs : List Int) : List (L2.Key × V) := zs.foldl cntTo []
def spCounts (K : PySem.W.Frag) : Sp := fun vs H Q _ => ∃ (g : Addr) (n : Nat) (ms F W M : List (List Nat)), vs = [.ref g] ∧ GRP K H g n ms F W M ∧
  ∀ H' t (os : List Nat) (zs : List Int), Same H H' → os.length = M.length → (∀ i, i < M.length → IsOrd (tb M) i (os.getD i 0)) → zs.Perm (GT.toI os) → zs.Pairwise (· ≤ ·) → H' t = some (.dK (cnt zs)) → Q (.ref t) H'
theorem scGroupOrderCounts : FnScope ["self", "counts", "order"] ["self"] (defScope sGroupOrderCounts) :=
  ⟨rfl, rfl, rfl, by decide +kernel, rfl, by decide +kernel, by decide +kernel⟩
theorem fGroupOrderCounts (T : Tx K mg) (Y : Ex K mg) (DOrdersOf : Def P w K mg base CX0 2 "orders_of" ["table"] (spOrders K)) : FAt P w K mg base CX0 4 (mA K (cA K "Group") "order_counts") ["self"] (spCounts K) := by
  refine FAt.of Y.fGroupOrderCounts (N := ["self", "counts", "order"]) scGroupOrderCounts (fun _ _ _ _ _ _ us hl => match us, hl with | [_], _ => rfl) ?_ ?_
  · intro vs H Q E h
    obtain ⟨g, n, ms, F, W, M, rfl, _⟩ := h
    rfl
  · intro cd A out s H vs Q E hr h
    have hu := hr.hu1
    have hr1 : Rm 2 _ := hr.le (by decide)
    obtain ⟨g, n, ms, F, W, M, rfl, grp, q⟩ := h
    have grp0 := grp
    obtain ⟨gi, dx, mk, d, mo, l, us, mus, kvs, hg, h2, h3, h4, h5, h6, h7, h8⟩ := grp
    obtain ⟨ldx, ld, lmi, ltb, ltus, rest, hl, hld, hmi, htb, htl⟩ := h8
    refine ⟨_, (pss_cons (ps_set (i := 1) scGroupOrderCounts.nd rfl (Or.inl rfl) pe_dnewK)
      (pss_cons (ps_for PassesOwn.never rfl (pi_list (pe_callB (show CallR _ _ (rSortedIT K) from cr_sortedIT hr.hu) rfl T.f_sorted (by decide +kernel) (pa_cons (pe_d DOrdersOf (hr1.le (by decide)) pass0 (pa_cons (pe_fld (pe_fld (pv 0) rfl) rfl) pa_nil)) pa_nil))) (pg_name (i := 2) scGroupOrderCounts.nd rfl (Or.inl rfl))
        (pss_one (ps_dput hu (pv 1) (pv 2) (pe_op op_add (pe_dget2 hu (pv 1) (pv 2) pe_int ⟨rfl, rfl, rfl, rfl⟩) pe_int) rfl)))
      (pss_one (ps_ret (pv 1))))), ?_⟩
    refine fun C nC => ?_
    have s1 := same_new (o := .dK []) nC
    have hC : (upd H C (.dK [])) C = some (.dK []) := upd_same
    generalize upd H C _ = H1 at s1 hC ⊢
    have s1l := s1 _ _ hl
    have s1g := s1 _ _ hg
    refine ⟨_, rfl, g, _, dx, _, _, rfl, s1g, Y.kGroup, Y.nGroup _ (by decide), rfl, l, _, ldx, _, _, rfl, s1l, Y.kLattice, Y.nLattice _ (by decide), rfl, ?_⟩
    have mfew := gi.few
    refine ⟨ltb, ltus, M, rfl, same_sqt s1 htb, Kp.tbl (.of s1) htl, by omega, gi.mvs.gp, fun H2 t O s2 ht lO isO => ?_⟩
    rw [mv_toI] at ht
    refine ⟨t, GT.toI O, rfl, .inl (.inl ht), by unfold GT.toI; rw [List.length_map]; omega, fun zs p pz az np => ?_⟩
    have s3 := s2.trans (same_new (o := .lst (zs.map V.int)) np)
    have hp : (upd H2 p (.lst (zs.map V.int))) p = some (.lst (zs.map V.int)) := upd_same
    generalize upd H2 p _ = H3 at s3 hp ⊢
    have lz : zs.length = M.length := by rw [pz.length_eq, ← lO]; exact List.length_map _
    refine ⟨p, rfl, ⟨_, lst_sql' hp⟩, for_list (K := K) (a := p) (xs := zs.map V.int) (fun i σ H' => (∃ (y2 : Option V), σ = [some (.ref g), some (.ref C), y2]) ∧ Same H H' ∧ H' C = some (.dK (cnt (zs.take i))) ∧ H' p = some (.lst (zs.map V.int)) ∧ (cnt (zs.take i)).length ≤ i ∧ ∀ z u, valV (cnt (zs.take i)) (.inl z) = some u → ∃ k : Int, u = .int k) ⟨⟨_, rfl⟩, s1.trans s3, s3 _ _ hC, hp, Nat.le_refl _, fun z u h => by cases h⟩ (fun i σ H' _ e => lst_sql' e.2.2.2.1) ?_ ?_⟩
    · rintro i v σ H' hv ⟨⟨y2, rfl⟩, s4, hC4, hp4, lk, iv⟩
      rw [List.getElem?_map] at hv
      obtain ⟨z, hz, rfl⟩ : ∃ z, zs[i]? = some z ∧ V.int z = v := by
        cases e : zs[i]? with
        | none => rw [e] at hv; cases hv
        | some z => rw [e] at hv; exact ⟨z, rfl, Option.some.inj hv⟩
      have iz := (List.getElem?_eq_some_iff.mp hz).1
      have et : cnt (zs.take (i + 1)) = cntTo (cnt (zs.take i)) z := by
        rw [List.take_add_one, hz]
        unfold cnt
        rw [List.foldl_append]
        rfl
      have gv : (valV (cnt (zs.take i)) (.inl z)).getD (.int 0) = .int (match valV (cnt (zs.take i)) (.inl z) with | some (.int i) => i | _ => 0) := by
        cases e : valV (cnt (zs.take i)) (.inl z) with
        | none => rfl
        | some u =>
          obtain ⟨k, rfl⟩ := iv z u e
          rfl
      have nC : ∀ b o, H b = some o → b ≠ C := fun b o e z => by rw [z, nC] at e; cases e
      have Cp : p ≠ C := fun z => by rw [z, hC4] at hp4; cases hp4
      refine ⟨_, rfl, C, rfl, .inl ⟨_, .inl hC4⟩, _, rfl, _, DGet.k (k := .inl z) hC4, _, 1, gv, rfl, _, rfl, _, rfl, C, _, rfl, DPut.k (k := .inl z) hC4 (by rw [sizeLine_eq]; omega), ⟨_, rfl⟩, fun b o e => (upd_ne (nC b o e)).trans (s4 _ _ e), ?_, (upd_ne Cp).trans hp4, ?_, ?_⟩
      · rw [et]
        exact upd_same
      · rw [et]
        have := length_putK (cnt (zs.take i)) (.inl z) (.int ((match valV (cnt (zs.take i)) (.inl z) with | some (.int i) => i | _ => 0) + 1))
        unfold cntTo
        omega
      · intro z' u hu
        rw [et] at hu
        unfold cntTo at hu
        rw [val_put] at hu
        split at hu
        · exact ⟨_, (Option.some.inj hu).symm⟩
        · exact iv z' u hu
    · rintro σ H' ⟨⟨y2, rfl⟩, s4, hC4, hp4, lk, iv⟩
      rw [List.length_map, List.take_of_length_le (Nat.le_refl _)] at hC4
      exact ⟨_, rfl, q H' C O zs s4 lO isO pz az hC4⟩
end
end K08


set_option Elab.async false
set_option linter.all false
set_option maxRecDepth 100000
set_option maxHeartbeats 4000000
namespace K08
open PySem PySem.Spec PyProof.Rows L2 MM GT LamX
/-! own words for the readings: a step, its side -/
local macro_rules | `(tactic| walk_at "side") => `(tactic| first
  | omega
  | exact ⟨by omega, by omega⟩
  | exact Or.inl ⟨by omega, by omega⟩
  | exact Or.inr ⟨by omega, by omega⟩
  | (show CPw _ _; decide +kernel)
  | (show (0 : Int) < _; decide +kernel)
  | (show CDivW _ _; first | assumption | exact ⟨by decide, by decide +kernel⟩))
local macro_rules | `(tactic| walk_at "here") => `(tactic| first
  | assumption
  | exact upd_same
  | exact Or.inl (Or.inl upd_same)
  | exact Or.inl upd_same)
local macro_rules | `(tactic| walk_at "one") => `(tactic| first
  | refine ⟨_, rfl, ?_⟩
  | refine Or.inl ⟨_, rfl, ?_⟩
  | refine Or.inr ⟨_, rfl, ?_⟩
  | refine ⟨_, _, rfl, rfl, (by walk_at "side"), ?_⟩
  | refine ⟨_, _, rfl, rfl, ?_⟩
  | refine ⟨_, _, rfl, Or.inl (by walk_at "here"), ?_⟩
  | refine ⟨_, _, rfl, Or.inr (by walk_at "here"), ?_⟩
  | refine ⟨_, _, rfl, (by walk_at "here"), ?_⟩
  | refine ⟨_, _, _, _, rfl, rfl, (by walk_at "here"), rfl, ?_⟩
  | refine ⟨_, _, rfl, ?_⟩
  | refine ifT (by rfl) ?_
  | refine ifF (by rfl) ?_
  | refine ifT (decide_eq_true (by omega)) ?_
  | refine ifF (decide_eq_false (by omega)) ?_)
local macro_rules | `(tactic| walk_at "st") => `(tactic| repeat (walk_at "one"))

section
variable {P : Program} {w : World} {K : PySem.W.Frag} {mg : Str → Option Value} {base : Heap}
theorem grp_made {a : Addr} {n : Nat} {us : List V} {ms : List (List Nat)} {H : Hp} {Q : VK} {E : XK} (S : SqT K H a us) (mr : MR H us ms) (ok : GrpOk n ms) (tabs : Tabs (TL K) H)
    (q : ∀ x H' F W M, ExtN H H' → H x = none → Tabs (TL K) H' → GRP K H' x n ms F W M → Q (.ref x) H') (x dx : Addr) (nx : H x = none) (nd : H dx = none) (ne : dx ≠ x) :
    spGrpInit K (.ref x :: ([.int (n : Int), .ref a] ++ [])) (upd (upd H dx (.own x)) x (.ins (cA K "Group") dx [])) (fun v H2 => v = .non ∧ Q (.ref x) H2) E := by
  have sm : Same H (upd (upd H dx (.own x)) x (.ins (cA K "Group") dx [])) := fun b o e => by
    rw [upd_ne (ne_of_none e nx), upd_ne (ne_of_none e nd)]
    exact e
  refine ⟨x, dx, a, n, us, ms, rfl, upd_same, same_sqt sm S, mr.same sm, ok, tabs_same tabs sm, fun H' F W M lk g tabs' => ⟨rfl, q x H' F W M (fun b o e t => lk b o (fun z => by rw [z, nx] at e; cases e) (sm _ _ e) t) nx tabs' g⟩⟩
def rot (n : Nat) : List Nat := (List.range n).map fun p => (p + 1) % n
def spNext (K : PySem.W.Frag) : Sp := fun vs H Q _ => ∃ n : Nat, vs = [.int (n : Int)] ∧ 1 ≤ n ∧ n ≤ 24 ∧ ∀ H' t, Same H H' → H' t = some (.tup (mv (rot n))) → Q (.ref t) H'
theorem scNextPlaces : FnScope ["number", "place"] ["number"] (defScope sNextPlaces) :=
  ⟨rfl, rfl, rfl, by decide +kernel, rfl, by decide +kernel, by decide +kernel⟩
theorem dNextPlaces (T : Tx K mg) : Def P w K mg base CX0 1 "_next_places" ["number"] (spNext K) := by
  refine T.t_next_places.def_ (N := ["number", "place"]) scNextPlaces (fun _ _ _ _ _ _ us hl => match us, hl with | [_], _ => rfl) ?_ ?_
  · intro vs H Q E h
    obtain ⟨n, rfl, _⟩ := h
    rfl
  · intro f cd A out s H vs Q E hr h
    obtain ⟨n, rfl, n1, n24, q⟩ := h
    refine ⟨_, (pss_one (ps_ret (pe_callTy call_tuple_of rfl T.f_tuple (by decide +kernel) (pa_cons (pe_lc (own := [("place", 1)]) (g := gName 1) (tt := tYes) rfl scNextPlaces.nd (pi_range1 rfl T.f_range (pa_cons (pv 0) pa_nil)) (blkOk_by (N := ["number", "place"]) (sc := defScope sNextPlaces) (by decide +kernel)) (fun _ _ _ _ _ => pg_name (i := 1) scNextPlaces.nd rfl (Or.inl rfl)) (fun _ _ _ _ _ => pts_nil) (fun _ _ _ _ _ => (pe_op op_mod (pe_op op_add (pv 1) pe_int) (pv 0)))) pa_nil)))), ?_⟩
    refine ⟨_, rfl, (n : Int), rfl, by omega, by omega, fun D nD => ?_⟩
    refine lc_range (Pv := fun i H' => Same H H' ∧ H' D = some (.lst (mv ((rot n).take i)))) ⟨same_new nD, upd_same⟩ ?_ ?_
    · rintro i H1 hi ⟨s1, hD⟩
      have ir : i < n := by omega
      refine ⟨wipe_one, yes_ ?_⟩
      have e3 : (mv ((rot n).take i)).length ≤ i := by
        rw [mv_len]
        exact List.length_take_le _ _
      refine ⟨_, rfl, _, 1, rfl, rfl, _, rfl, _, _, rfl, rfl, by omega, _, hD, by rw [sizeLine_eq]; omega, fun y o e => (upd_ne (ne_of_none e nD)).trans (s1 _ _ e), ?_⟩
      rw [upd_same, List.take_add_one, show (rot n)[i]? = some ((i + 1) % n) by unfold rot; rw [List.getElem?_map, List.getElem?_range ir]; rfl]
      unfold mv
      rw [List.map_append]
      show some (HO.lst (_ ++ [V.int ((0 + (i : Int) + 1) % (n : Int))])) = some (HO.lst (_ ++ [V.int (((i + 1) % n : Nat) : Int)]))
      rw [Int.zero_add, show (((i + 1) % n : Nat) : Int) = ((i : Int) + 1) % (n : Int) from by rw [Int.natCast_emod, Int.natCast_add]; rfl]
    rintro H1 ⟨s1, hD⟩
    rw [Int.toNat_natCast, List.take_of_length_le (by unfold rot; rw [List.length_map, List.length_range]; exact Nat.le_refl _)] at hD
    exact ⟨D, _, rfl, .inl ⟨lst_sql' hD, fun t nt => q _ t (s1.trans (same_new nt)) upd_same⟩⟩
def spTurning (K : PySem.W.Frag) : Sp := fun vs H Q _ => ∃ n : Nat, vs = [.ref (cA K "Group"), .int (n : Int)] ∧ 1 ≤ n ∧ n ≤ 24 ∧ GrpOk n [rot n] ∧ Tabs (TL K) H ∧ ∀ x H' F W M, ExtN H H' → H x = none → Tabs (TL K) H' → GRP K H' x n [rot n] F W M → Q (.ref x) H'
theorem scGroupTurning : FnScope ["cls", "number"] ["cls", "number"] (defScope sGroupTurning) :=
  ⟨rfl, rfl, rfl, by decide +kernel, rfl, by decide +kernel, by decide +kernel⟩
theorem fGroupTurning (T : Tx K mg) (Y : Ex K mg) (DNeedPlaces : Def P w K mg base CX0 4 "need_places" ["places"] (spNeedPlaces K)) (DNextPlaces : Def P w K mg base CX0 1 "_next_places" ["number"] (spNext K)) (FGroupInit : FAt P w K mg base CX0 7 (mA K (cA K "Group") "__init__") ["self", "places", "makers"] (spGrpInit K)) : FAt P w K mg base CX0 9 (kA K (cA K "Group") "turning") ["cls", "number"] (spTurning K) := by
  refine FAt.of Y.fGroupTurning (N := ["cls", "number"]) scGroupTurning (fun _ _ _ _ _ _ us hl => match us, hl with | [_, _], _ => rfl) ?_ ?_
  · intro vs H Q E h
    obtain ⟨n, rfl, _⟩ := h
    rfl
  · intro cd A out s H vs Q E hr h
    have hr1 : Rm 8 _ := hr.le (by decide)
    obtain ⟨n, rfl, n1, n24, ok, tabs, q⟩ := h
    refine ⟨_, (pss_cons (ps_expr (pe_d DNeedPlaces (hr1.le (by decide)) pass0 (pa_cons (pv 1) pa_nil)))
      (pss_one (ps_ret (pe_makeV (i := 0) Y.uGroup FGroupInit (hr1.le (by decide)) pass0 (pa_cons (pv 1) (pa_cons (pe_tup (pa_cons (pe_d DNextPlaces (hr1.le (by decide)) pass0 (pa_cons (pv 1) pa_nil)) pa_nil)) pa_nil)) rfl (Or.inl rfl))))), ?_⟩
    refine ⟨_, rfl, n, rfl, n1, n24, ?_⟩
    refine ⟨rfl, _, rfl, _, rfl, n, rfl, n1, n24, fun H1 t s1 ht => ⟨by show 1 ≤ sizeLine; decide, fun p np => ?_⟩⟩
    have k1 := same_new (o := .tup [.ref t]) np
    have s2 := s1.trans k1
    refine grp_made (a := p) (n := n) (us := [.ref t]) (ms := [rot n]) (.inl (.inl upd_same)) (.cons ⟨t, rfl, k1 _ _ ht⟩ .nil) ok (tabs_same tabs s2) fun x H' F W M e nx tabs' g => q x H' F W M ((ExtN.of s2).trans e) ?_ tabs' g
    cases z : H x with
    | none => rfl
    | some o => rw [s2 _ _ z] at nx; cases nx
def spNeedGroup (K : PySem.W.Frag) : Sp := fun vs H Q _ => ∃ (g : Addr) (n : Nat) (ms F W M : List (List Nat)), vs = [.ref g] ∧ GRP K H g n ms F W M ∧ Q .non H
theorem scNeedGroup : FnScope ["group"] ["group"] (defScope sNeedGroup) :=
  ⟨rfl, rfl, rfl, by decide +kernel, rfl, by decide +kernel, by decide +kernel⟩
theorem dNeedGroup (T : Tx K mg) (Y : Ex K mg) : Def P w K mg base CX0 1 "need_group" ["group"] (spNeedGroup K) := by
  refine T.t_need_group.def_ (N := ["group"]) scNeedGroup (fun _ _ _ _ _ _ us hl => match us, hl with | [_], _ => rfl) ?_ ?_
  · intro vs H Q E h
    obtain ⟨g, n, ms, F, W, M, rfl, _⟩ := h
    rfl
  · intro f cd A out s H vs Q E hr h
    obtain ⟨g, n, ms, F, W, M, rfl, ⟨gi, dx, mk, d, mo, l, us, mus, kvs, hg, h2, h3, h4, h5, h6, h7, h8⟩, q⟩ := h
    refine ⟨_, (pss_one (ps_if (pt_not (pt_val (pe_callB call_isi rfl T.f_isinstance (by decide +kernel) (pa_cons (pv 0) (pa_cons (C8.pe_gc (v := .ref (cA K "Group")) rfl ⟨_, Y.gGroup, rfl⟩) pa_nil))))) (pss_one ps_never) pss_nil)), ?_⟩
    refine ⟨_, rfl, _, _, _, _, true, rfl, .own _, .base (.ins hg Y.kGroup Y.aGroup Y.bGroup Y.cGroup Y.dGroup), by unfold PySem.W.kitOne; simp, _, rfl, ?_⟩
    exact ifF rfl q
def addV (n : Nat) : V → V
  | .int i => .int ((n : Int) + i)
  | _ => .non
theorem addV_mv (n : Nat) (m : List Nat) : (mv m).map (addV n) = mv (m.map (n + ·)) := by
  unfold mv
  rw [List.map_map, List.map_map]
  rfl
def spBeside (K : PySem.W.Frag) : Sp := fun vs H Q _ => ∃ (g g2 : Addr) (n n2 : Nat) (ms F W M ms2 F2 W2 M2 : List (List Nat)), vs = [.ref g, .ref g2] ∧ GRP K H g n ms F W M ∧ GRP K H g2 n2 ms2 F2 W2 M2 ∧ n + n2 ≤ 24 ∧ ms.length + ms2.length ≤ 6 ∧ GrpOk (n + n2) (besM n n2 ms ms2) ∧ Tabs (TL K) H ∧
  ∀ x H' F W M, ExtN H H' → H x = none → Tabs (TL K) H' → GRP K H' x (n + n2) (besM n n2 ms ms2) F W M → Q (.ref x) H'
theorem scBeside : FnScope ["one", "other", "places", "behind", "ahead", "makers", "maker", "place"] ["one", "other"] (defScope sBeside) :=
  ⟨rfl, rfl, rfl, by decide +kernel, rfl, by decide +kernel, by decide +kernel⟩
theorem dBeside (T : Tx K mg) (Y : Ex K mg) (DNeedGroup : Def P w K mg base CX0 1 "need_group" ["group"] (spNeedGroup K)) (FGroupPlaces : FAt P w K mg base CX0 1 (pA K (cA K "Group") "places") ["self"] (spPlaces K)) (FGroupMakers : FAt P w K mg base CX0 1 (pA K (cA K "Group") "makers") ["self"] (spMakers K)) (FGroupInit : FAt P w K mg base CX0 7 (mA K (cA K "Group") "__init__") ["self", "places", "makers"] (spGrpInit K)) : Def P w K mg base CX0 9 "beside" ["one", "other"] (spBeside K) := by
  refine T.t_beside.def_ (N := ["one", "other", "places", "behind", "ahead", "makers", "maker", "place"]) scBeside (fun _ _ _ _ _ _ us hl => match us, hl with | [_, _], _ => rfl) ?_ ?_
  · intro vs H Q E h
    obtain ⟨g, g2, n, n2, ms, F, W, M, ms2, F2, W2, M2, rfl, _⟩ := h
    rfl
  · intro f cd A out s H vs Q E hr h
    have hr1 : Rm 8 _ := hr.le (by decide)
    obtain ⟨g, g2, n, n2, ms, F, W, M, ms2, F2, W2, M2, rfl, G1, G2, n24, m6, ok, tabs, q⟩ := h
    have ⟨gi, dx, mk, d, mo, l, us, mus, kvs, hg, h2, h3, h4, h5, h6, h7, h8⟩ := G1
    have ⟨gi', dx', mk', d', mo', l', us', mus', kvs', hg', h2', h3', h4', h5', h6', h7', h8'⟩ := G2
    refine ⟨_, (pss_cons (ps_expr (pe_d DNeedGroup (hr1.le (by decide)) pass0 (pa_cons (pv 0) pa_nil)))
      (pss_cons (ps_expr (pe_d DNeedGroup (hr1.le (by decide)) pass0 (pa_cons (pv 1) pa_nil)))
      (pss_cons (ps_set (i := 2) scBeside.nd rfl (Or.inl rfl) (pe_op op_add (pe_propG (pv 0) Y.kGroup Y.pGroupPlaces FGroupPlaces (hr1.le (by decide)) pass0) (pe_propG (pv 1) Y.kGroup Y.pGroupPlaces FGroupPlaces (hr1.le (by decide)) pass0)))
      (pss_cons (ps_if (pt_cmpR op_gt (pv 2) (C8.pe_gc rfl T.c_MAX_PLACES) (nomark _)) (pss_one ps_never) pss_nil)
      (pss_cons (ps_if (pt_cmpR op_gt (pe_op op_add (pe_callB call_len_seq rfl T.f_len (by decide +kernel) (pa_cons (pe_propG (pv 0) Y.kGroup Y.pGroupMakers FGroupMakers (hr1.le (by decide)) pass0) pa_nil)) (pe_callB call_len_seq rfl T.f_len (by decide +kernel) (pa_cons (pe_propG (pv 1) Y.kGroup Y.pGroupMakers FGroupMakers (hr1.le (by decide)) pass0) pa_nil))) (C8.pe_gc rfl T.c_MAX_MAKERS) (nomark _)) (pss_one ps_never) pss_nil)
      (pss_cons (ps_set (i := 3) scBeside.nd rfl (Or.inr rfl) (pe_tupRg rfl rfl T.f_tuple (prg_2 rfl T.f_range (pe_propG (pv 0) Y.kGroup Y.pGroupPlaces FGroupPlaces (hr1.le (by decide)) pass0) (pv 2))))
      (pss_cons (ps_set (i := 4) scBeside.nd rfl (Or.inl rfl) (pe_tupRg rfl rfl T.f_tuple (prg_1 rfl T.f_range (pe_propG (pv 0) Y.kGroup Y.pGroupPlaces FGroupPlaces (hr1.le (by decide)) pass0))))
      (pss_cons (ps_setLc (i := 5) (own := [("maker", 6)]) (g := gName 6) (tt := tYes) rfl scBeside.nd rfl rfl (sw_true rfl rfl rfl rfl) (pi_tup (pe_propG (pv 0) Y.kGroup Y.pGroupMakers FGroupMakers (hr1.le (by decide)) pass0)) (blkOk_by (N := ["one", "other", "places", "behind", "ahead", "makers", "maker", "place"]) (sc := defScope sBeside) (by decide +kernel)) (fun _ _ _ _ _ => pg_name (i := 6) scBeside.nd rfl (Or.inl rfl)) (fun _ _ _ _ _ => pts_nil) (fun _ _ _ _ _ => (pe_op (show OpR _ _ (rCatA K) from op_catA) (pv 6) (pv 3))))
      (pss_cons (ps_for PassesOwn.never rfl (pi_tup (pe_propG (pv 1) Y.kGroup Y.pGroupMakers FGroupMakers (hr1.le (by decide)) pass0)) (pg_name (i := 6) scBeside.nd rfl (Or.inl rfl))
        (pss_one (ps_expr (pe_bm PySem.F.plainAttrs_list PySem.F.slot_list_append PySem.F.type_list_append mt_append (pv 5) (pa_cons (pe_op op_catA (pv 4) (pe_callTy call_tuple_of rfl T.f_tuple (by decide +kernel) (pa_cons (pe_lc (own := [("place", 7)]) (g := gName 7) (tt := tYes) rfl scBeside.nd (pi_tup (pv 6)) (blkOk_by (N := ["one", "other", "places", "behind", "ahead", "makers", "maker", "place"]) (sc := defScope sBeside) (by decide +kernel)) (fun _ _ _ _ _ => pg_name (i := 7) scBeside.nd rfl (Or.inl rfl)) (fun _ _ _ _ _ => pts_nil) (fun _ _ _ _ _ => (pe_op op_add (show PE _ _ (tProp (cA K "Group") (spPlaces K) [] _ _) from (pe_propG (pv 0) Y.kGroup Y.pGroupPlaces FGroupPlaces (hr1.le (by decide)) pass0)) (pv 7)))) pa_nil))) pa_nil)))))
      (pss_one (ps_ret (pe_makeG Y.uGroup FGroupInit (hr1.le (by decide)) Y.gGroup pass0 (pa_cons (pv 2) (pa_cons (pe_callTy call_tuple_of rfl T.f_tuple (by decide +kernel) (pa_cons (pv 5) pa_nil)) pa_nil)))))))))))))), ?_⟩
    refine ⟨_, rfl, g, n, ms, F, W, M, rfl, G1, ?_⟩
    refine ⟨_, rfl, g2, n2, ms2, F2, W2, M2, rfl, G2, ?_⟩
    refine ⟨_, rfl, g, _, _, rfl, hg, g, n, ms, F, W, M, rfl, G1, _, rfl, g2, _, _, rfl, hg', g2, n2, ms2, F2, W2, M2, rfl, G2, _, _, rfl, rfl, ?_⟩
    refine ⟨_, rfl, _, _, rfl, rfl, _, rfl, ?_⟩
    refine ifF (decide_eq_false (by omega)) ?_
    refine ⟨_, rfl, g, _, _, rfl, hg, g, n, ms, F, W, M, rfl, G1, fun a us0 S mr => ⟨a, us0, rfl, .inr S, ?_⟩⟩
    refine ⟨_, rfl, g2, _, _, rfl, hg', g2, n2, ms2, F2, W2, M2, rfl, G2, fun a2 us2 S2 mr2 => ⟨a2, us2, rfl, .inr S2, _, _, rfl, rfl, _, _, rfl, rfl, _, rfl, ?_⟩⟩
    have l0 := mr_len mr
    have l2 := mr_len mr2
    refine ifF (decide_eq_false (by omega)) ?_
    have n1 := gi.ok.1
    have n21 := gi'.ok.1
    refine ⟨_, rfl, g, _, _, rfl, hg, g, n, ms, F, W, M, rfl, G1, _, rfl, _, _, rfl, rfl, ⟨by omega, by omega, by omega, by omega, by omega⟩, fun t1 nt1 => ?_⟩
    have erg : rgV (n : Int) ((fun i j => i + j) (n : Int) (n2 : Int)) = mv ((List.range n2).map (n + ·)) := by
      unfold rgV mv
      rw [show (((fun i j => i + j) (n : Int) (n2 : Int)) - (n : Int)).toNat = n2 by show ((n : Int) + n2 - n).toNat = n2; omega, List.map_map]
      rfl
    rw [erg]
    have s1 := same_new (o := .tup (mv ((List.range n2).map (n + ·)))) nt1
    have ht1 : (upd H t1 (.tup (mv ((List.range n2).map (n + ·))))) t1 = some (.tup (mv ((List.range n2).map (n + ·)))) := upd_same
    generalize upd H t1 _ = H1 at s1 ht1 ⊢
    refine ⟨_, rfl, g, _, _, rfl, s1 _ _ hg, g, n, ms, F, W, M, rfl, Kp.grp (.of s1) G1, n, rfl, ⟨by omega, by omega, by omega, by omega, by omega⟩, fun t2 nt2 => ?_⟩
    rw [rg_mv]
    have k2 := same_new (o := .tup (mv (List.range n))) nt2
    have ht2 : (upd H1 t2 (.tup (mv (List.range n)))) t2 = some (.tup (mv (List.range n))) := upd_same
    have s2 := s1.trans k2
    replace ht1 := k2 _ _ ht1
    generalize upd H1 t2 _ = H2 at s2 ht1 ht2 ⊢
    clear k2 s1
    refine ⟨_, rfl, g, _, _, rfl, s2 _ _ hg, g, n, ms, F, W, M, rfl, Kp.grp (.of s2) G1, fun a us0 S mr => ⟨a, rfl, ⟨us0, S⟩, fun D nD => ?_⟩⟩
    have pmx := gi.ok.2.2.2.1
    have pmy := gi'.ok.2.2.2.1
    have l0 := mr_len mr
    refine lc_tup (K := K) (a := a) (xs := us0) (Pv := fun i H' => Same H2 H' ∧ ∃ acc, H' D = some (.lst acc) ∧ MR H' acc ((ms.map fun m => bes m (List.range n2)).take i)) ⟨same_new nD, [], upd_same, .nil⟩ (fun i H' _ e => same_sqt e.1 S) ?_ ?_
    · rintro i v H3 hv ⟨s3, acc, hD, ma⟩
      obtain ⟨m, hm, b, rfl, hb⟩ := pr_at mr hv
      have pm := pmx m (List.mem_of_getElem? hm)
      have il := (List.getElem?_eq_some_iff.mp hm).1
      have la := mr_len ma
      have lt := List.length_take_le i (ms.map fun m => bes m (List.range n2))
      refine ⟨wipe_one, yes_ ?_⟩
      refine ⟨_, rfl, _, rfl, cat_tup (.inl (.inl (s3 _ _ hb))) (s3 _ _ ht1) (by rw [mv_len, mv_len, List.length_map, List.length_range, pm.len, sizeLine_eq]; omega) (fun e => by have := congrArg List.length e; rw [mv_len, List.length_map, List.length_range] at this; simp at this; omega) fun H4 p s4 hp => ?_⟩
      refine ⟨acc, s4 _ _ hD, by rw [la, sizeLine_eq]; omega, fun y o e => (upd_ne (ne_of_none e nD)).trans (s4 _ _ (s3 _ _ e)), acc ++ [.ref p], upd_same, ?_⟩
      rw [List.take_add_one, List.getElem?_map, hm]
      have hD4 := s4 _ _ hD
      refine pr_snoc ((ma.same s4).upd hD4 fun _ z => by cases z) ⟨p, rfl, (upd_ne (ne_of hp hD4 fun z => by cases z)).trans ?_⟩
      rw [hp]
      show some (HO.tup (mv m ++ mv _)) = some (HO.tup (mv (m ++ (List.range n2).map (m.length + ·))))
      rw [pm.len]
      unfold mv
      rw [List.map_append]
    rintro H3 ⟨s3, acc, hD, ma⟩
    rw [l0, List.take_of_length_le (by rw [List.length_map]; exact Nat.le_refl _)] at ma
    have s23 := s2.trans s3
    replace ht2 := s3 _ _ ht2
    clear ht1 S mr
    refine ⟨_, rfl, g2, _, _, rfl, s23 _ _ hg', g2, n2, ms2, F2, W2, M2, rfl, Kp.grp (.of s23) G2, fun a2 us2 S2 mr2 => ⟨a2, rfl, ⟨us2, S2⟩, ?_⟩⟩
    have l2 := mr_len mr2
    have nDH : ∀ b o, H b = some o → b ≠ D := fun b o e => ne_of_none (s2 _ _ e) nD
    have hX := hD
    refine for_tup (K := K) (a := a2) (xs := us2) (fun i σ H' => (∃ y6 y7, σ = [some (.ref g), some (.ref g2), some (.int ((n : Int) + (n2 : Int))), some (.ref t1), some (.ref t2), some (.ref D), y6, y7]) ∧ Same H H' ∧ SqT K H' a2 us2 ∧ MR H' us2 ms2 ∧ H' t2 = some (.tup (mv (List.range n))) ∧ ∃ acc, H' D = some (.lst acc) ∧ MR H' acc ((ms.map fun m => bes m (List.range n2)) ++ (ms2.map fun m => bes (List.range n) m).take i)) ⟨⟨none, none, rfl⟩, s23, S2, mr2, ht2, acc, hD, by rw [List.take_zero, List.append_nil]; exact ma⟩ (fun i σ H' _ e => e.2.2.1) ?_ ?_
    · rintro i v σ H4 hv ⟨⟨y6, y7, rfl⟩, s4, S4, mr4, ht4, acc4, hD4, ma4⟩
      obtain ⟨m, hm, b, rfl, hb⟩ := pr_at mr4 hv
      have pm := pmy m (List.mem_of_getElem? hm)
      have il := (List.getElem?_eq_some_iff.mp hm).1
      have la := mr_len ma4
      rw [List.length_append, List.length_map] at la
      have lt := List.length_take_le i (ms2.map fun m => bes (List.range n) m)
      refine ⟨_, rfl, .inl ⟨rfl, acc4, lst_sql' hD4⟩, _, rfl, _, rfl, b, rfl, ⟨_, .inl (.inl hb)⟩, fun E nE => ?_⟩
      have sE : ∀ {o : HO}, Same H4 (upd H4 E o) := fun {o} => same_new nE
      refine lc_tpl (addV n) (.inl (.inl hb)) nE (by rw [mv_len, pm.len, sizeLine_eq]; omega) ?_ ?_
      · intro x acc' hx Q' q'
        obtain ⟨k, hk, rfl⟩ := List.mem_map.mp hx
        exact ⟨_, rfl, g, _, _, rfl, sE _ _ (s4 _ _ hg), g, n, ms, F, W, M, rfl, Kp.grp (.of (s4.trans sE)) G1, _, rfl, _, _, rfl, rfl, q'⟩
      rw [addV_mv]
      have s5 := sE (o := .lst (mv (m.map (n + ·))))
      have hE : (upd H4 E (.lst (mv (m.map (n + ·))))) E = some (.lst (mv (m.map (n + ·)))) := upd_same
      generalize upd H4 E _ = H5 at s5 hE ⊢
      refine ⟨E, _, rfl, .inl ⟨lst_sql' hE, fun t nt => ?_⟩⟩
      have s6 := s5.trans (same_new (o := .tup (mv (m.map (n + ·)))) nt)
      have ht : (upd H5 t (.tup (mv (m.map (n + ·))))) t = some (.tup (mv (m.map (n + ·)))) := upd_same
      generalize upd H5 t _ = H6 at s6 ht ⊢
      refine cat_tup (.inl (.inl (s6 _ _ ht4))) ht (by rw [mv_len, mv_len, List.length_map, List.length_range, pm.len, sizeLine_eq]; omega) (fun e => by have := congrArg List.length e; rw [mv_len, List.length_map, pm.len] at this; simp at this; omega) fun H7 p s7 hp => ?_
      have k7 := s6.trans s7
      have hD7 := k7 _ _ hD4
      refine ⟨D, acc4, _, rfl, rfl, hD7, by rw [la, sizeLine_eq]; omega, ⟨some (.ref b), y7, rfl⟩, fun b o e => (upd_ne (nDH b o e)).trans (k7 _ _ (s4 _ _ e)), ?_, (mr4.same k7).upd hD7 (fun _ z => nomatch z), (upd_ne (ne_of (k7 _ _ ht4) hD7 (fun z => nomatch z))).trans (k7 _ _ ht4), acc4 ++ [.ref p], upd_same, ?_⟩
      · rcases same_sqt k7 S4 with (h | ⟨o, h⟩) | h
        · exact .inl (.inl ((upd_ne (ne_of h hD7 fun z => by cases z)).trans h))
        · exact .inl (.inr ⟨o, (upd_ne (ne_of h hD7 fun z => by cases z)).trans h⟩)
        · exact .inr h
      · rw [List.take_add_one, List.getElem?_map, hm]
        show MR _ _ (_ ++ (_ ++ [bes (List.range n) m]))
        rw [← List.append_assoc]
        refine pr_snoc ((ma4.same k7).upd hD7 fun _ z => by cases z) ⟨p, rfl, (upd_ne (ne_of hp hD7 fun z => by cases z)).trans ?_⟩
        rw [hp]
        show some (HO.tup (mv (List.range n) ++ mv _)) = some (HO.tup (mv (List.range n ++ m.map ((List.range n).length + ·))))
        rw [List.length_range]
        unfold mv
        rw [List.map_append]
    · rintro σ H4 ⟨⟨y6, y7, rfl⟩, s4, S4, mr4, ht4, acc4, hD4, ma4⟩
      rw [l2, List.take_of_length_le (by rw [List.length_map]; exact Nat.le_refl _)] at ma4
      refine ⟨_, rfl, _, rfl, D, acc4, rfl, .inl ⟨lst_sql' hD4, fun t nt => ?_⟩⟩
      have k5 := same_new (o := .tup acc4) nt
      have s5 := s4.trans k5
      refine grp_made (a := t) (n := n + n2) (us := acc4) (ms := besM n n2 ms ms2) (.inl (.inl upd_same)) (ma4.same k5) ok (tabs_same tabs s5) fun x H' F W M e nx tabs' g => q x H' F W M ((ExtN.of s5).trans e) ?_ tabs' g
      cases z : H x with
      | none => rfl
      | some o => rw [s5 _ _ z] at nx; cases nx
end
end K08


set_option Elab.async false
set_option linter.all false
set_option maxRecDepth 100000
set_option maxHeartbeats 8000000
namespace K08
open PySem PySem.Spec PyProof.Rows L2 MM GT LamX
/-- a relation between heaps and values that later heaps keep -/
structure Rl where
  r : Hp → V → Prop
  m : ∀ {H H' : Hp} {v : V}, Same H H' → r H v → r H' v
theorem h_name {i : Nat} {v : V} {σ : L2.St} {H : Hp} {Q : L2.St → Hp → Prop} (h : Q (σ.set i (some v)) H) : gName i v σ H Q := h
theorem h_seq {t u : TS} {D : Ends} {σ : L2.St} {H : Hp} (h : t { D with nx := u D } σ H) : tSeq t u D σ H := h
theorem h_asg {te : TE} {g : TG} {D : Ends} {σ : L2.St} {H : Hp} (h : te σ H fun v H1 => g v σ H1 D.nx) : tAsg te g D σ H := h
def MkE (te : TE) (σ : L2.St) (R : Rl) : Prop := ∀ H Q, (∀ v H', Same H H' → R.r H' v → Q v H') → te σ H Q
def MkA (ta : TA) (σ : L2.St) (Rs : List Rl) : Prop := ∀ H Q, (∀ vs H', Same H H' → Paired (fun v (R : Rl) => R.r H' v) vs Rs → Q vs H') → ta σ H Q
section
variable {K : PySem.W.Frag} {σ : L2.St} {ta : TA} {te : TE} {R : Rl} {Rs : List Rl}
theorem pr_m {H H' : Hp} {vs : List V} (s : Same H H') (p : Paired (fun v (R : Rl) => R.r H v) vs Rs) : Paired (fun v (R : Rl) => R.r H' v) vs Rs := Paired.mapP p fun _ R r => R.m s r
theorem mk_nil : MkA tNil σ [] := fun H Q q => q [] H (Same.refl H) .nil
theorem mk_cons (h : MkE te σ R) (t : MkA ta σ Rs) : MkA (tCons te ta) σ (R :: Rs) := fun H Q q => h H _ fun v H1 s1 r1 => t H1 _ fun vs H2 s2 r2 => q (v :: vs) H2 (s1.trans s2) (.cons (R.m s2 r1) r2)
def rN (k : Nat) : Rl := ⟨fun _ v => v = .int (k : Int), fun _ h => h⟩
theorem mk_n {k : Nat} : MkE (tC (.int (k : Int))) σ (rN k) := fun H Q q => q _ H (Same.refl H) rfl
def rM (m : List Nat) : Rl := ⟨fun H v => ∃ b, v = .ref b ∧ H b = some (.tup (mv m)), fun s ⟨b, e, h⟩ => ⟨b, e, s _ _ h⟩⟩
theorem pr_rN {H : Hp} : ∀ {m : List Nat} {vs : List V}, Paired (fun v (R : Rl) => R.r H v) vs (m.map rN) → vs = mv m
  | [], _, .nil => rfl
  | _ :: _, _, .cons e t => by
    rw [pr_rN t, show _ = V.int _ from e]
    rfl
theorem mk_move (m : List Nat) (h : MkA ta σ (m.map rN)) (l : m.length ≤ 1000 := by decide) : MkE (tTup ta) σ (rM m) := fun H Q q => h H _ fun vs H1 s1 p => by
  rw [pr_rN p]
  exact ⟨by rw [mv_len, sizeLine_eq]; omega, fun a na => q _ _ (s1.trans (same_new na)) ⟨a, rfl, upd_same⟩⟩
def rMs (ms : List (List Nat)) : Rl := ⟨fun H v => ∃ a us, v = .ref a ∧ H a = some (.tup us) ∧ MR H us ms, fun s ⟨a, us, e, h, r⟩ => ⟨a, us, e, s _ _ h, r.same s⟩⟩
theorem pr_rM {H : Hp} : ∀ {ms : List (List Nat)} {vs : List V}, Paired (fun v (R : Rl) => R.r H v) vs (ms.map rM) → MR H vs ms
  | [], _, .nil => .nil
  | _ :: _, _, .cons e t => .cons e (pr_rM t)
theorem mk_ms (ms : List (List Nat)) (h : MkA ta σ (ms.map rM)) (l : ms.length ≤ 1000 := by decide) : MkE (tTup ta) σ (rMs ms) := fun H Q q => h H _ fun vs H1 s1 p => by
  have mr := pr_rM p
  have := mr_len mr
  exact ⟨by rw [sizeLine_eq]; omega, fun a na => q _ _ (s1.trans (same_new na)) ⟨a, _, rfl, upd_same, mr.same (same_new na)⟩⟩
/-- a row of the menu -/
def RowIs (H : Hp) (v : V) (b : Bs) : Prop := ∃ (t a : Addr) (us : List V), v = .ref t ∧ H t = some (.tup [.int (b.G.length : Int), .int (b.n : Int), .ref a]) ∧ H a = some (.tup us) ∧ MR H us b.ms
theorem RowIs.same {H H' : Hp} {v : V} {b : Bs} (s : Same H H') (h : RowIs H v b) : RowIs H' v b := let ⟨t, a, us, h2, h3, h4, h5⟩ := h; ⟨t, a, us, h2, s _ _ h3, s _ _ h4, h5.same s⟩
theorem RowIs.upd {H : Hp} {v : V} {b : Bs} {T : Addr} {xs : List V} {o : HO} (e : H T = some (.lst xs)) (h : RowIs H v b) : RowIs (upd H T o) v b := let ⟨t, a, us, h2, h3, h4, h5⟩ := h
  ⟨t, a, us, h2, (upd_ne (ne_of h3 e fun z => nomatch z)).trans h3, (upd_ne (ne_of h4 e fun z => nomatch z)).trans h4, h5.upd e fun _ z => nomatch z⟩
def rRow (b : Bs) : Rl := ⟨fun H v => RowIs H v b, fun s h => h.same s⟩
theorem mk_row (b : Bs) (h : MkA ta σ [rN b.G.length, rN b.n, rMs b.ms]) : MkE (tTup ta) σ (rRow b) := fun H Q q => h H _ fun vs H1 s1 p => by
  match vs, p with
  | [_, _, _], .cons e1 (.cons e2 (.cons ⟨a, us, e3, ha, mr⟩ .nil)) =>
    rw [show _ = V.int _ from e1, show _ = V.int _ from e2, e3]
    exact ⟨by show 3 ≤ sizeLine; decide, fun t nt => q _ _ (s1.trans (same_new nt)) ⟨t, a, us, rfl, upd_same, same_new nt _ _ ha, mr.same (same_new nt)⟩⟩
theorem pr_rRow {H : Hp} : ∀ {bs : List Bs} {vs : List V}, Paired (fun v (R : Rl) => R.r H v) vs (bs.map rRow) → Paired (RowIs H) vs bs
  | [], _, .nil => .nil
  | _ :: _, _, .cons e t => .cons e (pr_rRow t)
theorem pr_app {α β : Type} {R : α → β → Prop} : ∀ {us us' : List α} {os os' : List β}, Paired R us os → Paired R us' os' → Paired R (us ++ us') (os ++ os')
  | _, _, _, _, .nil, h => h
  | _, _, _, _, .cons e t, h => .cons e (pr_app t h)
theorem ext_step {D : Ends} {H : Hp} {T : Addr} {acc : List V} {bs0 bs : List Bs} (hs : σ[1]? = some (some (.ref T))) (hT : H T = some (.lst acc)) (pr : Paired (RowIs H) acc bs0) (h : MkA ta σ (bs.map rRow)) (l0 : bs0.length ≤ 100) (l1 : bs.length ≤ 100)
    (q : ∀ H' acc', (∀ b o, b ≠ T → H b = some o → H' b = some o) → H' T = some (.lst acc') → Paired (RowIs H') acc' (bs0 ++ bs) → D.nx σ H') : tDrop (tBM K "list" rExtend (tVar 1) (tCons (tLst ta) tNil)) D σ H := by
  refine ⟨_, hs, .inl ⟨rfl, acc, lst_sql' hT⟩, h H _ fun vs H1 s1 p => ?_⟩
  have p2 := pr_rRow p
  have lv := pr_len p2
  have la := pr_len pr
  refine ⟨by rw [lv, sizeLine_eq]; omega, fun l nl => ?_⟩
  have s2 := s1.trans (same_new (o := .lst vs) nl)
  have hl : (upd H1 l (.lst vs)) l = some (.lst vs) := upd_same
  have p3 : Paired (RowIs (upd H1 l (.lst vs))) vs bs := Paired.mapP p2 fun _ _ h => h.same (same_new nl)
  generalize upd H1 l _ = H2 at s2 hl p3 ⊢
  have hT2 := s2 _ _ hT
  refine ⟨T, l, acc, vs, rfl, rfl, hT2, hl, by rw [lv, la, sizeLine_eq]; omega, ?_⟩
  exact q _ _ (fun b o ne e => (upd_ne ne).trans (s2 _ _ e)) upd_same (pr_app (Paired.mapP pr fun _ _ h => (h.same s2).upd hT2) (Paired.mapP p3 fun _ _ h => h.upd hT2))
end
/-! own words for the readings: a step, its side -/
local macro_rules | `(tactic| walk_at "side") => `(tactic| first
  | omega
  | exact ⟨by omega, by omega⟩
  | exact Or.inl ⟨by omega, by omega⟩
  | exact Or.inr ⟨by omega, by omega⟩
  | (show CPw _ _; decide +kernel)
  | (show (0 : Int) < _; decide +kernel)
  | (show CDivW _ _; first | assumption | exact ⟨by decide, by decide +kernel⟩))
local macro_rules | `(tactic| walk_at "here") => `(tactic| first
  | assumption
  | exact upd_same
  | exact Or.inl (Or.inl upd_same)
  | exact Or.inl upd_same)
local macro_rules | `(tactic| walk_at "one") => `(tactic| first
  | refine ⟨_, rfl, ?_⟩
  | refine Or.inl ⟨_, rfl, ?_⟩
  | refine Or.inr ⟨_, rfl, ?_⟩
  | refine ⟨_, _, rfl, rfl, (by walk_at "side"), ?_⟩
  | refine ⟨_, _, rfl, rfl, ?_⟩
  | refine ⟨_, _, rfl, Or.inl (by walk_at "here"), ?_⟩
  | refine ⟨_, _, rfl, Or.inr (by walk_at "here"), ?_⟩
  | refine ⟨_, _, rfl, (by walk_at "here"), ?_⟩
  | refine ⟨_, _, _, _, rfl, rfl, (by walk_at "here"), rfl, ?_⟩
  | refine ⟨_, _, rfl, ?_⟩
  | refine ifT (by rfl) ?_
  | refine ifF (by rfl) ?_
  | refine ifT (decide_eq_true (by omega)) ?_
  | refine ifF (decide_eq_false (by omega)) ?_)
local macro_rules | `(tactic| walk_at "st") => `(tactic| repeat (walk_at "one"))

section
variable {P : Program} {w : World} {K : PySem.W.Frag} {mg : Str → Option Value} {base : Heap}
def spMenu (K : PySem.W.Frag) : Sp := fun vs H Q _ => ∃ (most : Nat), vs = [.int (most : Int)] ∧ 1 ≤ most ∧ ∀ H' l us, Same H H' → H l = none → H' l = some (.lst us) → us ≠ [] → us.length ≤ 26 →
  (∀ v ∈ us, ∃ (b : Bs) (t a : Addr) (vs : List V), b ∈ menuBs ∧ b.G.length ≤ most ∧ v = .ref t ∧ H' t = some (.tup [.int (b.n : Int), .ref a]) ∧ H' a = some (.tup vs) ∧ MR H' vs b.ms) → Q (.ref l) H'
theorem scMenuL : FnScope ["_law_most", "_law_told", "_law_order", "_law_places", "_law_makers"] ["_law_most"] (defScope sMenuL) :=
  ⟨rfl, rfl, rfl, by decide +kernel, rfl, by decide +kernel, by decide +kernel⟩
theorem dMenuL (T : Tx K mg) : Def P w K mg base CX0 1 "_law_menu" ["_law_most"] (spMenu K) := by
  refine T.t_law_menu.def_ (N := ["_law_most", "_law_told", "_law_order", "_law_places", "_law_makers"]) scMenuL (fun _ _ _ _ _ _ us hl => match us, hl with | [_], _ => rfl) ?_ ?_
  · intro vs H Q E h
    obtain ⟨m, rfl, _⟩ := h
    rfl
  · intro f cd A out s H vs Q E hr h
    obtain ⟨most, rfl, m1, q⟩ := h
    refine ⟨_, (pss_cons (ps_set (i := 1) scMenuL.nd rfl (Or.inl rfl) (pe_lst pa_nil))
      (pss_cons (ps_expr (pe_bm PySem.F.plainAttrs_list PySem.F.slot_list_extend PySem.F.type_list_extend mt_extend (pv 1) (pa_cons (pe_lst (pa_cons (pe_tup (pa_cons pe_int (pa_cons pe_int (pa_cons (pe_tup pa_nil) pa_nil)))) (pa_cons (pe_tup (pa_cons pe_int (pa_cons pe_int (pa_cons (pe_tup (pa_cons (pe_tup (pa_cons pe_int (pa_cons pe_int pa_nil))) pa_nil)) pa_nil)))) (pa_cons (pe_tup (pa_cons pe_int (pa_cons pe_int (pa_cons (pe_tup (pa_cons (pe_tup (pa_cons pe_int (pa_cons pe_int (pa_cons pe_int pa_nil)))) pa_nil)) pa_nil)))) (pa_cons (pe_tup (pa_cons pe_int (pa_cons pe_int (pa_cons (pe_tup (pa_cons (pe_tup (pa_cons pe_int (pa_cons pe_int (pa_cons pe_int (pa_cons pe_int pa_nil))))) pa_nil)) pa_nil)))) (pa_cons (pe_tup (pa_cons pe_int (pa_cons pe_int (pa_cons (pe_tup (pa_cons (pe_tup (pa_cons pe_int (pa_cons pe_int (pa_cons pe_int (pa_cons pe_int pa_nil))))) (pa_cons (pe_tup (pa_cons pe_int (pa_cons pe_int (pa_cons pe_int (pa_cons pe_int pa_nil))))) pa_nil))) pa_nil)))) pa_nil)))))) pa_nil)))
      (pss_cons (ps_expr (pe_bm PySem.F.plainAttrs_list PySem.F.slot_list_extend PySem.F.type_list_extend mt_extend (pv 1) (pa_cons (pe_lst (pa_cons (pe_tup (pa_cons pe_int (pa_cons pe_int (pa_cons (pe_tup (pa_cons (pe_tup (pa_cons pe_int (pa_cons pe_int (pa_cons pe_int pa_nil)))) (pa_cons (pe_tup (pa_cons pe_int (pa_cons pe_int (pa_cons pe_int pa_nil)))) pa_nil))) pa_nil)))) (pa_cons (pe_tup (pa_cons pe_int (pa_cons pe_int (pa_cons (pe_tup (pa_cons (pe_tup (pa_cons pe_int (pa_cons pe_int (pa_cons pe_int (pa_cons pe_int (pa_cons pe_int pa_nil)))))) (pa_cons (pe_tup (pa_cons pe_int (pa_cons pe_int (pa_cons pe_int (pa_cons pe_int (pa_cons pe_int pa_nil)))))) pa_nil))) pa_nil)))) (pa_cons (pe_tup (pa_cons pe_int (pa_cons pe_int (pa_cons (pe_tup (pa_cons (pe_tup (pa_cons pe_int (pa_cons pe_int (pa_cons pe_int (pa_cons pe_int (pa_cons pe_int pa_nil)))))) pa_nil)) pa_nil)))) pa_nil)))) pa_nil)))
      (pss_cons (ps_expr (pe_bm PySem.F.plainAttrs_list PySem.F.slot_list_extend PySem.F.type_list_extend mt_extend (pv 1) (pa_cons (pe_lst (pa_cons (pe_tup (pa_cons pe_int (pa_cons pe_int (pa_cons (pe_tup (pa_cons (pe_tup (pa_cons pe_int (pa_cons pe_int (pa_cons pe_int (pa_cons pe_int pa_nil))))) (pa_cons (pe_tup (pa_cons pe_int (pa_cons pe_int (pa_cons pe_int (pa_cons pe_int pa_nil))))) pa_nil))) pa_nil)))) (pa_cons (pe_tup (pa_cons pe_int (pa_cons pe_int (pa_cons (pe_tup (pa_cons (pe_tup (pa_cons pe_int (pa_cons pe_int (pa_cons pe_int (pa_cons pe_int (pa_cons pe_int (pa_cons pe_int (pa_cons pe_int (pa_cons pe_int pa_nil))))))))) (pa_cons (pe_tup (pa_cons pe_int (pa_cons pe_int (pa_cons pe_int (pa_cons pe_int (pa_cons pe_int (pa_cons pe_int (pa_cons pe_int (pa_cons pe_int pa_nil))))))))) pa_nil))) pa_nil)))) pa_nil))) pa_nil)))
      (pss_cons (ps_expr (pe_bm PySem.F.plainAttrs_list PySem.F.slot_list_extend PySem.F.type_list_extend mt_extend (pv 1) (pa_cons (pe_lst (pa_cons (pe_tup (pa_cons pe_int (pa_cons pe_int (pa_cons (pe_tup (pa_cons (pe_tup (pa_cons pe_int (pa_cons pe_int (pa_cons pe_int (pa_cons pe_int (pa_cons pe_int (pa_cons pe_int pa_nil))))))) (pa_cons (pe_tup (pa_cons pe_int (pa_cons pe_int (pa_cons pe_int (pa_cons pe_int (pa_cons pe_int (pa_cons pe_int pa_nil))))))) pa_nil))) pa_nil)))) (pa_cons (pe_tup (pa_cons pe_int (pa_cons pe_int (pa_cons (pe_tup (pa_cons (pe_tup (pa_cons pe_int (pa_cons pe_int (pa_cons pe_int (pa_cons pe_int (pa_cons pe_int (pa_cons pe_int pa_nil))))))) (pa_cons (pe_tup (pa_cons pe_int (pa_cons pe_int (pa_cons pe_int (pa_cons pe_int (pa_cons pe_int (pa_cons pe_int pa_nil))))))) (pa_cons (pe_tup (pa_cons pe_int (pa_cons pe_int (pa_cons pe_int (pa_cons pe_int (pa_cons pe_int (pa_cons pe_int pa_nil))))))) pa_nil)))) pa_nil)))) pa_nil))) pa_nil)))
      (pss_cons (ps_expr (pe_bm PySem.F.plainAttrs_list PySem.F.slot_list_extend PySem.F.type_list_extend mt_extend (pv 1) (pa_cons (pe_lst (pa_cons (pe_tup (pa_cons pe_int (pa_cons pe_int (pa_cons (pe_tup (pa_cons (pe_tup (pa_cons pe_int (pa_cons pe_int (pa_cons pe_int (pa_cons pe_int (pa_cons pe_int (pa_cons pe_int (pa_cons pe_int (pa_cons pe_int pa_nil))))))))) pa_nil)) pa_nil)))) (pa_cons (pe_tup (pa_cons pe_int (pa_cons pe_int (pa_cons (pe_tup (pa_cons (pe_tup (pa_cons pe_int (pa_cons pe_int (pa_cons pe_int (pa_cons pe_int (pa_cons pe_int (pa_cons pe_int pa_nil))))))) (pa_cons (pe_tup (pa_cons pe_int (pa_cons pe_int (pa_cons pe_int (pa_cons pe_int (pa_cons pe_int (pa_cons pe_int pa_nil))))))) pa_nil))) pa_nil)))) pa_nil))) pa_nil)))
      (pss_cons (ps_expr (pe_bm PySem.F.plainAttrs_list PySem.F.slot_list_extend PySem.F.type_list_extend mt_extend (pv 1) (pa_cons (pe_lst (pa_cons (pe_tup (pa_cons pe_int (pa_cons pe_int (pa_cons (pe_tup (pa_cons (pe_tup (pa_cons pe_int (pa_cons pe_int (pa_cons pe_int (pa_cons pe_int (pa_cons pe_int pa_nil)))))) (pa_cons (pe_tup (pa_cons pe_int (pa_cons pe_int (pa_cons pe_int (pa_cons pe_int (pa_cons pe_int pa_nil)))))) pa_nil))) pa_nil)))) (pa_cons (pe_tup (pa_cons pe_int (pa_cons pe_int (pa_cons (pe_tup (pa_cons (pe_tup (pa_cons pe_int (pa_cons pe_int (pa_cons pe_int (pa_cons pe_int pa_nil))))) (pa_cons (pe_tup (pa_cons pe_int (pa_cons pe_int (pa_cons pe_int (pa_cons pe_int pa_nil))))) pa_nil))) pa_nil)))) pa_nil))) pa_nil)))
      (pss_cons (ps_expr (pe_bm PySem.F.plainAttrs_list PySem.F.slot_list_extend PySem.F.type_list_extend mt_extend (pv 1) (pa_cons (pe_lst (pa_cons (pe_tup (pa_cons pe_int (pa_cons pe_int (pa_cons (pe_tup (pa_cons (pe_tup (pa_cons pe_int (pa_cons pe_int (pa_cons pe_int (pa_cons pe_int (pa_cons pe_int pa_nil)))))) (pa_cons (pe_tup (pa_cons pe_int (pa_cons pe_int (pa_cons pe_int (pa_cons pe_int (pa_cons pe_int pa_nil)))))) (pa_cons (pe_tup (pa_cons pe_int (pa_cons pe_int (pa_cons pe_int (pa_cons pe_int (pa_cons pe_int pa_nil)))))) pa_nil)))) pa_nil)))) (pa_cons (pe_tup (pa_cons pe_int (pa_cons pe_int (pa_cons (pe_tup (pa_cons (pe_tup (pa_cons pe_int (pa_cons pe_int (pa_cons pe_int (pa_cons pe_int (pa_cons pe_int (pa_cons pe_int (pa_cons pe_int pa_nil)))))))) (pa_cons (pe_tup (pa_cons pe_int (pa_cons pe_int (pa_cons pe_int (pa_cons pe_int (pa_cons pe_int (pa_cons pe_int (pa_cons pe_int pa_nil)))))))) pa_nil))) pa_nil)))) pa_nil))) pa_nil)))
      (pss_cons (ps_expr (pe_bm PySem.F.plainAttrs_list PySem.F.slot_list_extend PySem.F.type_list_extend mt_extend (pv 1) (pa_cons (pe_lst (pa_cons (pe_tup (pa_cons pe_int (pa_cons pe_int (pa_cons (pe_tup (pa_cons (pe_tup (pa_cons pe_int (pa_cons pe_int (pa_cons pe_int (pa_cons pe_int (pa_cons pe_int (pa_cons pe_int (pa_cons pe_int pa_nil)))))))) pa_nil)) pa_nil)))) (pa_cons (pe_tup (pa_cons pe_int (pa_cons pe_int (pa_cons (pe_tup (pa_cons (pe_tup (pa_cons pe_int (pa_cons pe_int (pa_cons pe_int (pa_cons pe_int (pa_cons pe_int (pa_cons pe_int (pa_cons pe_int (pa_cons pe_int pa_nil))))))))) (pa_cons (pe_tup (pa_cons pe_int (pa_cons pe_int (pa_cons pe_int (pa_cons pe_int (pa_cons pe_int (pa_cons pe_int (pa_cons pe_int (pa_cons pe_int pa_nil))))))))) pa_nil))) pa_nil)))) pa_nil))) pa_nil)))
      (pss_cons (ps_expr (pe_bm PySem.F.plainAttrs_list PySem.F.slot_list_extend PySem.F.type_list_extend mt_extend (pv 1) (pa_cons (pe_lst (pa_cons (pe_tup (pa_cons pe_int (pa_cons pe_int (pa_cons (pe_tup (pa_cons (pe_tup (pa_cons pe_int (pa_cons pe_int (pa_cons pe_int (pa_cons pe_int (pa_cons pe_int pa_nil)))))) (pa_cons (pe_tup (pa_cons pe_int (pa_cons pe_int (pa_cons pe_int (pa_cons pe_int (pa_cons pe_int pa_nil)))))) pa_nil))) pa_nil)))) (pa_cons (pe_tup (pa_cons pe_int (pa_cons pe_int (pa_cons (pe_tup (pa_cons (pe_tup (pa_cons pe_int (pa_cons pe_int (pa_cons pe_int (pa_cons pe_int (pa_cons pe_int (pa_cons pe_int (pa_cons pe_int pa_nil)))))))) (pa_cons (pe_tup (pa_cons pe_int (pa_cons pe_int (pa_cons pe_int (pa_cons pe_int (pa_cons pe_int (pa_cons pe_int (pa_cons pe_int pa_nil)))))))) pa_nil))) pa_nil)))) pa_nil))) pa_nil)))
      (pss_cons (ps_expr (pe_bm PySem.F.plainAttrs_list PySem.F.slot_list_extend PySem.F.type_list_extend mt_extend (pv 1) (pa_cons (pe_lst (pa_cons (pe_tup (pa_cons pe_int (pa_cons pe_int (pa_cons (pe_tup (pa_cons (pe_tup (pa_cons pe_int (pa_cons pe_int (pa_cons pe_int (pa_cons pe_int (pa_cons pe_int (pa_cons pe_int pa_nil))))))) (pa_cons (pe_tup (pa_cons pe_int (pa_cons pe_int (pa_cons pe_int (pa_cons pe_int (pa_cons pe_int (pa_cons pe_int pa_nil))))))) (pa_cons (pe_tup (pa_cons pe_int (pa_cons pe_int (pa_cons pe_int (pa_cons pe_int (pa_cons pe_int (pa_cons pe_int pa_nil))))))) pa_nil)))) pa_nil)))) (pa_cons (pe_tup (pa_cons pe_int (pa_cons pe_int (pa_cons (pe_tup (pa_cons (pe_tup (pa_cons pe_int (pa_cons pe_int (pa_cons pe_int (pa_cons pe_int pa_nil))))) (pa_cons (pe_tup (pa_cons pe_int (pa_cons pe_int (pa_cons pe_int (pa_cons pe_int pa_nil))))) pa_nil))) pa_nil)))) pa_nil))) pa_nil)))
      (pss_cons (ps_expr (pe_bm PySem.F.plainAttrs_list PySem.F.slot_list_extend PySem.F.type_list_extend mt_extend (pv 1) (pa_cons (pe_lst (pa_cons (pe_tup (pa_cons pe_int (pa_cons pe_int (pa_cons (pe_tup (pa_cons (pe_tup (pa_cons pe_int (pa_cons pe_int (pa_cons pe_int (pa_cons pe_int (pa_cons pe_int (pa_cons pe_int pa_nil))))))) (pa_cons (pe_tup (pa_cons pe_int (pa_cons pe_int (pa_cons pe_int (pa_cons pe_int (pa_cons pe_int (pa_cons pe_int pa_nil))))))) (pa_cons (pe_tup (pa_cons pe_int (pa_cons pe_int (pa_cons pe_int (pa_cons pe_int (pa_cons pe_int (pa_cons pe_int pa_nil))))))) pa_nil)))) pa_nil)))) pa_nil)) pa_nil)))
      (pss_cons (ps_expr (pe_bm PySem.F.plainAttrs_list PySem.F.slot_list_extend PySem.F.type_list_extend mt_extend (pv 1) (pa_cons (pe_lst (pa_cons (pe_tup (pa_cons pe_int (pa_cons pe_int (pa_cons (pe_tup (pa_cons (pe_tup (pa_cons pe_int (pa_cons pe_int (pa_cons pe_int (pa_cons pe_int (pa_cons pe_int (pa_cons pe_int (pa_cons pe_int (pa_cons pe_int pa_nil))))))))) (pa_cons (pe_tup (pa_cons pe_int (pa_cons pe_int (pa_cons pe_int (pa_cons pe_int (pa_cons pe_int (pa_cons pe_int (pa_cons pe_int (pa_cons pe_int pa_nil))))))))) pa_nil))) pa_nil)))) pa_nil)) pa_nil)))
      (pss_one (ps_ret (pe_lc (own := [("_law_order", 2), ("_law_places", 3), ("_law_makers", 4)]) (g := gTup K 3 (gCons (gName 2) (gCons (gName 3) (gCons (gName 4) gNil)))) rfl scMenuL.nd (pi_list (pv 1)) (blkOk_by (N := ["_law_most", "_law_told", "_law_order", "_law_places", "_law_makers"]) (sc := defScope sMenuL) (by decide +kernel)) (fun _ _ _ _ _ => (show PG _ _ (gTup K 3 (gCons (gName 2) (gCons (gName 3) (gCons (gName 4) gNil)))) from pg_tup rfl (pgs_cons (pg_name (i := 2) scMenuL.nd rfl (Or.inl rfl)) (pgs_cons (pg_name (i := 3) scMenuL.nd rfl (Or.inl rfl)) (pgs_cons (pg_name (i := 4) scMenuL.nd rfl (Or.inl rfl)) pgs_nil))))) (fun _ _ _ _ _ => (pts_one (pt_cmpR op_le (pv 2) (pv 0) (nomark _)))) (fun _ _ _ _ _ => (pe_tup (pa_cons (pv 3) (pa_cons (pv 4) pa_nil)))))))))))))))))))), ?_⟩
    refine ⟨by show 0 ≤ sizeLine; decide, fun T nT => ?_⟩
    have nTH : ∀ b o, H b = some o → b ≠ T := fun b o e => ne_of_none e nT
    have sm := same_new (o := .lst []) nT
    have hT : (upd H T (.lst [])) T = some (.lst []) := upd_same
    have pr : Paired (RowIs (upd H T (.lst []))) [] [] := .nil
    generalize upd H T _ = Hz at sm hT pr ⊢
    show gName 1 _ _ _ _
    refine h_name ?_
    dsimp only
    -- @STEPS
    refine h_seq (ext_step (bs := [b0, b1, b2, b3, b4]) rfl hT pr (mk_cons (mk_row b0 (mk_cons mk_n (mk_cons mk_n (mk_cons (mk_ms [] mk_nil) mk_nil)))) (mk_cons (mk_row b1 (mk_cons mk_n (mk_cons mk_n (mk_cons (mk_ms [[1, 0]] (mk_cons (mk_move [1, 0] (mk_cons mk_n (mk_cons mk_n mk_nil))) mk_nil)) mk_nil)))) (mk_cons (mk_row b2 (mk_cons mk_n (mk_cons mk_n (mk_cons (mk_ms [[1, 2, 0]] (mk_cons (mk_move [1, 2, 0] (mk_cons mk_n (mk_cons mk_n (mk_cons mk_n mk_nil)))) mk_nil)) mk_nil)))) (mk_cons (mk_row b3 (mk_cons mk_n (mk_cons mk_n (mk_cons (mk_ms [[1, 2, 3, 0]] (mk_cons (mk_move [1, 2, 3, 0] (mk_cons mk_n (mk_cons mk_n (mk_cons mk_n (mk_cons mk_n mk_nil))))) mk_nil)) mk_nil)))) (mk_cons (mk_row b4 (mk_cons mk_n (mk_cons mk_n (mk_cons (mk_ms [[1, 0, 2, 3], [0, 1, 3, 2]] (mk_cons (mk_move [1, 0, 2, 3] (mk_cons mk_n (mk_cons mk_n (mk_cons mk_n (mk_cons mk_n mk_nil))))) (mk_cons (mk_move [0, 1, 3, 2] (mk_cons mk_n (mk_cons mk_n (mk_cons mk_n (mk_cons mk_n mk_nil))))) mk_nil))) mk_nil)))) mk_nil))))) (by decide) (by decide) fun H0 acc0 k0 hT1 pr1 => ?_)
    replace sm : Same H H0 := fun b o e => k0 b o (nTH b o e) (sm b o e)
    clear k0 hT pr
    have hT := hT1
    have pr := pr1
    clear hT1 pr1
    dsimp only
    refine h_seq (ext_step (bs := [b5, b6, b7]) rfl hT pr (mk_cons (mk_row b5 (mk_cons mk_n (mk_cons mk_n (mk_cons (mk_ms [[1, 0, 2], [1, 2, 0]] (mk_cons (mk_move [1, 0, 2] (mk_cons mk_n (mk_cons mk_n (mk_cons mk_n mk_nil)))) (mk_cons (mk_move [1, 2, 0] (mk_cons mk_n (mk_cons mk_n (mk_cons mk_n mk_nil)))) mk_nil))) mk_nil)))) (mk_cons (mk_row b6 (mk_cons mk_n (mk_cons mk_n (mk_cons (mk_ms [[1, 0, 2, 3, 4], [0, 1, 3, 4, 2]] (mk_cons (mk_move [1, 0, 2, 3, 4] (mk_cons mk_n (mk_cons mk_n (mk_cons mk_n (mk_cons mk_n (mk_cons mk_n mk_nil)))))) (mk_cons (mk_move [0, 1, 3, 4, 2] (mk_cons mk_n (mk_cons mk_n (mk_cons mk_n (mk_cons mk_n (mk_cons mk_n mk_nil)))))) mk_nil))) mk_nil)))) (mk_cons (mk_row b7 (mk_cons mk_n (mk_cons mk_n (mk_cons (mk_ms [[1, 2, 3, 4, 0]] (mk_cons (mk_move [1, 2, 3, 4, 0] (mk_cons mk_n (mk_cons mk_n (mk_cons mk_n (mk_cons mk_n (mk_cons mk_n mk_nil)))))) mk_nil)) mk_nil)))) mk_nil))) (by decide) (by decide) fun H1 acc1 k1 hT1 pr1 => ?_)
    replace sm : Same H H1 := fun b o e => k1 b o (nTH b o e) (sm b o e)
    clear k1 hT pr
    have hT := hT1
    have pr := pr1
    clear hT1 pr1
    dsimp only
    refine h_seq (ext_step (bs := [b8, b9]) rfl hT pr (mk_cons (mk_row b8 (mk_cons mk_n (mk_cons mk_n (mk_cons (mk_ms [[1, 2, 3, 0], [0, 3, 2, 1]] (mk_cons (mk_move [1, 2, 3, 0] (mk_cons mk_n (mk_cons mk_n (mk_cons mk_n (mk_cons mk_n mk_nil))))) (mk_cons (mk_move [0, 3, 2, 1] (mk_cons mk_n (mk_cons mk_n (mk_cons mk_n (mk_cons mk_n mk_nil))))) mk_nil))) mk_nil)))) (mk_cons (mk_row b9 (mk_cons mk_n (mk_cons mk_n (mk_cons (mk_ms [[1, 2, 3, 0, 5, 6, 7, 4], [4, 7, 6, 5, 2, 1, 0, 3]] (mk_cons (mk_move [1, 2, 3, 0, 5, 6, 7, 4] (mk_cons mk_n (mk_cons mk_n (mk_cons mk_n (mk_cons mk_n (mk_cons mk_n (mk_cons mk_n (mk_cons mk_n (mk_cons mk_n mk_nil))))))))) (mk_cons (mk_move [4, 7, 6, 5, 2, 1, 0, 3] (mk_cons mk_n (mk_cons mk_n (mk_cons mk_n (mk_cons mk_n (mk_cons mk_n (mk_cons mk_n (mk_cons mk_n (mk_cons mk_n mk_nil))))))))) mk_nil))) mk_nil)))) mk_nil)) (by decide) (by decide) fun H2 acc2 k2 hT1 pr1 => ?_)
    replace sm : Same H H2 := fun b o e => k2 b o (nTH b o e) (sm b o e)
    clear k2 hT pr
    have hT := hT1
    have pr := pr1
    clear hT1 pr1
    dsimp only
    refine h_seq (ext_step (bs := [b10, b11]) rfl hT pr (mk_cons (mk_row b10 (mk_cons mk_n (mk_cons mk_n (mk_cons (mk_ms [[1, 0, 2, 3, 4, 5], [0, 1, 3, 4, 5, 2]] (mk_cons (mk_move [1, 0, 2, 3, 4, 5] (mk_cons mk_n (mk_cons mk_n (mk_cons mk_n (mk_cons mk_n (mk_cons mk_n (mk_cons mk_n mk_nil))))))) (mk_cons (mk_move [0, 1, 3, 4, 5, 2] (mk_cons mk_n (mk_cons mk_n (mk_cons mk_n (mk_cons mk_n (mk_cons mk_n (mk_cons mk_n mk_nil))))))) mk_nil))) mk_nil)))) (mk_cons (mk_row b11 (mk_cons mk_n (mk_cons mk_n (mk_cons (mk_ms [[1, 0, 2, 3, 4, 5], [0, 1, 3, 2, 4, 5], [0, 1, 2, 3, 5, 4]] (mk_cons (mk_move [1, 0, 2, 3, 4, 5] (mk_cons mk_n (mk_cons mk_n (mk_cons mk_n (mk_cons mk_n (mk_cons mk_n (mk_cons mk_n mk_nil))))))) (mk_cons (mk_move [0, 1, 3, 2, 4, 5] (mk_cons mk_n (mk_cons mk_n (mk_cons mk_n (mk_cons mk_n (mk_cons mk_n (mk_cons mk_n mk_nil))))))) (mk_cons (mk_move [0, 1, 2, 3, 5, 4] (mk_cons mk_n (mk_cons mk_n (mk_cons mk_n (mk_cons mk_n (mk_cons mk_n (mk_cons mk_n mk_nil))))))) mk_nil)))) mk_nil)))) mk_nil)) (by decide) (by decide) fun H3 acc3 k3 hT1 pr1 => ?_)
    replace sm : Same H H3 := fun b o e => k3 b o (nTH b o e) (sm b o e)
    clear k3 hT pr
    have hT := hT1
    have pr := pr1
    clear hT1 pr1
    dsimp only
    refine h_seq (ext_step (bs := [b12, b13]) rfl hT pr (mk_cons (mk_row b12 (mk_cons mk_n (mk_cons mk_n (mk_cons (mk_ms [[1, 2, 3, 4, 5, 6, 7, 0]] (mk_cons (mk_move [1, 2, 3, 4, 5, 6, 7, 0] (mk_cons mk_n (mk_cons mk_n (mk_cons mk_n (mk_cons mk_n (mk_cons mk_n (mk_cons mk_n (mk_cons mk_n (mk_cons mk_n mk_nil))))))))) mk_nil)) mk_nil)))) (mk_cons (mk_row b13 (mk_cons mk_n (mk_cons mk_n (mk_cons (mk_ms [[1, 2, 0, 3, 4, 5], [0, 1, 2, 4, 5, 3]] (mk_cons (mk_move [1, 2, 0, 3, 4, 5] (mk_cons mk_n (mk_cons mk_n (mk_cons mk_n (mk_cons mk_n (mk_cons mk_n (mk_cons mk_n mk_nil))))))) (mk_cons (mk_move [0, 1, 2, 4, 5, 3] (mk_cons mk_n (mk_cons mk_n (mk_cons mk_n (mk_cons mk_n (mk_cons mk_n (mk_cons mk_n mk_nil))))))) mk_nil))) mk_nil)))) mk_nil)) (by decide) (by decide) fun H4 acc4 k4 hT1 pr1 => ?_)
    replace sm : Same H H4 := fun b o e => k4 b o (nTH b o e) (sm b o e)
    clear k4 hT pr
    have hT := hT1
    have pr := pr1
    clear hT1 pr1
    dsimp only
    refine h_seq (ext_step (bs := [b14, b15]) rfl hT pr (mk_cons (mk_row b14 (mk_cons mk_n (mk_cons mk_n (mk_cons (mk_ms [[1, 2, 3, 4, 0], [0, 4, 3, 2, 1]] (mk_cons (mk_move [1, 2, 3, 4, 0] (mk_cons mk_n (mk_cons mk_n (mk_cons mk_n (mk_cons mk_n (mk_cons mk_n mk_nil)))))) (mk_cons (mk_move [0, 4, 3, 2, 1] (mk_cons mk_n (mk_cons mk_n (mk_cons mk_n (mk_cons mk_n (mk_cons mk_n mk_nil)))))) mk_nil))) mk_nil)))) (mk_cons (mk_row b15 (mk_cons mk_n (mk_cons mk_n (mk_cons (mk_ms [[1, 2, 0, 3], [1, 0, 3, 2]] (mk_cons (mk_move [1, 2, 0, 3] (mk_cons mk_n (mk_cons mk_n (mk_cons mk_n (mk_cons mk_n mk_nil))))) (mk_cons (mk_move [1, 0, 3, 2] (mk_cons mk_n (mk_cons mk_n (mk_cons mk_n (mk_cons mk_n mk_nil))))) mk_nil))) mk_nil)))) mk_nil)) (by decide) (by decide) fun H5 acc5 k5 hT1 pr1 => ?_)
    replace sm : Same H H5 := fun b o e => k5 b o (nTH b o e) (sm b o e)
    clear k5 hT pr
    have hT := hT1
    have pr := pr1
    clear hT1 pr1
    dsimp only
    refine h_seq (ext_step (bs := [b16, b17]) rfl hT pr (mk_cons (mk_row b16 (mk_cons mk_n (mk_cons mk_n (mk_cons (mk_ms [[1, 0, 2, 3, 4], [1, 2, 0, 3, 4], [0, 1, 2, 4, 3]] (mk_cons (mk_move [1, 0, 2, 3, 4] (mk_cons mk_n (mk_cons mk_n (mk_cons mk_n (mk_cons mk_n (mk_cons mk_n mk_nil)))))) (mk_cons (mk_move [1, 2, 0, 3, 4] (mk_cons mk_n (mk_cons mk_n (mk_cons mk_n (mk_cons mk_n (mk_cons mk_n mk_nil)))))) (mk_cons (mk_move [0, 1, 2, 4, 3] (mk_cons mk_n (mk_cons mk_n (mk_cons mk_n (mk_cons mk_n (mk_cons mk_n mk_nil)))))) mk_nil)))) mk_nil)))) (mk_cons (mk_row b17 (mk_cons mk_n (mk_cons mk_n (mk_cons (mk_ms [[1, 2, 0, 3, 4, 5, 6], [0, 2, 1, 4, 5, 6, 3]] (mk_cons (mk_move [1, 2, 0, 3, 4, 5, 6] (mk_cons mk_n (mk_cons mk_n (mk_cons mk_n (mk_cons mk_n (mk_cons mk_n (mk_cons mk_n (mk_cons mk_n mk_nil)))))))) (mk_cons (mk_move [0, 2, 1, 4, 5, 6, 3] (mk_cons mk_n (mk_cons mk_n (mk_cons mk_n (mk_cons mk_n (mk_cons mk_n (mk_cons mk_n (mk_cons mk_n mk_nil)))))))) mk_nil))) mk_nil)))) mk_nil)) (by decide) (by decide) fun H6 acc6 k6 hT1 pr1 => ?_)
    replace sm : Same H H6 := fun b o e => k6 b o (nTH b o e) (sm b o e)
    clear k6 hT pr
    have hT := hT1
    have pr := pr1
    clear hT1 pr1
    dsimp only
    refine h_seq (ext_step (bs := [b18, b19]) rfl hT pr (mk_cons (mk_row b18 (mk_cons mk_n (mk_cons mk_n (mk_cons (mk_ms [[1, 2, 3, 4, 5, 6, 0]] (mk_cons (mk_move [1, 2, 3, 4, 5, 6, 0] (mk_cons mk_n (mk_cons mk_n (mk_cons mk_n (mk_cons mk_n (mk_cons mk_n (mk_cons mk_n (mk_cons mk_n mk_nil)))))))) mk_nil)) mk_nil)))) (mk_cons (mk_row b19 (mk_cons mk_n (mk_cons mk_n (mk_cons (mk_ms [[1, 2, 3, 4, 5, 6, 7, 0], [0, 7, 6, 5, 4, 3, 2, 1]] (mk_cons (mk_move [1, 2, 3, 4, 5, 6, 7, 0] (mk_cons mk_n (mk_cons mk_n (mk_cons mk_n (mk_cons mk_n (mk_cons mk_n (mk_cons mk_n (mk_cons mk_n (mk_cons mk_n mk_nil))))))))) (mk_cons (mk_move [0, 7, 6, 5, 4, 3, 2, 1] (mk_cons mk_n (mk_cons mk_n (mk_cons mk_n (mk_cons mk_n (mk_cons mk_n (mk_cons mk_n (mk_cons mk_n (mk_cons mk_n mk_nil))))))))) mk_nil))) mk_nil)))) mk_nil)) (by decide) (by decide) fun H7 acc7 k7 hT1 pr1 => ?_)
    replace sm : Same H H7 := fun b o e => k7 b o (nTH b o e) (sm b o e)
    clear k7 hT pr
    have hT := hT1
    have pr := pr1
    clear hT1 pr1
    dsimp only
    refine h_seq (ext_step (bs := [b20, b21]) rfl hT pr (mk_cons (mk_row b20 (mk_cons mk_n (mk_cons mk_n (mk_cons (mk_ms [[1, 2, 3, 4, 0], [0, 2, 4, 1, 3]] (mk_cons (mk_move [1, 2, 3, 4, 0] (mk_cons mk_n (mk_cons mk_n (mk_cons mk_n (mk_cons mk_n (mk_cons mk_n mk_nil)))))) (mk_cons (mk_move [0, 2, 4, 1, 3] (mk_cons mk_n (mk_cons mk_n (mk_cons mk_n (mk_cons mk_n (mk_cons mk_n mk_nil)))))) mk_nil))) mk_nil)))) (mk_cons (mk_row b21 (mk_cons mk_n (mk_cons mk_n (mk_cons (mk_ms [[1, 2, 3, 4, 5, 6, 0], [0, 2, 4, 6, 1, 3, 5]] (mk_cons (mk_move [1, 2, 3, 4, 5, 6, 0] (mk_cons mk_n (mk_cons mk_n (mk_cons mk_n (mk_cons mk_n (mk_cons mk_n (mk_cons mk_n (mk_cons mk_n mk_nil)))))))) (mk_cons (mk_move [0, 2, 4, 6, 1, 3, 5] (mk_cons mk_n (mk_cons mk_n (mk_cons mk_n (mk_cons mk_n (mk_cons mk_n (mk_cons mk_n (mk_cons mk_n mk_nil)))))))) mk_nil))) mk_nil)))) mk_nil)) (by decide) (by decide) fun H8 acc8 k8 hT1 pr1 => ?_)
    replace sm : Same H H8 := fun b o e => k8 b o (nTH b o e) (sm b o e)
    clear k8 hT pr
    have hT := hT1
    have pr := pr1
    clear hT1 pr1
    dsimp only
    refine h_seq (ext_step (bs := [b22, b23]) rfl hT pr (mk_cons (mk_row b22 (mk_cons mk_n (mk_cons mk_n (mk_cons (mk_ms [[1, 2, 0, 3, 4, 5], [0, 1, 2, 4, 5, 3], [0, 2, 1, 3, 5, 4]] (mk_cons (mk_move [1, 2, 0, 3, 4, 5] (mk_cons mk_n (mk_cons mk_n (mk_cons mk_n (mk_cons mk_n (mk_cons mk_n (mk_cons mk_n mk_nil))))))) (mk_cons (mk_move [0, 1, 2, 4, 5, 3] (mk_cons mk_n (mk_cons mk_n (mk_cons mk_n (mk_cons mk_n (mk_cons mk_n (mk_cons mk_n mk_nil))))))) (mk_cons (mk_move [0, 2, 1, 3, 5, 4] (mk_cons mk_n (mk_cons mk_n (mk_cons mk_n (mk_cons mk_n (mk_cons mk_n (mk_cons mk_n mk_nil))))))) mk_nil)))) mk_nil)))) (mk_cons (mk_row b23 (mk_cons mk_n (mk_cons mk_n (mk_cons (mk_ms [[1, 0, 2, 3], [1, 2, 3, 0]] (mk_cons (mk_move [1, 0, 2, 3] (mk_cons mk_n (mk_cons mk_n (mk_cons mk_n (mk_cons mk_n mk_nil))))) (mk_cons (mk_move [1, 2, 3, 0] (mk_cons mk_n (mk_cons mk_n (mk_cons mk_n (mk_cons mk_n mk_nil))))) mk_nil))) mk_nil)))) mk_nil)) (by decide) (by decide) fun H9 acc9 k9 hT1 pr1 => ?_)
    replace sm : Same H H9 := fun b o e => k9 b o (nTH b o e) (sm b o e)
    clear k9 hT pr
    have hT := hT1
    have pr := pr1
    clear hT1 pr1
    dsimp only
    refine h_seq (ext_step (bs := [b24]) rfl hT pr (mk_cons (mk_row b24 (mk_cons mk_n (mk_cons mk_n (mk_cons (mk_ms [[1, 2, 0, 3, 4, 5], [1, 0, 3, 2, 4, 5], [0, 1, 2, 3, 5, 4]] (mk_cons (mk_move [1, 2, 0, 3, 4, 5] (mk_cons mk_n (mk_cons mk_n (mk_cons mk_n (mk_cons mk_n (mk_cons mk_n (mk_cons mk_n mk_nil))))))) (mk_cons (mk_move [1, 0, 3, 2, 4, 5] (mk_cons mk_n (mk_cons mk_n (mk_cons mk_n (mk_cons mk_n (mk_cons mk_n (mk_cons mk_n mk_nil))))))) (mk_cons (mk_move [0, 1, 2, 3, 5, 4] (mk_cons mk_n (mk_cons mk_n (mk_cons mk_n (mk_cons mk_n (mk_cons mk_n (mk_cons mk_n mk_nil))))))) mk_nil)))) mk_nil)))) mk_nil) (by decide) (by decide) fun H10 acc10 k10 hT1 pr1 => ?_)
    replace sm : Same H H10 := fun b o e => k10 b o (nTH b o e) (sm b o e)
    clear k10 hT pr
    have hT := hT1
    have pr := pr1
    clear hT1 pr1
    dsimp only
    refine h_seq (ext_step (bs := [b25]) rfl hT pr (mk_cons (mk_row b25 (mk_cons mk_n (mk_cons mk_n (mk_cons (mk_ms [[3, 7, 2, 6, 1, 5, 0, 4], [0, 1, 3, 4, 2, 7, 5, 6]] (mk_cons (mk_move [3, 7, 2, 6, 1, 5, 0, 4] (mk_cons mk_n (mk_cons mk_n (mk_cons mk_n (mk_cons mk_n (mk_cons mk_n (mk_cons mk_n (mk_cons mk_n (mk_cons mk_n mk_nil))))))))) (mk_cons (mk_move [0, 1, 3, 4, 2, 7, 5, 6] (mk_cons mk_n (mk_cons mk_n (mk_cons mk_n (mk_cons mk_n (mk_cons mk_n (mk_cons mk_n (mk_cons mk_n (mk_cons mk_n mk_nil))))))))) mk_nil))) mk_nil)))) mk_nil) (by decide) (by decide) fun H11 acc11 k11 hT1 pr1 => ?_)
    replace sm : Same H H11 := fun b o e => k11 b o (nTH b o e) (sm b o e)
    clear k11 hT pr
    have hT := hT1
    have pr := pr1
    clear hT1 pr1
    -- @END
    have la := pr_len pr
    dsimp only
    refine ⟨_, rfl, T, rfl, ⟨_, lst_sql' hT⟩, fun D nD => ?_⟩
    have emb : ([] ++ [b0, b1, b2, b3, b4] ++ [b5, b6, b7] ++ [b8, b9] ++ [b10, b11] ++ [b12, b13] ++ [b14, b15] ++ [b16, b17] ++ [b18, b19] ++ [b20, b21] ++ [b22, b23] ++ [b24] ++ [b25]) = menuBs := rfl
    rw [emb] at pr la
    have l26 : menuBs.length = 26 := rfl
    generalize acc11 = acc at pr hT la
    generalize H11 = H1 at pr hT sm nD ⊢
    clear emb
    have nDD : ∀ b o, H1 b = some o → b ≠ D := fun b o e => ne_of_none e nD
    let Ok : Hp → V → Prop := fun H' v => ∃ (b : Bs) (t a : Addr) (vs : List V), b ∈ menuBs ∧ b.G.length ≤ most ∧ v = .ref t ∧ H' t = some (.tup [.int (b.n : Int), .ref a]) ∧ H' a = some (.tup vs) ∧ MR H' vs b.ms
    have okS : ∀ {G G' : Hp} {v : V}, Same G G' → Ok G v → Ok G' v := fun s ⟨b, t, a, vs, h1, h2, h3, h4, h5, h6⟩ => ⟨b, t, a, vs, h1, h2, h3, s _ _ h4, s _ _ h5, h6.same s⟩
    have okU : ∀ {G : Hp} {v : V} {xs : List V} {o : HO}, G D = some (.lst xs) → Ok G v → Ok (upd G D o) v := fun e ⟨b, t, a, vs, h1, h2, h3, h4, h5, h6⟩ =>
      ⟨b, t, a, vs, h1, h2, h3, (upd_ne (ne_of h4 e fun z => nomatch z)).trans h4, (upd_ne (ne_of h5 e fun z => nomatch z)).trans h5, h6.upd e fun _ z => nomatch z⟩
    refine lc_list (K := K) (a := T) (xs := acc) (Pv := fun i H' => Same H1 H' ∧ ∃ us, H' D = some (.lst us) ∧ us.length ≤ i ∧ (0 < i → us ≠ []) ∧ ∀ v ∈ us, Ok H' v) ⟨same_new nD, [], upd_same, Nat.le_refl _, fun h => absurd h (by decide), fun _ h => by cases h⟩ (fun i H' _ e => lst_sql' (e.1 _ _ hT)) ?_ ?_
    · rintro i v H2 hv ⟨s2, us, hD, lus, ne, ok⟩
      obtain ⟨b, hb, t, a, ws, rfl, ht, ha, mr⟩ := pr_at pr hv
      have il := (List.getElem?_eq_some_iff.mp hv).1
      refine ⟨t, _, rfl, .inl (.inl (s2 _ _ ht)), rfl, _, _, rfl, ?_⟩
      refine ⟨_, _, rfl, ?_⟩
      refine ⟨_, _, rfl, rfl, rfl, ?_⟩
      refine ⟨_, rfl, _, rfl, _, _, rfl, rfl, _, rfl, ?_⟩
      by_cases c : b.G.length ≤ most
      · refine ifT (decide_eq_true (by omega)) ?_
        refine ⟨_, rfl, _, rfl, by show 2 ≤ sizeLine; decide, fun p np => ?_⟩
        have k := same_new (o := .tup [.int (b.n : Int), .ref a]) np
        have hp : (upd H2 p (.tup [.int (b.n : Int), .ref a])) p = some (.tup [.int (b.n : Int), .ref a]) := upd_same
        have s3 := s2.trans k
        generalize upd H2 p _ = H3 at k hp s3 ⊢
        have hD3 := k _ _ hD
        refine ⟨us, hD3, by rw [sizeLine_eq]; omega, fun y o e => (upd_ne (nDD y o e)).trans (s3 _ _ e), us ++ [.ref p], upd_same, by rw [List.length_append]; exact Nat.succ_le_succ lus, fun _ => by simp, fun v hv => ?_⟩
        rcases List.mem_append.mp hv with hv | hv
        · exact okU hD3 (okS k (ok v hv))
        · rw [List.mem_singleton.mp hv]
          exact okU hD3 ⟨b, p, a, ws, List.mem_of_getElem? hb, c, rfl, hp, s3 _ _ ha, mr.same s3⟩
      · refine ifF (decide_eq_false (by omega)) ?_
        refine ⟨s2, us, hD, by omega, fun _ => ?_, ok⟩
        refine ne (Nat.pos_of_ne_zero fun z => ?_)
        subst z
        have : b = b0 := (Option.some.inj hb).symm
        rw [this] at c
        exact c m1
    rintro H2 ⟨s2, us, hD, lus, ne, ok⟩
    have sA : Same H H2 := sm.trans s2
    refine q H2 D us sA ?_ hD (ne (by omega)) (by omega) ok
    cases z : H D with
    | none => rfl
    | some o => rw [sm _ _ z] at nD; cases nD
end
end K08


set_option Elab.async false
set_option linter.all false
/-! groups, drawn: makers renamed, mixed, multiplied -/
namespace GT
theorem menu_few : ∀ b ∈ menuBs, b.ms.length ≤ 3 ∧ 1 ≤ b.n ∧ b.n ≤ 8 := by
  have h : (menuBs.all fun b => decide (b.ms.length ≤ 3) && (decide (1 ≤ b.n) && decide (b.n ≤ 8))) = true := by decide +kernel
  intro b hb
  have := List.all_eq_true.mp h b hb
  simp only [Bool.and_eq_true, decide_eq_true_eq] at this
  exact this
/-- a move renamed, the first places of it -/
def rn (z m : List Nat) (i : Nat) : List Nat := (List.range m.length).map fun p => if z.idxOf p < i then z.getD (m.getD (z.idxOf p) 0) 0 else 0
theorem rn_len (z m : List Nat) (i : Nat) : (rn z m i).length = m.length := by rw [rn, List.length_map, List.length_range]
theorem rn_zero (z m : List Nat) : rn z m 0 = List.replicate m.length 0 := by
  unfold rn
  refine List.ext_getElem (by simp) fun p h1 h2 => ?_
  simp
theorem rn_at {z m : List Nat} {i p : Nat} (h : p < m.length) : (rn z m i)[p]? = some (if z.idxOf p < i then z.getD (m.getD (z.idxOf p) 0) 0 else 0) := by
  unfold rn
  rw [List.getElem?_map, List.getElem?_range h]
  rfl
theorem rn_succ {n : Nat} {z m : List Nat} (hz : Pm n z) (hm : Pm n m) {i : Nat} (hi : i < n) : rn z m (i + 1) = (rn z m i).set (z.getD i 0) (z.getD (m.getD i 0) 0) := by
  refine List.ext_getElem? fun p => ?_
  by_cases h1 : p < n
  · have ii := idx_z hz hi
    have ip := z_idx hz h1
    have pm : p < m.length := by rw [hm.len]; exact h1
    rw [rn_at pm, List.getElem?_set, rn_at pm, rn_len]
    by_cases c : z.getD i 0 = p
    · rw [if_pos c, ← c, ii, if_pos (by omega), if_pos (by rw [c]; exact pm)]
    · rw [if_neg c]
      have ne : z.idxOf p ≠ i := fun e => c (by rw [← e]; exact ip.2)
      by_cases d : z.idxOf p < i
      · rw [if_pos d, if_pos (by omega)]
      · rw [if_neg d, if_neg (by omega)]
  · rw [List.getElem?_eq_none (by rw [rn_len, hm.len]; omega), List.getElem?_eq_none (by rw [List.length_set, rn_len, hm.len]; omega)]
theorem rn_full {n : Nat} {z m : List Nat} (hz : Pm n z) (hm : Pm n m) : rn z m n = cj z m := by
  unfold rn cj
  refine List.map_congr_left fun p hp => ?_
  rw [List.mem_range, hm.len] at hp
  rw [if_pos (z_idx hz hp).1]
/-- makers that make a group of the menu, renamed -/
structure Ds (b : Bs) (z : List Nat) (ms : List (List Nat)) : Prop where
  mb : b ∈ menuBs
  hz : Pm b.n z
  sub : ∀ m ∈ ms, m ∈ b.G.map (cj z)
  mks : Mk b.n ms (b.G.map (cj z))
section
variable {b : Bs} {z : List Nat} {ms : List (List Nat)}
theorem Ds.start (mb : b ∈ menuBs) (hz : Pm b.n z) : Ds b z (b.ms.map (cj z)) := by
  obtain ⟨hok, ws, hw⟩ := menu_all b mb
  obtain ⟨hM, _, _, hs⟩ := Bs.all hok
  refine ⟨mb, hz, fun m hm => ?_, mk_words hz (fun m hm => hM.pm m (hs m hm)) fun x hx => ?_⟩
  · obtain ⟨y, hy, rfl⟩ := List.mem_map.mp hm
    exact List.mem_map.mpr ⟨y, hs y hy, rfl⟩
  · obtain ⟨w, _, e⟩ := List.any_eq_true.mp (List.all_eq_true.mp hw x hx)
    rw [Bool.and_eq_true] at e
    exact ⟨w, fun k hk => of_decide_eq_true (List.all_eq_true.mp e.1 k hk), eq_of_beq e.2⟩
theorem Ds.mvs (h : Ds b z ms) : Mvs b.n (b.G.map (cj z)) := cj_mvs h.hz (Bs.all (menu_all b h.mb).1).1
theorem Ds.pm (h : Ds b z ms) : ∀ m ∈ ms, Pm b.n m := fun m hm => h.mvs.pm m (h.sub m hm)
theorem Ds.perm {ms' : List (List Nat)} (h : Ds b z ms) (p : ms'.Perm ms) : Ds b z ms' := ⟨h.mb, h.hz, fun m hm => h.sub m (p.mem_iff.mp hm), h.mks.perm p⟩
theorem Ds.times (h : Ds b z ms) {i j : Nat} (hi : i < ms.length) (hj : j < ms.length) (ne : i ≠ j) : Ds b z (ms.set i (comp (at_ ms i) (at_ ms j))) := by
  refine ⟨h.mb, h.hz, fun m hm => ?_, h.mks.times h.pm hi hj ne⟩
  rcases List.mem_or_eq_of_mem_set hm with hm | rfl
  · exact h.sub m hm
  · exact h.mvs.mul _ (h.sub _ (at_mem hi)) _ (h.sub _ (at_mem hj))
theorem Ds.more (h : Ds b z ms) {m : List Nat} (hm : m ∈ b.G.map (cj z)) : Ds b z (ms ++ [m]) := by
  refine ⟨h.mb, h.hz, fun x hx => ?_, h.mks.more fun x hx => List.mem_append_left _ hx⟩
  rcases List.mem_append.mp hx with hx | hx
  · exact h.sub x hx
  · rw [List.mem_singleton.mp hx]
    exact hm
theorem Ds.one (h : Ds b z ms) : List.range b.n ∈ b.G.map (cj z) := by
  rw [← h.mvs.one]
  exact at_mem h.mvs.pos
theorem Ds.done {most : Nat} (h : Ds b z ms) (le : b.G.length ≤ most) (l4 : ms.length ≤ 4) : DrB b z most b.n ms := by
  have := menu_few b h.mb
  exact ⟨h.mb, le, rfl, h.hz, h.sub, h.mks, l4, this.2.1, this.2.2⟩
end
end GT
namespace GT
theorem menu_one : ∀ b ∈ menuBs, b.G.length ≤ 1 → b.n = 1 := by
  have h : (menuBs.all fun b => decide (1 < b.G.length) || decide (b.n = 1)) = true := by decide +kernel
  intro b hb l
  have := List.all_eq_true.mp h b hb
  rw [Bool.or_eq_true, decide_eq_true_eq, decide_eq_true_eq] at this
  omega
theorem DrB.none {b : Bs} {z : List Nat} {most n : Nat} (h : DrB b z most n []) : n = 1 := by
  have hm := h.mvs
  obtain ⟨mb, _, rfl, hz, _, mk, _, _, _⟩ := h
  have := mk [List.range b.n] (List.nodup_cons.mpr ⟨by simp, .nil⟩) (fun x hx => by rw [List.mem_singleton.mp hx]; exact pm_unit _) (List.mem_cons_self) fun x _ m hm => by cases hm
  have l := sub_len hm.nd this
  rw [List.length_map] at l
  exact menu_one b mb l
end GT

set_option Elab.async false
set_option linter.all false
set_option maxRecDepth 100000
set_option maxHeartbeats 8000000
namespace K08
open PySem PySem.Spec PyProof.Rows L2 MM GT LamX
/-! own words for the readings: a step, its side -/
local macro_rules | `(tactic| walk_at "side") => `(tactic| first
  | omega
  | exact ⟨by omega, by omega⟩
  | exact Or.inl ⟨by omega, by omega⟩
  | exact Or.inr ⟨by omega, by omega⟩
  | (show CPw _ _; decide +kernel)
  | (show (0 : Int) < _; decide +kernel)
  | (show CDivW _ _; first | assumption | exact ⟨by decide, by decide +kernel⟩))
local macro_rules | `(tactic| walk_at "here") => `(tactic| first
  | assumption
  | exact upd_same
  | exact Or.inl (Or.inl upd_same)
  | exact Or.inl upd_same)
local macro_rules | `(tactic| walk_at "one") => `(tactic| first
  | refine ⟨_, rfl, ?_⟩
  | refine Or.inl ⟨_, rfl, ?_⟩
  | refine Or.inr ⟨_, rfl, ?_⟩
  | refine ⟨_, _, rfl, rfl, (by walk_at "side"), ?_⟩
  | refine ⟨_, _, rfl, rfl, ?_⟩
  | refine ⟨_, _, rfl, Or.inl (by walk_at "here"), ?_⟩
  | refine ⟨_, _, rfl, Or.inr (by walk_at "here"), ?_⟩
  | refine ⟨_, _, rfl, (by walk_at "here"), ?_⟩
  | refine ⟨_, _, _, _, rfl, rfl, (by walk_at "here"), rfl, ?_⟩
  | refine ⟨_, _, rfl, ?_⟩
  | refine ifT (by rfl) ?_
  | refine ifF (by rfl) ?_
  | refine ifT (decide_eq_true (by omega)) ?_
  | refine ifF (decide_eq_false (by omega)) ?_)
local macro_rules | `(tactic| walk_at "st") => `(tactic| repeat (walk_at "one"))

section
variable {P : Program} {w : World} {K : PySem.W.Frag} {mg : Str → Option Value} {base : Heap}
def spRenamed (K : PySem.W.Frag) : Sp := fun vs H Q _ => ∃ (a l : Addr) (n : Nat) (m z : List Nat), vs = [.ref a, .ref l] ∧ SqT K H a (mv m) ∧ SqL K H l (mv z) ∧ Pm n m ∧ Pm n z ∧ 1 ≤ n ∧ n ≤ 24 ∧ ∀ H' t, Same H H' → H' t = some (.tup (mv (cj z m))) → Q (.ref t) H'
theorem scRenamedL : FnScope ["_law_move", "_law_names", "_law_found", "_law_place", "_law_goal"] ["_law_move", "_law_names"] (defScope sRenamedL) :=
  ⟨rfl, rfl, rfl, by decide +kernel, rfl, by decide +kernel, by decide +kernel⟩
theorem dRenamedL (T : Tx K mg) : Def P w K mg base CX0 1 "_law_renamed" ["_law_move", "_law_names"] (spRenamed K) := by
  refine T.t_law_renamed.def_ (N := ["_law_move", "_law_names", "_law_found", "_law_place", "_law_goal"]) scRenamedL (fun _ _ _ _ _ _ us hl => match us, hl with | [_, _], _ => rfl) ?_ ?_
  · intro vs H Q E h
    obtain ⟨a, l, n, m, z, rfl, _⟩ := h
    rfl
  · intro f cd A out s H vs Q E hr h
    obtain ⟨a, l, n, m, z, rfl, Sa, Sl, pm, pz, n1, n24, q⟩ := h
    refine ⟨_, (pss_cons (ps_set (i := 2) scRenamedL.nd rfl (Or.inl rfl) (pe_op op_rep (pe_lst (pa_cons pe_int pa_nil)) (pe_callB call_len_seq rfl T.f_len (by decide +kernel) (pa_cons (pv 0) pa_nil))))
      (pss_cons (ps_for PassesOwn.never rfl (pi_enumT rfl T.f_enumerate (pa_cons (pv 0) pa_nil)) (pg_tup rfl (pgs_cons (pg_name (i := 3) scRenamedL.nd rfl (Or.inl rfl)) (pgs_cons (pg_name (i := 4) scRenamedL.nd rfl (Or.inl rfl)) pgs_nil)))
        (pss_one (ps_asg (pe_ix ix_list (pv 1) (pv 4) (fun _ _ => rfl)) (pg_sub (pv 2) (pe_ix ix_list (pv 1) (pv 3) (fun _ _ => rfl)) set_list))))
      (pss_one (ps_ret (pe_callTy call_tuple_of rfl T.f_tuple (by decide +kernel) (pa_cons (pv 2) pa_nil)))))), ?_⟩
    refine ⟨by (show 1 ≤ sizeLine); decide, fun l0 fl => ?_⟩
    have S0 : Same H (upd H l0 (.lst [.int 0])) := same_new fl
    have L0 : (upd H l0 (.lst [.int 0])) l0 = some (.lst [.int 0]) := upd_same
    have Sa0 := same_sqt S0 Sa
    generalize upd H l0 _ = H0 at S0 L0 Sa0 ⊢
    refine ⟨_, rfl, a, _, rfl, .inr Sa0, l0, _, _, rfl, rfl, L0, by omega, by rw [mv_len, pm.len]; omega, by rw [mv_len, pm.len]; exact Nat.le_of_lt (small1000 (n := 1 * n) (by omega)), fun D nD => ?_⟩
    rw [rep_zero, show backT m 0 = rn z m 0 from (rn_zero z m).symm]
    have S1 : Same H (upd H0 D (.lst (mv (rn z m 0)))) := S0.trans (same_new nD)
    have D1 : (upd H0 D (.lst (mv (rn z m 0)))) D = some (.lst (mv (rn z m 0))) := upd_same
    have Sa1 := same_sqt S1 Sa
    have fD : ∀ b o, H b = some o → b ≠ D := fun b o e => ne_of_none (S0 b o e) nD
    generalize upd H0 D _ = H1 at S1 D1 Sa1 ⊢
    refine ⟨_, rfl, a, _, rfl, Sa1, ?_⟩
    refine for_enumT (K := K) (a := a) (xs := mv m) (fun i σ H2 => Same H H2 ∧ H2 D = some (.lst (mv (rn z m i))) ∧ ∃ y u, σ = [some (.ref a), some (.ref l), some (.ref D), y, u]) ⟨S1, D1, none, none, rfl⟩ (fun i σ H2 _ e => same_sqt e.1 Sa) ?_ ?_
    · rintro i x σ H2 T hx ⟨sm, hD, y, u, rfl⟩ fT
      obtain ⟨li, rfl⟩ := mv_nth hx
      have nDT : D ≠ T := ne_of_none hD fT
      have il : i < n := by rw [← pm.len]; exact li
      have lk : m.getD i 0 < n := pm.lt _ (GT.getD_mem li)
      have lz : z.getD i 0 < n := pz.lt _ (GT.getD_mem (by rw [pz.len]; exact il))
      have S2 := sql_new (o := .tup [.int (i : Int), .int ((m.getD i 0 : Nat) : Int)]) (sm.seq Sl) fT
      refine ⟨T, _, rfl, .inl (.inl upd_same), rfl, _, _, rfl, ?_⟩
      refine ⟨_, _, rfl, rfl, ?_⟩
      refine ⟨_, rfl, _, rfl, l, _, _, _, rfl, rfl, S2, mv_at (by rw [pz.len]; exact lk), _, rfl, _, rfl, _, rfl, l, _, _, _, rfl, rfl, S2, mv_at (by rw [pz.len]; exact il), D, _, _, z.getD i 0, rfl, rfl, (upd_ne nDT).trans hD, ?_, ?_, upd_same.trans ?_, _, _, rfl⟩
      · rw [mv_len, rn_len, pm.len]
        exact ixN_lt lz
      · intro b o e
        rw [upd_ne (fD b o e)]
        exact same_new fT b o (sm b o e)
      · rw [mv_set, rn_succ pz pm il]
    · rintro σ H2 ⟨sm, hD, y, u, rfl⟩
      rw [mv_len, pm.len, rn_full pz pm] at hD
      exact ⟨_, rfl, D, _, rfl, .inl ⟨.inl (.inl hD), fun t ft => q _ t (sm.trans (same_new ft)) upd_same⟩⟩
theorem pr_un {α β : Type} {R : α → β → Prop} {u : α} {us : List α} {os : List β} (h : Paired R (u :: us) os) : ∃ o os', os = o :: os' ∧ R u o ∧ Paired R us os' := by
  cases h with
  | cons r t => exact ⟨_, _, rfl, r, t⟩
theorem pr_perm {α β : Type} {R : α → β → Prop} {us us' : List α} (p : us.Perm us') : ∀ {os : List β}, Paired R us os → ∃ os' : List β, os'.Perm os ∧ Paired R us' os' := by
  induction p with
  | nil => exact fun {os} h => ⟨os, .refl _, h⟩
  | cons x _ ih =>
    intro os h
    obtain ⟨o, os1, rfl, r, t⟩ := pr_un h
    obtain ⟨os', p', t'⟩ := ih t
    exact ⟨o :: os', p'.cons _, .cons r t'⟩
  | swap x y l =>
    intro os h
    obtain ⟨o, os1, rfl, r, t⟩ := pr_un h
    obtain ⟨o2, os2, rfl, r2, t2⟩ := pr_un t
    exact ⟨o2 :: o :: os2, .swap _ _ _, .cons r2 (.cons r t2)⟩
  | trans _ _ ih1 ih2 =>
    intro os h
    obtain ⟨o1, p1, t1⟩ := ih1 h
    obtain ⟨o2, p2, t2⟩ := ih2 t1
    exact ⟨o2, p2.trans p1, t2⟩
theorem shapedL {ds : List PyData} (h : ∀ d ∈ ds, d.canLay0 = true ∧ d.depth ≤ 63) : SeqAt.shaped (.list ds) = true := by
  unfold SeqAt.shaped
  have h1 := dep_all fun d hd => (h d hd).2
  rw [show PyData.canLay0 (.list ds) = true from lay_all fun d hd => (h d hd).1, Bool.true_and]
  refine decide_eq_true ?_
  simp only [PyData.depth]
  omega
theorem shaped_dLs (M : List (List Nat)) : SeqAt.shaped (.list (M.map dM)) = true := shapedL fun d hd => by
  obtain ⟨m, _, rfl⟩ := List.mem_map.mp hd
  have := dM_small m
  exact ⟨this.1, by omega⟩
def spDrawn (K : PySem.W.Frag) : Sp := fun vs H Q _ => ∃ (p : Addr) (most : Nat), vs = [.ref p, .int (most : Int)] ∧ BagAt H p ∧ 1 ≤ most ∧
  ∀ (H' : Hp) (t a : Addr) (us : List V) (b : Bs) (z : List Nat) (n : Nat) (ms : List (List Nat)), Upto p H H' → H t = none → H' t = some (.tup [.int (n : Int), .ref a]) → H' a = some (.tup us) → MR H' us ms → DrB b z most n ms → Q (.ref t) H'
theorem scGroupDrawnL : FnScope ["_law_bag_here", "_law_most", "_law_places", "_law_makers", "_law_names", "_law_found", "_law_maker", "_law_turn", "_law_at", "_law_to"] ["_law_bag_here", "_law_most"] (defScope sGroupDrawnL) :=
  ⟨rfl, rfl, rfl, by decide +kernel, rfl, by decide +kernel, by decide +kernel⟩
theorem dGroupDrawnL (T : Tx K mg) (DOneOfL : Def P w K mg base CX0 2 "_law_one_of" ["_law_bag_here", "_law_items"] (spOneOf K)) (DMenuL : Def P w K mg base CX0 1 "_law_menu" ["_law_most"] (spMenu K)) (DMixedL : Def P w K mg base CX0 2 "_law_mixed" ["_law_bag_here", "_law_items"] (spMixed K)) (DRenamedL : Def P w K mg base CX0 1 "_law_renamed" ["_law_move", "_law_names"] (spRenamed K)) (DGrabL : Def P w K mg base CX0 1 "_law_grab" ["_law_bag_here", "_law_total"] spGrab) (DBehindL : Def P w K mg base CX0 1 "_law_behind" ["_law_one", "_law_other"] (spComp K)) : Def P w K mg base CX0 3 "_law_group_drawn" ["_law_bag_here", "_law_most"] (spDrawn K) := by
  refine T.t_law_group_drawn.def_ (N := ["_law_bag_here", "_law_most", "_law_places", "_law_makers", "_law_names", "_law_found", "_law_maker", "_law_turn", "_law_at", "_law_to"]) scGroupDrawnL (fun _ _ _ _ _ _ us hl => match us, hl with | [_, _], _ => rfl) ?_ ?_
  · intro vs H Q E h
    obtain ⟨p, most, rfl, _⟩ := h
    rfl
  · intro f cd A out s H vs Q E hr h
    have hr1 : Rm 2 _ := hr.le (by decide)
    obtain ⟨p, most, rfl, hb, m1, q⟩ := h
    refine ⟨_, (pss_cons (ps_asg (pe_d DOneOfL (hr1.le (by decide)) pass0 (pa_cons (pv 0) (pa_cons (pe_d DMenuL (hr1.le (by decide)) pass0 (pa_cons (pv 1) pa_nil)) pa_nil))) (pg_tup rfl (pgs_cons (pg_name (i := 2) scGroupDrawnL.nd rfl (Or.inl rfl)) (pgs_cons (pg_name (i := 3) scGroupDrawnL.nd rfl (Or.inl rfl)) pgs_nil))))
      (pss_cons (ps_set (i := 4) scGroupDrawnL.nd rfl (Or.inr rfl) (pe_d DMixedL (hr1.le (by decide)) pass0 (pa_cons (pv 0) (pa_cons (pe_listRg rfl rfl T.f_list (prg_1 rfl T.f_range (pv 2))) pa_nil))))
      (pss_cons (ps_set (i := 5) scGroupDrawnL.nd rfl (Or.inl rfl) (pe_d DMixedL (hr1.le (by decide)) pass0 (pa_cons (pv 0) (pa_cons (pe_lc (own := [("_law_maker", 6)]) (g := gName 6) (tt := tYes) rfl scGroupDrawnL.nd (pi_tup (pv 3)) (blkOk_by (N := ["_law_bag_here", "_law_most", "_law_places", "_law_makers", "_law_names", "_law_found", "_law_maker", "_law_turn", "_law_at", "_law_to"]) (sc := defScope sGroupDrawnL) (by decide +kernel)) (fun _ _ _ _ _ => pg_name (i := 6) scGroupDrawnL.nd rfl (Or.inl rfl)) (fun _ _ _ _ _ => pts_nil) (fun _ _ _ _ _ => (pe_d DRenamedL (hr1.le (by decide)) pass0 (pa_cons (pv 6) (pa_cons (pv 4) pa_nil))))) pa_nil))))
      (pss_cons (ps_for PassesOwn.never rfl (pi_range1 rfl T.f_range (pa_cons (pe_ifExp (pt_cmpR op_gt (pe_callB call_len_seq rfl T.f_len (by decide +kernel) (pa_cons (pv 5) pa_nil)) pe_int (nomark _)) (pe_d DGrabL (hr1.le (by decide)) pass0 (pa_cons (pv 0) (pa_cons pe_int pa_nil))) pe_int) pa_nil)) (pg_name (i := 7) scGroupDrawnL.nd rfl (Or.inl rfl))
        (pss_cons (ps_par (i := 8) (j := 9) rfl scGroupDrawnL.nd rfl rfl (by decide) rfl rfl (pa_cons (pe_d DGrabL (hr1.le (by decide)) pass0 (pa_cons (pv 0) (pa_cons (pe_callB call_len_seq rfl T.f_len (by decide +kernel) (pa_cons (pv 5) pa_nil)) pa_nil))) (pa_cons (pe_d DGrabL (hr1.le (by decide)) pass0 (pa_cons (pv 0) (pa_cons (pe_callB call_len_seq rfl T.f_len (by decide +kernel) (pa_cons (pv 5) pa_nil)) pa_nil))) pa_nil)) (by rfl))
        (pss_one (ps_if (pt_cmpR op_ne (pv 8) (pv 9) (nomark _)) (pss_one (ps_asg (pe_d DBehindL (hr1.le (by decide)) pass0 (pa_cons (pe_ix ix_list (pv 5) (pv 8) (fun _ _ => rfl)) (pa_cons (pe_ix ix_list (pv 5) (pv 9) (fun _ _ => rfl)) pa_nil))) (pg_sub (pv 5) (pv 8) set_list))) pss_nil))))
      (pss_cons (ps_if (pt_cmpR op_eq (pe_d DGrabL (hr1.le (by decide)) pass0 (pa_cons (pv 0) (pa_cons pe_int pa_nil))) pe_int (nomark _)) (pss_one (ps_expr (pe_bm PySem.F.plainAttrs_list PySem.F.slot_list_append PySem.F.type_list_append mt_append (pv 5) (pa_cons (pe_ifExp (pt_cmpR (op_neD hr.hu) (pv 5) (pe_lst pa_nil) (nomark _)) (pe_d DBehindL (hr1.le (by decide)) pass0 (pa_cons (pe_ix ix_list (pv 5) pe_int (fun _ _ => rfl)) (pa_cons (pe_ix ix_list (pv 5) (pe_un un_neg pe_int) (fun _ _ => rfl)) pa_nil))) (pe_tupRg rfl rfl T.f_tuple (prg_1 rfl T.f_range (pv 2)))) pa_nil)))) pss_nil)
      (pss_one (ps_ret (pe_tup (pa_cons (pv 2) (pa_cons (pe_callTy call_tuple_of rfl T.f_tuple (by decide +kernel) (pa_cons (pv 5) pa_nil)) pa_nil)))))))))), ?_⟩
    have ⟨b1, b2, b3, eb⟩ := hb
    refine ⟨_, rfl, _, rfl, most, rfl, m1, fun H1 l us s1 nl hl ne lus ok => ?_⟩
    have lp : l ≠ p := bag_ne eb nl
    refine ⟨p, l, b1, b2, b3, us, rfl, s1 _ _ eb, .inl (.inl hl), lp, List.length_pos_iff.mpr ne, by omega, fun v g m c hv => ?_⟩
    obtain ⟨b, t, a, vs, mb, lb, rfl, ht, ha, mr⟩ := ok v hv
    have up1 := ((Upto.refl (H := H) hb).keep s1).draw (a := g) (b := m) (c := c)
    have u12 : Upto p H1 (upd H1 p (.lst [.int g, .int m, .int c])) := (Upto.refl ⟨_, _, _, s1 _ _ eb⟩).draw
    have k2 : Kp H1 (upd H1 p (.lst [.int g, .int m, .int c])) := Kp.up ⟨_, _, _, s1 _ _ eb⟩ u12
    replace ht := Kp.tup k2 ht
    replace ha := Kp.tup k2 ha
    replace mr := Kp.mr k2 mr
    generalize upd H1 p _ = H2 at up1 ht ha mr ⊢
    clear u12 k2 hl ok hv
    have ⟨m3, n1, n8⟩ := menu_few b mb
    refine ⟨t, _, rfl, .inl (.inl ht), rfl, _, _, rfl, ?_⟩
    refine ⟨_, _, rfl, rfl, ?_⟩
    -- names
    refine ⟨_, rfl, _, rfl, _, rfl, ⟨by omega, by omega, by omega, by omega, by omega⟩, fun L nL => ?_⟩
    rw [rg_mv]
    have up2 := up1.new (o := .lst (mv (List.range b.n))) nL
    have kL := same_new (o := .lst (mv (List.range b.n))) nL
    obtain ⟨Lp, nLH⟩ := up1.free nL
    have hL : (upd H2 L (.lst (mv (List.range b.n)))) L = some (.lst (mv (List.range b.n))) := upd_same
    replace ht := kL _ _ ht
    replace ha := kL _ _ ha
    replace mr := mr.same kL
    generalize upd H2 L _ = H3 at up2 hL ht ha mr ⊢
    refine ⟨p, L, _, rfl, up2.bag, .inl (.inl (.inl hL)), Lp, by rw [mv_len, List.length_range]; omega, fun H4 N ys up3 nN pmz hN => ?_⟩
    obtain ⟨z, rfl, pz⟩ := mv_range_perm pmz
    have hz : Pm b.n z := by
      obtain ⟨hm, lm⟩ := mv_of_perm pz n1 (by omega)
      exact ⟨lm, hm.1, by rw [← lm]; exact hm.2.1⟩
    have hb2 := up2.bag
    have k3 := Kp.up up2.bag up3
    replace ht := Kp.tup k3 ht
    replace ha := Kp.tup k3 ha
    replace mr := Kp.mr k3 mr
    have up4 := up2.trans up3
    have hM := Ds.start mb hz
    clear hL k3 up3 up2 up1 kL
    -- found
    have lms := mr_len mr
    have Np : N ≠ p := by
      obtain ⟨x1, x2, x3, e⟩ := hb2
      exact bag_ne e nN
    refine ⟨_, rfl, _, rfl, a, rfl, ⟨vs, .inl (.inl ha)⟩, fun D nD => ?_⟩
    refine lc_tup (K := K) (a := a) (xs := vs) (Pv := fun i H' => Same H4 H' ∧ ∃ acc, H' D = some (.lst acc) ∧ MR H' acc ((b.ms.map (cj z)).take i)) ⟨same_new nD, [], upd_same, .nil⟩ (fun i H' _ e => .inl (.inl (e.1 _ _ ha))) ?_ ?_
    · rintro i v H5 hv ⟨s5, acc, hD, ma⟩
      obtain ⟨m, hm, x, rfl, hx⟩ := pr_at mr hv
      have hmb := List.mem_of_getElem? hm
      obtain ⟨hok, _, _⟩ := menu_all b mb
      have pm := (Bs.all hok).1.pm m ((Bs.all hok).2.2.2 m hmb)
      have la := mr_len ma
      have lt := List.length_take_le i (b.ms.map (cj z))
      have il := (List.getElem?_eq_some_iff.mp hm).1
      refine ⟨wipe_one, yes_ ?_⟩
      refine ⟨_, rfl, _, rfl, x, N, b.n, m, z, rfl, .inl (.inl (s5 _ _ hx)), .inl (.inl (s5 _ _ hN)), pm, hz, n1, by omega, fun H6 r s6 hr => ?_⟩
      have hD6 := s6 _ _ hD
      refine ⟨acc, hD6, by rw [la, sizeLine_eq]; omega, fun y o e => (upd_ne (ne_of_none e nD)).trans (s6 _ _ (s5 _ _ e)), acc ++ [.ref r], upd_same, ?_⟩
      rw [List.take_add_one, List.getElem?_map, hm]
      exact pr_snoc ((ma.same s6).upd hD6 fun _ z => nomatch z) ⟨r, rfl, (upd_ne (ne_of hr hD6 fun z => nomatch z)).trans hr⟩
    rintro H5 ⟨s5, acc, hD, ma⟩
    rw [lms, List.take_of_length_le (by rw [List.length_map]; exact Nat.le_refl _)] at ma
    have up5 := up4.keep s5
    have Dp : D ≠ p := (up4.free nD).1
    have la := mr_len ma
    rw [List.length_map] at la
    refine ⟨p, D, _, rfl, up5.bag, .inl (.inl (.inl hD)), Dp, by omega, fun H6 S ys up6 nS pms hS => ?_⟩
    obtain ⟨ms, pp, mS⟩ := pr_perm pms.symm ma
    replace mS := Kp.mr (Kp.up up5.bag up6) mS
    have hM1 := hM.perm pp
    have lm3 : ms.length ≤ 3 := by rw [pp.length_eq, List.length_map]; exact m3
    have Sp : S ≠ p := by
      obtain ⟨x1, x2, x3, e⟩ := up5.bag
      exact bag_ne e nS
    have nSH : H S = none := (up5.free nS).2
    have up7 := up5.trans up6
    have lys := mr_len mS
    clear hM ma hD s5 nD Dp up6
    show gName 5 _ _ _ _
    refine h_name ?_
    dsimp only
    let J : L2.St → Hp → Prop := fun σ H' => Upto p H H' ∧ ∃ (us : List V) (ms : List (List Nat)) (y6 y7 y8 y9 : Option V), σ = [some (.ref p), some (.int (most : Int)), some (.int (b.n : Int)), some (.ref a), some (.ref N), some (.ref S), y6, y7, y8, y9] ∧
      H' S = some (.lst us) ∧ MR H' us ms ∧ Ds b z ms ∧ ms.length = ys.length
    refine seq_rest' J ?_ ?_
    rotate_left
    · intro R hR
      refine ⟨_, rfl, S, _, rfl, .inl (.inl (.inl hS)), _, _, rfl, rfl, _, rfl, ?_⟩
      refine ite2 (fun c => ?_) (fun c => ?_)
      · obtain ⟨c1, c2, c3, ec⟩ := up7.bag
        refine ⟨_, rfl, p, 3, c1, c2, c3, rfl, ec, ⟨by decide, by decide⟩, fun k g' m' c' k0 k1 => ?_⟩
        refine ⟨k, rfl, by omega, by omega, for_range (fun i σ H' => J σ H') ⟨up7.draw, ys, ms, none, none, none, none, rfl, (upd_ne Sp).trans hS, mS.upd ec (fun _ z => nomatch z), hM1, lys.symm⟩ ?_ fun σ' H' h => hR σ' H' h⟩
        rintro i σ H7 hi ⟨u7, us7, ms7, y6, y7, y8, y9, rfl, hS7, mS7, hM7, l7⟩
        have pos : 1 < ys.length := by
          have := of_decide_eq_true c
          omega
        have lu7 := mr_len mS7
        obtain ⟨c1, c2, c3, ec⟩ := u7.bag
        refine ⟨_, rfl, _, rfl, S, us7, rfl, .inl (.inl (.inl hS7)), p, (us7.length : Int), c1, c2, c3, rfl, ec, div_small (by omega) (by omega), fun at' g1 m1 c1 a0 a1 => ?_⟩
        have u8 := u7.draw (a := g1) (b := m1) (c := c1)
        have mS8 := mS7.upd (o' := .lst [.int g1, .int m1, .int c1]) ec (fun _ z => nomatch z)
        have hS8 := (upd_ne (o := .lst [.int g1, .int m1, .int c1]) Sp).trans hS7
        generalize upd H7 p _ = H8 at u8 mS8 hS8 ⊢
        obtain ⟨d1, d2, d3, ed⟩ := u8.bag
        refine ⟨_, rfl, _, rfl, S, us7, rfl, .inl (.inl (.inl hS8)), p, (us7.length : Int), d1, d2, d3, rfl, ed, div_small (by omega) (by omega), fun to' g2 m2 c2 b0' b1' => ?_⟩
        have u9 := u8.draw (a := g2) (b := m2) (c := c2)
        have mS9 := mS8.upd (o' := .lst [.int g2, .int m2, .int c2]) ed (fun _ z => nomatch z)
        have hS9 := (upd_ne (o := .lst [.int g2, .int m2, .int c2]) Sp).trans hS8
        generalize upd H8 p _ = H9 at u9 mS9 hS9 ⊢
        obtain ⟨x, rfl⟩ : ∃ u : Nat, at' = (u : Int) := ⟨at'.toNat, by omega⟩
        obtain ⟨y, rfl⟩ : ∃ v : Nat, to' = (v : Int) := ⟨to'.toNat, by omega⟩
        refine ⟨_, _, rfl, ?_⟩
        refine ⟨_, rfl, _, rfl, rfl, _, rfl, ?_⟩
        have xl : x < ms7.length := by omega
        have yl : y < ms7.length := by omega
        by_cases e : x = y
        · refine ifF (by rw [e]; simp) ?_
          exact ⟨u9, us7, ms7, _, _, _, _, rfl, hS9, mS9, hM7, l7⟩
        · refine ifT (by rw [dInt, decide_eq_false (by omega)]; rfl) ?_
          obtain ⟨ux, hux, bx, rfl, hbx⟩ := pr_get mS9 (at_get xl)
          obtain ⟨uy, huy, b_y, rfl, hby⟩ := pr_get mS9 (at_get yl)
          have pmx := hM7.pm _ (at_mem xl)
          have pmy := hM7.pm _ (at_mem yl)
          refine ⟨_, rfl, _, rfl, S, us7, _, .ref bx, rfl, rfl, lst_sql' hS9, atI_nat hux, _, rfl, _, rfl, S, us7, _, .ref b_y, rfl, rfl, lst_sql' hS9, atI_nat huy, bx, b_y, at_ ms7 x, at_ ms7 y, rfl, .inl (.inl hbx), .inl (.inl hby), by rw [pmy.len]; omega, by rw [pmx.len]; exact pmy.lt, fun H10 r s10 hr => ?_⟩
          have hS10 := s10 _ _ hS9
          refine ⟨_, rfl, _, rfl, S, us7, _, x, rfl, rfl, hS10, ixN_lt (by omega), ?_⟩
          refine ⟨(u9.keep s10).put Sp nSH, us7.set x (.ref r), ms7.set x (comp (at_ ms7 x) (at_ ms7 y)), _, _, _, _, rfl, upd_same, ?_, hM7.times xl yl e, by rw [List.length_set]; exact l7⟩
          exact pr_set ⟨r, rfl, (upd_ne (ne_of hr hS10 fun z => nomatch z)).trans hr⟩ ((mS9.same s10).upd hS10 fun _ z => nomatch z) x
      · refine ⟨0, rfl, by omega, by omega, for_range (fun i σ H' => J σ H') ⟨up7, ys, ms, none, none, none, none, rfl, hS, mS, hM1, lys.symm⟩ ?_ fun σ' H' h => hR σ' H' h⟩
        intro i σ H' hi
        exact absurd hi (by simp)
    · rintro σ H7 ⟨u7, us7, ms7, y6, y7, y8, y9, rfl, hS7, mS7, hM7, l7⟩
      have lu7 := mr_len mS7
      refine seq_rest' (fun σ H' => Upto p H H' ∧ ∃ (us : List V) (ms : List (List Nat)), σ = [some (.ref p), some (.int (most : Int)), some (.int (b.n : Int)), some (.ref a), some (.ref N), some (.ref S), y6, y7, y8, y9] ∧
        H' S = some (.lst us) ∧ MR H' us ms ∧ Ds b z ms ∧ ms.length ≤ 4) ?_ ?_
      rotate_left
      · intro R hR
        obtain ⟨c1, c2, c3, ec⟩ := u7.bag
        refine ⟨_, rfl, p, 4, c1, c2, c3, rfl, ec, ⟨by decide, by decide⟩, fun k g' m' c' k0 k1 => ?_⟩
        have u8 := u7.draw (a := g') (b := m') (c := c')
        have mS8 := mS7.upd (o' := .lst [.int g', .int m', .int c']) ec (fun _ z => nomatch z)
        have hS8 := (upd_ne (o := .lst [.int g', .int m', .int c']) Sp).trans hS7
        generalize upd H7 p _ = H8 at u8 mS8 hS8 ⊢
        refine ⟨rfl, _, rfl, ?_⟩
        refine ite2 (fun c => ?_) (fun c => ?_)
        · refine ⟨_, rfl, .inl ⟨rfl, us7, lst_sql' hS8⟩, _, rfl, by show 0 ≤ sizeLine; decide, fun e ne => ?_⟩
          have k9 := same_new (o := .lst []) ne
          have he : (upd H8 e (.lst [])) e = some (.lst []) := upd_same
          generalize upd H8 e _ = H9 at k9 he ⊢
          have u9 := u8.keep k9
          have mS9 := mS8.same k9
          have hS9 := k9 _ _ hS8
          have ev : PyData.eqv (.list (ms7.map dM)) (.list []) = decide (ms7 = []) := eqvAll_by dM_eqv ms7 []
          refine ⟨.list (ms7.map dM), .list [], .lst (lst_sql' hS9) (dp_all mS9), .lst (lst_sql' he) .nil, shaped_dLs _, shaped_dLs [], ?_⟩
          rw [ev]
          have fin : ∀ H10 r x, Same H9 H10 → H10 r = some (.tup (mv x)) → x ∈ b.G.map (cj z) → ∃ l xs y, V.ref S = .ref l ∧ [V.ref r] = [y] ∧ H10 l = some (.lst xs) ∧ xs.length < sizeLine ∧ R [some (.ref p), some (.int (most : Int)), some (.int (b.n : Int)), some (.ref a), some (.ref N), some (.ref S), y6, y7, y8, y9] (upd H10 l (.lst (xs ++ [y]))) := fun H10 r x s10 hr hx => by
            have hS10 := s10 _ _ hS9
            refine ⟨S, us7, .ref r, rfl, rfl, hS10, by rw [sizeLine_eq]; omega, hR _ _ ⟨(u9.keep s10).put Sp nSH, us7 ++ [.ref r], ms7 ++ [x], rfl, upd_same, ?_, hM7.more hx, by rw [List.length_append]; show ms7.length + 1 ≤ 4; omega⟩⟩
            exact pr_snoc ((mS9.same s10).upd hS10 fun _ z => nomatch z) ⟨r, rfl, (upd_ne (ne_of hr hS10 fun z => nomatch z)).trans hr⟩
          by_cases e0 : ms7 = []
          · rw [decide_eq_true e0]
            refine ⟨_, rfl, ?_⟩
            refine ifF rfl ?_
            refine ⟨_, rfl, _, rfl, ⟨by omega, by omega, by omega, by omega, by omega⟩, fun r nr => ?_⟩
            rw [rg_mv]
            exact fin _ r _ (same_new nr) upd_same hM7.one
          · rw [decide_eq_false e0]
            refine ⟨_, rfl, ?_⟩
            refine ifT rfl ?_
            have l0 : 0 < ms7.length := List.length_pos_iff.mpr e0
            have ll : ms7.length - 1 < ms7.length := by omega
            obtain ⟨ux, hux, bx, rfl, hbx⟩ := pr_get mS9 (at_get l0)
            obtain ⟨uy, huy, b_y, rfl, hby⟩ := pr_get mS9 (at_get ll)
            have pmx := hM7.pm _ (at_mem l0)
            have pmy := hM7.pm _ (at_mem ll)
            refine ⟨_, rfl, S, us7, _, .ref bx, rfl, rfl, lst_sql' hS9, atI_nat hux, _, rfl, 1, rfl, S, us7, _, .ref b_y, rfl, rfl, lst_sql' hS9, atI_end huy (by omega), bx, b_y, at_ ms7 0, at_ ms7 (ms7.length - 1), rfl, .inl (.inl hbx), .inl (.inl hby), by rw [pmy.len]; omega, by rw [pmx.len]; exact pmy.lt, fun H10 r s10 hr => ?_⟩
            exact fin _ r _ s10 hr (hM7.mvs.mul _ (hM7.sub _ (at_mem l0)) _ (hM7.sub _ (at_mem ll)))
        · exact hR _ _ ⟨u8, us7, ms7, rfl, hS8, mS8, hM7, by omega⟩
      rintro σ H8 ⟨u8, us8, ms8, rfl, hS8, mS8, hM8, l8⟩
      refine ⟨_, rfl, _, rfl, S, us8, rfl, .inl ⟨lst_sql' hS8, fun t2 nt2 => ?_⟩⟩
      have k9 := same_new (o := .tup us8) nt2
      have h9 : (upd H8 t2 (.tup us8)) t2 = some (.tup us8) := upd_same
      generalize upd H8 t2 _ = H9 at k9 h9 ⊢
      refine ⟨by show 2 ≤ sizeLine; decide, fun r nr => ?_⟩
      have k10 := same_new (o := .tup [.int (b.n : Int), .ref t2]) nr
      have u9 := u8.keep k9
      exact q _ r t2 us8 b z b.n ms8 (u9.keep k10) (u9.free nr).2 upd_same (k10 _ _ h9) ((mS8.same k9).same k10) (hM8.done lb l8)
end
end K08


set_option Elab.async false
set_option linter.all false
set_option maxRecDepth 100000
set_option maxHeartbeats 8000000
namespace K08
open PySem PySem.Spec PyProof.Rows L2 MM GT LamX
/-! own words for the readings: a step, its side -/
local macro_rules | `(tactic| walk_at "side") => `(tactic| first
  | omega
  | exact ⟨by omega, by omega⟩
  | exact Or.inl ⟨by omega, by omega⟩
  | exact Or.inr ⟨by omega, by omega⟩
  | (show CPw _ _; decide +kernel)
  | (show (0 : Int) < _; decide +kernel)
  | (show CDivW _ _; first | assumption | exact ⟨by decide, by decide +kernel⟩))
local macro_rules | `(tactic| walk_at "here") => `(tactic| first
  | assumption
  | exact upd_same
  | exact Or.inl (Or.inl upd_same)
  | exact Or.inl upd_same)
local macro_rules | `(tactic| walk_at "one") => `(tactic| first
  | refine ⟨_, rfl, ?_⟩
  | refine Or.inl ⟨_, rfl, ?_⟩
  | refine Or.inr ⟨_, rfl, ?_⟩
  | refine ⟨_, _, rfl, rfl, (by walk_at "side"), ?_⟩
  | refine ⟨_, _, rfl, rfl, ?_⟩
  | refine ⟨_, _, rfl, Or.inl (by walk_at "here"), ?_⟩
  | refine ⟨_, _, rfl, Or.inr (by walk_at "here"), ?_⟩
  | refine ⟨_, _, rfl, (by walk_at "here"), ?_⟩
  | refine ⟨_, _, _, _, rfl, rfl, (by walk_at "here"), rfl, ?_⟩
  | refine ⟨_, _, rfl, ?_⟩
  | refine ifT (by rfl) ?_
  | refine ifF (by rfl) ?_
  | refine ifT (decide_eq_true (by omega)) ?_
  | refine ifF (decide_eq_false (by omega)) ?_)
local macro_rules | `(tactic| walk_at "st") => `(tactic| repeat (walk_at "one"))

section
variable {P : Program} {w : World} {K : PySem.W.Frag} {mg : Str → Option Value} {base : Heap}
def spMade (K : PySem.W.Frag) : Sp := fun vs H Q _ => ∃ (n : Nat) (a : Addr) (us : List V) (ms G : List (List Nat)), vs = [.int (n : Int), .ref a] ∧ SqT K H a us ∧ MR H us ms ∧ (∀ m ∈ ms, Pm n m) ∧ 1 ≤ n ∧ n ≤ 24 ∧ ms.length ≤ 6 ∧
  List.range n ∈ G ∧ (∀ x ∈ G, ∀ k, k < ms.length → comp x (at_ ms k) ∈ G) ∧ G.length ≤ 1000 ∧
  ∀ H' t us' M F W, Same H H' → H t = none → H' t = some (.tup us') → MR H' us' M → Wd n ms F W → Full ms F → M.Perm F → (M.Pairwise fun x y => GT.toI x ≤ GT.toI y) → Q (.ref t) H'
theorem scLotMadeL : FnScope ["_law_places", "_law_makers", "_law_unit", "_law_found", "_law_told", "_law_here", "_law_maker", "_law_later"] ["_law_places", "_law_makers"] (defScope sLotMadeL) :=
  ⟨rfl, rfl, rfl, by decide +kernel, rfl, by decide +kernel, by decide +kernel⟩
theorem dLotMadeL (T : Tx K mg) (DLotTimesL : Def P w K mg base CX0 1 "_law_lot_times" ["_law_one", "_law_other"] (spComp K)) : Def P w K mg base CX0 2 "_law_lot_made" ["_law_places", "_law_makers"] (spMade K) := by
  refine T.t_law_lot_made.def_ (N := ["_law_places", "_law_makers", "_law_unit", "_law_found", "_law_told", "_law_here", "_law_maker", "_law_later"]) scLotMadeL (fun _ _ _ _ _ _ us hl => match us, hl with | [_, _], _ => rfl) ?_ ?_
  · intro vs H Q E h
    obtain ⟨n, a, us, ms, G, rfl, _⟩ := h
    rfl
  · intro f cd A out s H vs Q E hr h
    have hr1 : Rm 1 _ := hr.le (by decide)
    obtain ⟨n, a, us, ms, G, rfl, S, mr, pm, n1, n24, m6, uG, cG, lG, q⟩ := h
    refine ⟨_, (pss_cons (ps_set (i := 2) scLotMadeL.nd rfl (Or.inl rfl) (pe_tupRg rfl rfl T.f_tuple (prg_1 rfl T.f_range (pv 0))))
      (pss_cons (ps_par3 (i := 3) (j := 4) (l := 5) rfl scLotMadeL.nd rfl rfl rfl (by decide) (by decide) (by decide) rfl rfl rfl (pa_cons (pe_lst (pa_cons (pv 2) pa_nil)) (pa_cons (pe_oneT hr.hu1 (pv 2) pe_bl) (pa_cons pe_int pa_nil))) (by rfl))
      (pss_cons (ps_while PassesOwn.never (pt_cmpR op_lt (pv 5) (pe_callB call_len_seq rfl T.f_len (by decide +kernel) (pa_cons (pv 3) pa_nil)) (nomark _))
        (pss_cons (ps_for PassesOwn.never rfl (pi_tup (pv 1)) (pg_name (i := 6) scLotMadeL.nd rfl (Or.inl rfl))
          (pss_cons (ps_set (i := 7) scLotMadeL.nd rfl (Or.inl rfl) (pe_d DLotTimesL (hr1.le (by decide)) pass0 (pa_cons (pe_ix ix_list (pv 3) (pv 5) (fun _ _ => rfl)) (pa_cons (pv 6) pa_nil))))
          (pss_one (ps_if (pt_cmp (pc_dnotin hr.hu1 (pv 7) (pv 4))) (pss_cons (ps_dput hr.hu1 (pv 4) (pv 7) pe_bl rfl)
            (pss_one (ps_expr (pe_bm PySem.F.plainAttrs_list PySem.F.slot_list_append PySem.F.type_list_append mt_append (pv 3) (pa_cons (pv 7) pa_nil))))) pss_nil))))
        (pss_one (ps_set (i := 5) scLotMadeL.nd rfl (Or.inl rfl) (pe_op op_add (pv 5) pe_int)))))
      (pss_one (ps_ret (pe_callTy call_tuple_of rfl T.f_tuple (by decide +kernel) (pa_cons (pe_callB (show CallR _ _ (rSortedTI K) from cr_sortedTI hr.hu) rfl T.f_sorted (by decide +kernel) (pa_cons (pv 3) pa_nil)) pa_nil))))))), ?_⟩
    have lm := mr_len mr
    refine ⟨_, rfl, n, rfl, ⟨by omega, by omega, by omega, by omega, by omega⟩, fun t ft => ?_⟩
    rw [rg_mv]
    have s1 := same_new (o := .tup (mv (List.range n))) ft
    have ht : (upd H t (.tup (mv (List.range n)))) t = some (.tup (mv (List.range n))) := upd_same
    generalize upd H t _ = H1 at s1 ht ⊢
    refine ⟨_, rfl, by show 1 ≤ sizeLine; decide, fun l nl => ?_⟩
    have sl := same_new (o := .lst [.ref t]) nl
    have hl : (upd H1 l (.lst [.ref t])) l = some (.lst [.ref t]) := upd_same
    have nl1 := nl
    generalize upd H1 l _ = H2 at sl hl ⊢
    refine fun d nd => ?_
    have sd := same_new (o := .dT []) nd
    have hd0 : (upd H2 d (.dT [])) d = some (.dT []) := upd_same
    generalize upd H2 d _ = H3 at sd hd0 ⊢
    refine ⟨_, rfl, hd0, t, key (List.range n), rfl, by rw [key_mv]; exact sd _ _ (sl _ _ ht), ?_⟩
    have dl : d ≠ l := (ne_of_none hl nd).symm
    have nd1 : ∀ b o, H1 b = some o → b ≠ d := fun b o e => ne_of_none (sl _ _ e) nd
    have nl2 : ∀ b o, H1 b = some o → b ≠ l := fun b o e => ne_of_none e nl1
    have sD : Same H1 (upd H3 d (.dT [(key (List.range n), .bl true)])) := fun b o e => (upd_ne (nd1 b o e)).trans (sd _ _ (sl _ _ e))
    have hd : (upd H3 d (.dT [(key (List.range n), .bl true)])) d = some (.dT (seen [List.range n])) := upd_same
    have hl4 := (upd_ne (H := H3) (o := .dT [(key (List.range n), .bl true)]) dl.symm).trans (sd _ _ hl)
    generalize upd H3 d _ = H4 at sD hd hl4 ⊢
    refine ⟨_, _, _, rfl, ?_⟩
    have lus := mr_len mr
    refine while_by (fun σ H' => Same H1 H' ∧ ∃ (us2 : List V) (F W : List (List Nat)) (p : Nat) (y6 y7 : Option V),
        σ = [some (.int (n : Int)), some (.ref a), some (.ref t), some (.ref l), some (.ref d), some (.int (p : Int)), y6, y7] ∧
        H' d = some (.dT (seen F)) ∧ H' l = some (.lst us2) ∧ MR H' us2 F ∧ Wd n ms F W ∧ p ≤ F.length ∧ ∀ i, i < p → ∀ k, k < ms.length → comp (at_ F i) (at_ ms k) ∈ F)
      (fun σ _ => match σ with | [_, _, _, _, _, some (.int p), _, _] => G.length - p.toNat | _ => 0)
      ⟨sD, _, [List.range n], [[]], 0, none, none, rfl, hd, hl4, .cons ⟨t, rfl, sD _ _ ht⟩ .nil, Wd.start n ms, Nat.zero_le _, fun i h => by omega⟩ ?_ ?_
    · rintro σ H' ⟨s', us2, F, W, p, y6, y7, rfl, hd', hl', mF, wd, pF, done⟩
      have lF := wd.few uG cG
      have lus2 := pr_len mF
      refine ⟨_, rfl, _, rfl, l, us2, rfl, .inl (lst_sql' hl'), _, _, rfl, rfl, _, rfl, ?_⟩
      rw [lus2]
      by_cases c : p < F.length
      · refine ifT (decide_eq_true (by omega)) ?_
        obtain ⟨u, hu, bm, rfl, hbm⟩ := pr_get mF (at_get c)
        refine ⟨_, rfl, a, rfl, ⟨us, same_sqt (s1.trans s') S⟩, for_tup (K := K) (a := a) (xs := us) (fun i σ H6 => Same H1 H6 ∧ ∃ (us2 : List V) (F' W' : List (List Nat)) (y6 y7 : Option V),
            σ = [some (.int (n : Int)), some (.ref a), some (.ref t), some (.ref l), some (.ref d), some (.int (p : Int)), y6, y7] ∧
            H6 d = some (.dT (seen F')) ∧ H6 l = some (.lst us2) ∧ MR H6 us2 F' ∧ Wd n ms F' W' ∧ (p < F'.length ∧ at_ F' p = at_ F p) ∧
            (∀ j, j < p → ∀ k, k < ms.length → comp (at_ F' j) (at_ ms k) ∈ F') ∧ ∀ k, k < i → comp (at_ F p) (at_ ms k) ∈ F')
          ⟨s', us2, F, W, _, _, rfl, hd', hl', mF, wd, ⟨c, rfl⟩, done, fun k h => absurd h (Nat.not_lt_zero k)⟩ (fun i σ H6 _ e => same_sqt (s1.trans e.1) S) ?_ ?_⟩
        · rintro i v σ H6 hv ⟨s6, us2', F', W', z6, z7, rfl, hd6, hl6, mF6, wd6, ⟨pl, ep⟩, done6, part⟩
          obtain ⟨m, hm, b, rfl, hb⟩ := pr_at mr hv
          have im := (List.getElem?_eq_some_iff.mp hm).1
          have em : at_ ms i = m := by rw [at_, List.getD, hm]; rfl
          have pmm := pm m (List.mem_of_getElem? hm)
          have pmx : Pm n (at_ F p) := by rw [← ep]; exact wd6.pm pm p pl
          obtain ⟨u6, hu6, bm6, rfl, hbm6⟩ := pr_get mF6 (at_get pl)
          rw [ep] at hbm6
          refine ⟨_, rfl, _, rfl, l, us2', _, .ref bm6, rfl, rfl, lst_sql' hl6, atI_nat hu6, _, rfl, bm6, b, at_ F p, m, rfl, .inl (.inl hbm6), .inl (.inl (s6 _ _ (s1 _ _ hb))), by rw [pmm.len]; omega, by rw [pmx.len]; exact pmm.lt, fun H8 cc s8 hc => ?_⟩
          replace s6 := s6.trans s8
          replace hd6 := s8 _ _ hd6
          replace hl6 := s8 _ _ hl6
          replace mF6 := mF6.same s8
          have kc : H8 cc = some (.tup ((key (comp (at_ F p) m)).map kV)) := by rw [key_mv]; exact hc
          refine ⟨_, rfl, _, rfl, d, valV (seen F') (key (comp (at_ F p) m)), rfl, DGet.t hd6 kc, ?_⟩
          rw [seen_in]
          by_cases inn : comp (at_ F p) m ∈ F'
          · rw [decide_eq_true inn]
            refine ⟨_, rfl, ?_⟩
            refine ifF rfl ?_
            refine ⟨s6, us2', F', W', _, _, rfl, hd6, hl6, mF6, wd6, ⟨pl, ep⟩, done6, fun k hk => ?_⟩
            by_cases e : k = i
            · rw [e, em]
              exact inn
            · exact part k (by omega)
          · rw [decide_eq_false inn]
            refine ⟨_, rfl, ?_⟩
            refine ifT rfl ?_
            have pw := wd6.push (j := p) (k := i) pl im (by rw [ep, em]; exact inn)
            rw [ep, em] at pw
            have pf := pw.few uG cG
            rw [List.length_append] at pf
            replace pf : F'.length + 1 ≤ G.length := pf
            have lus2' := pr_len mF6
            refine ⟨_, rfl, _, rfl, d, _, rfl, DPut.t hd6 kc (by rw [seen_len, sizeLine_eq]; omega), ?_⟩
            rw [seen_put inn]
            have ld : l ≠ d := fun e => by rw [e, hd6] at hl6; cases hl6
            have nt : ∀ xs : List V, HO.dT (seen F') ≠ .tup xs := fun _ e => nomatch e
            have nt2 : ∀ xs : List V, HO.lst us2' ≠ .tup xs := fun _ e => nomatch e
            have s10 : Same H1 (upd H8 d (.dT (seen (F' ++ [comp (at_ F p) m])))) := fun b o e => (upd_ne (nd1 b o e)).trans (s6 _ _ e)
            have mF10 := mF6.upd (o' := .dT (seen (F' ++ [comp (at_ F p) m]))) hd6 nt
            have hc10 := (upd_ne (o := .dT (seen (F' ++ [comp (at_ F p) m]))) (ne_of hc hd6 fun e => nomatch e)).trans hc
            have hl10 := (upd_ne (o := .dT (seen (F' ++ [comp (at_ F p) m]))) ld).trans hl6
            have hd10 : (upd H8 d (.dT (seen (F' ++ [comp (at_ F p) m])))) d = some (.dT (seen (F' ++ [comp (at_ F p) m]))) := upd_same
            generalize upd H8 d _ = H10 at s10 mF10 hc10 hl10 hd10 ⊢
            refine ⟨_, rfl, .inl ⟨rfl, us2', lst_sql' hl10⟩, _, rfl, l, us2', _, rfl, rfl, hl10, by rw [lus2', sizeLine_eq]; omega, ?_⟩
            refine ⟨fun b o e => (upd_ne (nl2 b o e)).trans (s10 _ _ e), us2' ++ [.ref cc], F' ++ [comp (at_ F p) m], W' ++ [at_ W' p ++ [i]], _, _, rfl, (upd_ne ld.symm).trans hd10, upd_same, pr_snoc (mF10.upd hl10 nt2) ⟨cc, rfl, (upd_ne (ne_of hc10 hl10 fun e => nomatch e)).trans hc10⟩, pw, ⟨by rw [List.length_append]; omega, by rw [at_app pl, ep]⟩, fun j hj k hk => ?_, fun k hk => ?_⟩
            · rw [at_app (by omega)]
              exact List.mem_append_left _ (done6 j hj k hk)
            · by_cases e : k = i
              · rw [e, em]
                exact List.mem_append_right _ List.mem_cons_self
              · exact List.mem_append_left _ (part k (by omega))
        · rintro σ H6 ⟨s6, us2', F', W', z6, z7, rfl, hd6, hl6, mF6, wd6, ⟨pl, ep⟩, done6, part⟩
          refine ⟨_, rfl, _, 1, rfl, rfl, ?_⟩
          refine ⟨⟨s6, us2', F', W', p + 1, _, _, by rw [Int.natCast_add]; rfl, hd6, hl6, mF6, wd6, pl, fun j hj k hk => ?_⟩, ?_⟩
          · by_cases e : j = p
            · rw [e, ep]
              exact part k (by omega)
            · exact done6 j (by omega) k hk
          · show G.length - ((p : Int) + 1).toNat < G.length - ((p : Nat) : Int).toNat
            omega
      · refine ifF (decide_eq_false (by omega)) ?_
        obtain rfl : p = F.length := by omega
        have pmF : ∀ x ∈ F, Pm n x := fun x hx => by
          obtain ⟨j, hj, rfl⟩ := mem_at hx
          exact wd.pm pm j hj
        obtain ⟨bs, bs1, bs2, bs3⟩ := mr_bs mF
        have lbs : bs.length = F.length := by rw [← List.length_map (f := Prod.snd), bs2, List.length_map]
        refine ⟨_, rfl, l, bs, rfl, by rw [bs1]; exact lst_sql' hl', by omega, fun b hb => ?_, fun zs p2 pz az np => ?_⟩
        · obtain ⟨t', m', h1, h2, h3, h4⟩ := bs3 b hb
          refine ⟨fun z => ?_, t', h2, ?_⟩
          · rw [h3] at z
            have e1 := congrArg List.length z
            unfold nums at e1
            rw [List.length_map, List.length_nil, (pmF m' h1).len] at e1
            omega
          · rw [h3]
            unfold nums
            rw [← mv_ints]
            exact .inl (.inl h4)
        have tz : ∀ z ∈ zs, ∃ t, z.1 = .ref t ∧ H' t = some (.tup (z.2.map V.int)) := fun z hz => by
          obtain ⟨t', m', h1, h2, h3, h4⟩ := bs3 z (pz.mem_iff.mp hz)
          refine ⟨t', h2, ?_⟩
          rw [h3]
          unfold nums
          rw [← mv_ints]
          exact h4
        obtain ⟨M, pM, asc, mM⟩ := sorted_moves (F := F) (by
          have := pz.map Prod.snd
          rw [bs2] at this
          exact this) az tz
        have k7 := same_new (o := .lst (zs.map Prod.fst)) np
        have hp : (upd H' p2 (.lst (zs.map Prod.fst))) p2 = some (.lst (zs.map Prod.fst)) := upd_same
        have sA := s1.trans s'
        generalize upd H' p2 _ = H7 at k7 hp ⊢
        refine ⟨p2, _, rfl, .inl ⟨lst_sql' hp, fun r nr => ?_⟩⟩
        have k8 := k7.trans (same_new (o := .tup (zs.map Prod.fst)) nr)
        refine q _ r _ M F W (sA.trans k8) ?_ upd_same (mM.same k8) wd (fun x hx k hk => ?_) pM asc
        · cases z : H r with
          | none => rfl
          | some o => rw [(sA.trans k7) _ _ z] at nr; cases nr
        · obtain ⟨i, hi, rfl⟩ := mem_at hx
          exact done i hi k hk
    · rintro σ H' Q1 Q2 m ⟨v, hv, v2, hv2, z, ys, e1, e2, i, j, e3, e4, b, e5, q⟩
      exact ⟨v, hv, v2, hv2, z, ys, e1, e2, i, j, e3, e4, b, e5, m _ _ q⟩
def spToldBy (K : PySem.W.Frag) : Sp := fun vs H Q _ => ∃ (n : Nat) (a b : Addr) (us : List V) (ms : List (List Nat)) (wd : List Nat), vs = [.int (n : Int), .ref a, .ref b] ∧ SqT K H a us ∧ MR H us ms ∧ (∀ m ∈ ms, Pm n m) ∧ 1 ≤ n ∧ n ≤ 24 ∧ SqT K H b (mv wd) ∧ (∀ k ∈ wd, k < ms.length) ∧
  ∀ H' t, Same H H' → H' t = some (.tup (mv (ev n ms wd))) → Q (.ref t) H'
theorem scToldByL : FnScope ["_law_places", "_law_makers", "_law_word", "_law_found", "_law_index"] ["_law_places", "_law_makers", "_law_word"] (defScope sToldByL) :=
  ⟨rfl, rfl, rfl, by decide +kernel, rfl, by decide +kernel, by decide +kernel⟩
theorem dToldByL (T : Tx K mg) (DLotTimesL : Def P w K mg base CX0 1 "_law_lot_times" ["_law_one", "_law_other"] (spComp K)) : Def P w K mg base CX0 2 "_law_told_by" ["_law_places", "_law_makers", "_law_word"] (spToldBy K) := by
  refine T.t_law_told_by.def_ (N := ["_law_places", "_law_makers", "_law_word", "_law_found", "_law_index"]) scToldByL (fun _ _ _ _ _ _ us hl => match us, hl with | [_, _, _], _ => rfl) ?_ ?_
  · intro vs H Q E h
    obtain ⟨n, a, b, us, ms, wd, rfl, _⟩ := h
    rfl
  · intro f cd A out s H vs Q E hr h
    have hr1 : Rm 1 _ := hr.le (by decide)
    obtain ⟨n, a, b, us, ms, wd, rfl, S, mr, pm, n1, n24, Sb, lt, q⟩ := h
    refine ⟨_, (pss_cons (ps_set (i := 3) scToldByL.nd rfl (Or.inl rfl) (pe_tupRg rfl rfl T.f_tuple (prg_1 rfl T.f_range (pv 0))))
      (pss_cons (ps_for PassesOwn.never rfl (pi_tup (pv 2)) (pg_name (i := 4) scToldByL.nd rfl (Or.inl rfl))
        (pss_one (ps_set (i := 3) scToldByL.nd rfl (Or.inl rfl) (pe_d DLotTimesL (hr1.le (by decide)) pass0 (pa_cons (pv 3) (pa_cons (pe_ix ix_tup (pv 1) (pv 4) (fun _ _ => rfl)) pa_nil))))))
      (pss_one (ps_ret (pv 3))))), ?_⟩
    refine ⟨_, rfl, n, rfl, ⟨by omega, by omega, by omega, by omega, by omega⟩, fun t ft => ?_⟩
    rw [rg_mv]
    have s1 := same_new (o := .tup (mv (List.range n))) ft
    have ht : (upd H t (.tup (mv (List.range n)))) t = some (.tup (mv (List.range n))) := upd_same
    generalize upd H t _ = H1 at s1 ht ⊢
    refine ⟨_, rfl, b, rfl, ⟨_, same_sqt s1 Sb⟩, for_tup (K := K) (a := b) (xs := mv wd) (fun i σ H' => Same H H' ∧ ∃ (t : Addr) (y4 : Option V), σ = [some (.int (n : Int)), some (.ref a), some (.ref b), some (.ref t), y4] ∧ H' t = some (.tup (mv (ev n ms (wd.take i))))) ⟨s1, t, none, rfl, ht⟩ (fun i σ H' _ e => same_sqt e.1 Sb) ?_ ?_⟩
    · rintro i v σ H' hv ⟨s2, t2, y4, rfl, ht2⟩
      obtain ⟨li, rfl⟩ := mv_nth hv
      have hk := lt _ (GT.getD_mem li)
      have exk : wd[i]? = some (wd.getD i 0) := by rw [GT.gD li]; exact List.getElem?_eq_getElem li
      obtain ⟨u, hu, bx, rfl, hbx⟩ := pr_get (mr.same s2) (at_get hk)
      have pk := pm _ (at_mem hk)
      have pe : ∀ w : List Nat, (∀ k ∈ w, k < ms.length) → Pm n (ev n ms w) := fun w hw => by
        unfold ev
        have : ∀ (w : List Nat) (x : List Nat), (∀ k ∈ w, k < ms.length) → Pm n x → Pm n (w.foldl (fun x k => comp x (at_ ms k)) x) := by
          intro w
          induction w with
          | nil => exact fun _ _ h => h
          | cons k w ih => exact fun x hw hx => ih _ (fun q hq => hw q (List.mem_cons_of_mem _ hq)) (hx.comp (pm _ (at_mem (hw k List.mem_cons_self))))
        exact this w _ hw (pm_unit n)
      have pt := pe (wd.take i) fun k hk => lt k (List.mem_of_mem_take hk)
      refine ⟨_, rfl, _, rfl, _, rfl, a, us, _, .ref bx, rfl, rfl, same_sqt s2 S, atI_nat hu, t2, bx, _, _, rfl, .inl (.inl ht2), .inl (.inl hbx), by rw [pk.len]; omega, by rw [pt.len]; exact pk.lt, fun H3 r s3 hr => ?_⟩
      refine ⟨s2.trans s3, r, _, rfl, ?_⟩
      rw [hr, List.take_add_one, exk]
      show _ = some (HO.tup (mv (ev n ms (_ ++ [wd.getD i 0]))))
      rw [ev_snoc]
    · rintro σ H' ⟨s2, t2, y4, rfl, ht2⟩
      rw [mv_len, List.take_of_length_le (Nat.le_refl _)] at ht2
      exact ⟨_, rfl, q H' t2 s2 ht2⟩
def spIsWord (K : PySem.W.Frag) : Sp := fun vs H Q _ => ∃ (a b : Addr) (us : List V) (wd : List Nat) (most : Nat), vs = [.ref a, .ref b, .int (most : Int)] ∧ SqT K H a us ∧ SqT K H b (mv wd) ∧ wd.length ≤ most ∧ most ≤ 1000 ∧ (∀ k ∈ wd, k < us.length) ∧
  ∀ H', Same H H' → Q (.bl true) H'
theorem scIsWordL : FnScope ["_law_makers", "_law_word", "_law_most", "_law_one"] ["_law_makers", "_law_word", "_law_most"] (defScope sIsWordL) :=
  ⟨rfl, rfl, rfl, by decide +kernel, rfl, by decide +kernel, by decide +kernel⟩
theorem dIsWordL (T : Tx K mg) : Def P w K mg base CX0 1 "_law_is_word" ["_law_makers", "_law_word", "_law_most"] (spIsWord K) := by
  refine T.t_law_is_word.def_ (N := ["_law_makers", "_law_word", "_law_most", "_law_one"]) scIsWordL (fun _ _ _ _ _ _ us hl => match us, hl with | [_, _, _], _ => rfl) ?_ ?_
  · intro vs H Q E h
    obtain ⟨a, b, us, wd, most, rfl, _⟩ := h
    rfl
  · intro f cd A out s H vs Q E hr h
    obtain ⟨a, b, us, wd, most, rfl, S, Sb, lw, l1, lt, q⟩ := h
    refine ⟨_, (pss_cons (ps_if (PW.pt (pw_or (pt_not (pt_val (pe_callB (cr_is .tup) rfl T.f_isinstance (by decide +kernel) (pa_cons (pv 1) (pa_cons (pe_ty .tup T.f_tuple (by decide +kernel)) pa_nil))))) (pw_or1 (pt_cmpR op_gt (pe_callB call_len_seq rfl T.f_len (by decide +kernel) (pa_cons (pv 1) pa_nil)) (pv 2) (nomark _))))) (pss_one (ps_ret pe_bl)) pss_nil)
      (pss_one (ps_ret (pe_cmpR (op_eqD hr.hu) (pe_lc (own := [("_law_one", 3)]) (g := gName 3) rfl scIsWordL.nd (pi_tup (pv 1)) (blkOk_by (N := ["_law_makers", "_law_word", "_law_most", "_law_one"]) (sc := defScope sIsWordL) (by decide +kernel)) (fun _ _ _ _ _ => pg_name (i := 3) scIsWordL.nd rfl (Or.inl rfl)) (fun _ _ _ _ _ => (pts_one (PW.pt (pw_or (pt_not (pt_val (pe_callB (show CallR _ (.builtin "isinstance") (rIs K .int) from cr_is .int) rfl T.f_isinstance (by decide +kernel) (pa_cons (pv 3) (pa_cons (pe_ty .int T.f_int (by decide +kernel)) pa_nil))))) (pw_or (pt_val (pe_callB (show CallR _ (.builtin "isinstance") (rIs K .bl) from cr_is .bl) rfl T.f_isinstance (by decide +kernel) (pa_cons (pv 3) (pa_cons (pe_ty .bl T.f_bool (by decide +kernel)) pa_nil)))) (pw_or1 (pt_not (pt_chain op_le op_lt pe_int (pv 3) (pe_callB (cr_lenK (K := K) rfl) rfl T.f_len (by decide +kernel) (pa_cons (pv 0) pa_nil)))))))))) (fun _ _ _ _ _ => pe_int)) (pe_lst pa_nil) (nomark _))))), ?_⟩
    refine ⟨_, rfl, _, _, rfl, .tup Sb, _, rfl, ?_⟩
    refine ifF rfl ?_
    refine ⟨_, rfl, _, _, rfl, .inr Sb, _, rfl, _, _, rfl, rfl, _, rfl, ?_⟩
    refine ifF (decide_eq_false (by rw [mv_len]; omega)) ?_
    refine ⟨_, rfl, b, rfl, ⟨_, Sb⟩, fun D nD => ?_⟩
    refine lc_tup (K := K) (a := b) (xs := mv wd) (Pv := fun i H' => Same H H' ∧ H' D = some (.lst [])) ⟨same_new nD, upd_same⟩ (fun i H' _ e => same_sqt e.1 Sb) ?_ ?_
    · rintro i v H1 hv ⟨s1, hD⟩
      obtain ⟨li, rfl⟩ := mv_nth hv
      have hk := lt _ (GT.getD_mem li)
      refine ⟨wipe_one, ?_⟩
      refine ⟨_, rfl, _, _, rfl, .int _, _, rfl, ?_⟩
      refine ifF rfl ?_
      refine ⟨_, rfl, _, _, rfl, .int _, _, rfl, ?_⟩
      refine ifF rfl ?_
      refine ⟨_, rfl, _, _, rfl, rfl, _, rfl, ?_⟩
      refine ifT (decide_eq_true (by omega)) ?_
      refine ⟨_, rfl, a, us, rfl, .inr (same_sqt s1 S), _, _, rfl, rfl, _, rfl, ?_⟩
      rw [decide_eq_true (show ((wd.getD i 0 : Nat) : Int) < (us.length : Int) by omega)]
      exact ⟨s1, hD⟩
    rintro H1 ⟨s1, hD⟩
    refine ⟨by show 0 ≤ sizeLine; decide, fun e ne => ?_⟩
    have k := same_new (o := .lst []) ne
    refine ⟨.list [], .list [], .lst (lst_sql' (k _ _ hD)) .nil, .lst (lst_sql' upd_same) .nil, shaped_dLs [], shaped_dLs [], ?_⟩
    exact q _ (s1.trans k)
def spLBes (K : PySem.W.Frag) : Sp := fun vs H Q _ => ∃ (a b : Addr) (n n2 : Nat) (x y : List Nat), vs = [.ref a, .ref b] ∧ SqT K H a (mv x) ∧ SqT K H b (mv y) ∧ Pm n x ∧ Pm n2 y ∧ 1 ≤ n2 ∧ n ≤ 24 ∧ n2 ≤ 24 ∧ ∀ H' t, Same H H' → H' t = some (.tup (mv (bes x y))) → Q (.ref t) H'
theorem scBesideL : FnScope ["_law_first", "_law_second", "_law_place"] ["_law_first", "_law_second"] (defScope sBesideL) :=
  ⟨rfl, rfl, rfl, by decide +kernel, rfl, by decide +kernel, by decide +kernel⟩
theorem dBesideL (T : Tx K mg) : Def P w K mg base CX0 1 "_law_beside" ["_law_first", "_law_second"] (spLBes K) := by
  refine T.t_law_beside.def_ (N := ["_law_first", "_law_second", "_law_place"]) scBesideL (fun _ _ _ _ _ _ us hl => match us, hl with | [_, _], _ => rfl) ?_ ?_
  · intro vs H Q E h
    obtain ⟨a, b, n, n2, x, y, rfl, _⟩ := h
    rfl
  · intro f cd A out s H vs Q E hr h
    obtain ⟨a, b, n, n2, x, y, rfl, Sa, Sb, px, py, n21, n24, n224, q⟩ := h
    refine ⟨_, (pss_one (ps_ret (pe_op op_catA (pv 0) (pe_callTy call_tuple_of rfl T.f_tuple (by decide +kernel) (pa_cons (pe_lc (own := [("_law_place", 2)]) (g := gName 2) (tt := tYes) rfl scBesideL.nd (pi_tup (pv 1)) (blkOk_by (N := ["_law_first", "_law_second", "_law_place"]) (sc := defScope sBesideL) (by decide +kernel)) (fun _ _ _ _ _ => pg_name (i := 2) scBesideL.nd rfl (Or.inl rfl)) (fun _ _ _ _ _ => pts_nil) (fun _ _ _ _ _ => (pe_op op_add (pe_callB (cr_lenK (K := K) rfl) rfl T.f_len (by decide +kernel) (pa_cons (pv 0) pa_nil)) (pv 2)))) pa_nil))))), ?_⟩
    refine ⟨_, rfl, _, rfl, b, rfl, ⟨_, Sb⟩, fun D nD => ?_⟩
    refine lc_tpl (addV n) Sb nD (by rw [mv_len, py.len, sizeLine_eq]; omega) ?_ ?_
    · intro v acc' hx Q' q'
      obtain ⟨k, hk, rfl⟩ := List.mem_map.mp hx
      refine ⟨_, rfl, a, _, rfl, .inr (same_sqt (same_new nD) Sa), _, rfl, _, _, rfl, rfl, ?_⟩
      rw [mv_len, px.len]
      exact q'
    rw [addV_mv]
    have s5 := same_new (o := .lst (mv (y.map (n + ·)))) nD
    have hE : (upd H D (.lst (mv (y.map (n + ·))))) D = some (.lst (mv (y.map (n + ·)))) := upd_same
    generalize upd H D _ = H5 at s5 hE ⊢
    refine ⟨D, _, rfl, .inl ⟨lst_sql' hE, fun t nt => ?_⟩⟩
    have s6 := s5.trans (same_new (o := .tup (mv (y.map (n + ·)))) nt)
    have ht : (upd H5 t (.tup (mv (y.map (n + ·))))) t = some (.tup (mv (y.map (n + ·)))) := upd_same
    generalize upd H5 t _ = H6 at s6 ht ⊢
    refine cat_tup (same_sqt s6 Sa) ht (by rw [mv_len, mv_len, List.length_map, px.len, py.len, sizeLine_eq]; omega) (fun e => by have := congrArg List.length e; rw [mv_len, List.length_map, py.len] at this; simp at this; omega) fun H7 r s7 hr => q H7 r (s6.trans s7) ?_
    rw [hr]
    show some (HO.tup (mv x ++ mv _)) = some (HO.tup (mv (x ++ y.map (x.length + ·))))
    rw [px.len]
    unfold mv
    rw [List.map_append]
end
end K08


set_option Elab.async false
set_option linter.all false
set_option maxRecDepth 100000
set_option maxHeartbeats 2000000
/-! set(l) of a list of ints -/
namespace MM
open PySem PySem.Spec PyProof.Rows L2
theorem firstMet_nodup (val : Nat → Int) : ∀ i, (firstMet val i).Nodup
  | 0 => by
    rw [firstMet_zero]
    exact List.nodup_nil
  | i + 1 => by
    have ih := firstMet_nodup val i
    rw [firstMet_succ]
    unfold step_dedup
    split
    · exact ih
    · rename_i h
      rw [List.nodup_append]
      refine ⟨ih, by simp, fun a ha b hb z => h ?_⟩
      rw [List.mem_singleton] at hb
      subst hb z
      exact List.any_eq_true.mpr ⟨_, ha, beq_self_eq_true _⟩
theorem map_getD (ns : List Int) : (List.range ns.length).map (fun i => ns.getD i 0) = ns := by
  refine List.ext_getElem (by simp) fun i h1 h2 => ?_
  rw [List.getElem_map, List.getElem_range, List.getD, List.getElem?_eq_getElem h2]
  rfl
theorem any_mem (ns : List Int) (k : Int) : ns.any (· == k) = decide (k ∈ ns) := by
  rw [Bool.eq_iff_iff, List.any_eq_true, decide_eq_true_eq]
  exact ⟨fun ⟨x, hx, e⟩ => by rw [← beq_iff_eq.mp e]; exact hx, fun h => ⟨k, h, beq_self_eq_true _⟩⟩
def rSetL (K : PySem.W.Frag) : List V → Hp → VK → Prop := fun xs H Q => ∃ (p : Addr) (ns : List Int), xs = [.ref p] ∧ SqL K H p (ns.map V.int) ∧ ns.length ≤ 4000 ∧
  ∀ t n, H t = none → (n = ns.length ↔ ns.Nodup) → n ≤ ns.length → Q (.ref t) (upd H t (.set (fun j => decide (j ∈ ns)) n))
theorem cr_setL {X : Cx} (hc : X.calm = true) : CallR X (.type "set") (rSetL X.K) := by
  intro pins s σ H xs us Q I r h
  obtain ⟨p, ns, rfl, hp, hl, q⟩ := h
  obtain ⟨u, rfl, ru⟩ := vals1 r
  cases ru
  obtain ⟨its, rv, ht, hz⟩ := I.list hp
  have ia : IntsAre its ns := ints_of rv
  have sz : its.toArray.size = ns.length := by
    have := IntsAre.length ia
    simpa using this
  refine call_set_list (prog := X.prog) (ns := ns) (I.ok.hd hc) ht.isList (by simpa using ia) (by rw [sz]; show ns.length + 1 < 4096; omega) fun h' tk R keep => ?_
  rw [sz] at R
  have eS : (fun k' => (firstMet (fun i => ns.getD i 0) ns.length).any (· == k')) = fun j => decide (j ∈ ns) := by
    funext k
    rw [firstMet_any, map_getD, any_mem]
  have cnt : (firstMet (fun i => ns.getD i 0) ns.length).length = ns.length ↔ ns.Nodup := by
    refine count_keys (firstMet_nodup _ _) fun k => ?_
    have := congrFun eS k
    have this : (firstMet (fun i => ns.getD i 0) ns.length).any (· == k) = decide (k ∈ ns) := this
    rw [any_mem] at this
    exact (decide_eq_decide.mp this).symm
  rw [eS] at R
  refine ⟨.ref _, _, I.laid (t' := tk) (o := .set (fun j => decide (j ∈ ns)) (firstMet (fun i => ns.getD i 0) ns.length).length) (fun b o e => keep b o (Heap.lt_size e) e) (Nat.le_refl _) ?_, rfl,
    q _ _ (I.hok.fresh (Nat.le_refl _)) cnt (firstMet_length_le _ _)⟩
  exact R
theorem ite_mono {M X1 X2 Y1 Y2 : Prop} {b : Bool} (f : M → X1 → X2) (g : M → Y1 → Y2) : M → (if b = true then X1 else Y1) → if b = true then X2 else Y2 := by
  intro m h
  cases b with
  | true => exact f m h
  | false => exact g m h
theorem or_mono {M X1 X2 Y1 Y2 : Prop} (f : M → X1 → X2) (g : M → Y1 → Y2) : M → X1 ∨ Y1 → X2 ∨ Y2 := fun m h => h.imp (f m) (g m)
def rJn (K : PySem.W.Frag) : V → List V → Hp → VK → Prop := fun x xs H Q => ∃ a p, ∃ ys : List Str, x = .str a ∧ xs = [.ref p] ∧ (SqL K H p (ys.map V.str) ∨ SqT K H p (ys.map V.str)) ∧
  (ys.map (·.length)).sum + ys.length * a.length ≤ 16777216 ∧ Q (.str (Txt.join a ys)) H
end MM

set_option Elab.async false
set_option linter.all false
set_option maxRecDepth 100000
set_option maxHeartbeats 4000000
/-! tuple * 1, and tuple * int from 1 on -/
namespace MM
open PySem PySem.Spec PyProof.Rows L2
theorem tuple_mul1 (l : Addr) (items : Array Value) (n : Nat) (dd : Option Addr) (sl : Array (Option Value)) (u : Tok) :
    Meets (Builtin.«tuple.__mul__» ⟨[.ref l, .int 1 u], []⟩) (fun _ R s => s.heap.get? l = some { cls := .type "tuple", dict := dd, data := .seq items n, slots := sl } ∧
      R (.ok (.ret (Value.ref l))) s) :=
  .of_wp fun prog w A R s h => by
    obtain ⟨hp, g, d, tk, os⟩ := s
    obtain ⟨hl, h⟩ := h
    have f1 := AutoSeq1.idx_int
    have c0 : (decide ((1 : Int) < -(2 ^ 63)) || decide ((1 : Int) ≥ 2 ^ 63)) = false := by decide
    have c1 : (items.isEmpty || (1 : Int) == 1) = true := by cases items.isEmpty <;> rfl
    wp_walk using wpAny_loadPart' hl
    repeat (first
      | (refine wpAny_ite_false (decide_eq_false (by rw [c0]; exact Bool.false_ne_true)) ?_; wp_walk using wpAny_loadPart' hl)
      | (refine wpAny_ite_true (decide_eq_true c1) ?_; wp_walk using wpAny_loadPart' hl))
    exact ⟨_, rfl, h⟩
def rRepV (K : PySem.W.Frag) : R2 := fun x y H Q => ∃ l k xs, x = .ref l ∧ y = .int k ∧ SqT K H l xs ∧ xs ≠ [] ∧ 1 ≤ k ∧ k ≤ 1000 ∧ xs.length ≤ 1000 ∧ ∀ H' p, Same H H' → SqT K H' p (List.replicate k.toNat xs).flatten → Q (.ref p) H'
theorem op_repV {X : Cx} : OpR X (binaryOp .Mult) (rRepV X.K) := by
  intro pins s σ H x y v u Q I rx ry h
  obtain ⟨l, k, xs, rfl, rfl, hT, hne, h1, h2, hz, q⟩ := h
  by_cases k1 : k = 1
  · subst k1
    cases rx
    obtain ⟨t, rfl⟩ := ry
    obtain ⟨its, r, ⟨⟨cls, dd, data, sl⟩, ho, hc, n, hd⟩, hs⟩ := I.tuple hT
    simp only at hc hd
    subst hc hd
    refine wpAny_binaryOp_repeat_ref (T := "tuple") (U := "int") (by decide) ⟨_, ho, rfl⟩ (fun s' => typeIs_int s' 1 t) noFill_tuple_mul F.fills_int_mul F.slot_int_rmul repeat_tuple F.slot_int_index.lookup
      (call_meets F.slot_int_rmul (typeIs_int s 1 t) F.entry_int_rmul (F.args_int_rmul_2 _ _) (int_rmul_tuple 1 t l its.toArray n dd sl)
        ⟨ho, rfl, ⟨_, ho, rfl⟩, call_meets F.slot_tuple_mul ⟨_, ho, rfl⟩ F.entry_tuple_mul (F.args_tuple_mul_2 _ _) (tuple_mul1 l its.toArray n dd sl t) ⟨ho, ?_⟩⟩)
    refine ⟨.ref l, H, I, rfl, q H l (Same.refl H) ?_⟩
    rw [show (List.replicate (1 : Int).toNat xs).flatten = xs by simp]
    exact hT
  · exact op_repT pins s σ H _ _ v u Q I rx ry ⟨l, k, xs, rfl, rfl, hT, hne, by omega, h2, hz, fun p np => q _ p (same_new np) (.inl (.inl upd_same))⟩
end MM

set_option Elab.async false
set_option linter.all false
set_option maxRecDepth 100000
set_option maxHeartbeats 2000000
/-! repr of data, and of the dict without keys -/
namespace MM
open PySem PySem.Spec PyProof.Rows L2
/-- data, or a dict without keys -/
def Dq (K : PySem.W.Frag) (H : Hp) (v : V) (d : PyData) : Prop := (Dp K H v d ∧ SeqAt.shaped d = true) ∨ ∃ a, v = .ref a ∧ H a = some (.dK []) ∧ d = .dict []
def rReprO (K : PySem.W.Frag) : List V → Hp → VK → Prop := fun xs H Q =>
  ∃ x d, xs = [x] ∧ Dq K H x d ∧ d.showable = true ∧ d.shown.length ≤ sizeLine ∧ Q (.str d.shown) H
theorem cr_reprO {X : Cx} (hg : X.A.guards = some []) (hu : X.A.units + 66 < cLine) : CallR X (.builtin "repr") (rReprO X.K) := by
  intro pins s σ H xs us Q I r h
  obtain ⟨x, d, rfl, ⟨hd, hs⟩ | ⟨a, rfl, ha, rfl⟩, hw, hz, q⟩ := h
  · exact cr_repr hg hu pins s σ H _ us Q I r ⟨x, d, rfl, hd, hs, hw, hz, q⟩
  · obtain ⟨u, rfl, ru⟩ := vals1 r
    cases ru
    obtain ⟨_, lo, vs, kv, o, es, n, e1, e2, e3, _, e5, _⟩ := dk_of I.hok ha
    cases kv
    have em : es.toList = [] := List.eq_nil_of_length_eq_zero e5.length
    have rd : Reads s.heap (.ref a) (.dict []) (a :: [] ++ []) := by
      refine Reads.dict e1 e2.1 e3 ?_ ?_
      · rw [em]
        exact .nil
      · rw [em]
        exact .nil
    have ns : sysModules ∉ (a :: [] ++ [] : List Addr) := by
      intro z
      rw [show (a :: [] ++ [] : List Addr) = [a] from rfl, List.mem_singleton] at z
      rw [z, beq_self_eq_true] at lo
      cases lo
    exact repr_of_reads' rd hw (fun _ => ns) hg (Nat.lt_of_le_of_lt (Nat.add_le_add_left (by decide) _) hu) (fun _ _ e => e) (fun h' z tk hk => ⟨.str _, H, I.kept hk, ⟨_, rfl⟩, q⟩) hz
end MM
namespace MM
open PySem PySem.Spec PyProof.Rows L2
/-- a short tuple, many times -/
def rRepW (K : PySem.W.Frag) : R2 := fun x y H Q => ∃ l k xs, x = .ref l ∧ y = .int k ∧ SqT K H l xs ∧ xs ≠ [] ∧ 2 ≤ k ∧ k ≤ 10000 ∧ xs.length ≤ 100 ∧ ∀ p, H p = none → Q (.ref p) (upd H p (.tup (List.replicate k.toNat xs).flatten))
theorem op_repW {X : Cx} : OpR X (binaryOp .Mult) (rRepW X.K) := by
  rintro pins s σ H _ _ v u Q I rx ry ⟨l, k, xs, rfl, rfl, hT, some_, k2, kb, lb, q⟩
  cases rx
  obtain ⟨tok, rfl⟩ := ry
  obtain ⟨vals, r, ⟨⟨cls, dd, data, sl⟩, ho, hc, n, hd⟩, _⟩ := I.tuple hT
  dsimp only at hc hd
  cases hc
  cases hd
  have len : vals.length = xs.length := r.length.symm
  have pos : 0 < vals.length := by
    rw [len]
    exact List.length_pos_iff.mpr some_
  have ie : vals.toArray.isEmpty = false := by
    cases vals with
    | nil => cases pos
    | cons a b => rfl
  have sz : vals.toArray.size = xs.length := by rw [List.size_toArray, len]
  have prod : ((vals.toArray.size : Nat) : Int) * k ≤ 1000000 := by
    rw [sz]
    have : ((xs.length : Nat) : Int) * k ≤ 100 * k := Int.mul_le_mul_of_nonneg_right (by omega) (by omega)
    omega
  have fl : (List.replicate k.toNat vals).flatten.length ≤ sizeLine := by
    rw [PyProof.Rows.lm_len_rep_flat, len, sizeLine_eq]
    have : k.toNat * xs.length ≤ 10000 * 100 := Nat.mul_le_mul (by omega) lb
    omega
  have g0 : (decide (k < -(2 ^ 63)) || decide (k ≥ 2 ^ 63)) = false := by
    rw [Bool.or_eq_false_iff]
    exact ⟨decide_eq_false (by omega), decide_eq_false (by omega)⟩
  have g1 : (vals.toArray.isEmpty || k == 1) = false := by
    rw [Bool.or_eq_false_iff]
    exact ⟨ie, beq_eq_false_iff_ne.mpr (by omega)⟩
  have g2 : (decide (k ≤ 0) || vals.toArray.isEmpty) = false := by
    rw [Bool.or_eq_false_iff]
    exact ⟨decide_eq_false (by omega), ie⟩
  have g3 : Builtin.Tuple.tupleTooMany (((vals.toArray.size : Nat) : Int) * k) = false := by
    unfold Builtin.Tuple.tupleTooMany
    rw [sizeLine_eq]
    exact decide_eq_false (by omega)
  have M := tuple_mulW l vals.toArray n dd sl k tok g0 g1 g2 (by omega) g3 (by rw [size_rep, List.size_toArray]; exact fl)
  have isT : s.TypeIs (.ref l) "tuple" := ⟨_, ho, rfl⟩
  have new : L2.Inv X pins σ (upd H s.heap.objs.size (.tup (List.replicate k.toNat xs).flatten)) { s with heap := s.heap.push { cls := .type "tuple", data := .seq (List.replicate k.toNat vals).flatten.toArray } } := by
    refine I.laid (t' := s.toks) (fun _ _ e => Heap.get?_push_of_some _ e) (Nat.le_refl _) ⟨?_, _, r.rep k.toNat, IsTup.new _ _⟩
    rw [← len] at lb
    rw [PyProof.Rows.lm_len_rep_flat, sizeLine_eq, ← len]
    have : k.toNat * vals.length ≤ 10000 * 100 := Nat.mul_le_mul (by omega) lb
    omega
  refine wpAny_binaryOp_repeat_ref (U := "int") (by decide) isT (fun s' => typeIs_int s' k tok) noFill_tuple_mul F.fills_int_mul
    F.slot_int_rmul repeat_tuple F.slot_int_index.lookup ?_
  refine call_meets F.slot_int_rmul (typeIs_int s k tok) F.entry_int_rmul (F.args_int_rmul_2 _ _)
    (int_rmul_tuple k tok l vals.toArray n dd sl) ⟨ho, rfl, isT, ?_⟩
  refine call_meets F.slot_tuple_mul isT F.entry_tuple_mul (F.args_tuple_mul_2 _ _) M ⟨ho, ?_⟩
  rw [size_rep]
  exact ⟨.ref s.heap.objs.size, _, new, rfl, q _ (I.hok.fresh (Nat.le_refl _))⟩
end MM

set_option Elab.async false
set_option linter.all false
set_option maxRecDepth 100000
set_option maxHeartbeats 8000000
namespace K08
open PySem PySem.Spec PyProof.Rows L2 MM GT LamX
/-! own words for the readings: a step, its side -/
local macro_rules | `(tactic| walk_at "side") => `(tactic| first
  | omega
  | exact ⟨by omega, by omega⟩
  | exact Or.inl ⟨by omega, by omega⟩
  | exact Or.inr ⟨by omega, by omega⟩
  | (show CPw _ _; decide +kernel)
  | (show (0 : Int) < _; decide +kernel)
  | (show CDivW _ _; first | assumption | exact ⟨by decide, by decide +kernel⟩))
local macro_rules | `(tactic| walk_at "here") => `(tactic| first
  | assumption
  | exact upd_same
  | exact Or.inl (Or.inl upd_same)
  | exact Or.inl upd_same)
local macro_rules | `(tactic| walk_at "one") => `(tactic| first
  | refine ⟨_, rfl, ?_⟩
  | refine Or.inl ⟨_, rfl, ?_⟩
  | refine Or.inr ⟨_, rfl, ?_⟩
  | refine ⟨_, _, rfl, rfl, (by walk_at "side"), ?_⟩
  | refine ⟨_, _, rfl, rfl, ?_⟩
  | refine ⟨_, _, rfl, Or.inl (by walk_at "here"), ?_⟩
  | refine ⟨_, _, rfl, Or.inr (by walk_at "here"), ?_⟩
  | refine ⟨_, _, rfl, (by walk_at "here"), ?_⟩
  | refine ⟨_, _, _, _, rfl, rfl, (by walk_at "here"), rfl, ?_⟩
  | refine ⟨_, _, rfl, ?_⟩
  | refine ifT (by rfl) ?_
  | refine ifF (by rfl) ?_
  | refine ifT (decide_eq_true (by omega)) ?_
  | refine ifF (decide_eq_false (by omega)) ?_)
local macro_rules | `(tactic| walk_at "st") => `(tactic| repeat (walk_at "one"))

section
variable {P : Program} {w : World} {K : PySem.W.Frag} {mg : Str → Option Value} {base : Heap}
/-- all but the bag, and the tables of code, stands as before -/
structure Un (p : Addr) (H H' : Hp) : Prop where
  same : ∀ b o, b ≠ p → H b = some o → (∀ ps, o ≠ .tbl ps) → H' b = some o
  bag : BagAt H' p
theorem Un.refl {p : Addr} {H : Hp} (h : BagAt H p) : Un p H H := ⟨fun _ _ _ e _ => e, h⟩
theorem Un.up {p : Addr} {H H1 H2 : Hp} (h : Un p H H1) (k : Upto p H1 H2) : Un p H H2 := ⟨fun b o n e t => k.same b o n (h.same b o n e t), k.bag⟩
theorem Un.ext {p : Addr} {H H1 H2 : Hp} (h : Un p H H1) (k : ExtN H1 H2) : Un p H H2 := ⟨fun b o n e t => k b o (h.same b o n e t) t, by
  obtain ⟨x, y, z, e⟩ := h.bag
  exact ⟨x, y, z, k _ _ e fun _ z => nomatch z⟩⟩
theorem Un.keep {p : Addr} {H H1 H2 : Hp} (h : Un p H H1) (k : Same H1 H2) : Un p H H2 := h.ext (.of k)
theorem Un.trans {p : Addr} {H H1 H2 : Hp} (h : Un p H H1) (k : Un p H1 H2) : Un p H H2 := ⟨fun b o n e t => k.same b o n (h.same b o n e t) t, k.bag⟩
theorem tabs_up {T : List (Addr × Str)} {p : Addr} {H H' : Hp} (h : Tabs T H) (b : BagAt H p) (u : Upto p H H') : Tabs T H' := fun q hq => by
  obtain ⟨x, y, z, eb⟩ := b
  obtain ⟨ps, e, ok, am⟩ := h q hq
  exact ⟨ps, u.same _ _ (fun z => by rw [z, eb] at e; cases e) e, ok, fun pos cv z => by
    obtain ⟨c, e1, e2⟩ := am pos cv z
    exact ⟨c, e1, u.same _ _ (fun z => by rw [z, eb] at e2; cases e2) e2⟩⟩
theorem eqT {H : Hp} {a b : Addr} {m l : List Nat} {Q : VK} (S : SqT K H a (mv m)) (S2 : SqT K H b (mv l)) (q : Q (.bl (decide (m = l))) H) : rEqD K (.ref a) (.ref b) H Q :=
  ⟨dM m, dM l, dp_mv S, dp_mv S2, shaped_dM _, shaped_dM _, by rw [dM_eqv]; exact q⟩
theorem neT {H : Hp} {a b : Addr} {m l : List Nat} {Q : VK} (S : SqT K H a (mv m)) (S2 : SqT K H b (mv l)) (q : Q (.bl (!decide (m = l))) H) : rNeD K (.ref a) (.ref b) H Q :=
  ⟨dM m, dM l, dp_mv S, dp_mv S2, shaped_dM _, shaped_dM _, by rw [dM_eqv]; exact q⟩
theorem wd_ix {n : Nat} {ms F W : List (List Nat)} (h : Wd n ms F W) : ∀ i, i < F.length → ∀ k ∈ at_ W i, k < ms.length := by
  intro i
  induction i using Nat.strongRecOn with
  | ind i ih =>
    intro hi k hk
    rcases Nat.eq_zero_or_pos i with rfl | pos
    · rw [h.zero.2] at hk
      cases hk
    · obtain ⟨j, l, hj, hl, e, _⟩ := h.step i pos hi
      rw [e] at hk
      rcases List.mem_append.mp hk with hk | hk
      · exact ih j hj (by omega) k hk
      · rw [List.mem_singleton.mp hk]
        exact hl
theorem same_found {n : Nat} {ms F W F' W' : List (List Nat)} (h : Wd n ms F W) (f : Full ms F) (h' : Wd n ms F' W') (f' : Full ms F') : ∀ x, x ∈ F ↔ x ∈ F' := fun x => by
  constructor
  · intro hx
    obtain ⟨j, hj, rfl⟩ := mem_at hx
    exact h.sub (by rw [← h'.zero.1]; exact at_mem h'.one) f' j hj
  · intro hx
    obtain ⟨j, hj, rfl⟩ := mem_at hx
    exact h'.sub (by rw [← h.zero.1]; exact at_mem h.one) f j hj
theorem grp_mk {a x dx : Addr} {n : Nat} {us : List V} {ms : List (List Nat)} {H : Hp} {R : Hp → Prop} {E : XK} (nx : H x = none) (nd : H dx = none) (ne : dx ≠ x) (S : SqT K H a us) (mr : MR H us ms) (ok : GrpOk n ms) (tabs : Tabs (TL K) H)
    (q : ∀ H' F W M, ExtN H H' → Tabs (TL K) H' → GRP K H' x n ms F W M → R H') :
    spGrpInit K (.ref x :: ([.int (n : Int), .ref a] ++ [])) (upd (upd H dx (.own x)) x (.ins (cA K "Group") dx [])) (fun v H2 => v = .non ∧ R H2) E := by
  have sm : Same H (upd (upd H dx (.own x)) x (.ins (cA K "Group") dx [])) := fun b o e => by
    rw [upd_ne (ne_of_none e nx), upd_ne (ne_of_none e nd)]
    exact e
  exact ⟨x, dx, a, n, us, ms, rfl, upd_same, same_sqt sm S, mr.same sm, ok, tabs_same tabs sm, fun H' F W M lk g tabs' => ⟨rfl, q H' F W M (fun b o e t => lk b o (fun z => by rw [z, nx] at e; cases e) (sm _ _ e) t) tabs' g⟩⟩
theorem cut_take (xs : List V) (k : Nat) : cutV xs none (some (k : Int)) = xs.take k := by
  unfold cutV
  rw [HT.sIx_none, show HT.sIx xs.length xs.length (some (k : Int)) = min k xs.length from HT.sIx_nat _ _ k, List.drop_zero, Nat.sub_zero]
  by_cases c : k ≤ xs.length
  · rw [Nat.min_eq_left c]
  · rw [Nat.min_eq_right (by omega), List.take_of_length_le (Nat.le_refl _), List.take_of_length_le (by omega)]
theorem pe_ev {n : Nat} {ms : List (List Nat)} (pm : ∀ m ∈ ms, Pm n m) : ∀ (w : List Nat), (∀ k ∈ w, k < ms.length) → Pm n (ev n ms w) := by
  intro w hw
  have : ∀ (w : List Nat) (x : List Nat), (∀ k ∈ w, k < ms.length) → Pm n x → Pm n (w.foldl (fun x k => comp x (at_ ms k)) x) := by
    intro w
    induction w with
    | nil => exact fun _ _ h => h
    | cons k w ih => exact fun x hw hx => ih _ (fun q hq => hw q (List.mem_cons_of_mem _ hq)) (hx.comp (pm _ (at_mem (hw k List.mem_cons_self))))
  exact this w _ hw (pm_unit n)
theorem ev_app {n : Nat} {ms : List (List Nat)} (pm : ∀ m ∈ ms, Pm n m) (w v : List Nat) (hw : ∀ k ∈ w, k < ms.length) (hv : ∀ k ∈ v, k < ms.length) : ev n ms (w ++ v) = comp (ev n ms w) (ev n ms v) := by
  have key : ∀ i, i ≤ v.length → ev n ms (w ++ v.take i) = comp (ev n ms w) (ev n ms (v.take i)) := by
    intro i
    induction i with
    | zero =>
      intro _
      rw [List.take_zero, List.append_nil]
      show _ = comp _ (List.range n)
      rw [comp_unit (pe_ev pm w hw).len]
    | succ i ih =>
      intro hi
      have exk : v[i]? = some (v.getD i 0) := by rw [GT.gD (by omega)]; exact List.getElem?_eq_getElem _
      have hk := hv _ (GT.getD_mem (m := v) (k := i) (by omega))
      rw [List.take_add_one, exk]
      show ev n ms (w ++ (v.take i ++ [v.getD i 0])) = comp _ (ev n ms (v.take i ++ [v.getD i 0]))
      have pv := pe_ev pm (v.take i) fun k hk => hv k (List.mem_of_mem_take hk)
      rw [← List.append_assoc, ev_snoc, ev_snoc, ih (by omega), comp_assoc (by rw [pv.len]; exact (pm _ (at_mem hk)).lt)]
  have := key v.length (Nat.le_refl _)
  rwa [List.take_of_length_le (Nat.le_refl _)] at this
theorem cat_any {H : Hp} {a b : Addr} {xs ys : List V} {Q : VK} (ha : SqT K H a xs) (hb : SqT K H b ys) (len : xs.length + ys.length ≤ sizeLine) (q : ∀ H' p, Same H H' → SqT K H' p (xs ++ ys) → Q (.ref p) H') : rCatA K (.ref a) (.ref b) H Q :=
  ⟨a, b, xs, ys, rfl, rfl, ha, hb, len, fun e => q H b (Same.refl H) (by rw [e]; exact hb), fun _ e => q H a (Same.refl H) (by rw [e, List.append_nil]; exact ha), fun _ _ p np => q _ p (same_new np) (.inl (.inl upd_same))⟩
theorem rep_mv (k : Nat) : (List.replicate k [V.int 0]).flatten = mv (List.replicate k 0) := by
  induction k with
  | zero => rfl
  | succ k ih =>
    rw [List.replicate_succ, List.replicate_succ, List.flatten_cons, ih]
    rfl
def spWordsRight (K : PySem.W.Frag) : Sp := fun vs H Q _ => ∃ (p : Addr), vs = [.ref p] ∧ BagAt H p ∧ Tabs (TL K) H ∧ ∀ H', Un p H H' → Tabs (TL K) H' → Q (.bl true) H'
theorem scWordsRightL : FnScope ["_law_bag_here", "_law_places", "_law_makers", "_law_group", "_law_moves", "_law_move", "_law_word", "_law_one", "_law_other", "_law_turn", "_law_part", "_law_due"] ["_law_bag_here"] (defScope sWordsRightL) :=
  ⟨rfl, rfl, rfl, by decide +kernel, rfl, by decide +kernel, by decide +kernel⟩
theorem dWordsRightL (T : Tx K mg) (Y : Ex K mg) (DGroupDrawnL : Def P w K mg base CX0 3 "_law_group_drawn" ["_law_bag_here", "_law_most"] (spDrawn K)) (DLotMadeL : Def P w K mg base CX0 2 "_law_lot_made" ["_law_places", "_law_makers"] (spMade K)) (DMixedL : Def P w K mg base CX0 2 "_law_mixed" ["_law_bag_here", "_law_items"] (spMixed K)) (DToldByL : Def P w K mg base CX0 2 "_law_told_by" ["_law_places", "_law_makers", "_law_word"] (spToldBy K)) (DIsWordL : Def P w K mg base CX0 1 "_law_is_word" ["_law_makers", "_law_word", "_law_most"] (spIsWord K)) (DGrabL : Def P w K mg base CX0 1 "_law_grab" ["_law_bag_here", "_law_total"] spGrab) (DLotTimesL : Def P w K mg base CX0 1 "_law_lot_times" ["_law_one", "_law_other"] (spComp K)) (FGroupInit : FAt P w K mg base CX0 7 (mA K (cA K "Group") "__init__") ["self", "places", "makers"] (spGrpInit K)) (FGroupWord : FAt P w K mg base CX0 8 (mA K (cA K "Group") "word") ["self", "move"] (spWord K)) (FGroupOfWord : FAt P w K mg base CX0 4 (mA K (cA K "Group") "of_word") ["self", "word"] (spOfWord K)) : Def P w K mg base CX0 10 "_law_words_right" ["_law_bag_here"] (spWordsRight K) := by
  refine T.t_law_words_right.def_ (N := ["_law_bag_here", "_law_places", "_law_makers", "_law_group", "_law_moves", "_law_move", "_law_word", "_law_one", "_law_other", "_law_turn", "_law_part", "_law_due"]) scWordsRightL (fun _ _ _ _ _ _ us hl => match us, hl with | [_], _ => rfl) ?_ ?_
  · intro vs H Q E h
    obtain ⟨p, rfl, _⟩ := h
    rfl
  · intro f cd A out s H vs Q E hr h
    have hr1 : Rm 9 _ := hr.le (by decide)
    obtain ⟨p, rfl, hb, tabs, q⟩ := h
    refine ⟨_, (pss_cons (ps_asg (pe_d DGroupDrawnL (hr1.le (by decide)) pass0 (pa_cons (pv 0) (pa_cons pe_int pa_nil))) (pg_tup rfl (pgs_cons (pg_name (i := 1) scWordsRightL.nd rfl (Or.inl rfl)) (pgs_cons (pg_name (i := 2) scWordsRightL.nd rfl (Or.inr rfl)) pgs_nil))))
      (pss_cons (ps_par (i := 3) (j := 4) rfl scWordsRightL.nd rfl rfl (by decide) rfl rfl (pa_cons (pe_makeG Y.uGroup FGroupInit (hr1.le (by decide)) Y.gGroup pass0 (pa_cons (pv 1) (pa_cons (pv 2) pa_nil))) (pa_cons (pe_d DLotMadeL (hr1.le (by decide)) pass0 (pa_cons (pv 1) (pa_cons (pv 2) pa_nil))) pa_nil)) (by rfl))
      (pss_cons (ps_for PassesOwn.never rfl (pi_list (pe_op op_cat (pe_slice sl_list (pe_d DMixedL (hr1.le (by decide)) pass0 (pa_cons (pv 0) (pa_cons (pv 4) pa_nil))) po_none (po_some pe_int)) (pe_lst (pa_cons (pe_tupRg rfl rfl T.f_tuple (prg_1 rfl T.f_range (pv 1))) pa_nil)))) (pg_name (i := 5) scWordsRightL.nd rfl (Or.inl rfl))
        (pss_cons (ps_set (i := 6) scWordsRightL.nd rfl (Or.inl rfl) (pe_methG (pv 3) Y.kGroup Y.mGroupWord FGroupWord (hr1.le (by decide)) pass0 (pa_cons (pv 5) pa_nil)))
        (pss_one (ps_if (PW.pt (pw_or (pt_not (pt_val (pe_d DIsWordL (hr1.le (by decide)) pass0 (pa_cons (pv 2) (pa_cons (pv 6) (pa_cons pe_int pa_nil)))))) (pw_or (pt_cmpR (op_neD hr.hu) (pe_d DToldByL (hr1.le (by decide)) pass0 (pa_cons (pv 1) (pa_cons (pv 2) (pa_cons (pv 6) pa_nil)))) (pv 5) (nomark _)) (pw_or1 (pt_cmpR (op_neD hr.hu) (pe_methG (pv 3) Y.kGroup Y.mGroupOfWord FGroupOfWord (hr1.le (by decide)) pass0 (pa_cons (pv 6) pa_nil)) (pv 5) (nomark _)))))) (pss_one (ps_ret pe_bl)) pss_nil))))
      (pss_cons (ps_if (pt_cmpR (op_eqD hr.hu) (pv 2) (pe_tup pa_nil) (nomark _)) (pss_one (ps_ret (pe_or (pe_cmpR (op_eqD hr.hu) (pe_methG (pv 3) Y.kGroup Y.mGroupOfWord FGroupOfWord (hr1.le (by decide)) pass0 (pa_cons (pe_tup pa_nil) pa_nil)) (pe_op op_repV (pe_tup (pa_cons pe_int pa_nil)) (pv 1)) (nomark _)) (pe_one (pe_cmpR op_gt (pv 1) pe_int (nomark _)))))) pss_nil)
      (pss_cons (ps_asg (pe_lc (own := [("_law_part", 10)]) (g := gName 10) (tt := tYes) rfl scWordsRightL.nd (pi_range1 rfl T.f_range (pa_cons pe_int pa_nil)) (blkOk_by (N := ["_law_bag_here", "_law_places", "_law_makers", "_law_group", "_law_moves", "_law_move", "_law_word", "_law_one", "_law_other", "_law_turn", "_law_part", "_law_due"]) (sc := defScope sWordsRightL) (by decide +kernel)) (fun _ _ _ _ _ => pg_name (i := 10) scWordsRightL.nd rfl (Or.inl rfl)) (fun _ _ _ _ _ => pts_nil) (fun _ _ _ _ _ => (pe_callTy (show CallR _ _ (rTupOf K) from call_tuple_of) rfl T.f_tuple (by decide +kernel) (pa_cons (pe_lc (own := [("_law_turn", 9)]) (g := gName 9) (tt := tYes) rfl scWordsRightL.nd (pi_range1 rfl T.f_range (pa_cons (pe_d DGrabL (hr1.le (by decide)) pass0 (pa_cons (pv 0) (pa_cons pe_int pa_nil))) pa_nil)) (blkOk_by (N := ["_law_bag_here", "_law_places", "_law_makers", "_law_group", "_law_moves", "_law_move", "_law_word", "_law_one", "_law_other", "_law_turn", "_law_part", "_law_due"]) (sc := _) (by kernel_rfl)) (fun _ _ _ _ _ => pg_name (i := 9) scWordsRightL.nd rfl (Or.inl rfl)) (fun _ _ _ _ _ => pts_nil) (fun _ _ _ _ _ => (pe_d DGrabL (hr1.le (by decide)) pass0 (pa_cons (pv 0) (pa_cons (pe_callB (cr_lenK (K := K) rfl) rfl T.f_len (by decide +kernel) (pa_cons (pv 2) pa_nil)) pa_nil))))) pa_nil)))) (pg_lst rfl (pgs_cons (pg_name (i := 7) scWordsRightL.nd rfl (Or.inl rfl)) (pgs_cons (pg_name (i := 8) scWordsRightL.nd rfl (Or.inl rfl)) pgs_nil))))
      (pss_cons (ps_if (pt_cmpR (op_neD hr.hu) (pe_methG (pv 3) Y.kGroup Y.mGroupOfWord FGroupOfWord (hr1.le (by decide)) pass0 (pa_cons (pv 7) pa_nil)) (pe_d DToldByL (hr1.le (by decide)) pass0 (pa_cons (pv 1) (pa_cons (pv 2) (pa_cons (pv 7) pa_nil)))) (nomark _)) (pss_one (ps_ret pe_bl)) pss_nil)
      (pss_cons (ps_set (i := 11) scWordsRightL.nd rfl (Or.inl rfl) (pe_d DLotTimesL (hr1.le (by decide)) pass0 (pa_cons (pe_d DToldByL (hr1.le (by decide)) pass0 (pa_cons (pv 1) (pa_cons (pv 2) (pa_cons (pv 7) pa_nil)))) (pa_cons (pe_d DToldByL (hr1.le (by decide)) pass0 (pa_cons (pv 1) (pa_cons (pv 2) (pa_cons (pv 8) pa_nil)))) pa_nil))))
      (pss_cons (ps_if (pt_cmpR (op_neD hr.hu) (pe_methG (pv 3) Y.kGroup Y.mGroupOfWord FGroupOfWord (hr1.le (by decide)) pass0 (pa_cons (pe_op op_catA (pv 7) (pv 8)) pa_nil)) (pv 11) (nomark _)) (pss_one (ps_ret pe_bl)) pss_nil)
      (pss_one (ps_ret (pe_cmpR (op_eqD hr.hu) (pe_methG (pv 3) Y.kGroup Y.mGroupOfWord FGroupOfWord (hr1.le (by decide)) pass0 (pa_cons (pe_op op_repW (pe_tup (pa_cons pe_int pa_nil)) pe_int) pa_nil)) (pe_d DToldByL (hr1.le (by decide)) pass0 (pa_cons (pv 1) (pa_cons (pv 2) (pa_cons (pe_op op_repW (pe_tup (pa_cons pe_int pa_nil)) pe_int) pa_nil)))) (nomark _)))))))))))), ?_⟩
    refine ⟨_, rfl, p, 24, rfl, hb, by decide, fun H1 t a us b z n ms up1 nt ht ha mr dr => ?_⟩
    have un1 := (Un.refl hb).up up1
    have tabs1 := tabs_up tabs hb up1
    refine ⟨t, _, rfl, .inl (.inl ht), rfl, _, _, rfl, ?_⟩
    refine ⟨_, _, rfl, rfl, ?_⟩
    have ok := dr.ok
    have pm := dr.pm
    have ⟨n1, n24, m6, _, G, hG, sub, lG, fG⟩ := ok
    refine ⟨_, rfl, _, rfl, fun g gd ng nd ne => ?_⟩
    refine grp_mk (a := a) (n := n) (us := us) (ms := ms) ng nd ne (.inl (.inl ha)) mr ok tabs1 fun H2 F W M e2 tabs2 G2 => ?_
    have un2 := un1.ext e2
    have ha2 := e2 _ _ ha fun _ z => nomatch z
    have mr2 := Kp.mr (.ext e2) mr
    have uG : List.range n ∈ G := by rw [← hG.one]; exact at_mem hG.pos
    refine ⟨_, rfl, _, rfl, n, a, us, ms, G, rfl, .inl (.inl ha2), mr2, pm, n1, n24, m6, uG, fun x hx k hk => hG.mul x hx _ (sub _ (at_mem hk)), by omega, fun H3 tm ums M' F' W' s3 ntm htm mM' wd' full' pM' asc' => ?_⟩
    refine ⟨_, _, rfl, ?_⟩
    have gi := G2.1
    have sf := same_found gi.wd gi.full wd' full'
    have inM : ∀ m, m ∈ M' → m ∈ M := fun m hm => (gi.mf m).mpr ((sf m).mpr (pM'.mem_iff.mp hm))
    have few := gi.few
    have lM' : M'.length ≤ 60 := by
      rw [pM'.length_eq]
      have := sub_len wd'.nd fun x hx => (gi.mf x).mpr ((sf x).mpr hx)
      omega
    have lums := mr_len mM'
    have un3 := un2.keep s3
    have tabs3 := tabs_same tabs2 s3
    have G3 := Kp.grp (.of s3) G2
    have tmp : tm ≠ p := by
      obtain ⟨x, y, z, e⟩ := un2.bag
      exact bag_ne e ntm
    refine ⟨_, rfl, _, rfl, p, tm, ums, rfl, un3.bag, .inr (.inl (.inl htm)), tmp, by omega, fun H4 l ys up4 nl pys hl => ?_⟩
    have tabs4 := tabs_up tabs3 un3.bag up4
    have k4 := Kp.up un3.bag up4
    have G4 := Kp.grp k4 G3
    have un4 := un3.up up4
    obtain ⟨Ms, pMs, mMs⟩ := pr_perm pys.symm (Kp.mr k4 mM')
    refine ⟨9, rfl, l, ys, rfl, lst_sql' hl, fun l2 nl2 => ?_⟩
    rw [show cutV ys none (some 9) = ys.take 9 from cut_take ys 9]
    have k5 := same_new (o := .lst (ys.take 9)) nl2
    have hl2 : (upd H4 l2 (.lst (ys.take 9))) l2 = some (.lst (ys.take 9)) := upd_same
    generalize upd H4 l2 _ = H5 at k5 hl2 ⊢
    refine ⟨_, rfl, n, rfl, ⟨by omega, by omega, by omega, by omega, by omega⟩, fun tu ntu => ?_⟩
    rw [rg_mv]
    have k6 := same_new (o := .tup (mv (List.range n))) ntu
    have htu : (upd H5 tu (.tup (mv (List.range n)))) tu = some (.tup (mv (List.range n))) := upd_same
    generalize upd H5 tu _ = H6 at k6 htu ⊢
    refine ⟨by show 1 ≤ sizeLine; decide, fun l3 nl3 => ?_⟩
    have k7 := same_new (o := .lst [.ref tu]) nl3
    have hl3 : (upd H6 l3 (.lst [.ref tu])) l3 = some (.lst [.ref tu]) := upd_same
    generalize upd H6 l3 _ = H7 at k7 hl3 ⊢
    have lys := pr_len mMs
    have lt9 := List.length_take_le 9 ys
    refine ⟨l2, l3, ys.take 9, [.ref tu], rfl, rfl, k7 _ _ (k6 _ _ hl2), hl3, by rw [sizeLine_eq]; show (ys.take 9).length + 1 ≤ _; omega, fun l4 nl4 => ?_⟩
    have k8 := same_new (o := .lst (ys.take 9 ++ [.ref tu])) nl4
    have hl4 : (upd H7 l4 (.lst (ys.take 9 ++ [.ref tu]))) l4 = some (.lst (ys.take 9 ++ [.ref tu])) := upd_same
    have s8 := ((k5.trans k6).trans k7).trans k8
    have htu8 := k8 _ _ (k7 _ _ htu)
    generalize upd H7 l4 _ = H8 at k8 hl4 s8 htu8 ⊢
    have un8 := un4.keep s8
    have tabs8 := tabs_same tabs4 s8
    have G8 := Kp.grp (.of s8) G4
    have ha8 : H8 a = some (.tup us) := s8 _ _ (Kp.tup k4 (s3 _ _ ha2))
    have mr8 := (Kp.mr k4 (mr2.same s3)).same s8
    have items : ∀ v ∈ ys.take 9 ++ [V.ref tu], ∃ b m, v = .ref b ∧ H8 b = some (.tup (mv m)) ∧ m ∈ M := fun v hv => by
      rcases List.mem_append.mp hv with hv | hv
      · obtain ⟨i, hi⟩ := List.getElem?_of_mem (List.mem_of_mem_take hv)
        obtain ⟨m, hm, b, e, hb⟩ := pr_at mMs hi
        exact ⟨b, m, e, s8 _ _ hb, inM m (pMs.mem_iff.mp (List.mem_of_getElem? hm))⟩
      · refine ⟨tu, List.range n, List.mem_singleton.mp hv, htu8, ?_⟩
        rw [← gi.mvs.one]
        exact at_mem gi.mvs.pos
    generalize ys.take 9 ++ [V.ref tu] = vs8 at hl4 items
    clear k5 k6 k7 k8 hl2 hl3 htu mMs pMs pys hl nl lt9 lys nl4 ntu nl3 nl2 htu8 s3 G2 G3 G4 un1 un2 un3 un4 tabs1 tabs2 tabs3 tabs4
    have ⟨_, gdx, gmk, gd', gmo, gl, gus, gmus, gkvs, hg, _⟩ := G8
    refine ⟨l4, rfl, ⟨_, lst_sql' hl4⟩, for_list (K := K) (a := l4) (xs := vs8) (fun i σ H' => Same H8 H' ∧ ∃ y5 y6, σ = [some (.ref p), some (.int (n : Int)), some (.ref a), some (.ref g), some (.ref tm), y5, y6, none, none, none, none, none]) ⟨Same.refl H8, none, none, rfl⟩ (fun i σ H' _ e => lst_sql' (e.1 _ _ hl4)) ?_ ?_⟩
    · rintro i v σ H9 hv ⟨s9, y5, y6, rfl⟩
      obtain ⟨b, m, rfl, hbm, hmM⟩ := items v (List.mem_of_getElem? hv)
      refine ⟨_, rfl, g, _, _, rfl, s9 _ _ hg, rfl, _, rfl, g, b, n, ms, F, W, M, m, rfl, Kp.grp (.of s9) G8, s9 _ _ hbm, hmM, fun H10 t10 j s10 hj ej ht10 => ?_⟩
      have wl := gi.wd.wlen j hj
      have wx := wd_ix gi.wd j hj
      have we := gi.wd.ev j hj
      have lF : F.length ≤ 60 := by rw [← gi.len]; exact few
      rw [ej] at we
      have s10' := s9.trans s10
      refine ⟨_, rfl, _, rfl, a, t10, us, at_ W j, 119, rfl, .inl (.inl (s10' _ _ ha8)), .inl (.inl ht10), by omega, by decide, fun k hk => by rw [mr_len mr8]; exact wx k hk, fun H11 s11 => ?_⟩
      refine ⟨_, rfl, ?_⟩
      refine ifF rfl ?_
      have s11' := s10'.trans s11
      have ht11 := s11 _ _ ht10
      refine ⟨_, rfl, _, rfl, _, rfl, n, a, t10, us, ms, at_ W j, rfl, .inl (.inl (s11' _ _ ha8)), mr8.same s11', pm, n1, n24, .inl (.inl ht11), wx, fun H12 r s12 hr => ?_⟩
      have s12' := s11'.trans s12
      refine ⟨_, rfl, neT (.inl (.inl hr)) (.inl (.inl (s12' _ _ hbm))) ?_⟩
      rw [decide_eq_true we.symm]
      refine ⟨_, rfl, ?_⟩
      refine ifF rfl ?_
      refine ⟨_, rfl, g, _, _, rfl, s12' _ _ hg, rfl, _, rfl, g, t10, n, ms, F, W, M, at_ W j, rfl, Kp.grp (.of s12') G8, .inl (.inl (s12 _ _ ht11)), by omega, wx, fun H13 r2 s13 hr2 => ?_⟩
      have s13' := s12'.trans s13
      refine ⟨_, rfl, neT (.inl (.inl hr2)) (.inl (.inl (s13' _ _ hbm))) ?_⟩
      rw [decide_eq_true we.symm]
      refine ⟨_, rfl, ?_⟩
      refine ifF rfl ?_
      exact ⟨s13', _, _, rfl⟩
    · rintro σ H9 ⟨s9, y5, y6, rfl⟩
      have un9 := un8.keep s9
      have tabs9 := tabs_same tabs8 s9
      have G9 := Kp.grp (.of s9) G8
      have ha9 := s9 _ _ ha8
      have mr9 := mr8.same s9
      have hg9 := s9 _ _ hg
      have lus := mr_len mr8
      clear hl4 items
      refine ⟨_, rfl, by show 0 ≤ sizeLine; decide, fun e ne9 => ?_⟩
      have k10 := same_new (o := .tup []) ne9
      have he : (upd H9 e (.tup [])) e = some (.tup []) := upd_same
      generalize upd H9 e _ = H10 at k10 he ⊢
      refine ⟨dMs ms, dMs [], dp_mr (.inl (.inl (k10 _ _ ha9))) (mr9.same k10), dp_mr (us := []) (.inl (.inl he)) .nil, shaped_dMs _, shaped_dMs _, ?_⟩
      rw [dMs_eqv]
      refine ⟨_, rfl, ?_⟩
      by_cases c : ms = []
      · refine ifT (decide_eq_true c) ?_
        have s10 := k10
        have G10 := Kp.grp (.of s10) G9
        have hg10 := s10 _ _ hg9
        have un10 := un9.keep s10
        have tabs10 := tabs_same tabs9 s10
        have en : n = 1 := by
          subst c
          exact dr.none
        refine ⟨_, rfl, g, _, _, rfl, hg10, rfl, by show 0 ≤ sizeLine; decide, fun e2 nE2 => ?_⟩
        have k11 := same_new (o := .tup []) nE2
        refine ⟨g, e2, n, ms, F, W, M, [], rfl, Kp.grp (.of k11) G10, .inl (.inl upd_same), by decide, fun k hk => (by cases hk), fun H12 r s12 hr => ?_⟩
        refine ⟨by show 1 ≤ sizeLine; decide, fun t0 nt0 => ?_⟩
        have k13 := same_new (o := .tup [.int 0]) nt0
        refine ⟨_, rfl, t0, (n : Int), [.int 0], rfl, rfl, .inl (.inl upd_same), (by intro z; cases z), by omega, by omega, by decide, fun H14 r2 s14 hr2 => ?_⟩
        subst en
        refine eqT (m := List.range 1) (l := [0]) (.inl (.inl (s14 _ _ (k13 _ _ hr)))) hr2 ?_
        have sA := ((k11.trans s12).trans k13).trans s14
        exact ⟨true, rfl, ifT rfl (q _ (un10.keep sA) (tabs_same tabs10 sA))⟩
      · refine ifF (decide_eq_false c) ?_
        have s10 := k10
        have G10 := Kp.grp (.of s10) G9
        have un10 := un9.keep s10
        have tabs10 := tabs_same tabs9 s10
        have ha10 := s10 _ _ ha9
        have mr10 := mr9.same s10
        have lm0 : 0 < ms.length := List.length_pos_iff.mpr c
        clear he k10 s9 G9 un9 tabs9 hg9 mr9 ha9
        refine ⟨2, rfl, by omega, by omega, fun D nD => ?_⟩
        obtain ⟨Dp, nDH⟩ := (Upto.refl un10.bag).free nD
        let W2 : Hp → V → Prop := fun H' v => ∃ (t : Addr) (wd : List Nat), v = .ref t ∧ H' t = some (.tup (mv wd)) ∧ wd.length ≤ 12 ∧ ∀ k ∈ wd, k < ms.length
        have W2s : ∀ {G G' : Hp} {v : V}, Kp G G' → W2 G v → W2 G' v := fun s ⟨t, wd, e, h, r⟩ => ⟨t, wd, e, Kp.tup s h, r⟩
        refine lc_range (Pv := fun i H' => Upto p H10 H' ∧ ∃ acc, H' D = some (.lst acc) ∧ acc.length = i ∧ ∀ v ∈ acc, W2 H' v) ⟨(Upto.refl un10.bag).new nD, [], upd_same, rfl, fun _ h => by cases h⟩ ?_ ?_
        · rintro i H11 hi ⟨up11, acc, hD, lacc, hacc⟩
          refine ⟨wipe_one, yes_ ?_⟩
          obtain ⟨c1, c2, c3, ec⟩ := up11.bag
          refine ⟨_, rfl, p, 12, c1, c2, c3, rfl, ec, ⟨by decide, by decide⟩, fun k g' m' c' k0 k1 => ?_⟩
          have up12 := up11.draw (a := g') (b := m') (c := c')
          have hD12 := (upd_ne (o := .lst [.int g', .int m', .int c']) Dp).trans hD
          have hacc12 : ∀ v ∈ acc, W2 (upd H11 p (.lst [.int g', .int m', .int c'])) v := fun v hv => W2s (Kp.up up11.bag (Upto.refl up11.bag).draw) (hacc v hv)
          generalize upd H11 p _ = H12 at up12 hD12 hacc12 ⊢
          refine ⟨k, rfl, by omega, by omega, fun D2 nD2 => ?_⟩
          obtain ⟨D2p, nD2H⟩ := up12.free nD2
          have DD : D2 ≠ D := (ne_of_none hD12 nD2).symm
          refine lc_range (Pv := fun j H' => Upto p H12 H' ∧ ∃ wd : List Nat, H' D2 = some (.lst (mv wd)) ∧ wd.length = j ∧ ∀ k ∈ wd, k < ms.length) ⟨(Upto.refl up12.bag).new nD2, [], upd_same, rfl, fun _ h => by cases h⟩ ?_ ?_
          · rintro j H13 hj ⟨up13, wd, hD2, lwd, hwd⟩
            refine ⟨wipe_one, yes_ ?_⟩
            obtain ⟨d1, d2, d3, ed⟩ := up13.bag
            have ha13 := up13.same _ _ (fun z => by obtain ⟨x, y, z', e⟩ := un10.bag; rw [z, e] at ha10; cases ha10) (up12.same _ _ (fun z => by obtain ⟨x, y, z', e⟩ := un10.bag; rw [z, e] at ha10; cases ha10) ha10)
            refine ⟨_, rfl, _, rfl, a, us, rfl, .inr (.inl (.inl ha13)), p, (us.length : Int), d1, d2, d3, rfl, ed, div_small (by omega) (by omega), fun r g2 m2 c2 r0 r1 => ?_⟩
            obtain ⟨r, rfl⟩ : ∃ u : Nat, r = (u : Int) := ⟨r.toNat, by omega⟩
            have lwd2 := mv_len wd
            refine ⟨mv wd, (upd_ne D2p).trans hD2, by rw [sizeLine_eq]; omega, (up13.draw).put D2p nD2, wd ++ [r], ?_, by rw [List.length_append, lwd]; rfl, fun k hk => ?_⟩
            · rw [upd_same]
              unfold mv
              rw [List.map_append]
              rfl
            · rcases List.mem_append.mp hk with hk | hk
              · exact hwd k hk
              · rw [List.mem_singleton.mp hk]
                omega
          · rintro H13 ⟨up13, wd, hD2, lwd, hwd⟩
            have k14 := fun (t : Addr) (nt : H13 t = none) => same_new (o := .tup (mv wd)) nt
            refine ⟨D2, mv wd, rfl, .inl ⟨lst_sql' hD2, fun t nt => ?_⟩⟩
            have k14 := same_new (o := .tup (mv wd)) nt
            have ht : (upd H13 t (.tup (mv wd))) t = some (.tup (mv wd)) := upd_same
            have up14 := (up12.trans up13).keep k14
            have hD14 := k14 _ _ (up13.same _ _ Dp hD12)
            have hacc14 : ∀ v ∈ acc, W2 (upd H13 t (.tup (mv wd))) v := fun v hv => W2s (.of k14) (W2s (Kp.up up12.bag up13) (hacc12 v hv))
            generalize upd H13 t _ = H14 at k14 ht up14 hD14 hacc14 ⊢
            have w2u : ∀ {v : V} {o : HO}, W2 H14 v → W2 (upd H14 D o) v := fun ⟨t, wd, e, h, r⟩ => ⟨t, wd, e, (upd_ne (ne_of h hD14 fun z => nomatch z)).trans h, r⟩
            refine ⟨acc, hD14, by rw [sizeLine_eq]; omega, up14.put Dp nDH, acc ++ [.ref t], upd_same, by rw [List.length_append, lacc]; rfl, fun v hv => ?_⟩
            rcases List.mem_append.mp hv with hv | hv
            · exact w2u (hacc14 v hv)
            · rw [List.mem_singleton.mp hv]
              exact w2u ⟨t, wd, rfl, ht, by omega, hwd⟩
        · rintro H11 ⟨up11, acc, hD, lacc, hacc⟩
          obtain ⟨x, y, rfl⟩ : ∃ x y, acc = [x, y] := by
            match acc, lacc with
            | [x, y], _ => exact ⟨x, y, rfl⟩
          obtain ⟨t1, w1, rfl, ht1, l1, lt1⟩ := hacc _ List.mem_cons_self
          obtain ⟨t2, w2, rfl, ht2, l2', lt2⟩ := hacc _ (List.mem_cons_of_mem _ List.mem_cons_self)
          have un11 := un10.up up11
          have tabs11 := tabs_up tabs10 un10.bag up11
          have k11 := Kp.up un10.bag up11
          have G11 := Kp.grp k11 G10
          have ha11 := Kp.tup k11 ha10
          have mr11 := Kp.mr k11 mr10
          clear hacc lacc up11
          have hg11 : ∃ gdx gfs, H11 g = some (.ins (cA K "Group") gdx gfs) ∧ gfs.lookup ("of_word" : Str) = none := by
            obtain ⟨_, gdx, gmk, gd', gmo, gl, gus, gmus, gkvs, hg, _⟩ := G11
            exact ⟨_, _, hg, rfl⟩
          obtain ⟨gdx, gfs, hg11, glk⟩ := hg11
          refine ⟨D, _, rfl, lst_sql' hD, rfl, _, _, rfl, ?_⟩
          refine ⟨_, _, rfl, rfl, ?_⟩
          -- one
          refine ⟨_, rfl, g, _, _, rfl, hg11, glk, _, rfl, g, t1, n, ms, F, W, M, w1, rfl, G11, .inl (.inl ht1), by omega, lt1, fun H12 r1 s12 hr1 => ?_⟩
          refine ⟨_, rfl, _, rfl, _, rfl, n, a, t1, us, ms, w1, rfl, .inl (.inl (s12 _ _ ha11)), mr11.same s12, pm, n1, n24, .inl (.inl (s12 _ _ ht1)), lt1, fun H13 r2 s13 hr2 => ?_⟩
          refine neT (.inl (.inl (s13 _ _ hr1))) (.inl (.inl hr2)) ?_
          rw [decide_eq_true rfl]
          refine ⟨_, rfl, ?_⟩
          refine ifF rfl ?_
          have s13' := s12.trans s13
          -- due
          refine ⟨_, rfl, _, rfl, _, rfl, n, a, t1, us, ms, w1, rfl, .inl (.inl (s13' _ _ ha11)), mr11.same s13', pm, n1, n24, .inl (.inl (s13' _ _ ht1)), lt1, fun H14 r3 s14 hr3 => ?_⟩
          have s14' := s13'.trans s14
          refine ⟨_, rfl, _, rfl, _, rfl, n, a, t2, us, ms, w2, rfl, .inl (.inl (s14' _ _ ha11)), mr11.same s14', pm, n1, n24, .inl (.inl (s14' _ _ ht2)), lt2, fun H15 r4 s15 hr4 => ?_⟩
          have s15' := s14'.trans s15
          have p1 := pe_ev pm w1 lt1
          have p2 := pe_ev pm w2 lt2
          refine ⟨r3, r4, ev n ms w1, ev n ms w2, rfl, .inl (.inl (s15 _ _ hr3)), .inl (.inl hr4), by rw [p2.len]; omega, by rw [p1.len]; exact p2.lt, fun H16 du s16 hdu => ?_⟩
          have s16' := s15'.trans s16
          -- both
          refine ⟨_, rfl, g, _, _, rfl, s16' _ _ hg11, glk, _, rfl, _, rfl, cat_any (.inl (.inl (s16' _ _ ht1))) (.inl (.inl (s16' _ _ ht2))) (by rw [mv_len, mv_len, sizeLine_eq]; omega) fun H17 bo s17 hbo => ?_⟩
          have s17' := s16'.trans s17
          have eb : mv w1 ++ mv w2 = mv (w1 ++ w2) := by unfold mv; rw [List.map_append]
          rw [eb] at hbo
          refine ⟨g, bo, n, ms, F, W, M, w1 ++ w2, rfl, Kp.grp (.of s17') G11, hbo, by rw [List.length_append]; omega, fun k hk => (List.mem_append.mp hk).elim (lt1 k) (lt2 k), fun H18 r5 s18 hr5 => ?_⟩
          have s18' := s17'.trans s18
          refine ⟨_, rfl, neT (.inl (.inl hr5)) (.inl (.inl (s18 _ _ (s17 _ _ hdu)))) ?_⟩
          rw [decide_eq_true (ev_app pm w1 w2 lt1 lt2)]
          refine ⟨_, rfl, ?_⟩
          refine ifF rfl ?_
          -- long words
          have ll : ∀ k ∈ List.replicate 2000 0, k < ms.length := fun k hk => by rw [List.eq_of_mem_replicate hk]; exact lm0
          refine ⟨_, rfl, g, _, _, rfl, s18' _ _ hg11, glk, by show 1 ≤ sizeLine; decide, fun t0 nt0 => ?_⟩
          have k19 := same_new (o := .tup [.int 0]) nt0
          refine ⟨t0, 2000, [.int 0], rfl, rfl, .inl (.inl upd_same), (by intro z; cases z), by decide, by decide, by decide, fun tz ntz => ?_⟩
          rw [show (List.replicate (2000 : Int).toNat [V.int 0]).flatten = mv (List.replicate 2000 0) from rep_mv 2000]
          have k20 := k19.trans (same_new (o := .tup (mv (List.replicate 2000 0))) ntz)
          have htz : (upd (upd H18 t0 (.tup [.int 0])) tz (.tup (mv (List.replicate 2000 0)))) tz = some (.tup (mv (List.replicate 2000 0))) := upd_same
          generalize upd (upd H18 t0 _) tz _ = H20 at k20 htz ⊢
          have s20' := s18'.trans k20
          refine ⟨g, tz, n, ms, F, W, M, List.replicate 2000 0, rfl, Kp.grp (.of s20') G11, .inl (.inl htz), by rw [List.length_replicate]; omega, ll, fun H21 r6 s21 hr6 => ?_⟩
          have s21' := s20'.trans s21
          refine ⟨_, rfl, _, rfl, by show 1 ≤ sizeLine; decide, fun t3 nt3 => ?_⟩
          have k22 := same_new (o := .tup [.int 0]) nt3
          refine ⟨t3, 2000, [.int 0], rfl, rfl, .inl (.inl upd_same), (by intro z; cases z), by decide, by decide, by decide, fun ty nty => ?_⟩
          rw [show (List.replicate (2000 : Int).toNat [V.int 0]).flatten = mv (List.replicate 2000 0) from rep_mv 2000]
          have k23 := k22.trans (same_new (o := .tup (mv (List.replicate 2000 0))) nty)
          have hty : (upd (upd H21 t3 (.tup [.int 0])) ty (.tup (mv (List.replicate 2000 0)))) ty = some (.tup (mv (List.replicate 2000 0))) := upd_same
          generalize upd (upd H21 t3 _) ty _ = H23 at k23 hty ⊢
          have s23' := s21'.trans k23
          refine ⟨n, a, ty, us, ms, List.replicate 2000 0, rfl, .inl (.inl (s23' _ _ ha11)), mr11.same s23', pm, n1, n24, .inl (.inl hty), ll, fun H24 r7 s24 hr7 => ?_⟩
          refine eqT (.inl (.inl (s24 _ _ (k23 _ _ hr6)))) (.inl (.inl hr7)) ?_
          rw [decide_eq_true rfl]
          have sZ := s23'.trans s24
          exact q _ (un11.keep sZ) (tabs_same tabs11 sZ)
end
end K08


set_option Elab.async false
set_option linter.all false
set_option maxRecDepth 100000
set_option maxHeartbeats 8000000
namespace K08
open PySem PySem.Spec PyProof.Rows L2 MM GT LamX
/-! own words for the readings: a step, its side -/
local macro_rules | `(tactic| walk_at "side") => `(tactic| first
  | omega
  | exact ⟨by omega, by omega⟩
  | exact Or.inl ⟨by omega, by omega⟩
  | exact Or.inr ⟨by omega, by omega⟩
  | (show CPw _ _; decide +kernel)
  | (show (0 : Int) < _; decide +kernel)
  | (show CDivW _ _; first | assumption | exact ⟨by decide, by decide +kernel⟩))
local macro_rules | `(tactic| walk_at "here") => `(tactic| first
  | assumption
  | exact upd_same
  | exact Or.inl (Or.inl upd_same)
  | exact Or.inl upd_same)
local macro_rules | `(tactic| walk_at "one") => `(tactic| first
  | refine ⟨_, rfl, ?_⟩
  | refine Or.inl ⟨_, rfl, ?_⟩
  | refine Or.inr ⟨_, rfl, ?_⟩
  | refine ⟨_, _, rfl, rfl, (by walk_at "side"), ?_⟩
  | refine ⟨_, _, rfl, rfl, ?_⟩
  | refine ⟨_, _, rfl, Or.inl (by walk_at "here"), ?_⟩
  | refine ⟨_, _, rfl, Or.inr (by walk_at "here"), ?_⟩
  | refine ⟨_, _, rfl, (by walk_at "here"), ?_⟩
  | refine ⟨_, _, _, _, rfl, rfl, (by walk_at "here"), rfl, ?_⟩
  | refine ⟨_, _, rfl, ?_⟩
  | refine ifT (by rfl) ?_
  | refine ifF (by rfl) ?_
  | refine ifT (decide_eq_true (by omega)) ?_
  | refine ifF (decide_eq_false (by omega)) ?_)
local macro_rules | `(tactic| walk_at "st") => `(tactic| repeat (walk_at "one"))

section
variable {P : Program} {w : World} {K : PySem.W.Frag} {mg : Str → Option Value} {base : Heap}
theorem dMs_small (M : List (List Nat)) : (dMs M).canLay0 = true ∧ (dMs M).depth ≤ 3 := by
  refine ⟨lay_all fun d hd => ?_, ?_⟩
  · obtain ⟨m, _, rfl⟩ := List.mem_map.mp hd
    exact (dM_small m).1
  · have := dep_all (k := 2) (ds := M.map dM) fun d hd => by
      obtain ⟨m, _, rfl⟩ := List.mem_map.mp hd
      exact (dM_small m).2
    unfold dMs
    simp only [PyData.depth]
    omega
/-- a drawn group, told -/
def DrV (H : Hp) (v : V) : Prop := ∃ (t a : Addr) (us : List V) (b : Bs) (z : List Nat) (n : Nat) (ms : List (List Nat)), v = .ref t ∧ H t = some (.tup [.int (n : Int), .ref a]) ∧ H a = some (.tup us) ∧ MR H us ms ∧ DrB b z 6 n ms
theorem DrV.kp {H H' : Hp} {v : V} (k : Kp H H') (h : DrV H v) : DrV H' v := let ⟨t, a, us, b, z, n, ms, e, h1, h2, h3, d⟩ := h; ⟨t, a, us, b, z, n, ms, e, Kp.tup k h1, Kp.tup k h2, Kp.mr k h3, d⟩
theorem DrV.upd {H : Hp} {v : V} {D : Addr} {xs : List V} {o : HO} (e : H D = some (.lst xs)) (h : DrV H v) : DrV (upd H D o) v := let ⟨t, a, us, b, z, n, ms, ev, h1, h2, h3, d⟩ := h
  ⟨t, a, us, b, z, n, ms, ev, (upd_ne (ne_of h1 e fun z => nomatch z)).trans h1, (upd_ne (ne_of h2 e fun z => nomatch z)).trans h2, h3.upd e (fun _ z => nomatch z), d⟩
theorem scProductsRightL : FnScope ["_law_bag_here", "_law_left", "_law_right", "_law_turn", "_law_one", "_law_other", "_law_first", "_law_second", "_law_both", "_law_units", "_law_makers", "_law_maker", "_law_found", "_law_here", "_law_there"] ["_law_bag_here"] (defScope sProductsRightL) :=
  ⟨rfl, rfl, rfl, by decide +kernel, rfl, by decide +kernel, by decide +kernel⟩
theorem dProductsRightL (T : Tx K mg) (Y : Ex K mg) (DGroupDrawnL : Def P w K mg base CX0 3 "_law_group_drawn" ["_law_bag_here", "_law_most"] (spDrawn K)) (DLotMadeL : Def P w K mg base CX0 2 "_law_lot_made" ["_law_places", "_law_makers"] (spMade K)) (DBeside : Def P w K mg base CX0 9 "beside" ["one", "other"] (spBeside K)) (DBesideL : Def P w K mg base CX0 1 "_law_beside" ["_law_first", "_law_second"] (spLBes K)) (FGroupInit : FAt P w K mg base CX0 7 (mA K (cA K "Group") "__init__") ["self", "places", "makers"] (spGrpInit K)) (FGroupOrder : FAt P w K mg base CX0 1 (pA K (cA K "Group") "order") ["self"] (spOrder K)) (FGroupMakers : FAt P w K mg base CX0 1 (pA K (cA K "Group") "makers") ["self"] (spMakers K)) (FGroupPlaces : FAt P w K mg base CX0 1 (pA K (cA K "Group") "places") ["self"] (spPlaces K)) (FGroupMoves : FAt P w K mg base CX0 1 (pA K (cA K "Group") "moves") ["self"] (spMoves K)) : Def P w K mg base CX0 11 "_law_products_right" ["_law_bag_here"] (spWordsRight K) := by
  refine T.t_law_products_right.def_ (N := ["_law_bag_here", "_law_left", "_law_right", "_law_turn", "_law_one", "_law_other", "_law_first", "_law_second", "_law_both", "_law_units", "_law_makers", "_law_maker", "_law_found", "_law_here", "_law_there"]) scProductsRightL (fun _ _ _ _ _ _ us hl => match us, hl with | [_], _ => rfl) ?_ ?_
  · intro vs H Q E h
    obtain ⟨p, rfl, _⟩ := h
    rfl
  · intro f cd A out s H vs Q E hr h
    have hr1 : Rm 9 _ := hr.le (by decide)
    obtain ⟨p, rfl, hb, tabs, q⟩ := h
    refine ⟨_, (pss_cons (ps_asg (pe_lc (own := [("_law_turn", 3)]) (g := gName 3) (tt := tYes) rfl scProductsRightL.nd (pi_range1 rfl T.f_range (pa_cons pe_int pa_nil)) (blkOk_by (N := ["_law_bag_here", "_law_left", "_law_right", "_law_turn", "_law_one", "_law_other", "_law_first", "_law_second", "_law_both", "_law_units", "_law_makers", "_law_maker", "_law_found", "_law_here", "_law_there"]) (sc := defScope sProductsRightL) (by decide +kernel)) (fun _ _ _ _ _ => pg_name (i := 3) scProductsRightL.nd rfl (Or.inl rfl)) (fun _ _ _ _ _ => pts_nil) (fun _ _ _ _ _ => (pe_d DGroupDrawnL (hr1.le (by decide)) pass0 (pa_cons (pv 0) (pa_cons pe_int pa_nil))))) (pg_lst rfl (pgs_cons (pg_name (i := 1) scProductsRightL.nd rfl (Or.inl rfl)) (pgs_cons (pg_name (i := 2) scProductsRightL.nd rfl (Or.inl rfl)) pgs_nil))))
      (pss_cons (ps_par (i := 4) (j := 5) rfl scProductsRightL.nd rfl rfl (by decide) rfl rfl (pa_cons (pe_makeG Y.uGroup FGroupInit (hr1.le (by decide)) Y.gGroup pass0 (pa_cons (pe_ix ix_tup (pv 1) pe_int (fun _ _ => rfl)) (pa_cons (pe_ix ix_tup (pv 1) pe_int (fun _ _ => rfl)) pa_nil))) (pa_cons (pe_makeG Y.uGroup FGroupInit (hr1.le (by decide)) Y.gGroup pass0 (pa_cons (pe_ix ix_tup (pv 2) pe_int (fun _ _ => rfl)) (pa_cons (pe_ix ix_tup (pv 2) pe_int (fun _ _ => rfl)) pa_nil))) pa_nil)) (by rfl))
      (pss_cons (ps_par (i := 6) (j := 7) rfl scProductsRightL.nd rfl rfl (by decide) rfl rfl (pa_cons (pe_d DLotMadeL (hr1.le (by decide)) pass0 (pa_cons (pe_ix ix_tup (pv 1) pe_int (fun _ _ => rfl)) (pa_cons (pe_ix ix_tup (pv 1) pe_int (fun _ _ => rfl)) pa_nil))) (pa_cons (pe_d DLotMadeL (hr1.le (by decide)) pass0 (pa_cons (pe_ix ix_tup (pv 2) pe_int (fun _ _ => rfl)) (pa_cons (pe_ix ix_tup (pv 2) pe_int (fun _ _ => rfl)) pa_nil))) pa_nil)) (by rfl))
      (pss_cons (ps_if (PW.pt (pw_or (pt_cmpR op_gt (pe_op op_add (pe_callB call_len_seq rfl T.f_len (by decide +kernel) (pa_cons (pe_ix ix_tup (pv 1) pe_int (fun _ _ => rfl)) pa_nil)) (pe_callB call_len_seq rfl T.f_len (by decide +kernel) (pa_cons (pe_ix ix_tup (pv 2) pe_int (fun _ _ => rfl)) pa_nil))) pe_int (nomark _)) (pw_or1 (pt_cmpR op_gt (pe_op op_mul (pe_callB call_len_seq rfl T.f_len (by decide +kernel) (pa_cons (pv 6) pa_nil)) (pe_callB call_len_seq rfl T.f_len (by decide +kernel) (pa_cons (pv 7) pa_nil))) pe_int (nomark _))))) (pss_one (ps_ret pe_bl)) pss_nil)
      (pss_cons (ps_set (i := 8) scProductsRightL.nd rfl (Or.inl rfl) (pe_d DBeside (hr1.le (by decide)) pass0 (pa_cons (pv 4) (pa_cons (pv 5) pa_nil))))
      (pss_cons (ps_set (i := 9) scProductsRightL.nd rfl (Or.inr rfl) (pe_lst (pa_cons (pe_tupRg rfl rfl T.f_tuple (prg_1 rfl T.f_range (pe_ix ix_tup (pv 1) pe_int (fun _ _ => rfl)))) (pa_cons (pe_tupRg rfl rfl T.f_tuple (prg_1 rfl T.f_range (pe_ix ix_tup (pv 2) pe_int (fun _ _ => rfl)))) pa_nil))))
      (pss_cons (ps_set (i := 10) scProductsRightL.nd rfl (Or.inl rfl) (pe_op op_cat (pe_lc (own := [("_law_maker", 11)]) (g := gName 11) (tt := tYes) rfl scProductsRightL.nd (pi_tup (pe_ix ix_tup (pv 1) pe_int (fun _ _ => rfl))) (blkOk_by (N := ["_law_bag_here", "_law_left", "_law_right", "_law_turn", "_law_one", "_law_other", "_law_first", "_law_second", "_law_both", "_law_units", "_law_makers", "_law_maker", "_law_found", "_law_here", "_law_there"]) (sc := defScope sProductsRightL) (by decide +kernel)) (fun _ _ _ _ _ => pg_name (i := 11) scProductsRightL.nd rfl (Or.inl rfl)) (fun _ _ _ _ _ => pts_nil) (fun _ _ _ _ _ => (pe_d DBesideL (hr1.le (by decide)) pass0 (pa_cons (pv 11) (pa_cons (pe_ix (show IxR _ (rIxL K) from ix_list) (pv 9) pe_int (fun _ _ => rfl)) pa_nil))))) (pe_lc (own := [("_law_maker", 11)]) (g := gName 11) (tt := tYes) rfl scProductsRightL.nd (pi_tup (pe_ix ix_tup (pv 2) pe_int (fun _ _ => rfl))) (blkOk_by (N := ["_law_bag_here", "_law_left", "_law_right", "_law_turn", "_law_one", "_law_other", "_law_first", "_law_second", "_law_both", "_law_units", "_law_makers", "_law_maker", "_law_found", "_law_here", "_law_there"]) (sc := defScope sProductsRightL) (by decide +kernel)) (fun _ _ _ _ _ => pg_name (i := 11) scProductsRightL.nd rfl (Or.inl rfl)) (fun _ _ _ _ _ => pts_nil) (fun _ _ _ _ _ => (pe_d DBesideL (hr1.le (by decide)) pass0 (pa_cons (pe_ix (show IxR _ (rIxL K) from ix_list) (pv 9) pe_int (fun _ _ => rfl)) (pa_cons (pv 11) pa_nil)))))))
      (pss_cons (ps_if (pt_cmpR (op_neD hr.hu) (pe_tup (pa_cons (pe_propG (pv 8) Y.kGroup Y.pGroupPlaces FGroupPlaces (hr1.le (by decide)) pass0) (pa_cons (pe_propG (pv 8) Y.kGroup Y.pGroupMakers FGroupMakers (hr1.le (by decide)) pass0) (pa_cons (pe_propG (pv 8) Y.kGroup Y.pGroupOrder FGroupOrder (hr1.le (by decide)) pass0) pa_nil)))) (pe_tup (pa_cons (pe_op op_add (pe_ix ix_tup (pv 1) pe_int (fun _ _ => rfl)) (pe_ix ix_tup (pv 2) pe_int (fun _ _ => rfl))) (pa_cons (pe_callTy call_tuple_of rfl T.f_tuple (by decide +kernel) (pa_cons (pv 10) pa_nil)) (pa_cons (pe_op op_mul (pe_callB call_len_seq rfl T.f_len (by decide +kernel) (pa_cons (pv 6) pa_nil)) (pe_callB call_len_seq rfl T.f_len (by decide +kernel) (pa_cons (pv 7) pa_nil))) pa_nil)))) (nomark _)) (pss_one (ps_ret pe_bl)) pss_nil)
      (pss_cons (ps_set (i := 12) scProductsRightL.nd rfl (Or.inl rfl) (pe_lst pa_nil))
      (pss_cons (ps_for PassesOwn.never rfl (pi_tup (pv 6)) (pg_name (i := 13) scProductsRightL.nd rfl (Or.inr rfl))
        (pss_one (ps_expr (pe_bm PySem.F.plainAttrs_list PySem.F.slot_list_extend PySem.F.type_list_extend mt_extend (pv 12) (pa_cons (pe_lc (own := [("_law_there", 14)]) (g := gName 14) (tt := tYes) rfl scProductsRightL.nd (pi_tup (pv 7)) (blkOk_by (N := ["_law_bag_here", "_law_left", "_law_right", "_law_turn", "_law_one", "_law_other", "_law_first", "_law_second", "_law_both", "_law_units", "_law_makers", "_law_maker", "_law_found", "_law_here", "_law_there"]) (sc := defScope sProductsRightL) (by decide +kernel)) (fun _ _ _ _ _ => pg_name (i := 14) scProductsRightL.nd rfl (Or.inl rfl)) (fun _ _ _ _ _ => pts_nil) (fun _ _ _ _ _ => (pe_d DBesideL (hr1.le (by decide)) pass0 (pa_cons (pv 13) (pa_cons (pv 14) pa_nil))))) pa_nil)))))
      (pss_one (ps_ret (pe_cmpR (op_eqD hr.hu) (pe_propG (pv 8) Y.kGroup Y.pGroupMoves FGroupMoves (hr1.le (by decide)) pass0) (pe_callTy call_tuple_of rfl T.f_tuple (by decide +kernel) (pa_cons (pe_callB (show CallR _ _ (rSortedTI K) from cr_sortedTI hr.hu) rfl T.f_sorted (by decide +kernel) (pa_cons (pv 12) pa_nil)) pa_nil)) (nomark _)))))))))))))), ?_⟩
    refine ⟨2, rfl, by omega, by omega, fun D nD => ?_⟩
    obtain ⟨Dp, nDH⟩ := (Upto.refl hb).free nD
    refine lc_range (Pv := fun i H' => Upto p H H' ∧ ∃ acc, H' D = some (.lst acc) ∧ acc.length = i ∧ ∀ v ∈ acc, DrV H' v) ⟨(Upto.refl hb).new nD, [], upd_same, rfl, fun _ h => by cases h⟩ ?_ ?_
    · rintro i H1 hi ⟨up1, acc, hD, lacc, hacc⟩
      refine ⟨wipe_one, yes_ ?_⟩
      refine ⟨_, rfl, p, 6, rfl, up1.bag, by decide, fun H2 t a us b z n ms up2 nt ht ha mr dr => ?_⟩
      have hD2 := up2.same _ _ Dp hD
      refine ⟨acc, hD2, by rw [sizeLine_eq]; omega, (up1.trans up2).put Dp nDH, acc ++ [.ref t], upd_same, by rw [List.length_append, lacc]; rfl, fun v hv => ?_⟩
      rcases List.mem_append.mp hv with hv | hv
      · exact ((hacc v hv).kp (Kp.up up1.bag up2)).upd hD2
      · rw [List.mem_singleton.mp hv]
        exact DrV.upd hD2 ⟨t, a, us, b, z, n, ms, rfl, ht, ha, mr, dr⟩
    rintro H1 ⟨up1, acc, hD, lacc, hacc⟩
    obtain ⟨x, y, rfl⟩ : ∃ x y, acc = [x, y] := by
      match acc, lacc with
      | [x, y], _ => exact ⟨x, y, rfl⟩
    obtain ⟨t1, a1, us1, b1, z1, n1, ms1, rfl, ht1, ha1, mr1, dr1⟩ := hacc _ List.mem_cons_self
    obtain ⟨t2, a2, us2, b2, z2, n2, ms2, rfl, ht2, ha2, mr2, dr2⟩ := hacc _ (List.mem_cons_of_mem _ List.mem_cons_self)
    have un1 := (Un.refl hb).up up1
    have tabs1 := tabs_up tabs hb up1
    clear hacc lacc
    refine ⟨D, _, rfl, lst_sql' hD, rfl, _, _, rfl, ?_⟩
    refine ⟨_, _, rfl, rfl, ?_⟩
    have ok1 := dr1.ok
    have ok2 := dr2.ok
    refine ⟨_, rfl, t1, _, 0, _, rfl, rfl, .inl (.inl ht1), rfl, _, rfl, t1, _, 1, _, rfl, rfl, .inl (.inl ht1), rfl, fun g1 gd1 ng1 nd1 ne1 => ?_⟩
    refine grp_mk (a := a1) (n := n1) (us := us1) (ms := ms1) ng1 nd1 ne1 (.inl (.inl ha1)) mr1 ok1 tabs1 fun H2 F1 W1 M1 e2 tabs2 G1 => ?_
    have k2 := Kp.ext e2
    replace ht1 := Kp.tup k2 ht1
    replace ha1 := Kp.tup k2 ha1
    replace mr1 := Kp.mr k2 mr1
    replace ht2 := Kp.tup k2 ht2
    replace ha2 := Kp.tup k2 ha2
    replace mr2 := Kp.mr k2 mr2
    have un2 := un1.ext e2
    refine ⟨_, rfl, t2, _, 0, _, rfl, rfl, .inl (.inl ht2), rfl, _, rfl, t2, _, 1, _, rfl, rfl, .inl (.inl ht2), rfl, fun g2 gd2 ng2 nd2 ne2 => ?_⟩
    refine grp_mk (a := a2) (n := n2) (us := us2) (ms := ms2) ng2 nd2 ne2 (.inl (.inl ha2)) mr2 ok2 tabs2 fun H3 F2 W2 M2 e3 tabs3 G2 => ?_
    have k3 := Kp.ext e3
    replace ht1 := Kp.tup k3 ht1
    replace ha1 := Kp.tup k3 ha1
    replace mr1 := Kp.mr k3 mr1
    replace ht2 := Kp.tup k3 ht2
    replace ha2 := Kp.tup k3 ha2
    replace mr2 := Kp.mr k3 mr2
    replace G1 := Kp.grp k3 G1
    have un3 := un2.ext e3
    refine ⟨_, _, rfl, ?_⟩
    have pm1 := dr1.pm
    have pm2 := dr2.pm
    have ⟨n11, n124, m16, _, X1, hX1, sub1, lX1, _⟩ := ok1
    have ⟨n21, n224, m26, _, X2, hX2, sub2, lX2, _⟩ := ok2
    refine ⟨_, rfl, t1, _, 0, _, rfl, rfl, .inl (.inl ht1), rfl, _, rfl, t1, _, 1, _, rfl, rfl, .inl (.inl ht1), rfl, n1, a1, us1, ms1, X1, rfl, .inl (.inl ha1), mr1, pm1, n11, n124, m16, by rw [← hX1.one]; exact at_mem hX1.pos, fun x hx k hk => hX1.mul x hx _ (sub1 _ (at_mem hk)), by omega, fun H4 f1 fus1 N1 Fa Wa s4 nf1 hf1 mN1 wda fua pN1 asc1 => ?_⟩
    replace ht2 := s4 _ _ ht2
    replace ha2 := s4 _ _ ha2
    replace mr2 := mr2.same s4
    refine ⟨_, rfl, t2, _, 0, _, rfl, rfl, .inl (.inl ht2), rfl, _, rfl, t2, _, 1, _, rfl, rfl, .inl (.inl ht2), rfl, n2, a2, us2, ms2, X2, rfl, .inl (.inl ha2), mr2, pm2, n21, n224, m26, by rw [← hX2.one]; exact at_mem hX2.pos, fun x hx k hk => hX2.mul x hx _ (sub2 _ (at_mem hk)), by omega, fun H5 f2 fus2 N2 Fb Wb s5 nf2 hf2 mN2 wdb fub pN2 asc2 => ?_⟩
    have s45 := s4.trans s5
    replace ht1 := s45 _ _ ht1
    replace ha1 := s45 _ _ ha1
    replace mr1 := mr1.same s45
    replace ht2 := s5 _ _ ht2
    replace ha2 := s5 _ _ ha2
    replace mr2 := mr2.same s5
    replace hf1 := s5 _ _ hf1
    replace mN1 := mN1.same s5
    replace G1 := Kp.grp (.of s45) G1
    replace G2 := Kp.grp (.of s45) G2
    have un5 := un3.keep s45
    have tabs5 := tabs_same tabs3 s45
    have c1 : N1.length = b1.G.length := by rw [pN1.length_eq, dr1.count wda fua]
    have c2 : N2.length = b2.G.length := by rw [pN2.length_eq, dr2.count wdb fub]
    have l1 := mr_len mN1
    have l2 := mr_len mN2
    have lm1 := mr_len mr1
    have lm2 := mr_len mr2
    have b6 : b1.G.length ≤ 6 := dr1.2.1
    have b62 : b2.G.length ≤ 6 := dr2.2.1
    refine ⟨_, _, rfl, ?_⟩
    refine ⟨_, rfl, t1, _, 1, _, rfl, rfl, .inl (.inl ht1), rfl, a1, us1, rfl, .inr (.inl (.inl ha1)), ?_⟩
    refine ⟨_, rfl, t2, _, 1, _, rfl, rfl, .inl (.inl ht2), rfl, a2, us2, rfl, .inr (.inl (.inl ha2)), _, _, rfl, rfl, _, _, rfl, rfl, _, rfl, ?_⟩
    by_cases six : 6 < us1.length + us2.length
    · refine ifT (decide_eq_true (by omega)) ?_
      refine ifT rfl ?_
      exact q _ un5 tabs5
    refine ifF (decide_eq_false (by omega)) ?_
    refine ⟨_, rfl, f1, fus1, rfl, .inr (.inl (.inl hf1)), _, rfl, f2, fus2, rfl, .inr (.inl (.inl hf2)), _, _, rfl, rfl, ?_, _, _, rfl, rfl, _, rfl, ?_⟩
    · exact .inl ⟨by omega, by omega⟩
    have ep : ((fus1.length : Nat) : Int) * ((fus2.length : Nat) : Int) = ((b1.G.length * b2.G.length : Nat) : Int) := by rw [l1, l2, c1, c2]; rfl
    by_cases big : 12 < b1.G.length * b2.G.length
    · refine ifT (decide_eq_true ?_) ?_
      · show (12 : Int) < ((fus1.length : Nat) : Int) * ((fus2.length : Nat) : Int)
        rw [ep]
        omega
      · exact q _ un5 tabs5
    refine ifF (decide_eq_false ?_) ?_
    · show ¬ (12 : Int) < ((fus1.length : Nat) : Int) * ((fus2.length : Nat) : Int)
      rw [ep]
      omega
    have n18 : n1 ≤ 8 := dr1.2.2.2.2.2.2.2.2
    have n28 : n2 ≤ 8 := dr2.2.2.2.2.2.2.2.2
    have okB := prod_ok dr1 dr2 (by omega) (by omega)
    refine ⟨_, rfl, _, rfl, g1, g2, n1, n2, ms1, F1, W1, M1, ms2, F2, W2, M2, rfl, G1, G2, by omega, by omega, okB, tabs5, fun bo H6 F W M e6 nbo tabs6 GB => ?_⟩
    have k6 := Kp.ext e6
    replace ht1 := Kp.tup k6 ht1
    replace ha1 := Kp.tup k6 ha1
    replace mr1 := Kp.mr k6 mr1
    replace ht2 := Kp.tup k6 ht2
    replace ha2 := Kp.tup k6 ha2
    replace mr2 := Kp.mr k6 mr2
    replace hf1 := Kp.tup k6 hf1
    replace mN1 := Kp.mr k6 mN1
    replace hf2 := Kp.tup k6 hf2
    replace mN2 := Kp.mr k6 mN2
    have un6 := un5.ext e6
    clear k6 e6 s4 s5 s45 nf1 nf2 G1 G2 un1 un2 un3 un5 tabs1 tabs2 tabs3 tabs5 hD k2 k3 e2 e3
    -- units
    refine ⟨_, rfl, t1, _, 0, _, rfl, rfl, .inl (.inl ht1), rfl, n1, rfl, ⟨by omega, by omega, by omega, by omega, by omega⟩, fun u1 nu1 => ?_⟩
    rw [rg_mv]
    have k7 := same_new (o := .tup (mv (List.range n1))) nu1
    have hu1 : (upd H6 u1 (.tup (mv (List.range n1)))) u1 = some (.tup (mv (List.range n1))) := upd_same
    generalize upd H6 u1 _ = H7 at k7 hu1 ⊢
    refine ⟨_, rfl, t2, _, 0, _, rfl, rfl, .inl (.inl (k7 _ _ ht2)), rfl, n2, rfl, ⟨by omega, by omega, by omega, by omega, by omega⟩, fun u2 nu2 => ?_⟩
    rw [rg_mv]
    have k8 := same_new (o := .tup (mv (List.range n2))) nu2
    have hu2 : (upd H7 u2 (.tup (mv (List.range n2)))) u2 = some (.tup (mv (List.range n2))) := upd_same
    generalize upd H7 u2 _ = H8 at k8 hu2 ⊢
    refine ⟨by show 2 ≤ sizeLine; decide, fun ul nul => ?_⟩
    have k9 := same_new (o := .lst [.ref u1, .ref u2]) nul
    have hul : (upd H8 ul (.lst [.ref u1, .ref u2])) ul = some (.lst [.ref u1, .ref u2]) := upd_same
    generalize upd H8 ul _ = H9 at k9 hul ⊢
    have s9 := (k7.trans k8).trans k9
    replace hu1 := k9 _ _ (k8 _ _ hu1)
    replace hu2 := k9 _ _ hu2
    replace ht1 := s9 _ _ ht1
    replace ha1 := s9 _ _ ha1
    replace mr1 := mr1.same s9
    replace ht2 := s9 _ _ ht2
    replace ha2 := s9 _ _ ha2
    replace mr2 := mr2.same s9
    replace hf1 := s9 _ _ hf1
    replace mN1 := mN1.same s9
    replace hf2 := s9 _ _ hf2
    replace mN2 := mN2.same s9
    replace GB := Kp.grp (.of s9) GB
    have un9 := un6.keep s9
    have tabs9 := tabs_same tabs6 s9
    clear k7 k8 k9 s9 un6 tabs6
    -- makers
    refine ⟨_, rfl, t1, _, 1, _, rfl, rfl, .inl (.inl ht1), rfl, a1, rfl, ⟨us1, .inl (.inl ha1)⟩, fun Da nDa => ?_⟩
    refine lc_tup (K := K) (a := a1) (xs := us1) (Pv := fun i H' => Same H9 H' ∧ ∃ acc, H' Da = some (.lst acc) ∧ MR H' acc ((ms1.map fun m => bes m (List.range n2)).take i)) ⟨same_new nDa, [], upd_same, .nil⟩ (fun i H' _ e => .inl (.inl (e.1 _ _ ha1))) ?_ ?_
    · rintro i v H10 hv ⟨s10, acc, hD, ma⟩
      obtain ⟨m, hm, b, rfl, hb⟩ := pr_at mr1 hv
      have pm := pm1 m (List.mem_of_getElem? hm)
      have il := (List.getElem?_eq_some_iff.mp hm).1
      have la := mr_len ma
      have lt := List.length_take_le i (ms1.map fun m => bes m (List.range n2))
      refine ⟨wipe_one, yes_ ?_⟩
      refine ⟨_, rfl, _, rfl, ul, _, 1, _, rfl, rfl, lst_sql' (s10 _ _ hul), rfl, b, u2, n1, n2, m, List.range n2, rfl, .inl (.inl (s10 _ _ hb)), .inl (.inl (s10 _ _ hu2)), pm, pm_unit n2, n21, by omega, by omega, fun H11 r s11 hr => ?_⟩
      have hD11 := s11 _ _ hD
      refine ⟨acc, hD11, by rw [la, sizeLine_eq]; omega, fun y o e => (upd_ne (ne_of_none e nDa)).trans (s11 _ _ (s10 _ _ e)), acc ++ [.ref r], upd_same, ?_⟩
      rw [List.take_add_one, List.getElem?_map, hm]
      exact pr_snoc ((ma.same s11).upd hD11 fun _ z => nomatch z) ⟨r, rfl, (upd_ne (ne_of hr hD11 fun z => nomatch z)).trans hr⟩
    rintro H10 ⟨s10, acc1, hDa, ma1⟩
    rw [lm1, List.take_of_length_le (by rw [List.length_map]; exact Nat.le_refl _)] at ma1
    have la1 := mr_len ma1
    rw [List.length_map] at la1
    refine ⟨_, rfl, t2, _, 1, _, rfl, rfl, .inl (.inl (s10 _ _ ht2)), rfl, a2, rfl, ⟨us2, .inl (.inl (s10 _ _ ha2))⟩, fun Db nDb => ?_⟩
    refine lc_tup (K := K) (a := a2) (xs := us2) (Pv := fun i H' => Same H10 H' ∧ ∃ acc, H' Db = some (.lst acc) ∧ MR H' acc ((ms2.map fun m => bes (List.range n1) m).take i)) ⟨same_new nDb, [], upd_same, .nil⟩ (fun i H' _ e => .inl (.inl (e.1 _ _ (s10 _ _ ha2)))) ?_ ?_
    · rintro i v H11 hv ⟨s11, acc, hD, ma⟩
      obtain ⟨m, hm, b, rfl, hb⟩ := pr_at mr2 hv
      have s11' := s10.trans s11
      have pm := pm2 m (List.mem_of_getElem? hm)
      have il := (List.getElem?_eq_some_iff.mp hm).1
      have la := mr_len ma
      have lt := List.length_take_le i (ms2.map fun m => bes (List.range n1) m)
      refine ⟨wipe_one, yes_ ?_⟩
      refine ⟨_, rfl, ul, _, 0, _, rfl, rfl, lst_sql' (s11' _ _ hul), rfl, _, rfl, u1, b, n1, n2, List.range n1, m, rfl, .inl (.inl (s11' _ _ hu1)), .inl (.inl (s11' _ _ hb)), pm_unit n1, pm, n21, by omega, by omega, fun H12 r s12 hr => ?_⟩
      have hD12 := s12 _ _ hD
      refine ⟨acc, hD12, by rw [la, sizeLine_eq]; omega, fun y o e => (upd_ne (ne_of_none e nDb)).trans (s12 _ _ (s11 _ _ e)), acc ++ [.ref r], upd_same, ?_⟩
      rw [List.take_add_one, List.getElem?_map, hm]
      exact pr_snoc ((ma.same s12).upd hD12 fun _ z => nomatch z) ⟨r, rfl, (upd_ne (ne_of hr hD12 fun z => nomatch z)).trans hr⟩
    rintro H11 ⟨s11, acc2, hDb, ma2⟩
    rw [lm2, List.take_of_length_le (by rw [List.length_map]; exact Nat.le_refl _)] at ma2
    have la2 := mr_len ma2
    rw [List.length_map] at la2
    refine ⟨Da, Db, acc1, acc2, rfl, rfl, s11 _ _ hDa, hDb, by rw [sizeLine_eq]; omega, fun mk nmk => ?_⟩
    have k12 := same_new (o := .lst (acc1 ++ acc2)) nmk
    have hmk : (upd H11 mk (.lst (acc1 ++ acc2))) mk = some (.lst (acc1 ++ acc2)) := upd_same
    have s12 := (s10.trans s11).trans k12
    have mMk : MR (upd H11 mk (.lst (acc1 ++ acc2))) (acc1 ++ acc2) (besM n1 n2 ms1 ms2) := pr_app ((ma1.same s11).same k12) (ma2.same k12)
    generalize upd H11 mk _ = H12 at k12 hmk s12 mMk ⊢
    replace ht1 := s12 _ _ ht1
    replace ht2 := s12 _ _ ht2
    replace hf1 := s12 _ _ hf1
    replace mN1 := mN1.same s12
    replace hf2 := s12 _ _ hf2
    replace mN2 := mN2.same s12
    replace GB := Kp.grp (.of s12) GB
    have un12 := un9.keep s12
    have tabs12 := tabs_same tabs9 s12
    clear k12 s10 s11 s12 ma1 ma2 hDa hDb nDa nDb nmk un9 tabs9 hu1 hu2 hul mr1 mr2 ha1 ha2
    -- what is told
    have wd1 := wda
    have foundB := prod_found dr1 dr2 GB.1.wd GB.1.full wda fua wdb fub
    have pmN1 : ∀ x ∈ N1, Pm n1 x := fun x hx => dr1.mvs.pm x ((dr1.found wda fua x).mp (pN1.mem_iff.mp hx))
    have pmN2 : ∀ x ∈ N2, Pm n2 x := fun x hx => dr2.mvs.pm x ((dr2.found wdb fub x).mp (pN2.mem_iff.mp hx))
    have mvN1 : Mvs n1 N1 := mvs_of wda fua pm1 (pN1.nodup_iff.mpr wda.nd) (fun x => pN1.mem_iff) (one_first asc1 pmN1 (pN1.mem_iff.mpr (by rw [← wda.zero.1]; exact at_mem wda.one)))
    have mvN2 : Mvs n2 N2 := mvs_of wdb fub pm2 (pN2.nodup_iff.mpr wdb.nd) (fun x => pN2.mem_iff) (one_first asc2 pmN2 (pN2.mem_iff.mpr (by rw [← wdb.zero.1]; exact at_mem wdb.one)))
    have mvP := prod_mvs mvN1 mvN2
    have permM : M.Perm (prodL N1 N2) := (List.perm_ext_iff_of_nodup GB.1.mvs.nd mvP.nd).mpr fun x => by
      rw [GB.1.mf, foundB, mem_prod, mem_prod]
      constructor
      · rintro ⟨x1, h1, x2, h2, e⟩
        exact ⟨x1, pN1.mem_iff.mpr h1, x2, pN2.mem_iff.mpr h2, e⟩
      · rintro ⟨x1, h1, x2, h2, e⟩
        exact ⟨x1, pN1.mem_iff.mp h1, x2, pN2.mem_iff.mp h2, e⟩
    have lenM : M.length = N1.length * N2.length := by rw [permM.length_eq, prod_len]
    have ⟨_, gdx, gmk, gd', gmo, gl, gus, gmus, gkvs, hbo, _⟩ := GB
    refine ⟨_, rfl, bo, _, _, rfl, hbo, bo, n1 + n2, besM n1 n2 ms1 ms2, F, W, M, rfl, GB, ?_⟩
    refine ⟨_, rfl, bo, _, _, rfl, hbo, bo, n1 + n2, besM n1 n2 ms1 ms2, F, W, M, rfl, GB, fun ab ub Sb mb => ?_⟩
    refine ⟨_, rfl, bo, _, _, rfl, hbo, bo, n1 + n2, besM n1 n2 ms1 ms2, F, W, M, rfl, GB, ?_⟩
    refine ⟨by show 3 ≤ sizeLine; decide, fun p1 np1 => ?_⟩
    have k13 := same_new (o := .tup [.int ((n1 + n2 : Nat) : Int), .ref ab, .int (M.length : Int)]) np1
    have hp1 : (upd H12 p1 (.tup [.int ((n1 + n2 : Nat) : Int), .ref ab, .int (M.length : Int)])) p1 = some (.tup [.int ((n1 + n2 : Nat) : Int), .ref ab, .int (M.length : Int)]) := upd_same
    generalize upd H12 p1 _ = H13 at k13 hp1 ⊢
    refine ⟨_, rfl, t1, _, 0, _, rfl, rfl, .inl (.inl (k13 _ _ ht1)), rfl, _, rfl, t2, _, 0, _, rfl, rfl, .inl (.inl (k13 _ _ ht2)), rfl, _, _, rfl, rfl, ?_⟩
    refine ⟨_, rfl, mk, _, rfl, .inl ⟨lst_sql' (k13 _ _ hmk), fun tmk ntmk => ?_⟩⟩
    have k14 := same_new (o := .tup (acc1 ++ acc2)) ntmk
    have htmk : (upd H13 tmk (.tup (acc1 ++ acc2))) tmk = some (.tup (acc1 ++ acc2)) := upd_same
    generalize upd H13 tmk _ = H14 at k14 htmk ⊢
    refine ⟨_, rfl, f1, fus1, rfl, .inr (.inl (.inl (k14 _ _ (k13 _ _ hf1)))), _, rfl, f2, fus2, rfl, .inr (.inl (.inl (k14 _ _ (k13 _ _ hf2)))), _, _, rfl, rfl, .inl ⟨by omega, by omega⟩, ?_⟩
    refine ⟨by show 3 ≤ sizeLine; decide, fun p2 np2 => ?_⟩
    have hp2 : ∀ o, (upd H14 p2 o) p2 = some o := fun o => upd_same
    have k15 := fun o => same_new (o := o) np2
    have eM : ((fus1.length : Nat) : Int) * ((fus2.length : Nat) : Int) = (M.length : Int) := by rw [l1, l2, lenM]; rfl
    show rNeD _ _ _ (upd H14 p2 (.tup [.int ((n1 : Int) + (n2 : Int)), .ref tmk, .int (((fus1.length : Nat) : Int) * ((fus2.length : Nat) : Int))])) _
    rw [eM]
    have k15 := same_new (o := .tup [.int ((n1 + n2 : Nat) : Int), .ref tmk, .int (M.length : Int)]) np2
    have hp2 : (upd H14 p2 (.tup [.int ((n1 + n2 : Nat) : Int), .ref tmk, .int (M.length : Int)])) p2 = some (.tup [.int ((n1 + n2 : Nat) : Int), .ref tmk, .int (M.length : Int)]) := upd_same
    rw [show (n1 : Int) + (n2 : Int) = ((n1 + n2 : Nat) : Int) from rfl]
    generalize upd H14 p2 _ = H15 at k15 hp2 ⊢
    have s15 := (k13.trans k14).trans k15
    have sh : SeqAt.shaped (.tuple [.int ((n1 + n2 : Nat) : Int), dMs (besM n1 n2 ms1 ms2), .int (M.length : Int)]) = true := shapedT fun d hd => by
      have := dMs_small (besM n1 n2 ms1 ms2)
      rcases List.mem_cons.mp hd with rfl | hd
      · exact ⟨rfl, by simp only [PyData.depth]; omega⟩
      rcases List.mem_cons.mp hd with rfl | hd
      · exact ⟨this.1, by omega⟩
      rw [List.mem_singleton.mp hd]
      exact ⟨rfl, by simp only [PyData.depth]; omega⟩
    refine ⟨.tuple [.int ((n1 + n2 : Nat) : Int), dMs (besM n1 n2 ms1 ms2), .int (M.length : Int)], .tuple [.int ((n1 + n2 : Nat) : Int), dMs (besM n1 n2 ms1 ms2), .int (M.length : Int)],
      .tup (.inl (.inl (k15 _ _ (k14 _ _ hp1)))) (.cons (.int _) (.cons (dp_mr (same_sqt s15 Sb) (mb.same s15)) (.cons (.int _) .nil))),
      .tup (.inl (.inl hp2)) (.cons (.int _) (.cons (dp_mr (.inl (.inl (k15 _ _ htmk))) (mMk.same s15)) (.cons (.int _) .nil))), sh, sh, ?_⟩
    rw [SeqAt.eqv_refl _ (SeqAt.canLay_of_shaped sh)]
    refine ⟨_, rfl, ?_⟩
    refine ifF rfl ?_
    replace hf1 := s15 _ _ hf1
    replace mN1 := mN1.same s15
    replace hf2 := s15 _ _ hf2
    replace mN2 := mN2.same s15
    replace GB := Kp.grp (.of s15) GB
    have un15 := un12.keep s15
    have tabs15 := tabs_same tabs12 s15
    replace hbo := s15 _ _ hbo
    clear k13 k14 k15 s15 hp1 hp2 np1 np2 ntmk htmk Sb mb mMk hmk un12 tabs12 ht1 ht2
    -- found
    refine ⟨by show 0 ≤ sizeLine; decide, fun fo nfo => ?_⟩
    have k16 := same_new (o := .lst []) nfo
    have hfo : (upd H15 fo (.lst [])) fo = some (.lst []) := upd_same
    generalize upd H15 fo _ = H16 at k16 hfo ⊢
    have nfoH : ∀ b o, H15 b = some o → b ≠ fo := fun b o e => ne_of_none e nfo
    refine ⟨_, rfl, f1, rfl, ⟨fus1, .inl (.inl (k16 _ _ hf1))⟩, for_tup (K := K) (a := f1) (xs := fus1) (fun i σ H' => (∃ y13 y14, σ = [some (.ref p), some (.ref t1), some (.ref t2), none, some (.ref g1), some (.ref g2), some (.ref f1), some (.ref f2), some (.ref bo), some (.ref ul), some (.ref mk), none, some (.ref fo), y13, y14]) ∧ Same H15 H' ∧ ∃ acc, H' fo = some (.lst acc) ∧ MR H' acc (prodL (N1.take i) N2)) ⟨⟨none, none, rfl⟩, k16, [], hfo, .nil⟩ (fun i σ H' _ e => .inl (.inl (e.2.1 _ _ hf1))) ?_ ?_⟩
    · rintro i v σ H17 hv ⟨⟨y13, y14, rfl⟩, s17, acc, hfo17, ma⟩
      obtain ⟨m, hm, b, rfl, hb⟩ := pr_at mN1 hv
      have pmx := pmN1 m (List.mem_of_getElem? hm)
      have il := (List.getElem?_eq_some_iff.mp hm).1
      have la := mr_len ma
      rw [prod_len] at la
      have lt := List.length_take_le i N1
      refine ⟨_, rfl, .inl ⟨rfl, acc, lst_sql' hfo17⟩, _, rfl, f2, rfl, ⟨fus2, .inl (.inl (s17 _ _ hf2))⟩, fun Dc nDc => ?_⟩
      refine lc_tup (K := K) (a := f2) (xs := fus2) (Pv := fun j H' => Same H17 H' ∧ ∃ acc2, H' Dc = some (.lst acc2) ∧ MR H' acc2 ((N2.map (bes m)).take j)) ⟨same_new nDc, [], upd_same, .nil⟩ (fun j H' _ e => .inl (.inl (e.1 _ _ (s17 _ _ hf2)))) ?_ ?_
      · rintro j v2 H18 hv2 ⟨s18, acc2, hDc, ma2⟩
        obtain ⟨m2, hm2, c2', rfl, hc2⟩ := pr_at mN2 hv2
        have s18' := s17.trans s18
        have pmy := pmN2 m2 (List.mem_of_getElem? hm2)
        have jl := (List.getElem?_eq_some_iff.mp hm2).1
        have la2 := mr_len ma2
        have lt2 := List.length_take_le j (N2.map (bes m))
        refine ⟨wipe_one, yes_ ?_⟩
        refine ⟨_, rfl, _, rfl, b, c2', n1, n2, m, m2, rfl, .inl (.inl (s18' _ _ hb)), .inl (.inl (s18' _ _ hc2)), pmx, pmy, n21, by omega, by omega, fun H19 r s19 hr => ?_⟩
        have hDc19 := s19 _ _ hDc
        refine ⟨acc2, hDc19, by rw [la2, sizeLine_eq]; omega, fun y o e => (upd_ne (ne_of_none e nDc)).trans (s19 _ _ (s18 _ _ e)), acc2 ++ [.ref r], upd_same, ?_⟩
        rw [List.take_add_one, List.getElem?_map, hm2]
        exact pr_snoc ((ma2.same s19).upd hDc19 fun _ z => nomatch z) ⟨r, rfl, (upd_ne (ne_of hr hDc19 fun z => nomatch z)).trans hr⟩
      rintro H18 ⟨s18, acc2, hDc, ma2⟩
      rw [l2, List.take_of_length_le (by rw [List.length_map]; exact Nat.le_refl _)] at ma2
      have la2 := mr_len ma2
      rw [List.length_map] at la2
      have hfo18 := s18 _ _ hfo17
      have bound : acc.length ≤ 6 * 6 := by
        rw [la]
        exact Nat.mul_le_mul (by rw [List.length_take]; omega) (by omega)
      refine ⟨fo, Dc, acc, acc2, rfl, rfl, hfo18, hDc, by rw [sizeLine_eq]; omega, ⟨_, _, rfl⟩, fun y o e => (upd_ne (nfoH y o e)).trans (s18 _ _ (s17 _ _ e)), acc ++ acc2, upd_same, ?_⟩
      have ep : prodL (N1.take (i + 1)) N2 = prodL (N1.take i) N2 ++ N2.map (bes m) := by
        unfold prodL
        rw [List.take_add_one, hm, List.flatMap_append]
        show _ ++ (N2.map (bes m) ++ []) = _
        rw [List.append_nil]
      rw [ep]
      exact pr_app ((ma.same s18).upd hfo18 fun _ z => nomatch z) (ma2.upd hfo18 fun _ z => nomatch z)
    · rintro σ H17 ⟨⟨y13, y14, rfl⟩, s17, acc, hfo17, ma⟩
      rw [l1, List.take_of_length_le (Nat.le_refl _)] at ma
      have la := mr_len ma
      rw [prod_len] at la
      have bound : acc.length ≤ 6 * 6 := by
        rw [la]
        exact Nat.mul_le_mul (by omega) (by omega)
      refine ⟨_, rfl, bo, _, _, rfl, s17 _ _ hbo, bo, n1 + n2, besM n1 n2 ms1 ms2, F, W, M, rfl, Kp.grp (.of s17) GB, fun am um Sm mm => ?_⟩
      obtain ⟨bs, bs1, bs2, bs3⟩ := mr_bs ma
      have lbs : bs.length = (prodL N1 N2).length := by rw [← List.length_map (f := Prod.snd), bs2, List.length_map]
      rw [prod_len, ← la] at lbs
      refine ⟨_, rfl, fo, bs, rfl, by rw [bs1]; exact lst_sql' hfo17, by omega, fun b hb => ?_, fun zs p2 pz az np => ?_⟩
      · obtain ⟨t', m', h1, h2, h3, h4⟩ := bs3 b hb
        refine ⟨fun z => ?_, t', h2, ?_⟩
        · rw [h3] at z
          have e1 := congrArg List.length z
          unfold nums at e1
          rw [List.length_map, List.length_nil, (mvP.pm m' h1).len] at e1
          omega
        · rw [h3]
          unfold nums
          rw [← mv_ints]
          exact .inl (.inl h4)
      have tz : ∀ z ∈ zs, ∃ t, z.1 = .ref t ∧ H17 t = some (.tup (z.2.map V.int)) := fun z hz => by
        obtain ⟨t', m', h1, h2, h3, h4⟩ := bs3 z (pz.mem_iff.mp hz)
        refine ⟨t', h2, ?_⟩
        rw [h3]
        unfold nums
        rw [← mv_ints]
        exact h4
      obtain ⟨M', pM', asc', mM'⟩ := sorted_moves (F := prodL N1 N2) (by
        have := pz.map Prod.snd
        rw [bs2] at this
        exact this) az tz
      have eM' : M = M' := asc_uniq GB.1.asc asc' (permM.trans pM'.symm)
      have k18 := same_new (o := .lst (zs.map Prod.fst)) np
      have hp2 : (upd H17 p2 (.lst (zs.map Prod.fst))) p2 = some (.lst (zs.map Prod.fst)) := upd_same
      generalize upd H17 p2 _ = H18 at k18 hp2 ⊢
      refine ⟨p2, _, rfl, .inl ⟨lst_sql' hp2, fun r nr => ?_⟩⟩
      have k19 := k18.trans (same_new (o := .tup (zs.map Prod.fst)) nr)
      refine ⟨dMs M, dMs M', dp_mr (Kp.plt (.of k19) Sm).sqt (mm.same k19), dp_mr (.inl (.inl upd_same)) (mM'.same k19), shaped_dMs _, shaped_dMs _, ?_⟩
      rw [dMs_eqv, decide_eq_true eM']
      have sZ := s17.trans k19
      exact q _ (un15.keep sZ) (tabs_same tabs15 sZ)
end
end K08


set_option Elab.async false
set_option linter.all false
set_option maxRecDepth 100000
/-! the groups of the law's last lines -/
namespace GT
theorem ok_of {b : Bs} (mb : b ∈ menuBs) {ms : List (List Nat)} (sub : ∀ m ∈ ms, m ∈ b.G) (l : ms.length ≤ 6) : GrpOk b.n ms := by
  obtain ⟨hM, few, l24, _⟩ := Bs.all (menu_all b mb).1
  have := menu_few b mb
  exact ⟨this.2.1, by omega, l, fun m hm => hM.pm m (sub m hm), b.G, hM, sub, by omega, few⟩
theorem ok_three : GrpOk 3 [[1, 0, 2], [1, 2, 0]] := ok_of (b := b5) (by unfold menuBs; simp) (by decide +kernel) (by decide)
theorem ok_t3 : GrpOk 3 [[1, 2, 0]] := ok_of (b := b2) (by unfold menuBs; simp) (by decide +kernel) (by decide)
theorem ok_t2 : GrpOk 2 [[1, 0]] := ok_of (b := b1) (by unfold menuBs; simp) (by decide +kernel) (by decide)
theorem ok_none : GrpOk 3 [] := ok_of (b := b2) (by unfold menuBs; simp) (fun m hm => by cases hm) (by decide)
def six : List (List Nat) := [[1, 2, 0, 3, 4], [0, 1, 2, 4, 3]]
theorem six_is : besM 3 2 [[1, 2, 0]] [[1, 0]] = six := by decide +kernel
theorem ok_six : GrpOk 5 six := by
  have d1 : DrB b2 (List.range 3) 6 b2.n [[1, 2, 0]] := (show [[1, 2, 0]] = b2.ms.map (cj (List.range 3)) by decide +kernel) ▸ (Ds.start (b := b2) (by unfold menuBs; simp) (pm_unit 3)).done (by decide +kernel) (by decide +kernel)
  have d2 : DrB b1 (List.range 2) 6 b1.n [[1, 0]] := (show [[1, 0]] = b1.ms.map (cj (List.range 2)) by decide +kernel) ▸ (Ds.start (b := b1) (by unfold menuBs; simp) (pm_unit 2)).done (by decide +kernel) (by decide +kernel)
  have := prod_ok d1 d2 (by decide) (by decide +kernel)
  rw [show besM b2.n b1.n [[1, 2, 0]] [[1, 0]] = six from six_is] at this
  exact this
theorem ev_found {n : Nat} {ms F W : List (List Nat)} (h : Wd n ms F W) (f : Full ms F) : ∀ w : List Nat, (∀ k ∈ w, k < ms.length) → ev n ms w ∈ F := by
  intro w hw
  have key : ∀ (w : List Nat) (x : List Nat), (∀ k ∈ w, k < ms.length) → x ∈ F → w.foldl (fun x k => comp x (at_ ms k)) x ∈ F := by
    intro w
    induction w with
    | nil => exact fun _ _ h => h
    | cons k w ih => exact fun x hw hx => ih _ (fun q hq => hw q (List.mem_cons_of_mem _ hq)) (f x hx k (hw k List.mem_cons_self))
  exact key w _ hw (by rw [← h.zero.1]; exact at_mem h.one)
def L6 : List (List Nat) := [[0, 1, 2, 3, 4], [0, 1, 2, 4, 3], [1, 2, 0, 3, 4], [1, 2, 0, 4, 3], [2, 0, 1, 3, 4], [2, 0, 1, 4, 3]]
theorem six_moves {F W M : List (List Nat)} (h : Wd 5 six F W) (f : Full six F) (hM : Mvs 5 M) (mf : ∀ x, x ∈ M ↔ x ∈ F) (asc : M.Pairwise fun x y => toI x ≤ toI y) : M = L6 := by
  refine asc_uniq asc (by decide +kernel) ((List.perm_ext_iff_of_nodup hM.nd (by decide +kernel)).mpr fun x => ?_)
  rw [mf]
  constructor
  · intro hx
    obtain ⟨j, hj, rfl⟩ := mem_at hx
    refine h.sub (G := L6) (by decide +kernel) (fun x hx k hk => ?_) j hj
    have all : ∀ x ∈ L6, ∀ m ∈ six, comp x m ∈ L6 := by decide +kernel
    exact all x hx _ (at_mem hk)
  · intro hx
    have all : ∀ x ∈ L6, ∃ w ∈ ([[], [1], [0], [0, 1], [0, 0], [0, 0, 1]] : List (List Nat)), ((w.all fun k => decide (k < six.length)) = true) ∧ ev 5 six w = x := by decide +kernel
    obtain ⟨w, _, hw, rfl⟩ := all x hx
    exact ev_found h f w fun k hk => of_decide_eq_true (List.all_eq_true.mp hw k hk)
/-- an ascending list of numbers, by what it holds -/
theorem ascI_uniq : ∀ {A B : List Int}, A.Pairwise (· ≤ ·) → B.Pairwise (· ≤ ·) → A.Perm B → A = B
  | [], B, _, _, p => (List.nil_perm.mp p).symm
  | x :: A, [], _, _, p => absurd (List.perm_nil.mp p) (by simp)
  | x :: A, y :: B, ha, hb, p => by
    obtain ⟨a1, a2⟩ := List.pairwise_cons.mp ha
    obtain ⟨b1, b2⟩ := List.pairwise_cons.mp hb
    have exy : x = y := by
      have h1 : x ∈ y :: B := p.mem_iff.mp List.mem_cons_self
      have h2 : y ∈ x :: A := p.mem_iff.mpr List.mem_cons_self
      rcases List.mem_cons.mp h1 with e | h1
      · exact e
      rcases List.mem_cons.mp h2 with e | h2
      · exact e.symm
      have := a1 y h2
      have := b1 x h1
      omega
    subst exy
    rw [ascI_uniq a2 b2 (List.Perm.cons_inv p)]
end GT

set_option Elab.async false
set_option linter.all false
set_option maxRecDepth 100000
set_option maxHeartbeats 2000000
/-! != of lists whose items are alike, one by one; == and != of lists with dicts in them -/
namespace PySem.SeqAt
open AutoSeq1 (wpAny_loadPart')
open MeetsSeq MeetsSeq2 MeetsSeq3 SeqRoads2
section
variable {prog : Program} {w : World}
theorem alike_loop {l b : Addr} {us ws : Array Value} {n n2 : Nat} {dd dd2 : Option Addr} {sl sl2 : Array (Option Value)} (same : us.size = ws.size) :
    ∀ left at_ : Nat, us.size - at_ = left → MeetsIn prog w (Builtin.«list.__eq__.loop» ⟨[.ref l, .ref b, rawInt at_, rawInt 3], []⟩)
      (fun B R t => t.heap.get? l = some { cls := .type "list", dict := dd, data := .seq us n, slots := sl } ∧ t.heap.get? b = some { cls := .type "list", dict := dd2, data := .seq ws n2, slots := sl2 } ∧
        (∀ j (p : j < us.size) (q : j < ws.size), EqP prog w B.in1 t us[j] ws[j] true) ∧ R (.ok (.ret (.bool false))) t)
  | 0, at_, e, B, R, t, hyp => by
    obtain ⟨h0, g0, d0, k0, o0⟩ := t
    obtain ⟨at_l, at_b, alike, out⟩ := hyp
    have u0 : us[((at_ : Nat) : Int).toNat]? = none := by simp; omega
    have w0 : ws[((at_ : Nat) : Int).toNat]? = none := by simp; omega
    wp_walk using wpAny_loadPart' at_l, wpAny_loadPart' at_b
    rw [u0, w0]
    wp_walk using wpAny_loadPart' at_l, wpAny_loadPart' at_b
    show R (.ok (.ret (.bool (us.size != ws.size)))) _
    rw [same, show (ws.size != ws.size) = false from by simp]
    exact out
  | left + 1, at_, e, B, R, t, hyp => by
    obtain ⟨h0, g0, d0, k0, o0⟩ := t
    obtain ⟨at_l, at_b, alike, out⟩ := hyp
    have p : at_ < us.size := by omega
    have q : at_ < ws.size := by omega
    have u0 : us[((at_ : Nat) : Int).toNat]? = some us[at_] := by simp [p]
    have w0 : ws[((at_ : Nat) : Int).toNat]? = some ws[at_] := by simp [q]
    wp_walk using wpAny_loadPart' at_l, wpAny_loadPart' at_b
    rw [u0, w0]
    refine wpAny_bind (alike at_ p q _ _ ?_)
    wp_walk
    rw [show ((at_ : Int) + 1) = ((at_ + 1 : Nat) : Int) by push_cast; rfl]
    refine ⟨plainId_quiet plain_eq_loop _, codeAny_builtin entry_eq_loop ?_⟩
    rw [Around.under_plainId plain_eq_loop _]
    exact alike_loop same left (at_ + 1) (by omega) B R _ ⟨at_l, at_b, alike, out⟩
theorem alike_ne {l b : Addr} {us ws : Array Value} {n n2 : Nat} {dd dd2 : Option Addr} {sl sl2 : Array (Option Value)} (same : us.size = ws.size) :
    MeetsIn prog w (Builtin.«list.__ne__» ⟨[.ref l, .ref b], []⟩)
      (fun B R t => t.heap.get? l = some { cls := .type "list", dict := dd, data := .seq us n, slots := sl } ∧ t.heap.get? b = some { cls := .type "list", dict := dd2, data := .seq ws n2, slots := sl2 } ∧
        (∀ j (p : j < us.size) (q : j < ws.size), EqP prog w B.in1 t us[j] ws[j] true) ∧ R (.ok (.ret (.bool false))) t) := by
  rintro B R ⟨h0, g0, d0, k0, o0⟩ ⟨at_l, at_b, alike, out⟩
  have sub := AutoSeq1.sub_list_list
  have no : ¬ (us.size != ws.size) = true := by simp [same]
  wp_walk using wpAny_loadPart' at_l, wpAny_loadPart' at_b
  refine ⟨plainId_quiet plain_eq_loop _, codeAny_builtin entry_eq_loop ?_⟩
  rw [Around.under_plainId plain_eq_loop _]
  exact alike_loop same _ 0 rfl B R _ ⟨at_l, at_b, alike, out⟩
theorem ne_alike {B : Around} {t : Shared} {l b : Addr} {us ws : Array Value} (hl : t.heap.IsList l us) (hb : t.heap.IsList b ws) (same : us.size = ws.size) (hu : B.units < cLine)
    (alike : ∀ j (p : j < us.size) (q : j < ws.size), EqP prog w B.in1 t us[j] ws[j] true) (E Q : Value → Shared → Prop) (out : Q (.bool false) t) : wpAny (model prog w) B (richCompare .NotEq (.ref l) (.ref b)) Q E t := by
  obtain ⟨⟨c1, d1, x1, s1⟩, o1, e1, n1, f1⟩ := id hl
  obtain ⟨⟨c2, d2, x2, s2⟩, o2, e2, n2, f2⟩ := id hb
  simp only at e1 f1 e2 f2
  subst e1 f1 e2 f2
  have tl : t.TypeIs (.ref l) "list" := ⟨_, o1, rfl⟩
  have tb : t.TypeIs (.ref b) "list" := ⟨_, o2, rfl⟩
  exact wpAny_richCompare_same_room (op := .NotEq) tl tb F.slot_list_ne (call_meetsIn F.slot_list_ne tl F.entry_list_ne (F.args_list_ne_2 _ _) (alike_ne same)
    ⟨o1, o2, alike, show Value.bool false ≠ Value.notImplemented ∧ Q (.bool false) t from ⟨(fun x => nomatch x), out⟩⟩) hu
end
end PySem.SeqAt
namespace K01
open PySem PySem.Spec PyProof.Rows L2 MM
/-- alike: data of one form, or dicts of the same flat entries -/
def Alike (K : PySem.W.Frag) (H : Hp) (x y : V) : Prop :=
  (∃ d, Dp K H x d ∧ Dp K H y d ∧ SeqAt.shaped d = true ∧ PyData.eqv d d = true) ∨
    ∃ a b ks ls, x = .ref a ∧ y = .ref b ∧ H a = some (.dK ks) ∧ H b = some (.dK ls) ∧ ks.length = ls.length ∧ ∀ p ∈ ks, valV ls p.1 = some p.2 ∧ flatB p.2 = true
section
variable {X : Cx} {pins : List (Addr × Obj)} {σ : L2.St} {H : Hp} {s : Shared}
theorem alike_run (I : Inv X pins σ H s) {A : Around} (hu : A.units + 64 < cLine) {x y : V} {v u : Value} (h : Alike X.K H x y) (rx : RelV x v) (ry : RelV y u) : SeqAt.EqP X.prog X.w A s v u true := by
  rcases h with ⟨d, h1, h2, sd, e⟩ | ⟨a, b, ks, ls, rfl, rfl, ha, hb, hl, hp⟩
  · obtain ⟨as, r1⟩ := Dp.reads I d x v h1 rx
    obtain ⟨bs, r2⟩ := Dp.reads I d y u h2 ry
    have k := SeqAt.eqAt_reads d d A s v u as bs r1 r2 (SeqAt.canLay_of_shaped sd) (SeqAt.canLay_of_shaped sd) (SeqAt.room_of_shaped sd hu)
    rw [e] at k
    exact k.eqP
  · cases (show v = Value.ref a from rx)
    cases (show u = Value.ref b from ry)
    by_cases e : a = b
    · subst e
      exact (SeqAt.EqAt.same _).eqP
    · exact SeqAt.eqP_refs e (eqR_run I (F := fun x y => x = y ∧ flatB x = true) (by omega) (fun x y v u f r1 r2 => by
        obtain ⟨rfl, f⟩ := f
        exact (eqAt_same r1 r2 f).eqP) (.inr ⟨a, b, ks, ls, rfl, rfl, ha, hb, hl, fun p hp' => ⟨_, (hp p hp').1, rfl, (hp p hp').2⟩⟩) rfl rfl)
end
section
variable {X : Cx}
def rEqS (K : PySem.W.Frag) : R2 := fun x y H Q => ∃ a b xs ys, x = .ref a ∧ y = .ref b ∧ SqL K H a xs ∧ SqL K H b ys ∧ Paired (Alike K H) xs ys ∧ Q (.bl true) H
def rNeS (K : PySem.W.Frag) : R2 := fun x y H Q => ∃ a b xs ys, x = .ref a ∧ y = .ref b ∧ SqL K H a xs ∧ SqL K H b ys ∧ Paired (Alike K H) xs ys ∧ Q (.bl false) H
theorem op_eqS (hu : X.A.units + 66 < cLine) : OpR X (compareOp .Eq) (rEqS X.K) := by
  intro pins s σ H x y v u Q I rx ry h
  obtain ⟨a, b, xs, ys, rfl, rfl, ha, hb, hp, q⟩ := h
  cases (show v = Value.ref a from rx)
  cases (show u = Value.ref b from ry)
  obtain ⟨us, r1, p1, _⟩ := I.list ha
  obtain ⟨ws, r2, p2, _⟩ := I.list hb
  have hsz : us.toArray.size = ws.toArray.size := by
    rw [List.size_toArray, List.size_toArray, ← r1.length, ← r2.length]
    exact Paired.length hp
  refine SeqAt.rcP_lists (e := fun _ => true) p1.isList p2.isList hsz (by omega) (fun j h1 h2 => ?_) _ _ ?_
  · have k := items_run (fun x y v u f => alike_run I (A := X.A.in1) (by show X.A.units + 1 + 64 < cLine; omega) f) hp r1 r2 j (by simpa using h1) (by simpa using h2)
    simpa using k
  · rw [show ((List.range us.toArray.size).all fun _ => true) = true from List.all_eq_true.mpr fun _ _ => rfl]
    exact ⟨.bl true, H, I, rfl, q⟩
theorem op_neS (hu : X.A.units + 66 < cLine) : OpR X (compareOp .NotEq) (rNeS X.K) := by
  intro pins s σ H x y v u Q I rx ry h
  obtain ⟨a, b, xs, ys, rfl, rfl, ha, hb, hp, q⟩ := h
  cases (show v = Value.ref a from rx)
  cases (show u = Value.ref b from ry)
  obtain ⟨us, r1, p1, _⟩ := I.list ha
  obtain ⟨ws, r2, p2, _⟩ := I.list hb
  have hsz : us.toArray.size = ws.toArray.size := by
    rw [List.size_toArray, List.size_toArray, ← r1.length, ← r2.length]
    exact Paired.length hp
  refine SeqAt.ne_alike p1.isList p2.isList hsz (by omega) (fun j h1 h2 => ?_) _ _ ⟨.bl false, H, I, rfl, q⟩
  have k := items_run (fun x y v u f => alike_run I (A := X.A.in1) (by show X.A.units + 1 + 64 < cLine; omega) f) hp r1 r2 j (by simpa using h1) (by simpa using h2)
  simpa using k
end
end K01

set_option Elab.async false
set_option linter.all false
set_option maxRecDepth 100000
set_option maxHeartbeats 8000000
namespace K08
open PySem PySem.Spec PyProof.Rows L2 MM GT LamX
open K01 (Alike rEqS op_eqS)
/-! own words for the readings: a step, its side -/
local macro_rules | `(tactic| walk_at "side") => `(tactic| first
  | omega
  | exact ⟨by omega, by omega⟩
  | exact Or.inl ⟨by omega, by omega⟩
  | exact Or.inr ⟨by omega, by omega⟩
  | (show CPw _ _; decide +kernel)
  | (show (0 : Int) < _; decide +kernel)
  | (show CDivW _ _; first | assumption | exact ⟨by decide, by decide +kernel⟩))
local macro_rules | `(tactic| walk_at "here") => `(tactic| first
  | assumption
  | exact upd_same
  | exact Or.inl (Or.inl upd_same)
  | exact Or.inl upd_same)
local macro_rules | `(tactic| walk_at "one") => `(tactic| first
  | refine ⟨_, rfl, ?_⟩
  | refine Or.inl ⟨_, rfl, ?_⟩
  | refine Or.inr ⟨_, rfl, ?_⟩
  | refine ⟨_, _, rfl, rfl, (by walk_at "side"), ?_⟩
  | refine ⟨_, _, rfl, rfl, ?_⟩
  | refine ⟨_, _, rfl, Or.inl (by walk_at "here"), ?_⟩
  | refine ⟨_, _, rfl, Or.inr (by walk_at "here"), ?_⟩
  | refine ⟨_, _, rfl, (by walk_at "here"), ?_⟩
  | refine ⟨_, _, _, _, rfl, rfl, (by walk_at "here"), rfl, ?_⟩
  | refine ⟨_, _, rfl, ?_⟩
  | refine ifT (by rfl) ?_
  | refine ifF (by rfl) ?_
  | refine ifT (decide_eq_true (by omega)) ?_
  | refine ifF (decide_eq_false (by omega)) ?_)
local macro_rules | `(tactic| walk_at "st") => `(tactic| repeat (walk_at "one"))

section
variable {P : Program} {w : World} {K : PySem.W.Frag} {mg : Str → Option Value} {base : Heap}
theorem h_cons {te : TE} {ta : TA} {σ : L2.St} {H : Hp} {Q : List V → Hp → Prop} (h : te σ H fun x H1 => ta σ H1 fun xs H2 => Q (x :: xs) H2) : tCons te ta σ H Q := h
theorem h_c {v : V} {σ : L2.St} {H : Hp} {Q : VK} (h : Q v H) : tC v σ H Q := h
theorem h_make {C : Addr} {sp : Sp} {E : XK} {t : TA} {σ : L2.St} {H : Hp} {Q : VK} (h : t σ H fun vs H1 => ∀ x dx, H1 x = none → H1 dx = none → dx ≠ x → sp (.ref x :: (vs ++ [])) (upd (upd H1 dx (.own x)) x (.ins C dx [])) (fun v H2 => v = .non ∧ Q (.ref x) H2) E) : tMake C sp [] E t σ H Q := h
theorem h_lst {t : TA} {σ : L2.St} {H : Hp} {Q : VK} (h : t σ H fun xs H1 => xs.length ≤ sizeLine ∧ ∀ p, H1 p = none → Q (.ref p) (upd H1 p (.lst xs))) : tLst t σ H Q := h
theorem ord_uniq {t : Nat → Nat → Nat} {m k l : Nat} (h : IsOrd t m k) (h' : IsOrd t m l) : k = l := by
  obtain ⟨a1, a2, a3⟩ := h
  obtain ⟨b1, b2, b3⟩ := h'
  rcases Nat.lt_trichotomy k l with lt | e | lt
  · exact absurd a2 (b3 k (by omega) lt)
  · exact e
  · exact absurd b2 (a3 l (by omega) lt)
def ordB (t : Nat → Nat → Nat) (m k : Nat) : Bool := decide (1 ≤ k) && (decide (pw t m k = 0) && (List.range k).all fun i => decide (i = 0) || decide (pw t m i ≠ 0))
theorem ordB_ok {t : Nat → Nat → Nat} {m k : Nat} (h : ordB t m k = true) : IsOrd t m k := by
  unfold ordB at h
  simp only [Bool.and_eq_true, decide_eq_true_eq] at h
  refine ⟨h.1, h.2.1, fun i h0 hi => ?_⟩
  have := List.all_eq_true.mp h.2.2 i (List.mem_range.mpr hi)
  rw [Bool.or_eq_true, decide_eq_true_eq, decide_eq_true_eq] at this
  exact this.resolve_left (by omega)
theorem six_orders {os : List Nat} (l : os.length = L6.length) (h : ∀ i, i < L6.length → IsOrd (tb L6) i (os.getD i 0)) : os = [1, 2, 3, 6, 3, 6] := by
  have key : ∀ i, i < 6 → os.getD i 0 = [1, 2, 3, 6, 3, 6].getD i 0 := fun i hi => by
    refine ord_uniq (h i hi) (ordB_ok ?_)
    have all : ∀ i < 6, ordB (tb L6) i ([1, 2, 3, 6, 3, 6].getD i 0) = true := by decide +kernel
    exact all i hi
  have l6 : os.length = 6 := l
  refine List.ext_getElem (by rw [l6]; rfl) fun i h1 h2 => ?_
  have := key i (by omega)
  rw [GT.gD h1, GT.gD h2] at this
  exact this
theorem six_counts {os : List Nat} {zs : List Int} (l : os.length = L6.length) (h : ∀ i, i < L6.length → IsOrd (tb L6) i (os.getD i 0)) (p : zs.Perm (GT.toI os)) (az : zs.Pairwise (· ≤ ·)) : cnt zs = [(.inl 1, .int 1), (.inl 2, .int 1), (.inl 3, .int 2), (.inl 6, .int 2)] := by
  rw [six_orders l h] at p
  have : zs = [1, 2, 3, 3, 6, 6] := ascI_uniq az (by decide) (p.trans (by decide))
  rw [this]
  rfl
theorem alikeM {H : Hp} {a b : Addr} {m : List Nat} (h1 : SqT K H a (mv m)) (h2 : SqT K H b (mv m)) : Alike K H (.ref a) (.ref b) := .inl ⟨dM m, dp_mv h1, dp_mv h2, shaped_dM m, by rw [dM_eqv]; exact decide_eq_true rfl⟩
theorem alikeMs {H : Hp} {a b : Addr} {us us' : List V} {M : List (List Nat)} (h1 : SqT K H a us) (m1 : MR H us M) (h2 : SqT K H b us') (m2 : MR H us' M) : Alike K H (.ref a) (.ref b) := .inl ⟨dMs M, dp_mr h1 m1, dp_mr h2 m2, shaped_dMs M, by rw [dMs_eqv]; exact decide_eq_true rfl⟩
def spLaw (K : PySem.W.Frag) : Sp := fun vs H Q _ => ∃ (a : Addr) (ns : List Int), vs = [.ref a] ∧ SqL K H a (ns.map V.int) ∧ ns.length ≤ 63 ∧ Tabs (TL K) H ∧ ∀ H', Q (.bl true) H'
theorem scLaw : FnScope ["_law_script", "_law_spot", "_law_bag_here", "_law_three", "_law_six", "_law_told", "_law_due"] ["_law_script"] (defScope sLaw) :=
  ⟨rfl, rfl, rfl, by decide +kernel, rfl, by decide +kernel, by decide +kernel⟩
theorem dLaw (T : Tx K mg) (Y : Ex K mg) (DBagL : Def P w K mg base CX0 1 "_law_bag" ["_law_script", "_law_spot"] (spBag K)) (DProductsRightL : Def P w K mg base CX0 11 "_law_products_right" ["_law_bag_here"] (spWordsRight K)) (DWordsRightL : Def P w K mg base CX0 10 "_law_words_right" ["_law_bag_here"] (spWordsRight K)) (DBeside : Def P w K mg base CX0 9 "beside" ["one", "other"] (spBeside K)) (FGroupTurning : FAt P w K mg base CX0 9 (kA K (cA K "Group") "turning") ["cls", "number"] (spTurning K)) (FGroupInit : FAt P w K mg base CX0 7 (mA K (cA K "Group") "__init__") ["self", "places", "makers"] (spGrpInit K)) (FGroupOrderCounts : FAt P w K mg base CX0 4 (mA K (cA K "Group") "order_counts") ["self"] (spCounts K)) (FGroupMakers : FAt P w K mg base CX0 1 (pA K (cA K "Group") "makers") ["self"] (spMakers K)) (FGroupPlaces : FAt P w K mg base CX0 1 (pA K (cA K "Group") "places") ["self"] (spPlaces K)) (FGroupOfWord : FAt P w K mg base CX0 4 (mA K (cA K "Group") "of_word") ["self", "word"] (spOfWord K)) (FGroupWord : FAt P w K mg base CX0 8 (mA K (cA K "Group") "word") ["self", "move"] (spWord K)) : Def P w K mg base CX0 12 "law" ["_law_script"] (spLaw K) := by
  refine T.t_law.def_ (N := ["_law_script", "_law_spot", "_law_bag_here", "_law_three", "_law_six", "_law_told", "_law_due"]) scLaw (fun _ _ _ _ _ _ us hl => match us, hl with | [_], _ => rfl) ?_ ?_
  · intro vs H Q E h
    obtain ⟨a, ns, rfl, _⟩ := h
    rfl
  · intro f cd A out s H vs Q E hr h
    have hr1 : Rm 11 _ := hr.le (by decide)
    obtain ⟨a, ns, rfl, hS, len, tabs, q⟩ := h
    refine ⟨_, (pss_cons (ps_for PassesOwn.never rfl (pi_range1 rfl T.f_range (pa_cons (pe_callB (call_max2 rfl) rfl T.f_max (by decide +kernel) (pa_cons pe_int (pa_cons (pe_callB (call_min2 rfl) rfl T.f_min (by decide +kernel) (pa_cons pe_int (pa_cons (pe_callB call_len_seq rfl T.f_len (by decide +kernel) (pa_cons (pv 0) pa_nil)) pa_nil))) pa_nil))) pa_nil)) (pg_name (i := 1) scLaw.nd rfl (Or.inl rfl))
        (pss_cons (ps_set (i := 2) scLaw.nd rfl (Or.inl rfl) (pe_d DBagL (hr1.le (by decide)) pass0 (pa_cons (pv 0) (pa_cons (pv 1) pa_nil))))
        (pss_one (ps_if (PW.pt (pw_or (pt_not (pt_val (pe_d DWordsRightL (hr1.le (by decide)) pass0 (pa_cons (pv 2) pa_nil)))) (pw_or (pt_not (pt_val (pe_d DWordsRightL (hr1.le (by decide)) pass0 (pa_cons (pv 2) pa_nil)))) (pw_or1 (pt_not (pt_val (pe_d DProductsRightL (hr1.le (by decide)) pass0 (pa_cons (pv 2) pa_nil)))))))) (pss_one (ps_ret pe_bl)) pss_nil))))
      (pss_cons (ps_par (i := 3) (j := 4) rfl scLaw.nd rfl rfl (by decide) rfl rfl (pa_cons (pe_makeG Y.uGroup FGroupInit (hr1.le (by decide)) Y.gGroup pass0 (pa_cons pe_int (pa_cons (pe_tup (pa_cons (pe_tup (pa_cons pe_int (pa_cons pe_int (pa_cons pe_int pa_nil)))) (pa_cons (pe_tup (pa_cons pe_int (pa_cons pe_int (pa_cons pe_int pa_nil)))) pa_nil))) pa_nil))) (pa_cons (pe_d DBeside (hr1.le (by decide)) pass0 (pa_cons (pe_cmethG (C8.pe_gc (v := .ref (cA K "Group")) rfl ⟨_, Y.gGroup, rfl⟩) Y.rGroup Y.qGroupTurning FGroupTurning (hr1.le (by decide)) pass0 (pa_cons pe_int pa_nil)) (pa_cons (pe_cmethG (C8.pe_gc (v := .ref (cA K "Group")) rfl ⟨_, Y.gGroup, rfl⟩) Y.rGroup Y.qGroupTurning FGroupTurning (hr1.le (by decide)) pass0 (pa_cons pe_int pa_nil)) pa_nil))) pa_nil)) (by rfl))
      (pss_cons (ps_set (i := 5) scLaw.nd rfl (Or.inl rfl) (pe_lst (pa_cons (pe_methG (pv 3) Y.kGroup Y.mGroupOfWord FGroupOfWord (hr1.le (by decide)) pass0 (pa_cons (pe_tup (pa_cons pe_int (pa_cons pe_int pa_nil))) pa_nil)) (pa_cons (pe_methG (pv 3) Y.kGroup Y.mGroupOfWord FGroupOfWord (hr1.le (by decide)) pass0 (pa_cons (pe_tup (pa_cons pe_int (pa_cons pe_int pa_nil))) pa_nil)) (pa_cons (pe_methG (pv 3) Y.kGroup Y.mGroupOfWord FGroupOfWord (hr1.le (by decide)) pass0 (pa_cons (pe_tup pa_nil) pa_nil)) (pa_cons (pe_propG (pv 4) Y.kGroup Y.pGroupPlaces FGroupPlaces (hr1.le (by decide)) pass0) (pa_cons (pe_propG (pv 4) Y.kGroup Y.pGroupMakers FGroupMakers (hr1.le (by decide)) pass0) (pa_cons (pe_methG0 (pv 4) Y.kGroup Y.mGroupOrderCounts FGroupOrderCounts (hr1.le (by decide)) pass0) pa_nil))))))))
      (pss_cons (ps_set (i := 6) scLaw.nd rfl (Or.inl rfl) (pe_lst (pa_cons (pe_tup (pa_cons pe_int (pa_cons pe_int (pa_cons pe_int pa_nil)))) (pa_cons (pe_tup (pa_cons pe_int (pa_cons pe_int (pa_cons pe_int pa_nil)))) (pa_cons (pe_tup (pa_cons pe_int (pa_cons pe_int (pa_cons pe_int pa_nil)))) (pa_cons pe_int (pa_cons (pe_tup (pa_cons (pe_tup (pa_cons pe_int (pa_cons pe_int (pa_cons pe_int (pa_cons pe_int (pa_cons pe_int pa_nil)))))) (pa_cons (pe_tup (pa_cons pe_int (pa_cons pe_int (pa_cons pe_int (pa_cons pe_int (pa_cons pe_int pa_nil)))))) pa_nil))) (pa_cons (pe_disp (pps_cons pe_int pe_int (pps_cons pe_int pe_int (pps_cons pe_int pe_int (pps_cons pe_int pe_int pps_nil)))) rfl rfl (by decide) (by decide)) pa_nil))))))))
      (pss_one (ps_ret (pe_and (pe_cmpR (op_eqS hr.hu66) (pv 5) (pv 6) (nomark _)) (pe_and (pe_cmpR (op_eqD hr.hu) (pe_methG (pv 4) Y.kGroup Y.mGroupOfWord FGroupOfWord (hr1.le (by decide)) pass0 (pa_cons (pe_methG (pv 4) Y.kGroup Y.mGroupWord FGroupWord (hr1.le (by decide)) pass0 (pa_cons (pe_tup (pa_cons pe_int (pa_cons pe_int (pa_cons pe_int (pa_cons pe_int (pa_cons pe_int pa_nil)))))) pa_nil)) pa_nil)) (pe_tup (pa_cons pe_int (pa_cons pe_int (pa_cons pe_int (pa_cons pe_int (pa_cons pe_int pa_nil)))))) (nomark _)) (pe_one (pe_cmpR (op_eqD hr.hu) (pe_methG (pe_makeG Y.uGroup FGroupInit (hr1.le (by decide)) Y.gGroup pass0 (pa_cons pe_int (pa_cons (pe_tup pa_nil) pa_nil))) Y.kGroup Y.mGroupWord FGroupWord (hr1.le (by decide)) pass0 (pa_cons (pe_tup (pa_cons pe_int (pa_cons pe_int (pa_cons pe_int pa_nil)))) pa_nil)) (pe_tup pa_nil) (nomark _))))))))))), ?_⟩
    refine seq_rest' (fun σ H' => Tabs (TL K) H' ∧ SqL K H' a (ns.map V.int) ∧ ∃ y1 y2, σ = [some (.ref a), y1, y2, none, none, none, none]) ?_ ?_
    rotate_left
    · intro R hR
      refine ⟨_, rfl, a, _, rfl, .inl hS, _, _, rfl, _, _, rfl, ?_⟩
      obtain ⟨j, ej, j1, j2⟩ : ∃ j : Int, j = (if (if ((ns.map V.int).length : Int) < 3 then ((ns.map V.int).length : Int) else 3) > 1 then (if ((ns.map V.int).length : Int) < 3 then ((ns.map V.int).length : Int) else 3) else 1) ∧ 1 ≤ j ∧ j ≤ 3 := by
        refine ⟨_, rfl, ?_, ?_⟩
        all_goals
          split
          · split <;> omega
          · omega
      refine ⟨j, by rw [ej], by omega, by omega, for_range (fun i σ H' => Tabs (TL K) H' ∧ SqL K H' a (ns.map V.int) ∧ ∃ y1 y2, σ = [some (.ref a), y1, y2, none, none, none, none]) ⟨tabs, hS, none, none, rfl⟩ ?_ fun σ' H' h => hR σ' H' h⟩
      rintro i σ H' hi ⟨tabs1, hS, y1, y2, rfl⟩
      refine ⟨_, rfl, _, rfl, a, i, ns, ?_, hS, by omega, fun H1 p sm np hb => ?_⟩
      · show [V.ref a, V.int (0 + (i : Int))] = _
        rw [Int.zero_add]
      have tabs2 := tabs_same tabs1 sm
      have ap : ∀ b o, H' b = some o → b ≠ p := fun b o e => ne_of_none e np
      refine ⟨_, rfl, p, rfl, hb, tabs2, fun H2 un2 tabs3 => ?_⟩
      refine ⟨_, rfl, ?_⟩
      refine ifF rfl ?_
      refine ⟨_, rfl, p, rfl, un2.bag, tabs3, fun H3 un3 tabs4 => ?_⟩
      refine ⟨_, rfl, ?_⟩
      refine ifF rfl ?_
      refine ⟨_, rfl, p, rfl, un3.bag, tabs4, fun H4 un4 tabs5 => ?_⟩
      refine ⟨_, rfl, ?_⟩
      refine ifF rfl ?_
      have un := (un2.trans un3).trans un4
      refine ⟨tabs5, ?_, _, _, rfl⟩
      rcases hS with (h | ⟨o, h⟩) | h
      · exact .inl (.inl (un.same _ _ (ap _ _ h) (sm _ _ h) fun _ z => nomatch z))
      · exact .inl (.inr ⟨o, un.same _ _ (ap _ _ h) (sm _ _ h) fun _ z => nomatch z⟩)
      · exact .inr h
    rintro σ H1 ⟨tabs1, -, y1, y2, rfl⟩
    -- three
    refine h_seq ?_
    refine h_cons ?_
    refine h_make ?_
    refine h_cons (h_c (h_cons ?_))
    refine mk_ms [[1, 0, 2], [1, 2, 0]] (mk_cons (mk_move [1, 0, 2] (mk_cons mk_n (mk_cons mk_n (mk_cons mk_n mk_nil)))) (mk_cons (mk_move [1, 2, 0] (mk_cons mk_n (mk_cons mk_n (mk_cons mk_n mk_nil)))) mk_nil)) (by decide) _ _ fun v H2 s2 hv => ?_
    obtain ⟨ma, mus, rfl, hma, mma⟩ := hv
    have tabs2 := tabs_same tabs1 s2
    refine fun g3 gd3 ng3 nd3 ne3 => ?_
    refine grp_mk (a := ma) (n := 3) (us := mus) (ms := [[1, 0, 2], [1, 2, 0]]) ng3 nd3 ne3 (.inl (.inl hma)) mma ok_three tabs2 fun H3 F3 W3 M3 e3 tabs3 G3 => ?_
    -- six
    refine ⟨rfl, 3, rfl, by decide, by decide, ok_t3, tabs3, fun gt3 H4 F4 W4 M4 e4 ng4 tabs4 G4 => ?_⟩
    refine ⟨rfl, 2, rfl, by decide, by decide, ok_t2, tabs4, fun gt2 H5 F5 W5 M5 e5 ng5 tabs5 G5 => ?_⟩
    refine ⟨gt3, gt2, 3, 2, [rot 3], F4, W4, M4, [rot 2], F5, W5, M5, rfl, Kp.grp (.ext e5) G4, G5, by decide, by decide, ok_six, tabs5, fun g6 H6 F6 W6 M6 e6 ng6 tabs6 G6 => ?_⟩
    replace G3 := Kp.grp (.ext e6) (Kp.grp (.ext e5) (Kp.grp (.ext e4) G3))
    have e36 := (e4.trans e5).trans e6
    refine ⟨_, _, rfl, ?_⟩
    replace G6 : GRP K H6 g6 5 six F6 W6 M6 := G6
    have eM6 : M6 = L6 := six_moves G6.1.wd G6.1.full G6.1.mvs G6.1.mf G6.1.asc
    have in3 : ∃ gdx gfs, H6 g3 = some (.ins (cA K "Group") gdx gfs) ∧ gfs.lookup ("of_word" : Str) = none := by
      obtain ⟨_, gdx, gmk, gd', gmo, gl, gus, gmus, gkvs, hg, _⟩ := G3
      exact ⟨_, _, hg, rfl⟩
    obtain ⟨dx3, fs3, hg3, lk3⟩ := in3
    have in6 : ∃ gdx gfs, H6 g6 = some (.ins (cA K "Group") gdx gfs) ∧ gfs.lookup ("of_word" : Str) = none ∧ gfs.lookup ("word" : Str) = none ∧ gfs.lookup ("order_counts" : Str) = none := by
      obtain ⟨_, gdx, gmk, gd', gmo, gl, gus, gmus, gkvs, hg, _⟩ := G6
      exact ⟨_, _, hg, rfl, rfl, rfl⟩
    obtain ⟨dx6, fs6, hg6, lk6, lk6', lk6''⟩ := in6
    -- told
    refine ⟨_, rfl, g3, _, _, rfl, hg3, lk3, by show 2 ≤ sizeLine; decide, fun w1 nw1 => ?_⟩
    have k7 := same_new (o := .tup [.int 0, .int 1]) nw1
    refine ⟨g3, w1, 3, _, F3, W3, M3, [0, 1], rfl, Kp.grp (.of k7) G3, .inl (.inl upd_same), by decide, by decide, fun H7 r1 s7' hr1 => ?_⟩
    have s7 := k7.trans s7'
    clear k7 s7'
    refine ⟨_, rfl, g3, _, _, rfl, s7 _ _ hg3, lk3, by show 2 ≤ sizeLine; decide, fun w2 nw2 => ?_⟩
    have k8 := same_new (o := .tup [.int 1, .int 0]) nw2
    refine ⟨g3, w2, 3, _, F3, W3, M3, [1, 0], rfl, Kp.grp (.of (s7.trans k8)) G3, .inl (.inl upd_same), by decide, by decide, fun H8 r2 s8' hr2 => ?_⟩
    have s78 := k8.trans s8'
    have s8 := s7.trans s78
    replace hr1 := s78 _ _ hr1
    clear k8 s8' s78
    refine ⟨_, rfl, g3, _, _, rfl, s8 _ _ hg3, lk3, by show 0 ≤ sizeLine; decide, fun w3 nw3 => ?_⟩
    have k9 := same_new (o := .tup []) nw3
    refine ⟨g3, w3, 3, _, F3, W3, M3, [], rfl, Kp.grp (.of (s8.trans k9)) G3, .inl (.inl upd_same), by decide, by decide, fun H9 r3 s9' hr3 => ?_⟩
    have s89 := k9.trans s9'
    have s9 := s8.trans s89
    replace hr1 := s89 _ _ hr1
    replace hr2 := s89 _ _ hr2
    clear k9 s9' s89
    have G6' := Kp.grp (.of s9) G6
    refine ⟨_, rfl, g6, _, _, rfl, s9 _ _ hg6, g6, 5, six, F6, W6, M6, rfl, G6', ?_⟩
    refine ⟨_, rfl, g6, _, _, rfl, s9 _ _ hg6, g6, 5, six, F6, W6, M6, rfl, G6', fun am um Sm mm => ?_⟩
    refine ⟨_, rfl, g6, _, _, rfl, s9 _ _ hg6, lk6'', g6, 5, six, F6, W6, M6, rfl, G6', fun H10 dc os zs s10 los isO pz az hdc => ?_⟩
    refine ⟨by show 6 ≤ sizeLine; decide, fun tl ntl => ?_⟩
    have hr1' := s10 _ _ hr1
    have hr2' := s10 _ _ hr2
    have hr3' := s10 _ _ hr3
    have k11 := same_new (o := .lst [.ref r1, .ref r2, .ref r3, .int 5, .ref am, .ref dc]) ntl
    have htl : (upd H10 tl (.lst [.ref r1, .ref r2, .ref r3, .int 5, .ref am, .ref dc])) tl = some (.lst [.ref r1, .ref r2, .ref r3, .int 5, .ref am, .ref dc]) := upd_same
    show gName 5 _ _ (upd H10 tl (.lst [.ref r1, .ref r2, .ref r3, .int 5, .ref am, .ref dc])) _
    generalize upd H10 tl _ = H11 at k11 htl ⊢
    refine h_name ?_
    dsimp only
    refine h_seq ?_
    refine h_asg ?_
    refine h_lst ?_
    refine h_cons (mk_move [0, 2, 1] (mk_cons mk_n (mk_cons mk_n (mk_cons mk_n mk_nil))) (by decide) _ _ fun v H12 s12 hv => ?_)
    obtain ⟨u1, rfl, hu1⟩ := hv
    refine h_cons (mk_move [2, 1, 0] (mk_cons mk_n (mk_cons mk_n (mk_cons mk_n mk_nil))) (by decide) _ _ fun v H13 s13 hv => ?_)
    obtain ⟨u2, rfl, hu2⟩ := hv
    refine h_cons (mk_move [0, 1, 2] (mk_cons mk_n (mk_cons mk_n (mk_cons mk_n mk_nil))) (by decide) _ _ fun v H14 s14 hv => ?_)
    obtain ⟨u3, rfl, hu3⟩ := hv
    refine h_cons (h_c (h_cons ?_))
    refine mk_ms [[1, 2, 0, 3, 4], [0, 1, 2, 4, 3]] (mk_cons (mk_move [1, 2, 0, 3, 4] (mk_cons mk_n (mk_cons mk_n (mk_cons mk_n (mk_cons mk_n (mk_cons mk_n mk_nil)))))) (mk_cons (mk_move [0, 1, 2, 4, 3] (mk_cons mk_n (mk_cons mk_n (mk_cons mk_n (mk_cons mk_n (mk_cons mk_n mk_nil)))))) mk_nil)) (by decide) _ _ fun v H15 s15 hv => ?_
    obtain ⟨u4, uu4, rfl, hu4, mu4⟩ := hv
    refine h_cons ?_
    refine fun dd ndd => ?_
    refine ⟨upd_same, [(.inl 1, .int 1), (.inl 2, .int 1), (.inl 3, .int 2), (.inl 6, .int 2)], rfl, by decide, ?_⟩
    have k16 : Same H15 (upd (upd H15 dd (.dK [])) dd (.dK (mergeK [] [(.inl 1, .int 1), (.inl 2, .int 1), (.inl 3, .int 2), (.inl 6, .int 2)]))) := fun b o e => by
      rw [upd_ne (ne_of_none e ndd), upd_ne (ne_of_none e ndd)]
      exact e
    have hdd : (upd (upd H15 dd (.dK [])) dd (.dK (mergeK [] [(.inl 1, .int 1), (.inl 2, .int 1), (.inl 3, .int 2), (.inl 6, .int 2)]))) dd = some (.dK [(.inl 1, .int 1), (.inl 2, .int 1), (.inl 3, .int 2), (.inl 6, .int 2)]) := upd_same
    generalize upd (upd H15 dd _) dd _ = H16 at k16 hdd ⊢
    refine ⟨by show 6 ≤ sizeLine; decide, fun dl ndl => ?_⟩
    have k17 := same_new (o := .lst [.ref u1, .ref u2, .ref u3, .int 5, .ref u4, .ref dd]) ndl
    have hdl : (upd H16 dl (.lst [.ref u1, .ref u2, .ref u3, .int 5, .ref u4, .ref dd])) dl = some (.lst [.ref u1, .ref u2, .ref u3, .int 5, .ref u4, .ref dd]) := upd_same
    show gName 6 _ _ (upd H16 dl (.lst [.ref u1, .ref u2, .ref u3, .int 5, .ref u4, .ref dd])) _
    generalize upd H16 dl _ = H17 at k17 hdl ⊢
    refine h_name ?_
    dsimp only
    have t15 := s15.trans (k16.trans k17)
    have t14 := s14.trans t15
    have t13 := s13.trans t14
    have t12 := s12.trans t13
    have t11 := k11.trans t12
    have t10 := s10.trans t11
    have tab : ∀ H', Same H6 H' → True := fun _ _ => trivial
    have e1 : ev 3 [[1, 0, 2], [1, 2, 0]] [0, 1] = [0, 2, 1] := by decide
    have e2 : ev 3 [[1, 0, 2], [1, 2, 0]] [1, 0] = [2, 1, 0] := by decide
    have e3' : ev 3 [[1, 0, 2], [1, 2, 0]] [] = [0, 1, 2] := by decide
    rw [e1] at hr1'
    rw [e2] at hr2'
    rw [e3'] at hr3'
    have ec : cnt zs = [(.inl 1, .int 1), (.inl 2, .int 1), (.inl 3, .int 2), (.inl 6, .int 2)] := by
      rw [eM6] at los isO
      exact six_counts los isO pz az
    rw [ec] at hdc
    refine ⟨_, rfl, _, rfl, tl, dl, _, _, rfl, rfl, lst_sql' (t12 _ _ htl), lst_sql' hdl,
      .cons (alikeM (.inl (.inl (t11 _ _ hr1'))) (.inl (.inl (t13 _ _ hu1)))) (.cons (alikeM (.inl (.inl (t11 _ _ hr2'))) (.inl (.inl (t14 _ _ hu2)))) (.cons (alikeM (.inl (.inl (t11 _ _ hr3'))) (.inl (.inl (t15 _ _ hu3)))) (.cons (.inl ⟨.int 5, .int 5, .int 5, rfl, by simp [PyData.eqv]⟩) (.cons (alikeMs (same_sqt t10 Sm) (mm.same t10) (.inl (.inl (k17 _ _ (k16 _ _ hu4)))) (mu4.same (k16.trans k17))) (.cons (.inr ⟨dc, dd, _, _, rfl, rfl, t11 _ _ hdc, k17 _ _ hdd, rfl, by decide⟩) .nil))))), ?_⟩
    refine ⟨true, rfl, ifT rfl ?_⟩
    have s17 := s9.trans t10
    have G17 := Kp.grp (.of s17) G6
    have hg17 := s17 _ _ hg6
    have tabs17 := tabs_same tabs6 s17
    clear t10 t11 t12 t13 t14 t15 tab k16 k17 k11 s15 s14 s13 s12
    refine ⟨_, rfl, g6, _, _, rfl, hg17, lk6, _, rfl, g6, _, _, rfl, hg17, lk6', by show 5 ≤ sizeLine; decide, fun w4 nw4 => ?_⟩
    have k18 := same_new (o := .tup [.int 2, .int 0, .int 1, .int 4, .int 3]) nw4
    have hw4 : (upd H17 w4 (.tup [.int 2, .int 0, .int 1, .int 4, .int 3])) w4 = some (.tup [.int 2, .int 0, .int 1, .int 4, .int 3]) := upd_same
    generalize upd H17 w4 _ = H18 at k18 hw4 ⊢
    refine ⟨g6, w4, 5, six, F6, W6, M6, [2, 0, 1, 4, 3], rfl, Kp.grp (.of k18) G17, hw4, by rw [eM6]; decide, fun H19 t i s19 hi ei ht => ?_⟩
    have k19 := k18.trans s19
    have lF6 : F6.length ≤ 60 := by rw [← G6.1.len]; exact G6.1.few
    have wl := G6.1.wd.wlen i hi
    refine ⟨g6, t, 5, six, F6, W6, M6, at_ W6 i, rfl, Kp.grp (.of k19) G17, .inl (.inl ht), by omega, wd_ix G6.1.wd i hi, fun H20 r4 s20 hr4 => ?_⟩
    rw [← G6.1.wd.ev i hi, ei] at hr4
    have k20 := k19.trans s20
    refine ⟨by show 5 ≤ sizeLine; decide, fun w5 nw5 => ?_⟩
    have k21 := same_new (o := .tup [.int 2, .int 0, .int 1, .int 4, .int 3]) nw5
    refine eqT (m := [2, 0, 1, 4, 3]) (l := [2, 0, 1, 4, 3]) (.inl (.inl (k21 _ _ hr4))) (.inl (.inl upd_same)) ?_
    have tabs21 := tabs_same tabs17 (k20.trans k21)
    show ∃ c, V.bl true = V.bl c ∧ _
    refine ⟨true, rfl, ifT rfl ?_⟩
    generalize upd H20 w5 _ = H21 at tabs21 ⊢
    refine ⟨by show 0 ≤ sizeLine; decide, fun w6 nw6 => ?_⟩
    have k22 := same_new (o := .tup []) nw6
    have hw6 : (upd H21 w6 (.tup [])) w6 = some (.tup []) := upd_same
    have tabs22 := tabs_same tabs21 k22
    generalize upd H21 w6 _ = H22 at tabs22 hw6 ⊢
    refine fun g7 gd7 ng7 nd7 ne7 => ?_
    refine grp_mk (a := w6) (n := 3) (us := []) (ms := []) ng7 nd7 ne7 (.inl (.inl hw6)) .nil ok_none tabs22 fun H23 F7 W7 M7 e23 tabs23 G7 => ?_
    have ⟨gi7, gdx7, gmk7, gd7', gmo7, gl7, gus7, gmus7, gkvs7, hg7, _⟩ := G7
    refine ⟨g7, _, _, rfl, hg7, rfl, by show 3 ≤ sizeLine; decide, fun w8 nw8 => ?_⟩
    have k24 := same_new (o := .tup [.int 0, .int 1, .int 2]) nw8
    have one7 : [0, 1, 2] ∈ M7 := by
      have := at_mem gi7.mvs.pos
      rw [gi7.mvs.one] at this
      exact this
    refine ⟨g7, w8, 3, [], F7, W7, M7, [0, 1, 2], rfl, Kp.grp (.of k24) G7, upd_same, one7, fun H25 t7 i7 s25 hi7 ei7 ht7 => ?_⟩
    have i0 : i7 = 0 := by
      refine at_inj gi7.wd.nd hi7 gi7.wd.one ?_
      rw [ei7, gi7.wd.zero.1]
      rfl
    rw [i0, gi7.wd.zero.2] at ht7
    refine ⟨by show 0 ≤ sizeLine; decide, fun w9 nw9 => ?_⟩
    have k26 := same_new (o := .tup []) nw9
    refine eqT (m := []) (l := []) (.inl (.inl (k26 _ _ ht7))) (.inl (.inl upd_same)) ?_
    exact q _
end
end K08


set_option Elab.async false
set_option linter.all false
set_option maxRecDepth 100000
set_option maxHeartbeats 0
namespace K08
open PySem PySem.Spec PyProof.Rows L2 MM LamX
theorem law_def {P : Program} {w : World} {K : PySem.W.Frag} {mg : Str → Option Value} {base : Heap} (T : Tx K mg) (Y : Ex K mg) (TB : Tb K mg base) : Def P w K mg base CX0 12 "law" ["_law_script"] (spLaw K) := by
  have DBagL := dBagL (P := P) (w := w) (base := base) T 
  have DGrabL := dGrabL (P := P) (w := w) (base := base) T 
  have DOneOfL := dOneOfL (P := P) (w := w) (base := base) T DGrabL
  have DMenuL := dMenuL (P := P) (w := w) (base := base) T 
  have DMixedL := dMixedL (P := P) (w := w) (base := base) T DGrabL
  have DRenamedL := dRenamedL (P := P) (w := w) (base := base) T 
  have DBehindL := dBehindL (P := P) (w := w) (base := base) T 
  have DGroupDrawnL := dGroupDrawnL (P := P) (w := w) (base := base) T DOneOfL DMenuL DMixedL DRenamedL DGrabL DBehindL
  have DLotTimesL := dLotTimesL (P := P) (w := w) (base := base) T 
  have DLotMadeL := dLotMadeL (P := P) (w := w) (base := base) T DLotTimesL
  have DNeedGroup := dNeedGroup (P := P) (w := w) (base := base) T Y 
  have FGroupPlaces := fGroupPlaces (P := P) (w := w) (base := base) T Y 
  have FGroupMakers := fGroupMakers (P := P) (w := w) (base := base) T Y 
  have DIsWhole := dIsWhole (P := P) (w := w) (base := base) T 
  have DIsBetween := dIsBetween (P := P) (w := w) (base := base) T DIsWhole
  have DNeedBetween := dNeedBetween (P := P) (w := w) (base := base) T DIsBetween
  have DNeedPlaces := dNeedPlaces (P := P) (w := w) (base := base) T DNeedBetween
  have DIsArrangement := dIsArrangement (P := P) (w := w) (base := base) T DIsBetween
  have DIsMove := dIsMove (P := P) (w := w) (base := base) T DNeedPlaces DIsArrangement
  have DNeedMakers := dNeedMakers (P := P) (w := w) (base := base) T DIsMove
  have DFollowed := dFollowed (P := P) (w := w) (base := base) T 
  have DWordsOf := dWordsOf (P := P) (w := w) (base := base) T DFollowed
  have DTableRow := dTableRow (P := P) (w := w) (base := base) T 
  have DTableOf := dTableOf (P := P) (w := w) (base := base) T DFollowed DTableRow
  have DUndoingOf := dUndoingOf (P := P) (w := w) (base := base) T 
  have DPowersOf := dPowersOf (P := P) (w := w) (base := base) T 
  have DIsPrimePower := dIsPrimePower (P := P) (w := w) (base := base) T 
  have DSingleMakers := dSingleMakers (P := P) (w := w) (base := base) T DPowersOf DIsPrimePower
  have DBodyWith := dBodyWith (P := P) (w := w) (base := base) T 
  have DTurnedBody := dTurnedBody (P := P) (w := w) (base := base) T 
  have DFamilyOf := dFamilyOf (P := P) (w := w) (base := base) T DTurnedBody
  have DFamiliesOf := dFamiliesOf (P := P) (w := w) (base := base) T DUndoingOf DSingleMakers DBodyWith DFamilyOf
  have DInOrder := dInOrder (P := P) (w := w) (base := base) T TB 
  have DMaskOf := dMaskOf (P := P) (w := w) (base := base) T 
  have FLatticeInit := fLatticeInit (P := P) (w := w) (base := base) T Y DUndoingOf DInOrder DMaskOf
  have FGroupInit := fGroupInit (P := P) (w := w) (base := base) T Y DNeedPlaces DNeedMakers DWordsOf DTableOf DFamiliesOf FLatticeInit
  have DBeside := dBeside (P := P) (w := w) (base := base) T Y DNeedGroup FGroupPlaces FGroupMakers FGroupInit
  have DBesideL := dBesideL (P := P) (w := w) (base := base) T 
  have FGroupOrder := fGroupOrder (P := P) (w := w) (base := base) T Y 
  have FGroupMoves := fGroupMoves (P := P) (w := w) (base := base) T Y 
  have DProductsRightL := dProductsRightL (P := P) (w := w) (base := base) T Y DGroupDrawnL DLotMadeL DBeside DBesideL FGroupInit FGroupOrder FGroupMakers FGroupPlaces FGroupMoves
  have DToldByL := dToldByL (P := P) (w := w) (base := base) T DLotTimesL
  have DIsWordL := dIsWordL (P := P) (w := w) (base := base) T 
  have FGroupContains := fGroupContains (P := P) (w := w) (base := base) T Y DIsMove
  have FGroupWord := fGroupWord (P := P) (w := w) (base := base) T Y FGroupContains
  have FGroupOfWord := fGroupOfWord (P := P) (w := w) (base := base) T Y DIsBetween
  have DWordsRightL := dWordsRightL (P := P) (w := w) (base := base) T Y DGroupDrawnL DLotMadeL DMixedL DToldByL DIsWordL DGrabL DLotTimesL FGroupInit FGroupWord FGroupOfWord
  have DNextPlaces := dNextPlaces (P := P) (w := w) (base := base) T 
  have FGroupTurning := fGroupTurning (P := P) (w := w) (base := base) T Y DNeedPlaces DNextPlaces FGroupInit
  have DOrdersOf := dOrdersOf (P := P) (w := w) (base := base) T DPowersOf
  have FGroupOrderCounts := fGroupOrderCounts (P := P) (w := w) (base := base) T Y DOrdersOf
  exact dLaw T Y DBagL DProductsRightL DWordsRightL DBeside FGroupTurning FGroupInit FGroupOrderCounts FGroupMakers FGroupPlaces FGroupOfWord FGroupWord
theorem tx {K : PySem.W.Frag} {h : Heap} {mg : Str → Option Value} (X : K.In h) (G : h.Ns mainGlobals mg) (c : He.SaysD fa fn K) : Tx K mg := by
  exact {
    t_is_whole := ⟨c.def_ 0 rfl, He.glo_ok X G (c.fact 0 rfl)⟩
    t_is_between := ⟨c.def_ 1 rfl, He.glo_ok X G (c.fact 1 rfl)⟩
    t_need_between := ⟨c.def_ 2 rfl, He.glo_ok X G (c.fact 2 rfl)⟩
    t_is_arrangement := ⟨c.def_ 3 rfl, He.glo_ok X G (c.fact 3 rfl)⟩
    t_need_places := ⟨c.def_ 4 rfl, He.glo_ok X G (c.fact 4 rfl)⟩
    t_is_move := ⟨c.def_ 5 rfl, He.glo_ok X G (c.fact 5 rfl)⟩
    t_followed := ⟨c.def_ 6 rfl, He.glo_ok X G (c.fact 6 rfl)⟩
    t_words_of := ⟨c.def_ 7 rfl, He.glo_ok X G (c.fact 7 rfl)⟩
    t_table_row := ⟨c.def_ 8 rfl, He.glo_ok X G (c.fact 8 rfl)⟩
    t_table_of := ⟨c.def_ 9 rfl, He.glo_ok X G (c.fact 9 rfl)⟩
    t_undoing_of := ⟨c.def_ 10 rfl, He.glo_ok X G (c.fact 10 rfl)⟩
    t_body_with := ⟨c.def_ 11 rfl, He.glo_ok X G (c.fact 11 rfl)⟩
    t_turned_body := ⟨c.def_ 12 rfl, He.glo_ok X G (c.fact 12 rfl)⟩
    t_family_of := ⟨c.def_ 13 rfl, He.glo_ok X G (c.fact 13 rfl)⟩
    t_powers_of := ⟨c.def_ 14 rfl, He.glo_ok X G (c.fact 14 rfl)⟩
    t_orders_of := ⟨c.def_ 15 rfl, He.glo_ok X G (c.fact 15 rfl)⟩
    t_is_prime_power := ⟨c.def_ 16 rfl, He.glo_ok X G (c.fact 16 rfl)⟩
    t_single_makers := ⟨c.def_ 17 rfl, He.glo_ok X G (c.fact 17 rfl)⟩
    t_families_of := ⟨c.def_ 18 rfl, He.glo_ok X G (c.fact 18 rfl)⟩
    t_mask_of := ⟨c.def_ 19 rfl, He.glo_ok X G (c.fact 19 rfl)⟩
    t_in_order := ⟨c.def_ 20 rfl, He.glo_ok X G (c.fact 20 rfl)⟩
    t_need_makers := ⟨c.def_ 21 rfl, He.glo_ok X G (c.fact 21 rfl)⟩
    t_next_places := ⟨c.def_ 22 rfl, He.glo_ok X G (c.fact 22 rfl)⟩
    t_need_group := ⟨c.def_ 23 rfl, He.glo_ok X G (c.fact 23 rfl)⟩
    t_beside := ⟨c.def_ 24 rfl, He.glo_ok X G (c.fact 24 rfl)⟩
    t_law_bag := ⟨c.def_ 25 rfl, He.glo_ok X G (c.fact 25 rfl)⟩
    t_law_grab := ⟨c.def_ 26 rfl, He.glo_ok X G (c.fact 26 rfl)⟩
    t_law_one_of := ⟨c.def_ 27 rfl, He.glo_ok X G (c.fact 27 rfl)⟩
    t_law_mixed := ⟨c.def_ 28 rfl, He.glo_ok X G (c.fact 28 rfl)⟩
    t_law_menu := ⟨c.def_ 29 rfl, He.glo_ok X G (c.fact 29 rfl)⟩
    t_law_behind := ⟨c.def_ 30 rfl, He.glo_ok X G (c.fact 30 rfl)⟩
    t_law_renamed := ⟨c.def_ 31 rfl, He.glo_ok X G (c.fact 31 rfl)⟩
    t_law_group_drawn := ⟨c.def_ 32 rfl, He.glo_ok X G (c.fact 32 rfl)⟩
    t_law_lot_times := ⟨c.def_ 33 rfl, He.glo_ok X G (c.fact 33 rfl)⟩
    t_law_lot_made := ⟨c.def_ 34 rfl, He.glo_ok X G (c.fact 34 rfl)⟩
    t_law_told_by := ⟨c.def_ 35 rfl, He.glo_ok X G (c.fact 35 rfl)⟩
    t_law_is_word := ⟨c.def_ 36 rfl, He.glo_ok X G (c.fact 36 rfl)⟩
    t_law_words_right := ⟨c.def_ 37 rfl, He.glo_ok X G (c.fact 37 rfl)⟩
    t_law_beside := ⟨c.def_ 38 rfl, He.glo_ok X G (c.fact 38 rfl)⟩
    t_law_products_right := ⟨c.def_ 39 rfl, He.glo_ok X G (c.fact 39 rfl)⟩
    t_law := ⟨c.def_ 40 rfl, He.glo_ok X G (c.fact 40 rfl)⟩
    f_abs := He.free_ok X G (c.fact 41 rfl)
    f_all := He.free_ok X G (c.fact 42 rfl)
    f_bool := He.free_ok X G (c.fact 43 rfl)
    f_enumerate := He.free_ok X G (c.fact 44 rfl)
    f_int := He.free_ok X G (c.fact 45 rfl)
    f_isinstance := He.free_ok X G (c.fact 46 rfl)
    f_len := He.free_ok X G (c.fact 47 rfl)
    f_list := He.free_ok X G (c.fact 48 rfl)
    f_max := He.free_ok X G (c.fact 49 rfl)
    f_min := He.free_ok X G (c.fact 50 rfl)
    f_range := He.free_ok X G (c.fact 51 rfl)
    f_set := He.free_ok X G (c.fact 52 rfl)
    f_sorted := He.free_ok X G (c.fact 53 rfl)
    f_sum := He.free_ok X G (c.fact 54 rfl)
    f_tuple := He.free_ok X G (c.fact 55 rfl)
    c_MAX_PLACES := by
      obtain ⟨t, e⟩ := He.int_ok X G (c.fact 56 rfl)
      exact ⟨_, e, t, rfl⟩
    c_MAX_ORDER := by
      obtain ⟨t, e⟩ := He.int_ok X G (c.fact 57 rfl)
      exact ⟨_, e, t, rfl⟩
    c_MAX_SUBGROUPS := by
      obtain ⟨t, e⟩ := He.int_ok X G (c.fact 58 rfl)
      exact ⟨_, e, t, rfl⟩
    c_MAX_CLASSES := by
      obtain ⟨t, e⟩ := He.int_ok X G (c.fact 59 rfl)
      exact ⟨_, e, t, rfl⟩
    c_MAX_MAKERS := by
      obtain ⟨t, e⟩ := He.int_ok X G (c.fact 60 rfl)
      exact ⟨_, e, t, rfl⟩
    c_MOST_MEMBERS := by
      obtain ⟨t, e⟩ := He.int_ok X G (c.fact 61 rfl)
      exact ⟨_, e, t, rfl⟩
    }
theorem exs {K : PySem.W.Frag} {h : Heap} {mg : Str → Option Value} (X : K.In h) (G : h.Ns mainGlobals mg) (c : He.SaysD fa fn K) (e : ex K = true) (cx : (xs.map fun d => fnA K (d.ad K)) = xs.map XD.val) : Ex K mg := by
  obtain ⟨_, e1⟩ := He.ba e
  obtain ⟨ep, e2⟩ := He.ba e1
  obtain ⟨e3, e4⟩ := He.ba e2
  obtain ⟨ec, ecl⟩ := He.ba e3
  obtain ⟨n1, n2⟩ := He.ba e4
  obtain ⟨r0, r1⟩ := He.ba ecl
  obtain ⟨r2, r3⟩ := He.ba r0
  obtain ⟨r4, r5⟩ := He.ba r1
  obtain ⟨ra, rb⟩ := He.ba r4
  obtain ⟨rc, rd⟩ := He.ba r5
  obtain ⟨p0, q0⟩ := He.ba ep
  obtain ⟨p1, q1⟩ := He.ba q0
  obtain ⟨p2, q2⟩ := He.ba q1
  exact {
    gLattice := He.glo_ok X G (c.fact 62 rfl)
    kLattice := He.cls_ok (c.fact 63 rfl)
    uLattice := He.mkr_ok (c.fact 64 rfl)
    nLattice := noB_ok n1
    gGroup := He.glo_ok X G (c.fact 65 rfl)
    kGroup := He.cls_ok (c.fact 66 rfl)
    uGroup := He.mkr_ok (c.fact 67 rfl)
    nGroup := noB_ok n2
    rGroup := ⟨r2, He.eqO_ok r3⟩
    iGroup := (He.meth_ok (c.fact 71 rfl)).at_
    jGroup := (He.meth_ok (c.fact 71 rfl)).fn
    aGroup := He.eqO_ok ra
    bGroup := He.eqO_ok rb
    cGroup := of_decide_eq_true rc
    dGroup := of_decide_eq_true rd
    fLatticeInit := x_at cx e 0 _ rfl
    fGroupInit := x_at cx e 1 _ rfl
    fGroupTurning := x_at cx e 2 _ rfl
    qGroupTurning := cmB_ok ec
    fGroupPlaces := x_at cx e 3 _ rfl
    pGroupPlaces := propB_ok p0
    fGroupMakers := x_at cx e 4 _ rfl
    pGroupMakers := propB_ok p1
    fGroupOrder := x_at cx e 5 _ rfl
    pGroupOrder := propB_ok p2
    fGroupMoves := x_at cx e 6 _ rfl
    pGroupMoves := propB_ok q2
    fGroupWord := x_at cx e 7 _ rfl
    mGroupWord := He.meth_ok (c.fact 68 rfl)
    fGroupOfWord := x_at cx e 8 _ rfl
    mGroupOfWord := He.meth_ok (c.fact 69 rfl)
    fGroupOrderCounts := x_at cx e 9 _ rfl
    mGroupOrderCounts := He.meth_ok (c.fact 70 rfl)
    fGroupContains := x_at cx e 10 _ rfl
    }
theorem law_ends {P : Program} {w : World} {K : PySem.W.Frag} {h : Heap} {mg : Str → Option Value} {f : Addr} (X : K.In h) (G : h.Ns mainGlobals mg) (hfa : mg ("law" : Str) = some (.ref f)) (c : He.SaysD fa fn K) (e : ex K = true) (cx : (xs.map fun d => fnA K (d.ad K)) = xs.map XD.val) :
    ∃ fd : FuncData, (∀ (s : Shared) (v : Value), BindsTo s fd ⟨[v], []⟩ [("_law_script", v)]) ∧ ∀ base : Heap, K.In base → base.Ns mainGlobals mg → (∀ p ∈ cs K, TabB base mg p.1 p.2) → FnG P w K mg base CX0 12 f fd ["_law_script"] (spLaw K) := by
  have T : Tx K mg := tx X G c
  have Y := exs X G c e cx
  obtain ⟨fd, F⟩ := T.t_law.fn
  have b := FunD.bindsA (ps := ["_law_script"]) F fun _ _ _ _ _ _ us hl => match us, hl with | [_], _ => rfl
  refine ⟨fd, fun s v => b s [v] rfl, fun base _ _ tb => ?_⟩
  have TB : Tb K mg base := ⟨tb (cd1 K) List.mem_cons_self⟩
  obtain ⟨oc, od, _, _, _, _, _, _, _, osl, _, lk, _⟩ := F.ex
  obtain ⟨f2, fd2, F2, hm, _, _, oc2, od2, sl2, lk2⟩ := law_def (P := P) (w := w) (base := base) T Y TB
  have e1 : f2 = f := by
    rw [hfa] at hm
    injection hm with hm
    injection hm with hm
    exact hm.symm
  have e2 : He.ga K "law" = f := by
    have g := T.t_law.glo
    rw [hfa] at g
    injection g with g
    injection g with g
    exact g.symm
  subst e1
  rw [e2] at lk
  rw [lk] at lk2
  injection lk2 with lk2
  injection lk2 with z1 z2 z3 z4
  injection z3 with z3
  subst z3
  exact F2
end K08

set_option Elab.async false
set_option maxRecDepth 100000
set_option maxHeartbeats 2000000
set_option linter.all false
/-! the law's end where its text makes lambdas: the tables of their code objects are written -/
namespace ME
open PySem PySem.Spec PyProof.Rows L2 LamX MM

/-- the heap as it is told: the script, and empty tables -/
structure Told (cs : List (Addr × Addr)) (a : Addr) (ns : List Int) (K : PySem.W.Frag) (H : Hp) : Prop where
  tabs : ∀ p ∈ cs, H p.2 = some (.tbl #[])
  seq : SqL K H a (ns.map V.int)
  each : ∀ b, H b = none ∨ b ∈ cs.map (·.2) ∨ (b = a ∧ ∃ o xs, H b = some (.frz o (.lst xs)))
  out : H a ≠ none → K.lookup a = none
section
variable {P : Program} {w : World} {K : PySem.W.Frag} {mg mb : Str → Option Value} {CX : CXT} {k : Nat} {fa a : Addr}
  {fd : FuncData} {x : Str} {sp : Sp} {s : Shared} {vs : List Value} {ns : List Int} {cs : List (Addr × Addr)}
theorem tab_core {H : Hp} (KX : K.In s.heap) (hns : s.heap.Ns mainGlobals mg) (hb : s.heap.Ns builtinsNs mb)
    (hbb : ∀ y : Str, y ≠ "__name__" → mb y = bootBuiltins y) (nl : s.heap.NoLimit) (hg : s.gens = #[])
    (hT : ∀ p ∈ cs, s.heap.get? p.2 = some { cls := .none, data := .fields #[] }) (nT : ∀ p ∈ cs, K.lookup p.2 = none)
    (C : ∀ p ∈ cs, PySem.W.CodeHd s.heap p.1 p.2)
    (hbm : ∃ (bm : Addr) (ob : Obj), mg "__builtins__" = some (.ref bm) ∧ bm ≠ builtinsNs ∧ s.heap.get? bm = some ob ∧
      ob.cls = .type "module" ∧ ob.dict = some builtinsNs ∧ ob.data = .plain)
    (ha : s.heap.get? a = some { cls := .type "list", data := .seq vs.toArray }) (hr : Rm k callerA)
    (F : ∀ base : Heap, K.In base → base.Ns mainGlobals mg → (∀ p ∈ cs, TabB base mg p.1 p.2) → FnG P w K mg base CX k fa fd [x] sp)
    (hbind : ∀ (s : Shared) (u : Value), BindsTo s fd ⟨[u], []⟩ [(x, u)])
    (hsp : sp [.ref a] H (fun v _ => v = .bl true) fun _ _ _ => False)
    (hCX : ∀ e s', CX [] H s (fun _ _ _ => False) e s' → False) (T : Told cs a ns K H) (ok : HOk P w H s.heap) :
    codeAny (model P w) callerA (.call (.ref fa) ⟨[.ref a], []⟩) (LawEnd s) s := by
  have isTab : ∀ b, b ∈ cs.map (·.2) → ∃ p ∈ cs, b = p.2 := by
    intro b hb
    obtain ⟨p, hp, rfl⟩ := List.mem_map.mp hb
    exact ⟨p, hp, rfl⟩
  -- what is neither a list nor an empty record is not told
  have free : ∀ {b : Addr} {o : Obj}, s.heap.get? b = some o → (∀ y n, o.data ≠ .seq y n) → o.data ≠ .fields #[] → H b = none := by
    intro b o e n1 n2
    rcases T.each b with z | z | ⟨rfl, _⟩
    · exact z
    · obtain ⟨p, hp, rfl⟩ := isTab b z
      rw [hT p hp] at e
      cases e
      exact absurd rfl n2
    · rw [ha] at e
      cases e
      exact absurd rfl (n1 _ _)
  have dict : ∀ {b : Addr} {o : Obj} {es : Array DictEntry} {ep : Nat}, s.heap.get? b = some o → o.data = .dict es ep → H b = none := by
    intro b o es ep e d
    refine free e ?_ ?_
    · intro y n z
      rw [d] at z
      cases z
    · intro z
      rw [d] at z
      cases z
  have sees : ∀ {b : Addr} {m : Str → Option Value}, s.heap.Ns b m → (hidT s.heap H).Ns b m := by
    rintro b m ⟨o, es, ep, e, d, r⟩
    exact ⟨o, es, ep, hidT_get e (dict e d), d, r⟩
  have inB : K.In (hidT s.heap H) := by
    intro b o e
    refine hidT_get (KX b o e) ?_
    rcases T.each b with z | z | ⟨rfl, o', xs, z⟩
    · exact z
    · obtain ⟨p, hp, rfl⟩ := isTab b z
      rw [nT p hp] at e
      cases e
    · rw [T.out (by rw [z]; exact Option.some_ne_none _)] at e
      cases e
  have md : Mod K mg (hidT s.heap H) := by
    obtain ⟨mc, l1, l2⟩ := nl
    exact ⟨inB, sees hns, ⟨mb, sees hb, hbb⟩, ⟨mc, sees l1, l2⟩⟩
  have glob : ∀ {b : Addr} {o : Obj}, s.heap.get? b = some o → (∀ es ep, o.data ≠ .dict es ep) → b ≠ mainGlobals := by
    rintro b o e no rfl
    obtain ⟨o', es, ep, e', d, _⟩ := hns
    rw [e] at e'
    cases e'
    exact no _ _ d
  have TB : ∀ p ∈ cs, TabB (hidT s.heap H) mg p.1 p.2 := by
    intro p hp
    constructor
    · obtain ⟨o, us, file, tf, flags, tg, inF, text, tt, e1, r1, r2, r3, rest⟩ := C p hp
      refine ⟨o, us, file, tf, flags, tg, inF, text, tt, hidT_get e1 (free e1 ?_ ?_), r1, r2, r3, rest⟩
      · intro y n z
        rw [r2] at z
        cases z
      · intro z
        rw [r2] at z
        cases z
        simp at r3
    · obtain ⟨bm, ob, b1, b2, b3, b4, b5, b6⟩ := hbm
      have n1 : bm ≠ mainGlobals := by
        refine glob b3 ?_
        intro es ep z
        rw [b6] at z
        cases z
      have n2 : bm ≠ p.2 := by
        rintro rfl
        rw [hT p hp] at b3
        cases b3
        cases b6
      refine ⟨bm, ob, b1, b2, n1, n2, hidT_get b3 (free b3 ?_ ?_), b4, b5, b6⟩
      · intro y n z
        rw [b6] at z
        cases z
      · intro z
        rw [b6] at z
        cases z
    · have := glob (hT p hp) (by intro es ep z; cases z)
      exact fun z => this z.symm
  have e0 : Env0 P w K mg (hidT s.heap H) callerA [] s H := by
    refine ⟨rfl, md, fun b o e => of_hidT e, Nat.le_of_eq (hidT_size _ _), trivial, ?_, ok, .of_eq hg⟩
    intro b z
    cases z
  have vv : Vals [V.ref a] [Value.ref a] := .cons rfl .nil
  refine codeAny_mono ((F _ inB (sees hns) TB).runs (us := [.ref a]) hr e0 (hbind s (.ref a)) vv hsp) ?_
  intro r t h
  cases r with
  | error e => exact (hCX e t h).elim
  | ok fl =>
    cases fl with
    | next => exact h.elim
    | brk => exact h.elim
    | cont => exact h.elim
    | ret u =>
      obtain ⟨v, H', os, bare, un, ok', rv, q⟩ := h
      have q2 : v = .bl true := q
      subst q2
      have eu : u = Value.bool true := rv
      subst eu
      have grown : ∀ p ∈ cs, ∃ more : Array Value, t.heap.get? p.2 = some { cls := .none, data := .fields more } := by
        intro p hp
        obtain ⟨more, z⟩ := un.tbls p.2 #[] (T.tabs p hp)
        exact ⟨_, ok' p.2 _ z⟩
      have kept : ∀ b o, b ∉ cs.map (·.2) → s.heap.get? b = some o → t.heap.get? b = some o := by
        intro b o nb e
        rcases T.each b with z | z | ⟨rfl, o', xs, z⟩
        · exact un.keep b o e z (by intro z; cases z) (by intro z; cases z)
        · exact absurd z nb
        · have e1 := (ok b _ z).1
          have e2 := (ok' b _ (un.frzs b o' _ z)).1
          rw [e] at e1
          cases e1
          exact e2
      refine ⟨rfl, ⟨?_, ?_⟩, os, bare⟩
      · intro b o e
        by_cases hb : b ∈ cs.map (·.2)
        · obtain ⟨p, hp, rfl⟩ := isTab b hb
          obtain ⟨more, hm⟩ := grown p hp
          rw [hT p hp] at e
          cases e
          exact .inr (.inl ⟨((C p hp).tab (hT p hp)).isCodeTable, rfl, #[], more, rfl, by rw [Array.empty_append]; exact hm⟩)
        · exact .inl (kept b o hb e)
      · intro b o e
        by_cases hb : b ∈ cs.map (·.2)
        · obtain ⟨p, hp, rfl⟩ := isTab b hb
          obtain ⟨more, hm⟩ := grown p hp
          exact ⟨_, hm⟩
        · exact ⟨o, kept b o hb e⟩
theorem law_tab (KX : K.In s.heap) (hns : s.heap.Ns mainGlobals mg) (hb : s.heap.Ns builtinsNs mb)
    (hbb : ∀ y : Str, y ≠ "__name__" → mb y = bootBuiltins y) (nl : s.heap.NoLimit) (hg : s.gens = #[])
    (hT : ∀ p ∈ cs, s.heap.get? p.2 = some { cls := .none, data := .fields #[] }) (nT : ∀ p ∈ cs, K.lookup p.2 = none)
    (C : ∀ p ∈ cs, PySem.W.CodeHd s.heap p.1 p.2)
    (hbm : ∃ (bm : Addr) (ob : Obj), mg "__builtins__" = some (.ref bm) ∧ bm ≠ builtinsNs ∧ s.heap.get? bm = some ob ∧
      ob.cls = .type "module" ∧ ob.dict = some builtinsNs ∧ ob.data = .plain)
    (ha : s.heap.get? a = some { cls := .type "list", data := .seq vs.toArray }) (hi : IntsAre vs ns) (hl : ns.length ≤ sizeLine)
    (hr : Rm k callerA)
    (F : ∀ base : Heap, K.In base → base.Ns mainGlobals mg → (∀ p ∈ cs, TabB base mg p.1 p.2) → FnG P w K mg base CX k fa fd [x] sp)
    (hbind : ∀ (s : Shared) (u : Value), BindsTo s fd ⟨[u], []⟩ [(x, u)])
    (hsp : ∀ H : Hp, (∀ p ∈ cs, H p.2 = some (.tbl #[])) → SqL K H a (ns.map V.int) → sp [.ref a] H (fun v _ => v = .bl true) fun _ _ _ => False)
    (hCX : ∀ H e s', CX [] H s (fun _ _ _ => False) e s' → False) :
    codeAny (model P w) callerA (.call (.ref fa) ⟨[.ref a], []⟩) (LawEnd s) s := by
  have rv := vals_ints hi
  have nv := hi.length
  have apart : a ∉ cs.map (·.2) := by
    intro z
    obtain ⟨p, hp, e⟩ := List.mem_map.mp z
    have h1 := hT p hp
    rw [e, ha] at h1
    cases h1
  have mem : ∀ p ∈ cs, p.2 ∈ cs.map (·.2) := fun p hp => List.mem_map.mpr ⟨p, hp, rfl⟩
  have tabOk : ∀ b, b ∈ cs.map (·.2) → s.heap.get? b = some { cls := .none, data := .fields #[] } := by
    intro b hb
    obtain ⟨p, hp, rfl⟩ := List.mem_map.mp hb
    exact hT p hp
  have go : ∀ H, Told cs a ns K H → HOk P w H s.heap → codeAny (model P w) callerA (.call (.ref fa) ⟨[.ref a], []⟩) (LawEnd s) s :=
    fun H T ok => tab_core KX hns hb hbb nl hg hT nT C hbm ha hr F hbind (hsp H T.tabs T.seq) (hCX H) T ok
  cases fr : K.lookup a with
  | some o =>
    have e := KX a o fr
    rw [ha] at e
    cases e
    refine go (fun b => if b ∈ cs.map (·.2) then some (.tbl #[]) else none) ⟨fun p hp => if_pos (mem p hp), ?_, ?_, ?_⟩ ?_
    · refine .inr ⟨_, vs.toArray, _, fr, rfl, rfl, rfl, ?_, by simpa using rv⟩
      rw [List.size_toArray, nv]
      exact hl
    · intro b
      by_cases hb : b ∈ cs.map (·.2)
      · exact .inr (.inl hb)
      · exact .inl (if_neg hb)
    · intro z
      exact absurd (if_neg apart) z
    · intro b u z
      by_cases hb : b ∈ cs.map (·.2)
      · have z1 := (if_pos hb).symm.trans z
        cases z1
        exact tabOk b hb
      · have z1 := (if_neg hb).symm.trans z
        cases z1
  | none =>
    refine go (fun b => if b = a then some (.frz { cls := .type "list", data := .seq vs.toArray } (.lst (ns.map V.int)))
      else if b ∈ cs.map (·.2) then some (.tbl #[]) else none) ⟨?_, ?_, ?_, ?_⟩ ?_
    · intro p hp
      have ne : ¬ p.2 = a := fun z => apart (z ▸ mem p hp)
      exact (if_neg ne).trans (if_pos (mem p hp))
    · exact .inl (.inr ⟨_, if_pos rfl⟩)
    · intro b
      by_cases e : b = a
      · exact .inr (.inr ⟨e, _, _, if_pos e⟩)
      · by_cases hb : b ∈ cs.map (·.2)
        · exact .inr (.inl hb)
        · exact .inl ((if_neg e).trans (if_neg hb))
    · exact fun _ => fr
    · intro b u z
      by_cases e : b = a
      · have z1 := (if_pos e).symm.trans z
        cases z1
        subst e
        refine ⟨ha, ?_, vs, _, rv, ha⟩
        rw [List.length_map]
        exact hl
      · have z1 := (if_neg e).symm.trans z
        by_cases hb : b ∈ cs.map (·.2)
        · have z2 := (if_pos hb).symm.trans z1
          cases z2
          exact tabOk b hb
        · have z2 := (if_neg hb).symm.trans z1
          cases z2
end
/-- the head's end, with tables -/
theorem walk_tab {l : PySem.W.OpenLaw} {n k : Nat} {q : Program} {loose : List Str} {XP : (Str → Option Value) → Heap → Prop}
    {YP : World → Heap → Prop} {d : DefRec} {CX : World → CXT} {x : Str}
    (hn : l.most = some n) (hn2 : n ≤ sizeLine) (hdf : d.params.defaults = []) (hr : Rm k callerA)
    (F : ∀ (w : World) (mg : Str → Option Value) (fa : Addr) (h : Heap), YP w h → h.Ns mainGlobals mg → mg d.name = some (.ref fa) →
      ∃ (K : PySem.W.Frag) (fd : FuncData) (sp : Sp) (cs : List (Addr × Addr)), K.In h ∧
        (∀ p ∈ cs, h.get? p.2 = some { cls := .none, data := .fields #[] }) ∧ (∀ p ∈ cs, K.lookup p.2 = none) ∧
        (∀ p ∈ cs, PySem.W.CodeHd h p.1 p.2) ∧ (∀ (s : Shared) (u : Value), BindsTo s fd ⟨[u], []⟩ [(x, u)]) ∧
        (∀ (H : Hp) (a : Addr) (ns : List Int), ns.length ≤ n → (∀ p ∈ cs, H p.2 = some (.tbl #[])) → SqL K H a (ns.map V.int) →
          sp [.ref a] H (fun v _ => v = .bl true) fun _ _ _ => False) ∧
        ∀ base : Heap, K.In base → base.Ns mainGlobals mg → (∀ p ∈ cs, TabB base mg p.1 p.2) → FnG l.prog w K mg base (CX w) k fa fd [x] sp)
    (hCX : ∀ (w : World) (H : Hp) (s : Shared) (e : Value) (s' : Shared), CX w [] H s (fun _ _ _ => False) e s' → False) :
    PySem.W.WalkO q loose XP YP l.row.toRowW d [] (fun f vs => PySem.call f vs) := by
  refine Att.attach_callB hn hdf ?_
  intro w s0 s1 mg mb fa o pm cd doc a vs ns G Y ho hd hcd hmg hobj hints hlen hbits hg
  obtain ⟨K, fd, sp, cs, KX, hT, nT, C, hb, hsp, hF⟩ := F w mg fa _ Y G.T.g hmg
  exact law_tab KX G.T.g G.T.b G.T.builtins G.T.nolimit hg hT nT C G.T.bmain hobj hints (Nat.le_trans hlen hn2) hr hF hb
    (fun H t hS => hsp H a ns hlen t hS) (fun H e s' => hCX w H s1 e s')
end ME

set_option Elab.async false
set_option linter.all false
set_option maxRecDepth 100000
set_option maxHeartbeats 0
namespace K08
open PySem PySem.Spec PyProof.Rows L2 MM
end K08
open PySem PySem.W PySem.Calls PyProof.Rows
theorem PySem.Challenge.cw_movemarks_k08_whole_words_and_sums_of_gr_holds : PySem.Challenge.rw_movemarks_k08_whole_words_and_sums_of_gr.Holds := by
  w_on; o_law
  refine HandSHeadRun.head_imp (r := OpenLaw.row PySem.Challenge.rw_movemarks_k08_whole_words_and_sums_of_gr) (q := view (OpenLaw.row PySem.Challenge.rw_movemarks_k08_whole_words_and_sums_of_gr).prog [61]) (H := K08.hk) (ob := K08.ob) (M := 20000) (loose := K08.names)
    (d := HandSHeadRun.topDef (OpenLaw.row PySem.Challenge.rw_movemarks_k08_whole_words_and_sums_of_gr).prog 61) (kwd := []) K08.ob_eq K08.run9 (by kernel_rfl) (by kernel_rfl) (by kernel_rfl) (by rfl) (by first | assumption | decide +kernel) (by decide +kernel) ⟨rfl, rfl, rfl, rfl, rfl, by decide +kernel⟩ ?hw ?hc
  case hw => w_witness2
  case hc =>
    refine ME.walk_tab (l := PySem.Challenge.rw_movemarks_k08_whole_words_and_sums_of_gr) (n := 63) (k := 12) (x := "_law_script") (CX := fun _ => L2.CX0) rfl (by decide) (by kernel_rfl) ⟨⟨rfl, by decide, by decide⟩, rfl⟩ ?F (fun _ _ _ _ _ z => z)
    intro w mg fa h Y G hmg0
    obtain ⟨K, KX, c, cx⟩ := Y
    have hmg : mg ("law" : PySem.Str) = some (.ref fa) := by
      have e : (HandSHeadRun.topDef (OpenLaw.row PySem.Challenge.rw_movemarks_k08_whole_words_and_sums_of_gr).prog 61).name = ("law" : PySem.Str) := by kernel_rfl
      rw [← e]
      exact hmg0
    obtain ⟨fd, hb, hF⟩ := K08.law_ends (P := (PySem.Challenge.rw_movemarks_k08_whole_words_and_sums_of_gr).prog) (w := w) KX G hmg c.t.d c.more cx
    have m1 : ((K08.sIo, none) : He.Defn) ∈ K08.tf := List.mem_cons_self
    have all1 : ∀ (φ : PySem.Addr × PySem.Addr → Prop), φ (K08.cd1 K) → ∀ p ∈ K08.cs K, φ p := by
      intro φ a p hp
      rcases List.mem_cons.mp hp with rfl | hp
      · exact a
      · cases hp
    refine ⟨K, fd, K08.spLaw K, K08.cs K, KX, all1 _ (c.empty _ m1), all1 _ (c.out _ m1), all1 _ (PySem.W.codeHd_of_K KX (c.hd _ m1)), hb, fun H a ns hl ht hS => ?_, hF⟩
    refine ⟨a, ns, rfl, hS, by omega, ?_, fun _ => rfl⟩
    intro p hp
    rcases List.mem_cons.mp hp with rfl | hp
    · exact LamX.TabS.nil (ht (K08.cd1 K) List.mem_cons_self)
    · cases hp
