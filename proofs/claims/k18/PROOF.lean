import PyProof.Rows.All
import Wide.All
import OpenK.AllK
import Wide.FinOn
import HandS.Words
import HandS.Defaults
import HandS.Head0
import HandS.Head1
import HandS.Head2
import HandS.Head3
import HandS.HeadEnd
import HandS.HeadHook1
import HandS.HeadHook2
import HandS.ExcIs
import HandS.MakeKw
import HandS.ExcField
import HandS.MakeKwOnly
import PyProof.ExcBaseAll.ZeroDivisionError
import HandS.ForMost
import HandS.ForExc
import HandS.Wide
import HandS.Gcd
import HandS.RaiseMore
import HandS.Iter
import HandS.More
import HandS.IsInst
import HandS.ExcOwn
import HandS.WordsExc
import KE.GoesEnum
import HandS.TupAny
import HandS.SetFor
import HandS.TupSets
import PyProof.TypeEq
import HandS.Codes
import HandS.StrMore
import PyProof.StrLawsFirst
import HandS.Style
import HandS.WideBits
import HandS.SortInts
import KE.KDictZip
import HandS.GenList
import HandS.DictTup
import HandS.Flow
import HandS.ExcInit
import PyProof.Rows.FactsExc_KeyError
import PyProof.ExcBaseAll.LookupError
import PyProof.ExcBaseAll.IndexError
import PyProof.ExcBaseAll.OverflowError
import PyProof.InstStoreFacts
import HandS.New
import HandS.CallLocal
import HandS.CallSlots
import HandS.Zip
import HandS.Dict
import HandS.Conv
import HandS.Set
import HandS.DictComp
import HandS.WordsDict
import PyProof.StrOps2
import HandS.OwnEq
import KE.KMathGC
import PySem.Challenge.RW_paymill_k18_whole_sets_of_days
set_option Elab.async false
set_option linter.all false
set_option maxRecDepth 100000
set_option maxHeartbeats 4000000
/-! HR: what a head's run speaks of, by names of its own: it is run ahead of all else (memory) -/
namespace HH
open PySem PySem.Spec PyProof.Rows L2
abbrev AlG : Type := He.AlD × Bool
def bltB (K : PySem.W.Frag) (bs : List (Str × String)) : Bool := bs.all fun p => He.eqO (PySem.W.nsIn K mainGlobals p.1) (some (some (.builtin p.2)))
def obsX (n : Nat) (fa : List He.Fa) (fn : List He.DefD) (ex : PySem.W.Frag → Bool) (g : Addr → Option Obj) : AlG := (He.obsDG n fa fn g, ex (He.frG g (He.asD g n)))
def hookX (n : Nat) (fa : List He.Fa) (fn : List He.DefD) (ex : PySem.W.Frag → Bool) : PySem.W.Hook where
  α := AlG
  obs := fun s => obsX n fa fn ex s.heap.get?
  val := fun _ => (He.valD fn, true)
  says := fun _ h => ∃ K : PySem.W.Frag, K.In h ∧ He.SaysD fa fn K ∧ ex K = true
  of := fun _ _ e => ⟨_, He.frG_in, congrArg Prod.fst e, congrArg Prod.snd e⟩
  keeps := fun _ _ _ ⟨K, hK, c⟩ k => ⟨K, PySem.W.Frag.In.keeps hK k, c⟩
def excCB (K : PySem.W.Frag) (D : Addr) : Bool := decide (PySem.W.findIn K (.ref D) "__getattribute__" = some (some (.builtin "BaseException.__getattribute__"))) && (decide (PySem.W.findIn K (.ref D) "__getattr__" = some none) &&
  (decide (PySem.W.subIn K (.ref D) (.type "BaseException") = some true) && (PySem.W.hasDictIn K D && (decide (PySem.W.findIn K (.ref D) "__class__" = some (some (.builtin "object.__class__"))) &&
  (decide (PySem.W.specialIn K (.builtin "object.__class__") "__get__" = some (some (.builtin "getset_descriptor.__get__"))) && (decide (PySem.W.takesIn K (.builtin "object.__class__") = some true) && decide (PySem.W.mroIn K D (.type "object") = some true)))))))
def itA (K : PySem.W.Frag) (a : Addr) (i : Nat) : Addr := match K.lookup a with
  | some ⟨.type _, _, .seq its _, _⟩ => (match its.toList[i]? with
    | some (.ref b) => b
    | _ => a)
  | _ => a
def tupA (K : PySem.W.Frag) (a : Addr) (vs : List V) : Bool := match K.lookup a with
  | some ⟨.type c, _, .seq its _, _⟩ => decide (c = "tuple") && (decide (its.size ≤ sizeLine) && He.relAll vs its.toList)
  | _ => false
/-- a line of one knot, as the module holds it -/
def lnB1 (K : PySem.W.Frag) (x : Str) (a b c d e f : Int) : Bool :=
  tupA K (He.ga K x) [.ref (itA K (He.ga K x) 0), .ref (itA K (He.ga K x) 1)] && (tupA K (itA K (He.ga K x) 1) [.int e, .int f] &&
  (tupA K (itA K (He.ga K x) 0) [.ref (itA K (itA K (He.ga K x) 0) 0)] &&
  (tupA K (itA K (itA K (He.ga K x) 0) 0) [.ref (itA K (itA K (itA K (He.ga K x) 0) 0) 0), .ref (itA K (itA K (itA K (He.ga K x) 0) 0) 1)] &&
  (tupA K (itA K (itA K (itA K (He.ga K x) 0) 0) 0) [.int a, .int b] && tupA K (itA K (itA K (itA K (He.ga K x) 0) 0) 1) [.int c, .int d]))))
abbrev veBase : List Value := [.type "ValueError", .type "Exception", .type "BaseException", .type "object"]
def excVB (K : PySem.W.Frag) (C : Addr) : Bool := PySem.W.excIn K C veBase "ValueError.__new__" && (PySem.W.keepIn K (.ref C) && (decide (PySem.W.subIn K (.ref C) (.type "BaseException") = some true) &&
  decide (PySem.W.typeIn K (.ref C) = some (.type "type"))))
def dyCB (K : PySem.W.Frag) (C : Addr) : Bool := PySem.W.plainGet K C Str.empty && (PySem.W.hasDictIn K C && (PySem.W.plainOver K C && (decide (PySem.W.findIn K (.ref C) "__setattr__" = some (some (.builtin "object.__setattr__"))) &&
  (decide (PySem.W.findIn K (.ref C) "__class__" = some (some (.builtin "object.__class__"))) && (decide (PySem.W.specialIn K (.builtin "object.__class__") "__get__" = some (some (.builtin "getset_descriptor.__get__"))) &&
  (decide (PySem.W.takesIn K (.builtin "object.__class__") = some true) && (decide (PySem.W.mroIn K C (.type "object") = some true) && (["NoneType", "bool", "int", "str", "list", "tuple"] ++ ["dict"]).all fun T => decide (PySem.W.kitOne K (.ref C) (.type T) = some false))))))))
def mkB (K : PySem.W.Frag) (C f : Addr) : Bool := PySem.W.makesIn K C && (decide (PySem.W.findIn K (.ref C) "__init__" = some (some (.ref f))) && (PySem.W.isFn K (.ref f) && PySem.W.keepIn K (.ref C)))
def methB (K : PySem.W.Frag) (C : Addr) (m : Str) (f : Addr) : Bool := decide (PySem.W.findIn K (.ref C) m = some (some (.ref f))) && (PySem.W.isFn K (.ref f) && PySem.W.keepIn K (.ref f))
def noatB (K : PySem.W.Frag) (C : Addr) (fs : List Str) : Bool := fs.all fun f => decide (PySem.W.findIn K (.ref C) f = some none)
def kwdAt (f : Str × Option Str) (x : Str) (K : PySem.W.Frag) : Addr := match K.lookup (He.fAd K f) with
  | some ⟨_, _, .func fd, _⟩ => (match fd.kwdefaults with
    | .ref D => (match PySem.W.nsIn K D x with
      | some (some (.ref a)) => a
      | _ => 0)
    | _ => 0)
  | _ => 0
def nilAtB (K : PySem.W.Frag) (a : Addr) : Bool := match K.lookup a with
  | some ⟨.type c, _, .seq its _, _⟩ => decide (c = "tuple") && decide (its.toList = [])
  | _ => false
def wd13B (K : PySem.W.Frag) (D : Addr) (As : List Addr) (P : Addr) (j : Nat) : Bool := decide (As.length = 17) && (decide (j < 17) && (((List.range 17).all fun i => decide (PySem.W.kitOne K (.ref D) (.ref (As.getD i 0)) = some (decide (i = j)))) && decide (PySem.W.kitOne K (.ref D) (.ref P) = some (decide (j < 12)))))
/-- the i-th statement of a class -/
def innerN (i : Nat) : Stmt → Stmt
  | .ClassDef _ _ _ b _ _ _ _ _ _ _ => b.getD i (.Pass ⟨0, 0, 0, 0⟩)
  | s => s
/-- the classes of the refusals, in the order of the law's words -/
def refA (K : PySem.W.Frag) : List Addr := [He.ga K "NoAmount", He.ga K "NoDays", He.ga K "NoDeed", He.ga K "NoFold", He.ga K "NoLeave", He.ga K "NoLine", He.ga K "NoPot", He.ga K "NoRule", He.ga K "NoStretch", He.ga K "NoTable", He.ga K "NoTelling", He.ga K "NoText", He.ga K "NoPart", He.ga K "NoName", He.ga K "NoNumber", He.ga K "TooLong", He.ga K "NoCut"]
abbrev upTail : List Value := [.type "Exception", .type "BaseException", .type "object"]
def upP (P : Addr) : List Value := .ref P :: .type "ValueError" :: upTail
def upK : List Value := .type "KeyError" :: .type "LookupError" :: upTail
def upI : List Value := .type "IndexError" :: .type "LookupError" :: upTail
def upO : List Value := .type "OverflowError" :: .type "ArithmeticError" :: upTail
def upL : List Value := .type "LookupError" :: upTail
def ownCB (K : PySem.W.Frag) (C : Addr) (up : List Value) (new : String) : Bool := match K.lookup C with
  | some ⟨.type "type", _, .cls cd, sl⟩ => (match sl.toList with
    | [_, _, _, _, some (.builtin n), _] => n == new && !cd.hasDel && cd.mro == (.ref C :: up) && cd.hasDict
    | _ => false)
  | _ => false
def ownEB (K : PySem.W.Frag) (C : Addr) (up : List Value) (new : String) (f : Str) : Bool := ownCB K C up new && (decide (PySem.W.findIn K (.ref C) "__setattr__" = some (some (.builtin "object.__setattr__"))) &&
  (decide (PySem.W.subIn K (.ref C) (.type "BaseException") = some true) && (decide (PySem.W.typeIn K (.ref C) = some (.type "type")) && (PySem.W.keepIn K (.ref C) && decide (PySem.W.findIn K (.ref C) f = some none)))))
def iniB (K : PySem.W.Frag) (c : Value) (ini : String) : Bool := match PySem.W.findCls K c (.type "type") "__init__" with
  | some (.val (.builtin n)) => n == ini
  | _ => false
def readPB (K : PySem.W.Frag) (P : Addr) : Bool := decide (PySem.W.specialIn K (.ref P) "__getattribute__" = some (some (.builtin "type.__getattribute__"))) && PySem.W.readsIn K P (.type "type")
def obsY (n : Nat) (fa : List He.Fa) (fn : List He.DefD) (ex : PySem.W.Frag → Bool) (g : Addr → Option Obj) : AlG := (He.obsD fa fn (He.frG g (cStatics :: He.asD g n)), ex (He.frG g (cStatics :: He.asD g n)))
def hookY (n : Nat) (fa : List He.Fa) (fn : List He.DefD) (ex : PySem.W.Frag → Bool) : PySem.W.Hook where
  α := AlG
  obs := fun s => obsY n fa fn ex s.heap.get?
  val := fun _ => (He.valD fn, true)
  says := fun _ h => ∃ K : PySem.W.Frag, K.In h ∧ He.SaysD fa fn K ∧ ex K = true
  of := fun _ _ e => ⟨_, He.frG_in, congrArg Prod.fst e, congrArg Prod.snd e⟩
  keeps := fun _ _ _ ⟨K, hK, c⟩ k => ⟨K, PySem.W.Frag.In.keeps hK k, c⟩
def inner : Stmt → Stmt
  | .ClassDef _ _ _ b _ _ _ _ _ _ _ => b.getD 0 (.Pass ⟨0, 0, 0, 0⟩)
  | s => s
end HH

set_option Elab.async false
set_option linter.all false
set_option maxRecDepth 100000
set_option maxHeartbeats 4000000
namespace HH
open PySem PySem.Spec PyProof.Rows L2
def top (i : Nat) : Stmt := PySem.Challenge.pw_paymill_k18_whole_sets_of_days.main.body.getD i (.Pass ⟨0, 0, 0, 0⟩)
abbrev s_Days_init : Stmt := innerN 0 (top 12)
abbrev s_Days_has : Stmt := innerN 1 (top 12)
abbrev s_Days_eq : Stmt := innerN 2 (top 12)
abbrev s_is_whole : Stmt := top 7
abbrev s_is_unlike_row : Stmt := top 22
abbrev s_refuse_wrong : Stmt := top 21
abbrev s_pattern_of : Stmt := top 23
abbrev s_many_below : Stmt := top 27
abbrev s_is_in : Stmt := top 28
abbrev s_from_on : Stmt := top 29
abbrev s_regular_below : Stmt := top 33
abbrev s_count_days : Stmt := top 20
abbrev s_pattern : Stmt := top 24
abbrev s_told : Stmt := top 30
abbrev s_sign : Stmt := top 32
abbrev s_joined : Stmt := top 31
abbrev s_both : Stmt := top 15
abbrev s_either : Stmt := top 16
abbrev s_without : Stmt := top 17
abbrev s_others : Stmt := top 18
abbrev s_moved : Stmt := top 19
abbrev s_all_days : Stmt := top 13
abbrev s_no_days : Stmt := top 14
abbrev s_law_reel : Stmt := top 35
abbrev s_law_draw : Stmt := top 36
abbrev s_law_bits : Stmt := top 37
abbrev s_law_rests : Stmt := top 38
abbrev s_law_unlike : Stmt := top 39
abbrev s_law_turned : Stmt := top 40
abbrev s_law_given : Stmt := top 41
abbrev s_law_marks : Stmt := top 42
abbrev s_law_put : Stmt := top 44
abbrev s_law_three : Stmt := top 45
abbrev s_law_rings : Stmt := top 46
abbrev s_law_ends : Stmt := top 47
abbrev s_law_counts : Stmt := top 48
abbrev s_law : Stmt := top 49
def d_is_whole : He.DefD := ⟨("is_whole", none), "is_whole", "is_whole", defArgs s_is_whole, defBody s_is_whole, defScope s_is_whole, [], []⟩
def d_is_unlike_row : He.DefD := ⟨("_is_unlike_row", none), "_is_unlike_row", "_is_unlike_row", defArgs s_is_unlike_row, defBody s_is_unlike_row, defScope s_is_unlike_row, [], []⟩
def d_refuse_wrong : He.DefD := ⟨("_refuse_wrong", none), "_refuse_wrong", "_refuse_wrong", defArgs s_refuse_wrong, defBody s_refuse_wrong, defScope s_refuse_wrong, [], []⟩
def d_pattern_of : He.DefD := ⟨("_pattern_of", none), "_pattern_of", "_pattern_of", defArgs s_pattern_of, defBody s_pattern_of, defScope s_pattern_of, [], []⟩
def d_many_below : He.DefD := ⟨("_many_below", none), "_many_below", "_many_below", defArgs s_many_below, defBody s_many_below, defScope s_many_below, [], []⟩
def d_is_in : He.DefD := ⟨("_is_in", none), "_is_in", "_is_in", defArgs s_is_in, defBody s_is_in, defScope s_is_in, [], []⟩
def d_from_on : He.DefD := ⟨("_from_on", none), "_from_on", "_from_on", defArgs s_from_on, defBody s_from_on, defScope s_from_on, [], []⟩
def d_regular_below : He.DefD := ⟨("_regular_below", none), "_regular_below", "_regular_below", defArgs s_regular_below, defBody s_regular_below, defScope s_regular_below, [], []⟩
def d_count_days : He.DefD := ⟨("count_days", none), "count_days", "count_days", defArgs s_count_days, defBody s_count_days, defScope s_count_days, [], []⟩
def d_pattern : He.DefD := ⟨("_pattern", none), "_pattern", "_pattern", defArgs s_pattern, defBody s_pattern, defScope s_pattern, [], []⟩
def d_told : He.DefD := ⟨("_told", none), "_told", "_told", defArgs s_told, defBody s_told, defScope s_told, [], []⟩
def d_sign : He.DefD := ⟨("_sign", none), "_sign", "_sign", defArgs s_sign, defBody s_sign, defScope s_sign, [], []⟩
def d_joined : He.DefD := ⟨("_joined", none), "_joined", "_joined", defArgs s_joined, defBody s_joined, defScope s_joined, [], []⟩
def d_both : He.DefD := ⟨("both", none), "both", "both", defArgs s_both, defBody s_both, defScope s_both, [], []⟩
def d_either : He.DefD := ⟨("either", none), "either", "either", defArgs s_either, defBody s_either, defScope s_either, [], []⟩
def d_without : He.DefD := ⟨("without", none), "without", "without", defArgs s_without, defBody s_without, defScope s_without, [], []⟩
def d_others : He.DefD := ⟨("others", none), "others", "others", defArgs s_others, defBody s_others, defScope s_others, [], []⟩
def d_moved : He.DefD := ⟨("moved", none), "moved", "moved", defArgs s_moved, defBody s_moved, defScope s_moved, [], []⟩
def d_all_days : He.DefD := ⟨("all_days", none), "all_days", "all_days", defArgs s_all_days, defBody s_all_days, defScope s_all_days, [], []⟩
def d_no_days : He.DefD := ⟨("no_days", none), "no_days", "no_days", defArgs s_no_days, defBody s_no_days, defScope s_no_days, [], []⟩
def d_law_reel : He.DefD := ⟨("_law_reel", none), "_law_reel", "_law_reel", defArgs s_law_reel, defBody s_law_reel, defScope s_law_reel, [], []⟩
def d_law_draw : He.DefD := ⟨("_law_draw", none), "_law_draw", "_law_draw", defArgs s_law_draw, defBody s_law_draw, defScope s_law_draw, [], []⟩
def d_law_bits : He.DefD := ⟨("_law_bits", none), "_law_bits", "_law_bits", defArgs s_law_bits, defBody s_law_bits, defScope s_law_bits, [], []⟩
def d_law_rests : He.DefD := ⟨("_law_rests", none), "_law_rests", "_law_rests", defArgs s_law_rests, defBody s_law_rests, defScope s_law_rests, [], []⟩
def d_law_unlike : He.DefD := ⟨("_law_unlike", none), "_law_unlike", "_law_unlike", defArgs s_law_unlike, defBody s_law_unlike, defScope s_law_unlike, [], []⟩
def d_law_turned : He.DefD := ⟨("_law_turned", none), "_law_turned", "_law_turned", defArgs s_law_turned, defBody s_law_turned, defScope s_law_turned, [], []⟩
def d_law_given : He.DefD := ⟨("_law_given", none), "_law_given", "_law_given", defArgs s_law_given, defBody s_law_given, defScope s_law_given, [], []⟩
def d_law_marks : He.DefD := ⟨("_law_marks", none), "_law_marks", "_law_marks", defArgs s_law_marks, defBody s_law_marks, defScope s_law_marks, [], []⟩
def d_law_put : He.DefD := ⟨("_law_put", none), "_law_put", "_law_put", defArgs s_law_put, defBody s_law_put, defScope s_law_put, [], []⟩
def d_law_three : He.DefD := ⟨("_law_three", none), "_law_three", "_law_three", defArgs s_law_three, defBody s_law_three, defScope s_law_three, [], []⟩
def d_law_rings : He.DefD := ⟨("_law_rings", none), "_law_rings", "_law_rings", defArgs s_law_rings, defBody s_law_rings, defScope s_law_rings, [], []⟩
def d_law_ends : He.DefD := ⟨("_law_ends", none), "_law_ends", "_law_ends", defArgs s_law_ends, defBody s_law_ends, defScope s_law_ends, [], []⟩
def d_law_counts : He.DefD := ⟨("_law_counts", none), "_law_counts", "_law_counts", defArgs s_law_counts, defBody s_law_counts, defScope s_law_counts, [], []⟩
def d_law : He.DefD := ⟨("law", none), "law", "law", defArgs s_law, defBody s_law, defScope s_law, [], []⟩
def d_Days_init : He.DefD := ⟨("Days", some "__init__"), "__init__", "Days.__init__", defArgs s_Days_init, defBody s_Days_init, defScope s_Days_init, [], [("turned", .adr (kwdAt ("Days", some "__init__") "turned"))]⟩
def d_Days_has : He.DefD := ⟨("Days", some "has"), "has", "Days.has", defArgs s_Days_has, defBody s_Days_has, defScope s_Days_has, [], []⟩
def d_Days_eq : He.DefD := ⟨("Days", some "__eq__"), "__eq__", "Days.__eq__", defArgs s_Days_eq, defBody s_Days_eq, defScope s_Days_eq, [], []⟩
def fn : List He.DefD := [d_is_whole, d_is_unlike_row, d_refuse_wrong, d_pattern_of, d_many_below, d_is_in, d_from_on, d_regular_below, d_count_days, d_pattern, d_told, d_sign, d_joined, d_both, d_either, d_without, d_others, d_moved, d_all_days, d_no_days, d_law_reel, d_law_draw, d_law_bits, d_law_rests, d_law_unlike, d_law_turned, d_law_given, d_law_marks, d_law_put, d_law_three, d_law_rings, d_law_ends, d_law_counts, d_law, d_Days_init, d_Days_has, d_Days_eq]
def fa : List He.Fa := [.glo "is_whole", .glo "_is_unlike_row", .glo "_refuse_wrong", .glo "_pattern_of", .glo "_many_below", .glo "_is_in", .glo "_from_on", .glo "_regular_below", .glo "count_days", .glo "_pattern", .glo "_told", .glo "_sign", .glo "_joined", .glo "both", .glo "either", .glo "without", .glo "others", .glo "moved", .glo "all_days", .glo "no_days", .glo "_law_reel", .glo "_law_draw", .glo "_law_bits", .glo "_law_rests", .glo "_law_unlike", .glo "_law_turned", .glo "_law_given", .glo "_law_marks", .glo "_law_put", .glo "_law_three", .glo "_law_rings", .glo "_law_ends", .glo "_law_counts", .glo "law", .glo "Days", .free "all", .free "dict", .free "divmod", .free "enumerate", .free "int", .free "isinstance", .free "len", .free "list", .free "max", .free "min", .free "range", .free "set", .free "sorted", .free "tuple", .free "type", .int "MOST_PERIOD" 5040, .int "_MOST_TURNED" 60]
def bs : List (Str × String) := [("lcm", "math.lcm")]
def ex (K : PySem.W.Frag) : Bool := bltB K bs && dyCB K (He.ga K "Days") && noatB K (He.ga K "Days") ["period", "marks", "turned"] && mkB K (He.ga K "Days") (He.fAd K ("Days", some "__init__")) && methB K (He.ga K "Days") "has" (He.fAd K ("Days", some "has")) && nilAtB K (kwdAt ("Days", some "__init__") "turned" K) && decide (PySem.W.findIn K (.ref (He.ga K "Days")) "__eq__" = some (some (.ref (He.fAd K ("Days", some "__eq__"))))) && PySem.W.isFn K (.ref (He.fAd K ("Days", some "__eq__"))) && decide (PySem.W.findIn K (.ref (He.ga K "Days")) "__ne__" = some (some (.builtin "object.__ne__"))) && decide (PySem.W.mroIn K (He.ga K "Days") (.type "object") = some true)
abbrev R : PySem.W.OpenRow := PySem.W.OpenLaw.row PySem.Challenge.rw_paymill_k18_whole_sets_of_days
abbrev hk : PySem.W.Hook := hookX 5 fa fn ex
def ob (s : PySem.W.SharedT) : AlG := obsX 5 fa fn ex (HandSHeadRun.getT s)
def loose : List Str := (["__name__", "MOST_PERIOD", "_MOST_TURNED", "lcm", "PayError", "NoDays", "NoStretch", "TooLong", "is_whole", "figures", "Days", "all_days", "no_days", "both", "either", "without", "others", "moved", "count_days", "_refuse_wrong", "_is_unlike_row", "_pattern_of", "_pattern", "_row_text", "_turned_text", "_many_below", "_is_in", "_from_on", "_told", "_joined"] : List Str) ++ (["_sign", "_regular_below", "_law_reel", "_law_draw", "_law_bits", "_law_rests", "_law_unlike", "_law_turned", "_law_given", "_law_marks", "_law_in", "_law_put", "_law_three", "_law_rings", "_law_ends", "_law_counts"] : List Str)
theorem mapP {α β γ : Type} {o : Option α} {f : α → β} {g : α → γ} {b : β} {c : γ} (h1 : o.map f = some b) (h2 : o.map g = some c) : o.map (fun x => (f x, g x)) = some (b, c) := by
  cases o with
  | none => cases h1
  | some x =>
    have e1 : f x = b := Option.some.inj h1
    have e2 : g x = c := Option.some.inj h2
    show some (f x, g x) = some (b, c)
    rw [e1, e2]
open HandSHeadRun PySem.W
theorem runA (w : World) : (wholeF (fun p => stepQ (denQ tabQ) p w) fenceQ 20000 R.prog).map (fun x => looksF R.prog x.1.heap x.2.abs) = some true := by kernel_rfl
theorem runS (w : World) : (wholeF (fun p => stepQ (denQ tabQ) p w) fenceQ 20000 R.prog).map (fun x => seenQ (PySem.W.view R.prog [49]) loose (importedModules R.prog.main.body) (fun s => xlAt (PySem.W.view R.prog [49]) [] s && recOk R.toRowW.records s) x.2.abs) = some (openGood (PySem.W.view R.prog [49]) loose) := by kernel_rfl
theorem runO1 (w : World) : (wholeF (fun p => stepQ (denQ tabQ) p w) fenceQ 20000 R.prog).map (fun x => He.obsDG 5 fa fn (getT x.2)) = some (He.valD fn) := by kernel_rfl
theorem runO2 (w : World) : (wholeF (fun p => stepQ (denQ tabQ) p w) fenceQ 20000 R.prog).map (fun x => ex (He.frG (getT x.2) (He.asD (getT x.2) 5))) = some true := by kernel_rfl
theorem run (w : World) : HandSHeadRun.RunEqI R (PySem.W.view R.prog [49]) hk ob 20000 loose w := mapP (runA w) (mapP (runS w) (mapP (runO1 w) (runO2 w)))
end HH

set_option Elab.async false
set_option linter.all false
set_option maxRecDepth 100000
set_option maxHeartbeats 4000000
open PySem PySem.W PySem.Calls PyProof.Rows
set_option maxHeartbeats 0 in
theorem HH.look (h : (OpenLaw.row PySem.Challenge.rw_paymill_k18_whole_sets_of_days).Holds) : PySem.Challenge.rw_paymill_k18_whole_sets_of_days.Holds := by
  w_on; o_law
  exact h

set_option Elab.async false
set_option linter.all false
set_option maxRecDepth 100000
set_option maxHeartbeats 2000000
/-! DL: readings walked over data (PyData) in the place of values and heaps -/
namespace DL
open PySem L2

abbrev Av := Addr → Bool
/-- the heap without what is avoided -/
def wo (N : Av) (H : Hp) : Hp := fun b => if N b then none else H b
theorem wo_in {N : Av} {H : Hp} {b : Addr} (h : N b = false) : wo N H b = H b := by unfold wo; rw [h]; rfl
theorem wo_out {N : Av} {H : Hp} {b : Addr} (h : N b = true) : wo N H b = none := by unfold wo; rw [h]; rfl
theorem wo_some {N : Av} {H : Hp} {b : Addr} {o : HO} (h : wo N H b = some o) : N b = false ∧ H b = some o := by
  cases e : N b with
  | true => rw [wo_out e] at h; cases h
  | false => rw [wo_in e] at h; exact ⟨rfl, h⟩
/-- all but the avoided stays -/
def Keep (N : Av) (H H' : Hp) : Prop := ∀ b o, N b = false → H b = some o → H' b = some o
theorem Keep.refl {N : Av} {H : Hp} : Keep N H H := fun _ _ _ h => h
theorem Keep.trans {N : Av} {H H1 H2 : Hp} (a : Keep N H H1) (b : Keep N H1 H2) : Keep N H H2 := fun x o n h => b x o n (a x o n h)
theorem Keep.of {N : Av} {H H' : Hp} (a : Same H H') : Keep N H H' := fun b o _ h => a b o h
theorem Keep.wo {N : Av} {H H' : Hp} (a : Keep N H H') : Same (wo N H) (wo N H') := fun b o h => by
  obtain ⟨n, h⟩ := wo_some h
  rw [wo_in n]; exact a b o n h
def Le (N N' : Av) : Prop := ∀ b, N b = true → N' b = true
theorem Le.refl {N : Av} : Le N N := fun _ h => h
theorem Le.trans {N N1 N2 : Av} (a : Le N N1) (b : Le N1 N2) : Le N N2 := fun x h => b x (a x h)
theorem Le.wo {N N' : Av} {H : Hp} (a : Le N N') : Same (wo N' H) (wo N H) := fun b o h => by
  obtain ⟨n, h⟩ := wo_some h
  have : N b = false := by
    cases e : N b with
    | false => rfl
    | true => rw [a b e] at n; cases n
  rw [wo_in this]; exact h
theorem Same.wo1 {N : Av} {H : Hp} : Same (DL.wo N H) H := fun b o h => (wo_some h).2
theorem same_t {K : PySem.W.Frag} {H H' : Hp} {a : Addr} {xs : List V} (e : Same H H') (h : SqT K H a xs) : SqT K H' a xs := by
  rcases h with (h | ⟨o, h⟩) | h
  · exact .inl (.inl (e _ _ h))
  · exact .inl (.inr ⟨o, e _ _ h⟩)
  · exact .inr h
theorem same_rd {H H' : Hp} {a : Addr} {u : HO} (e : Same H H') (h : Rd H a u) : Rd H' a u := by
  rcases h with h | ⟨o, h⟩
  · exact .inl (e _ _ h)
  · exact .inr ⟨o, e _ _ h⟩
/-- what is known of an own class whose instances are data -/
structure OwnC (K : PySem.W.Frag) (C : Addr) : Prop where
  cls : L2.Cls K C
  cl : PySem.W.findIn K (.ref C) "__class__" = some (some (.builtin "object.__class__"))
  sp : PySem.W.specialIn K (.builtin "object.__class__") "__get__" = some (some (.builtin "getset_descriptor.__get__"))
  tk : PySem.W.takesIn K (.builtin "object.__class__") = some true
  mr : PySem.W.mroIn K C (.type "object") = some true
  kit : ∀ T : String, T ∈ ["NoneType", "bool", "int", "str", "list", "tuple"] ++ ["dict"] → PySem.W.kitOne K (.ref C) (.type T) = some false
mutual
/-- a value is a datum: lists tracked (or locked), tuples tracked, locked or the written part's -/
inductive Dt (K : PySem.W.Frag) (H : Hp) : V → PyData → Prop
  | non : Dt K H .non .none
  | bl (b : Bool) : Dt K H (.bl b) (.bool b)
  | int (i : Int) : Dt K H (.int i) (.int i)
  | str (x : Str) : Dt K H (.str x) (.str x)
  | lst {a : Addr} {xs : List V} {ds : List PyData} (h : Rd H a (.lst xs)) (t : DtAll K H xs ds) : Dt K H (.ref a) (.list ds)
  | tup {a : Addr} {xs : List V} {ds : List PyData} (h : SqT K H a xs) (t : DtAll K H xs ds) : Dt K H (.ref a) (.tuple ds)
  | dct {a : Addr} (h : H a = some (.dK [])) : Dt K H (.ref a) (.dict [])
  | dco {a : Addr} {kvs : List (Key × V)} (h : H a = some (.dK kvs)) : Dt K H (.ref a) (.dict [(.bool true, .none)])
  | ins {a C dx : Addr} {fs : List (Str × V)} {ps : List (PyData × PyData)} (h : H a = some (.ins C dx fs)) (c : OwnC K C) (t : DtKv K H fs ps) : Dt K H (.ref a) (.dict ((.none, .int (C : Int)) :: ps))
inductive DtAll (K : PySem.W.Frag) (H : Hp) : List V → List PyData → Prop
  | nil : DtAll K H [] []
  | cons {v : V} {vs : List V} {d : PyData} {ds : List PyData} (h : Dt K H v d) (t : DtAll K H vs ds) : DtAll K H (v :: vs) (d :: ds)
/-- the fields of an instance -/
inductive DtKv (K : PySem.W.Frag) (H : Hp) : List (Str × V) → List (PyData × PyData) → Prop
  | nil : DtKv K H [] []
  | cons {f : Str} {v : V} {fs : List (Str × V)} {d : PyData} {ps : List (PyData × PyData)} (h : Dt K H v d) (t : DtKv K H fs ps) : DtKv K H ((f, v) :: fs) ((.str f, d) :: ps)
end
mutual
theorem dp_mono {K : PySem.W.Frag} {H H' : Hp} (e : Same H H') : ∀ (d : PyData) (v : V), Dt K H v d → Dt K H' v d
  | .none, _, h => by cases h; exact .non
  | .bool b, _, h => by cases h; exact .bl b
  | .int i, _, h => by cases h; exact .int i
  | .str x, _, h => by cases h; exact .str x
  | .list ds, _, h => by
    cases h with
    | lst hs ha => exact .lst (same_rd e hs) (dpall_mono e ds _ ha)
  | .tuple ds, _, h => by
    cases h with
    | tup hs ha => exact .tup (same_t e hs) (dpall_mono e ds _ ha)
  | .dict kvs, _, h => by
    cases h with
    | dct h => exact .dct (e _ _ h)
    | dco h => exact .dco (e _ _ h)
    | ins h c t => exact .ins (e _ _ h) c (dpkv_mono e _ _ t)
theorem dpkv_mono {K : PySem.W.Frag} {H H' : Hp} (e : Same H H') : ∀ (ps : List (PyData × PyData)) (fs : List (Str × V)), DtKv K H fs ps → DtKv K H' fs ps
  | [], _, h => by cases h; exact .nil
  | (k, d) :: ps, _, h => by
    cases h with
    | cons h1 h2 => exact .cons (dp_mono e d _ h1) (dpkv_mono e ps _ h2)
theorem dpall_mono {K : PySem.W.Frag} {H H' : Hp} (e : Same H H') : ∀ (ds : List PyData) (vs : List V), DtAll K H vs ds → DtAll K H' vs ds
  | [], _, h => by cases h; exact .nil
  | d :: ds, _, h => by
    cases h with
    | cons h1 h2 => exact .cons (dp_mono e d _ h1) (dpall_mono e ds _ h2)
end
mutual
theorem dt_dp {K : PySem.W.Frag} {H : Hp} : ∀ (d : PyData) (v : V), d.hasDict = false → Dt K H v d → Dp K H v d
  | .none, _, _, h => by cases h; exact .non
  | .bool b, _, _, h => by cases h; exact .bl b
  | .int i, _, _, h => by cases h; exact .int i
  | .str x, _, _, h => by cases h; exact .str x
  | .list ds, _, n, h => by
    cases h with
    | lst hs ha => exact .lst (.inl hs) (dtall_dp ds _ (by simpa [PyData.hasDict] using n) ha)
  | .tuple ds, _, n, h => by
    cases h with
    | tup hs ha => exact .tup hs (dtall_dp ds _ (by simpa [PyData.hasDict] using n) ha)
  | .dict _, _, n, h => by simp [PyData.hasDict] at n
theorem dtall_dp {K : PySem.W.Frag} {H : Hp} : ∀ (ds : List PyData) (vs : List V), PyData.hasDictAll ds = false → DtAll K H vs ds → DpAll K H vs ds
  | [], _, _, h => by cases h; exact .nil
  | d :: ds, _, n, h => by
    have n' : d.hasDict = false ∧ PyData.hasDictAll ds = false := by simpa [PyData.hasDictAll] using n
    cases h with
    | cons h1 h2 => exact .cons (dt_dp d _ n'.1 h1) (dtall_dp ds _ n'.2 h2)
end
mutual
theorem lay_nd : ∀ (d : PyData), d.canLay0 = true → d.hasDict = false
  | .none, _ => rfl
  | .bool _, _ => rfl
  | .int _, _ => rfl
  | .str _, _ => rfl
  | .list ds, h => by
    have := lay_nd_all ds (by simpa [PyData.canLay0] using h)
    simpa [PyData.hasDict] using this
  | .tuple ds, h => by
    have := lay_nd_all ds (by simpa [PyData.canLay0] using h)
    simpa [PyData.hasDict] using this
  | .dict _, h => by simp [PyData.canLay0] at h
theorem lay_nd_all : ∀ (ds : List PyData), PyData.canLayAll0 ds = true → PyData.hasDictAll ds = false
  | [], _ => rfl
  | d :: ds, h => by
    have h' : d.canLay0 = true ∧ PyData.canLayAll0 ds = true := by simpa [PyData.canLayAll0] using h
    simp [PyData.hasDictAll, lay_nd d h'.1, lay_nd_all ds h'.2]
end
theorem shaped_nd {d : PyData} (h : SeqAt.shaped d = true) : d.hasDict = false := lay_nd d (SeqAt.canLay_of_shaped h)
section
variable {K : PySem.W.Frag} {N N' : Av} {H H' : Hp} {v : V} {vs ws : List V} {d : PyData} {ds es : List PyData}
/-- v is the data d, none of its objects avoided -/
def Dq (K : PySem.W.Frag) (N : Av) (H : Hp) (v : V) (d : PyData) : Prop := Dt K (wo N H) v d
def DqAll (K : PySem.W.Frag) (N : Av) (H : Hp) (vs : List V) (ds : List PyData) : Prop := DtAll K (wo N H) vs ds
theorem Dq.keep (h : Dq K N H v d) (k : Keep N H H') : Dq K N H' v d := dp_mono k.wo d v h
theorem DqAll.keep (h : DqAll K N H vs ds) (k : Keep N H H') : DqAll K N H' vs ds := dpall_mono k.wo ds vs h
theorem Dq.le (h : Dq K N' H v d) (k : Le N N') : Dq K N H v d := dp_mono k.wo d v h
theorem DqAll.le (h : DqAll K N' H vs ds) (k : Le N N') : DqAll K N H vs ds := dpall_mono k.wo ds vs h
theorem Dq.dt (h : Dq K N H v d) : Dt K H v d := dp_mono Same.wo1 d v h
theorem Dq.dp (h : Dq K N H v d) (n : d.hasDict = false) : Dp K H v d := dt_dp d v n h.dt
theorem DqAll.len : ∀ {vs : List V} {ds : List PyData}, DqAll K N H vs ds → vs.length = ds.length := by
  intro vs ds h
  induction vs generalizing ds with
  | nil => cases h; rfl
  | cons v vs ih =>
    cases h with
    | cons h1 h2 => exact congrArg (· + 1) (ih h2)
theorem DqAll.nil : DqAll K N H [] [] := DtAll.nil
theorem DqAll.cons (h : Dq K N H v d) (t : DqAll K N H vs ds) : DqAll K N H (v :: vs) (d :: ds) := DtAll.cons h t
theorem DqAll.append : ∀ {vs : List V} {ds : List PyData}, DqAll K N H vs ds → DqAll K N H ws es → DqAll K N H (vs ++ ws) (ds ++ es) := by
  intro vs ds h t
  induction vs generalizing ds with
  | nil => cases h; exact t
  | cons v vs ih =>
    cases h with
    | cons h1 h2 => exact DqAll.cons h1 (ih h2)
theorem DqAll.get : ∀ {vs : List V} {ds : List PyData} {i : Nat} {d : PyData}, DqAll K N H vs ds → ds[i]? = some d → ∃ v, vs[i]? = some v ∧ Dq K N H v d := by
  intro vs ds i d h e
  induction vs generalizing ds i with
  | nil => cases h; simp at e
  | cons v vs ih =>
    cases h with
    | cons h1 h2 =>
      cases i with
      | zero => simp at e; subst e; exact ⟨v, rfl, h1⟩
      | succ i => obtain ⟨u, h3, h4⟩ := ih h2 (by simpa using e); exact ⟨u, by simpa using h3, h4⟩
theorem DqAll.take : ∀ {vs : List V} {ds : List PyData} (n : Nat), DqAll K N H vs ds → DqAll K N H (vs.take n) (ds.take n) := by
  intro vs ds n h
  induction vs generalizing ds n with
  | nil => cases h; simp; exact DqAll.nil
  | cons v vs ih =>
    cases h with
    | cons h1 h2 =>
      cases n with
      | zero => exact DqAll.nil
      | succ n => exact DqAll.cons h1 (ih n h2)
theorem DqAll.drop : ∀ {vs : List V} {ds : List PyData} (n : Nat), DqAll K N H vs ds → DqAll K N H (vs.drop n) (ds.drop n) := by
  intro vs ds n h
  induction vs generalizing ds n with
  | nil => cases h; simp; exact DqAll.nil
  | cons v vs ih =>
    cases h with
    | cons h1 h2 =>
      cases n with
      | zero => exact DqAll.cons h1 h2
      | succ n => exact ih n h2
theorem DqAll.ints {ns : List Int} : DqAll K N H (ns.map V.int) (ns.map PyData.int) := by
  induction ns with
  | nil => exact DqAll.nil
  | cons n ns ih => exact DqAll.cons (Dt.int n) ih
theorem DqAll.of_ints : ∀ {vs : List V} {ns : List Int}, DqAll K N H vs (ns.map PyData.int) → vs = ns.map V.int := by
  intro vs ns h
  induction ns generalizing vs with
  | nil => cases h; rfl
  | cons n ns ih =>
    cases h with
    | cons h1 h2 => cases h1; rw [ih h2]; rfl
/-- a fresh address is avoided by nobody -/
theorem fresh_av (hN : ∀ b, N b = true → H b ≠ none) {p : Addr} (hp : H p = none) : N p = false := by
  cases e : N p with
  | false => rfl
  | true => exact absurd hp (hN p e)
theorem Dq.tup {p : Addr} {xs : List V} (np : N p = false) (hp : H p = some (.tup xs)) (h : DqAll K N H xs ds) : Dq K N H (.ref p) (.tuple ds) :=
  Dt.tup (.inl (.inl (by rw [wo_in np]; exact hp))) h
theorem Dq.lst {p : Addr} {xs : List V} (np : N p = false) (hp : H p = some (.lst xs)) (h : DqAll K N H xs ds) : Dq K N H (.ref p) (.list ds) :=
  Dt.lst (.inl (by rw [wo_in np]; exact hp)) h
theorem Dq.tup_inv (h : Dq K N H v (.tuple ds)) : ∃ p xs, v = .ref p ∧ SqT K (wo N H) p xs ∧ SqT K H p xs ∧ DqAll K N H xs ds := by
  cases h with
  | tup hs ha => exact ⟨_, _, rfl, hs, same_t Same.wo1 hs, ha⟩
theorem Dq.lst_inv (h : Dq K N H v (.list ds)) : ∃ p xs, v = .ref p ∧ Rd (wo N H) p (.lst xs) ∧ Rd H p (.lst xs) ∧ DqAll K N H xs ds := by
  cases h with
  | lst hs ha => exact ⟨_, _, rfl, hs, same_rd Same.wo1 hs, ha⟩
theorem Dq.int_inv {i : Int} (h : Dq K N H v (.int i)) : v = .int i := by cases h; rfl
theorem Dq.bool_inv {i : Bool} (h : Dq K N H v (.bool i)) : v = .bl i := by cases h; rfl
theorem Dq.str_inv {i : Str} (h : Dq K N H v (.str i)) : v = .str i := by cases h; rfl
theorem same_new {p : Addr} (h : H p = none) (o : HO) : Same H (upd H p o) := fun b u q => by rw [upd_ne (ne_of_none q h)]; exact q
end
end DL

set_option Elab.async false
set_option linter.all false
set_option maxRecDepth 100000
set_option maxHeartbeats 2000000
namespace DL
open PySem L2

/-- a thing that changes in its footprint alone, with a bound that a call may raise -/
structure Stt where
  a : Addr
  fp : Av
  ok : Hp → Nat → Prop
  loc : ∀ H H' B, (∀ b, fp b = true → H' b = H b) → ok H B → ok H' B
  trk : ∀ H B, ok H B → ∀ b, fp b = true → H b ≠ none
/-- none -/
def S0 : Stt := ⟨0, fun _ => false, fun _ _ => False, fun _ _ _ _ h => h, fun _ _ h => h.elim⟩

inductive Sl where
  | unk
  | dat (d : PyData)
  | own (ds : List PyData)
  | sto (B : Nat)
  | scr (ns : List Int)
abbrev Rho := List Sl
/-- what stands beside the names: a value on the way, a list that a comprehension fills -/
inductive Hd where
  | dat (v : V) (d : PyData)
  | own (p : Addr) (ds : List PyData)
def HdOk (K : PySem.W.Frag) (S : Stt) (H0 : Hp) (N0 N : Av) (H : Hp) : Hd → Prop
  | .dat v d => Dq K N H v d
  | .own p ds => ∃ xs, N p = true ∧ S.fp p = false ∧ N0 p = false ∧ H0 p = none ∧ H p = some (.lst xs) ∧ DqAll K N H xs ds

def SlOk (K : PySem.W.Frag) (S : Stt) (H0 : Hp) (N0 N : Av) (σ : L2.St) (H : Hp) (i : Nat) : Sl → Prop
  | .unk => True
  | .dat d => ∃ v, σ[i]? = some (some v) ∧ Dq K N H v d
  | .own ds => ∃ p xs, σ[i]? = some (some (.ref p)) ∧ N p = true ∧ S.fp p = false ∧ N0 p = false ∧ H0 p = none ∧ H p = some (.lst xs) ∧ DqAll K N H xs ds
  | .sto B => σ[i]? = some (some (.ref S.a)) ∧ S.ok H B
  | .scr ns => ∃ a, σ[i]? = some (some (.ref a)) ∧ SqL K (wo N H) a (ns.map V.int)

structure EnvD (K : PySem.W.Frag) (S : Stt) (H0 : Hp) (N0 : Av) (Z : List Hd) (N : Av) (σ : L2.St) (H : Hp) (ρ : Rho) : Prop where
  keep : ∀ b o, S.fp b = false → H0 b = some o → H b = some o
  base : Le N0 N
  trk : ∀ b, N b = true → H b ≠ none
  sub : Le S.fp N
  slot : ∀ (i : Nat) (s : Sl), ρ[i]? = some s → SlOk K S H0 N0 N σ H i s
  len : ρ.length = σ.length
  hid : ∀ z, z ∈ Z → HdOk K S H0 N0 N H z
  injH : ∀ (i : Nat) (di dj : List PyData) (p : Addr), ρ[i]? = some (Sl.own di) → σ[i]? = some (some (V.ref p)) → Hd.own p dj ∈ Z → False
  injZ : ∀ (i j : Nat) (di dj : List PyData) (p : Addr), Z[i]? = some (Hd.own p di) → Z[j]? = some (Hd.own p dj) → i = j
  inj : ∀ (i j : Nat) (di dj : List PyData) (p : Addr), ρ[i]? = some (Sl.own di) → ρ[j]? = some (Sl.own dj) → σ[i]? = some (some (V.ref p)) → σ[j]? = some (some (V.ref p)) → i = j

def WD (K : PySem.W.Frag) (S : Stt) (te : TE) (ρ : Rho) (Φ : PyData → Rho → Prop) : Prop :=
  ∀ H0 N0 Z N σ H, EnvD K S H0 N0 Z N σ H ρ → ∀ Q : VK, (∀ v d ρ' H', Φ d ρ' → EnvD K S H0 N0 Z N σ H' ρ' → Keep N H H' → Dq K N H' v d → Q v H') → te σ H Q
def WA (K : PySem.W.Frag) (S : Stt) (ta : TA) (ρ : Rho) (Φ : List PyData → Rho → Prop) : Prop :=
  ∀ H0 N0 Z N σ H, EnvD K S H0 N0 Z N σ H ρ → ∀ Q : List V → Hp → Prop, (∀ vs ds ρ' H', Φ ds ρ' → EnvD K S H0 N0 Z N σ H' ρ' → Keep N H H' → DqAll K N H' vs ds → Q vs H') → ta σ H Q
def WT (K : PySem.W.Frag) (S : Stt) (tt : TT) (ρ : Rho) (Φ : Bool → Rho → Prop) : Prop :=
  ∀ H0 N0 Z N σ H, EnvD K S H0 N0 Z N σ H ρ → ∀ Q : Bool → Hp → Prop, (∀ b ρ' H', Φ b ρ' → EnvD K S H0 N0 Z N σ H' ρ' → Keep N H H' → Q b H') → tt σ H Q
/-- two-place operations on data, calls on data -/
def DO (K : PySem.W.Frag) (r : R2) (x y : PyData) (Ψ : PyData → Prop) : Prop :=
  ∀ (N : Av) (H : Hp), (∀ b, N b = true → H b ≠ none) → ∀ u w, Dq K N H u x → Dq K N H w y → ∀ Q : VK, (∀ v d H', Ψ d → Same H H' → Dq K N H' v d → Q v H') → r u w H Q
def DU (K : PySem.W.Frag) (r : V → Hp → VK → Prop) (x : PyData) (Ψ : PyData → Prop) : Prop :=
  ∀ (N : Av) (H : Hp), (∀ b, N b = true → H b ≠ none) → ∀ u, Dq K N H u x → ∀ Q : VK, (∀ v d H', Ψ d → Same H H' → Dq K N H' v d → Q v H') → r u H Q
def DC (K : PySem.W.Frag) (r : List V → Hp → VK → Prop) (xs : List PyData) (Ψ : PyData → Prop) : Prop :=
  ∀ (N : Av) (H : Hp), (∀ b, N b = true → H b ≠ none) → ∀ us, DqAll K N H us xs → ∀ Q : VK, (∀ v d H', Ψ d → Same H H' → Dq K N H' v d → Q v H') → r us H Q

/-- what is wanted behind a statement -/
structure DE where
  nx : Rho → Prop
  rt : PyData → Rho → Prop
  bk : Rho → Prop := fun _ => False
  ct : Rho → Prop := fun _ => False
structure Meets (K : PySem.W.Frag) (S : Stt) (H0 : Hp) (N0 : Av) (Z : List Hd) (En : DE) (D : Ends) : Prop where
  nx : ∀ N σ H ρ, En.nx ρ → EnvD K S H0 N0 Z N σ H ρ → D.nx σ H
  rt : ∀ N σ H ρ v d, En.rt d ρ → EnvD K S H0 N0 Z N σ H ρ → Dq K N0 H v d → D.rt v H
  bk : ∀ N σ H ρ, En.bk ρ → EnvD K S H0 N0 Z N σ H ρ → D.bk σ H
  ct : ∀ N σ H ρ, En.ct ρ → EnvD K S H0 N0 Z N σ H ρ → D.ct σ H
def WS (K : PySem.W.Frag) (S : Stt) (ts : TS) (ρ : Rho) (En : DE) : Prop :=
  ∀ H0 N0 Z N σ H D, EnvD K S H0 N0 Z N σ H ρ → Meets K S H0 N0 Z En D → ts D σ H

section
variable {K : PySem.W.Frag} {S : Stt} {H0 : Hp} {N0 : Av} {Z : List Hd} {N : Av} {σ : L2.St} {H H' : Hp} {ρ : Rho} {Φ : PyData → Rho → Prop}

theorem SlOk.ext (hs : Le S.fp N) (ht : ∀ b, N b = true → H b ≠ none) (e : Same H H') : ∀ {s : Sl} {i : Nat}, SlOk K S H0 N0 N σ H i s → SlOk K S H0 N0 N σ H' i s
  | .unk, _, h => h
  | .dat d, _, ⟨v, h1, h2⟩ => ⟨v, h1, h2.keep (Keep.of e)⟩
  | .own ds, _, ⟨p, xs, h1, h2, h3, h4, h5, h6, h7⟩ => ⟨p, xs, h1, h2, h3, h4, h5, e _ _ h6, h7.keep (Keep.of e)⟩
  | .sto B, _, ⟨h1, h2⟩ => ⟨h1, S.loc H H' B (fun b hb => by
      cases q : H b with
      | none => exact absurd q (ht b (hs b hb))
      | some o => exact e b o q) h2⟩
  | .scr ns, _, ⟨a, h1, h2⟩ => ⟨a, h1, (Keep.of e).wo.seq h2⟩
theorem HdOk.ext (e : Same H H') : ∀ {z : Hd}, HdOk K S H0 N0 N H z → HdOk K S H0 N0 N H' z
  | .dat v d, h => Dq.keep h (Keep.of e)
  | .own p ds, ⟨xs, h2, h3, h4, h5, h6, h7⟩ => ⟨xs, h2, h3, h4, h5, e _ _ h6, h7.keep (Keep.of e)⟩
theorem EnvD.ext (E : EnvD K S H0 N0 Z N σ H ρ) (e : Same H H') : EnvD K S H0 N0 Z N σ H' ρ where
  keep b o n h := e b o (E.keep b o n h)
  base := E.base
  trk b h z := by
    cases q : H b with
    | none => exact E.trk b h q
    | some o => rw [e b o q] at z; cases z
  sub := E.sub
  slot i s h := (E.slot i s h).ext E.sub E.trk e
  len := E.len
  hid z h := (E.hid z h).ext e
  injH := E.injH
  injZ := E.injZ
  inj := E.inj
theorem get_set {α : Type} {l : List α} {i j : Nat} {x y : α} (h : (l.set i x)[j]? = some y) : (i = j ∧ y = x) ∨ (i ≠ j ∧ l[j]? = some y) := by
  by_cases e : i = j
  · subst e
    have hl : i < l.length := by have := (List.getElem?_eq_some_iff.mp h).1; rwa [List.length_set] at this
    rw [List.getElem?_set_self hl] at h
    cases h
    exact .inl ⟨rfl, rfl⟩
  · rw [List.getElem?_set_ne e] at h
    exact .inr ⟨e, h⟩
theorem set_ne {α : Type} {l : List α} {i j : Nat} {x : α} (h : i ≠ j) : (l.set i x)[j]? = l[j]? := List.getElem?_set_ne h
theorem set_eq {α : Type} {l : List α} {i : Nat} {x : α} (h : i < l.length) : (l.set i x)[i]? = some x := List.getElem?_set_self h
theorem SlOk.other {s : Sl} {i j : Nat} {u : Option V} (h : i ≠ j) (q : SlOk K S H0 N0 N σ H j s) : SlOk K S H0 N0 N (σ.set i u) H j s := by
  cases s with
  | unk => exact q
  | dat d => obtain ⟨u, h1, h2⟩ := q; exact ⟨u, by rw [set_ne h]; exact h1, h2⟩
  | own ds => obtain ⟨p, xs, h1, h2⟩ := q; exact ⟨p, xs, by rw [set_ne h]; exact h1, h2⟩
  | sto B => obtain ⟨h1, h2⟩ := q; exact ⟨by rw [set_ne h]; exact h1, h2⟩
  | scr ns => obtain ⟨a, h1, h2⟩ := q; exact ⟨a, by rw [set_ne h]; exact h1, h2⟩
/-- a slot gets what is no list of one's own -/
theorem EnvD.set0 (E : EnvD K S H0 N0 Z N σ H ρ) {i : Nat} {u : Option V} {s : Sl} (no : ∀ ds, s ≠ .own ds) (hs : i < σ.length → SlOk K S H0 N0 N (σ.set i u) H i s) : EnvD K S H0 N0 Z N (σ.set i u) H (ρ.set i s) where
  keep := E.keep
  base := E.base
  trk := E.trk
  sub := E.sub
  len := by rw [List.length_set, List.length_set]; exact E.len
  hid := E.hid
  injZ := E.injZ
  slot j t h := by
    rcases get_set h with ⟨e, e2⟩ | ⟨e, h⟩
    · subst e; subst e2
      refine hs ?_
      have := (List.getElem?_eq_some_iff.mp h).1
      rw [List.length_set] at this
      rw [← E.len]; exact this
    · exact (E.slot j t h).other e
  injH a da dj p ha h1 hz := by
    rcases get_set ha with ⟨e, e2⟩ | ⟨e, ha⟩
    · exact absurd e2.symm (no _)
    · rw [set_ne e] at h1
      exact E.injH a da dj p ha h1 hz
  inj a b da db p ha hb h1 h2 := by
    rcases get_set ha with ⟨e, e2⟩ | ⟨ea, ha⟩
    · exact absurd e2.symm (no _)
    · rcases get_set hb with ⟨e, e2⟩ | ⟨eb, hb⟩
      · exact absurd e2.symm (no _)
      · rw [set_ne ea] at h1
        rw [set_ne eb] at h2
        exact E.inj a b da db p ha hb h1 h2
theorem EnvD.set (E : EnvD K S H0 N0 Z N σ H ρ) {i : Nat} {v : V} {d : PyData} (hv : Dq K N H v d) : EnvD K S H0 N0 Z N (σ.set i (some v)) H (ρ.set i (.dat d)) :=
  E.set0 (fun _ h => nomatch h) fun hi => ⟨v, set_eq hi, hv⟩
theorem EnvD.unset (E : EnvD K S H0 N0 Z N σ H ρ) {i : Nat} {u : Option V} : EnvD K S H0 N0 Z N (σ.set i u) H (ρ.set i .unk) :=
  E.set0 (fun _ h => nomatch h) fun _ => trivial
/-- forget -/
def Fgt (ρ ρ' : Rho) : Prop := ρ'.length = ρ.length ∧ ∀ (i : Nat) (s : Sl), ρ'[i]? = some s → s = .unk ∨ ρ[i]? = some s
theorem Fgt.refl : Fgt ρ ρ := ⟨rfl, fun _ _ h => .inr h⟩
theorem EnvD.fgt {ρ' : Rho} (E : EnvD K S H0 N0 Z N σ H ρ) (f : Fgt ρ ρ') : EnvD K S H0 N0 Z N σ H ρ' where
  keep := E.keep
  base := E.base
  trk := E.trk
  sub := E.sub
  slot i s h := by
    rcases f.2 i s h with e | e
    · subst e; trivial
    · exact E.slot i s e
  len := f.1.trans E.len
  hid := E.hid
  injZ := E.injZ
  injH a da dj p ha h1 hz := by
    rcases f.2 a _ ha with e | ea
    · cases e
    · exact E.injH a da dj p ea h1 hz
  inj a b da db p ha hb h1 h2 := by
    rcases f.2 a _ ha with e | ea
    · cases e
    · rcases f.2 b _ hb with e | eb
      · cases e
      · exact E.inj a b da db p ea eb h1 h2

/-! ### expressions -/
theorem WD.imp {te : TE} {Φ Φ' : PyData → Rho → Prop} (h : WD K S te ρ Φ) (i : ∀ d ρ', Φ d ρ' → Φ' d ρ') : WD K S te ρ Φ' := fun H0 N0 Z N σ H E Q q => h H0 N0 Z N σ H E Q fun v d ρ' H' f => q v d ρ' H' (i d ρ' f)
theorem wd_var {i : Nat} {d : PyData} (h : ρ[i]? = some (.dat d)) (f : Φ d ρ) : WD K S (tVar i) ρ Φ := fun H0 N0 Z N σ H E Q q => by
  obtain ⟨v, h1, h2⟩ := E.slot i _ h
  exact ⟨v, h1, q v d ρ H f E Keep.refl h2⟩
theorem wd_int {i : Int} (f : Φ (.int i) ρ) : WD K S (tC (.int i)) ρ Φ := fun H0 N0 Z N σ H E Q q => q _ _ ρ H f E Keep.refl (Dt.int i)
theorem wd_bl {i : Bool} (f : Φ (.bool i) ρ) : WD K S (tC (.bl i)) ρ Φ := fun H0 N0 Z N σ H E Q q => q _ _ ρ H f E Keep.refl (Dt.bl i)
theorem wd_str {i : Str} (f : Φ (.str i) ρ) : WD K S (tC (.str i)) ρ Φ := fun H0 N0 Z N σ H E Q q => q _ _ ρ H f E Keep.refl (Dt.str i)
theorem wd_op {r : R2} {ta tb : TE} (h : WD K S ta ρ fun x ρ1 => WD K S tb ρ1 fun y ρ2 => DO K r x y fun z => Φ z ρ2) : WD K S (tOp r ta tb) ρ Φ := fun H0 N0 Z N σ H E Q q =>
  h H0 N0 Z N σ H E _ fun u x ρ1 H1 h1 E1 k1 d1 => h1 H0 N0 Z N σ H1 E1 _ fun w y ρ2 H2 h2 E2 k2 d2 => h2 N H2 E2.trk u w (d1.keep k2) d2 Q fun v d H3 f e d3 =>
    q v d ρ2 H3 f (E2.ext e) ((k1.trans k2).trans (Keep.of e)) d3
theorem wd_un {r : V → Hp → VK → Prop} {ta : TE} (h : WD K S ta ρ fun x ρ1 => DU K r x fun z => Φ z ρ1) : WD K S (tUn r ta) ρ Φ := fun H0 N0 Z N σ H E Q q =>
  h H0 N0 Z N σ H E _ fun u x ρ1 H1 h1 E1 k1 d1 => h1 N H1 E1.trk u d1 Q fun v d H3 f e d3 => q v d ρ1 H3 f (E1.ext e) (k1.trans (Keep.of e)) d3
theorem wa_nil {Φ : List PyData → Rho → Prop} (f : Φ [] ρ) : WA K S tNil ρ Φ := fun H0 N0 Z N σ H E Q q => q [] [] ρ H f E Keep.refl DqAll.nil
theorem wa_cons {te : TE} {ta : TA} {Φ : List PyData → Rho → Prop} (h : WD K S te ρ fun x ρ1 => WA K S ta ρ1 fun xs ρ2 => Φ (x :: xs) ρ2) : WA K S (tCons te ta) ρ Φ := fun H0 N0 Z N σ H E Q q =>
  h H0 N0 Z N σ H E _ fun u x ρ1 H1 h1 E1 k1 d1 => h1 H0 N0 Z N σ H1 E1 _ fun us xs ρ2 H2 h2 E2 k2 d2 => q (u :: us) (x :: xs) ρ2 H2 h2 E2 (k1.trans k2) (DqAll.cons (d1.keep k2) d2)
theorem wd_cb {r : List V → Hp → VK → Prop} {ta : TA} (h : WA K S ta ρ fun xs ρ1 => DC K r xs fun z => Φ z ρ1) : WD K S (tCB r ta) ρ Φ := fun H0 N0 Z N σ H E Q q =>
  h H0 N0 Z N σ H E _ fun us xs ρ1 H1 h1 E1 k1 d1 => h1 N H1 E1.trk us d1 Q fun v d H3 f e d3 => q v d ρ1 H3 f (E1.ext e) (k1.trans (Keep.of e)) d3
theorem wd_tup {ta : TA} (h : WA K S ta ρ fun xs ρ1 => xs.length ≤ sizeLine ∧ Φ (.tuple xs) ρ1) : WD K S (tTup ta) ρ Φ := fun H0 N0 Z N σ H E Q q =>
  h H0 N0 Z N σ H E _ fun us xs ρ1 H1 h1 E1 k1 d1 => ⟨by rw [d1.len]; exact h1.1, fun p hp => by
    have s := same_new hp (.tup us)
    exact q (.ref p) (.tuple xs) ρ1 _ h1.2 (E1.ext s) (k1.trans (Keep.of s)) (Dq.tup (fresh_av E1.trk hp) upd_same (d1.keep (Keep.of s)))⟩
theorem wd_lst {ta : TA} (h : WA K S ta ρ fun xs ρ1 => xs.length ≤ sizeLine ∧ Φ (.list xs) ρ1) : WD K S (tLst ta) ρ Φ := fun H0 N0 Z N σ H E Q q =>
  h H0 N0 Z N σ H E _ fun us xs ρ1 H1 h1 E1 k1 d1 => ⟨by rw [d1.len]; exact h1.1, fun p hp => by
    have s := same_new hp (.lst us)
    exact q (.ref p) (.list xs) ρ1 _ h1.2 (E1.ext s) (k1.trans (Keep.of s)) (Dq.lst (fresh_av E1.trk hp) upd_same (d1.keep (Keep.of s)))⟩
/-- tests -/
theorem wt_test {te : TE} {Φ : Bool → Rho → Prop} (h : WD K S te ρ fun x ρ1 => ∃ b, x = .bool b ∧ Φ b ρ1) : WT K S (tTest te) ρ Φ := fun H0 N0 Z N σ H E Q q =>
  h H0 N0 Z N σ H E _ fun u x ρ1 H1 ⟨b, e, f⟩ E1 k1 d1 => by subst e; exact ⟨b, d1.bool_inv, q b ρ1 H1 f E1 k1⟩
theorem wt_B {te : TE} {Φ : Bool → Rho → Prop} (h : WD K S te ρ fun x ρ1 => ∃ b, x = .bool b ∧ Φ b ρ1) : WT K S (tB te) ρ Φ := fun H0 N0 Z N σ H E Q q =>
  h H0 N0 Z N σ H E _ fun u x ρ1 H1 ⟨b, e, f⟩ E1 k1 d1 => by subst e; exact ⟨b, d1.bool_inv, q b ρ1 H1 f E1 k1⟩
theorem wt_not {t : TT} {Φ : Bool → Rho → Prop} (h : WT K S t ρ fun b ρ1 => Φ (!b) ρ1) : WT K S (tNot t) ρ Φ := fun H0 N0 Z N σ H E Q q =>
  h H0 N0 Z N σ H E _ fun b ρ1 H1 f E1 k1 => q (!b) ρ1 H1 f E1 k1
theorem wt_and {t u : TT} {Φ : Bool → Rho → Prop} (h : WT K S t ρ fun b ρ1 => if b = true then WT K S u ρ1 Φ else Φ false ρ1) : WT K S (tAnd t u) ρ Φ := fun H0 N0 Z N σ H E Q q =>
  h H0 N0 Z N σ H E _ fun b ρ1 H1 f E1 k1 => by
    cases b with
    | true => exact f H0 N0 Z N σ H1 E1 _ fun b ρ2 H2 f2 E2 k2 => q b ρ2 H2 f2 E2 (k1.trans k2)
    | false => exact q false ρ1 H1 f E1 k1
theorem wt_or {t u : TT} {Φ : Bool → Rho → Prop} (h : WT K S t ρ fun b ρ1 => if b = true then Φ true ρ1 else WT K S u ρ1 Φ) : WT K S (tOr t u) ρ Φ := fun H0 N0 Z N σ H E Q q =>
  h H0 N0 Z N σ H E _ fun b ρ1 H1 f E1 k1 => by
    cases b with
    | false => exact f H0 N0 Z N σ H1 E1 _ fun b ρ2 H2 f2 E2 k2 => q b ρ2 H2 f2 E2 (k1.trans k2)
    | true => exact q true ρ1 H1 f E1 k1
theorem wd_ifE {t : TT} {ta tb : TE} (h : WT K S t ρ fun b ρ1 => if b = true then WD K S ta ρ1 Φ else WD K S tb ρ1 Φ) : WD K S (tIf t ta tb) ρ Φ := fun H0 N0 Z N σ H E Q q =>
  h H0 N0 Z N σ H E _ fun b ρ1 H1 f E1 k1 => by
    cases b with
    | true => exact f H0 N0 Z N σ H1 E1 _ fun v d ρ2 H2 f2 E2 k2 => q v d ρ2 H2 f2 E2 (k1.trans k2)
    | false => exact f H0 N0 Z N σ H1 E1 _ fun v d ρ2 H2 f2 E2 k2 => q v d ρ2 H2 f2 E2 (k1.trans k2)
/-- and, or, not of truths as values -/
theorem wd_andV {ta tb : TE} (h : WD K S ta ρ fun x ρ1 => ∃ b, x = .bool b ∧ if b = true then WD K S tb ρ1 Φ else Φ (.bool false) ρ1) : WD K S (tAndV ta tb) ρ Φ := fun H0 N0 Z N σ H E Q q =>
  h H0 N0 Z N σ H E _ fun u x ρ1 H1 ⟨b, e, f⟩ E1 k1 d1 => by
    subst e
    refine ⟨b, d1.bool_inv, ?_⟩
    cases b with
    | true => exact f H0 N0 Z N σ H1 E1 _ fun v d ρ2 H2 f2 E2 k2 => q v d ρ2 H2 f2 E2 (k1.trans k2)
    | false => exact q _ _ ρ1 H1 f E1 k1 (Dt.bl false)
theorem wd_orV {ta tb : TE} (h : WD K S ta ρ fun x ρ1 => ∃ b, x = .bool b ∧ if b = true then Φ (.bool true) ρ1 else WD K S tb ρ1 Φ) : WD K S (tOrV ta tb) ρ Φ := fun H0 N0 Z N σ H E Q q =>
  h H0 N0 Z N σ H E _ fun u x ρ1 H1 ⟨b, e, f⟩ E1 k1 d1 => by
    subst e
    refine ⟨b, d1.bool_inv, ?_⟩
    cases b with
    | false => exact f H0 N0 Z N σ H1 E1 _ fun v d ρ2 H2 f2 E2 k2 => q v d ρ2 H2 f2 E2 (k1.trans k2)
    | true => exact q _ _ ρ1 H1 f E1 k1 (Dt.bl true)
end
end DL

set_option Elab.async false
set_option linter.all false
set_option maxRecDepth 100000
set_option maxHeartbeats 2000000
namespace DL
open PySem L2
section
variable {K : PySem.W.Frag} {S : Stt} {H0 : Hp} {N0 : Av} {Z : List Hd} {N : Av} {σ : L2.St} {H H' : Hp} {ρ : Rho} {Φ : PyData → Rho → Prop} {Ψ : PyData → Prop}

/-! ### operations on data -/
theorem do_ii {f : Int → Int → Int} {i j : Int} (h : Ψ (.int (f i j))) : DO K (rI0 fun i j => .int (f i j)) (.int i) (.int j) Ψ := fun N H _ u w hu hw Q q => by
  cases hu; cases hw
  exact ⟨i, j, rfl, rfl, q _ _ H h (Same.refl H) (Dt.int _)⟩
theorem do_ib {f : Int → Int → Bool} {i j : Int} (h : Ψ (.bool (f i j))) : DO K (rI0 fun i j => .bl (f i j)) (.int i) (.int j) Ψ := fun N H _ u w hu hw Q q => by
  cases hu; cases hw
  exact ⟨i, j, rfl, rfl, q _ _ H h (Same.refl H) (Dt.bl _)⟩
theorem do_ic {C : Int → Int → Prop} {f : Int → Int → Int} {i j : Int} (c : C i j) (h : Ψ (.int (f i j))) : DO K (rI C fun i j => .int (f i j)) (.int i) (.int j) Ψ := fun N H _ u w hu hw Q q => by
  cases hu; cases hw
  exact ⟨i, j, rfl, rfl, c, q _ _ H h (Same.refl H) (Dt.int _)⟩
theorem du_i {f : Int → Int} {i : Int} (h : Ψ (.int (f i))) : DU K (rU fun i => .int (f i)) (.int i) Ψ := fun N H _ u hu Q q => by
  cases hu
  exact ⟨i, rfl, q _ _ H h (Same.refl H) (Dt.int _)⟩
theorem do_eqi {i j : Int} (h : Ψ (.bool (decide (i = j)))) : DO K rEq (.int i) (.int j) Ψ := fun N H _ u w hu hw Q q => by
  cases hu; cases hw
  refine ⟨rfl, ?_⟩
  have e : decide (V.int i = V.int j) = decide (i = j) := by
    by_cases e : i = j
    · subst e; simp
    · rw [decide_eq_false e, decide_eq_false (fun z => e (V.int.inj z))]
  rw [e]
  exact q _ _ H h (Same.refl H) (Dt.bl _)
theorem do_nei {i j : Int} (h : Ψ (.bool (!decide (i = j)))) : DO K rNe (.int i) (.int j) Ψ := fun N H _ u w hu hw Q q => by
  cases hu; cases hw
  refine ⟨rfl, ?_⟩
  have e : decide (V.int i = V.int j) = decide (i = j) := by
    by_cases e : i = j
    · subst e; simp
    · rw [decide_eq_false e, decide_eq_false (fun z => e (V.int.inj z))]
  rw [e]
  exact q _ _ H h (Same.refl H) (Dt.bl _)
theorem do_eqs {i j : Str} (h : Ψ (.bool (decide (i = j)))) : DO K rEq (.str i) (.str j) Ψ := fun N H _ u w hu hw Q q => by
  cases hu; cases hw
  refine ⟨rfl, ?_⟩
  have e : decide (V.str i = V.str j) = decide (i = j) := by
    by_cases e : i = j
    · subst e; simp
    · rw [decide_eq_false e, decide_eq_false (fun z => e (V.str.inj z))]
  rw [e]
  exact q _ _ H h (Same.refl H) (Dt.bl _)
theorem do_eqD {x y : PyData} (h1 : SeqAt.shaped x = true) (h2 : SeqAt.shaped y = true) (h : Ψ (.bool (PyData.eqv x y))) : DO K (rEqD K) x y Ψ := fun N H _ u w hu hw Q q =>
  ⟨x, y, hu.dp (shaped_nd h1), hw.dp (shaped_nd h2), h1, h2, q _ _ H h (Same.refl H) (Dt.bl _)⟩
theorem do_neD {x y : PyData} (h1 : SeqAt.shaped x = true) (h2 : SeqAt.shaped y = true) (h : Ψ (.bool (!PyData.eqv x y))) : DO K (rNeD K) x y Ψ := fun N H _ u w hu hw Q q =>
  ⟨x, y, hu.dp (shaped_nd h1), hw.dp (shaped_nd h2), h1, h2, q _ _ H h (Same.refl H) (Dt.bl _)⟩
theorem at_dq {xs : List V} {ds : List PyData} {i : Int} {d : PyData} (h : DqAll K N H xs ds) (e : atI ds i = some d) : ∃ v, atI xs i = some v ∧ Dq K N H v d := by
  unfold atI at e ⊢
  rw [h.len]
  cases q : ixN ds.length i with
  | none => rw [q] at e; cases e
  | some j => rw [q] at e; exact h.get e
theorem do_ixT {ds : List PyData} {i : Int} {d : PyData} (e : atI ds i = some d) (h : Ψ d) : DO K (rIxT K) (.tuple ds) (.int i) Ψ := fun N H _ u w hu hw Q q => by
  obtain ⟨p, xs, rfl, _, h1, h2⟩ := hu.tup_inv
  cases hw
  obtain ⟨v, h3, h4⟩ := at_dq h2 e
  exact ⟨p, xs, i, v, rfl, rfl, (by first | exact h1 | exact .inl h1), h3, q v d H h (Same.refl H) h4⟩
theorem do_ixL {ds : List PyData} {i : Int} {d : PyData} (e : atI ds i = some d) (h : Ψ d) : DO K (rIxL K) (.list ds) (.int i) Ψ := fun N H _ u w hu hw Q q => by
  obtain ⟨p, xs, rfl, _, h1, h2⟩ := hu.lst_inv
  cases hw
  obtain ⟨v, h3, h4⟩ := at_dq h2 e
  exact ⟨p, xs, i, v, rfl, rfl, (by first | exact h1 | exact .inl h1), h3, q v d H h (Same.refl H) h4⟩
/-- + of lists, locked too -/
def rCatL : R2 := fun x y H Q => ∃ a b xs zs, x = .ref a ∧ y = .ref b ∧ Rd H a (.lst xs) ∧ Rd H b (.lst zs) ∧ xs.length + zs.length ≤ sizeLine ∧ ∀ p, H p = none → Q (.ref p) (upd H p (.lst (xs ++ zs)))
theorem op_catL {X : Cx} : OpR X (binaryOp .Add) rCatL := by
  intro pins s τ G x y v u R I rx ry h
  obtain ⟨l, m, xs, zs, rfl, rfl, hL, hM, hz, k⟩ := h
  cases rx
  cases ry
  obtain ⟨z1, i1, n1, w1, g1⟩ := hL.ok I.hok
  obtain ⟨z2, i2, n2, w2, g2⟩ := hM.ok I.hok
  have e1 := w1.length
  have e2 := w2.length
  refine PySem.P.add_list g1 g2 ?_ (by simp only [List.size_toArray]; omega)
  rw [show i1.toArray ++ i2.toArray = (i1 ++ i2).toArray by simp]
  exact ⟨.ref _, _, I.lnew (t' := s.toks) (w1.append w2) (by simp only [List.length_append]; omega), rfl, k _ I.fresh⟩
theorem do_catL {xs ys : List PyData} (hz : xs.length + ys.length ≤ sizeLine) (h : Ψ (.list (xs ++ ys))) : DO K rCatL (.list xs) (.list ys) Ψ := fun N H hN u w hu hw Q q => by
  obtain ⟨p, us, rfl, _, h1, h2⟩ := hu.lst_inv
  obtain ⟨p2, ws, rfl, _, h3, h4⟩ := hw.lst_inv
  refine ⟨p, p2, us, ws, rfl, rfl, h1, h3, by rw [h2.len, h4.len]; exact hz, fun z hz => ?_⟩
  have s := same_new hz (.lst (us ++ ws))
  exact q _ _ _ h s (Dq.lst (fresh_av hN hz) upd_same ((h2.append h4).keep (Keep.of s)))

/-! ### calls of built-ins -/
theorem dc_len_l {ds : List PyData} (h : Ψ (.int ds.length)) : DC K (fun xs H Q => ∃ p ys, xs = [.ref p] ∧ (SqL K H p ys ∨ SqT K H p ys) ∧ Q (.int ys.length) H) [.list ds] Ψ := fun N H _ us hu Q q => by
  cases hu with
  | cons h1 h2 =>
    cases h2
    obtain ⟨p, xs, rfl, _, h3, h4⟩ := Dq.lst_inv h1
    exact ⟨p, xs, rfl, .inl (.inl h3), q _ _ H h (Same.refl H) (by rw [h4.len]; exact Dt.int _)⟩
theorem dc_len_t {ds : List PyData} (h : Ψ (.int ds.length)) : DC K (fun xs H Q => ∃ p ys, xs = [.ref p] ∧ (SqL K H p ys ∨ SqT K H p ys) ∧ Q (.int ys.length) H) [.tuple ds] Ψ := fun N H _ us hu Q q => by
  cases hu with
  | cons h1 h2 =>
    cases h2
    obtain ⟨p, xs, rfl, _, h3, h4⟩ := Dq.tup_inv h1
    exact ⟨p, xs, rfl, .inr h3, q _ _ H h (Same.refl H) (by rw [h4.len]; exact Dt.int _)⟩
theorem dc_i2 {f : Int → Int → Int} {i j : Int} (h : Ψ (.int (f i j))) : DC K (fun xs H Q => ∃ i j, xs = [.int i, .int j] ∧ Q (.int (f i j)) H) [.int i, .int j] Ψ := fun N H _ us hu Q q => by
  cases hu with
  | cons h1 h2 =>
    cases h2 with
    | cons h2 h3 => cases h3; cases h1; cases h2; exact ⟨i, j, rfl, q _ _ H h (Same.refl H) (Dt.int _)⟩

/-! ### statements -/
theorem ws_seq {t u : TS} {En : DE} (h : WS K S t ρ { En with nx := fun ρ1 => WS K S u ρ1 En }) : WS K S (tSeq t u) ρ En := fun H0 N0 Z N σ H D E M =>
  h H0 N0 Z N σ H { D with nx := u D } E ⟨fun N σ H ρ q E1 => q H0 N0 Z N σ H D E1 M, M.rt, M.bk, M.ct⟩
theorem ws_next {En : DE} (h : En.nx ρ) : WS K S tNext ρ En := fun H0 N0 Z N σ H D E M => M.nx N σ H ρ h E
theorem ws_asg {te : TE} {i : Nat} {En : DE} (h : WD K S te ρ fun d ρ1 => En.nx (ρ1.set i (.dat d))) : WS K S (tAsg te (gName i)) ρ En := fun H0 N0 Z N σ H D E M =>
  h H0 N0 Z N σ H E _ fun v d ρ1 H1 f E1 k1 d1 => M.nx N _ H1 _ f (E1.set d1)
theorem ws_ret {te : TE} {En : DE} (h : WD K S te ρ En.rt) : WS K S (tRet te) ρ En := fun H0 N0 Z N σ H D E M =>
  h H0 N0 Z N σ H E _ fun v d ρ1 H1 f E1 k1 d1 => M.rt N _ H1 _ v d f E1 (d1.le E1.base)
theorem ws_drop {te : TE} {En : DE} (h : WD K S te ρ fun _ ρ1 => En.nx ρ1) : WS K S (tDrop te) ρ En := fun H0 N0 Z N σ H D E M =>
  h H0 N0 Z N σ H E _ fun v d ρ1 H1 f E1 k1 d1 => M.nx N _ H1 _ f E1
theorem ws_if {c : TT} {t u : TS} {En : DE} (h : WT K S c ρ fun b ρ1 => if b = true then WS K S t ρ1 En else WS K S u ρ1 En) : WS K S (tIfS c t u) ρ En := fun H0 N0 Z N σ H D E M =>
  h H0 N0 Z N σ H E _ fun b ρ1 H1 f E1 k1 => by
    cases b with
    | true => exact f H0 N0 Z N σ H1 D E1 M
    | false => exact f H0 N0 Z N σ H1 D E1 M
/-- a, b = e1, e2 -/
theorem ws_par {i j : Nat} {ta : TA} {En : DE} (h : WA K S ta ρ fun ds ρ1 => ∃ x y, ds = [x, y] ∧ En.nx ((ρ1.set i (.dat x)).set j (.dat y))) : WS K S (tPar i j ta) ρ En := fun H0 N0 Z N σ H D E M =>
  h H0 N0 Z N σ H E _ fun vs ds ρ1 H1 ⟨x, y, e, f⟩ E1 k1 d1 => by
    subst e
    cases d1 with
    | cons d1 d2 =>
      cases d2 with
      | cons d2 d3 =>
        cases d3
        exact ⟨_, _, rfl, M.nx N _ H1 _ f ((E1.set d1).set d2)⟩
/-- a, b = a pair -/
theorem ws_unp2 {te : TE} {i j : Nat} {En : DE} (h : WD K S te ρ fun d ρ1 => ∃ x y, d = .tuple [x, y] ∧ En.nx ((ρ1.set i (.dat x)).set j (.dat y))) : WS K S (tAsg te (gTup K 2 (gCons (gName i) (gCons (gName j) gNil)))) ρ En := fun H0 N0 Z N σ H D E M =>
  h H0 N0 Z N σ H E _ fun v d ρ1 H1 ⟨x, y, e, f⟩ E1 k1 d1 => by
    subst e
    obtain ⟨p, xs, rfl, _, h1, h2⟩ := d1.tup_inv
    cases h2 with
    | cons a1 a2 =>
      cases a2 with
      | cons a2 a3 =>
        cases a3
        exact ⟨p, _, rfl, h1, rfl, _, _, rfl, _, _, rfl, rfl, M.nx N _ H1 _ f ((E1.set a1).set a2)⟩

/-! ### lists of one's own -/
theorem EnvD.new (E : EnvD K S H0 N0 Z N σ H ρ) {i : Nat} {p : Addr} {xs : List V} {ds : List PyData} (hp : H p = none) (hp0 : H0 p = none) (n0 : N0 p = false) (hd : DqAll K N H xs ds) :
    EnvD K S H0 N0 Z (fun b => N b || decide (b = p)) (σ.set i (some (.ref p))) (upd H p (.lst xs)) (ρ.set i (.own ds)) := by
  have np : N p = false := fresh_av E.trk hp
  have sp : S.fp p = false := by
    cases e : S.fp p with
    | false => rfl
    | true => rw [E.sub p e] at np; cases np
  have s := same_new hp (.lst xs)
  have kw : Same (wo N H) (wo (fun b => N b || decide (b = p)) (upd H p (.lst xs))) := fun b o h => by
    obtain ⟨n, h⟩ := wo_some h
    have hb : b ≠ p := ne_of_none h hp
    rw [wo_in (by simp [n, hb])]
    exact s b o h
  have dk : ∀ {v : V} {d : PyData}, Dq K N H v d → Dq K (fun b => N b || decide (b = p)) (upd H p (.lst xs)) v d := fun h => dp_mono kw _ _ h
  have dka : ∀ {v : List V} {d : List PyData}, DqAll K N H v d → DqAll K (fun b => N b || decide (b = p)) (upd H p (.lst xs)) v d := fun h => dpall_mono kw _ _ h
  have nq : ∀ {q : Addr} {ys : List V}, H q = some (.lst ys) → q ≠ p := fun h => ne_of_none h hp
  have le : ∀ b, N b = true → (N b || decide (b = p)) = true := fun b h => by rw [h]; rfl
  have old : ∀ {s : Sl} {j : Nat}, SlOk K S H0 N0 N σ H j s → SlOk K S H0 N0 (fun b => N b || decide (b = p)) σ (upd H p (.lst xs)) j s := fun {t j} h => by
    cases t with
    | unk => trivial
    | dat d => obtain ⟨v, h1, h2⟩ := h; exact ⟨v, h1, dk h2⟩
    | own es => obtain ⟨q, ys, h1, h2, h3, h4, h5, h6, h7⟩ := h; exact ⟨q, ys, h1, le q h2, h3, h4, h5, s _ _ h6, dka h7⟩
    | sto B =>
      obtain ⟨h1, h2⟩ := h
      exact ⟨h1, S.loc H _ B (fun b hb => upd_ne fun e => by rw [e, sp] at hb; cases hb) h2⟩
    | scr ns => obtain ⟨a, h1, h2⟩ := h; exact ⟨a, h1, kw.seq h2⟩
  refine ⟨fun b o n h => s b o (E.keep b o n h), fun b h => le b (E.base b h), fun b h => ?_, fun b h => le b (E.sub b h), fun j t h => ?_, by rw [List.length_set, List.length_set]; exact E.len, fun z h => ?_, fun a da dj q ha h1 hz => ?_, E.injZ, fun a b da db q ha hb h1 h2 => ?_⟩
  · by_cases e : b = p
    · subst e; rw [upd_same]; simp
    · have n : N b = true := by simpa [e] using h
      rw [upd_ne e]; exact E.trk b n
  · rcases get_set h with ⟨e, e2⟩ | ⟨e, h⟩
    · subst e; subst e2
      have hi : i < σ.length := by
        have := (List.getElem?_eq_some_iff.mp h).1
        rw [List.length_set] at this
        rw [← E.len]; exact this
      exact ⟨p, xs, set_eq hi, by simp, sp, n0, hp0, upd_same, dka hd⟩
    · exact (old (E.slot j t h)).other e
  · cases z with
    | dat v d => exact dk (E.hid _ h)
    | own q es =>
      obtain ⟨ys, h2, h3, h4, h5, h6, h7⟩ := E.hid _ h
      exact ⟨ys, le q h2, h3, h4, h5, s _ _ h6, dka h7⟩
  · rcases get_set ha with ⟨e, e2⟩ | ⟨e, ha⟩
    · subst e
      have hi : i < σ.length := by
        have := (List.getElem?_eq_some_iff.mp h1).1
        rwa [List.length_set] at this
      rw [set_eq hi] at h1
      cases h1
      obtain ⟨ys, h2, h3, h4, h5, h6, h7⟩ := E.hid _ hz
      exact nq h6 rfl
    · rw [set_ne e] at h1
      exact E.injH a da dj q ha h1 hz
  · have own : ∀ {c : Nat} {dc : List PyData} {q : Addr}, ρ[c]? = some (.own dc) → σ[c]? = some (some (V.ref q)) → q ≠ p := fun {c dc q} h1 h2 => by
      obtain ⟨q', ys, g1, g2, g3, g4, g5, g6, g7⟩ := E.slot c _ h1
      rw [g1] at h2; cases h2
      exact nq g6
    have fresh : ∀ {q : Addr}, (σ.set i (some (V.ref p)))[i]? = some (some (V.ref q)) → q = p := fun {q} h => by
      have hi : i < σ.length := by
        have := (List.getElem?_eq_some_iff.mp h).1
        rwa [List.length_set] at this
      rw [set_eq hi] at h; cases h; rfl
    rcases get_set ha with ⟨ea, e2⟩ | ⟨ea, ha⟩
    · rcases get_set hb with ⟨eb, e3⟩ | ⟨eb, hb⟩
      · exact ea.symm.trans eb
      · subst ea
        rw [set_ne eb] at h2
        exact absurd (fresh h1) (own hb h2)
    · rcases get_set hb with ⟨eb, e3⟩ | ⟨eb, hb⟩
      · subst eb
        rw [set_ne ea] at h1
        exact absurd (fresh h2) (own ha h1)
      · rw [set_ne ea] at h1
        rw [set_ne eb] at h2
        exact E.inj a b da db q ha hb h1 h2
end
end DL

set_option Elab.async false
set_option linter.all false
set_option maxRecDepth 100000
set_option maxHeartbeats 2000000
namespace DL
open PySem L2
section
variable {K : PySem.W.Frag} {S : Stt} {H0 : Hp} {N0 : Av} {Z : List Hd} {N : Av} {σ : L2.St} {H H' : Hp} {ρ : Rho} {Φ : PyData → Rho → Prop} {Ψ : PyData → Prop}

theorem free0 (E : EnvD K S H0 N0 Z N σ H ρ) {p : Addr} (hp : H p = none) : H0 p = none ∧ N0 p = false := by
  have np : N p = false := fresh_av E.trk hp
  have sp : S.fp p = false := by
    cases e : S.fp p with
    | false => rfl
    | true => rw [E.sub p e] at np; cases np
  constructor
  · cases e : H0 p with
    | none => rfl
    | some o => rw [E.keep p o sp e] at hp; cases hp
  · cases e : N0 p with
    | false => rfl
    | true => rw [E.base p e] at np; cases np
/-- x = [..], a list that will be filled -/
theorem ws_own {ta : TA} {i : Nat} {En : DE} (h : WA K S ta ρ fun ds ρ1 => ds.length ≤ sizeLine ∧ En.nx (ρ1.set i (.own ds))) : WS K S (tAsg (tLst ta) (gName i)) ρ En := fun H0 N0 Z N σ H D E M =>
  h H0 N0 Z N σ H E _ fun vs ds ρ1 H1 f E1 k1 d1 => ⟨by rw [d1.len]; exact f.1, fun p hp => by
    obtain ⟨z1, z2⟩ := free0 E1 hp
    exact M.nx _ _ _ _ f.2 (E1.new hp z1 z2 d1)⟩
/-- an own list's content changes, at p -/
theorem EnvD.chg (E : EnvD K S H0 N0 Z N σ H ρ) {p : Addr} {xs ys : List V} {i : Nat} {ds es : List PyData} (hi : ρ[i]? = some (.own ds)) (hs : σ[i]? = some (some (.ref p))) (hq : DqAll K N H ys es) :
    EnvD K S H0 N0 Z N σ (upd H p (.lst ys)) (ρ.set i (.own es)) := by
  obtain ⟨p', xs', g1, g2, g3, g4, g5, g6, g7⟩ := E.slot i _ hi
  rw [g1] at hs; cases hs
  have kp : ∀ b o, b ≠ p → H b = some o → upd H p (.lst ys) b = some o := fun b o hb h => by rw [upd_ne hb]; exact h
  have kn : Keep N H (upd H p (.lst ys)) := fun b o n h => kp b o (fun e => by rw [e, g2] at n; cases n) h
  have il : i < ρ.length := (List.getElem?_eq_some_iff.mp hi).1
  refine ⟨fun b o n h => kp b o (fun e => by rw [e, g5] at h; cases h) (E.keep b o n h), E.base, fun b h => ?_, E.sub, fun j t h => ?_, by rw [List.length_set]; exact E.len, fun z h => ?_, fun a da dj q ha h1 hz => ?_, E.injZ, fun a b da db q ha hb h1 h2 => ?_⟩
  · by_cases e : b = p
    · rw [e, upd_same]; simp
    · rw [upd_ne e]; exact E.trk b h
  · rcases get_set h with ⟨e, e2⟩ | ⟨e, h⟩
    · subst e; subst e2
      exact ⟨p, ys, g1, g2, g3, g4, g5, upd_same, hq.keep kn⟩
    · have q := E.slot j t h
      cases t with
      | unk => trivial
      | dat d => obtain ⟨v, h1, h2⟩ := q; exact ⟨v, h1, h2.keep kn⟩
      | own us =>
        obtain ⟨q, zs, h1, h2, h3, h4, h5, h6, h7⟩ := q
        have hne : q ≠ p := fun e2 => by subst e2; exact e (E.inj i j _ _ _ hi h g1 h1)
        exact ⟨q, zs, h1, h2, h3, h4, h5, kp _ _ hne h6, h7.keep kn⟩
      | sto B => obtain ⟨h1, h2⟩ := q; exact ⟨h1, S.loc H _ B (fun b hb => upd_ne fun e => by rw [e, g3] at hb; cases hb) h2⟩
      | scr ns => obtain ⟨a, h1, h2⟩ := q; exact ⟨a, h1, kn.wo.seq h2⟩
  · have q := E.hid z h
    cases z with
    | dat v d => exact Dq.keep q kn
    | own q' zs =>
      obtain ⟨us, h2, h3, h4, h5, h6, h7⟩ := q
      have hne : q' ≠ p := fun e2 => by subst e2; exact E.injH i _ _ _ hi g1 h
      exact ⟨us, h2, h3, h4, h5, kp _ _ hne h6, h7.keep kn⟩
  · rcases get_set ha with ⟨e, e2⟩ | ⟨e, ha⟩
    · subst e
      exact E.injH i _ dj q hi h1 hz
    · exact E.injH a da dj q ha h1 hz
  · have low : ∀ {c : Nat} {dc : List PyData}, (ρ.set i (.own es))[c]? = some (Sl.own dc) → ∃ dc', ρ[c]? = some (Sl.own dc') := fun {c dc} hc => by
      rcases get_set hc with ⟨e, _⟩ | ⟨_, hc⟩
      · subst e; exact ⟨_, hi⟩
      · exact ⟨_, hc⟩
    obtain ⟨da', ha'⟩ := low ha
    obtain ⟨db', hb'⟩ := low hb
    exact E.inj a b _ _ q ha' hb' h1 h2
/-- x.append(e), x a list of one's own -/
theorem ws_append {te : TE} {i : Nat} {es : List PyData} {En : DE} (h0 : ρ[i]? = some (.own es))
    (h : WD K S te ρ fun d ρ1 => ∃ ds, ρ1[i]? = some (.own ds) ∧ ds.length < sizeLine ∧ En.nx (ρ1.set i (.own (ds ++ [d])))) : WS K S (tDrop (tBM K "list" rAppend (tVar i) (tCons te tNil))) ρ En := fun H0 N0 Z N σ H D E M => by
  obtain ⟨p, xs, g1, g2, g3, g4, g5, g6, g7⟩ := E.slot i _ h0
  refine ⟨.ref p, g1, .inl ⟨rfl, _, .inl (.inl g6)⟩, h H0 N0 Z N σ H E _ fun v d ρ1 H1 ⟨ds, f1, f2, f3⟩ E1 k1 d1 => ?_⟩
  obtain ⟨p', xs', e1, e2, e3, e4, e5, e6, e7⟩ := E1.slot i _ f1
  rw [g1] at e1; cases e1
  exact ⟨p, xs', v, rfl, rfl, e6, by rw [e7.len]; exact f2, M.nx N _ _ _ f3 (E1.chg (xs := xs') f1 g1 (e7.append (DqAll.cons d1 DqAll.nil)))⟩
/-- a list of one's own, filled, is data -/
theorem EnvD.frz (E : EnvD K S H0 N0 Z N σ H ρ) {i : Nat} {ds : List PyData} (hi : ρ[i]? = some (.own ds)) : ∃ N', EnvD K S H0 N0 Z N' σ H (ρ.set i (.dat (.list ds))) := by
  obtain ⟨p, xs, g1, g2, g3, g4, g5, g6, g7⟩ := E.slot i _ hi
  have le : Le (fun b => N b && !decide (b = p)) N := fun b h => by simp at h; exact h.1
  have ne : ∀ {q : Addr}, q ≠ p → N q = true → (N q && !decide (q = p)) = true := fun h n => by simp [h, n]
  have il : i < ρ.length := (List.getElem?_eq_some_iff.mp hi).1
  refine ⟨fun b => N b && !decide (b = p), E.keep, fun b h => ne (fun e => by rw [e, g4] at h; cases h) (E.base b h), fun b h => E.trk b (le b h), fun b h => ne (fun e => by rw [e, g3] at h; cases h) (E.sub b h), fun j t h => ?_, by rw [List.length_set]; exact E.len, fun z h => ?_, fun a da dj q ha h1 hz => ?_, E.injZ, fun a b da db q ha hb h1 h2 => ?_⟩
  · rcases get_set h with ⟨e, e2⟩ | ⟨e, h⟩
    · subst e; subst e2
      exact ⟨.ref p, g1, Dq.lst (by simp) g6 (g7.le le)⟩
    · have q := E.slot j t h
      cases t with
      | unk => trivial
      | dat d => obtain ⟨v, h1, h2⟩ := q; exact ⟨v, h1, h2.le le⟩
      | own us =>
        obtain ⟨q, zs, h1, h2, h3, h4, h5, h6, h7⟩ := q
        have hne : q ≠ p := fun e2 => by subst e2; exact e (E.inj i j _ _ _ hi h g1 h1)
        exact ⟨q, zs, h1, ne hne h2, h3, h4, h5, h6, h7.le le⟩
      | sto B => exact q
      | scr ns => obtain ⟨a, h1, h2⟩ := q; exact ⟨a, h1, le.wo.seq h2⟩
  · have q := E.hid z h
    cases z with
    | dat v d => exact Dq.le q le
    | own q' zs =>
      obtain ⟨us, h2, h3, h4, h5, h6, h7⟩ := q
      have hne : q' ≠ p := fun e2 => by subst e2; exact E.injH i _ _ _ hi g1 h
      exact ⟨us, ne hne h2, h3, h4, h5, h6, h7.le le⟩
  · rcases get_set ha with ⟨e, e2⟩ | ⟨e, ha⟩
    · cases e2
    · exact E.injH a da dj q ha h1 hz
  · rcases get_set ha with ⟨e, e2⟩ | ⟨ea, ha⟩
    · cases e2
    · rcases get_set hb with ⟨e, e2⟩ | ⟨eb, hb⟩
      · cases e2
      · exact E.inj a b da db q ha hb h1 h2
theorem ws_frz {ts : TS} {i : Nat} {ds : List PyData} {En : DE} (hi : ρ[i]? = some (.own ds)) (h : WS K S ts (ρ.set i (.dat (.list ds))) En) : WS K S ts ρ En := fun H0 N0 Z N σ H D E M => by
  obtain ⟨N', E'⟩ := E.frz hi
  exact h H0 N0 Z N' σ H D E' M
theorem ws_fgt {ts : TS} {ρ' : Rho} {En : DE} (f : Fgt ρ ρ') (h : WS K S ts ρ' En) : WS K S ts ρ En := fun H0 N0 Z N σ H D E M => h H0 N0 Z N σ H D (E.fgt f) M

/-! ### loops -/
theorem EnvD.push (E : EnvD K S H0 N0 Z N σ H ρ) {v : V} {d : PyData} (h : Dq K N H v d) : EnvD K S H0 N0 (.dat v d :: Z) N σ H ρ where
  keep := E.keep
  base := E.base
  trk := E.trk
  sub := E.sub
  slot := E.slot
  len := E.len
  hid z hz := by
    rcases List.mem_cons.mp hz with e | hz
    · subst e; exact h
    · exact E.hid z hz
  injH i di dj p h1 h2 hz := by
    rcases List.mem_cons.mp hz with e | hz
    · cases e
    · exact E.injH i di dj p h1 h2 hz
  injZ i j di dj p h1 h2 := by
    cases i with
    | zero => simp at h1
    | succ i =>
      cases j with
      | zero => simp at h2
      | succ j => exact congrArg (· + 1) (E.injZ i j di dj p (by simpa using h1) (by simpa using h2))
  inj := E.inj
theorem EnvD.pop {z : Hd} (E : EnvD K S H0 N0 (z :: Z) N σ H ρ) : EnvD K S H0 N0 Z N σ H ρ where
  keep := E.keep
  base := E.base
  trk := E.trk
  sub := E.sub
  slot := E.slot
  len := E.len
  hid z hz := E.hid z (List.mem_cons_of_mem _ hz)
  injH i di dj p h1 h2 hz := E.injH i di dj p h1 h2 (List.mem_cons_of_mem _ hz)
  injZ i j di dj p h1 h2 := Nat.succ.inj (E.injZ (i + 1) (j + 1) di dj p (by simpa using h1) (by simpa using h2))
  inj := E.inj
/-- while, by a word with a measure -/
theorem ws_while {c : TT} {tb : TS} {En : DE} (I : Nat → Rho → Prop) (m0 : Nat) (i0 : I m0 ρ)
    (turn : ∀ m ρ1, I m ρ1 → WT K S c ρ1 fun b ρ2 => if b = true then WS K S tb ρ2 { nx := fun ρ3 => ∃ m', m' < m ∧ I m' ρ3, rt := En.rt, bk := En.nx, ct := fun ρ3 => ∃ m', m' < m ∧ I m' ρ3 } else En.nx ρ2) :
    WS K S (tWhile c tb) ρ En := fun H0 N0 Z N σ H D E M => by
  refine ⟨fun m σ' H' => ∃ N' ρ', EnvD K S H0 N0 Z N' σ' H' ρ' ∧ I m ρ', ⟨m0, N, ρ, E, i0⟩, ?_⟩
  rintro m σ' H' ⟨N', ρ', E', iv⟩
  refine turn m ρ' iv H0 N0 Z N' σ' H' E' _ fun b ρ2 H2 f E2 k2 => ?_
  cases b with
  | true => exact ⟨fun σ3 H3 => ∃ m', m' < m ∧ ∃ N3 ρ3, EnvD K S H0 N0 Z N3 σ3 H3 ρ3 ∧ I m' ρ3, fun σ3 H3 ⟨m', l, w⟩ => ⟨m', l, w⟩, f H0 N0 Z N' σ' H2 _ E2 ⟨fun N3 σ3 H3 ρ3 ⟨m', l, w⟩ E3 => ⟨m', l, N3, ρ3, E3, w⟩, M.rt, M.nx, fun N3 σ3 H3 ρ3 ⟨m', l, w⟩ E3 => ⟨m', l, N3, ρ3, E3, w⟩⟩⟩
  | false => exact M.nx N' σ' H2 ρ2 f E2

/-! ### comprehensions -/
def wipeR (ρ : Rho) : List Nat → Rho
  | [] => ρ
  | v :: vs => (wipeR ρ vs).set v .unk
theorem EnvD.wipe (E : EnvD K S H0 N0 Z N σ H ρ) : ∀ vs : List Nat, EnvD K S H0 N0 Z N (L2.wipe σ vs) H (wipeR ρ vs)
  | [] => E
  | v :: vs => (E.wipe vs).unset
/-- behind a comprehension: the names as ahead of it -/
theorem EnvD.unwipe : ∀ {vs : List Nat} {σ : L2.St} {ρ : Rho}, EnvD K S H0 N0 Z N (L2.wipe σ vs) H ρ → EnvD K S H0 N0 Z N σ H (wipeR ρ vs)
  | [], _, _, E => E
  | v :: vs, σ, ρ, E => by
    have e : EnvD K S H0 N0 Z N ((L2.wipe σ vs).set v none) H ρ := E
    by_cases hv : v < (L2.wipe σ vs).length
    · have e2 := e.unset (i := v) (u := (L2.wipe σ vs)[v])
      rw [List.set_set, List.set_getElem_self] at e2
      have e3 := EnvD.unwipe e2
      have cm : ∀ (us : List Nat) (r : Rho), wipeR (r.set v .unk) us = (wipeR r us).set v .unk := fun us => by
        induction us with
        | nil => intro r; rfl
        | cons u us ih =>
          intro r
          show (wipeR (r.set v .unk) us).set u .unk = ((wipeR r us).set u .unk).set v .unk
          rw [ih]
          by_cases huv : u = v
          · subst huv; rfl
          · exact List.set_comm _ _ (fun q => huv q.symm)
      rw [cm] at e3
      exact e3
    · rw [List.set_eq_of_length_le (by omega)] at e
      have e3 := EnvD.unwipe e
      show EnvD K S H0 N0 Z N σ H ((wipeR ρ vs).set v .unk)
      exact e3.fgt ⟨by rw [List.length_set], fun j s h => by
        rcases get_set h with ⟨_, q⟩ | ⟨_, q⟩
        · exact .inl q
        · exact .inr q⟩
end
end DL

set_option Elab.async false
set_option linter.all false
set_option maxRecDepth 100000
set_option maxHeartbeats 2000000
namespace DL
open PySem L2
/-- what a for walks, as data: hidden things Zx keep it, ds are its items -/
def Src (K : PySem.W.Frag) (J : It) (Zx : List Hd) (ds : List PyData) : Prop :=
  ∀ S H0 N0 Z N σ H ρ, EnvD K S H0 N0 (Zx ++ Z) N σ H ρ → (∀ k d, ds[k]? = some d → J.go k H ∧ ∀ x H', J.yld k H x H' → Same H H' ∧ Dq K N H' x d) ∧ J.stop ds.length H
def WI (K : PySem.W.Frag) (S : Stt) (wi : TI) (ρ : Rho) (Θ : List PyData → Rho → Prop) : Prop :=
  ∀ H0 N0 Z N σ H, EnvD K S H0 N0 Z N σ H ρ → ∀ R : It → Hp → Prop, (∀ J Zx ds ρ' H', Θ ds ρ' → Src K J Zx ds → (∀ p es, Hd.own p es ∉ Zx) → EnvD K S H0 N0 (Zx ++ Z) N σ H' ρ' → Keep N H H' → R J H') → wi σ H R
/-- a target takes a datum -/
def GD (K : PySem.W.Frag) (g : TG) (d : PyData) (ts : List Nat) (f : Rho → Rho) : Prop :=
  ∀ S H0 N0 Z N σ H ρ x, EnvD K S H0 N0 Z N σ H ρ → Dq K N H x d → ∀ Q : L2.St → Hp → Prop, (∀ σ', EnvD K S H0 N0 Z N σ' H (f ρ) → σ'.length = σ.length → (∀ j, j ∉ ts → σ'[j]? = σ[j]?) → Q σ' H) → g x σ H Q
section
variable {K : PySem.W.Frag} {S : Stt} {H0 : Hp} {N0 : Av} {Z : List Hd} {N : Av} {σ : L2.St} {H H' : Hp} {ρ : Rho} {Φ : PyData → Rho → Prop} {Ψ : PyData → Prop}

theorem EnvD.popn : ∀ {Zx : List Hd}, EnvD K S H0 N0 (Zx ++ Z) N σ H ρ → EnvD K S H0 N0 Z N σ H ρ
  | [], E => E
  | _ :: _, E => EnvD.popn E.pop
theorem src_list {a : Addr} {ds : List PyData} : Src K (Itl K a) [.dat (.ref a) (.list ds)] ds := fun S H0 N0 Z N σ H ρ E => by
  obtain ⟨p, xs, e, _, hr, ha⟩ := Dq.lst_inv (E.hid _ List.mem_cons_self)
  cases e
  refine ⟨fun k d hd => ?_, xs, .inl hr, by rw [ha.len]; exact Nat.le_refl _⟩
  obtain ⟨y, hy, hyd⟩ := ha.get hd
  refine ⟨⟨xs, y, .inl hr, hy⟩, fun x H' ⟨e1, e2⟩ => ?_⟩
  subst e1
  have ex : x = y := Option.some.inj ((e2 xs (.inl hr)).symm.trans hy)
  subst ex
  exact ⟨Same.refl _, hyd⟩
theorem src_tup {a : Addr} {ds : List PyData} : Src K (Itt K a) [.dat (.ref a) (.tuple ds)] ds := fun S H0 N0 Z N σ H ρ E => by
  obtain ⟨p, xs, e, _, hr, ha⟩ := Dq.tup_inv (E.hid _ List.mem_cons_self)
  cases e
  refine ⟨fun k d hd => ?_, xs, hr, by rw [ha.len]; exact Nat.le_refl _⟩
  obtain ⟨y, hy, hyd⟩ := ha.get hd
  refine ⟨⟨xs, y, hr, hy⟩, fun x H' ⟨e1, e2⟩ => ?_⟩
  subst e1
  have ex : x = y := Option.some.inj ((e2 xs hr).symm.trans hy)
  subst ex
  exact ⟨Same.refl _, hyd⟩
theorem src_rng {lo : Int} {n : Nat} : Src K (Itr lo n) [] ((List.range n).map fun k : Nat => PyData.int (lo + k)) := fun S H0 N0 Z N σ H ρ E => by
  refine ⟨fun k d hd => ?_, by show n ≤ _; simp⟩
  rw [List.getElem?_map] at hd
  by_cases hk : k < n
  · rw [List.getElem?_range hk] at hd
    cases hd
    refine ⟨hk, fun x H' ⟨e1, e2⟩ => ?_⟩
    subst e1; subst e2
    exact ⟨Same.refl _, Dt.int _⟩
  · rw [List.getElem?_eq_none (by simp; omega)] at hd
    cases hd
theorem src_enum {a : Addr} {ds : List PyData} : Src K (Ite K a) [.dat (.ref a) (.list ds)] (ds.mapIdx fun k d => PyData.tuple [.int k, d]) := fun S H0 N0 Z N σ H ρ E => by
  obtain ⟨p, xs, e, _, hr, ha⟩ := Dq.lst_inv (E.hid _ List.mem_cons_self)
  cases e
  refine ⟨fun k d hd => ?_, xs, .inl hr, by rw [ha.len]; simp⟩
  rw [List.getElem?_mapIdx] at hd
  obtain ⟨d0, hd0, rfl⟩ := Option.map_eq_some_iff.mp hd
  obtain ⟨y, hy, hyd⟩ := ha.get hd0
  refine ⟨⟨xs, y, .inl hr, hy⟩, fun v H' ⟨T, x, e1, e2, e3, e4⟩ => ?_⟩
  subst e1; subst e3
  have ex : x = y := Option.some.inj ((e4 xs (.inl hr)).symm.trans hy)
  subst ex
  have s := same_new e2 (.tup [.int (k : Nat), x])
  exact ⟨s, Dq.tup (fresh_av E.trk e2) upd_same (DqAll.cons (Dt.int _) (DqAll.cons (hyd.keep (Keep.of s)) DqAll.nil))⟩
theorem no_own1 {v : V} {d : PyData} : ∀ p es, Hd.own p es ∉ [Hd.dat v d] := fun p es h => by simp at h
theorem wi_list {tl : TE} {Θ : List PyData → Rho → Prop} (h : WD K S tl ρ fun d ρ1 => ∃ ds, d = .list ds ∧ Θ ds ρ1) : WI K S (iList K tl) ρ Θ := fun H0 N0 Z N σ H E R q =>
  h H0 N0 Z N σ H E _ fun v d ρ1 H1 ⟨ds, e, f⟩ E1 k1 d1 => by
    subst e
    obtain ⟨p, xs, rfl, hw, hr, ha⟩ := d1.lst_inv
    exact ⟨p, rfl, ⟨xs, .inl hr⟩, q _ _ ds ρ1 H1 f src_list no_own1 (E1.push d1) k1⟩
theorem wi_tup {tl : TE} {Θ : List PyData → Rho → Prop} (h : WD K S tl ρ fun d ρ1 => ∃ ds, d = .tuple ds ∧ Θ ds ρ1) : WI K S (iTup K tl) ρ Θ := fun H0 N0 Z N σ H E R q =>
  h H0 N0 Z N σ H E _ fun v d ρ1 H1 ⟨ds, e, f⟩ E1 k1 d1 => by
    subst e
    obtain ⟨p, xs, rfl, hw, hr, ha⟩ := d1.tup_inv
    exact ⟨p, rfl, ⟨xs, hr⟩, q _ _ ds ρ1 H1 f src_tup no_own1 (E1.push d1) k1⟩
theorem wi_enum {ta : TA} {Θ : List PyData → Rho → Prop} (h : WA K S ta ρ fun xs ρ1 => ∃ ds, xs = [.list ds] ∧ Θ (ds.mapIdx fun k d => PyData.tuple [.int k, d]) ρ1) : WI K S (iEnum K ta) ρ Θ := fun H0 N0 Z N σ H E R q =>
  h H0 N0 Z N σ H E _ fun vs xs ρ1 H1 ⟨ds, e, f⟩ E1 k1 d1 => by
    subst e
    cases d1 with
    | cons d1 d2 =>
      cases d2
      obtain ⟨p, xs, rfl, hw, hr, ha⟩ := Dq.lst_inv d1
      exact ⟨p, xs, rfl, .inl hr, q _ _ _ ρ1 H1 f src_enum no_own1 (E1.push d1) k1⟩
theorem wi_rng1 {ta : TA} {Θ : List PyData → Rho → Prop} (h : WA K S ta ρ fun xs ρ1 => ∃ n : Int, xs = [.int n] ∧ -(2 ^ 62) ≤ n ∧ n < 2 ^ 62 ∧ Θ ((List.range n.toNat).map fun k : Nat => PyData.int (0 + k)) ρ1) : WI K S (iRng1 ta) ρ Θ := fun H0 N0 Z N σ H E R q =>
  h H0 N0 Z N σ H E _ fun vs xs ρ1 H1 ⟨n, e, b1, b2, f⟩ E1 k1 d1 => by
    subst e
    cases d1 with
    | cons d1 d2 =>
      cases d2
      cases d1
      exact ⟨n, rfl, b1, b2, q _ [] _ ρ1 H1 f src_rng (fun p es h => by simp at h) E1 k1⟩
theorem gd_name {i : Nat} {d : PyData} : GD K (gName i) d [i] (fun ρ => ρ.set i (.dat d)) := fun S H0 N0 Z N σ H ρ x E hx Q q =>
  q _ (E.set hx) (List.length_set ..) fun j hj => set_ne fun e => hj (by simp [e])
theorem gd_pair {i j : Nat} {a b : PyData} : GD K (gTup K 2 (gCons (gName i) (gCons (gName j) gNil))) (.tuple [a, b]) [i, j] (fun ρ => (ρ.set i (.dat a)).set j (.dat b)) := fun S H0 N0 Z N σ H ρ x E hx Q q => by
  obtain ⟨p, xs, rfl, _, h1, h2⟩ := hx.tup_inv
  cases h2 with
  | cons a1 a2 =>
    cases a2 with
    | cons a2 a3 =>
      cases a3
      exact ⟨p, _, rfl, h1, rfl, _, _, rfl, _, _, rfl, rfl, q _ ((E.set a1).set a2) (by rw [List.length_set, List.length_set]) fun k hk => by
        have h1 : j ≠ k := fun e => hk (by simp [e])
        have h2 : i ≠ k := fun e => hk (by simp [e])
        rw [set_ne h1, set_ne h2]⟩
/-- for TARGET in THING -/
theorem ws_for {wi : TI} {g : TG} {tb : TS} {En : DE} (h : WI K S wi ρ fun ds ρ1 => ∃ I : Nat → Rho → Prop, I 0 ρ1 ∧
      (∀ k d ρ2, ds[k]? = some d → I k ρ2 → ∃ ts f, GD K g d ts f ∧ WS K S tb (f ρ2) { nx := I (k + 1), rt := En.rt, bk := En.nx, ct := I (k + 1) }) ∧ (∀ ρ2, I ds.length ρ2 → En.nx ρ2)) :
    WS K S (tFor wi g tb) ρ En := fun H0 N0 Z N σ H D E M =>
  h H0 N0 Z N σ H E _ fun J Zx ds ρ1 H1 ⟨I, i0, step, fin⟩ src _ E1 k1 => by
    refine ⟨fun k m σ' H' => ∃ N' ρ', EnvD K S H0 N0 (Zx ++ Z) N' σ' H' ρ' ∧ I k ρ' ∧ m = ds.length - k ∧ k ≤ ds.length, ⟨_, N, ρ1, E1, i0, rfl, Nat.zero_le _⟩, ?_⟩
    rintro k m σ' H' ⟨N', ρ', E', iv, rfl, hk⟩
    obtain ⟨s1, s2⟩ := src S H0 N0 Z N' σ' H' ρ' E'
    by_cases hlt : k < ds.length
    · have hd := List.getElem?_eq_getElem hlt
      obtain ⟨go, yl⟩ := s1 k _ hd
      obtain ⟨ts, f, gd, st⟩ := step k _ ρ' hd iv
      refine .inr ⟨go, fun σ2 H2 => ∃ N2 ρ2, EnvD K S H0 N0 (Zx ++ Z) N2 σ2 H2 ρ2 ∧ I (k + 1) ρ2, fun σ2 H2 ⟨N2, ρ2, E2, iv2⟩ => ⟨ds.length - (k + 1), by omega, N2, ρ2, E2, iv2, rfl, hlt⟩, fun x H2 hy => ?_⟩
      obtain ⟨sm, dx⟩ := yl x H2 hy
      exact gd S H0 N0 (Zx ++ Z) N' σ' H2 ρ' x (E'.ext sm) dx _ fun σ3 E3 _ _ => st H0 N0 _ N' _ _ _ E3 ⟨fun N2 σ2 H2 ρ2 q E2 => ⟨N2, ρ2, E2, q⟩, fun N2 σ2 H2 ρ2 v d q E2 => M.rt N2 σ2 H2 ρ2 v d q E2.popn, fun N2 σ2 H2 ρ2 q E2 => M.nx N2 σ2 H2 ρ2 q E2.popn, fun N2 σ2 H2 ρ2 q E2 => ⟨N2, ρ2, E2, q⟩⟩
    · have ek : k = ds.length := by omega
      subst ek
      exact .inl ⟨s2, M.nx N' σ' H' ρ' (fin ρ' iv) E'.popn⟩

/-! ### a comprehension's list -/
theorem EnvD.pushOwn (E : EnvD K S H0 N0 Z N σ H ρ) {p : Addr} (hp : H p = none) : EnvD K S H0 N0 (.own p [] :: Z) (fun b => N b || decide (b = p)) σ (upd H p (.lst [])) ρ := by
  obtain ⟨hp0, n0⟩ := free0 E hp
  have e : EnvD K S H0 N0 Z N (σ ++ [none]) H (ρ ++ [.unk]) := {
    keep := E.keep, base := E.base, trk := E.trk, sub := E.sub, hid := E.hid, injZ := E.injZ,
    len := by simp [E.len],
    slot := fun i s h => by
      by_cases hi : i < ρ.length
      · rw [List.getElem?_append_left hi] at h
        have q := E.slot i s h
        have hi2 : i < σ.length := by rw [← E.len]; exact hi
        cases s with
        | unk => trivial
        | dat d => obtain ⟨v, h1, h2⟩ := q; exact ⟨v, by rw [List.getElem?_append_left hi2]; exact h1, h2⟩
        | own ds => obtain ⟨v, xs, h1, h2⟩ := q; exact ⟨v, xs, by rw [List.getElem?_append_left hi2]; exact h1, h2⟩
        | sto B => obtain ⟨h1, h2⟩ := q; exact ⟨by rw [List.getElem?_append_left hi2]; exact h1, h2⟩
        | scr ns => obtain ⟨a, h1, h2⟩ := q; exact ⟨a, by rw [List.getElem?_append_left hi2]; exact h1, h2⟩
      · rw [List.getElem?_append_right (by omega)] at h
        have : s = .unk := by
          cases hh : i - ρ.length with
          | zero => rw [hh] at h; simpa using h.symm
          | succ n => rw [hh] at h; simp at h
        subst this; trivial
    injH := fun i di dj q h1 h2 hz => by
      by_cases hi : i < ρ.length
      · rw [List.getElem?_append_left hi] at h1
        rw [List.getElem?_append_left (by rw [← E.len]; exact hi)] at h2
        exact E.injH i di dj q h1 h2 hz
      · rw [List.getElem?_append_right (by omega)] at h1
        cases hh : i - ρ.length with
        | zero => rw [hh] at h1; simp at h1
        | succ n => rw [hh] at h1; simp at h1
    inj := fun i j di dj q h1 h2 h3 h4 => by
      have lo : ∀ {c : Nat} {dc : List PyData}, (ρ ++ [Sl.unk])[c]? = some (Sl.own dc) → c < ρ.length ∧ ρ[c]? = some (Sl.own dc) := fun {c dc} h => by
        by_cases hi : c < ρ.length
        · rw [List.getElem?_append_left hi] at h; exact ⟨hi, h⟩
        · rw [List.getElem?_append_right (by omega)] at h
          cases hh : c - ρ.length with
          | zero => rw [hh] at h; simp at h
          | succ n => rw [hh] at h; simp at h
      obtain ⟨b1, h1⟩ := lo h1
      obtain ⟨b2, h2⟩ := lo h2
      rw [List.getElem?_append_left (by rw [← E.len]; exact b1)] at h3
      rw [List.getElem?_append_left (by rw [← E.len]; exact b2)] at h4
      exact E.inj i j di dj q h1 h2 h3 h4 }
  have e2 := e.new (i := ρ.length) (ds := []) hp hp0 n0 DqAll.nil
  have r1 : (ρ ++ [Sl.unk]).set ρ.length (.own []) = ρ ++ [.own []] := by simp
  have r2 : (σ ++ [none]).set ρ.length (some (V.ref p)) = σ ++ [some (V.ref p)] := by rw [E.len]; simp
  rw [r1, r2] at e2
  have lt : ∀ {i : Nat} {s : Sl}, ρ[i]? = some s → i < ρ.length ∧ i < σ.length := fun {i s} h => by
    have h1 := (List.getElem?_eq_some_iff.mp h).1
    exact ⟨h1, by rw [← E.len]; exact h1⟩
  have up : ∀ {i : Nat} {s : Sl}, ρ[i]? = some s → (ρ ++ [Sl.own []])[i]? = some s := fun h => by rw [List.getElem?_append_left (lt h).1]; exact h
  have lastR : (ρ ++ [Sl.own []])[ρ.length]? = some (.own []) := by simp
  have lastS : (σ ++ [some (V.ref p)])[ρ.length]? = some (some (V.ref p)) := by rw [E.len]; simp
  refine ⟨e2.keep, e2.base, e2.trk, e2.sub, fun i s h => ?_, E.len, fun z h => ?_, fun i di dj q h1 h2 hz => ?_, fun i j di dj q h1 h2 => ?_, E.inj⟩
  · have q := e2.slot i s (up h)
    have l2 := (lt h).2
    cases s with
    | unk => trivial
    | dat d => obtain ⟨v, h1, h2⟩ := q; exact ⟨v, by rw [List.getElem?_append_left l2] at h1; exact h1, h2⟩
    | own ds => obtain ⟨v, xs, h1, h2⟩ := q; exact ⟨v, xs, by rw [List.getElem?_append_left l2] at h1; exact h1, h2⟩
    | sto B => obtain ⟨h1, h2⟩ := q; exact ⟨by rw [List.getElem?_append_left l2] at h1; exact h1, h2⟩
    | scr ns => obtain ⟨a, h1, h2⟩ := q; exact ⟨a, by rw [List.getElem?_append_left l2] at h1; exact h1, h2⟩
  · rcases List.mem_cons.mp h with e | h
    · subst e
      obtain ⟨p', xs, h1, h2⟩ := e2.slot ρ.length _ lastR
      rw [lastS] at h1; cases h1
      exact ⟨xs, h2⟩
    · exact e2.hid z h
  · rcases List.mem_cons.mp hz with e | hz
    · cases e
      have := e2.inj i ρ.length di [] p (up h1) lastR (by rw [List.getElem?_append_left (lt h1).2]; exact h2) lastS
      exact absurd (lt h1).1 (by omega)
    · exact E.injH i di dj q h1 h2 hz
  · cases i with
    | zero =>
      cases j with
      | zero => rfl
      | succ j =>
        exfalso
        simp at h1
        obtain ⟨h1a, h1b⟩ := h1
        subst h1a
        exact e2.injH ρ.length [] dj p lastR lastS (List.mem_of_getElem? (by simpa using h2))
    | succ i =>
      cases j with
      | zero =>
        exfalso
        simp at h2
        obtain ⟨h2a, h2b⟩ := h2
        subst h2a
        exact e2.injH ρ.length [] di p lastR lastS (List.mem_of_getElem? (by simpa using h1))
      | succ j => exact congrArg (· + 1) (E.injZ i j di dj q (by simpa using h1) (by simpa using h2))
end
end DL

set_option Elab.async false
set_option linter.all false
set_option maxRecDepth 100000
set_option maxHeartbeats 2000000
namespace DL
open PySem L2
section
variable {K : PySem.W.Frag} {S : Stt} {H0 : Hp} {N0 : Av} {Z : List Hd} {N : Av} {σ : L2.St} {H H' : Hp} {ρ : Rho} {Φ : PyData → Rho → Prop} {Ψ : PyData → Prop}
theorem EnvD.chgH {p : Addr} {ys : List V} {es fs : List PyData} (E : EnvD K S H0 N0 (.own p es :: Z) N σ H ρ) (hq : DqAll K N H ys fs) : EnvD K S H0 N0 (.own p fs :: Z) N σ (upd H p (.lst ys)) ρ := by
  obtain ⟨xs, g2, g3, g4, g5, g6, g7⟩ := E.hid _ List.mem_cons_self
  have kp : ∀ b o, b ≠ p → H b = some o → upd H p (.lst ys) b = some o := fun b o hb h => by rw [upd_ne hb]; exact h
  have kn : Keep N H (upd H p (.lst ys)) := fun b o n h => kp b o (fun e => by rw [e, g2] at n; cases n) h
  refine ⟨fun b o n h => kp b o (fun e => by rw [e, g5] at h; cases h) (E.keep b o n h), E.base, fun b h => ?_, E.sub, fun j t h => ?_, E.len, fun z h => ?_, fun i di dj q h1 h2 hz => ?_, fun i j di dj q h1 h2 => ?_, E.inj⟩
  · by_cases e : b = p
    · rw [e, upd_same]; simp
    · rw [upd_ne e]; exact E.trk b h
  · have q := E.slot j t h
    cases t with
    | unk => trivial
    | dat d => obtain ⟨v, h1, h2⟩ := q; exact ⟨v, h1, h2.keep kn⟩
    | own us =>
      obtain ⟨q, zs, h1, h2, h3, h4, h5, h6, h7⟩ := q
      have hne : q ≠ p := fun e2 => by subst e2; exact E.injH j _ _ _ h h1 List.mem_cons_self
      exact ⟨q, zs, h1, h2, h3, h4, h5, kp _ _ hne h6, h7.keep kn⟩
    | sto B => obtain ⟨h1, h2⟩ := q; exact ⟨h1, S.loc H _ B (fun b hb => upd_ne fun e => by rw [e, g3] at hb; cases hb) h2⟩
    | scr ns => obtain ⟨a, h1, h2⟩ := q; exact ⟨a, h1, kn.wo.seq h2⟩
  · rcases List.mem_cons.mp h with e | hz
    · subst e
      exact ⟨ys, g2, g3, g4, g5, upd_same, hq.keep kn⟩
    · have q := E.hid z (List.mem_cons_of_mem _ hz)
      cases z with
      | dat v d => exact Dq.keep q kn
      | own q' zs =>
        obtain ⟨us, h2, h3, h4, h5, h6, h7⟩ := q
        have hne : q' ≠ p := fun e2 => by
          subst e2
          obtain ⟨n, hn⟩ := List.getElem?_of_mem hz
          have := E.injZ 0 (n + 1) es zs q' rfl (by simpa using hn)
          cases this
        exact ⟨us, h2, h3, h4, h5, kp _ _ hne h6, h7.keep kn⟩
  · rcases List.mem_cons.mp hz with e | hz
    · cases e
      exact E.injH i di es p h1 h2 List.mem_cons_self
    · exact E.injH i di dj q h1 h2 (List.mem_cons_of_mem _ hz)
  · have lo : ∀ {c : Nat} {dc : List PyData} {q : Addr}, (Hd.own p fs :: Z)[c]? = some (Hd.own q dc) → ∃ dc', (Hd.own p es :: Z)[c]? = some (Hd.own q dc') := fun {c dc q} h => by
      cases c with
      | zero => simp at h; obtain ⟨e, _⟩ := h; subst e; exact ⟨es, rfl⟩
      | succ c => exact ⟨dc, by simpa using h⟩
    obtain ⟨d1, h1⟩ := lo h1
    obtain ⟨d2, h2⟩ := lo h2
    exact E.injZ i j d1 d2 q h1 h2
theorem EnvD.popOwn {p : Addr} {es : List PyData} (np : N p = false) (E : EnvD K S H0 N0 (.own p es :: Z) (fun b => N b || decide (b = p)) σ H ρ) : EnvD K S H0 N0 Z N σ H ρ ∧ Dq K N H (.ref p) (.list es) := by
  obtain ⟨xs, g2, g3, g4, g5, g6, g7⟩ := E.hid _ List.mem_cons_self
  have le : Le N (fun b => N b || decide (b = p)) := fun b h => by simp [h]
  have ne : ∀ {q : Addr}, q ≠ p → (N q || decide (q = p)) = true → N q = true := fun h n => by simpa [h] using n
  refine ⟨⟨E.keep, fun b h => ne (fun e => by rw [e, g4] at h; cases h) (E.base b h), fun b h => E.trk b (le b h), fun b h => ne (fun e => by rw [e, g3] at h; cases h) (E.sub b h), fun j t h => ?_, E.len, fun z h => ?_, fun i di dj q h1 h2 hz => E.injH i di dj q h1 h2 (List.mem_cons_of_mem _ hz), E.pop.injZ, E.inj⟩, Dq.lst np g6 (g7.le le)⟩
  · have q := E.slot j t h
    cases t with
    | unk => trivial
    | dat d => obtain ⟨v, h1, h2⟩ := q; exact ⟨v, h1, h2.le le⟩
    | own us =>
      obtain ⟨q, zs, h1, h2, h3, h4, h5, h6, h7⟩ := q
      have hne : q ≠ p := fun e2 => by subst e2; exact E.injH j _ _ _ h h1 List.mem_cons_self
      exact ⟨q, zs, h1, ne hne h2, h3, h4, h5, h6, h7.le le⟩
    | sto B => exact q
    | scr ns => obtain ⟨a, h1, h2⟩ := q; exact ⟨a, h1, le.wo.seq h2⟩
  · have q := E.hid z (List.mem_cons_of_mem _ h)
    cases z with
    | dat v d => exact Dq.le q le
    | own q' zs =>
      obtain ⟨us, h2, h3, h4, h5, h6, h7⟩ := q
      have hne : q' ≠ p := fun e2 => by
        subst e2
        obtain ⟨n, hn⟩ := List.getElem?_of_mem h
        have := E.injZ 0 (n + 1) es zs q' rfl (by simpa using hn)
        cases this
      exact ⟨us, ne hne h2, h3, h4, h5, h6, h7.le le⟩
/-! ### wiping names -/
theorem wipe_get (σ : L2.St) : ∀ (vs : List Nat) (j : Nat), (L2.wipe σ vs)[j]? = if j ∈ vs ∧ j < σ.length then some none else σ[j]?
  | [], j => by simp [L2.wipe]
  | v :: vs, j => by
    show ((L2.wipe σ vs).set v none)[j]? = _
    by_cases e : v = j
    · subst e
      by_cases hl : v < σ.length
      · rw [List.getElem?_set_self (by rw [wipe_length]; exact hl), if_pos ⟨List.mem_cons_self, hl⟩]
      · rw [if_neg (fun q => hl q.2), List.getElem?_eq_none (by rw [List.length_set, wipe_length]; omega), List.getElem?_eq_none (by omega)]
    · rw [List.getElem?_set_ne e, wipe_get σ vs j]
      have : (j ∈ v :: vs ∧ j < σ.length) ↔ (j ∈ vs ∧ j < σ.length) := by
        simp only [List.mem_cons]
        constructor
        · rintro ⟨q | q, l⟩
          · exact absurd q.symm e
          · exact ⟨q, l⟩
        · rintro ⟨q, l⟩; exact ⟨.inr q, l⟩
      simp only [this]
theorem wipe_off {σ τ : L2.St} {vs : List Nat} (hl : τ.length = σ.length) (h : ∀ j, j ∉ vs → τ[j]? = (L2.wipe σ vs)[j]?) : L2.wipe τ vs = L2.wipe σ vs := by
  refine List.ext_getElem? fun j => ?_
  rw [wipe_get τ]
  by_cases hj : j ∈ vs
  · by_cases hl2 : j < τ.length
    · rw [if_pos ⟨hj, hl2⟩, wipe_get, if_pos ⟨hj, by rw [← hl]; exact hl2⟩]
    · rw [if_neg (fun q => hl2 q.2), List.getElem?_eq_none (by omega), List.getElem?_eq_none (by rw [wipe_length]; omega)]
  · rw [if_neg (fun q => hj q.1)]; exact h j hj
/-- back to the wiped names -/
theorem EnvD.rewipe {τ : L2.St} {vs : List Nat} (E : EnvD K S H0 N0 Z N τ H ρ) (e : L2.wipe τ vs = L2.wipe σ vs) : EnvD K S H0 N0 Z N (L2.wipe σ vs) H (wipeR ρ vs) := by
  rw [← e]; exact E.wipe vs
theorem EnvD.mid {z : Hd} {Zx : List Hd} (E : EnvD K S H0 N0 (z :: (Zx ++ Z)) N σ H ρ) : EnvD K S H0 N0 (z :: Z) N σ H ρ where
  keep := E.keep
  base := E.base
  trk := E.trk
  sub := E.sub
  slot := E.slot
  len := E.len
  hid w hw := E.hid w (by
    rcases List.mem_cons.mp hw with e | e
    · subst e; exact List.mem_cons_self
    · exact List.mem_cons_of_mem _ (List.mem_append_right _ e))
  injH i di dj p h1 h2 hz := E.injH i di dj p h1 h2 (by
    rcases List.mem_cons.mp hz with e | e
    · subst e; exact List.mem_cons_self
    · exact List.mem_cons_of_mem _ (List.mem_append_right _ e))
  injZ i j di dj p h1 h2 := by
    have up : ∀ {c : Nat} {dc : List PyData}, (z :: Z)[c]? = some (Hd.own p dc) → (z :: (Zx ++ Z))[if c = 0 then 0 else c + Zx.length]? = some (Hd.own p dc) := fun {c dc} h => by
      cases c with
      | zero => simpa using h
      | succ c =>
        have h' : Z[c]? = some (Hd.own p dc) := by simpa using h
        rw [if_neg (by omega), show c + 1 + Zx.length = (Zx.length + c) + 1 by omega, List.getElem?_cons_succ, List.getElem?_append_right (by omega)]
        simpa using h'
    have q := E.injZ _ _ di dj p (up h1) (up h2)
    by_cases hi : i = 0 <;> by_cases hj : j = 0 <;> simp [hi, hj] at q <;> omega
  inj := E.inj
/-- [elt for TARGET in THING if TEST] -/
theorem lc_own {Θ : List PyData → Rho → Prop} {wi : TI} {g : TG} {tt : TT} {te : TE} {vs : List Nat} (h : WI K S wi ρ fun ds ρ1 => ds.length ≤ sizeLine ∧ ∃ I : Nat → List PyData → Rho → Prop, I 0 [] (wipeR ρ1 vs) ∧
      (∀ k d acc ρ2, ds[k]? = some d → I k acc ρ2 → ∃ ts f, GD K g d ts f ∧ (∀ j ∈ ts, j ∈ vs) ∧
        WT K S tt (f ρ2) fun b ρ3 => if b = true then WD K S te ρ3 fun y ρ4 => I (k + 1) (acc ++ [y]) (wipeR ρ4 vs) else I (k + 1) acc (wipeR ρ3 vs)) ∧
      (∀ acc ρ2, I ds.length acc ρ2 → Θ acc (wipeR ρ2 vs))) (E : EnvD K S H0 N0 Z N σ H ρ) {Q : VK}
    (q : ∀ D acc ρ' H', N D = false → Θ acc ρ' → EnvD K S H0 N0 (.own D acc :: Z) (fun b => N b || decide (b = D)) σ H' ρ' → Keep N H H' → Q (.ref D) H') : tLc wi g tt te vs σ H Q :=
  h H0 N0 Z N σ H E _ fun J Zx ds ρ1 H1 ⟨hz, I, i0, step, fin⟩ src nz E1 k1 D hD => by
    have nD : N D = false := fresh_av E1.trk hD
    have srcO : ∀ {acc : List PyData} {N' σ' H' ρ'}, EnvD K S H0 N0 (.own D acc :: (Zx ++ Z)) N' σ' H' ρ' → _ := fun {acc N' σ' H' ρ'} E' => src S H0 N0 Z N' σ' H' ρ' E'.pop
    refine ⟨fun k m H' => ∃ ρ' acc, EnvD K S H0 N0 (.own D acc :: (Zx ++ Z)) (fun b => N b || decide (b = D)) (L2.wipe σ vs) H' ρ' ∧ Keep N H1 H' ∧ I k acc ρ' ∧ acc.length ≤ k ∧ m = ds.length - k ∧ k ≤ ds.length,
      ⟨_, _, [], (E1.pushOwn hD).wipe vs, Keep.of (same_new hD _), i0, Nat.le_refl _, rfl, Nat.zero_le _⟩, ?_⟩
    rintro k m H' ⟨ρ', acc, E', kk, iv, hacc, rfl, hk⟩
    obtain ⟨s1, s2⟩ := srcO E'
    have kN : ∀ {Ha Hb : Hp}, Keep (fun b => N b || decide (b = D)) Ha Hb → Keep N H1 Ha → (∀ ys, Keep N H1 (upd Hb D (.lst ys))) ∧ Keep N H1 (upd Hb D (.lst [])) := fun {Ha Hb} ka kb => by
      have z : ∀ ys, Keep N H1 (upd Hb D (.lst ys)) := fun ys b o n hb => by
        have hne : b ≠ D := ne_of_none hb hD
        rw [upd_ne hne]
        exact ka b o (by simp [n, hne]) (kb b o n hb)
      exact ⟨z, z []⟩
    have kN2 : ∀ {Ha Hb : Hp}, Keep (fun b => N b || decide (b = D)) Ha Hb → Keep N H1 Ha → Keep N H1 Hb := fun {Ha Hb} ka kb b o n hb => ka b o (by simp [n, ne_of_none hb hD]) (kb b o n hb)
    by_cases hlt : k < ds.length
    · have hd := List.getElem?_eq_getElem hlt
      obtain ⟨go, yl⟩ := s1 k _ hd
      obtain ⟨ts, f, gd, hts, st⟩ := step k _ acc ρ' hd iv
      refine .inr ⟨go, fun H2 => ∃ ρ2 acc2, EnvD K S H0 N0 (.own D acc2 :: (Zx ++ Z)) (fun b => N b || decide (b = D)) (L2.wipe σ vs) H2 ρ2 ∧ Keep N H1 H2 ∧ I (k + 1) acc2 ρ2 ∧ acc2.length ≤ k + 1, fun H2 ⟨ρ2, acc2, E2, kk2, iv2, ha2⟩ => ⟨ds.length - (k + 1), by omega, ρ2, acc2, E2, kk2, iv2, ha2, rfl, hlt⟩, fun x H2 hy => ?_⟩
      obtain ⟨sm, dx⟩ := yl x H2 hy
      refine gd S H0 N0 _ _ _ H2 ρ' x (E'.ext sm) dx _ fun σ3 E3 hl3 off3 => ?_
      have ew : L2.wipe σ3 vs = L2.wipe σ vs := wipe_off (by rw [hl3, wipe_length]) fun j hj => off3 j fun q => hj (hts j q)
      refine ⟨ew, st H0 N0 _ _ σ3 H2 E3 _ fun b ρ3 H3 fb E3' k3 => ?_⟩
      have kk3 : Keep N H1 H3 := kN2 k3 (kN2 (Keep.of sm) kk)
      cases b with
      | false => exact ⟨_, acc, E3'.rewipe ew, kk3, fb, Nat.le_succ_of_le hacc⟩
      | true =>
        refine fb H0 N0 _ _ σ3 H3 E3' _ fun y d ρ4 H4 f4 E4 k4 d4 => ?_
        obtain ⟨us, g2, g3, g4, g5, g6, g7⟩ := E4.hid _ List.mem_cons_self
        refine ⟨us, g6, ?_, _, acc ++ [d], (E4.chgH (g7.append (DqAll.cons d4 DqAll.nil))).rewipe ew, (kN k4 kk3).1 _, f4, by simp; omega⟩
        rw [g7.len]; omega
    · have ek : k = ds.length := by omega
      subst ek
      exact .inl ⟨s2, q D acc _ H' nD (fin acc ρ' iv) E'.mid.unwipe (k1.trans kk)⟩
theorem wd_lc {wi : TI} {g : TG} {tt : TT} {te : TE} {vs : List Nat} (h : WI K S wi ρ fun ds ρ1 => ds.length ≤ sizeLine ∧ ∃ I : Nat → List PyData → Rho → Prop, I 0 [] (wipeR ρ1 vs) ∧
      (∀ k d acc ρ2, ds[k]? = some d → I k acc ρ2 → ∃ ts f, GD K g d ts f ∧ (∀ j ∈ ts, j ∈ vs) ∧
        WT K S tt (f ρ2) fun b ρ3 => if b = true then WD K S te ρ3 fun y ρ4 => I (k + 1) (acc ++ [y]) (wipeR ρ4 vs) else I (k + 1) acc (wipeR ρ3 vs)) ∧
      (∀ acc ρ2, I ds.length acc ρ2 → Φ (.list acc) (wipeR ρ2 vs))) : WD K S (tLc wi g tt te vs) ρ Φ := fun H0 N0 Z N σ H E Q q =>
  lc_own (Θ := fun acc ρ' => Φ (.list acc) ρ') h E fun D acc ρ' H' nD f E' k => by
    obtain ⟨E5, d5⟩ := E'.popOwn nD
    exact q _ _ ρ' H' f E5 k d5
end
end DL

set_option Elab.async false
set_option linter.all false
set_option maxRecDepth 100000
set_option maxHeartbeats 2000000
namespace DL
open PySem L2
/-! ### promises over data -/
def spP (K : PySem.W.Frag) (T : List PyData → (PyData → Prop) → Prop) : Sp := fun vs H Q _ => ∃ (N : Av) (ds : List PyData) (Φ : PyData → Prop),
  (∀ b, N b = true → H b ≠ none) ∧ DqAll K N H vs ds ∧ T ds Φ ∧ ∀ d, Φ d → ∀ v H', Same H H' → Dq K N H' v d → Q v H'
/-- the same, and what is raised: an error of the class at C without fields -/
def spX (K : PySem.W.Frag) (T : List PyData → (PyData → Prop) → (Addr → Prop) → Prop) : Sp := fun vs H Q E => ∃ (N : Av) (ds : List PyData) (Φ : PyData → Prop) (Ψ : Addr → Prop),
  (∀ b, N b = true → H b ≠ none) ∧ DqAll K N H vs ds ∧ T ds Φ Ψ ∧ (∀ d, Φ d → ∀ v H', Same H H' → Dq K N H' v d → Q v H') ∧ ∀ C, Ψ C → ∀ H', Same H H' → E (.ref C) none H'
/-- with a store in front, F: which -/
def spS (K : PySem.W.Frag) (F : Stt → Prop) (T : Nat → List PyData → (PyData → Nat → Prop) → Prop) : Sp := fun vs H Q _ => ∃ (S : Stt) (N : Av) (us : List V) (ds : List PyData) (B : Nat) (Φ : PyData → Nat → Prop),
  vs = .ref S.a :: us ∧ F S ∧ S.ok H B ∧ Le S.fp N ∧ (∀ b, N b = true → H b ≠ none) ∧ DqAll K N H us ds ∧ T B ds Φ ∧
  ∀ d B', Φ d B' → ∀ v H', (∀ b o, S.fp b = false → H b = some o → H' b = some o) → S.ok H' B' → Dq K N H' v d → Q v H'
def rhoOf (n : Nat) (ds : List PyData) : Rho := ds.map Sl.dat ++ List.replicate (n - ds.length) Sl.unk
def stoS (B : Nat) : Sl → Sl
  | .sto _ => .sto B
  | s => s
def stoAll (B : Nat) : Rho → Rho
  | [] => []
  | s :: r => stoS B s :: stoAll B r
theorem stoAll_get {B : Nat} : ∀ {ρ : Rho} {i : Nat} {s : Sl}, (stoAll B ρ)[i]? = some s → (s = .sto B ∧ ∃ B0, ρ[i]? = some (.sto B0)) ∨ ((∀ B0, s ≠ .sto B0) ∧ ρ[i]? = some s)
  | [], i, s, h => by simp [stoAll] at h
  | t :: r, 0, s, h => by
    cases t <;> simp [stoAll, stoS] at h <;> subst h
    · exact .inr ⟨fun _ => nofun, rfl⟩
    · exact .inr ⟨fun _ => nofun, rfl⟩
    · exact .inr ⟨fun _ => nofun, rfl⟩
    · exact .inl ⟨rfl, _, rfl⟩
    · exact .inr ⟨fun _ => nofun, rfl⟩
  | t :: r, i + 1, s, h => by
    have h2 : (stoAll B r)[i]? = some s := by cases t <;> simpa [stoAll, stoS] using h
    simpa using stoAll_get h2
theorem stoAll_len {B : Nat} : ∀ {ρ : Rho}, (stoAll B ρ).length = ρ.length
  | [] => rfl
  | t :: r => by simp [stoAll, stoAll_len (ρ := r)]
section
variable {K : PySem.W.Frag} {S : Stt} {H0 : Hp} {N0 : Av} {Z : List Hd} {N : Av} {σ : L2.St} {H H' : Hp} {ρ : Rho} {Φ : PyData → Rho → Prop} {Ψ : PyData → Prop}
theorem rhoOf_get {n : Nat} {ds : List PyData} {i : Nat} {s : Sl} (h : (rhoOf n ds)[i]? = some s) : s = .unk ∨ ∃ d, ds[i]? = some d ∧ s = .dat d := by
  unfold rhoOf at h
  by_cases hi : i < ds.length
  · rw [List.getElem?_append_left (by simpa using hi), List.getElem?_map, List.getElem?_eq_getElem hi] at h
    exact .inr ⟨_, List.getElem?_eq_getElem hi, by simpa using h.symm⟩
  · rw [List.getElem?_append_right (by simpa using hi), List.getElem?_replicate] at h
    split at h
    · exact .inl (Option.some.inj h).symm
    · cases h
theorem start_get {Nm : List Str} {vs : List V} {i : Nat} {v : V} (h : vs[i]? = some v) : (L2.start Nm vs)[i]? = some (some v) := by
  have hi := (List.getElem?_eq_some_iff.mp h).1
  show (vs.map some ++ List.replicate (Nm.length - vs.length) none)[i]? = _
  rw [List.getElem?_append_left (by simpa using hi), List.getElem?_map, h]; rfl
theorem env_start {Nm : List Str} {vs : List V} {ds : List PyData} (ht : ∀ b, N b = true → H b ≠ none) (hd : DqAll K N H vs ds) : EnvD K S0 H N [] N (L2.start Nm vs) H (rhoOf Nm.length ds) where
  keep _ _ _ h := h
  base := Le.refl
  trk := ht
  sub _ h := nomatch h
  len := by simp [rhoOf, L2.start, hd.len]
  hid _ h := nomatch h
  injZ i j di dj p h := by simp at h
  slot i s h := by
    rcases rhoOf_get h with e | ⟨d, e, e2⟩
    · subst e; trivial
    · subst e2
      obtain ⟨v, h1, h2⟩ := hd.get e
      exact ⟨v, start_get h1, h2⟩
  injH i di dj p h := by
    rcases rhoOf_get h with e | ⟨d, _, e2⟩
    · cases e
    · cases e2
  inj i j di dj p h := by
    rcases rhoOf_get h with e | ⟨d, _, e2⟩
    · cases e
    · cases e2
/-- a def's body keeps a promise over data -/
theorem run_P {T : List PyData → (PyData → Prop) → Prop} {Nm : List Str} {ts : TS} {vs : List V} {Q : VK} {E : XK} (h : spP K T vs H Q E)
    (b : ∀ ds Φ, T ds Φ → WS K S0 ts (rhoOf Nm.length ds) { nx := fun _ => Φ .none, rt := fun d _ => Φ d }) : ts { nx := fun _ H' => Q .non H', rt := Q } (L2.start Nm vs) H := by
  obtain ⟨N, ds, Φ, ht, hd, hT, hQ⟩ := h
  exact b ds Φ hT H N [] N _ H _ (env_start ht hd) ⟨fun N' σ' H' ρ' q E' => hQ _ q _ _ (fun b o h => E'.keep b o rfl h) Dt.non, fun N' σ' H' ρ' v d q E' dv => hQ _ q _ _ (fun b o h => E'.keep b o rfl h) dv, fun _ _ _ _ q => q.elim, fun _ _ _ _ q => q.elim⟩
/-- with a store -/
theorem run_S {F : Stt → Prop} {T : Nat → List PyData → (PyData → Nat → Prop) → Prop} {Nm : List Str} {ts : TS} {vs : List V} {Q : VK} {E : XK} (h : spS K F T vs H Q E)
    (b : ∀ S B ds Φ, F S → T B ds Φ → WS K S ts (.sto B :: rhoOf (Nm.length - 1) ds) { nx := fun _ => False, rt := fun d ρ => ∃ B', ρ[0]? = some (.sto B') ∧ Φ d B' }) (hn : 0 < Nm.length) : ts { nx := fun _ H' => Q .non H', rt := Q } (L2.start Nm vs) H := by
  obtain ⟨S, N, us, ds, B, Φ, rfl, hF, hok, hle, ht, hd, hT, hQ⟩ := h
  have E0 : EnvD K S H N [] N (L2.start Nm (V.ref S.a :: us)) H (.sto B :: rhoOf (Nm.length - 1) ds) := {
    keep := fun _ _ _ h => h, base := Le.refl, trk := ht, sub := hle, hid := fun _ h => (nomatch h), injZ := fun i j di dj p h => by simp at h
    len := by have e := hd.len; simp [rhoOf, L2.start]; omega
    slot := fun i s h => by
      cases i with
      | zero =>
        have e : s = .sto B := by simpa using h.symm
        subst e
        exact ⟨start_get rfl, hok⟩
      | succ i =>
        rcases rhoOf_get (show (rhoOf (Nm.length - 1) ds)[i]? = some s by simpa using h) with e | ⟨d, e, e2⟩
        · subst e; trivial
        · subst e2
          obtain ⟨v, h1, h2⟩ := hd.get e
          exact ⟨v, start_get (by simpa using h1), h2⟩
    injH := fun i di dj p h => by
      cases i with
      | zero => simp at h
      | succ i =>
        rcases rhoOf_get (show (rhoOf (Nm.length - 1) ds)[i]? = some (.own di) by simpa using h) with e | ⟨d, _, e2⟩
        · cases e
        · cases e2
    inj := fun i j di dj p h => by
      cases i with
      | zero => simp at h
      | succ i =>
        rcases rhoOf_get (show (rhoOf (Nm.length - 1) ds)[i]? = some (.own di) by simpa using h) with e | ⟨d, _, e2⟩
        · cases e
        · cases e2 }
  refine b S B ds Φ hF hT H N [] N _ H _ E0 ⟨fun _ _ _ _ q => q.elim, fun N' σ' H' ρ' v d ⟨B', e, q⟩ E' dv => ?_, fun _ _ _ _ q => q.elim, fun _ _ _ _ q => q.elim⟩
  exact hQ _ _ q _ _ (fun b o n h => E'.keep b o n h) (E'.slot 0 _ e).2 dv
/-- a call of such a def -/
theorem wd_call {T : List PyData → (PyData → Prop) → Prop} {dvs : List V} {dds : List PyData} {E : XK} {ta : TA} (hd : ∀ H : Hp, DtAll K H dvs dds) (h : WA K S ta ρ fun xs ρ1 => T (xs ++ dds) fun d => Φ d ρ1) :
    WD K S (tCall (spP K T) dvs E ta) ρ Φ := fun H0 N0 Z N σ H E' Q q =>
  h H0 N0 Z N σ H E' _ fun vs xs ρ1 H1 f E1 k1 d1 => ⟨N, xs ++ dds, _, E1.trk, d1.append (hd _), f, fun d fd v H2 s dv => q v d ρ1 H2 fd (E1.ext s) (k1.trans (Keep.of s)) dv⟩
theorem wd_call0 {T : List PyData → (PyData → Prop) → Prop} {E : XK} {ta : TA} (h : WA K S ta ρ fun xs ρ1 => T xs fun d => Φ d ρ1) : WD K S (tCall (spP K T) [] E ta) ρ Φ :=
  wd_call (dds := []) (fun _ => DtAll.nil) (fun H0 N0 Z N σ H E' Q q => h H0 N0 Z N σ H E' Q fun vs ds ρ' H' f => q vs ds ρ' H' (by show T (ds ++ []) _; rw [List.append_nil]; exact f))
/-- a call of a def that takes the store -/
theorem wd_callS {F : Stt → Prop} {T : Nat → List PyData → (PyData → Nat → Prop) → Prop} {E : XK} {ta : TA} {i : Nat} {B0 : Nat} (hF : F S) (hi : ρ[i]? = some (.sto B0))
    (h : WA K S ta ρ fun xs ρ1 => ∃ B, ρ1[i]? = some (.sto B) ∧ T B xs fun d B' => Φ d (stoAll B' ρ1)) : WD K S (tCall (spS K F T) [] E (tCons (tVar i) ta)) ρ Φ := fun H0 N0 Z N σ H E' Q q => by
  obtain ⟨hs, _⟩ := E'.slot i _ hi
  refine ⟨_, hs, h H0 N0 Z N σ H E' _ fun vs xs ρ1 H1 ⟨B, e, f⟩ E1 k1 d1 => ?_⟩
  obtain ⟨_, hok⟩ := E1.slot i _ e
  refine ⟨S, N, vs, xs, B, _, by simp, hF, hok, E1.sub, E1.trk, d1, f, fun d B' fd v H2 fr ok2 dv => ?_⟩
  have kk : Keep N H1 H2 := fun b o n hb => fr b o (by
    cases z : S.fp b with
    | false => rfl
    | true => rw [E1.sub b z] at n; cases n) hb
  have E2 : EnvD K S H0 N0 Z N σ H2 (stoAll B' ρ1) := {
    keep := fun b o n hb => fr b o n (E1.keep b o n hb)
    base := E1.base
    trk := fun b hb => by
      cases z : S.fp b with
      | true => exact S.trk H2 B' ok2 b z
      | false =>
        intro q2
        cases w : H1 b with
        | none => exact E1.trk b hb w
        | some o => rw [fr b o z w] at q2; cases q2
    sub := E1.sub
    len := by rw [stoAll_len]; exact E1.len
    slot := fun j s hj => by
      rcases stoAll_get hj with ⟨e1, B1, e2⟩ | ⟨e1, e2⟩
      · subst e1
        exact ⟨(E1.slot j _ e2).1, ok2⟩
      · have w := E1.slot j _ e2
        cases s with
        | unk => trivial
        | dat d => obtain ⟨u, h1, h2⟩ := w; exact ⟨u, h1, h2.keep kk⟩
        | own us => obtain ⟨p, zs, h1, h2, h3, h4, h5, h6, h7⟩ := w; exact ⟨p, zs, h1, h2, h3, h4, h5, fr _ _ h3 h6, h7.keep kk⟩
        | sto B2 => exact absurd rfl (e1 B2)
        | scr ns => obtain ⟨a, h1, h2⟩ := w; exact ⟨a, h1, kk.wo.seq h2⟩
    hid := fun z hz => by
      have w := E1.hid z hz
      cases z with
      | dat v d => exact Dq.keep w kk
      | own p us => obtain ⟨zs, h2, h3, h4, h5, h6, h7⟩ := w; exact ⟨zs, h2, h3, h4, h5, fr _ _ h3 h6, h7.keep kk⟩
    injZ := E1.injZ
    injH := fun a da dj p h1 => by
      rcases stoAll_get h1 with ⟨e1, _⟩ | ⟨_, e2⟩
      · cases e1
      · exact E1.injH a da dj p e2
    inj := fun a b da db p h1 h2 => by
      rcases stoAll_get h1 with ⟨e1, _⟩ | ⟨_, e2⟩
      · cases e1
      · rcases stoAll_get h2 with ⟨e1, _⟩ | ⟨_, e3⟩
        · cases e1
        · exact E1.inj a b da db p e2 e3 }
  exact q v d _ H2 fd E2 (k1.trans kk) dv
/-- what is asked of the script: its length -/
theorem wd_len_scr {i : Nat} {ns : List Int} (h : ρ[i]? = some (.scr ns)) (f : Φ (.int ns.length) ρ) :
    WD K S (tCB (fun xs H Q => ∃ p ys, xs = [.ref p] ∧ (SqL K H p ys ∨ SqT K H p ys) ∧ Q (.int ys.length) H) (tCons (tVar i) tNil)) ρ Φ := fun H0 N0 Z N σ H E Q q => by
  obtain ⟨a, h1, h2⟩ := E.slot i _ h
  exact ⟨_, h1, a, _, rfl, .inl ((Same.wo1).seq h2), q _ _ ρ H (by rw [List.length_map]; exact f) E Keep.refl (Dt.int _)⟩
end
end DL

set_option Elab.async false
set_option linter.all false
set_option maxRecDepth 100000
set_option maxHeartbeats 2000000
namespace DL
open PySem PySem.Spec PyProof.Rows L2
/-- a def's promise where no text of a list is being made around the call -/
structure FnG (P : Program) (w : World) (K : PySem.W.Frag) (mg : Str → Option Value) (base : Heap) (CX : CXT) (k : Nat) (f : Addr) (fd : FuncData) (ps : List Str) (sp : Sp) : Prop where
  len : ∀ vs H Q E, sp vs H Q E → vs.length = ps.length
  run : ∀ (A : Around) (outer : List Env) (s : Shared) (H : Hp) (args : Args) (us : List Value) (vs : List V) (Q : VK) (E : XK), A.guards = some [] → Room k A → Env0 P w K mg base A outer s H →
    BindsTo s fd args (ps.zip us) → Vals vs us → sp vs H Q E → codeAny (model P w) A (.call (.ref f) args) (CR CX outer P w H s Q E) s
section
variable {P : Program} {w : World} {K : PySem.W.Frag} {mg : Str → Option Value} {base : Heap}
theorem fnG_of {CX : CXT} {k : Nat} {f : Addr} {nm ql : Str} {prm : Arguments} {bd : List Stmt} {sc : Scope} {dV kV doc pm cdv ct oc : Value} {an od : Option Addr} {osl : Array (Option Value)} {Nm ps : List Str} {sp : Sp}
    (lk : K.lookup f = some ⟨oc, od, .func (PySem.W.fnOf nm ql prm bd sc dV kV doc pm an cdv ct), osl⟩) (hcd : PySem.W.codeIn K cdv ql = true) (F : FnScope Nm ps sc) (len : ∀ vs H Q E, sp vs H Q E → vs.length = ps.length)
    (hb : ∀ (A : Around) (outer : List Env) (s : Shared) (H : Hp) (vs : List V) (Q : VK) (E : XK), A.guards = some [] → Room k (A.deeper (envOfC ql sc s.heap.objs.size f cdv)) → sp vs H Q E →
      ∃ t, PSs (cxOf CX P w K mg base Nm ql sc f cdv A outer s H E) bd t ∧ t { nx := fun _ H' => Q .non H', rt := Q } (L2.start Nm vs) H) :
    FnG P w K mg base CX (k + 1) f (PySem.W.fnOf nm ql prm bd sc dV kV doc pm an cdv ct) ps sp where
  len := len
  run A outer s H args us vs Q E hg room env bnd vals hsp := by
    have el := len vs H Q E hsp
    have inK : K.In s.heap := env.mod.kin.keeps fun b o z => (env.bs b o z).1
    have noL : s.heap.NoLimit := env.mod.nolimit.keeps fun b o z => (env.bs b o z).1
    have places : ∀ y ∈ ps.zip us, sc.names.lookup y.1 = some .local ∨ (sc.names.lookup y.1 = some .cell ∧ ((cellsFrom (s.heap.objs.size + 1) sc.names []).lookup y.1).isSome = true) := by
      rintro ⟨y, u⟩ hy
      cases F.par y (List.of_mem_zip hy).1 with
      | inl q => exact .inl q
      | inr q => exact .inr ⟨q, PySem.W.cellsFrom_some _ _ _ (.inl q)⟩
    refine codeAny_call_function room.depth (inK _ _ lk) rfl F.co F.gen rfl (PySem.W.codeRec_of inK hcd) (bnd _ _ _ _ ?_)
    refine wpAny_newFunctionEnv_cells F.kind places fun env' he s1 x => ?_
    subst he
    refine ⟨noL.keeps x.toInCall.keep, codeAny_func ?_⟩
    obtain ⟨t, ht, hq⟩ := hb A outer s H vs Q E hg (room.deeper _) hsp
    have J0 := inv_start (CX := CX) (E := E) F room.hd env el vals x
    refine wpAny_mono (ht.run [] s1 (L2.start Nm vs) H _ J0 hq) (fun fl s' hs => ?_) fun _ _ z => z
    have done : ∀ {τ : L2.St} {H' : Hp} {v : V} {u : Value}, Inv (cxOf CX P w K mg base Nm ql sc f cdv A outer s H E) [] τ H' s' → RelV v u → Q v H' → CE outer P w H s Q u s' := by
      intro τ H' v u J rv q
      exact ⟨v, H', J.os, J.bare, J.base, J.hok, rv, q⟩
    match fl, hs with
    | .ret u, ⟨v, _, H', J, rv, q⟩ => exact done J rv q
    | .next, ⟨_, H', J, q⟩ => exact done (v := V.non) (u := Value.none) J rfl q
    | .brk, ⟨_, _, _, q⟩ => exact q.elim
    | .cont, ⟨_, _, _, q⟩ => exact q.elim
/-- THE RULE for such a def -/
theorem FunD_okG {x ql : Str} {prm : Arguments} {bd : List Stmt} {sc : Scope} {dvs : List V} {kws : List (Str × V)} {f : Addr} {fd : FuncData} {CX : CXT} {Nm ps : List Str} {k : Nat} {sp : Sp} (F : FunD K x ql prm bd sc dvs kws f fd) (S : FnScope Nm ps sc) (len : ∀ vs H Q E, sp vs H Q E → vs.length = ps.length)
    (hb : ∀ (cdv : Value) (A : Around) (outer : List Env) (s : Shared) (H : Hp) (vs : List V) (Q : VK) (E : XK), A.guards = some [] → Room k (A.deeper (envOfC ql sc s.heap.objs.size f cdv)) → sp vs H Q E →
      ∃ t, PSs (cxOf CX P w K mg base Nm ql sc f cdv A outer s H E) bd t ∧ t { nx := fun _ H' => Q .non H', rt := Q } (L2.start Nm vs) H) : FnG P w K mg base CX (k + 1) f fd ps sp := by
  obtain ⟨oc, od, dV, kV, doc, pm, an, cdv, ct, osl, rfl, lk, hcd, _, _⟩ := F.ex
  exact fnG_of lk hcd S len fun A outer s H vs Q E => hb cdv A outer s H vs Q E
end
/-! ### repr of data -/
def rRepr (K : PySem.W.Frag) : List V → Hp → VK → Prop := fun xs H Q => ∃ x d, xs = [x] ∧ Dp K H x d ∧ (∃ a, x = .ref a) ∧ d.showable = true ∧ d.hasDict = false ∧ d.shown.length ≤ sizeLine ∧ d.depth ≤ 50 ∧ Q (.str d.shown) H
/-! ### the law's own call -/
section
variable {P : Program} {w : World} {K : PySem.W.Frag} {mg mb : Str → Option Value} {CX : CXT} {k : Nat} {fa a : Addr} {fd : FuncData} {x : Str} {sp : Sp} {s₁ : Shared} {vs : List Value} {ns : List Int}
/-- from an abstract heap that tells the script alone -/
theorem lawG_core (KX : K.In s₁.heap) (hns : s₁.heap.Ns mainGlobals mg) (hb : s₁.heap.Ns builtinsNs mb) (hbb : ∀ x : Str, x ≠ "__name__" → mb x = bootBuiltins x) (hlim : s₁.heap.NoLimit) (hg : s₁.gens = #[])
    (ha : s₁.heap.get? a = some { cls := .type "list", data := .seq vs.toArray }) (hr : Room k callerA)
    (F : ∀ base : Heap, K.In base → base.Ns mainGlobals mg → FnG P w K mg base CX k fa fd [x] sp) (hbind : ∀ (s : Shared) (u : Value), BindsTo s fd ⟨[u], []⟩ [(x, u)])
    (hCX : ∀ H e s', CX [] H s₁ (fun _ _ _ => False) e s' → False) (H : Hp) (hO : Only H) (hsp : sp [.ref a] H (fun v _ => v = .bl true) fun _ _ _ => False) (hok : HOk P w H s₁.heap) (hA : ∀ b u, H b = some u → b = a) (hK : ∀ u, H a = some u → K.lookup a = none) :
    codeAny (model P w) callerA (.call (.ref fa) ⟨[.ref a], []⟩) (fun r s' => r = .ok (.ret (.bool true)) ∧ OldK s₁.heap s'.heap ∧ s'.os = s₁.os ∧ AllBare s'.gens) s₁ := by
  have dictFree : ∀ {c : Addr} {o : Obj} {es : Array DictEntry} {m : Nat}, s₁.heap.get? c = some o → o.data = .dict es m → H c = none := by
    intro c o es m hc hd
    match hq : H c with
    | none => rfl
    | some u =>
      obtain rfl := hA c u hq
      rw [ha] at hc
      cases hc
      exact absurd hd (fun z => nomatch z)
  have nsH : ∀ {c : Addr} {m : Str → Option Value}, s₁.heap.Ns c m → (hidT s₁.heap H).Ns c m := by
    rintro c m ⟨o, es, ep, e, d, r⟩
    exact ⟨o, es, ep, hidT_get e (dictFree e d), d, r⟩
  have inH : K.In (hidT s₁.heap H) := by
    intro c o hc
    refine hidT_get (KX c o hc) ?_
    match hq : H c with
    | none => rfl
    | some u =>
      obtain rfl := hA c u hq
      rw [hK u hq] at hc
      cases hc
  obtain ⟨mc, m1, m2⟩ := hlim
  have md : Mod K mg (hidT s₁.heap H) := ⟨inH, nsH hns, ⟨mb, nsH hb, hbb⟩, ⟨mc, nsH m1, m2⟩⟩
  have noF : ∀ {c : Addr}, c ∉ frs ([] : List Env) := fun z => by cases z
  have env : Env0 P w K mg (hidT s₁.heap H) callerA [] s₁ H := ⟨rfl, md, fun c o e => of_hidT e, Nat.le_of_eq (hidT_size _ _), trivial, fun c hc => absurd hc noF, hok, .of_eq hg⟩
  refine codeAny_mono ((F _ inH (nsH hns)).run callerA [] s₁ H ⟨[.ref a], []⟩ [.ref a] [.ref a] _ _ rfl hr env (hbind s₁ (.ref a)) (.cons rfl .nil) hsp) fun r s' hr' => ?_
  match r, hr' with
  | .error e, z => exact (hCX H e s' z).elim
  | .ok .next, z => exact z.elim
  | .ok .brk, z => exact z.elim
  | .ok .cont, z => exact z.elim
  | .ok (.ret u), ⟨v, H', os, bare, un, hok', rv, q⟩ =>
    have q' : v = .bl true := q
    subst q'
    obtain rfl : u = Value.bool true := rv
    refine ⟨rfl, OldK.of_keep fun c o e => ?_, os, bare⟩
    match hq : H c with
    | none => exact un.keep c o e hq noF (by simp)
    | some u =>
      rcases hO c with z | ⟨ob, xs, z⟩
      · rw [hq] at z; cases z
      · have z2 := un.frzs c ob _ z
        have e1 := (hok c _ z).1
        have e2 := (hok' c _ z2).1
        rw [e] at e1
        cases e1
        exact e2
theorem lawG_call (KX : K.In s₁.heap) (hns : s₁.heap.Ns mainGlobals mg) (hb : s₁.heap.Ns builtinsNs mb) (hbb : ∀ x : Str, x ≠ "__name__" → mb x = bootBuiltins x) (hlim : s₁.heap.NoLimit) (hg : s₁.gens = #[])
    (ha : s₁.heap.get? a = some { cls := .type "list", data := .seq vs.toArray }) (hi : IntsAre vs ns) (hl : ns.length ≤ sizeLine) (hr : Room k callerA)
    (F : ∀ base : Heap, K.In base → base.Ns mainGlobals mg → FnG P w K mg base CX k fa fd [x] sp) (hbind : ∀ (s : Shared) (u : Value), BindsTo s fd ⟨[u], []⟩ [(x, u)])
    (hsp : ∀ H : Hp, Only H → SqL K H a (ns.map V.int) → sp [.ref a] H (fun v _ => v = .bl true) fun _ _ _ => False)
    (hCX : ∀ H e s', CX [] H s₁ (fun _ _ _ => False) e s' → False) :
    codeAny (model P w) callerA (.call (.ref fa) ⟨[.ref a], []⟩) (fun r s' => r = .ok (.ret (.bool true)) ∧ OldK s₁.heap s'.heap ∧ s'.os = s₁.os ∧ AllBare s'.gens) s₁ := by
  have rv := vals_ints hi
  have hlv : vs.length ≤ sizeLine := by rw [hi.length]; exact hl
  match hk : K.lookup a with
  | some o =>
    have e := KX a o hk
    rw [ha] at e
    cases e
    have hO : Only (fun _ => none) := fun _ => .inl rfl
    refine lawG_core KX hns hb hbb hlim hg ha hr F hbind hCX (fun _ => none) hO (hsp _ hO (.inr ⟨_, vs.toArray, _, hk, rfl, rfl, rfl, by simpa using hlv, by simpa using rv⟩)) (fun _ _ z => nomatch z) (fun _ _ z => nomatch z) fun _ z => nomatch z
  | none =>
    let lst : Obj := { cls := .type "list", data := .seq vs.toArray }
    have at_a : (fun b => if b = a then some (HO.frz lst (.lst (ns.map V.int))) else none : Hp) a = some (.frz lst (.lst (ns.map V.int))) := if_pos rfl
    have only_a : ∀ b u, (fun b => if b = a then some (HO.frz lst (.lst (ns.map V.int))) else none : Hp) b = some u → b = a := fun b u z => Decidable.byContradiction fun q => by
      have z' : (none : Option HO) = some u := (if_neg q).symm.trans z
      cases z'
    have hO : Only (fun b => if b = a then some (HO.frz lst (.lst (ns.map V.int))) else none : Hp) := fun b => by
      by_cases q : b = a
      · exact .inr ⟨_, _, if_pos q⟩
      · exact .inl (if_neg q)
    refine lawG_core KX hns hb hbb hlim hg ha hr F hbind hCX _ hO (hsp _ hO (.inl (.inr ⟨lst, at_a⟩))) (fun b u z => ?_) only_a fun _ _ => hk
    obtain rfl := only_a b u z
    have z' : some (HO.frz lst (.lst (ns.map V.int))) = some u := at_a.symm.trans z
    cases z'
    exact ⟨ha, by rw [List.length_map]; exact hl, vs, _, rv, ha⟩
end
/-- the goal behind the head -/
theorem walk_ofG {l : PySem.W.OpenLaw} {n k : Nat} {q : Program} {loose : List Str} {XP : (Str → Option Value) → Heap → Prop} {YP : World → Heap → Prop} {d : DefRec} {CX : CXT} {x : Str}
    (hn : l.most = some n) (hn2 : n ≤ sizeLine) (hdf : d.params.defaults = []) (hr : Room k callerA)
    (F : ∀ (w : World) (mg : Str → Option Value) (fa : Addr) (h : Heap), YP w h → h.Ns mainGlobals mg → mg d.name = some (.ref fa) →
      ∃ (K : PySem.W.Frag) (fd : FuncData) (sp : Sp), K.In h ∧ (∀ (s : Shared) (u : Value), BindsTo s fd ⟨[u], []⟩ [(x, u)]) ∧
        (∀ (H : Hp) (a : Addr) (ns : List Int), ns.length ≤ n → Only H → SqL K H a (ns.map V.int) → sp [.ref a] H (fun v _ => v = .bl true) fun _ _ _ => False) ∧
        ∀ base : Heap, K.In base → base.Ns mainGlobals mg → FnG l.prog w K mg base CX k fa fd [x] sp)
    (hCX : ∀ (H : Hp) (s : Shared) (e : Value) (s' : Shared), CX [] H s (fun _ _ _ => False) e s' → False) : PySem.W.WalkO q loose XP YP l.row.toRowW d [] (fun f vs => PySem.call f vs) :=
  Att.attach_call hn hdf fun w s₀ s₁ mg mb fa o pm cd doc a vs ns G Y _ _ _ hmg hobj hints hlen hg =>
    let ⟨_, _, _, KX, hbd, hsp, hF⟩ := F w mg fa _ Y G.T.g hmg
    lawG_call KX G.T.g G.T.b G.T.builtins G.T.nolimit hg hobj hints (Nat.le_trans hlen hn2) hr hF hbd (fun H hO hS => hsp H a ns hlen hO hS) fun H e s' => hCX H s₁ e s'
end DL

set_option Elab.async false
set_option linter.all false
set_option maxRecDepth 100000
set_option maxHeartbeats 2000000
namespace DL
open PySem PySem.Spec PyProof.Rows L2
/-- a def of the text and its promise, as a caller wants them -/
structure Has (P : Program) (w : World) (K : PySem.W.Frag) (mg : Str → Option Value) (base : Heap) (CX : CXT) (x : Str) (k : Nat) (ps : List Str) (sp : Sp) (dvs : List V) : Prop where
  ex : ∃ (f : Addr) (fd : FuncData) (ds : List Value), FnOk P w K mg base CX k f fd ps sp ∧ mg x = some (.ref f) ∧ PySem.W.keepIn K (.ref f) = true ∧ Binds K fd ps ds ∧ Vals dvs ds
structure HasG (P : Program) (w : World) (K : PySem.W.Frag) (mg : Str → Option Value) (base : Heap) (CX : CXT) (x : Str) (k : Nat) (ps : List Str) (sp : Sp) : Prop where
  ex : ∃ (f : Addr) (fd : FuncData), FnG P w K mg base CX k f fd ps sp ∧ mg x = some (.ref f) ∧ PySem.W.keepIn K (.ref f) = true ∧ Binds K fd ps []
/-- .. by names: n places, then the names ks -/
structure HasK (P : Program) (w : World) (K : PySem.W.Frag) (mg : Str → Option Value) (base : Heap) (CX : CXT) (x : Str) (k : Nat) (ps : List Str) (sp : Sp) (n : Nat) (ks : List Str) (gV : List V → List V → List V) : Prop where
  ex : ∃ (f : Addr) (fd : FuncData) (g : List Value → List Value → List Value), FnOk P w K mg base CX k f fd ps sp ∧ mg x = some (.ref f) ∧ PySem.W.keepIn K (.ref f) = true ∧ KBn K fd ps n ks g gV
section
variable {X : Cx} {CX : CXT} {k : Nat} {ps ks : List Str} {sp : Sp} {E : XK} {x : Str} {p pos : Pos} {e : Expr} {es : List Expr} {kws : List Keyword} {t tk : TA} {dvs : List V} {n : Nat} {gV : List V → List V → List V}
theorem pe_has (h : Has X.prog X.w X.K X.mg X.base CX x k ps sp dvs) (hr : Room k X.A) (hx : Passes CX X E) (ha : PA X (e :: es) t) (hg : Gl X x := by rfl) (hdb : (x == ("__debug__" : Str)) = false := by decide)
    (he : starEach (e :: es) X.env = (false, eval e X.env) :: starEach es X.env := by rfl) (hpl : (backTo pos (starEach es X.env)).any (·.1) = false := by rfl) : PE X (.Call (.Name x p) (e :: es) [] pos) (tCall sp dvs E t) := by
  obtain ⟨f, fd, ds, F, hm, hk, hb, hd⟩ := h.ex
  exact pe_call F hr hg hm hk hb hd hx ha hdb he hpl
theorem pe_has0 (h : Has X.prog X.w X.K X.mg X.base CX x k ps sp dvs) (hr : Room k X.A) (hx : Passes CX X E) (hg : Gl X x := by rfl) (hdb : (x == ("__debug__" : Str)) = false := by decide) : PE X (.Call (.Name x p) [] [] pos) (tCall sp dvs E tNil) := by
  obtain ⟨f, fd, ds, F, hm, hk, hb, hd⟩ := h.ex
  exact pe_call0 F hr hg hm hk hb hd hx hdb
/-- // by any divisor but nought, below 2 ^ 9000 -/
def CDivX (_ j : Int) : Prop := j ≠ 0 ∧ j.natAbs.log2 < 9000
theorem op_fdivX {X : Cx} : OpR X (binaryOp .FloorDiv) (rI CDivX fun i j => .int (i.fdiv j)) := opI fun i j _ _ _ _ _ hc q => floordiv_int hc.1 q (.inl (PyProof.noPylong_of_log2 hc.2))
end
end DL

set_option Elab.async false
set_option linter.all false
set_option maxRecDepth 100000
set_option maxHeartbeats 2000000
/-! DLC: what the laws' own helpers do: the store of draws -/
namespace DL
open PySem PySem.Spec PyProof.Rows L2
abbrev rAddI : R2 := rI0 fun i j => .int (i + j)
abbrev rSubI : R2 := rI0 fun i j => .int (i - j)
abbrev rMulI : R2 := rI CMulW fun i j => .int (i * j)
abbrev rDivI : R2 := rI CDivX fun i j => .int (i.fdiv j)
abbrev rModI : R2 := rI (fun _ j => j ≠ 0) fun i j => .int (i.fmod j)
abbrev rPowI : R2 := rI CPow fun i j => .int (i ^ j.toNat)
abbrev rLt : R2 := rI0 fun i j => .bl (decide (i < j))
abbrev rLe : R2 := rI0 fun i j => .bl (decide (i ≤ j))
abbrev rGt : R2 := rI0 fun i j => .bl (decide (j < i))
abbrev rGe : R2 := rI0 fun i j => .bl (decide (j ≤ i))
abbrev rNegI : V → Hp → VK → Prop := rU fun i => .int (-i)
abbrev rLenX (K : PySem.W.Frag) : List V → Hp → VK → Prop := fun xs H Q => ∃ p ys, xs = [.ref p] ∧ (SqL K H p ys ∨ SqT K H p ys) ∧ Q (.int ys.length) H
abbrev rAbsX : List V → Hp → VK → Prop := fun xs H Q => ∃ i, xs = [.int i] ∧ Q (.int (if i < 0 then -i else i)) H
abbrev rMinX : List V → Hp → VK → Prop := fun xs H Q => ∃ i j, xs = [.int i, .int j] ∧ Q (.int (if j < i then j else i)) H
abbrev rMaxX : List V → Hp → VK → Prop := fun xs H Q => ∃ i j, xs = [.int i, .int j] ∧ Q (.int (if j > i then j else i)) H
abbrev rStrI : List V → Hp → VK → Prop := fun xs H Q => ∃ i, xs = [.int i] ∧ i.natAbs.log2 < 1920 ∧ Q (.str (toString i)) H
abbrev rLenS : List V → Hp → VK → Prop := fun xs H Q => ∃ z : Str, xs = [.str z] ∧ z.length ≤ sizeLine ∧ Q (.int z.length) H

/-! ### the store -/
structure StoOk (a ga la : Addr) (H : Hp) (B : Nat) : Prop where
  ne1 : a ≠ ga
  ne2 : a ≠ la
  ne3 : ga ≠ la
  ex : ∃ (g l : List Int) (b s : Int), H a = some (.lst [.ref ga, .int b, .int s, .ref la]) ∧ H ga = some (.lst (g.map V.int)) ∧ H la = some (.lst (l.map V.int)) ∧
    g.length ≤ 63 ∧ l ≠ [] ∧ l.length ≤ 64 ∧ (∀ x ∈ l, 0 ≤ x ∧ x < 10 ^ 18) ∧ 0 ≤ b ∧ b < 2147483587 ∧ 0 ≤ s ∧ s ≤ B
def mkS (a ga la : Addr) : Stt where
  a := a
  fp b := decide (b = a) || decide (b = ga) || decide (b = la)
  ok := StoOk a ga la
  loc H H' B h k := by
    obtain ⟨h1, h2, h3, g, l, b, s, ha, hg, hl, r⟩ := k
    exact ⟨h1, h2, h3, g, l, b, s, (h a (by simp)).trans ha, (h ga (by simp)).trans hg, (h la (by simp)).trans hl, r⟩
  trk H B k b hb := by
    obtain ⟨h1, h2, h3, g, l, b', s, ha, hg, hl, r⟩ := k
    simp at hb
    rcases hb with (e | e) | e
    · rw [e, ha]; simp
    · rw [e, hg]; simp
    · rw [e, hl]; simp
def FSto (S : Stt) : Prop := ∃ a ga la, S = mkS a ga la
/-- a draw below m: any -/
def TDraw (c : Nat) (M : Int) (L : Nat) : Nat → List PyData → (PyData → Nat → Prop) → Prop := fun B ds Φ => ∃ m : Int, ds = [.int m] ∧ 1 ≤ m ∧ m ≤ M ∧ B ≤ L ∧ ∀ d : Int, 0 ≤ d → d < m → Φ (.int d) (B + c)
/-- the reading of the draw, sp: its own promise one level lower -/
def t_draw (K : PySem.W.Frag) (sp : Sp) : TS :=
  (tSeq (tWhile (tAnd (tTest (tOp (rNeD K) (tOp (rIxL K) (tVar 0) (tC (.int 0))) (tLst tNil))) (tTest (tOp rEq (tOp (rIxL K) (tOp (rIxL K) (tVar 0) (tC (.int 0))) (tC (.int 0))) (tC (.int 0))))) (tDrop (tBM K "list" rPopAt (tOp (rIxL K) (tVar 0) (tC (.int 0))) (tCons (tC (.int 0)) tNil))))
    (tSeq (tIfS (tTest (tOp (rNeD K) (tOp (rIxL K) (tVar 0) (tC (.int 0))) (tLst tNil))) (tSeq (tAsg (tOp rModI (tOp (rIxL K) (tOp (rIxL K) (tVar 0) (tC (.int 0))) (tC (.int 0))) (tVar 1)) (gName 2))
    (tSeq (tAsg (tOp rDivI (tOp (rIxL K) (tOp (rIxL K) (tVar 0) (tC (.int 0))) (tC (.int 0))) (tVar 1)) (gSub (tOp (rIxL K) (tVar 0) (tC (.int 0))) (tC (.int 0)) rSetL))
    (tRet (tVar 2)))) tNext)
    (tSeq (tIfS (tTest (tOp rGt (tVar 1) (tOp rPowI (tC (.int 10)) (tC (.int 6))))) (tSeq (tAsg (tC (.int 0)) (gName 3))
    (tSeq (tFor (iRng1 (tCons (tOp rAddI (tC (.int 1)) (tOp rDivI (tCB rLenS (tCons (tCB rStrI (tCons (tVar 1) tNil)) tNil)) (tC (.int 6)))) tNil)) (gName 4) (tAsg (tOp rAddI (tOp rMulI (tVar 3) (tOp rPowI (tC (.int 10)) (tC (.int 6)))) (tCall sp [] E0 (tCons (tVar 0) (tCons (tOp rPowI (tC (.int 10)) (tC (.int 6))) tNil)))) (gName 3)))
    (tRet (tOp rModI (tVar 3) (tVar 1))))) tNext)
    (tSeq (tAsg (tOp rAddI (tOp (rIxL K) (tVar 0) (tC (.int 2))) (tC (.int 1))) (gName 5))
    (tSeq (tAsg (tVar 5) (gSub (tVar 0) (tC (.int 2)) rSetL))
    (tSeq (tAsg (tLst (tCons (tC (.int 2147483563)) (tCons (tC (.int 2147483549)) (tCons (tC (.int 2147483543)) (tCons (tC (.int 2147483497)) (tCons (tC (.int 2147483489)) tNil)))))) (gName 6))
    (tSeq (tAsg (tOp (rIxL K) (tOp (rIxL K) (tVar 0) (tC (.int 3))) (tOp rModI (tVar 5) (tCB (rLenX K) (tCons (tOp (rIxL K) (tVar 0) (tC (.int 3))) tNil)))) (gName 7))
    (tSeq (tAsg (tOp rModI (tOp rPowI (tOp rAddI (tOp rAddI (tOp rAddI (tOp (rIxL K) (tVar 0) (tC (.int 1))) (tVar 7)) (tOp rMulI (tC (.int 104729)) (tVar 5))) (tC (.int 13))) (tC (.int 3))) (tOp (rIxL K) (tVar 6) (tOp rModI (tVar 5) (tC (.int 5))))) (gName 8))
    (tSeq (tAsg (tOp rAddI (tOp rAddI (tOp rMulI (tVar 8) (tVar 8)) (tOp rModI (tOp (rIxL K) (tVar 0) (tC (.int 1))) (tC (.int 1000003)))) (tVar 5)) (gName 9))
    (tRet (tOp rModI (tOp rDivI (tOp rModI (tOp rPowI (tVar 9) (tC (.int 5))) (tOp (rIxL K) (tVar 6) (tOp rModI (tOp rAddI (tVar 5) (tC (.int 2))) (tC (.int 5))))) (tC (.int 16))) (tVar 1))))))))))))

end DL

set_option Elab.async false
set_option linter.all false
set_option maxRecDepth 100000
set_option maxHeartbeats 4000000
namespace DL
open PySem PySem.Spec PyProof.Rows L2
/-- the store's three lists, told -/
structure Sto5 (a ga la : Addr) (g l : List Int) (b s : Int) (H : Hp) : Prop where
  ha : H a = some (.lst [.ref ga, .int b, .int s, .ref la])
  hg : H ga = some (.lst (g.map V.int))
  hl : H la = some (.lst (l.map V.int))
def FrS (a ga la : Addr) (H H' : Hp) : Prop := ∀ x o, x ≠ a → x ≠ ga → x ≠ la → H x = some o → H' x = some o
section
variable {K : PySem.W.Frag} {a ga la : Addr} {g l : List Int} {b s : Int} {H : Hp} {σ : L2.St}
end
theorem log2_small {m : Int} {k : Nat} (h0 : 0 ≤ m) (h : m < 2 ^ k) (hk : 0 < k) : m.natAbs.log2 < k := PySem.Flt.log2_lt_of hk (by have e : ((2 ^ k : Nat) : Int) = (2 : Int) ^ k := Int.natCast_pow 2 k; omega)
theorem fmod_nn {i j : Int} (hj : 0 < j) : 0 ≤ i.fmod j ∧ i.fmod j < j := ⟨Int.fmod_nonneg_of_pos i hj, Int.fmod_lt_of_pos i hj⟩
theorem fdiv_nn {i j : Int} (hi : 0 ≤ i) (hj : 0 < j) : 0 ≤ i.fdiv j := Int.fdiv_nonneg hi (by omega)
end DL

set_option Elab.async false
set_option linter.all false
set_option maxRecDepth 100000
set_option maxHeartbeats 4000000
namespace DL
open PySem PySem.Spec PyProof.Rows L2
/-! ### steps by name -/
section
variable {K : PySem.W.Frag} {S : Stt} {ρ : Rho} {Φ : PyData → Rho → Prop} {Ψ : PyData → Prop}
theorem do_mul {i j : Int} (c : CMulW i j) (h : Ψ (.int (i * j))) : DO K rMulI (.int i) (.int j) Ψ := do_ic c h
theorem do_mod {i j : Int} (c : j ≠ 0) (h : Ψ (.int (i.fmod j))) : DO K rModI (.int i) (.int j) Ψ := do_ic (C := fun _ j => j ≠ 0) c h
theorem do_div {i j : Int} (c : CDivX i j) (h : Ψ (.int (i.fdiv j))) : DO K rDivI (.int i) (.int j) Ψ := do_ic c h
theorem do_pow {i j : Int} (c : CPow i j) (h : Ψ (.int (i ^ j.toNat))) : DO K rPowI (.int i) (.int j) Ψ := do_ic c h
theorem do_add {i j : Int} (h : Ψ (.int (i + j))) : DO K rAddI (.int i) (.int j) Ψ := do_ii h
theorem do_sub {i j : Int} (h : Ψ (.int (i - j))) : DO K rSubI (.int i) (.int j) Ψ := do_ii h
theorem do_lt {i j : Int} (h : Ψ (.bool (decide (i < j)))) : DO K rLt (.int i) (.int j) Ψ := do_ib (f := fun i j => decide (i < j)) h
theorem do_le {i j : Int} (h : Ψ (.bool (decide (i ≤ j)))) : DO K rLe (.int i) (.int j) Ψ := do_ib (f := fun i j => decide (i ≤ j)) h
theorem do_gt {i j : Int} (h : Ψ (.bool (decide (j < i)))) : DO K rGt (.int i) (.int j) Ψ := do_ib (f := fun i j => decide (j < i)) h
theorem du_neg {i : Int} (h : Ψ (.int (-i))) : DU K rNegI (.int i) Ψ := du_i (f := fun i => -i) h
theorem dc_min {i j : Int} (h : Ψ (.int (if j < i then j else i))) : DC K rMinX [.int i, .int j] Ψ := dc_i2 (f := fun i j => if j < i then j else i) h
theorem dc_max {i j : Int} (h : Ψ (.int (if j > i then j else i))) : DC K rMaxX [.int i, .int j] Ψ := dc_i2 (f := fun i j => if j > i then j else i) h
theorem dc_lenL {ds : List PyData} (h : Ψ (.int ds.length)) : DC K (rLenX K) [.list ds] Ψ := dc_len_l h
theorem dc_lenT {ds : List PyData} (h : Ψ (.int ds.length)) : DC K (rLenX K) [.tuple ds] Ψ := dc_len_t h
/-- the cases of an answered test -/
theorem if_b {c : Prop} [Decidable c] {A B : Prop} (h1 : c → A) (h2 : ¬ c → B) : if decide c = true then A else B := by
  by_cases h : c
  · rw [if_pos (decide_eq_true h)]; exact h1 h
  · rw [if_neg (fun z => h (of_decide_eq_true z))]; exact h2 h
theorem if_t {A B : Prop} (h : A) : if true = true then A else B := by rw [if_pos rfl]; exact h
theorem if_f {A B : Prop} (h : B) : if false = true then A else B := by rw [if_neg Bool.false_ne_true]; exact h
theorem if_nf {A B : Prop} (h : A) : if (!false) = true then A else B := if_t h
theorem if_nt {A B : Prop} (h : B) : if (!true) = true then A else B := if_f h
theorem if_n {c : Prop} [Decidable c] {A B : Prop} (h1 : ¬ c → A) (h2 : c → B) : if (!decide c) = true then A else B := by
  by_cases h : c
  · rw [decide_eq_true h]; exact if_f (h2 h)
  · rw [decide_eq_false h]; exact if_t (h1 h)
end
end DL

set_option Elab.async false
set_option linter.all false
set_option maxRecDepth 100000
set_option maxHeartbeats 4000000
namespace DL
open PySem PySem.Spec PyProof.Rows L2
local macro_rules | `(tactic| walk_at "dl") => `(tactic| repeat' (first
  | with_reducible refine wd_op ?_ | with_reducible refine wd_cb ?_ | with_reducible refine wd_un ?_ | with_reducible refine wa_cons ?_ | with_reducible refine wa_nil ?_ | ((with_reducible show WD _ _ (tVar _) _ _); refine wd_var rfl ?_) | with_reducible refine wd_int ?_ | with_reducible refine wd_bl ?_ | with_reducible refine wd_str ?_ | with_reducible refine wd_non ?_
  | with_reducible refine do_add ?_ | with_reducible refine do_sub ?_ | ((with_reducible refine do_mod ?_ ?_); decide) | with_reducible refine do_mod ?_ ?_ | with_reducible refine do_mul ?_ ?_ | ((with_reducible refine do_div ?_ ?_); exact ⟨by decide, by decide⟩) | with_reducible refine do_div ?_ ?_ | ((with_reducible refine do_pow ?_ ?_); exact ⟨by decide, by decide, by decide⟩) | with_reducible refine do_pow ?_ ?_
  | with_reducible refine do_lt ?_ | with_reducible refine do_le ?_ | with_reducible refine do_gt ?_ | with_reducible refine do_ge ?_ | with_reducible refine du_neg ?_
  | with_reducible refine do_eqi ?_ | with_reducible refine do_nei ?_ | with_reducible refine do_eqs ?_ | with_reducible refine do_nes ?_ | with_reducible refine dc_abs ?_ | with_reducible refine dc_min ?_ | with_reducible refine dc_max ?_ | with_reducible refine dc_lenL ?_ | with_reducible refine dc_lenT ?_ | with_reducible refine dc_gcd ?_
  | ((with_reducible show DO _ (rIxT _) _ _ _); refine do_ixT rfl ?_) | ((with_reducible show DO _ (rIxL _) _ _ _); refine do_ixL rfl ?_) | with_reducible refine do_catL ?_ ?_
  | with_reducible refine wd_tup ?_ | with_reducible refine wd_lst ?_ | with_reducible refine wt_test ?_ | with_reducible refine wt_B ?_ | with_reducible refine wt_not ?_ | with_reducible refine wt_and ?_ | with_reducible refine wt_or ?_ | with_reducible refine wd_ifE ?_ | with_reducible refine wd_andV ?_ | with_reducible refine wd_orV ?_ | with_reducible refine wd_notV ?_
  | with_reducible refine ws_seq ?_ | with_reducible refine ws_next ?_ | with_reducible refine ws_asg ?_ | with_reducible refine ws_ret ?_ | with_reducible refine ws_retN ?_ | with_reducible refine ws_if ?_ | with_reducible refine ws_par ?_ | with_reducible refine ws_unp2 ?_
  | with_reducible refine if_t ?_ | with_reducible refine if_f ?_
  | ((with_reducible show Exists _); first | refine ⟨_, rfl, ?_⟩ | refine ⟨_, _, rfl, ?_⟩ | fail) | fail))
def spMk (K : PySem.W.Frag) : Sp := fun vs H Q _ => ∃ (a0 : Addr) (ns : List Int), vs = [.ref a0] ∧ SqL K H a0 (ns.map V.int) ∧ ns.length ≤ 63 ∧
  ∀ S H', FSto S → S.ok H' 0 → (∀ b, S.fp b = true → H b = none) → Same H H' → Q (.ref S.a) H'
def t_s1 (K : PySem.W.Frag) : TS := (tAsg (tC (.int 271)) (gName 1))
def t_s2 (K : PySem.W.Frag) : TS := (tFor (iEnum K (tCons (tSl (rSlL K) (tVar 0) tNoPart (tPart (tC (.int 63)))) tNil)) (gTup K 2 (gCons (gName 2) (gCons (gName 3) gNil))) (tAsg (tOp rModI (tOp rAddI (tOp rAddI (tOp rMulI (tVar 1) (tVar 1)) (tOp rModI (tVar 3) (tC (.int 2147483629)))) (tOp rMulI (tC (.int 40009)) (tVar 2))) (tC (.int 2147483587))) (gName 1)))
def t_s3 (K : PySem.W.Frag) : TS := (tAsg (tLc (iList K (tSl (rSlL K) (tVar 0) tNoPart (tPart (tC (.int 63))))) (gName 3) (tTest (tOp rGe (tCB rAbsX (tCons (tVar 3) tNil)) (tOp rPowI (tC (.int 10)) (tC (.int 18))))) (tCB rAbsX (tCons (tVar 3) tNil)) [3]) (gName 4))
def t_s4 (K : PySem.W.Frag) : TS := (tAsg (tLc (iList K (tSl (rSlL K) (tVar 0) tNoPart (tPart (tC (.int 63))))) (gName 3) (tTest (tOp rLt (tCB rAbsX (tCons (tVar 3) tNil)) (tOp rPowI (tC (.int 10)) (tC (.int 18))))) (tCB rAbsX (tCons (tVar 3) tNil)) [3]) (gName 5))
def t_s5 (K : PySem.W.Frag) : TS := (tRet (tLst (tCons (tVar 4) (tCons (tVar 1) (tCons (tC (.int 0)) (tCons (tOp rCatL (tVar 5) (tLst (tCons (tC (.int 17)) tNil))) tNil))))))
def t_store (K : PySem.W.Frag) : TS := tSeq (t_s1 K) (tSeq (t_s2 K) (tSeq (t_s3 K) (tSeq (t_s4 K) (t_s5 K))))
section
variable {K : PySem.W.Frag} {S : Stt} {H0 : Hp} {N0 : Av} {Z : List Hd} {N : Av} {σ : L2.St} {H H' : Hp} {ρ : Rho} {Φ : PyData → Rho → Prop} {Ψ : PyData → Prop}
end
end DL

set_option Elab.async false
set_option linter.all false
set_option maxRecDepth 100000
set_option maxHeartbeats 4000000
/-! DLT: types of data -/
namespace DL
open PySem PySem.Spec PyProof.Rows L2
def tyD : PyData → String
  | .none => "NoneType"
  | .bool _ => "bool"
  | .int _ => "int"
  | .str _ => "str"
  | .list _ => "list"
  | .tuple _ => "tuple"
  | .dict _ => "dict"
/-- its class -/
def tyV : PyData → Value
  | .dict ((_, .int C) :: _) => .ref C.toNat
  | d => .type (tyD d)
def tySmall : List String := ["NoneType", "bool", "int", "str", "list", "tuple"]
abbrev rIsTyX : R2 := fun x y H Q => ∃ a b, x = .ty a ∧ y = .ty b ∧ Q (.bl (decide (a = b))) H
section
variable {K : PySem.W.Frag} {S : Stt} {H0 : Hp} {N0 : Av} {Z : List Hd} {N : Av} {σ : L2.St} {H H' : Hp} {ρ : Rho} {Φ : PyData → Rho → Prop} {Ψ : PyData → Prop}
theorem dt_tyX {v : V} {d : PyData} (h : Dt K H v d) : TyX K H v (tyV d) := by
  cases h with
  | non => exact .base .non
  | bl b => exact .base (.bl b)
  | int i => exact .base (.int i)
  | str x => exact .base (.str x)
  | lst h t =>
    rcases h with h | ⟨o, h⟩
    · exact .base (.lst h)
    · exact .base (.frz h)
  | tup h t =>
    rcases h with (h | ⟨o, h⟩) | ⟨o, its, n, hk, hc, _⟩
    · exact .base (.tup h)
    · exact .fTuple h
    · exact .kTuple hk hc
  | dct h => exact .base (.dK h)
  | dco h => exact .base (.dK h)
  | ins h c t => exact .base (.ins h c.cls c.cl c.sp c.tk c.mr)
/-- type(x), of own classes' instances too -/
def rTypM (K : PySem.W.Frag) : List V → Hp → VK → Prop := fun xs H Q => rTyp K xs H Q ∨ ∃ (a C dx : Addr) (fs : List (Str × V)), xs = [V.ref a] ∧ H a = some (.ins C dx fs) ∧ Q (.ref C) H
theorem call_typM {X : Cx} : CallR X (.type "type") (rTypM X.K) := CallR.or call_type1 cr_type
/-- a is b, of classes -/
def rIsTyM : R2 := fun x y H Q => (∃ a b, x = .ty a ∧ y = .ty b ∧ Q (.bl (decide (a = b))) H) ∨ ∃ (C : Addr) (b : String), x = .ref C ∧ y = .ty b ∧ Q (.bl false) H
theorem op_isTyM {X : Cx} : OpR X (compareOp .Is) rIsTyM := by
  intro pins s σ H x y v u Q I rx ry h
  rcases h with h | ⟨C, b, rfl, rfl, q⟩
  · exact op_isTyB pins s σ H x y v u Q I rx ry h
  · cases (show v = Value.ref C from rx)
    cases (show u = Value.type b from ry)
    exact wpAny_is_plain rfl (fin_bl I q rfl)
/-- type(x) is T -/
theorem wd_isTy {te : TE} {T : String} (h : WD K S te ρ fun d ρ1 => Φ (.bool (decide (tyD d = T))) ρ1) (hT : T ≠ "dict" := by decide) : WD K S (tOp rIsTyM (tCB (rTypM K) (tCons te tNil)) (tC (.ty T))) ρ Φ := fun H0 N0 Z N σ H E Q q =>
  h H0 N0 Z N σ H E _ fun v d ρ1 H1 f E1 k1 d1 => by
    have base : ∀ (t : TyB K H1 v (tyD d)), (tOp rIsTyM (fun σ H Q => rTypM K [v] H Q) (tC (.ty T))) σ H1 Q := fun t => .inl ⟨v, tyD d, rfl, t, .inl ⟨_, _, rfl, rfl, q _ _ ρ1 H1 f E1 k1 (Dt.bl _)⟩⟩
    have dt := d1.dt
    cases dt with
    | ins h c t =>
      have e : decide (("dict" : String) = T) = false := decide_eq_false fun z => hT z.symm
      have f3 : Φ (.bool (decide (("dict" : String) = T))) ρ1 := f
      have f2 : Φ (.bool false) ρ1 := by rwa [e] at f3
      exact .inr ⟨_, _, _, _, rfl, h, .inr ⟨_, _, rfl, rfl, q _ _ ρ1 H1 f2 E1 k1 (Dt.bl _)⟩⟩
    | non => exact base .non
    | bl b => exact base (.bl b)
    | int i => exact base (.int i)
    | str x => exact base (.str x)
    | lst h t => exact base (.lst (.inl h))
    | tup h t => exact base (.tup h)
    | dct h => exact base (.dK h)
    | dco h => exact base (.dK h)
def tyNames : List String := ["NoneType", "bool", "int", "str", "list", "tuple", "dict"]
end
end DL

set_option Elab.async false
set_option linter.all false
set_option maxRecDepth 100000
set_option maxHeartbeats 4000000
/-! DLP: parts in the laws' own hands -/
namespace DL
open PySem PySem.Spec PyProof.Rows L2
local macro_rules | `(tactic| walk_at "dl") => `(tactic| repeat' (first
  | with_reducible refine wd_isTy ?_ | with_reducible refine wd_isi ?_ | with_reducible refine wd_op ?_ | with_reducible refine wd_cb ?_ | with_reducible refine wd_un ?_ | with_reducible refine wa_cons ?_ | with_reducible refine wa_nil ?_ | ((with_reducible show WD _ _ (tVar _) _ _); refine wd_var rfl ?_) | with_reducible refine wd_int ?_ | with_reducible refine wd_bl ?_ | with_reducible refine wd_str ?_ | with_reducible refine wd_non ?_
  | with_reducible refine do_add ?_ | with_reducible refine do_sub ?_ | ((with_reducible refine do_mod ?_ ?_); decide) | with_reducible refine do_mod ?_ ?_ | with_reducible refine do_mul ?_ ?_ | ((with_reducible refine do_div ?_ ?_); exact ⟨by decide, by decide⟩) | with_reducible refine do_div ?_ ?_ | ((with_reducible refine do_pow ?_ ?_); exact ⟨by decide, by decide, by decide⟩) | with_reducible refine do_pow ?_ ?_
  | with_reducible refine do_lt ?_ | with_reducible refine do_le ?_ | with_reducible refine do_gt ?_ | with_reducible refine do_ge ?_ | with_reducible refine du_neg ?_
  | with_reducible refine do_eqi ?_ | with_reducible refine do_nei ?_ | with_reducible refine do_eqs ?_ | with_reducible refine do_nes ?_ | with_reducible refine dc_abs ?_ | with_reducible refine dc_min ?_ | with_reducible refine dc_max ?_ | with_reducible refine dc_lenL ?_ | with_reducible refine dc_lenT ?_ | with_reducible refine dc_gcd ?_
  | ((with_reducible show DO _ (rIxT _) _ _ _); refine do_ixT rfl ?_) | ((with_reducible show DO _ (rIxL _) _ _ _); refine do_ixL rfl ?_) | with_reducible refine do_catL ?_ ?_
  | with_reducible refine wd_dnew ?_ | with_reducible refine wd_call0 ?_ | with_reducible refine dc_str ?_ ?_ | with_reducible refine wd_tup ?_ | with_reducible refine wd_lst ?_ | with_reducible refine wt_test ?_ | with_reducible refine wt_B ?_ | with_reducible refine wt_not ?_ | with_reducible refine wt_and ?_ | with_reducible refine wt_or ?_ | with_reducible refine wd_ifE ?_ | with_reducible refine wd_andV ?_ | with_reducible refine wd_orV ?_ | with_reducible refine wd_notV ?_
  | with_reducible refine ws_seq ?_ | with_reducible refine ws_next ?_ | with_reducible refine ws_asg ?_ | with_reducible refine ws_ret ?_ | with_reducible refine ws_retN ?_ | with_reducible refine ws_if ?_ | with_reducible refine ws_par ?_ | with_reducible refine ws_unp2 ?_
  | with_reducible refine if_t ?_ | with_reducible refine if_f ?_ | with_reducible refine if_nf ?_ | with_reducible refine if_nt ?_
  | ((with_reducible show Exists _); first | refine ⟨_, kitInt _, ?_⟩ | refine ⟨_, kitBool _, ?_⟩ | refine ⟨_, kitTup _, ?_⟩ | refine ⟨_, kitList _, ?_⟩ | refine ⟨_, rfl, ?_⟩ | refine ⟨_, _, rfl, ?_⟩ | fail) | fail))

/-! ### lowest terms -/
/-- a by b, b not nought, in lowest terms -/
def nrm (a b : Int) : Int × Int := ((if 0 < b then a else -a) / ((Nat.gcd a.natAbs b.natAbs : Nat) : Int), ((b.natAbs : Nat) : Int) / ((Nat.gcd a.natAbs b.natAbs : Nat) : Int))
def pr (x : Int × Int) : PyData := .tuple [.int x.1, .int x.2]
/-- the promise of a maker of parts -/
def TPart : List PyData → (PyData → Prop) → Prop := fun ds Φ => ∃ a b : Int, ds = [.int a, .int b] ∧ b ≠ 0 ∧ a.natAbs < 2 ^ 8000 ∧ b.natAbs < 2 ^ 8000 ∧ Φ (pr (nrm a b))
def t_law_part (K : PySem.W.Frag) : TS :=
  (tSeq (tPar 2 3 (tCons (tCB rAbsX (tCons (tVar 0) tNil)) (tCons (tCB rAbsX (tCons (tVar 1) tNil)) tNil)))
    (tSeq (tWhile (tTest (tOp rGt (tVar 3) (tC (.int 0)))) (tPar 2 3 (tCons (tVar 3) (tCons (tOp rModI (tVar 2) (tVar 3)) tNil))))
    (tSeq (tAsg (tIf (tTest (tOp rGt (tVar 1) (tC (.int 0)))) (tC (.int 1)) (tUn rNegI (tC (.int 1)))) (gName 4))
    (tRet (tTup (tCons (tOp rDivI (tOp rMulI (tVar 4) (tVar 0)) (tVar 2)) (tCons (tOp rDivI (tCB rAbsX (tCons (tVar 1) tNil)) (tVar 2)) tNil)))))))


theorem log2_of {i : Int} {k : Nat} (h : i.natAbs < 2 ^ k) (hk : 0 < k) : i.natAbs.log2 < k := PySem.Flt.log2_lt_of hk h
/-! ### about lowest terms -/
end DL

set_option Elab.async false
set_option linter.all false
set_option maxRecDepth 100000
set_option maxHeartbeats 4000000
/-! DLS: what the laws draw -/
namespace DL
open PySem PySem.Spec PyProof.Rows L2
local macro_rules | `(tactic| walk_at "dl") => `(tactic| repeat' (first
  | with_reducible refine wd_isTy ?_ | with_reducible refine wd_isi ?_ | with_reducible refine wd_op ?_ | with_reducible refine wd_cb ?_ | with_reducible refine wd_un ?_ | with_reducible refine wa_cons ?_ | with_reducible refine wa_nil ?_ | ((with_reducible show WD _ _ (tVar _) _ _); refine wd_var rfl ?_) | with_reducible refine wd_int ?_ | with_reducible refine wd_bl ?_ | with_reducible refine wd_str ?_ | with_reducible refine wd_non ?_
  | with_reducible refine do_add ?_ | with_reducible refine do_sub ?_ | ((with_reducible refine do_mod ?_ ?_); decide) | with_reducible refine do_mod ?_ ?_ | with_reducible refine do_mul ?_ ?_ | ((with_reducible refine do_div ?_ ?_); exact ⟨by decide, by decide⟩) | with_reducible refine do_div ?_ ?_ | ((with_reducible refine do_pow ?_ ?_); exact ⟨by decide, by decide, by decide⟩) | with_reducible refine do_pow ?_ ?_
  | with_reducible refine do_lt ?_ | with_reducible refine do_le ?_ | with_reducible refine do_gt ?_ | with_reducible refine do_ge ?_ | with_reducible refine du_neg ?_
  | with_reducible refine do_eqi ?_ | with_reducible refine do_nei ?_ | with_reducible refine do_eqs ?_ | with_reducible refine do_nes ?_ | with_reducible refine dc_abs ?_ | with_reducible refine dc_min ?_ | with_reducible refine dc_max ?_ | with_reducible refine dc_lenL ?_ | with_reducible refine dc_lenT ?_ | with_reducible refine dc_gcd ?_
  | ((with_reducible show DO _ (rIxT _) _ _ _); refine do_ixT rfl ?_) | ((with_reducible show DO _ (rIxL _) _ _ _); refine do_ixL rfl ?_) | with_reducible refine do_catL ?_ ?_
  | with_reducible refine wd_dnew ?_ | with_reducible refine wd_call0 ?_ | with_reducible refine dc_str ?_ ?_ | with_reducible refine wd_tup ?_ | with_reducible refine wd_lst ?_ | with_reducible refine wt_test ?_ | with_reducible refine wt_B ?_ | with_reducible refine wt_not ?_ | with_reducible refine wt_and ?_ | with_reducible refine wt_or ?_ | with_reducible refine wd_ifE ?_ | with_reducible refine wd_andV ?_ | with_reducible refine wd_orV ?_ | with_reducible refine wd_notV ?_
  | with_reducible refine ws_seq ?_ | with_reducible refine ws_next ?_ | with_reducible refine ws_asg ?_ | with_reducible refine ws_ret ?_ | with_reducible refine ws_retN ?_ | with_reducible refine ws_if ?_ | with_reducible refine ws_par ?_ | with_reducible refine ws_unp2 ?_
  | with_reducible refine if_t ?_ | with_reducible refine if_f ?_ | with_reducible refine if_nf ?_ | with_reducible refine if_nt ?_
  | ((with_reducible show Exists _); first | refine ⟨_, kitInt _, ?_⟩ | refine ⟨_, kitBool _, ?_⟩ | refine ⟨_, kitTup _, ?_⟩ | refine ⟨_, kitList _, ?_⟩ | refine ⟨_, rfl, ?_⟩ | refine ⟨_, _, rfl, ?_⟩ | fail) | fail))

abbrev TDr := TDraw 400 (2 ^ 1899) (2 ^ 40)
section
variable {K : PySem.W.Frag} {S : Stt} {ρ : Rho} {Φ : PyData → Rho → Prop} {Ψ : PyData → Prop}
theorem atI_of {ds : List PyData} {z : Int} (h0 : 0 ≤ z) (h1 : z < ds.length) : ∃ d, atI ds z = some d ∧ d ∈ ds := by
  obtain ⟨j, rfl⟩ : ∃ j : Nat, z = j := ⟨z.toNat, by omega⟩
  have hj : j < ds.length := by omega
  exact ⟨ds[j], atI_nat (List.getElem?_eq_getElem hj), List.getElem_mem hj⟩
/-- any item of a list, by a place in it -/
theorem do_ixL_any {ds : List PyData} {z : Int} (h0 : 0 ≤ z) (h1 : z < ds.length) (h : ∀ d ∈ ds, Ψ d) : DO K (rIxL K) (.list ds) (.int z) Ψ := by
  obtain ⟨d, e, hm⟩ := atI_of h0 h1
  exact do_ixL e (h d hm)
theorem do_ixL_int {ds : List PyData} {ns : List Int} {z : Int} {P : Int → Prop} (e : ds = ns.map PyData.int) (h0 : 0 ≤ z) (h1 : z < ns.length) (hp : ∀ n ∈ ns, P n) (h : ∀ n, P n → Ψ (.int n)) : DO K (rIxL K) (.list ds) (.int z) Ψ := by
  subst e
  refine do_ixL_any h0 (by rw [List.length_map]; exact h1) fun d hd => ?_
  obtain ⟨n, hn, rfl⟩ := List.mem_map.mp hd
  exact h n (hp n hn)
end
/-- a small part -/
structure PIn (n d : Int) : Prop where
  d1 : 1 ≤ d
  d2 : d ≤ 1000
  n1 : n.natAbs ≤ 10 ^ 6
  g : Nat.gcd n.natAbs d.natAbs = 1
def TSmall : Nat → List PyData → (PyData → Nat → Prop) → Prop := fun B ds Φ => ds = [] ∧ B + 3200 ≤ 2 ^ 40 ∧ ∀ n d : Int, PIn n d → Φ (pr (n, d)) (B + 3200)
def t_law_small (K : PySem.W.Frag) : TS :=
  (tSeq (tAsg (tCall (spS K FSto TDr) [] E0 (tCons (tVar 0) (tCons (tC (.int 6)) tNil))) (gName 1))
    (tSeq (tAsg (tOp (rIxL K) (tLst (tCons (tC (.int 1)) (tCons (tC (.int 1)) (tCons (tC (.int 2)) (tCons (tC (.int 3)) (tCons (tC (.int 4)) (tCons (tC (.int 12)) (tCons (tC (.int 97)) (tCons (tC (.int 101)) (tCons (tC (.int 997)) (tCons (tC (.int 1000)) (tCons (tOp rAddI (tC (.int 1)) (tCall (spS K FSto TDr) [] E0 (tCons (tVar 0) (tCons (tC (.int 1000)) tNil)))) tNil)))))))))))) (tCall (spS K FSto TDr) [] E0 (tCons (tVar 0) (tCons (tC (.int 11)) tNil)))) (gName 2))
    (tSeq (tAsg (tLst (tCons (tC (.int 0)) (tCons (tC (.int 1)) (tCons (tOp rAddI (tC (.int 1)) (tCall (spS K FSto TDr) [] E0 (tCons (tVar 0) (tCons (tC (.int 9)) tNil)))) (tCons (tCall (spS K FSto TDr) [] E0 (tCons (tVar 0) (tCons (tC (.int 1000)) tNil))) (tCons (tOp rSubI (tOp rPowI (tC (.int 10)) (tC (.int 6))) (tCall (spS K FSto TDr) [] E0 (tCons (tVar 0) (tCons (tC (.int 3)) tNil)))) tNil)))))) (gName 3))
    (tSeq (tAsg (tOp (rIxL K) (tOp rCatL (tVar 3) (tLst (tCons (tCall (spS K FSto TDr) [] E0 (tCons (tVar 0) (tCons (tOp rPowI (tC (.int 10)) (tC (.int 6))) tNil))) tNil))) (tVar 1)) (gName 3))
    (tRet (tCall (spP K TPart) [] E0 (tCons (tOp rMulI (tVar 3) (tOp (rIxL K) (tLst (tCons (tC (.int 1)) (tCons (tUn rNegI (tC (.int 1))) tNil))) (tCall (spS K FSto TDr) [] E0 (tCons (tVar 0) (tCons (tC (.int 2)) tNil))))) (tCons (tVar 2) tNil))))))))


/-! ### the law's own run -/
def spLaw (K : PySem.W.Frag) : Sp := fun vs H Q _ => ∃ (a : Addr) (ns : List Int), vs = [.ref a] ∧ SqL K H a (ns.map V.int) ∧ ns.length ≤ 63 ∧ ∀ H', Q (.bl true) H'
end DL

set_option Elab.async false
set_option linter.all false
set_option maxRecDepth 100000
set_option maxHeartbeats 2000000
namespace DL
open PySem PySem.Spec PyProof.Rows L2
/-! ### the head: facts of defs, and names that stand for a function of math -/
abbrev AlG : Type := He.AlD × Bool
def bltB (K : PySem.W.Frag) (bs : List (Str × String)) : Bool := bs.all fun p => He.eqO (PySem.W.nsIn K mainGlobals p.1) (some (some (.builtin p.2)))
def obsM (n : Nat) (fa : List He.Fa) (fn : List He.DefD) (bs : List (Str × String)) (g : Addr → Option Obj) : AlG := (He.obsDG n fa fn g, bltB (He.frG g (He.asD g n)) bs)
def hookM (n : Nat) (fa : List He.Fa) (fn : List He.DefD) (bs : List (Str × String)) : PySem.W.Hook where
  α := AlG
  obs := fun s => obsM n fa fn bs s.heap.get?
  val := fun _ => (He.valD fn, true)
  says := fun _ h => ∃ K : PySem.W.Frag, K.In h ∧ He.SaysD fa fn K ∧ bltB K bs = true
  of := fun _ _ e => ⟨_, He.frG_in, congrArg Prod.fst e, congrArg Prod.snd e⟩
  keeps := fun _ _ _ ⟨K, hK, c⟩ k => ⟨K, PySem.W.Frag.In.keeps hK k, c⟩
theorem blt_ok {K : PySem.W.Frag} {h : Heap} {mg : Str → Option Value} {bs : List (Str × String)} (X : K.In h) (G : h.Ns mainGlobals mg) (c : bltB K bs = true) {x : Str} {b : String} (hm : (x, b) ∈ bs) : mg x = some (.builtin b) :=
  PySem.W.mg_of X G (He.eqO_ok (List.all_eq_true.mp c _ hm))
/-- by names, of a def without defaults -/
theorem kbN {K : PySem.W.Frag} {x qual : Str} {params : Arguments} {body : List Stmt} {scope : Scope} {kws : List (Str × V)} {f : Addr} {fd : FuncData} {ps : List Str} (F : FunD K x qual params body scope [] kws f fd) (n : Nat) (ks : List Str) (g : {α : Type} → List α → List α → List α)
    (hrel : ∀ {vs zs : List V} {us ws : List Value}, Vals vs us → Vals zs ws → Vals (g vs zs) (g us ws))
    (h : ∀ (kV doc pm : Value) (an : Option Addr) (cdv ct : Value) (us ws : List Value), us.length = n → ws.length = ks.length → bindArgs (PySem.W.fnOf x qual params body scope .none kV doc pm an cdv ct) ⟨us, ks.zip ws⟩ = pure (ps.zip (g us ws))) :
    KBn K fd ps n ks (fun us ws => g us ws) (fun vs zs => g vs zs) := by
  obtain ⟨oc, od, dV, kV, doc, pm, an, cdv, ct, osl, rfl, lk, hcd, hD, hK⟩ := F.ex
  rcases hD with ⟨_, rfl⟩ | ⟨e, _⟩
  · exact ⟨fun s us ws _ l1 l2 => .of_eq (h kV doc pm an cdv ct us ws l1 l2), fun r1 r2 => hrel r1 r2⟩
  · exact absurd rfl e
/-- a promise of nothing: for a call that is never made -/
def spNo : Sp := fun _ _ _ _ => False
section
variable {P : Program} {w : World} {K : PySem.W.Frag} {mg : Str → Option Value} {base : Heap}
theorem has_of {x : Str} {k : Nat} {ps : List Str} {sp : Sp} {f : Addr} {fd : FuncData} (F : FnOk P w K mg base CX0 k f fd ps sp) (hm : mg x = some (.ref f)) (hk : PySem.W.keepIn K (.ref f) = true) (hb : Binds K fd ps []) : Has P w K mg base CX0 x k ps sp [] := ⟨f, fd, [], F, hm, hk, hb, .nil⟩
end
theorem spP_len {K : PySem.W.Frag} {T : List PyData → (PyData → Prop) → Prop} {n : Nat} (hT : ∀ ds Φ, T ds Φ → ds.length = n) {vs : List V} {H : Hp} {Q : VK} {E : XK} (h : spP K T vs H Q E) : vs.length = n := by
  obtain ⟨N, ds, Φ, _, hd, t, _⟩ := h
  exact hd.len.trans (hT ds Φ t)
theorem spS_len {K : PySem.W.Frag} {F : Stt → Prop} {T : Nat → List PyData → (PyData → Nat → Prop) → Prop} {n : Nat} (hT : ∀ B ds Φ, T B ds Φ → ds.length = n) {vs : List V} {H : Hp} {Q : VK} {E : XK} (h : spS K F T vs H Q E) : vs.length = n + 1 := by
  obtain ⟨S, N, us, ds, B, Φ, rfl, _, _, _, _, hd, t, _⟩ := h
  have e := hd.len.trans (hT B ds Φ t)
  simp [e]
end DL

set_option Elab.async false
set_option linter.all false
set_option maxRecDepth 100000
set_option maxHeartbeats 4000000
/-! DLA: parts reckoned -/
namespace DL
open PySem PySem.Spec PyProof.Rows L2
local macro_rules | `(tactic| walk_at "dl") => `(tactic| repeat' (first
  | with_reducible refine wd_isTy ?_ | with_reducible refine wd_isi ?_ | with_reducible refine wd_op ?_ | ((with_reducible show WD _ _ (tCB (rLenX _) (tCons (tVar _) tNil)) _ _); refine wd_len_scr rfl ?_) | with_reducible refine wd_cb ?_ | with_reducible refine wd_un ?_ | with_reducible refine wa_cons ?_ | with_reducible refine wa_nil ?_ | ((with_reducible show WD _ _ (tVar _) _ _); refine wd_var rfl ?_) | with_reducible refine wd_int ?_ | with_reducible refine wd_bl ?_ | with_reducible refine wd_str ?_ | with_reducible refine wd_non ?_
  | with_reducible refine do_add ?_ | with_reducible refine do_sub ?_ | ((with_reducible refine do_mod ?_ ?_); decide) | with_reducible refine do_mod ?_ ?_ | with_reducible refine do_mul ?_ ?_ | ((with_reducible refine do_div ?_ ?_); exact ⟨by decide, by decide⟩) | with_reducible refine do_div ?_ ?_ | ((with_reducible refine do_pow ?_ ?_); exact ⟨by decide, by decide, by decide⟩) | with_reducible refine do_pow ?_ ?_
  | with_reducible refine do_lt ?_ | with_reducible refine do_le ?_ | with_reducible refine do_gt ?_ | with_reducible refine do_ge ?_ | with_reducible refine du_neg ?_
  | with_reducible refine do_eqi ?_ | with_reducible refine do_nei ?_ | with_reducible refine do_eqs ?_ | with_reducible refine do_nes ?_ | with_reducible refine dc_abs ?_ | with_reducible refine dc_min ?_ | with_reducible refine dc_max ?_ | with_reducible refine dc_lenL ?_ | with_reducible refine dc_lenT ?_ | with_reducible refine dc_gcd ?_
  | ((with_reducible show DO _ (rIxT _) _ _ _); refine do_ixT rfl ?_) | ((with_reducible show DO _ (rIxL _) _ _ _); refine do_ixL rfl ?_) | ((with_reducible refine do_catL ?_ ?_); exact Nat.le_of_ble_eq_true rfl) | with_reducible refine do_catL ?_ ?_ | ((with_reducible show And (List.length _ ≤ sizeLine) _); refine ⟨Nat.le_of_ble_eq_true rfl, ?_⟩)
  | with_reducible refine wd_dnew ?_ | with_reducible refine wd_call0 ?_ | with_reducible refine dc_str ?_ ?_ | with_reducible refine wd_tup ?_ | with_reducible refine wd_lst ?_ | with_reducible refine wt_test ?_ | with_reducible refine wt_B ?_ | with_reducible refine wt_not ?_ | with_reducible refine wt_and ?_ | with_reducible refine wt_or ?_ | with_reducible refine wd_ifE ?_ | with_reducible refine wd_andV ?_ | with_reducible refine wd_orV ?_ | with_reducible refine wd_notV ?_
  | with_reducible refine ws_seq ?_ | with_reducible refine ws_next ?_ | with_reducible refine ws_asg ?_ | with_reducible refine ws_ret ?_ | with_reducible refine ws_retN ?_ | with_reducible refine ws_if ?_ | with_reducible refine ws_par ?_ | with_reducible refine ws_unp2 ?_
  | with_reducible refine if_t ?_ | with_reducible refine if_f ?_ | with_reducible refine if_nf ?_ | with_reducible refine if_nt ?_
  | ((with_reducible show Exists _); first | refine ⟨_, kitInt _, ?_⟩ | refine ⟨_, kitBool _, ?_⟩ | refine ⟨_, kitTup _, ?_⟩ | refine ⟨_, kitList _, ?_⟩ | refine ⟨_, rfl, ?_⟩ | refine ⟨_, _, rfl, ?_⟩ | fail) | fail))
/-! ### what is never reached -/
def tNo : TS := fun _ _ _ => False
def tNoE : TE := fun _ _ _ => False
theorem ps_no {X : Cx} {st : Stmt} : PS X st tNo := ⟨fun _ _ _ _ _ _ h => h.elim⟩
/-! ### a maker of parts -/
def t_part (K : PySem.W.Frag) : TS :=
  (tSeq (tIfS (tTest (tOp rEq (tVar 1) (tC (.int 0)))) tNo tNext)
    (tSeq (tAsg (tCB rGcd (tCons (tVar 0) (tCons (tVar 1) tNil))) (gName 2))
    (tSeq (tIfS (tTest (tOp rLt (tVar 1) (tC (.int 0)))) (tAsg (tUn rNegI (tVar 2)) (gName 2)) tNext)
    (tRet (tTup (tCons (tOp rDivI (tVar 0) (tVar 2)) (tCons (tOp rDivI (tVar 1) (tVar 2)) tNil)))))))
section
variable {K : PySem.W.Frag} {Ψ : PyData → Prop}
theorem do_neb {i j : Bool} (h : Ψ (.bool (!decide (i = j)))) : DO K rNe (.bool i) (.bool j) Ψ := fun N H _ u w hu hw Q q => by
  cases hu; cases hw
  refine ⟨rfl, ?_⟩
  have e : decide (V.bl i = V.bl j) = decide (i = j) := by
    by_cases e : i = j
    · subst e; simp
    · rw [decide_eq_false e, decide_eq_false (fun z => e (V.bl.inj z))]
  rw [e]
  exact q _ _ H h (Same.refl H) (Dt.bl _)
end
/-! ### what is reckoned of two -/
structure Wd4 (a b c d : Int) : Prop where
  a : a.natAbs < 2 ^ 3900
  b : b.natAbs < 2 ^ 3900
  c : c.natAbs < 2 ^ 3900
  d : d.natAbs < 2 ^ 3900
def T2 (P : Int → Int → Int → Int → Prop) (f : Int → Int → Int → Int → PyData) : List PyData → (PyData → Prop) → Prop := fun ds Φ => ∃ a b c d : Int, ds = [pr (a, b), pr (c, d)] ∧ Wd4 a b c d ∧ P a b c d ∧ Φ (f a b c d)
abbrev PBD : Int → Int → Int → Int → Prop := fun _ b _ d => b ≠ 0 ∧ d ≠ 0
abbrev TPlus := T2 PBD fun a b c d => pr (nrm (a * d + c * b) (b * d))
abbrev TLess := T2 PBD fun a b c d => pr (nrm (a * d - c * b) (b * d))
abbrev TTimes := T2 PBD fun a b c d => pr (nrm (a * c) (b * d))
abbrev TOver := T2 (fun _ b c _ => b ≠ 0 ∧ c ≠ 0) fun a b c d => pr (nrm (a * d) (b * c))
abbrev TUnder := T2 (fun _ _ _ _ => True) fun a b c d => .bool (decide (a * d < c * b))
def T1 (f : Int → Int → PyData) : List PyData → (PyData → Prop) → Prop := fun ds Φ => ∃ a b : Int, ds = [pr (a, b)] ∧ b ≠ 0 ∧ b.natAbs < 2 ^ 3900 ∧ Φ (f a b)
abbrev TFloor := T1 fun a b => .int (a.fdiv b)
abbrev TCeil := T1 fun a b => .int (-((-a).fdiv b))
def t_plus (K : PySem.W.Frag) : TS :=
  (tRet (tCall (spP K TPart) [] E0 (tCons (tOp rAddI (tOp rMulI (tOp (rIxT K) (tVar 0) (tC (.int 0))) (tOp (rIxT K) (tVar 1) (tC (.int 1)))) (tOp rMulI (tOp (rIxT K) (tVar 1) (tC (.int 0))) (tOp (rIxT K) (tVar 0) (tC (.int 1))))) (tCons (tOp rMulI (tOp (rIxT K) (tVar 0) (tC (.int 1))) (tOp (rIxT K) (tVar 1) (tC (.int 1)))) tNil))))
def t_less (K : PySem.W.Frag) : TS :=
  (tRet (tCall (spP K TPart) [] E0 (tCons (tOp rSubI (tOp rMulI (tOp (rIxT K) (tVar 0) (tC (.int 0))) (tOp (rIxT K) (tVar 1) (tC (.int 1)))) (tOp rMulI (tOp (rIxT K) (tVar 1) (tC (.int 0))) (tOp (rIxT K) (tVar 0) (tC (.int 1))))) (tCons (tOp rMulI (tOp (rIxT K) (tVar 0) (tC (.int 1))) (tOp (rIxT K) (tVar 1) (tC (.int 1)))) tNil))))
def t_times (K : PySem.W.Frag) : TS :=
  (tRet (tCall (spP K TPart) [] E0 (tCons (tOp rMulI (tOp (rIxT K) (tVar 0) (tC (.int 0))) (tOp (rIxT K) (tVar 1) (tC (.int 0)))) (tCons (tOp rMulI (tOp (rIxT K) (tVar 0) (tC (.int 1))) (tOp (rIxT K) (tVar 1) (tC (.int 1)))) tNil))))
def t_over (K : PySem.W.Frag) : TS :=
  (tRet (tCall (spP K TPart) [] E0 (tCons (tOp rMulI (tOp (rIxT K) (tVar 0) (tC (.int 0))) (tOp (rIxT K) (tVar 1) (tC (.int 1)))) (tCons (tOp rMulI (tOp (rIxT K) (tVar 0) (tC (.int 1))) (tOp (rIxT K) (tVar 1) (tC (.int 0)))) tNil))))
def t_is_less (K : PySem.W.Frag) : TS :=
  (tRet (tOp rLt (tOp rMulI (tOp (rIxT K) (tVar 0) (tC (.int 0))) (tOp (rIxT K) (tVar 1) (tC (.int 1)))) (tOp rMulI (tOp (rIxT K) (tVar 1) (tC (.int 0))) (tOp (rIxT K) (tVar 0) (tC (.int 1))))))
def t_floor (K : PySem.W.Frag) : TS :=
  (tRet (tOp rDivI (tOp (rIxT K) (tVar 0) (tC (.int 0))) (tOp (rIxT K) (tVar 0) (tC (.int 1)))))
def t_ceiling (K : PySem.W.Frag) : TS :=
  (tRet (tUn rNegI (tOp rDivI (tUn rNegI (tOp (rIxT K) (tVar 0) (tC (.int 0)))) (tOp (rIxT K) (tVar 0) (tC (.int 1))))))
section
variable {K : PySem.W.Frag} {ds : List PyData} {Φ : PyData → Prop}
end
end DL

set_option Elab.async false
set_option linter.all false
set_option maxRecDepth 100000
set_option maxHeartbeats 4000000
/-! DLR: how long the texts of data are -/
namespace DL
open PySem PySem.Spec PyProof.Rows L2
theorem textFrom_le : ∀ (ts : List Str) (k : Nat) (acc : Str), (textFrom k acc ts).length ≤ acc.length + piled ts
  | [], _, acc => Nat.le_add_right _ _
  | t :: r, k, acc => by
    have ih := textFrom_le r (k + 1) (acc ++ (if k > 0 then ", " else "" : String) ++ t)
    have e : (acc ++ (if k > 0 then ", " else "" : String) ++ t).length ≤ acc.length + 2 + t.length := by
      rw [strLen_append, strLen_append]
      have : ((Str.ofString (if k > 0 then ", " else "" : String))).length ≤ 2 := by split <;> decide
      omega
    rw [piled_cons]
    exact Nat.le_trans ih (by omega)
theorem piled_le {m : Nat} : ∀ ts : List Str, (∀ t ∈ ts, t.length ≤ m) → piled ts ≤ ts.length * (m + 2)
  | [], _ => by simp [piled]
  | t :: r, h => by
    rw [piled_cons, List.length_cons, Nat.succ_mul]
    have := h t (List.mem_cons_self ..)
    have := piled_le r fun t ht => h t (List.mem_cons_of_mem _ ht)
    omega
theorem shownAll_mem : ∀ (xs : List PyData) (t : Str), t ∈ PyData.shownAll xs → ∃ x ∈ xs, t = x.shown
  | [], t, h => by simp [PyData.shownAll] at h
  | x :: xs, t, h => by
    rcases List.mem_cons.mp (show t ∈ x.shown :: PyData.shownAll xs from h) with e | h
    · exact ⟨x, List.mem_cons_self .., e⟩
    · obtain ⟨y, hy, e⟩ := shownAll_mem xs t h
      exact ⟨y, List.mem_cons_of_mem _ hy, e⟩
theorem shownAll_len : ∀ xs : List PyData, (PyData.shownAll xs).length = xs.length
  | [] => rfl
  | x :: xs => by show (PyData.shownAll xs).length + 1 = _; rw [shownAll_len xs]; rfl
/-- what may be shown within a row -/
structure Rp (d : PyData) : Prop where
  s : d.showable = true
  h : d.hasDict = false
  l : d.shown.length ≤ 5000
  d : d.depth ≤ 10
theorem showableAll_of : ∀ xs : List PyData, (∀ x ∈ xs, x.showable = true) → PyData.showableAll xs = true
  | [], _ => rfl
  | x :: xs, h => by
    show (x.showable && PyData.showableAll xs) = true
    rw [h x (List.mem_cons_self ..), showableAll_of xs fun y hy => h y (List.mem_cons_of_mem _ hy)]; rfl
theorem hasDictAll_of : ∀ xs : List PyData, (∀ x ∈ xs, x.hasDict = false) → PyData.hasDictAll xs = false
  | [], _ => rfl
  | x :: xs, h => by
    show (x.hasDict || PyData.hasDictAll xs) = false
    rw [h x (List.mem_cons_self ..), hasDictAll_of xs fun y hy => h y (List.mem_cons_of_mem _ hy)]; rfl
theorem depthAll_of {n : Nat} : ∀ xs : List PyData, (∀ x ∈ xs, x.depth ≤ n) → PyData.depthAll xs ≤ n
  | [], _ => Nat.zero_le _
  | x :: xs, h => by
    show max x.depth (PyData.depthAll xs) ≤ n
    exact Nat.max_le.mpr ⟨h x (List.mem_cons_self ..), depthAll_of xs fun y hy => h y (List.mem_cons_of_mem _ hy)⟩
theorem Rp.int {i : Int} (h : i.natAbs < 2 ^ 1900) : Rp (.int i) := by
  have h2 : i.natAbs.log2 < 1920 := by have := log2_of (i := i) (k := 1900) h (by decide); omega
  exact ⟨decide_eq_true h2, rfl, Nat.le_trans (int_text_len_1921 h2) (by decide), by show 0 ≤ 10; decide⟩
theorem listText_le {m n : Nat} {xs : List PyData} (h : ∀ x ∈ xs, x.shown.length ≤ m) (hn : xs.length ≤ n) : (PyData.list xs).shown.length ≤ 2 + n * (m + 2) := by
  show (textFrom 0 "[" (PyData.shownAll xs) ++ ("]" : String) : Str).length ≤ _
  rw [strLen_append]
  have h1 := textFrom_le (PyData.shownAll xs) 0 "["
  have h2 := piled_le (m := m) (PyData.shownAll xs) fun t ht => by
    obtain ⟨x, hx, rfl⟩ := shownAll_mem xs t ht
    exact h x hx
  rw [shownAll_len] at h2
  have h3 : xs.length * (m + 2) ≤ n * (m + 2) := Nat.mul_le_mul_right _ hn
  have e1 : (Str.ofString "[").length = 1 := by decide
  have e2 : (Str.ofString "]").length = 1 := by decide
  rw [e1] at h1
  rw [e2]
  omega
section
variable {K : PySem.W.Frag} {Ψ : PyData → Prop}
end
end DL

set_option Elab.async false
set_option linter.all false
set_option maxRecDepth 100000
set_option maxHeartbeats 4000000
namespace DL
open PySem PySem.Spec PyProof.Rows L2
local macro_rules | `(tactic| walk_at "dl") => `(tactic| repeat' (first
  | with_reducible refine wd_isTy ?_ | with_reducible refine wd_isi ?_ | with_reducible refine wd_op ?_ | ((with_reducible show WD _ _ (tCB (rLenX _) (tCons (tVar _) tNil)) _ _); refine wd_len_scr rfl ?_) | with_reducible refine wd_cb ?_ | with_reducible refine wd_un ?_ | with_reducible refine wa_cons ?_ | with_reducible refine wa_nil ?_ | ((with_reducible show WD _ _ (tVar _) _ _); refine wd_var rfl ?_) | with_reducible refine wd_int ?_ | with_reducible refine wd_bl ?_ | with_reducible refine wd_str ?_ | with_reducible refine wd_non ?_
  | with_reducible refine do_add ?_ | with_reducible refine do_sub ?_ | ((with_reducible refine do_mod ?_ ?_); decide) | with_reducible refine do_mod ?_ ?_ | with_reducible refine do_mul ?_ ?_ | ((with_reducible refine do_div ?_ ?_); exact ⟨by decide, by decide⟩) | with_reducible refine do_div ?_ ?_ | ((with_reducible refine do_pow ?_ ?_); exact ⟨by decide, by decide, by decide⟩) | with_reducible refine do_pow ?_ ?_
  | with_reducible refine do_lt ?_ | with_reducible refine do_le ?_ | with_reducible refine do_gt ?_ | with_reducible refine do_ge ?_ | with_reducible refine du_neg ?_
  | with_reducible refine do_eqi ?_ | with_reducible refine do_nei ?_ | with_reducible refine do_eqs ?_ | with_reducible refine do_nes ?_ | with_reducible refine dc_abs ?_ | with_reducible refine dc_min ?_ | with_reducible refine dc_max ?_ | with_reducible refine dc_lenL ?_ | with_reducible refine dc_lenT ?_ | with_reducible refine dc_gcd ?_
  | ((with_reducible show DO _ (rIxT _) _ _ _); refine do_ixT rfl ?_) | ((with_reducible show DO _ (rIxL _) _ _ _); refine do_ixL rfl ?_) | ((with_reducible refine do_catL ?_ ?_); exact Nat.le_of_ble_eq_true rfl) | with_reducible refine do_catL ?_ ?_ | ((with_reducible show And (List.length _ ≤ sizeLine) _); refine ⟨Nat.le_of_ble_eq_true rfl, ?_⟩)
  | with_reducible refine wd_dnew ?_ | with_reducible refine wd_call0 ?_ | with_reducible refine dc_str ?_ ?_ | with_reducible refine wd_tup ?_ | with_reducible refine wd_lst ?_ | with_reducible refine wt_test ?_ | with_reducible refine wt_B ?_ | with_reducible refine wt_not ?_ | with_reducible refine wt_and ?_ | with_reducible refine wt_or ?_ | with_reducible refine wd_ifE ?_ | with_reducible refine wd_andV ?_ | with_reducible refine wd_orV ?_ | with_reducible refine wd_notV ?_
  | with_reducible refine ws_seq ?_ | with_reducible refine ws_next ?_ | with_reducible refine ws_asg ?_ | with_reducible refine ws_ret ?_ | with_reducible refine ws_retN ?_ | with_reducible refine ws_if ?_ | with_reducible refine ws_par ?_ | with_reducible refine ws_unp2 ?_
  | with_reducible refine if_t ?_ | with_reducible refine if_f ?_ | with_reducible refine if_nf ?_ | with_reducible refine if_nt ?_
  | ((with_reducible show Exists _); first | refine ⟨_, kitInt _, ?_⟩ | refine ⟨_, kitBool _, ?_⟩ | refine ⟨_, kitTup _, ?_⟩ | refine ⟨_, kitList _, ?_⟩ | refine ⟨_, rfl, ?_⟩ | refine ⟨_, _, rfl, ?_⟩ | fail) | fail))
/-! ### a list so many times, locked or not -/
def rRepL : R2 := fun x y H Q => ∃ a k xs, x = .ref a ∧ y = .int k ∧ Rd H a (.lst xs) ∧ (-(2 ^ 63) ≤ k ∧ k < 2 ^ 63) ∧ xs.length * k.toNat ≤ sizeLine ∧ ∀ p, H p = none → Q (.ref p) (upd H p (.lst (List.replicate k.toNat xs).flatten))
theorem fold_rep (its : List Value) : ∀ m : Nat, List.foldl (fun u v => u ++ v) #[] (List.replicate m its.toArray) = (List.replicate m its).flatten.toArray := fun m => by
  have := foldl_rep its m []
  simpa using this
theorem op_repL {X : Cx} : OpR X (binaryOp .Mult) rRepL := by
  intro pins s τ G x y v u R I rx ry h
  obtain ⟨l, k, xs, rfl, rfl, hL, ⟨b1, b2⟩, hz, q⟩ := h
  cases rx
  obtain ⟨tk, rfl⟩ := ry
  obtain ⟨z1, i1, n1, w1, g1⟩ := hL.ok I.hok
  have e1 := w1.length
  have sz : i1.toArray.size * k.toNat ≤ sizeLine := by simp only [List.size_toArray]; rw [← e1]; exact hz
  have cap : ¬ i1.toArray.size * k.toNat > (2 ^ 63 - 1) / 8 := by
    have c : (sizeLine : Nat) ≤ (2 ^ 63 - 1) / 8 := by decide
    omega
  have fit : ¬ (!Builtin.List.listFitsIndex k) = true := by
    rw [fitsIndex_both b1 b2]; simp
  have lng : ¬ Builtin.List.listTooLong (i1.toArray.size * k.toNat) = true := by
    rw [notLongL sz]; simp
  have nw : List.foldl (fun u v => u ++ v) #[] (List.replicate (if i1.toArray.isEmpty = true then 0 else k.toNat) i1.toArray) = (List.replicate k.toNat i1).flatten.toArray := by
    rw [fold_rep]
    cases i1 with
    | nil => simp
    | cons a r => rw [if_neg (by simp)]
  refine wpAny_binaryOp_repeat_ref (T := "list") (U := "int") (by decide) ⟨_, g1, rfl⟩
    (fun s' => typeIs_int s' k tk) noFill_list_mul F.fills_int_mul F.slot_int_rmul repeat_list F.slot_int_index.lookup
    (call_meets F.slot_int_rmul (typeIs_int s k tk) F.entry_int_rmul (F.args_int_rmul_2 _ _)
      (int___rmul___int_list k tk l i1.toArray n1) ⟨g1, rfl, ⟨_, g1, rfl⟩,
        call_meets F.slot_list_mul ⟨_, g1, rfl⟩ F.entry_list_mul
          (F.args_list_mul_2 _ _) (AutoListH.list___mul___list_int_3 l i1.toArray n1 k tk fit cap lng) ⟨g1, ?_⟩⟩)
  rw [nw]
  exact ⟨.ref _, _, I.lnew (t' := s.toks) (w1.rep k.toNat) (by rw [lm_len_rep_flat, Nat.mul_comm]; exact hz), rfl, q _ I.fresh⟩
end DL

set_option Elab.async false
set_option linter.all false
set_option maxRecDepth 100000
set_option maxHeartbeats 4000000
/-! DLX: what is refused, and caught -/
namespace DL
open PySem PySem.Spec PyProof.Rows L2
abbrev rNotNone : R2 := fun x y H Q => y = .non ∧ Q (.bl (!decide (x = .non))) H
abbrev rIsNone : R2 := fun x y H Q => y = .non ∧ Q (.bl (decide (x = .non))) H
/-- refused with the class at C, of nought beneath -/
def TPartX (C : Addr) : List PyData → (PyData → Prop) → (Addr → Prop) → Prop := fun ds _ Ψ => ∃ a : Int, ds = [.int a, .int 0] ∧ Ψ C
def TOverX (C : Addr) : List PyData → (PyData → Prop) → (Addr → Prop) → Prop := fun ds _ Ψ => ∃ a b d : Int, ds = [pr (a, b), pr (0, d)] ∧ Wd4 a b 0 d ∧ Ψ C
def t_partX (C : Addr) (E : XK) : TS := tSeq (tIfS (tTest (tOp rEq (tVar 1) (tC (.int 0)))) (fun _ σ H => E (.ref C) none H) tNext) tNo
def t_overX (K : PySem.W.Frag) (C : Addr) (E : XK) : TS :=
  (tRet (tCall (spX K (TPartX C)) [] E (tCons (tOp rMulI (tOp (rIxT K) (tVar 0) (tC (.int 0))) (tOp (rIxT K) (tVar 1) (tC (.int 1)))) (tCons (tOp rMulI (tOp (rIxT K) (tVar 0) (tC (.int 1))) (tOp (rIxT K) (tVar 1) (tC (.int 0)))) tNil))))
local macro_rules | `(tactic| walk_at "dl") => `(tactic| repeat' (first
  | with_reducible refine wd_isTy ?_ | with_reducible refine wd_isi ?_ | with_reducible refine wd_op ?_ | ((with_reducible show WD _ _ (tCB (rLenX _) (tCons (tVar _) tNil)) _ _); refine wd_len_scr rfl ?_) | with_reducible refine wd_cb ?_ | with_reducible refine wd_un ?_ | with_reducible refine wa_cons ?_ | with_reducible refine wa_nil ?_ | ((with_reducible show WD _ _ (tVar _) _ _); refine wd_var rfl ?_) | with_reducible refine wd_int ?_ | with_reducible refine wd_bl ?_ | with_reducible refine wd_str ?_ | with_reducible refine wd_non ?_
  | with_reducible refine do_add ?_ | with_reducible refine do_sub ?_ | ((with_reducible refine do_mod ?_ ?_); decide) | with_reducible refine do_mod ?_ ?_ | with_reducible refine do_mul ?_ ?_ | ((with_reducible refine do_div ?_ ?_); exact ⟨by decide, by decide⟩) | with_reducible refine do_div ?_ ?_ | ((with_reducible refine do_pow ?_ ?_); exact ⟨by decide, by decide, by decide⟩) | with_reducible refine do_pow ?_ ?_
  | with_reducible refine do_lt ?_ | with_reducible refine do_le ?_ | with_reducible refine do_gt ?_ | with_reducible refine do_ge ?_ | with_reducible refine du_neg ?_
  | with_reducible refine do_eqi ?_ | with_reducible refine do_nei ?_ | with_reducible refine do_eqs ?_ | with_reducible refine do_nes ?_ | with_reducible refine dc_abs ?_ | with_reducible refine dc_min ?_ | with_reducible refine dc_max ?_ | with_reducible refine dc_lenL ?_ | with_reducible refine dc_lenT ?_ | with_reducible refine dc_gcd ?_
  | ((with_reducible show DO _ (rIxT _) _ _ _); refine do_ixT rfl ?_) | ((with_reducible show DO _ (rIxL _) _ _ _); refine do_ixL rfl ?_) | ((with_reducible refine do_catL ?_ ?_); exact Nat.le_of_ble_eq_true rfl) | with_reducible refine do_catL ?_ ?_ | ((with_reducible show And (List.length _ ≤ sizeLine) _); refine ⟨Nat.le_of_ble_eq_true rfl, ?_⟩)
  | with_reducible refine wd_dnew ?_ | with_reducible refine wd_call0 ?_ | with_reducible refine dc_str ?_ ?_ | with_reducible refine wd_tup ?_ | with_reducible refine wd_lst ?_ | with_reducible refine wt_test ?_ | with_reducible refine wt_B ?_ | with_reducible refine wt_not ?_ | with_reducible refine wt_and ?_ | with_reducible refine wt_or ?_ | with_reducible refine wd_ifE ?_ | with_reducible refine wd_andV ?_ | with_reducible refine wd_orV ?_ | with_reducible refine wd_notV ?_
  | with_reducible refine ws_seq ?_ | with_reducible refine ws_next ?_ | with_reducible refine ws_asg ?_ | with_reducible refine ws_ret ?_ | with_reducible refine ws_retN ?_ | with_reducible refine ws_if ?_ | with_reducible refine ws_par ?_ | with_reducible refine ws_unp2 ?_
  | with_reducible refine if_t ?_ | with_reducible refine if_f ?_ | with_reducible refine if_nf ?_ | with_reducible refine if_nt ?_
  | ((with_reducible show Exists _); first | refine ⟨_, kitInt _, ?_⟩ | refine ⟨_, kitBool _, ?_⟩ | refine ⟨_, kitTup _, ?_⟩ | refine ⟨_, kitList _, ?_⟩ | refine ⟨_, rfl, ?_⟩ | refine ⟨_, _, rfl, ?_⟩ | fail) | fail))
/-! ### the two ways of the judge of quotients -/
structure Gd (e : Nat) (a b : Int) : Prop where
  p : 1 ≤ b
  b : b.natAbs < 2 ^ e
  a : a.natAbs < 2 ^ e
def TRight2 : List PyData → (PyData → Prop) → Prop := fun ds Φ => ∃ a b c d : Int, ds = [pr (a, b), pr (c, d)] ∧ Gd 1500 a b ∧ Gd 1500 c d ∧ Φ (.bool true)
def TRight1 : List PyData → (PyData → Prop) → Prop := fun ds Φ => ∃ a b : Int, ds = [pr (a, b)] ∧ Gd 1500 a b ∧ Φ (.bool true)
def ts_or (a : Addr) (_ : Value) (_ : Option Addr) : TS := tAsg (tVar 4) (gName 2)
def tb_or (K : PySem.W.Frag) (C : Addr) (W : WX) : TS := tAsg (tLst (tCons (tCallS (spX K (TOverX C)) (WE W) (tCons (tVar 0) (tCons (tVar 1) tNil))) (tCons tNoE tNil))) (gName 3)
def t_orZ (K : PySem.W.Frag) (C : Addr) : TS :=
  (tSeq (tAsg (tC .non) (gName 2))
    (tSeq (tAsg (tC .non) (gName 3))
    (tSeq (fun D σ H => tb_or K C (wAs K (.ref C) 4 ts_or (fun _ _ _ _ => False) D) D σ H)
    (tSeq (tIfS (tTest (tOp rEq (tOp (rIxT K) (tVar 1) (tC (.int 0))) (tC (.int 0)))) (tRet (tOp rNotNone (tVar 2) (tC .non))) tNext)
    tNo))))
end DL

set_option Elab.async false
set_option linter.all false
set_option maxRecDepth 100000
set_option maxHeartbeats 4000000
namespace DL
open PySem PySem.Spec PyProof.Rows L2
/-! ### the head: facts of one's own, too -/
def obsX (n : Nat) (fa : List He.Fa) (fn : List He.DefD) (ex : PySem.W.Frag → Bool) (g : Addr → Option Obj) : AlG := (He.obsDG n fa fn g, ex (He.frG g (He.asD g n)))
def hookX (n : Nat) (fa : List He.Fa) (fn : List He.DefD) (ex : PySem.W.Frag → Bool) : PySem.W.Hook where
  α := AlG
  obs := fun s => obsX n fa fn ex s.heap.get?
  val := fun _ => (He.valD fn, true)
  says := fun _ h => ∃ K : PySem.W.Frag, K.In h ∧ He.SaysD fa fn K ∧ ex K = true
  of := fun _ _ e => ⟨_, He.frG_in, congrArg Prod.fst e, congrArg Prod.snd e⟩
  keeps := fun _ _ _ ⟨K, hK, c⟩ k => ⟨K, PySem.W.Frag.In.keeps hK k, c⟩
theorem obsX_eq {n : Nat} {fa : List He.Fa} {fn : List He.DefD} {ex : PySem.W.Frag → Bool} {g : Addr → Option Obj} {s : Shared} (h : ∀ a, g a = s.heap.get? a) : obsX n fa fn ex g = (hookX n fa fn ex).obs s := by
  have e : g = s.heap.get? := funext h
  rw [e] <;> rfl
/-- a class of one's own right under ZeroDivisionError -/
abbrev zdBase : List Value := [.type "ZeroDivisionError", .type "ArithmeticError", .type "Exception", .type "BaseException", .type "object"]
structure ExcZ (K : PySem.W.Frag) (C : Addr) : Prop where
  q : PySem.W.excIn K C zdBase "ZeroDivisionError.__new__" = true
  k : PySem.W.keepIn K (.ref C) = true
  s : PySem.W.subIn K (.ref C) (.type "BaseException") = some true
  t : PySem.W.typeIn K (.ref C) = some (.type "type")
  m : PySem.W.exmOne K (.ref C) (.ref C) = some true
def excZB (K : PySem.W.Frag) (C : Addr) : Bool := PySem.W.excIn K C zdBase "ZeroDivisionError.__new__" && (PySem.W.keepIn K (.ref C) && (decide (PySem.W.subIn K (.ref C) (.type "BaseException") = some true) &&
  (decide (PySem.W.typeIn K (.ref C) = some (.type "type")) && decide (PySem.W.exmOne K (.ref C) (.ref C) = some true))))
def TRightN : List PyData → (PyData → Prop) → Prop := fun ds Φ => ∃ a b c d : Int, ds = [pr (a, b), pr (c, d)] ∧ Gd 1500 a b ∧ Gd 1500 c d ∧ c ≠ 0 ∧ Φ (.bool true)
end DL

set_option Elab.async false
set_option linter.all false
set_option maxRecDepth 100000
set_option maxHeartbeats 4000000
/-! DM1: enumerate of a tuple; how many of a list are alike -/
namespace DL
open PySem PySem.Spec PyProof.Rows L2 Sem
set_option maxHeartbeats 1000000 in
section
variable {prog : Program} {w : World} {A : Around} {E : Value → Shared → Prop} {s : Shared}
end
/-- the tuple at a, each item in a new pair -/
def Iet (K : PySem.W.Frag) (a : Addr) : It :=
  ⟨fun i H => ∃ (xs : List V) (x : V), SqT K H a xs ∧ xs[i]? = some x, fun i H v H' => ∃ T x, v = .ref T ∧ H T = none ∧ H' = upd H T (.tup [.int (i : Nat), x]) ∧ ∀ xs, SqT K H a xs → xs[i]? = some x, fun i H => ∃ xs : List V, SqT K H a xs ∧ xs.length = i⟩
def iEnumT (K : PySem.W.Frag) (ta : TA) : TI := fun σ H R => ta σ H fun vs H1 => ∃ a xs, vs = [.ref a] ∧ SqT K H1 a xs ∧ R (Iet K a) H1
/-! ### how many are alike -/
def rCntF (K : PySem.W.Frag) : V → List V → Hp → VK → Prop := fun x xs H Q => ∃ (a : Addr) (ys : List V) (y : V), x = .ref a ∧ xs = [y] ∧ SqL K H a ys ∧ flatV y = true ∧ ys.all flatV = true ∧ Q (.int (ys.countP fun z => eqV z y : Nat)) H
/-! ### over data -/
section
variable {K : PySem.W.Frag} {S : Stt} {ρ : Rho} {Φ : PyData → Rho → Prop} {Ψ : PyData → Prop}
end
end DL

set_option Elab.async false
set_option linter.all false
set_option maxRecDepth 100000
set_option maxHeartbeats 4000000
/-! DLQ: rows, lists or tuples -/
namespace DL
open PySem PySem.Spec PyProof.Rows L2
abbrev tTru (K : PySem.W.Frag) (t : TE) : TT := fun σ H Q => t σ H fun x H1 => ∃ k, TruV K x H1 k ∧ Q k H1
def iRow (K : PySem.W.Frag) (t : TE) : TI := fun σ H R => iList K t σ H R ∨ iTup K t σ H R
theorem pi_row {X : Cx} {tg l : Expr} {t : TE} (h : PE X l t) : PI X tg l (iRow X.K t) := ⟨fun pins s σ H R I q => q.elim (fun q => (pi_list h).run pins s σ H R I q) fun q => (pi_tup h).run pins s σ H R I q⟩
def rIxR (K : PySem.W.Frag) : R2 := fun x y H Q => rIxL K x y H Q ∨ rIxT K x y H Q
section
variable {K : PySem.W.Frag} {S : Stt} {ρ : Rho} {Φ : Bool → Rho → Prop} {Ψ : PyData → Prop}
theorem wi_rowL {t : TE} {Θ : List PyData → Rho → Prop} (h : WI K S (iList K t) ρ Θ) : WI K S (iRow K t) ρ Θ := fun H0 N0 Z N σ H E R q => .inl (h H0 N0 Z N σ H E R q)
theorem wi_rowT {t : TE} {Θ : List PyData → Rho → Prop} (h : WI K S (iTup K t) ρ Θ) : WI K S (iRow K t) ρ Θ := fun H0 N0 Z N σ H E R q => .inr (h H0 N0 Z N σ H E R q)
/-- list(row), tuple(row) -/
abbrev rListOf (K : PySem.W.Frag) : List V → Hp → VK → Prop := fun xs H Q => ∃ p ys, xs = [.ref p] ∧ (SqL K H p ys ∨ SqT K H p ys) ∧ ∀ l, H l = none → Q (.ref l) (upd H l (.lst ys))
abbrev rTupOf (K : PySem.W.Frag) : List V → Hp → VK → Prop := fun xs H Q => ∃ p ys, xs = [.ref p] ∧ ((SqL K H p ys ∧ ∀ l, H l = none → Q (.ref l) (upd H l (.tup ys))) ∨ (SqT K H p ys ∧ Q (.ref p) H))
theorem dc_tupL {ds : List PyData} (h : Ψ (.tuple ds)) : DC K (rTupOf K) [.list ds] Ψ := fun N H hN us hu Q q => by
  cases hu with
  | cons h1 h2 =>
    cases h2
    obtain ⟨p, xs, rfl, _, h3, h4⟩ := Dq.lst_inv h1
    refine ⟨p, xs, rfl, .inl ⟨.inl h3, fun z hz => ?_⟩⟩
    have s := same_new hz (.tup xs)
    exact q _ _ _ h s (Dq.tup (fresh_av hN hz) upd_same (h4.keep (Keep.of s)))
end
end DL

set_option Elab.async false
set_option linter.all false
set_option maxRecDepth 100000
set_option maxHeartbeats 4000000
/-! DLO: a list of one's own, read and popped; sums of parts -/
namespace DL
open PySem PySem.Spec PyProof.Rows L2
section
variable {K : PySem.W.Frag} {S : Stt} {ρ : Rho} {Φ : PyData → Rho → Prop} {Ψ : PyData → Prop}
end
end DL

set_option Elab.async false
set_option linter.all false
set_option maxRecDepth 100000
set_option maxHeartbeats 4000000
/-! DLE: a caught error that is looked at behind its suite -/
namespace DL
open PySem PySem.Spec PyProof.Rows L2
/-- what is known of an error: its class, no dict -/
def excAt (a : Addr) (cls : Value) : Heap → Prop := fun h => ∃ oe vs, h.get? a = some oe ∧ Zc cls none oe ∧ oe.data = .fields vs
section
variable {X : Cx} {pins : List (Addr × Obj)} {σ : L2.St} {H : Hp} {s sI : Shared}
end
/-- the clause 'except x as n' that takes what comes, and after whose suite the error is still known -/
def wKeep (K : PySem.W.Frag) (c : Value) (i : Nat) (ts : Addr → TS) (D : Ends) : WX := fun cls d σ H =>
  d = none ∧ PySem.W.exmOne K cls c = some true ∧ ∀ a, H a = none →
    ts a { nx := fun σ2 H2 => D.nx (σ2.set i none) (upd H2 a (.ext (excAt a cls))), rt := fun _ _ => False } (σ.set i (some (.ref a))) H
section
variable {X : Cx} {x n : Str} {c : Value} {i : Nat} {body suite : List Stmt} {st : Stmt} {np pos hpos : Pos} {tb : WX → TS} {ts : Addr → TS}
end
end DL

set_option Elab.async false
set_option linter.all false
set_option maxRecDepth 100000
set_option maxHeartbeats 4000000
namespace DL
open PySem PySem.Spec PyProof.Rows L2
def gVone : List V → List V → List V := fun _ zs => zs
def gVrev : List V → List V → List V := fun _ zs => zs.reverse
def gDrev : List PyData → List PyData → List PyData := fun _ zs => zs.reverse
def t_law_over_right (K : PySem.W.Frag) : TS :=
  (tSeq (tAsg (tC .non) (gName 2))
    (tSeq (tAsg (tC .non) (gName 3))
    (tSeq (tAsg (tLst (tCons (tCall (spP K TOver) [] E0 (tCons (tVar 0) (tCons (tVar 1) tNil))) (tCons (tCallN 0 2 (spP K TOver) gVrev E0 tNil (tCons (tVar 1) (tCons (tVar 0) tNil))) tNil))) (gName 3))
    (tSeq (tIfS (tTest (tOp rEq (tOp (rIxT K) (tVar 1) (tC (.int 0))) (tC (.int 0)))) (tRet (tOp rNotNone (tVar 2) (tC .non))) tNext)
    (tRet (tAndV (tOp rIsNone (tVar 2) (tC .non)) (tOp (rEqD K) (tVar 3) (tOp rRepL (tLst (tCons (tCall (spP K TPart) [] E0 (tCons (tOp rMulI (tOp (rIxT K) (tVar 0) (tC (.int 0))) (tOp (rIxT K) (tVar 1) (tC (.int 1)))) (tCons (tOp rMulI (tOp (rIxT K) (tVar 0) (tC (.int 1))) (tOp (rIxT K) (tVar 1) (tC (.int 0)))) tNil))) tNil)) (tC (.int 2))))))))))
def t_law_whole_right (K : PySem.W.Frag) : TS :=
  (tSeq (tPar 1 2 (tCons (tCall (spP K TFloor) [] E0 (tCons (tVar 0) tNil)) (tCons (tCall (spP K TCeil) [] E0 (tCons (tVar 0) tNil)) tNil)))
    (tSeq (tIfS (tTest (tOp rNe (tCB (rRepr K) (tCons (tLst (tCons (tCallN 0 1 (spP K TFloor) gVone E0 tNil (tCons (tVar 0) tNil)) (tCons (tCallN 0 1 (spP K TCeil) gVone E0 tNil (tCons (tVar 0) tNil)) tNil))) tNil)) (tCB (rRepr K) (tCons (tLst (tCons (tVar 1) (tCons (tVar 2) tNil))) tNil)))) (tRet (tC (.bl false))) tNext)
    (tSeq (tIfS (tOr (tNot (tB (tCB (rIsi K) (tCons (tVar 1) (tCons (tC (.ty "int")) tNil))))) (tOr (tB (tCB (rIsi K) (tCons (tVar 1) (tCons (tC (.ty "bool")) tNil)))) (tOr (tNot (tB (tCB (rIsi K) (tCons (tVar 2) (tCons (tC (.ty "int")) tNil))))) (tB (tCB (rIsi K) (tCons (tVar 2) (tCons (tC (.ty "bool")) tNil))))))) (tRet (tC (.bl false))) tNext)
    (tSeq (tIfS (tOr (tTest (tOp rGt (tOp rMulI (tVar 1) (tOp (rIxT K) (tVar 0) (tC (.int 1)))) (tOp (rIxT K) (tVar 0) (tC (.int 0))))) (tTest (tOp rLe (tOp rMulI (tOp rAddI (tVar 1) (tC (.int 1))) (tOp (rIxT K) (tVar 0) (tC (.int 1)))) (tOp (rIxT K) (tVar 0) (tC (.int 0)))))) (tRet (tC (.bl false))) tNext)
    (tRet (tAndV (tOp rGe (tOp rMulI (tVar 2) (tOp (rIxT K) (tVar 0) (tC (.int 1)))) (tOp (rIxT K) (tVar 0) (tC (.int 0)))) (tOp rLt (tOp rMulI (tOp rSubI (tVar 2) (tC (.int 1))) (tOp (rIxT K) (tVar 0) (tC (.int 1)))) (tOp (rIxT K) (tVar 0) (tC (.int 0))))))))))
def t_law_right (K : PySem.W.Frag) : TS :=
  (tSeq (tIfS (tOr (tTest (tOp (rNeD K) (tCall (spP K TPlus) [] E0 (tCons (tVar 0) (tCons (tVar 1) tNil))) (tCall (spP K TPlus) [] E0 (tCons (tVar 0) (tCons (tVar 1) tNil))))) (tTest (tOp (rNeD K) (tCall (spP K TLess) [] E0 (tCons (tVar 0) (tCons (tVar 1) tNil))) (tCall (spP K TLess) [] E0 (tCons (tVar 0) (tCons (tVar 1) tNil)))))) (tRet (tC (.bl false))) tNext)
    (tSeq (tIfS (tOr (tTest (tOp (rNeD K) (tCallN 0 2 (spP K TPlus) gVrev E0 tNil (tCons (tVar 1) (tCons (tVar 0) tNil))) (tCall (spP K TPlus) [] E0 (tCons (tVar 0) (tCons (tVar 1) tNil))))) (tTest (tOp (rNeD K) (tCallN 0 2 (spP K TLess) gVrev E0 tNil (tCons (tVar 1) (tCons (tVar 0) tNil))) (tCall (spP K TLess) [] E0 (tCons (tVar 0) (tCons (tVar 1) tNil)))))) (tRet (tC (.bl false))) tNext)
    (tSeq (tIfS (tOr (tTest (tOp (rNeD K) (tCallN 0 2 (spP K TTimes) gVrev E0 tNil (tCons (tVar 1) (tCons (tVar 0) tNil))) (tCall (spP K TTimes) [] E0 (tCons (tVar 0) (tCons (tVar 1) tNil))))) (tTest (tOp rNe (tCallN 0 2 (spP K TUnder) gVrev E0 tNil (tCons (tVar 1) (tCons (tVar 0) tNil))) (tCall (spP K TUnder) [] E0 (tCons (tVar 0) (tCons (tVar 1) tNil)))))) (tRet (tC (.bl false))) tNext)
    (tSeq (tIfS (tOr (tTest (tOp (rNeD K) (tCall (spP K TTimes) [] E0 (tCons (tVar 0) (tCons (tVar 1) tNil))) (tCall (spP K TTimes) [] E0 (tCons (tVar 0) (tCons (tVar 1) tNil))))) (tNot (tB (tCall (spP K TRight2) [] E0 (tCons (tVar 0) (tCons (tVar 1) tNil)))))) (tRet (tC (.bl false))) tNext)
    (tSeq (tIfS (tTest (tOp rNe (tCB (rRepr K) (tCons (tLst (tCons (tCall (spP K TUnder) [] E0 (tCons (tVar 0) (tCons (tVar 1) tNil))) (tCons (tCall (spP K TUnder) [] E0 (tCons (tVar 1) (tCons (tVar 0) tNil))) tNil))) tNil)) (tCB (rRepr K) (tCons (tLst (tCons (tCall (spP K TUnder) [] E0 (tCons (tVar 0) (tCons (tVar 1) tNil))) (tCons (tCall (spP K TUnder) [] E0 (tCons (tVar 1) (tCons (tVar 0) tNil))) tNil))) tNil)))) (tRet (tC (.bl false))) tNext)
    (tRet (tAndV (tCall (spP K TRight1) [] E0 (tCons (tVar 0) tNil)) (tCall (spP K TRight1) [] E0 (tCons (tVar 1) tNil)))))))))

section
variable {K : PySem.W.Frag} {S : Stt} {ρ : Rho} {Φ : PyData → Rho → Prop} {Ψ : PyData → Prop}
end
local macro_rules | `(tactic| walk_at "dl") => `(tactic| repeat' (first
  | with_reducible refine wd_isTy ?_ | with_reducible refine wd_isi ?_ | with_reducible refine wd_op ?_ | ((with_reducible show WD _ _ (tCB (rLenX _) (tCons (tVar _) tNil)) _ _); refine wd_len_scr rfl ?_) | with_reducible refine wd_cb ?_ | with_reducible refine wd_un ?_ | with_reducible refine wa_cons ?_ | with_reducible refine wa_nil ?_ | ((with_reducible show WD _ _ (tVar _) _ _); refine wd_var rfl ?_) | with_reducible refine wd_int ?_ | with_reducible refine wd_bl ?_ | with_reducible refine wd_str ?_ | with_reducible refine wd_non ?_
  | with_reducible refine do_nePr ?_ | with_reducible refine do_nebS ?_ | with_reducible refine do_nesS ?_ | with_reducible refine do_isNn ?_ | with_reducible refine do_add ?_ | with_reducible refine do_sub ?_ | ((with_reducible refine do_mod ?_ ?_); decide) | with_reducible refine do_mod ?_ ?_ | with_reducible refine do_mul ?_ ?_ | ((with_reducible refine do_div ?_ ?_); exact ⟨by decide, by decide⟩) | with_reducible refine do_div ?_ ?_ | ((with_reducible refine do_pow ?_ ?_); exact ⟨by decide, by decide, by decide⟩) | with_reducible refine do_pow ?_ ?_
  | with_reducible refine do_lt ?_ | with_reducible refine do_le ?_ | with_reducible refine do_gt ?_ | with_reducible refine do_ge ?_ | with_reducible refine du_neg ?_
  | with_reducible refine do_eqi ?_ | with_reducible refine do_nei ?_ | with_reducible refine do_eqs ?_ | with_reducible refine do_nes ?_ | with_reducible refine dc_abs ?_ | with_reducible refine dc_min ?_ | with_reducible refine dc_max ?_ | with_reducible refine dc_lenL ?_ | with_reducible refine dc_lenT ?_ | with_reducible refine dc_gcd ?_
  | ((with_reducible show DO _ (rIxT _) _ _ _); refine do_ixT rfl ?_) | ((with_reducible show DO _ (rIxL _) _ _ _); refine do_ixL rfl ?_) | ((with_reducible refine do_catL ?_ ?_); exact Nat.le_of_ble_eq_true rfl) | with_reducible refine do_catL ?_ ?_ | ((with_reducible show And (List.length _ ≤ sizeLine) _); refine ⟨Nat.le_of_ble_eq_true rfl, ?_⟩)
  | with_reducible refine wd_dnew ?_ | with_reducible refine wd_c2 rfl rfl (by assumption) (by first | assumption | exact trivial) ?_ | with_reducible refine wd_n2 rfl rfl (by assumption) (by first | assumption | exact trivial) ?_ | with_reducible refine wd_c1 rfl (by assumption) (by assumption) ?_ | with_reducible refine wd_n1 rfl (by assumption) (by assumption) ?_ | with_reducible refine wd_call0 ?_ | with_reducible refine dc_str ?_ ?_ | with_reducible refine wd_tup ?_ | with_reducible refine wd_lst ?_ | with_reducible refine wt_test ?_ | with_reducible refine wt_B ?_ | with_reducible refine wt_not ?_ | with_reducible refine wt_and ?_ | with_reducible refine wt_or ?_ | with_reducible refine wd_ifE ?_ | with_reducible refine wd_andV ?_ | with_reducible refine wd_orV ?_ | with_reducible refine wd_notV ?_
  | with_reducible refine ws_seq ?_ | with_reducible refine ws_next ?_ | with_reducible refine ws_asg ?_ | with_reducible refine ws_ret ?_ | with_reducible refine ws_retN ?_ | with_reducible refine ws_if ?_ | with_reducible refine ws_par ?_ | with_reducible refine ws_unp2 ?_
  | with_reducible refine if_t ?_ | with_reducible refine if_f ?_ | with_reducible refine if_nf ?_ | with_reducible refine if_nt ?_
  | ((with_reducible show Exists _); first | refine ⟨_, kitInt _, ?_⟩ | refine ⟨_, kitBool _, ?_⟩ | refine ⟨_, kitTup _, ?_⟩ | refine ⟨_, kitList _, ?_⟩ | refine ⟨_, rfl, ?_⟩ | refine ⟨_, _, rfl, ?_⟩ | fail) | fail))
section
variable {K : PySem.W.Frag} {ds : List PyData} {Φ : PyData → Prop}
end
end DL

set_option Elab.async false
set_option linter.all false
set_option maxRecDepth 100000
set_option maxHeartbeats 4000000
namespace DL
open PySem PySem.Spec PyProof.Rows L2
local macro_rules | `(tactic| walk_at "dl") => `(tactic| repeat' (first
  | with_reducible refine wd_isTy ?_ | with_reducible refine wd_isi ?_ | with_reducible refine wd_op ?_ | ((with_reducible show WD _ _ (tCB (rLenX _) (tCons (tVar _) tNil)) _ _); refine wd_len_scr rfl ?_) | with_reducible refine wd_cb ?_ | with_reducible refine wd_un ?_ | with_reducible refine wa_cons ?_ | with_reducible refine wa_nil ?_ | ((with_reducible show WD _ _ (tVar _) _ _); refine wd_var rfl ?_) | with_reducible refine wd_int ?_ | with_reducible refine wd_bl ?_ | with_reducible refine wd_str ?_ | with_reducible refine wd_non ?_
  | with_reducible refine do_nesS ?_ | with_reducible refine do_add ?_ | with_reducible refine do_sub ?_ | ((with_reducible refine do_mod ?_ ?_); decide) | with_reducible refine do_mod ?_ ?_ | with_reducible refine do_mul ?_ ?_ | ((with_reducible refine do_div ?_ ?_); exact ⟨by decide, by decide⟩) | with_reducible refine do_div ?_ ?_ | ((with_reducible refine do_pow ?_ ?_); exact ⟨by decide, by decide, by decide⟩) | with_reducible refine do_pow ?_ ?_
  | with_reducible refine do_lt ?_ | with_reducible refine do_le ?_ | with_reducible refine do_gt ?_ | with_reducible refine do_ge ?_ | with_reducible refine du_neg ?_
  | with_reducible refine do_eqi ?_ | with_reducible refine do_nei ?_ | with_reducible refine do_eqs ?_ | with_reducible refine do_nes ?_ | with_reducible refine dc_abs ?_ | with_reducible refine dc_min ?_ | with_reducible refine dc_max ?_ | with_reducible refine dc_lenL ?_ | with_reducible refine dc_lenT ?_ | with_reducible refine dc_gcd ?_
  | ((with_reducible show DO _ (rIxT _) _ _ _); refine do_ixT rfl ?_) | ((with_reducible show DO _ (rIxL _) _ _ _); refine do_ixL rfl ?_) | ((with_reducible refine do_catL ?_ ?_); exact Nat.le_of_ble_eq_true rfl) | with_reducible refine do_catL ?_ ?_ | ((with_reducible show And (List.length _ ≤ sizeLine) _); refine ⟨Nat.le_of_ble_eq_true rfl, ?_⟩)
  | with_reducible refine wd_dnew ?_ | with_reducible refine wd_call0 ?_ | with_reducible refine dc_str ?_ ?_ | with_reducible refine wd_tup ?_ | with_reducible refine wd_lst ?_ | with_reducible refine wt_test ?_ | with_reducible refine wt_B ?_ | with_reducible refine wt_not ?_ | with_reducible refine wt_and ?_ | with_reducible refine wt_or ?_ | with_reducible refine wd_ifE ?_ | with_reducible refine wd_andV ?_ | with_reducible refine wd_orV ?_ | with_reducible refine wd_notV ?_
  | with_reducible refine ws_seq ?_ | with_reducible refine ws_next ?_ | with_reducible refine ws_asg ?_ | with_reducible refine ws_ret ?_ | with_reducible refine ws_retN ?_ | with_reducible refine ws_if ?_ | with_reducible refine ws_par ?_ | with_reducible refine ws_unp2 ?_
  | with_reducible refine if_t ?_ | with_reducible refine if_f ?_ | with_reducible refine if_nf ?_ | with_reducible refine if_nt ?_
  | ((with_reducible show Exists _); first | refine ⟨_, kitInt _, ?_⟩ | refine ⟨_, kitBool _, ?_⟩ | refine ⟨_, kitTup _, ?_⟩ | refine ⟨_, kitList _, ?_⟩ | refine ⟨_, rfl, ?_⟩ | refine ⟨_, _, rfl, ?_⟩ | fail) | fail))
def gVapp : List V → List V → List V := fun vs zs => vs ++ zs
def gDapp : List PyData → List PyData → List PyData := fun vs zs => vs ++ zs
def gVone1 : List V → List V → List V := fun _ zs => zs ++ [.int 1]
def gDone1 : List PyData → List PyData → List PyData := fun _ zs => zs ++ [.int 1]
def TNumber : Nat → List PyData → (PyData → Nat → Prop) → Prop := fun B ds Φ => ds = [] ∧ B + 2400 ≤ 2 ^ 40 ∧ ∀ n : Int, n.natAbs < 2 ^ 100 → Φ (.int n) (B + 2400)
def TRefused : List PyData → (PyData → Prop) → Prop := fun ds Φ => ∃ a w : Int, ds = [.int a, .int w] ∧ Φ (.bool true)
def t_law_number (K : PySem.W.Frag) : TS :=
  (tSeq (tAsg (tCall (spS K FSto TDr) [] E0 (tCons (tVar 0) (tCons (tC (.int 5)) tNil))) (gName 1))
    (tSeq (tAsg (tLst (tCons (tC (.int 0)) (tCons (tOp rAddI (tC (.int 1)) (tCall (spS K FSto TDr) [] E0 (tCons (tVar 0) (tCons (tC (.int 12)) tNil)))) (tCons (tCall (spS K FSto TDr) [] E0 (tCons (tVar 0) (tCons (tC (.int 1000)) tNil))) (tCons (tCall (spS K FSto TDr) [] E0 (tCons (tVar 0) (tCons (tOp rPowI (tC (.int 10)) (tC (.int 30))) tNil))) tNil))))) (gName 2))
    (tRet (tOp rMulI (tOp (rIxL K) (tOp rCatL (tVar 2) (tLst (tCons (tOp rMulI (tC (.int 360)) (tCall (spS K FSto TDr) [] E0 (tCons (tVar 0) (tCons (tC (.int 99)) tNil)))) tNil))) (tVar 1)) (tOp (rIxL K) (tLst (tCons (tC (.int 1)) (tCons (tUn rNegI (tC (.int 1))) tNil))) (tCall (spS K FSto TDr) [] E0 (tCons (tVar 0) (tCons (tC (.int 2)) tNil))))))))
section
variable {K : PySem.W.Frag} {S : Stt}
local macro_rules | `(tactic| walk_at "dl") => `(tactic| repeat' (first
  | with_reducible refine wd_isTy ?_ | with_reducible refine wd_isi ?_ | with_reducible refine wd_op ?_ | ((with_reducible show WD _ _ (tCB (rLenX _) (tCons (tVar _) tNil)) _ _); refine wd_len_scr rfl ?_) | with_reducible refine wd_cb ?_ | with_reducible refine wd_un ?_ | with_reducible refine wa_cons ?_ | with_reducible refine wa_nil ?_ | ((with_reducible show WD _ _ (tVar _) _ _); refine wd_var rfl ?_) | with_reducible refine wd_int ?_ | with_reducible refine wd_bl ?_ | with_reducible refine wd_str ?_ | with_reducible refine wd_non ?_
  | with_reducible refine do_nesS ?_ | with_reducible refine do_add ?_ | with_reducible refine do_sub ?_ | ((with_reducible refine do_mod ?_ ?_); decide) | with_reducible refine do_mod ?_ ?_ | with_reducible refine do_mul ?_ ?_ | ((with_reducible refine do_div ?_ ?_); exact ⟨by decide, by decide⟩) | with_reducible refine do_div ?_ ?_ | ((with_reducible refine do_pow ?_ ?_); exact ⟨by decide, by decide, by decide⟩) | with_reducible refine do_pow ?_ ?_
  | with_reducible refine do_lt ?_ | with_reducible refine do_le ?_ | with_reducible refine do_gt ?_ | with_reducible refine do_ge ?_ | with_reducible refine du_neg ?_
  | with_reducible refine do_eqi ?_ | with_reducible refine do_nei ?_ | with_reducible refine do_eqs ?_ | with_reducible refine do_nes ?_ | with_reducible refine dc_abs ?_ | with_reducible refine dc_min ?_ | with_reducible refine dc_max ?_ | with_reducible refine dc_lenL ?_ | with_reducible refine dc_lenT ?_ | with_reducible refine dc_gcd ?_
  | ((with_reducible show DO _ (rIxT _) _ _ _); refine do_ixT rfl ?_) | ((with_reducible show DO _ (rIxL _) _ _ _); refine do_ixL rfl ?_) | ((with_reducible refine do_catL ?_ ?_); exact Nat.le_of_ble_eq_true rfl) | with_reducible refine do_catL ?_ ?_ | ((with_reducible show And (List.length _ ≤ sizeLine) _); refine ⟨Nat.le_of_ble_eq_true rfl, ?_⟩)
  | with_reducible refine wd_dnew ?_ | with_reducible refine wd_pt rfl rfl (by assumption) (by assumption) (by assumption) ?_ | with_reducible refine wd_ptR rfl rfl (by assumption) (by assumption) (by assumption) ?_ | with_reducible refine wd_ptB rfl rfl (by assumption) (by assumption) (by assumption) ?_ | with_reducible refine wd_ptD rfl (by assumption) ?_ | with_reducible refine wd_ptA rfl (by assumption) ?_ | with_reducible refine wd_call0 ?_ | with_reducible refine dc_str ?_ ?_ | with_reducible refine wd_tup ?_ | with_reducible refine wd_lst ?_ | with_reducible refine wt_test ?_ | with_reducible refine wt_B ?_ | with_reducible refine wt_not ?_ | with_reducible refine wt_and ?_ | with_reducible refine wt_or ?_ | with_reducible refine wd_ifE ?_ | with_reducible refine wd_andV ?_ | with_reducible refine wd_orV ?_ | with_reducible refine wd_notV ?_
  | with_reducible refine ws_seq ?_ | with_reducible refine ws_next ?_ | with_reducible refine ws_asg ?_ | with_reducible refine ws_ret ?_ | with_reducible refine ws_retN ?_ | with_reducible refine ws_if ?_ | with_reducible refine ws_par ?_ | with_reducible refine ws_unp2 ?_
  | with_reducible refine if_t ?_ | with_reducible refine if_f ?_ | with_reducible refine if_nf ?_ | with_reducible refine if_nt ?_
  | ((with_reducible show Exists _); first | refine ⟨_, kitInt _, ?_⟩ | refine ⟨_, kitBool _, ?_⟩ | refine ⟨_, kitTup _, ?_⟩ | refine ⟨_, kitList _, ?_⟩ | refine ⟨_, rfl, ?_⟩ | refine ⟨_, _, rfl, ?_⟩ | fail) | fail))
def t_tail3 (K : PySem.W.Frag) : TS :=
    (tSeq (tAsg (tCall (spP K TPart) [] E0 (tCons (tVar 3) (tCons (tVar 4) tNil))) (gName 5))
    (tSeq (tIfS (tTest (tOp rNe (tCB (rRepr K) (tCons (tLst (tCons (tCall (spP K TPart) [] E0 (tCons (tVar 3) (tCons (tVar 4) tNil))) (tCons (tCallN 0 2 (spP K TPart) gVrev E0 tNil (tCons (tVar 4) (tCons (tVar 3) tNil))) (tCons (tCallN 1 1 (spP K TPart) gVapp E0 (tCons (tVar 3) tNil) (tCons (tVar 4) tNil)) tNil)))) tNil)) (tCB (rRepr K) (tCons (tLst (tCons (tVar 5) (tCons (tVar 5) (tCons (tVar 5) tNil)))) tNil)))) (tRet (tC (.bl false))) tNext)
    (tIfS (tTest (tOp rNe (tCB (rRepr K) (tCons (tLst (tCons (tCall (spP K TPart) [.int 1] E0 (tCons (tVar 3) tNil)) (tCons (tCallN 0 1 (spP K TPart) gVone1 E0 tNil (tCons (tVar 3) tNil)) tNil))) tNil)) (tCB (rRepr K) (tCons (tLst (tCons (tTup (tCons (tVar 3) (tCons (tC (.int 1)) tNil))) (tCons (tTup (tCons (tVar 3) (tCons (tC (.int 1)) tNil))) tNil))) tNil)))) (tRet (tC (.bl false))) tNext)))
def t_law_rest3 (K : PySem.W.Frag) (aN aO : Addr) : TS :=
    (tSeq (tFor (iRng1 (tCons (tOp rAddI (tC (.int 20)) (tCB rMinX (tCons (tC (.int 40)) (tCons (tCB (rLenX K) (tCons (tVar 0) tNil)) tNil)))) tNil)) (gName 2) (tSeq (tAsg (tCall (spS K FSto TNumber) [] E0 (tCons (tVar 1) tNil)) (gName 3))
    (tSeq (tAsg (tCall (spS K FSto TNumber) [] E0 (tCons (tVar 1) tNil)) (gName 4))
    (tSeq (tIfS (tTest (tOp rEq (tVar 4) (tC (.int 0)))) (tSeq (tIfS (tOr (tNot (tB (tCall (spP K TRefused) [] E0 (tCons (tVar 3) (tCons (tC (.int 0)) tNil))))) (tNot (tB (tCall (spP K TRefused) [] E0 (tCons (tVar 3) (tCons (tC (.int 1)) tNil)))))) (tRet (tC (.bl false))) tNext)
    (tAsg (tC (.int 1)) (gName 4))) tNext)
    (tSeq (tAsg (tCall (spP K TPart) [] E0 (tCons (tVar 3) (tCons (tVar 4) tNil))) (gName 5))
    (tSeq (tIfS (tTest (tOp rNe (tCB (rRepr K) (tCons (tLst (tCons (tCall (spP K TPart) [] E0 (tCons (tVar 3) (tCons (tVar 4) tNil))) (tCons (tCallN 0 2 (spP K TPart) gVrev E0 tNil (tCons (tVar 4) (tCons (tVar 3) tNil))) (tCons (tCallN 1 1 (spP K TPart) gVapp E0 (tCons (tVar 3) tNil) (tCons (tVar 4) tNil)) tNil)))) tNil)) (tCB (rRepr K) (tCons (tLst (tCons (tVar 5) (tCons (tVar 5) (tCons (tVar 5) tNil)))) tNil)))) (tRet (tC (.bl false))) tNext)
    (tIfS (tTest (tOp rNe (tCB (rRepr K) (tCons (tLst (tCons (tCall (spP K TPart) [.int 1] E0 (tCons (tVar 3) tNil)) (tCons (tCallN 0 1 (spP K TPart) gVone1 E0 tNil (tCons (tVar 3) tNil)) tNil))) tNil)) (tCB (rRepr K) (tCons (tLst (tCons (tTup (tCons (tVar 3) (tCons (tC (.int 1)) tNil))) (tCons (tTup (tCons (tVar 3) (tCons (tC (.int 1)) tNil))) tNil))) tNil)))) (tRet (tC (.bl false))) tNext)))))))
    (tRet (tAndV (tOp (rEqD K) (tCall (spP K TPart) [] E0 (tCons (tC (.int 0)) (tCons (tC (.int 7)) tNil))) (tC (.ref aN))) (tAndV (tOp (rEqD K) (tCall (spP K TPart) [] E0 (tCons (tUn rNegI (tC (.int 3))) (tCons (tUn rNegI (tC (.int 3))) tNil))) (tC (.ref aO))) (tAndV (tOp (rEqD K) (tC (.ref aN)) (tTup (tCons (tC (.int 0)) (tCons (tC (.int 1)) tNil)))) (tOp (rEqD K) (tC (.ref aO)) (tTup (tCons (tC (.int 1)) (tCons (tC (.int 1)) tNil)))))))))
end
end DL

set_option Elab.async false
set_option linter.all false
set_option maxRecDepth 100000
set_option maxHeartbeats 4000000
namespace DL
open PySem PySem.Spec PyProof.Rows L2
/-! ### isinstance of a kept error -/
def rIsiE (K : PySem.W.Frag) (D : Addr) : List V → Hp → VK → Prop := fun xs H Q => ∃ (a : Addr) (c : V) (u : Value) (b : Bool), xs = [.ref a, c] ∧ ClsV c u ∧ H a = some (.ext (excAt a (.ref D))) ∧ PySem.W.kitOne K (.ref D) u = some b ∧ Q (.bl b) H
def rIsiET (K : PySem.W.Frag) (D : Addr) : List V → Hp → VK → Prop := fun xs H Q => ∃ (a tp : Addr) (cs : List V) (us : List Value) (b : Bool), xs = [.ref a, .ref tp] ∧ H tp = some (.tup cs) ∧ Paired ClsV cs us ∧ H a = some (.ext (excAt a (.ref D))) ∧ PySem.W.kitAny K (.ref D) us = some b ∧ Q (.bl b) H
section
variable {X : Cx} {pins : List (Addr × Obj)} {σ : L2.St} {H : Hp} {s : Shared} {a D : Addr}
end
/-! ### a call by names that may be refused, in a try -/
def tCallNS (m : Nat) (sp : Sp) (gV : List V → List V → List V) (E : L2.St → XK) (tk : TA) : TE := fun σ H Q => tk σ H fun zs H2 => zs.length = m ∧ sp (gV [] zs) H2 Q (E σ)
/-! ### the judge of refusals -/
def ts_rf (a : Addr) : TS := tAsg (tVar 3) (gName 2)
def tb_rf (K : PySem.W.Frag) (C : Addr) (W : WX) : TS := tIfS (tTest (tOp rEq (tVar 1) (tC (.int 0)))) (tDrop (tCallS (spX K (TPartX C)) (WE W) (tCons (tVar 0) (tCons (tC (.int 0)) tNil))))
  (tDrop (tCallNS 2 (spX K (TPartX C)) gVrev (WE W) (tCons (tC (.int 0)) (tCons (tVar 0) tNil))))
def te_rf (K : PySem.W.Frag) (C P : Addr) : TE := tAndV (tCB (rIsiE K C) (tCons (tVar 2) (tCons (tC (.ty "ZeroDivisionError")) tNil))) (tNotV (tCB (rIsiET K C) (tCons (tVar 2) (tCons (tTup (tCons (tC (.ref P)) (tCons (tC (.ty "ValueError")) tNil))) tNil))))
def t_rf (K : PySem.W.Frag) (C P : Addr) : TS :=
  (tSeq (tAsg (tC .non) (gName 2))
    (tSeq (fun D σ H => tb_rf K C (wKeep K (.ref C) 3 ts_rf D) D σ H)
    (tRet (te_rf K C P))))
end DL
namespace DL
open PySem PySem.Spec PyProof.Rows L2
def excCB (K : PySem.W.Frag) (D : Addr) : Bool := decide (PySem.W.findIn K (.ref D) "__getattribute__" = some (some (.builtin "BaseException.__getattribute__"))) && (decide (PySem.W.findIn K (.ref D) "__getattr__" = some none) &&
  (decide (PySem.W.subIn K (.ref D) (.type "BaseException") = some true) && (PySem.W.hasDictIn K D && (decide (PySem.W.findIn K (.ref D) "__class__" = some (some (.builtin "object.__class__"))) &&
  (decide (PySem.W.specialIn K (.builtin "object.__class__") "__get__" = some (some (.builtin "getset_descriptor.__get__"))) && (decide (PySem.W.takesIn K (.builtin "object.__class__") = some true) && decide (PySem.W.mroIn K D (.type "object") = some true)))))))
end DL

set_option Elab.async false
set_option linter.all false
set_option maxRecDepth 100000
set_option maxHeartbeats 4000000
/-! DM2: a pot of draws, made anew at each turn -/
namespace DL
open PySem PySem.Spec PyProof.Rows L2
structure PotL (ns : List Int) (B : Nat) : Prop where
  ex : ∃ a b c : Int, ns = [a, b, c] ∧ 0 ≤ a ∧ 0 ≤ b ∧ b < 2 ^ 62 ∧ 0 ≤ c ∧ c ≤ B
def mkP (a : Addr) : Stt where
  a := a
  fp b := decide (b = a)
  ok H B := ∃ ns, PotL ns B ∧ H a = some (.lst (ns.map V.int))
  loc H H' B h k := by
    obtain ⟨ns, h1, h2⟩ := k
    exact ⟨ns, h1, (h a (by simp)).trans h2⟩
  trk H B k b hb := by
    obtain ⟨ns, h1, h2⟩ := k
    have e : b = a := of_decide_eq_true hb
    rw [e, h2]; simp
def FPot (S : Stt) : Prop := ∃ a, S = mkP a
/-- a new list of whole numbers -/
def spN (K : PySem.W.Frag) (T : List PyData → (List Int → Prop) → Prop) : Sp := fun vs H Q _ => ∃ (N : Av) (ds : List PyData) (Φ : List Int → Prop),
  (∀ b, N b = true → H b ≠ none) ∧ DqAll K N H vs ds ∧ T ds Φ ∧ ∀ ns, Φ ns → ∀ p H', H p = none → Same H H' → H' p = some (.lst (ns.map V.int)) → Q (.ref p) H'
section
variable {K : PySem.W.Frag} {S : Stt} {ρ : Rho} {Φ : PyData → Rho → Prop} {Ψ : PyData → Prop}
/-- a call on a pot of one's own -/
theorem wd_callO {T : Nat → List PyData → (PyData → Nat → Prop) → Prop} {E : XK} {ta : TA} {i : Nat} {es : List PyData} (hi : ρ[i]? = some (.own es))
    (h : WA K S ta ρ fun xs ρ1 => ∃ ns B, ρ1[i]? = some (.own (ns.map PyData.int)) ∧ PotL ns B ∧ T B xs fun d B' => ∀ ns', PotL ns' B' → Φ d (ρ1.set i (.own (ns'.map PyData.int)))) :
    WD K S (tCall (spS K FPot T) [] E (tCons (tVar i) ta)) ρ Φ := fun H0 N0 Z N σ H E' Q q => by
  obtain ⟨p, _, hs, _⟩ := E'.slot i _ hi
  refine ⟨_, hs, h H0 N0 Z N σ H E' _ fun vs xs ρ1 H1 ⟨ns, B, e, pl, f⟩ E1 k1 d1 => ?_⟩
  obtain ⟨p', xs', g1, g2, g3, g4, g5, g6, g7⟩ := E1.slot i _ e
  rw [hs] at g1; cases g1
  obtain rfl := g7.of_ints
  have hle : Le (mkP p).fp N := fun b hb => by
    have : b = p := of_decide_eq_true hb
    rw [this]; exact g2
  refine ⟨mkP p, N, vs, xs, B, _, by simp; rfl, ⟨p, rfl⟩, ⟨ns, pl, g6⟩, hle, E1.trk, d1, f, fun d B' fd v H2 fr ok2 dv => ?_⟩
  obtain ⟨ns', pl', hp'⟩ := ok2
  have s2 : Same (upd H1 p (.lst (ns'.map V.int))) H2 := fun b o hb => by
    by_cases z : b = p
    · subst z; rw [upd_same] at hb; cases hb; exact hp'
    · rw [upd_ne z] at hb; exact fr b o (decide_eq_false z) hb
  have E2 := (E1.chg (xs := ns.map V.int) (ys := ns'.map V.int) (es := ns'.map PyData.int) e hs DqAll.ints).ext s2
  refine q v d _ H2 (fd ns' pl') E2 (k1.trans fun b o n hb => ?_) dv
  exact fr b o (decide_eq_false fun z => by rw [z, g2] at n; cases n) hb
end
/-! ### the draw -/
def TTake : Nat → List PyData → (PyData → Nat → Prop) → Prop := fun B ds Φ => ∃ m : Int, ds = [.int m] ∧ 1 ≤ m ∧ m ≤ 2 ^ 40 ∧ B ≤ 2 ^ 40 ∧ ∀ d : Int, 0 ≤ d → d < m → Φ (.int d) (B + 1)
def t_take (K : PySem.W.Frag) : TS :=
  (tSeq (tIfS (tTest (tOp rGe (tOp (rIxL K) (tVar 0) (tC (.int 0))) (tVar 1))) (tSeq (tAsg (tOp rModI (tOp (rIxL K) (tVar 0) (tC (.int 0))) (tVar 1)) (gName 2))
    (tSeq (tAsg (tOp rDivI (tOp (rIxL K) (tVar 0) (tC (.int 0))) (tVar 1)) (gSub (tVar 0) (tC (.int 0)) rSetL))
    (tRet (tVar 2)))) tNext)
    (tSeq (tAsg (tOp rAddI (tOp (rIxL K) (tVar 0) (tC (.int 2))) (tC (.int 1))) (gSub (tVar 0) (tC (.int 2)) rSetL))
    (tSeq (tAsg (tLst (tCons (tC (.int 2147483647)) (tCons (tC (.int 2147483629)) (tCons (tC (.int 2147483587)) (tCons (tC (.int 2147483579)) tNil))))) (gName 3))
    (tSeq (tAsg (tOp rCatL (tVar 3) (tLst (tCons (tC (.int 2147483563)) (tCons (tC (.int 2147483549)) (tCons (tC (.int 2147483543)) (tCons (tC (.int 2147483497)) tNil)))))) (gName 3))
    (tSeq (tAsg (tOp (rIxL K) (tVar 3) (tOp rModI (tOp (rIxL K) (tVar 0) (tC (.int 2))) (tC (.int 8)))) (gName 4))
    (tSeq (tAsg (tOp rModI (tOp rPowI (tOp rAddI (tOp rModI (tOp (rIxL K) (tVar 0) (tC (.int 1))) (tVar 4)) (tOp rMulI (tC (.int 104729)) (tOp (rIxL K) (tVar 0) (tC (.int 2))))) (tC (.int 3))) (tVar 4)) (gName 5))
    (tSeq (tAsg (tOp rAddI (tOp rAddI (tOp rAddI (tOp rMulI (tVar 5) (tVar 5)) (tOp rMulI (tOp rMulI (tC (.int 31)) (tOp (rIxL K) (tVar 0) (tC (.int 2)))) (tVar 5))) (tOp rModI (tOp (rIxL K) (tVar 0) (tC (.int 1))) (tC (.int 1000003)))) (tC (.int 7))) (gName 6))
    (tSeq (tAsg (tOp rModI (tVar 6) (tOp (rIxL K) (tVar 3) (tOp rModI (tOp rAddI (tOp (rIxL K) (tVar 0) (tC (.int 2))) (tC (.int 3))) (tC (.int 8))))) (gName 6))
    (tRet (tOp rModI (tOp rDivI (tOp rModI (tOp rPowI (tVar 6) (tC (.int 3))) (tOp (rIxL K) (tVar 3) (tOp rModI (tOp rAddI (tOp (rIxL K) (tVar 0) (tC (.int 2))) (tC (.int 5))) (tC (.int 8))))) (tC (.int 64))) (tVar 1)))))))))))
end DL

set_option Elab.async false
set_option linter.all false
/-! LM1: parts as rationals, their sizes -/
namespace DL
/-- the height of a part -/
def hgt (q : Rat) : Nat := q.num.natAbs + q.den
/-- the bits of a part -/
def sz (q : Rat) : Nat := (hgt q).log2 + 1
/-- a pair in lowest terms, of two whole numbers -/
def nrm' (a b : Int) : Int × Int := ((if 0 < b then a else -a) / ((Nat.gcd a.natAbs b.natAbs : Nat) : Int), ((b.natAbs : Nat) : Int) / ((Nat.gcd a.natAbs b.natAbs : Nat) : Int))
end DL

set_option Elab.async false
set_option linter.all false
/-! LM2: lines -/
namespace DL
abbrev Kn := List (Rat × Rat)
def kn (ks : Kn) (i : Nat) : Rat × Rat := ks.getD i (0, 0)
/-- the slope behind a knot -/
def slp (ks : Kn) (s : Rat) (i : Nat) : Rat := if i + 1 < ks.length then ((kn ks (i + 1)).2 - (kn ks i).2) / ((kn ks (i + 1)).1 - (kn ks i).1) else s
def Rising (ks : Kn) : Prop := ∀ i, i + 1 < ks.length → (kn ks i).1 < (kn ks (i + 1)).1
/-- the number of the last knot no greater -/
structure AtK (ks : Kn) (x : Rat) (i : Nat) : Prop where
  lt : i < ks.length
  le : (kn ks i).1 ≤ x
  nx : i + 1 < ks.length → x < (kn ks (i + 1)).1
def yOf (ks : Kn) (s : Rat) (x : Rat) (i : Nat) : Rat := (kn ks i).2 + slp ks s i * (x - (kn ks i).1)
open Classical in
/-- the line's y -/
noncomputable def yAt (ks : Kn) (s : Rat) (x : Rat) : Rat := if h : ∃ i, AtK ks x i then yOf ks s x (choose h) else 0
/-- all parts of a line within a size -/
structure KsB (B : Nat) (ks : Kn) (s : Rat) : Prop where
  x : ∀ i, i < ks.length → sz (kn ks i).1 ≤ B
  y : ∀ i, i < ks.length → sz (kn ks i).2 ≤ B
  s : sz s ≤ B
/-- a line that can be asked -/
structure Ln (B : Nat) (ks : Kn) (s : Rat) : Prop where
  b : KsB B ks s
  pos : 0 < ks.length
  fst : (kn ks 0).1 = 0
  ris : Rising ks
/-- an index loop: the last so far that is no greater -/
def lastIx (ks : Kn) (x : Rat) : Nat → Nat
  | 0 => 0
  | n + 1 => if x < (kn ks n).1 then lastIx ks x n else n
end DL

set_option Elab.async false
set_option linter.all false
set_option maxRecDepth 100000
set_option maxHeartbeats 4000000
/-! LQ1: parts reckoned, as rationals -/
namespace DL
open PySem PySem.Spec PyProof.Rows L2
def qp (q : Rat) : PyData := .tuple [.int q.num, .int (q.den : Int)]
def TLow : List PyData → (PyData → Prop) → Prop := fun ds Φ => ∃ a b : Int, ds = [.int a, .int b] ∧ b ≠ 0 ∧ a.natAbs < 2 ^ 8000 ∧ b.natAbs < 2 ^ 8000 ∧ Φ (qp (Rat.divInt a b))
def TQ2 (P : Rat → Rat → Prop) (f : Rat → Rat → PyData) : List PyData → (PyData → Prop) → Prop := fun ds Φ => ∃ q r : Rat, ds = [qp q, qp r] ∧ sz q ≤ 3800 ∧ sz r ≤ 3800 ∧ P q r ∧ Φ (f q r)
def TAdQ := TQ2 (fun _ _ => True) fun q r => qp (q + r)
def TSbQ := TQ2 (fun _ _ => True) fun q r => qp (q - r)
def TMlQ := TQ2 (fun _ _ => True) fun q r => qp (q * r)
def TDvQ := TQ2 (fun _ r => r ≠ 0) fun q r => qp (q / r)
def TLtQ := TQ2 (fun _ _ => True) fun q r => .bool (decide (q < r))
section
variable {q r : Rat} {Φ : PyData → Prop}
end
local macro_rules | `(tactic| walk_at "dl") => `(tactic| repeat' (first
  | with_reducible refine wd_isTy ?_ | with_reducible refine wd_isi ?_ | with_reducible refine wd_op ?_ | ((with_reducible show WD _ _ (tCB (rLenX _) (tCons (tVar _) tNil)) _ _); refine wd_len_scr rfl ?_) | with_reducible refine wd_cb ?_ | with_reducible refine wd_un ?_ | with_reducible refine wa_cons ?_ | with_reducible refine wa_nil ?_ | ((with_reducible show WD _ _ (tVar _) _ _); refine wd_var rfl ?_) | with_reducible refine wd_int ?_ | with_reducible refine wd_bl ?_ | with_reducible refine wd_str ?_ | with_reducible refine wd_non ?_
  | with_reducible refine do_add ?_ | with_reducible refine do_sub ?_ | ((with_reducible refine do_mod ?_ ?_); decide) | with_reducible refine do_mod ?_ ?_ | with_reducible refine do_mul ?_ ?_ | ((with_reducible refine do_div ?_ ?_); exact ⟨by decide, by decide⟩) | with_reducible refine do_div ?_ ?_ | ((with_reducible refine do_pow ?_ ?_); exact ⟨by decide, by decide, by decide⟩) | with_reducible refine do_pow ?_ ?_
  | with_reducible refine do_lt ?_ | with_reducible refine do_le ?_ | with_reducible refine do_gt ?_ | with_reducible refine do_ge ?_ | with_reducible refine du_neg ?_
  | with_reducible refine do_eqi ?_ | with_reducible refine do_nei ?_ | with_reducible refine do_eqs ?_ | with_reducible refine do_nes ?_ | with_reducible refine dc_abs ?_ | with_reducible refine dc_min ?_ | with_reducible refine dc_max ?_ | with_reducible refine dc_lenL ?_ | with_reducible refine dc_lenT ?_ | with_reducible refine dc_gcd ?_
  | ((with_reducible show DO _ (rIxT _) _ _ _); refine do_ixT rfl ?_) | ((with_reducible show DO _ (rIxL _) _ _ _); refine do_ixL rfl ?_) | ((with_reducible refine do_catL ?_ ?_); exact Nat.le_of_ble_eq_true rfl) | with_reducible refine do_catL ?_ ?_ | ((with_reducible show And (List.length _ ≤ sizeLine) _); refine ⟨Nat.le_of_ble_eq_true rfl, ?_⟩)
  | with_reducible refine wd_dnew ?_ | with_reducible refine wd_call0 ?_ | with_reducible refine tAdQ ?_ ?_ ?_ | with_reducible refine tSbQ ?_ ?_ ?_ | with_reducible refine tMlQ ?_ ?_ ?_ | with_reducible refine tDvQ ?_ ?_ ?_ ?_ | with_reducible refine tLtQ ?_ ?_ ?_ | with_reducible refine dc_str ?_ ?_ | with_reducible refine wd_tup ?_ | with_reducible refine wd_lst ?_ | with_reducible refine wt_test ?_ | with_reducible refine wt_B ?_ | with_reducible refine wt_not ?_ | with_reducible refine wt_and ?_ | with_reducible refine wt_or ?_ | with_reducible refine wd_ifE ?_ | with_reducible refine wd_andV ?_ | with_reducible refine wd_orV ?_ | with_reducible refine wd_notV ?_
  | with_reducible refine ws_seq ?_ | with_reducible refine ws_next ?_ | with_reducible refine ws_asg ?_ | with_reducible refine ws_ret ?_ | with_reducible refine ws_retN ?_ | with_reducible refine ws_if ?_ | with_reducible refine ws_par ?_ | with_reducible refine ws_unp2 ?_
  | with_reducible refine if_t ?_ | with_reducible refine if_f ?_ | with_reducible refine if_nf ?_ | with_reducible refine if_nt ?_
  | ((with_reducible show Exists _); first | refine ⟨_, kitInt _, ?_⟩ | refine ⟨_, kitBool _, ?_⟩ | refine ⟨_, kitTup _, ?_⟩ | refine ⟨_, kitList _, ?_⟩ | refine ⟨_, rfl, ?_⟩ | refine ⟨_, _, rfl, ?_⟩ | fail) | fail))
def t_lowq (K : PySem.W.Frag) : TS :=
  (tSeq (tPar 2 3 (tCons (tCB rAbsX (tCons (tVar 0) tNil)) (tCons (tCB rAbsX (tCons (tVar 1) tNil)) tNil)))
    (tSeq (tWhile (tTest (tOp rGt (tVar 3) (tC (.int 0)))) (tPar 2 3 (tCons (tVar 3) (tCons (tOp rModI (tVar 2) (tVar 3)) tNil))))
    (tSeq (tAsg (tIf (tTest (tOp rGt (tVar 1) (tC (.int 0)))) (tVar 2) (tOp rSubI (tC (.int 0)) (tVar 2))) (gName 4))
    (tRet (tTup (tCons (tOp rDivI (tVar 0) (tVar 4)) (tCons (tOp rDivI (tVar 1) (tVar 4)) tNil)))))))
def t_addq (K : PySem.W.Frag) : TS :=
  (tRet (tCall (spP K TLow) [] E0 (tCons (tOp rAddI (tOp rMulI (tOp (rIxT K) (tVar 0) (tC (.int 0))) (tOp (rIxT K) (tVar 1) (tC (.int 1)))) (tOp rMulI (tOp (rIxT K) (tVar 1) (tC (.int 0))) (tOp (rIxT K) (tVar 0) (tC (.int 1))))) (tCons (tOp rMulI (tOp (rIxT K) (tVar 0) (tC (.int 1))) (tOp (rIxT K) (tVar 1) (tC (.int 1)))) tNil))))
def t_subq (K : PySem.W.Frag) : TS :=
  (tRet (tCall (spP K TLow) [] E0 (tCons (tOp rSubI (tOp rMulI (tOp (rIxT K) (tVar 0) (tC (.int 0))) (tOp (rIxT K) (tVar 1) (tC (.int 1)))) (tOp rMulI (tOp (rIxT K) (tVar 1) (tC (.int 0))) (tOp (rIxT K) (tVar 0) (tC (.int 1))))) (tCons (tOp rMulI (tOp (rIxT K) (tVar 0) (tC (.int 1))) (tOp (rIxT K) (tVar 1) (tC (.int 1)))) tNil))))
def t_mulq (K : PySem.W.Frag) : TS :=
  (tRet (tCall (spP K TLow) [] E0 (tCons (tOp rMulI (tOp (rIxT K) (tVar 0) (tC (.int 0))) (tOp (rIxT K) (tVar 1) (tC (.int 0)))) (tCons (tOp rMulI (tOp (rIxT K) (tVar 0) (tC (.int 1))) (tOp (rIxT K) (tVar 1) (tC (.int 1)))) tNil))))
def t_divq (K : PySem.W.Frag) : TS :=
  (tRet (tCall (spP K TLow) [] E0 (tCons (tOp rMulI (tOp (rIxT K) (tVar 0) (tC (.int 0))) (tOp (rIxT K) (tVar 1) (tC (.int 1)))) (tCons (tOp rMulI (tOp (rIxT K) (tVar 0) (tC (.int 1))) (tOp (rIxT K) (tVar 1) (tC (.int 0)))) tNil))))
def t_ltq (K : PySem.W.Frag) : TS :=
  (tRet (tOp rLt (tOp rMulI (tOp (rIxT K) (tVar 0) (tC (.int 0))) (tOp (rIxT K) (tVar 1) (tC (.int 1)))) (tOp rMulI (tOp (rIxT K) (tVar 1) (tC (.int 0))) (tOp (rIxT K) (tVar 0) (tC (.int 1))))))
end DL

set_option Elab.async false
set_option linter.all false
set_option maxRecDepth 100000
set_option maxHeartbeats 4000000
/-! LQ2: slices as data; lines asked -/
namespace DL
open PySem PySem.Spec PyProof.Rows L2
def WO (K : PySem.W.Frag) (S : Stt) (to : TO) (ρ : Rho) (Θ : Option Int → Rho → Prop) : Prop :=
  ∀ H0 N0 Z N σ H, EnvD K S H0 N0 Z N σ H ρ → ∀ Q : Option Int → Hp → Prop, (∀ o ρ' H', Θ o ρ' → EnvD K S H0 N0 Z N σ H' ρ' → Keep N H H' → Q o H') → to σ H Q
def cutD (ds : List PyData) (lo hi : Option Int) : List PyData := (ds.drop (HT.sIx ds.length 0 lo)).take (HT.sIx ds.length ds.length hi - HT.sIx ds.length 0 lo)
section
variable {K : PySem.W.Frag} {S : Stt} {ρ : Rho} {Φ : PyData → Rho → Prop} {Ψ : PyData → Prop}
theorem wo_none {Θ : Option Int → Rho → Prop} (h : Θ none ρ) : WO K S tNoPart ρ Θ := fun H0 N0 Z N σ H E Q q => q none ρ H h E Keep.refl
theorem wo_part {te : TE} {Θ : Option Int → Rho → Prop} (h : WD K S te ρ fun d ρ1 => ∃ i, d = .int i ∧ Θ (some i) ρ1) : WO K S (tPart te) ρ Θ := fun H0 N0 Z N σ H E Q q =>
  h H0 N0 Z N σ H E _ fun v d ρ1 H1 ⟨i, e, f⟩ E1 k1 d1 => by
    subst e
    exact ⟨i, d1.int_inv, q (some i) ρ1 H1 f E1 k1⟩
theorem DqAll.cut {N : Av} {H : Hp} {xs : List V} {ds : List PyData} {lo hi : Option Int} (h : DqAll K N H xs ds) : DqAll K N H (cutV xs lo hi) (cutD ds lo hi) := by
  unfold cutV cutD
  rw [h.len]
  exact (h.drop _).take _
theorem wd_slA {ta : TE} {tl th : TO} (h : WD K S ta ρ fun x ρ1 => ∃ ds, x = .tuple ds ∧ WO K S tl ρ1 fun lo ρ2 => WO K S th ρ2 fun hi ρ3 => Φ (.tuple (cutD ds lo hi)) ρ3) : WD K S (tSl (rSlA K) ta tl th) ρ Φ := fun H0 N0 Z N σ H E Q q =>
  h H0 N0 Z N σ H E _ fun v x ρ1 H1 ⟨ds, e, f⟩ E1 k1 d1 => f H0 N0 Z N σ H1 E1 _ fun lo ρ2 H2 g E2 k2 => g H0 N0 Z N σ H2 E2 _ fun hi ρ3 H3 z E3 k3 => by
    subst e
    have d3 := (d1.keep k2).keep k3
    obtain ⟨p, xs, rfl, _, h1, h2⟩ := Dq.tup_inv d3
    refine ⟨p, xs, rfl, h1, fun w => ?_, fun w r hr => ?_⟩
    · have e : cutD ds lo hi = ds := by
        unfold cutD
        have hl := h2.len
        rw [← hl, w.1, w.2, List.drop_zero, Nat.sub_zero]
        exact List.take_of_length_le (by omega)
      have z' : Φ (.tuple (cutD ds lo hi)) ρ3 := z
      rw [e] at z'
      exact q _ _ ρ3 H3 z' E3 ((k1.trans k2).trans k3) d3
    · have s := same_new hr (.tup (cutV xs lo hi))
      exact q _ _ ρ3 _ z (E3.ext s) (((k1.trans k2).trans k3).trans (Keep.of s)) (Dq.tup (fresh_av E3.trk hr) upd_same ((h2.cut).keep (Keep.of s)))
theorem wd_slL {ta : TE} {tl th : TO} (h : WD K S ta ρ fun x ρ1 => ∃ ds, x = .list ds ∧ WO K S tl ρ1 fun lo ρ2 => WO K S th ρ2 fun hi ρ3 => Φ (.list (cutD ds lo hi)) ρ3) : WD K S (tSl (rSlL K) ta tl th) ρ Φ := fun H0 N0 Z N σ H E Q q =>
  h H0 N0 Z N σ H E _ fun v x ρ1 H1 ⟨ds, e, f⟩ E1 k1 d1 => f H0 N0 Z N σ H1 E1 _ fun lo ρ2 H2 g E2 k2 => g H0 N0 Z N σ H2 E2 _ fun hi ρ3 H3 z E3 k3 => by
    subst e
    have d3 := (d1.keep k2).keep k3
    obtain ⟨p, xs, rfl, _, h1, h2⟩ := Dq.lst_inv d3
    refine ⟨p, xs, rfl, .inl h1, fun r hr => ?_⟩
    have s := same_new hr (.lst (cutV xs lo hi))
    exact q _ _ ρ3 _ z (E3.ext s) (((k1.trans k2).trans k3).trans (Keep.of s)) (Dq.lst (fresh_av E3.trk hr) upd_same ((h2.cut).keep (Keep.of s)))
theorem do_ixTn {ds : List PyData} {i : Int} {k : Nat} {d : PyData} (e : i = k) (h : ds[k]? = some d) (f : Ψ d) : DO K (rIxT K) (.tuple ds) (.int i) Ψ := by
  subst e; exact do_ixT (atI_nat h) f
theorem do_ixLn {ds : List PyData} {i : Int} {k : Nat} {d : PyData} (e : i = k) (h : ds[k]? = some d) (f : Ψ d) : DO K (rIxL K) (.list ds) (.int i) Ψ := by
  subst e; exact do_ixL (atI_nat h) f
end
/-! ### lines as data -/
def kD (p : Rat × Rat) : PyData := .tuple [qp p.1, qp p.2]
abbrev knD (ks : Kn) : PyData := .tuple (ks.map kD)
def lnD (ks : Kn) (s : Rat) : PyData := .tuple [knD ks, qp s]
structure Lq (B : Nat) (ks : Kn) (s : Rat) : Prop where
  l : Ln B ks s
  len : ks.length ≤ 100000
  B0 : 0 < B
def TSlope : List PyData → (PyData → Prop) → Prop := fun ds Φ => ∃ (ks : Kn) (s : Rat) (i B : Nat), ds = [lnD ks s, .int i] ∧ Lq B ks s ∧ 2 * B ≤ 3800 ∧ i < ks.length ∧ Φ (qp (slp ks s i))
def TSlopes : List PyData → (PyData → Prop) → Prop := fun ds Φ => ∃ (ks : Kn) (s : Rat) (B : Nat), ds = [knD ks, qp s] ∧ KsB B ks s ∧ Rising ks ∧ 0 < ks.length ∧ ks.length ≤ 100000 ∧ 2 * B ≤ 3800 ∧ Φ (.list ((List.range ks.length).map fun i => qp (slp ks s i)))
def TNoLater : List PyData → (PyData → Prop) → Prop := fun ds Φ => ∃ (ks : Kn) (x : Rat), ds = [knD ks, qp x] ∧ Rising ks ∧ 0 < ks.length ∧ ks.length ≤ 100000 ∧ (kn ks 0).1 ≤ x ∧ sz x ≤ 3800 ∧ (∀ i, i < ks.length → sz (kn ks i).1 ≤ 3800) ∧ ∀ i : Nat, AtK ks x i → Φ (.int i)
def THeight : List PyData → (PyData → Prop) → Prop := fun ds Φ => ∃ (ks : Kn) (s x : Rat) (i B C : Nat), ds = [lnD ks s, .int i, qp x] ∧ Lq B ks s ∧ i < ks.length ∧ sz x ≤ C ∧ 5 * B + C ≤ 3800 ∧ Φ (qp (yOf ks s x i))
def TYat : List PyData → (PyData → Prop) → Prop := fun ds Φ => ∃ (ks : Kn) (s x : Rat) (B C : Nat), ds = [lnD ks s, qp x] ∧ Lq B ks s ∧ 0 ≤ x ∧ sz x ≤ C ∧ 5 * B + C ≤ 3800 ∧ Φ (qp (yAt ks s x))
local macro_rules | `(tactic| walk_at "dl") => `(tactic| repeat' (first
  | with_reducible refine wd_isTy ?_ | with_reducible refine wd_isi ?_ | with_reducible refine wd_op ?_ | ((with_reducible show WD _ _ (tCB (rLenX _) (tCons (tVar _) tNil)) _ _); refine wd_len_scr rfl ?_) | with_reducible refine wd_cb ?_ | with_reducible refine wd_un ?_ | with_reducible refine wa_cons ?_ | with_reducible refine wa_nil ?_ | ((with_reducible show WD _ _ (tVar _) _ _); refine wd_var rfl ?_) | with_reducible refine wd_int ?_ | with_reducible refine wd_bl ?_ | with_reducible refine wd_str ?_ | with_reducible refine wd_non ?_
  | with_reducible refine do_add ?_ | with_reducible refine do_sub ?_ | ((with_reducible refine do_mod ?_ ?_); decide) | with_reducible refine do_mod ?_ ?_ | with_reducible refine do_mul ?_ ?_ | ((with_reducible refine do_div ?_ ?_); exact ⟨by decide, by decide⟩) | with_reducible refine do_div ?_ ?_ | ((with_reducible refine do_pow ?_ ?_); exact ⟨by decide, by decide, by decide⟩) | with_reducible refine do_pow ?_ ?_
  | with_reducible refine do_lt ?_ | with_reducible refine do_le ?_ | with_reducible refine do_gt ?_ | with_reducible refine do_ge ?_ | with_reducible refine du_neg ?_
  | with_reducible refine do_eqi ?_ | with_reducible refine do_nei ?_ | with_reducible refine do_eqs ?_ | with_reducible refine do_nes ?_ | with_reducible refine dc_abs ?_ | with_reducible refine dc_min ?_ | with_reducible refine dc_max ?_ | with_reducible refine dc_lenL ?_ | with_reducible refine dc_lenT ?_ | with_reducible refine dc_gcd ?_
  | ((with_reducible show DO _ (rIxT _) _ _ _); refine do_ixT rfl ?_) | ((with_reducible show DO _ (rIxL _) _ _ _); refine do_ixL rfl ?_) | ((with_reducible refine do_catL ?_ ?_); exact Nat.le_of_ble_eq_true rfl) | with_reducible refine do_catL ?_ ?_ | ((with_reducible show And (List.length _ ≤ sizeLine) _); refine ⟨Nat.le_of_ble_eq_true rfl, ?_⟩)
  | with_reducible refine wd_dnew ?_ | with_reducible refine wd_call0 ?_ | with_reducible refine tAdQ (by omega) (by omega) ?_ | with_reducible refine tSbQ (by omega) (by omega) ?_ | with_reducible refine tMlQ (by omega) (by omega) ?_ | with_reducible refine tDvQ (by assumption) (by omega) (by omega) ?_ | with_reducible refine tLtQ (by omega) (by omega) ?_ | with_reducible refine dc_str ?_ ?_ | with_reducible refine wd_tup ?_ | with_reducible refine wd_lst ?_ | with_reducible refine wt_test ?_ | with_reducible refine wt_B ?_ | with_reducible refine wt_not ?_ | with_reducible refine wt_and ?_ | with_reducible refine wt_or ?_ | with_reducible refine wd_ifE ?_ | with_reducible refine wd_andV ?_ | with_reducible refine wd_orV ?_ | with_reducible refine wd_notV ?_
  | with_reducible refine ws_seq ?_ | with_reducible refine ws_next ?_ | with_reducible refine ws_asg ?_ | with_reducible refine ws_ret ?_ | with_reducible refine ws_retN ?_ | with_reducible refine ws_if ?_ | with_reducible refine ws_par ?_ | with_reducible refine ws_unp2 ?_
  | with_reducible refine if_t ?_ | with_reducible refine if_f ?_ | with_reducible refine if_nf ?_ | with_reducible refine if_nt ?_
  | ((with_reducible show Exists _); first | refine ⟨_, kitInt _, ?_⟩ | refine ⟨_, kitBool _, ?_⟩ | refine ⟨_, kitTup _, ?_⟩ | refine ⟨_, kitList _, ?_⟩ | refine ⟨_, rfl, ?_⟩ | refine ⟨_, _, rfl, ?_⟩ | fail) | fail))
def t_slope (K : PySem.W.Frag) : TS :=
  (tSeq (tAsg (tVar 0) (gTup K 2 (gCons (gName 2) (gCons (gName 3) gNil))))
    (tSeq (tIfS (tTest (tOp rEq (tOp rAddI (tVar 1) (tC (.int 1))) (tCB (rLenX K) (tCons (tVar 2) tNil)))) (tRet (tVar 3)) tNext)
    (tSeq (tAsg (tCall (spP K TSbQ) [] E0 (tCons (tOp (rIxT K) (tOp (rIxT K) (tVar 2) (tOp rAddI (tVar 1) (tC (.int 1)))) (tC (.int 1))) (tCons (tOp (rIxT K) (tOp (rIxT K) (tVar 2) (tVar 1)) (tC (.int 1))) tNil))) (gName 4))
    (tRet (tCall (spP K TDvQ) [] E0 (tCons (tVar 4) (tCons (tCall (spP K TSbQ) [] E0 (tCons (tOp (rIxT K) (tOp (rIxT K) (tVar 2) (tOp rAddI (tVar 1) (tC (.int 1)))) (tC (.int 0))) (tCons (tOp (rIxT K) (tOp (rIxT K) (tVar 2) (tVar 1)) (tC (.int 0))) tNil))) tNil)))))))
def t_slopes (K : PySem.W.Frag) : TS :=
  (tSeq (tAsg (tLst tNil) (gName 2))
    (tSeq (tFor (iRng1 (tCons (tOp rSubI (tCB (rLenX K) (tCons (tVar 0) tNil)) (tC (.int 1))) tNil)) (gName 3) (tSeq (tAsg (tOp (rIxT K) (tVar 0) (tVar 3)) (gTup K 2 (gCons (gName 4) (gCons (gName 5) gNil))))
    (tSeq (tAsg (tOp (rIxT K) (tVar 0) (tOp rAddI (tVar 3) (tC (.int 1)))) (gTup K 2 (gCons (gName 6) (gCons (gName 7) gNil))))
    (tDrop (tBM K "list" rAppend (tVar 2) (tCons (tCall (spP K TDvQ) [] E0 (tCons (tCall (spP K TSbQ) [] E0 (tCons (tVar 7) (tCons (tVar 5) tNil))) (tCons (tCall (spP K TSbQ) [] E0 (tCons (tVar 6) (tCons (tVar 4) tNil))) tNil))) tNil))))))
    (tRet (tOp rCatL (tVar 2) (tLst (tCons (tVar 1) tNil))))))
def t_nolater (K : PySem.W.Frag) : TS :=
  (tSeq (tPar 2 3 (tCons (tC (.int 0)) (tCons (tCB (rLenX K) (tCons (tVar 0) tNil)) tNil)))
    (tSeq (tWhile (tTest (tOp rGt (tOp rSubI (tVar 3) (tVar 2)) (tC (.int 1)))) (tSeq (tAsg (tOp rDivI (tOp rAddI (tVar 2) (tVar 3)) (tC (.int 2))) (gName 4))
    (tIfS (tB (tCall (spP K TLtQ) [] E0 (tCons (tVar 1) (tCons (tOp (rIxT K) (tOp (rIxT K) (tVar 0) (tVar 4)) (tC (.int 0))) tNil)))) (tAsg (tVar 4) (gName 3)) (tAsg (tVar 4) (gName 2)))))
    (tRet (tVar 2))))
section
variable {K : PySem.W.Frag} {ds : List PyData} {Φ : PyData → Prop}
end
end DL

set_option Elab.async false
set_option linter.all false
set_option maxRecDepth 100000
set_option maxHeartbeats 4000000
/-! LQ3: heights of lines -/
namespace DL
open PySem PySem.Spec PyProof.Rows L2
section
variable {K : PySem.W.Frag} {Ψ : PyData → Prop}
end
local macro_rules | `(tactic| walk_at "dl") => `(tactic| repeat' (first
  | with_reducible refine wd_isTy ?_ | with_reducible refine wd_isi ?_ | with_reducible refine wd_op ?_ | ((with_reducible show WD _ _ (tCB (rLenX _) (tCons (tVar _) tNil)) _ _); refine wd_len_scr rfl ?_) | with_reducible refine wd_cb ?_ | with_reducible refine wd_un ?_ | with_reducible refine wa_cons ?_ | with_reducible refine wa_nil ?_ | ((with_reducible show WD _ _ (tVar _) _ _); refine wd_var rfl ?_) | with_reducible refine wd_int ?_ | with_reducible refine wd_bl ?_ | with_reducible refine wd_str ?_ | with_reducible refine wd_non ?_
  | with_reducible refine do_add ?_ | with_reducible refine do_sub ?_ | ((with_reducible refine do_mod ?_ ?_); decide) | with_reducible refine do_mod ?_ ?_ | with_reducible refine do_mul ?_ ?_ | ((with_reducible refine do_div ?_ ?_); exact ⟨by decide, by decide⟩) | with_reducible refine do_div ?_ ?_ | ((with_reducible refine do_pow ?_ ?_); exact ⟨by decide, by decide, by decide⟩) | with_reducible refine do_pow ?_ ?_
  | with_reducible refine do_lt ?_ | with_reducible refine do_le ?_ | with_reducible refine do_gt ?_ | with_reducible refine do_ge ?_ | with_reducible refine du_neg ?_
  | with_reducible refine do_eqi ?_ | with_reducible refine do_nei ?_ | with_reducible refine do_eqs ?_ | with_reducible refine do_nes ?_ | with_reducible refine dc_abs ?_ | with_reducible refine dc_min ?_ | with_reducible refine dc_max ?_ | with_reducible refine dc_lenL ?_ | with_reducible refine dc_lenT ?_ | with_reducible refine dc_gcd ?_
  | ((with_reducible show DO _ (rIxT _) _ _ _); refine do_ixT rfl ?_) | ((with_reducible show DO _ (rIxL _) _ _ _); refine do_ixL rfl ?_) | ((with_reducible refine do_catL ?_ ?_); exact Nat.le_of_ble_eq_true rfl) | with_reducible refine do_catL ?_ ?_ | ((with_reducible show And (List.length _ ≤ sizeLine) _); refine ⟨Nat.le_of_ble_eq_true rfl, ?_⟩)
  | with_reducible refine wd_dnew ?_ | with_reducible refine wd_call0 ?_ | with_reducible refine wd_slA ?_ | with_reducible refine wo_part ?_ | with_reducible refine wo_none ?_ | with_reducible refine do_eqQ ?_ | with_reducible refine do_neQ ?_ | with_reducible refine wi_enumT ?_ | with_reducible refine tAdQ (by omega) (by omega) ?_ | with_reducible refine tSbQ (by omega) (by omega) ?_ | with_reducible refine tMlQ (by omega) (by omega) ?_ | with_reducible refine tDvQ (by assumption) (by omega) (by omega) ?_ | with_reducible refine tLtQ (by omega) (by omega) ?_ | with_reducible refine dc_str ?_ ?_ | with_reducible refine wd_tup ?_ | with_reducible refine wd_lst ?_ | with_reducible refine wt_test ?_ | with_reducible refine wt_B ?_ | with_reducible refine wt_not ?_ | with_reducible refine wt_and ?_ | with_reducible refine wt_or ?_ | with_reducible refine wd_ifE ?_ | with_reducible refine wd_andV ?_ | with_reducible refine wd_orV ?_ | with_reducible refine wd_notV ?_
  | with_reducible refine ws_seq ?_ | with_reducible refine ws_next ?_ | with_reducible refine ws_asg ?_ | with_reducible refine ws_ret ?_ | with_reducible refine ws_retN ?_ | with_reducible refine ws_if ?_ | with_reducible refine ws_par ?_ | with_reducible refine ws_unp2 ?_
  | with_reducible refine if_t ?_ | with_reducible refine if_f ?_ | with_reducible refine if_nf ?_ | with_reducible refine if_nt ?_
  | ((with_reducible show Exists _); first | refine ⟨_, kitInt _, ?_⟩ | refine ⟨_, kitBool _, ?_⟩ | refine ⟨_, kitTup _, ?_⟩ | refine ⟨_, kitList _, ?_⟩ | refine ⟨_, rfl, ?_⟩ | refine ⟨_, _, rfl, ?_⟩ | fail) | fail))
def t_lawy (K : PySem.W.Frag) : TS :=
  (tSeq (tAsg (tC (.int 0)) (gName 2))
    (tSeq (tFor (iEnumT K (tCons (tOp (rIxT K) (tVar 0) (tC (.int 0))) tNil)) (gTup K 2 (gCons (gName 3) (gCons (gName 4) gNil))) (tIfS (tNot (tB (tCall (spP K TLtQ) [] E0 (tCons (tVar 1) (tCons (tOp (rIxT K) (tVar 4) (tC (.int 0))) tNil))))) (tAsg (tVar 3) (gName 2)) tNext))
    (tSeq (tAsg (tOp (rIxT K) (tOp (rIxT K) (tVar 0) (tC (.int 0))) (tVar 2)) (gTup K 2 (gCons (gName 5) (gCons (gName 6) gNil))))
    (tRet (tCall (spP K TAdQ) [] E0 (tCons (tVar 6) (tCons (tCall (spP K TMlQ) [] E0 (tCons (tCall (spP K TSlope) [] E0 (tCons (tVar 0) (tCons (tVar 2) tNil))) (tCons (tCall (spP K TSbQ) [] E0 (tCons (tVar 1) (tCons (tVar 5) tNil))) tNil))) tNil)))))))
def t_behind (K : PySem.W.Frag) : TS :=
  (tRet (tOp (rIxL K) (tCall (spP K TSlopes) [] E0 (tCons (tSl (rSlA K) (tOp (rIxT K) (tVar 0) (tC (.int 0))) (tPart (tVar 1)) (tPart (tOp rAddI (tVar 1) (tC (.int 2))))) (tCons (tOp (rIxT K) (tVar 0) (tC (.int 1))) tNil))) (tC (.int 0))))
def t_height (K : PySem.W.Frag) : TS :=
  (tSeq (tAsg (tOp (rIxT K) (tOp (rIxT K) (tVar 0) (tC (.int 0))) (tVar 1)) (gTup K 2 (gCons (gName 3) (gCons (gName 4) gNil))))
    (tSeq (tIfS (tTest (tOp (rEqD K) (tVar 2) (tVar 3))) (tRet (tVar 4)) tNext)
    (tRet (tCall (spP K TAdQ) [] E0 (tCons (tVar 4) (tCons (tCall (spP K TMlQ) [] E0 (tCons (tCall (spP K TSlope) [] E0 (tCons (tVar 0) (tCons (tVar 1) tNil))) (tCons (tCall (spP K TSbQ) [] E0 (tCons (tVar 2) (tCons (tVar 3) tNil))) tNil))) tNil))))))
def t_yat (K : PySem.W.Frag) : TS :=
  (tSeq (tIfS (tTest (tOp rLt (tOp (rIxT K) (tVar 1) (tC (.int 0))) (tC (.int 0)))) tNo tNext)
    (tRet (tCall (spP K THeight) [] E0 (tCons (tVar 0) (tCons (tCall (spP K TNoLater) [] E0 (tCons (tOp (rIxT K) (tVar 0) (tC (.int 0))) (tCons (tVar 1) tNil))) (tCons (tVar 1) tNil))))))
section
variable {K : PySem.W.Frag} {ds : List PyData} {Φ : PyData → Prop}
def cutK (ks : Kn) (i : Nat) : Kn := (ks.drop i).take 2
end
end DL

set_option Elab.async false
set_option linter.all false
/-! LM3: lines as they are drawn: bounds by a common bottom -/
namespace DL
/-- so many D-th parts -/
def Dv (D M : Nat) (q : Rat) : Prop := ∃ n : Int, q * (D : Rat) = (n : Rat) ∧ n.natAbs ≤ M
theorem Dv.int {n : Int} {D : Nat} : Dv D (n.natAbs * D) (n : Rat) := ⟨n * D, by rw [Rat.intCast_mul]; rfl, by rw [Int.natAbs_mul]; simp⟩
/-- the slopes that are drawn -/
structure SlopeOk (p : Nat) (s : Rat) : Prop where
  one : p = 1 → Dv 6 42 s
  more : 1 < p → ∃ m : Int, s = ((p * m : Int) : Rat) ∧ m.natAbs ≤ 7
structure StepOk (p : Nat) (t : Rat) : Prop where
  pos : 0 < t
  one : p = 1 → Dv 4 24 t
  more : 1 < p → ∃ n : Nat, t = Rat.divInt n p ∧ n ≤ 6
/-- ahead of the k-th slope -/
structure Stg (p k : Nat) (ks : Kn) (la : Option Rat) : Prop where
  len : ks.length = k + 1
  fst : (kn ks 0).1 = 0
  ris : Rising ks
  dx : ∀ i, i < ks.length → Dv (24 * p) (144 * i) (kn ks i).1
  dy : ∀ i, i < ks.length → Dv (24 * p) ((480 + 1008 * i) * p) (kn ks i).2
  nr : ∀ i, i + 2 < ks.length → slp ks 0 i ≠ slp ks 0 (i + 1)
  la : la = if k = 0 then none else some (slp ks 0 (k - 1))
/-- it bends at each knot -/
def Nrm (ks : Kn) (s : Rat) : Prop := ∀ i, i + 1 < ks.length → slp ks s i ≠ slp ks s (i + 1)
structure GoodL (m : Nat) (ks : Kn) (s : Rat) : Prop where
  l : Ln 26 ks s
  len : ks.length ≤ m
  nrm : Nrm ks s
structure SlopeB (p : Nat) (s : Rat) : Prop where
  one : p = 1 → Dv 6 36 s
  more : 1 < p → ∃ m : Int, s = ((m * p : Int) : Rat) ∧ m.natAbs ≤ 6
/-! what is drawn -/
end DL

set_option Elab.async false
set_option linter.all false
set_option maxRecDepth 100000
set_option maxHeartbeats 4000000
/-! LQ4: a drawn line -/
namespace DL
open PySem PySem.Spec PyProof.Rows L2
section
variable {K : PySem.W.Frag} {S : Stt} {ρ : Rho} {Φ : PyData → Rho → Prop} {Ψ : PyData → Prop}
theorem wd_take {te : TE} {i B : Nat} (hF : FPot S) (h : ρ[i]? = some (.sto B)) (f : WD K S te ρ fun x ρ1 => ∃ (m : Int) (B1 : Nat), x = .int m ∧ ρ1[i]? = some (.sto B1) ∧ 1 ≤ m ∧ m ≤ 2 ^ 40 ∧ B1 ≤ 2 ^ 40 ∧ ∀ d : Int, 0 ≤ d → d < m → Φ (.int d) (stoAll (B1 + 1) ρ1)) :
    WD K S (tCall (spS K FPot TTake) [] E0 (tCons (tVar i) (tCons te tNil))) ρ Φ :=
  wd_callS hF h (wa_cons (f.imp fun d ρ' ⟨m, B1, e, h1, h2, h3, h4, h5⟩ => wa_nil ⟨B1, h1, m, by rw [e], h2, h3, h4, h5⟩))
theorem wd_takeC {i B : Nat} {m : Int} (hF : FPot S) (h : ρ[i]? = some (.sto B)) (h1 : 1 ≤ m) (h2 : m ≤ 2 ^ 40) (h3 : B ≤ 2 ^ 40) (f : ∀ d : Int, 0 ≤ d → d < m → Φ (.int d) (stoAll (B + 1) ρ)) :
    WD K S (tCall (spS K FPot TTake) [] E0 (tCons (tVar i) (tCons (tC (.int m)) tNil))) ρ Φ :=
  wd_take hF h (wd_int ⟨m, B, rfl, h, h1, h2, h3, f⟩)
def oqD : Option Rat → PyData
  | none => .none
  | some q => qp q
end
def TLine : Nat → List PyData → (PyData → Nat → Prop) → Prop := fun B ds Φ => ∃ m : Nat, ds = [.int m] ∧ 3 ≤ m ∧ m ≤ 60 ∧ B ≤ 2 ^ 39 ∧ ∀ ks s B', B' ≤ B + 300 → GoodL m ks s → Φ (lnD ks s) B'
local macro_rules | `(tactic| walk_at "dl") => `(tactic| repeat' (first
  | with_reducible refine wd_isTy ?_ | with_reducible refine wd_isi ?_ | with_reducible refine wd_op ?_ | ((with_reducible show WD _ _ (tCB (rLenX _) (tCons (tVar _) tNil)) _ _); refine wd_len_scr rfl ?_) | with_reducible refine wd_cb ?_ | with_reducible refine wd_un ?_ | with_reducible refine wa_cons ?_ | with_reducible refine wa_nil ?_ | ((with_reducible show WD _ _ (tVar _) _ _); refine wd_var rfl ?_) | with_reducible refine wd_int ?_ | with_reducible refine wd_bl ?_ | with_reducible refine wd_str ?_ | with_reducible refine wd_non ?_
  | with_reducible refine do_add ?_ | with_reducible refine do_sub ?_ | ((with_reducible refine do_mod ?_ ?_); decide) | with_reducible refine do_mod ?_ ?_ | with_reducible refine do_mul ?_ ?_ | ((with_reducible refine do_div ?_ ?_); exact ⟨by decide, by decide⟩) | with_reducible refine do_div ?_ ?_ | ((with_reducible refine do_pow ?_ ?_); exact ⟨by decide, by decide, by decide⟩) | with_reducible refine do_pow ?_ ?_
  | with_reducible refine do_lt ?_ | with_reducible refine do_le ?_ | with_reducible refine do_gt ?_ | with_reducible refine do_ge ?_ | with_reducible refine du_neg ?_
  | with_reducible refine do_eqi ?_ | with_reducible refine do_nei ?_ | with_reducible refine do_eqs ?_ | with_reducible refine do_nes ?_ | with_reducible refine dc_abs ?_ | with_reducible refine dc_min ?_ | with_reducible refine dc_max ?_ | with_reducible refine dc_lenL ?_ | with_reducible refine dc_lenT ?_ | with_reducible refine dc_gcd ?_
  | ((with_reducible show DO _ (rIxT _) _ _ _); refine do_ixT rfl ?_) | ((with_reducible show DO _ (rIxL _) _ _ _); refine do_ixL rfl ?_) | ((with_reducible refine do_catL ?_ ?_); exact Nat.le_of_ble_eq_true rfl) | with_reducible refine do_catL ?_ ?_ | ((with_reducible show And (List.length _ ≤ sizeLine) _); refine ⟨Nat.le_of_ble_eq_true rfl, ?_⟩)
  | with_reducible refine wd_dnew ?_ | with_reducible refine wd_call0 ?_ | with_reducible refine wd_slA ?_ | with_reducible refine wo_part ?_ | with_reducible refine wo_none ?_ | with_reducible refine do_eqQ ?_ | with_reducible refine do_neQ ?_ | with_reducible refine wi_enumT ?_ | with_reducible refine tAdQ (by omega) (by omega) ?_ | with_reducible refine tSbQ (by omega) (by omega) ?_ | with_reducible refine tMlQ (by omega) (by omega) ?_ | with_reducible refine tDvQ (by assumption) (by omega) (by omega) ?_ | with_reducible refine tLtQ (by omega) (by omega) ?_ | with_reducible refine dc_str ?_ ?_ | with_reducible refine wd_tup ?_ | with_reducible refine wd_lst ?_ | with_reducible refine wt_test ?_ | with_reducible refine wt_B ?_ | with_reducible refine wt_not ?_ | with_reducible refine wt_and ?_ | with_reducible refine wt_or ?_ | with_reducible refine wd_ifE ?_ | with_reducible refine wd_andV ?_ | with_reducible refine wd_orV ?_ | with_reducible refine wd_notV ?_
  | with_reducible refine ws_seq ?_ | with_reducible refine ws_next ?_ | with_reducible refine ws_asg ?_ | with_reducible refine ws_ret ?_ | with_reducible refine ws_retN ?_ | with_reducible refine ws_if ?_ | with_reducible refine ws_par ?_ | with_reducible refine ws_unp2 ?_
  | with_reducible refine if_t ?_ | with_reducible refine if_f ?_ | with_reducible refine if_nf ?_ | with_reducible refine if_nt ?_
  | ((with_reducible show Exists _); first | refine ⟨_, kitInt _, ?_⟩ | refine ⟨_, kitBool _, ?_⟩ | refine ⟨_, kitTup _, ?_⟩ | refine ⟨_, kitList _, ?_⟩ | refine ⟨_, rfl, ?_⟩ | refine ⟨_, _, rfl, ?_⟩ | fail) | fail))
def t_line (K : PySem.W.Frag) : TS :=
  (tSeq (tAsg (tOp (rIxL K) (tLst (tCons (tOp rAddI (tC (.int 1)) (tCall (spS K FPot TTake) [] E0 (tCons (tVar 0) (tCons (tC (.int 3)) tNil)))) (tCons (tOp rAddI (tC (.int 1)) (tCall (spS K FPot TTake) [] E0 (tCons (tVar 0) (tCons (tVar 1) tNil)))) (tCons (tVar 1) tNil)))) (tCall (spS K FPot TTake) [] E0 (tCons (tVar 0) (tCons (tC (.int 3)) tNil)))) (gName 2))
    (tSeq (tAsg (tOp (rIxL K) (tLst (tCons (tC (.int 1)) (tCons (tC (.int 1)) (tCons (tC (.int 1)) (tCons (tC (.int 1)) (tCons (tC (.int 1)) (tCons (tOp (rIxL K) (tLst (tCons (tC (.int 97)) (tCons (tC (.int 101)) (tCons (tC (.int 997)) tNil)))) (tCall (spS K FPot TTake) [] E0 (tCons (tVar 0) (tCons (tC (.int 3)) tNil)))) tNil))))))) (tCall (spS K FPot TTake) [] E0 (tCons (tVar 0) (tCons (tC (.int 6)) tNil)))) (gName 3))
    (tSeq (tAsg (tLst (tCons (tTup (tCons (tTup (tCons (tC (.int 0)) (tCons (tC (.int 1)) tNil))) (tCons (tCall (spP K TLow) [] E0 (tCons (tOp rSubI (tCall (spS K FPot TTake) [] E0 (tCons (tVar 0) (tCons (tC (.int 41)) tNil))) (tC (.int 20))) (tCons (tOp (rIxL K) (tLst (tCons (tC (.int 1)) (tCons (tC (.int 2)) (tCons (tC (.int 3)) tNil)))) (tCall (spS K FPot TTake) [] E0 (tCons (tVar 0) (tCons (tC (.int 3)) tNil)))) tNil))) tNil))) tNil)) (gName 4))
    (tSeq (tAsg (tC .non) (gName 5))
    (tSeq (tFor (iRng1 (tCons (tVar 2) tNil)) (gName 6) (tSeq (tAsg (tCall (spP K TLow) [] E0 (tCons (tOp rMulI (tOp rSubI (tCall (spS K FPot TTake) [] E0 (tCons (tVar 0) (tCons (tC (.int 13)) tNil))) (tC (.int 6))) (tVar 3)) (tCons (tOp (rIxL K) (tLst (tCons (tC (.int 1)) (tCons (tC (.int 2)) (tCons (tC (.int 3)) tNil)))) (tCall (spS K FPot TTake) [] E0 (tCons (tVar 0) (tCons (tC (.int 3)) tNil)))) tNil))) (gName 7))
    (tSeq (tIfS (tTest (tOp rGt (tVar 3) (tC (.int 1)))) (tAsg (tTup (tCons (tOp rMulI (tOp rDivI (tOp rDivI (tOp (rIxT K) (tVar 7) (tC (.int 0))) (tOp (rIxT K) (tVar 7) (tC (.int 1)))) (tVar 3)) (tVar 3)) (tCons (tC (.int 1)) tNil))) (gName 7)) tNext)
    (tSeq (tIfS (tTest (tOp (rEqD K) (tVar 7) (tVar 5))) (tAsg (tCall (spP K TAdQ) [] E0 (tCons (tVar 7) (tCons (tTup (tCons (tVar 3) (tCons (tC (.int 1)) tNil))) tNil))) (gName 7)) tNext)
    (tSeq (tAsg (tVar 7) (gName 5))
    (tIfS (tTest (tOp rLt (tOp rAddI (tVar 6) (tC (.int 1))) (tVar 2))) (tSeq (tAsg (tCall (spP K TLow) [] E0 (tCons (tOp rAddI (tC (.int 1)) (tCall (spS K FPot TTake) [] E0 (tCons (tVar 0) (tCons (tC (.int 6)) tNil)))) (tCons (tOp (rIxL K) (tLst (tCons (tC (.int 1)) (tCons (tC (.int 2)) (tCons (tC (.int 4)) tNil)))) (tCall (spS K FPot TTake) [] E0 (tCons (tVar 0) (tCons (tC (.int 3)) tNil)))) tNil))) (gName 8))
    (tSeq (tIfS (tTest (tOp rGt (tVar 3) (tC (.int 1)))) (tAsg (tCall (spP K TLow) [] E0 (tCons (tOp (rIxT K) (tVar 8) (tC (.int 0))) (tCons (tVar 3) tNil))) (gName 8)) tNext)
    (tSeq (tAsg (tOp (rIxL K) (tVar 4) (tUn rNegI (tC (.int 1)))) (gTup K 2 (gCons (gName 9) (gCons (gName 10) gNil))))
    (tDrop (tBM K "list" rAppend (tVar 4) (tCons (tTup (tCons (tCall (spP K TAdQ) [] E0 (tCons (tVar 9) (tCons (tVar 8) tNil))) (tCons (tCall (spP K TAdQ) [] E0 (tCons (tVar 10) (tCons (tCall (spP K TMlQ) [] E0 (tCons (tVar 7) (tCons (tVar 8) tNil))) tNil))) tNil))) tNil)))))) tNext))))))
    (tRet (tTup (tCons (tCB (rTupOf K) (tCons (tVar 4) tNil)) (tCons (tVar 5) tNil)))))))))
section
variable {K : PySem.W.Frag} {S : Stt} {ds : List PyData} {Φ : PyData → Nat → Prop} {B : Nat}
end
end DL

set_option Elab.async false
set_option linter.all false
set_option maxRecDepth 100000
set_option maxHeartbeats 4000000
/-! LQ5: repr of lines; the pot; the cells; refusals told -/
namespace DL
open PySem PySem.Spec PyProof.Rows L2
/-! ### what may be shown -/
structure Rs (L D : Nat) (d : PyData) : Prop where
  s : d.showable = true
  h : d.hasDict = false
  l : d.shown.length ≤ L
  d : d.depth ≤ D
theorem Rs.int {i : Int} {k : Nat} (hk : 0 < k) (h : i.natAbs < 2 ^ k) (h2 : k ≤ 1900) : Rs (k + 1) 0 (.int i) := by
  have hl : i.natAbs.log2 < k := log2_of (i := i) h hk
  exact ⟨decide_eq_true (show i.natAbs.log2 < 1920 by omega), rfl, by
    show (Str.ofString (toString i)).length ≤ k + 1
    rw [PySem.ofString_length]
    exact PySem.int_text_length_le (k := k) hk hl, Nat.le_refl _⟩
theorem Rs.lst {xs : List PyData} {L D n : Nat} (h : ∀ x ∈ xs, Rs L D x) (hn : xs.length ≤ n) : Rs (2 + n * (L + 2)) (D + 1) (.list xs) :=
  ⟨showableAll_of xs fun x hx => (h x hx).s, hasDictAll_of xs fun x hx => (h x hx).h, listText_le (fun x hx => (h x hx).l) hn, by
    show PyData.depthAll xs + 1 ≤ D + 1
    have := depthAll_of (n := D) xs fun x hx => (h x hx).d
    omega⟩
section
variable {K : PySem.W.Frag} {Ψ : PyData → Prop}
end
/-! ### the pot -/
def TPot : List PyData → (List Int → Prop) → Prop := fun ds Φ => ∃ c a : Int, ds = [.int c, .int a] ∧ 0 ≤ a ∧ a ≤ 1000000 ∧ ∀ ns, PotL ns 0 → Φ ns
def t_pot (K : PySem.W.Frag) : TS :=
  (tRet (tLst (tCons (tCB rMaxX (tCons (tC (.int 0)) (tCons (tOp rSubI (tVar 0) (tOp rPowI (tC (.int 10)) (tC (.int 18)))) tNil))) (tCons (tOp rAddI (tOp rModI (tVar 0) (tC (.int 2305843009213693951))) (tOp rMulI (tC (.int 7919)) (tVar 1))) (tCons (tC (.int 0)) tNil)))))
/-! ### the cells, folded -/
def spF (K : PySem.W.Frag) : Sp := fun vs H Q _ => ∃ (a0 : Addr) (ns : List Int) (m : Int), vs = [.ref a0, .int m] ∧ SqL K H a0 (ns.map V.int) ∧ ns.length ≤ 63 ∧ 1 ≤ m ∧ m ≤ 1000 ∧
  ∀ cs : List Int, (cs.length : Int) ≤ m → cs.length ≤ 63 → ∀ p H', H p = none → Same H H' → H' p = some (.lst (cs.map V.int)) → Q (.ref p) H'
def t_folded (K : PySem.W.Frag) : TS :=
  (tSeq (tAsg (tOp rRepL (tLst (tCons (tC (.int 0)) tNil)) (tCB rMinX (tCons (tCB (rLenX K) (tCons (tVar 0) tNil)) (tCons (tVar 1) tNil)))) (gName 2))
    (tSeq (tFor (iRng1 (tCons (tCB (rLenX K) (tCons (tVar 0) tNil)) tNil)) (gName 3) (tAsg (tOp rAddI (tOp rMulI (tOp rModI (tOp (rIxL K) (tVar 2) (tOp rModI (tVar 3) (tVar 1))) (tOp rPowI (tC (.int 10)) (tC (.int 64)))) (tC (.int 1000003))) (tOp (rIxL K) (tVar 0) (tVar 3))) (gSub (tVar 2) (tOp rModI (tVar 3) (tVar 1)) rSetL)))
    (tRet (tVar 2))))
end DL

set_option Elab.async false
set_option linter.all false
set_option maxRecDepth 100000
set_option maxHeartbeats 4000000
/-! LQ6: the word of a refusal -/
namespace DL
open PySem PySem.Spec PyProof.Rows L2
/-- a class of one's own over ValueError, made with a text -/
abbrev veBase : List Value := [.type "ValueError", .type "Exception", .type "BaseException", .type "object"]
structure ExcV (K : PySem.W.Frag) (C : Addr) : Prop where
  q : PySem.W.excIn K C veBase "ValueError.__new__" = true
  k : PySem.W.keepIn K (.ref C) = true
  s : PySem.W.subIn K (.ref C) (.type "BaseException") = some true
  t : PySem.W.typeIn K (.ref C) = some (.type "type")
def excVB (K : PySem.W.Frag) (C : Addr) : Bool := PySem.W.excIn K C veBase "ValueError.__new__" && (PySem.W.keepIn K (.ref C) && (decide (PySem.W.subIn K (.ref C) (.type "BaseException") = some true) &&
  decide (PySem.W.typeIn K (.ref C) = some (.type "type"))))
/-- the classes of the refusals, by name -/
structure Cls where
  amount : Addr
  line : Addr
  table : Addr
  one : List Addr
  two : List Addr
/-- the word of one that is of the class D alone -/
structure WordOk (K : PySem.W.Frag) (c : Cls) (D : Addr) (w : Str) : Prop where
  one : PySem.W.kitAny K (.ref D) (c.one.map Value.ref) = some false
  two : PySem.W.kitAny K (.ref D) (c.two.map Value.ref) = some false
  ve : PySem.W.kitOne K (.ref D) (.type "ValueError") = some true
  kinds : ∃ (b1 b2 b3 : Bool) (j : Nat), PySem.W.kitOne K (.ref D) (.ref c.amount) = some b1 ∧ PySem.W.kitOne K (.ref D) (.ref c.line) = some b2 ∧ PySem.W.kitOne K (.ref D) (.ref c.table) = some b3 ∧
    (b1, b2, b3, j, w) ∈ [(true, false, false, 0, ("amount" : Str)), (false, true, false, 1, ("line" : Str)), (false, false, true, 2, ("table" : Str))]
def spW (K : PySem.W.Frag) (D : Addr) (w : Str) : Sp := fun vs H Q _ => ∃ a : Addr, vs = [.ref a] ∧ H a = some (.ext (excAt a (.ref D))) ∧ ∀ H', Same H H' → Q (.str w) H'
def t_word (K : PySem.W.Frag) (D A_NoAmount A_NoLine A_NoTable A_NoDays A_NoDeed A_NoFold A_NoLeave A_NoPot A_NoRule A_NoStretch A_NoTelling A_NoText A_NoCut A_NoName A_NoNumber A_NoPart A_TooLong : Addr) : TS :=
  (tSeq (tAsg (tLst (tCons (tCB (rIsiE K D) (tCons (tVar 0) (tCons (tC (.ref A_NoAmount)) tNil))) (tCons (tCB (rIsiE K D) (tCons (tVar 0) (tCons (tC (.ref A_NoLine)) tNil))) (tCons (tCB (rIsiE K D) (tCons (tVar 0) (tCons (tC (.ref A_NoTable)) tNil))) tNil)))) (gName 1))
    (tSeq (tAsg (tCB (rIsiET K D) (tCons (tVar 0) (tCons (tTup (tCons (tC (.ref A_NoDays)) (tCons (tC (.ref A_NoDeed)) (tCons (tC (.ref A_NoFold)) (tCons (tC (.ref A_NoLeave)) (tCons (tC (.ref A_NoPot)) (tCons (tC (.ref A_NoRule)) (tCons (tC (.ref A_NoStretch)) (tCons (tC (.ref A_NoTelling)) (tCons (tC (.ref A_NoText)) tNil)))))))))) tNil))) (gName 2))
    (tSeq (tAsg (tOrV (tVar 2) (tCB (rIsiET K D) (tCons (tVar 0) (tCons (tTup (tCons (tC (.ref A_NoCut)) (tCons (tC (.ref A_NoName)) (tCons (tC (.ref A_NoNumber)) (tCons (tC (.ref A_NoPart)) (tCons (tC (.ref A_TooLong)) tNil)))))) tNil)))) (gName 2))
    (tSeq (tIfS (tOr (tB (tVar 2)) (tOr (tTest (tOp rNe (tBM K "list" (rCntF K) (tVar 1) (tCons (tC (.bl true)) tNil)) (tC (.int 1)))) (tNot (tB (tCB (rIsiE K D) (tCons (tVar 0) (tCons (tC (.ty "ValueError")) tNil))))))) (tRet (tC (.str "odd"))) tNext)
    (tRet (tOp (rIxL K) (tLst (tCons (tC (.str "amount")) (tCons (tC (.str "line")) (tCons (tC (.str "table")) tNil)))) (tBM K "list" (rIndex K) (tVar 1) (tCons (tC (.bl true)) tNil))))))))
/-! ### a refusal of the height below nought -/
def TYx (C : Addr) : List PyData → (PyData → Prop) → (Addr → Prop) → Prop := fun ds _ Ψ => ∃ (l : PyData) (x : Rat), ds = [l, qp x] ∧ x < 0 ∧ Ψ C
def t_yatX (K : PySem.W.Frag) (C : Addr) (E : XK) : TS := tSeq (tIfS (tTest (tOp rLt (tOp (rIxT K) (tVar 1) (tC (.int 0))) (tC (.int 0)))) (fun _ σ H => E (.ref C) none H) tNext) tNo
local macro_rules | `(tactic| walk_at "dl") => `(tactic| repeat' (first
  | with_reducible refine wd_isTy ?_ | with_reducible refine wd_isi ?_ | with_reducible refine wd_op ?_ | ((with_reducible show WD _ _ (tCB (rLenX _) (tCons (tVar _) tNil)) _ _); refine wd_len_scr rfl ?_) | with_reducible refine wd_cb ?_ | with_reducible refine wd_un ?_ | with_reducible refine wa_cons ?_ | with_reducible refine wa_nil ?_ | ((with_reducible show WD _ _ (tVar _) _ _); refine wd_var rfl ?_) | with_reducible refine wd_int ?_ | with_reducible refine wd_bl ?_ | with_reducible refine wd_str ?_ | with_reducible refine wd_non ?_
  | with_reducible refine do_add ?_ | with_reducible refine do_sub ?_ | ((with_reducible refine do_mod ?_ ?_); decide) | with_reducible refine do_mod ?_ ?_ | with_reducible refine do_mul ?_ ?_ | ((with_reducible refine do_div ?_ ?_); exact ⟨by decide, by decide⟩) | with_reducible refine do_div ?_ ?_ | ((with_reducible refine do_pow ?_ ?_); exact ⟨by decide, by decide, by decide⟩) | with_reducible refine do_pow ?_ ?_
  | with_reducible refine do_lt ?_ | with_reducible refine do_le ?_ | with_reducible refine do_gt ?_ | with_reducible refine do_ge ?_ | with_reducible refine du_neg ?_
  | with_reducible refine do_eqi ?_ | with_reducible refine do_nei ?_ | with_reducible refine do_eqs ?_ | with_reducible refine do_nes ?_ | with_reducible refine dc_abs ?_ | with_reducible refine dc_min ?_ | with_reducible refine dc_max ?_ | with_reducible refine dc_lenL ?_ | with_reducible refine dc_lenT ?_ | with_reducible refine dc_gcd ?_
  | ((with_reducible show DO _ (rIxT _) _ _ _); refine do_ixT rfl ?_) | ((with_reducible show DO _ (rIxL _) _ _ _); refine do_ixL rfl ?_) | ((with_reducible refine do_catL ?_ ?_); exact Nat.le_of_ble_eq_true rfl) | with_reducible refine do_catL ?_ ?_ | ((with_reducible show And (List.length _ ≤ sizeLine) _); refine ⟨Nat.le_of_ble_eq_true rfl, ?_⟩)
  | with_reducible refine wd_dnew ?_ | with_reducible refine wd_call0 ?_ | with_reducible refine wd_slA ?_ | with_reducible refine wo_part ?_ | with_reducible refine wo_none ?_ | with_reducible refine do_eqQ ?_ | with_reducible refine do_neQ ?_ | with_reducible refine wi_enumT ?_ | with_reducible refine tAdQ (by omega) (by omega) ?_ | with_reducible refine tSbQ (by omega) (by omega) ?_ | with_reducible refine tMlQ (by omega) (by omega) ?_ | with_reducible refine tDvQ (by assumption) (by omega) (by omega) ?_ | with_reducible refine tLtQ (by omega) (by omega) ?_ | with_reducible refine dc_str ?_ ?_ | with_reducible refine wd_tup ?_ | with_reducible refine wd_lst ?_ | with_reducible refine wt_test ?_ | with_reducible refine wt_B ?_ | with_reducible refine wt_not ?_ | with_reducible refine wt_and ?_ | with_reducible refine wt_or ?_ | with_reducible refine wd_ifE ?_ | with_reducible refine wd_andV ?_ | with_reducible refine wd_orV ?_ | with_reducible refine wd_notV ?_
  | with_reducible refine ws_seq ?_ | with_reducible refine ws_next ?_ | with_reducible refine ws_asg ?_ | with_reducible refine ws_ret ?_ | with_reducible refine ws_retN ?_ | with_reducible refine ws_if ?_ | with_reducible refine ws_par ?_ | with_reducible refine ws_unp2 ?_
  | with_reducible refine if_t ?_ | with_reducible refine if_f ?_ | with_reducible refine if_nf ?_ | with_reducible refine if_nt ?_
  | ((with_reducible show Exists _); first | refine ⟨_, kitInt _, ?_⟩ | refine ⟨_, kitBool _, ?_⟩ | refine ⟨_, kitTup _, ?_⟩ | refine ⟨_, kitList _, ?_⟩ | refine ⟨_, rfl, ?_⟩ | refine ⟨_, _, rfl, ?_⟩ | fail) | fail))
/-! ### told or refused -/
def TTold : List PyData → (PyData → Prop) → Prop := fun ds Φ => ∃ (l : PyData) (x : Rat), ds = [l, qp x] ∧ x < 0 ∧ Φ (.str "amount")
def ts_told (a : Addr) : TS := tAsg (tVar 4) (gName 2)
def tb_told (K : PySem.W.Frag) (C : Addr) (W : WX) : TS := tAsg (tCallS (spX K (TYx C)) (WE W) (tCons (tVar 0) (tCons (tVar 1) tNil))) (gName 3)
def te_told (K : PySem.W.Frag) (C : Addr) : TE := tIf (tTest (tOp rIsNone (tVar 2) (tC .non))) (tVar 3) (tCall (spW K C "amount") [] E0 (tCons (tVar 2) tNil))
def t_told (K : PySem.W.Frag) (C P : Addr) : TS :=
  (tSeq (tAsg (tC .non) (gName 2))
    (tSeq (tAsg (tC .non) (gName 3))
    (tSeq (fun D σ H => tb_told K C (wKeep K (.ref P) 4 ts_told D) D σ H)
    (tRet (te_told K C)))))
/-! ### the line of one part -/
def TFlat : List PyData → (PyData → Prop) → Prop := fun ds Φ => ∃ y : Rat, ds = [qp y] ∧ Φ (lnD [(0, y)] 0)
def t_flat (K : PySem.W.Frag) (a_NOUGHT : Addr) : TS :=
  (tRet (tTup (tCons (tTup (tCons (tTup (tCons (tC (.ref a_NOUGHT)) (tCons (tVar 0) tNil))) tNil)) (tCons (tC (.ref a_NOUGHT)) tNil))))
end DL

set_option Elab.async false
set_option linter.all false
set_option maxRecDepth 100000
set_option maxHeartbeats 4000000
/-! DIH: what a head's run tells of a class -/
namespace DL
open PySem PySem.Spec PyProof.Rows L2
def dyCB (K : PySem.W.Frag) (C : Addr) : Bool := PySem.W.plainGet K C Str.empty && (PySem.W.hasDictIn K C && (PySem.W.plainOver K C && (decide (PySem.W.findIn K (.ref C) "__setattr__" = some (some (.builtin "object.__setattr__"))) &&
  (decide (PySem.W.findIn K (.ref C) "__class__" = some (some (.builtin "object.__class__"))) && (decide (PySem.W.specialIn K (.builtin "object.__class__") "__get__" = some (some (.builtin "getset_descriptor.__get__"))) &&
  (decide (PySem.W.takesIn K (.builtin "object.__class__") = some true) && (decide (PySem.W.mroIn K C (.type "object") = some true) && (["NoneType", "bool", "int", "str", "list", "tuple"] ++ ["dict"]).all fun T => decide (PySem.W.kitOne K (.ref C) (.type T) = some false))))))))
def mkB (K : PySem.W.Frag) (C f : Addr) : Bool := PySem.W.makesIn K C && (decide (PySem.W.findIn K (.ref C) "__init__" = some (some (.ref f))) && (PySem.W.isFn K (.ref f) && PySem.W.keepIn K (.ref C)))
def methB (K : PySem.W.Frag) (C : Addr) (m : Str) (f : Addr) : Bool := decide (PySem.W.findIn K (.ref C) m = some (some (.ref f))) && (PySem.W.isFn K (.ref f) && PySem.W.keepIn K (.ref f))
def noatB (K : PySem.W.Frag) (C : Addr) (fs : List Str) : Bool := fs.all fun f => decide (PySem.W.findIn K (.ref C) f = some none)
def kwdAt (f : Str × Option Str) (x : Str) (K : PySem.W.Frag) : Addr := match K.lookup (He.fAd K f) with
  | some ⟨_, _, .func fd, _⟩ => (match fd.kwdefaults with
    | .ref D => (match PySem.W.nsIn K D x with
      | some (some (.ref a)) => a
      | _ => 0)
    | _ => 0)
  | _ => 0
def nilAtB (K : PySem.W.Frag) (a : Addr) : Bool := match K.lookup a with
  | some ⟨.type c, _, .seq its _, _⟩ => decide (c = "tuple") && decide (its.toList = [])
  | _ => false
def wd13B (K : PySem.W.Frag) (D : Addr) (As : List Addr) (P : Addr) (j : Nat) : Bool := decide (As.length = 17) && (decide (j < 17) && (((List.range 17).all fun i => decide (PySem.W.kitOne K (.ref D) (.ref (As.getD i 0)) = some (decide (i = j)))) && decide (PySem.W.kitOne K (.ref D) (.ref P) = some (decide (j < 12)))))
/-- the i-th statement of a class -/
def innerN (i : Nat) : Stmt → Stmt
  | .ClassDef _ _ _ b _ _ _ _ _ _ _ => b.getD i (.Pass ⟨0, 0, 0, 0⟩)
  | s => s
/-- the classes of the refusals, in the order of the law's words -/
def refA (K : PySem.W.Frag) : List Addr := [He.ga K "NoAmount", He.ga K "NoDays", He.ga K "NoDeed", He.ga K "NoFold", He.ga K "NoLeave", He.ga K "NoLine", He.ga K "NoPot", He.ga K "NoRule", He.ga K "NoStretch", He.ga K "NoTable", He.ga K "NoTelling", He.ga K "NoText", He.ga K "NoPart", He.ga K "NoName", He.ga K "NoNumber", He.ga K "TooLong", He.ga K "NoCut"]
end DL

set_option Elab.async false
set_option linter.all false
set_option maxRecDepth 100000
set_option maxHeartbeats 4000000
namespace DL
open PySem PySem.Spec PyProof.Rows L2
def top (i : Nat) : Stmt := PySem.Challenge.pw_paymill_k18_whole_sets_of_days.main.body.getD i (.Pass ⟨0, 0, 0, 0⟩)
abbrev FnP (K : PySem.W.Frag) (x : Str) (st : Stmt) (f : Addr) (fd : FuncData) : Prop := FunD K x x (defArgs st) (defBody st) (defScope st) [] [] f fd
abbrev FnD (K : PySem.W.Frag) (x : Str) (st : Stmt) (dvs : List V) (f : Addr) (fd : FuncData) : Prop := FunD K x x (defArgs st) (defBody st) (defScope st) dvs [] f fd
abbrev FnKw (K : PySem.W.Frag) (x : Str) (st : Stmt) (kws : List (Str × V)) (f : Addr) (fd : FuncData) : Prop := FunD K x x (defArgs st) (defBody st) (defScope st) [] kws f fd
abbrev s_Days_init : Stmt := innerN 0 (top 12)
theorem sc_Days_init : FnScope ["self", "period", "marks", "turned", "pattern", "mark"] ["self", "period", "marks", "turned"] (defScope s_Days_init) := ⟨rfl, rfl, rfl, by decide +kernel, rfl, by decide +kernel, by decide +kernel⟩

abbrev s_Days_has : Stmt := innerN 1 (top 12)
theorem sc_Days_has : FnScope ["self", "day"] ["self", "day"] (defScope s_Days_has) := ⟨rfl, rfl, rfl, by decide +kernel, rfl, by decide +kernel, by decide +kernel⟩

abbrev s_Days_eq : Stmt := innerN 2 (top 12)
theorem sc_Days_eq : FnScope ["self", "other"] ["self", "other"] (defScope s_Days_eq) := ⟨rfl, rfl, rfl, by decide +kernel, rfl, by decide +kernel, by decide +kernel⟩

abbrev s_is_whole : Stmt := top 7
theorem sc_is_whole : FnScope ["thing"] ["thing"] (defScope s_is_whole) := ⟨rfl, rfl, rfl, by decide +kernel, rfl, by decide +kernel, by decide +kernel⟩

abbrev s_is_unlike_row : Stmt := top 22
theorem sc_is_unlike_row : FnScope ["thing", "one"] ["thing"] (defScope s_is_unlike_row) := ⟨rfl, rfl, rfl, by decide +kernel, rfl, by decide +kernel, by decide +kernel⟩

abbrev s_refuse_wrong : Stmt := top 21
theorem sc_refuse_wrong : FnScope ["period", "marks", "turned", "mark"] ["period", "marks", "turned"] (defScope s_refuse_wrong) := ⟨rfl, rfl, rfl, by decide +kernel, rfl, by decide +kernel, by decide +kernel⟩

abbrev s_pattern_of : Stmt := top 23
theorem sc_pattern_of : FnScope ["period", "marks", "signs", "mark"] ["period", "marks"] (defScope s_pattern_of) := ⟨rfl, rfl, rfl, by decide +kernel, rfl, by decide +kernel, by decide +kernel⟩

abbrev s_many_below : Stmt := top 27
theorem sc_many_below : FnScope ["row", "number", "low", "high", "middle"] ["row", "number"] (defScope s_many_below) := ⟨rfl, rfl, rfl, by decide +kernel, rfl, by decide +kernel, by decide +kernel⟩

abbrev s_is_in : Stmt := top 28
theorem sc_is_in : FnScope ["row", "number", "at"] ["row", "number"] (defScope s_is_in) := ⟨rfl, rfl, rfl, by decide +kernel, rfl, by decide +kernel, by decide +kernel⟩

abbrev s_from_on : Stmt := top 29
theorem sc_from_on : FnScope ["row", "number"] ["row", "number"] (defScope s_from_on) := ⟨rfl, rfl, rfl, by decide +kernel, rfl, by decide +kernel, by decide +kernel⟩

abbrev s_regular_below : Stmt := top 33
theorem sc_regular_below : FnScope ["days", "day", "rounds", "rest"] ["days", "day"] (defScope s_regular_below) := ⟨rfl, rfl, rfl, by decide +kernel, rfl, by decide +kernel, by decide +kernel⟩

abbrev s_count_days : Stmt := top 20
theorem sc_count_days : FnScope ["days", "one", "other", "many", "turn"] ["days", "one", "other"] (defScope s_count_days) := ⟨rfl, rfl, rfl, by decide +kernel, rfl, by decide +kernel, by decide +kernel⟩

abbrev s_pattern : Stmt := top 24
theorem sc_pattern : FnScope ["days"] ["days"] (defScope s_pattern) := ⟨rfl, rfl, rfl, by decide +kernel, rfl, by decide +kernel, by decide +kernel⟩

abbrev s_told : Stmt := top 30
theorem sc_told : FnScope ["period", "marks", "turned", "days"] ["period", "marks", "turned"] (defScope s_told) := ⟨rfl, rfl, rfl, by decide +kernel, rfl, by decide +kernel, by decide +kernel⟩

abbrev s_sign : Stmt := top 32
theorem sc_sign : FnScope ["is_in"] ["is_in"] (defScope s_sign) := ⟨rfl, rfl, rfl, by decide +kernel, rfl, by decide +kernel, by decide +kernel⟩

abbrev s_joined : Stmt := top 31
theorem sc_joined : FnScope ["one", "other", "kept", "many", "first", "second", "marked", "turned", "day", "signs", "rest"] ["one", "other", "kept"] (defScope s_joined) := ⟨rfl, rfl, rfl, by decide +kernel, rfl, by decide +kernel, by decide +kernel⟩

abbrev s_both : Stmt := top 15
theorem sc_both : FnScope ["one", "other"] ["one", "other"] (defScope s_both) := ⟨rfl, rfl, rfl, by decide +kernel, rfl, by decide +kernel, by decide +kernel⟩

abbrev s_either : Stmt := top 16
theorem sc_either : FnScope ["one", "other"] ["one", "other"] (defScope s_either) := ⟨rfl, rfl, rfl, by decide +kernel, rfl, by decide +kernel, by decide +kernel⟩

abbrev s_without : Stmt := top 17
theorem sc_without : FnScope ["one", "other"] ["one", "other"] (defScope s_without) := ⟨rfl, rfl, rfl, by decide +kernel, rfl, by decide +kernel, by decide +kernel⟩

abbrev s_others : Stmt := top 18
theorem sc_others : FnScope ["days", "pattern", "marks", "rest"] ["days"] (defScope s_others) := ⟨rfl, rfl, rfl, by decide +kernel, rfl, by decide +kernel, by decide +kernel⟩

abbrev s_moved : Stmt := top 19
theorem sc_moved : FnScope ["days", "by", "marks", "mark", "day"] ["days", "by"] (defScope s_moved) := ⟨rfl, rfl, rfl, by decide +kernel, rfl, by decide +kernel, by decide +kernel⟩

abbrev s_all_days : Stmt := top 13
theorem sc_all_days : FnScope [] [] (defScope s_all_days) := ⟨rfl, rfl, rfl, by decide +kernel, rfl, by decide +kernel, by decide +kernel⟩

abbrev s_no_days : Stmt := top 14
theorem sc_no_days : FnScope [] [] (defScope s_no_days) := ⟨rfl, rfl, rfl, by decide +kernel, rfl, by decide +kernel, by decide +kernel⟩

abbrev s_law_reel : Stmt := top 35
theorem sc_law_reel : FnScope ["_law_script", "_law_k", "_law_cell"] ["_law_script", "_law_k"] (defScope s_law_reel) := ⟨rfl, rfl, rfl, by decide +kernel, rfl, by decide +kernel, by decide +kernel⟩

abbrev s_law_draw : Stmt := top 36
theorem sc_law_draw : FnScope ["_law_reel_here", "_law_many", "_law_digit", "_law_turn", "_law_primes", "_law_one"] ["_law_reel_here", "_law_many"] (defScope s_law_draw) := ⟨rfl, rfl, rfl, by decide +kernel, rfl, by decide +kernel, by decide +kernel⟩

abbrev s_law_bits : Stmt := top 37
theorem sc_law_bits : FnScope ["_law_reel_here", "_law_many", "_law_turn"] ["_law_reel_here", "_law_many"] (defScope s_law_bits) := ⟨rfl, rfl, rfl, by decide +kernel, rfl, by decide +kernel, by decide +kernel⟩

abbrev s_law_rests : Stmt := top 38
theorem sc_law_rests : FnScope ["_law_reel_here", "_law_way", "_law_some", "_law_over", "_law_at", "_law_by", "_law_period", "_law_rest"] ["_law_reel_here"] (defScope s_law_rests) := ⟨rfl, rfl, rfl, by decide +kernel, rfl, by decide +kernel, by decide +kernel⟩

abbrev s_law_unlike : Stmt := top 39
theorem sc_law_unlike : FnScope ["_law_some", "_law_one"] ["_law_some"] (defScope s_law_unlike) := ⟨rfl, rfl, rfl, by decide +kernel, rfl, by decide +kernel, by decide +kernel⟩

abbrev s_law_turned : Stmt := top 40
theorem sc_law_turned : FnScope ["_law_reel_here", "_law_way", "_law_base", "_law_by", "_law_down", "_law_k", "_law_turn"] ["_law_reel_here"] (defScope s_law_turned) := ⟨rfl, rfl, rfl, by decide +kernel, rfl, by decide +kernel, by decide +kernel⟩

abbrev s_law_given : Stmt := top 41
theorem sc_law_given : FnScope ["_law_reel_here", "_law_here"] ["_law_reel_here"] (defScope s_law_given) := ⟨rfl, rfl, rfl, by decide +kernel, rfl, by decide +kernel, by decide +kernel⟩

abbrev s_law_marks : Stmt := top 42
theorem sc_law_marks : FnScope ["_law_here", "_law_rest", "_law_there"] ["_law_here"] (defScope s_law_marks) := ⟨rfl, rfl, rfl, by decide +kernel, rfl, by decide +kernel, by decide +kernel⟩

abbrev s_law_put : Stmt := top 44
theorem sc_law_put : FnScope ["_law_given_here", "_law_here", "_law_some"] ["_law_given_here"] (defScope s_law_put) := ⟨rfl, rfl, rfl, by decide +kernel, rfl, by decide +kernel, by decide +kernel⟩

abbrev s_law_three : Stmt := top 45
theorem sc_law_three : FnScope ["_law_reel_here", "_law_found", "_law_turn", "_law_here", "_law_some"] ["_law_reel_here"] (defScope s_law_three) := ⟨rfl, rfl, rfl, by decide +kernel, rfl, by decide +kernel, by decide +kernel⟩

abbrev s_law_rings : Stmt := top 46
theorem sc_law_rings : FnScope ["_law_a", "_law_b", "_law_c"] ["_law_a", "_law_b", "_law_c"] (defScope s_law_rings) := ⟨rfl, rfl, rfl, by decide +kernel, rfl, by decide +kernel, by decide +kernel⟩

abbrev s_law_ends : Stmt := top 47
theorem sc_law_ends : FnScope ["_law_a", "_law_by"] ["_law_a", "_law_by"] (defScope s_law_ends) := ⟨rfl, rfl, rfl, by decide +kernel, rfl, by decide +kernel, by decide +kernel⟩

abbrev s_law_counts : Stmt := top 48
theorem sc_law_counts : FnScope ["_law_a", "_law_b", "_law_by", "_law_one", "_law_other", "_law_sum"] ["_law_a", "_law_b", "_law_by", "_law_one", "_law_other"] (defScope s_law_counts) := ⟨rfl, rfl, rfl, by decide +kernel, rfl, by decide +kernel, by decide +kernel⟩

abbrev s_law : Stmt := top 49
theorem sc_law : FnScope ["_law_script", "_law_k", "_law_reel_here", "_law_by", "_law_one", "_law_other", "_law_some", "_law_a", "_law_b", "_law_c"] ["_law_script"] (defScope s_law) := ⟨rfl, rfl, rfl, by decide +kernel, rfl, by decide +kernel, by decide +kernel⟩

def d_is_whole : He.DefD := ⟨("is_whole", none), "is_whole", "is_whole", defArgs s_is_whole, defBody s_is_whole, defScope s_is_whole, [], []⟩
def d_is_unlike_row : He.DefD := ⟨("_is_unlike_row", none), "_is_unlike_row", "_is_unlike_row", defArgs s_is_unlike_row, defBody s_is_unlike_row, defScope s_is_unlike_row, [], []⟩
def d_refuse_wrong : He.DefD := ⟨("_refuse_wrong", none), "_refuse_wrong", "_refuse_wrong", defArgs s_refuse_wrong, defBody s_refuse_wrong, defScope s_refuse_wrong, [], []⟩
def d_pattern_of : He.DefD := ⟨("_pattern_of", none), "_pattern_of", "_pattern_of", defArgs s_pattern_of, defBody s_pattern_of, defScope s_pattern_of, [], []⟩
def d_many_below : He.DefD := ⟨("_many_below", none), "_many_below", "_many_below", defArgs s_many_below, defBody s_many_below, defScope s_many_below, [], []⟩
def d_is_in : He.DefD := ⟨("_is_in", none), "_is_in", "_is_in", defArgs s_is_in, defBody s_is_in, defScope s_is_in, [], []⟩
def d_from_on : He.DefD := ⟨("_from_on", none), "_from_on", "_from_on", defArgs s_from_on, defBody s_from_on, defScope s_from_on, [], []⟩
def d_regular_below : He.DefD := ⟨("_regular_below", none), "_regular_below", "_regular_below", defArgs s_regular_below, defBody s_regular_below, defScope s_regular_below, [], []⟩
def d_count_days : He.DefD := ⟨("count_days", none), "count_days", "count_days", defArgs s_count_days, defBody s_count_days, defScope s_count_days, [], []⟩
def d_pattern : He.DefD := ⟨("_pattern", none), "_pattern", "_pattern", defArgs s_pattern, defBody s_pattern, defScope s_pattern, [], []⟩
def d_told : He.DefD := ⟨("_told", none), "_told", "_told", defArgs s_told, defBody s_told, defScope s_told, [], []⟩
def d_sign : He.DefD := ⟨("_sign", none), "_sign", "_sign", defArgs s_sign, defBody s_sign, defScope s_sign, [], []⟩
def d_joined : He.DefD := ⟨("_joined", none), "_joined", "_joined", defArgs s_joined, defBody s_joined, defScope s_joined, [], []⟩
def d_both : He.DefD := ⟨("both", none), "both", "both", defArgs s_both, defBody s_both, defScope s_both, [], []⟩
def d_either : He.DefD := ⟨("either", none), "either", "either", defArgs s_either, defBody s_either, defScope s_either, [], []⟩
def d_without : He.DefD := ⟨("without", none), "without", "without", defArgs s_without, defBody s_without, defScope s_without, [], []⟩
def d_others : He.DefD := ⟨("others", none), "others", "others", defArgs s_others, defBody s_others, defScope s_others, [], []⟩
def d_moved : He.DefD := ⟨("moved", none), "moved", "moved", defArgs s_moved, defBody s_moved, defScope s_moved, [], []⟩
def d_all_days : He.DefD := ⟨("all_days", none), "all_days", "all_days", defArgs s_all_days, defBody s_all_days, defScope s_all_days, [], []⟩
def d_no_days : He.DefD := ⟨("no_days", none), "no_days", "no_days", defArgs s_no_days, defBody s_no_days, defScope s_no_days, [], []⟩
def d_law_reel : He.DefD := ⟨("_law_reel", none), "_law_reel", "_law_reel", defArgs s_law_reel, defBody s_law_reel, defScope s_law_reel, [], []⟩
def d_law_draw : He.DefD := ⟨("_law_draw", none), "_law_draw", "_law_draw", defArgs s_law_draw, defBody s_law_draw, defScope s_law_draw, [], []⟩
def d_law_bits : He.DefD := ⟨("_law_bits", none), "_law_bits", "_law_bits", defArgs s_law_bits, defBody s_law_bits, defScope s_law_bits, [], []⟩
def d_law_rests : He.DefD := ⟨("_law_rests", none), "_law_rests", "_law_rests", defArgs s_law_rests, defBody s_law_rests, defScope s_law_rests, [], []⟩
def d_law_unlike : He.DefD := ⟨("_law_unlike", none), "_law_unlike", "_law_unlike", defArgs s_law_unlike, defBody s_law_unlike, defScope s_law_unlike, [], []⟩
def d_law_turned : He.DefD := ⟨("_law_turned", none), "_law_turned", "_law_turned", defArgs s_law_turned, defBody s_law_turned, defScope s_law_turned, [], []⟩
def d_law_given : He.DefD := ⟨("_law_given", none), "_law_given", "_law_given", defArgs s_law_given, defBody s_law_given, defScope s_law_given, [], []⟩
def d_law_marks : He.DefD := ⟨("_law_marks", none), "_law_marks", "_law_marks", defArgs s_law_marks, defBody s_law_marks, defScope s_law_marks, [], []⟩
def d_law_put : He.DefD := ⟨("_law_put", none), "_law_put", "_law_put", defArgs s_law_put, defBody s_law_put, defScope s_law_put, [], []⟩
def d_law_three : He.DefD := ⟨("_law_three", none), "_law_three", "_law_three", defArgs s_law_three, defBody s_law_three, defScope s_law_three, [], []⟩
def d_law_rings : He.DefD := ⟨("_law_rings", none), "_law_rings", "_law_rings", defArgs s_law_rings, defBody s_law_rings, defScope s_law_rings, [], []⟩
def d_law_ends : He.DefD := ⟨("_law_ends", none), "_law_ends", "_law_ends", defArgs s_law_ends, defBody s_law_ends, defScope s_law_ends, [], []⟩
def d_law_counts : He.DefD := ⟨("_law_counts", none), "_law_counts", "_law_counts", defArgs s_law_counts, defBody s_law_counts, defScope s_law_counts, [], []⟩
def d_law : He.DefD := ⟨("law", none), "law", "law", defArgs s_law, defBody s_law, defScope s_law, [], []⟩
def d_Days_init : He.DefD := ⟨("Days", some "__init__"), "__init__", "Days.__init__", defArgs s_Days_init, defBody s_Days_init, defScope s_Days_init, [], [("turned", .adr (kwdAt ("Days", some "__init__") "turned"))]⟩
def d_Days_has : He.DefD := ⟨("Days", some "has"), "has", "Days.has", defArgs s_Days_has, defBody s_Days_has, defScope s_Days_has, [], []⟩
def d_Days_eq : He.DefD := ⟨("Days", some "__eq__"), "__eq__", "Days.__eq__", defArgs s_Days_eq, defBody s_Days_eq, defScope s_Days_eq, [], []⟩
def fn : List He.DefD := [d_is_whole, d_is_unlike_row, d_refuse_wrong, d_pattern_of, d_many_below, d_is_in, d_from_on, d_regular_below, d_count_days, d_pattern, d_told, d_sign, d_joined, d_both, d_either, d_without, d_others, d_moved, d_all_days, d_no_days, d_law_reel, d_law_draw, d_law_bits, d_law_rests, d_law_unlike, d_law_turned, d_law_given, d_law_marks, d_law_put, d_law_three, d_law_rings, d_law_ends, d_law_counts, d_law, d_Days_init, d_Days_has, d_Days_eq]
def fa : List He.Fa := [.glo "is_whole", .glo "_is_unlike_row", .glo "_refuse_wrong", .glo "_pattern_of", .glo "_many_below", .glo "_is_in", .glo "_from_on", .glo "_regular_below", .glo "count_days", .glo "_pattern", .glo "_told", .glo "_sign", .glo "_joined", .glo "both", .glo "either", .glo "without", .glo "others", .glo "moved", .glo "all_days", .glo "no_days", .glo "_law_reel", .glo "_law_draw", .glo "_law_bits", .glo "_law_rests", .glo "_law_unlike", .glo "_law_turned", .glo "_law_given", .glo "_law_marks", .glo "_law_put", .glo "_law_three", .glo "_law_rings", .glo "_law_ends", .glo "_law_counts", .glo "law", .glo "Days", .free "all", .free "dict", .free "divmod", .free "enumerate", .free "int", .free "isinstance", .free "len", .free "list", .free "max", .free "min", .free "range", .free "set", .free "sorted", .free "tuple", .free "type", .int "MOST_PERIOD" 5040, .int "_MOST_TURNED" 60]
def bs : List (Str × String) := [("lcm", "math.lcm")]
def ex (K : PySem.W.Frag) : Bool := bltB K bs && dyCB K (He.ga K "Days") && noatB K (He.ga K "Days") ["period", "marks", "turned"] && mkB K (He.ga K "Days") (He.fAd K ("Days", some "__init__")) && methB K (He.ga K "Days") "has" (He.fAd K ("Days", some "has")) && nilAtB K (kwdAt ("Days", some "__init__") "turned" K) && decide (PySem.W.findIn K (.ref (He.ga K "Days")) "__eq__" = some (some (.ref (He.fAd K ("Days", some "__eq__"))))) && PySem.W.isFn K (.ref (He.fAd K ("Days", some "__eq__"))) && decide (PySem.W.findIn K (.ref (He.ga K "Days")) "__ne__" = some (some (.builtin "object.__ne__"))) && decide (PySem.W.mroIn K (He.ga K "Days") (.type "object") = some true)
abbrev R : PySem.W.OpenRow := PySem.W.OpenLaw.row PySem.Challenge.rw_paymill_k18_whole_sets_of_days
abbrev hk : PySem.W.Hook := hookX 5 fa fn ex
def ob (s : PySem.W.SharedT) : AlG := obsX 5 fa fn ex (HandSHeadRun.getT s)
theorem ob_eq (s : PySem.W.SharedT) : ob s = hk.obs s.abs := obsX_eq (HandSHeadRun.getT_eq s)
def loose : List Str := (["__name__", "MOST_PERIOD", "_MOST_TURNED", "lcm", "PayError", "NoDays", "NoStretch", "TooLong", "is_whole", "figures", "Days", "all_days", "no_days", "both", "either", "without", "others", "moved", "count_days", "_refuse_wrong", "_is_unlike_row", "_pattern_of", "_pattern", "_row_text", "_turned_text", "_many_below", "_is_in", "_from_on", "_told", "_joined"] : List Str) ++ (["_sign", "_regular_below", "_law_reel", "_law_draw", "_law_bits", "_law_rests", "_law_unlike", "_law_turned", "_law_given", "_law_marks", "_law_in", "_law_put", "_law_three", "_law_rings", "_law_ends", "_law_counts"] : List Str)
theorem run (w : World) : HandSHeadRun.RunEqI R (PySem.W.view R.prog [49]) hk ob 20000 loose w := HH.run w
end DL

set_option Elab.async false
set_option linter.all false
set_option maxRecDepth 100000
set_option maxHeartbeats 4000000
/-! DI1: instances of own classes as data: made by __init__, fields read, methods called -/
namespace DL
open PySem PySem.Spec PyProof.Rows L2
abbrev Flds := List (PyData × PyData)
/-- an instance of the class at C with these fields -/
def insD (C : Addr) (ps : Flds) : PyData := .dict ((.none, .int (C : Int)) :: ps)
def getF (f : Str) : Flds → Option PyData
  | [] => none
  | (.str g, d) :: r => if f == g then some d else getF f r
  | _ :: r => getF f r
def putP (f : Str) (d : PyData) : Flds → Flds
  | [] => [(.str f, d)]
  | (.str g, x) :: r => if g = f then (.str g, d) :: r else (.str g, x) :: putP f d r
  | q :: r => q :: putP f d r
section
variable {K : PySem.W.Frag} {S : Stt} {H0 : Hp} {N0 : Av} {Z : List Hd} {N : Av} {σ : L2.St} {H H' : Hp} {ρ : Rho} {Φ : PyData → Rho → Prop} {Ψ : PyData → Prop} {C : Addr}
theorem kv_look : ∀ {ps : Flds} {fs : List (Str × V)}, DtKv K H fs ps → ∀ f : Str, (getF f ps = none → fs.lookup f = none) ∧ ∀ d, getF f ps = some d → ∃ v, fs.lookup f = some v ∧ Dt K H v d
  | [], _, h, f => by
    cases h
    exact ⟨fun _ => rfl, fun d e => nomatch e⟩
  | (k, d0) :: r, _, h, f => by
    cases h with
    | @cons g v fs _ _ h1 h2 =>
      obtain ⟨i1, i2⟩ := kv_look h2 f
      rw [List.lookup]
      show ((if f == g then some d0 else getF f r) = none → _) ∧ ∀ d, (if f == g then some d0 else getF f r) = some d → _
      cases e : f == g with
      | true =>
        simp only [if_true]
        exact ⟨fun z => (by cases z), fun d z => by cases z; exact ⟨v, rfl, h1⟩⟩
      | false =>
        simp only [Bool.false_eq_true, if_false]
        exact ⟨i1, i2⟩
theorem kv_put {f : Str} {v : V} {d : PyData} (hd : Dt K H v d) : ∀ {ps : Flds} {fs : List (Str × V)}, DtKv K H fs ps → DtKv K H (putF f v fs) (putP f d ps)
  | [], _, h => by cases h; exact .cons hd .nil
  | (k, d0) :: r, _, h => by
    cases h with
    | @cons g x fs _ _ h1 h2 =>
      show DtKv K H (if g = f then (g, v) :: fs else (g, x) :: putF f v fs) (if g = f then (.str g, d) :: r else (.str g, d0) :: putP f d r)
      by_cases e : g = f
      · rw [if_pos e, if_pos e]; exact .cons hd h2
      · rw [if_neg e, if_neg e]; exact .cons h1 (kv_put hd h2)
theorem kv_len : ∀ {ps : Flds} {fs : List (Str × V)}, DtKv K H fs ps → fs.length = ps.length
  | [], _, h => by cases h; rfl
  | (k, d0) :: r, _, h => by
    cases h with
    | cons h1 h2 => exact congrArg (· + 1) (kv_len h2)
theorem Dq.ins_inv {v : V} {ps : Flds} (h : Dq K N H v (insD C ps)) : ∃ a dx fs, v = .ref a ∧ N a = false ∧ H a = some (.ins C dx fs) ∧ OwnC K C ∧ DtKv K (wo N H) fs ps := by
  have h' : Dt K (wo N H) v (.dict ((.none, .int (C : Int)) :: ps)) := h
  generalize e : (.dict ((.none, .int (C : Int)) :: ps) : PyData) = d at h'
  cases h' with
  | @ins a C' dx fs ps' hh c t =>
    have e1 : ((.none, .int (C : Int)) :: ps : Flds) = (.none, .int (C' : Int)) :: ps' := by injection e
    injection e1 with e2 e3
    have e4 : (PyData.int (C : Int)) = .int (C' : Int) := by injection e2
    have e5 : (C : Int) = (C' : Int) := by injection e4
    have e6 : C = C' := by exact Int.ofNat.inj e5
    subst e6 e3
    obtain ⟨n, ha⟩ := wo_some hh
    exact ⟨a, dx, fs, rfl, n, ha, c, t⟩
  | _ => cases e
theorem Dq.ins {a dx : Addr} {fs : List (Str × V)} {ps : Flds} (na : N a = false) (h : H a = some (.ins C dx fs)) (c : OwnC K C) (t : DtKv K (wo N H) fs ps) : Dq K N H (.ref a) (insD C ps) :=
  Dt.ins (by rw [wo_in na]; exact h) c t
/-- e.f -/
theorem wd_fld {te : TE} {f : Str} (h : WD K S te ρ fun d ρ1 => ∃ C ps d', d = insD C ps ∧ NoAttr K C f ∧ getF f ps = some d' ∧ Φ d' ρ1) : WD K S (tFld K te f) ρ Φ := fun H0 N0 Z N σ H E Q q =>
  h H0 N0 Z N σ H E _ fun v d ρ1 H1 ⟨C, ps, d', e, hn, hg, f'⟩ E1 k1 d1 => by
    subst e
    obtain ⟨a, dx, fs, rfl, na, ha, c, t⟩ := d1.ins_inv
    obtain ⟨v, hl, dv⟩ := (kv_look t f).2 d' hg
    exact ⟨a, C, dx, fs, v, rfl, ha, c.cls, hn, hl, q _ _ ρ1 H1 f' E1 k1 dv⟩
/-- o.m(..), a method that reads -/
theorem wd_meth {m : Str} {T : List PyData → (PyData → Prop) → Prop} {E : XK} {te : TE} {ta : TA} (h : WD K S te ρ fun d ρ1 => ∃ ps, d = insD C ps ∧ getF m ps = none ∧ WA K S ta ρ1 fun xs ρ2 => T (d :: xs) fun z => Φ z ρ2) :
    WD K S (tMeth C m (spP K T) [] E te ta) ρ Φ := fun H0 N0 Z N σ H E' Q q =>
  h H0 N0 Z N σ H E' _ fun v d ρ1 H1 ⟨ps, e, hg, h2⟩ E1 k1 d1 => by
    have d1' := d1
    rw [e] at d1'
    obtain ⟨a, dx, fs, rfl, na, ha, c, t⟩ := d1'.ins_inv
    refine ⟨a, dx, fs, rfl, ha, (kv_look t m).1 hg, h2 H0 N0 Z N σ H1 E1 _ fun vs xs ρ2 H2 f E2 k2 d2 => ?_⟩
    refine ⟨N, d :: xs, _, E2.trk, ?_, f, fun d fd v H3 s dv => q v d ρ2 H3 fd (E2.ext s) ((k1.trans k2).trans (Keep.of s)) dv⟩
    rw [List.append_nil]
    exact .cons (d1.keep k2) d2
/-- what __init__ does: the fields that it leaves -/
def spIni (K : PySem.W.Frag) (C : Addr) (T : List PyData → (Flds → Prop) → Prop) : Sp := fun vs H Q _ => ∃ (N : Av) (x dx : Addr) (us : List V) (ds : List PyData) (Φ : Flds → Prop), vs = .ref x :: us ∧ (∀ b, N b = true → H b ≠ none) ∧ N x = true ∧ DqAll K N H us ds ∧
  H x = some (.ins C dx []) ∧ T ds Φ ∧ ∀ ps fs H', Φ ps → (∀ b o, b ≠ x → H b = some o → H' b = some o) → H' x = some (.ins C dx fs) → DtKv K (wo N H') fs ps → Q .non H'
theorem kv_le {N N' : Av} {fs : List (Str × V)} {ps : Flds} (h : DtKv K (wo N' H) fs ps) (k : Le N N') : DtKv K (wo N H) fs ps := dpkv_mono k.wo ps fs h
theorem mk_run {T : List PyData → (Flds → Prop) → Prop} {E : XK} {Q : VK} {us : List V} {ds : List PyData} {k0 : Hp} (cC : OwnC K C) (E1 : EnvD K S H0 N0 Z N σ H ρ) (d1 : DqAll K N H us ds) (f : T ds fun ps => Φ (insD C ps) ρ)
    (q : ∀ v d ρ' H', Φ d ρ' → EnvD K S H0 N0 Z N σ H' ρ' → Keep N H H' → Dq K N H' v d → Q v H') (x dx : Addr) (hx : H x = none) (hdx : H dx = none) (ne : dx ≠ x) :
    spIni K C T (.ref x :: us) (upd (upd H dx (.own x)) x (.ins C dx [])) (fun v H3 => v = .non ∧ Q (.ref x) H3) E := by
  have s0 : Same H (upd (upd H dx (.own x)) x (.ins C dx [])) := fun b o hb => by
    have n1 : b ≠ x := fun z => by rw [z, hx] at hb; cases hb
    have n2 : b ≠ dx := fun z => by rw [z, hdx] at hb; cases hb
    rw [upd_ne n1, upd_ne n2]; exact hb
  have nx : N x = false := fresh_av E1.trk hx
  refine ⟨fun b => N b || decide (b = x), x, dx, us, ds, _, rfl, fun b hb => ?_, ?_, ?_, upd_same, f, fun ps fs H' fp kp hx' t => ⟨rfl, ?_⟩⟩
  · rcases Bool.or_eq_true_iff.mp hb with e | e
    · intro z
      cases q2 : H b with
      | none => exact E1.trk b e q2
      | some o => rw [s0 b o q2] at z; cases z
    · rw [of_decide_eq_true e, upd_same]; simp
  · show (N x || decide (x = x)) = true; rw [decide_eq_true rfl, Bool.or_true]
  · refine dpall_mono (fun b o hb => ?_) ds us d1
    obtain ⟨n, hb⟩ := wo_some hb
    have n1 : b ≠ x := fun z => by rw [z, hx] at hb; cases hb
    rw [wo_in (by show (N b || decide (b = x)) = false; rw [n, decide_eq_false n1]; rfl)]
    exact s0 b o hb
  · have s1 : Same H H' := fun b o hb => kp b o (fun z => by rw [z, hx] at hb; cases hb) (s0 b o hb)
    exact q _ _ ρ H' fp (E1.ext s1) (Keep.of s1) (Dq.ins nx hx' cC (kv_le t fun b hb => by show (N b || _) = true; rw [hb]; rfl))
/-- C(e, ..) -/
theorem wd_make {T : List PyData → (Flds → Prop) → Prop} {dvs : List V} {dds : List PyData} {E : XK} {ta : TA} (cC : OwnC K C) (hd : ∀ H : Hp, DtAll K H dvs dds) (h : WA K S ta ρ fun xs ρ1 => T (xs ++ dds) fun ps => Φ (insD C ps) ρ1) :
    WD K S (tMake C (spIni K C T) dvs E ta) ρ Φ := fun H0 N0 Z N σ H E' Q q =>
  h H0 N0 Z N σ H E' _ fun vs xs ρ1 H1 f E1 k1 d1 x dx hx hdx ne =>
    mk_run (k0 := H) cC E1 (d1.append (hd _)) f (fun v d ρ' H' fd E2 k2 dv => q v d ρ' H' fd E2 (k1.trans k2) dv) x dx hx hdx ne
/-- C(e, .., k = e, ..) -/
theorem wd_makeK {T : List PyData → (Flds → Prop) → Prop} {n m : Nat} {gV : List V → List V → List V} {gD : List PyData → List PyData → List PyData} {E : XK} {ta tk : TA} (cC : OwnC K C)
    (hg : ∀ (N : Av) (H : Hp) (x : Addr) vs zs ds es, DqAll K N H vs ds → DqAll K N H zs es → ∃ us, gV (.ref x :: vs) zs = .ref x :: us ∧ DqAll K N H us (gD ds es))
    (h : WA K S ta ρ fun xs ρ1 => WA K S tk ρ1 fun ys ρ2 => xs.length = n ∧ ys.length = m ∧ T (gD xs ys) fun ps => Φ (insD C ps) ρ2) :
    WD K S (tMakeK C n m (spIni K C T) gV E ta tk) ρ Φ := fun H0 N0 Z N σ H E' Q q =>
  h H0 N0 Z N σ H E' _ fun vs xs ρ1 H1 f E1 k1 d1 => f H0 N0 Z N σ H1 E1 _ fun zs ys ρ2 H2 ⟨l1, l2, f2⟩ E2 k2 d2 => by
    refine ⟨by rw [d1.len]; exact l1, by rw [d2.len]; exact l2, fun x dx hx hdx ne => ?_⟩
    obtain ⟨us, eu, du⟩ := hg N H2 x vs zs xs ys (d1.keep k2) d2
    rw [eu]
    exact mk_run (k0 := H) cC E2 du f2 (fun v d ρ' H' fd E3 k3 dv => q v d ρ' H' fd E3 ((k1.trans k2).trans k3) dv) x dx hx hdx ne
end
/-! ### __init__ walked: self as a store -/
/-- an instance under construction, its fields just these -/
def mkSelf (x C dx : Addr) (fs : List (Str × V)) : Stt where
  a := x
  fp b := decide (b = x)
  ok H _ := H x = some (.ins C dx fs)
  loc H H' B h k := (h x (by simp)).trans k
  trk H B k b hb := by
    have e : b = x := of_decide_eq_true hb
    rw [e, k]; simp
section
variable {K : PySem.W.Frag} {C : Addr} {n : Nat}
/-- no lists of one's own, no script -/
def plR (ρ : Rho) : Prop := ∀ s ∈ ρ, s = .unk ∨ (∃ d, s = .dat d) ∨ s = .sto 0
/-- a statement of __init__: R tells what is known behind it -/
def WSI (K : PySem.W.Frag) (C : Addr) (ts : TS) (ρ : Rho) (ps : Flds) (R : Rho → Flds → Prop) : Prop :=
  ∀ (N : Av) (x dx : Addr) (fs : List (Str × V)) (σ : L2.St) (H : Hp) (D : Ends), EnvD K (mkSelf x C dx fs) H N [] N σ H ρ → ρ[0]? = some (.sto 0) → plR ρ → DtKv K (wo N H) fs ps →
    (∀ N' ρ' ps' fs' σ' H', R ρ' ps' → Le N N' → EnvD K (mkSelf x C dx fs') H' N' [] N' σ' H' ρ' → ρ'[0]? = some (.sto 0) → plR ρ' → DtKv K (wo N' H') fs' ps' → (∀ b o, b ≠ x → H b = some o → H' b = some o) → D.nx σ' H') → ts D σ H
theorem env_re {x dx : Addr} {fs fs' : List (Str × V)} {H0 H H' : Hp} {N0 N : Av} {σ : L2.St} {ρ : Rho} (E : EnvD K (mkSelf x C dx fs) H0 N0 [] N σ H ρ) (pl : plR ρ) (hw : wo N H' = wo N H) (ht : ∀ b, N b = true → H' b ≠ none) (hx : H' x = some (.ins C dx fs')) :
    EnvD K (mkSelf x C dx fs') H' N [] N σ H' ρ where
  keep b o n h := h
  base := Le.refl
  trk := ht
  sub b h := E.sub b h
  slot i s h := by
    have w := E.slot i s h
    rcases pl s (List.mem_of_getElem? h) with rfl | ⟨d, rfl⟩ | rfl
    · trivial
    · obtain ⟨v, h1, h2⟩ := w
      refine ⟨v, h1, ?_⟩
      show Dt K (wo N H') v d
      rw [hw]; exact h2
    · exact ⟨w.1, hx⟩
  len := E.len
  hid z h := nomatch h
  injH i di dj p h1 h2 h3 := nomatch h3
  injZ i j di dj p h1 h2 := by simp at h1
  inj i j di dj p h1 h2 h3 h4 := by
    rcases pl _ (List.mem_of_getElem? h1) with e | ⟨d, e⟩ | e <;> cases e
theorem env_dn {x dx : Addr} {fs : List (Str × V)} {H0 H : Hp} {N0 N N' : Av} {σ : L2.St} {ρ : Rho} (E : EnvD K (mkSelf x C dx fs) H0 N0 [] N' σ H ρ) (pl : plR ρ) (l : Le N N') (nx : N x = true) (hx : H x = some (.ins C dx fs)) :
    EnvD K (mkSelf x C dx fs) H N [] N σ H ρ where
  keep b o n h := h
  base := Le.refl
  trk b h := E.trk b (l b h)
  sub b h := by rw [of_decide_eq_true h]; exact nx
  slot i s h := by
    have w := E.slot i s h
    rcases pl s (List.mem_of_getElem? h) with rfl | ⟨d, rfl⟩ | rfl
    · trivial
    · obtain ⟨v, h1, h2⟩ := w
      exact ⟨v, h1, Dq.le h2 l⟩
    · exact ⟨w.1, hx⟩
  len := E.len
  hid z h := nomatch h
  injH i di dj p h1 h2 h3 := nomatch h3
  injZ i j di dj p h1 h2 := by simp at h1
  inj i j di dj p h1 h2 h3 h4 := by
    rcases pl _ (List.mem_of_getElem? h1) with e | ⟨d, e⟩ | e <;> cases e
theorem wsi_seq {t u : TS} {ρ : Rho} {ps : Flds} {R : Rho → Flds → Prop} (h : WSI K C t ρ ps fun ρ1 ps1 => WSI K C u ρ1 ps1 R) : WSI K C (tSeq t u) ρ ps R := fun N x dx fs σ H D E e0 pl t k =>
  h N x dx fs σ H _ E e0 pl t fun N1 ρ1 ps1 fs1 σ1 H1 r1 l1 E1 e1 pl1 t1 k1 =>
    r1 N1 x dx fs1 σ1 H1 D E1 e1 pl1 t1 fun N2 ρ2 ps2 fs2 σ2 H2 r2 l2 E2 e2 pl2 t2 k2 => k N2 ρ2 ps2 fs2 σ2 H2 r2 (l1.trans l2) E2 e2 pl2 t2 fun b o n hb => k2 b o n (k1 b o n hb)
/-- a statement that leaves the fields -/
theorem wsi_ws {ts : TS} {ρ : Rho} {ps : Flds} {R : Rho → Flds → Prop} (h : ∀ S, WS K S ts ρ { nx := fun ρ' => R ρ' ps ∧ plR ρ' ∧ ρ'[0]? = some (.sto 0), rt := fun _ _ => False }) : WSI K C ts ρ ps R := fun N x dx fs σ H D E e0 pl t k => by
  refine h _ H N [] N σ H D E ⟨fun N' σ' H' ρ' ⟨r, pl', e'⟩ E' => ?_, fun _ _ _ _ _ _ z => z.elim, fun _ _ _ _ z => z.elim, fun _ _ _ _ z => z.elim⟩
  have hx' : H' x = some (.ins C dx fs) := (E'.slot 0 _ e').2
  have nx : N x = true := E.sub x (decide_eq_true rfl)
  have kp : ∀ b o, b ≠ x → H b = some o → H' b = some o := fun b o n hb => E'.keep b o (decide_eq_false n) hb
  refine k N ρ' ps fs σ' H' r Le.refl (env_dn E' pl' E'.base nx hx') e' pl' (dpkv_mono (fun b o hb => ?_) ps fs t) kp
  obtain ⟨n, hb⟩ := wo_some hb
  rw [wo_in n]
  exact kp b o (fun z => by rw [z, nx] at n; cases n) hb
/-- self.f = e -/
theorem wsi_fld {te : TE} {f : Str} {ρ : Rho} {ps : Flds} {R : Rho → Flds → Prop} (c : L2.Cls K C) (hn : NoAttr K C f) (hl : ps.length < 999) (h : ∀ (x dx : Addr) (fs : List (Str × V)), (∀ g i, getF g ps = some (.int i) → fs.lookup g = some (.int i)) → WD K (mkSelf x C dx fs) te ρ fun d ρ' => R ρ' (putP f d ps) ∧ plR ρ' ∧ ρ'[0]? = some (.sto 0)) : WSI K C (sFld K (tVar 0) te f) ρ ps R := fun N x dx fs σ H D E e0 pl t k => by
  have hi : ∀ g i, getF g ps = some (.int i) → fs.lookup g = some (.int i) := fun g i e => by
    obtain ⟨v, hv, dv⟩ := (kv_look t g).2 _ e
    cases dv
    exact hv
  refine h x dx fs hi H N [] N σ H E _ fun v d ρ1 H1 ⟨r, pl1, e1⟩ E1 k1 d1 => ?_
  obtain ⟨g1, g2⟩ := E1.slot 0 _ e1
  have hx1 : H1 x = some (.ins C dx fs) := g2
  have nx : N x = true := E.sub x (decide_eq_true rfl)
  refine ⟨_, g1, x, C, dx, fs, rfl, hx1, c, hn, by rw [kv_len t]; omega, ?_⟩
  have hw : wo N (upd H1 x (.ins C dx (putF f v fs))) = wo N H1 := by
    funext b
    by_cases e : b = x
    · subst e; rw [wo_out nx, wo_out nx]
    · unfold wo; rw [upd_ne e]
  have E2 := env_re (fs' := putF f v fs) E1 pl1 hw (fun b hb => by
    by_cases e : b = x
    · subst e; rw [upd_same]; simp
    · rw [upd_ne e]; exact E1.trk b hb) upd_same
  refine k N ρ1 _ _ σ _ r Le.refl E2 e1 pl1 ?_ fun b o n hb => by rw [upd_ne n]; exact E1.keep b o (decide_eq_false n) hb
  rw [hw]
  exact kv_put d1 (dpkv_mono k1.wo ps fs t)
theorem plR_nil : plR [] := fun _ h => nomatch h
theorem plR_unk {ρ : Rho} (h : plR ρ) : plR (.unk :: ρ) := fun s hs => by
  rcases List.mem_cons.mp hs with rfl | hs
  · exact .inl rfl
  · exact h s hs
theorem plR_dat {ρ : Rho} {d : PyData} (h : plR ρ) : plR (.dat d :: ρ) := fun s hs => by
  rcases List.mem_cons.mp hs with rfl | hs
  · exact .inr (.inl ⟨_, rfl⟩)
  · exact h s hs
theorem plR_sto {ρ : Rho} (h : plR ρ) : plR (.sto 0 :: ρ) := fun s hs => by
  rcases List.mem_cons.mp hs with rfl | hs
  · exact .inr (.inr rfl)
  · exact h s hs
/-- self.f, a whole number, within __init__ -/
theorem wd_fldS {x dx : Addr} {fs : List (Str × V)} {f : Str} {i : Int} {ρ : Rho} {Φ : PyData → Rho → Prop} {B : Nat} (c : L2.Cls K C) (hn : NoAttr K C f) (h0 : ρ[0]? = some (.sto B)) (hl : fs.lookup f = some (.int i)) (h : Φ (.int i) ρ) :
    WD K (mkSelf x C dx fs) (tFld K (tVar 0) f) ρ Φ := fun H0 N0 Z N σ H E Q q => by
  obtain ⟨g1, g2⟩ := E.slot 0 _ h0
  exact ⟨_, g1, x, C, dx, fs, .int i, rfl, g2, c, hn, hl, q _ _ ρ H h E Keep.refl (Dt.int _)⟩
/-- __init__ run -/
theorem run_ini {Nm : List Str} {ts : TS} {vs : List V} {H : Hp} {Q : VK} {E : XK} {T : List PyData → (Flds → Prop) → Prop} (hn : Nm.length = vs.length + n) (h : spIni K C T vs H Q E)
    (b : ∀ ds Φ, T ds Φ → WSI K C ts (.sto 0 :: (ds.map Sl.dat ++ List.replicate n .unk)) [] fun _ ps => Φ ps) : ts { nx := fun _ H' => Q .non H', rt := Q } (L2.start Nm vs) H := by
  obtain ⟨N, x, dx, us, ds, Φ, rfl, ht, nx, hd, hx, hT, hQ⟩ := h
  have hl := hd.len
  have est : L2.start Nm (.ref x :: us) = some (.ref x) :: (us.map some ++ List.replicate n none) := by
    unfold L2.start
    rw [List.length_cons] at hn
    rw [List.map_cons, List.length_cons, hn, show us.length + 1 + n - (us.length + 1) = n by omega]
    rfl
  rw [est]
  have E : EnvD K (mkSelf x C dx []) H N [] N (some (.ref x) :: (us.map some ++ List.replicate n none)) H (.sto 0 :: (ds.map Sl.dat ++ List.replicate n .unk)) := {
    keep := fun _ _ _ h => h
    base := Le.refl
    trk := ht
    sub := fun b hb => by rw [of_decide_eq_true hb]; exact nx
    len := by simp [hl]
    hid := fun z h => nomatch h
    injH := fun _ _ _ _ _ _ h3 => nomatch h3
    injZ := fun _ _ _ _ _ h1 _ => by simp at h1
    inj := fun i j di dj p h1 h2 h3 h4 => by
      have := List.mem_of_getElem? h1
      simp at this
    slot := fun i s h => by
      cases i with
      | zero =>
        cases h
        exact ⟨rfl, hx⟩
      | succ i =>
        have h : (ds.map Sl.dat ++ List.replicate n .unk)[i]? = some s := h
        by_cases hi : i < ds.length
        · rw [List.getElem?_append_left (by rw [List.length_map]; exact hi), List.getElem?_map, List.getElem?_eq_getElem hi] at h
          cases h
          obtain ⟨v, hv, dv⟩ := hd.get (List.getElem?_eq_getElem hi)
          refine ⟨v, ?_, dv⟩
          show (us.map some ++ List.replicate n none)[i]? = _
          rw [List.getElem?_append_left (by rw [List.length_map, hl]; exact hi), List.getElem?_map, hv]; rfl
        · have : s = .unk := by
            have m := List.mem_of_getElem? (l := List.replicate n Sl.unk) (i := i - ds.length) (a := s) (by rw [List.getElem?_append_right (by rw [List.length_map]; omega), List.length_map] at h; exact h)
            exact List.eq_of_mem_replicate m
          subst this
          trivial }
  refine b ds Φ hT N x dx [] _ H _ E rfl (fun s hs => ?_) .nil fun N' ρ' ps' fs' σ' H' fp l E' e' pl' t k => ?_
  · rcases List.mem_cons.mp hs with rfl | hs
    · exact .inr (.inr rfl)
    · rcases List.mem_append.mp hs with hs | hs
      · obtain ⟨d, _, rfl⟩ := List.mem_map.mp hs
        exact .inr (.inl ⟨d, rfl⟩)
      · exact .inl (List.eq_of_mem_replicate hs)
  · exact hQ ps' fs' H' fp k (E'.slot 0 _ e').2 (kv_le t l)
end
end DL

set_option Elab.async false
set_option linter.all false
set_option maxRecDepth 100000
set_option maxHeartbeats 4000000
/-! DI2: type(x) not in (..), len(set(..)) -/
namespace DL
open PySem PySem.Spec PyProof.Rows L2
/-! ### type(x) not in (tuple, list) -/
theorem meta_small : ∀ {T : String}, T ∈ tySmall ++ ["dict"] → ∀ s' : Shared, s'.TypeIs (.type T) "type" := fun {T} h s' => by
  simp only [tySmall, List.cons_append, List.nil_append, List.mem_cons, List.not_mem_nil, or_false] at h
  rcases h with rfl | rfl | rfl | rfl | rfl | rfl | rfl
  · exact TypeEq.meta_NoneType s'
  · exact TypeEq.meta_bool s'
  · exact TypeEq.meta_int s'
  · exact TypeEq.meta_str s'
  · exact TypeEq.meta_list s'
  · exact TypeEq.meta_tuple s'
  · exact TypeEq.meta_dict s'
theorem eqAt_ty {A : Around} {s : Shared} {a b : String} (ha : a ∈ tySmall ++ ["dict"]) (hb : b ∈ tySmall ++ ["dict"]) : SeqAt.EqAt A s (.type a) (.type b) (decide (a = b)) := by
  by_cases e : a = b
  · subst e
    rw [decide_eq_true rfl]
    exact SeqAt.EqAt.same _
  · rw [decide_eq_false e]
    intro prog w E Q h
    have ne : (Value.type a == Value.type b) = false := (ty_beq a b).trans (decide_eq_false e)
    unfold eqBool
    refine wpAny_holding ?_
    refine wpAny_ite_split (fun hab => absurd hab (by rw [ne]; exact Bool.false_ne_true)) (fun _ => ?_)
    exact wpAny_bind (TypeEq.eq_type_other (meta_small ha) (meta_small hb) ne (wpAny_truthy_bool h))
/-- x not in (..), of classes -/
def rTyNot (K : PySem.W.Frag) : R2 := fun x y H Q => ∃ (a : String) (p : Addr) (ts : List String), x = V.ty a ∧ a ∈ tySmall ++ ["dict"] ∧ y = V.ref p ∧ SqT K H p (ts.map V.ty) ∧ (∀ t ∈ ts, t ∈ tySmall ++ ["dict"]) ∧ Q (.bl (!decide (a ∈ ts))) H
def eqTy (a : String) : Value → Bool
  | .type b => decide (b = a)
  | _ => false
theorem vals_ty : ∀ {ts : List String} {us : List Value}, Vals (ts.map V.ty) us → us = ts.map Value.type
  | [], _, h => by cases h; rfl
  | t :: ts, _, h => by
    cases h with
    | cons r q => rw [List.map_cons, vals_ty q]; cases (show _ = Value.type t from r); rfl
theorem op_notTyT {X : Cx} : OpR X (compareOp .NotIn) (rTyNot X.K) := by
  intro pins s σ H x y v u Q I rx ry h
  obtain ⟨a, p, ts, rfl, ha, rfl, hT, ht, q⟩ := h
  cases (show v = Value.type a from rx)
  cases ry
  obtain ⟨its, r, pl, hz⟩ := I.tuple hT
  obtain rfl := vals_ty r
  refine SeqAt.notIn_tupleAt (eqTy a) pl (fun w hw => ?_) ⟨.bl _, H, I, rfl, ?_⟩
  · have hw' : w ∈ ts.map Value.type := by simpa using hw
    obtain ⟨b, hb, rfl⟩ := List.mem_map.mp hw'
    exact eqAt_ty (ht b hb) ha
  · have e : (ts.map Value.type).toArray.any (eqTy a) = decide (a ∈ ts) := by
      rw [Bool.eq_iff_iff, decide_eq_true_iff]
      simp only [List.any_toArray, List.any_map, List.any_eq_true, Function.comp]
      constructor
      · rintro ⟨b, hb, e⟩
        have : b = a := of_decide_eq_true e
        rw [← this]; exact hb
      · intro h
        exact ⟨a, h, decide_eq_true rfl⟩
    rw [e]
    exact q
section
variable {K : PySem.W.Frag} {S : Stt} {ρ : Rho} {Φ : PyData → Rho → Prop} {Ψ : PyData → Prop}
theorem tyD_small (d : PyData) : tyD d ∈ tySmall ++ ["dict"] := by cases d <;> simp [tyD, tySmall]
/-- type(x) not in (A, B), x no instance -/
theorem wd_tyNot2 {te : TE} {A B : String} (h : WD K S te ρ fun d ρ1 => (∀ C ps, d ≠ insD C ps) ∧ Φ (.bool (!decide (tyD d = A ∨ tyD d = B))) ρ1) (hA : A ∈ tySmall := by decide) (hB : B ∈ tySmall := by decide) :
    WD K S (tOp (rTyNot K) (tCB (rTypM K) (tCons te tNil)) (tTup (tCons (tC (.ty A)) (tCons (tC (.ty B)) tNil)))) ρ Φ := fun H0 N0 Z N σ H E Q q =>
  h H0 N0 Z N σ H E _ fun v d ρ1 H1 ⟨ni, f⟩ E1 k1 d1 => by
    refine .inl ⟨v, tyD d, rfl, ?_, ?_⟩
    · have dt := d1.dt
      cases dt with
      | ins h c t => exact absurd rfl (ni _ _)
      | non => exact .non
      | bl b => exact .bl b
      | int i => exact .int i
      | str x => exact .str x
      | lst h t => exact .lst (.inl h)
      | tup h t => exact .tup h
      | dct h => exact .dK h
      | dco h => exact .dK h
    refine ⟨Nat.le_of_ble_eq_true rfl, fun p hp => ?_⟩
    have s := same_new hp (.tup [V.ty A, V.ty B])
    refine ⟨tyD d, p, [A, B], rfl, tyD_small d, rfl, .inl (.inl upd_same), fun t ht => ?_, ?_⟩
    · simp only [List.mem_cons, List.not_mem_nil, or_false] at ht
      rcases ht with rfl | rfl
      · exact List.mem_append_left _ hA
      · exact List.mem_append_left _ hB
    · have e : (decide (tyD d ∈ [A, B])) = decide (tyD d = A ∨ tyD d = B) := by simp
      rw [e]
      exact q _ _ ρ1 _ f (E1.ext s) (k1.trans (Keep.of s)) (Dt.bl _)
end
/-! ### len(set(x)) of a row of whole numbers -/
theorem nd_le {α : Type} [DecidableEq α] : ∀ {l m : List α}, l.Nodup → (∀ k ∈ l, k ∈ m) → l.length ≤ m.length
  | [], _, _, _ => Nat.zero_le _
  | a :: r, m, h, hs => by
    obtain ⟨h1, h2⟩ := List.nodup_cons.mp h
    have ha := hs a List.mem_cons_self
    have ih := nd_le (m := m.erase a) h2 fun k hk => (List.mem_erase_of_ne (fun e => h1 (by rw [← e]; exact hk))).mpr (hs k (List.mem_cons_of_mem _ hk))
    rw [List.length_erase_of_mem ha] at ih
    have := List.length_pos_of_mem ha
    rw [List.length_cons]; omega
theorem nd_not {α : Type} [DecidableEq α] : ∀ {m : List α}, ¬ m.Nodup → ∃ a ∈ m, a ∈ m.erase a
  | [], h => absurd List.nodup_nil h
  | b :: t, h => by
    by_cases hb : b ∈ t
    · exact ⟨b, List.mem_cons_self, by rw [List.erase_cons_head]; exact hb⟩
    · obtain ⟨a, ha, h2⟩ := nd_not (m := t) fun z => h (List.nodup_cons.mpr ⟨hb, z⟩)
      refine ⟨a, List.mem_cons_of_mem _ ha, ?_⟩
      have ne : ¬ (b == a) = true := fun e => hb (by rw [eq_of_beq e]; exact ha)
      rw [List.erase_cons, if_neg ne]
      exact List.mem_cons_of_mem _ h2
theorem nd_iff {α : Type} [DecidableEq α] {l m : List α} (h : l.Nodup) (hm : ∀ k, k ∈ l ↔ k ∈ m) : l.length ≤ m.length ∧ (l.length = m.length ↔ m.Nodup) := by
  refine ⟨nd_le h fun k hk => (hm k).mp hk, fun e => ?_, fun z => ?_⟩
  · refine Classical.byContradiction fun z => ?_
    obtain ⟨a, ha, h2⟩ := nd_not z
    have := nd_le (m := m.erase a) h fun k hk => by
      by_cases e : k = a
      · rw [e]; exact h2
      · exact (List.mem_erase_of_ne e).mpr ((hm k).mp hk)
    rw [List.length_erase_of_mem ha] at this
    have := List.length_pos_of_mem ha
    omega
  · exact Nat.le_antisymm (nd_le h fun k hk => (hm k).mp hk) (nd_le z fun k hk => (hm k).mpr hk)
theorem fm_nd (val : Nat → Int) : ∀ n, (firstMet val n).Nodup ∧ ∀ k, k ∈ firstMet val n ↔ ∃ i, i < n ∧ val i = k
  | 0 => ⟨by rw [firstMet_zero]; exact List.nodup_nil, fun k => by rw [firstMet_zero]; simp⟩
  | n + 1 => by
    obtain ⟨h1, h2⟩ := fm_nd val n
    rw [firstMet_succ]
    unfold step_dedup
    have key : ∀ k, (∃ i, i < n + 1 ∧ val i = k) ↔ (∃ i, i < n ∧ val i = k) ∨ val n = k := fun k => by
      constructor
      · rintro ⟨i, hi, e⟩
        by_cases c : i = n
        · subst c; exact .inr e
        · exact .inl ⟨i, by omega, e⟩
      · rintro (⟨i, hi, e⟩ | e)
        · exact ⟨i, by omega, e⟩
        · exact ⟨n, Nat.lt_succ_self n, e⟩
    split
    · rename_i c
      have hv : val n ∈ firstMet val n := by
        obtain ⟨x, hx, e⟩ := List.any_eq_true.mp c
        rw [← eq_of_beq e]; exact hx
      refine ⟨h1, fun k => ?_⟩
      rw [key, h2]
      constructor
      · exact .inl
      · rintro (h | h)
        · exact h
        · rw [← h]; exact (h2 _).mp hv
    · rename_i c
      have hv : val n ∉ firstMet val n := fun m => c (List.any_eq_true.mpr ⟨_, m, beq_self_eq_true _⟩)
      refine ⟨List.nodup_append.mpr ⟨h1, List.pairwise_singleton _ _, fun a ha b hb e => ?_⟩, fun k => ?_⟩
      · rw [List.mem_singleton] at hb
        subst hb; rw [e] at ha; exact hv ha
      · rw [key, List.mem_append, h2, List.mem_singleton]
        constructor
        · rintro (h | h)
          · exact .inl h
          · exact .inr h.symm
        · rintro (h | h)
          · exact .inl h
          · exact .inr h.symm
def tLenSet (K : PySem.W.Frag) (ta : TE) : TE := fun σ H Q => ta σ H fun x H1 => ∃ (l : Addr) (ns : List Int), x = V.ref l ∧ (SqL K H1 l (ns.map V.int) ∨ SqT K H1 l (ns.map V.int)) ∧ ns.length ≤ 4000 ∧ ∀ c : Nat, c ≤ ns.length → (c = ns.length ↔ ns.Nodup) → Q (.int (c : Nat)) H1
theorem pe_lenSet {X : Cx} {a : Expr} {ta : TE} {p p2 q pos : Pos} (hg : Gl X "len") (hm : X.mg "len" = none) (hg2 : Gl X "set") (hm2 : X.mg "set" = none) (ha : PE X a ta) (hc : X.calm = true := by rfl)
    (na : starEach [a] X.env = (false, eval a X.env) :: starEach [] X.env := by rfl) : PE X (.Call (.Name "len" p) [.Call (.Name "set" p2) [a] [] q] [] pos) (tLenSet X.K ta) := by
  refine ⟨fun pins s σ H Q I h => ?_⟩
  refine Call_ (ld_blt I hg hm boot_len ?_)
  refine PyProof.Rows.callWith_builtin1 (PyProof.Rows.args_cons ?_ rfl) rfl rfl
  refine Call_ (ld_blt I hg2 hm2 boot_set ?_)
  refine PyProof.Rows.callWith_type1 (PyProof.Rows.args_cons (thn (ha.run pins s σ H _ I h) fun v s1 ⟨x, H1, I1, r1, q1⟩ => PyProof.Rows.args_nil ?_) na) na rfl
  obtain ⟨l, ns, rfl, hq, hl, q1⟩ := q1
  cases r1
  rcases hq with hq | hq
  · obtain ⟨its, r, pl, hz⟩ := I1.list hq
    have hlen : its.toArray.size = ns.length := by rw [List.size_toArray, ← r.length, List.length_map]
    refine call_set_list (I1.ok.hd hc) pl.isList (by simpa using r.ints) (by rw [hlen]; unfold scanBound; omega) fun h' tk hS hk => ?_
    refine PyProof.Rows.args_nil ?_
    rw [hlen] at hS
    obtain ⟨n1, n2⟩ := fm_nd (fun i => ns.getD i 0) ns.length
    have ni := nd_iff (m := ns) n1 fun k => by
      rw [n2]
      constructor
      · rintro ⟨i, hi, e⟩
        rw [List.getD_eq_getElem?_getD, List.getElem?_eq_getElem hi] at e
        rw [← e]; exact List.getElem_mem hi
      · intro hk
        obtain ⟨i, hi, e⟩ := List.getElem_of_mem hk
        exact ⟨i, hi, by rw [List.getD_eq_getElem?_getD, List.getElem?_eq_getElem hi]; exact e⟩
    obtain ⟨o, es, ep, t, ho, hex, hd, _, _, _, hf, hn⟩ := hS
    have I2 : L2.Inv X pins σ H1 { s1 with heap := h', toks := tk } := I1.kept fun b o e => hk b o (Heap.lt_size e) e
    have l1 := ni.1
    exact call_len_set ho hex hd hf (by rw [hn] <;> omega) ⟨.int _, H1, I2.tok _, ⟨_, by rw [hn]⟩, q1 _ ni.1 ni.2⟩
  · obtain ⟨its, r, pl, hz⟩ := I1.tuple hq
    refine call_set_tupI ns (I1.ok.hd hc) (show s1.heap.IsTuple l its.toArray from pl) (by simpa using r.ints) (by unfold scanBound; omega) fun h' tk c R1 hcn k => ?_
    refine PyProof.Rows.args_nil ?_
    obtain ⟨o, es, ep, t, ho, hex, hd, g, nd, hm2, hb, hf, hn, hr, hl2⟩ := R1
    have I2 : L2.Inv X pins σ H1 { s1 with heap := h', toks := tk } := I1.kept fun b o e => k b o e
    have ni := nd_iff (m := ns) nd fun j => by rw [← hm2 j, decide_eq_true_iff]
    rw [List.length_map, Array.length_toList] at ni
    exact call_len_set ho hex hd hf (by omega) ⟨.int (es.size : Nat), H1, I2.tok _, ⟨_, rfl⟩, q1 _ ni.1 ni.2⟩
section
variable {K : PySem.W.Frag} {S : Stt} {ρ : Rho} {Φ : PyData → Rho → Prop} {Ψ : PyData → Prop}
theorem wd_lenSet {te : TE} (h : WD K S te ρ fun d ρ1 => ∃ ns : List Int, (d = .list (ns.map PyData.int) ∨ d = .tuple (ns.map PyData.int)) ∧ ns.length ≤ 4000 ∧ ∀ c : Nat, c ≤ ns.length → (c = ns.length ↔ ns.Nodup) → Φ (.int (c : Nat)) ρ1) : WD K S (tLenSet K te) ρ Φ := fun H0 N0 Z N σ H E Q q =>
  h H0 N0 Z N σ H E _ fun v d ρ1 H1 ⟨ns, e, hl, f⟩ E1 k1 d1 => by
    rcases e with rfl | rfl
    · obtain ⟨p, xs, rfl, _, h1, h2⟩ := d1.lst_inv
      obtain rfl := h2.of_ints
      exact ⟨p, ns, rfl, .inl (.inl h1), hl, fun c c1 c2 => q _ _ ρ1 H1 (f c c1 c2) E1 k1 (Dt.int _)⟩
    · obtain ⟨p, xs, rfl, _, h1, h2⟩ := d1.tup_inv
      obtain rfl := h2.of_ints
      exact ⟨p, ns, rfl, .inr h1, hl, fun c c1 c2 => q _ _ ρ1 H1 (f c c1 c2) E1 k1 (Dt.int _)⟩
end
end DL

set_option Elab.async false
set_option linter.all false
set_option maxRecDepth 100000
set_option maxHeartbeats 4000000
/-! DI3: the least period of a text that goes round -/
namespace DL
open PySem PySem.Spec PyProof.Rows
def Per (f : Nat → Nat) (k : Nat) : Prop := ∀ i, f (i + k) = f i
theorem Per.mul {f : Nat → Nat} {k : Nat} (h : Per f k) : ∀ m, Per f (k * m)
  | 0 => fun i => by rw [Nat.mul_zero]; rfl
  | m + 1 => fun i => by rw [Nat.mul_succ, ← Nat.add_assoc, h, Per.mul h m]
theorem Per.mod {f : Nat → Nat} {k n : Nat} (h : Per f k) (hn : Per f n) : Per f (n % k) := fun i => by
  have e := Nat.div_add_mod n k
  have h1 := Per.mul h (n / k) (i + n % k)
  rw [← h1, show i + n % k + k * (n / k) = i + n by omega]
  exact hn i
/-- the least one divides each -/
theorem Per.dvd {f : Nat → Nat} {k n : Nat} (h : Per f k) (h0 : 0 < k) (hl : ∀ j, 0 < j → j < k → ¬ Per f j) (hn : Per f n) : k ∣ n := by
  refine Nat.dvd_of_mod_eq_zero ?_
  refine Classical.byContradiction fun z => ?_
  exact hl _ (by omega) (Nat.mod_lt _ h0) (h.mod hn)
theorem Per.at {f : Nat → Nat} {k : Nat} (h : Per f k) (i : Nat) : f i = f (i % k) := by
  have e := Nat.div_add_mod i k
  have h1 := Per.mul h (i / k) (i % k)
  rw [show i % k + k * (i / k) = i by omega] at h1
  exact h1
/-- a row, going round -/
def rnd (w : List Nat) (i : Nat) : Nat := w.getD (i % w.length) 0
theorem rnd_per (w : List Nat) : Per (rnd w) w.length := fun i => by unfold rnd; rw [Nat.add_mod_right]
def rot (w : List Nat) (k : Nat) : Prop := ((w ++ w).drop k).take w.length = w
theorem ww_get {w : List Nat} {j : Nat} (h : j < w.length + w.length) : (w ++ w)[j]? = some (rnd w j) := by
  have h0 : 0 < w.length := by omega
  unfold rnd
  by_cases c : j < w.length
  · rw [List.getElem?_append_left c, Nat.mod_eq_of_lt c, List.getD_eq_getElem?_getD, List.getElem?_eq_getElem c]; rfl
  · rw [List.getElem?_append_right (by omega), Nat.mod_eq_sub_mod (by omega), Nat.mod_eq_of_lt (by omega), List.getD_eq_getElem?_getD, List.getElem?_eq_getElem (by omega)]; rfl
theorem rot_iff {w : List Nat} {k : Nat} (hk : k ≤ w.length) : rot w k ↔ Per (rnd w) k := by
  have g : ∀ i, i < w.length → (((w ++ w).drop k).take w.length)[i]? = some (rnd w (i + k)) := fun i hi => by
    rw [List.getElem?_take, if_pos hi, List.getElem?_drop, ww_get (by omega), Nat.add_comm]
  have g2 : ∀ i, i < w.length → w[i]? = some (rnd w i) := fun i hi => by
    unfold rnd; rw [Nat.mod_eq_of_lt hi, List.getD_eq_getElem?_getD, List.getElem?_eq_getElem hi]; rfl
  constructor
  · intro h i
    have h0 : 0 < w.length ∨ w.length = 0 := by omega
    rcases h0 with h0 | h0
    · have hi : i % w.length < w.length := Nat.mod_lt _ h0
      have e1 := g _ hi
      have h : ((w ++ w).drop k).take w.length = w := h
      rw [h, g2 _ hi] at e1
      have e2 := Option.some.inj e1
      have m1 : rnd w (i % w.length) = rnd w i := by unfold rnd; rw [Nat.mod_mod]
      have m2 : rnd w (i % w.length + k) = rnd w (i + k) := by unfold rnd; rw [Nat.mod_add_mod]
      rw [m1, m2] at e2
      exact e2.symm
    · have : w = [] := List.eq_nil_of_length_eq_zero h0
      subst this
      rfl
  · intro h
    refine List.ext_getElem? fun i => ?_
    by_cases hi : i < w.length
    · rw [g i hi, g2 i hi, h i]
    · rw [List.getElem?_eq_none (by rw [List.length_take, List.length_drop, List.length_append]; omega), List.getElem?_eq_none (by omega)]
theorem subAt_S {w : List Nat} {i : Nat} : Builtin.Str.subAt (SX.S (w ++ w)) (SX.S w) i = true ↔ rot w i := by
  unfold Builtin.Str.subAt rot
  rw [beq_iff_eq]
  have e : (SX.S w).length = w.length := by simp [SX.S, Str.length]
  rw [e]
  have e2 : ((SX.S (w ++ w)).cps.extract i (i + w.length)) = (((w ++ w).drop i).take w.length).toArray := by
    simp [SX.S, List.extract_eq_drop_take]
  rw [e2]
  show _ = w.toArray ↔ _
  constructor
  · intro h; exact congrArg Array.toList h
  · intro h; rw [h]
theorem range'_pre {n a : Nat} {pre post : List Nat} (h : List.range' 1 n = pre ++ a :: post) : 1 ≤ a ∧ ∀ k, 1 ≤ k → k < a → k ∈ pre := by
  have hL : n = pre.length + (post.length + 1) := by
    have := congrArg List.length h
    simpa using this
  have hlen : a = 1 + pre.length := by
    have h1 : (List.range' 1 n)[pre.length]? = some a := by rw [h]; simp
    rw [List.getElem?_range' (by omega)] at h1
    have := Option.some.inj h1
    omega
  refine ⟨by omega, fun k h1 hk => ?_⟩
  have h2 : (List.range' 1 n)[k - 1]? = pre[k - 1]? := by rw [h, List.getElem?_append_left (by omega)]
  rw [List.getElem?_range' (by omega)] at h2
  exact List.mem_of_getElem? (i := k - 1) (by rw [← h2]; congr 1; omega)
/-- (p + p).find(p, 1): the least period -/
theorem find_per {w : List Nat} (hn : 0 < w.length) : ∃ k : Nat, Txt.find3 (SX.S (w ++ w)) (SX.S w) 1 = (k : Int) ∧ 1 ≤ k ∧ k ≤ w.length ∧ k ∣ w.length ∧ Per (rnd w) k ∧ ∀ j, 1 ≤ j → j < k → ¬ Per (rnd w) j := by
  have e1 : (SX.S w).length = w.length := by simp [SX.S, Str.length]
  have e2 : (SX.S (w ++ w)).length = w.length + w.length := by simp [SX.S, Str.length]
  have fi : PySem.fromIndex (SX.S (w ++ w)).length 1 = 1 := by unfold PySem.fromIndex; rfl
  unfold Txt.find3
  rw [fi, StrLaws.occ_eq]
  have at_iff : ∀ i, StrLaws.At (SX.S (w ++ w)) (SX.S w) (SX.S (w ++ w)).length i ↔ i ≤ w.length ∧ rot w i := fun i => by
    unfold StrLaws.At
    rw [subAt_S, e1, e2]
    exact ⟨fun h => ⟨by omega, h.2⟩, fun h => ⟨by omega, h.2⟩⟩
  have full : rot w w.length := (rot_iff (Nat.le_refl _)).mpr (rnd_per w)
  rcases StrLaws.occ_first (SX.S (w ++ w)) (SX.S w) (SX.S (w ++ w)).length 1 (Nat.le_refl 1) (List.range' 1 ((SX.S (w ++ w)).length + 1 - 1)) 1 (fun i hi => by simp [List.mem_range'] at hi; omega) with ⟨h0, hno⟩ | ⟨pre, a, post, e, h0, ha, hno⟩
  · exact absurd ((at_iff _).mpr ⟨Nat.le_refl _, full⟩) (hno w.length (by rw [e2]; exact List.mem_range'.mpr ⟨w.length - 1, by omega, by omega⟩))
  · obtain ⟨a1, hpre⟩ := range'_pre e
    obtain ⟨al, ar⟩ := (at_iff a).mp ha
    have pa := (rot_iff al).mp ar
    have least : ∀ j, 1 ≤ j → j < a → ¬ Per (rnd w) j := fun j h1 h2 z => hno j (hpre j h1 h2) ((at_iff j).mpr ⟨by omega, (rot_iff (by omega)).mpr z⟩)
    refine ⟨a, ?_, a1, al, pa.dvd a1 (fun j hj => least j hj) (rnd_per w), pa, least⟩
    generalize (forIn (List.range' 1 ((SX.S (w ++ w)).length + 1 - 1)) ((#[] : Array Nat), 1) (StrLaws.occBody (SX.S (w ++ w)) (SX.S w) (SX.S (w ++ w)).length 1)).run.fst = arr at h0
    have h1 : arr.toList[0]? = some a := by simpa using h0
    cases hL : arr.toList with
    | nil => rw [hL] at h1; cases h1
    | cons b t => rw [hL] at h1; simp at h1; rw [h1]
end DL

set_option Elab.async false
set_option linter.all false
set_option maxRecDepth 100000
set_option maxHeartbeats 4000000
/-! LQ7: the law of heights -/
namespace DL
open PySem PySem.Spec PyProof.Rows L2
section
variable {K : PySem.W.Frag} {S : Stt} {ρ : Rho} {Φ : PyData → Rho → Prop} {Ψ : PyData → Prop}
abbrev rInt1 : List V → Hp → VK → Prop := fun xs H Q => (∃ i, xs = [.int i] ∧ Q (.int i) H) ∨ ∃ k, xs = [.bl k] ∧ Q (.int (if k then 1 else 0)) H
theorem dc_intB {b : Bool} (h : Ψ (.int (if b then 1 else 0))) : DC K rInt1 [.bool b] Ψ := fun N H _ us hu Q q => by
  cases hu with
  | cons d1 d2 =>
    cases d2
    cases d1
    exact .inr ⟨b, rfl, q _ _ H h (Same.refl H) (Dt.int _)⟩
theorem wt_yes {Θ : Bool → Rho → Prop} (h : Θ true ρ) : WT K S tYes ρ Θ := fun H0 N0 Z N σ H E Q q => q true ρ H h E Keep.refl
end
local macro_rules | `(tactic| walk_at "dl") => `(tactic| repeat' (first
  | with_reducible refine wd_isTy ?_ | with_reducible refine wd_isi ?_ | with_reducible refine wd_op ?_ | ((with_reducible show WD _ _ (tCB (rLenX _) (tCons (tVar _) tNil)) _ _); refine wd_len_scr rfl ?_) | with_reducible refine wd_cb ?_ | with_reducible refine wd_un ?_ | with_reducible refine wa_cons ?_ | with_reducible refine wa_nil ?_ | ((with_reducible show WD _ _ (tVar _) _ _); refine wd_var rfl ?_) | with_reducible refine wd_int ?_ | with_reducible refine wd_bl ?_ | with_reducible refine wd_str ?_ | with_reducible refine wd_non ?_
  | with_reducible refine do_nesS ?_ | with_reducible refine dc_intB ?_ | with_reducible refine do_add ?_ | with_reducible refine do_sub ?_ | ((with_reducible refine do_mod ?_ ?_); decide) | with_reducible refine do_mod ?_ ?_ | with_reducible refine do_mul ?_ ?_ | ((with_reducible refine do_div ?_ ?_); exact ⟨by decide, by decide⟩) | with_reducible refine do_div ?_ ?_ | ((with_reducible refine do_pow ?_ ?_); exact ⟨by decide, by decide, by decide⟩) | with_reducible refine do_pow ?_ ?_
  | with_reducible refine do_lt ?_ | with_reducible refine do_le ?_ | with_reducible refine do_gt ?_ | with_reducible refine do_ge ?_ | with_reducible refine du_neg ?_
  | with_reducible refine do_eqi ?_ | with_reducible refine do_nei ?_ | with_reducible refine do_eqs ?_ | with_reducible refine do_nes ?_ | with_reducible refine dc_abs ?_ | with_reducible refine dc_min ?_ | with_reducible refine dc_max ?_ | with_reducible refine dc_lenL ?_ | with_reducible refine dc_lenT ?_ | with_reducible refine dc_gcd ?_
  | ((with_reducible show DO _ (rIxT _) _ _ _); refine do_ixT rfl ?_) | ((with_reducible show DO _ (rIxL _) _ _ _); refine do_ixL rfl ?_) | ((with_reducible refine do_catL ?_ ?_); exact Nat.le_of_ble_eq_true rfl) | with_reducible refine do_catL ?_ ?_ | ((with_reducible show And (List.length _ ≤ sizeLine) _); refine ⟨Nat.le_of_ble_eq_true rfl, ?_⟩)
  | with_reducible refine wd_dnew ?_ | with_reducible refine wd_call0 ?_ | with_reducible refine wd_slA ?_ | with_reducible refine wo_part ?_ | with_reducible refine wo_none ?_ | with_reducible refine do_eqQ ?_ | with_reducible refine do_neQ ?_ | with_reducible refine wi_enumT ?_ | with_reducible refine tAdQ (by omega) (by omega) ?_ | with_reducible refine tSbQ (by omega) (by omega) ?_ | with_reducible refine tMlQ (by omega) (by omega) ?_ | with_reducible refine tDvQ (by assumption) (by omega) (by omega) ?_ | with_reducible refine tLtQ (by omega) (by omega) ?_ | with_reducible refine dc_str ?_ ?_ | with_reducible refine wd_tup ?_ | with_reducible refine wd_lst ?_ | with_reducible refine wt_test ?_ | with_reducible refine wt_B ?_ | with_reducible refine wt_not ?_ | with_reducible refine wt_and ?_ | with_reducible refine wt_or ?_ | with_reducible refine wd_ifE ?_ | with_reducible refine wd_andV ?_ | with_reducible refine wd_orV ?_ | with_reducible refine wd_notV ?_
  | with_reducible refine ws_seq ?_ | with_reducible refine ws_next ?_ | with_reducible refine ws_asg ?_ | with_reducible refine ws_ret ?_ | with_reducible refine ws_retN ?_ | with_reducible refine ws_if ?_ | with_reducible refine ws_par ?_ | with_reducible refine ws_unp2 ?_
  | with_reducible refine if_t ?_ | with_reducible refine if_f ?_ | with_reducible refine if_nf ?_ | with_reducible refine if_nt ?_
  | ((with_reducible show Exists _); first | refine ⟨_, kitInt _, ?_⟩ | refine ⟨_, kitBool _, ?_⟩ | refine ⟨_, kitTup _, ?_⟩ | refine ⟨_, kitList _, ?_⟩ | refine ⟨_, rfl, ?_⟩ | refine ⟨_, _, rfl, ?_⟩ | fail) | fail))
def t_law7 (K : PySem.W.Frag) : TS :=
  (tSeq (tFor (iEnum K (tCons (tOp rCatL (tLst (tCons (tC (.int 0)) tNil)) (tCall (spF K) [] E0 (tCons (tVar 0) (tCons (tC (.int 20)) tNil)))) tNil)) (gTup K 2 (gCons (gName 1) (gCons (gName 2) gNil))) (tSeq (tAsg (tCall (spN K TPot) [] E0 (tCons (tVar 2) (tCons (tVar 1) tNil))) (gName 3))
    (tSeq (tAsg (tCall (spS K FPot TLine) [] E0 (tCons (tVar 3) (tCons (tOp (rIxL K) (tLst (tCons (tC (.int 12)) (tCons (tC (.int 60)) tNil))) (tCB rInt1 (tCons (tOp rEq (tVar 1) (tC (.int 1))) tNil))) tNil))) (gName 4))
    (tSeq (tAsg (tLc (iTup K (tOp (rIxT K) (tVar 4) (tC (.int 0)))) (gName 10) tYes (tOp (rIxT K) (tVar 10) (tC (.int 0))) [10]) (gName 5))
    (tSeq (tFor (iRng1 (tCons (tC (.int 4)) tNil)) (gName 6) (tSeq (tAsg (tOp (rIxL K) (tVar 5) (tCall (spS K FPot TTake) [] E0 (tCons (tVar 3) (tCons (tCB (rLenX K) (tCons (tOp (rIxT K) (tVar 4) (tC (.int 0))) tNil)) tNil)))) (gName 7))
    (tDrop (tBM K "list" rAppend (tVar 5) (tCons (tCall (spP K TAdQ) [] E0 (tCons (tVar 7) (tCons (tCall (spP K TLow) [] E0 (tCons (tCall (spS K FPot TTake) [] E0 (tCons (tVar 3) (tCons (tC (.int 9)) tNil))) (tCons (tOp (rIxL K) (tLst (tCons (tC (.int 1)) (tCons (tC (.int 7)) tNil))) (tCB rInt1 (tCons (tOp rLt (tOp (rIxT K) (tVar 7) (tC (.int 1))) (tC (.int 100))) tNil))) tNil))) tNil))) tNil)))))
    (tSeq (tAsg (tOp rCatL (tVar 5) (tLst (tCons (tCall (spP K TLow) [] E0 (tCons (tCall (spS K FPot TTake) [] E0 (tCons (tVar 3) (tCons (tOp rPowI (tC (.int 10)) (tC (.int 6))) tNil))) (tCons (tOp rAddI (tC (.int 1)) (tCall (spS K FPot TTake) [] E0 (tCons (tVar 3) (tCons (tC (.int 1000)) tNil)))) tNil))) (tCons (tTup (tCons (tOp rPowI (tC (.int 10)) (tC (.int 6))) (tCons (tC (.int 1)) tNil))) tNil)))) (gName 5))
    (tSeq (tFor (iList K (tVar 5)) (gName 8) (tIfS (tTest (tOp rNe (tCB (rRepr K) (tCons (tLst (tCons (tCall (spP K TYat) [] E0 (tCons (tVar 4) (tCons (tVar 8) tNil))) (tCons (tCall (spP K TYat) [] E0 (tCons (tVar 4) (tCons (tVar 8) tNil))) tNil))) tNil)) (tCB (rRepr K) (tCons (tLst (tCons (tCall (spP K TYat) [] E0 (tCons (tVar 4) (tCons (tVar 8) tNil))) (tCons (tCall (spP K TYat) [] E0 (tCons (tVar 4) (tCons (tVar 8) tNil))) tNil))) tNil)))) (tRet (tC (.bl false))) tNext))
    (tSeq (tIfS (tTest (tOp rNe (tCall (spP K TTold) [] E0 (tCons (tVar 4) (tCons (tCall (spP K TLow) [] E0 (tCons (tOp rSubI (tUn rNegI (tC (.int 1))) (tCall (spS K FPot TTake) [] E0 (tCons (tVar 3) (tCons (tC (.int 99)) tNil)))) (tCons (tOp rAddI (tC (.int 1)) (tCall (spS K FPot TTake) [] E0 (tCons (tVar 3) (tCons (tC (.int 99)) tNil)))) tNil))) tNil))) (tC (.str "amount")))) (tRet (tC (.bl false))) tNext)
    (tSeq (tAsg (tCall (spP K TLow) [] E0 (tCons (tOp rSubI (tCall (spS K FPot TTake) [] E0 (tCons (tVar 3) (tCons (tC (.int 2001)) tNil))) (tC (.int 1000))) (tCons (tOp rAddI (tC (.int 1)) (tCall (spS K FPot TTake) [] E0 (tCons (tVar 3) (tCons (tC (.int 1000)) tNil)))) tNil))) (gName 9))
    (tIfS (tOr (tTest (tOp rNe (tCB (rRepr K) (tCons (tCall (spP K TFlat) [] E0 (tCons (tVar 9) tNil)) tNil)) (tCB (rRepr K) (tCons (tTup (tCons (tTup (tCons (tTup (tCons (tTup (tCons (tC (.int 0)) (tCons (tC (.int 1)) tNil))) (tCons (tVar 9) tNil))) tNil)) (tCons (tTup (tCons (tC (.int 0)) (tCons (tC (.int 1)) tNil))) tNil))) tNil)))) (tTest (tOp (rNeD K) (tCall (spP K TYat) [] E0 (tCons (tCall (spP K TFlat) [] E0 (tCons (tVar 9) tNil)) (tCons (tTup (tCons (tOp rPowI (tC (.int 10)) (tC (.int 6))) (tCons (tC (.int 7)) tNil))) tNil))) (tVar 9)))) (tRet (tC (.bl false))) tNext))))))))))
    (tRet (tC (.bl true))))
/-- what is asked of -/
def Ask (x : Rat) : Prop := 0 ≤ x ∧ sz x ≤ 100
end DL

set_option Elab.async false
set_option linter.all false
set_option maxRecDepth 100000
set_option maxHeartbeats 4000000
namespace DL
open PySem PySem.Spec PyProof.Rows L2
/-- a law that asks without a store in front -/
theorem run_law0 {K : PySem.W.Frag} {n : Nat} {Nm : List Str} {ts : TS} {vs : List V} {H : Hp} {Q : VK} {E : XK} (hn : Nm.length = n + 1) (h : spLaw K vs H Q E)
    (b : ∀ ns, ns.length ≤ 63 → WS K S0 ts (.scr ns :: List.replicate n .unk) { nx := fun _ => False, rt := fun d _ => d = .bool true }) :
    ts { nx := fun _ H' => Q .non H', rt := Q } (L2.start Nm vs) H := by
  obtain ⟨a, ns, rfl, hs, hl, hQ⟩ := h
  have e0 : L2.start Nm [V.ref a] = some (.ref a) :: List.replicate n none := by
    show [some (V.ref a)] ++ List.replicate (Nm.length - 1) none = _
    rw [hn, show n + 1 - 1 = n by omega]
    rfl
  rw [e0]
  have rep : ∀ {i : Nat} {s : Sl}, (List.replicate n Sl.unk)[i]? = some s → s = .unk := fun {i s} h => by
    rw [List.getElem?_replicate] at h
    split at h
    · exact (Option.some.inj h).symm
    · cases h
  have woF : ∀ G : Hp, wo (fun _ => false) G = G := fun G => by funext b; rfl
  have E1 : EnvD K S0 (fun _ => none) (fun _ => false) [] (fun _ => false) (some (V.ref a) :: List.replicate n none) H (.scr ns :: List.replicate n .unk) := {
    keep := fun _ _ _ h => (nomatch h), base := fun _ h => (nomatch h), trk := fun _ h => (nomatch h), sub := fun _ h => (nomatch h), len := by simp, hid := fun _ h => (nomatch h), injZ := fun i j di dj p h => by simp at h
    slot := fun i s h => by
      match i, h with
      | 0, h => cases h; exact ⟨a, rfl, by rw [woF]; exact hs⟩
      | i + 1, h =>
        have e : s = .unk := rep (i := i) (by simpa using h)
        subst e
        trivial
    injH := fun i di dj p h1 h2 hz => by cases hz
    inj := fun i j di dj p h1 => by
      match i, h1 with
      | 0, h => cases h
      | i + 1, h =>
        have e : Sl.own di = .unk := rep (i := i) (by simpa using h)
        cases e }
  refine b ns hl _ _ _ _ _ _ _ E1 ⟨fun _ _ _ _ q => q.elim, fun N' σ' H2 ρ' v d q E2 dv => ?_, fun _ _ _ _ q => q.elim, fun _ _ _ _ q => q.elim⟩
  have q' : d = .bool true := q
  subst q'
  have e : v = .bl true := dv.bool_inv
  subst e
  exact hQ H2
end DL

set_option Elab.async false
set_option linter.all false
set_option maxRecDepth 100000
set_option maxHeartbeats 4000000
/-! K02: what is a part, what an amount -/
namespace DL
open PySem PySem.Spec PyProof.Rows L2
local macro_rules | `(tactic| walk_at "dl") => `(tactic| repeat' (first
  | with_reducible refine wd_isTy ?_ | with_reducible refine wd_isi ?_ | with_reducible refine wd_op ?_ | with_reducible refine wd_cb ?_ | with_reducible refine wd_un ?_ | with_reducible refine wa_cons ?_ | with_reducible refine wa_nil ?_ | ((with_reducible show WD _ _ (tVar _) _ _); refine wd_var rfl ?_) | with_reducible refine wd_int ?_ | with_reducible refine wd_bl ?_ | with_reducible refine wd_str ?_ | with_reducible refine wd_non ?_
  | with_reducible refine do_add ?_ | with_reducible refine do_sub ?_ | ((with_reducible refine do_mod ?_ ?_); decide) | with_reducible refine do_mod ?_ ?_ | with_reducible refine do_mul ?_ ?_ | ((with_reducible refine do_div ?_ ?_); exact ⟨by decide, by decide⟩) | with_reducible refine do_div ?_ ?_ | ((with_reducible refine do_pow ?_ ?_); exact ⟨by decide, by decide, by decide⟩) | with_reducible refine do_pow ?_ ?_
  | with_reducible refine do_lt ?_ | with_reducible refine do_le ?_ | with_reducible refine do_gt ?_ | with_reducible refine do_ge ?_ | with_reducible refine du_neg ?_
  | with_reducible refine do_eqi ?_ | with_reducible refine do_nei ?_ | with_reducible refine do_eqs ?_ | with_reducible refine do_nes ?_ | with_reducible refine dc_abs ?_ | with_reducible refine dc_min ?_ | with_reducible refine dc_max ?_ | with_reducible refine dc_lenL ?_ | with_reducible refine dc_lenT ?_ | with_reducible refine dc_gcd ?_
  | ((with_reducible show DO _ (rIxT _) _ _ _); refine do_ixT rfl ?_) | ((with_reducible show DO _ (rIxL _) _ _ _); refine do_ixL rfl ?_) | with_reducible refine do_catL ?_ ?_
  | with_reducible refine wd_dnew ?_ | with_reducible refine wd_call0 ?_ | with_reducible refine dc_str ?_ ?_ | with_reducible refine wd_tup ?_ | with_reducible refine wd_lst ?_ | with_reducible refine wt_test ?_ | with_reducible refine wt_B ?_ | with_reducible refine wt_not ?_ | with_reducible refine wt_and ?_ | with_reducible refine wt_or ?_ | with_reducible refine wd_ifE ?_ | with_reducible refine wd_andV ?_ | with_reducible refine wd_orV ?_ | with_reducible refine wd_notV ?_
  | with_reducible refine ws_seq ?_ | with_reducible refine ws_next ?_ | with_reducible refine ws_asg ?_ | with_reducible refine ws_ret ?_ | with_reducible refine ws_retN ?_ | with_reducible refine ws_if ?_ | with_reducible refine ws_par ?_ | with_reducible refine ws_unp2 ?_
  | with_reducible refine if_t ?_ | with_reducible refine if_f ?_ | with_reducible refine if_nf ?_ | with_reducible refine if_nt ?_
  | ((with_reducible show Exists _); first | refine ⟨_, kitInt _, ?_⟩ | refine ⟨_, kitBool _, ?_⟩ | refine ⟨_, kitTup _, ?_⟩ | refine ⟨_, kitList _, ?_⟩ | refine ⟨_, rfl, ?_⟩ | refine ⟨_, _, rfl, ?_⟩ | fail) | fail))

def isW (d : PyData) : Bool := tyD d == "int"
def isPartD : PyData → Bool
  | .tuple [.int a, .int b] => decide (1 ≤ b) && decide (Nat.gcd a.natAbs b.natAbs = 1)
  | _ => false
def isAmtD : PyData → Bool
  | .tuple [.int a, .int b] => decide (1 ≤ b) && decide (Nat.gcd a.natAbs b.natAbs = 1) && decide (0 ≤ a)
  | _ => false
def TWhole : List PyData → (PyData → Prop) → Prop := fun ds Φ => ∃ d, ds = [d] ∧ Φ (.bool (isW d))
def TPartB : List PyData → (PyData → Prop) → Prop := fun ds Φ => ∃ d, ds = [d] ∧ Φ (.bool (isPartD d))
def TAmountB : List PyData → (PyData → Prop) → Prop := fun ds Φ => ∃ d, ds = [d] ∧ Φ (.bool (isAmtD d))
def GoodD (d : PyData) : Prop := ∀ a b, d = .tuple [.int a, .int b] → a.natAbs < 2 ^ 8000 ∧ b.natAbs < 2 ^ 8000
def TIsPart : List PyData → (PyData → Prop) → Prop := fun ds Φ => ∃ d, ds = [d] ∧ GoodD d ∧ Φ (.bool (isPartD d))
/-- a part, told for judging -/
structure PBig (n d : Int) : Prop where
  d1 : 1 ≤ d
  d2 : d ≤ 10 ^ 30
  n1 : n.natAbs ≤ 10 ^ 30
def TSpoilt : Nat → List PyData → (PyData → Nat → Prop) → Prop := fun B ds Φ => ∃ n d, ds = [pr (n, d)] ∧ PBig n d ∧ B + 800 ≤ 2 ^ 40 ∧ ∀ z, GoodD z → Φ z (B + 800)
def TThing : Nat → List PyData → (PyData → Nat → Prop) → Prop := fun B ds Φ => ds = [] ∧ B + 6000 ≤ 2 ^ 40 ∧ ∀ z B', GoodD z → B' ≤ B + 6000 → Φ z B'
def t_law_whole (K : PySem.W.Frag) : TS :=
  (tRet (tAndV (tCB (rIsi K) (tCons (tVar 0) (tCons (tC (.ty "int")) tNil))) (tNotV (tCB (rIsi K) (tCons (tVar 0) (tCons (tC (.ty "bool")) tNil))))))

def t_law_is_part (K : PySem.W.Frag) : TS :=
  (tSeq (tIfS (tOr (tNot (tB (tCB (rIsi K) (tCons (tVar 0) (tCons (tC (.ty "tuple")) tNil))))) (tOr (tTest (tOp rNe (tCB (rLenX K) (tCons (tVar 0) tNil)) (tC (.int 2)))) (tOr (tNot (tB (tCall (spP K TWhole) [] E0 (tCons (tOp (rIxT K) (tVar 0) (tC (.int 0))) tNil)))) (tNot (tB (tCall (spP K TWhole) [] E0 (tCons (tOp (rIxT K) (tVar 0) (tC (.int 1))) tNil))))))) (tRet (tC (.bl false))) tNext)
    (tRet (tAndV (tOp rGt (tOp (rIxT K) (tVar 0) (tC (.int 1))) (tC (.int 0))) (tOp (rEqD K) (tCall (spP K TPart) [] E0 (tCons (tOp (rIxT K) (tVar 0) (tC (.int 0))) (tCons (tOp (rIxT K) (tVar 0) (tC (.int 1))) tNil))) (tVar 0)))))

def t_law_spoilt (K : PySem.W.Frag) : TS :=
  (tSeq (tAsg (tCall (spS K FSto TDr) [] E0 (tCons (tVar 0) (tCons (tC (.int 14)) tNil))) (gName 2))
    (tSeq (tAsg (tOp rAddI (tC (.int 2)) (tCall (spS K FSto TDr) [] E0 (tCons (tVar 0) (tCons (tC (.int 9)) tNil)))) (gName 3))
    (tSeq (tAsg (tVar 1) (gTup K 2 (gCons (gName 4) (gCons (gName 5) gNil))))
    (tSeq (tAsg (tLst (tCons (tVar 1) (tCons (tTup (tCons (tOp rMulI (tVar 3) (tVar 4)) (tCons (tOp rMulI (tVar 3) (tVar 5)) tNil))) (tCons (tTup (tCons (tVar 4) (tCons (tOp rSubI (tC (.int 0)) (tVar 5)) tNil))) (tCons (tTup (tCons (tVar 4) (tCons (tC (.int 0)) tNil))) (tCons (tTup (tCons (tOp rSubI (tC (.int 0)) (tVar 4)) (tCons (tVar 5) tNil))) (tCons (tTup (tCons (tVar 4) (tCons (tC (.bl true)) tNil))) tNil))))))) (gName 6))
    (tSeq (tAsg (tOp rCatL (tVar 6) (tLst (tCons (tTup (tCons (tC (.bl true)) (tCons (tVar 5) tNil))) (tCons (tTup (tCons (tCB rStrI (tCons (tVar 4) tNil)) (tCons (tVar 5) tNil))) (tCons (tTup (tCons (tVar 4) (tCons (tC .non) tNil))) (tCons (tLst (tCons (tVar 4) (tCons (tVar 5) tNil))) (tCons (tTup (tCons (tVar 4) tNil)) (tCons (tTup (tCons (tVar 4) (tCons (tVar 5) (tCons (tC (.int 1)) tNil)))) tNil)))))))) (gName 6))
    (tRet (tOp (rIxL K) (tOp rCatL (tVar 6) (tLst (tCons (tTup (tCons (tVar 1) tNil)) (tCons (tTup (tCons (tC (.int 0)) (tCons (tVar 3) tNil))) tNil)))) (tVar 2))))))))

def t_law_thing (K : PySem.W.Frag) : TS :=
  (tSeq (tAsg (tCall (spS K FSto TDr) [] E0 (tCons (tVar 0) (tCons (tC (.int 6)) tNil))) (gName 1))
    (tSeq (tAsg (tCall (spS K FSto TSmall) [] E0 (tCons (tVar 0) tNil)) (gName 2))
    (tSeq (tAsg (tCall (spP K TPart) [] E0 (tCons (tCall (spS K FSto TDr) [] E0 (tCons (tVar 0) (tCons (tOp rPowI (tC (.int 10)) (tC (.int 30))) tNil))) (tCons (tOp rAddI (tC (.int 1)) (tCall (spS K FSto TDr) [] E0 (tCons (tVar 0) (tCons (tOp rPowI (tC (.int 10)) (tC (.int 30))) tNil)))) tNil))) (gName 3))
    (tSeq (tIfS (tTest (tOp rEq (tVar 1) (tC (.int 0)))) (tRet (tOp (rIxL K) (tLst (tCons (tC .non) (tCons (tC (.int 7)) (tCons (tC (.bl true)) (tCons (tC (.str "")) (tCons (tTup tNil) (tCons (tLst tNil) (tCons tDNewK (tCons (tTup (tCons (tC (.int 0)) (tCons (tC (.int 1)) tNil))) (tCons (tTup (tCons (tC (.int 1)) (tCons (tC (.int 1)) tNil))) (tCons (tTup (tCons (tC (.int 0)) (tCons (tC (.int 0)) tNil))) (tCons (tTup (tCons (tC (.int 1)) (tCons (tUn rNegI (tC (.int 1))) tNil))) (tCons (tTup (tCons (tTup (tCons (tC (.int 0)) (tCons (tC (.int 1)) tNil))) (tCons (tTup (tCons (tC (.int 0)) (tCons (tC (.int 1)) tNil))) tNil))) tNil))))))))))))) (tCall (spS K FSto TDr) [] E0 (tCons (tVar 0) (tCons (tC (.int 12)) tNil))))) tNext)
    (tSeq (tIfS (tTest (tOp rEq (tVar 1) (tC (.int 1)))) (tRet (tVar 3)) tNext)
    (tSeq (tIfS (tTest (tOp rEq (tVar 1) (tC (.int 2)))) (tRet (tCall (spS K FSto TSpoilt) [] E0 (tCons (tVar 0) (tCons (tVar 3) tNil)))) tNext)
    (tRet (tCall (spS K FSto TSpoilt) [] E0 (tCons (tVar 0) (tCons (tVar 2) tNil))))))))))

def t_is_whole (K : PySem.W.Frag) : TS :=
  (tRet (tOp rIsTyM (tCB (rTypM K) (tCons (tVar 0) tNil)) (tC (.ty "int"))))

def t_is_part (K : PySem.W.Frag) : TS :=
  (tSeq (tIfS (tNot (tAnd (tTest (tOp rIsTyM (tCB (rTypM K) (tCons (tVar 0) tNil)) (tC (.ty "tuple")))) (tTest (tOp rEq (tCB (rLenX K) (tCons (tVar 0) tNil)) (tC (.int 2)))))) (tRet (tC (.bl false))) tNext)
    (tSeq (tAsg (tVar 0) (gTup K 2 (gCons (gName 1) (gCons (gName 2) gNil))))
    (tRet (tAndV (tCall (spP K TWhole) [] E0 (tCons (tVar 1) tNil)) (tAndV (tCall (spP K TWhole) [] E0 (tCons (tVar 2) tNil)) (tAndV (tOp rGe (tVar 2) (tC (.int 1))) (tOp rEq (tCB rGcd (tCons (tVar 1) (tCons (tVar 2) tNil))) (tC (.int 1)))))))))

def t_is_amount (K : PySem.W.Frag) : TS :=
  (tRet (tAndV (tCall (spP K TPartB) [] E0 (tCons (tVar 0) tNil)) (tOp rGe (tOp (rIxT K) (tVar 0) (tC (.int 0))) (tC (.int 0)))))



section
variable {K : PySem.W.Frag} {S : Stt}
end
end DL

set_option Elab.async false
set_option linter.all false
set_option maxRecDepth 100000
set_option maxHeartbeats 4000000
/-! DM3: reversed tuples, rows numbered, lists of one's own lengthened, repr of anything shown -/
namespace DL
open PySem PySem.Spec PyProof.Rows L2
/-! ### t[::-1] -/
section
variable {prog : Program} {w : World} {A : Around} {E : Value → Shared → Prop} {s : Shared}
end
def tRevT (K : PySem.W.Frag) (te : TE) : TE := fun σ H Q => te σ H fun x H1 => ∃ a xs, x = .ref a ∧ SqT K H1 a xs ∧ ∀ p, H1 p = none → Q (.ref p) (upd H1 p (.tup xs.reverse))
/-! ### over data -/
def iEnumR (K : PySem.W.Frag) (t : TA) : TI := fun σ H R => iEnum K t σ H R ∨ iEnumT K t σ H R
abbrev rInsert : V → List V → Hp → VK → Prop := fun x vs H Q => ∃ (l : Addr) (xs : List V) (i : Int) (y : V), x = .ref l ∧ vs = [.int i, y] ∧ H l = some (.lst xs) ∧ xs.length < sizeLine ∧ 0 ≤ i ∧ i < 2 ^ 63 ∧ Q .non (upd H l (.lst (xs.take i.toNat ++ [y] ++ xs.drop i.toNat)))
section
variable {K : PySem.W.Frag} {S : Stt} {ρ : Rho} {Φ : PyData → Rho → Prop} {Ψ : PyData → Prop}
theorem dc_all {bs : List Bool} (h : Ψ (.bool (bs.all id))) : DC K (rAll K) [.list (bs.map PyData.bool)] Ψ := fun N H _ us hu Q q => by
  cases hu with
  | cons d1 d2 =>
    cases d2
    obtain ⟨p, xs, rfl, _, h1, h2⟩ := Dq.lst_inv d1
    have e : xs = bs.map V.bl := by
      have : ∀ {bs : List Bool} {xs : List V}, DqAll K N H xs (bs.map PyData.bool) → xs = bs.map V.bl := by
        intro bs
        induction bs with
        | nil => intro xs h; cases h; rfl
        | cons b r ih =>
          intro xs h
          cases h with
          | cons h1 h2 => cases h1; rw [ih h2]; rfl
      exact this h2
    subst e
    exact ⟨p, bs, rfl, .inl h1, q _ _ H h (Same.refl H) (Dt.bl _)⟩
def rReprZ (K : PySem.W.Frag) : List V → Hp → VK → Prop := fun xs H Q => rRepr K xs H Q ∨ (xs = [.non] ∧ Q (.str "None") H) ∨ (∃ b : Bool, xs = [.bl b] ∧ Q (.str (if b then "True" else "False")) H) ∨ (∃ i, xs = [.int i] ∧ i.natAbs.log2 < 1920 ∧ Q (.str (toString i)) H) ∨ ∃ z, xs = [.str z] ∧ (reprText z).length ≤ sizeLine ∧ Q (.str (reprText z)) H
end
end DL

set_option Elab.async false
set_option linter.all false
set_option maxRecDepth 100000
set_option maxHeartbeats 4000000
/-! DM4: rows of either kind as data; lists of one's own shown for a while -/
namespace DL
open PySem PySem.Spec PyProof.Rows L2
section
variable {K : PySem.W.Frag} {S : Stt} {ρ : Rho} {Φ : PyData → Rho → Prop} {Ψ : PyData → Prop}
def rowD (b : Bool) (ds : List PyData) : PyData := if b then .list ds else .tuple ds
theorem dc_lenR {b : Bool} {ds : List PyData} (h : Ψ (.int ds.length)) : DC K (rLenX K) [rowD b ds] Ψ := by
  cases b
  · exact dc_lenT h
  · exact dc_lenL h
theorem do_catA {xs ys : List PyData} (hz : xs.length + ys.length ≤ sizeLine) (h : Ψ (.tuple (xs ++ ys))) : DO K (rCatA K) (.tuple xs) (.tuple ys) Ψ := fun N H hN u w hu hw Q q => by
  obtain ⟨p, us, rfl, _, h1, h2⟩ := hu.tup_inv
  obtain ⟨p2, ws, rfl, _, h3, h4⟩ := hw.tup_inv
  refine ⟨p, p2, us, ws, rfl, rfl, h1, h3, by rw [h2.len, h4.len]; exact hz, fun e => ?_, fun _ e => ?_, fun _ _ z hz => ?_⟩
  · subst e
    have e2 : xs = [] := List.length_eq_zero_iff.mp (by rw [← h2.len]; rfl)
    subst e2
    exact q _ _ H h (Same.refl H) hw
  · subst e
    have e2 : ys = [] := List.length_eq_zero_iff.mp (by rw [← h4.len]; rfl)
    subst e2
    rw [List.append_nil] at h
    exact q _ _ H h (Same.refl H) hu
  · have s := same_new hz (.tup (us ++ ws))
    exact q _ _ _ h s (Dq.tup (fresh_av hN hz) upd_same ((h2.append h4).keep (Keep.of s)))
theorem DqAll.setN {N : Av} {H : Hp} {v : V} {d : PyData} (hv : Dq K N H v d) : ∀ {xs : List V} {ds : List PyData} (k : Nat), DqAll K N H xs ds → DqAll K N H (xs.set k v) (ds.set k d)
  | [], _, _, h => by cases h; exact DqAll.nil
  | x :: xs, _, 0, h => by cases h with | cons a b => exact DqAll.cons hv b
  | x :: xs, _, k + 1, h => by cases h with | cons a b => exact DqAll.cons a (DqAll.setN hv k b)
/-! ### all lists of one's own shown, while a thing is asked that tells a truth or a number -/
def frzS : Sl → Sl
  | .own ds => .dat (.list ds)
  | s => s
def fz (ρ : Rho) : Rho := ρ.map frzS
def Plain : PyData → Prop
  | .bool _ | .int _ | .str _ => True
  | _ => False
end
end DL

set_option Elab.async false
set_option linter.all false
set_option maxRecDepth 100000
set_option maxHeartbeats 4000000
/-! PK1: masks of rising rows of places -/
namespace DL
/-- two to the places, summed -/
def mkM : List Int → Nat
  | [] => 0
  | p :: r => 2 ^ p.toNat + mkM r
abbrev Ris (s : List Int) : Prop := s.Pairwise (· < ·)
/-- what both have -/
def bothL (s t : List Int) : List Int := s.filter fun x => decide (x ∈ t)
/-- neither apart, nor one within the other -/
def crossB (s t : List Int) : Bool := decide (bothL s t ≠ []) && decide ((bothL s t).length < min s.length t.length)
/-- the sets of a folding -/
def foldB (ss : List (List Int)) : Bool := ss.all fun s => ss.all fun t => !crossB s t
end DL

set_option Elab.async false
set_option linter.all false
set_option maxRecDepth 100000
set_option maxHeartbeats 4000000
/-! PK2: [.. for .. for ..]; bits -/
namespace DL
open PySem PySem.Spec PyProof.Rows L2
section
variable {K : PySem.W.Frag} {S : Stt} {H0 : Hp} {N0 : Av} {Z : List Hd} {N : Av} {σ : L2.St} {H H' : Hp} {ρ : Rho} {Φ : PyData → Rho → Prop} {Ψ : PyData → Prop}
end
end DL

set_option Elab.async false
set_option linter.all false
set_option maxRecDepth 100000
set_option maxHeartbeats 4000000
/-! PK4: sorted of a tuple of whole numbers -/
namespace DL
open PySem PySem.Spec PyProof.Rows L2
section
variable {prog : Program} {w : World} {A : Around} {E : Value → Shared → Prop} {s : Shared}
theorem collT {t : Addr} {vs : List Value} {Q : List Value → Shared → Prop} (ht : IsTup s.heap t vs.toArray) (hz : vs.length ≤ sizeLine)
    (q : Q vs { s with heap := (s.heap.push (seqObj "list" #[] 0)).update s.heap.objs.size (Obj.mapSeq (· ++ vs.toArray)) }) : wpAny (model prog w) A (collect (.ref t)) Q E s := by
  obtain ⟨o, ho, hc, n, hd⟩ := id ht
  unfold collect
  refine wpAny_bind
    (wpAny_runValue (codeAny_builtin entry_proto_collect' ?_))
  show wpAny _ _ (do
    again (.builtin "list.__iadd__" ⟨[← newList [], .ref t], []⟩)) _ _ s
  refine wpAny_bind (wpAny_newList (wpAny_pure
    ⟨Code.quiet_builtin _ (by decide +kernel), codeAny_builtin entry_list_iadd' ?_⟩))
  show wpAny _ _ (Builtin.List.listExtendWith (.ref s.heap.objs.size) (.ref t) (.ref s.heap.objs.size)) _ _
    { s with heap := s.heap.push (seqObj "list" #[] 0) }
  unfold Builtin.List.listExtendWith
  have ho2 : (s.heap.push (seqObj "list" #[] 0)).get? t = some o := Heap.get?_push_of_some _ ho
  refine wpAny_bind (wpAny_typeOf (T := "tuple") ⟨o, ho2, hc⟩ ?_)
  have htt : (Value.type "tuple" == Value.type "tuple") = true := by rfl
  rw [if_pos (by rw [htt]; simp)]
  refine wpAny_bind (listItems_at ho2 hd ?_)
  have new0 : (s.heap.push (seqObj "list" #[] 0)).get? s.heap.objs.size = some (seqObj "list" #[] 0) := Heap.get?_push_size _ rfl
  refine wpAny_bind (listItems_at (xs := #[]) (n := 0) new0 rfl ?_)
  rw [if_neg (by simp)]
  have fits : (#[] ++ vs.toArray).size ≤ sizeLine + 1 := by
    simp only [Array.size_append, List.size_toArray, List.length_nil]; omega
  refine wpAny_bind (listUpdate_at (xs := #[]) (n := 0) new0 rfl ?_ (Nat.zero_le _) fits)
  refine wpAny_pure ?_
  show wpAny (model prog w) A (do
      let z ← load s.heap.objs.size
      match z.data with
        | .seq xs _ => pure xs.toList
        | _ => unsupported "internal:collect") Q E
    { s with heap := (s.heap.push (seqObj "list" #[] 0)).update s.heap.objs.size (Obj.mapSeq (· ++ vs.toArray)) }
  refine wpAny_bind (wpAny_load (get?_update_seq new0 _) ?_)
  show wpAny _ _ (pure (((#[] : Array Value) ++ vs.toArray)).toList) _ _ _
  have same : ((#[] : Array Value) ++ vs.toArray).toList = vs := by simp
  rw [same]
  exact wpAny_pure q
/-- sorted(t), ints: as for a list -/
theorem sortT {t : Addr} {vs : List Value} {ns : List Int} {Q : Value → Shared → Prop} (ht : IsTup s.heap t vs.toArray) (hI : IntsAre vs ns) (hz : vs.length ≤ sizeLine)
    (h : ∀ out : List Value, SrtO.Srtd SrtO.ltIv out → SrtO.Stb SrtO.ltIv out vs → Q (.ref (s.heap.objs.size + 1)) { s with heap := sortedAll s.heap vs out.toArray }) : wpAny (model prog w) A (call (.builtin "sorted") [.ref t]) Q E s := by
  refine Calls.call_function_entry kind_sorted plain_sorted entry_sorted
    (args_sorted1 _) ?_
  unfold Builtin.«sorted»
  refine wpAny_bind (m := checkCount "sorted" 1 1 _)
    (wpAny_pure ?_)
  refine wpAny_bind (collT ht hz ?_)
  refine wpAny_bind (wpAny_newList ?_ hz)
  generalize hG : (s.heap.push (seqObj "list" #[] 0)).update s.heap.objs.size (Obj.mapSeq (· ++ vs.toArray)) = G
  have gs : G.objs.size = s.heap.objs.size + 1 := by
    rw [← hG, Heap.size_update, size_push']
  have gL : (G.push (seqObj "list" vs.toArray 0)).get? (s.heap.objs.size + 1) = some (seqObj "list" vs.toArray 0) := by
    rw [← gs]; exact Heap.get?_push_size _ rfl
  show wpAny _ _ _ _ _ { s with heap := G.push (seqObj "list" vs.toArray 0) }
  rw [gs]
  refine wpAny_bind (wpAny_holding (wpAny_call_entry slot_list_sort ⟨_, gL, rfl⟩ entry_list_sort
    (SrtO.list_sort_ord SrtO.swo_int gL hz (fun h2 => SrtO.ints_sortable hI h2) fun out hs hb => ⟨_, rfl, ?_⟩)
    (args_list_sort _)))
  refine wpAny_pure ⟨_, rfl, ?_⟩
  have := h out hs hb
  unfold sortedAll at this
  rw [hG] at this
  exact this
end
/-- sorted(xs), ints of a list or of a tuple -/
def rSortR (K : PySem.W.Frag) : List V → Hp → VK → Prop := fun vs H Q => ∃ (a : Addr) (ns : List Int), vs = [V.ref a] ∧ (SqL K H a (ns.map V.int) ∨ SqT K H a (ns.map V.int)) ∧
  ∀ (ms : List Int) (p : Addr), ms.Perm ns → ms.Pairwise (· ≤ ·) → H p = none → Q (.ref p) (upd H p (.lst (ms.map V.int)))
theorem cr_sortR {X : Cx} : CallR X (.builtin "sorted") (rSortR X.K) := by
  intro pins s σ H vs us Q I r h
  obtain ⟨a, ns, rfl, hs | hs, q⟩ := h
  · exact cr_sortedI pins s σ H _ us Q I r ⟨a, ns, rfl, hs, q⟩
  · obtain ⟨its, rv, hl, hz⟩ := I.tuple hs
    rw [Vals.ref1 r]
    have hi := rv.ints
    refine sortT hl hi (by rw [← rv.length]; exact hz) fun out h1 h2 => ?_
    obtain ⟨k1, k2, k3⟩ := SrtO.ints_out hi h1 h2
    obtain ⟨ep, he⟩ := PyProof.Rows.sortedAll_at s.heap its out.toArray
    have hlen : ((out.map SrtO.iv).map V.int).length ≤ sizeLine := by
      rw [List.length_map, k2.length_eq]
      rw [List.length_map] at hz
      exact hz
    exact ⟨.ref _, upd H (s.heap.objs.size + 1) (.lst ((out.map SrtO.iv).map V.int)), I.laid (t' := s.toks) (fun _ _ => PyProof.Rows.sortedAll_old) (Nat.le_succ _) ⟨hlen, out, ep, vals_of_ints k1, he⟩, rfl, q _ _ k2 k3 (I.hok.fresh (Nat.le_succ _))⟩
section
variable {K : PySem.W.Frag} {Ψ : PyData → Prop}
theorem dc_sortL {ns : List Int} (f : ∀ ms : List Int, ms.Perm ns → ms.Pairwise (· ≤ ·) → Ψ (.list (ms.map PyData.int))) : DC K (rSortR K) [.list (ns.map PyData.int)] Ψ := fun N H hN us hu Q q => by
  cases hu with
  | cons d1 d2 =>
    cases d2
    obtain ⟨p, xs, rfl, _, h1, h2⟩ := Dq.lst_inv (N := N) (H := H) d1
    obtain rfl := h2.of_ints
    refine ⟨p, ns, rfl, .inl (.inl h1), fun ms r hp hr hn => q _ _ _ (f ms hp hr) (same_new hn _) (Dq.lst (fresh_av hN hn) upd_same DqAll.ints)⟩
theorem dc_sortT {ns : List Int} (f : ∀ ms : List Int, ms.Perm ns → ms.Pairwise (· ≤ ·) → Ψ (.list (ms.map PyData.int))) : DC K (rSortR K) [.tuple (ns.map PyData.int)] Ψ := fun N H hN us hu Q q => by
  cases hu with
  | cons d1 d2 =>
    cases d2
    obtain ⟨p, xs, rfl, _, h1, h2⟩ := Dq.tup_inv (N := N) (H := H) d1
    obtain rfl := h2.of_ints
    refine ⟨p, ns, rfl, .inr h1, fun ms r hp hr hn => q _ _ _ (f ms hp hr) (same_new hn _) (Dq.lst (fresh_av hN hn) upd_same DqAll.ints)⟩
end
end DL

set_option Elab.async false
set_option linter.all false
/-! LM4: lines knot by knot: what bends, and the one normal form -/
namespace DL
def yR : Kn → Rat → Rat → Rat
  | [], _, _ => 0
  | [a], s, x => a.2 + s * (x - a.1)
  | a :: b :: r, s, x => if x < b.1 then a.2 + (b.2 - a.2) / (b.1 - a.1) * (x - a.1) else yR (b :: r) s x
/-- the slope behind a, with the rest -/
def sR (a : Rat × Rat) : Kn → Rat → Rat
  | [], s => s
  | b :: _, _ => (b.2 - a.2) / (b.1 - a.1)
def go (sl : Rat) : Kn → Rat → Kn
  | [], _ => []
  | b :: r, s => if sR b r s = sl then go sl r s else b :: go (sR b r s) r s
def bR : Kn → Rat → Kn
  | [], _ => []
  | a :: r, s => a :: go (sR a r s) r s
def RisR : Kn → Prop
  | [] => True
  | [_] => True
  | a :: b :: r => a.1 < b.1 ∧ RisR (b :: r)
def NrmR : Kn → Rat → Prop
  | [], _ => True
  | [_], _ => True
  | a :: b :: r, s => sR a (b :: r) s ≠ sR b r s ∧ NrmR (b :: r) s
theorem two {a b : Rat × Rat} (h : a.1 < b.1) : b.2 = a.2 + (b.2 - a.2) / (b.1 - a.1) * (b.1 - a.1) := by grind
end DL

set_option Elab.async false
set_option linter.all false
/-! LM5: by number and knot by knot -/
namespace DL
/-- whether the line bends at a knot, the first one always -/
def pB (ks : Kn) (s : Rat) (i : Nat) : Bool := decide (i = 0) || !decide (slp ks s i = slp ks s (i - 1))
def bI (ks : Kn) (s : Rat) (k : Nat) : Kn := ((List.range k).filter (pB ks s)).map (kn ks)
end DL

set_option Elab.async false
set_option linter.all false
set_option maxRecDepth 100000
set_option maxHeartbeats 4000000
/-! LR1: lines made of rows of knots -/
namespace DL
open PySem PySem.Spec PyProof.Rows L2
noncomputable instance risDec (ks : Kn) : Decidable (Rising ks) := Classical.propDecidable _
abbrev rkD (b : Bool) (ks : Kn) : PyData := rowD b (ks.map kD)
structure Rk (B : Nat) (ks : Kn) (s : Rat) : Prop where
  b : KsB B ks s
  len : ks.length ≤ 100000
  B0 : 0 < B
  B2 : 2 * B ≤ 3800
def TSlopesR : List PyData → (PyData → Prop) → Prop := fun ds Φ => ∃ (b : Bool) (ks : Kn) (s : Rat) (B : Nat), ds = [rkD b ks, qp s] ∧ Rk B ks s ∧ Rising ks ∧ 0 < ks.length ∧ Φ (.list ((List.range ks.length).map fun i => qp (slp ks s i)))
def TRisB : List PyData → (PyData → Prop) → Prop := fun ds Φ => ∃ (b : Bool) (ks : Kn) (B : Nat), ds = [rkD b ks] ∧ (∀ i, i < ks.length → sz (kn ks i).1 ≤ B) ∧ ks.length ≤ 100000 ∧ B ≤ 3800 ∧ Φ (.bool (decide (Rising ks)))
def TBends : List PyData → (PyData → Prop) → Prop := fun ds Φ => ∃ (b : Bool) (ks : Kn) (s : Rat) (B : Nat), ds = [rkD b ks, qp s] ∧ Rk B ks s ∧ Rising ks ∧ 0 < ks.length ∧ Φ (knD (bI ks s ks.length))
def TLineOf : List PyData → (PyData → Prop) → Prop := fun ds Φ => ∃ (b : Bool) (ks : Kn) (s : Rat) (B : Nat), ds = [rkD b ks, qp s] ∧ Rk B ks s ∧ Rising ks ∧ 0 < ks.length ∧ (kn ks 0).1 = 0 ∧ Φ (lnD (bI ks s ks.length) s)
local macro_rules | `(tactic| walk_at "dl") => `(tactic| repeat' (first
  | with_reducible refine wd_isTy ?_ | with_reducible refine wd_isi ?_ | with_reducible refine wd_op ?_ | ((with_reducible show WD _ _ (tCB (rLenX _) (tCons (tVar _) tNil)) _ _); refine wd_len_scr rfl ?_) | with_reducible refine wd_cb ?_ | with_reducible refine wd_un ?_ | with_reducible refine wa_cons ?_ | with_reducible refine wa_nil ?_ | ((with_reducible show WD _ _ (tVar _) _ _); refine wd_var rfl ?_) | with_reducible refine wd_int ?_ | with_reducible refine wd_bl ?_ | with_reducible refine wd_str ?_ | with_reducible refine wd_non ?_
  | with_reducible refine do_nesS ?_ | with_reducible refine dc_intB ?_ | with_reducible refine do_add ?_ | with_reducible refine do_sub ?_ | ((with_reducible refine do_mod ?_ ?_); decide) | with_reducible refine do_mod ?_ ?_ | with_reducible refine do_mul ?_ ?_ | ((with_reducible refine do_div ?_ ?_); exact ⟨by decide, by decide⟩) | with_reducible refine do_div ?_ ?_ | ((with_reducible refine do_pow ?_ ?_); exact ⟨by decide, by decide, by decide⟩) | with_reducible refine do_pow ?_ ?_
  | with_reducible refine do_lt ?_ | with_reducible refine do_le ?_ | with_reducible refine do_gt ?_ | with_reducible refine do_ge ?_ | with_reducible refine du_neg ?_
  | with_reducible refine do_eqi ?_ | with_reducible refine do_nei ?_ | with_reducible refine do_eqs ?_ | with_reducible refine do_nes ?_ | with_reducible refine dc_abs ?_ | with_reducible refine dc_min ?_ | with_reducible refine dc_max ?_ | with_reducible refine dc_lenL ?_ | with_reducible refine dc_lenT ?_ | with_reducible refine dc_lenR ?_ | with_reducible refine dc_gcd ?_
  | ((with_reducible show DO _ (rIxT _) _ _ _); refine do_ixT rfl ?_) | ((with_reducible show DO _ (rIxL _) _ _ _); refine do_ixL rfl ?_) | ((with_reducible refine do_catL ?_ ?_); exact Nat.le_of_ble_eq_true rfl) | with_reducible refine do_catL ?_ ?_ | ((with_reducible show And (List.length _ ≤ sizeLine) _); refine ⟨Nat.le_of_ble_eq_true rfl, ?_⟩)
  | with_reducible refine wd_dnew ?_ | with_reducible refine wd_call0 ?_ | with_reducible refine wd_slA ?_ | with_reducible refine wo_part ?_ | with_reducible refine wo_none ?_ | with_reducible refine do_eqQ ?_ | with_reducible refine do_neQ ?_ | with_reducible refine wi_enumT ?_ | with_reducible refine wi_enumD ?_ | with_reducible refine tAdQ (by omega) (by omega) ?_ | with_reducible refine tSbQ (by omega) (by omega) ?_ | with_reducible refine tMlQ (by omega) (by omega) ?_ | with_reducible refine tDvQ (by assumption) (by omega) (by omega) ?_ | with_reducible refine tLtQ (by omega) (by omega) ?_ | with_reducible refine dc_str ?_ ?_ | with_reducible refine wd_tup ?_ | with_reducible refine wd_lst ?_ | with_reducible refine wt_test ?_ | with_reducible refine wt_B ?_ | with_reducible refine wt_not ?_ | with_reducible refine wt_and ?_ | with_reducible refine wt_or ?_ | with_reducible refine wd_ifE ?_ | with_reducible refine wd_andV ?_ | with_reducible refine wd_orV ?_ | with_reducible refine wd_notV ?_
  | with_reducible refine ws_seq ?_ | with_reducible refine ws_next ?_ | with_reducible refine ws_asg ?_ | with_reducible refine ws_ret ?_ | with_reducible refine ws_retN ?_ | with_reducible refine ws_if ?_ | with_reducible refine ws_par ?_ | with_reducible refine ws_unp2 ?_
  | with_reducible refine if_t ?_ | with_reducible refine if_f ?_ | with_reducible refine if_nf ?_ | with_reducible refine if_nt ?_
  | ((with_reducible show Exists _); first | refine ⟨_, kitInt _, ?_⟩ | refine ⟨_, kitBool _, ?_⟩ | refine ⟨_, kitTup _, ?_⟩ | refine ⟨_, kitList _, ?_⟩ | refine ⟨_, rfl, ?_⟩ | refine ⟨_, _, rfl, ?_⟩ | fail) | fail))
def t_slopesR (K : PySem.W.Frag) : TS :=
  (tSeq (tAsg (tLst tNil) (gName 2))
    (tSeq (tFor (iRng1 (tCons (tOp rSubI (tCB (rLenX K) (tCons (tVar 0) tNil)) (tC (.int 1))) tNil)) (gName 3) (tSeq (tAsg (tOp (rIxR K) (tVar 0) (tVar 3)) (gTup K 2 (gCons (gName 4) (gCons (gName 5) gNil))))
    (tSeq (tAsg (tOp (rIxR K) (tVar 0) (tOp rAddI (tVar 3) (tC (.int 1)))) (gTup K 2 (gCons (gName 6) (gCons (gName 7) gNil))))
    (tDrop (tBM K "list" rAppend (tVar 2) (tCons (tCall (spP K TDvQ) [] E0 (tCons (tCall (spP K TSbQ) [] E0 (tCons (tVar 7) (tCons (tVar 5) tNil))) (tCons (tCall (spP K TSbQ) [] E0 (tCons (tVar 6) (tCons (tVar 4) tNil))) tNil))) tNil))))))
    (tRet (tOp rCatL (tVar 2) (tLst (tCons (tVar 1) tNil))))))
def t_risB (K : PySem.W.Frag) : TS :=
  (tRet (tCB (rAll K) (tCons (tLc (iRng1 (tCons (tOp rSubI (tCB (rLenX K) (tCons (tVar 0) tNil)) (tC (.int 1))) tNil)) (gName 1) tYes (tCall (spP K TLtQ) [] E0 (tCons (tOp (rIxT K) (tOp (rIxR K) (tVar 0) (tVar 1)) (tC (.int 0))) (tCons (tOp (rIxT K) (tOp (rIxR K) (tVar 0) (tOp rAddI (tVar 1) (tC (.int 1)))) (tC (.int 0))) tNil))) [1]) tNil)))
def t_bends (K : PySem.W.Frag) : TS :=
  (tSeq (tAsg (tCall (spP K TSlopesR) [] E0 (tCons (tVar 0) (tCons (tVar 1) tNil))) (gName 2))
    (tSeq (tAsg (tLst tNil) (gName 3))
    (tSeq (tFor (iEnumR K (tCons (tVar 0) tNil)) (gTup K 2 (gCons (gName 4) (gCons (gTup K 2 (gCons (gName 5) (gCons (gName 6) gNil))) gNil))) (tIfS (tOr (tTest (tOp rEq (tVar 4) (tC (.int 0)))) (tTest (tOp (rNeD K) (tOp (rIxL K) (tVar 2) (tVar 4)) (tOp (rIxL K) (tVar 2) (tOp rSubI (tVar 4) (tC (.int 1))))))) (tDrop (tBM K "list" rAppend (tVar 3) (tCons (tTup (tCons (tVar 5) (tCons (tVar 6) tNil))) tNil))) tNext))
    (tRet (tCB (rTupOf K) (tCons (tVar 3) tNil))))))
def t_lineof (K : PySem.W.Frag) (a_NOUGHT : Addr) : TS :=
  (tSeq (tIfS (tTest (tOp rEq (tCB (rLenX K) (tCons (tVar 0) tNil)) (tC (.int 0)))) tNo tNext)
    (tSeq (tIfS (tTest (tOp (rNeD K) (tOp (rIxT K) (tOp (rIxR K) (tVar 0) (tC (.int 0))) (tC (.int 0))) (tC (.ref a_NOUGHT)))) tNo tNext)
    (tSeq (tIfS (tNot (tB (tCall (spP K TRisB) [] E0 (tCons (tVar 0) tNil)))) tNo tNext)
    (tRet (tTup (tCons (tCall (spP K TBends) [] E0 (tCons (tVar 0) (tCons (tVar 1) tNil))) (tCons (tVar 1) tNil)))))))
section
variable {K : PySem.W.Frag} {ds : List PyData} {Φ : PyData → Prop}
end
end DL

set_option Elab.async false
set_option linter.all false
set_option maxRecDepth 100000
set_option maxHeartbeats 4000000
/-! LR2: what is a line, of anything -/
namespace DL
open PySem PySem.Spec PyProof.Rows L2
/-- of no great numbers -/
inductive Tm : PyData → Prop
  | non : Tm .none
  | bool {b : Bool} : Tm (.bool b)
  | int {i : Int} : i.natAbs < 2 ^ 1700 → Tm (.int i)
  | str {z : Str} : Tm (.str z)
  | tup {ds : List PyData} : ds.length ≤ 1000 → (∀ d ∈ ds, Tm d) → Tm (.tuple ds)
  | lst {ds : List PyData} : ds.length ≤ 1000 → (∀ d ∈ ds, Tm d) → Tm (.list ds)
theorem Tm.num {i : Int} (h : Tm (.int i)) : i.natAbs < 2 ^ 1700 := by cases h with | int g => exact g
def isPairD : PyData → Bool
  | .tuple xs => decide ((xs.length : Int) = 2)
  | _ => false
def isKnotD : PyData → Bool
  | .tuple [a, b] => isPartD a && isPartD b
  | _ => false
def IsLn (d : PyData) : Prop := ∃ ks s, d = lnD ks s ∧ 0 < ks.length ∧ (kn ks 0).1 = 0 ∧ Rising ks ∧ Nrm ks s
noncomputable def isLnB (d : PyData) : Bool := @decide (IsLn d) (Classical.propDecidable _)
def TPairB : List PyData → (PyData → Prop) → Prop := fun ds Φ => ∃ d, ds = [d] ∧ Φ (.bool (isPairD d))
def TKnotB : List PyData → (PyData → Prop) → Prop := fun ds Φ => ∃ d, ds = [d] ∧ Φ (.bool (isKnotD d))
def TIsPartL : List PyData → (PyData → Prop) → Prop := fun ds Φ => ∃ d, ds = [d] ∧ GoodD d ∧ Φ (.bool (isPartD d))
def TIsLine : List PyData → (PyData → Prop) → Prop := fun ds Φ => ∃ d, ds = [d] ∧ Tm d ∧ SeqAt.shaped d = true ∧ Φ (.bool (isLnB d))
local macro_rules | `(tactic| walk_at "dl") => `(tactic| repeat' (first
  | with_reducible refine wd_isTy ?_ | with_reducible refine wd_isi ?_ | with_reducible refine wd_op ?_ | ((with_reducible show WD _ _ (tCB (rLenX _) (tCons (tVar _) tNil)) _ _); refine wd_len_scr rfl ?_) | with_reducible refine wd_cb ?_ | with_reducible refine wd_un ?_ | with_reducible refine wa_cons ?_ | with_reducible refine wa_nil ?_ | ((with_reducible show WD _ _ (tVar _) _ _); refine wd_var rfl ?_) | with_reducible refine wd_int ?_ | with_reducible refine wd_bl ?_ | with_reducible refine wd_str ?_ | with_reducible refine wd_non ?_
  | with_reducible refine do_nesS ?_ | with_reducible refine dc_intB ?_ | with_reducible refine do_add ?_ | with_reducible refine do_sub ?_ | ((with_reducible refine do_mod ?_ ?_); decide) | with_reducible refine do_mod ?_ ?_ | with_reducible refine do_mul ?_ ?_ | ((with_reducible refine do_div ?_ ?_); exact ⟨by decide, by decide⟩) | with_reducible refine do_div ?_ ?_ | ((with_reducible refine do_pow ?_ ?_); exact ⟨by decide, by decide, by decide⟩) | with_reducible refine do_pow ?_ ?_
  | with_reducible refine do_lt ?_ | with_reducible refine do_le ?_ | with_reducible refine do_gt ?_ | with_reducible refine do_ge ?_ | with_reducible refine du_neg ?_
  | with_reducible refine do_eqi ?_ | with_reducible refine do_nei ?_ | with_reducible refine do_eqs ?_ | with_reducible refine do_nes ?_ | with_reducible refine dc_abs ?_ | with_reducible refine dc_min ?_ | with_reducible refine dc_max ?_ | with_reducible refine dc_lenL ?_ | with_reducible refine dc_lenT ?_ | with_reducible refine dc_lenR ?_ | with_reducible refine dc_gcd ?_
  | ((with_reducible show DO _ (rIxT _) _ _ _); refine do_ixT rfl ?_) | ((with_reducible show DO _ (rIxL _) _ _ _); refine do_ixL rfl ?_) | ((with_reducible refine do_catL ?_ ?_); exact Nat.le_of_ble_eq_true rfl) | with_reducible refine do_catL ?_ ?_ | ((with_reducible show And (List.length _ ≤ sizeLine) _); refine ⟨Nat.le_of_ble_eq_true rfl, ?_⟩)
  | with_reducible refine wd_dnew ?_ | with_reducible refine wd_call0 ?_ | with_reducible refine wd_slA ?_ | with_reducible refine wo_part ?_ | with_reducible refine wo_none ?_ | with_reducible refine do_eqQ ?_ | with_reducible refine do_neQ ?_ | with_reducible refine wi_enumT ?_ | with_reducible refine wi_enumD ?_ | with_reducible refine tAdQ (by omega) (by omega) ?_ | with_reducible refine tSbQ (by omega) (by omega) ?_ | with_reducible refine tMlQ (by omega) (by omega) ?_ | with_reducible refine tDvQ (by assumption) (by omega) (by omega) ?_ | with_reducible refine tLtQ (by omega) (by omega) ?_ | with_reducible refine dc_str ?_ ?_ | with_reducible refine wd_tup ?_ | with_reducible refine wd_lst ?_ | with_reducible refine wt_test ?_ | with_reducible refine wt_B ?_ | with_reducible refine wt_not ?_ | with_reducible refine wt_and ?_ | with_reducible refine wt_or ?_ | with_reducible refine wd_ifE ?_ | with_reducible refine wd_andV ?_ | with_reducible refine wd_orV ?_ | with_reducible refine wd_notV ?_
  | with_reducible refine ws_seq ?_ | with_reducible refine ws_next ?_ | with_reducible refine ws_asg ?_ | with_reducible refine ws_ret ?_ | with_reducible refine ws_retN ?_ | with_reducible refine ws_if ?_ | with_reducible refine ws_par ?_ | with_reducible refine ws_unp2 ?_
  | with_reducible refine if_t ?_ | with_reducible refine if_f ?_ | with_reducible refine if_nf ?_ | with_reducible refine if_nt ?_
  | ((with_reducible show Exists _); first | refine ⟨_, kitInt _, ?_⟩ | refine ⟨_, kitBool _, ?_⟩ | refine ⟨_, kitTup _, ?_⟩ | refine ⟨_, kitList _, ?_⟩ | refine ⟨_, rfl, ?_⟩ | refine ⟨_, _, rfl, ?_⟩ | fail) | fail))
def t_pairb (K : PySem.W.Frag) : TS :=
  (tRet (tAndV (tOp rIsTyM (tCB (rTypM K) (tCons (tVar 0) tNil)) (tC (.ty "tuple"))) (tOp rEq (tCB (rLenX K) (tCons (tVar 0) tNil)) (tC (.int 2)))))
def t_knotb (K : PySem.W.Frag) : TS :=
  (tRet (tAndV (tCall (spP K TPairB) [] E0 (tCons (tVar 0) tNil)) (tAndV (tCall (spP K TPartB) [] E0 (tCons (tOp (rIxT K) (tVar 0) (tC (.int 0))) tNil)) (tCall (spP K TPartB) [] E0 (tCons (tOp (rIxT K) (tVar 0) (tC (.int 1))) tNil)))))
def t_isline (K : PySem.W.Frag) (a_NOUGHT : Addr) : TS :=
  (tSeq (tIfS (tNot (tB (tCall (spP K TPairB) [] E0 (tCons (tVar 0) tNil)))) (tRet (tC (.bl false))) tNext)
    (tSeq (tAsg (tVar 0) (gTup K 2 (gCons (gName 1) (gCons (gName 2) gNil))))
    (tSeq (tIfS (tNot (tAnd (tTest (tOp rIsTyM (tCB (rTypM K) (tCons (tVar 1) tNil)) (tC (.ty "tuple")))) (tAnd (tTest (tOp rGe (tCB (rLenX K) (tCons (tVar 1) tNil)) (tC (.int 1)))) (tB (tCall (spP K TPartB) [] E0 (tCons (tVar 2) tNil)))))) (tRet (tC (.bl false))) tNext)
    (tSeq (tIfS (tNot (tB (tCB (rAll K) (tCons (tLc (iTup K (tVar 1)) (gName 3) tYes (tCall (spP K TKnotB) [] E0 (tCons (tVar 3) tNil)) [3]) tNil)))) (tRet (tC (.bl false))) tNext)
    (tSeq (tIfS (tOr (tTest (tOp (rNeD K) (tOp (rIxT K) (tOp (rIxT K) (tVar 1) (tC (.int 0))) (tC (.int 0))) (tC (.ref a_NOUGHT)))) (tNot (tB (tCall (spP K TRisB) [] E0 (tCons (tVar 1) tNil))))) (tRet (tC (.bl false))) tNext)
    (tRet (tOp rEq (tCB (rLenX K) (tCons (tCall (spP K TBends) [] E0 (tCons (tVar 1) (tCons (tVar 2) tNil))) tNil)) (tCB (rLenX K) (tCons (tVar 1) tNil)))))))))
def t_lispart (K : PySem.W.Frag) : TS :=
  (tSeq (tIfS (tOr (tNot (tB (tCB (rIsi K) (tCons (tVar 0) (tCons (tC (.ty "tuple")) tNil))))) (tTest (tOp rNe (tCB (rLenX K) (tCons (tVar 0) tNil)) (tC (.int 2))))) (tRet (tC (.bl false))) tNext)
    (tSeq (tFor (iTup K (tVar 0)) (gName 1) (tIfS (tOr (tNot (tB (tCB (rIsi K) (tCons (tVar 1) (tCons (tC (.ty "int")) tNil))))) (tB (tCB (rIsi K) (tCons (tVar 1) (tCons (tC (.ty "bool")) tNil))))) (tRet (tC (.bl false))) tNext))
    (tRet (tAndV (tOp rGt (tOp (rIxT K) (tVar 0) (tC (.int 1))) (tC (.int 0))) (tOp (rEqD K) (tCall (spP K TLow) [] E0 (tCons (tOp (rIxT K) (tVar 0) (tC (.int 0))) (tCons (tOp (rIxT K) (tVar 0) (tC (.int 1))) tNil))) (tVar 0))))))
def t_lisline (K : PySem.W.Frag) : TS :=
  (tSeq (tIfS (tOr (tNot (tB (tCB (rIsi K) (tCons (tVar 0) (tCons (tC (.ty "tuple")) tNil))))) (tOr (tTest (tOp rNe (tCB (rLenX K) (tCons (tVar 0) tNil)) (tC (.int 2)))) (tOr (tNot (tB (tCB (rIsi K) (tCons (tOp (rIxT K) (tVar 0) (tC (.int 0))) (tCons (tC (.ty "tuple")) tNil))))) (tTest (tOp (rEqD K) (tOp (rIxT K) (tVar 0) (tC (.int 0))) (tTup tNil)))))) (tRet (tC (.bl false))) tNext)
    (tSeq (tFor (iTup K (tOp (rIxT K) (tVar 0) (tC (.int 0)))) (gName 1) (tIfS (tOr (tNot (tB (tCB (rIsi K) (tCons (tVar 1) (tCons (tC (.ty "tuple")) tNil))))) (tOr (tTest (tOp rNe (tCB (rLenX K) (tCons (tVar 1) tNil)) (tC (.int 2)))) (tOr (tNot (tB (tCall (spP K TIsPartL) [] E0 (tCons (tOp (rIxT K) (tVar 1) (tC (.int 0))) tNil)))) (tNot (tB (tCall (spP K TIsPartL) [] E0 (tCons (tOp (rIxT K) (tVar 1) (tC (.int 1))) tNil))))))) (tRet (tC (.bl false))) tNext))
    (tSeq (tIfS (tOr (tNot (tB (tCall (spP K TIsPartL) [] E0 (tCons (tOp (rIxT K) (tVar 0) (tC (.int 1))) tNil)))) (tTest (tOp (rNeD K) (tOp (rIxT K) (tOp (rIxT K) (tOp (rIxT K) (tVar 0) (tC (.int 0))) (tC (.int 0))) (tC (.int 0))) (tTup (tCons (tC (.int 0)) (tCons (tC (.int 1)) tNil)))))) (tRet (tC (.bl false))) tNext)
    (tSeq (tFor (iRng2 (tCons (tC (.int 1)) (tCons (tCB (rLenX K) (tCons (tOp (rIxT K) (tVar 0) (tC (.int 0))) tNil)) tNil))) (gName 2) (tIfS (tNot (tB (tCall (spP K TLtQ) [] E0 (tCons (tOp (rIxT K) (tOp (rIxT K) (tOp (rIxT K) (tVar 0) (tC (.int 0))) (tOp rSubI (tVar 2) (tC (.int 1)))) (tC (.int 0))) (tCons (tOp (rIxT K) (tOp (rIxT K) (tOp (rIxT K) (tVar 0) (tC (.int 0))) (tVar 2)) (tC (.int 0))) tNil))))) (tRet (tC (.bl false))) tNext))
    (tRet (tOp (rEqD K) (tLc (iRng2 (tCons (tC (.int 1)) (tCons (tCB (rLenX K) (tCons (tOp (rIxT K) (tVar 0) (tC (.int 0))) tNil)) tNil))) (gName 2) (tTest (tOp (rEqD K) (tCall (spP K TSlope) [] E0 (tCons (tVar 0) (tCons (tOp rSubI (tVar 2) (tC (.int 1))) tNil))) (tCall (spP K TSlope) [] E0 (tCons (tVar 0) (tCons (tVar 2) tNil))))) (tC (.int 1)) [2]) (tLst tNil)))))))
section
variable {K : PySem.W.Frag} {ds : List PyData} {Φ : PyData → Prop}
end
end DL

set_option Elab.async false
set_option linter.all false
set_option maxRecDepth 100000
set_option maxHeartbeats 4000000
/-! DM5: list(zip(xs, ys)) -/
namespace DZ
open PySem PySem.W PySem.Calls PyProof.Rows PyProof.V PySem.Spec
theorem zNoLen : typeLookup (.type "zip") "__len__" = pure none := by
  rw [typeLookup_type, builtinLookup_eq_fast]
  kernel_rfl
theorem zNoHint : typeLookup (.type "zip") "__length_hint__" = pure none := by
  rw [typeLookup_type, builtinLookup_eq_fast]
  kernel_rfl
/-- where the parts of a zip stand, all below the list S -/
structure Pl (z TI TO i1 i2 l1 l2 S : Addr) : Prop where
  D : ZipApart z TI TO i1 i2 l1 l2
  z : z < S
  TI : TI < S
  TO : TO < S
  i1 : i1 < S
  i2 : i2 < S
  l1 : l1 < S
  l2 : l2 < S
/-- a zip behind its i-th pair -/
structure St (z TI TO i1 i2 l1 l2 S : Addr) (xs ys : Array Value) (i : Nat) (h : Heap) : Prop where
  ti : IsPair h TI (.ref i1) (.ref i2)
  a1 : h.IsListIter i1 l1 i
  a2 : h.IsListIter i2 l2 i
  b1 : h.IsList l1 xs
  b2 : h.IsList l2 ys
  out : (IsZip h z TI TO .none ∧ ∃ a b, IsPair h TO a b) ∨ ∃ (T : Addr) (f : Bool) (oT : Obj), IsZipHeld h z TI TO T f ∧ h.get? T = some oT ∧ T ≠ z ∧ T ≠ i1 ∧ T ≠ i2 ∧ T ≠ S
/-- the pairs made so far -/
structure Gd (xs ys : Array Value) (S : Addr) (h : Heap) (as : List Addr) : Prop where
  up : as.Pairwise (· < ·)
  lo : ∀ a ∈ as, S < a
  at' : ∀ (j : Nat) (a : Addr), as[j]? = some a → ∃ x y, xs[j]? = some x ∧ ys[j]? = some y ∧ IsPair h a x y
section
variable {prog : Program} {w : World} {A : Around} {E : Value → Shared → Prop} {s : Shared} {z TI TO i1 i2 l1 l2 S : Addr} {xs ys : Array Value}
theorem St.mv {i : Nat} {h g : Heap} (P : Pl z TI TO i1 i2 l1 l2 S) (t : St z TI TO i1 i2 l1 l2 S xs ys i h) (k : ∀ b o, b ≠ S → h.get? b = some o → g.get? b = some o) : St z TI TO i1 i2 l1 l2 S xs ys i g := by
  have n : ∀ {b : Addr}, b < S → b ≠ S := fun h => Nat.ne_of_lt h
  refine ⟨k _ _ (n P.TI) t.ti, t.a1.at fun o e => k _ _ (n P.i1) e, t.a2.at fun o e => k _ _ (n P.i2) e, t.b1.at fun o e => k _ _ (n P.l1) e, t.b2.at fun o e => k _ _ (n P.l2) e, ?_⟩
  cases t.out with
  | inl q =>
    obtain ⟨q1, a, b, q2⟩ := q
    exact .inl ⟨k _ _ (n P.z) q1, a, b, k _ _ (n P.TO) q2⟩
  | inr q =>
    obtain ⟨T, f, oT, q1, q2, q3, q4, q5, q6⟩ := q
    exact .inr ⟨T, f, oT, k _ _ (n P.z) q1, k _ _ q6 q2, q3, q4, q5, q6⟩
theorem St.nxt {i : Nat} {x y : Value} {Q : Option Value → Shared → Prop} (P : Pl z TI TO i1 i2 l1 l2 S) (t : St z TI TO i1 i2 l1 l2 S xs ys i s.heap) (hS : S < s.heap.objs.size) (hx : xs[i]? = some x) (hy : ys[i]? = some y)
    (q : ∀ g, St z TI TO i1 i2 l1 l2 S xs ys (i + 1) g → IsPair g s.heap.objs.size x y → g.objs.size = s.heap.objs.size + 1 → (∀ c o, c ≠ z → c ≠ TO → c ≠ i1 → c ≠ i2 → s.heap.get? c = some o → g.get? c = some o) → Q (some (.ref s.heap.objs.size)) { s with heap := g }) :
    wpAny (model prog w) A (pyNext (.ref z)) Q E s := by
  have D := P.D
  have ln : ∀ {c : Addr} {o : Obj}, s.heap.get? c = some o → s.heap.objs.size ≠ c := fun e => Nat.ne_of_gt (Heap.lt_size e)
  obtain ⟨o1, p1, _⟩ := id t.a1
  obtain ⟨o2, p2, _⟩ := id t.a2
  cases t.out with
  | inl o =>
    obtain ⟨oz, a, b, oTO⟩ := o
    refine wpAny_pyNext_zip_item D oz t.ti oTO t.a1 t.a2 t.b1 t.b2 hx hy fun g g1 g2 g3 g4 g5 g6 kp => q g ?_ g5 g6 kp
    refine ⟨kp _ _ D.TIz D.TITO D.TIi1 D.TIi2 t.ti, g3, g4, t.b1.at fun o e => kp _ o D.l1z D.l1TO D.l1i1 D.l1i2 e, t.b2.at fun o e => kp _ o D.l2z D.l2TO D.l2i1 D.l2i2 e, .inr ?_⟩
    exact ⟨s.heap.objs.size, false, _, g1, g5, ln oz, ln p1, ln p2, Nat.ne_of_gt hS⟩
  | inr o =>
    obtain ⟨T, f, oT, oz, hT, r1, r2, r3, r4⟩ := o
    refine wpAny_pyNext_zip_item_held D oz hT t.ti t.a1 t.a2 t.b1 t.b2 hx hy fun g g1 g3 g4 g5 g6 kp => q g ?_ g5 g6 fun c o c1 _ c3 c4 e => kp c o c1 c3 c4 e
    refine ⟨kp _ _ D.TIz D.TIi1 D.TIi2 t.ti, g3, g4, t.b1.at fun o e => kp _ o D.l1z D.l1i1 D.l1i2 e, t.b2.at fun o e => kp _ o D.l2z D.l2i1 D.l2i2 e, .inr ?_⟩
    exact ⟨T, true, oT, g1, kp _ _ r1 r2 r3 hT, r1, r2, r3, r4⟩
theorem St.end' {i : Nat} {Q : Option Value → Shared → Prop} (hh : A.handled = none) (P : Pl z TI TO i1 i2 l1 l2 S) (t : St z TI TO i1 i2 l1 l2 S xs ys i s.heap) (he : xs[i]? = none)
    (q : ∀ g, (∀ c o, c ≠ z → c ≠ TO → c ≠ i1 → c ≠ i2 → s.heap.get? c = some o → g.get? c = some o) → Q none { s with heap := g }) :
    wpAny (model prog w) A (pyNext (.ref z)) Q E s := by
  cases t.out with
  | inl o =>
    obtain ⟨oz, a, b, oTO⟩ := o
    exact wpAny_pyNext_zip_end hh P.D oz t.ti oTO t.a1 t.a2 t.b1 t.b2 (.inl he) fun g kp => q g kp
  | inr o =>
    obtain ⟨T, f, oT, oz, hT, r1, r2, r3, r4⟩ := o
    exact wpAny_pyNext_zip_end_held hh P.D oz hT t.ti t.a1 t.a2 t.b1 t.b2 (.inl he) fun g kp => q g fun c o c1 _ c3 c4 e => kp c o c1 c3 c4 e
end
section
variable {prog : Program} {w : World} {A : Around} {s : Shared} {R : Result → Shared → Prop} {z TI TO i1 i2 l1 l2 S : Addr} {xs ys : Array Value}
theorem fill (hh : A.handled = none) (P : Pl z TI TO i1 i2 l1 l2 S) (hl : xs.size = ys.size) (hn : xs.size ≤ sizeLine) (res : Value) {g0 : Heap} (low : ∀ b o, g0.get? b = some o → b ≠ S ∧ b ≠ z ∧ b ≠ TO ∧ b ≠ i1 ∧ b ≠ i2)
    (fin : ∀ g tk acc c as, (∀ b o, g0.get? b = some o → g.get? b = some o) → g.get? S = some { cls := .type "list", dict := none, data := .seq acc c, slots := #[] } → as.length = xs.size → Gd xs ys S g as →
      acc.toList = as.map Value.ref → R (.ok (.ret res)) { s with heap := g, toks := tk }) :
    ∀ (m i : Nat) (g : Heap) (tk c : Nat) (acc : Array Value) (as : List Addr), xs.size = i + m → St z TI TO i1 i2 l1 l2 S xs ys i g → (∀ b o, g0.get? b = some o → g.get? b = some o) →
      g.get? S = some { cls := .type "list", dict := none, data := .seq acc c, slots := #[] } → acc.toList = as.map Value.ref → as.length = i → Gd xs ys S g as →
      codeAny (model prog w) A (.builtin "list.extend.loop" ⟨[.ref S, .ref z, res], []⟩) R { s with heap := g, toks := tk } := by
  intro m
  induction m with
  | zero =>
    intro i g tk c acc as e t kp hS ha al G
    ((refine codeAny_builtin PySem.F.entry_extend_loop ?_); (rw [Around.under_plainId PySem.F.plain_extend_loop _]); (show wpAny _ A.in1 (pyNext (.ref z) >>= _) _ _ _))
    refine wpAny_bind (t.end' (s := { s with heap := g, toks := tk }) (A := A.in1) hh P (Array.getElem?_eq_none (by omega)) fun g' k' => ?_)
    have nS : S ≠ z ∧ S ≠ TO ∧ S ≠ i1 ∧ S ≠ i2 := ⟨Nat.ne_of_gt P.z, Nat.ne_of_gt P.TO, Nat.ne_of_gt P.i1, Nat.ne_of_gt P.i2⟩
    refine wpAny_pure (fin g' tk acc c as (fun b o e' => ?_) (k' _ _ nS.1 nS.2.1 nS.2.2.1 nS.2.2.2 hS) (by omega) ⟨G.up, G.lo, fun j a ja => ?_⟩ ha)
    · obtain ⟨_, w1, w2, w3, w4⟩ := low b o e'
      exact k' b o w1 w2 w3 w4 (kp b o e')
    · obtain ⟨x, y, hx, hy, hp⟩ := G.at' j a ja
      have la := G.lo a (List.mem_of_getElem? ja)
      exact ⟨x, y, hx, hy, k' _ _ (Nat.ne_of_gt (Nat.lt_trans P.z la)) (Nat.ne_of_gt (Nat.lt_trans P.TO la)) (Nat.ne_of_gt (Nat.lt_trans P.i1 la)) (Nat.ne_of_gt (Nat.lt_trans P.i2 la)) hp⟩
  | succ m ih =>
    intro i g tk c acc as e t kp hS ha al G
    have hix : i < xs.size := by omega
    have hiy : i < ys.size := by omega
    have as' : acc.size = i := by rw [← Array.length_toList, ha, List.length_map, al]
    have sS : S < g.objs.size := Heap.lt_size hS
    ((refine codeAny_builtin PySem.F.entry_extend_loop ?_); (rw [Around.under_plainId PySem.F.plain_extend_loop _]); (show wpAny _ A.in1 (pyNext (.ref z) >>= _) _ _ _))
    refine wpAny_bind (t.nxt (s := { s with heap := g, toks := tk }) P sS (Array.getElem?_eq_getElem hix) (Array.getElem?_eq_getElem hiy) fun g' t' hp hz k' => ?_)
    dsimp only at t' hp hz k' ⊢
    have nS : S ≠ z ∧ S ≠ TO ∧ S ≠ i1 ∧ S ≠ i2 := ⟨Nat.ne_of_gt P.z, Nat.ne_of_gt P.TO, Nat.ne_of_gt P.i1, Nat.ne_of_gt P.i2⟩
    have hS' := k' _ _ nS.1 nS.2.1 nS.2.2.1 nS.2.2.2 hS
    have mv : ∀ b o, b ≠ S → g'.get? b = some o → (g'.update S (Obj.mapSeq (·.push (Value.ref g.objs.size)))).get? b = some o := fun b o hb e' => by
      rw [Heap.get?_update_other _ _ (Ne.symm hb)]; exact e'
    have old : ∀ a, S < a → ∀ o, g.get? a = some o → (g'.update S (Obj.mapSeq (·.push (Value.ref g.objs.size)))).get? a = some o := fun a la o e' =>
      mv a o (Nat.ne_of_gt la) (k' _ _ (Nat.ne_of_gt (Nat.lt_trans P.z la)) (Nat.ne_of_gt (Nat.lt_trans P.TO la)) (Nat.ne_of_gt (Nat.lt_trans P.i1 la)) (Nat.ne_of_gt (Nat.lt_trans P.i2 la)) e')
    show wpAny _ A.in1 (updateSeq S (·.push (Value.ref g.objs.size)) >>= _) _ _ _
    refine wpAny_bind (wpAny_updateSeq hS' rfl (wpAny_pure ⟨plainId_quiet PySem.F.plain_extend_loop _, ?_⟩) (by rw [as']; omega) (by show (acc.push (Value.ref g.objs.size)).size ≤ sizeLine + 1; rw [Array.size_push, as']; omega))
    refine ih (i + 1) _ tk _ (acc.push (Value.ref g.objs.size)) (as ++ [g.objs.size]) (by omega) (t'.mv P mv) (fun b o e' => ?_) (Heap.get?_update_self _ hS' rfl) ?_ (by rw [List.length_append, al]; rfl) ⟨?_, fun a ha' => ?_, fun j a ja => ?_⟩
    · obtain ⟨w0, w1, w2, w3, w4⟩ := low b o e'
      exact mv b o w0 (k' b o w1 w2 w3 w4 (kp b o e'))
    · rw [Array.toList_push, ha, List.map_append]; rfl
    · refine List.pairwise_append.mpr ⟨G.up, List.pairwise_singleton _ _, fun a ha' b hb => ?_⟩
      have e1 : b = g.objs.size := by simpa using hb
      subst e1
      obtain ⟨j, hj⟩ := List.mem_iff_getElem?.mp ha'
      obtain ⟨_, _, _, _, hp'⟩ := G.at' j a hj
      exact Heap.lt_size hp'
    · rcases List.mem_append.mp ha' with h | h
      · exact G.lo a h
      · have e1 : a = g.objs.size := by simpa using h
        subst e1; exact sS
    · by_cases q : j < as.length
      · rw [List.getElem?_append_left q] at ja
        obtain ⟨x, y, hx, hy, hp'⟩ := G.at' j a ja
        exact ⟨x, y, hx, hy, old a (G.lo a (List.mem_of_getElem? ja)) _ hp'⟩
      · by_cases q2 : j = as.length
        · subst q2
          have e1 : g.objs.size = a := by simpa using ja
          subst e1
          exact ⟨_, _, by rw [al]; exact Array.getElem?_eq_getElem hix, by rw [al]; exact Array.getElem?_eq_getElem hiy, mv _ _ (Nat.ne_of_gt sS) hp⟩
        · rw [List.getElem?_eq_none (by rw [List.length_append, List.length_singleton]; omega)] at ja
          cases ja
end
section
variable {prog : Program} {w : World} {A : Around} {E : Value → Shared → Prop} {s : Shared} {z TI TO i1 i2 l1 l2 : Addr} {xs ys : Array Value}
/-- list(z), z a new zip of two lists of one length -/
theorem made {Q : Value → Shared → Prop} {g0 : Heap} (hh : A.handled = none) (P : Pl z TI TO i1 i2 l1 l2 s.heap.objs.size) (hl : xs.size = ys.size) (hn : xs.size ≤ sizeLine)
    (hz : IsZip s.heap z TI TO .none) (hTI : IsPair s.heap TI (.ref i1) (.ref i2)) (hTO : ∃ a b, IsPair s.heap TO a b) (h1 : s.heap.IsListIter i1 l1 0) (h2 : s.heap.IsListIter i2 l2 0) (b1 : s.heap.IsList l1 xs) (b2 : s.heap.IsList l2 ys)
    (k0 : ∀ b o, g0.get? b = some o → s.heap.get? b = some o ∧ b ≠ z ∧ b ≠ TO ∧ b ≠ i1 ∧ b ≠ i2)
    (fin : ∀ g tk acc c as, (∀ b o, g0.get? b = some o → g.get? b = some o) → g.get? s.heap.objs.size = some { cls := .type "list", dict := none, data := .seq acc c, slots := #[] } → as.length = xs.size → Gd xs ys s.heap.objs.size g as →
      acc.toList = as.map Value.ref → Q (.ref s.heap.objs.size) { s with heap := g, toks := tk }) : wpAny (model prog w) A (call (.type "list") [.ref z]) Q E s := by
  refine callType_codes (Q₁ := fun obj t => obj = .ref s.heap.objs.size ∧ t = { s with heap := s.heap.push { cls := .type "list", data := .seq #[] } }) PySem.F.called_list (PySem.F.typeCall_list_1 _) PySem.F.entry_list_init (code_list_new _ ⟨rfl, rfl⟩) fun obj t ht => ?_
  obtain ⟨rfl, rfl⟩ := ht
  have o0 : (s.heap.push { cls := .type "list", data := .seq #[] }).get? s.heap.objs.size = some { cls := .type "list", data := .seq #[] } := Heap.get?_push_size _ rfl
  refine ⟨⟨_, o0, rfl⟩, PySem.F.args_list_init_2 _ _, ?_⟩
  have zS : s.heap.objs.size ≠ z := Nat.ne_of_gt P.z
  have kk : ∀ b o, s.heap.get? b = some o → b ≠ s.heap.objs.size := fun b o e => Nat.ne_of_lt (Heap.lt_size e)
  have st0 : St z TI TO i1 i2 l1 l2 s.heap.objs.size xs ys 0 s.heap := ⟨hTI, h1, h2, b1, b2, .inl ⟨hz, hTO⟩⟩
  generalize s.heap.objs.size = S at *
  have n0 : ∀ (g : Heap) (f : Obj → Obj), (∀ b o, b ≠ S → s.heap.get? b = some o → g.get? b = some o) → ∀ b o, b ≠ S → s.heap.get? b = some o → (g.update S f).get? b = some o := fun g f q b o hb e => by
    rw [Heap.get?_update_other _ _ (Ne.symm hb)]; exact q b o hb e
  have m1 : ∀ b o, b ≠ S → s.heap.get? b = some o → (s.heap.push { cls := .type "list", data := .seq #[] }).get? b = some o := fun b o _ e => Heap.get?_push_of_some _ e
  generalize s.heap.push { cls := .type "list", data := .seq #[] } = g1 at o0 m1 ⊢
  show wpAny _ A.in1.in1 (do let old ← Builtin.List.listItems (.ref S); Builtin.List.listUpdate (.ref S) (fun _ => #[]); letGo old.toList.reverse; Builtin.List.listExtendWith (.ref S) (.ref z) .none) _ _ _
  refine wpAny_bind ?_
  unfold Builtin.List.listItems
  refine wpAny_bind (wpAny_seqItems o0 rfl (wpAny_pure ?_))
  show wpAny _ A.in1.in1 (updateSeq S (fun _ => #[]) >>= fun _ => letGo (#[] : Array Value).toList.reverse >>= fun _ => Builtin.List.listExtendWith (.ref S) (.ref z) .none) _ _ _
  refine wpAny_bind (wpAny_updateSeq o0 rfl ?_)
  have o2 := Heap.get?_update_self (Obj.mapSeq (fun _ => (#[] : Array Value))) o0 rfl
  have m2 := n0 g1 (Obj.mapSeq (fun _ => (#[] : Array Value))) m1
  generalize g1.update S (Obj.mapSeq (fun _ => (#[] : Array Value))) = g2 at o2 m2 ⊢
  refine wpAny_bind (wpAny_letGo ?_)
  unfold Builtin.List.listExtendWith
  have tz : Shared.TypeIs { s with heap := g2 } (.ref z) "zip" := ⟨_, m2 _ _ (Ne.symm zS) hz, rfl⟩
  refine wpAny_bind (wpAny_typeOf tz ?_)
  have c1 : Builtin.List.listSameRef (.ref S) (.ref z) = false := by simp [Builtin.List.listSameRef, zS]
  have c2 : (Value.type "zip" == Value.type "list") = false := by decide
  have c3 : (Value.type "zip" == Value.type "tuple") = false := by decide
  simp only [c1, c2, c3, Bool.or_false, Bool.false_eq_true, if_false]
  refine wpAny_bind (wpAny_pyIter_zip (s := { s with heap := g2 }) (m2 _ _ (Ne.symm zS) hz) ?_)
  refine wpAny_bind (wpAny_holding ?_)
  unfold Builtin.List.listLengthHint
  refine wpAny_bind (wpAny_specialOf tz zNoLen ?_)
  show wpAny _ A.in1.in1 (specialOf (Value.ref z) (Str.ofString "__length_hint__") >>= _) _ _ _
  refine wpAny_bind (wpAny_specialOf tz zNoHint ?_)
  refine wpAny_pure ?_
  show wpAny _ A.in1.in1 (rule "list.extend.makes-room" >>= fun _ => Builtin.List.listTouch (.ref S) >>= fun _ => again (.builtin "list.extend.loop" ⟨[.ref S, .ref z, .none], []⟩)) _ _ _
  refine wpAny_bind (wpAny_rule ?_)
  refine wpAny_bind ?_
  show wpAny _ A.in1.in1 (updateSeq S (·.push .none) >>= fun _ => updateSeq S (·.pop)) _ _ _
  refine wpAny_bind (wpAny_updateSeq o2 rfl ?_)
  have o3 := Heap.get?_update_self (Obj.mapSeq (·.push Value.none)) o2 rfl
  have m3 := n0 g2 (Obj.mapSeq (·.push Value.none)) m2
  refine wpAny_updateSeq (hz := by seq_fits) o3 rfl ?_
  have o4 := Heap.get?_update_self (Obj.mapSeq (·.pop)) o3 rfl
  have m4 := n0 _ (Obj.mapSeq (·.pop)) m3
  refine wpAny_pure ⟨plainId_quiet PySem.F.plain_extend_loop _, ?_⟩
  refine fill (s := s) (xs := xs) (ys := ys) (g0 := g0) (A := A.in1) hh P hl hn .none (fun b o e => ?_) (fun g tk acc c as q1 q2 q3 q4 q5 => ⟨rfl, fin g tk acc c as q1 q2 q3 q4 q5⟩) xs.size 0 _ _ _ _ [] (by omega) (st0.mv P m4) (fun b o e => ?_) o4 ?_ rfl ⟨List.Pairwise.nil, (fun a h => by cases h), (fun j a h => by simp at h)⟩
  · obtain ⟨e1, e2⟩ := k0 b o e
    exact ⟨kk b o e1, e2⟩
  · obtain ⟨e1, _⟩ := k0 b o e
    exact m4 b o (kk b o e1) e1
  · rfl
end
end DZ

set_option Elab.async false
set_option linter.all false
set_option maxRecDepth 100000
set_option maxHeartbeats 4000000
/-! DM6: list(zip(xs, ys)) in the hand layer, over data -/
namespace DL
open PySem PySem.Spec PyProof.Rows L2
def tLZip (K : PySem.W.Frag) (ta : TA) : TE := fun σ H Q => ta σ H fun vs H1 => ∃ (a b : Addr) (xs ys : List V), vs = [.ref a, .ref b] ∧ SqL K H1 a xs ∧ SqL K H1 b ys ∧ xs.length = ys.length ∧
  ∀ (H2 : Hp) (l : Addr) (as : List Addr), Same H1 H2 → H1 l = none → H2 l = some (.lst (as.map V.ref)) → as.length = xs.length → (∀ (j : Nat) (c : Addr), as[j]? = some c → H1 c = none ∧ ∃ x y, xs[j]? = some x ∧ ys[j]? = some y ∧ H2 c = some (.tup [x, y])) → Q (.ref l) H2
section
variable {K : PySem.W.Frag} {S : Stt} {ρ : Rho} {Φ : PyData → Rho → Prop}
end
end DL

set_option Elab.async false
set_option linter.all false
set_option maxRecDepth 100000
set_option maxHeartbeats 4000000
/-! DM7: calls that tell a new list -/
namespace DL
open PySem PySem.Spec PyProof.Rows L2
/-- a new list of data -/
def spM (K : PySem.W.Frag) (T : List PyData → (List PyData → Prop) → Prop) : Sp := fun vs H Q _ => ∃ (N : Av) (ds : List PyData) (Φ : List PyData → Prop),
  (∀ b, N b = true → H b ≠ none) ∧ DqAll K N H vs ds ∧ T ds Φ ∧ ∀ es, Φ es → ∀ p us G, Same H G → G p = none → DqAll K N G us es → Q (.ref p) (upd G p (.lst us))
section
variable {K : PySem.W.Frag} {S : Stt} {ρ : Rho} {Φ : PyData → Rho → Prop}
end
end DL

set_option Elab.async false
set_option linter.all false
set_option maxRecDepth 100000
set_option maxHeartbeats 4000000
/-! DM8: a list of one's own lengthened by a comprehension -/
namespace DL
open PySem PySem.Spec PyProof.Rows L2
section
variable {K : PySem.W.Frag} {S : Stt} {ρ : Rho}
end
end DL

set_option Elab.async false
set_option linter.all false
set_option maxRecDepth 100000
set_option maxHeartbeats 4000000
/-! DM9: three names at once -/
namespace DL
open PySem PySem.Spec PyProof.Rows L2
section
variable {K : PySem.W.Frag} {S : Stt} {ρ : Rho}
theorem gd_trip {i j l : Nat} {a b c : PyData} : GD K (gTup K 3 (gCons (gName i) (gCons (gName j) (gCons (gName l) gNil)))) (.tuple [a, b, c]) [i, j, l] (fun ρ => ((ρ.set i (.dat a)).set j (.dat b)).set l (.dat c)) := fun S H0 N0 Z N σ H ρ x E hx Q q => by
  obtain ⟨p, xs, rfl, _, h1, h2⟩ := hx.tup_inv
  cases h2 with
  | cons a1 a2 =>
    cases a2 with
    | cons a2 a3 =>
      cases a3 with
      | cons a3 a4 =>
        cases a4
        exact ⟨p, _, rfl, h1, rfl, _, _, rfl, _, _, rfl, _, _, rfl, rfl, q _ (((E.set a1).set a2).set a3) (by rw [List.length_set, List.length_set, List.length_set]) fun k hk => by
          have h1 : l ≠ k := fun e => hk (by simp [e])
          have h2 : j ≠ k := fun e => hk (by simp [e])
          have h3 : i ≠ k := fun e => hk (by simp [e])
          rw [set_ne h1, set_ne h2, set_ne h3]⟩
end
end DL

set_option Elab.async false
set_option linter.all false
/-! PM1: payments of totals, as rationals, and their sizes -/
namespace DL
abbrev P3 := Rat × Rat × Rat
def keptR (sh n d : Rat) : Rat := if n ≤ 0 then n else if sh * n < d then sh * n else d
def pstep (sh : Rat) (s : P3) (t : Rat) : P3 := (t, s.2.1 + (t - s.1 - keptR sh (t - s.1) s.2.2), s.2.2 - keptR sh (t - s.1) s.2.2)
def prow (sh : Rat) (s : P3) (t : Rat) : P3 := (t - s.1 - keptR sh (t - s.1) s.2.2, s.2.1 + (t - s.1 - keptR sh (t - s.1) s.2.2), s.2.2 - keptR sh (t - s.1) s.2.2)
def pS (sh : Rat) (ts : List Rat) : P3 := ts.foldl (pstep sh) (0, 0, 0)
def pRwF (sh : Rat) : P3 → List Rat → List P3
  | _, [] => []
  | s, t :: r => prow sh s t :: pRwF sh (pstep sh s t) r
def pRw (sh : Rat) (ts : List Rat) : List P3 := pRwF sh (0, 0, 0) ts
/-! sizes -/
/-- the common bottom of all totals -/
def dd : Nat := (List.range 1000).foldl (fun a k => Nat.lcm a (k + 1)) 1 * 988027000 ^ 4
def mm : Nat := dd * 2 ^ 21
end DL

set_option Elab.async false
set_option linter.all false
/-! PM2: what holds behind each payday; sizes -/
namespace DL
structure ShOk (R : Nat) (sh : Rat) : Prop where
  pos : 0 < sh
  le : sh ≤ 1
  r1 : 1 ≤ R
  r2 : R ≤ 1000
  dv : Dv R R sh
def Tot (t : Rat) : Prop := Dv dd mm t
structure PI (R k : Nat) (s : P3) : Prop where
  last : Tot s.1
  debt : Dv (dd * R) (2 * k * (mm * R)) s.2.2
  d0 : 0 ≤ s.2.2
  sum : s.2.1 = s.1 + s.2.2
/-- the sizes of all that a payday reckons with -/
structure PZ (sh : Rat) (s : P3) (t : Rat) : Prop where
  last : sz s.1 ≤ 1640
  all : sz s.2.1 ≤ 1640
  debt : sz s.2.2 ≤ 1640
  tot : sz t ≤ 1640
  new : sz (t - s.1) ≤ 1640
  shn : sz (sh * (t - s.1)) ≤ 1640
  now1 : sz (t - s.1 - s.2.2) ≤ 1640
  now2 : sz (t - s.1 - sh * (t - s.1)) ≤ 1640
  kept : sz (keptR sh (t - s.1) s.2.2) ≤ 1640
  now : sz (t - s.1 - keptR sh (t - s.1) s.2.2) ≤ 1640
  all2 : sz (pstep sh s t).2.1 ≤ 1640
  debt2 : sz (pstep sh s t).2.2 ≤ 1640
end DL

set_option Elab.async false
set_option linter.all false
/-! PM3: the totals that are drawn -/
namespace DL
/-- a hair -/
def Hair (q : Rat) : Prop := Dv (988027000 ^ 4) (988027000 ^ 4) q
def hair0 : Rat := Rat.divInt 1 997 * Rat.divInt 1 1000 * Rat.divInt 1 991
def hairs : Nat → Rat
  | 0 => hair0
  | j + 1 => hairs j * hairs j
end DL

set_option Elab.async false
set_option linter.all false
set_option maxRecDepth 100000
set_option maxHeartbeats 4000000
/-! PQ1: small parts, shares, totals drawn -/
namespace DL
open PySem PySem.Spec PyProof.Rows L2
def SmQ (q : Rat) : Prop := ∃ (n : Int) (d : Nat), q = Rat.divInt n d ∧ 1 ≤ d ∧ d ≤ 1000 ∧ n.natAbs ≤ 1000000
def TSmallQ : Nat → List PyData → (PyData → Nat → Prop) → Prop := fun B ds Φ => ds = [] ∧ B + 3200 ≤ 2 ^ 40 ∧ ∀ q, SmQ q → Φ (qp q) (B + 3200)
def TShareQ : Nat → List PyData → (PyData → Nat → Prop) → Prop := fun B ds Φ => ds = [] ∧ B + 1600 ≤ 2 ^ 40 ∧ ∀ R q, ShOk R q → Φ (qp q) (B + 1600)
def TTotals : Nat → List PyData → (PyData → Nat → Prop) → Prop := fun B ds Φ => ∃ most : Int, ds = [.int most] ∧ 1 ≤ most ∧ most ≤ 120 ∧ B + 1000000 ≤ 2 ^ 40 ∧ ∀ (ts : List Rat) (B' : Nat), (ts.length : Int) ≤ 120 → (∀ t ∈ ts, Tot t) → B' ≤ B + 1000000 → Φ (.list (ts.map qp)) B'
def negA (q : Rat) : Rat := if 0 ≤ q.num then -q else q
theorem fgt_set {ρ : Rho} {i : Nat} : Fgt ρ (ρ.set i .unk) := ⟨List.length_set, fun j s h => by
  rcases get_set h with ⟨_, e⟩ | ⟨_, e⟩
  · exact .inl e
  · exact .inr e⟩
theorem fgt_wipe {ρ : Rho} : ∀ vs : List Nat, Fgt ρ (wipeR ρ vs)
  | [] => Fgt.refl
  | v :: vs => by
    obtain ⟨l, f⟩ := fgt_wipe (ρ := ρ) vs
    obtain ⟨l2, f2⟩ := fgt_set (ρ := wipeR ρ vs) (i := v)
    refine ⟨l2.trans l, fun i s h => ?_⟩
    rcases f2 i s h with e | e
    · exact .inl e
    · exact f i s e
theorem ws_wipe {K : PySem.W.Frag} {S : Stt} {ρ : Rho} {ts : TS} {En : DE} (vs : List Nat) (h : WS K S ts (wipeR ρ vs) En) : WS K S ts ρ En := ws_fgt (fgt_wipe vs) h
local macro_rules | `(tactic| walk_at "dl") => `(tactic| repeat' (first
  | with_reducible refine wd_isTy ?_ | with_reducible refine wd_isi ?_ | ((with_reducible show WD _ _ (tOp (rIxL _) (tVar _) _) _ _); refine wd_ix_own rfl ?_) | with_reducible refine wd_op ?_ | ((with_reducible show WD _ _ (tCB (rLenX _) (tCons (tVar _) tNil)) _ _); refine wd_len_scr rfl ?_) | ((with_reducible show WD _ _ (tCB (rLenX _) (tCons (tVar _) tNil)) _ _); refine wd_len_own rfl ?_) | with_reducible refine wd_cb ?_ | with_reducible refine wd_un ?_ | with_reducible refine wa_cons ?_ | with_reducible refine wa_nil ?_ | ((with_reducible show WD _ _ (tVar _) _ _); refine wd_var rfl ?_) | with_reducible refine wd_int ?_ | with_reducible refine wd_bl ?_ | with_reducible refine wd_str ?_ | with_reducible refine wd_non ?_
  | with_reducible refine do_nesS ?_ | with_reducible refine dc_intB ?_ | with_reducible refine do_add ?_ | with_reducible refine do_sub ?_ | ((with_reducible refine do_mod ?_ ?_); decide) | with_reducible refine do_mod ?_ ?_ | with_reducible refine do_mul ?_ ?_ | ((with_reducible refine do_div ?_ ?_); exact ⟨by decide, by decide⟩) | with_reducible refine do_div ?_ ?_ | ((with_reducible refine do_pow ?_ ?_); exact ⟨by decide, by decide, by decide⟩) | with_reducible refine do_pow ?_ ?_
  | with_reducible refine do_lt ?_ | with_reducible refine do_le ?_ | with_reducible refine do_gt ?_ | with_reducible refine do_ge ?_ | with_reducible refine du_neg ?_
  | with_reducible refine do_eqi ?_ | with_reducible refine do_nei ?_ | with_reducible refine do_eqs ?_ | with_reducible refine do_nes ?_ | with_reducible refine dc_abs ?_ | with_reducible refine dc_min ?_ | with_reducible refine dc_max ?_ | with_reducible refine dc_lenL ?_ | with_reducible refine dc_lenT ?_ | with_reducible refine dc_lenR ?_ | with_reducible refine dc_listT ?_ | with_reducible refine dc_listL ?_ | with_reducible refine dc_tupL ?_ | with_reducible refine dc_gcd ?_
  | ((with_reducible show DO _ (rIxT _) _ _ _); refine do_ixT rfl ?_) | ((with_reducible show DO _ (rIxL _) _ _ _); refine do_ixL rfl ?_) | ((with_reducible refine do_catL ?_ ?_); exact Nat.le_of_ble_eq_true rfl) | with_reducible refine do_catL ?_ ?_ | ((with_reducible show And (List.length _ ≤ sizeLine) _); refine ⟨Nat.le_of_ble_eq_true rfl, ?_⟩)
  | with_reducible refine wd_dnew ?_ | with_reducible refine wd_call0 ?_ | with_reducible refine wd_slA ?_ | with_reducible refine wd_slL ?_ | with_reducible refine wd_revT ?_ | with_reducible refine do_catA ?_ ?_ | with_reducible refine wo_part ?_ | with_reducible refine wo_none ?_ | with_reducible refine do_eqQ ?_ | with_reducible refine do_neQ ?_ | with_reducible refine wi_enumT ?_ | with_reducible refine wi_enumD ?_ | with_reducible refine tAdQ (by omega) (by omega) ?_ | with_reducible refine tSbQ (by omega) (by omega) ?_ | with_reducible refine tMlQ (by omega) (by omega) ?_ | with_reducible refine tDvQ (by assumption) (by omega) (by omega) ?_ | with_reducible refine tLtQ (by omega) (by omega) ?_ | with_reducible refine dc_str ?_ ?_ | with_reducible refine wd_tup ?_ | with_reducible refine wd_lst ?_ | with_reducible refine wt_test ?_ | with_reducible refine wt_B ?_ | with_reducible refine wt_not ?_ | with_reducible refine wt_and ?_ | with_reducible refine wt_or ?_ | with_reducible refine wd_ifE ?_ | with_reducible refine wd_andV ?_ | with_reducible refine wd_orV ?_ | with_reducible refine wd_notV ?_
  | with_reducible refine ws_seq ?_ | with_reducible refine ws_next ?_ | with_reducible refine ws_asg ?_ | with_reducible refine ws_ret ?_ | with_reducible refine ws_retN ?_ | with_reducible refine ws_if ?_ | with_reducible refine ws_par ?_ | with_reducible refine ws_unp2 ?_
  | with_reducible refine if_t ?_ | with_reducible refine if_f ?_ | with_reducible refine if_nf ?_ | with_reducible refine if_nt ?_
  | ((with_reducible show Exists _); first | refine ⟨_, kitInt _, ?_⟩ | refine ⟨_, kitBool _, ?_⟩ | refine ⟨_, kitTup _, ?_⟩ | refine ⟨_, kitList _, ?_⟩ | refine ⟨_, rfl, ?_⟩ | refine ⟨_, _, rfl, ?_⟩ | fail) | fail))
def t_smallq (K : PySem.W.Frag) : TS :=
  (tSeq (tAsg (tCall (spS K FSto TDr) [] E0 (tCons (tVar 0) (tCons (tC (.int 6)) tNil))) (gName 1))
    (tSeq (tAsg (tOp (rIxL K) (tLst (tCons (tC (.int 1)) (tCons (tC (.int 1)) (tCons (tC (.int 2)) (tCons (tC (.int 3)) (tCons (tC (.int 4)) (tCons (tC (.int 12)) (tCons (tC (.int 97)) (tCons (tC (.int 101)) (tCons (tC (.int 997)) (tCons (tC (.int 1000)) (tCons (tOp rAddI (tC (.int 1)) (tCall (spS K FSto TDr) [] E0 (tCons (tVar 0) (tCons (tC (.int 1000)) tNil)))) tNil)))))))))))) (tCall (spS K FSto TDr) [] E0 (tCons (tVar 0) (tCons (tC (.int 11)) tNil)))) (gName 2))
    (tSeq (tAsg (tLst (tCons (tC (.int 0)) (tCons (tC (.int 1)) (tCons (tOp rAddI (tC (.int 1)) (tCall (spS K FSto TDr) [] E0 (tCons (tVar 0) (tCons (tC (.int 9)) tNil)))) (tCons (tCall (spS K FSto TDr) [] E0 (tCons (tVar 0) (tCons (tC (.int 1000)) tNil))) (tCons (tOp rSubI (tOp rPowI (tC (.int 10)) (tC (.int 6))) (tCall (spS K FSto TDr) [] E0 (tCons (tVar 0) (tCons (tC (.int 3)) tNil)))) tNil)))))) (gName 3))
    (tSeq (tAsg (tOp (rIxL K) (tOp rCatL (tVar 3) (tLst (tCons (tCall (spS K FSto TDr) [] E0 (tCons (tVar 0) (tCons (tOp rPowI (tC (.int 10)) (tC (.int 6))) tNil))) tNil))) (tVar 1)) (gName 3))
    (tRet (tCall (spP K TLow) [] E0 (tCons (tOp rMulI (tVar 3) (tOp (rIxL K) (tLst (tCons (tC (.int 1)) (tCons (tUn rNegI (tC (.int 1))) tNil))) (tCall (spS K FSto TDr) [] E0 (tCons (tVar 0) (tCons (tC (.int 2)) tNil))))) (tCons (tVar 2) tNil))))))))
def t_shareq (K : PySem.W.Frag) : TS :=
  (tSeq (tAsg (tOp (rIxL K) (tLst (tCons (tC (.int 1)) (tCons (tC (.int 2)) (tCons (tC (.int 3)) (tCons (tC (.int 10)) (tCons (tC (.int 97)) (tCons (tC (.int 997)) (tCons (tOp rAddI (tC (.int 1)) (tCall (spS K FSto TDr) [] E0 (tCons (tVar 0) (tCons (tC (.int 1000)) tNil)))) tNil)))))))) (tCall (spS K FSto TDr) [] E0 (tCons (tVar 0) (tCons (tC (.int 7)) tNil)))) (gName 1))
    (tRet (tCall (spP K TLow) [] E0 (tCons (tOp rSubI (tVar 1) (tOp rMulI (tCall (spS K FSto TDr) [] E0 (tCons (tVar 0) (tCons (tVar 1) tNil))) (tCall (spS K FSto TDr) [] E0 (tCons (tVar 0) (tCons (tC (.int 2)) tNil))))) (tCons (tVar 1) tNil)))))
def t_totals (K : PySem.W.Frag) : TS :=
  (tSeq (tAsg (tCall (spS K FSto TDr) [] E0 (tCons (tVar 0) (tCons (tC (.int 6)) tNil))) (gName 2))
    (tSeq (tAsg (tOp (rIxL K) (tLst (tCons (tC (.int 3)) (tCons (tC (.int 8)) (tCons (tVar 1) tNil)))) (tCall (spS K FSto TDr) [] E0 (tCons (tVar 0) (tCons (tC (.int 3)) tNil)))) (gName 3))
    (tSeq (tAsg (tCall (spP K TMlQ) [] E0 (tCons (tCall (spP K TMlQ) [] E0 (tCons (tTup (tCons (tC (.int 1)) (tCons (tC (.int 997)) tNil))) (tCons (tTup (tCons (tC (.int 1)) (tCons (tC (.int 1000)) tNil))) tNil))) (tCons (tTup (tCons (tC (.int 1)) (tCons (tC (.int 991)) tNil))) tNil))) (gName 4))
    (tSeq (tFor (iRng1 (tCons (tCall (spS K FSto TDr) [] E0 (tCons (tVar 0) (tCons (tC (.int 3)) tNil))) tNil)) (gName 5) (tAsg (tCall (spP K TMlQ) [] E0 (tCons (tVar 4) (tCons (tVar 4) tNil))) (gName 4)))
    (tSeq (tAsg (tOp (rIxL K) (tLst (tCons (tC (.int 1)) (tCons (tC (.int 1)) (tCons (tC (.int 2)) (tCons (tC (.int 3)) (tCons (tC (.int 12)) (tCons (tC (.int 97)) (tCons (tC (.int 1000)) tNil)))))))) (tCall (spS K FSto TDr) [] E0 (tCons (tVar 0) (tCons (tC (.int 7)) tNil)))) (gName 6))
    (tSeq (tAsg (tLst tNil) (gName 7))
    (tSeq (tAsg (tOp rSubI (tCall (spS K FSto TDr) [] E0 (tCons (tVar 0) (tCons (tC (.int 2000)) tNil))) (tC (.int 1000))) (gName 8))
    (tSeq (tFor (iRng1 (tCons (tCall (spS K FSto TDr) [] E0 (tCons (tVar 0) (tCons (tOp rAddI (tVar 3) (tC (.int 1))) tNil))) tNil)) (gName 9) (tSeq (tAsg (tCall (spS K FSto TDr) [] E0 (tCons (tVar 0) (tCons (tOp (rIxL K) (tLst (tCons (tC (.int 3)) (tCons (tC (.int 50)) (tCons (tC (.int 20000)) tNil)))) (tCall (spS K FSto TDr) [] E0 (tCons (tVar 0) (tCons (tC (.int 3)) tNil)))) tNil))) (gName 10))
    (tSeq (tAsg (tOp rAddI (tVar 8) (tOp (rIxL K) (tLst (tCons (tOp rSubI (tVar 10) (tC (.int 10))) (tCons (tVar 10) (tCons (tOp rSubI (tC (.int 0)) (tVar 10)) (tCons (tOp rMulI (tVar 10) (tOp rSubI (tC (.int 1)) (tOp rMulI (tC (.int 2)) (tOp rModI (tVar 9) (tC (.int 2)))))) (tCons (tC (.int 0)) (tCons (tVar 10) tNil))))))) (tVar 2))) (gName 8))
    (tSeq (tAsg (tCB rMaxX (tCons (tUn rNegI (tOp rPowI (tC (.int 10)) (tC (.int 6)))) (tCons (tCB rMinX (tCons (tOp rPowI (tC (.int 10)) (tC (.int 6))) (tCons (tVar 8) tNil))) tNil))) (gName 8))
    (tSeq (tAsg (tCall (spP K TLow) [] E0 (tCons (tVar 8) (tCons (tVar 6) tNil))) (gName 11))
    (tSeq (tIfS (tAnd (tTest (tOp rEq (tVar 2) (tC (.int 0)))) (tTest (tOp rEq (tCall (spS K FSto TDr) [] E0 (tCons (tVar 0) (tCons (tC (.int 3)) tNil))) (tC (.int 0))))) (tAsg (tCall (spS K FSto TSmallQ) [] E0 (tCons (tVar 0) tNil)) (gName 11)) tNext)
    (tSeq (tIfS (tTest (tOp rEq (tVar 2) (tC (.int 5)))) (tAsg (tTup (tCons (tOp rSubI (tC (.int 0)) (tCB rAbsX (tCons (tOp (rIxT K) (tVar 11) (tC (.int 0))) tNil))) (tCons (tOp (rIxT K) (tVar 11) (tC (.int 1))) tNil))) (gName 11)) tNext)
    (tSeq (tIfS (tTest (tOp rEq (tCall (spS K FSto TDr) [] E0 (tCons (tVar 0) (tCons (tC (.int 4)) tNil))) (tC (.int 0)))) (tAsg (tCall (spP K TAdQ) [] E0 (tCons (tVar 11) (tCons (tCall (spP K TMlQ) [] E0 (tCons (tVar 4) (tCons (tTup (tCons (tOp rSubI (tCall (spS K FSto TDr) [] E0 (tCons (tVar 0) (tCons (tC (.int 9)) tNil))) (tC (.int 4))) (tCons (tC (.int 1)) tNil))) tNil))) tNil))) (gName 11)) tNext)
    (tDrop (tBM K "list" rAppend (tVar 7) (tCons (tVar 11) tNil)))))))))))
    (tRet (tVar 7))))))))))
def t_tot3 (K : PySem.W.Frag) : TS :=
  (tSeq (tIfS (tTest (tOp rEq (tCall (spS K FSto TDr) [] E0 (tCons (tVar 0) (tCons (tC (.int 4)) tNil))) (tC (.int 0)))) (tAsg (tCall (spP K TAdQ) [] E0 (tCons (tVar 11) (tCons (tCall (spP K TMlQ) [] E0 (tCons (tVar 4) (tCons (tTup (tCons (tOp rSubI (tCall (spS K FSto TDr) [] E0 (tCons (tVar 0) (tCons (tC (.int 9)) tNil))) (tC (.int 4))) (tCons (tC (.int 1)) tNil))) tNil))) tNil))) (gName 11)) tNext)
    (tDrop (tBM K "list" rAppend (tVar 7) (tCons (tVar 11) tNil))))
def t_tot2 (K : PySem.W.Frag) : TS :=
  (tSeq (tIfS (tTest (tOp rEq (tVar 2) (tC (.int 5)))) (tAsg (tTup (tCons (tOp rSubI (tC (.int 0)) (tCB rAbsX (tCons (tOp (rIxT K) (tVar 11) (tC (.int 0))) tNil))) (tCons (tOp (rIxT K) (tVar 11) (tC (.int 1))) tNil))) (gName 11)) tNext)
    (tSeq (tIfS (tTest (tOp rEq (tCall (spS K FSto TDr) [] E0 (tCons (tVar 0) (tCons (tC (.int 4)) tNil))) (tC (.int 0)))) (tAsg (tCall (spP K TAdQ) [] E0 (tCons (tVar 11) (tCons (tCall (spP K TMlQ) [] E0 (tCons (tVar 4) (tCons (tTup (tCons (tOp rSubI (tCall (spS K FSto TDr) [] E0 (tCons (tVar 0) (tCons (tC (.int 9)) tNil))) (tC (.int 4))) (tCons (tC (.int 1)) tNil))) tNil))) tNil))) (gName 11)) tNext)
    (tDrop (tBM K "list" rAppend (tVar 7) (tCons (tVar 11) tNil)))))
def t_tot1 (K : PySem.W.Frag) : TS :=
  (tSeq (tIfS (tAnd (tTest (tOp rEq (tVar 2) (tC (.int 0)))) (tTest (tOp rEq (tCall (spS K FSto TDr) [] E0 (tCons (tVar 0) (tCons (tC (.int 3)) tNil))) (tC (.int 0))))) (tAsg (tCall (spS K FSto TSmallQ) [] E0 (tCons (tVar 0) tNil)) (gName 11)) tNext)
    (tSeq (tIfS (tTest (tOp rEq (tVar 2) (tC (.int 5)))) (tAsg (tTup (tCons (tOp rSubI (tC (.int 0)) (tCB rAbsX (tCons (tOp (rIxT K) (tVar 11) (tC (.int 0))) tNil))) (tCons (tOp (rIxT K) (tVar 11) (tC (.int 1))) tNil))) (gName 11)) tNext)
    (tSeq (tIfS (tTest (tOp rEq (tCall (spS K FSto TDr) [] E0 (tCons (tVar 0) (tCons (tC (.int 4)) tNil))) (tC (.int 0)))) (tAsg (tCall (spP K TAdQ) [] E0 (tCons (tVar 11) (tCons (tCall (spP K TMlQ) [] E0 (tCons (tVar 4) (tCons (tTup (tCons (tOp rSubI (tCall (spS K FSto TDr) [] E0 (tCons (tVar 0) (tCons (tC (.int 9)) tNil))) (tC (.int 4))) (tCons (tC (.int 1)) tNil))) tNil))) tNil))) (gName 11)) tNext)
    (tDrop (tBM K "list" rAppend (tVar 7) (tCons (tVar 11) tNil))))))
section
variable {K : PySem.W.Frag} {S : Stt}
end
end DL

set_option Elab.async false
set_option linter.all false
set_option maxRecDepth 100000
set_option maxHeartbeats 4000000
/-! PQ2: payments -/
namespace DL
open PySem PySem.Spec PyProof.Rows L2
def p3D (x : P3) : PyData := .tuple [qp x.1, qp x.2.1, qp x.2.2]
/-- paid in whole pence -/
def w3D (x : P3) (paid : Rat) : PyData := .tuple [.int (x.2.1.floor - paid.floor), .int x.2.1.floor, qp x.2.2]
def wRwF (sh : Rat) : P3 → List Rat → List PyData
  | _, [] => []
  | s, t :: r => w3D (prow sh s t) s.2.1 :: wRwF sh (pstep sh s t) r
def wRw (sh : Rat) (ts : List Rat) : List PyData := wRwF sh (0, 0, 0) ts
def payD (w : Bool) (sh : Rat) (ts : List Rat) : List PyData := if w then wRw sh ts else (pRw sh ts).map p3D
theorem le0 {q : Rat} : q.num ≤ 0 ↔ q ≤ 0 := by
  rw [Rat.le_iff]
  show q.num ≤ 0 ↔ q.num * 1 ≤ 0 * _
  omega
def TRows : List PyData → (PyData → Prop) → Prop := fun ds Φ => ∃ (ts : List Rat) (sh : Rat) (R : Nat), ds = [.list (ts.map qp), qp sh] ∧ ShOk R sh ∧ ts.length ≤ 130 ∧ (∀ t ∈ ts, Tot t) ∧ Φ (.tuple ((pRw sh ts).map p3D))
def TLeastQ : List PyData → (PyData → Prop) → Prop := fun ds Φ => ∃ (p q : Rat), ds = [.tuple [qp p, qp q], .none] ∧ sz p ≤ 3800 ∧ sz q ≤ 3800 ∧ Φ (qp (if q < p then q else p))
def TFloorQ : List PyData → (PyData → Prop) → Prop := fun ds Φ => ∃ (p : Rat), ds = [qp p] ∧ sz p ≤ 3800 ∧ Φ (.int p.floor)
def TKept : List PyData → (PyData → Prop) → Prop := fun ds Φ => ∃ (n d sh : Rat), ds = [qp n, qp d, qp sh] ∧ sz sh ≤ 3800 ∧ sz n ≤ 3800 ∧ sz d ≤ 3800 ∧ sz (sh * n) ≤ 3800 ∧ Φ (qp (keptR sh n d))
def TPays : List PyData → (PyData → Prop) → Prop := fun ds Φ => ∃ (b w : Bool) (ts : List Rat) (sh : Rat) (R : Nat), ds = [rowD b (ts.map qp), qp sh, .bool w] ∧ ShOk R sh ∧ ts.length ≤ 130 ∧ (∀ t ∈ ts, Tot t) ∧ Φ (.tuple (payD w sh ts))
local macro_rules | `(tactic| walk_at "dl") => `(tactic| repeat' (first
  | with_reducible refine wd_isTy ?_ | with_reducible refine wd_isi ?_ | ((with_reducible show WD _ _ (tOp (rIxL _) (tVar _) _) _ _); refine wd_ix_own rfl ?_) | with_reducible refine wd_op ?_ | ((with_reducible show WD _ _ (tCB (rLenX _) (tCons (tVar _) tNil)) _ _); refine wd_len_scr rfl ?_) | ((with_reducible show WD _ _ (tCB (rLenX _) (tCons (tVar _) tNil)) _ _); refine wd_len_own rfl ?_) | with_reducible refine wd_cb ?_ | with_reducible refine wd_un ?_ | with_reducible refine wa_cons ?_ | with_reducible refine wa_nil ?_ | ((with_reducible show WD _ _ (tVar _) _ _); refine wd_var rfl ?_) | with_reducible refine wd_int ?_ | with_reducible refine wd_bl ?_ | with_reducible refine wd_str ?_ | with_reducible refine wd_non ?_
  | with_reducible refine do_nesS ?_ | with_reducible refine dc_intB ?_ | with_reducible refine do_add ?_ | with_reducible refine do_sub ?_ | ((with_reducible refine do_mod ?_ ?_); decide) | with_reducible refine do_mod ?_ ?_ | with_reducible refine do_mul ?_ ?_ | ((with_reducible refine do_div ?_ ?_); exact ⟨by decide, by decide⟩) | with_reducible refine do_div ?_ ?_ | ((with_reducible refine do_pow ?_ ?_); exact ⟨by decide, by decide, by decide⟩) | with_reducible refine do_pow ?_ ?_
  | with_reducible refine do_lt ?_ | with_reducible refine do_le ?_ | with_reducible refine do_gt ?_ | with_reducible refine do_ge ?_ | with_reducible refine du_neg ?_
  | with_reducible refine do_eqi ?_ | with_reducible refine do_nei ?_ | with_reducible refine do_eqs ?_ | with_reducible refine do_nes ?_ | with_reducible refine dc_abs ?_ | with_reducible refine dc_min ?_ | with_reducible refine dc_max ?_ | with_reducible refine dc_lenL ?_ | with_reducible refine dc_lenT ?_ | with_reducible refine dc_lenR ?_ | with_reducible refine dc_listT ?_ | with_reducible refine dc_listL ?_ | with_reducible refine dc_tupL ?_ | with_reducible refine dc_gcd ?_
  | ((with_reducible show DO _ (rIxT _) _ _ _); refine do_ixT rfl ?_) | ((with_reducible show DO _ (rIxL _) _ _ _); refine do_ixL rfl ?_) | ((with_reducible refine do_catL ?_ ?_); exact Nat.le_of_ble_eq_true rfl) | with_reducible refine do_catL ?_ ?_ | ((with_reducible show And (List.length _ ≤ sizeLine) _); refine ⟨Nat.le_of_ble_eq_true rfl, ?_⟩)
  | with_reducible refine wd_dnew ?_ | with_reducible refine wd_call0 ?_ | with_reducible refine wd_slA ?_ | with_reducible refine wd_slL ?_ | with_reducible refine wd_revT ?_ | with_reducible refine do_catA ?_ ?_ | with_reducible refine wo_part ?_ | with_reducible refine wo_none ?_ | with_reducible refine do_eqQ ?_ | with_reducible refine do_neQ ?_ | with_reducible refine wi_enumT ?_ | with_reducible refine wi_enumD ?_ | with_reducible refine tAdQ (by omega) (by omega) ?_ | with_reducible refine tSbQ (by omega) (by omega) ?_ | with_reducible refine tMlQ (by omega) (by omega) ?_ | with_reducible refine tDvQ (by assumption) (by omega) (by omega) ?_ | with_reducible refine tLtQ (by omega) (by omega) ?_ | with_reducible refine dc_str ?_ ?_ | with_reducible refine wd_tup ?_ | with_reducible refine wd_lst ?_ | with_reducible refine wt_test ?_ | with_reducible refine wt_B ?_ | with_reducible refine wt_not ?_ | with_reducible refine wt_and ?_ | with_reducible refine wt_or ?_ | with_reducible refine wd_ifE ?_ | with_reducible refine wd_andV ?_ | with_reducible refine wd_orV ?_ | with_reducible refine wd_notV ?_
  | with_reducible refine ws_seq ?_ | with_reducible refine ws_next ?_ | with_reducible refine ws_asg ?_ | with_reducible refine ws_ret ?_ | with_reducible refine ws_retN ?_ | with_reducible refine ws_if ?_ | with_reducible refine ws_par ?_ | with_reducible refine ws_unp2 ?_
  | with_reducible refine if_t ?_ | with_reducible refine if_f ?_ | with_reducible refine if_nf ?_ | with_reducible refine if_nt ?_
  | ((with_reducible show Exists _); first | refine ⟨_, kitInt _, ?_⟩ | refine ⟨_, kitBool _, ?_⟩ | refine ⟨_, kitTup _, ?_⟩ | refine ⟨_, kitList _, ?_⟩ | refine ⟨_, rfl, ?_⟩ | refine ⟨_, _, rfl, ?_⟩ | fail) | fail))
def t_rows (K : PySem.W.Frag) : TS :=
  (tSeq (tAsg (tLst tNil) (gName 2))
    (tSeq (tAsg (tTup (tCons (tTup (tCons (tC (.int 0)) (tCons (tC (.int 1)) tNil))) (tCons (tTup (tCons (tC (.int 0)) (tCons (tC (.int 1)) tNil))) (tCons (tTup (tCons (tC (.int 0)) (tCons (tC (.int 1)) tNil))) tNil)))) (gTup K 3 (gCons (gName 3) (gCons (gName 4) (gCons (gName 5) gNil)))))
    (tSeq (tFor (iList K (tVar 0)) (gName 6) (tSeq (tAsg (tCall (spP K TSbQ) [] E0 (tCons (tVar 6) (tCons (tVar 3) tNil))) (gName 7))
    (tSeq (tAsg (tTup (tCons (tC (.int 0)) (tCons (tC (.int 1)) tNil))) (gName 8))
    (tSeq (tIfS (tTest (tOp rLe (tOp (rIxT K) (tVar 7) (tC (.int 0))) (tC (.int 0)))) (tAsg (tCall (spP K TSbQ) [] E0 (tCons (tVar 5) (tCons (tVar 7) tNil))) (gName 5)) (tSeq (tAsg (tCall (spP K TMlQ) [] E0 (tCons (tVar 1) (tCons (tVar 7) tNil))) (gName 9))
    (tSeq (tAsg (tIf (tB (tCall (spP K TLtQ) [] E0 (tCons (tVar 5) (tCons (tVar 9) tNil)))) (tVar 5) (tVar 9)) (gName 9))
    (tSeq (tAsg (tCall (spP K TSbQ) [] E0 (tCons (tVar 7) (tCons (tVar 9) tNil))) (gName 8))
    (tAsg (tCall (spP K TSbQ) [] E0 (tCons (tVar 5) (tCons (tVar 9) tNil))) (gName 5))))))
    (tSeq (tAsg (tCall (spP K TAdQ) [] E0 (tCons (tVar 4) (tCons (tVar 8) tNil))) (gName 4))
    (tSeq (tAsg (tVar 6) (gName 3))
    (tDrop (tBM K "list" rAppend (tVar 2) (tCons (tTup (tCons (tVar 8) (tCons (tVar 4) (tCons (tVar 5) tNil)))) tNil)))))))))
    (tRet (tCB (rTupOf K) (tCons (tVar 2) tNil))))))
def t_rowsT (K : PySem.W.Frag) : TS :=
  (tSeq (tAsg (tCall (spP K TAdQ) [] E0 (tCons (tVar 4) (tCons (tVar 8) tNil))) (gName 4))
    (tSeq (tAsg (tVar 6) (gName 3))
    (tDrop (tBM K "list" rAppend (tVar 2) (tCons (tTup (tCons (tVar 8) (tCons (tVar 4) (tCons (tVar 5) tNil)))) tNil)))))
def t_paysT (K : PySem.W.Frag) : TS :=
  (tIfS (tB (tVar 2)) (tDrop (tBM K "list" rAppend (tVar 3) (tCons (tTup (tCons (tOp rSubI (tCall (spP K TFloorQ) [] E0 (tCons (tVar 5) tNil)) (tCall (spP K TFloorQ) [] E0 (tCons (tVar 11) tNil))) (tCons (tCall (spP K TFloorQ) [] E0 (tCons (tVar 5) tNil)) (tCons (tVar 6) tNil)))) tNil))) (tDrop (tBM K "list" rAppend (tVar 3) (tCons (tTup (tCons (tVar 10) (tCons (tVar 5) (tCons (tVar 6) tNil)))) tNil))))
def t_leastq (K : PySem.W.Frag) : TS :=
  (tSeq (tIfS (tNot (tTru K (tVar 0))) (tRet (tVar 1)) tNext)
    (tSeq (tAsg (tOp (rIxT K) (tVar 0) (tC (.int 0))) (gName 2))
    (tSeq (tFor (iTup K (tVar 0)) (gName 3) (tIfS (tB (tCall (spP K TLtQ) [] E0 (tCons (tVar 3) (tCons (tVar 2) tNil)))) (tAsg (tVar 3) (gName 2)) tNext))
    (tRet (tVar 2)))))
def t_floorq (K : PySem.W.Frag) : TS :=
  (tRet (tOp rDivI (tOp (rIxT K) (tVar 0) (tC (.int 0))) (tOp (rIxT K) (tVar 0) (tC (.int 1)))))
def t_kept (K : PySem.W.Frag) : TS :=
  (tSeq (tIfS (tTest (tOp rLe (tOp (rIxT K) (tVar 0) (tC (.int 0))) (tC (.int 0)))) (tRet (tVar 0)) tNext)
    (tRet (tCall (spP K TLeastQ) [.non] E0 (tCons (tTup (tCons (tVar 1) (tCons (tCall (spP K TMlQ) [] E0 (tCons (tVar 2) (tCons (tVar 0) tNil))) tNil))) tNil))))
def t_pays (K : PySem.W.Frag) (a_ONE a_NOUGHT : Addr) : TS :=
  (tSeq (tIfS (tNot (tAnd (tB (tCall (spP K TPartB) [] E0 (tCons (tVar 1) tNil))) (tAnd (tTest (tOp rGt (tOp (rIxT K) (tVar 1) (tC (.int 0))) (tC (.int 0)))) (tNot (tB (tCall (spP K TLtQ) [] E0 (tCons (tC (.ref a_ONE)) (tCons (tVar 1) tNil)))))))) tNo tNext)
    (tSeq (tAsg (tLst tNil) (gName 3))
    (tSeq (tAsg3 (tC (.ref a_NOUGHT)) (gName 4) (gName 5) (gName 6))
    (tSeq (tFor (iRow K (tVar 0)) (gName 7) (tSeq (tAsg (tCall (spP K TSbQ) [] E0 (tCons (tVar 7) (tCons (tVar 4) tNil))) (gName 8))
    (tSeq (tAsg (tCall (spP K TKept) [] E0 (tCons (tVar 8) (tCons (tVar 6) (tCons (tVar 1) tNil)))) (gName 9))
    (tSeq (tAsg (tCall (spP K TSbQ) [] E0 (tCons (tVar 8) (tCons (tVar 9) tNil))) (gName 10))
    (tSeq (tAsg (tVar 5) (gName 11))
    (tSeq (tPar3 4 5 6 (tCons (tVar 7) (tCons (tCall (spP K TAdQ) [] E0 (tCons (tVar 5) (tCons (tVar 10) tNil))) (tCons (tCall (spP K TSbQ) [] E0 (tCons (tVar 6) (tCons (tVar 9) tNil))) tNil))))
    (tIfS (tB (tVar 2)) (tDrop (tBM K "list" rAppend (tVar 3) (tCons (tTup (tCons (tOp rSubI (tCall (spP K TFloorQ) [] E0 (tCons (tVar 5) tNil)) (tCall (spP K TFloorQ) [] E0 (tCons (tVar 11) tNil))) (tCons (tCall (spP K TFloorQ) [] E0 (tCons (tVar 5) tNil)) (tCons (tVar 6) tNil)))) tNil))) (tDrop (tBM K "list" rAppend (tVar 3) (tCons (tTup (tCons (tVar 10) (tCons (tVar 5) (tCons (tVar 6) tNil)))) tNil))))))))))
    (tRet (tCB (rTupOf K) (tCons (tVar 3) tNil)))))))
section
variable {K : PySem.W.Frag} {S : Stt} {ρ : Rho} {ds : List PyData} {Φ : PyData → Prop}
theorem wi_rowD {t : TE} {Θ : List PyData → Rho → Prop} (h : ∃ b, WD K S t ρ fun d ρ1 => ∃ ds, d = rowD b ds ∧ Θ ds ρ1) : WI K S (iRow K t) ρ Θ := by
  obtain ⟨b, h⟩ := h
  cases b
  · exact wi_rowT (wi_tup h)
  · exact wi_rowL (wi_list h)
end
end DL

set_option Elab.async false
set_option linter.all false
set_option maxRecDepth 100000
set_option maxHeartbeats 4000000
/-! ER1: errors of one's own classes over any of Python's, with an __init__ of their own -/
namespace DL
open PySem PySem.Spec PySem.Calls PySem.HandSPX PyProof.Rows L2
open Builtin Builtin.ObjectAttr
/-- what is known of a built-in __init__ of errors -/
structure IniF (B ini : String) : Prop where
  slot : Slot B "__init__" ini
  entry : entryFor table ini = some Builtin.«BaseException.__init__»
  split : splitId ini = some (B, "__init__")
  kind : builtinKind ini = some .slot
  row : Manifest.signature? ini = some ⟨.positional, "*", B, .self, [⟨"args", .varPos, false⟩]⟩
  star : (B != "*") = true
/-- the classes above -/
structure Abv (up : List Value) (N B : String) : Prop where
  n : up.contains (.type N) = true
  b : up.contains (.type B) = true
  a : up.contains (.type "AttributeError") = false
  m : up.contains (.type "NameError") = false
section
variable {M : Model} {A : Around} {E : Value → Shared → Prop} {h : Heap} {g : Array GenState} {dr : Drawn} {t : Nat} {os : OsState}
variable {nm qn : Str} {C Ns : Addr} {bs up l : List Value} {hd : Bool} {sn : List Str} {sb : List Value} {ab : Bool} {co : Option Bool} {dd : Option Addr} {k0 k1 k2 k3 k5 : Option Value} {N B new i ini : String}
end
section
variable {prog : Program} {w : World} {A : Around} {E : Value → Shared → Prop} {R : Result → Shared → Prop} {h : Heap} {g : Array GenState} {dr : Drawn} {t : Nat} {os : OsState}
variable {nm qn : Str} {C Ns : Addr} {bs up l : List Value} {hd : Bool} {sn : List Str} {sb : List Value} {ab : Bool} {co : Option Bool} {dd : Option Addr} {k0 k1 k2 k3 k5 : Option Value} {N B new i ini : String}
end
end DL

set_option Elab.async false
set_option linter.all false
set_option maxRecDepth 100000
set_option maxHeartbeats 4000000
/-! ER2: an error's first field; making it; raising it -/
namespace DL
open PySem PySem.Spec PySem.Calls PySem.HandSPX PyProof.Rows L2
open Builtin Builtin.ObjectAttr
section
variable {prog : Program} {w : World} {A : Around} {R : Result → Shared → Prop} {hp : Heap} {g : Array GenState} {dr : Drawn} {t : Nat} {os : OsState}
end
/-- a class of errors of one's own with an __init__: what lies above it, who makes, who begins -/
structure OwnE (K : PySem.W.Frag) (C : Addr) (N B new ini : String) (i : String) (l : List Value) : Prop where
  G : ExcBaseFacts N new i l
  J : IniF B ini
  cls : ∃ nm qn Ns bs up sn sb ab co dd k0 k1 k2 k3 k5, K.lookup C = some (excClassObj nm qn C Ns bs up true sn sb ab co dd k0 k1 k2 k3 k5 new) ∧ Abv up N B ∧ up.contains (.type "object") = true ∧ ∀ z, refuseLoop z "__setattr__" (.ref C :: up) = pure ()
  sa : PySem.W.findIn K (.ref C) "__setattr__" = some (some (.builtin "object.__setattr__"))
  ex : PySem.W.subIn K (.ref C) (.type "BaseException") = some true
  ty : PySem.W.typeIn K (.ref C) = some (.type "type")
  kp : PySem.W.keepIn K (.ref C) = true
section
variable {X : Cx} {pins : List (Addr × Obj)} {σ : L2.St} {H : Hp} {s : Shared} {a C dx : Addr} {f : Str} {y : V} {u : Value} {N B new ini i : String} {l : List Value}
end
/-- self.f = e, the one field -/
def tStoE (K : PySem.W.Frag) (ok : Addr → Prop) (f : Str) (to te : TE) : TS := fun D σ H => te σ H fun y H1 => to σ H1 fun x H2 => ∃ a C : Addr, x = .ref a ∧ ok C ∧ H2 a = some (exo a C none) ∧
  ∀ dx, H2 dx = none → dx ≠ a → D.nx σ (upd (upd H2 dx (exd dx [(f, y)])) a (exo a C (some dx)))
/-- B.__init__(self, ..) -/
def tIniE (ok : Addr → Prop) (ta : TA) : TE := fun σ H Q => ta σ H fun vs H1 => ∃ (a C : Addr) (ws : List V), vs = .ref a :: ws ∧ ws.length ≤ 1000 ∧ ok C ∧ H1 a = some (exo a C none) ∧ Q .non H1
section
variable {X : Cx} {o e : Expr} {es : List Expr} {to te : TE} {ta : TA} {f x : Str} {p p' p1 p2 pos : Pos} {N B new ini i : String} {l : List Value} {ok : Addr → Prop}
end
/-- C(e, ..), an error of one's own that keeps sp -/
def tMkE (C : Addr) (sp : Sp) (ta : TA) : L2.St → Hp → XK → Prop := fun σ H Q => ta σ H fun vs H1 => vs.length ≤ 1000 ∧ ∀ a, H1 a = none → sp (.ref a :: vs) (upd H1 a (exo a C none))
  (fun v H2 => v = .non ∧ ∃ (d : Addr) (fs : List (Str × V)), H2 a = some (exo a C (some d)) ∧ H2 d = some (exd d fs) ∧ H1 d = none ∧ Q (.ref C) (some d) (upd (L2.del H2 a) d (.xd fs))) (fun _ _ _ => False)
section
variable {X : Cx} {e : Expr} {es : List Expr} {ta : TA} {x : Str} {p pos : Pos} {N B new ini i : String} {l : List Value} {CX : CXT} {C fI : Addr} {k : Nat} {fd : FuncData} {ps : List Str} {sp : Sp}
end
end DL

set_option Elab.async false
set_option linter.all false
set_option maxRecDepth 100000
set_option maxHeartbeats 4000000
/-! ER3: an error with fields: caught by one of some classes, kept, asked what it is, read -/
namespace DL
open PySem PySem.Spec PySem.Calls PySem.HandSPX PyProof.Rows L2
/-! ### one of some classes -/
section
variable {M : Model} {h : Heap}
end
/-! ### caught and kept -/
/-- what is known of an error: its class, its dict -/
def excAtD (a : Addr) (cls : Value) (d : Option Addr) : Heap → Prop := fun h => ∃ oe vs, h.get? a = some oe ∧ Zc cls d oe ∧ oe.data = .fields vs
section
variable {X : Cx} {pins : List (Addr × Obj)} {σ : L2.St} {H : Hp} {s sI : Shared}
end
/-- names of classes, and what they name -/
inductive NamesAll (X : Cx) : List Expr → List Value → Prop
  | nil : NamesAll X [] []
  | cons {x : Str} {p : Pos} {c : Value} {es : List Expr} {cs : List Value} (h : Names X x c) (t : NamesAll X es cs) : NamesAll X (.Name x p :: es) (c :: cs)
/-- the clause 'except (x, y, ..) as n' that takes what comes, and after whose suite the error is still known -/
def wKeepT (K : PySem.W.Frag) (cs : List Value) (i : Nat) (ts : Addr → TS) (D : Ends) : WX := fun cls d σ H =>
  (∀ c ∈ cs, ∃ b, PySem.W.exmOne K cls c = some b) ∧ (∃ c, c ∈ cs ∧ PySem.W.exmOne K cls c = some true) ∧ ∀ a, H a = none →
    ts a { nx := fun σ2 H2 => D.nx (σ2.set i none) (upd H2 a (.ext (excAtD a cls d))), rt := fun _ _ => False } (σ.set i (some (.ref a))) H
section
variable {X : Cx} {n : Str} {cs : List Value} {es : List Expr} {i tk : Nat} {body suite : List Stmt} {st : Stmt} {np pos hpos : Pos} {tb : WX → TS} {ts : Addr → TS}
end
end DL

set_option Elab.async false
set_option linter.all false
set_option maxRecDepth 100000
set_option maxHeartbeats 4000000
/-! ER4: a kept error asked what it is; its fields read -/
namespace DL
open PySem PySem.Spec PySem.Calls PyProof.Rows L2
section
variable {prog : Program} {w : World} {A : Around} {E : Value → Shared → Prop} {s : Shared} {K : PySem.W.Frag} {x D : Addr} {ox : Obj} {od : Option Obj}
end
/-- a kept error with its fields -/
def KeptE (H : Hp) (a C : Addr) (d : Option Addr) : Prop := H a = some (.ext (excAtD a (.ref C) d)) ∧ ∀ dd, d = some dd → ∃ fs, H dd = some (.xd fs)
/-- isinstance(e, c) of a kept error -/
def rIsiD (K : PySem.W.Frag) : List V → Hp → VK → Prop := fun xs H Q => ∃ (a C : Addr) (d : Option Addr) (c : V) (u : Value) (b : Bool), xs = [.ref a, c] ∧ ClsV c u ∧ KeptE H a C d ∧ ExcC K C ∧ PySem.W.kitOne K (.ref C) u = some b ∧ Q (.bl b) H
section
variable {X : Cx} {pins : List (Addr × Obj)} {σ : L2.St} {H : Hp} {s : Shared} {a C : Addr} {d : Option Addr}
end
/-- e.f of a kept error -/
def tEf (K : PySem.W.Frag) (f : Str) (te : TE) : TE := fun σ H Q => te σ H fun x H1 => ∃ (a C dd : Addr) (fs : List (Str × V)) (v : V), x = .ref a ∧ H1 a = some (.ext (excAtD a (.ref C) (some dd))) ∧ H1 dd = some (.xd fs) ∧ XfC K C ∧ PySem.W.findIn K (.ref C) f = some none ∧
  fs.lookup f = some v ∧ Q v H1
end DL

set_option Elab.async false
set_option linter.all false
set_option maxRecDepth 100000
set_option maxHeartbeats 4000000
/-! ER5: the seventeen refusals raised, asked what they are, read (written by gen/mkER5.py) -/
namespace DL
open PySem PySem.Spec PyProof.Rows L2
section
variable {X : Cx} {C : Addr} {bmB : List Value} {B newId initId : String}
end
/-- what else it is -/
def undV (P : Addr) : Nat → Value
  | 0 => .ref P
  | 1 => .type "ValueError"
  | 2 => .type "ZeroDivisionError"
  | 3 => .type "KeyError"
  | 4 => .type "IndexError"
  | 5 => .type "OverflowError"
  | _ => .type "LookupError"
def undL (i : Nat) : List Bool :=
  if i < 11 ∨ i = 12 then [true, true, false, false, false, false, false]
  else if i = 11 then [false, false, true, false, false, false, false]
  else if i = 13 then [false, false, false, true, false, false, true]
  else if i = 14 then [false, false, false, false, true, false, true]
  else if i = 15 then [false, false, false, false, false, true, false]
  else [false, false, false, false, false, false, true]
def fldN : Nat → Str
  | 12 => "at"
  | 13 => "name"
  | 14 => "number"
  | 15 => "many"
  | _ => "last"
def clauseV (A : Nat → Addr) (P : Addr) : List Value := [.ref P, .ref (A 11), .ref (A 13), .ref (A 14), .ref (A 15), .ref (A 16)]
structure W01 (K : PySem.W.Frag) (A : Nat → Addr) (P : Addr) : Prop where
  kk : ∀ i, i < 17 → ∀ j, j < 17 → PySem.W.kitOne K (.ref (A i)) (.ref (A j)) = some (decide (i = j))
  ku : ∀ i, i < 17 → ∀ j, j < 7 → PySem.W.kitOne K (.ref (A i)) (undV P j) = some ((undL i).getD j false)
  ec : ∀ i, i < 17 → ExcC K (A i)
  ea : ∀ i, i < 17 → ∀ c ∈ clauseV A P, ∃ b, PySem.W.exmOne K (.ref (A i)) c = some b
  eh : ∀ i, i < 17 → ∃ c, c ∈ clauseV A P ∧ PySem.W.exmOne K (.ref (A i)) c = some true
  xf : ∀ i, 12 ≤ i → i < 17 → XfC K (A i) ∧ PySem.W.findIn K (.ref (A i)) (fldN i) = some none
def w01B (K : PySem.W.Frag) (A : Nat → Addr) (P : Addr) : Bool := (List.range 17).all fun i =>
  ((List.range 17).all fun j => decide (PySem.W.kitOne K (.ref (A i)) (.ref (A j)) = some (decide (i = j)))) && (((List.range 7).all fun j => decide (PySem.W.kitOne K (.ref (A i)) (undV P j) = some ((undL i).getD j false))) &&
  (excCB K (A i) && (((clauseV A P).all fun c => (PySem.W.exmOne K (.ref (A i)) c).isSome) && (((clauseV A P).any fun c => decide (PySem.W.exmOne K (.ref (A i)) c = some true)) &&
  (decide (i < 12) || (xfB K (A i) && decide (PySem.W.findIn K (.ref (A i)) (fldN i) = some none)))))))
/-! ### raised -/
def spPl (A : Nat → Addr) : Sp := fun vs H _ E => ∃ (i : Nat) (v : V), vs = [.int (i : Int), v] ∧ i < 12 ∧ E (.ref (A i)) none H
def rsA (a : Addr) (E : XK) : TS := fun _ σ H => tVar 1 σ H fun _ H1 => E (.ref a) none H1
def t_plain (A : Nat → Addr) (E : XK) : TS :=
  tSeq (tIfS (tTest (tOp rEq (tVar 0) (tC (.int 0)))) (rsA (A 0) E) tNext) (
  tSeq (tIfS (tTest (tOp rEq (tVar 0) (tC (.int 1)))) (rsA (A 1) E) tNext) (
  tSeq (tIfS (tTest (tOp rEq (tVar 0) (tC (.int 2)))) (rsA (A 2) E) tNext) (
  tSeq (tIfS (tTest (tOp rEq (tVar 0) (tC (.int 3)))) (rsA (A 3) E) tNext) (
  tSeq (tIfS (tTest (tOp rEq (tVar 0) (tC (.int 4)))) (rsA (A 4) E) tNext) (
  tSeq (tIfS (tTest (tOp rEq (tVar 0) (tC (.int 5)))) (rsA (A 5) E) tNext) (
  tSeq (tIfS (tTest (tOp rEq (tVar 0) (tC (.int 6)))) (rsA (A 6) E) tNext) (
  tSeq (tIfS (tTest (tOp rEq (tVar 0) (tC (.int 7)))) (rsA (A 7) E) tNext) (
  tSeq (tIfS (tTest (tOp rEq (tVar 0) (tC (.int 8)))) (rsA (A 8) E) tNext) (
  tSeq (tIfS (tTest (tOp rEq (tVar 0) (tC (.int 9)))) (rsA (A 9) E) tNext) (
  tSeq (tIfS (tTest (tOp rEq (tVar 0) (tC (.int 10)))) (rsA (A 10) E) tNext) (
  rsA (A 11) E)))))))))))
/-- those that bear what they are made of -/
def spBr (A : Nat → Addr) : Sp := fun vs H _ E => ∃ (i : Nat) (v : V), vs = [.int (i : Int), v] ∧ 12 ≤ i ∧ i < 17 ∧ ∀ d H1, H d = none → Same H H1 → H1 d = some (.xd [(fldN i, v)]) → E (.ref (A i)) (some d) H1
/-- such an __init__ -/
def spIn (C : Addr) (f : Str) : Sp := fun vs H Q _ => ∃ (a : Addr) (y : V), vs = [.ref a, y] ∧ H a = some (exo a C none) ∧ ∀ dx, H dx = none → dx ≠ a → Q .non (upd (upd H dx (exd dx [(f, y)])) a (exo a C (some dx)))
def t_in (K : PySem.W.Frag) (C : Addr) (f : Str) (z : Str) : TS := tSeq (tDrop (tIniE (fun c => c = C) (tCons (tVar 0) (tCons (tC (.str z)) tNil)))) (tStoE K (fun c => c = C) f (tVar 0) (tVar 1))
/-- raise C(thing) -/
def rsB (C : Addr) (f : Str) (E : XK) : TS := fun _ σ H => tMkE C (spIn C f) (tCons (tVar 1) tNil) σ H fun cls d H1 => E cls d H1
def t_bear (A : Nat → Addr) (E : XK) : TS :=
  tSeq (tIfS (tTest (tOp rEq (tVar 0) (tC (.int 12)))) (rsB (A 12) "at" E) tNext) (
  tSeq (tIfS (tTest (tOp rEq (tVar 0) (tC (.int 13)))) (rsB (A 13) "name" E) tNext) (
  tSeq (tIfS (tTest (tOp rEq (tVar 0) (tC (.int 14)))) (rsB (A 14) "number" E) tNext) (
  tSeq (tIfS (tTest (tOp rEq (tVar 0) (tC (.int 15)))) (rsB (A 15) "many" E) tNext) (
  rsB (A 16) "last" E))))
/-! ### asked -/
def tIs (K : PySem.W.Frag) (c : V) : TE := tCB (rIsiD K) (tCons (tVar 0) (tCons (tC c) tNil))
def spKi (A : Nat → Addr) : Sp := fun vs H Q _ => ∃ (a : Addr) (d : Option Addr) (i : Nat), vs = [.ref a] ∧ i < 17 ∧ KeptE H a (A i) d ∧ ∀ p H1, H p = none → Same H H1 → H1 p = some (.lst ((List.range 17).map fun j => V.bl (decide (i = j)))) → Q (.ref p) H1
def spUn (A : Nat → Addr) : Sp := fun vs H Q _ => ∃ (a : Addr) (d : Option Addr) (i : Nat), vs = [.ref a] ∧ i < 17 ∧ KeptE H a (A i) d ∧ ∀ p H1, H p = none → Same H H1 → H1 p = some (.lst ((undL i).map V.bl)) → Q (.ref p) H1
def t_kinds (K : PySem.W.Frag) (A : Nat → Addr) (P : Addr) : TS :=
  tSeq (tAsg (tLst (tCons (tIs K (.ref (A 0))) (tCons (tIs K (.ref (A 1))) (tCons (tIs K (.ref (A 2))) tNil)))) (gName 1)) (
  tSeq (tAsg (tOp rCatL (tVar 1) (tLst (tCons (tIs K (.ref (A 3))) (tCons (tIs K (.ref (A 4))) (tCons (tIs K (.ref (A 5))) tNil))))) (gName 1)) (
  tSeq (tAsg (tOp rCatL (tVar 1) (tLst (tCons (tIs K (.ref (A 6))) (tCons (tIs K (.ref (A 7))) (tCons (tIs K (.ref (A 8))) tNil))))) (gName 1)) (
  tSeq (tAsg (tOp rCatL (tVar 1) (tLst (tCons (tIs K (.ref (A 9))) (tCons (tIs K (.ref (A 10))) (tCons (tIs K (.ref (A 11))) tNil))))) (gName 1)) (
  tSeq (tAsg (tOp rCatL (tVar 1) (tLst (tCons (tIs K (.ref (A 12))) (tCons (tIs K (.ref (A 13))) (tCons (tIs K (.ref (A 14))) tNil))))) (gName 1)) (
  tRet (tOp rCatL (tVar 1) (tLst (tCons (tIs K (.ref (A 15))) (tCons (tIs K (.ref (A 16))) tNil)))))))))
def t_under (K : PySem.W.Frag) (A : Nat → Addr) (P : Addr) : TS :=
  tSeq (tAsg (tLst (tCons (tIs K (.ref P)) (tCons (tIs K (.ty "ValueError")) (tCons (tIs K (.ty "ZeroDivisionError")) tNil)))) (gName 1)) (
  tSeq (tAsg (tOp rCatL (tVar 1) (tLst (tCons (tIs K (.ty "KeyError")) (tCons (tIs K (.ty "IndexError")) (tCons (tIs K (.ty "OverflowError")) tNil))))) (gName 1)) (
  tRet (tOp rCatL (tVar 1) (tLst (tCons (tIs K (.ty "LookupError")) tNil)))))
/-! ### what it bears -/
def spBo (A : Nat → Addr) : Sp := fun vs H Q _ => ∃ (a dd : Addr) (i : Nat) (w : V) (v : V), vs = [w, .ref a] ∧ 12 ≤ i ∧ i < 17 ∧ H a = some (.ext (excAtD a (.ref (A i)) (some dd))) ∧ H dd = some (.xd [(fldN i, v)]) ∧ Q v H
def tIs1 (K : PySem.W.Frag) (c : V) : TE := tCB (rIsiD K) (tCons (tVar 1) (tCons (tC c) tNil))
def t_borne (K : PySem.W.Frag) (A : Nat → Addr) : TS :=
  tSeq (tIfS (tB (tIs1 K (.ref (A 12)))) (tRet (tEf K "at" (tVar 1))) tNext) (
  tSeq (tIfS (tB (tIs1 K (.ref (A 13)))) (tRet (tEf K "name" (tVar 1))) tNext) (
  tSeq (tIfS (tB (tIs1 K (.ref (A 14)))) (tRet (tEf K "number" (tVar 1))) tNext) (
  tRet (tIf (tB (tIs1 K (.ref (A 15)))) (tEf K "many" (tVar 1)) (tEf K "last" (tVar 1))))))
end DL

set_option Elab.async false
set_option linter.all false
set_option maxRecDepth 100000
set_option maxHeartbeats 4000000
/-! DMA: equality of data -/
namespace DL
open PySem PySem.Spec PyProof.Rows L2
structure Sh (n : Nat) (d : PyData) : Prop where
  c : d.canLay0 = true
  d : d.depth ≤ n
theorem canAll_of : ∀ {xs : List PyData}, (∀ x ∈ xs, x.canLay0 = true) → PyData.canLayAll0 xs = true
  | [], _ => rfl
  | x :: xs, h => by
    show (x.canLay0 && PyData.canLayAll0 xs) = true
    rw [h x List.mem_cons_self, canAll_of fun y hy => h y (List.mem_cons_of_mem _ hy)]; rfl
theorem Sh.ok {n : Nat} {d : PyData} (h : Sh n d) (hn : n ≤ 64) : SeqAt.shaped d = true := by
  unfold SeqAt.shaped
  rw [h.c, decide_eq_true (Nat.le_trans h.d hn)]; rfl
theorem Sh.int {i : Int} : Sh 0 (.int i) := ⟨rfl, Nat.le_refl _⟩
theorem Sh.lst {n : Nat} {xs : List PyData} (h : ∀ x ∈ xs, Sh n x) : Sh (n + 1) (.list xs) := ⟨canAll_of fun x hx => (h x hx).c, by
  show PyData.depthAll xs + 1 ≤ n + 1
  have := depthAll_of xs fun x hx => (h x hx).d
  omega⟩
theorem Sh.tup {n : Nat} {xs : List PyData} (h : ∀ x ∈ xs, Sh n x) : Sh (n + 1) (.tuple xs) := ⟨canAll_of fun x hx => (h x hx).c, by
  show PyData.depthAll xs + 1 ≤ n + 1
  have := depthAll_of xs fun x hx => (h x hx).d
  omega⟩
mutual
theorem eqv_rfl : ∀ (d : PyData), d.canLay0 = true → PyData.eqv d d = true
  | .none, _ => rfl
  | .bool b, _ => by unfold PyData.eqv; simp
  | .int i, _ => by unfold PyData.eqv; simp
  | .str s, _ => by unfold PyData.eqv; simp
  | .list xs, h => by unfold PyData.eqv; exact eqvAll_rfl xs (by rw [PyData.canLay0] at h; exact h)
  | .tuple xs, h => by unfold PyData.eqv; exact eqvAll_rfl xs (by rw [PyData.canLay0] at h; exact h)
  | .dict _, h => by rw [PyData.canLay0] at h; cases h
theorem eqvAll_rfl : ∀ (ds : List PyData), PyData.canLayAll0 ds = true → PyData.eqvAll ds ds = true
  | [], _ => rfl
  | x :: xs, h => by
    rw [PyData.canLayAll0, Bool.and_eq_true] at h
    unfold PyData.eqvAll
    rw [eqv_rfl x h.1, eqvAll_rfl xs h.2]; rfl
end
mutual
/-- no truth within -/
def noB : PyData → Bool
  | .bool _ => false
  | .list xs => noBAll xs
  | .tuple xs => noBAll xs
  | .dict _ => false
  | _ => true
def noBAll : List PyData → Bool
  | [] => true
  | x :: xs => noB x && noBAll xs
end
mutual
theorem eqv_eq : ∀ (d e : PyData), noB d = true → noB e = true → PyData.eqv d e = true → d = e
  | .none, e, _, _, h => by cases e <;> first | rfl | (unfold PyData.eqv at h; cases h)
  | .bool b, e, h1, _, h => by rw [noB] at h1; cases h1
  | .int i, e, _, h2, h => by
    cases e <;> first | (rw [noB] at h2; cases h2; done) | (unfold PyData.eqv at h; first | cases h; done | (rw [beq_iff_eq] at h; rw [h]))
  | .str s, e, _, h2, h => by
    cases e <;> first | (rw [noB] at h2; cases h2; done) | (unfold PyData.eqv at h; first | cases h; done | (rw [beq_iff_eq] at h; rw [h]))
  | .list xs, e, h1, h2, h => by
    cases e <;> first | (unfold PyData.eqv at h; cases h; done) | skip
    rename_i ys
    unfold PyData.eqv at h
    rw [noB] at h1 h2
    rw [eqvAll_eq xs ys h1 h2 h]
  | .tuple xs, e, h1, h2, h => by
    cases e <;> first | (unfold PyData.eqv at h; cases h; done) | skip
    rename_i ys
    unfold PyData.eqv at h
    rw [noB] at h1 h2
    rw [eqvAll_eq xs ys h1 h2 h]
  | .dict _, e, h1, _, h => by rw [noB] at h1; cases h1
theorem eqvAll_eq : ∀ (ds es : List PyData), noBAll ds = true → noBAll es = true → PyData.eqvAll ds es = true → ds = es
  | [], [], _, _, _ => rfl
  | [], y :: ys, _, _, h => by unfold PyData.eqvAll at h; cases h
  | x :: xs, [], _, _, h => by unfold PyData.eqvAll at h; cases h
  | x :: xs, y :: ys, h1, h2, h => by
    unfold PyData.eqvAll at h
    rw [noBAll, Bool.and_eq_true] at h1 h2
    rw [Bool.and_eq_true] at h
    rw [eqv_eq x y h1.1 h2.1 h.1, eqvAll_eq xs ys h1.2 h2.2 h.2]
end
section
variable {K : PySem.W.Frag} {Ψ : PyData → Prop}
end
end DL

set_option Elab.async false
set_option linter.all false
set_option maxRecDepth 100000
set_option maxHeartbeats 4000000
/-! DMB: a call with places and names that may be refused -/
namespace DL
open PySem PySem.Spec PyProof.Rows L2
def tCallNSk (n m : Nat) (sp : Sp) (gV : List V → List V → List V) (E : L2.St → XK) (t tk : TA) : TE := fun σ H Q => t σ H fun vs H1 => tk σ H1 fun zs H2 => vs.length = n ∧ zs.length = m ∧ sp (gV vs zs) H2 Q (E σ)
end DL

set_option Elab.async false
set_option linter.all false
set_option maxRecDepth 100000
set_option maxHeartbeats 4000000
/-! DMF: a call of a def that a local name holds, which may be refused; promises joined -/
namespace DL
open PySem PySem.Spec PyProof.Rows L2
section
variable {P : Program} {w : World} {K : PySem.W.Frag} {mg : Str → Option Value} {base : Heap} {CX : CXT} {k : Nat} {f : Addr} {fd : FuncData} {ps : List Str} {sp sp1 sp2 : Sp}
/-- what a local name may hold: a def, its defaults filled up -/
structure HeldS (P : Program) (w : World) (K : PySem.W.Frag) (mg : Str → Option Value) (base : Heap) (CX : CXT) (k : Nat) (f : Addr) (sp : Sp) : Prop where
  ex : ∃ (fd : FuncData) (ps : List Str) (ds : List Value) (dvs : List V) (sp0 : Sp), FnOk P w K mg base CX k f fd ps sp0 ∧ PySem.W.keepIn K (.ref f) = true ∧ Binds K fd ps ds ∧ Vals dvs ds ∧ ∀ vs H Q E, sp vs H Q E → sp0 (vs ++ dvs) H Q E
/-- the same, called by places and names -/
structure HeldK (P : Program) (w : World) (K : PySem.W.Frag) (mg : Str → Option Value) (base : Heap) (CX : CXT) (k n : Nat) (ks : List Str) (f : Addr) (sp : Sp) (gV : List V → List V → List V) : Prop where
  ex : ∃ (fd : FuncData) (ps : List Str) (g : List Value → List Value → List Value), FnOk P w K mg base CX k f fd ps sp ∧ PySem.W.keepIn K (.ref f) = true ∧ KBn K fd ps n ks g gV
end
def tCallF (i : Nat) (S : Addr → Sp → Prop) (E : L2.St → XK) (t : TA) : TE := fun σ H Q => ∃ f sp, σ[i]? = some (some (.ref f)) ∧ S f sp ∧ t σ H fun vs H1 => sp vs H1 Q (E σ)
def tCallFk (i n m : Nat) (S : Addr → Sp → Prop) (gV : List V → List V → List V) (E : L2.St → XK) (t tk : TA) : TE := fun σ H Q => ∃ f sp, σ[i]? = some (some (.ref f)) ∧ S f sp ∧ t σ H fun vs H1 => tk σ H1 fun zs H2 => vs.length = n ∧ zs.length = m ∧ sp (gV vs zs) H2 Q (E σ)
section
variable {X : Cx} {CX : CXT} {k i n : Nat} {S : Addr → Sp → Prop} {E : L2.St → XK} {x : Str} {p pos : Pos} {e : Expr} {es : List Expr} {kws : List Keyword} {ks : List Str} {t tk : TA} {gV : List V → List V → List V}
end
section
variable {K : PySem.W.Frag} {S : Stt} {ρ : Rho} {Φ : PyData → Rho → Prop}
end
end DL

set_option Elab.async false
set_option linter.all false
set_option maxRecDepth 100000
set_option maxHeartbeats 4000000
/-! DMG: the empty dict shown; a call of a def that an expression tells; zip of two tuples; tests ahead of a refusal -/
namespace DL
open PySem PySem.Spec PyProof.Rows L2
def rReprY (K : PySem.W.Frag) : List V → Hp → VK → Prop := fun xs H Q => rReprZ K xs H Q ∨ ∃ a, xs = [.ref a] ∧ H a = some (.dK []) ∧ Q (.str (PyData.dict []).shown) H
section
variable {K : PySem.W.Frag} {S : Stt} {ρ : Rho} {Φ : PyData → Rho → Prop} {Ψ : PyData → Prop}
/-! ### zip of two tuples -/
end
/-! ### a def that an expression tells, called -/
def tCallE (S : Addr → Sp → Prop) (E : L2.St → XK) (tf : TE) (t : TA) : TE := fun σ H Q => tf σ H fun v H1 => ∃ f sp, v = .ref f ∧ S f sp ∧ t σ H1 fun vs H2 => sp vs H2 Q (E σ)
section
variable {X : Cx} {CX : CXT} {k : Nat} {S : Addr → Sp → Prop} {E : L2.St → XK} {pos : Pos} {fe e : Expr} {es : List Expr} {tf : TE} {t : TA}
end
end DL

set_option Elab.async false
set_option linter.all false
set_option maxRecDepth 100000
set_option maxHeartbeats 1000000
/-! LM6: a knot put in where the line goes straight on -/
namespace DL
def insK (ks : Kn) (k : Nat) (p : Rat × Rat) : Kn := ks.take k ++ [p] ++ ks.drop k
end DL

set_option Elab.async false
set_option linter.all false
set_option maxRecDepth 100000
set_option maxHeartbeats 4000000
/-! LR3: knots put in where a line goes straight on; rows that don't rise -/
namespace DL
open PySem PySem.Spec PyProof.Rows L2
def bx : Nat → Nat
  | 0 => 26
  | t + 1 => 2 * bx t + 3
/-- a row of points of the line, at least its knots -/
structure MoreK (t : Nat) (ks : Kn) (s : Rat) (ms : Kn) : Prop where
  ris : Rising ms
  fst : (kn ms 0).1 = 0
  pos : 0 < ms.length
  len : ms.length ≤ ks.length + t
  x : ∀ i, i < ms.length → sz (kn ms i).1 ≤ bx t
  y : ∀ i, i < ms.length → sz (kn ms i).2 ≤ 156 + bx t
  sl : sz s ≤ 26
  on : ∀ x, 0 ≤ x → yAt ms s x = yAt ks s x
def TMore : Nat → List PyData → (PyData → Nat → Prop) → Prop := fun B ds Φ => ∃ (ks : Kn) (s : Rat), ds = [lnD ks s] ∧ Lq 26 ks s ∧ ks.length ≤ 60 ∧ B ≤ 2 ^ 39 ∧ ∀ ms B', B' ≤ B + 10 → MoreK 4 ks s ms → Φ (.list (ms.map kD)) B'
/-- a row of which no line can be made -/
def BadK (ms : Kn) : Prop := ms.length = 0 ∨ (kn ms 0).1 ≠ 0 ∨ ¬ Rising ms
structure NoK (ks ms : Kn) : Prop where
  bad : BadK ms
  len : ms.length ≤ 2 * ks.length + 2
  x : ∀ i, i < ms.length → sz (kn ms i).1 ≤ 60
  y : ∀ i, i < ms.length → sz (kn ms i).2 ≤ 60
def TNoRow : Nat → List PyData → (PyData → Nat → Prop) → Prop := fun B ds Φ => ∃ (ks : Kn) (s : Rat), ds = [lnD ks s] ∧ Lq 26 ks s ∧ ks.length ≤ 60 ∧ B ≤ 2 ^ 39 ∧ ∀ ms B', B' ≤ B + 10 → NoK ks ms → Φ (.list (ms.map kD)) B'
local macro_rules | `(tactic| walk_at "dl") => `(tactic| repeat' (first
  | with_reducible refine wd_isTy ?_ | with_reducible refine wd_isi ?_ | ((with_reducible show WD _ _ (tOp (rIxL _) (tVar _) _) _ _); refine wd_ix_own rfl ?_) | with_reducible refine wd_op ?_ | ((with_reducible show WD _ _ (tCB (rLenX _) (tCons (tVar _) tNil)) _ _); refine wd_len_scr rfl ?_) | ((with_reducible show WD _ _ (tCB (rLenX _) (tCons (tVar _) tNil)) _ _); refine wd_len_own rfl ?_) | with_reducible refine wd_cb ?_ | with_reducible refine wd_un ?_ | with_reducible refine wa_cons ?_ | with_reducible refine wa_nil ?_ | ((with_reducible show WD _ _ (tVar _) _ _); refine wd_var rfl ?_) | with_reducible refine wd_int ?_ | with_reducible refine wd_bl ?_ | with_reducible refine wd_str ?_ | with_reducible refine wd_non ?_
  | with_reducible refine do_nesS ?_ | with_reducible refine dc_intB ?_ | with_reducible refine do_add ?_ | with_reducible refine do_sub ?_ | ((with_reducible refine do_mod ?_ ?_); decide) | with_reducible refine do_mod ?_ ?_ | with_reducible refine do_mul ?_ ?_ | ((with_reducible refine do_div ?_ ?_); exact ⟨by decide, by decide⟩) | with_reducible refine do_div ?_ ?_ | ((with_reducible refine do_pow ?_ ?_); exact ⟨by decide, by decide, by decide⟩) | with_reducible refine do_pow ?_ ?_
  | with_reducible refine do_lt ?_ | with_reducible refine do_le ?_ | with_reducible refine do_gt ?_ | with_reducible refine do_ge ?_ | with_reducible refine du_neg ?_
  | with_reducible refine do_eqi ?_ | with_reducible refine do_nei ?_ | with_reducible refine do_eqs ?_ | with_reducible refine do_nes ?_ | with_reducible refine dc_abs ?_ | with_reducible refine dc_min ?_ | with_reducible refine dc_max ?_ | with_reducible refine dc_lenL ?_ | with_reducible refine dc_lenT ?_ | with_reducible refine dc_lenR ?_ | with_reducible refine dc_listT ?_ | with_reducible refine dc_listL ?_ | with_reducible refine dc_tupL ?_ | with_reducible refine dc_gcd ?_
  | ((with_reducible show DO _ (rIxT _) _ _ _); refine do_ixT rfl ?_) | ((with_reducible show DO _ (rIxL _) _ _ _); refine do_ixL rfl ?_) | ((with_reducible refine do_catL ?_ ?_); exact Nat.le_of_ble_eq_true rfl) | with_reducible refine do_catL ?_ ?_ | ((with_reducible show And (List.length _ ≤ sizeLine) _); refine ⟨Nat.le_of_ble_eq_true rfl, ?_⟩)
  | with_reducible refine wd_dnew ?_ | with_reducible refine wd_call0 ?_ | with_reducible refine wd_slA ?_ | with_reducible refine wd_slL ?_ | with_reducible refine wd_revT ?_ | with_reducible refine do_catA ?_ ?_ | with_reducible refine wo_part ?_ | with_reducible refine wo_none ?_ | with_reducible refine do_eqQ ?_ | with_reducible refine do_neQ ?_ | with_reducible refine wi_enumT ?_ | with_reducible refine wi_enumD ?_ | with_reducible refine tAdQ (by omega) (by omega) ?_ | with_reducible refine tSbQ (by omega) (by omega) ?_ | with_reducible refine tMlQ (by omega) (by omega) ?_ | with_reducible refine tDvQ (by assumption) (by omega) (by omega) ?_ | with_reducible refine tLtQ (by omega) (by omega) ?_ | with_reducible refine dc_str ?_ ?_ | with_reducible refine wd_tup ?_ | with_reducible refine wd_lst ?_ | with_reducible refine wt_test ?_ | with_reducible refine wt_B ?_ | with_reducible refine wt_not ?_ | with_reducible refine wt_and ?_ | with_reducible refine wt_or ?_ | with_reducible refine wd_ifE ?_ | with_reducible refine wd_andV ?_ | with_reducible refine wd_orV ?_ | with_reducible refine wd_notV ?_
  | with_reducible refine ws_seq ?_ | with_reducible refine ws_next ?_ | with_reducible refine ws_asg ?_ | with_reducible refine ws_ret ?_ | with_reducible refine ws_retN ?_ | with_reducible refine ws_if ?_ | with_reducible refine ws_par ?_ | with_reducible refine ws_unp2 ?_
  | with_reducible refine if_t ?_ | with_reducible refine if_f ?_ | with_reducible refine if_nf ?_ | with_reducible refine if_nt ?_
  | ((with_reducible show Exists _); first | refine ⟨_, kitInt _, ?_⟩ | refine ⟨_, kitBool _, ?_⟩ | refine ⟨_, kitTup _, ?_⟩ | refine ⟨_, kitList _, ?_⟩ | refine ⟨_, rfl, ?_⟩ | refine ⟨_, _, rfl, ?_⟩ | fail) | fail))
def t_more (K : PySem.W.Frag) : TS :=
  (tSeq (tAsg (tCB (rListOf K) (tCons (tOp (rIxT K) (tVar 1) (tC (.int 0))) tNil)) (gName 2))
    (tSeq (tFor (iRng1 (tCons (tOp rAddI (tC (.int 1)) (tCall (spS K FPot TTake) [] E0 (tCons (tVar 0) (tCons (tC (.int 4)) tNil)))) tNil)) (gName 3) (tSeq (tAsg (tCall (spS K FPot TTake) [] E0 (tCons (tVar 0) (tCons (tCB (rLenX K) (tCons (tVar 2) tNil)) tNil))) (gName 4))
    (tSeq (tAsg (tTup (tCons (tC (.int 0)) (tCons (tC (.int 1001)) tNil))) (gName 5))
    (tSeq (tIfS (tTest (tOp rLt (tOp rAddI (tVar 4) (tC (.int 1))) (tCB (rLenX K) (tCons (tVar 2) tNil)))) (tAsg (tCall (spP K TMlQ) [] E0 (tCons (tCall (spP K TAdQ) [] E0 (tCons (tOp (rIxT K) (tOp (rIxL K) (tVar 2) (tVar 4)) (tC (.int 0))) (tCons (tOp (rIxT K) (tOp (rIxL K) (tVar 2) (tOp rAddI (tVar 4) (tC (.int 1)))) (tC (.int 0))) tNil))) (tCons (tTup (tCons (tC (.int 1)) (tCons (tC (.int 2)) tNil))) tNil))) (gName 5)) tNext)
    (tSeq (tIfS (tTest (tOp rGt (tOp (rIxT K) (tVar 5) (tC (.int 1))) (tC (.int 1000)))) (tSeq (tAsg (tOp rSubI (tCB (rLenX K) (tCons (tVar 2) tNil)) (tC (.int 1))) (gName 4))
    (tAsg (tCall (spP K TAdQ) [] E0 (tCons (tOp (rIxT K) (tOp (rIxL K) (tVar 2) (tVar 4)) (tC (.int 0))) (tCons (tTup (tCons (tOp rAddI (tC (.int 1)) (tCall (spS K FPot TTake) [] E0 (tCons (tVar 0) (tCons (tC (.int 3)) tNil)))) (tCons (tC (.int 1)) tNil))) tNil))) (gName 5))) tNext)
    (tDrop (tBM K "list" rInsert (tVar 2) (tCons (tOp rAddI (tVar 4) (tC (.int 1))) (tCons (tTup (tCons (tVar 5) (tCons (tCall (spP K TYat) [] E0 (tCons (tVar 1) (tCons (tVar 5) tNil))) tNil))) tNil)))))))))
    (tRet (tVar 2))))
def t_norow (K : PySem.W.Frag) : TS :=
  (tSeq (tAsg (tCB (rListOf K) (tCons (tOp (rIxT K) (tVar 1) (tC (.int 0))) tNil)) (gName 2))
    (tSeq (tAsg (tCall (spS K FPot TTake) [] E0 (tCons (tVar 0) (tCons (tC (.int 4)) tNil))) (gName 3))
    (tSeq (tAsg (tCall (spS K FPot TTake) [] E0 (tCons (tVar 0) (tCons (tCB (rLenX K) (tCons (tVar 2) tNil)) tNil))) (gName 4))
    (tSeq (tIfS (tTest (tOp rEq (tVar 3) (tC (.int 0)))) (tRet (tLst tNil)) tNext)
    (tSeq (tIfS (tTest (tOp rEq (tVar 3) (tC (.int 1)))) (tSeq (tAsg (tTup (tCons (tOp (rIxL K) (tLst (tCons (tTup (tCons (tC (.int 1)) (tCons (tC (.int 2)) tNil))) (tCons (tTup (tCons (tUn rNegI (tC (.int 1))) (tCons (tC (.int 3)) tNil))) (tCons (tTup (tCons (tC (.int 1)) (tCons (tC (.int 997)) tNil))) tNil)))) (tCall (spS K FPot TTake) [] E0 (tCons (tVar 0) (tCons (tC (.int 3)) tNil)))) (tCons (tOp (rIxT K) (tOp (rIxL K) (tVar 2) (tC (.int 0))) (tC (.int 1))) tNil))) (gSub (tVar 2) (tC (.int 0)) rSetL))
    (tRet (tVar 2))) tNext)
    (tSeq (tIfS (tTest (tOp rEq (tVar 3) (tC (.int 2)))) (tRet (tOp rCatL (tSl (rSlL K) (tVar 2) tNoPart (tPart (tOp rAddI (tVar 4) (tC (.int 1))))) (tSl (rSlL K) (tVar 2) (tPart (tVar 4)) tNoPart))) tNext)
    (tSeq (tAsg (tCall (spP K TLow) [] E0 (tCons (tOp rAddI (tC (.int 1)) (tCall (spS K FPot TTake) [] E0 (tCons (tVar 0) (tCons (tC (.int 5)) tNil)))) (tCons (tIf (tTest (tOp rLt (tOp (rIxT K) (tOp (rIxT K) (tOp (rIxL K) (tVar 2) (tVar 4)) (tC (.int 0))) (tC (.int 1))) (tC (.int 97)))) (tC (.int 3)) (tC (.int 1))) tNil))) (gName 5))
    (tSeq (tDrop (tBM K "list" rInsert (tVar 2) (tCons (tOp rAddI (tVar 4) (tC (.int 1))) (tCons (tTup (tCons (tCall (spP K TSbQ) [] E0 (tCons (tOp (rIxT K) (tOp (rIxL K) (tVar 2) (tVar 4)) (tC (.int 0))) (tCons (tVar 5) tNil))) (tCons (tTup (tCons (tC (.int 1)) (tCons (tC (.int 1)) tNil))) tNil))) tNil))))
    (tRet (tVar 2))))))))))
section
variable {K : PySem.W.Frag} {S : Stt} {ds : List PyData} {Φ : PyData → Nat → Prop} {B : Nat}
theorem cutD_take {l : List PyData} {n : Nat} {i : Int} (e : i = n) : cutD l none (some i) = l.take n := by
  subst e
  unfold cutD
  rw [HT.sIx_nat]
  show (l.drop 0).take (min n l.length - 0) = _
  rw [List.drop_zero, Nat.sub_zero]
  by_cases q : n ≤ l.length
  · rw [Nat.min_eq_left q]
  · rw [Nat.min_eq_right (by omega), List.take_of_length_le (by omega), List.take_of_length_le (by omega)]
theorem cutD_drop {l : List PyData} {n : Nat} {i : Int} (e : i = n) : cutD l (some i) none = l.drop n := by
  subst e
  unfold cutD
  rw [HT.sIx_nat]
  show (l.drop (min n l.length)).take (l.length - min n l.length) = _
  by_cases q : n ≤ l.length
  · rw [Nat.min_eq_left q, List.take_of_length_le (by rw [List.length_drop]; omega)]
  · rw [Nat.min_eq_right (by omega), List.take_of_length_le (by rw [List.length_drop]; omega), List.drop_of_length_le (by omega), List.drop_of_length_le (by omega)]
end
end DL

set_option Elab.async false
set_option linter.all false
set_option maxRecDepth 100000
set_option maxHeartbeats 4000000
/-! LR4: a line bent -/
namespace DL
open PySem PySem.Spec PyProof.Rows L2
structure Th (L D : Nat) (d : PyData) : Prop where
  r : Rs L D d
  t : Tm d
  c : d.canLay0 = true
theorem canAll : ∀ {xs : List PyData}, (∀ x ∈ xs, x.canLay0 = true) → PyData.canLayAll0 xs = true
  | [], _ => rfl
  | x :: xs, h => by
    show (x.canLay0 && PyData.canLayAll0 xs) = true
    rw [h x List.mem_cons_self, canAll fun y hy => h y (List.mem_cons_of_mem _ hy)]; rfl
theorem Th.lst {xs : List PyData} {L D n : Nat} (h : ∀ x ∈ xs, Th L D x) (hn : xs.length ≤ n) (hn2 : n ≤ 1000) : Th (2 + n * (L + 2)) (D + 1) (.list xs) :=
  ⟨Rs.lst (fun x hx => (h x hx).r) hn, .lst (Nat.le_trans hn hn2) fun x hx => (h x hx).t, canAll fun x hx => (h x hx).c⟩
theorem Th.int {i : Int} {k : Nat} (hk : 0 < k) (h : i.natAbs < 2 ^ k) (h2 : k ≤ 1700) : Th (k + 1) 0 (.int i) :=
  ⟨Rs.int hk h (by omega), .int (Nat.lt_of_lt_of_le h (Nat.pow_le_pow_right (by decide) h2)), rfl⟩
/-- a thing to be judged -/
abbrev Thg (d : PyData) : Prop := Th 1700000 6 d
def TBent : Nat → List PyData → (PyData → Nat → Prop) → Prop := fun B ds Φ => ∃ (ks : Kn) (s : Rat), ds = [lnD ks s] ∧ Lq 26 ks s ∧ ks.length ≤ 60 ∧ B ≤ 2 ^ 38 ∧ ∀ z B', B' ≤ B + 20 → Thg z → Φ z B'
/-- a small thing -/
abbrev Odd (d : PyData) : Prop := Th 400 1 d
theorem ixAll {ds : List PyData} {P : PyData → Prop} {i : Int} {Ψ : PyData → Prop} {K : PySem.W.Frag} (h0 : 0 ≤ i) (h1 : i < ds.length) (h : ∀ x ∈ ds, P x) (f : ∀ z, P z → Ψ z) : DO K (rIxL K) (.list ds) (.int i) Ψ := by
  obtain ⟨n, rfl⟩ : ∃ n : Nat, i = n := ⟨i.toNat, by omega⟩
  have hn : n < ds.length := by omega
  exact do_ixLn (k := n) rfl (List.getElem?_eq_getElem hn) (f _ (h _ (List.getElem_mem hn)))
theorem cutD_le {l : List PyData} {lo hi : Option Int} : (cutD l lo hi).length ≤ l.length := by
  unfold cutD
  rw [List.length_take, List.length_drop]; omega
local macro_rules | `(tactic| walk_at "dl") => `(tactic| repeat' (first
  | with_reducible refine wd_isTy ?_ | with_reducible refine wd_isi ?_ | ((with_reducible show WD _ _ (tOp (rIxL _) (tVar _) _) _ _); refine wd_ix_own rfl ?_) | with_reducible refine wd_op ?_ | ((with_reducible show WD _ _ (tCB (rLenX _) (tCons (tVar _) tNil)) _ _); refine wd_len_scr rfl ?_) | ((with_reducible show WD _ _ (tCB (rLenX _) (tCons (tVar _) tNil)) _ _); refine wd_len_own rfl ?_) | with_reducible refine wd_cb ?_ | with_reducible refine wd_un ?_ | with_reducible refine wa_cons ?_ | with_reducible refine wa_nil ?_ | ((with_reducible show WD _ _ (tVar _) _ _); refine wd_var rfl ?_) | with_reducible refine wd_int ?_ | with_reducible refine wd_bl ?_ | with_reducible refine wd_str ?_ | with_reducible refine wd_non ?_
  | with_reducible refine do_nesS ?_ | with_reducible refine dc_intB ?_ | with_reducible refine do_add ?_ | with_reducible refine do_sub ?_ | ((with_reducible refine do_mod ?_ ?_); decide) | with_reducible refine do_mod ?_ ?_ | with_reducible refine do_mul ?_ ?_ | ((with_reducible refine do_div ?_ ?_); exact ⟨by decide, by decide⟩) | with_reducible refine do_div ?_ ?_ | ((with_reducible refine do_pow ?_ ?_); exact ⟨by decide, by decide, by decide⟩) | with_reducible refine do_pow ?_ ?_
  | with_reducible refine do_lt ?_ | with_reducible refine do_le ?_ | with_reducible refine do_gt ?_ | with_reducible refine do_ge ?_ | with_reducible refine du_neg ?_
  | with_reducible refine do_eqi ?_ | with_reducible refine do_nei ?_ | with_reducible refine do_eqs ?_ | with_reducible refine do_nes ?_ | with_reducible refine dc_abs ?_ | with_reducible refine dc_min ?_ | with_reducible refine dc_max ?_ | with_reducible refine dc_lenL ?_ | with_reducible refine dc_lenT ?_ | with_reducible refine dc_lenR ?_ | with_reducible refine dc_listT ?_ | with_reducible refine dc_listL ?_ | with_reducible refine dc_tupL ?_ | with_reducible refine dc_gcd ?_
  | ((with_reducible show DO _ (rIxT _) _ _ _); refine do_ixT rfl ?_) | ((with_reducible show DO _ (rIxL _) _ _ _); refine do_ixL rfl ?_) | ((with_reducible refine do_catL ?_ ?_); exact Nat.le_of_ble_eq_true rfl) | with_reducible refine do_catL ?_ ?_ | ((with_reducible show And (List.length _ ≤ sizeLine) _); refine ⟨Nat.le_of_ble_eq_true rfl, ?_⟩)
  | with_reducible refine wd_dnew ?_ | with_reducible refine wd_call0 ?_ | with_reducible refine wd_slA ?_ | with_reducible refine wd_slL ?_ | with_reducible refine wd_revT ?_ | with_reducible refine do_catA ?_ ?_ | with_reducible refine wo_part ?_ | with_reducible refine wo_none ?_ | with_reducible refine do_eqQ ?_ | with_reducible refine do_neQ ?_ | with_reducible refine wi_enumT ?_ | with_reducible refine wi_enumD ?_ | with_reducible refine tAdQ (by omega) (by omega) ?_ | with_reducible refine tSbQ (by omega) (by omega) ?_ | with_reducible refine tMlQ (by omega) (by omega) ?_ | with_reducible refine tDvQ (by assumption) (by omega) (by omega) ?_ | with_reducible refine tLtQ (by omega) (by omega) ?_ | with_reducible refine dc_str ?_ ?_ | with_reducible refine wd_tup ?_ | with_reducible refine wd_lst ?_ | with_reducible refine wt_test ?_ | with_reducible refine wt_B ?_ | with_reducible refine wt_not ?_ | with_reducible refine wt_and ?_ | with_reducible refine wt_or ?_ | with_reducible refine wd_ifE ?_ | with_reducible refine wd_andV ?_ | with_reducible refine wd_orV ?_ | with_reducible refine wd_notV ?_
  | with_reducible refine ws_seq ?_ | with_reducible refine ws_next ?_ | with_reducible refine ws_asg ?_ | with_reducible refine ws_ret ?_ | with_reducible refine ws_retN ?_ | with_reducible refine ws_if ?_ | with_reducible refine ws_par ?_ | with_reducible refine ws_unp2 ?_
  | with_reducible refine if_t ?_ | with_reducible refine if_f ?_ | with_reducible refine if_nf ?_ | with_reducible refine if_nt ?_
  | ((with_reducible show Exists _); first | refine ⟨_, kitInt _, ?_⟩ | refine ⟨_, kitBool _, ?_⟩ | refine ⟨_, kitTup _, ?_⟩ | refine ⟨_, kitList _, ?_⟩ | refine ⟨_, rfl, ?_⟩ | refine ⟨_, _, rfl, ?_⟩ | fail) | fail))
def t_bent (K : PySem.W.Frag) : TS :=
  (tSeq (tAsg (tCall (spS K FPot TTake) [] E0 (tCons (tVar 0) (tCons (tC (.int 10)) tNil))) (gName 2))
    (tSeq (tAsg (tVar 1) (gTup K 2 (gCons (gName 3) (gCons (gName 4) gNil))))
    (tSeq (tAsg (tCall (spS K FPot TTake) [] E0 (tCons (tVar 0) (tCons (tCB (rLenX K) (tCons (tVar 3) tNil)) tNil))) (gName 5))
    (tSeq (tAsg (tLst (tCons (tTup (tCons (tC (.int 2)) (tCons (tC (.int 4)) tNil))) (tCons (tTup (tCons (tC (.int 0)) (tCons (tC (.int 2)) tNil))) (tCons (tTup (tCons (tC (.int 1)) (tCons (tC (.int 0)) tNil))) (tCons (tTup (tCons (tC (.int 1)) (tCons (tUn rNegI (tC (.int 1))) tNil))) (tCons (tTup (tCons (tC (.bl true)) (tCons (tC (.int 1)) tNil))) (tCons (tTup (tCons (tC (.int 1)) (tCons (tC (.bl true)) tNil))) (tCons (tC (.int 1)) (tCons (tC .non) (tCons (tC (.str "1")) (tCons (tLst (tCons (tC (.int 1)) (tCons (tC (.int 1)) tNil))) (tCons (tTup (tCons (tC (.int 1)) tNil)) (tCons (tTup (tCons (tC (.int 1)) (tCons (tC (.int 1)) (tCons (tC (.int 1)) tNil)))) tNil))))))))))))) (gName 6))
    (tSeq (tAsg (tOp (rIxL K) (tOp rCatL (tVar 6) (tLst (tCons (tTup (tCons (tOp rAddI (tOp rPowI (tC (.int 10)) (tC (.int 30))) (tC (.int 1))) (tCons (tC (.int 7)) tNil))) (tCons (tTup (tCons (tC (.int 0)) (tCons (tC (.int 1)) tNil))) (tCons (tTup (tCons (tUn rNegI (tC (.int 1))) (tCons (tC (.int 2)) tNil))) (tCons (tTup (tCons (tC (.int 3)) (tCons (tC (.int 2)) tNil))) tNil)))))) (tCall (spS K FPot TTake) [] E0 (tCons (tVar 0) (tCons (tC (.int 16)) tNil)))) (gName 7))
    (tSeq (tAsg (tOp (rIxT K) (tVar 3) (tVar 5)) (gTup K 2 (gCons (gName 8) (gCons (gName 9) gNil))))
    (tSeq (tIfS (tTest (tOp rLt (tVar 2) (tC (.int 3)))) (tRet (tTup (tCons (tOp (rCatA K) (tOp (rCatA K) (tSl (rSlA K) (tVar 3) tNoPart (tPart (tVar 5))) (tTup (tCons (tOp (rIxL K) (tLst (tCons (tTup (tCons (tVar 7) (tCons (tVar 9) tNil))) (tCons (tTup (tCons (tVar 8) (tCons (tVar 7) tNil))) (tCons (tVar 7) tNil)))) (tVar 2)) tNil))) (tSl (rSlA K) (tVar 3) (tPart (tOp rAddI (tVar 5) (tC (.int 1)))) tNoPart)) (tCons (tVar 4) tNil)))) tNext)
    (tSeq (tIfS (tTest (tOp rEq (tVar 2) (tC (.int 3)))) (tRet (tTup (tCons (tVar 3) (tCons (tVar 7) tNil)))) tNext)
    (tSeq (tIfS (tTest (tOp rEq (tVar 2) (tC (.int 4)))) (tRet (tTup (tCons (tOp (rCatA K) (tOp (rCatA K) (tSl (rSlA K) (tVar 3) tNoPart (tPart (tVar 5))) (tRevT K (tSl (rSlA K) (tVar 3) (tPart (tVar 5)) (tPart (tOp rAddI (tVar 5) (tC (.int 2))))))) (tSl (rSlA K) (tVar 3) (tPart (tOp rAddI (tVar 5) (tC (.int 2)))) tNoPart)) (tCons (tVar 4) tNil)))) tNext)
    (tSeq (tIfS (tTest (tOp rEq (tVar 2) (tC (.int 5)))) (tRet (tTup (tCons (tOp (rCatA K) (tSl (rSlA K) (tVar 3) tNoPart (tPart (tOp rAddI (tVar 5) (tC (.int 1))))) (tSl (rSlA K) (tVar 3) (tPart (tVar 5)) tNoPart)) (tCons (tVar 4) tNil)))) tNext)
    (tSeq (tIfS (tTest (tOp rEq (tVar 2) (tC (.int 6)))) (tRet (tTup (tCons (tOp (rCatA K) (tSl (rSlA K) (tVar 3) tNoPart (tPart (tVar 5))) (tSl (rSlA K) (tVar 3) (tPart (tOp rAddI (tVar 5) (tC (.int 1)))) tNoPart)) (tCons (tVar 4) tNil)))) tNext)
    (tSeq (tIfS (tTest (tOp rEq (tVar 2) (tC (.int 7)))) (tRet (tTup (tCons (tCB (rTupOf K) (tCons (tCall (spS K FPot TMore) [] E0 (tCons (tVar 0) (tCons (tVar 1) tNil))) tNil)) (tCons (tVar 4) tNil)))) tNext)
    (tSeq (tIfS (tTest (tOp rEq (tVar 2) (tC (.int 8)))) (tRet (tTup (tCons (tOp (rCatA K) (tOp (rCatA K) (tSl (rSlA K) (tVar 3) tNoPart (tPart (tVar 5))) (tTup (tCons (tLst (tCons (tVar 8) (tCons (tVar 9) tNil))) tNil))) (tSl (rSlA K) (tVar 3) (tPart (tOp rAddI (tVar 5) (tC (.int 1)))) tNoPart)) (tCons (tVar 4) tNil)))) tNext)
    (tRet (tOp (rIxL K) (tLst (tCons (tCB (rListOf K) (tCons (tVar 1) tNil)) (tCons (tTup (tCons (tCB (rListOf K) (tCons (tVar 3) tNil)) (tCons (tVar 4) tNil))) (tCons (tTup (tCons (tVar 3) (tCons (tVar 4) (tCons (tVar 4) tNil)))) (tCons (tTup (tCons (tVar 3) tNil)) (tCons (tVar 7) (tCons (tTup (tCons (tTup tNil) (tCons (tVar 4) tNil))) tNil))))))) (tCall (spS K FPot TTake) [] E0 (tCons (tVar 0) (tCons (tC (.int 6)) tNil))))))))))))))))))
section
variable {K : PySem.W.Frag} {S : Stt} {ds : List PyData} {Φ : PyData → Nat → Prop} {B : Nat}
end
end DL

set_option Elab.async false
set_option linter.all false
set_option maxRecDepth 100000
set_option maxHeartbeats 4000000
/-! ER6: what is borne is drawn; refused, caught -/
namespace DL
open PySem PySem.Spec PyProof.Rows L2
/-! ### words of letters -/
abbrev rJoin (K : PySem.W.Frag) : V → List V → Hp → VK → Prop := fun x xs H Q => ∃ a p, ∃ ys : List Str, x = .str a ∧ xs = [.ref p] ∧ (SqL K H p (ys.map V.str) ∨ SqT K H p (ys.map V.str)) ∧ (ys.map (·.length)).sum + ys.length * a.length ≤ 16777216 ∧ Q (.str (Txt.join a ys)) H
def Ltr (c : Nat) : Prop := 97 ≤ c ∧ c ≤ 122
abbrev alph : Str := "abcdefghijklmnopqrstuvwxyz"
theorem joinL_one : ∀ l : List Nat, TL.joinL [] (l.map fun c => [c]) = l
  | [] => rfl
  | [c] => rfl
  | c :: d :: r => by
    have ih := joinL_one (d :: r)
    show [c] ++ ([] ++ TL.joinL [] ((d :: r).map fun c => [c])) = _
    rw [ih]; rfl
theorem word_of (l : List Nat) : Txt.join ("" : Str) ((l.map fun c => ([c] : List Nat)).map SX.S) = SX.S l := by
  have := SX.join_S [] (l.map fun c => [c])
  rw [joinL_one] at this
  exact this
section
variable {K : PySem.W.Frag} {S : Stt} {ρ : Rho} {Φ : PyData → Rho → Prop} {Ψ : PyData → Prop}
theorem DqAll.of_strs {N : Av} {H : Hp} : ∀ {vs : List V} {ns : List Str}, DqAll K N H vs (ns.map PyData.str) → vs = ns.map V.str := by
  intro vs ns h
  induction ns generalizing vs with
  | nil => cases h; rfl
  | cons n ns ih =>
    cases h with
    | cons h1 h2 => cases h1; rw [ih h2]; rfl
theorem wd_join {te : TE} {z : Str} (h : WD K S te ρ fun d ρ1 => ∃ ys : List Str, d = .list (ys.map PyData.str) ∧ (ys.map (·.length)).sum + ys.length * z.length ≤ 16777216 ∧ Φ (.str (Txt.join z ys)) ρ1) : WD K S (tM1 (rJoin K) (tC (.str z)) te) ρ Φ := fun H0 N0 Z N σ H E Q q =>
  ⟨⟨z, rfl⟩, h H0 N0 Z N σ H E _ fun v d ρ1 H1 ⟨ys, e, hb, f⟩ E1 k1 d1 => by
    subst e
    obtain ⟨p, xs, rfl, _, h1, h2⟩ := d1.lst_inv
    rw [h2.of_strs] at h1
    exact ⟨z, p, ys, rfl, rfl, .inl (.inl h1), hb, q _ _ ρ1 H1 f E1 k1 (Dt.str _)⟩⟩
theorem do_ixS {w : Str} {i : Int} {c : Nat} (hw : w.length ≤ sizeLine) (h : atI w.cps.toList i = some c) (f : Ψ (.str ⟨#[c]⟩)) : DO K rIxS (.str w) (.int i) Ψ := fun N H _ u v hu hv Q q => by
  cases hu
  cases hv
  exact ⟨w, i, c, rfl, rfl, hw, h, q _ _ H f (Same.refl H) (Dt.str _)⟩
end
def TBorn : Nat → List PyData → (PyData → Nat → Prop) → Prop := fun B ds Φ => ∃ w : Int, ds = [.int w] ∧ B + 6400 ≤ 2 ^ 40 ∧ ∀ d B', B' ≤ B + 6400 → Rs 200 3 d → Φ d B'
def TDue : List PyData → (PyData → Prop) → Prop := fun ds Φ => ∃ i : Nat, ds = [.int (i : Int)] ∧ i < 17 ∧ Φ (.list ((undL i).map PyData.bool))
local macro_rules | `(tactic| walk_at "dl") => `(tactic| repeat' (first
  | with_reducible refine wd_isTy ?_ | with_reducible refine wd_isi ?_ | ((with_reducible show WD _ _ (tOp (rIxL _) (tVar _) _) _ _); refine wd_ix_own rfl ?_) | with_reducible refine wd_op ?_ | ((with_reducible show WD _ _ (tCB (rLenX _) (tCons (tVar _) tNil)) _ _); refine wd_len_scr rfl ?_) | ((with_reducible show WD _ _ (tCB (rLenX _) (tCons (tVar _) tNil)) _ _); refine wd_len_own rfl ?_) | with_reducible refine wd_cb ?_ | with_reducible refine wd_un ?_ | with_reducible refine wa_cons ?_ | with_reducible refine wa_nil ?_ | ((with_reducible show WD _ _ (tVar _) _ _); refine wd_var rfl ?_) | with_reducible refine wd_int ?_ | with_reducible refine wd_bl ?_ | with_reducible refine wd_str ?_ | with_reducible refine wd_non ?_
  | with_reducible refine do_nesS ?_ | with_reducible refine dc_intB ?_ | with_reducible refine do_add ?_ | with_reducible refine do_sub ?_ | ((with_reducible refine do_mod ?_ ?_); decide) | with_reducible refine do_mod ?_ ?_ | with_reducible refine do_mul ?_ ?_ | ((with_reducible refine do_div ?_ ?_); exact ⟨by decide, by decide⟩) | with_reducible refine do_div ?_ ?_ | ((with_reducible refine do_pow ?_ ?_); exact ⟨by decide, by decide, by decide⟩) | with_reducible refine do_pow ?_ ?_
  | with_reducible refine do_lt ?_ | with_reducible refine do_le ?_ | with_reducible refine do_gt ?_ | with_reducible refine do_ge ?_ | with_reducible refine du_neg ?_
  | with_reducible refine do_eqi ?_ | with_reducible refine do_nei ?_ | with_reducible refine do_eqs ?_ | with_reducible refine do_nes ?_ | with_reducible refine dc_abs ?_ | with_reducible refine dc_min ?_ | with_reducible refine dc_max ?_ | with_reducible refine dc_lenL ?_ | with_reducible refine dc_lenT ?_ | with_reducible refine dc_lenR ?_ | with_reducible refine dc_listT ?_ | with_reducible refine dc_listL ?_ | with_reducible refine dc_tupL ?_ | with_reducible refine dc_gcd ?_
  | ((with_reducible show DO _ (rIxT _) _ _ _); refine do_ixT rfl ?_) | ((with_reducible show DO _ (rIxL _) _ _ _); refine do_ixL rfl ?_) | ((with_reducible refine do_catL ?_ ?_); exact Nat.le_of_ble_eq_true rfl) | with_reducible refine do_catL ?_ ?_ | ((with_reducible show And (List.length _ ≤ sizeLine) _); refine ⟨Nat.le_of_ble_eq_true rfl, ?_⟩)
  | with_reducible refine wd_dnew ?_ | with_reducible refine wd_call0 ?_ | with_reducible refine wd_slA ?_ | with_reducible refine wd_slL ?_ | with_reducible refine wd_revT ?_ | with_reducible refine do_catA ?_ ?_ | with_reducible refine wo_part ?_ | with_reducible refine wo_none ?_ | with_reducible refine do_eqQ ?_ | with_reducible refine do_neQ ?_ | with_reducible refine wi_enumT ?_ | with_reducible refine wi_enumD ?_ | with_reducible refine tAdQ (by omega) (by omega) ?_ | with_reducible refine tSbQ (by omega) (by omega) ?_ | with_reducible refine tMlQ (by omega) (by omega) ?_ | with_reducible refine tDvQ (by assumption) (by omega) (by omega) ?_ | with_reducible refine tLtQ (by omega) (by omega) ?_ | with_reducible refine dc_str ?_ ?_ | with_reducible refine wd_tup ?_ | with_reducible refine wd_lst ?_ | with_reducible refine wt_test ?_ | with_reducible refine wt_B ?_ | with_reducible refine wt_not ?_ | with_reducible refine wt_and ?_ | with_reducible refine wt_or ?_ | with_reducible refine wd_ifE ?_ | with_reducible refine wd_andV ?_ | with_reducible refine wd_orV ?_ | with_reducible refine wd_notV ?_
  | with_reducible refine ws_seq ?_ | with_reducible refine ws_next ?_ | with_reducible refine ws_asg ?_ | with_reducible refine ws_ret ?_ | with_reducible refine ws_retN ?_ | with_reducible refine ws_if ?_ | with_reducible refine ws_par ?_ | with_reducible refine ws_unp2 ?_
  | with_reducible refine if_t ?_ | with_reducible refine if_f ?_ | with_reducible refine if_nf ?_ | with_reducible refine if_nt ?_
  | ((with_reducible show Exists _); first | refine ⟨_, kitInt _, ?_⟩ | refine ⟨_, kitBool _, ?_⟩ | refine ⟨_, kitTup _, ?_⟩ | refine ⟨_, kitList _, ?_⟩ | refine ⟨_, rfl, ?_⟩ | refine ⟨_, _, rfl, ?_⟩ | fail) | fail))
def t_born (K : PySem.W.Frag) : TS :=
  (tSeq (tAsg (tIf (tTest (tOp (rIn K false) (tVar 1) (tTup (tCons (tC (.int 13)) (tCons (tC (.int 14)) tNil))))) (tCall (spS K FSto TDr) [] E0 (tCons (tVar 0) (tCons (tC (.int 6)) tNil))) (tC (.int 5))) (gName 2))
    (tSeq (tAsg (tC (.str "abcdefghijklmnopqrstuvwxyz")) (gName 3))
    (tSeq (tAsg (tM1 (rJoin K) (tC (.str "")) (tLc (iRng1 (tCons (tCall (spS K FSto TDr) [] E0 (tCons (tVar 0) (tCons (tC (.int 9)) tNil))) tNil)) (gName 6) tYes (tOp rIxS (tVar 3) (tCall (spS K FSto TDr) [] E0 (tCons (tVar 0) (tCons (tC (.int 26)) tNil)))) [6])) (gName 4))
    (tSeq (tAsg (tOp rMulI (tCall (spS K FSto TDr) [] E0 (tCons (tVar 0) (tCons (tOp (rIxL K) (tLst (tCons (tC (.int 9)) (tCons (tOp rPowI (tC (.int 10)) (tC (.int 6))) (tCons (tOp rPowI (tC (.int 10)) (tC (.int 18))) tNil)))) (tCall (spS K FSto TDr) [] E0 (tCons (tVar 0) (tCons (tC (.int 3)) tNil)))) tNil))) (tOp (rIxL K) (tLst (tCons (tC (.int 1)) (tCons (tUn rNegI (tC (.int 1))) tNil))) (tCall (spS K FSto TDr) [] E0 (tCons (tVar 0) (tCons (tC (.int 2)) tNil))))) (gName 5))
    (tRet (tOp (rIxL K) (tLst (tCons (tLst (tCons (tVar 5) tNil)) (tCons (tVar 4) (tCons (tC .non) (tCons (tC (.bl true)) (tCons (tTup (tCons (tVar 5) (tCons (tVar 4) tNil))) (tCons (tVar 5) tNil))))))) (tVar 2)))))))
def t_due (K : PySem.W.Frag) : TS :=
  (tSeq (tIfS (tOr (tTest (tOp rLt (tVar 0) (tC (.int 11)))) (tTest (tOp rEq (tVar 0) (tC (.int 12))))) (tRet (tLst (tCons (tC (.bl true)) (tCons (tC (.bl true)) (tCons (tC (.bl false)) (tCons (tC (.bl false)) (tCons (tC (.bl false)) (tCons (tC (.bl false)) (tCons (tC (.bl false)) tNil))))))))) tNext)
    (tSeq (tIfS (tTest (tOp rEq (tVar 0) (tC (.int 11)))) (tRet (tLst (tCons (tC (.bl false)) (tCons (tC (.bl false)) (tCons (tC (.bl true)) (tCons (tC (.bl false)) (tCons (tC (.bl false)) (tCons (tC (.bl false)) (tCons (tC (.bl false)) tNil))))))))) tNext)
    (tSeq (tIfS (tTest (tOp rEq (tVar 0) (tC (.int 13)))) (tRet (tLst (tCons (tC (.bl false)) (tCons (tC (.bl false)) (tCons (tC (.bl false)) (tCons (tC (.bl true)) (tCons (tC (.bl false)) (tCons (tC (.bl false)) (tCons (tC (.bl true)) tNil))))))))) tNext)
    (tSeq (tIfS (tTest (tOp rEq (tVar 0) (tC (.int 14)))) (tRet (tLst (tCons (tC (.bl false)) (tCons (tC (.bl false)) (tCons (tC (.bl false)) (tCons (tC (.bl false)) (tCons (tC (.bl true)) (tCons (tC (.bl false)) (tCons (tC (.bl true)) tNil))))))))) tNext)
    (tSeq (tIfS (tTest (tOp rEq (tVar 0) (tC (.int 15)))) (tRet (tLst (tCons (tC (.bl false)) (tCons (tC (.bl false)) (tCons (tC (.bl false)) (tCons (tC (.bl false)) (tCons (tC (.bl false)) (tCons (tC (.bl true)) (tCons (tC (.bl false)) tNil))))))))) tNext)
    (tRet (tLst (tCons (tC (.bl false)) (tCons (tC (.bl false)) (tCons (tC (.bl false)) (tCons (tC (.bl false)) (tCons (tC (.bl false)) (tCons (tC (.bl false)) (tCons (tC (.bl true)) tNil))))))))))))))
section
variable {K : PySem.W.Frag} {S : Stt} {B : Nat} {ds : List PyData}
end
end DL

set_option Elab.async false
set_option linter.all false
set_option maxRecDepth 100000
set_option maxHeartbeats 4000000
/-! DI4: Days made, asked -/
namespace DL
open PySem PySem.Spec PyProof.Rows L2
abbrev rAddS : R2 := fun x y H Q => ∃ i j, x = .str i ∧ y = .str j ∧ i.length + j.length ≤ sizeLine ∧ Q (.str (i ++ j)) H
abbrev rFind3 : V → List V → Hp → VK → Prop := fun x xs H Q => ∃ (a b : Str) (i : Int), x = .str a ∧ xs = [.str b, .int i] ∧ Q (.int (Txt.find3 a b i)) H
local macro_rules | `(tactic| walk_at "dl") => `(tactic| repeat' (first
  | with_reducible refine wd_isTy ?_ | with_reducible refine wd_isi ?_ | ((with_reducible show WD _ _ (tOp (rIxL _) (tVar _) _) _ _); refine wd_ix_own rfl ?_) | with_reducible refine wd_op ?_ | ((with_reducible show WD _ _ (tCB (rLenX _) (tCons (tVar _) tNil)) _ _); refine wd_len_scr rfl ?_) | ((with_reducible show WD _ _ (tCB (rLenX _) (tCons (tVar _) tNil)) _ _); refine wd_len_own rfl ?_) | with_reducible refine wd_cb ?_ | with_reducible refine wd_un ?_ | with_reducible refine wa_cons ?_ | with_reducible refine wa_nil ?_ | ((with_reducible show WD _ _ (tVar _) _ _); refine wd_var rfl ?_) | with_reducible refine wd_int ?_ | with_reducible refine wd_bl ?_ | with_reducible refine wd_str ?_ | with_reducible refine wd_non ?_
  | with_reducible refine do_nesS ?_ | with_reducible refine dc_intB ?_ | with_reducible refine do_add ?_ | with_reducible refine do_sub ?_ | ((with_reducible refine do_mod ?_ ?_); decide) | with_reducible refine do_mod ?_ ?_ | with_reducible refine do_mul ?_ ?_ | ((with_reducible refine do_div ?_ ?_); exact ⟨by decide, by decide⟩) | with_reducible refine do_div ?_ ?_ | ((with_reducible refine do_pow ?_ ?_); exact ⟨by decide, by decide, by decide⟩) | with_reducible refine do_pow ?_ ?_
  | with_reducible refine do_lt ?_ | with_reducible refine do_le ?_ | with_reducible refine do_gt ?_ | with_reducible refine do_ge ?_ | with_reducible refine du_neg ?_
  | with_reducible refine do_eqi ?_ | with_reducible refine do_nei ?_ | with_reducible refine do_eqs ?_ | with_reducible refine do_nes ?_ | with_reducible refine dc_abs ?_ | with_reducible refine dc_min ?_ | with_reducible refine dc_max ?_ | with_reducible refine dc_lenL ?_ | with_reducible refine dc_lenT ?_ | with_reducible refine dc_lenR ?_ | with_reducible refine dc_listT ?_ | with_reducible refine dc_listL ?_ | with_reducible refine dc_tupL ?_ | with_reducible refine dc_gcd ?_
  | ((with_reducible show DO _ (rIxT _) _ _ _); refine do_ixT rfl ?_) | ((with_reducible show DO _ (rIxL _) _ _ _); refine do_ixL rfl ?_) | ((with_reducible refine do_catL ?_ ?_); exact Nat.le_of_ble_eq_true rfl) | with_reducible refine do_catL ?_ ?_ | ((with_reducible show And (List.length _ ≤ sizeLine) _); refine ⟨Nat.le_of_ble_eq_true rfl, ?_⟩)
  | with_reducible refine wd_dnew ?_ | with_reducible refine wd_call0 ?_ | with_reducible refine wd_slA ?_ | with_reducible refine wd_slL ?_ | with_reducible refine wd_revT ?_ | with_reducible refine do_catA ?_ ?_ | with_reducible refine wo_part ?_ | with_reducible refine wo_none ?_ | with_reducible refine do_eqQ ?_ | with_reducible refine do_neQ ?_ | with_reducible refine wi_enumT ?_ | with_reducible refine wi_enumD ?_ | with_reducible refine tAdQ (by omega) (by omega) ?_ | with_reducible refine tSbQ (by omega) (by omega) ?_ | with_reducible refine tMlQ (by omega) (by omega) ?_ | with_reducible refine tDvQ (by assumption) (by omega) (by omega) ?_ | with_reducible refine tLtQ (by omega) (by omega) ?_ | with_reducible refine dc_str ?_ ?_ | with_reducible refine wd_tup ?_ | with_reducible refine wd_lst ?_ | with_reducible refine wt_test ?_ | with_reducible refine wt_B ?_ | with_reducible refine wt_not ?_ | with_reducible refine wt_and ?_ | with_reducible refine wt_or ?_ | with_reducible refine wd_ifE ?_ | with_reducible refine wd_andV ?_ | with_reducible refine wd_orV ?_ | with_reducible refine wd_notV ?_
  | with_reducible refine ws_seq ?_ | with_reducible refine ws_next ?_ | with_reducible refine ws_asg ?_ | with_reducible refine ws_ret ?_ | with_reducible refine ws_retN ?_ | with_reducible refine ws_if ?_ | with_reducible refine ws_par ?_ | with_reducible refine ws_unp2 ?_
  | with_reducible refine if_t ?_ | with_reducible refine if_f ?_ | with_reducible refine if_nf ?_ | with_reducible refine if_nt ?_
  | ((with_reducible show Exists _); first | refine ⟨_, kitInt _, ?_⟩ | refine ⟨_, kitBool _, ?_⟩ | refine ⟨_, kitTup _, ?_⟩ | refine ⟨_, kitList _, ?_⟩ | refine ⟨_, rfl, ?_⟩ | refine ⟨_, _, rfl, ?_⟩ | fail) | fail))
section
variable {K : PySem.W.Frag} {S : Stt} {ρ : Rho} {Φ : PyData → Rho → Prop} {Ψ : PyData → Prop}
theorem wd_find3 {te : TE} {ta : TA} (h : WD K S te ρ fun d ρ1 => ∃ a : Str, d = .str a ∧ WA K S ta ρ1 fun xs ρ2 => ∃ (b : Str) (i : Int), xs = [.str b, .int i] ∧ Φ (.int (Txt.find3 a b i)) ρ2) : WD K S (tBM K "str" rFind3 te ta) ρ Φ := fun H0 N0 Z N σ H E Q q =>
  h H0 N0 Z N σ H E _ fun v d ρ1 H1 ⟨a, e, f⟩ E1 k1 d1 => by
    subst e
    obtain rfl := d1.str_inv
    refine ⟨rfl, f H0 N0 Z N σ H1 E1 _ fun vs xs ρ2 H2 ⟨b, i, e2, f2⟩ E2 k2 d2 => ?_⟩
    subst e2
    cases d2 with
    | cons a1 a2 =>
    cases a2 with
    | cons a2 a3 =>
    cases a3
    cases a1
    cases a2
    exact ⟨a, b, i, rfl, rfl, q _ _ ρ2 H2 f2 E2 (k1.trans k2) (Dt.int _)⟩
/-- x[i] = e, x a list of one's own, i a name's -/
theorem ws_setV {te : TE} {i j : Nat} {kk : Int} {k : Nat} {es : List PyData} {En : DE} (h0 : ρ[i]? = some (.own es)) (ek : kk = k)
    (h : WD K S te ρ fun d ρ1 => ∃ ds, ρ1[i]? = some (.own ds) ∧ ρ1[j]? = some (.dat (.int kk)) ∧ k < ds.length ∧ En.nx (ρ1.set i (.own (ds.set k d)))) : WS K S (tAsg te (gSub (tVar i) (tVar j) rSetL)) ρ En := fun H0 N0 Z N σ H D E M => by
  obtain ⟨p, xs, g1, g2, g3, g4, g5, g6, g7⟩ := E.slot i _ h0
  refine h H0 N0 Z N σ H E _ fun v d ρ1 H1 ⟨ds, f1, fj, f2, f3⟩ E1 k1 d1 => ?_
  obtain ⟨p', xs', e1, e2, e3, e4, e5, e6, e7⟩ := E1.slot i _ f1
  obtain ⟨vj, gj, dj⟩ := E1.slot j _ fj
  obtain rfl := dj.int_inv
  rw [g1] at e1; cases e1
  subst ek
  refine ⟨.ref p, g1, _, gj, p, xs', k, k, rfl, rfl, e6, ?_, ?_⟩
  · unfold ixN
    rw [if_pos (by omega), if_pos (by rw [e7.len]; omega), Int.toNat_natCast]
  · exact M.nx N _ _ _ f3 (E1.chg (xs := xs') f1 g1 (DqAll.setN d1 k e7))
/-- x = [e] * n -/
theorem dq_rep {N : Av} {H : Hp} {v : V} {d : PyData} (h : Dq K N H v d) : ∀ n : Nat, DqAll K N H (List.replicate n v) (List.replicate n d)
  | 0 => DqAll.nil
  | n + 1 => DqAll.cons h (dq_rep h n)
theorem ws_ownRep {te tn : TE} {i : Nat} {En : DE} (h : WD K S te ρ fun d ρ1 => WD K S tn ρ1 fun y ρ2 => ∃ n : Nat, y = .int n ∧ n ≤ 100000 ∧ En.nx (ρ2.set i (.own (List.replicate n d)))) : WS K S (tAsg (tOp rRepL (tLst (tCons te tNil)) tn) (gName i)) ρ En := fun H0 N0 Z N σ H D E M => by
  show tLst (tCons te tNil) σ H (fun x H1 => tn σ H1 fun y H2 => rRepL x y H2 fun v H3 => gName i v σ H3 D.nx)
  exact (wd_lst (Φ := fun x ρ1 => ∃ d, x = .list [d] ∧ WD K S tn ρ1 fun y ρ2 => ∃ n : Nat, y = .int n ∧ n ≤ 100000 ∧ En.nx (ρ2.set i (.own (List.replicate n d)))) (wa_cons (WD.imp h fun d ρ1 f => wa_nil ⟨Nat.le_of_ble_eq_true rfl, d, rfl, f⟩))) H0 N0 Z N σ H E _
    fun u x ρ1 H1 ⟨d, ex, f⟩ E1 k1 d1 => f H0 N0 Z N σ H1 E1 _ fun w y ρ2 H2 ⟨n, ey, hn, g⟩ E2 k2 d2 => by
      subst ex ey
      obtain rfl := d2.int_inv
      obtain ⟨p, us, rfl, _, h1, h2⟩ := (d1.keep k2).lst_inv
      cases h2 with
      | @cons v _ _ _ a1 a2 =>
      cases a2
      refine ⟨p, (n : Int), [v], rfl, rfl, h1, ⟨by omega, by omega⟩, by rw [Int.toNat_natCast, List.length_singleton, sizeLine_eq]; omega, fun r hr => ?_⟩
      obtain ⟨z1, z2⟩ := free0 E2 hr
      have e : (List.replicate (n : Int).toNat [v]).flatten = List.replicate n v := by rw [Int.toNat_natCast]; simp
      rw [e]
      exact M.nx _ _ _ _ g (E2.new hr z1 z2 (dq_rep a1 n))
/-- i ≤ j, and so on -/
theorem wd_chainL {r' : R2} {ta tb tc : TE} (h : WD K S ta ρ fun x ρ1 => WD K S tb ρ1 fun y ρ2 => ∃ i j : Int, x = .int i ∧ y = .int j ∧ (¬ i ≤ j → Φ (.bool false) ρ2) ∧ (i ≤ j → WD K S tc ρ2 fun w ρ3 => DO K r' y w fun d => Φ d ρ3)) : WD K S (tChain rLe r' ta tb tc) ρ Φ := fun H0 N0 Z N σ H E Q q =>
  h H0 N0 Z N σ H E _ fun u x ρ1 H1 h1 E1 k1 d1 => h1 H0 N0 Z N σ H1 E1 _ fun v y ρ2 H2 ⟨i, j, ex, ey, h2, h3⟩ E2 k2 d2 => by
    subst ex ey
    obtain rfl := (d1.keep k2).int_inv
    obtain rfl := d2.int_inv
    refine ⟨i, j, rfl, rfl, decide (i ≤ j), rfl, ?_⟩
    by_cases c : i ≤ j
    · rw [if_pos (decide_eq_true c)]
      exact h3 c H0 N0 Z N σ H2 E2 _ fun w' d' ρ3 H4 h4 E4 k4 d4 => h4 N H4 E4.trk _ w' (d2.keep k4) d4 Q fun v' d'' H5 f e5 d5 => q v' d'' ρ3 H5 f (E4.ext e5) (((k1.trans k2).trans k4).trans (Keep.of e5)) d5
    · rw [if_neg (fun z => c (of_decide_eq_true z))]
      exact q _ _ ρ2 H2 (h2 c) E2 (k1.trans k2) (Dt.bl _)
theorem do_addS2 {a b : Str} (hl : a.length + b.length ≤ sizeLine) (f : Ψ (.str (a ++ b))) : DO K rAddS (.str a) (.str b) Ψ := fun N H _ u w hu hw Q q => by
  cases hu
  cases hw
  exact ⟨a, b, rfl, rfl, hl, q _ _ H f (Same.refl H) (Dt.str _)⟩
end
/-! ### what is known of rows -/
def intI : PyData → Int
  | .int i => i
  | _ => 0
def TWhI : List PyData → (PyData → Prop) → Prop := fun ds Φ => ∃ d, ds = [d] ∧ Φ (.bool (decide (tyD d = "int")))
def t_whI (K : PySem.W.Frag) : TS :=
  (tRet (tOp rIsTyM (tCB (rTypM K) (tCons (tVar 0) tNil)) (tC (.ty "int"))))
theorem ws_whI {K : PySem.W.Frag} {ds : List PyData} {Φ : PyData → Prop} (h : TWhI ds Φ) : WS K S0 (t_whI K) (rhoOf 1 ds) { nx := fun _ => Φ .none, rt := fun d _ => Φ d } := by
  obtain ⟨d, rfl, h⟩ := h
  show WS K S0 (t_whI K) [.dat d] _
  exact ws_ret (wd_isTy (wd_var rfl h))
def rowsB : PyData → Bool
  | .tuple xs => xs.all (fun d => decide (tyD d = "int")) && decide ((xs.map intI).Nodup)
  | .list xs => xs.all (fun d => decide (tyD d = "int")) && decide ((xs.map intI).Nodup)
  | _ => false
theorem rowsB_row {b : Bool} {xs : List PyData} : rowsB (rowD b xs) = (xs.all (fun d => decide (tyD d = "int")) && decide ((xs.map intI).Nodup)) := by cases b <;> rfl
theorem ints_row {xs : List PyData} (h : xs.all (fun d => decide (tyD d = "int")) = true) : xs = (xs.map intI).map PyData.int := by
  rw [List.map_map]
  refine (List.map_id' xs).symm.trans (List.map_congr_left fun d hd => ?_)
  have := of_decide_eq_true (List.all_eq_true.mp h d hd)
  cases d <;> first | rfl | (simp [tyD] at this)
theorem rowD_of {d : PyData} (h : tyD d = "tuple" ∨ tyD d = "list") : ∃ b xs, d = rowD b xs := by
  cases d with
  | tuple xs => exact ⟨false, xs, rfl⟩
  | list xs => exact ⟨true, xs, rfl⟩
  | _ => simp [tyD] at h
theorem ris_lt {ns : List Int} (h : Ris ns) {i j : Nat} {a b : Int} (ha : ns[i]? = some a) (hb : ns[j]? = some b) (hij : i < j) : a < b := by
  obtain ⟨hi, rfl⟩ := List.getElem?_eq_some_iff.mp ha
  obtain ⟨hj, rfl⟩ := List.getElem?_eq_some_iff.mp hb
  exact List.pairwise_iff_getElem.mp h i j hi hj hij
def patL (n : Nat) (ms : List Int) : List Nat := (List.range n).map fun i : Nat => if ((i : Nat) : Int) ∈ ms then 49 else 48
theorem patL_len {n : Nat} {ms : List Int} : (patL n ms).length = n := by unfold patL; rw [List.length_map, List.length_range]
def TUnl : List PyData → (PyData → Prop) → Prop := fun ds Φ => ∃ d, ds = [d] ∧ (∀ C ps, d ≠ insD C ps) ∧ (∀ b xs, d = rowD b xs → xs.length ≤ 4000) ∧ Φ (.bool (rowsB d))
structure DyOk (n : Nat) (ms ts : List Int) : Prop where
  n1 : 1 ≤ n
  n2 : n ≤ 5040
  mn : ms.Nodup
  ml : ms.length ≤ 4000
  mb : ∀ m ∈ ms, 0 ≤ m ∧ m < n
  tn : ts.Nodup
  tl : ts.length ≤ 60
def TRefR : List PyData → (PyData → Prop) → Prop := fun ds Φ => ∃ (n : Nat) (b c : Bool) (ms ts : List Int), ds = [.int n, rowD b (ms.map PyData.int), rowD c (ts.map PyData.int)] ∧ DyOk n ms ts ∧ Φ .none
def TPat : List PyData → (PyData → Prop) → Prop := fun ds Φ => ∃ (n : Nat) (b : Bool) (ms : List Int), ds = [.int n, rowD b (ms.map PyData.int)] ∧ n ≤ 100000 ∧ ms.length ≤ 100000 ∧ (∀ m ∈ ms, 0 ≤ m ∧ m < n) ∧ Φ (.str (SX.S (patL n ms)))
def TMany : List PyData → (PyData → Prop) → Prop := fun ds Φ => ∃ (ns : List Int) (x : Int), ds = [.tuple (ns.map PyData.int), .int x] ∧ Ris ns ∧ ns.length ≤ 100000 ∧ ∀ c : Nat, c ≤ ns.length → (∀ (i : Nat) (v : Int), ns[i]? = some v → (v < x ↔ i < c)) → Φ (.int c)
def TIsIn : List PyData → (PyData → Prop) → Prop := fun ds Φ => ∃ (ns : List Int) (x : Int), ds = [.tuple (ns.map PyData.int), .int x] ∧ Ris ns ∧ ns.length ≤ 100000 ∧ Φ (.bool (decide (x ∈ ns)))
def t_unl (K : PySem.W.Frag) : TS :=
  (tSeq (tIfS (tTest (tOp (rTyNot K) (tCB (rTypM K) (tCons (tVar 0) tNil)) (tTup (tCons (tC (.ty "tuple")) (tCons (tC (.ty "list")) tNil))))) (tRet (tC (.bl false))) tNext)
    (tRet (tAndV (tCB (rAll K) (tCons (tLc (iRow K (tVar 0)) (gName 1) tYes (tCall (spP K TWhI) [] E0 (tCons (tVar 1) tNil)) [1]) tNil)) (tOp rEq (tLenSet K (tVar 0)) (tCB (rLenX K) (tCons (tVar 0) tNil))))))
def t_refR (K : PySem.W.Frag) : TS :=
  (tSeq (tIfS (tNot (tAnd (tB (tCall (spP K TWhI) [] E0 (tCons (tVar 0) tNil))) (tTest (tChain rLe rLe (tC (.int 1)) (tVar 0) (tC (.int 5040)))))) tNo tNext)
    (tSeq (tIfS (tNot (tB (tCall (spP K TUnl) [] E0 (tCons (tVar 1) tNil)))) tNo tNext)
    (tSeq (tIfS (tNot (tB (tCB (rAll K) (tCons (tLc (iRow K (tVar 1)) (gName 3) tYes (tChain rLe rLt (tC (.int 0)) (tVar 3) (tVar 0)) [3]) tNil)))) tNo tNext)
    (tSeq (tIfS (tNot (tB (tCall (spP K TUnl) [] E0 (tCons (tVar 2) tNil)))) tNo tNext)
    (tIfS (tTest (tOp rGt (tCB (rLenX K) (tCons (tVar 2) tNil)) (tC (.int 60)))) tNo tNext)))))
def t_pat (K : PySem.W.Frag) : TS :=
  (tSeq (tAsg (tOp rRepL (tLst (tCons (tC (.str "0")) tNil)) (tVar 0)) (gName 2))
    (tSeq (tFor (iRow K (tVar 1)) (gName 3) (tAsg (tC (.str "1")) (gSub (tVar 2) (tVar 3) rSetL)))
    (tRet (tM1 (rJoin K) (tC (.str "")) (tVar 2)))))
def t_many (K : PySem.W.Frag) : TS :=
  (tSeq (tPar 2 3 (tCons (tC (.int 0)) (tCons (tCB (rLenX K) (tCons (tVar 0) tNil)) tNil)))
    (tSeq (tWhile (tTest (tOp rLt (tVar 2) (tVar 3))) (tSeq (tAsg (tOp rDivI (tOp rAddI (tVar 2) (tVar 3)) (tC (.int 2))) (gName 4))
    (tIfS (tTest (tOp rLt (tOp (rIxT K) (tVar 0) (tVar 4)) (tVar 1))) (tAsg (tOp rAddI (tVar 4) (tC (.int 1))) (gName 2)) (tAsg (tVar 4) (gName 3)))))
    (tRet (tVar 2))))
def t_isin (K : PySem.W.Frag) : TS :=
  (tSeq (tAsg (tCall (spP K TMany) [] E0 (tCons (tVar 0) (tCons (tVar 1) tNil))) (gName 2))
    (tRet (tAndV (tOp rLt (tVar 2) (tCB (rLenX K) (tCons (tVar 0) tNil))) (tOp rEq (tOp (rIxT K) (tVar 0) (tVar 2)) (tVar 1)))))
section
variable {K : PySem.W.Frag} {ds : List PyData} {Φ : PyData → Prop}
theorem ws_unl (h : TUnl ds Φ) : WS K S0 (t_unl K) (rhoOf 2 ds) { nx := fun _ => Φ .none, rt := fun d _ => Φ d } := by
  obtain ⟨d, rfl, hni, hl, h⟩ := h
  show WS K S0 (t_unl K) [.dat d, .unk] _
  unfold t_unl
  refine ws_seq (ws_if (wt_test (wd_tyNot2 (wd_var rfl ⟨hni, _, rfl, ?_⟩))))
  by_cases ct : tyD d = "tuple" ∨ tyD d = "list"
  · rw [decide_eq_true ct]
    obtain ⟨b, xs, rfl⟩ := rowD_of ct
    have xl := hl b xs rfl
    rw [rowsB_row] at h
    refine if_nt (ws_next (ws_ret (wd_andV (wd_cb (wa_cons (wd_lc (wi_rowD ⟨b, wd_var rfl ⟨xs, rfl, by rw [sizeLine_eq]; omega, fun j acc ρ => acc = ((xs.take j).map fun d => decide (tyD d = "int")).map PyData.bool ∧ ∃ s1 : Sl, ρ = [.dat (rowD b xs), s1], ⟨rfl, _, rfl⟩, ?_, ?_⟩⟩)))))))
    · rintro j d acc ρ2 hd ⟨rfl, s1, rfl⟩
      refine ⟨_, _, gd_name, fun j hj => hj, ?_⟩
      refine wt_yes ?_
      refine wd_call0 (wa_cons (wd_var rfl (wa_nil ⟨d, rfl, ?_, _, rfl⟩)))
      rw [List.take_add_one, hd, Option.toList_some, List.map_append, List.map_append]; rfl
    · rintro acc ρ2 ⟨rfl, s1, rfl⟩
      rw [List.take_length]
      refine wa_nil (dc_all ⟨_, rfl, ?_⟩)
      have ea : (xs.map fun d => decide (tyD d = "int")).all id = xs.all fun d => decide (tyD d = "int") := by rw [List.all_map]; rfl
      rw [ea]
      cases ha : xs.all fun d => decide (tyD d = "int") with
      | false =>
        rw [if_neg Bool.false_ne_true]
        rw [ha, Bool.false_and] at h
        exact h
      | true =>
        rw [if_pos rfl]
        rw [ha, Bool.true_and] at h
        have ex := ints_row ha
        generalize xs.map intI = ns at ex h
        subst ex
        rw [List.length_map] at xl
        refine wd_op (wd_lenSet (wd_var rfl ⟨ns, by cases b <;> first | exact .inl rfl | exact .inr rfl, xl, fun c c1 c2 => wd_cb (wa_cons (wd_var rfl (wa_nil (dc_lenR (do_eqi ?_)))))⟩))
        rw [List.length_map]
        have e : decide ((c : Int) = ((ns.length : Nat) : Int)) = decide ns.Nodup := by
          refine decide_eq_decide.mpr ?_
          rw [← c2]
          omega
        rw [e]; exact h
  · rw [decide_eq_false ct]
    refine if_nf (ws_ret (wd_bl ?_))
    have : rowsB d = false := by
      cases d with
      | tuple xs => exact absurd (.inl rfl) ct
      | list xs => exact absurd (.inr rfl) ct
      | _ => rfl
    rw [this] at h; exact h
theorem rowsB_ints {b : Bool} {ms : List Int} (h : ms.Nodup) : rowsB (rowD b (ms.map PyData.int)) = true := by
  rw [rowsB_row]
  have e : (ms.map PyData.int).map intI = ms := by rw [List.map_map]; exact List.map_id' ms
  rw [e, decide_eq_true h, Bool.and_true]
  exact List.all_eq_true.mpr fun d hd => by
    obtain ⟨i, _, rfl⟩ := List.mem_map.mp hd
    exact decide_eq_true rfl
theorem row_ni {b : Bool} {xs : List PyData} : ∀ C ps, rowD b xs ≠ insD C ps := fun C ps e => by cases b <;> cases e
theorem row_inj {b c : Bool} {xs ys : List PyData} (h : rowD b xs = rowD c ys) : xs = ys := by
  cases b <;> cases c <;> first | (injection h) | cases h
theorem ws_refR (h : TRefR ds Φ) : WS K S0 (t_refR K) (rhoOf 4 ds) { nx := fun _ => Φ .none, rt := fun d _ => Φ d } := by
  obtain ⟨n, b, c, ms, ts, rfl, ok, h⟩ := h
  show WS K S0 (t_refR K) [.dat (.int n), .dat (rowD b (ms.map PyData.int)), .dat (rowD c (ts.map PyData.int)), .unk] _
  unfold t_refR
  have n1 := ok.n1
  have n2 := ok.n2
  refine ws_seq (ws_if (wt_not (wt_and (wt_B (wd_call0 (wa_cons (wd_var rfl (wa_nil ⟨.int n, rfl, true, congrArg PyData.bool (decide_eq_true rfl), if_t ?_⟩))))))))
  refine wt_test (wd_chainL (wd_int (wd_var rfl ⟨1, n, rfl, rfl, fun c => absurd c (by omega), fun _ => wd_int (do_le ⟨_, rfl, if_n (fun c => absurd c (by omega)) (fun _ => ws_next ?_)⟩)⟩)))
  have ml := ok.ml
  have tl := ok.tl
  refine ws_seq (ws_if (wt_not (wt_B (wd_call0 (wa_cons (wd_var rfl (wa_nil ⟨_, rfl, row_ni, fun b xs e => ?_, true, congrArg PyData.bool (rowsB_ints ok.mn), if_nt (ws_next ?_)⟩)))))))
  · have := row_inj e; rw [← this, List.length_map]; exact ml
  refine ws_seq (ws_if (wt_not (wt_B (wd_cb (wa_cons (wd_lc (wi_rowD ⟨b, wd_var rfl ⟨ms.map PyData.int, rfl, by rw [List.length_map, sizeLine_eq]; omega, fun j acc ρ => acc = (List.replicate j true).map PyData.bool ∧ ∃ s1 : Sl, ρ = [.dat (.int n), .dat (rowD b (ms.map PyData.int)), .dat (rowD c (ts.map PyData.int)), s1], ⟨rfl, _, rfl⟩, ?_, ?_⟩⟩)))))))
  · rintro j d acc ρ2 hd ⟨rfl, s1, rfl⟩
    rw [List.getElem?_map] at hd
    obtain ⟨m, hm, rfl⟩ := Option.map_eq_some_iff.mp hd
    have mb := ok.mb m (List.mem_of_getElem? hm)
    refine ⟨_, _, gd_name, fun j hj => hj, ?_⟩
    refine wt_yes ?_
    refine wd_chainL (wd_int (wd_var rfl ⟨0, m, rfl, rfl, fun c => absurd mb.1 c, fun _ => wd_var rfl (do_lt ⟨?_, _, rfl⟩)⟩))
    rw [decide_eq_true mb.2, List.replicate_succ', List.map_append]; rfl
  · rintro acc ρ2 ⟨rfl, s1, rfl⟩
    refine wa_nil (dc_all ⟨true, congrArg PyData.bool ?_, if_nt (ws_next ?_)⟩)
    · exact List.all_eq_true.mpr fun x hx => List.eq_of_mem_replicate hx
    refine ws_seq (ws_if (wt_not (wt_B (wd_call0 (wa_cons (wd_var rfl (wa_nil ⟨_, rfl, row_ni, fun b xs e => ?_, true, congrArg PyData.bool (rowsB_ints ok.tn), if_nt (ws_next ?_)⟩)))))))
    · have := row_inj e; rw [← this, List.length_map]; omega
    refine ws_if (wt_test (wd_op (wd_cb (wa_cons (wd_var rfl (wa_nil (dc_lenR (wd_int (do_gt ⟨_, rfl, ?_⟩)))))))))
    rw [List.length_map]
    refine if_b (fun z => absurd z (by omega)) (fun _ => ws_next h)
theorem ws_pat (h : TPat ds Φ) : WS K S0 (t_pat K) (rhoOf 4 ds) { nx := fun _ => Φ .none, rt := fun d _ => Φ d } := by
  obtain ⟨n, b, ms, rfl, hn, hml, hm, h⟩ := h
  show WS K S0 (t_pat K) [.dat (.int n), .dat (rowD b (ms.map PyData.int)), .unk, .unk] _
  unfold t_pat
  refine ws_seq (ws_ownRep (wd_str (wd_var rfl ⟨n, rfl, hn, ?_⟩)))
  refine ws_seq (ws_for (wi_rowD ⟨b, wd_var rfl ⟨ms.map PyData.int, rfl, fun k ρ => ∃ s3 : Sl, ρ = [.dat (.int n), .dat (rowD b (ms.map PyData.int)), .own (((patL n (ms.take k)).map fun c => ([c] : List Nat)).map fun l => PyData.str (SX.S l)), s3], ⟨.unk, ?_⟩, ?_, ?_⟩⟩))
  · have e : List.replicate n (PyData.str "0") = ((patL n (ms.take 0)).map fun c => ([c] : List Nat)).map fun l => PyData.str (SX.S l) := by
      unfold patL
      rw [List.map_map, List.map_map, List.take_zero]
      refine List.ext_getElem (by simp) fun i h1 h2 => ?_
      simp
      rfl
    rw [← e]; rfl
  · rintro k d ρ2 hd ⟨s3, rfl⟩
    rw [List.getElem?_map] at hd
    obtain ⟨m, hmk, rfl⟩ := Option.map_eq_some_iff.mp hd
    have mb := hm m (List.mem_of_getElem? hmk)
    refine ⟨_, _, gd_name, ?_⟩
    refine ws_setV (i := 2) (j := 3) (k := m.toNat) rfl (by omega) (wd_str ⟨_, rfl, rfl, ?_, .dat (.int m), ?_⟩)
    · rw [List.length_map, List.length_map, patL_len]; omega
    · have e : (((patL n (ms.take k)).map fun c => ([c] : List Nat)).map fun l => PyData.str (SX.S l)).set m.toNat (.str "1") = ((patL n (ms.take (k + 1))).map fun c => ([c] : List Nat)).map fun l => PyData.str (SX.S l) := by
        unfold patL
        rw [List.take_add_one, hmk, Option.toList_some]
        refine List.ext_getElem (by simp) fun i h1 h2 => ?_
        rw [List.getElem_set]
        simp only [List.getElem_map, List.getElem_range]
        by_cases c : m.toNat = i
        · rw [if_pos c, if_pos (by rw [List.mem_append]; right; rw [List.mem_singleton]; omega)]
          rfl
        · rw [if_neg c]
          have : ((i : Int) ∈ ms.take k ++ [m]) ↔ ((i : Int) ∈ ms.take k) := by
            rw [List.mem_append, List.mem_singleton]
            constructor
            · rintro (h | h)
              · exact h
              · exact absurd (show m.toNat = i by omega) c
            · exact .inl
          by_cases c2 : (i : Int) ∈ ms.take k
          · rw [if_pos c2, if_pos (this.mpr c2)]
          · rw [if_neg c2, if_neg fun z => c2 (this.mp z)]
      show _ = _
      rw [← e]; rfl
  · rintro ρ2 ⟨s3, rfl⟩
    rw [List.length_map, List.take_length]
    refine ws_frz (i := 2) rfl ?_
    have hl := patL_len (n := n) (ms := ms)
    refine ws_ret (wd_join (wd_var rfl ⟨((patL n ms).map fun c => ([c] : List Nat)).map SX.S, ?_, ?_, ?_⟩))
    · rw [List.map_map (f := SX.S)]; rfl
    · rw [show ("" : Str).length = 0 from rfl, Nat.mul_zero, Nat.add_zero, SX.lens]
      have : (((patL n ms).map fun c => ([c] : List Nat)).map (·.length)).sum = n := by
        rw [List.map_map]
        have e2 : ((·.length) ∘ fun c : Nat => ([c] : List Nat)) = fun _ => 1 := rfl
        rw [e2, List.map_const', hl, List.sum_replicate_nat, Nat.mul_one]
      omega
    · rw [word_of]; exact h
theorem ws_many (h : TMany ds Φ) : WS K S0 (t_many K) (rhoOf 5 ds) { nx := fun _ => Φ .none, rt := fun d _ => Φ d } := by
  obtain ⟨ns, x, rfl, hr, hl, h⟩ := h
  show WS K S0 (t_many K) [.dat (.tuple (ns.map PyData.int)), .dat (.int x), .unk, .unk, .unk] _
  unfold t_many
  refine ws_seq (ws_par (wa_cons (wd_int (wa_cons (wd_cb (wa_cons (wd_var rfl (wa_nil (dc_lenT (wa_nil ⟨_, _, rfl, ?_⟩))))))))))
  rw [List.length_map]
  refine ws_seq (ws_while (fun m ρ => ∃ (lo hi : Nat) (s4 : Sl), ρ = [.dat (.tuple (ns.map PyData.int)), .dat (.int x), .dat (.int lo), .dat (.int hi), s4] ∧ lo ≤ hi ∧ hi ≤ ns.length ∧ (∀ (i : Nat) (v : Int), ns[i]? = some v → i < lo → v < x) ∧ (∀ (i : Nat) (v : Int), ns[i]? = some v → hi ≤ i → ¬ v < x) ∧ m = hi - lo) ns.length
    ⟨0, ns.length, _, rfl, Nat.zero_le _, Nat.le_refl _, fun i v _ hi => absurd hi (Nat.not_lt_zero _), fun i v hv hi => absurd (List.getElem?_eq_some_iff.mp hv).1 (by omega), by omega⟩ ?_)
  rintro m ρ1 ⟨lo, hi, s4, rfl, h1, h2, h3, h4, rfl⟩
  walk_at "dl"
  refine if_b (fun c => ?_) (fun c => ?_)
  · have e : ((lo : Int) + (hi : Int)).fdiv 2 = (((lo + hi) / 2 : Nat) : Int) := by
      rw [Int.fdiv_eq_ediv_of_nonneg _ (by decide)]; omega
    walk_at "dl"
    rw [e]
    have hmid : (lo + hi) / 2 < ns.length := by omega
    have hg : ns[(lo + hi) / 2]? = some ns[(lo + hi) / 2] := List.getElem?_eq_getElem hmid
    refine do_ixTn (k := (lo + hi) / 2) (d := .int ns[(lo + hi) / 2]) rfl (by rw [List.getElem?_map, hg]; rfl) ?_
    refine wd_var rfl (do_lt ⟨_, rfl, ?_⟩)
    refine if_b (fun c2 => ?_) (fun c2 => ?_)
    · refine ws_asg (wd_op (wd_var rfl (wd_int (do_add ?_))))
      refine ⟨hi - ((lo + hi) / 2 + 1), by omega, (lo + hi) / 2 + 1, hi, _, rfl, by omega, h2, fun i v hv hi2 => ?_, h4, rfl⟩
      by_cases ci : i = (lo + hi) / 2
      · subst ci; rw [hg] at hv; cases hv; exact c2
      · have := ris_lt hr hv hg (by omega)
        omega
    · refine ws_asg (wd_var rfl ?_)
      refine ⟨(lo + hi) / 2 - lo, by omega, lo, (lo + hi) / 2, _, rfl, by omega, by omega, h3, fun i v hv hi2 => ?_, rfl⟩
      by_cases ci : i = (lo + hi) / 2
      · subst ci; rw [hg] at hv; cases hv; exact c2
      · have := ris_lt hr hg hv (by omega)
        omega
  · refine ws_ret (wd_var rfl (h lo (by omega) fun i v hv => ?_))
    constructor
    · intro z
      refine Classical.byContradiction fun z2 => h4 i v hv (by omega) z
    · intro z
      exact h3 i v hv z
theorem ws_isin (h : TIsIn ds Φ) : WS K S0 (t_isin K) (rhoOf 3 ds) { nx := fun _ => Φ .none, rt := fun d _ => Φ d } := by
  obtain ⟨ns, x, rfl, hr, hl, h⟩ := h
  show WS K S0 (t_isin K) [.dat (.tuple (ns.map PyData.int)), .dat (.int x), .unk] _
  unfold t_isin
  refine ws_seq (ws_asg (wd_call0 (wa_cons (wd_var rfl (wa_cons (wd_var rfl (wa_nil ⟨ns, x, rfl, hr, hl, fun c c1 c2 => ?_⟩)))))))
  refine ws_ret (wd_andV (wd_op (wd_var rfl (wd_cb (wa_cons (wd_var rfl (wa_nil (dc_lenT (do_lt ⟨_, rfl, ?_⟩)))))))))
  rw [List.length_map]
  refine if_b (fun z => ?_) (fun z => ?_)
  · have hc : c < ns.length := by omega
    have hg : ns[c]? = some ns[c] := List.getElem?_eq_getElem hc
    refine wd_op (wd_op (wd_var rfl (wd_var rfl (do_ixTn (k := c) (d := .int ns[c]) rfl (by rw [List.getElem?_map, hg]; rfl) (wd_var rfl (do_eqi ?_))))))
    have e : decide (ns[c] = x) = decide (x ∈ ns) := by
      refine decide_eq_decide.mpr ⟨fun e => by rw [← e]; exact List.getElem_mem hc, fun hx => ?_⟩
      obtain ⟨i, hi, e⟩ := List.getElem_of_mem hx
      have hgi : ns[i]? = some x := by rw [List.getElem?_eq_getElem hi, e]
      have h1 : ¬ i < c := fun z => by have := (c2 i x hgi).mpr z; omega
      have h2 : ¬ ns[c] < x := fun z => by have := (c2 c _ hg).mp z; omega
      by_cases ci : i = c
      · subst ci; exact e
      · have := ris_lt hr hg hgi (by omega)
        omega
    rw [e]; exact h
  · have e : decide (x ∈ ns) = false := decide_eq_false fun hx => by
      obtain ⟨i, hi, e⟩ := List.getElem_of_mem hx
      have hgi : ns[i]? = some x := by rw [List.getElem?_eq_getElem hi, e]
      have := (c2 i x hgi)
      have : ¬ i < c := fun z => by have := this.mpr z; omega
      omega
    rw [e] at h; exact h
end
end DL

set_option Elab.async false
set_option linter.all false
set_option maxRecDepth 100000
set_option maxHeartbeats 4000000
/-! DI5: Days made and asked -/
namespace DL
open PySem PySem.Spec PyProof.Rows L2
local macro_rules | `(tactic| walk_at "dl") => `(tactic| repeat' (first
  | with_reducible refine wd_isTy ?_ | with_reducible refine wd_isi ?_ | ((with_reducible show WD _ _ (tOp (rIxL _) (tVar _) _) _ _); refine wd_ix_own rfl ?_) | with_reducible refine wd_op ?_ | ((with_reducible show WD _ _ (tCB (rLenX _) (tCons (tVar _) tNil)) _ _); refine wd_len_scr rfl ?_) | ((with_reducible show WD _ _ (tCB (rLenX _) (tCons (tVar _) tNil)) _ _); refine wd_len_own rfl ?_) | with_reducible refine wd_cb ?_ | with_reducible refine wd_un ?_ | with_reducible refine wa_cons ?_ | with_reducible refine wa_nil ?_ | ((with_reducible show WD _ _ (tVar _) _ _); refine wd_var rfl ?_) | with_reducible refine wd_int ?_ | with_reducible refine wd_bl ?_ | with_reducible refine wd_str ?_ | with_reducible refine wd_non ?_
  | with_reducible refine do_nesS ?_ | with_reducible refine dc_intB ?_ | with_reducible refine do_add ?_ | with_reducible refine do_sub ?_ | ((with_reducible refine do_mod ?_ ?_); decide) | with_reducible refine do_mod ?_ ?_ | with_reducible refine do_mul ?_ ?_ | ((with_reducible refine do_div ?_ ?_); exact ⟨by decide, by decide⟩) | with_reducible refine do_div ?_ ?_ | ((with_reducible refine do_pow ?_ ?_); exact ⟨by decide, by decide, by decide⟩) | with_reducible refine do_pow ?_ ?_
  | with_reducible refine do_lt ?_ | with_reducible refine do_le ?_ | with_reducible refine do_gt ?_ | with_reducible refine do_ge ?_ | with_reducible refine du_neg ?_
  | with_reducible refine do_eqi ?_ | with_reducible refine do_nei ?_ | with_reducible refine do_eqs ?_ | with_reducible refine do_nes ?_ | with_reducible refine dc_abs ?_ | with_reducible refine dc_min ?_ | with_reducible refine dc_max ?_ | with_reducible refine dc_lenL ?_ | with_reducible refine dc_lenT ?_ | with_reducible refine dc_lenR ?_ | with_reducible refine dc_listT ?_ | with_reducible refine dc_listL ?_ | with_reducible refine dc_tupL ?_ | with_reducible refine dc_gcd ?_
  | ((with_reducible show DO _ (rIxT _) _ _ _); refine do_ixT rfl ?_) | ((with_reducible show DO _ (rIxL _) _ _ _); refine do_ixL rfl ?_) | ((with_reducible refine do_catL ?_ ?_); exact Nat.le_of_ble_eq_true rfl) | with_reducible refine do_catL ?_ ?_ | ((with_reducible show And (List.length _ ≤ sizeLine) _); refine ⟨Nat.le_of_ble_eq_true rfl, ?_⟩)
  | with_reducible refine wd_dnew ?_ | with_reducible refine wd_call0 ?_ | with_reducible refine wd_slA ?_ | with_reducible refine wd_slL ?_ | with_reducible refine wd_revT ?_ | with_reducible refine do_catA ?_ ?_ | with_reducible refine wo_part ?_ | with_reducible refine wo_none ?_ | with_reducible refine do_eqQ ?_ | with_reducible refine do_neQ ?_ | with_reducible refine wi_enumT ?_ | with_reducible refine wi_enumD ?_ | with_reducible refine tAdQ (by omega) (by omega) ?_ | with_reducible refine tSbQ (by omega) (by omega) ?_ | with_reducible refine tMlQ (by omega) (by omega) ?_ | with_reducible refine tDvQ (by assumption) (by omega) (by omega) ?_ | with_reducible refine tLtQ (by omega) (by omega) ?_ | with_reducible refine dc_str ?_ ?_ | with_reducible refine wd_tup ?_ | with_reducible refine wd_lst ?_ | with_reducible refine wt_test ?_ | with_reducible refine wt_B ?_ | with_reducible refine wt_not ?_ | with_reducible refine wt_and ?_ | with_reducible refine wt_or ?_ | with_reducible refine wd_ifE ?_ | with_reducible refine wd_andV ?_ | with_reducible refine wd_orV ?_ | with_reducible refine wd_notV ?_
  | with_reducible refine ws_seq ?_ | with_reducible refine ws_next ?_ | with_reducible refine ws_asg ?_ | with_reducible refine ws_ret ?_ | with_reducible refine ws_retN ?_ | with_reducible refine ws_if ?_ | with_reducible refine ws_par ?_ | with_reducible refine ws_unp2 ?_
  | with_reducible refine if_t ?_ | with_reducible refine if_f ?_ | with_reducible refine if_nf ?_ | with_reducible refine if_nt ?_
  | ((with_reducible show Exists _); first | refine ⟨_, kitInt _, ?_⟩ | refine ⟨_, kitBool _, ?_⟩ | refine ⟨_, kitTup _, ?_⟩ | refine ⟨_, kitList _, ?_⟩ | refine ⟨_, rfl, ?_⟩ | refine ⟨_, _, rfl, ?_⟩ | fail) | fail))
def dayPs (p : Nat) (us vs : List Int) : Flds := [(.str "period", .int p), (.str "marks", .tuple (us.map PyData.int)), (.str "turned", .tuple (vs.map PyData.int))]
abbrev dayD (C : Addr) (p : Nat) (us vs : List Int) : PyData := insD C (dayPs p us vs)
/-- what Days are made of a period, marks and turned days -/
structure DyF (n : Nat) (ms ts : List Int) (p : Nat) (us vs : List Int) : Prop where
  p1 : 1 ≤ p
  pn : p ≤ n
  dv : p ∣ n
  ur : Ris us
  um : ∀ i, i ∈ us ↔ i ∈ ms ∧ i < p
  ul : us.length ≤ ms.length
  vr : Ris vs
  vm : ∀ i, i ∈ vs ↔ i ∈ ts
  vl : vs.length = ts.length
  per : ∀ i : Nat, ((i % n : Nat) : Int) ∈ ms ↔ ((i % p : Nat) : Int) ∈ ms
  least : ∀ j, 1 ≤ j → j < p → ¬ ∀ i : Nat, ((i % n : Nat) : Int) ∈ ms ↔ (((i + j) % n : Nat) : Int) ∈ ms
theorem DyF.has {n p : Nat} {ms ts us vs : List Int} (h : DyF n ms ts p us vs) (hm : ∀ m ∈ ms, 0 ≤ m ∧ m < n) (d : Int) : decide (d.fmod p ∈ us) = decide (d.fmod n ∈ ms) := by
  have p1 := h.p1
  have pn := h.pn
  obtain ⟨a0, a1⟩ := fmod_nn (i := d) (j := (p : Int)) (by omega)
  obtain ⟨b0, b1⟩ := fmod_nn (i := d) (j := (n : Int)) (by omega)
  have e1 : d.fmod p = ((((d.fmod n).toNat % p : Nat)) : Int) := by
    rw [Int.natCast_emod, Int.toNat_of_nonneg b0]
    have : d.fmod n = d % (n : Int) := Int.fmod_eq_emod_of_nonneg _ (by omega)
    rw [this, Int.fmod_eq_emod_of_nonneg _ (by omega)]
    exact (Int.emod_emod_of_dvd d (Int.natCast_dvd_natCast.mpr h.dv)).symm
  have e2 : d.fmod n = ((((d.fmod n).toNat % n : Nat)) : Int) := by
    rw [Nat.mod_eq_of_lt (by omega), Int.toNat_of_nonneg b0]
  refine decide_eq_decide.mpr ?_
  rw [h.um]
  have pr := h.per (d.fmod n).toNat
  rw [← e1, ← e2] at pr
  constructor
  · intro z; exact pr.mpr z.1
  · intro z; exact ⟨pr.mp z, a1⟩
theorem rnd_pat {n : Nat} {ms : List Int} (hn : 1 ≤ n) (i : Nat) : rnd (patL n ms) i = if ((i % n : Nat) : Int) ∈ ms then 49 else 48 := by
  unfold rnd
  rw [patL_len]
  have hi : i % n < n := Nat.mod_lt _ hn
  unfold patL
  rw [List.getD_eq_getElem?_getD, List.getElem?_map, List.getElem?_range hi]
  rfl
theorem pat_per {n : Nat} {ms : List Int} (hn : 1 ≤ n) {k : Nat} : Per (rnd (patL n ms)) k ↔ ∀ i : Nat, ((i % n : Nat) : Int) ∈ ms ↔ (((i + k) % n : Nat) : Int) ∈ ms := by
  have e : ∀ (A B : Prop) [Decidable A] [Decidable B], ((if A then 49 else 48) = (if B then 49 else (48 : Nat))) ↔ (A ↔ B) := fun A B _ _ => by
    by_cases a : A <;> by_cases b : B <;> simp [a, b]
  constructor
  · intro h i
    have := h i
    rw [rnd_pat hn, rnd_pat hn, e] at this
    exact this.symm
  · intro h i
    rw [rnd_pat hn, rnd_pat hn, e]
    exact (h i).symm
theorem ite_iff {A B : Prop} [Decidable A] [Decidable B] (h : (if A then 49 else 48 : Nat) = (if B then 49 else 48)) : A ↔ B := by
  by_cases a : A <;> by_cases b : B <;> simp [a, b] at h ⊢
theorem ris_of {l : List Int} (h : l.Pairwise (· ≤ ·)) (n : l.Nodup) : Ris l := by
  have := h.and n
  exact this.imp fun z => by omega
def TIniD : List PyData → (Flds → Prop) → Prop := fun ds Φ => ∃ (n : Nat) (b c : Bool) (ms ts : List Int), ds = [.int n, rowD b (ms.map PyData.int), rowD c (ts.map PyData.int)] ∧ DyOk n ms ts ∧ ∀ p us vs, DyF n ms ts p us vs → Φ (dayPs p us vs)
def THasD (C : Addr) : List PyData → (PyData → Prop) → Prop := fun ds Φ => ∃ (p : Nat) (us vs : List Int) (d : Int), ds = [dayD C p us vs, .int d] ∧ 1 ≤ p ∧ Ris us ∧ Ris vs ∧ us.length ≤ 100000 ∧ vs.length ≤ 100000 ∧ Φ (.bool (decide (d.fmod p ∈ us) != decide (d ∈ vs)))
def t_init (K : PySem.W.Frag) : TS :=
  (tSeq (tDrop (tCall (spP K TRefR) [] E0 (tCons (tVar 1) (tCons (tVar 2) (tCons (tVar 3) tNil)))))
    (tSeq (tAsg (tCall (spP K TPat) [] E0 (tCons (tVar 1) (tCons (tVar 2) tNil))) (gName 4))
    (tSeq (sFld K (tVar 0) (tBM K "str" rFind3 (tOp rAddS (tVar 4) (tVar 4)) (tCons (tVar 4) (tCons (tC (.int 1)) tNil))) "period")
    (tSeq (sFld K (tVar 0) (tCB (rTupOf K) (tCons (tCB (rSortR K) (tCons (tLc (iRow K (tVar 2)) (gName 5) (tTest (tOp rLt (tVar 5) (tFld K (tVar 0) "period"))) (tVar 5) [5]) tNil)) tNil)) "marks")
    (sFld K (tVar 0) (tCB (rTupOf K) (tCons (tCB (rSortR K) (tCons (tVar 3) tNil)) tNil)) "turned")))))
def t_has (K : PySem.W.Frag) : TS :=
  (tRet (tOp rNe (tCall (spP K TIsIn) [] E0 (tCons (tFld K (tVar 0) "marks") (tCons (tOp rModI (tVar 1) (tFld K (tVar 0) "period")) tNil))) (tCall (spP K TIsIn) [] E0 (tCons (tFld K (tVar 0) "turned") (tCons (tVar 1) tNil)))))
structure DayC (K : PySem.W.Frag) (C : Addr) : Prop where
  o : OwnC K C
  p : NoAttr K C "period"
  m : NoAttr K C "marks"
  t : NoAttr K C "turned"
section
variable {K : PySem.W.Frag} {ds : List PyData} {C : Addr}
theorem wsi_init {Φ : Flds → Prop} (c : DayC K C) (h : TIniD ds Φ) : WSI K C (t_init K) (.sto 0 :: (ds.map Sl.dat ++ List.replicate 2 .unk)) [] fun _ ps => Φ ps := by
  obtain ⟨n, b, b2, ms, ts, rfl, ok, h⟩ := h
  show WSI K C (t_init K) [.sto 0, .dat (.int n), .dat (rowD b (ms.map PyData.int)), .dat (rowD b2 (ts.map PyData.int)), .unk, .unk] [] _
  unfold t_init
  have n1 := ok.n1
  have n2 := ok.n2
  have ml := ok.ml
  have tl := ok.tl
  obtain ⟨k, ek, k1, kn, kd, kp, kl⟩ := find_per (w := patL n ms) (by rw [patL_len]; omega)
  rw [patL_len] at kn kd
  refine wsi_seq (wsi_ws fun S => ws_drop (wd_call0 (wa_cons (wd_var rfl (wa_cons (wd_var rfl (wa_cons (wd_var rfl (wa_nil ⟨n, b, b2, ms, ts, rfl, ok, ?_, ?_, rfl⟩)))))))))
  rotate_left
  · exact plR_sto (plR_dat (plR_dat (plR_dat (plR_unk (plR_unk plR_nil)))))
  refine wsi_seq (wsi_ws fun S => ws_asg (wd_call0 (wa_cons (wd_var rfl (wa_cons (wd_var rfl (wa_nil ⟨n, b, ms, rfl, by omega, by omega, ok.mb, ?_, ?_, rfl⟩)))))))
  rotate_left
  · exact plR_sto (plR_dat (plR_dat (plR_dat (plR_dat (plR_unk plR_nil)))))
  show WSI K C _ [.sto 0, .dat (.int n), .dat (rowD b (ms.map PyData.int)), .dat (rowD b2 (ts.map PyData.int)), .dat (.str (SX.S (patL n ms))), .unk] [] _
  have sl : (SX.S (patL n ms)).length = n := by rw [SX.S_len, patL_len]
  refine wsi_seq (wsi_fld c.o.cls c.p (by decide) fun x dx fs hf => wd_find3 (wd_op (wd_var rfl (wd_var rfl (do_addS2 (by rw [sl, sizeLine_eq]; omega) ⟨_, rfl, wa_cons (wd_var rfl (wa_cons (wd_int (wa_nil ⟨_, 1, rfl, ?_, ?_, rfl⟩))))⟩)))))
  rotate_left
  · exact plR_sto (plR_dat (plR_dat (plR_dat (plR_dat (plR_unk plR_nil)))))
  rw [SX.S_cat, ek]
  show WSI K C _ _ [(.str "period", .int (k : Int))] _
  refine wsi_seq (wsi_fld c.o.cls c.m (by show 1 < 999; decide) fun x dx fs hf => wd_cb (wa_cons (wd_cb (wa_cons (wd_lc (wi_rowD ⟨b, wd_var rfl ⟨ms.map PyData.int, rfl, by rw [List.length_map, sizeLine_eq]; omega, fun j acc ρ => acc = ((ms.take j).filter fun m => decide (m < (k : Int))).map PyData.int ∧ ρ = [.sto 0, .dat (.int n), .dat (rowD b (ms.map PyData.int)), .dat (rowD b2 (ts.map PyData.int)), .dat (.str (SX.S (patL n ms))), .unk], ⟨rfl, rfl⟩, ?_, ?_⟩⟩))))))
  · rintro j d acc ρ2 hd ⟨rfl, rfl⟩
    rw [List.getElem?_map] at hd
    obtain ⟨m, hm, rfl⟩ := Option.map_eq_some_iff.mp hd
    refine ⟨_, _, gd_name, fun j hj => hj, ?_⟩
    refine wt_test (wd_op (wd_var rfl (wd_fldS c.o.cls c.p rfl (hf "period" _ rfl) (do_lt ⟨_, rfl, ?_⟩))))
    refine if_b (fun z => ?_) (fun z => ?_)
    · refine wd_var rfl ⟨?_, rfl⟩
      rw [List.take_add_one, hm, Option.toList_some, List.filter_append, List.map_append, List.filter_cons_of_pos (by simpa using z)]; rfl
    · refine ⟨?_, rfl⟩
      rw [List.take_add_one, hm, Option.toList_some, List.filter_append, List.map_append, List.filter_cons_of_neg (by simpa using z)]; simp
  · rintro acc ρ2 ⟨rfl, rfl⟩
    rw [List.length_map, List.take_length]
    refine wa_nil (dc_sortL fun us hp hs => wa_nil (dc_tupL ⟨?_, plR_sto (plR_dat (plR_dat (plR_dat (plR_dat (plR_unk plR_nil))))), rfl⟩))
    have us_nd : us.Nodup := (hp.nodup_iff).mpr (ok.mn.filter _)
    refine wsi_fld c.o.cls c.t (by show 2 < 999; decide) fun x dx fs hf => wd_cb (wa_cons (wd_cb (wa_cons (wd_var rfl (wa_nil ?_)))))
    have fin : ∀ vs : List Int, vs.Perm ts → vs.Pairwise (· ≤ ·) → Φ (dayPs k us vs) := fun vs vp vsr => by
      refine h k us vs ⟨k1, kn, kd, ris_of hs us_nd, fun i => ?_, ?_, ris_of vsr ((vp.nodup_iff).mpr ok.tn), fun i => vp.mem_iff, vp.length_eq, fun i => ?_, fun j j1 jk z => ?_⟩
      · rw [hp.mem_iff, List.mem_filter, decide_eq_true_iff]
      · rw [hp.length_eq]; exact List.length_filter_le _ _
      · have e1 := kp.at i
        rw [rnd_pat n1, rnd_pat n1, Nat.mod_eq_of_lt (a := i % k) (b := n) (by have := Nat.mod_lt i (show 0 < k by omega); omega)] at e1
        exact ite_iff e1
      · exact kl j j1 jk ((pat_per n1).mpr z)
    cases b2 with
    | false => exact dc_sortT fun vs vp vsr => wa_nil (dc_tupL ⟨fin vs vp vsr, plR_sto (plR_dat (plR_dat (plR_dat (plR_dat (plR_unk plR_nil))))), rfl⟩)
    | true => exact dc_sortL fun vs vp vsr => wa_nil (dc_tupL ⟨fin vs vp vsr, plR_sto (plR_dat (plR_dat (plR_dat (plR_dat (plR_unk plR_nil))))), rfl⟩)
theorem ws_has {Φ : PyData → Prop} (c : DayC K C) (h : THasD C ds Φ) : WS K S0 (t_has K) (rhoOf 2 ds) { nx := fun _ => Φ .none, rt := fun d _ => Φ d } := by
  obtain ⟨p, us, vs, d, rfl, p1, ur, vr, ul, vl, h⟩ := h
  show WS K S0 (t_has K) [.dat (dayD C p us vs), .dat (.int d)] _
  unfold t_has
  refine ws_ret (wd_op (wd_call0 (wa_cons (wd_fld (wd_var rfl ⟨C, _, _, rfl, c.m, rfl, wa_cons (wd_op (wd_var rfl (wd_fld (wd_var rfl ⟨C, _, _, rfl, c.p, rfl, ?_⟩))))⟩)))))
  refine do_mod (by omega) (wa_nil ⟨us, _, rfl, ur, ul, ?_⟩)
  refine wd_call0 (wa_cons (wd_fld (wd_var rfl ⟨C, _, _, rfl, c.t, rfl, wa_cons (wd_var rfl (wa_nil ⟨vs, _, rfl, vr, vl, do_neb ?_⟩))⟩)))
  have e : ∀ a b : Bool, (!decide (a = b)) = (a != b) := fun a b => by cases a <;> cases b <;> rfl
  rw [e]; exact h
end
end DL

set_option Elab.async false
set_option linter.all false
set_option maxRecDepth 100000
set_option maxHeartbeats 4000000
/-! DI6: what the laws over Days draw -/
namespace DL
open PySem PySem.Spec PyProof.Rows L2
local macro_rules | `(tactic| walk_at "dl") => `(tactic| repeat' (first
  | with_reducible refine wd_isTy ?_ | with_reducible refine wd_isi ?_ | ((with_reducible show WD _ _ (tOp (rIxL _) (tVar _) _) _ _); refine wd_ix_own rfl ?_) | with_reducible refine wd_op ?_ | ((with_reducible show WD _ _ (tCB (rLenX _) (tCons (tVar _) tNil)) _ _); refine wd_len_scr rfl ?_) | ((with_reducible show WD _ _ (tCB (rLenX _) (tCons (tVar _) tNil)) _ _); refine wd_len_own rfl ?_) | with_reducible refine wd_cb ?_ | with_reducible refine wd_un ?_ | with_reducible refine wa_cons ?_ | with_reducible refine wa_nil ?_ | ((with_reducible show WD _ _ (tVar _) _ _); refine wd_var rfl ?_) | with_reducible refine wd_int ?_ | with_reducible refine wd_bl ?_ | with_reducible refine wd_str ?_ | with_reducible refine wd_non ?_
  | with_reducible refine do_nesS ?_ | with_reducible refine dc_intB ?_ | with_reducible refine do_add ?_ | with_reducible refine do_sub ?_ | ((with_reducible refine do_mod ?_ ?_); decide) | with_reducible refine do_mod ?_ ?_ | with_reducible refine do_mul ?_ ?_ | ((with_reducible refine do_div ?_ ?_); exact ⟨by decide, by decide⟩) | with_reducible refine do_div ?_ ?_ | ((with_reducible refine do_pow ?_ ?_); exact ⟨by decide, by decide, by decide⟩) | with_reducible refine do_pow ?_ ?_
  | with_reducible refine do_lt ?_ | with_reducible refine do_le ?_ | with_reducible refine do_gt ?_ | with_reducible refine do_ge ?_ | with_reducible refine du_neg ?_
  | with_reducible refine do_eqi ?_ | with_reducible refine do_nei ?_ | with_reducible refine do_eqs ?_ | with_reducible refine do_nes ?_ | with_reducible refine dc_abs ?_ | with_reducible refine dc_min ?_ | with_reducible refine dc_max ?_ | with_reducible refine dc_lenL ?_ | with_reducible refine dc_lenT ?_ | with_reducible refine dc_lenR ?_ | with_reducible refine dc_listT ?_ | with_reducible refine dc_listL ?_ | with_reducible refine dc_tupL ?_ | with_reducible refine dc_gcd ?_
  | ((with_reducible show DO _ (rIxT _) _ _ _); refine do_ixT rfl ?_) | ((with_reducible show DO _ (rIxL _) _ _ _); refine do_ixL rfl ?_) | ((with_reducible refine do_catL ?_ ?_); exact Nat.le_of_ble_eq_true rfl) | with_reducible refine do_catL ?_ ?_ | ((with_reducible show And (List.length _ ≤ sizeLine) _); refine ⟨Nat.le_of_ble_eq_true rfl, ?_⟩)
  | with_reducible refine wd_dnew ?_ | with_reducible refine wd_call0 ?_ | with_reducible refine wd_slA ?_ | with_reducible refine wd_slL ?_ | with_reducible refine wd_revT ?_ | with_reducible refine do_catA ?_ ?_ | with_reducible refine wo_part ?_ | with_reducible refine wo_none ?_ | with_reducible refine do_eqQ ?_ | with_reducible refine do_neQ ?_ | with_reducible refine wi_enumT ?_ | with_reducible refine wi_enumD ?_ | with_reducible refine tAdQ (by omega) (by omega) ?_ | with_reducible refine tSbQ (by omega) (by omega) ?_ | with_reducible refine tMlQ (by omega) (by omega) ?_ | with_reducible refine tDvQ (by assumption) (by omega) (by omega) ?_ | with_reducible refine tLtQ (by omega) (by omega) ?_ | with_reducible refine dc_str ?_ ?_ | with_reducible refine wd_tup ?_ | with_reducible refine wd_lst ?_ | with_reducible refine wt_test ?_ | with_reducible refine wt_B ?_ | with_reducible refine wt_not ?_ | with_reducible refine wt_and ?_ | with_reducible refine wt_or ?_ | with_reducible refine wd_ifE ?_ | with_reducible refine wd_andV ?_ | with_reducible refine wd_orV ?_ | with_reducible refine wd_notV ?_
  | with_reducible refine ws_seq ?_ | with_reducible refine ws_next ?_ | with_reducible refine ws_asg ?_ | with_reducible refine ws_ret ?_ | with_reducible refine ws_retN ?_ | with_reducible refine ws_if ?_ | with_reducible refine ws_par ?_ | with_reducible refine ws_unp2 ?_
  | with_reducible refine if_t ?_ | with_reducible refine if_f ?_ | with_reducible refine if_nf ?_ | with_reducible refine if_nt ?_
  | ((with_reducible show Exists _); first | refine ⟨_, kitInt _, ?_⟩ | refine ⟨_, kitBool _, ?_⟩ | refine ⟨_, kitTup _, ?_⟩ | refine ⟨_, kitList _, ?_⟩ | refine ⟨_, rfl, ?_⟩ | refine ⟨_, _, rfl, ?_⟩ | fail) | fail))
/-! ### list(dict([(x, True) ..])): each once -/
abbrev rDictP (K : PySem.W.Frag) : List V → Hp → VK → Prop := fun xs H Q => ∃ (a : Addr) (ps : List Addr) (kvs : List (Key × V)), xs = [.ref a] ∧ SqL K H a (ps.map V.ref) ∧ Paired (fun p kv => SqT K H p [kV kv.1, kv.2]) ps kvs ∧
    ∀ p, H p = none → Q (.ref p) (upd H p (.dK (mergeK [] kvs)))
abbrev rListD : List V → Hp → VK → Prop := fun xs H Q => ∃ (a : Addr) (kvs : List (Key × V)), xs = [.ref a] ∧ Rd H a (.dK kvs) ∧ ∀ p, H p = none → Q (.ref p) (upd H p (.lst (kvs.map fun kv => kV kv.1)))
abbrev tUniq (K : PySem.W.Frag) (te : TE) : TE := tCB rListD (tCons (tCB (rDictP K) (tCons te tNil)) tNil)
theorem put_keys {l : List (Key × V)} {v : V} {i : Int} : ((Sum.inl i : Key) ∈ l.map (·.1) → (putK l (Sum.inl i) v).map (·.1) = l.map (·.1)) ∧ (¬ (Sum.inl i : Key) ∈ l.map (·.1) → (putK l (Sum.inl i) v).map (·.1) = l.map (·.1) ++ [Sum.inl i]) := by
  unfold putK
  refine ⟨fun c => ?_, fun c => ?_⟩
  · have c2 : (l.any fun kv => decide (kv.1 = Sum.inl i)) = true := by
      obtain ⟨x, hx, e⟩ := List.mem_map.mp c
      exact List.any_eq_true.mpr ⟨x, hx, decide_eq_true e⟩
    rw [if_pos c2, List.map_map]
    refine List.map_congr_left fun x _ => ?_
    show (if x.1 = Sum.inl i then (x.1, v) else x).1 = x.1
    split <;> rfl
  · have c2 : ¬ (l.any fun kv => decide (kv.1 = Sum.inl i)) = true := fun z => by
      obtain ⟨x, hx, e⟩ := List.any_eq_true.mp z
      exact c (List.mem_map.mpr ⟨x, hx, of_decide_eq_true e⟩)
    rw [if_neg c2, List.map_append]; rfl
theorem merge_keys {v : V} : ∀ (ns : List Int) (acc : List (Key × V)) (os : List Int), acc.map (·.1) = os.map Sum.inl → os.Nodup → ∃ out : List Int, (mergeK acc (ns.map fun i => ((Sum.inl i : Key), v))).map (·.1) = out.map Sum.inl ∧ out.Nodup ∧ ∀ k, k ∈ out ↔ k ∈ os ∨ k ∈ ns
  | [], acc, os, e, nd => ⟨os, e, nd, fun k => by simp⟩
  | i :: r, acc, os, e, nd => by
    have pk := put_keys (l := acc) (v := v) (i := i)
    rw [e] at pk
    have mm : (Sum.inl i : Key) ∈ os.map Sum.inl ↔ i ∈ os := by
      constructor
      · intro z
        obtain ⟨x, hx, ex⟩ := List.mem_map.mp z
        injection ex with ex
        rw [← ex]; exact hx
      · intro z; exact List.mem_map.mpr ⟨i, z, rfl⟩
    show ∃ out : List Int, (mergeK (putK acc (Sum.inl i) v) (r.map fun i => ((Sum.inl i : Key), v))).map (·.1) = _ ∧ _
    by_cases c : i ∈ os
    · have pk := pk.1 (mm.mpr c)
      obtain ⟨out, h1, h2, h3⟩ := merge_keys r _ os pk nd
      refine ⟨out, h1, h2, fun k => ?_⟩
      rw [h3, List.mem_cons]
      constructor
      · rintro (h | h)
        · exact .inl h
        · exact .inr (.inr h)
      · rintro (h | rfl | h)
        · exact .inl h
        · exact .inl c
        · exact .inr h
    · have pk := pk.2 fun z => c (mm.mp z)
      obtain ⟨out, h1, h2, h3⟩ := merge_keys r _ (os ++ [i]) (by rw [pk, List.map_append]; rfl) (List.nodup_append.mpr ⟨nd, List.pairwise_singleton _ _, fun a ha b hb e2 => by rw [List.mem_singleton] at hb; subst hb; rw [e2] at ha; exact c ha⟩)
      refine ⟨out, h1, h2, fun k => ?_⟩
      rw [h3, List.mem_cons, List.mem_append, List.mem_singleton]
      constructor
      · rintro ((h | h) | h)
        · exact .inl h
        · exact .inr (.inl h)
        · exact .inr (.inr h)
      · rintro (h | h | h)
        · exact .inl (.inl h)
        · exact .inl (.inr h)
        · exact .inr h
section
variable {K : PySem.W.Frag} {S : Stt} {ρ : Rho} {Φ : PyData → Rho → Prop} {Ψ : PyData → Prop}
theorem pairs_dq {N : Av} {H : Hp} : ∀ {ns : List Int} {xs : List V}, DqAll K N H xs (ns.map fun i => PyData.tuple [.int i, .bool true]) → ∃ ps : List Addr, xs = ps.map V.ref ∧ Paired (fun p (kv : Key × V) => SqT K H p [kV kv.1, kv.2]) ps (ns.map fun i => ((Sum.inl i : Key), V.bl true))
  | [], _, h => by cases h; exact ⟨[], rfl, .nil⟩
  | i :: r, _, h => by
    cases h with
    | cons h1 h2 =>
      obtain ⟨ps, e, pr⟩ := pairs_dq (ns := r) h2
      obtain ⟨p, us, rfl, _, hs, hu⟩ := Dq.tup_inv (N := N) (H := H) h1
      cases hu with
      | cons a1 a2 =>
        cases a2 with
        | cons a2 a3 =>
          cases a3; cases a1; cases a2
          exact ⟨p :: ps, by rw [e]; rfl, .cons hs pr⟩
theorem wd_uniq {te : TE} (h : WD K S te ρ fun d ρ1 => ∃ ns : List Int, d = .list (ns.map fun i => PyData.tuple [.int i, .bool true]) ∧ ∀ out : List Int, out.Nodup → (∀ k, k ∈ out ↔ k ∈ ns) → Φ (.list (out.map PyData.int)) ρ1) : WD K S (tUniq K te) ρ Φ := fun H0 N0 Z N σ H E Q q =>
  h H0 N0 Z N σ H E _ fun v d ρ1 H1 ⟨ns, e, f⟩ E1 k1 d1 => by
    subst e
    obtain ⟨p, xs, rfl, _, h1, h2⟩ := d1.lst_inv
    obtain ⟨ps, rfl, pr⟩ := pairs_dq h2
    obtain ⟨out, e1, e2, e3⟩ := merge_keys (v := V.bl true) ns [] [] rfl List.nodup_nil
    refine ⟨p, ps, _, rfl, .inl h1, pr, fun r hr => ?_⟩
    have s1 := same_new hr (.dK (mergeK [] (ns.map fun i => ((Sum.inl i : Key), V.bl true))))
    refine ⟨r, _, rfl, .inl upd_same, fun r2 hr2 => ?_⟩
    have ek : (mergeK [] (ns.map fun i => ((Sum.inl i : Key), V.bl true))).map (fun kv => kV kv.1) = out.map V.int := by
      have : (mergeK [] (ns.map fun i => ((Sum.inl i : Key), V.bl true))).map (fun kv => kV kv.1) = ((mergeK [] (ns.map fun i => ((Sum.inl i : Key), V.bl true))).map (·.1)).map kV := by rw [List.map_map]; rfl
      rw [this, e1, List.map_map]; rfl
    rw [ek]
    have s2 := same_new hr2 (.lst (out.map V.int))
    have E2 := (E1.ext s1).ext s2
    exact q _ _ ρ1 _ (f out e2 fun k => by rw [e3]; simp) E2 ((k1.trans (Keep.of s1)).trans (Keep.of s2)) (Dq.lst (fresh_av (E1.ext s1).trk hr2) upd_same DqAll.ints)
end
/-! ### drawn -/
/-- a reel of numbers, of the script's k-th cell -/
def spReel (K : PySem.W.Frag) : Sp := fun vs H Q _ => ∃ (a0 : Addr) (ns : List Int) (k : Int), vs = [.ref a0, .int k] ∧ SqL K H a0 (ns.map V.int) ∧ ns.length ≤ 63 ∧ 0 ≤ k ∧ k ≤ 100 ∧
  ∀ ns', PotL ns' 0 → ∀ p H', H p = none → Same H H' → H' p = some (.lst (ns'.map V.int)) → Q (.ref p) H'
def t_reel (K : PySem.W.Frag) : TS :=
  (tSeq (tAsg (tC (.int 0)) (gName 2))
    (tSeq (tIfS (tTest (tOp rLt (tVar 1) (tCB (rLenX K) (tCons (tVar 0) tNil)))) (tAsg (tOp (rIxL K) (tVar 0) (tVar 1)) (gName 2)) tNext)
    (tRet (tLst (tCons (tCB rMaxX (tCons (tC (.int 0)) (tCons (tOp rSubI (tVar 2) (tOp rPowI (tC (.int 10)) (tC (.int 18)))) tNil))) (tCons (tOp rAddI (tOp rModI (tVar 2) (tC (.int 2147483629))) (tOp rMulI (tC (.int 104729)) (tVar 1))) (tCons (tC (.int 0)) tNil)))))))
def t_draw13 (K : PySem.W.Frag) : TS :=
  (tSeq (tIfS (tTest (tOp rGt (tOp (rIxL K) (tVar 0) (tC (.int 0))) (tC (.int 0)))) (tSeq (tAsg (tOp rModI (tOp (rIxL K) (tVar 0) (tC (.int 0))) (tVar 1)) (gName 2))
    (tSeq (tAsg (tOp rDivI (tOp (rIxL K) (tVar 0) (tC (.int 0))) (tVar 1)) (gSub (tVar 0) (tC (.int 0)) rSetL))
    (tRet (tVar 2)))) tNext)
    (tSeq (tAsg (tOp rAddI (tOp (rIxL K) (tVar 0) (tC (.int 2))) (tC (.int 1))) (gSub (tVar 0) (tC (.int 2)) rSetL))
    (tSeq (tAsg (tOp (rIxL K) (tVar 0) (tC (.int 2))) (gName 3))
    (tSeq (tAsg (tLst (tCons (tC (.int 2147483587)) (tCons (tC (.int 2147483579)) (tCons (tC (.int 2147483563)) (tCons (tC (.int 2147483549)) (tCons (tC (.int 2147483543)) (tCons (tC (.int 2147483497)) (tCons (tC (.int 2147483489)) tNil)))))))) (gName 4))
    (tSeq (tAsg (tOp rModI (tOp rMulI (tOp rAddI (tOp (rIxL K) (tVar 0) (tC (.int 1))) (tC (.int 7))) (tOp rAddI (tOp rMulI (tVar 3) (tVar 3)) (tC (.int 48271)))) (tOp (rIxL K) (tVar 4) (tOp rModI (tVar 3) (tC (.int 7))))) (gName 5))
    (tSeq (tAsg (tOp rModI (tOp rAddI (tOp rAddI (tOp rMulI (tVar 5) (tVar 5)) (tOp rMulI (tC (.int 69621)) (tVar 3))) (tC (.int 12345))) (tOp (rIxL K) (tVar 4) (tOp rModI (tOp rAddI (tVar 3) (tC (.int 3))) (tC (.int 7))))) (gName 5))
    (tRet (tOp rModI (tOp rDivI (tOp rModI (tOp rMulI (tVar 5) (tOp rAddI (tVar 5) (tC (.int 40692)))) (tC (.int 2147483629))) (tC (.int 7))) (tVar 1)))))))))
section
variable {K : PySem.W.Frag} {S : Stt} {ρ : Rho} {Φ : PyData → Rho → Prop}
theorem ws_reel {E : XK} {te : TE} {i : Nat} {ns : List Int} {En : DE} (h0 : ρ[0]? = some (.scr ns)) (hl : ns.length ≤ 63) (h : WD K S te ρ fun d ρ1 => ρ1[0]? = some (.scr ns) ∧ ∃ k : Int, d = .int k ∧ 0 ≤ k ∧ k ≤ 100 ∧ ∀ ns', PotL ns' 0 → En.nx (ρ1.set i (.own (ns'.map PyData.int)))) :
    WS K S (tAsg (tCall (spReel K) [] E (tCons (tVar 0) (tCons te tNil))) (gName i)) ρ En := fun H0 N0 Z N σ H D E' M => by
  obtain ⟨a, g1, _⟩ := E'.slot 0 _ h0
  refine ⟨_, g1, h H0 N0 Z N σ H E' _ fun v d ρ1 H1 ⟨e1, k, ed, k0, k1', f⟩ E1 k1 d1 => ?_⟩
  subst ed
  obtain rfl := d1.int_inv
  obtain ⟨a', g1', g2'⟩ := E1.slot 0 _ e1
  rw [g1] at g1'; cases g1'
  refine ⟨a, ns, k, rfl, ?_, hl, k0, k1', fun ns' hns p H' hp sm hp' => ?_⟩
  · rcases g2' with r | r
    · exact .inl (same_rd Same.wo1 r)
    · exact .inr r
  obtain ⟨z1, z2⟩ := free0 E1 hp
  have s1 : Same H1 (fun b => if b = p then none else H' b) := fun b o hb => by
    have : b ≠ p := fun z => by rw [z, hp] at hb; cases hb
    show (if b = p then none else H' b) = some o
    rw [if_neg this]; exact sm b o hb
  have e : upd (fun b => if b = p then none else H' b) p (.lst (ns'.map V.int)) = H' := by
    funext b
    by_cases z : b = p
    · subst z; rw [upd_same, hp']
    · rw [upd_ne z, if_neg z]
  have E2 := (E1.ext s1).new (i := i) (p := p) (xs := ns'.map V.int) (ds := ns'.map PyData.int) (if_pos rfl) z1 z2 DqAll.ints
  rw [e] at E2
  exact M.nx _ _ _ _ (f ns' hns) E2
theorem reel_run {vs : List V} {H : Hp} {Q : VK} {E : XK} (h : spReel K vs H Q E) : t_reel K { nx := fun _ H' => Q .non H', rt := Q } (L2.start ["_law_script", "_law_k", "_law_cell"] vs) H := by
  obtain ⟨a, ns, k, rfl, hs, hl, k0, k1, hQ⟩ := h
  show t_reel K { nx := fun _ H' => Q .non H', rt := Q } [some (.ref a), some (.int k), none] H
  unfold t_reel
  have fin : ∀ c : Int, (tRet (tLst (tCons (tCB rMaxX (tCons (tC (.int 0)) (tCons (tOp rSubI (tVar 2) (tOp rPowI (tC (.int 10)) (tC (.int 18)))) tNil))) (tCons (tOp rAddI (tOp rModI (tVar 2) (tC (.int 2147483629))) (tOp rMulI (tC (.int 104729)) (tVar 1))) (tCons (tC (.int 0)) tNil))))) { nx := fun _ H' => Q .non H', rt := Q } [some (.ref a), some (.int k), some (.int c)] H := fun c => by
    obtain ⟨z1, z2⟩ := fmod_nn (i := c) (j := 2147483629) (by decide)
    refine ⟨_, rfl, 10, 18, rfl, rfl, ⟨by decide, by decide, by decide⟩, c, _, rfl, rfl, 0, _, rfl, ?_⟩
    refine ⟨_, rfl, c, 2147483629, rfl, rfl, (by show (2147483629 : Int) ≠ 0; decide), _, rfl, 104729, k, rfl, rfl, wide_mul (a := 20) (b := 20) (by decide) (by omega) (by decide) (by decide) (by decide), _, _, rfl, rfl, ?_⟩
    refine ⟨by show 3 ≤ sizeLine; decide, fun p hp => ?_⟩
    dsimp only
    refine hQ [_, _, 0] ⟨_, _, 0, rfl, ?_, ?_, ?_, by decide, by decide⟩ p _ hp (same_new hp _) upd_same
    · split <;> omega
    · omega
    · omega
  refine ⟨_, rfl, _, rfl, a, _, rfl, .inl hs, _, _, rfl, rfl, decide (k < ((ns.map V.int).length : Int)), rfl, ?_⟩
  rw [List.length_map]
  show (if decide (k < (ns.length : Int)) = true then _ else _)
  by_cases c : k < (ns.length : Int)
  · rw [if_pos (decide_eq_true c)]
    obtain ⟨j, rfl⟩ : ∃ j : Nat, k = j := ⟨k.toNat, by omega⟩
    have hj : j < ns.length := by omega
    exact ⟨_, rfl, _, rfl, a, _, (j : Int), _, rfl, rfl, hs, atI_nat (by rw [List.getElem?_map, List.getElem?_eq_getElem hj]; rfl), fin _⟩
  · rw [if_neg fun z => c (of_decide_eq_true z)]
    exact fin 0
theorem draw13_run {vs : List V} {H : Hp} {Q : VK} {E : XK} (h : spS K FPot TTake vs H Q E) :
    t_draw13 K { nx := fun _ H' => Q .non H', rt := Q } (L2.start ["_law_reel_here", "_law_many", "_law_digit", "_law_turn", "_law_primes", "_law_one"] vs) H := by
  obtain ⟨S, N, us, ds, B, Φ, rfl, ⟨a, rfl⟩, hok, hle, ht, hd, ⟨m, rfl, m1, mM, hB, hT⟩, hQ⟩ := h
  obtain ⟨ns, pl, ha⟩ := hok
  obtain ⟨p0, p1, p2, rfl, h0, h1, h2, h3, h4⟩ := pl.ex
  cases hd with
  | cons hd1 hd2 =>
  cases hd2
  cases hd1
  have ha' : H a = some (.lst [V.int p0, .int p1, .int p2]) := ha
  have fin : ∀ (d : Int) (H' : Hp) (q0 q2 : Int), 0 ≤ d → d < m → H' a = some (.lst [V.int q0, .int p1, .int q2]) → (∀ b o, b ≠ a → H b = some o → H' b = some o) → 0 ≤ q0 → 0 ≤ q2 → q2 ≤ B + 1 → Q (.int d) H' := by
    intro d H' q0 q2 d0 d1 e fr z0 z2 z3
    refine hQ _ _ (hT d d0 d1) _ H' (fun b o hb hy => fr b o (of_decide_eq_false hb) hy) ⟨[q0, p1, q2], ⟨q0, p1, q2, rfl, z0, h1, h2, z2, by omega⟩, e⟩ (Dt.int _)
  have hm9 : m.natAbs.log2 < 9000 := by
    have := log2_small (m := m) (k := 41) (by omega) (by omega) (by decide)
    omega
  have r0 : ∀ {H' : Hp} {q0 q2 : Int} {Q' : VK}, H' a = some (.lst [V.int q0, .int p1, .int q2]) → Q' (.int q0) H' → rIxL K (.ref a) (.int 0) H' Q' := fun e q => ⟨a, _, 0, _, rfl, rfl, .inl (.inl e), rfl, q⟩
  have r1 : ∀ {H' : Hp} {q0 q2 : Int} {Q' : VK}, H' a = some (.lst [V.int q0, .int p1, .int q2]) → Q' (.int p1) H' → rIxL K (.ref a) (.int 1) H' Q' := fun e q => ⟨a, _, 1, _, rfl, rfl, .inl (.inl e), rfl, q⟩
  have r2 : ∀ {H' : Hp} {q0 q2 : Int} {Q' : VK}, H' a = some (.lst [V.int q0, .int p1, .int q2]) → Q' (.int q2) H' → rIxL K (.ref a) (.int 2) H' Q' := fun e q => ⟨a, _, 2, _, rfl, rfl, .inl (.inl e), rfl, q⟩
  show t_draw13 K { nx := fun _ H' => Q .non H', rt := Q } [some (.ref a), some (.int m), none, none, none, none] H
  refine ⟨_, rfl, ?_⟩
  dsimp only [tC]
  refine r0 ha' ?_
  refine ⟨p0, 0, rfl, rfl, decide ((0 : Int) < p0), rfl, ?_⟩
  show (if decide ((0 : Int) < p0) = true then _ else _)
  by_cases hlt : 0 < p0
  · rw [if_pos (decide_eq_true hlt)]
    refine ⟨_, rfl, ?_⟩
    dsimp only [tC]
    refine r0 ha' ?_
    refine ⟨_, rfl, p0, m, rfl, rfl, by omega, ?_⟩
    refine ⟨_, rfl, ?_⟩
    dsimp only [tC]
    refine r0 ha' ?_
    refine ⟨_, rfl, p0, m, rfl, rfl, ⟨by omega, hm9⟩, ?_⟩
    refine ⟨_, rfl, a, _, 0, 0, rfl, rfl, ha', rfl, ?_⟩
    obtain ⟨z1, z2⟩ := fmod_nn (i := p0) (j := m) (by omega)
    refine ⟨_, rfl, fin _ _ (p0.fdiv m) p2 z1 z2 upd_same (fun b o nb hb => by rw [upd_ne nb]; exact hb) (fdiv_nn h0 (by omega)) h3 (by omega)⟩
  · rw [if_neg (fun z => hlt (of_decide_eq_true z))]
    show tNext _ _ _
    refine ⟨_, rfl, ?_⟩
    dsimp only [tC]
    refine r2 ha' ?_
    refine ⟨p2, 1, rfl, rfl, ?_⟩
    refine ⟨_, rfl, a, _, 2, 2, rfl, rfl, ha', rfl, ?_⟩
    have h1a : (upd H a (.lst ([V.int p0, .int p1, .int p2].set 2 (.int (p2 + 1))))) a = some (.lst [V.int p0, .int p1, .int (p2 + 1)]) := upd_same
    have f1 : ∀ b o, b ≠ a → H b = some o → (upd H a (.lst ([V.int p0, .int p1, .int p2].set 2 (.int (p2 + 1))))) b = some o := fun b o nb hb => by rw [upd_ne nb]; exact hb
    generalize upd H a (.lst ([V.int p0, .int p1, .int p2].set 2 (.int (p2 + 1)))) = H1 at h1a f1 ⊢
    -- turn
    refine ⟨_, rfl, ?_⟩
    dsimp only [tC]
    refine r2 h1a ?_
    -- primes
    refine ⟨by show 7 ≤ sizeLine; decide, fun b1 hb1 => ?_⟩
    have e2 := same_new hb1 (.lst [V.int 2147483587, .int 2147483579, .int 2147483563, .int 2147483549, .int 2147483543, .int 2147483497, .int 2147483489])
    have hL : (upd H1 b1 (.lst [V.int 2147483587, .int 2147483579, .int 2147483563, .int 2147483549, .int 2147483543, .int 2147483497, .int 2147483489])) b1 = some (.lst [V.int 2147483587, .int 2147483579, .int 2147483563, .int 2147483549, .int 2147483543, .int 2147483497, .int 2147483489]) := upd_same
    have h2a := e2 _ _ h1a
    have f2 : ∀ b o, b ≠ a → H b = some o → (upd H1 b1 (.lst [V.int 2147483587, .int 2147483579, .int 2147483563, .int 2147483549, .int 2147483543, .int 2147483497, .int 2147483489])) b = some o := fun b o nb hb => e2 _ _ (f1 b o nb hb)
    generalize upd H1 b1 (.lst [V.int 2147483587, .int 2147483579, .int 2147483563, .int 2147483549, .int 2147483543, .int 2147483497, .int 2147483489]) = H2 at hL h2a f2 ⊢
    have prime : ∀ (t : Int) (Q' : VK), (∀ pr : Int, 2000000000 < pr → pr < 2 ^ 31 → Q' (.int pr) H2) → rIxL K (.ref b1) (.int (t.fmod 7)) H2 Q' := fun t Q' k => by
      obtain ⟨b1', b2⟩ := fmod_nn (i := t) (j := 7) (by decide)
      have hc : t.fmod 7 = 0 ∨ t.fmod 7 = 1 ∨ t.fmod 7 = 2 ∨ t.fmod 7 = 3 ∨ t.fmod 7 = 4 ∨ t.fmod 7 = 5 ∨ t.fmod 7 = 6 := by omega
      rcases hc with e | e | e | e | e | e | e <;> rw [e]
      · exact ⟨b1, _, 0, _, rfl, rfl, .inl (.inl hL), rfl, k _ (by decide) (by decide)⟩
      · exact ⟨b1, _, 1, _, rfl, rfl, .inl (.inl hL), rfl, k _ (by decide) (by decide)⟩
      · exact ⟨b1, _, 2, _, rfl, rfl, .inl (.inl hL), rfl, k _ (by decide) (by decide)⟩
      · exact ⟨b1, _, 3, _, rfl, rfl, .inl (.inl hL), rfl, k _ (by decide) (by decide)⟩
      · exact ⟨b1, _, 4, _, rfl, rfl, .inl (.inl hL), rfl, k _ (by decide) (by decide)⟩
      · exact ⟨b1, _, 5, _, rfl, rfl, .inl (.inl hL), rfl, k _ (by decide) (by decide)⟩
      · exact ⟨b1, _, 6, _, rfl, rfl, .inl (.inl hL), rfl, k _ (by decide) (by decide)⟩
    -- one
    refine ⟨_, rfl, ?_⟩
    dsimp only [tC]
    refine r1 h2a ?_
    refine ⟨p1, 7, rfl, rfl, ?_⟩
    refine ⟨_, rfl, _, rfl, p2 + 1, p2 + 1, rfl, rfl, wide_mul (a := 64) (b := 64) (by omega) (by omega) (by decide) (by decide) (by decide), (p2 + 1) * (p2 + 1), 48271, rfl, rfl, ?_⟩
    have sq : ((p2 + 1) * (p2 + 1)).natAbs < 2 ^ 100 := by
      rw [Int.natAbs_mul]
      have : (p2 + 1).natAbs ≤ 2 ^ 41 := by omega
      have := Nat.mul_le_mul this this
      omega
    refine ⟨p1 + 7, (p2 + 1) * (p2 + 1) + 48271, rfl, rfl, wide_mul (a := 64) (b := 101) (by omega) (by omega) (by decide) (by decide) (by decide), ?_⟩
    refine ⟨_, rfl, _, rfl, p2 + 1, 7, rfl, rfl, (by show (7 : Int) ≠ 0; decide), ?_⟩
    refine prime _ _ fun pr q0 q1 => ?_
    refine ⟨_, pr, rfl, rfl, by omega, ?_⟩
    obtain ⟨w1, w2⟩ := fmod_nn (i := (p1 + 7) * ((p2 + 1) * (p2 + 1) + 48271)) (j := pr) (by omega)
    dsimp only
    generalize ((p1 + 7) * ((p2 + 1) * (p2 + 1) + 48271)).fmod pr = u at w1 w2 ⊢
    -- one again
    refine ⟨_, rfl, _, rfl, u, u, rfl, rfl, wide_mul (a := 32) (b := 32) (by omega) (by omega) (by decide) (by decide) (by decide), ?_⟩
    refine ⟨_, rfl, 69621, p2 + 1, rfl, rfl, wide_mul (a := 20) (b := 64) (by decide) (by omega) (by decide) (by decide) (by decide), u * u, _, rfl, rfl, _, 12345, rfl, rfl, ?_⟩
    refine ⟨_, rfl, _, rfl, p2 + 1, 3, rfl, rfl, p2 + 1 + 3, 7, rfl, rfl, (by show (7 : Int) ≠ 0; decide), ?_⟩
    refine prime _ _ fun pr2 q2 q3 => ?_
    refine ⟨_, pr2, rfl, rfl, by omega, ?_⟩
    obtain ⟨t1, t2⟩ := fmod_nn (i := u * u + 69621 * (p2 + 1) + 12345) (j := pr2) (by omega)
    dsimp only
    generalize (u * u + 69621 * (p2 + 1) + 12345).fmod pr2 = tw at t1 t2 ⊢
    -- the digit
    refine ⟨_, rfl, _, rfl, tw, 40692, rfl, rfl, tw, tw + 40692, rfl, rfl, wide_mul (a := 32) (b := 40) (by omega) (by omega) (by decide) (by decide) (by decide), ?_⟩
    refine ⟨_, 2147483629, rfl, rfl, (by show (2147483629 : Int) ≠ 0; decide), _, 7, rfl, rfl, ⟨by decide, by decide⟩, _, rfl, _, m, rfl, rfl, by omega, ?_⟩
    dsimp only
    obtain ⟨z1, z2⟩ := fmod_nn (i := ((tw * (tw + 40692)).fmod 2147483629).fdiv 7) (j := m) (by omega)
    exact fin _ _ p0 (p2 + 1) z1 z2 h2a f2 h0 (by omega) (by omega)
end
end DL

set_option Elab.async false
set_option linter.all false
set_option maxRecDepth 100000
set_option maxHeartbeats 4000000
/-! DI7: rests, turned days, what they tell -/
namespace DL
open PySem PySem.Spec PyProof.Rows L2
local macro_rules | `(tactic| walk_at "dl") => `(tactic| repeat' (first
  | with_reducible refine wd_isTy ?_ | with_reducible refine wd_isi ?_ | ((with_reducible show WD _ _ (tOp (rIxL _) (tVar _) _) _ _); refine wd_ix_own rfl ?_) | with_reducible refine wd_op ?_ | ((with_reducible show WD _ _ (tCB (rLenX _) (tCons (tVar _) tNil)) _ _); refine wd_len_scr rfl ?_) | ((with_reducible show WD _ _ (tCB (rLenX _) (tCons (tVar _) tNil)) _ _); refine wd_len_own rfl ?_) | with_reducible refine wd_cb ?_ | with_reducible refine wd_un ?_ | with_reducible refine wa_cons ?_ | with_reducible refine wa_nil ?_ | ((with_reducible show WD _ _ (tVar _) _ _); refine wd_var rfl ?_) | with_reducible refine wd_int ?_ | with_reducible refine wd_bl ?_ | with_reducible refine wd_str ?_ | with_reducible refine wd_non ?_
  | with_reducible refine do_nesS ?_ | with_reducible refine dc_intB ?_ | with_reducible refine do_add ?_ | with_reducible refine do_sub ?_ | ((with_reducible refine do_mod ?_ ?_); decide) | with_reducible refine do_mod ?_ ?_ | with_reducible refine do_mul ?_ ?_ | ((with_reducible refine do_div ?_ ?_); exact ⟨by decide, by decide⟩) | with_reducible refine do_div ?_ ?_ | ((with_reducible refine do_pow ?_ ?_); exact ⟨by decide, by decide, by decide⟩) | with_reducible refine do_pow ?_ ?_
  | with_reducible refine do_lt ?_ | with_reducible refine do_le ?_ | with_reducible refine do_gt ?_ | with_reducible refine do_ge ?_ | with_reducible refine du_neg ?_
  | with_reducible refine do_eqi ?_ | with_reducible refine do_nei ?_ | with_reducible refine do_eqs ?_ | with_reducible refine do_nes ?_ | with_reducible refine dc_abs ?_ | with_reducible refine dc_min ?_ | with_reducible refine dc_max ?_ | with_reducible refine dc_lenL ?_ | with_reducible refine dc_lenT ?_ | with_reducible refine dc_lenR ?_ | with_reducible refine dc_listT ?_ | with_reducible refine dc_listL ?_ | with_reducible refine dc_tupL ?_ | with_reducible refine dc_gcd ?_
  | ((with_reducible show DO _ (rIxT _) _ _ _); refine do_ixT rfl ?_) | ((with_reducible show DO _ (rIxL _) _ _ _); refine do_ixL rfl ?_) | ((with_reducible refine do_catL ?_ ?_); exact Nat.le_of_ble_eq_true rfl) | with_reducible refine do_catL ?_ ?_ | ((with_reducible show And (List.length _ ≤ sizeLine) _); refine ⟨Nat.le_of_ble_eq_true rfl, ?_⟩)
  | with_reducible refine wd_dnew ?_ | with_reducible refine wd_call0 ?_ | with_reducible refine wd_slA ?_ | with_reducible refine wd_slL ?_ | with_reducible refine wd_revT ?_ | with_reducible refine do_catA ?_ ?_ | with_reducible refine wo_part ?_ | with_reducible refine wo_none ?_ | with_reducible refine do_eqQ ?_ | with_reducible refine do_neQ ?_ | with_reducible refine wi_enumT ?_ | with_reducible refine wi_enumD ?_ | with_reducible refine tAdQ (by omega) (by omega) ?_ | with_reducible refine tSbQ (by omega) (by omega) ?_ | with_reducible refine tMlQ (by omega) (by omega) ?_ | with_reducible refine tDvQ (by assumption) (by omega) (by omega) ?_ | with_reducible refine tLtQ (by omega) (by omega) ?_ | with_reducible refine dc_str ?_ ?_ | with_reducible refine wd_tup ?_ | with_reducible refine wd_lst ?_ | with_reducible refine wt_test ?_ | with_reducible refine wt_B ?_ | with_reducible refine wt_not ?_ | with_reducible refine wt_and ?_ | with_reducible refine wt_or ?_ | with_reducible refine wd_ifE ?_ | with_reducible refine wd_andV ?_ | with_reducible refine wd_orV ?_ | with_reducible refine wd_notV ?_
  | with_reducible refine ws_seq ?_ | with_reducible refine ws_next ?_ | with_reducible refine ws_asg ?_ | with_reducible refine ws_ret ?_ | with_reducible refine ws_retN ?_ | with_reducible refine ws_if ?_ | with_reducible refine ws_par ?_ | with_reducible refine ws_unp2 ?_
  | with_reducible refine if_t ?_ | with_reducible refine if_f ?_ | with_reducible refine if_nf ?_ | with_reducible refine if_nt ?_
  | ((with_reducible show Exists _); first | refine ⟨_, kitInt _, ?_⟩ | refine ⟨_, kitBool _, ?_⟩ | refine ⟨_, kitTup _, ?_⟩ | refine ⟨_, kitList _, ?_⟩ | refine ⟨_, rfl, ?_⟩ | refine ⟨_, _, rfl, ?_⟩ | fail) | fail))
structure Rst (bs : List Int) : Prop where
  l1 : 1 ≤ bs.length
  l2 : bs.length ≤ 5040
  bt : ∀ b ∈ bs, b = 0 ∨ b = 1
  on : (bs.filter fun b => decide (b = 1)).length ≤ 1000
theorem Rst.small {bs : List Int} (h1 : 1 ≤ bs.length) (h2 : bs.length ≤ 1000) (h : ∀ b ∈ bs, b = 0 ∨ b = 1) : Rst bs := ⟨h1, by omega, h, Nat.le_trans (List.length_filter_le _ _) h2⟩
structure Trn (ts : List Int) : Prop where
  nd : ts.Nodup
  l : ts.length ≤ 60
  b : ∀ t ∈ ts, t.natAbs ≤ 1000000000000001000
def TBits : Nat → List PyData → (PyData → Nat → Prop) → Prop := fun B ds Φ => ∃ n : Nat, ds = [.int n] ∧ n ≤ 100 ∧ B + 200 ≤ 2 ^ 40 ∧ ∀ bs : List Int, bs.length = n → (∀ b ∈ bs, b = 0 ∨ b = 1) → Φ (.list (bs.map PyData.int)) (B + n)
def TRests : Nat → List PyData → (PyData → Nat → Prop) → Prop := fun B ds Φ => ds = [] ∧ B + 300 ≤ 2 ^ 40 ∧ ∀ (bs : List Int) (B' : Nat), Rst bs → B' ≤ B + 100 → Φ (.list (bs.map PyData.int)) B'
def TUnlike : List PyData → (PyData → Prop) → Prop := fun ds Φ => ∃ ns : List Int, ds = [.list (ns.map PyData.int)] ∧ ns.length ≤ 1000 ∧ ∀ out : List Int, out.Nodup → (∀ k, k ∈ out ↔ k ∈ ns) → Φ (.list (out.map PyData.int))
def TTurned : Nat → List PyData → (PyData → Nat → Prop) → Prop := fun B ds Φ => ds = [] ∧ B + 300 ≤ 2 ^ 40 ∧ ∀ (ts : List Int) (B' : Nat), Trn ts → B' ≤ B + 100 → Φ (.list (ts.map PyData.int)) B'
def TGiven : Nat → List PyData → (PyData → Nat → Prop) → Prop := fun B ds Φ => ds = [] ∧ B + 600 ≤ 2 ^ 40 ∧ ∀ (bs ts : List Int) (B' : Nat), Rst bs → Trn ts → B' ≤ B + 200 → Φ (.tuple [.list (bs.map PyData.int), .list (ts.map PyData.int)]) B'
def mks (bs : List Int) : List Int := ((List.range bs.length).filter fun i => decide (bs.getD i 0 = 1)).map fun i : Nat => (i : Int)
def TMarks : List PyData → (PyData → Prop) → Prop := fun ds Φ => ∃ bs : List Int, ds = [.list (bs.map PyData.int)] ∧ bs.length ≤ 100000 ∧ Φ (.list ((mks bs).map PyData.int))
def TIn : List PyData → (PyData → Prop) → Prop := fun ds Φ => ∃ (bs ts : List Int) (d : Int), ds = [.tuple [.list (bs.map PyData.int), .list (ts.map PyData.int)], .int d] ∧ 1 ≤ bs.length ∧ bs.length ≤ 100000 ∧ Φ (.bool (decide (bs.getD (d.fmod bs.length).toNat 0 = 1) != decide (d ∈ ts)))
def t_bits (K : PySem.W.Frag) : TS :=
  (tRet (tLc (iRng1 (tCons (tVar 1) tNil)) (gName 2) tYes (tCall (spS K FPot TTake) [] E0 (tCons (tVar 0) (tCons (tC (.int 2)) tNil))) [2]))
def t_rests (K : PySem.W.Frag) : TS :=
  (tSeq (tAsg (tCall (spS K FPot TTake) [] E0 (tCons (tVar 0) (tCons (tC (.int 8)) tNil))) (gName 1))
    (tSeq (tAsg (tCall (spS K FPot TBits) [] E0 (tCons (tVar 0) (tCons (tOp rAddI (tC (.int 1)) (tCall (spS K FPot TTake) [] E0 (tCons (tVar 0) (tCons (tC (.int 7)) tNil)))) tNil))) (gName 2))
    (tSeq (tAsg (tOp rAddI (tC (.int 2)) (tCall (spS K FPot TTake) [] E0 (tCons (tVar 0) (tCons (tC (.int 5)) tNil)))) (gName 3))
    (tSeq (tAsg (tTup (tCons (tCall (spS K FPot TTake) [] E0 (tCons (tVar 0) (tCons (tC (.int 42)) tNil))) (tCons (tOp rAddI (tC (.int 1)) (tCall (spS K FPot TTake) [] E0 (tCons (tVar 0) (tCons (tC (.int 96)) tNil)))) tNil))) (gTup K 2 (gCons (gName 4) (gCons (gName 5) gNil))))
    (tSeq (tIfS (tTest (tOp rLt (tVar 1) (tC (.int 2)))) (tRet (tVar 2)) tNext)
    (tSeq (tIfS (tTest (tOp rEq (tVar 1) (tC (.int 2)))) (tRet (tOp rRepL (tVar 2) (tVar 3))) tNext)
    (tSeq (tIfS (tTest (tOp rEq (tVar 1) (tC (.int 3)))) (tSeq (tAsg (tOp rRepL (tVar 2) (tVar 3)) (gName 2))
    (tSeq (tAsg (tOp rModI (tVar 4) (tCB (rLenX K) (tCons (tVar 2) tNil))) (gName 4))
    (tRet (tOp rCatL (tOp rCatL (tSl (rSlL K) (tVar 2) tNoPart (tPart (tVar 4))) (tLst (tCons (tOp rSubI (tC (.int 1)) (tOp (rIxL K) (tVar 2) (tVar 4))) tNil))) (tSl (rSlL K) (tVar 2) (tPart (tOp rAddI (tVar 4) (tC (.int 1)))) tNoPart))))) tNext)
    (tSeq (tIfS (tTest (tOp rEq (tVar 1) (tC (.int 4)))) (tRet (tOp rRepL (tLst (tCons (tOp rModI (tVar 4) (tC (.int 2))) tNil)) (tVar 3))) tNext)
    (tSeq (tIfS (tTest (tOp rEq (tVar 1) (tC (.int 5)))) (tSeq (tAsg (tOp (rIxL K) (tLst (tCons (tC (.int 5040)) (tCons (tC (.int 2520)) (tCons (tC (.int 4999)) (tCons (tC (.int 1008)) (tCons (tC (.int 720)) (tCons (tC (.int 97)) tNil))))))) (tOp rModI (tVar 4) (tC (.int 6)))) (gName 6))
    (tRet (tLc (iRng1 (tCons (tVar 6) tNil)) (gName 7) tYes (tCB rInt1 (tCons (tOp rEq (tOp rModI (tVar 7) (tOp rAddI (tC (.int 13)) (tVar 5))) (tOp rModI (tVar 4) (tC (.int 13)))) tNil)) [7]))) tNext)
    (tSeq (tAsg (tOp (rIxL K) (tLst (tCons (tC (.int 7)) (tCons (tC (.int 12)) (tCons (tC (.int 28)) (tCons (tC (.int 30)) (tCons (tC (.int 60)) (tCons (tC (.int 84)) (tCons (tC (.int 35)) (tCons (tC (.int 97)) tNil))))))))) (tOp rModI (tVar 4) (tC (.int 8)))) (gName 6))
    (tRet (tLc (iRng1 (tCons (tVar 6) tNil)) (gName 7) tYes (tCB rInt1 (tCons (tOp rLt (tOp rModI (tOp rMulI (tVar 7) (tVar 5)) (tC (.int 101))) (tOp rAddI (tC (.int 1)) (tVar 4))) tNil)) [7]))))))))))))
def t_unlike (K : PySem.W.Frag) : TS :=
  (tRet (tUniq K (tLc (iList K (tVar 0)) (gName 1) tYes (tTup (tCons (tVar 1) (tCons (tC (.bl true)) tNil))) [1])))
def t_turned (K : PySem.W.Frag) : TS :=
  (tSeq (tAsg (tCall (spS K FPot TTake) [] E0 (tCons (tVar 0) (tCons (tC (.int 8)) tNil))) (gName 1))
    (tSeq (tAsg (tOp (rIxL K) (tLst (tCons (tC (.int 0)) (tCons (tUn rNegI (tC (.int 5))) (tCons (tC (.int 100)) (tCons (tOp rSubI (tOp rPowI (tC (.int 10)) (tC (.int 18))) (tC (.int 11))) (tCons (tOp rSubI (tC (.int 12)) (tOp rPowI (tC (.int 10)) (tC (.int 18)))) (tCons (tC (.int 7)) tNil))))))) (tCall (spS K FPot TTake) [] E0 (tCons (tVar 0) (tCons (tC (.int 6)) tNil)))) (gName 2))
    (tSeq (tAsg (tOp rAddI (tC (.int 1)) (tCall (spS K FPot TTake) [] E0 (tCons (tVar 0) (tCons (tC (.int 40)) tNil)))) (gName 3))
    (tSeq (tIfS (tTest (tOp rEq (tVar 1) (tC (.int 0)))) (tSeq (tAsg (tOp rSubI (tC (.int 1)) (tOp rMulI (tC (.int 2)) (tCB rInt1 (tCons (tOp rGt (tVar 2) (tC (.int 0))) tNil)))) (gName 4))
    (tRet (tLc (iRng1 (tCons (tC (.int 60)) tNil)) (gName 5) tYes (tOp rAddI (tVar 2) (tOp rMulI (tVar 4) (tOp rModI (tOp rMulI (tOp rMulI (tVar 5) (tVar 3)) (tC (.int 7))) (tC (.int 997))))) [5]))) tNext)
    (tSeq (tIfS (tTest (tOp rLt (tVar 1) (tC (.int 4)))) (tRet (tLst tNil)) tNext)
    (tRet (tCall (spP K TUnlike) [] E0 (tCons (tLc (iRng1 (tCons (tOp rAddI (tC (.int 1)) (tCall (spS K FPot TTake) [] E0 (tCons (tVar 0) (tCons (tC (.int 6)) tNil)))) tNil)) (gName 6) tYes (tOp rSubI (tOp rAddI (tVar 2) (tCall (spS K FPot TTake) [] E0 (tCons (tVar 0) (tCons (tC (.int 24)) tNil)))) (tC (.int 12))) [6]) tNil))))))))
def t_given (K : PySem.W.Frag) : TS :=
  (tSeq (tAsg (tCall (spS K FPot TRests) [] E0 (tCons (tVar 0) tNil)) (gName 1))
    (tRet (tTup (tCons (tVar 1) (tCons (tCall (spS K FPot TTurned) [] E0 (tCons (tVar 0) tNil)) tNil)))))
def t_marks (K : PySem.W.Frag) : TS :=
  (tRet (tLc (iEnum K (tCons (tVar 0) tNil)) (gTup K 2 (gCons (gName 1) (gCons (gName 2) gNil))) (tTest (tOp rEq (tVar 2) (tC (.int 1)))) (tVar 1) [1, 2]))
def t_inD (K : PySem.W.Frag) : TS :=
  (tSeq (tAsg (tVar 0) (gTup K 2 (gCons (gName 2) (gCons (gName 3) gNil))))
    (tRet (tOp rNe (tOp rEq (tOp (rIxL K) (tVar 2) (tOp rModI (tVar 1) (tCB (rLenX K) (tCons (tVar 2) tNil)))) (tC (.int 1))) (tOp (rIn K false) (tVar 1) (tVar 3)))))
section
variable {K : PySem.W.Frag} {S : Stt} {B : Nat} {ds : List PyData} {Φ : PyData → Nat → Prop} {Ψ : PyData → Prop}
theorem dq_flat {N : Av} {H : Hp} {xs : List V} {ds : List PyData} (h : DqAll K N H xs ds) : ∀ k : Nat, DqAll K N H (List.replicate k xs).flatten (List.replicate k ds).flatten
  | 0 => DqAll.nil
  | k + 1 => by
    rw [List.replicate_succ, List.replicate_succ, List.flatten_cons, List.flatten_cons]
    exact h.append (dq_flat h k)
theorem do_repLn {ds : List PyData} {n : Nat} (hz : ds.length * n ≤ sizeLine) (hn : n ≤ 1000) (f : Ψ (.list (List.replicate n ds).flatten)) : DO K rRepL (.list ds) (.int n) Ψ := fun N H hN u w hu hw Q q => by
  obtain ⟨p, us, rfl, _, h1, h2⟩ := hu.lst_inv
  cases hw
  refine ⟨p, n, us, rfl, rfl, h1, ⟨by omega, by omega⟩, by rw [h2.len, Int.toNat_natCast]; exact hz, fun z hz => ?_⟩
  rw [Int.toNat_natCast]
  have s := same_new hz (.lst (List.replicate n us).flatten)
  exact q _ _ _ f s (Dq.lst (fresh_av hN hz) upd_same ((dq_flat h2 n).keep (Keep.of s)))
theorem ws_bits (hF : FPot S) (h : TBits B ds Φ) : WS K S (t_bits K) (.sto B :: rhoOf 2 ds) { nx := fun _ => False, rt := fun d ρ => ∃ B', ρ[0]? = some (.sto B') ∧ Φ d B' } := by
  obtain ⟨n, rfl, hn, hB, hΦ⟩ := h
  show WS K S (t_bits K) [.sto B, .dat (.int n), .unk] _
  unfold t_bits
  refine ws_ret (wd_lc (wi_rng1 (wa_cons (wd_var rfl (wa_nil ⟨n, rfl, by omega, by omega, ?_⟩)))))
  refine ⟨by rw [List.length_map, List.length_range, sizeLine_eq]; omega, fun k acc ρ => ∃ bs : List Int, acc = bs.map PyData.int ∧ bs.length = k ∧ (∀ b ∈ bs, b = 0 ∨ b = 1) ∧ ρ = [.sto (B + k), .dat (.int n), .unk], ⟨[], rfl, rfl, (fun b hb => nomatch hb), rfl⟩, ?_, ?_⟩
  · rintro k d acc ρ2 hd ⟨bs, rfl, hk, hb, rfl⟩
    have hk2 : k < n := by
      have := (List.getElem?_eq_some_iff.mp hd).1
      simpa using this
    refine ⟨_, _, gd_name, fun j hj => hj, ?_⟩
    refine wt_yes ?_
    refine wd_takeC hF rfl (by decide) (by decide) (by omega) fun z z0 z1 => ?_
    refine ⟨bs ++ [z], by rw [List.map_append]; rfl, by rw [List.length_append, hk]; rfl, fun b hb2 => ?_, rfl⟩
    rcases List.mem_append.mp hb2 with h | h
    · exact hb b h
    · rw [List.mem_singleton] at h; omega
  · rintro acc ρ2 ⟨bs, rfl, hk, hb, rfl⟩
    rw [List.length_map, List.length_range, Int.toNat_natCast] at hk ⊢
    exact ⟨_, rfl, hΦ bs hk hb⟩
theorem cnt_le {P q : Nat} {r : Nat} (hP : P ≤ 5040) (hq : 14 ≤ q) : ((List.range P).filter fun i => decide (i % q = r)).length ≤ 1000 := by
  have hpw : (((List.range P).filter fun i => decide (i % q = r)).map fun i => i / q).Pairwise (· < ·) := by
    rw [List.pairwise_map]
    have h0 : ((List.range P).filter fun i => decide (i % q = r)).Pairwise (· < ·) := (List.pairwise_lt_range).filter _
    refine List.Pairwise.imp_of_mem (fun {a b} ha hb hab => ?_) h0
    have ea := of_decide_eq_true (List.mem_filter.mp ha).2
    have eb := of_decide_eq_true (List.mem_filter.mp hb).2
    have da := Nat.div_add_mod a q
    have db := Nat.div_add_mod b q
    refine Nat.lt_of_not_le fun z => ?_
    have := Nat.mul_le_mul_left q z
    omega
  have nd : (((List.range P).filter fun i => decide (i % q = r)).map fun i => i / q).Nodup := hpw.imp fun h => Nat.ne_of_lt h
  have := nd_le (m := List.range 400) nd fun k hk => by
    obtain ⟨i, hi, rfl⟩ := List.mem_map.mp hk
    have hi2 := List.mem_range.mp (List.mem_filter.mp hi).1
    refine List.mem_range.mpr ?_
    have : i / q ≤ i / 14 := Nat.div_le_div_left hq (by decide)
    omega
  rw [List.length_map, List.length_range] at this
  omega
theorem rst_far {P : Nat} {q r : Int} (h1 : 1 ≤ P) (hP : P ≤ 5040) (hq : 14 ≤ q) (hr : 0 ≤ r) : Rst ((List.range P).map fun i : Nat => if (i : Int).fmod q = r then 1 else 0) := by
  refine ⟨by simpa using h1, by simpa using hP, fun b hb => ?_, ?_⟩
  · obtain ⟨i, _, rfl⟩ := List.mem_map.mp hb
    split
    · exact .inr rfl
    · exact .inl rfl
  · rw [List.filter_map, List.length_map]
    have e : ((fun b : Int => decide (b = 1)) ∘ fun i : Nat => if (i : Int).fmod q = r then (1 : Int) else 0) = fun i : Nat => decide (i % q.toNat = r.toNat) := by
      funext i
      show decide ((if (i : Int).fmod q = r then (1 : Int) else 0) = 1) = _
      have e1 : (i : Int).fmod q = ((i % q.toNat : Nat) : Int) := by
        rw [Int.fmod_eq_emod_of_nonneg _ (by omega), Int.natCast_emod, Int.toNat_of_nonneg (by omega)]
      rw [e1]
      by_cases c : i % q.toNat = r.toNat
      · rw [if_pos (by omega), decide_eq_true rfl, decide_eq_true c]
      · rw [if_neg (by omega), decide_eq_false (by decide), decide_eq_false c]
    rw [e]
    exact cnt_le hP (by omega)
theorem rep_bits {bs : List Int} (h : ∀ b ∈ bs, b = 0 ∨ b = 1) (n : Nat) : ∀ b ∈ (List.replicate n bs).flatten, b = 0 ∨ b = 1 := fun b hb => by
  obtain ⟨l, hl, hb⟩ := List.mem_flatten.mp hb
  rw [List.eq_of_mem_replicate hl] at hb
  exact h b hb
theorem rep_len {α : Type} {bs : List α} (n : Nat) : (List.replicate n bs).flatten.length = n * bs.length := by
  rw [List.length_flatten, List.map_replicate, List.sum_replicate_nat]
theorem rep_map {bs : List Int} (n : Nat) : (List.replicate n (bs.map PyData.int)).flatten = ((List.replicate n bs).flatten).map PyData.int := by
  rw [List.map_flatten, List.map_replicate]
theorem ws_rests (hF : FPot S) (h : TRests B ds Φ) : WS K S (t_rests K) (.sto B :: rhoOf 7 ds) { nx := fun _ => False, rt := fun d ρ => ∃ B', ρ[0]? = some (.sto B') ∧ Φ d B' } := by
  obtain ⟨rfl, hB, hΦ⟩ := h
  show WS K S (t_rests K) [.sto B, .unk, .unk, .unk, .unk, .unk, .unk, .unk] _
  unfold t_rests
  have szl : sizeLine = 16777216 := sizeLine_eq
  refine ws_seq (ws_asg (wd_takeC hF rfl (by decide) (by decide) (by omega) fun w w0 w1 => ?_))
  refine ws_seq (ws_asg (wd_callS hF rfl (wa_cons (wd_op (wd_int (wd_takeC hF rfl (by decide) (by decide) (by omega) fun a a0 a1 => do_add (wa_nil ⟨B + 1 + 1, rfl, (1 + a).toNat, by rw [Int.toNat_of_nonneg (by omega)], by omega, by omega, fun bs hbl hb => ?_⟩)))))))
  generalize hBn : B + 1 + 1 + (1 + a).toNat = B2
  have hB2 : B2 ≤ B + 12 := by omega
  show WS K S _ [.sto B2, .dat (.int w), .dat (.list (bs.map PyData.int)), .unk, .unk, .unk, .unk, .unk] _
  refine ws_seq (ws_asg (wd_op (wd_int (wd_takeC hF rfl (by decide) (by decide) (by omega) fun o o0 o1 => do_add ?_))))
  obtain ⟨on, rfl⟩ : ∃ n : Nat, o = n := ⟨o.toNat, by omega⟩
  have e2 : (2 + (on : Int)) = ((2 + on : Nat) : Int) := by omega
  rw [e2]
  generalize hon : 2 + on = m
  have hm1 : 2 ≤ m ∧ m ≤ 6 := by omega
  refine ws_seq (ws_unp2 (wd_tup (wa_cons (wd_takeC hF rfl (by decide) (by decide) (by omega) fun at' t0 t1 => wa_cons (wd_op (wd_int (wd_takeC hF rfl (by decide) (by decide) (by omega) fun by' y0 y1 => do_add (wa_nil ⟨Nat.le_of_ble_eq_true rfl, _, _, rfl, ?_⟩))))))))
  show WS K S _ [.sto (B2 + 1 + 1 + 1), .dat (.int w), .dat (.list (bs.map PyData.int)), .dat (.int m), .dat (.int at'), .dat (.int (1 + by')), .unk, .unk] _
  have bl7 : bs.length ≤ 7 := by omega
  have bl1 : 1 ≤ bs.length := by omega
  have fin : ∀ cs : List Int, 1 ≤ cs.length → cs.length ≤ 1000 → (∀ b ∈ cs, b = 0 ∨ b = 1) → ∃ B', B2 + 1 + 1 + 1 = B' ∧ Φ (.list (cs.map PyData.int)) B' := fun cs h1 h2 h3 => ⟨_, rfl, hΦ cs _ (Rst.small h1 h2 h3) (by omega)⟩
  have mb : m * bs.length ≤ 42 := Nat.mul_le_mul (show m ≤ 6 by omega) bl7
  have mb1 : 1 ≤ m * bs.length := Nat.mul_pos (by omega) (by omega)
  walk_at "dl"
  refine if_b (fun c => ?_) (fun c => ?_)
  · refine ws_ret (wd_var rfl ?_)
    obtain ⟨B', rfl, z⟩ := fin bs bl1 (by omega) hb
    exact ⟨_, rfl, z⟩
  refine ws_next (ws_seq (ws_if (wt_test ?_)))
  walk_at "dl"
  refine if_b (fun c => ?_) (fun c => ?_)
  · refine ws_ret (wd_op (wd_var rfl (wd_var rfl (do_repLn (by rw [List.length_map, Nat.mul_comm]; omega) (by omega) ?_))))
    rw [rep_map]
    obtain ⟨B', rfl, z⟩ := fin (List.replicate m bs).flatten (by rw [rep_len]; exact mb1) (by rw [rep_len]; omega) (rep_bits hb m)
    exact ⟨_, rfl, z⟩
  refine ws_next (ws_seq (ws_if (wt_test ?_)))
  walk_at "dl"
  refine if_b (fun c => ?_) (fun c => ?_)
  · refine ws_seq (ws_asg (wd_op (wd_var rfl (wd_var rfl (do_repLn (by rw [List.length_map, Nat.mul_comm]; omega) (by omega) ?_)))))
    rw [rep_map]
    have hcb := rep_bits hb m
    have hcl : (List.replicate m bs).flatten.length = m * bs.length := rep_len m
    generalize (List.replicate m bs).flatten = cs at hcb hcl
    refine ws_seq (ws_asg (wd_op (wd_var rfl (wd_cb (wa_cons (wd_var rfl (wa_nil (dc_lenL (do_mod ?_ ?_)))))))))
    · rw [List.length_map]; omega
    rw [List.length_map]
    obtain ⟨q0, q1⟩ := fmod_nn (i := at') (j := (cs.length : Int)) (by omega)
    obtain ⟨j, hj⟩ : ∃ j : Nat, at'.fmod (cs.length : Int) = j := ⟨(at'.fmod (cs.length : Int)).toNat, by omega⟩
    rw [hj] at q0 q1 ⊢
    have hjl : j < cs.length := by omega
    have hcj := hcb cs[j] (List.getElem_mem hjl)
    refine ws_ret (wd_op (wd_op (wd_slL (wd_var rfl ⟨_, rfl, wo_none (wo_part (wd_var rfl ⟨_, rfl, ?_⟩))⟩))))
    refine wd_lst (wa_cons (wd_op (wd_int (wd_op (wd_var rfl (wd_var rfl (do_ixLn (k := j) (d := .int cs[j]) rfl (by rw [List.getElem?_map, List.getElem?_eq_getElem hjl]; rfl) (do_sub (wa_nil ⟨Nat.le_of_ble_eq_true rfl, ?_⟩)))))))))
    have c1 := cutD_le (l := cs.map PyData.int) (lo := none) (hi := some (j : Int))
    have c2 := cutD_le (l := cs.map PyData.int) (lo := some ((j : Int) + 1)) (hi := none)
    rw [List.length_map] at c1 c2
    refine do_catL (by rw [List.length_singleton]; omega) ?_
    refine wd_slL (wd_var rfl ⟨_, rfl, wo_part (wd_op (wd_var rfl (wd_int (do_add ⟨_, rfl, wo_none ?_⟩))))⟩)
    refine do_catL (by rw [List.length_append, List.length_singleton]; omega) ?_
    have em : cutD (cs.map PyData.int) none (some (j : Int)) ++ [PyData.int (1 - cs[j])] ++ cutD (cs.map PyData.int) (some ((j : Int) + 1)) none = (cs.take j ++ [1 - cs[j]] ++ cs.drop (j + 1)).map PyData.int := by
      rw [cutD_take rfl, cutD_drop (n := j + 1) (by omega), List.map_append, List.map_append, List.map_take, List.map_drop]; rfl
    rw [em]
    obtain ⟨B', rfl, z⟩ := fin (cs.take j ++ [1 - cs[j]] ++ cs.drop (j + 1)) (by simp only [List.length_append, List.length_singleton]; omega) (by simp only [List.length_append, List.length_singleton, List.length_take, List.length_drop]; omega) (fun b hb2 => by
      rcases List.mem_append.mp hb2 with hb2 | hb2
      · rcases List.mem_append.mp hb2 with hb2 | hb2
        · exact hcb b (List.mem_of_mem_take hb2)
        · rw [List.mem_singleton] at hb2; omega
      · exact hcb b (List.mem_of_mem_drop hb2))
    exact ⟨_, rfl, z⟩
  refine ws_next (ws_seq (ws_if (wt_test ?_)))
  walk_at "dl"
  refine if_b (fun c => ?_) (fun c => ?_)
  · obtain ⟨q0, q1⟩ := fmod_nn (i := at') (j := 2) (by decide)
    refine ws_ret (wd_op (wd_lst (wa_cons (wd_op (wd_var rfl (wd_int (do_mod (by decide) (wa_nil ⟨Nat.le_of_ble_eq_true rfl, wd_var rfl (do_repLn (n := m) (by rw [List.length_singleton]; omega) (by omega) ?_)⟩))))))))
    show ∃ B', _ ∧ Φ (.list (List.replicate m ([at'.fmod 2].map PyData.int)).flatten) B'
    rw [rep_map]
    obtain ⟨B', rfl, z⟩ := fin (List.replicate m [at'.fmod 2]).flatten (by rw [rep_len, List.length_singleton]; omega) (by rw [rep_len, List.length_singleton]; omega) (rep_bits (fun b hb2 => by rw [List.mem_singleton] at hb2; omega) m)
    exact ⟨_, rfl, z⟩
  refine ws_next (ws_seq (ws_if (wt_test ?_)))
  walk_at "dl"
  refine if_b (fun c => ?_) (fun c => ?_)
  · obtain ⟨q0, q1⟩ := fmod_nn (i := at') (j := 6) (by decide)
    walk_at "dl"
    refine do_ixL_int (ns := [5040, 2520, 4999, 1008, 720, 97]) (P := fun z => 97 ≤ z ∧ z ≤ 5040) rfl q0 (by simp; omega) (fun z hz => ?_) fun P hP => ?_
    · simp only [List.mem_cons, List.not_mem_nil, or_false] at hz; omega
    obtain ⟨Pn, rfl⟩ : ∃ n : Nat, P = n := ⟨P.toNat, by omega⟩
    obtain ⟨r0, r1⟩ := fmod_nn (i := at') (j := 13) (by decide)
    refine ws_ret (wd_lc (wi_rng1 (wa_cons (wd_var rfl (wa_nil ⟨_, rfl, by omega, by omega, ?_⟩)))))
    refine ⟨by rw [List.length_map, List.length_range]; omega, fun k acc ρ => acc = ((List.range k).map fun i : Nat => if (i : Int).fmod (13 + (1 + by')) = at'.fmod 13 then (1 : Int) else 0).map PyData.int ∧ ρ = [.sto (B2 + 1 + 1 + 1), .dat (.int w), .dat (.list (bs.map PyData.int)), .dat (.int m), .dat (.int at'), .dat (.int (1 + by')), .dat (.int Pn), .unk], ⟨rfl, rfl⟩, ?_, ?_⟩
    · rintro k d acc ρ2 hd ⟨rfl, rfl⟩
      have ed : d = .int (0 + (k : Int)) := by
        obtain ⟨h1, h2⟩ := List.getElem?_eq_some_iff.mp hd
        simp at h2
        rw [← h2]; simp
      subst ed
      refine ⟨_, _, gd_name, fun j hj => hj, ?_⟩
      refine wt_yes ?_
      refine wd_cb (wa_cons (wd_op (wd_op (wd_var rfl (wd_op (wd_int (wd_var rfl (do_add (do_mod (by omega) ?_)))))))))
      refine wd_op (wd_var rfl (wd_int (do_mod (by decide) (do_eqi (wa_nil (dc_intB ⟨?_, rfl⟩))))))
      rw [List.range_succ, List.map_append, List.map_append, Int.zero_add]
      by_cases z : (k : Int).fmod (13 + (1 + by')) = at'.fmod 13
      · rw [decide_eq_true z]; simp [z]
      · rw [decide_eq_false z]; simp [z]
    · rintro acc ρ2 ⟨rfl, rfl⟩
      rw [List.length_map, List.length_range, Int.toNat_natCast]
      exact ⟨_, rfl, hΦ _ _ (rst_far (by omega) (by omega) (by omega) r0) (by omega)⟩
  refine ws_next (ws_seq (ws_asg ?_))
  obtain ⟨q0, q1⟩ := fmod_nn (i := at') (j := 8) (by decide)
  walk_at "dl"
  refine do_ixL_int (ns := [7, 12, 28, 30, 60, 84, 35, 97]) (P := fun z => 7 ≤ z ∧ z ≤ 97) rfl q0 (by simp; omega) (fun z hz => ?_) fun P hP => ?_
  · simp only [List.mem_cons, List.not_mem_nil, or_false] at hz; omega
  obtain ⟨Pn, rfl⟩ : ∃ n : Nat, P = n := ⟨P.toNat, by omega⟩
  refine ws_ret (wd_lc (wi_rng1 (wa_cons (wd_var rfl (wa_nil ⟨_, rfl, by omega, by omega, ?_⟩)))))
  refine ⟨by rw [List.length_map, List.length_range]; omega, fun k acc ρ => ∃ cs : List Int, acc = cs.map PyData.int ∧ cs.length = k ∧ (∀ b ∈ cs, b = 0 ∨ b = 1) ∧ ρ = [.sto (B2 + 1 + 1 + 1), .dat (.int w), .dat (.list (bs.map PyData.int)), .dat (.int m), .dat (.int at'), .dat (.int (1 + by')), .dat (.int Pn), .unk], ⟨[], rfl, rfl, (fun b hb => nomatch hb), rfl⟩, ?_, ?_⟩
  · rintro k d acc ρ2 hd ⟨cs, rfl, hk, hcb, rfl⟩
    have hk2 : k < Pn := by
      have := (List.getElem?_eq_some_iff.mp hd).1
      simpa using this
    have ed : d = .int (0 + (k : Int)) := by
      obtain ⟨h1, h2⟩ := List.getElem?_eq_some_iff.mp hd
      simp at h2
      rw [← h2]; simp
    subst ed
    refine ⟨_, _, gd_name, fun j hj => hj, ?_⟩
    refine wt_yes ?_
    refine wd_cb (wa_cons (wd_op (wd_op (wd_op (wd_var rfl (wd_var rfl (do_mul (wide_mul (a := 20) (b := 20) (by omega) (by omega) (by decide) (by decide) (by decide)) (wd_int (do_mod (by decide) ?_)))))))))
    refine wd_op (wd_int (wd_var rfl (do_add (do_lt (wa_nil (dc_intB ?_))))))
    refine ⟨cs ++ [if decide (((0 + (k : Int)) * (1 + by')).fmod 101 < 1 + at') = true then 1 else 0], by rw [List.map_append]; rfl, by rw [List.length_append, hk]; rfl, fun b hb2 => ?_, rfl⟩
    rcases List.mem_append.mp hb2 with h | h
    · exact hcb b h
    · rw [List.mem_singleton] at h
      rw [h]
      split
      · exact .inr rfl
      · exact .inl rfl
  · rintro acc ρ2 ⟨cs, rfl, hk, hcb, rfl⟩
    rw [List.length_map, List.length_range, Int.toNat_natCast] at hk
    obtain ⟨B', rfl, z⟩ := fin cs (by omega) (by omega) hcb
    exact ⟨_, rfl, z⟩
end
end DL

set_option Elab.async false
set_option linter.all false
set_option maxRecDepth 100000
set_option maxHeartbeats 4000000
/-! DI8: turned days, what they tell -/
namespace DL
open PySem PySem.Spec PyProof.Rows L2
local macro_rules | `(tactic| walk_at "dl") => `(tactic| repeat' (first
  | with_reducible refine wd_isTy ?_ | with_reducible refine wd_isi ?_ | ((with_reducible show WD _ _ (tOp (rIxL _) (tVar _) _) _ _); refine wd_ix_own rfl ?_) | with_reducible refine wd_op ?_ | ((with_reducible show WD _ _ (tCB (rLenX _) (tCons (tVar _) tNil)) _ _); refine wd_len_scr rfl ?_) | ((with_reducible show WD _ _ (tCB (rLenX _) (tCons (tVar _) tNil)) _ _); refine wd_len_own rfl ?_) | with_reducible refine wd_cb ?_ | with_reducible refine wd_un ?_ | with_reducible refine wa_cons ?_ | with_reducible refine wa_nil ?_ | ((with_reducible show WD _ _ (tVar _) _ _); refine wd_var rfl ?_) | with_reducible refine wd_int ?_ | with_reducible refine wd_bl ?_ | with_reducible refine wd_str ?_ | with_reducible refine wd_non ?_
  | with_reducible refine do_nesS ?_ | with_reducible refine dc_intB ?_ | with_reducible refine do_add ?_ | with_reducible refine do_sub ?_ | ((with_reducible refine do_mod ?_ ?_); decide) | with_reducible refine do_mod ?_ ?_ | with_reducible refine do_mul ?_ ?_ | ((with_reducible refine do_div ?_ ?_); exact ⟨by decide, by decide⟩) | with_reducible refine do_div ?_ ?_ | ((with_reducible refine do_pow ?_ ?_); exact ⟨by decide, by decide, by decide⟩) | with_reducible refine do_pow ?_ ?_
  | with_reducible refine do_lt ?_ | with_reducible refine do_le ?_ | with_reducible refine do_gt ?_ | with_reducible refine do_ge ?_ | with_reducible refine du_neg ?_
  | with_reducible refine do_eqi ?_ | with_reducible refine do_nei ?_ | with_reducible refine do_eqs ?_ | with_reducible refine do_nes ?_ | with_reducible refine dc_abs ?_ | with_reducible refine dc_min ?_ | with_reducible refine dc_max ?_ | with_reducible refine dc_lenL ?_ | with_reducible refine dc_lenT ?_ | with_reducible refine dc_lenR ?_ | with_reducible refine dc_listT ?_ | with_reducible refine dc_listL ?_ | with_reducible refine dc_tupL ?_ | with_reducible refine dc_gcd ?_
  | ((with_reducible show DO _ (rIxT _) _ _ _); refine do_ixT rfl ?_) | ((with_reducible show DO _ (rIxL _) _ _ _); refine do_ixL rfl ?_) | ((with_reducible refine do_catL ?_ ?_); exact Nat.le_of_ble_eq_true rfl) | with_reducible refine do_catL ?_ ?_ | ((with_reducible show And (List.length _ ≤ sizeLine) _); refine ⟨Nat.le_of_ble_eq_true rfl, ?_⟩)
  | with_reducible refine wd_dnew ?_ | with_reducible refine wd_call0 ?_ | with_reducible refine wd_slA ?_ | with_reducible refine wd_slL ?_ | with_reducible refine wd_revT ?_ | with_reducible refine do_catA ?_ ?_ | with_reducible refine wo_part ?_ | with_reducible refine wo_none ?_ | with_reducible refine do_eqQ ?_ | with_reducible refine do_neQ ?_ | with_reducible refine wi_enumT ?_ | with_reducible refine wi_enumD ?_ | with_reducible refine tAdQ (by omega) (by omega) ?_ | with_reducible refine tSbQ (by omega) (by omega) ?_ | with_reducible refine tMlQ (by omega) (by omega) ?_ | with_reducible refine tDvQ (by assumption) (by omega) (by omega) ?_ | with_reducible refine tLtQ (by omega) (by omega) ?_ | with_reducible refine dc_str ?_ ?_ | with_reducible refine wd_tup ?_ | with_reducible refine wd_lst ?_ | with_reducible refine wt_test ?_ | with_reducible refine wt_B ?_ | with_reducible refine wt_not ?_ | with_reducible refine wt_and ?_ | with_reducible refine wt_or ?_ | with_reducible refine wd_ifE ?_ | with_reducible refine wd_andV ?_ | with_reducible refine wd_orV ?_ | with_reducible refine wd_notV ?_
  | with_reducible refine ws_seq ?_ | with_reducible refine ws_next ?_ | with_reducible refine ws_asg ?_ | with_reducible refine ws_ret ?_ | with_reducible refine ws_retN ?_ | with_reducible refine ws_if ?_ | with_reducible refine ws_par ?_ | with_reducible refine ws_unp2 ?_
  | with_reducible refine if_t ?_ | with_reducible refine if_f ?_ | with_reducible refine if_nf ?_ | with_reducible refine if_nt ?_
  | ((with_reducible show Exists _); first | refine ⟨_, kitInt _, ?_⟩ | refine ⟨_, kitBool _, ?_⟩ | refine ⟨_, kitTup _, ?_⟩ | refine ⟨_, kitList _, ?_⟩ | refine ⟨_, rfl, ?_⟩ | refine ⟨_, _, rfl, ?_⟩ | fail) | fail))
section
variable {K : PySem.W.Frag} {S : Stt} {B : Nat} {ds : List PyData} {Φ : PyData → Nat → Prop} {Θ : PyData → Prop}
theorem ws_unlike (h : TUnlike ds Θ) : WS K S0 (t_unlike K) (rhoOf 2 ds) { nx := fun _ => Θ .none, rt := fun d _ => Θ d } := by
  obtain ⟨ns, rfl, hl, h⟩ := h
  show WS K S0 (t_unlike K) [.dat (.list (ns.map PyData.int)), .unk] _
  unfold t_unlike
  refine ws_ret (wd_uniq (wd_lc (wi_list (wd_var rfl ⟨ns.map PyData.int, rfl, by rw [List.length_map, sizeLine_eq]; omega, fun k acc ρ => acc = (ns.take k).map (fun i => PyData.tuple [.int i, .bool true]) ∧ ρ = [.dat (.list (ns.map PyData.int)), .unk], ⟨rfl, rfl⟩, ?_, ?_⟩))))
  · rintro k d acc ρ2 hd ⟨rfl, rfl⟩
    rw [List.getElem?_map] at hd
    obtain ⟨i, hi, rfl⟩ := Option.map_eq_some_iff.mp hd
    refine ⟨_, _, gd_name, fun j hj => hj, ?_⟩
    refine wt_yes ?_
    refine wd_tup (wa_cons (wd_var rfl (wa_cons (wd_bl (wa_nil ⟨Nat.le_of_ble_eq_true rfl, ?_, rfl⟩)))))
    rw [List.take_add_one, hi, Option.toList_some, List.map_append]; rfl
  · rintro acc ρ2 ⟨rfl, rfl⟩
    rw [List.length_map, List.take_length]
    exact ⟨ns, rfl, h⟩
def wayL (by' : Nat) : List Nat := (List.range 60).map fun k => (k * by' * 7) % 997
theorem way_nd : ∀ b ∈ List.range 41, b = 0 ∨ (wayL b).Nodup := by decide +kernel
theorem ws_turned (hF : FPot S) (h : TTurned B ds Φ) : WS K S (t_turned K) (.sto B :: rhoOf 6 ds) { nx := fun _ => False, rt := fun d ρ => ∃ B', ρ[0]? = some (.sto B') ∧ Φ d B' } := by
  obtain ⟨rfl, hB, hΦ⟩ := h
  show WS K S (t_turned K) [.sto B, .unk, .unk, .unk, .unk, .unk, .unk] _
  unfold t_turned
  have szl : sizeLine = 16777216 := sizeLine_eq
  have e18 : (10 : Int) ^ Int.toNat 18 = 1000000000000000000 := by decide
  refine ws_seq (ws_asg (wd_takeC hF rfl (by decide) (by decide) (by omega) fun w w0 w1 => ?_))
  refine ws_seq (ws_asg ?_)
  walk_at "dl"
  refine wd_takeC hF rfl (by decide) (by decide) (by omega) fun c c0 c1 => ?_
  refine ixAll (P := fun d => ∃ b : Int, d = .int b ∧ b.natAbs ≤ 1000000000000000000) c0 (by simp; omega) (fun x hx => ?_) fun x hx => ?_
  · simp only [List.mem_cons, List.not_mem_nil, or_false] at hx
    rcases hx with rfl | rfl | rfl | rfl | rfl | rfl
    · exact ⟨_, rfl, by decide⟩
    · exact ⟨_, rfl, by decide⟩
    · exact ⟨_, rfl, by decide⟩
    · exact ⟨_, rfl, by rw [e18]; decide⟩
    · exact ⟨_, rfl, by rw [e18]; decide⟩
    · exact ⟨_, rfl, by decide⟩
  obtain ⟨b, rfl, hb⟩ := hx
  refine ws_seq (ws_asg (wd_op (wd_int (wd_takeC hF rfl (by decide) (by decide) (by omega) fun y y0 y1 => do_add ?_))))
  show WS K S _ [.sto (B + 1 + 1 + 1), .dat (.int w), .dat (.int b), .dat (.int (1 + y)), .unk, .unk, .unk] _
  refine ws_seq (ws_if (wt_test ?_))
  walk_at "dl"
  refine if_b (fun c => ?_) (fun c => ?_)
  · have hdown : ∃ dn : Int, (dn = 1 ∨ dn = -1) ∧ ∀ {Ψ : PyData → Prop}, Ψ (.int dn) → DO K rSubI (.int 1) (.int (2 * (if decide (b > 0) = true then 1 else 0))) Ψ := by
      refine ⟨1 - 2 * (if decide (b > 0) = true then 1 else 0), ?_, fun f => do_sub f⟩
      split
      · exact .inr (by decide)
      · exact .inl (by decide)
    obtain ⟨dn, hdn, fd⟩ := hdown
    refine ws_seq (ws_asg (wd_op (wd_int (wd_op (wd_int (wd_cb (wa_cons (wd_op (wd_var rfl (wd_int (do_gt (wa_nil (dc_intB (do_mul ?_ (fd ?_)))))))))))))))
    · split
      · exact wide_mul (a := 3) (b := 3) (by decide) (by decide) (by decide) (by decide) (by decide)
      · exact wide_mul (a := 3) (b := 3) (by decide) (by decide) (by decide) (by decide) (by decide)
    obtain ⟨yn, rfl⟩ : ∃ n : Nat, y = n := ⟨y.toNat, by omega⟩
    show WS K S _ [.sto (B + 1 + 1 + 1), .dat (.int w), .dat (.int b), .dat (.int (1 + (yn : Int))), .dat (.int dn), .unk, .unk] _
    refine ws_ret (wd_lc (wi_rng1 (wa_cons (wd_int (wa_nil ⟨60, rfl, by decide, by decide, ?_⟩)))))
    refine ⟨by rw [List.length_map, List.length_range, szl]; decide, fun k acc ρ => acc = ((List.range k).map fun i : Nat => b + dn * (((i * (1 + yn) * 7) % 997 : Nat) : Int)).map PyData.int ∧ ρ = [.sto (B + 1 + 1 + 1), .dat (.int w), .dat (.int b), .dat (.int (1 + (yn : Int))), .dat (.int dn), .unk, .unk], ⟨rfl, rfl⟩, ?_, ?_⟩
    · rintro k d acc ρ2 hd ⟨rfl, rfl⟩
      have hk2 : k < 60 := by
        have := (List.getElem?_eq_some_iff.mp hd).1
        simpa using this
      have ed : d = .int (0 + (k : Int)) := by
        obtain ⟨h1, h2⟩ := List.getElem?_eq_some_iff.mp hd
        simp at h2
        rw [← h2]; simp
      subst ed
      refine ⟨_, _, gd_name, fun j hj => hj, ?_⟩
      refine wt_yes ?_
      have eN : ((0 + (k : Int)) * (1 + (yn : Int)) * 7).fmod 997 = (((k * (1 + yn) * 7) % 997 : Nat) : Int) := by
        rw [Int.fmod_eq_emod_of_nonneg _ (by decide), Int.zero_add]
        push_cast
        rfl
      have m1 : ((0 + (k : Int)) * (1 + (yn : Int))).natAbs ≤ 60 * 41 := by
        rw [Int.natAbs_mul]
        exact Nat.mul_le_mul (by omega) (by omega)
      refine wd_op (wd_var rfl (wd_op (wd_var rfl (wd_op (wd_op (wd_op (wd_var rfl (wd_var rfl (do_mul (wide_mul (a := 20) (b := 20) (by omega) (by omega) (by decide) (by decide) (by decide)) (wd_int (do_mul ?_ (wd_int (do_mod (by decide) (do_mul ?_ (do_add ⟨?_, rfl⟩)))))))))))))))
      · exact wide_mul (a := 20) (b := 20) (by omega) (by decide) (by decide) (by decide) (by decide)
      · have hmod : ((k * (1 + yn) * 7) % 997 : Nat) < 997 := Nat.mod_lt _ (by decide)
        rw [eN]
        exact wide_mul (a := 3) (b := 20) (by omega) (by omega) (by decide) (by decide) (by decide)
      · rw [eN, List.range_succ, List.map_append, List.map_append]; rfl
    · rintro acc ρ2 ⟨rfl, rfl⟩
      rw [List.length_map, List.length_range]
      refine ⟨_, rfl, hΦ _ _ ⟨?_, ?_, fun t ht => ?_⟩ (by omega)⟩
      · have nd := (way_nd (1 + yn) (by rw [List.mem_range]; omega)).resolve_left (by omega)
        show ((List.range (Int.toNat 60)).map fun i : Nat => b + dn * (((i * (1 + yn) * 7) % 997 : Nat) : Int)).Nodup
        rw [show ((List.range (Int.toNat 60)).map fun i : Nat => b + dn * (((i * (1 + yn) * 7) % 997 : Nat) : Int)) = (wayL (1 + yn)).map fun x : Nat => b + dn * (x : Int) from by unfold wayL; rw [List.map_map]; rfl]
        refine List.pairwise_map.mpr (nd.imp fun {u v} huv e => huv ?_)
        rcases hdn with rfl | rfl <;> omega
      · rw [List.length_map, List.length_range]; decide
      · obtain ⟨i, _, rfl⟩ := List.mem_map.mp ht
        have hmod : ((i * (1 + yn) * 7) % 997 : Nat) < 997 := Nat.mod_lt _ (by decide)
        rcases hdn with rfl | rfl <;> omega
  refine ws_next (ws_seq (ws_if (wt_test ?_)))
  walk_at "dl"
  refine if_b (fun c => ?_) (fun c => ?_)
  · refine ws_ret (wd_lst (wa_nil ⟨Nat.zero_le _, _, rfl, ?_⟩))
    exact hΦ [] _ ⟨List.nodup_nil, by decide, fun t ht => nomatch ht⟩ (by omega)
  refine ws_next (ws_ret (wd_call0 (wa_cons (wd_lc (wi_rng1 (wa_cons (wd_op (wd_int (wd_takeC hF rfl (by decide) (by decide) (by omega) fun n n0 n1 => do_add (wa_nil ⟨_, rfl, by omega, by omega, ?_⟩))))))))))
  obtain ⟨nn, hnn⟩ : ∃ m : Nat, 1 + n = m := ⟨(1 + n).toNat, by omega⟩
  rw [hnn]
  refine ⟨by rw [List.length_map, List.length_range]; omega, fun k acc ρ => ∃ (ts : List Int), acc = ts.map PyData.int ∧ ts.length = k ∧ (∀ t ∈ ts, t.natAbs ≤ 1000000000000000100) ∧ ρ = [.sto (B + 1 + 1 + 1 + 1 + k), .dat (.int w), .dat (.int b), .dat (.int (1 + y)), .unk, .unk, .unk], ⟨[], rfl, rfl, (fun t ht => nomatch ht), rfl⟩, ?_, ?_⟩
  · rintro k d acc ρ2 hd ⟨ts, rfl, hk, ht, rfl⟩
    have hk2 : k < nn := by
      have := (List.getElem?_eq_some_iff.mp hd).1
      simpa using this
    refine ⟨_, _, gd_name, fun j hj => hj, ?_⟩
    refine wt_yes ?_
    refine wd_op (wd_op (wd_var rfl (wd_takeC hF rfl (by decide) (by decide) (by omega) fun z z0 z1 => do_add (wd_int (do_sub ?_)))))
    refine ⟨ts ++ [b + z - 12], by rw [List.map_append]; rfl, by rw [List.length_append, hk]; rfl, fun t ht2 => ?_, rfl⟩
    rcases List.mem_append.mp ht2 with h | h
    · exact ht t h
    · rw [List.mem_singleton] at h; omega
  · rintro acc ρ2 ⟨ts, rfl, hk, ht, rfl⟩
    rw [List.length_map, List.length_range, Int.toNat_natCast] at hk ⊢
    refine wa_nil ⟨ts, rfl, by omega, fun out o1 o2 => ⟨_, rfl, hΦ out _ ⟨o1, ?_, fun t h => ?_⟩ (by omega)⟩⟩
    · have := nd_le (m := ts) o1 fun k hk => (o2 k).mp hk
      omega
    · have := ht t ((o2 t).mp h)
      omega
theorem ws_given (hF : FPot S) (h : TGiven B ds Φ) : WS K S (t_given K) (.sto B :: rhoOf 1 ds) { nx := fun _ => False, rt := fun d ρ => ∃ B', ρ[0]? = some (.sto B') ∧ Φ d B' } := by
  obtain ⟨rfl, hB, hΦ⟩ := h
  show WS K S (t_given K) [.sto B, .unk] _
  unfold t_given
  refine ws_seq (ws_asg (wd_callS hF rfl (wa_nil ⟨B, rfl, rfl, by omega, fun bs B1 hbs hB1 => ?_⟩)))
  refine ws_ret (wd_tup (wa_cons (wd_var rfl (wa_cons (wd_callS hF rfl (wa_nil ⟨B1, rfl, rfl, by omega, fun ts B2 hts hB2 => ?_⟩))))))
  exact wa_nil ⟨Nat.le_of_ble_eq_true rfl, _, rfl, hΦ bs ts B2 hbs hts (by omega)⟩
theorem mks_snoc {bs : List Int} {k : Nat} : (((List.range (k + 1)).filter fun i => decide (bs.getD i 0 = 1)).map fun i : Nat => (i : Int)) = (((List.range k).filter fun i => decide (bs.getD i 0 = 1)).map fun i : Nat => (i : Int)) ++ (if bs.getD k 0 = 1 then [(k : Int)] else []) := by
  rw [List.range_succ, List.filter_append, List.map_append]
  congr 1
  by_cases c : bs.getD k 0 = 1
  · rw [if_pos c, List.filter_cons_of_pos (by simpa using c)]; rfl
  · rw [if_neg c, List.filter_cons_of_neg (by simpa using c)]; rfl
theorem ws_marks (h : TMarks ds Θ) : WS K S0 (t_marks K) (rhoOf 3 ds) { nx := fun _ => Θ .none, rt := fun d _ => Θ d } := by
  obtain ⟨bs, rfl, hl, h⟩ := h
  show WS K S0 (t_marks K) [.dat (.list (bs.map PyData.int)), .unk, .unk] _
  unfold t_marks
  refine ws_ret (wd_lc (wi_enum (wa_cons (wd_var rfl (wa_nil ⟨_, rfl, by rw [List.length_mapIdx, List.length_map, sizeLine_eq]; omega, fun k acc ρ => acc = (((List.range k).filter fun i => decide (bs.getD i 0 = 1)).map fun i : Nat => (i : Int)).map PyData.int ∧ ρ = [.dat (.list (bs.map PyData.int)), .unk, .unk], ⟨rfl, rfl⟩, ?_, ?_⟩)))))
  · rintro k d acc ρ2 hd ⟨rfl, rfl⟩
    rw [List.getElem?_mapIdx, List.getElem?_map] at hd
    obtain ⟨d0, hd0, rfl⟩ := Option.map_eq_some_iff.mp hd
    obtain ⟨b, hb, rfl⟩ := Option.map_eq_some_iff.mp hd0
    have gb : bs.getD k 0 = b := by rw [List.getD_eq_getElem?_getD, hb]; rfl
    refine ⟨_, _, gd_pair, fun j hj => hj, ?_⟩
    refine wt_test (wd_op (wd_var rfl (wd_int (do_eqi ⟨_, rfl, ?_⟩))))
    refine if_b (fun c => ?_) (fun c => ?_)
    · refine wd_var rfl ⟨?_, rfl⟩
      rw [mks_snoc, if_pos (by rw [gb]; exact c), List.map_append]; rfl
    · refine ⟨?_, rfl⟩
      rw [mks_snoc, if_neg (by rw [gb]; exact c), List.append_nil]
  · rintro acc ρ2 ⟨rfl, rfl⟩
    rw [List.length_mapIdx, List.length_map]
    exact h
end
end DL

set_option Elab.async false
set_option linter.all false
set_option maxRecDepth 100000
set_option maxHeartbeats 4000000
/-! DI9: Days refused; methods by names -/
namespace DL
open PySem PySem.Spec PyProof.Rows L2
local macro_rules | `(tactic| walk_at "dl") => `(tactic| repeat' (first
  | with_reducible refine wd_isTy ?_ | with_reducible refine wd_isi ?_ | ((with_reducible show WD _ _ (tOp (rIxL _) (tVar _) _) _ _); refine wd_ix_own rfl ?_) | with_reducible refine wd_op ?_ | ((with_reducible show WD _ _ (tCB (rLenX _) (tCons (tVar _) tNil)) _ _); refine wd_len_scr rfl ?_) | ((with_reducible show WD _ _ (tCB (rLenX _) (tCons (tVar _) tNil)) _ _); refine wd_len_own rfl ?_) | with_reducible refine wd_cb ?_ | with_reducible refine wd_un ?_ | with_reducible refine wa_cons ?_ | with_reducible refine wa_nil ?_ | ((with_reducible show WD _ _ (tVar _) _ _); refine wd_var rfl ?_) | with_reducible refine wd_int ?_ | with_reducible refine wd_bl ?_ | with_reducible refine wd_str ?_ | with_reducible refine wd_non ?_
  | with_reducible refine do_nesS ?_ | with_reducible refine dc_intB ?_ | with_reducible refine do_add ?_ | with_reducible refine do_sub ?_ | ((with_reducible refine do_mod ?_ ?_); decide) | with_reducible refine do_mod ?_ ?_ | with_reducible refine do_mul ?_ ?_ | ((with_reducible refine do_div ?_ ?_); exact ⟨by decide, by decide⟩) | with_reducible refine do_div ?_ ?_ | ((with_reducible refine do_pow ?_ ?_); exact ⟨by decide, by decide, by decide⟩) | with_reducible refine do_pow ?_ ?_
  | with_reducible refine do_lt ?_ | with_reducible refine do_le ?_ | with_reducible refine do_gt ?_ | with_reducible refine do_ge ?_ | with_reducible refine du_neg ?_
  | with_reducible refine do_eqi ?_ | with_reducible refine do_nei ?_ | with_reducible refine do_eqs ?_ | with_reducible refine do_nes ?_ | with_reducible refine dc_abs ?_ | with_reducible refine dc_min ?_ | with_reducible refine dc_max ?_ | with_reducible refine dc_lenL ?_ | with_reducible refine dc_lenT ?_ | with_reducible refine dc_lenR ?_ | with_reducible refine dc_listT ?_ | with_reducible refine dc_listL ?_ | with_reducible refine dc_tupL ?_ | with_reducible refine dc_gcd ?_
  | ((with_reducible show DO _ (rIxT _) _ _ _); refine do_ixT rfl ?_) | ((with_reducible show DO _ (rIxL _) _ _ _); refine do_ixL rfl ?_) | ((with_reducible refine do_catL ?_ ?_); exact Nat.le_of_ble_eq_true rfl) | with_reducible refine do_catL ?_ ?_ | ((with_reducible show And (List.length _ ≤ sizeLine) _); refine ⟨Nat.le_of_ble_eq_true rfl, ?_⟩)
  | with_reducible refine wd_dnew ?_ | with_reducible refine wd_call0 ?_ | with_reducible refine wd_slA ?_ | with_reducible refine wd_slL ?_ | with_reducible refine wd_revT ?_ | with_reducible refine do_catA ?_ ?_ | with_reducible refine wo_part ?_ | with_reducible refine wo_none ?_ | with_reducible refine do_eqQ ?_ | with_reducible refine do_neQ ?_ | with_reducible refine wi_enumT ?_ | with_reducible refine wi_enumD ?_ | with_reducible refine tAdQ (by omega) (by omega) ?_ | with_reducible refine tSbQ (by omega) (by omega) ?_ | with_reducible refine tMlQ (by omega) (by omega) ?_ | with_reducible refine tDvQ (by assumption) (by omega) (by omega) ?_ | with_reducible refine tLtQ (by omega) (by omega) ?_ | with_reducible refine dc_str ?_ ?_ | with_reducible refine wd_tup ?_ | with_reducible refine wd_lst ?_ | with_reducible refine wt_test ?_ | with_reducible refine wt_B ?_ | with_reducible refine wt_not ?_ | with_reducible refine wt_and ?_ | with_reducible refine wt_or ?_ | with_reducible refine wd_ifE ?_ | with_reducible refine wd_andV ?_ | with_reducible refine wd_orV ?_ | with_reducible refine wd_notV ?_
  | with_reducible refine ws_seq ?_ | with_reducible refine ws_next ?_ | with_reducible refine ws_asg ?_ | with_reducible refine ws_ret ?_ | with_reducible refine ws_retN ?_ | with_reducible refine ws_if ?_ | with_reducible refine ws_par ?_ | with_reducible refine ws_unp2 ?_
  | with_reducible refine if_t ?_ | with_reducible refine if_f ?_ | with_reducible refine if_nf ?_ | with_reducible refine if_nt ?_
  | ((with_reducible show Exists _); first | refine ⟨_, kitInt _, ?_⟩ | refine ⟨_, kitBool _, ?_⟩ | refine ⟨_, kitTup _, ?_⟩ | refine ⟨_, kitList _, ?_⟩ | refine ⟨_, rfl, ?_⟩ | refine ⟨_, _, rfl, ?_⟩ | fail) | fail))
/-! ### o.m(k = e) -/
def tMethN (C : Addr) (m : Str) (n : Nat) (sp : Sp) (gV : List V → List V → List V) (E : XK) (ta : TE) (tk : TA) : TE := fun σ H Q => ta σ H fun x H1 => ∃ a dx fs, x = V.ref a ∧ H1 a = some (.ins C dx fs) ∧ fs.lookup m = none ∧
  tk σ H1 fun zs H2 => zs.length = n ∧ sp (gV [x] zs) H2 Q E
section
variable {K : PySem.W.Frag} {S : Stt} {ρ : Rho} {Φ : PyData → Rho → Prop} {C : Addr}
end
/-! ### refused -/
def perB : PyData → Bool
  | .int n => decide (1 ≤ n) && decide (n ≤ 5040)
  | _ => false
def inRB (n : Int) : PyData → Bool
  | .tuple xs => xs.all fun d => decide (0 ≤ intI d) && decide (intI d < n)
  | .list xs => xs.all fun d => decide (0 ≤ intI d) && decide (intI d < n)
  | _ => false
def lenB : PyData → Bool
  | .tuple xs => decide (xs.length ≤ 60)
  | .list xs => decide (xs.length ≤ 60)
  | _ => false
/-- what Days can be made of -/
def dayB (d1 d2 d3 : PyData) : Bool := perB d1 && (rowsB d2 && (inRB (intI d1) d2 && (rowsB d3 && lenB d3)))
structure AnyR (d : PyData) : Prop where
  i : ∀ C ps, d ≠ insD C ps
  l : ∀ b xs, d = rowD b xs → xs.length ≤ 4000
def TBadR (C : Addr) : List PyData → (PyData → Prop) → (Addr → Prop) → Prop := fun ds _ Ψ => ∃ d1 d2 d3, ds = [d1, d2, d3] ∧ AnyR d2 ∧ AnyR d3 ∧ dayB d1 d2 d3 = false ∧ Ψ C
def t_refX (K : PySem.W.Frag) (C : Addr) (E : XK) : TS :=
  (tSeq (tIfS (tNot (tAnd (tB (tCall (spP K TWhI) [] E0 (tCons (tVar 0) tNil))) (tTest (tChain rLe rLe (tC (.int 1)) (tVar 0) (tC (.int 5040)))))) (fun _ σ H => E (.ref C) none H) tNext)
    (tSeq (tIfS (tNot (tB (tCall (spP K TUnl) [] E0 (tCons (tVar 1) tNil)))) (fun _ σ H => E (.ref C) none H) tNext)
    (tSeq (tIfS (tNot (tB (tCB (rAll K) (tCons (tLc (iRow K (tVar 1)) (gName 3) tYes (tChain rLe rLt (tC (.int 0)) (tVar 3) (tVar 0)) [3]) tNil)))) (fun _ σ H => E (.ref C) none H) tNext)
    (tSeq (tIfS (tNot (tB (tCall (spP K TUnl) [] E0 (tCons (tVar 2) tNil)))) (fun _ σ H => E (.ref C) none H) tNext)
    (tIfS (tTest (tOp rGt (tCB (rLenX K) (tCons (tVar 2) tNil)) (tC (.int 60)))) (fun _ σ H => E (.ref C) none H) tNext)))))
def t_refW (K : PySem.W.Frag) : TS :=
  (tSeq (tIfS (tNot (tAnd (tB (tCall (spP K TWhI) [] E0 (tCons (tVar 0) tNil))) (tTest (tChain rLe rLe (tC (.int 1)) (tVar 0) (tC (.int 5040)))))) (tRet (tC .non)) tNext)
    (tSeq (tIfS (tNot (tB (tCall (spP K TUnl) [] E0 (tCons (tVar 1) tNil)))) (tRet (tC .non)) tNext)
    (tSeq (tIfS (tNot (tB (tCB (rAll K) (tCons (tLc (iRow K (tVar 1)) (gName 3) tYes (tChain rLe rLt (tC (.int 0)) (tVar 3) (tVar 0)) [3]) tNil)))) (tRet (tC .non)) tNext)
    (tSeq (tIfS (tNot (tB (tCall (spP K TUnl) [] E0 (tCons (tVar 2) tNil)))) (tRet (tC .non)) tNext)
    (tIfS (tTest (tOp rGt (tCB (rLenX K) (tCons (tVar 2) tNil)) (tC (.int 60)))) (tRet (tC .non)) tNext)))))
def t_iniX (K : PySem.W.Frag) (C : Addr) (E : XK) : TS :=
  tSeq (tDrop (tCall (spX K (TBadR C)) [] E (tCons (tVar 1) (tCons (tVar 2) (tCons (tVar 3) tNil))))) tNo
section
variable {K : PySem.W.Frag}
end
end DL

set_option Elab.async false
set_option linter.all false
set_option maxRecDepth 100000
set_option maxHeartbeats 4000000
/-! DI10: Days refused in a try; the word of a refusal -/
namespace DL
open PySem PySem.Spec PyProof.Rows L2
local macro_rules | `(tactic| walk_at "dl") => `(tactic| repeat' (first
  | with_reducible refine wd_isTy ?_ | with_reducible refine wd_isi ?_ | ((with_reducible show WD _ _ (tOp (rIxL _) (tVar _) _) _ _); refine wd_ix_own rfl ?_) | with_reducible refine wd_op ?_ | ((with_reducible show WD _ _ (tCB (rLenX _) (tCons (tVar _) tNil)) _ _); refine wd_len_scr rfl ?_) | ((with_reducible show WD _ _ (tCB (rLenX _) (tCons (tVar _) tNil)) _ _); refine wd_len_own rfl ?_) | with_reducible refine wd_cb ?_ | with_reducible refine wd_un ?_ | with_reducible refine wa_cons ?_ | with_reducible refine wa_nil ?_ | ((with_reducible show WD _ _ (tVar _) _ _); refine wd_var rfl ?_) | with_reducible refine wd_int ?_ | with_reducible refine wd_bl ?_ | with_reducible refine wd_str ?_ | with_reducible refine wd_non ?_
  | with_reducible refine do_nesS ?_ | with_reducible refine dc_intB ?_ | with_reducible refine do_add ?_ | with_reducible refine do_sub ?_ | ((with_reducible refine do_mod ?_ ?_); decide) | with_reducible refine do_mod ?_ ?_ | with_reducible refine do_mul ?_ ?_ | ((with_reducible refine do_div ?_ ?_); exact ⟨by decide, by decide⟩) | with_reducible refine do_div ?_ ?_ | ((with_reducible refine do_pow ?_ ?_); exact ⟨by decide, by decide, by decide⟩) | with_reducible refine do_pow ?_ ?_
  | with_reducible refine do_lt ?_ | with_reducible refine do_le ?_ | with_reducible refine do_gt ?_ | with_reducible refine do_ge ?_ | with_reducible refine du_neg ?_
  | with_reducible refine do_eqi ?_ | with_reducible refine do_nei ?_ | with_reducible refine do_eqs ?_ | with_reducible refine do_nes ?_ | with_reducible refine dc_abs ?_ | with_reducible refine dc_min ?_ | with_reducible refine dc_max ?_ | with_reducible refine dc_lenL ?_ | with_reducible refine dc_lenT ?_ | with_reducible refine dc_lenR ?_ | with_reducible refine dc_listT ?_ | with_reducible refine dc_listL ?_ | with_reducible refine dc_tupL ?_ | with_reducible refine dc_gcd ?_
  | ((with_reducible show DO _ (rIxT _) _ _ _); refine do_ixT rfl ?_) | ((with_reducible show DO _ (rIxL _) _ _ _); refine do_ixL rfl ?_) | ((with_reducible refine do_catL ?_ ?_); exact Nat.le_of_ble_eq_true rfl) | with_reducible refine do_catL ?_ ?_ | ((with_reducible show And (List.length _ ≤ sizeLine) _); refine ⟨Nat.le_of_ble_eq_true rfl, ?_⟩)
  | with_reducible refine wd_dnew ?_ | with_reducible refine wd_call0 ?_ | with_reducible refine wd_slA ?_ | with_reducible refine wd_slL ?_ | with_reducible refine wd_revT ?_ | with_reducible refine do_catA ?_ ?_ | with_reducible refine wo_part ?_ | with_reducible refine wo_none ?_ | with_reducible refine do_eqQ ?_ | with_reducible refine do_neQ ?_ | with_reducible refine wi_enumT ?_ | with_reducible refine wi_enumD ?_ | with_reducible refine tAdQ (by omega) (by omega) ?_ | with_reducible refine tSbQ (by omega) (by omega) ?_ | with_reducible refine tMlQ (by omega) (by omega) ?_ | with_reducible refine tDvQ (by assumption) (by omega) (by omega) ?_ | with_reducible refine tLtQ (by omega) (by omega) ?_ | with_reducible refine dc_str ?_ ?_ | with_reducible refine wd_tup ?_ | with_reducible refine wd_lst ?_ | with_reducible refine wt_test ?_ | with_reducible refine wt_B ?_ | with_reducible refine wt_not ?_ | with_reducible refine wt_and ?_ | with_reducible refine wt_or ?_ | with_reducible refine wd_ifE ?_ | with_reducible refine wd_andV ?_ | with_reducible refine wd_orV ?_ | with_reducible refine wd_notV ?_
  | with_reducible refine ws_seq ?_ | with_reducible refine ws_next ?_ | with_reducible refine ws_asg ?_ | with_reducible refine ws_ret ?_ | with_reducible refine ws_retN ?_ | with_reducible refine ws_if ?_ | with_reducible refine ws_par ?_ | with_reducible refine ws_unp2 ?_
  | with_reducible refine if_t ?_ | with_reducible refine if_f ?_ | with_reducible refine if_nf ?_ | with_reducible refine if_nt ?_
  | ((with_reducible show Exists _); first | refine ⟨_, kitInt _, ?_⟩ | refine ⟨_, kitBool _, ?_⟩ | refine ⟨_, kitTup _, ?_⟩ | refine ⟨_, kitList _, ?_⟩ | refine ⟨_, rfl, ?_⟩ | refine ⟨_, _, rfl, ?_⟩ | fail) | fail))
/-- an __init__ that refuses -/
def spXI (K : PySem.W.Frag) (C : Addr) : Sp := fun vs H _ E => ∃ (N : Av) (x : Addr) (us : List V) (d1 d2 d3 : PyData), vs = .ref x :: us ∧ (∀ b, N b = true → H b ≠ none) ∧ DqAll K N H us [d1, d2, d3] ∧ AnyR d2 ∧ AnyR d3 ∧ dayB d1 d2 d3 = false ∧ ∀ H', Same H H' → E (.ref C) none H'
/-- C(e, .., k = e) in a try -/
def tMakeKS (C : Addr) (n m : Nat) (sp : Sp) (gV : List V → List V → List V) (E : L2.St → XK) (t tk : TA) : TE := fun σ H Q => t σ H fun vs H1 => tk σ H1 fun zs H2 => vs.length = n ∧ zs.length = m ∧ ∀ x dx, H2 x = none → H2 dx = none → dx ≠ x →
  sp (gV (.ref x :: vs) zs) (upd (upd H2 dx (.own x)) x (.ins C dx [])) (fun v H3 => v = .non ∧ Q (.ref x) H3) (E σ)
/-! ### an error as a store -/
def mkErr (a D : Addr) : Stt where
  a := a
  fp b := decide (b = a)
  ok H _ := H a = some (.ext (excAt a (.ref D)))
  loc H H' B h k := (h a (by simp)).trans k
  trk H B k b hb := by
    have e : b = a := of_decide_eq_true hb
    rw [e, k]; simp
section
variable {K : PySem.W.Frag} {a D : Addr} {S : Stt} {ρ : Rho} {Φ : PyData → Rho → Prop}
end
end DL

set_option Elab.async false
set_option linter.all false
set_option maxRecDepth 100000
set_option maxHeartbeats 4000000
/-! DI11: the word of a refusal -/
namespace DL
open PySem PySem.Spec PyProof.Rows L2
local macro_rules | `(tactic| walk_at "dl") => `(tactic| repeat' (first
  | with_reducible refine wd_isTy ?_ | with_reducible refine wd_isi ?_ | ((with_reducible show WD _ _ (tOp (rIxL _) (tVar _) _) _ _); refine wd_ix_own rfl ?_) | with_reducible refine wd_op ?_ | ((with_reducible show WD _ _ (tCB (rLenX _) (tCons (tVar _) tNil)) _ _); refine wd_len_scr rfl ?_) | ((with_reducible show WD _ _ (tCB (rLenX _) (tCons (tVar _) tNil)) _ _); refine wd_len_own rfl ?_) | with_reducible refine wd_cb ?_ | with_reducible refine wd_un ?_ | with_reducible refine wa_cons ?_ | with_reducible refine wa_nil ?_ | ((with_reducible show WD _ _ (tVar _) _ _); refine wd_var rfl ?_) | with_reducible refine wd_int ?_ | with_reducible refine wd_bl ?_ | with_reducible refine wd_str ?_ | with_reducible refine wd_non ?_
  | with_reducible refine do_nesS ?_ | with_reducible refine dc_intB ?_ | with_reducible refine do_add ?_ | with_reducible refine do_sub ?_ | ((with_reducible refine do_mod ?_ ?_); decide) | with_reducible refine do_mod ?_ ?_ | with_reducible refine do_mul ?_ ?_ | ((with_reducible refine do_div ?_ ?_); exact ⟨by decide, by decide⟩) | with_reducible refine do_div ?_ ?_ | ((with_reducible refine do_pow ?_ ?_); exact ⟨by decide, by decide, by decide⟩) | with_reducible refine do_pow ?_ ?_
  | with_reducible refine do_lt ?_ | with_reducible refine do_le ?_ | with_reducible refine do_gt ?_ | with_reducible refine do_ge ?_ | with_reducible refine du_neg ?_
  | with_reducible refine do_eqi ?_ | with_reducible refine do_nei ?_ | with_reducible refine do_eqs ?_ | with_reducible refine do_nes ?_ | with_reducible refine dc_abs ?_ | with_reducible refine dc_min ?_ | with_reducible refine dc_max ?_ | with_reducible refine dc_lenL ?_ | with_reducible refine dc_lenT ?_ | with_reducible refine dc_lenR ?_ | with_reducible refine dc_listT ?_ | with_reducible refine dc_listL ?_ | with_reducible refine dc_tupL ?_ | with_reducible refine dc_gcd ?_
  | ((with_reducible show DO _ (rIxT _) _ _ _); refine do_ixT rfl ?_) | ((with_reducible show DO _ (rIxL _) _ _ _); refine do_ixL rfl ?_) | ((with_reducible refine do_catL ?_ ?_); exact Nat.le_of_ble_eq_true rfl) | with_reducible refine do_catL ?_ ?_ | ((with_reducible show And (List.length _ ≤ sizeLine) _); refine ⟨Nat.le_of_ble_eq_true rfl, ?_⟩)
  | with_reducible refine wd_dnew ?_ | with_reducible refine wd_call0 ?_ | with_reducible refine wd_slA ?_ | with_reducible refine wd_slL ?_ | with_reducible refine wd_revT ?_ | with_reducible refine do_catA ?_ ?_ | with_reducible refine wo_part ?_ | with_reducible refine wo_none ?_ | with_reducible refine do_eqQ ?_ | with_reducible refine do_neQ ?_ | with_reducible refine wi_enumT ?_ | with_reducible refine wi_enumD ?_ | with_reducible refine tAdQ (by omega) (by omega) ?_ | with_reducible refine tSbQ (by omega) (by omega) ?_ | with_reducible refine tMlQ (by omega) (by omega) ?_ | with_reducible refine tDvQ (by assumption) (by omega) (by omega) ?_ | with_reducible refine tLtQ (by omega) (by omega) ?_ | with_reducible refine dc_str ?_ ?_ | with_reducible refine wd_tup ?_ | with_reducible refine wd_lst ?_ | with_reducible refine wt_test ?_ | with_reducible refine wt_B ?_ | with_reducible refine wt_not ?_ | with_reducible refine wt_and ?_ | with_reducible refine wt_or ?_ | with_reducible refine wd_ifE ?_ | with_reducible refine wd_andV ?_ | with_reducible refine wd_orV ?_ | with_reducible refine wd_notV ?_
  | with_reducible refine ws_seq ?_ | with_reducible refine ws_next ?_ | with_reducible refine ws_asg ?_ | with_reducible refine ws_ret ?_ | with_reducible refine ws_retN ?_ | with_reducible refine ws_if ?_ | with_reducible refine ws_par ?_ | with_reducible refine ws_unp2 ?_
  | with_reducible refine if_t ?_ | with_reducible refine if_f ?_ | with_reducible refine if_nf ?_ | with_reducible refine if_nt ?_
  | ((with_reducible show Exists _); first | refine ⟨_, kitInt _, ?_⟩ | refine ⟨_, kitBool _, ?_⟩ | refine ⟨_, kitTup _, ?_⟩ | refine ⟨_, kitList _, ?_⟩ | refine ⟨_, rfl, ?_⟩ | refine ⟨_, _, rfl, ?_⟩ | fail) | fail))
section
variable {K : PySem.W.Frag} {S : Stt} {ρ : Rho} {Φ : PyData → Rho → Prop} {a D : Addr}
end
/-! ### the word -/
def wordL : List Str := ["amount", "days", "deed", "fold", "leave", "line", "pot", "rule", "stretch", "table", "telling", "text", "part", "name", "number", "long", "cut"]
structure Wd13 (K : PySem.W.Frag) (D : Addr) (As : List Addr) (P : Addr) (j : Nat) : Prop where
  l : As.length = 17
  j17 : j < 17
  k : ∀ (i : Nat) (A : Addr), As[i]? = some A → PySem.W.kitOne K (.ref D) (.ref A) = some (decide (i = j))
  p : PySem.W.kitOne K (.ref D) (.ref P) = some (decide (j < 12))
def t_word13 (K : PySem.W.Frag) (D A_PayError A_NoAmount A_NoDays A_NoDeed A_NoFold A_NoLeave A_NoLine A_NoPot A_NoRule A_NoStretch A_NoTable A_NoTelling A_NoText A_NoPart A_NoName A_NoNumber A_TooLong A_NoCut : Addr) : TS :=
  (tSeq (tAsg (tLst (tCons (tCB (rIsiE K D) (tCons (tVar 0) (tCons (tC (.ref A_NoAmount)) tNil))) (tCons (tCB (rIsiE K D) (tCons (tVar 0) (tCons (tC (.ref A_NoDays)) tNil))) (tCons (tCB (rIsiE K D) (tCons (tVar 0) (tCons (tC (.ref A_NoDeed)) tNil))) tNil)))) (gName 1))
    (tSeq (tAsg (tOp rCatL (tVar 1) (tLst (tCons (tCB (rIsiE K D) (tCons (tVar 0) (tCons (tC (.ref A_NoFold)) tNil))) (tCons (tCB (rIsiE K D) (tCons (tVar 0) (tCons (tC (.ref A_NoLeave)) tNil))) (tCons (tCB (rIsiE K D) (tCons (tVar 0) (tCons (tC (.ref A_NoLine)) tNil))) tNil))))) (gName 1))
    (tSeq (tAsg (tOp rCatL (tVar 1) (tLst (tCons (tCB (rIsiE K D) (tCons (tVar 0) (tCons (tC (.ref A_NoPot)) tNil))) (tCons (tCB (rIsiE K D) (tCons (tVar 0) (tCons (tC (.ref A_NoRule)) tNil))) (tCons (tCB (rIsiE K D) (tCons (tVar 0) (tCons (tC (.ref A_NoStretch)) tNil))) tNil))))) (gName 1))
    (tSeq (tAsg (tOp rCatL (tVar 1) (tLst (tCons (tCB (rIsiE K D) (tCons (tVar 0) (tCons (tC (.ref A_NoTable)) tNil))) (tCons (tCB (rIsiE K D) (tCons (tVar 0) (tCons (tC (.ref A_NoTelling)) tNil))) (tCons (tCB (rIsiE K D) (tCons (tVar 0) (tCons (tC (.ref A_NoText)) tNil))) tNil))))) (gName 1))
    (tSeq (tAsg (tOp rCatL (tVar 1) (tLst (tCons (tCB (rIsiE K D) (tCons (tVar 0) (tCons (tC (.ref A_NoPart)) tNil))) (tCons (tCB (rIsiE K D) (tCons (tVar 0) (tCons (tC (.ref A_NoName)) tNil))) (tCons (tCB (rIsiE K D) (tCons (tVar 0) (tCons (tC (.ref A_NoNumber)) tNil))) tNil))))) (gName 1))
    (tSeq (tAsg (tOp rCatL (tVar 1) (tLst (tCons (tCB (rIsiE K D) (tCons (tVar 0) (tCons (tC (.ref A_TooLong)) tNil))) (tCons (tCB (rIsiE K D) (tCons (tVar 0) (tCons (tC (.ref A_NoCut)) tNil))) tNil)))) (gName 1))
    (tSeq (tAsg (tLst (tCons (tC (.str "amount")) (tCons (tC (.str "days")) (tCons (tC (.str "deed")) (tCons (tC (.str "fold")) (tCons (tC (.str "leave")) (tCons (tC (.str "line")) (tCons (tC (.str "pot")) (tCons (tC (.str "rule")) (tCons (tC (.str "stretch")) (tCons (tC (.str "table")) (tCons (tC (.str "telling")) tNil)))))))))))) (gName 2))
    (tSeq (tAsg (tOp rCatL (tVar 2) (tLst (tCons (tC (.str "text")) (tCons (tC (.str "part")) (tCons (tC (.str "name")) (tCons (tC (.str "number")) (tCons (tC (.str "long")) (tCons (tC (.str "cut")) tNil)))))))) (gName 2))
    (tSeq (tIfS (tOr (tTest (tOp rNe (tBM K "list" (rCntF K) (tVar 1) (tCons (tC (.bl true)) tNil)) (tC (.int 1)))) (tTest (tOp rNe (tCB (rIsiE K D) (tCons (tVar 0) (tCons (tC (.ref A_PayError)) tNil))) (tOp rLt (tBM K "list" (rIndex K) (tVar 1) (tCons (tC (.bl true)) tNil)) (tC (.int 12)))))) (tRet (tC (.str "odd"))) tNext)
    (tRet (tOp (rIxL K) (tVar 2) (tBM K "list" (rIndex K) (tVar 1) (tCons (tC (.bl true)) tNil)))))))))))))
end DL

set_option Elab.async false
set_option linter.all false
set_option maxRecDepth 100000
set_option maxHeartbeats 4000000
/-! DI12: the word told, Days refused -/
namespace DL
open PySem PySem.Spec PyProof.Rows L2
local macro_rules | `(tactic| walk_at "dl") => `(tactic| repeat' (first
  | with_reducible refine wd_isTy ?_ | with_reducible refine wd_isi ?_ | ((with_reducible show WD _ _ (tOp (rIxL _) (tVar _) _) _ _); refine wd_ix_own rfl ?_) | with_reducible refine wd_op ?_ | ((with_reducible show WD _ _ (tCB (rLenX _) (tCons (tVar _) tNil)) _ _); refine wd_len_scr rfl ?_) | ((with_reducible show WD _ _ (tCB (rLenX _) (tCons (tVar _) tNil)) _ _); refine wd_len_own rfl ?_) | with_reducible refine wd_cb ?_ | with_reducible refine wd_un ?_ | with_reducible refine wa_cons ?_ | with_reducible refine wa_nil ?_ | ((with_reducible show WD _ _ (tVar _) _ _); refine wd_var rfl ?_) | with_reducible refine wd_int ?_ | with_reducible refine wd_bl ?_ | with_reducible refine wd_str ?_ | with_reducible refine wd_non ?_
  | with_reducible refine do_nesS ?_ | with_reducible refine dc_intB ?_ | with_reducible refine do_add ?_ | with_reducible refine do_sub ?_ | ((with_reducible refine do_mod ?_ ?_); decide) | with_reducible refine do_mod ?_ ?_ | with_reducible refine do_mul ?_ ?_ | ((with_reducible refine do_div ?_ ?_); exact ⟨by decide, by decide⟩) | with_reducible refine do_div ?_ ?_ | ((with_reducible refine do_pow ?_ ?_); exact ⟨by decide, by decide, by decide⟩) | with_reducible refine do_pow ?_ ?_
  | with_reducible refine do_lt ?_ | with_reducible refine do_le ?_ | with_reducible refine do_gt ?_ | with_reducible refine do_ge ?_ | with_reducible refine du_neg ?_
  | with_reducible refine do_eqi ?_ | with_reducible refine do_nei ?_ | with_reducible refine do_eqs ?_ | with_reducible refine do_nes ?_ | with_reducible refine dc_abs ?_ | with_reducible refine dc_min ?_ | with_reducible refine dc_max ?_ | with_reducible refine dc_lenL ?_ | with_reducible refine dc_lenT ?_ | with_reducible refine dc_lenR ?_ | with_reducible refine dc_listT ?_ | with_reducible refine dc_listL ?_ | with_reducible refine dc_tupL ?_ | with_reducible refine dc_gcd ?_
  | ((with_reducible show DO _ (rIxT _) _ _ _); refine do_ixT rfl ?_) | ((with_reducible show DO _ (rIxL _) _ _ _); refine do_ixL rfl ?_) | ((with_reducible refine do_catL ?_ ?_); exact Nat.le_of_ble_eq_true rfl) | with_reducible refine do_catL ?_ ?_ | ((with_reducible show And (List.length _ ≤ sizeLine) _); refine ⟨Nat.le_of_ble_eq_true rfl, ?_⟩)
  | with_reducible refine wd_dnew ?_ | with_reducible refine wd_call0 ?_ | with_reducible refine wd_slA ?_ | with_reducible refine wd_slL ?_ | with_reducible refine wd_revT ?_ | with_reducible refine do_catA ?_ ?_ | with_reducible refine wo_part ?_ | with_reducible refine wo_none ?_ | with_reducible refine do_eqQ ?_ | with_reducible refine do_neQ ?_ | with_reducible refine wi_enumT ?_ | with_reducible refine wi_enumD ?_ | with_reducible refine tAdQ (by omega) (by omega) ?_ | with_reducible refine tSbQ (by omega) (by omega) ?_ | with_reducible refine tMlQ (by omega) (by omega) ?_ | with_reducible refine tDvQ (by assumption) (by omega) (by omega) ?_ | with_reducible refine tLtQ (by omega) (by omega) ?_ | with_reducible refine dc_str ?_ ?_ | with_reducible refine wd_tup ?_ | with_reducible refine wd_lst ?_ | with_reducible refine wt_test ?_ | with_reducible refine wt_B ?_ | with_reducible refine wt_not ?_ | with_reducible refine wt_and ?_ | with_reducible refine wt_or ?_ | with_reducible refine wd_ifE ?_ | with_reducible refine wd_andV ?_ | with_reducible refine wd_orV ?_ | with_reducible refine wd_notV ?_
  | with_reducible refine ws_seq ?_ | with_reducible refine ws_next ?_ | with_reducible refine ws_asg ?_ | with_reducible refine ws_ret ?_ | with_reducible refine ws_retN ?_ | with_reducible refine ws_if ?_ | with_reducible refine ws_par ?_ | with_reducible refine ws_unp2 ?_
  | with_reducible refine if_t ?_ | with_reducible refine if_f ?_ | with_reducible refine if_nf ?_ | with_reducible refine if_nt ?_
  | ((with_reducible show Exists _); first | refine ⟨_, kitInt _, ?_⟩ | refine ⟨_, kitBool _, ?_⟩ | refine ⟨_, kitTup _, ?_⟩ | refine ⟨_, kitList _, ?_⟩ | refine ⟨_, rfl, ?_⟩ | refine ⟨_, _, rfl, ?_⟩ | fail) | fail))
/-! ### Days refused -/
def TRef13 : List PyData → (PyData → Prop) → Prop := fun ds Φ => ∃ d1 d2 d3, ds = [d1, d2, d3] ∧ AnyR d2 ∧ AnyR d3 ∧ dayB d1 d2 d3 = false ∧ Φ (.bool true)
def tb_ref13 (K : PySem.W.Frag) (Cd Ce : Addr) (W : WX) : TS := tDrop (tMakeKS Cd 2 1 (spXI K Ce) gVapp (WE W) (tCons (tVar 0) (tCons (tVar 1) tNil)) (tCons (tVar 2) tNil))
def ts_ref13 (a : Addr) : TS := tAsg (tVar 4) (gName 3)
def te_ref13 (K : PySem.W.Frag) (Ce : Addr) : TE := tAndV (tOp rNotNone (tVar 3) (tC .non)) (tAndV (tOp rEq (tCall (spW K Ce "days") [] E0 (tCons (tVar 3) tNil)) (tC (.str "days"))) (tCB (rIsiE K Ce) (tCons (tVar 3) (tCons (tC (.ty "ValueError")) tNil))))
def t_ref13 (K : PySem.W.Frag) (Cd Ce P : Addr) : TS :=
  (tSeq (tAsg (tC .non) (gName 3))
    (tSeq (fun D σ H => tb_ref13 K Cd Ce (wKeep K (.ref P) 4 ts_ref13 D) D σ H)
    (tRet (te_ref13 K Ce))))
end DL

set_option Elab.async false
set_option linter.all false
set_option maxRecDepth 100000
set_option maxHeartbeats 4000000
/-! DI13: what makes no Days -/
namespace DL
open PySem PySem.Spec PyProof.Rows L2
local macro_rules | `(tactic| walk_at "dl") => `(tactic| repeat' (first
  | with_reducible refine wd_isTy ?_ | with_reducible refine wd_isi ?_ | ((with_reducible show WD _ _ (tOp (rIxL _) (tVar _) _) _ _); refine wd_ix_own rfl ?_) | with_reducible refine wd_op ?_ | ((with_reducible show WD _ _ (tCB (rLenX _) (tCons (tVar _) tNil)) _ _); refine wd_len_scr rfl ?_) | ((with_reducible show WD _ _ (tCB (rLenX _) (tCons (tVar _) tNil)) _ _); refine wd_len_own rfl ?_) | with_reducible refine wd_cb ?_ | with_reducible refine wd_un ?_ | with_reducible refine wa_cons ?_ | with_reducible refine wa_nil ?_ | ((with_reducible show WD _ _ (tVar _) _ _); refine wd_var rfl ?_) | with_reducible refine wd_int ?_ | with_reducible refine wd_bl ?_ | with_reducible refine wd_str ?_ | with_reducible refine wd_non ?_
  | with_reducible refine do_nesS ?_ | with_reducible refine dc_intB ?_ | with_reducible refine do_add ?_ | with_reducible refine do_sub ?_ | ((with_reducible refine do_mod ?_ ?_); decide) | with_reducible refine do_mod ?_ ?_ | with_reducible refine do_mul ?_ ?_ | ((with_reducible refine do_div ?_ ?_); exact ⟨by decide, by decide⟩) | with_reducible refine do_div ?_ ?_ | ((with_reducible refine do_pow ?_ ?_); exact ⟨by decide, by decide, by decide⟩) | with_reducible refine do_pow ?_ ?_
  | with_reducible refine do_lt ?_ | with_reducible refine do_le ?_ | with_reducible refine do_gt ?_ | with_reducible refine do_ge ?_ | with_reducible refine du_neg ?_
  | with_reducible refine do_eqi ?_ | with_reducible refine do_nei ?_ | with_reducible refine do_eqs ?_ | with_reducible refine do_nes ?_ | with_reducible refine dc_abs ?_ | with_reducible refine dc_min ?_ | with_reducible refine dc_max ?_ | with_reducible refine dc_lenL ?_ | with_reducible refine dc_lenT ?_ | with_reducible refine dc_lenR ?_ | with_reducible refine dc_listT ?_ | with_reducible refine dc_listL ?_ | with_reducible refine dc_tupL ?_ | with_reducible refine dc_gcd ?_
  | ((with_reducible show DO _ (rIxT _) _ _ _); refine do_ixT rfl ?_) | ((with_reducible show DO _ (rIxL _) _ _ _); refine do_ixL rfl ?_) | ((with_reducible refine do_catL ?_ ?_); exact Nat.le_of_ble_eq_true rfl) | with_reducible refine do_catL ?_ ?_ | ((with_reducible show And (List.length _ ≤ sizeLine) _); refine ⟨Nat.le_of_ble_eq_true rfl, ?_⟩)
  | with_reducible refine wd_dnew ?_ | with_reducible refine wd_call0 ?_ | with_reducible refine wd_slA ?_ | with_reducible refine wd_slL ?_ | with_reducible refine wd_revT ?_ | with_reducible refine do_catA ?_ ?_ | with_reducible refine wo_part ?_ | with_reducible refine wo_none ?_ | with_reducible refine do_eqQ ?_ | with_reducible refine do_neQ ?_ | with_reducible refine wi_enumT ?_ | with_reducible refine wi_enumD ?_ | with_reducible refine tAdQ (by omega) (by omega) ?_ | with_reducible refine tSbQ (by omega) (by omega) ?_ | with_reducible refine tMlQ (by omega) (by omega) ?_ | with_reducible refine tDvQ (by assumption) (by omega) (by omega) ?_ | with_reducible refine tLtQ (by omega) (by omega) ?_ | with_reducible refine dc_str ?_ ?_ | with_reducible refine wd_tup ?_ | with_reducible refine wd_lst ?_ | with_reducible refine wt_test ?_ | with_reducible refine wt_B ?_ | with_reducible refine wt_not ?_ | with_reducible refine wt_and ?_ | with_reducible refine wt_or ?_ | with_reducible refine wd_ifE ?_ | with_reducible refine wd_andV ?_ | with_reducible refine wd_orV ?_ | with_reducible refine wd_notV ?_
  | with_reducible refine ws_seq ?_ | with_reducible refine ws_next ?_ | with_reducible refine ws_asg ?_ | with_reducible refine ws_ret ?_ | with_reducible refine ws_retN ?_ | with_reducible refine ws_if ?_ | with_reducible refine ws_par ?_ | with_reducible refine ws_unp2 ?_
  | with_reducible refine if_t ?_ | with_reducible refine if_f ?_ | with_reducible refine if_nf ?_ | with_reducible refine if_nt ?_
  | ((with_reducible show Exists _); first | refine ⟨_, kitInt _, ?_⟩ | refine ⟨_, kitBool _, ?_⟩ | refine ⟨_, kitTup _, ?_⟩ | refine ⟨_, kitList _, ?_⟩ | refine ⟨_, rfl, ?_⟩ | refine ⟨_, _, rfl, ?_⟩ | fail) | fail))
theorem mks_mem {bs : List Int} : ∀ m ∈ mks bs, 0 ≤ m ∧ m < bs.length := fun m hm => by
  obtain ⟨i, hi, rfl⟩ := List.mem_map.mp hm
  have := List.mem_range.mp (List.mem_filter.mp hi).1
  omega
def TOdd13 : Nat → List PyData → (PyData → Nat → Prop) → Prop := fun B ds Φ => ∃ bs ts : List Int, ds = [.int bs.length, .list ((mks bs).map PyData.int), .list (ts.map PyData.int)] ∧ bs.length ≤ 5040 ∧ (mks bs).length ≤ 3900 ∧ Trn ts ∧ B + 300 ≤ 2 ^ 40 ∧
  ∀ d1 d2 d3 B', AnyR d2 → AnyR d3 → dayB d1 d2 d3 = false → B' ≤ B + 100 → Φ (.tuple [d1, d2, d3]) B'
def t_odd13 (K : PySem.W.Frag) : TS :=
  (tSeq (tAsg (tCall (spS K FPot TTake) [] E0 (tCons (tVar 0) (tCons (tC (.int 7)) tNil))) (gName 4))
    (tSeq (tAsg (tOp (rIxL K) (tLst (tCons (tC (.bl true)) (tCons (tC .non) (tCons (tC (.str "1")) (tCons (tTup (tCons (tC (.int 1)) tNil)) (tCons (tUn rNegI (tC (.int 1))) (tCons (tC (.str "")) (tCons (tC (.bl false)) (tCons (tLst (tCons (tC (.int 2)) tNil)) tNil))))))))) (tCall (spS K FPot TTake) [] E0 (tCons (tVar 0) (tCons (tC (.int 8)) tNil)))) (gName 5))
    (tSeq (tIfS (tTest (tOp rEq (tVar 4) (tC (.int 0)))) (tAsg (tOp (rIxL K) (tLst (tCons (tC (.int 0)) (tCons (tUn rNegI (tC (.int 1))) (tCons (tOp rAddI (tC (.int 5040)) (tC (.int 1))) (tCons (tC (.bl true)) (tCons (tC .non) (tCons (tC (.str "7")) (tCons (tTup (tCons (tC (.int 7)) tNil)) (tCons (tOp rPowI (tC (.int 10)) (tC (.int 30))) tNil))))))))) (tCall (spS K FPot TTake) [] E0 (tCons (tVar 0) (tCons (tC (.int 8)) tNil)))) (gName 1)) tNext)
    (tSeq (tIfS (tTest (tOp (rIn K false) (tVar 4) (tTup (tCons (tC (.int 1)) (tCons (tC (.int 6)) tNil))))) (tSeq (tAsg (tCall (spS K FPot TTake) [] E0 (tCons (tVar 0) (tCons (tOp rAddI (tCB (rLenX K) (tCons (tVar 2) tNil)) (tC (.int 1))) tNil))) (gName 6))
    (tSeq (tAsg (tOp (rIxL K) (tLst (tCons (tVar 5) (tCons (tVar 1) (tCons (tUn rNegI (tC (.int 1))) (tCons (tOp rAddI (tVar 1) (tC (.int 7))) tNil))))) (tCall (spS K FPot TTake) [] E0 (tCons (tVar 0) (tCons (tC (.int 4)) tNil)))) (gName 7))
    (tAsg (tOp rCatL (tOp rCatL (tSl (rSlL K) (tVar 2) tNoPart (tPart (tVar 6))) (tLst (tCons (tVar 7) tNil))) (tSl (rSlL K) (tVar 2) (tPart (tVar 6)) tNoPart)) (gName 2)))) tNext)
    (tSeq (tIfS (tTest (tOp rEq (tVar 4) (tC (.int 2)))) (tAsg (tOp (rIxL K) (tLst (tCons (tC .non) (tCons (tC (.int 0)) (tCons (tC (.str "0")) (tCons tDNewK (tCons (tDisp [((tC (.int 0)), (tC (.bl true)))]) (tCons (tC (.bl true)) tNil))))))) (tCall (spS K FPot TTake) [] E0 (tCons (tVar 0) (tCons (tC (.int 6)) tNil)))) (gName 2)) tNext)
    (tSeq (tIfS (tTest (tOp rEq (tVar 4) (tC (.int 3)))) (tAsg (tOp rCatL (tVar 2) (tIf (tTest (tOp (rNeD K) (tVar 2) (tLst tNil))) (tSl (rSlL K) (tVar 2) (tPart (tUn rNegI (tC (.int 1)))) tNoPart) (tLst (tCons (tVar 1) tNil)))) (gName 2)) tNext)
    (tSeq (tIfS (tTest (tOp (rIn K false) (tVar 4) (tTup (tCons (tC (.int 4)) (tCons (tC (.int 6)) tNil))))) (tSeq (tAsg (tCall (spS K FPot TTake) [] E0 (tCons (tVar 0) (tCons (tOp rAddI (tCB (rLenX K) (tCons (tVar 3) tNil)) (tC (.int 1))) tNil))) (gName 6))
    (tSeq (tAsg (tOp (rIxL K) (tLst (tCons (tC (.bl true)) (tCons (tC .non) (tCons (tC (.str "1")) (tCons (tTup (tCons (tC (.int 1)) tNil)) (tCons (tLst tNil) (tCons (tC (.bl false)) tNil))))))) (tCall (spS K FPot TTake) [] E0 (tCons (tVar 0) (tCons (tC (.int 6)) tNil)))) (gName 7))
    (tAsg (tOp rCatL (tOp rCatL (tSl (rSlL K) (tVar 3) tNoPart (tPart (tVar 6))) (tLst (tCons (tVar 7) tNil))) (tSl (rSlL K) (tVar 3) (tPart (tVar 6)) tNoPart)) (gName 3)))) tNext)
    (tSeq (tIfS (tTest (tOp rEq (tVar 4) (tC (.int 5)))) (tAsg (tOp (rIxL K) (tLst (tCons (tLstRg (tRg1 (tC (.int 61)))) (tCons (tLst (tCons (tC (.int 4)) (tCons (tC (.int 4)) tNil))) (tCons (tLst (tCons (tC (.int 9)) (tCons (tC (.int 2)) (tCons (tC (.int 9)) tNil)))) (tCons (tC .non) (tCons (tC (.str "12")) (tCons (tC (.int 5)) (tCons (tDisp [((tC (.int 3)), (tC (.bl true)))]) tNil)))))))) (tCall (spS K FPot TTake) [] E0 (tCons (tVar 0) (tCons (tC (.int 7)) tNil)))) (gName 3)) tNext)
    (tRet (tTup (tCons (tVar 1) (tCons (tVar 2) (tCons (tVar 3) tNil)))))))))))))
section
variable {K : PySem.W.Frag} {S : Stt} {B : Nat} {ds : List PyData} {Φ : PyData → Nat → Prop}
end
end DL

set_option Elab.async false
set_option linter.all false
set_option maxRecDepth 100000
set_option maxHeartbeats 4000000
/-! DI14: x[::s] forth or back, a list of one's own lent to an expression -/
namespace DL
open PySem PySem.Spec PyProof.Rows L2
/-! ### x[::s], s 1 or -1 -/
def tStepV (K : PySem.W.Frag) (te ts : TE) : TE := fun σ H Q => te σ H fun x H1 => tPart ts σ H1 fun o H2 => ∃ (a : Addr) (xs : List V) (b : Bool), x = V.ref a ∧ o = some (if b = true then -1 else 1) ∧ SqL K H2 a xs ∧ ∀ p, H2 p = none → Q (.ref p) (upd H2 p (.lst (if b = true then xs.reverse else xs)))
/-! ### a list of one's own, lent to an expression whose answer holds no list -/
mutual
def noI : PyData → Bool
  | .list _ => false
  | .dict kvs => noIKv kvs
  | .tuple ds => noIs ds
  | _ => true
def noIs : List PyData → Bool
  | [] => true
  | d :: ds => noI d && noIs ds
def noIKv : List (PyData × PyData) → Bool
  | [] => true
  | (_, d) :: ds => noI d && noIKv ds
end
section
variable {K : PySem.W.Frag} {N : Av} {H : Hp} {c : Addr} {zs : List V}
theorem loan_o (hc : H c = some (.lst zs)) {a : Addr} {u : HO} (h : wo (fun b => N b && !decide (b = c)) H a = some u) (n1 : ∀ z, u = .lst z → False) : wo N H a = some u := by
  obtain ⟨na, ha⟩ := wo_some h
  have ne : a ≠ c := fun e => by
    subst e
    rw [hc] at ha; exact n1 zs (Option.some.inj ha).symm
  rw [wo_in (by simpa [ne] using na)]
  exact ha
theorem loan_t (hc : H c = some (.lst zs)) {a : Addr} {xs : List V} (h : SqT K (wo (fun b => N b && !decide (b = c)) H) a xs) : SqT K (wo N H) a xs := by
  rcases h with (h | ⟨o, h⟩) | h
  · exact .inl (.inl (loan_o hc h fun z e => by cases e))
  · exact .inl (.inr ⟨o, loan_o hc h fun z e => by cases e⟩)
  · exact .inr h
mutual
theorem loan_d (hc : H c = some (.lst zs)) : ∀ (d : PyData) (v : V), noI d = true → Dt K (wo (fun b => N b && !decide (b = c)) H) v d → Dt K (wo N H) v d
  | .none, _, _, h => by cases h; exact .non
  | .bool b, _, _, h => by cases h; exact .bl b
  | .int i, _, _, h => by cases h; exact .int i
  | .str x, _, _, h => by cases h; exact .str x
  | .list ds, _, n, h => by cases n
  | .tuple ds, _, n, h => by
    cases h with
    | tup hs ha => exact .tup (loan_t hc hs) (loan_all hc ds _ (by rw [noI] at n; exact n) ha)
  | .dict kvs, _, n, h => by
    cases h with
    | dct h => exact .dct (loan_o hc h fun z e => by cases e)
    | dco h => exact .dco (loan_o hc h fun z e => by cases e)
    | ins h c t =>
      rw [noI, noIKv, Bool.and_eq_true] at n
      exact .ins (loan_o hc h fun z e => by cases e) c (loan_kv hc _ _ n.2 t)
theorem loan_kv (hc : H c = some (.lst zs)) : ∀ (ps : List (PyData × PyData)) (fs : List (Str × V)), noIKv ps = true → DtKv K (wo (fun b => N b && !decide (b = c)) H) fs ps → DtKv K (wo N H) fs ps
  | [], _, _, h => by cases h; exact .nil
  | (k, d) :: ps, _, n, h => by
    rw [noIKv, Bool.and_eq_true] at n
    cases h with
    | cons h1 h2 => exact .cons (loan_d hc d _ n.1 h1) (loan_kv hc ps _ n.2 h2)
theorem loan_all (hc : H c = some (.lst zs)) : ∀ (ds : List PyData) (vs : List V), noIs ds = true → DtAll K (wo (fun b => N b && !decide (b = c)) H) vs ds → DtAll K (wo N H) vs ds
  | [], _, _, h => by cases h; exact .nil
  | d :: ds, _, n, h => by
    rw [noIs, Bool.and_eq_true] at n
    cases h with
    | cons h1 h2 => exact .cons (loan_d hc d _ n.1 h1) (loan_all hc ds _ n.2 h2)
end
end
def noOwn : Rho → Bool
  | [] => true
  | .own _ :: _ => false
  | _ :: r => noOwn r
end DL

set_option Elab.async false
set_option linter.all false
set_option maxRecDepth 100000
set_option maxHeartbeats 4000000
/-! DI15: days asked about, Days made -/
namespace DL
open PySem PySem.Spec PyProof.Rows L2
local macro_rules | `(tactic| walk_at "dl") => `(tactic| repeat' (first
  | with_reducible refine wd_isTy ?_ | with_reducible refine wd_isi ?_ | ((with_reducible show WD _ _ (tOp (rIxL _) (tVar _) _) _ _); refine wd_ix_own rfl ?_) | with_reducible refine wd_op ?_ | ((with_reducible show WD _ _ (tCB (rLenX _) (tCons (tVar _) tNil)) _ _); refine wd_len_scr rfl ?_) | ((with_reducible show WD _ _ (tCB (rLenX _) (tCons (tVar _) tNil)) _ _); refine wd_len_own rfl ?_) | with_reducible refine wd_cb ?_ | with_reducible refine wd_un ?_ | with_reducible refine wa_cons ?_ | with_reducible refine wa_nil ?_ | ((with_reducible show WD _ _ (tVar _) _ _); refine wd_var rfl ?_) | with_reducible refine wd_int ?_ | with_reducible refine wd_bl ?_ | with_reducible refine wd_str ?_ | with_reducible refine wd_non ?_
  | with_reducible refine do_nesS ?_ | with_reducible refine dc_intB ?_ | with_reducible refine do_add ?_ | with_reducible refine do_sub ?_ | ((with_reducible refine do_mod ?_ ?_); decide) | with_reducible refine do_mod ?_ ?_ | with_reducible refine do_mul ?_ ?_ | ((with_reducible refine do_div ?_ ?_); exact ⟨by decide, by decide⟩) | with_reducible refine do_div ?_ ?_ | ((with_reducible refine do_pow ?_ ?_); exact ⟨by decide, by decide, by decide⟩) | with_reducible refine do_pow ?_ ?_
  | with_reducible refine do_lt ?_ | with_reducible refine do_le ?_ | with_reducible refine do_gt ?_ | with_reducible refine do_ge ?_ | with_reducible refine du_neg ?_
  | with_reducible refine do_eqi ?_ | with_reducible refine do_nei ?_ | with_reducible refine do_eqs ?_ | with_reducible refine do_nes ?_ | with_reducible refine dc_abs ?_ | with_reducible refine dc_min ?_ | with_reducible refine dc_max ?_ | with_reducible refine dc_lenL ?_ | with_reducible refine dc_lenT ?_ | with_reducible refine dc_lenR ?_ | with_reducible refine dc_listT ?_ | with_reducible refine dc_listL ?_ | with_reducible refine dc_tupL ?_ | with_reducible refine dc_gcd ?_
  | ((with_reducible show DO _ (rIxT _) _ _ _); refine do_ixT rfl ?_) | ((with_reducible show DO _ (rIxL _) _ _ _); refine do_ixL rfl ?_) | ((with_reducible refine do_catL ?_ ?_); exact Nat.le_of_ble_eq_true rfl) | with_reducible refine do_catL ?_ ?_ | ((with_reducible show And (List.length _ ≤ sizeLine) _); refine ⟨Nat.le_of_ble_eq_true rfl, ?_⟩)
  | with_reducible refine wd_dnew ?_ | with_reducible refine wd_call0 ?_ | with_reducible refine wd_slA ?_ | with_reducible refine wd_slL ?_ | with_reducible refine wd_revT ?_ | with_reducible refine do_catA ?_ ?_ | with_reducible refine wo_part ?_ | with_reducible refine wo_none ?_ | with_reducible refine do_eqQ ?_ | with_reducible refine do_neQ ?_ | with_reducible refine wi_enumT ?_ | with_reducible refine wi_enumD ?_ | with_reducible refine tAdQ (by omega) (by omega) ?_ | with_reducible refine tSbQ (by omega) (by omega) ?_ | with_reducible refine tMlQ (by omega) (by omega) ?_ | with_reducible refine tDvQ (by assumption) (by omega) (by omega) ?_ | with_reducible refine tLtQ (by omega) (by omega) ?_ | with_reducible refine dc_str ?_ ?_ | with_reducible refine wd_tup ?_ | with_reducible refine wd_lst ?_ | with_reducible refine wt_test ?_ | with_reducible refine wt_B ?_ | with_reducible refine wt_not ?_ | with_reducible refine wt_and ?_ | with_reducible refine wt_or ?_ | with_reducible refine wd_ifE ?_ | with_reducible refine wd_andV ?_ | with_reducible refine wd_orV ?_ | with_reducible refine wd_notV ?_
  | with_reducible refine ws_seq ?_ | with_reducible refine ws_next ?_ | with_reducible refine ws_asg ?_ | with_reducible refine ws_ret ?_ | with_reducible refine ws_retN ?_ | with_reducible refine ws_if ?_ | with_reducible refine ws_par ?_ | with_reducible refine ws_unp2 ?_
  | with_reducible refine if_t ?_ | with_reducible refine if_f ?_ | with_reducible refine if_nf ?_ | with_reducible refine if_nt ?_
  | ((with_reducible show Exists _); first | refine ⟨_, kitInt _, ?_⟩ | refine ⟨_, kitBool _, ?_⟩ | refine ⟨_, kitTup _, ?_⟩ | refine ⟨_, kitList _, ?_⟩ | refine ⟨_, rfl, ?_⟩ | refine ⟨_, _, rfl, ?_⟩ | fail) | fail))
def TAbout : Nat → List PyData → (PyData → Nat → Prop) → Prop := fun B ds Φ => ∃ bs ts : List Int, ds = [.tuple [.list (bs.map PyData.int), .list (ts.map PyData.int)]] ∧ ts.length ≤ 60 ∧ B + 100 ≤ 2 ^ 40 ∧ ∀ (as : List Int) (B' : Nat), as.length ≤ 20 → B' ≤ B + 20 → Φ (.list (as.map PyData.int)) B'
def TMade13 (Cd : Addr) : Nat → List PyData → (PyData → Nat → Prop) → Prop := fun B ds Φ => ∃ bs ts : List Int, ds = [.list (bs.map PyData.int), .list (ts.map PyData.int)] ∧ Rst bs ∧ Trn ts ∧ B + 100 ≤ 2 ^ 40 ∧
  ∀ p us vs ms, DyF bs.length ms ts p us vs → (∀ m, m ∈ ms ↔ m ∈ mks bs) → us.length ≤ 3900 → vs.length ≤ 60 → noI (dayD Cd p us vs) = true ∧ Φ (dayD Cd p us vs) (B + 1)
def gVrev3 : List V → List V → List V := fun vs zs => vs ++ zs.reverse
def t_about (K : PySem.W.Frag) : TS :=
  (tSeq (tAsg (tOp (rIxT K) (tVar 1) (tC (.int 1))) (gName 2))
    (tSeq (tAsg (tLc (iRng1 (tCons (tC (.int 4)) tNil)) (gName 5) tYes (tOp rSubI (tCall (spS K FPot TTake) [] E0 (tCons (tVar 0) (tCons (tC (.int 40)) tNil))) (tC (.int 20))) [5]) (gName 3))
    (tSeq (tDrop (tBM K "list" rAppend (tVar 3) (tCons (tOp rSubI (tOp rSubI (tOp rPowI (tC (.int 10)) (tC (.int 18))) (tC (.int 4000000))) (tCall (spS K FPot TTake) [] E0 (tCons (tVar 0) (tCons (tC (.int 99)) tNil)))) tNil)))
    (tSeq (tDrop (tBM K "list" rAppend (tVar 3) (tCons (tOp rAddI (tOp rSubI (tC (.int 3000000)) (tOp rPowI (tC (.int 10)) (tC (.int 18)))) (tCall (spS K FPot TTake) [] E0 (tCons (tVar 0) (tCons (tC (.int 99)) tNil)))) tNil)))
    (tSeq (tIfS (tTest (tOp (rNeD K) (tVar 2) (tLst tNil))) (tSeq (tAsg (tOp (rIxL K) (tVar 2) (tCall (spS K FPot TTake) [] E0 (tCons (tVar 0) (tCons (tCB (rLenX K) (tCons (tVar 2) tNil)) tNil)))) (gName 4))
    (tSeq (tAsg (tCB rMaxX (tCons (tOp rSubI (tC (.int 40)) (tOp rPowI (tC (.int 10)) (tC (.int 18)))) (tCons (tCB rMinX (tCons (tVar 4) (tCons (tOp rSubI (tOp rPowI (tC (.int 10)) (tC (.int 18))) (tC (.int 40))) tNil))) tNil))) (gName 4))
    (tAsg (tOp rCatL (tVar 3) (tLst (tCons (tOp rSubI (tVar 4) (tC (.int 1))) (tCons (tVar 4) (tCons (tOp rAddI (tVar 4) (tC (.int 1))) tNil))))) (gName 3)))) tNext)
    (tRet (tOp rCatL (tVar 3) (tLst (tCons (tCall (spS K FPot TTake) [] E0 (tCons (tVar 0) (tCons (tOp rPowI (tC (.int 10)) (tC (.int 6))) tNil))) tNil)))))))))
def t_made13 (K : PySem.W.Frag) (Cd aT : Addr) : TS :=
  (tSeq (tAsg (tCall (spS K FPot TTake) [] E0 (tCons (tVar 0) (tCons (tC (.int 4)) tNil))) (gName 3))
    (tSeq (tAsg (tStepV K (tCall (spP K TMarks) [] E0 (tCons (tVar 1) tNil)) (tOp (rIxL K) (tLst (tCons (tC (.int 1)) (tCons (tUn rNegI (tC (.int 1))) tNil))) (tOp rModI (tVar 3) (tC (.int 2))))) (gName 4))
    (tSeq (tIfS (tAnd (tTest (tOp (rEqD K) (tVar 2) (tLst tNil))) (tTest (tOp rLt (tVar 3) (tC (.int 2))))) (tRet (tMake Cd (spIni K Cd TIniD) [.ref aT] E0 (tCons (tCB (rLenX K) (tCons (tVar 1) tNil)) (tCons (tVar 4) tNil)))) tNext)
    (tSeq (tIfS (tTest (tOp rEq (tVar 3) (tC (.int 0)))) (tRet (tMakeK Cd 0 3 (spIni K Cd TIniD) gVrev3 E0 tNil (tCons (tVar 2) (tCons (tVar 4) (tCons (tCB (rLenX K) (tCons (tVar 1) tNil)) tNil))))) tNext)
    (tSeq (tAsg (tMakeK Cd 2 1 (spIni K Cd TIniD) gVapp E0 (tCons (tCB (rLenX K) (tCons (tVar 1) tNil)) (tCons (tOp (rIxL K) (tLst (tCons (tCB (rTupOf K) (tCons (tVar 4) tNil)) (tCons (tVar 4) tNil))) (tOp rModI (tVar 3) (tC (.int 2)))) tNil)) (tCons (tVar 2) tNil)) (gName 5))
    (tSeq (tDrop (tBM K "list" rAppend (tVar 4) (tCons (tC (.int 0)) tNil)))
    (tRet (tVar 5))))))))
theorem mks_nd (bs : List Int) : (mks bs).Nodup := by
  unfold mks
  rw [List.Nodup, List.pairwise_map]
  exact (List.nodup_range.filter _).imp fun h e => h (by omega)
theorem mks_one {bs : List Int} (h : Rst bs) : (mks bs).length ≤ 1000 := by
  unfold mks
  rw [List.length_map]
  have e : (bs.filter fun b => decide (b = 1)).length = ((List.range bs.length).filter fun i => decide (bs.getD i 0 = 1)).length := by
    have e1 : bs = (List.range bs.length).map fun i => bs.getD i 0 := by
      apply List.ext_getElem
      · simp
      · intro i h1 h2
        simp [List.getD_eq_getElem?_getD, List.getElem?_eq_getElem h1]
    conv => lhs; rw [e1]
    rw [List.filter_map, List.length_map]; rfl
  have := h.on
  omega
section
variable {K : PySem.W.Frag} {S : Stt} {B : Nat} {ds : List PyData} {Φ : PyData → Nat → Prop}
end
end DL

set_option Elab.async false
set_option linter.all false
set_option maxRecDepth 100000
set_option maxHeartbeats 4000000
/-! DI16: law k13 -/
namespace DL
open PySem PySem.Spec PyProof.Rows L2
local macro_rules | `(tactic| walk_at "dl") => `(tactic| repeat' (first
  | with_reducible refine wd_isTy ?_ | with_reducible refine wd_isi ?_ | ((with_reducible show WD _ _ (tOp (rIxL _) (tVar _) _) _ _); refine wd_ix_own rfl ?_) | with_reducible refine wd_op ?_ | ((with_reducible show WD _ _ (tCB (rLenX _) (tCons (tVar _) tNil)) _ _); refine wd_len_scr rfl ?_) | ((with_reducible show WD _ _ (tCB (rLenX _) (tCons (tVar _) tNil)) _ _); refine wd_len_own rfl ?_) | with_reducible refine wd_cb ?_ | with_reducible refine wd_un ?_ | with_reducible refine wa_cons ?_ | with_reducible refine wa_nil ?_ | ((with_reducible show WD _ _ (tVar _) _ _); refine wd_var rfl ?_) | with_reducible refine wd_int ?_ | with_reducible refine wd_bl ?_ | with_reducible refine wd_str ?_ | with_reducible refine wd_non ?_
  | with_reducible refine do_nesS ?_ | with_reducible refine dc_intB ?_ | with_reducible refine do_add ?_ | with_reducible refine do_sub ?_ | ((with_reducible refine do_mod ?_ ?_); decide) | with_reducible refine do_mod ?_ ?_ | with_reducible refine do_mul ?_ ?_ | ((with_reducible refine do_div ?_ ?_); exact ⟨by decide, by decide⟩) | with_reducible refine do_div ?_ ?_ | ((with_reducible refine do_pow ?_ ?_); exact ⟨by decide, by decide, by decide⟩) | with_reducible refine do_pow ?_ ?_
  | with_reducible refine do_lt ?_ | with_reducible refine do_le ?_ | with_reducible refine do_gt ?_ | with_reducible refine do_ge ?_ | with_reducible refine du_neg ?_
  | with_reducible refine do_eqi ?_ | with_reducible refine do_nei ?_ | with_reducible refine do_eqs ?_ | with_reducible refine do_nes ?_ | with_reducible refine dc_abs ?_ | with_reducible refine dc_min ?_ | with_reducible refine dc_max ?_ | with_reducible refine dc_lenL ?_ | with_reducible refine dc_lenT ?_ | with_reducible refine dc_lenR ?_ | with_reducible refine dc_listT ?_ | with_reducible refine dc_listL ?_ | with_reducible refine dc_tupL ?_ | with_reducible refine dc_gcd ?_
  | ((with_reducible show DO _ (rIxT _) _ _ _); refine do_ixT rfl ?_) | ((with_reducible show DO _ (rIxL _) _ _ _); refine do_ixL rfl ?_) | ((with_reducible refine do_catL ?_ ?_); exact Nat.le_of_ble_eq_true rfl) | with_reducible refine do_catL ?_ ?_ | ((with_reducible show And (List.length _ ≤ sizeLine) _); refine ⟨Nat.le_of_ble_eq_true rfl, ?_⟩)
  | with_reducible refine wd_dnew ?_ | with_reducible refine wd_call0 ?_ | with_reducible refine wd_slA ?_ | with_reducible refine wd_slL ?_ | with_reducible refine wd_revT ?_ | with_reducible refine do_catA ?_ ?_ | with_reducible refine wo_part ?_ | with_reducible refine wo_none ?_ | with_reducible refine do_eqQ ?_ | with_reducible refine do_neQ ?_ | with_reducible refine wi_enumT ?_ | with_reducible refine wi_enumD ?_ | with_reducible refine tAdQ (by omega) (by omega) ?_ | with_reducible refine tSbQ (by omega) (by omega) ?_ | with_reducible refine tMlQ (by omega) (by omega) ?_ | with_reducible refine tDvQ (by assumption) (by omega) (by omega) ?_ | with_reducible refine tLtQ (by omega) (by omega) ?_ | with_reducible refine dc_str ?_ ?_ | with_reducible refine wd_tup ?_ | with_reducible refine wd_lst ?_ | with_reducible refine wt_test ?_ | with_reducible refine wt_B ?_ | with_reducible refine wt_not ?_ | with_reducible refine wt_and ?_ | with_reducible refine wt_or ?_ | with_reducible refine wd_ifE ?_ | with_reducible refine wd_andV ?_ | with_reducible refine wd_orV ?_ | with_reducible refine wd_notV ?_
  | with_reducible refine ws_seq ?_ | with_reducible refine ws_next ?_ | with_reducible refine ws_asg ?_ | with_reducible refine ws_ret ?_ | with_reducible refine ws_retN ?_ | with_reducible refine ws_if ?_ | with_reducible refine ws_par ?_ | with_reducible refine ws_unp2 ?_
  | with_reducible refine if_t ?_ | with_reducible refine if_f ?_ | with_reducible refine if_nf ?_ | with_reducible refine if_nt ?_
  | ((with_reducible show Exists _); first | refine ⟨_, kitInt _, ?_⟩ | refine ⟨_, kitBool _, ?_⟩ | refine ⟨_, kitTup _, ?_⟩ | refine ⟨_, kitList _, ?_⟩ | refine ⟨_, rfl, ?_⟩ | refine ⟨_, _, rfl, ?_⟩ | fail) | fail))
def t_law13 (K : PySem.W.Frag) (Cd aT : Addr) : TS :=
  (tSeq (tFor (iRng1 (tCons (tCB rMaxX (tCons (tC (.int 2)) (tCons (tCB rMinX (tCons (tC (.int 10)) (tCons (tCB (rLenX K) (tCons (tVar 0) tNil)) tNil))) tNil))) tNil)) (gName 1) (tSeq (tAsg (tCall (spReel K) [] E0 (tCons (tVar 0) (tCons (tVar 1) tNil))) (gName 2))
    (tSeq (tAsg (tCall (spS K FPot TGiven) [] E0 (tCons (tVar 2) tNil)) (gName 3))
    (tSeq (tAsg (tVar 3) (gTup K 2 (gCons (gName 4) (gCons (gName 5) gNil))))
    (tSeq (tAsg (tCB (rListOf K) (tCons (tVar 5) tNil)) (gName 6))
    (tSeq (tAsg (tCall (spS K FPot (TMade13 Cd)) [] E0 (tCons (tVar 2) (tCons (tVar 4) (tCons (tVar 6) tNil)))) (gName 7))
    (tSeq (tDrop (tBM K "list" rAppend (tVar 6) (tCons (tCall (spS K FPot TTake) [] E0 (tCons (tVar 2) (tCons (tC (.int 9)) tNil))) tNil)))
    (tSeq (tFor (iList K (tOp rCatL (tOp rCatL (tCall (spS K FPot TAbout) [] E0 (tCons (tVar 2) (tCons (tVar 3) tNil))) (tLstRg (tRg2 (tUn rNegI (tC (.int 3))) (tC (.int 4))))) (tLst (tCons (tOp rPowI (tC (.int 10)) (tC (.int 18))) (tCons (tUn rNegI (tOp rPowI (tC (.int 10)) (tC (.int 18)))) tNil))))) (gName 8) (tSeq (tAsg (tCall (spP K TIn) [] E0 (tCons (tVar 3) (tCons (tVar 8) tNil))) (gName 9))
    (tIfS (tTest (tOp rNe (tCB (rReprY K) (tCons (tLst (tCons (tMeth Cd "has" (spP K (THasD Cd)) [] E0 (tVar 7) (tCons (tVar 8) tNil)) (tCons (tMethN Cd "has" 1 (spP K (THasD Cd)) gVapp E0 (tVar 7) (tCons (tVar 8) tNil)) tNil))) tNil)) (tCB (rReprY K) (tCons (tLst (tCons (tVar 9) (tCons (tVar 9) tNil))) tNil)))) (tRet (tC (.bl false))) tNext)))
    (tFor (iRng1 (tCons (tC (.int 4)) tNil)) (gName 10) (tSeq (tAsg (tCall (spS K FPot TOdd13) [] E0 (tCons (tVar 2) (tCons (tCB (rLenX K) (tCons (tVar 4) tNil)) (tCons (tCall (spP K TMarks) [] E0 (tCons (tVar 4) tNil)) (tCons (tVar 5) tNil))))) (gName 11))
    (tIfS (tNot (tB (tCall (spP K TRef13) [] E0 (tCons (tOp (rIxT K) (tVar 11) (tC (.int 0))) (tCons (tOp (rIxT K) (tVar 11) (tC (.int 1))) (tCons (tOp (rIxT K) (tVar 11) (tC (.int 2))) tNil)))))) (tRet (tC (.bl false))) tNext)))))))))))
    (tRet (tAndV (tMeth Cd "has" (spP K (THasD Cd)) [] E0 (tMake Cd (spIni K Cd TIniD) [.ref aT] E0 (tCons (tC (.int 5040)) (tCons (tTup (tCons (tC (.int 0)) tNil)) tNil))) (tCons (tC (.int 5040)) tNil)) (tNotV (tMeth Cd "has" (spP K (THasD Cd)) [] E0 (tMake Cd (spIni K Cd TIniD) [.ref aT] E0 (tCons (tC (.int 1)) (tCons (tTup tNil) tNil))) (tCons (tC (.int 0)) tNil))))))
section
variable {K : PySem.W.Frag}
end
end DL

set_option Elab.async false
set_option linter.all false
set_option maxRecDepth 100000
set_option maxHeartbeats 4000000
/-! DJ1: days counted, the at-th of days -/
namespace DL
open PySem PySem.Spec PyProof.Rows L2
/-- Days as numbers: the period, marks, turned days -/
structure Dy (p : Nat) (us vs : List Int) : Prop where
  p1 : 1 ≤ p
  p2 : p ≤ 5040
  ur : Ris us
  ub : ∀ u ∈ us, 0 ≤ u ∧ u < p
  ul : us.length ≤ 5040
  vr : Ris vs
  vl : vs.length ≤ 1000
  vb : ∀ v ∈ vs, v.natAbs ≤ 4611686018427387904
def rgB (p : Nat) (us : List Int) (d : Int) : Int := d / p * us.length + (us.countP (fun u => decide (u < d % p)) : Nat)
abbrev rgI (p : Nat) (us : List Int) (d : Int) : Prop := d % p ∈ us
theorem ris_nd {l : List Int} (h : Ris l) : l.Nodup := List.Pairwise.imp (fun {a b} (h : a < b) => by omega) h
theorem cnt_succ {us : List Int} (h : us.Nodup) (r : Int) : us.countP (fun u => decide (u < r + 1)) = us.countP (fun u => decide (u < r)) + (if r ∈ us then 1 else 0) := by
  induction us with
  | nil => rfl
  | cons a l ih =>
    obtain ⟨h1, h2⟩ := List.nodup_cons.mp h
    rw [List.countP_cons, List.countP_cons, ih h2]
    by_cases c : a = r
    · subst c
      have e1 : decide (a < a + 1) = true := decide_eq_true (by omega)
      have e2 : decide (a < a) = false := decide_eq_false (by omega)
      rw [e1, e2, if_neg h1, if_pos List.mem_cons_self]
      simp
    · have e : decide (a < r + 1) = decide (a < r) := decide_eq_decide.mpr (by omega)
      have e3 : (r ∈ a :: l) ↔ r ∈ l := by
        rw [List.mem_cons]; exact ⟨fun z => z.resolve_left fun z2 => c z2.symm, .inr⟩
      rw [e]
      by_cases c2 : r ∈ l
      · rw [if_pos c2, if_pos (e3.mpr c2)]; omega
      · rw [if_neg c2, if_neg (fun z => c2 (e3.mp z))]; omega
theorem cnt_all {us : List Int} {x : Int} (h : ∀ u ∈ us, u < x) : us.countP (fun u => decide (u < x)) = us.length := by
  rw [List.countP_eq_length]; intro u hu; exact decide_eq_true (h u hu)
theorem cnt_none {us : List Int} {x : Int} (h : ∀ u ∈ us, ¬ u < x) : us.countP (fun u => decide (u < x)) = 0 := by
  rw [List.countP_eq_zero]; intro u hu z; exact h u hu (of_decide_eq_true z)
/-- what `_many_below` counts -/
theorem cnt_of {us : List Int} {x : Int} {c : Nat} (hc : c ≤ us.length) (h : ∀ (i : Nat) (v : Int), us[i]? = some v → (v < x ↔ i < c)) : us.countP (fun u => decide (u < x)) = c := by
  have e : us = us.take c ++ us.drop c := (List.take_append_drop c us).symm
  rw [e, List.countP_append, cnt_all, cnt_none, List.length_take]
  · omega
  · intro u hu z
    obtain ⟨i, hi⟩ := List.getElem?_of_mem hu
    rw [List.getElem?_drop] at hi
    have := (h _ _ hi).mp z
    omega
  · intro u hu
    obtain ⟨i, hi⟩ := List.getElem?_of_mem hu
    rw [List.getElem?_take] at hi
    split at hi
    · exact (h _ _ hi).mpr (by assumption)
    · cases hi
section
variable {p : Nat} {us vs : List Int}
theorem rgB_succ (h : Dy p us vs) (d : Int) : rgB p us (d + 1) = rgB p us d + (if rgI p us d then 1 else 0) := by
  have p1 := h.p1
  have nd := ris_nd h.ur
  have m0 := Int.emod_nonneg d (show (p : Int) ≠ 0 by omega)
  have m1 := Int.emod_lt_of_pos d (show (0 : Int) < p by omega)
  have de := Int.mul_ediv_add_emod d p
  unfold rgB rgI
  by_cases c : d % p + 1 < p
  · have e1 : (d + 1) / p = d / p := by
      rw [show d + 1 = (d % p + 1) + p * (d / p) by omega, Int.add_mul_ediv_left _ _ (by omega), Int.ediv_eq_zero_of_lt (by omega) c]; omega
    have e2 : (d + 1) % p = d % p + 1 := by
      rw [show d + 1 = (d % p + 1) + p * (d / p) by omega, Int.add_mul_emod_self_left, Int.emod_eq_of_lt (by omega) c]
    rw [e1, e2, cnt_succ nd]
    split <;> omega
  · have c' : d % p = p - 1 := by omega
    have e1 : (d + 1) / p = d / p + 1 := by
      rw [show d + 1 = 0 + p * (d / p + 1) by rw [Int.mul_add]; omega, Int.add_mul_ediv_left _ _ (by omega)]; simp
    have e2 : (d + 1) % p = 0 := by
      rw [show d + 1 = 0 + p * (d / p + 1) by rw [Int.mul_add]; omega, Int.add_mul_emod_self_left]; rfl
    have e3 : us.countP (fun u => decide (u < (0 : Int))) = 0 := cnt_none fun u hu z => by have := (h.ub u hu).1; omega
    have e4 := cnt_succ nd (d % p)
    rw [show d % p + 1 = p by omega, cnt_all (fun u hu => (h.ub u hu).2)] at e4
    rw [e1, e2, e3, Int.add_mul]
    split at e4 <;> rename_i c3
    · rw [if_pos c3]; omega
    · rw [if_neg c3]; omega
/-- the regular day of a number -/
def regD (p : Nat) (us : List Int) (N : Int) : Option Int := if us = [] then none else some (N / us.length * p + us.getD (N % us.length).toNat 0)
/-! ### the days counted -/
def gT (p : Nat) (us : List Int) (a b t : Int) : Int := if a ≤ t ∧ t < b then (if rgI p us t then -1 else 1) else 0
def cntD (p : Nat) (us vs : List Int) (a b : Int) : Int := rgB p us b - rgB p us a + (vs.map (gT p us a b)).sum
abbrev inD (p : Nat) (us vs : List Int) (d : Int) : Prop := ¬ (rgI p us d ↔ d ∈ vs)
theorem sum_add {l : List Int} {f g k : Int → Int} (h : ∀ x ∈ l, k x = f x + g x) : (l.map k).sum = (l.map f).sum + (l.map g).sum := by
  induction l with
  | nil => rfl
  | cons a r ih =>
    rw [List.map_cons, List.map_cons, List.map_cons, List.sum_cons, List.sum_cons, List.sum_cons, ih fun x hx => h x (List.mem_cons_of_mem _ hx), h a List.mem_cons_self]; omega
theorem sum_zero {l : List Int} {f : Int → Int} (h : ∀ x ∈ l, f x = 0) : (l.map f).sum = 0 := by
  induction l with
  | nil => rfl
  | cons a r ih => rw [List.map_cons, List.sum_cons, ih fun x hx => h x (List.mem_cons_of_mem _ hx), h a List.mem_cons_self]; rfl
theorem sum_one {l : List Int} {f : Int → Int} {t : Int} (nd : l.Nodup) (ht : t ∈ l) (h : ∀ x ∈ l, x ≠ t → f x = 0) : (l.map f).sum = f t := by
  induction l with
  | nil => cases ht
  | cons a r ih =>
    obtain ⟨n1, n2⟩ := List.nodup_cons.mp nd
    rw [List.map_cons, List.sum_cons]
    by_cases c : a = t
    · subst c
      rw [sum_zero fun x hx => h x (List.mem_cons_of_mem _ hx) fun z => n1 (z ▸ hx)]; omega
    · rw [h a List.mem_cons_self c, ih n2 ((List.mem_cons.mp ht).resolve_left fun z => c z.symm) fun x hx => h x (List.mem_cons_of_mem _ hx)]; omega
theorem cntD_add {a b c : Int} (hab : a ≤ b) (hbc : b ≤ c) : cntD p us vs a c = cntD p us vs a b + cntD p us vs b c := by
  unfold cntD
  rw [sum_add (l := vs) (f := gT p us a b) (g := gT p us b c) (k := gT p us a c) fun x _ => ?_]
  · omega
  · unfold gT
    by_cases c1 : a ≤ x ∧ x < b
    · rw [if_pos c1, if_pos ⟨c1.1, by omega⟩, if_neg (fun z : b ≤ x ∧ x < c => by omega)]; omega
    · by_cases c2 : b ≤ x ∧ x < c
      · rw [if_neg c1, if_pos c2, if_pos ⟨by omega, c2.2⟩]; omega
      · rw [if_neg c1, if_neg c2, if_neg (fun z : a ≤ x ∧ x < c => by omega)]; rfl
theorem cntD_free {a b : Int} (h : ∀ t ∈ vs, a ≤ t → ¬ t < b) : cntD p us vs a b = rgB p us b - rgB p us a := by
  unfold cntD
  rw [sum_zero fun x hx => by unfold gT; rw [if_neg (fun z => h x hx z.1 z.2)]]; omega
theorem cntD_one (h : Dy p us vs) {t : Int} (ht : t ∈ vs) : cntD p us vs t (t + 1) = if rgI p us t then 0 else 1 := by
  unfold cntD
  rw [sum_one (t := t) (ris_nd h.vr) ht fun x _ hx => by unfold gT; rw [if_neg (fun z : t ≤ x ∧ x < t + 1 => hx (by omega))], rgB_succ h]
  have e : gT p us t (t + 1) t = if rgI p us t then -1 else 1 := if_pos ⟨Int.le_refl _, by omega⟩
  rw [e]
  by_cases c : rgI p us t
  · rw [if_pos c, if_pos c, if_pos c]; omega
  · rw [if_neg c, if_neg c, if_neg c]; omega
/-! ### the at-th -/
def nthL (p : Nat) (us : List Int) : List Int → Int → Int → Option Int
  | [], b, k => regD p us (rgB p us b + k)
  | t :: r, b, k => if k < rgB p us t - rgB p us b then regD p us (rgB p us b + k) else
    if rgI p us t then nthL p us r (t + 1) (k - (rgB p us t - rgB p us b)) else
      if k - (rgB p us t - rgB p us b) = 0 then some t else nthL p us r (t + 1) (k - (rgB p us t - rgB p us b) - 1)
end
end DL

set_option Elab.async false
set_option linter.all false
set_option maxRecDepth 100000
set_option maxHeartbeats 4000000
/-! DJ2: count_days, nth_day -/
namespace DL
open PySem PySem.Spec PyProof.Rows L2
local macro_rules | `(tactic| walk_at "dl") => `(tactic| repeat' (first
  | with_reducible refine wd_isTy ?_ | with_reducible refine wd_isi ?_ | ((with_reducible show WD _ _ (tOp (rIxL _) (tVar _) _) _ _); refine wd_ix_own rfl ?_) | with_reducible refine wd_op ?_ | ((with_reducible show WD _ _ (tCB (rLenX _) (tCons (tVar _) tNil)) _ _); refine wd_len_scr rfl ?_) | ((with_reducible show WD _ _ (tCB (rLenX _) (tCons (tVar _) tNil)) _ _); refine wd_len_own rfl ?_) | with_reducible refine wd_cb ?_ | with_reducible refine wd_un ?_ | with_reducible refine wa_cons ?_ | with_reducible refine wa_nil ?_ | ((with_reducible show WD _ _ (tVar _) _ _); refine wd_var rfl ?_) | with_reducible refine wd_int ?_ | with_reducible refine wd_bl ?_ | with_reducible refine wd_str ?_ | with_reducible refine wd_non ?_
  | with_reducible refine do_nesS ?_ | with_reducible refine dc_intB ?_ | with_reducible refine do_add ?_ | with_reducible refine do_sub ?_ | ((with_reducible refine do_mod ?_ ?_); decide) | with_reducible refine do_mod ?_ ?_ | with_reducible refine do_mul ?_ ?_ | ((with_reducible refine do_div ?_ ?_); exact ⟨by decide, by decide⟩) | with_reducible refine do_div ?_ ?_ | ((with_reducible refine do_pow ?_ ?_); exact ⟨by decide, by decide, by decide⟩) | with_reducible refine do_pow ?_ ?_
  | with_reducible refine do_lt ?_ | with_reducible refine do_le ?_ | with_reducible refine do_gt ?_ | with_reducible refine do_ge ?_ | with_reducible refine du_neg ?_
  | with_reducible refine do_eqi ?_ | with_reducible refine do_nei ?_ | with_reducible refine do_eqs ?_ | with_reducible refine do_nes ?_ | with_reducible refine dc_abs ?_ | with_reducible refine dc_min ?_ | with_reducible refine dc_max ?_ | with_reducible refine dc_lenL ?_ | with_reducible refine dc_lenT ?_ | with_reducible refine dc_lenR ?_ | with_reducible refine dc_listT ?_ | with_reducible refine dc_listL ?_ | with_reducible refine dc_tupL ?_ | with_reducible refine dc_gcd ?_
  | ((with_reducible show DO _ (rIxT _) _ _ _); refine do_ixT rfl ?_) | ((with_reducible show DO _ (rIxL _) _ _ _); refine do_ixL rfl ?_) | ((with_reducible refine do_catL ?_ ?_); exact Nat.le_of_ble_eq_true rfl) | with_reducible refine do_catL ?_ ?_ | ((with_reducible show And (List.length _ ≤ sizeLine) _); refine ⟨Nat.le_of_ble_eq_true rfl, ?_⟩)
  | with_reducible refine wd_dnew ?_ | with_reducible refine wd_call0 ?_ | with_reducible refine wd_slA ?_ | with_reducible refine wd_slL ?_ | with_reducible refine wd_revT ?_ | with_reducible refine do_catA ?_ ?_ | with_reducible refine wo_part ?_ | with_reducible refine wo_none ?_ | with_reducible refine do_eqQ ?_ | with_reducible refine do_neQ ?_ | with_reducible refine wi_enumT ?_ | with_reducible refine wi_enumD ?_ | with_reducible refine tAdQ (by omega) (by omega) ?_ | with_reducible refine tSbQ (by omega) (by omega) ?_ | with_reducible refine tMlQ (by omega) (by omega) ?_ | with_reducible refine tDvQ (by assumption) (by omega) (by omega) ?_ | with_reducible refine tLtQ (by omega) (by omega) ?_ | with_reducible refine dc_str ?_ ?_ | with_reducible refine wd_tup ?_ | with_reducible refine wd_lst ?_ | with_reducible refine wt_test ?_ | with_reducible refine wt_B ?_ | with_reducible refine wt_not ?_ | with_reducible refine wt_and ?_ | with_reducible refine wt_or ?_ | with_reducible refine wd_ifE ?_ | with_reducible refine wd_andV ?_ | with_reducible refine wd_orV ?_ | with_reducible refine wd_notV ?_
  | with_reducible refine ws_seq ?_ | with_reducible refine ws_next ?_ | with_reducible refine ws_asg ?_ | with_reducible refine ws_ret ?_ | with_reducible refine ws_retN ?_ | with_reducible refine ws_if ?_ | with_reducible refine ws_par ?_ | with_reducible refine ws_unp2 ?_
  | with_reducible refine if_t ?_ | with_reducible refine if_f ?_ | with_reducible refine if_nf ?_ | with_reducible refine if_nt ?_
  | ((with_reducible show Exists _); first | refine ⟨_, kitInt _, ?_⟩ | refine ⟨_, kitBool _, ?_⟩ | refine ⟨_, kitTup _, ?_⟩ | refine ⟨_, kitList _, ?_⟩ | refine ⟨_, rfl, ?_⟩ | refine ⟨_, _, rfl, ?_⟩ | fail) | fail))
/-- divmod -/
def rDivm : List V → Hp → VK → Prop := fun xs H Q => ∃ i j, xs = [.int i, .int j] ∧ CDiv i j ∧ ∀ p, H p = none → Q (.ref p) (upd H p (.tup [.int (i / j), .int (i % j)]))
theorem dc_divm {K : PySem.W.Frag} {Ψ : PyData → Prop} {i j : Int} (c : CDiv i j) (h : Ψ (.tuple [.int (i / j), .int (i % j)])) : DC K rDivm [.int i, .int j] Ψ := fun N H hN us hu Q q => by
  cases hu with
  | cons h1 h2 =>
    cases h2 with
    | cons h2 h3 =>
      cases h3; cases h1; cases h2
      refine ⟨i, j, rfl, c, fun r hr => ?_⟩
      have s := same_new hr (.tup [V.int (i / j), V.int (i % j)])
      exact q _ _ _ h s (Dq.tup (fresh_av hN hr) upd_same (.cons (.int _) (.cons (.int _) .nil)))
theorem wideJ {i j : Int} (h1 : i.natAbs < 2 ^ 200) (h2 : j.natAbs < 2 ^ 200) : CMulW i j := by
  have a := PySem.Flt.log2_lt_of (k := 200) (by decide) h1
  have b := PySem.Flt.log2_lt_of (k := 200) (by decide) h2
  show _ + _ < 1000000
  omega
theorem small200 {x n : Nat} (h : x < 2 ^ n) (hn : n ≤ 200) : x < 2 ^ 200 := Nat.lt_of_lt_of_le h (Nat.pow_le_pow_right (by decide) hn)
def oI : Option Int → PyData
  | none => .none
  | some d => .int d
def TFrom : List PyData → (PyData → Prop) → Prop := fun ds Φ => ∃ (ns : List Int) (x : Int), ds = [.tuple (ns.map PyData.int), .int x] ∧ Ris ns ∧ ns.length ≤ 100000 ∧ Φ (.tuple ((ns.filter fun v => decide (x ≤ v)).map PyData.int))
def TRegB (Cd : Addr) : List PyData → (PyData → Prop) → Prop := fun ds Φ => ∃ (p : Nat) (us vs : List Int) (d : Int), ds = [dayD Cd p us vs, .int d] ∧ Dy p us vs ∧ d.natAbs < 2 ^ 70 ∧ Φ (.int (rgB p us d))
def TRegD (Cd : Addr) : List PyData → (PyData → Prop) → Prop := fun ds Φ => ∃ (p : Nat) (us vs : List Int) (N : Int), ds = [dayD Cd p us vs, .int N] ∧ Dy p us vs ∧ N.natAbs < 2 ^ 100 ∧ Φ (oI (regD p us N))
def TCnt (Cd : Addr) : List PyData → (PyData → Prop) → Prop := fun ds Φ => ∃ (p : Nat) (us vs : List Int) (a b : Int), ds = [dayD Cd p us vs, .int a, .int b] ∧ Dy p us vs ∧ a.natAbs ≤ 2 ^ 62 ∧ b.natAbs ≤ 2 ^ 62 ∧ a ≤ b ∧ Φ (.int (cntD p us vs a b))
def nthF (p : Nat) (us vs : List Int) (b k : Int) : Option Int := nthL p us (vs.filter fun v => decide (b ≤ v)) b k
def TNth (Cd : Addr) : List PyData → (PyData → Prop) → Prop := fun ds Φ => ∃ (p : Nat) (us vs : List Int) (b k : Int), ds = [dayD Cd p us vs, .int b, .int k] ∧ Dy p us vs ∧ b.natAbs ≤ 2 ^ 62 ∧ 0 ≤ k ∧ k ≤ 2 ^ 62 ∧ Φ (oI (nthF p us vs b k))
def t_from (K : PySem.W.Frag) : TS :=
  (tRet (tSl (rSlA K) (tVar 0) (tPart (tCall (spP K TMany) [] E0 (tCons (tVar 0) (tCons (tVar 1) tNil)))) tNoPart))
def t_regb (K : PySem.W.Frag) (Cd : Addr) : TS :=
  (tSeq (tAsg (tCB rDivm (tCons (tVar 1) (tCons (tFld K (tVar 0) "period") tNil))) (gTup K 2 (gCons (gName 2) (gCons (gName 3) gNil))))
    (tRet (tOp rAddI (tOp rMulI (tVar 2) (tCB (rLenX K) (tCons (tFld K (tVar 0) "marks") tNil))) (tCall (spP K TMany) [] E0 (tCons (tFld K (tVar 0) "marks") (tCons (tVar 3) tNil))))))
def t_regd (K : PySem.W.Frag) (Cd : Addr) : TS :=
  (tSeq (tIfS (tTest (tOp rEq (tCB (rLenX K) (tCons (tFld K (tVar 0) "marks") tNil)) (tC (.int 0)))) (tRet (tC .non)) tNext)
    (tSeq (tAsg (tCB rDivm (tCons (tVar 1) (tCons (tCB (rLenX K) (tCons (tFld K (tVar 0) "marks") tNil)) tNil))) (gTup K 2 (gCons (gName 2) (gCons (gName 3) gNil))))
    (tRet (tOp rAddI (tOp rMulI (tVar 2) (tFld K (tVar 0) "period")) (tOp (rIxT K) (tFld K (tVar 0) "marks") (tVar 3))))))
def t_cnt (K : PySem.W.Frag) (Cd : Addr) : TS :=
  (tSeq (tIfS (tTest (tOp rLt (tVar 2) (tVar 1))) tNo tNext)
    (tSeq (tAsg (tOp rSubI (tCall (spP K (TRegB Cd)) [] E0 (tCons (tVar 0) (tCons (tVar 2) tNil))) (tCall (spP K (TRegB Cd)) [] E0 (tCons (tVar 0) (tCons (tVar 1) tNil)))) (gName 3))
    (tSeq (tFor (iTup K (tCall (spP K TFrom) [] E0 (tCons (tFld K (tVar 0) "turned") (tCons (tVar 1) tNil)))) (gName 4) (tIfS (tTest (tOp rLt (tVar 4) (tVar 2))) (tAsg (tOp rAddI (tVar 3) (tIf (tB (tMeth Cd "has" (spP K (THasD Cd)) [] E0 (tVar 0) (tCons (tVar 4) tNil))) (tC (.int 1)) (tUn rNegI (tC (.int 1))))) (gName 3)) tNext))
    (tRet (tVar 3)))))
def t_nth (K : PySem.W.Frag) (Cd : Addr) : TS :=
  (tSeq (tIfS (tTest (tOp rLt (tVar 2) (tC (.int 0)))) tNo tNext)
    (tSeq (tFor (iTup K (tCall (spP K TFrom) [] E0 (tCons (tFld K (tVar 0) "turned") (tCons (tVar 1) tNil)))) (gName 3) (tSeq (tAsg (tOp rSubI (tCall (spP K (TRegB Cd)) [] E0 (tCons (tVar 0) (tCons (tVar 3) tNil))) (tCall (spP K (TRegB Cd)) [] E0 (tCons (tVar 0) (tCons (tVar 1) tNil)))) (gName 4))
    (tSeq (tIfS (tTest (tOp rLt (tVar 2) (tVar 4))) (tRet (tCall (spP K (TRegD Cd)) [] E0 (tCons (tVar 0) (tCons (tOp rAddI (tCall (spP K (TRegB Cd)) [] E0 (tCons (tVar 0) (tCons (tVar 1) tNil))) (tVar 2)) tNil)))) tNext)
    (tSeq (tAsg (tOp rSubI (tVar 2) (tVar 4)) (gName 2))
    (tSeq (tIfS (tB (tMeth Cd "has" (spP K (THasD Cd)) [] E0 (tVar 0) (tCons (tVar 3) tNil))) (tSeq (tIfS (tTest (tOp rEq (tVar 2) (tC (.int 0)))) (tRet (tVar 3)) tNext)
    (tAsg (tOp rSubI (tVar 2) (tC (.int 1))) (gName 2))) tNext)
    (tAsg (tOp rAddI (tVar 3) (tC (.int 1))) (gName 1)))))))
    (tRet (tCall (spP K (TRegD Cd)) [] E0 (tCons (tVar 0) (tCons (tOp rAddI (tCall (spP K (TRegB Cd)) [] E0 (tCons (tVar 0) (tCons (tVar 1) tNil))) (tVar 2)) tNil))))))
theorem drop_filter {ns : List Int} {x : Int} {c : Nat} (hc : c ≤ ns.length) (h : ∀ (i : Nat) (v : Int), ns[i]? = some v → (v < x ↔ i < c)) : ns.drop c = ns.filter fun v => decide (x ≤ v) := by
  have e : ns = ns.take c ++ ns.drop c := (List.take_append_drop c ns).symm
  conv => rhs; rw [e]
  rw [List.filter_append]
  have e1 : (ns.take c).filter (fun v => decide (x ≤ v)) = [] := by
    rw [List.filter_eq_nil_iff]
    intro u hu z
    obtain ⟨i, hi⟩ := List.getElem?_of_mem hu
    rw [List.getElem?_take] at hi
    split at hi
    · have := (h _ _ hi).mpr (by assumption)
      have := of_decide_eq_true z
      omega
    · cases hi
  have e2 : (ns.drop c).filter (fun v => decide (x ≤ v)) = ns.drop c := by
    rw [List.filter_eq_self]
    intro u hu
    obtain ⟨i, hi⟩ := List.getElem?_of_mem hu
    rw [List.getElem?_drop] at hi
    have := (h _ _ hi)
    exact decide_eq_true (by omega)
  rw [e1, e2]; rfl
section
variable {K : PySem.W.Frag} {ds : List PyData} {Φ : PyData → Prop} {Cd : Addr}
theorem ws_from (h : TFrom ds Φ) : WS K S0 (t_from K) (rhoOf 2 ds) { nx := fun _ => Φ .none, rt := fun d _ => Φ d } := by
  obtain ⟨ns, x, rfl, hr, hl, h⟩ := h
  show WS K S0 (t_from K) [.dat (.tuple (ns.map PyData.int)), .dat (.int x)] _
  unfold t_from
  refine ws_ret (wd_slA (wd_var rfl ⟨_, rfl, wo_part (wd_call0 (wa_cons (wd_var rfl (wa_cons (wd_var rfl (wa_nil ⟨ns, x, rfl, hr, hl, fun c c1 c2 => ⟨_, rfl, wo_none ?_⟩⟩))))))⟩))
  rw [cutD_drop rfl, ← List.map_drop, drop_filter c1 c2]
  exact h
theorem ws_regb (c : DayC K Cd) (h : TRegB Cd ds Φ) : WS K S0 (t_regb K Cd) (rhoOf 4 ds) { nx := fun _ => Φ .none, rt := fun d _ => Φ d } := by
  obtain ⟨p, us, vs, d, rfl, D, hd, h⟩ := h
  show WS K S0 (t_regb K Cd) [.dat (dayD Cd p us vs), .dat (.int d), .unk, .unk] _
  unfold t_regb
  have p1 := D.p1
  have p2 := D.p2
  have ul := D.ul
  refine ws_seq (ws_unp2 (wd_cb (wa_cons (wd_var rfl (wa_cons (wd_fld (wd_var rfl ⟨Cd, _, _, rfl, c.p, rfl, wa_nil (dc_divm ⟨by omega, by omega⟩ ⟨_, _, rfl, ?_⟩)⟩)))))))
  refine ws_ret (wd_op (wd_op (wd_var rfl (wd_cb (wa_cons (wd_fld (wd_var rfl ⟨Cd, _, _, rfl, c.m, rfl, wa_nil (dc_lenT (do_mul ?_ ?_))⟩)))))))
  · have a := Int.natAbs_ediv_le_natAbs d p
    rw [List.length_map]
    exact wideJ (small200 (n := 70) (by omega) (by decide)) (small200 (n := 20) (by rw [Int.natAbs_natCast]; omega) (by decide))
  refine wd_call0 (wa_cons (wd_fld (wd_var rfl ⟨Cd, _, _, rfl, c.m, rfl, wa_cons (wd_var rfl (wa_nil ⟨us, _, rfl, D.ur, by omega, fun k k1 k2 => do_add ?_⟩))⟩)))
  rw [List.length_map, ← cnt_of k1 k2]
  exact h
theorem sum_filt {p : Nat} {us : List Int} {a b : Int} : ∀ (vs : List Int), (vs.map (gT p us a b)).sum = ((vs.filter fun v => decide (a ≤ v)).map (gT p us a b)).sum
  | [] => rfl
  | x :: r => by
    rw [List.map_cons, List.sum_cons, sum_filt r]
    by_cases c : a ≤ x
    · rw [List.filter_cons_of_pos (by simpa using c), List.map_cons, List.sum_cons]
    · rw [List.filter_cons_of_neg (by simpa using c)]
      have e : gT p us a b x = 0 := by unfold gT; rw [if_neg fun w => c w.1]
      rw [e, Int.zero_add]
theorem ws_cntD (c : DayC K Cd) (h : TCnt Cd ds Φ) : WS K S0 (t_cnt K Cd) (rhoOf 5 ds) { nx := fun _ => Φ .none, rt := fun d _ => Φ d } := by
  obtain ⟨p, us, vs, a, b, rfl, D, ha, hb, hab, h⟩ := h
  show WS K S0 (t_cnt K Cd) [.dat (dayD Cd p us vs), .dat (.int a), .dat (.int b), .unk, .unk] _
  unfold t_cnt
  have p1 := D.p1
  have p2 := D.p2
  have ul := D.ul
  have vl := D.vl
  refine ws_seq (ws_if (wt_test ?_))
  walk_at "dl"
  refine if_b (fun z => absurd z (by omega)) (fun _ => ws_next ?_)
  refine ws_seq (ws_asg (wd_op (wd_call0 (wa_cons (wd_var rfl (wa_cons (wd_var rfl (wa_nil ⟨p, us, vs, b, rfl, D, by omega, ?_⟩))))))))
  refine wd_call0 (wa_cons (wd_var rfl (wa_cons (wd_var rfl (wa_nil ⟨p, us, vs, a, rfl, D, by omega, do_sub ?_⟩)))))
  show WS K S0 _ [.dat (dayD Cd p us vs), .dat (.int a), .dat (.int b), .dat (.int (rgB p us b - rgB p us a)), .unk] _
  refine ws_seq (ws_for (wi_tup (wd_call0 (wa_cons (wd_fld (wd_var rfl ⟨Cd, _, _, rfl, c.t, rfl, wa_cons (wd_var rfl (wa_nil ⟨vs, a, rfl, D.vr, by omega, _, rfl, ?_⟩))⟩))))))
  generalize hfs : (vs.filter fun v => decide (a ≤ v)) = fs
  have hm : ∀ t ∈ fs, t ∈ vs ∧ a ≤ t := fun t ht => by
    rw [← hfs] at ht
    obtain ⟨h1, h2⟩ := List.mem_filter.mp ht
    exact ⟨h1, of_decide_eq_true h2⟩
  rw [show cntD p us vs a b = rgB p us b - rgB p us a + (fs.map (gT p us a b)).sum from by unfold cntD; rw [sum_filt, hfs]] at h
  refine ⟨fun k ρ => ∃ s4 : Sl, ρ = [.dat (dayD Cd p us vs), .dat (.int a), .dat (.int b), .dat (.int (rgB p us b - rgB p us a + ((fs.take k).map (gT p us a b)).sum)), s4], ⟨.unk, by simp⟩, ?_, ?_⟩
  · rintro k d ρ2 hd ⟨s4, rfl⟩
    rw [List.getElem?_map] at hd
    obtain ⟨t, ht, rfl⟩ := Option.map_eq_some_iff.mp hd
    obtain ⟨tv, ta⟩ := hm t (List.mem_of_getElem? ht)
    have step : ((fs.take (k + 1)).map (gT p us a b)).sum = ((fs.take k).map (gT p us a b)).sum + gT p us a b t := by
      rw [List.take_add_one, ht, Option.toList_some, List.map_append, List.sum_append_int, List.map_singleton, List.sum_singleton]
    refine ⟨_, _, gd_name, ?_⟩
    refine ws_if (wt_test ?_)
    walk_at "dl"
    refine if_b (fun z => ?_) (fun z => ?_)
    · refine ws_asg (wd_op (wd_var rfl (wd_ifE (wt_B (wd_meth (wd_var rfl ⟨dayPs p us vs, rfl, rfl, wa_cons (wd_var rfl (wa_nil ⟨p, us, vs, t, rfl, p1, D.ur, D.vr, by omega, by omega, ?_⟩))⟩))))))
      rw [decide_eq_true tv, Int.fmod_eq_emod_of_nonneg _ (by omega)]
      by_cases r : rgI p us t
      · rw [decide_eq_true r]
        refine ⟨_, rfl, if_f (wd_un (wd_int (du_neg (do_add ⟨.dat (.int t), ?_⟩))))⟩
        rw [step]
        have e : gT p us a b t = -1 := by unfold gT; rw [if_pos ⟨ta, z⟩, if_pos r]
        rw [e, ← Int.add_assoc]; rfl
      · rw [decide_eq_false r]
        refine ⟨_, rfl, if_t (wd_int (do_add ⟨.dat (.int t), ?_⟩))⟩
        rw [step]
        have e : gT p us a b t = 1 := by unfold gT; rw [if_pos ⟨ta, z⟩, if_neg r]
        rw [e, ← Int.add_assoc]; rfl
    · refine ws_next ⟨.dat (.int t), ?_⟩
      rw [step]
      have e : gT p us a b t = 0 := by unfold gT; rw [if_neg fun w => z w.2]
      rw [e, Int.add_zero]; rfl
  · rintro ρ2 ⟨s4, rfl⟩
    rw [List.length_map, List.take_length]
    exact ws_ret (wd_var rfl h)
end
end DL

set_option Elab.async false
set_option linter.all false
set_option maxRecDepth 100000
set_option maxHeartbeats 4000000
/-! DJ3: what the law counts -/
namespace DL
open PySem PySem.Spec PyProof.Rows L2
local macro_rules | `(tactic| walk_at "dl") => `(tactic| repeat' (first
  | with_reducible refine wd_isTy ?_ | with_reducible refine wd_isi ?_ | ((with_reducible show WD _ _ (tOp (rIxL _) (tVar _) _) _ _); refine wd_ix_own rfl ?_) | with_reducible refine wd_op ?_ | ((with_reducible show WD _ _ (tCB (rLenX _) (tCons (tVar _) tNil)) _ _); refine wd_len_scr rfl ?_) | ((with_reducible show WD _ _ (tCB (rLenX _) (tCons (tVar _) tNil)) _ _); refine wd_len_own rfl ?_) | with_reducible refine wd_cb ?_ | with_reducible refine wd_un ?_ | with_reducible refine wa_cons ?_ | with_reducible refine wa_nil ?_ | ((with_reducible show WD _ _ (tVar _) _ _); refine wd_var rfl ?_) | with_reducible refine wd_int ?_ | with_reducible refine wd_bl ?_ | with_reducible refine wd_str ?_ | with_reducible refine wd_non ?_
  | with_reducible refine do_nesS ?_ | with_reducible refine dc_intB ?_ | with_reducible refine do_add ?_ | with_reducible refine do_sub ?_ | ((with_reducible refine do_mod ?_ ?_); decide) | with_reducible refine do_mod ?_ ?_ | with_reducible refine do_mul ?_ ?_ | ((with_reducible refine do_div ?_ ?_); exact ⟨by decide, by decide⟩) | with_reducible refine do_div ?_ ?_ | ((with_reducible refine do_pow ?_ ?_); exact ⟨by decide, by decide, by decide⟩) | with_reducible refine do_pow ?_ ?_
  | with_reducible refine do_lt ?_ | with_reducible refine do_le ?_ | with_reducible refine do_gt ?_ | with_reducible refine do_ge ?_ | with_reducible refine du_neg ?_
  | with_reducible refine do_eqi ?_ | with_reducible refine do_nei ?_ | with_reducible refine do_eqs ?_ | with_reducible refine do_nes ?_ | with_reducible refine dc_abs ?_ | with_reducible refine dc_min ?_ | with_reducible refine dc_max ?_ | with_reducible refine dc_lenL ?_ | with_reducible refine dc_lenT ?_ | with_reducible refine dc_lenR ?_ | with_reducible refine dc_listT ?_ | with_reducible refine dc_listL ?_ | with_reducible refine dc_tupL ?_ | with_reducible refine dc_gcd ?_
  | ((with_reducible show DO _ (rIxT _) _ _ _); refine do_ixT rfl ?_) | ((with_reducible show DO _ (rIxL _) _ _ _); refine do_ixL rfl ?_) | ((with_reducible refine do_catL ?_ ?_); exact Nat.le_of_ble_eq_true rfl) | with_reducible refine do_catL ?_ ?_ | ((with_reducible show And (List.length _ ≤ sizeLine) _); refine ⟨Nat.le_of_ble_eq_true rfl, ?_⟩)
  | with_reducible refine wd_dnew ?_ | with_reducible refine wd_call0 ?_ | with_reducible refine wd_slA ?_ | with_reducible refine wd_slL ?_ | with_reducible refine wd_revT ?_ | with_reducible refine do_catA ?_ ?_ | with_reducible refine wo_part ?_ | with_reducible refine wo_none ?_ | with_reducible refine do_eqQ ?_ | with_reducible refine do_neQ ?_ | with_reducible refine wi_enumT ?_ | with_reducible refine wi_enumD ?_ | with_reducible refine tAdQ (by omega) (by omega) ?_ | with_reducible refine tSbQ (by omega) (by omega) ?_ | with_reducible refine tMlQ (by omega) (by omega) ?_ | with_reducible refine tDvQ (by assumption) (by omega) (by omega) ?_ | with_reducible refine tLtQ (by omega) (by omega) ?_ | with_reducible refine dc_str ?_ ?_ | with_reducible refine wd_tup ?_ | with_reducible refine wd_lst ?_ | with_reducible refine wt_test ?_ | with_reducible refine wt_B ?_ | with_reducible refine wt_not ?_ | with_reducible refine wt_and ?_ | with_reducible refine wt_or ?_ | with_reducible refine wd_ifE ?_ | with_reducible refine wd_andV ?_ | with_reducible refine wd_orV ?_ | with_reducible refine wd_notV ?_
  | with_reducible refine ws_seq ?_ | with_reducible refine ws_next ?_ | with_reducible refine ws_asg ?_ | with_reducible refine ws_ret ?_ | with_reducible refine ws_retN ?_ | with_reducible refine ws_if ?_ | with_reducible refine ws_par ?_ | with_reducible refine ws_unp2 ?_
  | with_reducible refine if_t ?_ | with_reducible refine if_f ?_ | with_reducible refine if_nf ?_ | with_reducible refine if_nt ?_
  | ((with_reducible show Exists _); first | refine ⟨_, kitInt _, ?_⟩ | refine ⟨_, kitBool _, ?_⟩ | refine ⟨_, kitTup _, ?_⟩ | refine ⟨_, kitList _, ?_⟩ | refine ⟨_, rfl, ?_⟩ | refine ⟨_, _, rfl, ?_⟩ | fail) | fail))
/-- rests and turned days, and Days of them -/
structure Rl (bs ts : List Int) (p : Nat) (us vs : List Int) : Prop where
  d : Dy p us vs
  n1 : 1 ≤ bs.length
  n2 : bs.length ≤ 5040
  bt : ∀ b ∈ bs, b = 0 ∨ b = 1
  hR : ∀ d : Int, rgI p us d ↔ bs.getD (d % bs.length).toNat 0 = 1
  dv : p ∣ bs.length
  pm : vs.Perm ts
  tl : ts.length ≤ 60
  tb : ∀ t ∈ ts, t.natAbs ≤ 1000000000000001000
section
variable {bs ts : List Int} {p : Nat} {us vs : List Int}
end
def GvD (bs ts : List Int) : PyData := .tuple [.list (bs.map PyData.int), .list (ts.map PyData.int)]
def TPut13 (Cd : Addr) : List PyData → (PyData → Prop) → Prop := fun ds Φ => ∃ bs ts : List Int, ds = [GvD bs ts] ∧ Rst bs ∧ Trn ts ∧ ∀ p us vs, DyF bs.length (mks bs) ts p us vs → Φ (dayD Cd p us vs)
def TManyL : List PyData → (PyData → Prop) → Prop := fun ds Φ => ∃ (bs ts : List Int) (p : Nat) (us vs : List Int) (a b : Int), ds = [GvD bs ts, .int a, .int b] ∧ Rl bs ts p us vs ∧ a.natAbs ≤ 2 ^ 61 ∧ b.natAbs ≤ 2 ^ 61 ∧ a ≤ b ∧ Φ (.int (cntD p us vs a b))
def TNthR (Cd : Addr) : List PyData → (PyData → Prop) → Prop := fun ds Φ => ∃ (bs ts : List Int) (p : Nat) (us vs : List Int) (b k : Int), ds = [GvD bs ts, dayD Cd p us vs, .int b, .int k] ∧ Rl bs ts p us vs ∧ b.natAbs ≤ 2 ^ 60 ∧ 0 ≤ k ∧ k ≤ 2 ^ 41 ∧ Φ (.bool true)
def t_put13 (K : PySem.W.Frag) (Cd : Addr) : TS :=
  (tSeq (tAsg (tVar 0) (gTup K 2 (gCons (gName 1) (gCons (gName 2) gNil))))
    (tRet (tMakeK Cd 2 1 (spIni K Cd TIniD) gVapp E0 (tCons (tCB (rLenX K) (tCons (tVar 1) tNil)) (tCons (tCB (rTupOf K) (tCons (tCall (spP K TMarks) [] E0 (tCons (tVar 1) tNil)) tNil)) tNil)) (tCons (tCB (rTupOf K) (tCons (tVar 2) tNil)) tNil))))
def t_manyL (K : PySem.W.Frag) : TS :=
  (tSeq (tAsg (tVar 0) (gTup K 2 (gCons (gName 3) (gCons (gName 4) gNil))))
    (tSeq (tAsg (tOp rDivI (tOp rSubI (tVar 2) (tVar 1)) (tCB (rLenX K) (tCons (tVar 3) tNil))) (gName 5))
    (tSeq (tAsg (tOp rMulI (tVar 5) (tCB (rSum K) (tCons (tVar 3) tNil))) (gName 6))
    (tSeq (tFor (iRng2 (tCons (tOp rAddI (tVar 1) (tOp rMulI (tVar 5) (tCB (rLenX K) (tCons (tVar 3) tNil)))) (tCons (tVar 2) tNil))) (gName 7) (tAsg (tOp rAddI (tVar 6) (tOp (rIxL K) (tVar 3) (tOp rModI (tVar 7) (tCB (rLenX K) (tCons (tVar 3) tNil))))) (gName 6)))
    (tSeq (tFor (iList K (tVar 4)) (gName 7) (tIfS (tTest (tChain rLe rLt (tVar 1) (tVar 7) (tVar 2))) (tAsg (tOp rSubI (tOp rAddI (tVar 6) (tC (.int 1))) (tOp rMulI (tC (.int 2)) (tOp (rIxL K) (tVar 3) (tOp rModI (tVar 7) (tCB (rLenX K) (tCons (tVar 3) tNil)))))) (gName 6)) tNext))
    (tRet (tVar 6)))))))
section
variable {K : PySem.W.Frag} {ds : List PyData} {Φ : PyData → Prop} {Cd : Addr}
theorem ws_put13 (cC : OwnC K Cd) (h : TPut13 Cd ds Φ) : WS K S0 (t_put13 K Cd) (rhoOf 3 ds) { nx := fun _ => Φ .none, rt := fun d _ => Φ d } := by
  obtain ⟨bs, ts, rfl, hb, ht, h⟩ := h
  show WS K S0 (t_put13 K Cd) [.dat (GvD bs ts), .unk, .unk] _
  unfold t_put13
  have hml := mks_one hb
  have n2 := hb.l2
  refine ws_seq (ws_unp2 (wd_var rfl ⟨_, _, rfl, ?_⟩))
  refine ws_ret (wd_makeK (gD := fun xs ys => xs ++ ys) cC (fun N H x vs zs ds es h1 h2 => ⟨vs ++ zs, rfl, h1.append h2⟩) (wa_cons (wd_cb (wa_cons (wd_var rfl (wa_nil (dc_lenL ?_)))))))
  rw [List.length_map]
  refine wa_cons (wd_cb (wa_cons (wd_call0 (wa_cons (wd_var rfl (wa_nil ⟨bs, rfl, by omega, wa_nil (dc_tupL ?_)⟩))))))
  refine wa_nil (wa_cons (wd_cb (wa_cons (wd_var rfl (wa_nil (dc_tupL (wa_nil ⟨rfl, rfl, bs.length, false, false, mks bs, ts, rfl, ⟨hb.l1, hb.l2, mks_nd bs, by omega, mks_mem, ht.nd, ht.l⟩, fun p us vs f => h p us vs f⟩)))))))
def t_nthr (K : PySem.W.Frag) (Cd : Addr) : TS :=
  (tSeq (tAsg (tCallN 2 1 (spP K (TNth Cd)) gVapp E0 (tCons (tVar 1) (tCons (tVar 2) tNil)) (tCons (tVar 3) tNil)) (gName 4))
    (tSeq (tIfS (tTest (tOp rIsNone (tVar 4) (tC .non))) (tSeq (tAsg (tLc (iList K (tOp (rIxT K) (tVar 0) (tC (.int 1)))) (gName 6) (tTest (tOp rGe (tVar 6) (tVar 2))) (tVar 6) [6]) (gName 5))
    (tRet (tAndV (tOp rEq (tCB (rSum K) (tCons (tOp (rIxT K) (tVar 0) (tC (.int 0))) tNil)) (tC (.int 0))) (tOp rLe (tCB (rLenX K) (tCons (tVar 5) tNil)) (tVar 3))))) tNext)
    (tSeq (tIfS (tOr (tNot (tB (tCB (rIsi K) (tCons (tVar 4) (tCons (tC (.ty "int")) tNil))))) (tOr (tTest (tOp rLt (tVar 4) (tVar 2))) (tNot (tB (tCall (spP K TIn) [] E0 (tCons (tVar 0) (tCons (tVar 4) tNil))))))) (tRet (tC (.bl false))) tNext)
    (tRet (tOp rEq (tCall (spP K TManyL) [] E0 (tCons (tVar 0) (tCons (tVar 2) (tCons (tVar 4) tNil)))) (tVar 3))))))
end
end DL

set_option Elab.async false
set_option linter.all false
set_option maxRecDepth 100000
set_option maxHeartbeats 4000000
/-! ER7: refused and caught; law k01 -/
namespace DL
open PySem PySem.Spec PyProof.Rows L2
/-- refused, caught, told on -/
def spCa (A : Nat → Addr) : Sp := fun vs H Q _ => ∃ (i : Nat) (v : V), vs = [.int (i : Int), v] ∧ i < 17 ∧
  ∀ a d H1, H a = none → Same H H1 → KeptE H1 a (A i) d → (∀ dd, d = some dd → H dd = none) → (12 ≤ i → ∃ dd, d = some dd ∧ H dd = none ∧ H1 dd = some (.xd [(fldN i, v)])) → Q (.ref a) H1
def ts_ca (a : Addr) : TS := tAsg (tVar 3) (gName 2)
def tb_ca (A : Nat → Addr) (W : WX) : TS := tIfS (tTest (tOp rLt (tVar 0) (tC (.int 12)))) (tDrop (tCallS (spPl A) (WE W) (tCons (tVar 0) (tCons (tVar 1) tNil)))) (tDrop (tCallS (spBr A) (WE W) (tCons (tVar 0) (tCons (tVar 1) tNil))))
def t_ca (K : PySem.W.Frag) (A : Nat → Addr) (P : Addr) : TS :=
  (tSeq (tAsg (tC .non) (gName 2))
    (tSeq (fun D σ H => tb_ca A (wKeepT K (clauseV A P) 3 ts_ca D) D σ H)
    (tRet (tVar 2))))
local macro_rules | `(tactic| walk_at "dl") => `(tactic| repeat' (first
  | with_reducible refine wd_isTy ?_ | with_reducible refine wd_isi ?_ | ((with_reducible show WD _ _ (tOp (rIxL _) (tVar _) _) _ _); refine wd_ix_own rfl ?_) | with_reducible refine wd_op ?_ | ((with_reducible show WD _ _ (tCB (rLenX _) (tCons (tVar _) tNil)) _ _); refine wd_len_scr rfl ?_) | ((with_reducible show WD _ _ (tCB (rLenX _) (tCons (tVar _) tNil)) _ _); refine wd_len_own rfl ?_) | with_reducible refine wd_cb ?_ | with_reducible refine wd_un ?_ | with_reducible refine wa_cons ?_ | with_reducible refine wa_nil ?_ | ((with_reducible show WD _ _ (tVar _) _ _); refine wd_var rfl ?_) | with_reducible refine wd_int ?_ | with_reducible refine wd_bl ?_ | with_reducible refine wd_str ?_ | with_reducible refine wd_non ?_
  | with_reducible refine do_nesS ?_ | with_reducible refine dc_intB ?_ | with_reducible refine do_add ?_ | with_reducible refine do_sub ?_ | ((with_reducible refine do_mod ?_ ?_); decide) | with_reducible refine do_mod ?_ ?_ | with_reducible refine do_mul ?_ ?_ | ((with_reducible refine do_div ?_ ?_); exact ⟨by decide, by decide⟩) | with_reducible refine do_div ?_ ?_ | ((with_reducible refine do_pow ?_ ?_); exact ⟨by decide, by decide, by decide⟩) | with_reducible refine do_pow ?_ ?_
  | with_reducible refine do_lt ?_ | with_reducible refine do_le ?_ | with_reducible refine do_gt ?_ | with_reducible refine do_ge ?_ | with_reducible refine du_neg ?_
  | with_reducible refine do_eqi ?_ | with_reducible refine do_nei ?_ | with_reducible refine do_eqs ?_ | with_reducible refine do_nes ?_ | with_reducible refine dc_abs ?_ | with_reducible refine dc_min ?_ | with_reducible refine dc_max ?_ | with_reducible refine dc_lenL ?_ | with_reducible refine dc_lenT ?_ | with_reducible refine dc_lenR ?_ | with_reducible refine dc_listT ?_ | with_reducible refine dc_listL ?_ | with_reducible refine dc_tupL ?_ | with_reducible refine dc_gcd ?_
  | ((with_reducible show DO _ (rIxT _) _ _ _); refine do_ixT rfl ?_) | ((with_reducible show DO _ (rIxL _) _ _ _); refine do_ixL rfl ?_) | ((with_reducible refine do_catL ?_ ?_); exact Nat.le_of_ble_eq_true rfl) | with_reducible refine do_catL ?_ ?_ | ((with_reducible show And (List.length _ ≤ sizeLine) _); refine ⟨Nat.le_of_ble_eq_true rfl, ?_⟩)
  | with_reducible refine wd_dnew ?_ | with_reducible refine wd_call0 ?_ | with_reducible refine wd_slA ?_ | with_reducible refine wd_slL ?_ | with_reducible refine wd_revT ?_ | with_reducible refine do_catA ?_ ?_ | with_reducible refine wo_part ?_ | with_reducible refine wo_none ?_ | with_reducible refine do_eqQ ?_ | with_reducible refine do_neQ ?_ | with_reducible refine wi_enumT ?_ | with_reducible refine wi_enumD ?_ | with_reducible refine tAdQ (by omega) (by omega) ?_ | with_reducible refine tSbQ (by omega) (by omega) ?_ | with_reducible refine tMlQ (by omega) (by omega) ?_ | with_reducible refine tDvQ (by assumption) (by omega) (by omega) ?_ | with_reducible refine tLtQ (by omega) (by omega) ?_ | with_reducible refine dc_str ?_ ?_ | with_reducible refine wd_tup ?_ | with_reducible refine wd_lst ?_ | with_reducible refine wt_test ?_ | with_reducible refine wt_B ?_ | with_reducible refine wt_not ?_ | with_reducible refine wt_and ?_ | with_reducible refine wt_or ?_ | with_reducible refine wd_ifE ?_ | with_reducible refine wd_andV ?_ | with_reducible refine wd_orV ?_ | with_reducible refine wd_notV ?_
  | with_reducible refine ws_seq ?_ | with_reducible refine ws_next ?_ | with_reducible refine ws_asg ?_ | with_reducible refine ws_ret ?_ | with_reducible refine ws_retN ?_ | with_reducible refine ws_if ?_ | with_reducible refine ws_par ?_ | with_reducible refine ws_unp2 ?_
  | with_reducible refine if_t ?_ | with_reducible refine if_f ?_ | with_reducible refine if_nf ?_ | with_reducible refine if_nt ?_
  | ((with_reducible show Exists _); first | refine ⟨_, kitInt _, ?_⟩ | refine ⟨_, kitBool _, ?_⟩ | refine ⟨_, kitTup _, ?_⟩ | refine ⟨_, kitList _, ?_⟩ | refine ⟨_, rfl, ?_⟩ | refine ⟨_, _, rfl, ?_⟩ | fail) | fail))
/-- the body of the law's loop, behind what is drawn -/
def t_look (K : PySem.W.Frag) (A : Nat → Addr) : TS :=
  (tSeq (tAsg (tCall (spCa A) [] E0 (tCons (tVar 3) (tCons (tIf (tTest (tOp rLt (tVar 3) (tC (.int 12)))) (tVar 5) (tVar 4)) tNil))) (gName 6))
    (tSeq (tIfS (tOr (tTest (tOp (rNeD K) (tCall (spKi A) [] E0 (tCons (tVar 6) tNil)) (tLc (iRng1 (tCons (tC (.int 17)) tNil)) (gName 7) tYes (tOp rEq (tVar 7) (tVar 3)) [7]))) (tTest (tOp (rNeD K) (tCall (spUn A) [] E0 (tCons (tVar 6) tNil)) (tCall (spP K TDue) [] E0 (tCons (tVar 3) tNil))))) (tRet (tC (.bl false))) tNext)
    (tIfS (tAnd (tTest (tOp rGt (tVar 3) (tC (.int 11)))) (tTest (tOp rNe (tCB (rReprY K) (tCons (tCall (spBo A) [] E0 (tCons (tVar 3) (tCons (tVar 6) tNil))) tNil)) (tCB (rReprY K) (tCons (tVar 4) tNil))))) (tRet (tC (.bl false))) tNext)))
def t_look2 (K : PySem.W.Frag) (A : Nat → Addr) : TS :=
  (tSeq (tIfS (tOr (tTest (tOp (rNeD K) (tCall (spKi A) [] E0 (tCons (tVar 6) tNil)) (tLc (iRng1 (tCons (tC (.int 17)) tNil)) (gName 7) tYes (tOp rEq (tVar 7) (tVar 3)) [7]))) (tTest (tOp (rNeD K) (tCall (spUn A) [] E0 (tCons (tVar 6) tNil)) (tCall (spP K TDue) [] E0 (tCons (tVar 3) tNil))))) (tRet (tC (.bl false))) tNext)
    (tIfS (tAnd (tTest (tOp rGt (tVar 3) (tC (.int 11)))) (tTest (tOp rNe (tCB (rReprY K) (tCons (tCall (spBo A) [] E0 (tCons (tVar 3) (tCons (tVar 6) tNil))) tNil)) (tCB (rReprY K) (tCons (tVar 4) tNil))))) (tRet (tC (.bl false))) tNext))
section
variable {K : PySem.W.Frag} {S : Stt} {A : Nat → Addr} {P : Addr}
def t_law01 (K : PySem.W.Frag) (A : Nat → Addr) : TS :=
  (tSeq (tFor (iRng1 (tCons (tOp rAddI (tC (.int 17)) (tCB rMinX (tCons (tC (.int 20)) (tCons (tCB (rLenX K) (tCons (tVar 0) tNil)) tNil)))) tNil)) (gName 2) (tSeq (tAsg (tIf (tTest (tOp rGt (tVar 2) (tC (.int 16)))) (tCall (spS K FSto TDr) [] E0 (tCons (tVar 1) (tCons (tC (.int 17)) tNil))) (tVar 2)) (gName 3))
    (tSeq (tAsg (tCall (spS K FSto TBorn) [] E0 (tCons (tVar 1) (tCons (tVar 3) tNil))) (gName 4))
    (tSeq (tAsg (tIf (tTest (tOp rEq (tCall (spS K FSto TDr) [] E0 (tCons (tVar 1) (tCons (tC (.int 2)) tNil))) (tC (.int 0)))) (tC (.str "a text of its own")) (tC (.str ""))) (gName 5))
    (tSeq (tAsg (tCall (spCa A) [] E0 (tCons (tVar 3) (tCons (tIf (tTest (tOp rLt (tVar 3) (tC (.int 12)))) (tVar 5) (tVar 4)) tNil))) (gName 6))
    (tSeq (tIfS (tOr (tTest (tOp (rNeD K) (tCall (spKi A) [] E0 (tCons (tVar 6) tNil)) (tLc (iRng1 (tCons (tC (.int 17)) tNil)) (gName 7) tYes (tOp rEq (tVar 7) (tVar 3)) [7]))) (tTest (tOp (rNeD K) (tCall (spUn A) [] E0 (tCons (tVar 6) tNil)) (tCall (spP K TDue) [] E0 (tCons (tVar 3) tNil))))) (tRet (tC (.bl false))) tNext)
    (tIfS (tAnd (tTest (tOp rGt (tVar 3) (tC (.int 11)))) (tTest (tOp rNe (tCB (rReprY K) (tCons (tCall (spBo A) [] E0 (tCons (tVar 3) (tCons (tVar 6) tNil))) tNil)) (tCB (rReprY K) (tCons (tVar 4) tNil))))) (tRet (tC (.bl false))) tNext)))))))
    (tRet (tC (.bl true))))
end
end DL

set_option Elab.async false
set_option linter.all false
set_option maxRecDepth 100000
set_option maxHeartbeats 4000000
/-! ER8: the five classes with an __init__ of their own -/
namespace DL
open PySem PySem.Spec PyProof.Rows L2
abbrev upTail : List Value := [.type "Exception", .type "BaseException", .type "object"]
def upP (P : Addr) : List Value := .ref P :: .type "ValueError" :: upTail
def upK : List Value := .type "KeyError" :: .type "LookupError" :: upTail
def upI : List Value := .type "IndexError" :: .type "LookupError" :: upTail
def upO : List Value := .type "OverflowError" :: .type "ArithmeticError" :: upTail
def upL : List Value := .type "LookupError" :: upTail
def ownCB (K : PySem.W.Frag) (C : Addr) (up : List Value) (new : String) : Bool := match K.lookup C with
  | some ⟨.type "type", _, .cls cd, sl⟩ => (match sl.toList with
    | [_, _, _, _, some (.builtin n), _] => n == new && !cd.hasDel && cd.mro == (.ref C :: up) && cd.hasDict
    | _ => false)
  | _ => false
def ownEB (K : PySem.W.Frag) (C : Addr) (up : List Value) (new : String) (f : Str) : Bool := ownCB K C up new && (decide (PySem.W.findIn K (.ref C) "__setattr__" = some (some (.builtin "object.__setattr__"))) &&
  (decide (PySem.W.subIn K (.ref C) (.type "BaseException") = some true) && (decide (PySem.W.typeIn K (.ref C) = some (.type "type")) && (PySem.W.keepIn K (.ref C) && decide (PySem.W.findIn K (.ref C) f = some none)))))
abbrev OwnT (K : PySem.W.Frag) (C P : Addr) : Prop := OwnE K C "ValueError" "ValueError" "ValueError.__new__" "ValueError.__init__" "ValueError.__init__" [.type "ValueError", .type "Exception", .type "BaseException", .type "object"]
abbrev OwnK (K : PySem.W.Frag) (C : Addr) : Prop := OwnE K C "LookupError" "KeyError" "LookupError.__new__" "KeyError.__init__" "LookupError.__init__" [.type "LookupError", .type "Exception", .type "BaseException", .type "object"]
abbrev OwnI (K : PySem.W.Frag) (C : Addr) : Prop := OwnE K C "IndexError" "IndexError" "IndexError.__new__" "IndexError.__init__" "IndexError.__init__" [.type "IndexError", .type "LookupError", .type "Exception", .type "BaseException", .type "object"]
abbrev OwnO (K : PySem.W.Frag) (C : Addr) : Prop := OwnE K C "OverflowError" "OverflowError" "OverflowError.__new__" "OverflowError.__init__" "OverflowError.__init__" [.type "OverflowError", .type "ArithmeticError", .type "Exception", .type "BaseException", .type "object"]
abbrev OwnL (K : PySem.W.Frag) (C : Addr) : Prop := OwnE K C "LookupError" "LookupError" "LookupError.__new__" "LookupError.__init__" "LookupError.__init__" [.type "LookupError", .type "Exception", .type "BaseException", .type "object"]
section
variable {K : PySem.W.Frag} {C P : Addr} {f : Str}
end
/-- the def within a class -/
def inner : Stmt → Stmt
  | .ClassDef _ _ _ b _ _ _ _ _ _ _ => b.getD 0 (.Pass ⟨0, 0, 0, 0⟩)
  | s => s
/-- the seventeen, in their order -/
def aN (K : PySem.W.Frag) : Nat → Addr
  | 0 => He.ga K "NoAmount"
  | 1 => He.ga K "NoLine"
  | 2 => He.ga K "NoDays"
  | 3 => He.ga K "NoRule"
  | 4 => He.ga K "NoTelling"
  | 5 => He.ga K "NoStretch"
  | 6 => He.ga K "NoTable"
  | 7 => He.ga K "NoPot"
  | 8 => He.ga K "NoFold"
  | 9 => He.ga K "NoLeave"
  | 10 => He.ga K "NoDeed"
  | 11 => He.ga K "NoPart"
  | 12 => He.ga K "NoText"
  | 13 => He.ga K "NoName"
  | 14 => He.ga K "NoNumber"
  | 15 => He.ga K "TooLong"
  | _ => He.ga K "NoCut"
/-- what a class says where its __init__ is asked for -/
def iniB (K : PySem.W.Frag) (c : Value) (ini : String) : Bool := match PySem.W.findCls K c (.type "type") "__init__" with
  | some (.val (.builtin n)) => n == ini
  | _ => false
def readPB (K : PySem.W.Frag) (P : Addr) : Bool := decide (PySem.W.specialIn K (.ref P) "__getattribute__" = some (some (.builtin "type.__getattribute__"))) && PySem.W.readsIn K P (.type "type")
/-! ### the head: the interpreter's own statics, too -/
def obsY (n : Nat) (fa : List He.Fa) (fn : List He.DefD) (ex : PySem.W.Frag → Bool) (g : Addr → Option Obj) : AlG := (He.obsD fa fn (He.frG g (cStatics :: He.asD g n)), ex (He.frG g (cStatics :: He.asD g n)))
def hookY (n : Nat) (fa : List He.Fa) (fn : List He.DefD) (ex : PySem.W.Frag → Bool) : PySem.W.Hook where
  α := AlG
  obs := fun s => obsY n fa fn ex s.heap.get?
  val := fun _ => (He.valD fn, true)
  says := fun _ h => ∃ K : PySem.W.Frag, K.In h ∧ He.SaysD fa fn K ∧ ex K = true
  of := fun _ _ e => ⟨_, He.frG_in, congrArg Prod.fst e, congrArg Prod.snd e⟩
  keeps := fun _ _ _ ⟨K, hK, c⟩ k => ⟨K, PySem.W.Frag.In.keeps hK k, c⟩
end DL

set_option Elab.async false
set_option linter.all false
set_option maxRecDepth 100000
set_option maxHeartbeats 4000000
/-! DJ4: the word of a refusal of either kind; stretches refused, numbers refused -/
namespace DL
open PySem PySem.Spec PyProof.Rows L2
local macro_rules | `(tactic| walk_at "dl") => `(tactic| repeat' (first
  | with_reducible refine wd_isTy ?_ | with_reducible refine wd_isi ?_ | ((with_reducible show WD _ _ (tOp (rIxL _) (tVar _) _) _ _); refine wd_ix_own rfl ?_) | with_reducible refine wd_op ?_ | ((with_reducible show WD _ _ (tCB (rLenX _) (tCons (tVar _) tNil)) _ _); refine wd_len_scr rfl ?_) | ((with_reducible show WD _ _ (tCB (rLenX _) (tCons (tVar _) tNil)) _ _); refine wd_len_own rfl ?_) | with_reducible refine wd_cb ?_ | with_reducible refine wd_un ?_ | with_reducible refine wa_cons ?_ | with_reducible refine wa_nil ?_ | ((with_reducible show WD _ _ (tVar _) _ _); refine wd_var rfl ?_) | with_reducible refine wd_int ?_ | with_reducible refine wd_bl ?_ | with_reducible refine wd_str ?_ | with_reducible refine wd_non ?_
  | with_reducible refine do_nesS ?_ | with_reducible refine dc_intB ?_ | with_reducible refine do_add ?_ | with_reducible refine do_sub ?_ | ((with_reducible refine do_mod ?_ ?_); decide) | with_reducible refine do_mod ?_ ?_ | with_reducible refine do_mul ?_ ?_ | ((with_reducible refine do_div ?_ ?_); exact ⟨by decide, by decide⟩) | with_reducible refine do_div ?_ ?_ | ((with_reducible refine do_pow ?_ ?_); exact ⟨by decide, by decide, by decide⟩) | with_reducible refine do_pow ?_ ?_
  | with_reducible refine do_lt ?_ | with_reducible refine do_le ?_ | with_reducible refine do_gt ?_ | with_reducible refine do_ge ?_ | with_reducible refine du_neg ?_
  | with_reducible refine do_eqi ?_ | with_reducible refine do_nei ?_ | with_reducible refine do_eqs ?_ | with_reducible refine do_nes ?_ | with_reducible refine dc_abs ?_ | with_reducible refine dc_min ?_ | with_reducible refine dc_max ?_ | with_reducible refine dc_lenL ?_ | with_reducible refine dc_lenT ?_ | with_reducible refine dc_lenR ?_ | with_reducible refine dc_listT ?_ | with_reducible refine dc_listL ?_ | with_reducible refine dc_tupL ?_ | with_reducible refine dc_gcd ?_
  | ((with_reducible show DO _ (rIxT _) _ _ _); refine do_ixT rfl ?_) | ((with_reducible show DO _ (rIxL _) _ _ _); refine do_ixL rfl ?_) | ((with_reducible refine do_catL ?_ ?_); exact Nat.le_of_ble_eq_true rfl) | with_reducible refine do_catL ?_ ?_ | ((with_reducible show And (List.length _ ≤ sizeLine) _); refine ⟨Nat.le_of_ble_eq_true rfl, ?_⟩)
  | with_reducible refine wd_dnew ?_ | with_reducible refine wd_call0 ?_ | with_reducible refine wd_slA ?_ | with_reducible refine wd_slL ?_ | with_reducible refine wd_revT ?_ | with_reducible refine do_catA ?_ ?_ | with_reducible refine wo_part ?_ | with_reducible refine wo_none ?_ | with_reducible refine do_eqQ ?_ | with_reducible refine do_neQ ?_ | with_reducible refine wi_enumT ?_ | with_reducible refine wi_enumD ?_ | with_reducible refine tAdQ (by omega) (by omega) ?_ | with_reducible refine tSbQ (by omega) (by omega) ?_ | with_reducible refine tMlQ (by omega) (by omega) ?_ | with_reducible refine tDvQ (by assumption) (by omega) (by omega) ?_ | with_reducible refine tLtQ (by omega) (by omega) ?_ | with_reducible refine dc_str ?_ ?_ | with_reducible refine wd_tup ?_ | with_reducible refine wd_lst ?_ | with_reducible refine wt_test ?_ | with_reducible refine wt_B ?_ | with_reducible refine wt_not ?_ | with_reducible refine wt_and ?_ | with_reducible refine wt_or ?_ | with_reducible refine wd_ifE ?_ | with_reducible refine wd_andV ?_ | with_reducible refine wd_orV ?_ | with_reducible refine wd_notV ?_
  | with_reducible refine ws_seq ?_ | with_reducible refine ws_next ?_ | with_reducible refine ws_asg ?_ | with_reducible refine ws_ret ?_ | with_reducible refine ws_retN ?_ | with_reducible refine ws_if ?_ | with_reducible refine ws_par ?_ | with_reducible refine ws_unp2 ?_
  | with_reducible refine if_t ?_ | with_reducible refine if_f ?_ | with_reducible refine if_nf ?_ | with_reducible refine if_nt ?_
  | ((with_reducible show Exists _); first | refine ⟨_, kitInt _, ?_⟩ | refine ⟨_, kitBool _, ?_⟩ | refine ⟨_, kitTup _, ?_⟩ | refine ⟨_, kitList _, ?_⟩ | refine ⟨_, rfl, ?_⟩ | refine ⟨_, _, rfl, ?_⟩ | fail) | fail))
/-- a kept error as a store -/
def mkErrD (a D : Addr) (d : Option Addr) (G : Hp) : Stt where
  a := a
  fp b := decide (b = a) || decide (some b = d)
  ok H _ := KeptE H a D d ∧ ∀ b, (decide (b = a) || decide (some b = d)) = true → H b = G b
  loc H H' B h k := ⟨⟨(h a (by simp)).trans k.1.1, fun dd e => by
    obtain ⟨fs, hf⟩ := k.1.2 dd e
    exact ⟨fs, (h dd (by rw [e]; simp)).trans hf⟩⟩, fun b hb => (h b hb).trans (k.2 b hb)⟩
  trk H B k b hb := by
    rw [Bool.or_eq_true, decide_eq_true_iff, decide_eq_true_iff] at hb
    rcases hb with e | e
    · rw [e, k.1.1]; simp
    · obtain ⟨fs, hf⟩ := k.1.2 b e.symm
      rw [hf]; simp
def t_word16 (K : PySem.W.Frag) (A_PayError A_NoAmount A_NoDays A_NoDeed A_NoFold A_NoLeave A_NoLine A_NoPot A_NoRule A_NoStretch A_NoTable A_NoTelling A_NoText A_NoPart A_NoName A_NoNumber A_TooLong A_NoCut : Addr) : TS :=
  (tSeq (tAsg (tLst (tCons (tCB (rIsiD K) (tCons (tVar 0) (tCons (tC (.ref A_NoAmount)) tNil))) (tCons (tCB (rIsiD K) (tCons (tVar 0) (tCons (tC (.ref A_NoDays)) tNil))) (tCons (tCB (rIsiD K) (tCons (tVar 0) (tCons (tC (.ref A_NoDeed)) tNil))) tNil)))) (gName 1))
    (tSeq (tAsg (tOp rCatL (tVar 1) (tLst (tCons (tCB (rIsiD K) (tCons (tVar 0) (tCons (tC (.ref A_NoFold)) tNil))) (tCons (tCB (rIsiD K) (tCons (tVar 0) (tCons (tC (.ref A_NoLeave)) tNil))) (tCons (tCB (rIsiD K) (tCons (tVar 0) (tCons (tC (.ref A_NoLine)) tNil))) tNil))))) (gName 1))
    (tSeq (tAsg (tOp rCatL (tVar 1) (tLst (tCons (tCB (rIsiD K) (tCons (tVar 0) (tCons (tC (.ref A_NoPot)) tNil))) (tCons (tCB (rIsiD K) (tCons (tVar 0) (tCons (tC (.ref A_NoRule)) tNil))) (tCons (tCB (rIsiD K) (tCons (tVar 0) (tCons (tC (.ref A_NoStretch)) tNil))) tNil))))) (gName 1))
    (tSeq (tAsg (tOp rCatL (tVar 1) (tLst (tCons (tCB (rIsiD K) (tCons (tVar 0) (tCons (tC (.ref A_NoTable)) tNil))) (tCons (tCB (rIsiD K) (tCons (tVar 0) (tCons (tC (.ref A_NoTelling)) tNil))) (tCons (tCB (rIsiD K) (tCons (tVar 0) (tCons (tC (.ref A_NoText)) tNil))) tNil))))) (gName 1))
    (tSeq (tAsg (tOp rCatL (tVar 1) (tLst (tCons (tCB (rIsiD K) (tCons (tVar 0) (tCons (tC (.ref A_NoPart)) tNil))) (tCons (tCB (rIsiD K) (tCons (tVar 0) (tCons (tC (.ref A_NoName)) tNil))) (tCons (tCB (rIsiD K) (tCons (tVar 0) (tCons (tC (.ref A_NoNumber)) tNil))) tNil))))) (gName 1))
    (tSeq (tAsg (tOp rCatL (tVar 1) (tLst (tCons (tCB (rIsiD K) (tCons (tVar 0) (tCons (tC (.ref A_TooLong)) tNil))) (tCons (tCB (rIsiD K) (tCons (tVar 0) (tCons (tC (.ref A_NoCut)) tNil))) tNil)))) (gName 1))
    (tSeq (tAsg (tLst (tCons (tC (.str "amount")) (tCons (tC (.str "days")) (tCons (tC (.str "deed")) (tCons (tC (.str "fold")) (tCons (tC (.str "leave")) (tCons (tC (.str "line")) (tCons (tC (.str "pot")) (tCons (tC (.str "rule")) (tCons (tC (.str "stretch")) (tCons (tC (.str "table")) (tCons (tC (.str "telling")) tNil)))))))))))) (gName 2))
    (tSeq (tAsg (tOp rCatL (tVar 2) (tLst (tCons (tC (.str "text")) (tCons (tC (.str "part")) (tCons (tC (.str "name")) (tCons (tC (.str "number")) (tCons (tC (.str "long")) (tCons (tC (.str "cut")) tNil)))))))) (gName 2))
    (tSeq (tIfS (tOr (tTest (tOp rNe (tBM K "list" (rCntF K) (tVar 1) (tCons (tC (.bl true)) tNil)) (tC (.int 1)))) (tTest (tOp rNe (tCB (rIsiD K) (tCons (tVar 0) (tCons (tC (.ref A_PayError)) tNil))) (tOp rLt (tBM K "list" (rIndex K) (tVar 1) (tCons (tC (.bl true)) tNil)) (tC (.int 12)))))) (tRet (tC (.str "odd"))) tNext)
    (tRet (tOp (rIxL K) (tVar 2) (tBM K "list" (rIndex K) (tVar 1) (tCons (tC (.bl true)) tNil)))))))))))))
def spWD (P : Addr → Str → Prop) : Sp := fun vs H Q _ => ∃ (a C : Addr) (d : Option Addr) (w : Str), vs = [.ref a] ∧ P C w ∧ KeptE H a C d ∧ ∀ H', Same H H' → Q (.str w) H'
def P16 (Cs Cn : Addr) : Addr → Str → Prop := fun C w => (C = Cs ∧ w = "stretch") ∨ (C = Cn ∧ w = "number")
end DL

set_option Elab.async false
set_option linter.all false
set_option maxRecDepth 100000
set_option maxHeartbeats 4000000
/-! DJ5: stretches and numbers refused -/
namespace DL
open PySem PySem.Spec PyProof.Rows L2
local macro_rules | `(tactic| walk_at "dl") => `(tactic| repeat' (first
  | with_reducible refine wd_isTy ?_ | with_reducible refine wd_isi ?_ | ((with_reducible show WD _ _ (tOp (rIxL _) (tVar _) _) _ _); refine wd_ix_own rfl ?_) | with_reducible refine wd_op ?_ | ((with_reducible show WD _ _ (tCB (rLenX _) (tCons (tVar _) tNil)) _ _); refine wd_len_scr rfl ?_) | ((with_reducible show WD _ _ (tCB (rLenX _) (tCons (tVar _) tNil)) _ _); refine wd_len_own rfl ?_) | with_reducible refine wd_cb ?_ | with_reducible refine wd_un ?_ | with_reducible refine wa_cons ?_ | with_reducible refine wa_nil ?_ | ((with_reducible show WD _ _ (tVar _) _ _); refine wd_var rfl ?_) | with_reducible refine wd_int ?_ | with_reducible refine wd_bl ?_ | with_reducible refine wd_str ?_ | with_reducible refine wd_non ?_
  | with_reducible refine do_nesS ?_ | with_reducible refine dc_intB ?_ | with_reducible refine do_add ?_ | with_reducible refine do_sub ?_ | ((with_reducible refine do_mod ?_ ?_); decide) | with_reducible refine do_mod ?_ ?_ | with_reducible refine do_mul ?_ ?_ | ((with_reducible refine do_div ?_ ?_); exact ⟨by decide, by decide⟩) | with_reducible refine do_div ?_ ?_ | ((with_reducible refine do_pow ?_ ?_); exact ⟨by decide, by decide, by decide⟩) | with_reducible refine do_pow ?_ ?_
  | with_reducible refine do_lt ?_ | with_reducible refine do_le ?_ | with_reducible refine do_gt ?_ | with_reducible refine do_ge ?_ | with_reducible refine du_neg ?_
  | with_reducible refine do_eqi ?_ | with_reducible refine do_nei ?_ | with_reducible refine do_eqs ?_ | with_reducible refine do_nes ?_ | with_reducible refine dc_abs ?_ | with_reducible refine dc_min ?_ | with_reducible refine dc_max ?_ | with_reducible refine dc_lenL ?_ | with_reducible refine dc_lenT ?_ | with_reducible refine dc_lenR ?_ | with_reducible refine dc_listT ?_ | with_reducible refine dc_listL ?_ | with_reducible refine dc_tupL ?_ | with_reducible refine dc_gcd ?_
  | ((with_reducible show DO _ (rIxT _) _ _ _); refine do_ixT rfl ?_) | ((with_reducible show DO _ (rIxL _) _ _ _); refine do_ixL rfl ?_) | ((with_reducible refine do_catL ?_ ?_); exact Nat.le_of_ble_eq_true rfl) | with_reducible refine do_catL ?_ ?_ | ((with_reducible show And (List.length _ ≤ sizeLine) _); refine ⟨Nat.le_of_ble_eq_true rfl, ?_⟩)
  | with_reducible refine wd_dnew ?_ | with_reducible refine wd_call0 ?_ | with_reducible refine wd_slA ?_ | with_reducible refine wd_slL ?_ | with_reducible refine wd_revT ?_ | with_reducible refine do_catA ?_ ?_ | with_reducible refine wo_part ?_ | with_reducible refine wo_none ?_ | with_reducible refine do_eqQ ?_ | with_reducible refine do_neQ ?_ | with_reducible refine wi_enumT ?_ | with_reducible refine wi_enumD ?_ | with_reducible refine tAdQ (by omega) (by omega) ?_ | with_reducible refine tSbQ (by omega) (by omega) ?_ | with_reducible refine tMlQ (by omega) (by omega) ?_ | with_reducible refine tDvQ (by assumption) (by omega) (by omega) ?_ | with_reducible refine tLtQ (by omega) (by omega) ?_ | with_reducible refine dc_str ?_ ?_ | with_reducible refine wd_tup ?_ | with_reducible refine wd_lst ?_ | with_reducible refine wt_test ?_ | with_reducible refine wt_B ?_ | with_reducible refine wt_not ?_ | with_reducible refine wt_and ?_ | with_reducible refine wt_or ?_ | with_reducible refine wd_ifE ?_ | with_reducible refine wd_andV ?_ | with_reducible refine wd_orV ?_ | with_reducible refine wd_notV ?_
  | with_reducible refine ws_seq ?_ | with_reducible refine ws_next ?_ | with_reducible refine ws_asg ?_ | with_reducible refine ws_ret ?_ | with_reducible refine ws_retN ?_ | with_reducible refine ws_if ?_ | with_reducible refine ws_par ?_ | with_reducible refine ws_unp2 ?_
  | with_reducible refine if_t ?_ | with_reducible refine if_f ?_ | with_reducible refine if_nf ?_ | with_reducible refine if_nt ?_
  | ((with_reducible show Exists _); first | refine ⟨_, kitInt _, ?_⟩ | refine ⟨_, kitBool _, ?_⟩ | refine ⟨_, kitTup _, ?_⟩ | refine ⟨_, kitList _, ?_⟩ | refine ⟨_, rfl, ?_⟩ | refine ⟨_, _, rfl, ?_⟩ | fail) | fail))
def TCntX (C : Addr) : List PyData → (PyData → Prop) → (Addr → Prop) → Prop := fun ds _ Ψ => ∃ (x : PyData) (a b : Int), ds = [x, .int a, .int b] ∧ b < a ∧ Ψ C
def t_cntX (K : PySem.W.Frag) (C : Addr) (E : XK) : TS := tSeq (tIfS (tTest (tOp rLt (tVar 2) (tVar 1))) (fun _ σ H => E (.ref C) none H) tNext) tNo
def spNX (Cn : Addr) : Sp := fun vs H _ E => ∃ (v0 v1 : V) (k : Int), vs = [v0, v1, .int k] ∧ k < 0 ∧ ∀ d H1, H d = none → Same H H1 → H1 d = some (.xd [("number", .int k)]) → E (.ref Cn) (some d) H1
def rsN (C : Addr) (E : XK) : TS := fun _ σ H => tMkE C (spIn C "number") (tCons (tVar 2) tNil) σ H fun cls d H1 => E cls d H1
def t_nthX (C : Addr) (E : XK) : TS := tSeq (tIfS (tTest (tOp rLt (tVar 2) (tC (.int 0)))) (rsN C E) tNext) tNo
/-! ### caught -/
structure R16 (K : PySem.W.Frag) (Cs Cn P : Addr) : Prop where
  e1 : PySem.W.exmOne K (.ref Cs) (.ref P) = some true
  e2 : ∃ b, PySem.W.exmOne K (.ref Cs) (.ref Cn) = some b
  e3 : ∃ b, PySem.W.exmOne K (.ref Cn) (.ref P) = some b
  e4 : PySem.W.exmOne K (.ref Cn) (.ref Cn) = some true
  iv : PySem.W.kitOne K (.ref Cn) (.type "IndexError") = some true
  xf : XfC K Cn
  fn : PySem.W.findIn K (.ref Cn) "number" = some none
  xc : ExcC K Cn
def TRef16 : List PyData → (PyData → Prop) → Prop := fun ds Φ => ∃ (x : PyData) (w a b : Int), ds = [x, .int w, .int a, .int b] ∧ ((w = 0 ∧ b < a) ∨ (w = 1 ∧ b < 0)) ∧ b.natAbs < 2 ^ 63 ∧ Φ (.bool true)
def tb_ref16 (K : PySem.W.Frag) (Cs Cn : Addr) (W : WX) : TS := tIfS (tTest (tOp rEq (tVar 1) (tC (.int 0)))) (tDrop (tCallS (spX K (TCntX Cs)) (WE W) (tCons (tVar 0) (tCons (tVar 2) (tCons (tVar 3) tNil))))) (tDrop (tCallNSk 2 1 (spNX Cn) gVapp (WE W) (tCons (tVar 0) (tCons (tVar 2) tNil)) (tCons (tVar 3) tNil)))
def ts_ref16 (a : Addr) : TS := tAsg (tVar 5) (gName 4)
def t_rest16 (K : PySem.W.Frag) (Cs Cn : Addr) : TS :=
  (tSeq (tIfS (tOr (tTest (tOp rIsNone (tVar 4) (tC .non))) (tTest (tOp rNe (tCall (spWD (P16 Cs Cn)) [] E0 (tCons (tVar 4) tNil)) (tOp (rIxL K) (tLst (tCons (tC (.str "stretch")) (tCons (tC (.str "number")) tNil))) (tVar 1))))) (tRet (tC (.bl false))) tNext)
    (tRet (tOrV (tOp rEq (tVar 1) (tC (.int 0))) (tAndV (tOp rEq (tCB (rReprY K) (tCons (tEf K "number" (tVar 4)) tNil)) (tCB (rReprY K) (tCons (tVar 3) tNil))) (tCB (rIsiD K) (tCons (tVar 4) (tCons (tC (.ty "IndexError")) tNil)))))))
def t_ref16 (K : PySem.W.Frag) (Cs Cn P : Addr) : TS :=
  (tSeq (tAsg (tC .non) (gName 4))
    (tSeq (fun D σ H => tb_ref16 K Cs Cn (wKeepT K [.ref P, .ref Cn] 5 ts_ref16 D) D σ H)
    (t_rest16 K Cs Cn)))
section
variable {K : PySem.W.Frag} {y C : Addr} {d : Option Addr} {G : Hp} {ρ : Rho} {Φ : PyData → Rho → Prop}
end
end DL

set_option Elab.async false
set_option linter.all false
set_option maxRecDepth 100000
set_option maxHeartbeats 4000000
/-! DJ6: days asked about, stretches; law k16 -/
namespace DL
open PySem PySem.Spec PyProof.Rows L2
local macro_rules | `(tactic| walk_at "dl") => `(tactic| repeat' (first
  | with_reducible refine wd_isTy ?_ | with_reducible refine wd_isi ?_ | ((with_reducible show WD _ _ (tOp (rIxL _) (tVar _) _) _ _); refine wd_ix_own rfl ?_) | with_reducible refine wd_op ?_ | ((with_reducible show WD _ _ (tCB (rLenX _) (tCons (tVar _) tNil)) _ _); refine wd_len_scr rfl ?_) | ((with_reducible show WD _ _ (tCB (rLenX _) (tCons (tVar _) tNil)) _ _); refine wd_len_own rfl ?_) | with_reducible refine wd_cb ?_ | with_reducible refine wd_un ?_ | with_reducible refine wa_cons ?_ | with_reducible refine wa_nil ?_ | ((with_reducible show WD _ _ (tVar _) _ _); refine wd_var rfl ?_) | with_reducible refine wd_int ?_ | with_reducible refine wd_bl ?_ | with_reducible refine wd_str ?_ | with_reducible refine wd_non ?_
  | with_reducible refine do_nesS ?_ | with_reducible refine dc_intB ?_ | with_reducible refine do_add ?_ | with_reducible refine do_sub ?_ | ((with_reducible refine do_mod ?_ ?_); decide) | with_reducible refine do_mod ?_ ?_ | with_reducible refine do_mul ?_ ?_ | ((with_reducible refine do_div ?_ ?_); exact ⟨by decide, by decide⟩) | with_reducible refine do_div ?_ ?_ | ((with_reducible refine do_pow ?_ ?_); exact ⟨by decide, by decide, by decide⟩) | with_reducible refine do_pow ?_ ?_
  | with_reducible refine do_lt ?_ | with_reducible refine do_le ?_ | with_reducible refine do_gt ?_ | with_reducible refine do_ge ?_ | with_reducible refine du_neg ?_
  | with_reducible refine do_eqi ?_ | with_reducible refine do_nei ?_ | with_reducible refine do_eqs ?_ | with_reducible refine do_nes ?_ | with_reducible refine dc_abs ?_ | with_reducible refine dc_min ?_ | with_reducible refine dc_max ?_ | with_reducible refine dc_lenL ?_ | with_reducible refine dc_lenT ?_ | with_reducible refine dc_lenR ?_ | with_reducible refine dc_listT ?_ | with_reducible refine dc_listL ?_ | with_reducible refine dc_tupL ?_ | with_reducible refine dc_gcd ?_
  | ((with_reducible show DO _ (rIxT _) _ _ _); refine do_ixT rfl ?_) | ((with_reducible show DO _ (rIxL _) _ _ _); refine do_ixL rfl ?_) | ((with_reducible refine do_catL ?_ ?_); exact Nat.le_of_ble_eq_true rfl) | with_reducible refine do_catL ?_ ?_ | ((with_reducible show And (List.length _ ≤ sizeLine) _); refine ⟨Nat.le_of_ble_eq_true rfl, ?_⟩)
  | with_reducible refine wd_dnew ?_ | with_reducible refine wd_call0 ?_ | with_reducible refine wd_slA ?_ | with_reducible refine wd_slL ?_ | with_reducible refine wd_revT ?_ | with_reducible refine do_catA ?_ ?_ | with_reducible refine wo_part ?_ | with_reducible refine wo_none ?_ | with_reducible refine do_eqQ ?_ | with_reducible refine do_neQ ?_ | with_reducible refine wi_enumT ?_ | with_reducible refine wi_enumD ?_ | with_reducible refine tAdQ (by omega) (by omega) ?_ | with_reducible refine tSbQ (by omega) (by omega) ?_ | with_reducible refine tMlQ (by omega) (by omega) ?_ | with_reducible refine tDvQ (by assumption) (by omega) (by omega) ?_ | with_reducible refine tLtQ (by omega) (by omega) ?_ | with_reducible refine dc_str ?_ ?_ | with_reducible refine wd_tup ?_ | with_reducible refine wd_lst ?_ | with_reducible refine wt_test ?_ | with_reducible refine wt_B ?_ | with_reducible refine wt_not ?_ | with_reducible refine wt_and ?_ | with_reducible refine wt_or ?_ | with_reducible refine wd_ifE ?_ | with_reducible refine wd_andV ?_ | with_reducible refine wd_orV ?_ | with_reducible refine wd_notV ?_
  | with_reducible refine ws_seq ?_ | with_reducible refine ws_next ?_ | with_reducible refine ws_asg ?_ | with_reducible refine ws_ret ?_ | with_reducible refine ws_retN ?_ | with_reducible refine ws_if ?_ | with_reducible refine ws_par ?_ | with_reducible refine ws_unp2 ?_
  | with_reducible refine if_t ?_ | with_reducible refine if_f ?_ | with_reducible refine if_nf ?_ | with_reducible refine if_nt ?_
  | ((with_reducible show Exists _); first | refine ⟨_, kitInt _, ?_⟩ | refine ⟨_, kitBool _, ?_⟩ | refine ⟨_, kitTup _, ?_⟩ | refine ⟨_, kitList _, ?_⟩ | refine ⟨_, rfl, ?_⟩ | refine ⟨_, _, rfl, ?_⟩ | fail) | fail))
def TAboutB : Nat → List PyData → (PyData → Nat → Prop) → Prop := fun B ds Φ => ∃ bs ts : List Int, ds = [.tuple [.list (bs.map PyData.int), .list (ts.map PyData.int)]] ∧ ts.length ≤ 60 ∧ B + 100 ≤ 2 ^ 40 ∧ ∀ (as : List Int) (B' : Nat), as.length ≤ 20 → 3 ≤ as.length → (∀ x ∈ as, x.natAbs ≤ 1000000000000000000) → B' ≤ B + 20 → Φ (.list (as.map PyData.int)) B'
def prI (x : Int × Int) : PyData := .tuple [.int x.1, .int x.2]
def TStr : Nat → List PyData → (PyData → Nat → Prop) → Prop := fun B ds Φ => ∃ as : List Int, ds = [.list (as.map PyData.int)] ∧ as.length ≤ 20 ∧ 3 ≤ as.length ∧ (∀ x ∈ as, x.natAbs ≤ 1000000000000000000) ∧ B + 100 ≤ 2 ^ 40 ∧ ∀ (xs : List (Int × Int)) (B' : Nat), xs.length ≤ 30 → (∀ x ∈ xs, x.1.natAbs ≤ 2000000000000000000 ∧ x.2.natAbs ≤ 2000000000000000000) → B' ≤ B + 30 → Φ (.list (xs.map prI)) B'
def t_str (K : PySem.W.Frag) : TS :=
  (tSeq (tAsg (tLc (iList K (tVar 1)) (gName 4) tYes (tTup (tCons (tVar 4) (tCons (tOp rAddI (tVar 4) (tCall (spS K FPot TTake) [] E0 (tCons (tVar 0) (tCons (tC (.int 30)) tNil)))) tNil))) [4]) (gName 2))
    (tSeq (tAsg (tOp rAddI (tOp rPowI (tC (.int 10)) (tC (.int 12))) (tCall (spS K FPot TTake) [] E0 (tCons (tVar 0) (tCons (tOp rPowI (tC (.int 10)) (tC (.int 6))) tNil)))) (gName 3))
    (tSeq (tAsg (tOp rCatL (tVar 2) (tLst (tCons (tTup (tCons (tOp (rIxL K) (tVar 1) (tC (.int 0))) (tCons (tOp (rIxL K) (tVar 1) (tC (.int 0))) tNil))) (tCons (tTup (tCons (tOp (rIxL K) (tVar 1) (tC (.int 1))) (tCons (tOp rAddI (tOp (rIxL K) (tVar 1) (tC (.int 1))) (tVar 3)) tNil))) tNil)))) (gName 2))
    (tRet (tOp rCatL (tVar 2) (tLst (tCons (tTup (tCons (tUn rNegI (tOp rPowI (tC (.int 10)) (tC (.int 18)))) (tCons (tOp rPowI (tC (.int 10)) (tC (.int 18))) tNil))) (tCons (tTup (tCons (tOp rSubI (tOp (rIxL K) (tVar 1) (tUn rNegI (tC (.int 1)))) (tVar 3)) (tCons (tOp (rIxL K) (tVar 1) (tC (.int 2))) tNil))) tNil))))))))
section
variable {K : PySem.W.Frag} {S : Stt} {B : Nat} {ds : List PyData} {Φ : PyData → Nat → Prop}
end
end DL

set_option Elab.async false
set_option linter.all false
set_option maxRecDepth 100000
set_option maxHeartbeats 4000000
/-! DJ7: law k16 -/
namespace DL
open PySem PySem.Spec PyProof.Rows L2
local macro_rules | `(tactic| walk_at "dl") => `(tactic| repeat' (first
  | with_reducible refine wd_isTy ?_ | with_reducible refine wd_isi ?_ | ((with_reducible show WD _ _ (tOp (rIxL _) (tVar _) _) _ _); refine wd_ix_own rfl ?_) | with_reducible refine wd_op ?_ | ((with_reducible show WD _ _ (tCB (rLenX _) (tCons (tVar _) tNil)) _ _); refine wd_len_scr rfl ?_) | ((with_reducible show WD _ _ (tCB (rLenX _) (tCons (tVar _) tNil)) _ _); refine wd_len_own rfl ?_) | with_reducible refine wd_cb ?_ | with_reducible refine wd_un ?_ | with_reducible refine wa_cons ?_ | with_reducible refine wa_nil ?_ | ((with_reducible show WD _ _ (tVar _) _ _); refine wd_var rfl ?_) | with_reducible refine wd_int ?_ | with_reducible refine wd_bl ?_ | with_reducible refine wd_str ?_ | with_reducible refine wd_non ?_
  | with_reducible refine do_nesS ?_ | with_reducible refine dc_intB ?_ | with_reducible refine do_add ?_ | with_reducible refine do_sub ?_ | ((with_reducible refine do_mod ?_ ?_); decide) | with_reducible refine do_mod ?_ ?_ | with_reducible refine do_mul ?_ ?_ | ((with_reducible refine do_div ?_ ?_); exact ⟨by decide, by decide⟩) | with_reducible refine do_div ?_ ?_ | ((with_reducible refine do_pow ?_ ?_); exact ⟨by decide, by decide, by decide⟩) | with_reducible refine do_pow ?_ ?_
  | with_reducible refine do_lt ?_ | with_reducible refine do_le ?_ | with_reducible refine do_gt ?_ | with_reducible refine do_ge ?_ | with_reducible refine du_neg ?_
  | with_reducible refine do_eqi ?_ | with_reducible refine do_nei ?_ | with_reducible refine do_eqs ?_ | with_reducible refine do_nes ?_ | with_reducible refine dc_abs ?_ | with_reducible refine dc_min ?_ | with_reducible refine dc_max ?_ | with_reducible refine dc_lenL ?_ | with_reducible refine dc_lenT ?_ | with_reducible refine dc_lenR ?_ | with_reducible refine dc_listT ?_ | with_reducible refine dc_listL ?_ | with_reducible refine dc_tupL ?_ | with_reducible refine dc_gcd ?_
  | ((with_reducible show DO _ (rIxT _) _ _ _); refine do_ixT rfl ?_) | ((with_reducible show DO _ (rIxL _) _ _ _); refine do_ixL rfl ?_) | ((with_reducible refine do_catL ?_ ?_); exact Nat.le_of_ble_eq_true rfl) | with_reducible refine do_catL ?_ ?_ | ((with_reducible show And (List.length _ ≤ sizeLine) _); refine ⟨Nat.le_of_ble_eq_true rfl, ?_⟩)
  | with_reducible refine wd_dnew ?_ | with_reducible refine wd_call0 ?_ | with_reducible refine wd_slA ?_ | with_reducible refine wd_slL ?_ | with_reducible refine wd_revT ?_ | with_reducible refine do_catA ?_ ?_ | with_reducible refine wo_part ?_ | with_reducible refine wo_none ?_ | with_reducible refine do_eqQ ?_ | with_reducible refine do_neQ ?_ | with_reducible refine wi_enumT ?_ | with_reducible refine wi_enumD ?_ | with_reducible refine tAdQ (by omega) (by omega) ?_ | with_reducible refine tSbQ (by omega) (by omega) ?_ | with_reducible refine tMlQ (by omega) (by omega) ?_ | with_reducible refine tDvQ (by assumption) (by omega) (by omega) ?_ | with_reducible refine tLtQ (by omega) (by omega) ?_ | with_reducible refine dc_str ?_ ?_ | with_reducible refine wd_tup ?_ | with_reducible refine wd_lst ?_ | with_reducible refine wt_test ?_ | with_reducible refine wt_B ?_ | with_reducible refine wt_not ?_ | with_reducible refine wt_and ?_ | with_reducible refine wt_or ?_ | with_reducible refine wd_ifE ?_ | with_reducible refine wd_andV ?_ | with_reducible refine wd_orV ?_ | with_reducible refine wd_notV ?_
  | with_reducible refine ws_seq ?_ | with_reducible refine ws_next ?_ | with_reducible refine ws_asg ?_ | with_reducible refine ws_ret ?_ | with_reducible refine ws_retN ?_ | with_reducible refine ws_if ?_ | with_reducible refine ws_par ?_ | with_reducible refine ws_unp2 ?_
  | with_reducible refine if_t ?_ | with_reducible refine if_f ?_ | with_reducible refine if_nf ?_ | with_reducible refine if_nt ?_
  | ((with_reducible show Exists _); first | refine ⟨_, kitInt _, ?_⟩ | refine ⟨_, kitBool _, ?_⟩ | refine ⟨_, kitTup _, ?_⟩ | refine ⟨_, kitList _, ?_⟩ | refine ⟨_, rfl, ?_⟩ | refine ⟨_, _, rfl, ?_⟩ | fail) | fail))
def t_law16 (K : PySem.W.Frag) (Cd Cs Cn : Addr) : TS :=
  (tSeq (tFor (iRng1 (tCons (tCB rMaxX (tCons (tC (.int 2)) (tCons (tCB rMinX (tCons (tC (.int 10)) (tCons (tCB (rLenX K) (tCons (tVar 0) tNil)) tNil))) tNil))) tNil)) (gName 1) (tSeq (tAsg (tCall (spReel K) [] E0 (tCons (tVar 0) (tCons (tVar 1) tNil))) (gName 2))
    (tSeq (tAsg (tCall (spS K FPot TGiven) [] E0 (tCons (tVar 2) tNil)) (gName 3))
    (tSeq (tAsg (tCall (spP K (TPut13 Cd)) [] E0 (tCons (tVar 3) tNil)) (gName 4))
    (tSeq (tAsg (tCall (spS K FPot TAboutB) [] E0 (tCons (tVar 2) (tCons (tVar 3) tNil))) (gName 5))
    (tSeq (tFor (iList K (tCall (spS K FPot TStr) [] E0 (tCons (tVar 2) (tCons (tVar 5) tNil)))) (gTup K 2 (gCons (gName 6) (gCons (gName 7) gNil))) (tIfS (tTest (tOp rGe (tVar 7) (tVar 6))) (tIfS (tTest (tOp rNe (tCB (rReprY K) (tCons (tCall (spP K (TCnt Cd)) [] E0 (tCons (tVar 4) (tCons (tVar 6) (tCons (tVar 7) tNil)))) tNil)) (tCB (rReprY K) (tCons (tCall (spP K TManyL) [] E0 (tCons (tVar 3) (tCons (tVar 6) (tCons (tVar 7) tNil)))) tNil)))) (tRet (tC (.bl false))) tNext) (tIfS (tNot (tB (tCall (spP K TRef16) [] E0 (tCons (tVar 4) (tCons (tC (.int 0)) (tCons (tVar 6) (tCons (tVar 7) tNil))))))) (tRet (tC (.bl false))) tNext)))
    (tSeq (tFor (iList K (tSl (rSlL K) (tVar 5) tNoPart (tPart (tC (.int 8))))) (gName 8) (tSeq (tIfS (tNot (tB (tCall (spP K TRef16) [] E0 (tCons (tVar 4) (tCons (tC (.int 0)) (tCons (tVar 8) (tCons (tOp rSubI (tOp rSubI (tVar 8) (tC (.int 1))) (tCall (spS K FPot TTake) [] E0 (tCons (tVar 2) (tCons (tC (.int 9)) tNil)))) tNil))))))) (tRet (tC (.bl false))) tNext)
    (tSeq (tAsg (tOp (rIxL K) (tLst (tCons (tCall (spS K FPot TTake) [] E0 (tCons (tVar 2) (tCons (tC (.int 5)) tNil))) (tCons (tCall (spS K FPot TTake) [] E0 (tCons (tVar 2) (tCons (tC (.int 90)) tNil))) (tCons (tOp rAddI (tOp rPowI (tC (.int 10)) (tC (.int 12))) (tCall (spS K FPot TTake) [] E0 (tCons (tVar 2) (tCons (tOp rPowI (tC (.int 10)) (tC (.int 6))) tNil)))) tNil)))) (tCall (spS K FPot TTake) [] E0 (tCons (tVar 2) (tCons (tC (.int 3)) tNil)))) (gName 9))
    (tSeq (tIfS (tNot (tB (tCall (spP K (TNthR Cd)) [] E0 (tCons (tVar 3) (tCons (tVar 4) (tCons (tVar 8) (tCons (tVar 9) tNil))))))) (tRet (tC (.bl false))) tNext)
    (tSeq (tIfS (tTest (tOp (rNeD K) (tCall (spP K (TNth Cd)) [.int 0] E0 (tCons (tVar 4) (tCons (tVar 8) tNil))) (tCallN 0 3 (spP K (TNth Cd)) gVrev3 E0 tNil (tCons (tC (.int 0)) (tCons (tVar 8) (tCons (tVar 4) tNil)))))) (tRet (tC (.bl false))) tNext)
    (tIfS (tTest (tOp rNe (tCallN 0 3 (spP K (TCnt Cd)) gVrev3 E0 tNil (tCons (tVar 8) (tCons (tOp rSubI (tVar 8) (tC (.int 9))) (tCons (tVar 4) tNil)))) (tCall (spP K TManyL) [] E0 (tCons (tVar 3) (tCons (tOp rSubI (tVar 8) (tC (.int 9))) (tCons (tVar 8) tNil)))))) (tRet (tC (.bl false))) tNext))))))
    (tIfS (tNot (tB (tCall (spP K TRef16) [] E0 (tCons (tVar 4) (tCons (tC (.int 1)) (tCons (tOp (rIxL K) (tVar 5) (tC (.int 0))) (tCons (tOp rSubI (tUn rNegI (tC (.int 1))) (tCall (spS K FPot TTake) [] E0 (tCons (tVar 2) (tCons (tC (.int 99)) tNil)))) tNil))))))) (tRet (tC (.bl false))) tNext))))))))
    (tRet (tC (.bl true))))
section
variable {K : PySem.W.Frag}
end
end DL

set_option Elab.async false
set_option linter.all false
set_option maxRecDepth 100000
set_option maxHeartbeats 4000000
/-! DI17: classes and methods at the law's end -/
namespace DL
open PySem PySem.Spec PyProof.Rows L2
/-- C(e, ..), as known at the end -/
structure HasC (P : Program) (w : World) (K : PySem.W.Frag) (mg : Str → Option Value) (base : Heap) (CX : CXT) (x : Str) (C : Addr) (k : Nat) (ps : List Str) (sp : Sp) (dvs : List V) : Prop where
  ex : ∃ (f : Addr) (fd : FuncData) (ds : List Value) (j : Nat), k = j + 1 ∧ Mk K C f ∧ FnOk P w K mg base CX j f fd ps sp ∧ mg x = some (.ref C) ∧ Binds K fd ps ds ∧ Vals dvs ds
structure HasCK (P : Program) (w : World) (K : PySem.W.Frag) (mg : Str → Option Value) (base : Heap) (CX : CXT) (x : Str) (C : Addr) (k : Nat) (ps : List Str) (sp : Sp) (n : Nat) (ks : List Str) (gV : List V → List V → List V) : Prop where
  ex : ∃ (f : Addr) (fd : FuncData) (g : List Value → List Value → List Value) (j : Nat), k = j + 1 ∧ Mk K C f ∧ FnOk P w K mg base CX j f fd ps sp ∧ mg x = some (.ref C) ∧ KBn K fd ps (n + 1) ks g gV
structure HasM (P : Program) (w : World) (K : PySem.W.Frag) (mg : Str → Option Value) (base : Heap) (CX : CXT) (m : Str) (C : Addr) (k : Nat) (ps : List Str) (sp : Sp) : Prop where
  ex : ∃ (f : Addr) (fd : FuncData), L2.Cls K C ∧ Meth K C m f ∧ FnOk P w K mg base CX k f fd ps sp ∧ Binds K fd ps []
structure HasMK (P : Program) (w : World) (K : PySem.W.Frag) (mg : Str → Option Value) (base : Heap) (CX : CXT) (m : Str) (C : Addr) (k : Nat) (ps : List Str) (sp : Sp) (ks : List Str) (gV : List V → List V → List V) : Prop where
  ex : ∃ (f : Addr) (fd : FuncData) (g : List Value → List Value → List Value), L2.Cls K C ∧ Meth K C m f ∧ FnOk P w K mg base CX k f fd ps sp ∧ KBn K fd ps 1 ks g gV
section
variable {X : Cx} {CX : CXT} {k n : Nat} {C : Addr} {ps ks : List Str} {sp : Sp} {E : XK} {x m : Str} {p pos apos : Pos} {e o : Expr} {es : List Expr} {kws : List Keyword} {ta : TE} {t tk : TA} {dvs : List V} {gV : List V → List V → List V} {pl : Sem Bool}
theorem pe_hasC (h : HasC X.prog X.w X.K X.mg X.base CX x C k ps sp dvs) (hr : Room k X.A) (hx : Passes CX X E) (ha : PA X (e :: es) t) (hg : Gl X x := by rfl) (hdb : (x == ("__debug__" : Str)) = false := by decide)
    (he : starEach (e :: es) X.env = (false, eval e X.env) :: starEach es X.env := by rfl) (hpl : (backTo pos (starEach es X.env)).any (·.1) = false := by rfl) : PE X (.Call (.Name x p) (e :: es) [] pos) (tMake C sp dvs E t) := by
  obtain ⟨f, fd, ds, j, rfl, M, F, hm, hb, hd⟩ := h.ex
  exact pe_make M F hr hg hm hb hd hx ha hdb he hpl
theorem pe_hasCK (h : HasCK X.prog X.w X.K X.mg X.base CX x C k ps sp n ks gV) (hr : Room k X.A) (hx : Passes CX X E) (ha : PA X (e :: es) t) (hkw : PK X kws tk) (hg : Gl X x := by rfl) (hall : (backToKw pos (keywordEach kws X.env)).all (·.1.isSome) = true := by rfl)
    (hks : (backToKw pos (keywordEach kws X.env)).filterMap (·.1) = ks := by rfl) (hdb : (x == ("__debug__" : Str)) = false := by decide) (he : starEach (e :: es) X.env = (false, eval e X.env) :: starEach es X.env := by rfl)
    (hpl : ((backTo pos (starEach (e :: es) X.env)).any (·.1) || (backToKw pos (keywordEach kws X.env)).any (·.1.isNone)) = false := by rfl) : PE X (.Call (.Name x p) (e :: es) kws pos) (tMakeK C n ks.length sp gV E t tk) := by
  obtain ⟨f, fd, g, j, rfl, M, F, hm, hb⟩ := h.ex
  exact pe_makeK M F hr hg hm hb hx ha hkw hall hks hdb he hpl
theorem pe_hasM (h : HasM X.prog X.w X.K X.mg X.base CX m C k ps sp) (he : PE X o ta) (hr : Room k X.A) (hx : Passes CX X E) (ha : PA X (e :: es) t)
    (hst : starEach (e :: es) X.env = (false, eval e X.env) :: starEach es X.env := by rfl) (hpl : (backTo pos (starEach es X.env)).any (·.1) = false := by rfl)
    (ht : eval (.Call (.Attribute o m apos) (e :: es) [] pos) X.env = (do
      let ov ← eval o X.env
      standAt apos.atName
      let (f, first) ← holding [ov] (getMethod ov m pl)
      callWith pos f first (backTo pos (starEach (e :: es) X.env)) (backToKw pos (keywordEach [] X.env))) := by rfl) :
    PE X (.Call (.Attribute o m apos) (e :: es) [] pos) (tMeth C m sp [] E ta t) := by
  obtain ⟨f, fd, c, hm, F, hb⟩ := h.ex
  exact pe_meth he c hm F hr hb .nil hx ha hst hpl ht
end
/-! ### what the head tells of a class -/
theorem dyC_ok {K : PySem.W.Frag} {C : Addr} (h : dyCB K C = true) : OwnC K C := by
  obtain ⟨c1, h⟩ := He.ba h
  obtain ⟨c2, h⟩ := He.ba h
  obtain ⟨c3, h⟩ := He.ba h
  obtain ⟨c4, h⟩ := He.ba h
  obtain ⟨c5, h⟩ := He.ba h
  obtain ⟨c6, h⟩ := He.ba h
  obtain ⟨c7, h⟩ := He.ba h
  obtain ⟨c8, c9⟩ := He.ba h
  exact ⟨⟨c1, c2, c3, of_decide_eq_true c4⟩, of_decide_eq_true c5, of_decide_eq_true c6, of_decide_eq_true c7, of_decide_eq_true c8, fun T hT => of_decide_eq_true (List.all_eq_true.mp c9 T hT)⟩
theorem mk_ok {K : PySem.W.Frag} {C f : Addr} (h : mkB K C f = true) : Mk K C f := by
  obtain ⟨c1, h⟩ := He.ba h
  obtain ⟨c2, h⟩ := He.ba h
  obtain ⟨c3, c4⟩ := He.ba h
  exact ⟨c1, of_decide_eq_true c2, c3, c4⟩
theorem meth_ok {K : PySem.W.Frag} {C : Addr} {m : Str} {f : Addr} (h : methB K C m f = true) : Meth K C m f := by
  obtain ⟨c1, h⟩ := He.ba h
  obtain ⟨c2, c3⟩ := He.ba h
  exact ⟨of_decide_eq_true c1, c2, c3⟩
theorem noat_ok {K : PySem.W.Frag} {C : Addr} {fs : List Str} (h : noatB K C fs = true) (f : Str) (hf : f ∈ fs) : NoAttr K C f := (of_decide_eq_true (List.all_eq_true.mp h f hf) : PySem.W.findIn K (.ref C) f = some none)
theorem nilAt_ok {K : PySem.W.Frag} {a : Addr} (h : nilAtB K a = true) (H : Hp) : SqT K H a [] := by
  unfold nilAtB at h
  cases q : K.lookup a with
  | none =>
    rw [q] at h
    cases h
  | some o =>
    obtain ⟨oc, od, dt, osl⟩ := o
    rw [q] at h
    cases oc with
    | type c =>
      cases dt with
      | seq its n =>
        obtain ⟨h1, h2⟩ := He.ba (show (decide (c = "tuple") && decide (its.toList = [])) = true from h)
        have h3 := of_decide_eq_true h2
        refine .inr ⟨_, its, n, q, congrArg Value.type (of_decide_eq_true h1), rfl, ?_, ?_⟩
        · have e : its.size = 0 := by rw [← Array.length_toList, h3]; rfl
          rw [e]; exact Nat.zero_le _
        · rw [h3]; exact .nil
      | _ => cases h
    | _ => cases dt <;> cases h
/-! ### the word's facts -/
end DL

set_option Elab.async false
set_option linter.all false
set_option maxRecDepth 100000
set_option maxHeartbeats 4000000
/-! DJ8: for the law's end -/
namespace DL
open PySem PySem.Spec PyProof.Rows L2
end DL

set_option Elab.async false
set_option linter.all false
set_option maxRecDepth 100000
set_option maxHeartbeats 4000000
/-! DK1: texts so many times and cut out; sorted of a set; a dict of whole numbers as a store -/
namespace DL
open PySem PySem.Spec PyProof.Rows L2
/-! ### texts -/
abbrev rMulS : R2 := fun x y H Q => ∃ (l : List Nat) (n : Nat), x = .str (SX.S l) ∧ y = .int n ∧ 1 ≤ n ∧ 1 ≤ l.length ∧ n ≤ 100000 ∧ l.length * n ≤ 1000000 ∧ Q (.str (SX.S (List.replicate n l).flatten)) H
theorem foldl_repN (l : List Nat) (n : Nat) : (List.replicate n l.toArray).foldl (· ++ ·) #[] = (List.replicate n l).flatten.toArray := by
  have h : ∀ (n : Nat) (acc : List Nat), (List.replicate n l.toArray).foldl (· ++ ·) acc.toArray = (acc ++ (List.replicate n l).flatten).toArray := by
    intro n
    induction n with
    | zero => intro acc; simp
    | succ n ih =>
      intro acc
      rw [List.replicate_succ, List.replicate_succ, List.foldl_cons, List.flatten_cons, show acc.toArray ++ l.toArray = (acc ++ l).toArray by simp, ih, List.append_assoc]
  have := h n []
  rw [List.nil_append] at this
  exact this
theorem op_mulS {X : Cx} : OpR X (binaryOp .Mult) rMulS := by
  intro pins s σ H x y v u Q I rx ry h
  obtain ⟨l, n, rfl, rfl, h1, hne, hn, hl, q⟩ := h
  obtain ⟨t, rfl⟩ := rx
  obtain ⟨t', rfl⟩ := ry
  have len : (SX.S l).length = l.length := SX.S_len l
  refine PySem.P.mul_str ?_ ?_ ?_ ?_
  · rw [decide_eq_false (by omega), decide_eq_false (by omega)]; rfl
  · intro _ _
    rw [len]
    have := Int.ediv_mul_le (2 ^ 63 - 1) (show (n : Int) ≠ 0 by omega)
    intro z
    have h2 : (2 : Int) ^ 63 - 1 < (l.length : Int) * n := by
      have h3 := Int.lt_ediv_add_one_mul_self ((2 : Int) ^ 63 - 1) (show (0 : Int) < n by omega)
      have h4 : ((2 ^ 63 - 1) / (n : Int) + 1) * n ≤ (l.length : Int) * n := Int.mul_le_mul_of_nonneg_right z (by omega)
      exact Int.lt_of_lt_of_le h3 h4
    have h5 : ((l.length * n : Nat) : Int) ≤ ((1000000 : Nat) : Int) := Int.ofNat_le.mpr hl
    rw [Int.natCast_mul] at h5
    have h6 := Int.lt_of_lt_of_le h2 h5
    revert h6
    decide
  · intro _ _
    rw [len, Int.toNat_natCast]
    show decide (_ > sizeLine) = false
    rw [sizeLine_eq]
    exact decide_eq_false (by omega)
  · rw [if_neg (by omega)]
    by_cases c : n = 1
    · subst c
      rw [if_pos (by rfl)]
      show EP X pins σ Q (.str (SX.S l) t) s
      refine ⟨.str (SX.S l), H, I, ⟨_, rfl⟩, ?_⟩
      have e : (List.replicate 1 l).flatten = l := by simp
      rw [e] at q; exact q
    · rw [if_neg (by
        rw [Bool.or_eq_true, beq_iff_eq, beq_iff_eq, len]
        rintro (z | z)
        · exact c (by omega)
        · omega)]
      rw [Int.toNat_natCast]
      show _ ∧ EP X pins σ Q (.str ⟨(List.replicate n l.toArray).foldl (· ++ ·) #[]⟩ s.toks) { s with toks := s.toks + 1 }
      rw [foldl_repN]
      refine ⟨?_, .str (SX.S (List.replicate n l).flatten), H, I.tok _, ⟨_, rfl⟩, q⟩
      show (SX.S (List.replicate n l).flatten).length ≤ sizeLine
      rw [SX.S_len, sizeLine_eq]
      have : (List.replicate n l).flatten.length = n * l.length := by simp
      rw [this, Nat.mul_comm]; omega
section
variable {K : PySem.W.Frag} {S : Stt} {ρ : Rho} {Φ : PyData → Rho → Prop} {Ψ : PyData → Prop}
theorem do_mulS {l : List Nat} {i : Int} {n : Nat} (ei : i = n) (h1 : 1 ≤ n) (hne : 1 ≤ l.length) (hn : n ≤ 100000) (hl : l.length * n ≤ 1000000) (f : Ψ (.str (SX.S (List.replicate n l).flatten))) : DO K rMulS (.str (SX.S l)) (.int i) Ψ := fun N H _ u w hu hw Q q => by
  subst ei
  cases hu
  cases hw
  exact ⟨l, n, rfl, rfl, h1, hne, hn, hl, q _ _ H f (Same.refl H) (Dt.str _)⟩
def cutN (l : List Nat) (lo hi : Option Int) : List Nat := (l.drop (HT.sIx l.length 0 lo)).take (HT.sIx l.length l.length hi - HT.sIx l.length 0 lo)
end
/-! ### sorted(set(x)), x a tuple of whole numbers -/
theorem sorted_setAll {P : Program} {w : World} {A : Around} {E : Value → Shared → Prop} {s : Shared} {a : Addr} {S : Int → Bool} {n : Nat} {Q : Value → Shared → Prop} (R : SetR w s.heap a S n) (hh : A.handled = none)
    (hQ : ∀ s' p (out : List Value) (c : Nat) (ns : List Int), (∀ b o, s.heap.get? b = some o → s'.heap.get? b = some o) → s'.gens = s.gens → s'.os = s.os → s.heap.objs.size ≤ p →
      s'.heap.get? p = some (seqObj "list" out.toArray c) → IntsAre out ns → ns.Pairwise (· < ·) → (∀ k, k ∈ ns ↔ S k = true) → ns.length = n → Q (.ref p) s') :
    wpAny (model P w) A (call (.builtin "sorted") [.ref a]) Q E s := by
  obtain ⟨o, es, ep, t, ho, hex, hd, g, nd, hm, hb, hf, hn, hr, hl⟩ := R
  refine Calls.call_function_entry kind_sorted plain_sorted entry_sorted (args_sorted1 _) ?_
  unfold Builtin.«sorted»
  refine wpAny_bind (m := checkCount "sorted" 1 1 _) (wpAny_pure ?_)
  refine wpAny_bind (collect_set (A := A.in1) hh ⟨o, ho, hex.1, hd⟩ hf hb hr hl fun s1 vs k1 hz g1 o1 pm => ?_)
  have hvl : vs.length = n := by rw [pm.length_eq, List.length_map, Array.length_toList]; exact hn
  have hn2 : n < scanBound := by rw [← hn]; exact hb
  have hI : IntsAre vs (vs.map Builtin.Re.reRawOf) := ints_of vs fun v hv => by
    obtain ⟨e, he, q⟩ := List.mem_map.mp (pm.mem_iff.mp hv)
    obtain ⟨k, tk, h1, _⟩ := g e he
    exact ⟨k, tk, by rw [← q]; exact h1⟩
  have pk : (vs.map Builtin.Re.reRawOf).Perm (es.toList.map keyOf) := by
    have q := pm.map Builtin.Re.reRawOf
    rw [List.map_map] at q
    exact q
  have hz2 : vs.length ≤ sizeLine := by rw [hvl, sizeLine_eq]; unfold scanBound at hn2; omega
  refine wpAny_bind (wpAny_newList ?_ hz2)
  have hoL : (s1.heap.push (seqObj "list" vs.toArray 0)).get? s1.heap.objs.size = some (seqObj "list" vs.toArray 0) := Heap.get?_push_size _ rfl
  refine wpAny_bind (wpAny_holding (wpAny_call_entry slot_list_sort ⟨_, hoL, rfl⟩ entry_list_sort
    (SrtO.list_sort_ord SrtO.swo_int hoL hz2 (fun h2 => SrtO.ints_sortable hI h2) fun out hs hb => ⟨_, rfl, ?_⟩)
    (args_list_sort _)))
  obtain ⟨b1, b2, b3⟩ := SrtO.ints_out hI hs hb
  obtain ⟨c, hc⟩ := sortedHeap_at (vs := vs) (out := out.toArray) hoL
  have pn : (out.map SrtO.iv).Perm (es.toList.map keyOf) := b2.trans pk
  refine wpAny_pure ⟨_, rfl, hQ _ s1.heap.objs.size out c (out.map SrtO.iv) (fun b u e => ?_) g1 o1 hz hc b1 (lt_of_le_nodup _ b3 (pn.nodup_iff.mpr nd)) (fun k => by rw [pn.mem_iff, ← hm k]) ?_⟩
  · have q := k1 b u e
    have hlt := Heap.lt_size q
    show (sortedHeap (s1.heap.push (seqObj "list" vs.toArray 0)) s1.heap.objs.size vs out.toArray).get? b = some u
    rw [sortedHeap_old (Nat.ne_of_lt hlt) (by rw [size_push']; exact Nat.lt_succ_of_lt hlt)]
    exact Heap.get?_push_of_some _ q
  · rw [pn.length_eq, List.length_map, Array.length_toList]; exact hn
def tSortSet (K : PySem.W.Frag) (ta : TE) : TE := fun σ H Q => ta σ H fun x H1 => ∃ (l : Addr) (ns : List Int), x = V.ref l ∧ SqT K H1 l (ns.map V.int) ∧ ns.length ≤ 4000 ∧ ∀ (ms : List Int) (p : Addr), ms.Pairwise (· < ·) → (∀ k, k ∈ ms ↔ k ∈ ns) → H1 p = none → Q (.ref p) (upd H1 p (.lst (ms.map V.int)))
theorem pe_sortSet {X : Cx} {a : Expr} {ta : TE} {p p2 q pos : Pos} (hg : Gl X "sorted") (hm : X.mg "sorted" = none) (hg2 : Gl X "set") (hm2 : X.mg "set" = none) (ha : PE X a ta) (hc : X.calm = true := by rfl)
    (na : starEach [a] X.env = (false, eval a X.env) :: starEach [] X.env := by rfl) : PE X (.Call (.Name "sorted" p) [.Call (.Name "set" p2) [a] [] q] [] pos) (tSortSet X.K ta) := by
  refine ⟨fun pins s σ H Q I h => ?_⟩
  refine Call_ (ld_blt I hg hm boot_sorted ?_)
  refine PyProof.Rows.callWith_builtin1 (PyProof.Rows.args_cons ?_ rfl) rfl rfl
  refine Call_ (ld_blt I hg2 hm2 boot_set ?_)
  refine PyProof.Rows.callWith_type1 (PyProof.Rows.args_cons (thn (ha.run pins s σ H _ I h) fun v s1 ⟨x, H1, I1, r1, q1⟩ => PyProof.Rows.args_nil ?_) na) na rfl
  obtain ⟨l, ns, rfl, hq, hl, q1⟩ := q1
  cases r1
  obtain ⟨its, r, pl, hz⟩ := I1.tuple hq
  refine call_set_tupI ns (I1.ok.hd hc) (show s1.heap.IsTuple l its.toArray from pl) (by simpa using r.ints) (by unfold scanBound; omega) fun h' tk c R1 hcn k => ?_
  refine PyProof.Rows.args_nil ?_
  have I2 : L2.Inv X pins σ H1 { s1 with heap := h', toks := tk } := I1.kept fun b o e => k b o e
  obtain ⟨s2, hs2⟩ : ∃ s2 : Shared, s2 = { s1 with heap := h', toks := tk } := ⟨_, rfl⟩
  have R2 : SetR X.w s2.heap s1.heap.objs.size (fun j => decide (j ∈ ns)) c := by rw [hs2]; exact R1
  rw [← hs2] at I2 ⊢
  refine sorted_setAll R2 (I2.ok.hd hc) fun s' p out c2 ms k2 g o hp hgp hi hs hm hlen => ?_
  have hlz : (ms.map V.int).length ≤ sizeLine := by
    rw [List.length_map, sizeLine_eq]
    have nd : ms.Nodup := hs.imp fun h => by omega
    have := nd_le (m := ns) nd fun k hk => by
      have := (hm k).mp hk
      exact of_decide_eq_true this
    omega
  have hn : H1 p = none := I2.hok.fresh hp
  have J : Inv X pins σ (upd H1 p (.lst (ms.map V.int))) { s2 with heap := s'.heap, gens := s'.gens, drawn := s'.drawn, toks := s'.toks } :=
    I2.call (ch := []) (Un.laid k2 hp hn) (I2.hok.laid k2 hp ⟨hlz, out, c2, vals_of_ints hi, hgp⟩) (by rw [g]; exact I2.bare) (fun _ z => nomatch z)
  have e : s' = { s2 with heap := s'.heap, gens := s'.gens, drawn := s'.drawn, toks := s'.toks } := by
    cases s'
    cases s2
    cases o
    rfl
  rw [e]
  exact ⟨.ref p, _, J, rfl, q1 ms p hs (fun k => by rw [hm k, decide_eq_true_iff]) hn⟩
section
variable {K : PySem.W.Frag} {S : Stt} {ρ : Rho} {Φ : PyData → Rho → Prop} {Ψ : PyData → Prop}
theorem wd_sortSet {te : TE} (h : WD K S te ρ fun d ρ1 => ∃ ns : List Int, d = .tuple (ns.map PyData.int) ∧ ns.length ≤ 4000 ∧ ∀ ms : List Int, Ris ms → (∀ k, k ∈ ms ↔ k ∈ ns) → Φ (.list (ms.map PyData.int)) ρ1) : WD K S (tSortSet K te) ρ Φ := fun H0 N0 Z N σ H E Q q =>
  h H0 N0 Z N σ H E _ fun v d ρ1 H1 ⟨ns, e, hl, f⟩ E1 k1 d1 => by
    subst e
    obtain ⟨p, xs, rfl, _, h1, h2⟩ := d1.tup_inv
    obtain rfl := h2.of_ints
    refine ⟨p, ns, rfl, h1, hl, fun ms r hs hm hr => ?_⟩
    have s := same_new hr (.lst (ms.map V.int))
    exact q _ _ ρ1 _ (f ms hs hm) (E1.ext s) (k1.trans (Keep.of s)) (Dq.lst (fresh_av E1.trk hr) upd_same DqAll.ints)
end
/-! ### a dict of whole numbers, each with True: a store -/
abbrev dkv (ks : List Int) : List (Key × V) := ks.map fun i => ((Sum.inl i : Key), V.bl true)
def mkDict (p : Addr) (ks : List Int) : Stt where
  a := p
  fp b := decide (b = p)
  ok H _ := H p = some (.dK (dkv ks))
  loc H H' B h k := (h p (by simp)).trans k
  trk H B k b hb := by
    have e : b = p := of_decide_eq_true hb
    rw [e, k]; simp
/-- nothing but data -/
def plD (ρ : Rho) : Prop := ∀ s ∈ ρ, s = .unk ∨ ∃ d, s = .dat d
section
variable {K : PySem.W.Frag} {ρ : Rho} {Φ : PyData → Rho → Prop} {Ψ : PyData → Prop}
/-- d != {} -/
def rNeDE : R2 := fun x y H Q => ∃ (a b : Addr) (ks : List (Key × V)), x = .ref a ∧ y = .ref b ∧ H a = some (.dK ks) ∧ H b = some (.dK []) ∧ Q (.bl (decide (ks ≠ []))) H
def rLenDK : List V → Hp → VK → Prop := fun xs H Q => ∃ a kvs, xs = [V.ref a] ∧ H a = some (.dK kvs) ∧ Q (.int (kvs : List (Key × V)).length) H
end
end DL

set_option Elab.async false
set_option linter.all false
set_option maxRecDepth 100000
set_option maxHeartbeats 4000000
/-! DK2: the first day, the last day, where days are unlike -/
namespace DL
open PySem PySem.Spec PyProof.Rows L2
def FirstUp (P : Int → Prop) (b : Int) (o : Option Int) : Prop := (o = none ∧ ∀ d, b ≤ d → ¬ P d) ∨ ∃ d, o = some d ∧ b ≤ d ∧ P d ∧ ∀ e, b ≤ e → e < d → ¬ P e
def LastDn (P : Int → Prop) (b : Int) (o : Option Int) : Prop := (o = none ∧ ∀ d, d ≤ b → ¬ P d) ∨ ∃ d, o = some d ∧ d ≤ b ∧ P d ∧ ∀ e, d < e → e ≤ b → ¬ P e
/-- the first from b on, by steps of s -/
def DirO (P : Int → Prop) (b s : Int) (o : Option Int) : Prop := (o = none ∧ ∀ k : Nat, ¬ P (b + s * k)) ∨ ∃ k : Nat, o = some (b + s * k) ∧ P (b + s * k) ∧ ∀ j : Nat, j < k → ¬ P (b + s * j)
section
variable {p q : Nat} {us vs xs ys : List Int}
theorem cntD_succ (h : Dy p us vs) {a d : Int} (had : a ≤ d) : cntD p us vs a (d + 1) = cntD p us vs a d + (if rgI p us d ↔ d ∈ vs then 0 else 1) := by
  rw [cntD_add had (show d ≤ d + 1 by omega)]
  congr 1
  by_cases c : d ∈ vs
  · rw [cntD_one h c]
    by_cases r : rgI p us d
    · rw [if_pos r, if_pos ⟨fun _ => c, fun _ => r⟩]
    · rw [if_neg r, if_neg fun z => r (z.mpr c)]
  · rw [cntD_free fun t ht h1 h2 => c (by rw [show d = t by omega]; exact ht), rgB_succ h]
    by_cases r : rgI p us d
    · rw [if_pos r, if_neg fun z => c (z.mp r)]; omega
    · rw [if_neg r, if_pos ⟨fun z => absurd z r, fun z => absurd z c⟩]; omega
theorem rgI_per (p1 : 1 ≤ p) (x : Int) : rgI p us (x + p) ↔ rgI p us x := by unfold rgI; rw [Int.add_emod_right]
/-- two that go round are alike for ever where they are for as many days as both periods together -/
theorem two_per {f g : Int → Prop} {b : Int} (hp : 1 ≤ p) (hq : 1 ≤ q) (hf : ∀ x, f (x + p) ↔ f x) (hg : ∀ x, g (x + q) ↔ g x) (w : ∀ x, b ≤ x → x < b + p + q → (f x ↔ g x)) : ∀ x, f x ↔ g x := by
  have mulp : ∀ {f : Int → Prop} {p : Nat}, (∀ x, f (x + p) ↔ f x) → ∀ (k : Nat) x, f (x + p * k) ↔ f x := fun {f p} hf k => by
    induction k with
    | zero => intro x; simp
    | succ k ih => intro x; rw [show x + (p : Int) * ((k + 1 : Nat) : Int) = x + p * k + p by rw [Int.natCast_succ, Int.mul_add]; omega, hf, ih]
  have imulp : ∀ {f : Int → Prop} {p : Nat}, (∀ x, f (x + p) ↔ f x) → ∀ (k : Int) x, f (x + p * k) ↔ f x := fun {f p} hf k x => by
    rcases Int.le_total 0 k with z | z
    · obtain ⟨n, rfl⟩ := Int.eq_ofNat_of_zero_le z
      exact mulp hf n x
    · obtain ⟨n, hn⟩ : ∃ n : Nat, k = -(n : Int) := ⟨(-k).toNat, by omega⟩
      subst hn
      have := mulp hf n (x + p * -(n : Int))
      rw [show x + (p : Int) * -(n : Int) + p * n = x by rw [Int.mul_neg]; omega] at this
      exact this.symm
  have red : ∀ (p : Nat) (x : Int), 1 ≤ p → ∃ (y k : Int), b ≤ y ∧ y < b + p ∧ x = y + p * k := fun p x h1 => by
    have m0 := Int.emod_nonneg (x - b) (show (p : Int) ≠ 0 by omega)
    have m1 := Int.emod_lt_of_pos (x - b) (show (0 : Int) < p by omega)
    have de := Int.mul_ediv_add_emod (x - b) p
    exact ⟨b + (x - b) % p, (x - b) / p, by omega, by omega, by omega⟩
  have fq : ∀ x, f (x + q) ↔ f x := fun x => by
    obtain ⟨y, k, h1, h2, rfl⟩ := red p x hp
    rw [show y + (p : Int) * k + q = y + q + p * k by omega, imulp hf k, imulp hf k]
    rw [w (y + q) (by omega) (by omega), hg, w y h1 (by omega)]
  intro x
  obtain ⟨y, k, h1, h2, rfl⟩ := red q x hq
  rw [imulp fq k, imulp hg k]
  exact w y h1 (by omega)
/-! ### signs -/
def sgL (p : Nat) (us : List Int) (b : Int) (n : Nat) : List Nat := (List.range n).map fun i : Nat => if rgI p us (b + i) then 49 else 48
theorem patL_get {i : Nat} (h : i < p) : (patL p us)[i]? = some (if ((i : Nat) : Int) ∈ us then 49 else 48) := by
  unfold patL
  rw [List.getElem?_map, List.getElem?_range h]; rfl
theorem rep_get {l : List Nat} {n j : Nat} (h : j < n * l.length) : (List.replicate n l).flatten[j]? = l[j % l.length]? := by
  induction n generalizing j with
  | zero => omega
  | succ n ih =>
    rw [List.replicate_succ, List.flatten_cons]
    by_cases c : j < l.length
    · rw [List.getElem?_append_left c, Nat.mod_eq_of_lt c]
    · rw [List.getElem?_append_right (by omega), ih (by rw [Nat.succ_mul] at h; omega), Nat.mod_eq_sub_mod (a := j) (by omega)]
end
end DL

set_option Elab.async false
set_option linter.all false
set_option maxRecDepth 100000
set_option maxHeartbeats 4000000
/-! DK3: last_day, unlike_day, pay_period -/
namespace DL
open PySem PySem.Spec PyProof.Rows L2
local macro_rules | `(tactic| walk_at "dl") => `(tactic| repeat' (first
  | with_reducible refine wd_isTy ?_ | with_reducible refine wd_isi ?_ | ((with_reducible show WD _ _ (tOp (rIxL _) (tVar _) _) _ _); refine wd_ix_own rfl ?_) | with_reducible refine wd_op ?_ | ((with_reducible show WD _ _ (tCB (rLenX _) (tCons (tVar _) tNil)) _ _); refine wd_len_scr rfl ?_) | ((with_reducible show WD _ _ (tCB (rLenX _) (tCons (tVar _) tNil)) _ _); refine wd_len_own rfl ?_) | with_reducible refine wd_cb ?_ | with_reducible refine wd_un ?_ | with_reducible refine wa_cons ?_ | with_reducible refine wa_nil ?_ | ((with_reducible show WD _ _ (tVar _) _ _); refine wd_var rfl ?_) | with_reducible refine wd_int ?_ | with_reducible refine wd_bl ?_ | with_reducible refine wd_str ?_ | with_reducible refine wd_non ?_
  | with_reducible refine do_nesS ?_ | with_reducible refine dc_intB ?_ | with_reducible refine do_add ?_ | with_reducible refine do_sub ?_ | ((with_reducible refine do_mod ?_ ?_); decide) | with_reducible refine do_mod ?_ ?_ | with_reducible refine do_mul ?_ ?_ | ((with_reducible refine do_div ?_ ?_); exact ⟨by decide, by decide⟩) | with_reducible refine do_div ?_ ?_ | ((with_reducible refine do_pow ?_ ?_); exact ⟨by decide, by decide, by decide⟩) | with_reducible refine do_pow ?_ ?_
  | with_reducible refine do_lt ?_ | with_reducible refine do_le ?_ | with_reducible refine do_gt ?_ | with_reducible refine do_ge ?_ | with_reducible refine du_neg ?_
  | with_reducible refine do_eqi ?_ | with_reducible refine do_nei ?_ | with_reducible refine do_eqs ?_ | with_reducible refine do_nes ?_ | with_reducible refine dc_abs ?_ | with_reducible refine dc_min ?_ | with_reducible refine dc_max ?_ | with_reducible refine dc_lenL ?_ | with_reducible refine dc_lenT ?_ | with_reducible refine dc_lenR ?_ | with_reducible refine dc_listT ?_ | with_reducible refine dc_listL ?_ | with_reducible refine dc_tupL ?_ | with_reducible refine dc_gcd ?_
  | ((with_reducible show DO _ (rIxT _) _ _ _); refine do_ixT rfl ?_) | ((with_reducible show DO _ (rIxL _) _ _ _); refine do_ixL rfl ?_) | ((with_reducible refine do_catL ?_ ?_); exact Nat.le_of_ble_eq_true rfl) | with_reducible refine do_catL ?_ ?_ | ((with_reducible show And (List.length _ ≤ sizeLine) _); refine ⟨Nat.le_of_ble_eq_true rfl, ?_⟩)
  | with_reducible refine wd_dnew ?_ | with_reducible refine wd_call0 ?_ | with_reducible refine wd_slA ?_ | with_reducible refine wd_slL ?_ | with_reducible refine wd_revT ?_ | with_reducible refine do_catA ?_ ?_ | with_reducible refine wo_part ?_ | with_reducible refine wo_none ?_ | with_reducible refine do_eqQ ?_ | with_reducible refine do_neQ ?_ | with_reducible refine wi_enumT ?_ | with_reducible refine wi_enumD ?_ | with_reducible refine tAdQ (by omega) (by omega) ?_ | with_reducible refine tSbQ (by omega) (by omega) ?_ | with_reducible refine tMlQ (by omega) (by omega) ?_ | with_reducible refine tDvQ (by assumption) (by omega) (by omega) ?_ | with_reducible refine tLtQ (by omega) (by omega) ?_ | with_reducible refine dc_str ?_ ?_ | with_reducible refine wd_tup ?_ | with_reducible refine wd_lst ?_ | with_reducible refine wt_test ?_ | with_reducible refine wt_B ?_ | with_reducible refine wt_not ?_ | with_reducible refine wt_and ?_ | with_reducible refine wt_or ?_ | with_reducible refine wd_ifE ?_ | with_reducible refine wd_andV ?_ | with_reducible refine wd_orV ?_ | with_reducible refine wd_notV ?_
  | with_reducible refine ws_seq ?_ | with_reducible refine ws_next ?_ | with_reducible refine ws_asg ?_ | with_reducible refine ws_ret ?_ | with_reducible refine ws_retN ?_ | with_reducible refine ws_if ?_ | with_reducible refine ws_par ?_ | with_reducible refine ws_unp2 ?_
  | with_reducible refine if_t ?_ | with_reducible refine if_f ?_ | with_reducible refine if_nf ?_ | with_reducible refine if_nt ?_
  | ((with_reducible show Exists _); first | refine ⟨_, kitInt _, ?_⟩ | refine ⟨_, kitBool _, ?_⟩ | refine ⟨_, kitTup _, ?_⟩ | refine ⟨_, kitList _, ?_⟩ | refine ⟨_, rfl, ?_⟩ | refine ⟨_, _, rfl, ?_⟩ | fail) | fail))
def rSlR (K : PySem.W.Frag) : V → Option Int → Option Int → Hp → VK → Prop := fun x lo hi H Q => rSlL K x lo hi H Q ∨ rSlA K x lo hi H Q
section
variable {K : PySem.W.Frag} {S : Stt} {ρ : Rho} {Φ : PyData → Rho → Prop} {Ψ : PyData → Prop}
end
def TManyR : List PyData → (PyData → Prop) → Prop := fun ds Φ => ∃ (b : Bool) (ns : List Int) (x : Int), ds = [rowD b (ns.map PyData.int), .int x] ∧ Ris ns ∧ ns.length ≤ 100000 ∧ ∀ c : Nat, c ≤ ns.length → (∀ (i : Nat) (v : Int), ns[i]? = some v → (v < x ↔ i < c)) → Φ (.int c)
def TFromR : List PyData → (PyData → Prop) → Prop := fun ds Φ => ∃ (b : Bool) (ns : List Int) (x : Int), ds = [rowD b (ns.map PyData.int), .int x] ∧ Ris ns ∧ ns.length ≤ 100000 ∧ Φ (rowD b ((ns.filter fun v => decide (x ≤ v)).map PyData.int))
def TPatD (Cd : Addr) : List PyData → (PyData → Prop) → Prop := fun ds Φ => ∃ (p : Nat) (us vs : List Int), ds = [dayD Cd p us vs] ∧ Dy p us vs ∧ Φ (.str (SX.S (patL p us)))
def TCut : List PyData → (PyData → Prop) → Prop := fun ds Φ => ∃ (p : Nat) (us : List Int) (b : Int) (n : Nat), ds = [.str (SX.S (patL p us)), .int b, .int n] ∧ 1 ≤ p ∧ p ≤ 5040 ∧ n ≤ 20000 ∧ Φ (.str (SX.S (sgL p us b n)))
def TUnp : List PyData → (PyData → Prop) → Prop := fun ds Φ => ∃ (p q : Nat) (us xs : List Int) (b : Int), ds = [.str (SX.S (patL p us)), .str (SX.S (patL q xs)), .int b] ∧ 1 ≤ p ∧ p ≤ 5040 ∧ 1 ≤ q ∧ q ≤ 5040 ∧ ∀ o, FirstUp (fun d => ¬ (rgI p us d ↔ rgI q xs d)) b o → Φ (oI o)
def TLast (Cd : Addr) : List PyData → (PyData → Prop) → Prop := fun ds Φ => ∃ (p : Nat) (us vs : List Int) (a : Int), ds = [dayD Cd p us vs, .int a] ∧ Dy p us vs ∧ a.natAbs ≤ 2 ^ 62 ∧ ∀ o, LastDn (inD p us vs) (a - 1) o → Φ (oI o)
def TUnlD (Cd : Addr) : List PyData → (PyData → Prop) → Prop := fun ds Φ => ∃ (p q : Nat) (us vs xs ys : List Int) (b : Int), ds = [dayD Cd p us vs, dayD Cd q xs ys, .int b] ∧ Dy p us vs ∧ Dy q xs ys ∧ b.natAbs ≤ 2 ^ 62 ∧ ∀ o, FirstUp (fun d => ¬ (inD p us vs d ↔ inD q xs ys d)) b o → Φ (oI o)
def ppD : Option Int → Option Int → PyData
  | some a, some b => .tuple [.int a, .int b]
  | _, _ => .none
def TPay (Cd : Addr) : List PyData → (PyData → Prop) → Prop := fun ds Φ => ∃ (p : Nat) (us vs : List Int) (d : Int), ds = [dayD Cd p us vs, .int d] ∧ Dy p us vs ∧ d.natAbs ≤ 2 ^ 61 ∧ ∀ o1 o2, LastDn (inD p us vs) d o1 → FirstUp (inD p us vs) (d + 1) o2 → Φ (ppD o1 o2)
def t_manyR (K : PySem.W.Frag) : TS :=
  (tSeq (tPar 2 3 (tCons (tC (.int 0)) (tCons (tCB (rLenX K) (tCons (tVar 0) tNil)) tNil)))
    (tSeq (tWhile (tTest (tOp rLt (tVar 2) (tVar 3))) (tSeq (tAsg (tOp rDivI (tOp rAddI (tVar 2) (tVar 3)) (tC (.int 2))) (gName 4))
    (tIfS (tTest (tOp rLt (tOp (rIxR K) (tVar 0) (tVar 4)) (tVar 1))) (tAsg (tOp rAddI (tVar 4) (tC (.int 1))) (gName 2)) (tAsg (tVar 4) (gName 3)))))
    (tRet (tVar 2))))
def t_fromR (K : PySem.W.Frag) : TS :=
  (tRet (tSl (rSlR K) (tVar 0) (tPart (tCall (spP K TManyR) [] E0 (tCons (tVar 0) (tCons (tVar 1) tNil)))) tNoPart))
def t_patD (K : PySem.W.Frag) : TS :=
  (tRet (tCall (spP K TPat) [] E0 (tCons (tFld K (tVar 0) "period") (tCons (tFld K (tVar 0) "marks") tNil))))
def t_cut (K : PySem.W.Frag) : TS :=
  (tSeq (tAsg (tOp rModI (tVar 1) (tCB rLenS (tCons (tVar 0) tNil))) (gName 3))
    (tRet (tSl rSlS (tOp rMulS (tVar 0) (tOp rAddI (tOp rDivI (tOp rAddI (tVar 3) (tVar 2)) (tCB rLenS (tCons (tVar 0) tNil))) (tC (.int 1)))) (tPart (tVar 3)) (tPart (tOp rAddI (tVar 3) (tVar 2))))))
def t_unp (K : PySem.W.Frag) : TS :=
  (tSeq (tAsg (tOp rAddI (tCB rLenS (tCons (tVar 0) tNil)) (tCB rLenS (tCons (tVar 1) tNil))) (gName 3))
    (tSeq (tPar 4 5 (tCons (tCall (spP K TCut) [] E0 (tCons (tVar 0) (tCons (tVar 2) (tCons (tVar 3) tNil)))) (tCons (tCall (spP K TCut) [] E0 (tCons (tVar 1) (tCons (tVar 2) (tCons (tVar 3) tNil)))) tNil)))
    (tSeq (tIfS (tTest (tOp rEq (tVar 4) (tVar 5))) (tRet (tC .non)) tNext)
    (tSeq (tPar 6 7 (tCons (tC (.int 0)) (tCons (tVar 3) tNil)))
    (tSeq (tWhile (tTest (tOp rGt (tOp rSubI (tVar 7) (tVar 6)) (tC (.int 1)))) (tSeq (tAsg (tOp rDivI (tOp rAddI (tVar 6) (tVar 7)) (tC (.int 2))) (gName 8))
    (tIfS (tTest (tOp rEq (tSl rSlS (tVar 4) (tPart (tVar 6)) (tPart (tVar 8))) (tSl rSlS (tVar 5) (tPart (tVar 6)) (tPart (tVar 8))))) (tAsg (tVar 8) (gName 6)) (tAsg (tVar 8) (gName 7)))))
    (tRet (tOp rAddI (tVar 2) (tVar 6))))))))
def t_last (K : PySem.W.Frag) (Cd : Addr) : TS :=
  (tSeq (tFor (iTup K (tRevT K (tSl (rSlA K) (tFld K (tVar 0) "turned") tNoPart (tPart (tCall (spP K TMany) [] E0 (tCons (tFld K (tVar 0) "turned") (tCons (tVar 1) tNil))))))) (gName 2) (tSeq (tAsg (tCall (spP K (TRegD Cd)) [] E0 (tCons (tVar 0) (tCons (tOp rSubI (tCall (spP K (TRegB Cd)) [] E0 (tCons (tVar 0) (tCons (tVar 1) tNil))) (tC (.int 1))) tNil))) (gName 3))
    (tSeq (tIfS (tAnd (tTest (tOp rNotNone (tVar 3) (tC .non))) (tTest (tOp rGt (tVar 3) (tVar 2)))) (tRet (tVar 3)) tNext)
    (tSeq (tIfS (tB (tMeth Cd "has" (spP K (THasD Cd)) [] E0 (tVar 0) (tCons (tVar 2) tNil))) (tRet (tVar 2)) tNext)
    (tAsg (tVar 2) (gName 1))))))
    (tRet (tCall (spP K (TRegD Cd)) [] E0 (tCons (tVar 0) (tCons (tOp rSubI (tCall (spP K (TRegB Cd)) [] E0 (tCons (tVar 0) (tCons (tVar 1) tNil))) (tC (.int 1))) tNil)))))
def t_unlD (K : PySem.W.Frag) (Cd : Addr) : TS :=
  (tSeq (tPar 3 4 (tCons (tCall (spP K (TPatD Cd)) [] E0 (tCons (tVar 0) tNil)) (tCons (tCall (spP K (TPatD Cd)) [] E0 (tCons (tVar 1) tNil)) tNil)))
    (tSeq (tFor (iList K (tCall (spP K TFromR) [] E0 (tCons (tSortSet K (tOp (rCatA K) (tFld K (tVar 0) "turned") (tFld K (tVar 1) "turned"))) (tCons (tVar 2) tNil)))) (gName 5) (tSeq (tAsg (tCall (spP K TUnp) [] E0 (tCons (tVar 3) (tCons (tVar 4) (tCons (tVar 2) tNil)))) (gName 6))
    (tSeq (tIfS (tAnd (tTest (tOp rNotNone (tVar 6) (tC .non))) (tTest (tOp rLt (tVar 6) (tVar 5)))) (tRet (tVar 6)) tNext)
    (tSeq (tIfS (tTest (tOp rNe (tMeth Cd "has" (spP K (THasD Cd)) [] E0 (tVar 0) (tCons (tVar 5) tNil)) (tMeth Cd "has" (spP K (THasD Cd)) [] E0 (tVar 1) (tCons (tVar 5) tNil)))) (tRet (tVar 5)) tNext)
    (tAsg (tOp rAddI (tVar 5) (tC (.int 1))) (gName 2))))))
    (tRet (tCall (spP K TUnp) [] E0 (tCons (tVar 3) (tCons (tVar 4) (tCons (tVar 2) tNil)))))))
def t_pay (K : PySem.W.Frag) (Cd : Addr) : TS :=
  (tSeq (tAsg (tCall (spP K (TLast Cd)) [] E0 (tCons (tVar 0) (tCons (tOp rAddI (tVar 1) (tC (.int 1))) tNil))) (gName 2))
    (tSeq (tAsg (tCall (spP K (TNth Cd)) [.int 0] E0 (tCons (tVar 0) (tCons (tOp rAddI (tVar 1) (tC (.int 1))) tNil))) (gName 3))
    (tSeq (tIfS (tOr (tTest (tOp rIsNone (tVar 2) (tC .non))) (tTest (tOp rIsNone (tVar 3) (tC .non)))) (tRet (tC .non)) tNext)
    (tRet (tTup (tCons (tVar 2) (tCons (tVar 3) tNil)))))))
section
variable {K : PySem.W.Frag} {ds : List PyData} {Φ : PyData → Prop} {Cd : Addr}
theorem ws_patD (c : DayC K Cd) (h : TPatD Cd ds Φ) : WS K S0 (t_patD K) (rhoOf 1 ds) { nx := fun _ => Φ .none, rt := fun d _ => Φ d } := by
  obtain ⟨p, us, vs, rfl, D, h⟩ := h
  show WS K S0 (t_patD K) [.dat (dayD Cd p us vs)] _
  unfold t_patD
  have p2 := D.p2
  have ul := D.ul
  exact ws_ret (wd_call0 (wa_cons (wd_fld (wd_var rfl ⟨Cd, _, _, rfl, c.p, rfl, wa_cons (wd_fld (wd_var rfl ⟨Cd, _, _, rfl, c.m, rfl, wa_nil ⟨p, false, us, rfl, by omega, by omega, D.ub, h⟩⟩))⟩))))
theorem if_nb {c : Prop} [Decidable c] {A B : Prop} (h1 : ¬ c → A) (h2 : c → B) : if (!decide c) = true then A else B := by
  by_cases h : c
  · rw [decide_eq_true h]; exact h2 h
  · rw [decide_eq_false h]; exact h1 h
theorem has_in {p : Nat} {us vs : List Int} (p1 : 1 ≤ p) (d : Int) : (decide (d.fmod p ∈ us) != decide (d ∈ vs)) = decide (inD p us vs d) := by
  rw [Int.fmod_eq_emod_of_nonneg _ (by omega)]
  by_cases a : d % p ∈ us <;> by_cases b : d ∈ vs
  · rw [decide_eq_true a, decide_eq_true b, decide_eq_false (show ¬ inD p us vs d from fun w => w ⟨fun _ => b, fun _ => a⟩)]; rfl
  · rw [decide_eq_true a, decide_eq_false b, decide_eq_true (show inD p us vs d from fun w => b (w.mp a))]; rfl
  · rw [decide_eq_false a, decide_eq_true b, decide_eq_true (show inD p us vs d from fun w => a (w.mpr b))]; rfl
  · rw [decide_eq_false a, decide_eq_false b, decide_eq_false (show ¬ inD p us vs d from fun w => w ⟨fun z => absurd z a, fun z => absurd z b⟩)]; rfl
end
end DL

set_option Elab.async false
set_option linter.all false
set_option maxRecDepth 100000
set_option maxHeartbeats 4000000
/-! DK4: the first day in a direction, where two are unlike, as the law looks -/
namespace DL
open PySem PySem.Spec PyProof.Rows L2
local macro_rules | `(tactic| walk_at "dl") => `(tactic| repeat' (first
  | with_reducible refine wd_isTy ?_ | with_reducible refine wd_isi ?_ | ((with_reducible show WD _ _ (tOp (rIxL _) (tVar _) _) _ _); refine wd_ix_own rfl ?_) | with_reducible refine wd_op ?_ | ((with_reducible show WD _ _ (tCB (rLenX _) (tCons (tVar _) tNil)) _ _); refine wd_len_scr rfl ?_) | ((with_reducible show WD _ _ (tCB (rLenX _) (tCons (tVar _) tNil)) _ _); refine wd_len_own rfl ?_) | with_reducible refine wd_cb ?_ | with_reducible refine wd_un ?_ | with_reducible refine wa_cons ?_ | with_reducible refine wa_nil ?_ | ((with_reducible show WD _ _ (tVar _) _ _); refine wd_var rfl ?_) | with_reducible refine wd_int ?_ | with_reducible refine wd_bl ?_ | with_reducible refine wd_str ?_ | with_reducible refine wd_non ?_
  | with_reducible refine do_nesS ?_ | with_reducible refine dc_intB ?_ | with_reducible refine do_add ?_ | with_reducible refine do_sub ?_ | ((with_reducible refine do_mod ?_ ?_); decide) | with_reducible refine do_mod ?_ ?_ | with_reducible refine do_mul ?_ ?_ | ((with_reducible refine do_div ?_ ?_); exact ⟨by decide, by decide⟩) | with_reducible refine do_div ?_ ?_ | ((with_reducible refine do_pow ?_ ?_); exact ⟨by decide, by decide, by decide⟩) | with_reducible refine do_pow ?_ ?_
  | with_reducible refine do_lt ?_ | with_reducible refine do_le ?_ | with_reducible refine do_gt ?_ | with_reducible refine do_ge ?_ | with_reducible refine du_neg ?_
  | with_reducible refine do_eqi ?_ | with_reducible refine do_nei ?_ | with_reducible refine do_eqs ?_ | with_reducible refine do_nes ?_ | with_reducible refine dc_abs ?_ | with_reducible refine dc_min ?_ | with_reducible refine dc_max ?_ | with_reducible refine dc_lenL ?_ | with_reducible refine dc_lenT ?_ | with_reducible refine dc_lenR ?_ | with_reducible refine dc_listT ?_ | with_reducible refine dc_listL ?_ | with_reducible refine dc_tupL ?_ | with_reducible refine dc_gcd ?_
  | ((with_reducible show DO _ (rIxT _) _ _ _); refine do_ixT rfl ?_) | ((with_reducible show DO _ (rIxL _) _ _ _); refine do_ixL rfl ?_) | ((with_reducible refine do_catL ?_ ?_); exact Nat.le_of_ble_eq_true rfl) | with_reducible refine do_catL ?_ ?_ | ((with_reducible show And (List.length _ ≤ sizeLine) _); refine ⟨Nat.le_of_ble_eq_true rfl, ?_⟩)
  | with_reducible refine wd_dnew ?_ | with_reducible refine wd_call0 ?_ | with_reducible refine wd_slA ?_ | with_reducible refine wd_slL ?_ | with_reducible refine wd_revT ?_ | with_reducible refine do_catA ?_ ?_ | with_reducible refine wo_part ?_ | with_reducible refine wo_none ?_ | with_reducible refine do_eqQ ?_ | with_reducible refine do_neQ ?_ | with_reducible refine wi_enumT ?_ | with_reducible refine wi_enumD ?_ | with_reducible refine tAdQ (by omega) (by omega) ?_ | with_reducible refine tSbQ (by omega) (by omega) ?_ | with_reducible refine tMlQ (by omega) (by omega) ?_ | with_reducible refine tDvQ (by assumption) (by omega) (by omega) ?_ | with_reducible refine tLtQ (by omega) (by omega) ?_ | with_reducible refine dc_str ?_ ?_ | with_reducible refine wd_tup ?_ | with_reducible refine wd_lst ?_ | with_reducible refine wt_test ?_ | with_reducible refine wt_B ?_ | with_reducible refine wt_not ?_ | with_reducible refine wt_and ?_ | with_reducible refine wt_or ?_ | with_reducible refine wd_ifE ?_ | with_reducible refine wd_andV ?_ | with_reducible refine wd_orV ?_ | with_reducible refine wd_notV ?_
  | with_reducible refine ws_seq ?_ | with_reducible refine ws_next ?_ | with_reducible refine ws_asg ?_ | with_reducible refine ws_ret ?_ | with_reducible refine ws_retN ?_ | with_reducible refine ws_if ?_ | with_reducible refine ws_par ?_ | with_reducible refine ws_unp2 ?_
  | with_reducible refine if_t ?_ | with_reducible refine if_f ?_ | with_reducible refine if_nf ?_ | with_reducible refine if_nt ?_
  | ((with_reducible show Exists _); first | refine ⟨_, kitInt _, ?_⟩ | refine ⟨_, kitBool _, ?_⟩ | refine ⟨_, kitTup _, ?_⟩ | refine ⟨_, kitList _, ?_⟩ | refine ⟨_, rfl, ?_⟩ | refine ⟨_, _, rfl, ?_⟩ | fail) | fail))
section
variable {p q : Nat} {us vs xs ys bs ts cs zs : List Int}
/-- the nearest turned day in, of some -/
def BestO (P : Int → Prop) (s : Int) (hs : List Int) (o : Option Int) : Prop := (o = none ∧ ∀ t ∈ hs, ¬ P t) ∨ ∃ t, o = some t ∧ t ∈ hs ∧ P t ∧ ∀ x ∈ hs, P x → (t - x) * s ≤ 0
end
def TFst : List PyData → (PyData → Prop) → Prop := fun ds Φ => ∃ (bs ts : List Int) (p : Nat) (us vs : List Int) (d s : Int), ds = [GvD bs ts, .int d, .int s] ∧ Rl bs ts p us vs ∧ (s = 1 ∨ s = -1) ∧ d.natAbs ≤ 2 ^ 61 ∧
  ∀ o, DirO (inD p us vs) d s o → (∀ e, o = some e → e.natAbs < 2 ^ 62) → Φ (oI o)
def t_fst (K : PySem.W.Frag) : TS :=
  (tSeq (tAsg (tVar 0) (gTup K 2 (gCons (gName 3) (gCons (gName 4) gNil))))
    (tSeq (tAsg (tLc (iList K (tVar 4)) (gName 7) (tTest (tOp rGe (tOp rMulI (tOp rSubI (tVar 7) (tVar 1)) (tVar 2)) (tC (.int 0)))) (tVar 7) [7]) (gName 5))
    (tSeq (tAsg (tC .non) (gName 6))
    (tSeq (tFor (iList K (tVar 5)) (gName 7) (tIfS (tAnd (tB (tCall (spP K TIn) [] E0 (tCons (tVar 0) (tCons (tVar 7) tNil)))) (tOr (tTest (tOp rIsNone (tVar 6) (tC .non))) (tTest (tOp rGt (tOp rMulI (tOp rSubI (tVar 6) (tVar 7)) (tVar 2)) (tC (.int 0)))))) (tAsg (tVar 7) (gName 6)) tNext))
    (tSeq (tIfS (tTest (tOp rEq (tCB (rSum K) (tCons (tVar 3) tNil)) (tC (.int 0)))) (tRet (tVar 6)) tNext)
    (tSeq (tAsg (tVar 1) (gName 8))
    (tSeq (tWhile (tOr (tNot (tB (tCall (spP K TIn) [] E0 (tCons (tVar 0) (tCons (tVar 8) tNil))))) (tTest (tOp (rIn K false) (tVar 8) (tVar 4)))) (tSeq (tIfS (tTest (tOp (rEqD K) (tVar 6) (tVar 8))) (tRet (tVar 6)) tNext)
    (tAsg (tOp rAddI (tVar 8) (tVar 2)) (gName 8))))
    (tRet (tVar 8)))))))))
section
variable {K : PySem.W.Frag} {ds : List PyData} {Φ : PyData → Prop}
end
end DL

set_option Elab.async false
set_option linter.all false
set_option maxRecDepth 100000
set_option maxHeartbeats 4000000
/-! DK5: where two are unlike, as the law looks; another one -/
namespace DL
open PySem PySem.Spec PyProof.Rows L2
local macro_rules | `(tactic| walk_at "dl") => `(tactic| repeat' (first
  | with_reducible refine wd_isTy ?_ | with_reducible refine wd_isi ?_ | ((with_reducible show WD _ _ (tOp (rIxL _) (tVar _) _) _ _); refine wd_ix_own rfl ?_) | with_reducible refine wd_op ?_ | ((with_reducible show WD _ _ (tCB (rLenX _) (tCons (tVar _) tNil)) _ _); refine wd_len_scr rfl ?_) | ((with_reducible show WD _ _ (tCB (rLenX _) (tCons (tVar _) tNil)) _ _); refine wd_len_own rfl ?_) | with_reducible refine wd_cb ?_ | with_reducible refine wd_un ?_ | with_reducible refine wa_cons ?_ | with_reducible refine wa_nil ?_ | ((with_reducible show WD _ _ (tVar _) _ _); refine wd_var rfl ?_) | with_reducible refine wd_int ?_ | with_reducible refine wd_bl ?_ | with_reducible refine wd_str ?_ | with_reducible refine wd_non ?_
  | with_reducible refine do_nesS ?_ | with_reducible refine dc_intB ?_ | with_reducible refine do_add ?_ | with_reducible refine do_sub ?_ | ((with_reducible refine do_mod ?_ ?_); decide) | with_reducible refine do_mod ?_ ?_ | with_reducible refine do_mul ?_ ?_ | ((with_reducible refine do_div ?_ ?_); exact ⟨by decide, by decide⟩) | with_reducible refine do_div ?_ ?_ | ((with_reducible refine do_pow ?_ ?_); exact ⟨by decide, by decide, by decide⟩) | with_reducible refine do_pow ?_ ?_
  | with_reducible refine do_lt ?_ | with_reducible refine do_le ?_ | with_reducible refine do_gt ?_ | with_reducible refine do_ge ?_ | with_reducible refine du_neg ?_
  | with_reducible refine do_eqi ?_ | with_reducible refine do_nei ?_ | with_reducible refine do_eqs ?_ | with_reducible refine do_nes ?_ | with_reducible refine dc_abs ?_ | with_reducible refine dc_min ?_ | with_reducible refine dc_max ?_ | with_reducible refine dc_lenL ?_ | with_reducible refine dc_lenT ?_ | with_reducible refine dc_lenR ?_ | with_reducible refine dc_listT ?_ | with_reducible refine dc_listL ?_ | with_reducible refine dc_tupL ?_ | with_reducible refine dc_gcd ?_
  | ((with_reducible show DO _ (rIxT _) _ _ _); refine do_ixT rfl ?_) | ((with_reducible show DO _ (rIxL _) _ _ _); refine do_ixL rfl ?_) | ((with_reducible refine do_catL ?_ ?_); exact Nat.le_of_ble_eq_true rfl) | with_reducible refine do_catL ?_ ?_ | ((with_reducible show And (List.length _ ≤ sizeLine) _); refine ⟨Nat.le_of_ble_eq_true rfl, ?_⟩)
  | with_reducible refine wd_dnew ?_ | with_reducible refine wd_call0 ?_ | with_reducible refine wd_slA ?_ | with_reducible refine wd_slL ?_ | with_reducible refine wd_revT ?_ | with_reducible refine do_catA ?_ ?_ | with_reducible refine wo_part ?_ | with_reducible refine wo_none ?_ | with_reducible refine do_eqQ ?_ | with_reducible refine do_neQ ?_ | with_reducible refine wi_enumT ?_ | with_reducible refine wi_enumD ?_ | with_reducible refine tAdQ (by omega) (by omega) ?_ | with_reducible refine tSbQ (by omega) (by omega) ?_ | with_reducible refine tMlQ (by omega) (by omega) ?_ | with_reducible refine tDvQ (by assumption) (by omega) (by omega) ?_ | with_reducible refine tLtQ (by omega) (by omega) ?_ | with_reducible refine dc_str ?_ ?_ | with_reducible refine wd_tup ?_ | with_reducible refine wd_lst ?_ | with_reducible refine wt_test ?_ | with_reducible refine wt_B ?_ | with_reducible refine wt_not ?_ | with_reducible refine wt_and ?_ | with_reducible refine wt_or ?_ | with_reducible refine wd_ifE ?_ | with_reducible refine wd_andV ?_ | with_reducible refine wd_orV ?_ | with_reducible refine wd_notV ?_
  | with_reducible refine ws_seq ?_ | with_reducible refine ws_next ?_ | with_reducible refine ws_asg ?_ | with_reducible refine ws_ret ?_ | with_reducible refine ws_retN ?_ | with_reducible refine ws_if ?_ | with_reducible refine ws_par ?_ | with_reducible refine ws_unp2 ?_
  | with_reducible refine if_t ?_ | with_reducible refine if_f ?_ | with_reducible refine if_nf ?_ | with_reducible refine if_nt ?_
  | ((with_reducible show Exists _); first | refine ⟨_, kitInt _, ?_⟩ | refine ⟨_, kitBool _, ?_⟩ | refine ⟨_, kitTup _, ?_⟩ | refine ⟨_, kitList _, ?_⟩ | refine ⟨_, rfl, ?_⟩ | refine ⟨_, _, rfl, ?_⟩ | fail) | fail))
def TUnR : List PyData → (PyData → Prop) → Prop := fun ds Φ => ∃ (bs ts cs zs : List Int) (p q : Nat) (us vs xs ys : List Int) (d : Int), ds = [GvD bs ts, GvD cs zs, .int d] ∧ Rl bs ts p us vs ∧ Rl cs zs q xs ys ∧ Φ (.bool (!decide (rgI p us d ↔ rgI q xs d)))
def TUnF : List PyData → (PyData → Prop) → Prop := fun ds Φ => ∃ (bs ts cs zs : List Int) (p q : Nat) (us vs xs ys : List Int) (d : Int), ds = [GvD bs ts, GvD cs zs, .int d] ∧ Rl bs ts p us vs ∧ Rl cs zs q xs ys ∧ d.natAbs ≤ 2 ^ 60 ∧
  ∀ o, FirstUp (fun x => ¬ (inD p us vs x ↔ inD q xs ys x)) d o → (∀ e, o = some e → e.natAbs < 2 ^ 62) → Φ (oI o)
def TOtherO : Nat → List PyData → (PyData → Nat → Prop) → Prop := fun B ds Φ => ∃ bs ts : List Int, ds = [GvD bs ts] ∧ Rst bs ∧ Trn ts ∧ B + 1000 ≤ 2 ^ 40 ∧ ∀ (cs zs : List Int) (B' : Nat), Rst cs → Trn zs → B' ≤ B + 300 → Φ (GvD cs zs) B'
def t_unR (K : PySem.W.Frag) : TS :=
  (tRet (tOp rNe (tOp (rIxL K) (tOp (rIxT K) (tVar 0) (tC (.int 0))) (tOp rModI (tVar 2) (tCB (rLenX K) (tCons (tOp (rIxT K) (tVar 0) (tC (.int 0))) tNil)))) (tOp (rIxL K) (tOp (rIxT K) (tVar 1) (tC (.int 0))) (tOp rModI (tVar 2) (tCB (rLenX K) (tCons (tOp (rIxT K) (tVar 1) (tC (.int 0))) tNil))))))
def t_unF (K : PySem.W.Frag) : TS :=
  (tSeq (tAsg (tLc (iList K (tOp (rIxT K) (tVar 0) (tC (.int 1)))) (gName 6) (tTest (tOp (rIn K true) (tVar 6) (tOp (rIxT K) (tVar 1) (tC (.int 1))))) (tVar 6) [6]) (gName 3))
    (tSeq (tAsg (tOp rCatL (tVar 3) (tLc (iList K (tOp (rIxT K) (tVar 1) (tC (.int 1)))) (gName 6) (tTest (tOp (rIn K true) (tVar 6) (tOp (rIxT K) (tVar 0) (tC (.int 1))))) (tVar 6) [6])) (gName 3))
    (tSeq (tAsg (tCB (rDictP K) (tCons (tLc (iList K (tVar 3)) (gName 6) (tTest (tOp rGe (tVar 6) (tVar 2))) (tTup (tCons (tVar 6) (tCons (tC (.bl true)) tNil))) [6]) tNil)) (gName 3))
    (tSeq (tAsg (tOp rAddI (tCB (rLenX K) (tCons (tOp (rIxT K) (tVar 0) (tC (.int 0))) tNil)) (tCB (rLenX K) (tCons (tOp (rIxT K) (tVar 1) (tC (.int 0))) tNil))) (gName 4))
    (tSeq (tIfS (tTest (tOp (rIn K true) (tC (.bl true)) (tLc (iRng1 (tCons (tVar 4) tNil)) (gName 5) tYes (tCall (spP K TUnR) [] E0 (tCons (tVar 0) (tCons (tVar 1) (tCons (tVar 5) tNil)))) [5]))) (tRet (tIf (tTest (tOp rNeDE (tVar 3) tDNewK)) (tCB (rMin K) (tCons (tCB rListD (tCons (tVar 3) tNil)) tNil)) (tC .non))) tNext)
    (tSeq (tFor (iRng2 (tCons (tVar 2) (tCons (tOp rAddI (tVar 2) (tOp rMulI (tVar 4) (tOp rAddI (tCB rLenDK (tCons (tVar 3) tNil)) (tC (.int 1))))) tNil))) (gName 5) (tIfS (tTest (tOp rNe (tCall (spP K TUnR) [] E0 (tCons (tVar 0) (tCons (tVar 1) (tCons (tVar 5) tNil)))) (tDIn (tVar 5) (tVar 3)))) (tRet (tVar 5)) tNext))
    (tRet (tC .non))))))))
def t_otherO (K : PySem.W.Frag) : TS :=
  (tSeq (tAsg (tVar 1) (gTup K 2 (gCons (gName 2) (gCons (gName 3) gNil))))
    (tSeq (tPar 4 5 (tCons (tCall (spS K FPot TTake) [] E0 (tCons (tVar 0) (tCons (tC (.int 6)) tNil))) (tCons (tCall (spS K FPot TTake) [] E0 (tCons (tVar 0) (tCons (tCB (rLenX K) (tCons (tVar 2) tNil)) tNil))) tNil)))
    (tSeq (tAsg (tOp rSubI (tCall (spS K FPot TTake) [] E0 (tCons (tVar 0) (tCons (tC (.int 40)) tNil))) (tC (.int 20))) (gName 6))
    (tSeq (tIfS (tTest (tOp rEq (tVar 4) (tC (.int 0)))) (tRet (tCall (spS K FPot TGiven) [] E0 (tCons (tVar 0) tNil))) tNext)
    (tSeq (tIfS (tAnd (tTest (tOp rEq (tVar 4) (tC (.int 1)))) (tTest (tOp rLt (tCB (rSum K) (tCons (tVar 2) tNil)) (tC (.int 400))))) (tRet (tTup (tCons (tOp rCatL (tOp rCatL (tSl (rSlL K) (tVar 2) tNoPart (tPart (tVar 5))) (tLst (tCons (tOp rSubI (tC (.int 1)) (tOp (rIxL K) (tVar 2) (tVar 5))) tNil))) (tSl (rSlL K) (tVar 2) (tPart (tOp rAddI (tVar 5) (tC (.int 1)))) tNoPart)) (tCons (tVar 3) tNil)))) tNext)
    (tSeq (tIfS (tAnd (tTest (tOp rEq (tVar 4) (tC (.int 2)))) (tTest (tOp rLe (tOp rMulI (tCB (rLenX K) (tCons (tVar 2) tNil)) (tC (.int 2))) (tC (.int 400))))) (tRet (tTup (tCons (tOp rRepL (tVar 2) (tC (.int 2))) (tCons (tRevL K (tVar 3)) tNil)))) tNext)
    (tSeq (tIfS (tAnd (tTest (tOp rEq (tVar 4) (tC (.int 3)))) (tTest (tOp rLt (tCB (rLenX K) (tCons (tVar 3) tNil)) (tC (.int 60))))) (tRet (tTup (tCons (tVar 2) (tCons (tCall (spP K TUnlike) [] E0 (tCons (tOp rCatL (tVar 3) (tLst (tCons (tVar 6) tNil))) tNil)) tNil)))) tNext)
    (tRet (tTup (tCons (tVar 2) (tCons (tSl (rSlL K) (tVar 3) (tPart (tC (.int 1))) tNoPart) tNil)))))))))))
section
variable {p q : Nat} {us vs xs ys bs ts cs zs : List Int}
end
section
variable {K : PySem.W.Frag} {ds : List PyData} {Φ : PyData → Prop}
end
section
variable {K : PySem.W.Frag} {S : Stt} {B : Nat} {ds : List PyData} {Φ : PyData → Nat → Prop}
end
end DL

set_option Elab.async false
set_option linter.all false
set_option maxRecDepth 100000
set_option maxHeartbeats 4000000
/-! DK6: law k17 -/
namespace DL
open PySem PySem.Spec PyProof.Rows L2
local macro_rules | `(tactic| walk_at "dl") => `(tactic| repeat' (first
  | with_reducible refine wd_isTy ?_ | with_reducible refine wd_isi ?_ | ((with_reducible show WD _ _ (tOp (rIxL _) (tVar _) _) _ _); refine wd_ix_own rfl ?_) | with_reducible refine wd_op ?_ | ((with_reducible show WD _ _ (tCB (rLenX _) (tCons (tVar _) tNil)) _ _); refine wd_len_scr rfl ?_) | ((with_reducible show WD _ _ (tCB (rLenX _) (tCons (tVar _) tNil)) _ _); refine wd_len_own rfl ?_) | with_reducible refine wd_cb ?_ | with_reducible refine wd_un ?_ | with_reducible refine wa_cons ?_ | with_reducible refine wa_nil ?_ | ((with_reducible show WD _ _ (tVar _) _ _); refine wd_var rfl ?_) | with_reducible refine wd_int ?_ | with_reducible refine wd_bl ?_ | with_reducible refine wd_str ?_ | with_reducible refine wd_non ?_
  | with_reducible refine do_nesS ?_ | with_reducible refine dc_intB ?_ | with_reducible refine do_add ?_ | with_reducible refine do_sub ?_ | ((with_reducible refine do_mod ?_ ?_); decide) | with_reducible refine do_mod ?_ ?_ | with_reducible refine do_mul ?_ ?_ | ((with_reducible refine do_div ?_ ?_); exact ⟨by decide, by decide⟩) | with_reducible refine do_div ?_ ?_ | ((with_reducible refine do_pow ?_ ?_); exact ⟨by decide, by decide, by decide⟩) | with_reducible refine do_pow ?_ ?_
  | with_reducible refine do_lt ?_ | with_reducible refine do_le ?_ | with_reducible refine do_gt ?_ | with_reducible refine do_ge ?_ | with_reducible refine du_neg ?_
  | with_reducible refine do_eqi ?_ | with_reducible refine do_nei ?_ | with_reducible refine do_eqs ?_ | with_reducible refine do_nes ?_ | with_reducible refine dc_abs ?_ | with_reducible refine dc_min ?_ | with_reducible refine dc_max ?_ | with_reducible refine dc_lenL ?_ | with_reducible refine dc_lenT ?_ | with_reducible refine dc_lenR ?_ | with_reducible refine dc_listT ?_ | with_reducible refine dc_listL ?_ | with_reducible refine dc_tupL ?_ | with_reducible refine dc_gcd ?_
  | ((with_reducible show DO _ (rIxT _) _ _ _); refine do_ixT rfl ?_) | ((with_reducible show DO _ (rIxL _) _ _ _); refine do_ixL rfl ?_) | ((with_reducible refine do_catL ?_ ?_); exact Nat.le_of_ble_eq_true rfl) | with_reducible refine do_catL ?_ ?_ | ((with_reducible show And (List.length _ ≤ sizeLine) _); refine ⟨Nat.le_of_ble_eq_true rfl, ?_⟩)
  | with_reducible refine wd_dnew ?_ | with_reducible refine wd_call0 ?_ | with_reducible refine wd_slA ?_ | with_reducible refine wd_slL ?_ | with_reducible refine wd_revT ?_ | with_reducible refine do_catA ?_ ?_ | with_reducible refine wo_part ?_ | with_reducible refine wo_none ?_ | with_reducible refine do_eqQ ?_ | with_reducible refine do_neQ ?_ | with_reducible refine wi_enumT ?_ | with_reducible refine wi_enumD ?_ | with_reducible refine tAdQ (by omega) (by omega) ?_ | with_reducible refine tSbQ (by omega) (by omega) ?_ | with_reducible refine tMlQ (by omega) (by omega) ?_ | with_reducible refine tDvQ (by assumption) (by omega) (by omega) ?_ | with_reducible refine tLtQ (by omega) (by omega) ?_ | with_reducible refine dc_str ?_ ?_ | with_reducible refine wd_tup ?_ | with_reducible refine wd_lst ?_ | with_reducible refine wt_test ?_ | with_reducible refine wt_B ?_ | with_reducible refine wt_not ?_ | with_reducible refine wt_and ?_ | with_reducible refine wt_or ?_ | with_reducible refine wd_ifE ?_ | with_reducible refine wd_andV ?_ | with_reducible refine wd_orV ?_ | with_reducible refine wd_notV ?_
  | with_reducible refine ws_seq ?_ | with_reducible refine ws_next ?_ | with_reducible refine ws_asg ?_ | with_reducible refine ws_ret ?_ | with_reducible refine ws_retN ?_ | with_reducible refine ws_if ?_ | with_reducible refine ws_par ?_ | with_reducible refine ws_unp2 ?_
  | with_reducible refine if_t ?_ | with_reducible refine if_f ?_ | with_reducible refine if_nf ?_ | with_reducible refine if_nt ?_
  | ((with_reducible show Exists _); first | refine ⟨_, kitInt _, ?_⟩ | refine ⟨_, kitBool _, ?_⟩ | refine ⟨_, kitTup _, ?_⟩ | refine ⟨_, kitList _, ?_⟩ | refine ⟨_, rfl, ?_⟩ | refine ⟨_, _, rfl, ?_⟩ | fail) | fail))
def t_law17 (K : PySem.W.Frag) (Cd : Addr) : TS :=
  (tSeq (tFor (iRng1 (tCons (tCB rMaxX (tCons (tC (.int 2)) (tCons (tCB rMinX (tCons (tC (.int 10)) (tCons (tCB (rLenX K) (tCons (tVar 0) tNil)) tNil))) tNil))) tNil)) (gName 1) (tSeq (tAsg (tCall (spReel K) [] E0 (tCons (tVar 0) (tCons (tVar 1) tNil))) (gName 2))
    (tSeq (tAsg (tCall (spS K FPot TGiven) [] E0 (tCons (tVar 2) tNil)) (gName 3))
    (tSeq (tAsg (tCall (spS K FPot TOtherO) [] E0 (tCons (tVar 2) (tCons (tVar 3) tNil))) (gName 4))
    (tSeq (tPar 5 6 (tCons (tCall (spP K (TPut13 Cd)) [] E0 (tCons (tVar 3) tNil)) (tCons (tCall (spP K (TPut13 Cd)) [] E0 (tCons (tVar 4) tNil)) tNil)))
    (tFor (iList K (tCall (spS K FPot TAboutB) [] E0 (tCons (tVar 2) (tCons (tVar 3) tNil)))) (gName 7) (tSeq (tPar 8 9 (tCons (tCall (spP K TFst) [] E0 (tCons (tVar 3) (tCons (tVar 7) (tCons (tUn rNegI (tC (.int 1))) tNil)))) (tCons (tCall (spP K TFst) [] E0 (tCons (tVar 3) (tCons (tOp rAddI (tVar 7) (tC (.int 1))) (tCons (tC (.int 1)) tNil)))) tNil)))
    (tSeq (tAsg (tIf (tOr (tTest (tOp rIsNone (tVar 8) (tC .non))) (tTest (tOp rIsNone (tVar 9) (tC .non)))) (tC .non) (tTup (tCons (tVar 8) (tCons (tVar 9) tNil)))) (gName 10))
    (tSeq (tAsg (tLst (tCons (tCall (spP K (TLast Cd)) [] E0 (tCons (tVar 5) (tCons (tOp rAddI (tVar 7) (tC (.int 1))) tNil))) (tCons (tCallN 0 2 (spP K (TLast Cd)) gVrev3 E0 tNil (tCons (tOp rAddI (tVar 7) (tC (.int 1))) (tCons (tVar 5) tNil))) tNil))) (gName 11))
    (tSeq (tIfS (tTest (tOp rNe (tCB (rReprY K) (tCons (tVar 11) tNil)) (tCB (rReprY K) (tCons (tLst (tCons (tVar 8) (tCons (tVar 8) tNil))) tNil)))) (tRet (tC (.bl false))) tNext)
    (tSeq (tIfS (tTest (tOp rNe (tCB (rReprY K) (tCons (tLst (tCons (tCall (spP K (TPay Cd)) [] E0 (tCons (tVar 5) (tCons (tVar 7) tNil))) (tCons (tCallN 0 2 (spP K (TPay Cd)) gVrev3 E0 tNil (tCons (tVar 7) (tCons (tVar 5) tNil))) tNil))) tNil)) (tCB (rReprY K) (tCons (tOp rRepL (tLst (tCons (tVar 10) tNil)) (tC (.int 2))) tNil)))) (tRet (tC (.bl false))) tNext)
    (tSeq (tAsg (tCall (spP K TUnF) [] E0 (tCons (tVar 3) (tCons (tVar 4) (tCons (tVar 7) tNil)))) (gName 10))
    (tSeq (tIfS (tTest (tOp rNe (tCB (rReprY K) (tCons (tCall (spP K (TUnlD Cd)) [] E0 (tCons (tVar 5) (tCons (tVar 6) (tCons (tVar 7) tNil)))) tNil)) (tCB (rReprY K) (tCons (tVar 10) tNil)))) (tRet (tC (.bl false))) tNext)
    (tIfS (tTest (tOp rNe (tCB (rReprY K) (tCons (tCallN 0 3 (spP K (TUnlD Cd)) gVrev3 E0 tNil (tCons (tVar 7) (tCons (tVar 5) (tCons (tVar 6) tNil)))) tNil)) (tCB (rReprY K) (tCons (tVar 10) tNil)))) (tRet (tC (.bl false))) tNext))))))))))))))
    (tRet (tC (.bl true))))
section
variable {K : PySem.W.Frag}
end
end DL

set_option Elab.async false
set_option linter.all false
set_option maxRecDepth 100000
set_option maxHeartbeats 4000000
/-! DK7: for the law's end -/
namespace DL
open PySem PySem.Spec PyProof.Rows L2
end DL

set_option Elab.async false
set_option linter.all false
set_option maxRecDepth 100000
set_option maxHeartbeats 4000000
/-! DN1: == and != by an own __eq__ -/
namespace DL
open PySem PySem.Spec PyProof.Rows L2
section
variable {M : Model} {prog : Program} {w : World} {A : Around} {E : Value → Shared → Prop} {s : Shared} {K : PySem.W.Frag} {x C f : Addr} {ox : Obj} {od : Option Obj} {b tb : Value}
theorem ifBound_objNe {args : List Value} {Q : Option Value → Shared → Prop} (X : K.In s.heap) (I : PySem.W.InstAt s.heap x ox C od) (hs : PySem.W.findIn K (.ref C) "__ne__" = some (some (.builtin "object.__ne__")))
    (h : wpAny M A (call (.builtin "object.__ne__") (.ref x :: args)) (fun v => Q (some v)) E s) : wpAny M A (callSpecialIfBound? (.ref x) "__ne__" args) Q E s := by
  simp only [callSpecialIfBound?, bindSpecialIfBound?]
  refine wpAny_holding (wpAny_bind (wpAny_bind (wpAny_bind (I.type.here ((PySem.W.looks_findIn X hs).here ?_)))))
  refine wpAny_bind (wpAny_askSetting (wpAny_ite ?_))
  have fin : wpAny M A (call (.builtin "object.__ne__") ([.ref x] ++ args) >>= fun v => pure (some v)) Q E s := wpAny_bind (wpAny_mono h (fun v s' h' => wpAny_pure h') fun _ _ h' => h')
  split
  · exact wpAny_bind (wpAny_of_eq (F.cmp_object.ne.bind _) (wpAny_pure (by exact fin)))
  · exact wpAny_tryCatch (wpAny_bind (wpAny_of_eq (F.cmp_object.ne.bind _) (wpAny_pure (by exact fin))))
theorem entry_ne {Q : Fin → Shared → Prop} (hu : A.units < cLine) (X : K.In s.heap) (I : PySem.W.InstAt s.heap x ox C od) (hs : PySem.W.findIn K (.ref C) "__eq__" = some (some (.ref f))) (hf : PySem.W.isFn K (.ref f) = true)
    (h : wpAny M A (call (.ref f) [.ref x, b]) (fun v s' => ∃ r, v = .bool r ∧ Q (.done (.ret (.bool (!r)))) s') E s) : wpAny M A (Builtin.«object.__ne__» ⟨[.ref x, b], []⟩) Q E s := by
  unfold Builtin.«object.__ne__»
  repeat (first
    | with_reducible refine wpAny_cRoomFor hu ?_
    | (refine wpAny_bind (m := callSpecialIfBound? (.ref x) (Str.ofString "__eq__") [b]) (PySem.W.ifBound_K X I hs hf (wpAny_mono h (fun r s' hr => by
        obtain ⟨b, rfl, hq⟩ := hr
        repeat (first | exact hq | exact wpAny_pure hq | exact wpAny_truthy_bool hq | (refine wpAny_bind (m := truthy (.bool _)) (wpAny_truthy_bool ?_)) | wp_step)) fun _ _ e => e)))
    | wp_step)
theorem ne_K {Q : Value → Shared → Prop} {h₀ : Heap} {L : List Addr} {m : Addr → Nat} (hu : A.units + 1 < cLine) (X : K.In s.heap) (I : PySem.W.InstAt s.heap x ox C od) (hb : PySem.W.Looks (model prog w) s.heap (typeOf b) tb) (hn : PySem.W.notFirst K C tb = true)
    (hm : PySem.W.mroIn K C (.type "object") = some true) (hne : PySem.W.findIn K (.ref C) "__ne__" = some (some (.builtin "object.__ne__"))) (hs : PySem.W.findIn K (.ref C) "__eq__" = some (some (.ref f))) (hf : PySem.W.isFn K (.ref f) = true)
    (h : wpAny (model prog w) A.in1 (call (.ref f) [.ref x, b]) (fun v s' => ∃ r, v = .bool r ∧ Q (.bool (!r)) s') E s) : wpAny (model prog w) A (richCompare .NotEq (.ref x) b) Q E s := by
  have one : wpAny (model prog w) A (tryCompare (.ref x) "__ne__" b) (fun r s' => ∃ v, r = some v ∧ Q v s') E s := by
    unfold tryCompare
    refine wpAny_bind (ifBound_objNe X I hne (wpAny_call (codeAny_call_builtin F.cmp_object.ne.plain F.cmpEntry_ne (PySem.W.check_slot F.cmpKind_ne F.cmpSplit_ne (I.type.andThen (PySem.W.looks_mroIn X hm)) (F.cmpArgs_ne _ _)
      (entry_ne (A := A.in1) hu X I hs hf (wpAny_mono h (fun v s' hv => ?_) fun _ _ e => e))))))
    obtain ⟨r, rfl, hq⟩ := hv
    first | exact ⟨r, rfl, wpAny_pure ⟨_, rfl, hq⟩⟩ | exact ⟨r, rfl, wpAny_pure (wpAny_pure ⟨_, rfl, hq⟩)⟩ | exact ⟨r, rfl, ⟨_, rfl, hq⟩⟩
  unfold richCompare
  simp only [oneThing_ref]
  refine wpAny_holding (wpAny_bind (wpAny_cRoomFor (Nat.lt_of_succ_lt hu) ?_))
  refine wpAny_bind (I.type.here (wpAny_bind (hb.here ?_)))
  split
  · rename_i q
    have e : PySem.W.subIn K tb (.ref C) = some false := by
      rcases Bool.or_eq_true_iff.mp hn with e | e
      · rw [beq_iff_eq.mp e] at q; simp at q
      · exact beq_iff_eq.mp e
    refine wpAny_bind ((PySem.W.looks_subIn X e).here ?_)
    simp only [Bool.false_eq_true, if_false]
    refine wpAny_bind (wpAny_mono one (fun r s' z => ?_) fun _ _ e => e)
    obtain ⟨v, rfl, hq⟩ := z
    exact wpAny_pure hq
  · refine wpAny_bind (wpAny_pure ?_)
    simp only [Bool.false_eq_true, if_false]
    refine wpAny_bind (wpAny_mono one (fun r s' z => ?_) fun _ _ e => e)
    obtain ⟨v, rfl, hq⟩ := z
    exact wpAny_pure hq
end
end DL

set_option Elab.async false
set_option linter.all false
set_option maxRecDepth 100000
set_option maxHeartbeats 4000000
/-! DN2: == and != by an own __eq__, as operators and over data -/
namespace DL
open PySem PySem.Spec PyProof.Rows L2
/-- what is known of a class with an own __eq__ -/
structure EqC (K : PySem.W.Frag) (C f : Addr) : Prop where
  eq : PySem.W.findIn K (.ref C) "__eq__" = some (some (.ref f))
  fn : PySem.W.isFn K (.ref f) = true
  ne : PySem.W.findIn K (.ref C) "__ne__" = some (some (.builtin "object.__ne__"))
  mr : PySem.W.mroIn K C (.type "object") = some true
/-- x op y, x an instance of the class at C: what its own __eq__ tells, turned about or not -/
def rEqOwn (K : PySem.W.Frag) (C : Addr) (neg : Bool) (sp : Sp) (E : XK) : R2 := fun x y H Q => ∃ (a dx : Addr) (fs : List (Str × V)) (tv : Value), x = .ref a ∧ H a = some (.ins C dx fs) ∧ TyX K H y tv ∧ PySem.W.notFirst K C tv = true ∧ sp [x, y] H (fun v H' => ∃ b, v = .bl b ∧ Q (.bl (b != neg)) H') E
section
variable {X : Cx} {CX : CXT} {k : Nat} {C f : Addr} {fd : FuncData} {ps : List Str} {sp : Sp} {E : XK}
theorem tyX_looks {X : Cx} {pins : List (Addr × Obj)} {σ : L2.St} {H : Hp} {s : Shared} {x : V} {u t : Value} (I : L2.Inv X pins σ H s) (rx : RelV x u) (ty : TyX X.K H x t) {M : Model} : PySem.W.Looks M s.heap (typeOf u) t := by
  obtain ⟨P, Z, p, _⟩ := kit_of I rx ty
  exact Z.ty M s.heap I.kIn p
theorem own_call (c : EqC X.K C f) (F : FnOk X.prog X.w X.K X.mg X.base CX k f fd ps sp) (hb : Binds X.K fd ps []) (hx : Passes CX X E) {A : Around} (hA : Room k A) (fr : A.frames = X.A.frames) {pins : List (Addr × Obj)} {σ : L2.St} {H : Hp} {s : Shared} (I : L2.Inv X pins σ H s) {a : Addr} {y : V} {u : Value} (ry : RelV y u) {Q : VK}
    (hsp : sp [.ref a, y] H Q E) : wpAny (model X.prog X.w) A (call (.ref f) [.ref a, u]) (fun v s' => ∃ w H', L2.Inv X pins σ H' s' ∧ RelV w v ∧ Q w H') X.xe s := by
  have e0 : Env0 X.prog X.w X.K X.mg X.base A X.stack s H := by
    have e := I.env0
    exact ⟨by rw [fr]; exact e.frames, e.mod, e.bs, e.bsz, e.funs, e.frf, e.hok, e.bare⟩
  have hl := F.len _ _ _ _ hsp
  have r2 : Vals [V.ref a, y] [Value.ref a, u] := .cons rfl (.cons ry .nil)
  refine wpAny_call (codeAny_mono (F.run A X.stack s H ⟨[.ref a, u], []⟩ [.ref a, u] [.ref a, y] _ E hA e0 (by
    have := hb s [.ref a, u] I.kIn (by simpa using hl)
    simpa using this) r2 hsp) fun r s' hq => ?_)
  cases r with
  | error e => exact hx pins σ H s e s' I hq
  | ok fl =>
    cases fl with
    | ret w =>
      obtain ⟨z, H', I', rz, ez⟩ := I.after hq
      exact ⟨z, H', I', rz, ez⟩
    | next => exact False.elim hq
    | brk => exact False.elim hq
    | cont => exact False.elim hq
theorem op_eqOwn (c : EqC X.K C f) (F : FnOk X.prog X.w X.K X.mg X.base CX k f fd ps sp) (hb : Binds X.K fd ps []) (hx : Passes CX X E) (hr : Room (k + 1) X.A) : OpR X (compareOp .Eq) (rEqOwn X.K C false sp E) := by
  intro pins s σ H x y v u Q I rx ry h
  obtain ⟨a, dx, fs, tv, rfl, ha, ty, nf, hsp⟩ := h
  obtain rfl : v = Value.ref a := rx
  obtain ⟨mA, J, _⟩ := ins_get I.hok ha
  obtain ⟨od, J, _⟩ := J.look
  obtain ⟨m, hF⟩ := I.fr
  show wpAny (model X.prog X.w) X.A (richCompare .Eq (.ref a) u) _ _ _
  refine PySem.W.cmp_K (op := .Eq) (tb := tv) hr.units0 hF I.ok.mod.kin J (tyX_looks I ry ty) nf c.eq c.fn ?_
  refine wpAny_mono (own_call c F hb hx (hr.mono (Nat.le_succ _)) rfl I ry hsp) (fun v s' hv => ?_) fun _ _ e => e
  obtain ⟨w, H', I', rw', b, rfl, q⟩ := hv
  cases rw'
  refine ⟨.bl b, H', I', rfl, ?_⟩
  have e : (b != false) = b := by cases b <;> rfl
  rw [e] at q; exact q
theorem op_neOwn (c : EqC X.K C f) (F : FnOk X.prog X.w X.K X.mg X.base CX k f fd ps sp) (hb : Binds X.K fd ps []) (hx : Passes CX X E) (hr : Room (k + 1) X.A) : OpR X (compareOp .NotEq) (rEqOwn X.K C true sp E) := by
  intro pins s σ H x y v u Q I rx ry h
  obtain ⟨a, dx, fs, tv, rfl, ha, ty, nf, hsp⟩ := h
  obtain rfl : v = Value.ref a := rx
  obtain ⟨mA, J, _⟩ := ins_get I.hok ha
  obtain ⟨od, J, _⟩ := J.look
  obtain ⟨m, hF⟩ := I.fr
  show wpAny (model X.prog X.w) X.A (richCompare .NotEq (.ref a) u) _ _ _
  refine ne_K (h₀ := X.base) (L := []) (m := fun _ => 0) (by have := hr.units; omega) I.kIn J (tyX_looks I ry ty) nf c.mr c.ne c.eq c.fn ?_
  refine wpAny_mono (own_call c F hb hx hr.in1 rfl I ry hsp) (fun v s' hv => ?_) fun _ _ e => e
  obtain ⟨w, H', I', rw', b, rfl, q⟩ := hv
  cases rw'
  refine ⟨b, rfl, .bl (!b), H', I', rfl, ?_⟩
  have e : (b != true) = !b := by cases b <;> rfl
  rw [e] at q; exact q
end
end DL

set_option Elab.async false
set_option linter.all false
set_option maxRecDepth 100000
set_option maxHeartbeats 4000000
/-! DN3: one form of days; what days are in -/
namespace DL
open PySem PySem.Spec PyProof.Rows L2
/-- normal Days: the least period, which divides M; n turned days at most, no further than B -/
structure Ny (M n B : Nat) (p : Nat) (us vs : List Int) : Prop where
  d : Dy p us vs
  least : ∀ j : Nat, 1 ≤ j → j < p → ¬ ∀ x : Int, rgI p us (x + j) ↔ rgI p us x
  pm : p ∣ M
  vn : vs.length ≤ n
  vB : ∀ v ∈ vs, v.natAbs ≤ B
theorem ris_same : ∀ {l m : List Int}, Ris l → Ris m → (∀ x, x ∈ l ↔ x ∈ m) → l = m
  | [], [], _, _, _ => rfl
  | [], b :: _, _, _, h => by have := (h b).mpr List.mem_cons_self; cases this
  | a :: _, [], _, _, h => by have := (h a).mp List.mem_cons_self; cases this
  | a :: l, b :: m, h1, h2, h => by
    have c1 := List.pairwise_cons.mp (show (a :: l).Pairwise (· < ·) from h1)
    have c2 := List.pairwise_cons.mp (show (b :: m).Pairwise (· < ·) from h2)
    have e : a = b := by
      rcases List.mem_cons.mp ((h a).mp List.mem_cons_self) with z | z
      · exact z
      · rcases List.mem_cons.mp ((h b).mpr List.mem_cons_self) with y | y
        · exact y.symm
        · have := c1.1 b y
          have := c2.1 a z
          omega
    subst e
    rw [ris_same c1.2 c2.2 fun x => ?_]
    constructor
    · intro hx
      rcases List.mem_cons.mp ((h x).mp (List.mem_cons_of_mem _ hx)) with z | z
      · have := c1.1 x hx; omega
      · exact z
    · intro hx
      rcases List.mem_cons.mp ((h x).mpr (List.mem_cons_of_mem _ hx)) with z | z
      · have := c2.1 x hx; omega
      · exact z
section
variable {p q M M' n n' B B' : Nat} {us vs xs ys : List Int}
theorem reg_same (h : Dy p us vs) (h2 : Dy q xs ys) (e : ∀ d, inD p us vs d ↔ inD q xs ys d) : ∀ x, rgI p us x ↔ rgI q xs x := by
  refine two_per (f := rgI p us) (g := rgI q xs) (b := 4611686018427387905) h.p1 h2.p1 (rgI_per h.p1) (rgI_per h2.p1) fun x h1 _ => ?_
  have n1 : x ∉ vs := fun z => by have := h.vb x z; omega
  have n2 : x ∉ ys := fun z => by have := h2.vb x z; omega
  have := e x
  unfold inD at this
  by_cases c1 : rgI p us x <;> by_cases c2 : rgI q xs x <;> simp [c1, c2, n1, n2] at this ⊢
theorem rgI_mem (h : Dy p us vs) (u : Int) : u ∈ us ↔ (0 ≤ u ∧ u < p) ∧ rgI p us u := by
  constructor
  · intro hu
    have b := h.ub u hu
    refine ⟨b, ?_⟩
    unfold rgI
    rw [Int.emod_eq_of_lt b.1 b.2]; exact hu
  · rintro ⟨b, r⟩
    unfold rgI at r
    rw [Int.emod_eq_of_lt b.1 b.2] at r; exact r
theorem Ny.uniq (h : Ny M n B p us vs) (h2 : Ny M' n' B' q xs ys) (e : ∀ d, inD p us vs d ↔ inD q xs ys d) : p = q ∧ us = xs ∧ vs = ys := by
  have r := reg_same h.d h2.d e
  have pq : p = q := by
    refine Nat.le_antisymm (Nat.le_of_not_lt fun z => ?_) (Nat.le_of_not_lt fun z => ?_)
    · exact h.least q h2.d.p1 z fun x => by rw [r, r, rgI_per h2.d.p1]
    · exact h2.least p h.d.p1 z fun x => by rw [← r, ← r, rgI_per h.d.p1]
  subst pq
  refine ⟨rfl, ris_same h.d.ur h2.d.ur fun u => ?_, ris_same h.d.vr h2.d.vr fun v => ?_⟩
  · rw [rgI_mem h.d, rgI_mem h2.d, r]
  · have := e v
    have rv := r v
    unfold inD at this
    by_cases c1 : rgI p us v <;> by_cases c2 : v ∈ vs <;> by_cases c3 : v ∈ ys <;> simp [c1, c2, c3, ← rv] at this ⊢
end
/-- d is Days, these days -/
def IsDy (Cd : Addr) (M n B : Nat) (P : Int → Prop) (d : PyData) : Prop := ∃ p us vs, d = dayD Cd p us vs ∧ Ny M n B p us vs ∧ ∀ x, inD p us vs x ↔ P x
theorem DyF.ny {n : Nat} {ms ts : List Int} {p : Nat} {us vs : List Int} (h : DyF n ms ts p us vs) (hm : ∀ m ∈ ms, 0 ≤ m ∧ m < n) (n2 : n ≤ 5040) (ml : ms.length ≤ 5040) {k B : Nat} (tl : ts.length ≤ k) (k1 : k ≤ 1000) (tb : ∀ t ∈ ts, t.natAbs ≤ B) (B1 : B ≤ 4611686018427387904) {M : Nat} (hM : n ∣ M) :
    Ny M k B p us vs ∧ ∀ x : Int, rgI p us x ↔ x % n ∈ ms := by
  have p1 := h.p1
  have pn := h.pn
  have rg : ∀ x : Int, rgI p us x ↔ x % n ∈ ms := fun x => by
    have := decide_eq_decide.mp (h.has hm x)
    rw [Int.fmod_eq_emod_of_nonneg _ (by omega), Int.fmod_eq_emod_of_nonneg _ (by omega)] at this
    exact this
  have D : Dy p us vs := by
    refine ⟨p1, by omega, h.ur, fun u hu => ?_, by have := h.ul; omega, h.vr, by have := h.vl; omega, fun v hv => by have := tb v ((h.vm v).mp hv); omega⟩
    obtain ⟨z1, z2⟩ := (h.um u).mp hu
    exact ⟨(hm u z1).1, z2⟩
  refine ⟨⟨D, fun j j1 jp z => ?_, Nat.dvd_trans h.dv hM, by have := h.vl; omega, fun v hv => tb v ((h.vm v).mp hv)⟩, rg⟩
  refine h.least j j1 jp fun i => ?_
  have e1 : ((i % n : Nat) : Int) = (i : Int) % n := Int.natCast_emod ..
  have e2 : (((i + j) % n : Nat) : Int) = ((i : Int) + j) % n := by rw [Int.natCast_emod, Int.natCast_add]
  rw [e1, e2, ← rg, ← rg]
  exact (z i).symm
/-! ### how many -/
open Classical in
/-- how many of the k numbers from a on -/
noncomputable def cN (P : Int → Prop) (a : Int) : Nat → Int
  | 0 => 0
  | k + 1 => cN P a k + (if P (a + k) then 1 else 0)
theorem cntD_cN {p : Nat} {us vs : List Int} (D : Dy p us vs) {P : Int → Prop} (e : ∀ x, inD p us vs x ↔ P x) (a : Int) (k : Nat) : cntD p us vs a (a + k) = cN P a k := by
  induction k with
  | zero =>
    rw [cntD_free fun t _ h1 h2 => by omega]
    simp [cN]
  | succ k ih =>
    rw [show a + ((k + 1 : Nat) : Int) = a + k + 1 by omega, cntD_succ D (by omega), ih]
    show _ = cN P a k + _
    congr 1
    by_cases c : (rgI p us (a + k) ↔ a + (k : Int) ∈ vs)
    · rw [if_pos c, if_neg fun w => (e _).mpr w c]
    · rw [if_neg c, if_pos ((e _).mp c)]
theorem cN_both {P Q : Int → Prop} {a : Int} (k : Nat) : cN (fun x => P x ∧ Q x) a k + cN (fun x => P x ∨ Q x) a k = cN P a k + cN Q a k := by
  induction k with
  | zero => rfl
  | succ k ih =>
    simp only [cN]
    by_cases c1 : P (a + k) <;> by_cases c2 : Q (a + k) <;> simp [c1, c2] <;> omega
theorem cN_not {P : Int → Prop} {a : Int} (k : Nat) : cN P a k + cN (fun x => ¬ P x) a k = k := by
  induction k with
  | zero => rfl
  | succ k ih =>
    simp only [cN]
    by_cases c1 : P (a + k) <;> simp [c1] <;> omega
theorem cN_move {P : Int → Prop} {a s : Int} (k : Nat) : cN (fun x => P (x - s)) (a + s) k = cN P a k := by
  induction k with
  | zero => rfl
  | succ k ih =>
    have e : a + s + (k : Int) - s = a + k := by omega
    simp only [cN, ih]
    by_cases c : P (a + k)
    · have c' : P (a + s + k - s) := by rw [e]; exact c
      rw [if_pos c, if_pos c']
    · have c' : ¬ P (a + s + k - s) := by rw [e]; exact c
      rw [if_neg c, if_neg c']
end DL

set_option Elab.async false
set_option linter.all false
set_option maxRecDepth 100000
set_option maxHeartbeats 4000000
/-! DN4: own == over data; made and a field set; sets of days made of others -/
namespace DL
open PySem PySem.Spec PyProof.Rows L2
local macro_rules | `(tactic| walk_at "dl") => `(tactic| repeat' (first
  | with_reducible refine wd_isTy ?_ | with_reducible refine wd_isi ?_ | ((with_reducible show WD _ _ (tOp (rIxL _) (tVar _) _) _ _); refine wd_ix_own rfl ?_) | with_reducible refine wd_op ?_ | ((with_reducible show WD _ _ (tCB (rLenX _) (tCons (tVar _) tNil)) _ _); refine wd_len_scr rfl ?_) | ((with_reducible show WD _ _ (tCB (rLenX _) (tCons (tVar _) tNil)) _ _); refine wd_len_own rfl ?_) | with_reducible refine wd_cb ?_ | with_reducible refine wd_un ?_ | with_reducible refine wa_cons ?_ | with_reducible refine wa_nil ?_ | ((with_reducible show WD _ _ (tVar _) _ _); refine wd_var rfl ?_) | with_reducible refine wd_int ?_ | with_reducible refine wd_bl ?_ | with_reducible refine wd_str ?_ | with_reducible refine wd_non ?_
  | with_reducible refine do_nesS ?_ | with_reducible refine dc_intB ?_ | with_reducible refine do_add ?_ | with_reducible refine do_sub ?_ | ((with_reducible refine do_mod ?_ ?_); decide) | with_reducible refine do_mod ?_ ?_ | with_reducible refine do_mul ?_ ?_ | ((with_reducible refine do_div ?_ ?_); exact ⟨by decide, by decide⟩) | with_reducible refine do_div ?_ ?_ | ((with_reducible refine do_pow ?_ ?_); exact ⟨by decide, by decide, by decide⟩) | with_reducible refine do_pow ?_ ?_
  | with_reducible refine do_lt ?_ | with_reducible refine do_le ?_ | with_reducible refine do_gt ?_ | with_reducible refine do_ge ?_ | with_reducible refine du_neg ?_
  | with_reducible refine do_eqi ?_ | with_reducible refine do_nei ?_ | with_reducible refine do_eqs ?_ | with_reducible refine do_nes ?_ | with_reducible refine dc_abs ?_ | with_reducible refine dc_min ?_ | with_reducible refine dc_max ?_ | with_reducible refine dc_lenL ?_ | with_reducible refine dc_lenT ?_ | with_reducible refine dc_lenR ?_ | with_reducible refine dc_listT ?_ | with_reducible refine dc_listL ?_ | with_reducible refine dc_tupL ?_ | with_reducible refine dc_gcd ?_
  | ((with_reducible show DO _ (rIxT _) _ _ _); refine do_ixT rfl ?_) | ((with_reducible show DO _ (rIxL _) _ _ _); refine do_ixL rfl ?_) | ((with_reducible refine do_catL ?_ ?_); exact Nat.le_of_ble_eq_true rfl) | with_reducible refine do_catL ?_ ?_ | ((with_reducible show And (List.length _ ≤ sizeLine) _); refine ⟨Nat.le_of_ble_eq_true rfl, ?_⟩)
  | with_reducible refine wd_dnew ?_ | with_reducible refine wd_call0 ?_ | with_reducible refine wd_slA ?_ | with_reducible refine wd_slL ?_ | with_reducible refine wd_revT ?_ | with_reducible refine do_catA ?_ ?_ | with_reducible refine wo_part ?_ | with_reducible refine wo_none ?_ | with_reducible refine do_eqQ ?_ | with_reducible refine do_neQ ?_ | with_reducible refine wi_enumT ?_ | with_reducible refine wi_enumD ?_ | with_reducible refine tAdQ (by omega) (by omega) ?_ | with_reducible refine tSbQ (by omega) (by omega) ?_ | with_reducible refine tMlQ (by omega) (by omega) ?_ | with_reducible refine tDvQ (by assumption) (by omega) (by omega) ?_ | with_reducible refine tLtQ (by omega) (by omega) ?_ | with_reducible refine dc_str ?_ ?_ | with_reducible refine wd_tup ?_ | with_reducible refine wd_lst ?_ | with_reducible refine wt_test ?_ | with_reducible refine wt_B ?_ | with_reducible refine wt_not ?_ | with_reducible refine wt_and ?_ | with_reducible refine wt_or ?_ | with_reducible refine wd_ifE ?_ | with_reducible refine wd_andV ?_ | with_reducible refine wd_orV ?_ | with_reducible refine wd_notV ?_
  | with_reducible refine ws_seq ?_ | with_reducible refine ws_next ?_ | with_reducible refine ws_asg ?_ | with_reducible refine ws_ret ?_ | with_reducible refine ws_retN ?_ | with_reducible refine ws_if ?_ | with_reducible refine ws_par ?_ | with_reducible refine ws_unp2 ?_
  | with_reducible refine if_t ?_ | with_reducible refine if_f ?_ | with_reducible refine if_nf ?_ | with_reducible refine if_nt ?_
  | ((with_reducible show Exists _); first | refine ⟨_, kitInt _, ?_⟩ | refine ⟨_, kitBool _, ?_⟩ | refine ⟨_, kitTup _, ?_⟩ | refine ⟨_, kitList _, ?_⟩ | refine ⟨_, rfl, ?_⟩ | refine ⟨_, _, rfl, ?_⟩ | fail) | fail))
/-- what is known of the class Days' own == -/
structure HasE (P : Program) (w : World) (K : PySem.W.Frag) (mg : Str → Option Value) (base : Heap) (CX : CXT) (C : Addr) (k : Nat) (sp : Sp) : Prop where
  ex : ∃ (f : Addr) (fd : FuncData), EqC K C f ∧ FnOk P w K mg base CX k f fd ["self", "other"] sp ∧ Binds K fd ["self", "other"] []
section
variable {X : Cx} {CX : CXT} {k : Nat} {C : Addr} {sp : Sp} {E : XK}
theorem op_eqOwnH (h : HasE X.prog X.w X.K X.mg X.base CX C k sp) (hr : Room (k + 1) X.A) (hx : Passes CX X E) : OpR X (compareOp .Eq) (rEqOwn X.K C false sp E) := by
  obtain ⟨f, fd, c, F, hb⟩ := h.ex
  exact op_eqOwn c F hb hx hr
theorem op_neOwnH (h : HasE X.prog X.w X.K X.mg X.base CX C k sp) (hr : Room (k + 1) X.A) (hx : Passes CX X E) : OpR X (compareOp .NotEq) (rEqOwn X.K C true sp E) := by
  obtain ⟨f, fd, c, F, hb⟩ := h.ex
  exact op_neOwn c F hb hx hr
end
def rLcm : List V → Hp → VK → Prop := fun xs H Q => ∃ a b : Int, xs = [.int a, .int b] ∧ a.natAbs < 2 ^ 64 ∧ b.natAbs < 2 ^ 64 ∧ Q (.int (Nat.lcm a.natAbs b.natAbs : Nat)) H
theorem cr_lcm {X : Cx} : CallR X (.builtin "math.lcm") rLcm := by
  intro pins s σ H vs us Q I r h
  obtain ⟨a, b, rfl, h1, h2, q⟩ := h
  obtain ⟨t, u, rfl⟩ := Vals.int2 r
  exact PySem.W.mc_lcm h1 h2 fun _ => ⟨.int _, H, I.tok _, ⟨_, rfl⟩, q⟩
section
variable {K : PySem.W.Frag} {S : Stt} {ρ : Rho} {Φ : PyData → Rho → Prop} {Ψ : PyData → Prop} {C : Addr}
theorem dc_lcm {a b : Nat} (h1 : a < 2 ^ 64) (h2 : b < 2 ^ 64) (f : Ψ (.int (Nat.lcm a b : Nat))) : DC K rLcm [.int a, .int b] Ψ := fun N H _ us hu Q q => by
  cases hu with
  | cons d1 d2 =>
    cases d2 with
    | cons d2 d3 =>
      cases d3; cases d1; cases d2
      exact ⟨a, b, rfl, by rw [Int.natAbs_natCast]; exact h1, by rw [Int.natAbs_natCast]; exact h2, q _ _ H f (Same.refl H) (Dt.int _)⟩
theorem wd_isiC {te : TE} (h : WD K S te ρ fun d ρ1 => ∃ b, PySem.W.kitOne K (tyV d) (.ref C) = some b ∧ Φ (.bool b) ρ1) : WD K S (tCB (rIsi K) (tCons te (tCons (tC (.ref C)) tNil))) ρ Φ := fun H0 N0 Z N σ H E Q q =>
  h H0 N0 Z N σ H E _ fun v d ρ1 H1 ⟨b, e, f⟩ E1 k1 d1 => ⟨v, .ref C, tyV d, .ref C, b, rfl, .own C, dt_tyX d1.dt, e, q _ _ ρ1 H1 f E1 k1 (Dt.bl b)⟩
theorem wd_cmpOwn {neg : Bool} {T : List PyData → (PyData → Prop) → Prop} {E : XK} {ta tb : TE} (h : WD K S ta ρ fun x ρ1 => WD K S tb ρ1 fun y ρ2 => ∃ ps, x = insD C ps ∧ PySem.W.notFirst K C (tyV y) = true ∧ T [x, y] fun d => ∃ b, d = .bool b ∧ Φ (.bool (b != neg)) ρ2) :
    WD K S (tOp (rEqOwn K C neg (spP K T) E) ta tb) ρ Φ := fun H0 N0 Z N σ H E' Q q =>
  h H0 N0 Z N σ H E' _ fun u x ρ1 H1 h1 E1 k1 d1 => h1 H0 N0 Z N σ H1 E1 _ fun v y ρ2 H2 ⟨ps, e, nf, t⟩ E2 k2 d2 => by
    have d1' := d1.keep k2
    rw [e] at d1'
    obtain ⟨a, dx, fs, rfl, na, ha, c, tt⟩ := d1'.ins_inv
    refine ⟨a, dx, fs, tyV y, rfl, ha, dt_tyX d2.dt, nf, N, [x, y], _, E2.trk, .cons (d1.keep k2) (.cons d2 .nil), t, fun d fd v H3 s dv => ?_⟩
    obtain ⟨b, rfl, fd⟩ := fd
    obtain rfl := dv.bool_inv
    exact ⟨b, rfl, q _ _ ρ2 H3 fd (E2.ext s) ((k1.trans k2).trans (Keep.of s)) (Dt.bl _)⟩
theorem strs_of {N : Av} {H : Hp} : ∀ {ks : List Str} {xs : List V}, DqAll K N H xs (ks.map PyData.str) → xs = ks.map V.str
  | [], _, h => by cases h; rfl
  | a :: r, _, h => by
    cases h with
    | cons g1 g2 => cases g1; rw [strs_of g2]; rfl
theorem inV_strs (z : Str) : ∀ ks : List Str, inV (.str z) (ks.map V.str) = decide (z ∈ ks)
  | [] => by simp [inV]
  | a :: r => by
    have ih := inV_strs z r
    unfold inV at ih ⊢
    rw [List.map_cons, List.any_cons, ih]
    have e : eqV (.str a) (.str z) = decide (a = z) := by
      show (a == z) = decide (a = z)
      by_cases c : a = z
      · subst c; rw [decide_eq_true rfl]; exact beq_self_eq_true a
      · rw [decide_eq_false c]; exact beq_eq_false_iff_ne.mpr c
    rw [e]
    by_cases c : a = z
    · subst c; simp
    · have c2 : ¬ z = a := fun w => c w.symm
      simp [c, c2]
theorem do_inSt {z : Str} {ks : List Str} (f : Ψ (.bool (decide (z ∈ ks)))) : DO K (rIn K false) (.str z) (.tuple (ks.map PyData.str)) Ψ := fun N H _ u w hu hw Q q => by
  cases hu
  obtain ⟨p, xs, rfl, _, h1, h2⟩ := hw.tup_inv
  obtain rfl := strs_of h2
  have fl : (ks.map V.str).all flatV = true := by rw [List.all_eq_true]; intro x hx; obtain ⟨k, _, rfl⟩ := List.mem_map.mp hx; rfl
  refine ⟨p, _, rfl, .inr h1, rfl, fl, ?_⟩
  rw [if_neg Bool.false_ne_true, inV_strs]
  exact q _ _ H f (Same.refl H) (Dt.bl _)
/-- x = C(..); x.f = e; return x -/
theorem ws_mkset {T : List PyData → (Flds → Prop) → Prop} {dvs : List V} {dds : List PyData} {E : XK} {ta : TA} {te : TE} {i : Nat} {f : Str} {En : DE} (cC : OwnC K C) (na : NoAttr K C f) (hd : ∀ H : Hp, DtAll K H dvs dds)
    (h : WA K S0 ta ρ fun xs ρ1 => plD ρ1 ∧ T (xs ++ dds) fun ps => ps.length < 999 ∧ ∀ x dx fs, WD K (mkSelf x C dx fs) te (ρ1.set i (.sto 0)) fun d ρ2 => ρ2[i]? = some (.sto 0) ∧ ∀ n, En.rt (insD C (putP f d ps)) (List.replicate n .unk)) :
    WS K S0 (tSeq (tAsg (tMake C (spIni K C T) dvs E ta) (gName i)) (tSeq (sFld K (tVar i) te f) (tRet (tVar i)))) ρ En := fun H0 N0 Z N σ H D E' M => by
  refine h H0 N0 Z N σ H E' _ fun vs xs ρ1 H1 ⟨pl, hT⟩ E1 k1 d1 x dx hx hdx ne => ?_
  have d1 := d1.append (hd (wo N H1))
  have s0 : Same H1 (upd (upd H1 dx (.own x)) x (.ins C dx [])) := fun b o hb => by
    have n1 : b ≠ x := fun z => by rw [z, hx] at hb; cases hb
    have n2 : b ≠ dx := fun z => by rw [z, hdx] at hb; cases hb
    rw [upd_ne n1, upd_ne n2]; exact hb
  have nx : N x = false := fresh_av E1.trk hx
  refine ⟨fun b => N b || decide (b = x), x, dx, vs ++ dvs, xs ++ dds, _, rfl, fun b hb => ?_, ?_, ?_, upd_same, hT, fun ps fs H' fp kp hx' t => ⟨rfl, ?_⟩⟩
  · rcases Bool.or_eq_true_iff.mp hb with e | e
    · intro z
      cases q2 : H1 b with
      | none => exact E1.trk b e q2
      | some o => rw [s0 b o q2] at z; cases z
    · rw [of_decide_eq_true e, upd_same]; simp
  · show (N x || decide (x = x)) = true; rw [decide_eq_true rfl, Bool.or_true]
  · refine dpall_mono (fun b o hb => ?_) (xs ++ dds) (vs ++ dvs) d1
    obtain ⟨n, hb⟩ := wo_some hb
    have n1 : b ≠ x := fun z => by rw [z, hx] at hb; cases hb
    rw [wo_in (by show (N b || decide (b = x)) = false; rw [n, decide_eq_false n1]; rfl)]
    exact s0 b o hb
  obtain ⟨pl9, g⟩ := fp
  have s1 : Same H1 H' := fun b o hb => kp b o (fun z => by rw [z, hx] at hb; cases hb) (s0 b o hb)
  have kw : Same (wo N H1) (wo (fun b => N b || decide (b = x)) H') := fun b o h => by
    obtain ⟨n, h⟩ := wo_some h
    have hb : b ≠ x := ne_of_none h hx
    rw [wo_in (by simp [n, hb])]
    exact s1 b o h
  have h0x : H0 x = none := by
    cases q : H0 x with
    | none => rfl
    | some o => have := E1.keep x o rfl q; rw [hx] at this; cases this
  have n0x : N0 x = false := by
    cases q : N0 x with
    | false => rfl
    | true => rw [E1.base x q] at nx; cases nx
  have E2 : EnvD K (mkSelf x C dx fs) H0 N0 Z (fun b => N b || decide (b = x)) (σ.set i (some (.ref x))) H' (ρ1.set i (.sto 0)) := by
    refine ⟨fun b o n h => s1 b o (E1.keep b o rfl h), fun b h => by show (N b || _) = true; rw [E1.base b h]; rfl, fun b h => ?_, fun b h => by show (N b || decide (b = x)) = true; rw [show decide (b = x) = true from h, Bool.or_true], fun j s h => ?_, by rw [List.length_set, List.length_set]; exact E1.len, fun z h => ?_, fun a da dj q ha h1 hz => ?_, E1.injZ, fun a b da db q ha hb h1 h2 => ?_⟩
    · by_cases e : b = x
      · subst e; rw [hx']; simp
      · have n : N b = true := by simpa [e] using h
        intro z
        cases q : H1 b with
        | none => exact E1.trk b n q
        | some o => rw [s1 b o q] at z; cases z
    · rcases get_set h with ⟨e, e2⟩ | ⟨e, h⟩
      · subst e; subst e2
        have hi : i < σ.length := by
          have := (List.getElem?_eq_some_iff.mp h).1
          rw [List.length_set] at this
          rw [← E1.len]; exact this
        exact ⟨set_eq hi, hx'⟩
      · refine SlOk.other e ?_
        have w := E1.slot j s h
        rcases pl s (List.mem_of_getElem? h) with rfl | ⟨d, rfl⟩
        · trivial
        · obtain ⟨v, g1, g2⟩ := w
          exact ⟨v, g1, dp_mono kw _ _ g2⟩
    · have w := E1.hid z h
      cases z with
      | dat v d => exact dp_mono kw _ _ w
      | own q es =>
        obtain ⟨ys, h2, h3, h4, h5, h6, h7⟩ := w
        refine ⟨ys, by show (N q || _) = true; rw [h2]; rfl, ?_, h4, h5, s1 _ _ h6, dpall_mono kw _ _ h7⟩
        exact decide_eq_false fun e => by rw [e, hx] at h6; cases h6
    · rcases get_set ha with ⟨e, e2⟩ | ⟨e, ha⟩
      · cases e2
      · rcases pl _ (List.mem_of_getElem? ha) with e | ⟨d, e⟩ <;> cases e
    · rcases get_set ha with ⟨e, e2⟩ | ⟨e, ha⟩
      · cases e2
      · rcases pl _ (List.mem_of_getElem? ha) with e | ⟨d, e⟩ <;> cases e
  show (tSeq (sFld K (tVar i) te f) (tRet (tVar i))) D (σ.set i (some (.ref x))) H'
  refine g x dx fs H0 N0 Z _ _ H' E2 _ fun v d ρ2 H2 ⟨e2, r⟩ E3 k3 d3 => ?_
  obtain ⟨g1, g2⟩ := E3.slot i _ e2
  have g2 : H2 x = some (.ins C dx fs) := g2
  refine ⟨_, g1, x, C, dx, fs, rfl, g2, cC.cls, na, by rw [kv_len t]; omega, _, g1, ?_⟩
  have hw : wo (fun b => N b || decide (b = x)) (upd H2 x (.ins C dx (putF f v fs))) = wo (fun b => N b || decide (b = x)) H2 := by
    funext b
    by_cases e : b = x
    · subst e
      rw [wo_out (by simp), wo_out (by simp)]
    · unfold wo; rw [upd_ne e]
  have le0 : Le N0 (fun b => N b || decide (b = x)) := E2.base
  refine M.rt (fun b => N b || decide (b = x)) (σ.set i (some (V.ref x))) _ (List.replicate (σ.set i (some (V.ref x))).length .unk) _ _ (r _) ?_ ?_
  · refine ⟨fun b o _ h => ?_, le0, fun b h => ?_, fun b h => (nomatch h), fun j s h => ?_, List.length_replicate, fun z h => ?_, fun a da dj q ha h1 hz => ?_, E3.injZ, fun a b da db q ha hb h1 h2 => ?_⟩
    · have nb : b ≠ x := fun e => by rw [e, h0x] at h; cases h
      rw [upd_ne nb]
      exact E3.keep b o (decide_eq_false nb) h
    · by_cases e : b = x
      · subst e; rw [upd_same]; simp
      · rw [upd_ne e]; exact E3.trk b h
    · have := List.eq_of_mem_replicate (List.mem_of_getElem? h)
      subst this; trivial
    · have w := E3.hid z h
      cases z with
      | dat v d =>
        show Dt K (wo _ _) v d
        rw [hw]; exact w
      | own q es =>
        obtain ⟨ys, h2, h3, h4, h5, h6, h7⟩ := w
        have nq : q ≠ x := of_decide_eq_false h3
        refine ⟨ys, h2, rfl, h4, h5, by rw [upd_ne nq]; exact h6, ?_⟩
        show DtAll K (wo _ _) ys es
        rw [hw]; exact h7
    · have := List.eq_of_mem_replicate (List.mem_of_getElem? ha)
      cases this
    · have := List.eq_of_mem_replicate (List.mem_of_getElem? ha)
      cases this
  · refine Dq.ins n0x upd_same cC (kv_put ?_ ?_)
    · have w : Dt K (wo (fun b => N b || decide (b = x)) (upd H2 x (.ins C dx (putF f v fs)))) v d := by rw [hw]; exact d3
      exact Dq.le (N' := fun b => N b || decide (b = x)) w le0
    · refine kv_le (N' := fun b => N b || decide (b = x)) ?_ le0
      rw [hw]
      exact dpkv_mono k3.wo ps fs t
end
end DL

set_option Elab.async false
set_option linter.all false
set_option maxRecDepth 100000
set_option maxHeartbeats 4000000
/-! DN5: sets of days made of others -/
namespace DL
open PySem PySem.Spec PyProof.Rows L2
local macro_rules | `(tactic| walk_at "dl") => `(tactic| repeat' (first
  | with_reducible refine wd_isTy ?_ | with_reducible refine wd_isi ?_ | ((with_reducible show WD _ _ (tOp (rIxL _) (tVar _) _) _ _); refine wd_ix_own rfl ?_) | with_reducible refine wd_op ?_ | ((with_reducible show WD _ _ (tCB (rLenX _) (tCons (tVar _) tNil)) _ _); refine wd_len_scr rfl ?_) | ((with_reducible show WD _ _ (tCB (rLenX _) (tCons (tVar _) tNil)) _ _); refine wd_len_own rfl ?_) | with_reducible refine wd_cb ?_ | with_reducible refine wd_un ?_ | with_reducible refine wa_cons ?_ | with_reducible refine wa_nil ?_ | ((with_reducible show WD _ _ (tVar _) _ _); refine wd_var rfl ?_) | with_reducible refine wd_int ?_ | with_reducible refine wd_bl ?_ | with_reducible refine wd_str ?_ | with_reducible refine wd_non ?_
  | with_reducible refine do_nesS ?_ | with_reducible refine dc_intB ?_ | with_reducible refine do_add ?_ | with_reducible refine do_sub ?_ | ((with_reducible refine do_mod ?_ ?_); decide) | with_reducible refine do_mod ?_ ?_ | with_reducible refine do_mul ?_ ?_ | ((with_reducible refine do_div ?_ ?_); exact ⟨by decide, by decide⟩) | with_reducible refine do_div ?_ ?_ | ((with_reducible refine do_pow ?_ ?_); exact ⟨by decide, by decide, by decide⟩) | with_reducible refine do_pow ?_ ?_
  | with_reducible refine do_lt ?_ | with_reducible refine do_le ?_ | with_reducible refine do_gt ?_ | with_reducible refine do_ge ?_ | with_reducible refine du_neg ?_
  | with_reducible refine do_eqi ?_ | with_reducible refine do_nei ?_ | with_reducible refine do_eqs ?_ | with_reducible refine do_nes ?_ | with_reducible refine dc_abs ?_ | with_reducible refine dc_min ?_ | with_reducible refine dc_max ?_ | with_reducible refine dc_lenL ?_ | with_reducible refine dc_lenT ?_ | with_reducible refine dc_lenR ?_ | with_reducible refine dc_listT ?_ | with_reducible refine dc_listL ?_ | with_reducible refine dc_tupL ?_ | with_reducible refine dc_gcd ?_
  | ((with_reducible show DO _ (rIxT _) _ _ _); refine do_ixT rfl ?_) | ((with_reducible show DO _ (rIxL _) _ _ _); refine do_ixL rfl ?_) | ((with_reducible refine do_catL ?_ ?_); exact Nat.le_of_ble_eq_true rfl) | with_reducible refine do_catL ?_ ?_ | ((with_reducible show And (List.length _ ≤ sizeLine) _); refine ⟨Nat.le_of_ble_eq_true rfl, ?_⟩)
  | with_reducible refine wd_dnew ?_ | with_reducible refine wd_call0 ?_ | with_reducible refine wd_slA ?_ | with_reducible refine wd_slL ?_ | with_reducible refine wd_revT ?_ | with_reducible refine do_catA ?_ ?_ | with_reducible refine wo_part ?_ | with_reducible refine wo_none ?_ | with_reducible refine do_eqQ ?_ | with_reducible refine do_neQ ?_ | with_reducible refine wi_enumT ?_ | with_reducible refine wi_enumD ?_ | with_reducible refine tAdQ (by omega) (by omega) ?_ | with_reducible refine tSbQ (by omega) (by omega) ?_ | with_reducible refine tMlQ (by omega) (by omega) ?_ | with_reducible refine tDvQ (by assumption) (by omega) (by omega) ?_ | with_reducible refine tLtQ (by omega) (by omega) ?_ | with_reducible refine dc_str ?_ ?_ | with_reducible refine wd_tup ?_ | with_reducible refine wd_lst ?_ | with_reducible refine wt_test ?_ | with_reducible refine wt_B ?_ | with_reducible refine wt_not ?_ | with_reducible refine wt_and ?_ | with_reducible refine wt_or ?_ | with_reducible refine wd_ifE ?_ | with_reducible refine wd_andV ?_ | with_reducible refine wd_orV ?_ | with_reducible refine wd_notV ?_
  | with_reducible refine ws_seq ?_ | with_reducible refine ws_next ?_ | with_reducible refine ws_asg ?_ | with_reducible refine ws_ret ?_ | with_reducible refine ws_retN ?_ | with_reducible refine ws_if ?_ | with_reducible refine ws_par ?_ | with_reducible refine ws_unp2 ?_
  | with_reducible refine if_t ?_ | with_reducible refine if_f ?_ | with_reducible refine if_nf ?_ | with_reducible refine if_nt ?_
  | ((with_reducible show Exists _); first | refine ⟨_, kitInt _, ?_⟩ | refine ⟨_, kitBool _, ?_⟩ | refine ⟨_, kitTup _, ?_⟩ | refine ⟨_, kitList _, ?_⟩ | refine ⟨_, rfl, ?_⟩ | refine ⟨_, _, rfl, ?_⟩ | fail) | fail))
def sgN (b : Bool) : Nat := if b then 49 else 48
def TEqD (Cd : Addr) : List PyData → (PyData → Prop) → Prop := fun ds Φ => ∃ (p q : Nat) (us vs xs ys : List Int), ds = [dayD Cd p us vs, dayD Cd q xs ys] ∧ Φ (.bool (decide (p = q ∧ us = xs ∧ vs = ys)))
def TToldD (Cd : Addr) : List PyData → (PyData → Prop) → Prop := fun ds Φ => ∃ (n : Nat) (b c : Bool) (ms ts : List Int), ds = [.int n, rowD b (ms.map PyData.int), rowD c (ts.map PyData.int)] ∧ DyOk n ms [] ∧ ts.Nodup ∧ ts.length ≤ 1000 ∧ ∀ p us vs, DyF n ms ts p us vs → Φ (dayD Cd p us vs)
def TSgn : List PyData → (PyData → Prop) → Prop := fun ds Φ => ∃ b : Bool, ds = [.bool b] ∧ Φ (.str (SX.S [sgN b]))
def TJoin (Cd : Addr) : List PyData → (PyData → Prop) → Prop := fun ds Φ => ∃ (kcs : List (List Nat)) (op : Bool → Bool → Bool) (p q : Nat) (us vs xs ys : List Int), ds = [dayD Cd p us vs, dayD Cd q xs ys, .tuple ((kcs.map SX.S).map PyData.str)] ∧
  (∀ a b : Bool, decide ([sgN a, sgN b] ∈ kcs) = op a b) ∧ Dy p us vs ∧ Dy q xs ys ∧ Nat.lcm p q ≤ 5040 ∧ vs.length + ys.length ≤ 1000 ∧
  (∀ L : List Int, L.Nodup → (∀ r ∈ L, (0 ≤ r ∧ r < Nat.lcm p q) ∧ op (decide (rgI p us r)) (decide (rgI q xs r)) = true) → L.length ≤ 4000) ∧
  ∀ p' us' vs', Ny (Nat.lcm p q) (vs.length + ys.length) 4611686018427387904 p' us' vs' → (∀ v ∈ vs', v ∈ vs ∨ v ∈ ys) → (∀ x, inD p' us' vs' x ↔ op (decide (inD p us vs x)) (decide (inD q xs ys x)) = true) → Φ (dayD Cd p' us' vs')
def TJn (Cd : Addr) (op : Prop → Prop → Prop) : List PyData → (PyData → Prop) → Prop := fun ds Φ => ∃ (M n1 n2 B : Nat) (P Q : Int → Prop) (p q : Nat) (us vs xs ys : List Int), ds = [dayD Cd p us vs, dayD Cd q xs ys] ∧ Ny M n1 B p us vs ∧ (∀ x, inD p us vs x ↔ P x) ∧ Ny M n2 B q xs ys ∧ (∀ x, inD q xs ys x ↔ Q x) ∧
  1 ≤ M ∧ M ≤ 5040 ∧ n1 + n2 ≤ 1000 ∧ (∀ L : List Int, L.Nodup → (∀ r ∈ L, (0 ≤ r ∧ r < Nat.lcm p q) ∧ op (rgI p us r) (rgI q xs r)) → L.length ≤ 4000) ∧ ∀ z, IsDy Cd M (n1 + n2) B (fun d => op (P d) (Q d)) z → Φ z
def TOthD (Cd : Addr) : List PyData → (PyData → Prop) → Prop := fun ds Φ => ∃ (M n B : Nat) (P : Int → Prop) (p : Nat) (us vs : List Int), ds = [dayD Cd p us vs] ∧ Ny M n B p us vs ∧ (∀ x, inD p us vs x ↔ P x) ∧ p ≤ 4000 ∧ B ≤ 4611686018427387904 ∧ n ≤ 1000 ∧ ∀ z, IsDy Cd M n B (fun d => ¬ P d) z → Φ z
def TMovD (Cd : Addr) : List PyData → (PyData → Prop) → Prop := fun ds Φ => ∃ (M n B : Nat) (P : Int → Prop) (p : Nat) (us vs : List Int) (s : Int), ds = [dayD Cd p us vs, .int s] ∧ Ny M n B p us vs ∧ (∀ x, inD p us vs x ↔ P x) ∧ us.length ≤ 4000 ∧ B + s.natAbs ≤ 4611686018427387904 ∧ n ≤ 1000 ∧ ∀ z, IsDy Cd M n (B + s.natAbs) (fun d => P (d - s)) z → Φ z
def TAllD (Cd : Addr) (P : Prop) : List PyData → (PyData → Prop) → Prop := fun ds Φ => ds = [] ∧ ∀ z, (∀ M, IsDy Cd M 0 0 (fun _ => P) z) → Φ z
def t_eqD (K : PySem.W.Frag) (Cd : Addr) : TS :=
  (tRet (tAndV (tCB (rIsi K) (tCons (tVar 1) (tCons (tC (.ref Cd)) tNil))) (tAndV (tOp rEq (tFld K (tVar 0) "period") (tFld K (tVar 1) "period")) (tAndV (tOp (rEqD K) (tFld K (tVar 0) "marks") (tFld K (tVar 1) "marks")) (tOp (rEqD K) (tFld K (tVar 0) "turned") (tFld K (tVar 1) "turned"))))))
def t_toldD (K : PySem.W.Frag) (Cd aT : Addr) : TS :=
  (tSeq (tAsg (tMake Cd (spIni K Cd TIniD) [.ref aT] E0 (tCons (tVar 0) (tCons (tVar 1) tNil))) (gName 3))
    (tSeq (sFld K (tVar 3) (tCB (rTupOf K) (tCons (tCB (rSortR K) (tCons (tVar 2) tNil)) tNil)) "turned")
    (tRet (tVar 3))))
def t_sgn : TS :=
  (tRet (tIf (tB (tVar 0)) (tC (.str "1")) (tC (.str "0"))))
def t_join (K : PySem.W.Frag) (Cd : Addr) : TS :=
  (tSeq (tAsg (tCB rLcm (tCons (tFld K (tVar 0) "period") (tCons (tFld K (tVar 1) "period") tNil))) (gName 3))
    (tSeq (tIfS (tTest (tOp rGt (tVar 3) (tC (.int 5040)))) tNo tNext)
    (tSeq (tAsg (tOp rMulS (tCall (spP K (TPatD Cd)) [] E0 (tCons (tVar 0) tNil)) (tOp rDivI (tVar 3) (tFld K (tVar 0) "period"))) (gName 4))
    (tSeq (tAsg (tOp rMulS (tCall (spP K (TPatD Cd)) [] E0 (tCons (tVar 1) tNil)) (tOp rDivI (tVar 3) (tFld K (tVar 1) "period"))) (gName 5))
    (tSeq (tAsg (tLc (iRng1 (tCons (tVar 3) tNil)) (gName 10) tYes (tOp (rIn K false) (tOp rAddS (tOp rIxS (tVar 4) (tVar 10)) (tOp rIxS (tVar 5) (tVar 10))) (tVar 2)) [10]) (gName 6))
    (tSeq (tAsg (tLst tNil) (gName 7))
    (tSeq (tFor (iList K (tSortSet K (tOp (rCatA K) (tFld K (tVar 0) "turned") (tFld K (tVar 1) "turned")))) (gName 8) (tSeq (tAsg (tOp rAddS (tCall (spP K TSgn) [] E0 (tCons (tMeth Cd "has" (spP K (THasD Cd)) [] E0 (tVar 0) (tCons (tVar 8) tNil)) tNil)) (tCall (spP K TSgn) [] E0 (tCons (tMeth Cd "has" (spP K (THasD Cd)) [] E0 (tVar 1) (tCons (tVar 8) tNil)) tNil))) (gName 9))
    (tIfS (tTest (tOp rNe (tOp (rIn K false) (tVar 9) (tVar 2)) (tOp (rIxL K) (tVar 6) (tOp rModI (tVar 8) (tVar 3))))) (tDrop (tBM K "list" rAppend (tVar 7) (tCons (tVar 8) tNil))) tNext)))
    (tRet (tCall (spP K (TToldD Cd)) [] E0 (tCons (tVar 3) (tCons (tLc (iRng1 (tCons (tVar 3) tNil)) (gName 10) (tB (tOp (rIxL K) (tVar 6) (tVar 10))) (tVar 10) [10]) (tCons (tVar 7) tNil))))))))))))
def t_both (K : PySem.W.Frag) (Cd : Addr) : TS :=
  (tRet (tCall (spP K (TJoin Cd)) [] E0 (tCons (tVar 0) (tCons (tVar 1) (tCons (tTup (tCons (tC (.str "11")) tNil)) tNil)))))
def t_either (K : PySem.W.Frag) (Cd : Addr) : TS :=
  (tRet (tCall (spP K (TJoin Cd)) [] E0 (tCons (tVar 0) (tCons (tVar 1) (tCons (tTup (tCons (tC (.str "11")) (tCons (tC (.str "10")) (tCons (tC (.str "01")) tNil)))) tNil)))))
def t_without (K : PySem.W.Frag) (Cd : Addr) : TS :=
  (tRet (tCall (spP K (TJoin Cd)) [] E0 (tCons (tVar 0) (tCons (tVar 1) (tCons (tTup (tCons (tC (.str "10")) tNil)) tNil)))))
def t_othD (K : PySem.W.Frag) (Cd : Addr) : TS :=
  (tSeq (tAsg (tCall (spP K (TPatD Cd)) [] E0 (tCons (tVar 0) tNil)) (gName 1))
    (tSeq (tAsg (tLc (iRng1 (tCons (tFld K (tVar 0) "period") tNil)) (gName 3) (tTest (tOp rEq (tOp rIxS (tVar 1) (tVar 3)) (tC (.str "0")))) (tVar 3) [3]) (gName 2))
    (tRet (tCall (spP K (TToldD Cd)) [] E0 (tCons (tFld K (tVar 0) "period") (tCons (tVar 2) (tCons (tFld K (tVar 0) "turned") tNil)))))))
def t_movD (K : PySem.W.Frag) (Cd : Addr) : TS :=
  (tSeq (tAsg (tLc (iTup K (tFld K (tVar 0) "marks")) (gName 3) tYes (tOp rModI (tOp rAddI (tVar 3) (tVar 1)) (tFld K (tVar 0) "period")) [3]) (gName 2))
    (tRet (tCall (spP K (TToldD Cd)) [] E0 (tCons (tFld K (tVar 0) "period") (tCons (tVar 2) (tCons (tLc (iTup K (tFld K (tVar 0) "turned")) (gName 4) tYes (tOp rAddI (tVar 4) (tVar 1)) [4]) tNil))))))
def t_allD (K : PySem.W.Frag) (Cd aT : Addr) : TS :=
  (tRet (tMake Cd (spIni K Cd TIniD) [.ref aT] E0 (tCons (tC (.int 1)) (tCons (tTup (tCons (tC (.int 0)) tNil)) tNil))))
def t_noD (K : PySem.W.Frag) (Cd aT : Addr) : TS :=
  (tRet (tMake Cd (spIni K Cd TIniD) [.ref aT] E0 (tCons (tC (.int 1)) (tCons (tTup tNil) tNil))))
theorem eqv_tJ (as bs : List Int) : PyData.eqv (.tuple (as.map PyData.int)) (.tuple (bs.map PyData.int)) = decide (as = bs) := by
  simp only [PyData.eqv]
  induction as generalizing bs with
  | nil => cases bs <;> simp [PyData.eqvAll]
  | cons a as ih =>
    cases bs with
    | nil => simp [PyData.eqvAll]
    | cons b bs =>
      simp only [List.map_cons, PyData.eqvAll, PyData.eqv]
      rw [ih]
      by_cases h : a = b
      · subst h; simp
      · simp [h]
theorem sh_tJ (as : List Int) : SeqAt.shaped (.tuple (as.map PyData.int)) = true := (Sh.tup (n := 0) fun x hx => by
  obtain ⟨i, _, rfl⟩ := List.mem_map.mp hx
  exact Sh.int).ok (by decide)
section
variable {K : PySem.W.Frag} {ds : List PyData} {Φ : PyData → Prop} {Cd : Addr}
theorem ws_eqD (c : DayC K Cd) (kit : PySem.W.kitOne K (.ref Cd) (.ref Cd) = some true) (h : TEqD Cd ds Φ) : WS K S0 (t_eqD K Cd) (rhoOf 2 ds) { nx := fun _ => Φ .none, rt := fun d _ => Φ d } := by
  obtain ⟨p, q, us, vs, xs, ys, rfl, h⟩ := h
  show WS K S0 (t_eqD K Cd) [.dat (dayD Cd p us vs), .dat (dayD Cd q xs ys)] _
  unfold t_eqD
  refine ws_ret (wd_andV (wd_isiC (wd_var rfl ⟨true, kit, true, rfl, if_t ?_⟩)))
  refine wd_andV (wd_op (wd_fld (wd_var rfl ⟨Cd, _, _, rfl, c.p, rfl, wd_fld (wd_var rfl ⟨Cd, _, _, rfl, c.p, rfl, do_eqi ⟨_, rfl, ?_⟩⟩)⟩)))
  refine if_b (fun e1 => ?_) (fun e1 => ?_)
  · refine wd_andV (wd_op (wd_fld (wd_var rfl ⟨Cd, _, _, rfl, c.m, rfl, wd_fld (wd_var rfl ⟨Cd, _, _, rfl, c.m, rfl, do_eqD (sh_tJ _) (sh_tJ _) ⟨_, rfl, ?_⟩⟩)⟩)))
    rw [eqv_tJ]
    refine if_b (fun e2 => ?_) (fun e2 => ?_)
    · refine wd_op (wd_fld (wd_var rfl ⟨Cd, _, _, rfl, c.t, rfl, wd_fld (wd_var rfl ⟨Cd, _, _, rfl, c.t, rfl, do_eqD (sh_tJ _) (sh_tJ _) ?_⟩)⟩))
      rw [eqv_tJ]
      have e : decide (p = q ∧ us = xs ∧ vs = ys) = decide (vs = ys) := decide_eq_decide.mpr ⟨fun z => z.2.2, fun z => ⟨by omega, e2, z⟩⟩
      rw [e] at h; exact h
    · rw [decide_eq_false fun z : p = q ∧ us = xs ∧ vs = ys => e2 z.2.1] at h
      exact h
  · rw [decide_eq_false fun z : p = q ∧ us = xs ∧ vs = ys => e1 (by rw [z.1])] at h
    exact h
theorem ws_sgn (h : TSgn ds Φ) : WS K S0 t_sgn (rhoOf 1 ds) { nx := fun _ => Φ .none, rt := fun d _ => Φ d } := by
  obtain ⟨b, rfl, h⟩ := h
  show WS K S0 t_sgn [.dat (.bool b)] _
  unfold t_sgn
  refine ws_ret (wd_ifE (wt_B (wd_var rfl ⟨b, rfl, ?_⟩)))
  cases b with
  | true => exact if_t (wd_str h)
  | false => exact if_f (wd_str h)
theorem ws_told {aT : Addr} (c : DayC K Cd) (hT : ∀ H : Hp, SqT K H aT []) (h : TToldD Cd ds Φ) : WS K S0 (t_toldD K Cd aT) (rhoOf 4 ds) { nx := fun _ => Φ .none, rt := fun d _ => Φ d } := by
  obtain ⟨n, b, c', ms, ts, rfl, ok, nd, tl, h⟩ := h
  show WS K S0 (t_toldD K Cd aT) [.dat (.int n), .dat (rowD b (ms.map PyData.int)), .dat (rowD c' (ts.map PyData.int)), .unk] _
  unfold t_toldD
  refine ws_mkset (dds := [.tuple []]) c.o c.t (fun H => .cons (Dt.tup (hT H) .nil) .nil) (wa_cons (wd_var rfl (wa_cons (wd_var rfl (wa_nil ⟨?_, n, b, false, ms, [], rfl, ok, fun p us vs f => ⟨Nat.le_of_ble_eq_true rfl, fun x dx fs => ?_⟩⟩)))))
  · intro s hs
    simp only [List.mem_cons, List.not_mem_nil, or_false] at hs
    rcases hs with rfl | rfl | rfl | rfl
    · exact .inr ⟨_, rfl⟩
    · exact .inr ⟨_, rfl⟩
    · exact .inr ⟨_, rfl⟩
    · exact .inl rfl
  have srt : ∀ {Ψ : PyData → Prop}, (∀ ms : List Int, ms.Perm ts → ms.Pairwise (· ≤ ·) → Ψ (.list (ms.map PyData.int))) → DC K (rSortR K) [rowD c' (ts.map PyData.int)] Ψ := fun f => by
    cases c' with
    | true => exact dc_sortL f
    | false => exact dc_sortT f
  refine wd_cb (wa_cons (wd_cb (wa_cons (wd_var rfl (wa_nil (srt fun ss sp so => wa_nil (dc_tupL ⟨rfl, fun n => ?_⟩)))))))
  have vs0 : vs = [] := List.length_eq_zero_iff.mp f.vl
  subst vs0
  exact h p us ss ⟨f.p1, f.pn, f.dv, f.ur, f.um, f.ul, lt_of_le_nodup ss so (sp.nodup_iff.mpr nd), fun i => sp.mem_iff, sp.length_eq, f.per, f.least⟩
theorem ws_allD {aT : Addr} (c : DayC K Cd) (hT : ∀ H : Hp, SqT K H aT []) (h : TAllD Cd True ds Φ) : WS K S0 (t_allD K Cd aT) (rhoOf 0 ds) { nx := fun _ => Φ .none, rt := fun d _ => Φ d } := by
  obtain ⟨rfl, h⟩ := h
  show WS K S0 (t_allD K Cd aT) [] _
  unfold t_allD
  refine ws_ret (wd_make (dds := [.tuple []]) c.o (fun H => .cons (Dt.tup (hT H) .nil) .nil) (wa_cons (wd_int (wa_cons (wd_tup (wa_cons (wd_int (wa_nil ⟨Nat.le_of_ble_eq_true rfl, wa_nil ⟨1, false, false, [0], [], rfl, ⟨by decide, by decide, by decide, by decide, fun m hm => ?_, by decide, by decide⟩, fun p us vs f => ?_⟩⟩))))))))
  · rw [List.mem_singleton] at hm; subst hm; decide
  refine h _ fun M => ?_
  obtain ⟨ny, rg⟩ := f.ny (k := 0) (B := 0) (M := M) (fun m hm => by rw [List.mem_singleton] at hm; subst hm; decide) (by decide) (by decide) (by decide) (by decide) (fun t ht => nomatch ht) (by decide) (Nat.one_dvd M)
  refine ⟨p, us, vs, rfl, ny, fun x => ⟨fun _ => trivial, fun _ z => ?_⟩⟩
  have r : rgI p us x := (rg x).mpr (by rw [List.mem_singleton]; omega)
  have := (f.vm x).mp (z.mp r)
  cases this
theorem ws_noD {aT : Addr} (c : DayC K Cd) (hT : ∀ H : Hp, SqT K H aT []) (h : TAllD Cd False ds Φ) : WS K S0 (t_noD K Cd aT) (rhoOf 0 ds) { nx := fun _ => Φ .none, rt := fun d _ => Φ d } := by
  obtain ⟨rfl, h⟩ := h
  show WS K S0 (t_noD K Cd aT) [] _
  unfold t_noD
  refine ws_ret (wd_make (dds := [.tuple []]) c.o (fun H => .cons (Dt.tup (hT H) .nil) .nil) (wa_cons (wd_int (wa_cons (wd_tup (wa_nil ⟨Nat.le_of_ble_eq_true rfl, wa_nil ⟨1, false, false, [], [], rfl, ⟨by decide, by decide, by decide, by decide, fun m hm => (nomatch hm), by decide, by decide⟩, fun p us vs f => ?_⟩⟩))))))
  refine h _ fun M => ?_
  obtain ⟨ny, rg⟩ := f.ny (k := 0) (B := 0) (M := M) (fun m hm => nomatch hm) (by decide) (by decide) (by decide) (by decide) (fun t ht => nomatch ht) (by decide) (Nat.one_dvd M)
  refine ⟨p, us, vs, rfl, ny, fun x => ⟨fun z => z ⟨fun r => ?_, fun m => ?_⟩, fun z => z.elim⟩⟩
  · have := (rg x).mp r; cases this
  · have := (f.vm x).mp m; cases this
theorem ws_othD (c : DayC K Cd) (h : TOthD Cd ds Φ) : WS K S0 (t_othD K Cd) (rhoOf 4 ds) { nx := fun _ => Φ .none, rt := fun d _ => Φ d } := by
  obtain ⟨M, n, B, P, p, us, vs, rfl, N, hP, p4, B1, n1, h⟩ := h
  show WS K S0 (t_othD K Cd) [.dat (dayD Cd p us vs), .unk, .unk, .unk] _
  unfold t_othD
  have D := N.d
  have p1 := D.p1
  refine ws_seq (ws_asg (wd_call0 (wa_cons (wd_var rfl (wa_nil ⟨p, us, vs, rfl, D, ?_⟩)))))
  show WS K S0 _ [.dat (dayD Cd p us vs), .dat (.str (SX.S (patL p us))), .unk, .unk] _
  refine ws_seq (ws_asg (wd_lc (wi_rng1 (wa_cons (wd_fld (wd_var rfl ⟨Cd, _, _, rfl, c.p, rfl, wa_nil ⟨_, rfl, by omega, by omega, ?_⟩⟩))))))
  refine ⟨by rw [List.length_map, List.length_range, sizeLine_eq]; omega, fun k acc ρ => acc = (((List.range k).filter fun i : Nat => !decide ((i : Int) ∈ us)).map fun i : Nat => (i : Int)).map PyData.int ∧ ρ = [.dat (dayD Cd p us vs), .dat (.str (SX.S (patL p us))), .unk, .unk], ⟨rfl, rfl⟩, ?_, ?_⟩
  · rintro k d acc ρ2 hd ⟨rfl, rfl⟩
    have hk : k < p := by
      have := (List.getElem?_eq_some_iff.mp hd).1
      rw [List.length_map, List.length_range] at this
      omega
    have ed : d = .int (k : Int) := by
      obtain ⟨h1, h2⟩ := List.getElem?_eq_some_iff.mp hd
      simp at h2
      rw [← h2]
    subst ed
    refine ⟨_, _, gd_name, fun j hj => hj, ?_⟩
    refine wt_test (wd_op (wd_op (wd_var rfl (wd_var rfl (do_ixS (c := if (k : Int) ∈ us then 49 else 48) ?_ ?_ (wd_str (do_eqs ⟨_, rfl, ?_⟩)))))))
    · rw [SX.S_len, patL_len, sizeLine_eq]; omega
    · exact atI_nat (by show (patL p us).toArray.toList[k]? = _; rw [List.toList_toArray]; exact patL_get hk)
    have ep : (!decide ((k : Int) ∈ us)) = decide ((⟨#[if (k : Int) ∈ us then 49 else 48]⟩ : Str) = "0") := by
      by_cases m : (k : Int) ∈ us
      · rw [if_pos m, decide_eq_true m]; rfl
      · rw [if_neg m, decide_eq_false m]; rfl
    rw [← ep]
    refine if_nb (fun m => ?_) (fun m => ?_)
    · refine wd_var rfl ⟨?_, rfl⟩
      rw [List.range_succ, List.filter_append, List.filter_cons_of_pos (by simpa using m), List.filter_nil, List.map_append, List.map_append]; rfl
    · refine ⟨?_, rfl⟩
      rw [List.range_succ, List.filter_append, List.filter_cons_of_neg (by simpa using m), List.filter_nil, List.append_nil]
  rintro acc ρ2 ⟨rfl, rfl⟩
  rw [List.length_map, List.length_range, Int.toNat_natCast]
  generalize hms : (((List.range p).filter fun i : Nat => !decide ((i : Int) ∈ us)).map fun i : Nat => (i : Int)) = ms
  have hm : ∀ m, m ∈ ms ↔ (0 ≤ m ∧ m < p) ∧ m ∉ us := fun m => by
    rw [← hms]
    constructor
    · intro z
      obtain ⟨i, hi, rfl⟩ := List.mem_map.mp z
      obtain ⟨h1, h2⟩ := List.mem_filter.mp hi
      have := List.mem_range.mp h1
      exact ⟨by omega, by simpa using h2⟩
    · rintro ⟨h1, h2⟩
      refine List.mem_map.mpr ⟨m.toNat, List.mem_filter.mpr ⟨List.mem_range.mpr (by omega), ?_⟩, by omega⟩
      rw [Int.toNat_of_nonneg h1.1]; simpa using h2
  have mnd : ms.Nodup := by
    rw [← hms]
    exact List.Pairwise.map _ (fun a b (hab : a < b) => by omega) ((List.pairwise_lt_range (n := p)).filter _)
  have ml : ms.length ≤ p := by
    rw [← hms, List.length_map]
    exact Nat.le_trans (List.length_filter_le _ _) (by rw [List.length_range]; omega)
  show WS K S0 _ [.dat (dayD Cd p us vs), .dat (.str (SX.S (patL p us))), .dat (.list (ms.map PyData.int)), .unk] _
  refine ws_ret (wd_call0 (wa_cons (wd_fld (wd_var rfl ⟨Cd, _, _, rfl, c.p, rfl, wa_cons (wd_var rfl (wa_cons (wd_fld (wd_var rfl ⟨Cd, _, _, rfl, c.t, rfl, wa_nil ⟨p, true, false, ms, vs, rfl, ⟨p1, by omega, mnd, by omega, fun m z => ((hm m).mp z).1, by decide, by decide⟩, ris_nd D.vr, by have := N.vn; omega, fun p' us' vs' f => ?_⟩⟩))))⟩))))
  obtain ⟨ny, rg⟩ := f.ny (k := n) (B := B) (M := M) (fun m z => ((hm m).mp z).1) (by omega) (by omega) N.vn n1 N.vB B1 N.pm
  refine h _ ⟨p', us', vs', rfl, ny, fun x => ?_⟩
  have m0 := Int.emod_nonneg x (show (p : Int) ≠ 0 by omega)
  have m1 := Int.emod_lt_of_pos x (show (0 : Int) < p by omega)
  have e1 : rgI p' us' x ↔ ¬ rgI p us x := by
    rw [rg, hm]
    exact ⟨fun z => z.2, fun z => ⟨⟨m0, m1⟩, z⟩⟩
  have e2 : x ∈ vs' ↔ x ∈ vs := f.vm x
  show inD p' us' vs' x ↔ ¬ P x
  rw [← hP x]
  unfold inD
  rw [e1, e2]
  by_cases c1 : rgI p us x <;> by_cases c2 : x ∈ vs <;> simp [c1, c2]
theorem ws_movD (c : DayC K Cd) (h : TMovD Cd ds Φ) : WS K S0 (t_movD K Cd) (rhoOf 5 ds) { nx := fun _ => Φ .none, rt := fun d _ => Φ d } := by
  obtain ⟨M, n, B, P, p, us, vs, s, rfl, N, hP, u4, B1, n1, h⟩ := h
  show WS K S0 (t_movD K Cd) [.dat (dayD Cd p us vs), .dat (.int s), .unk, .unk, .unk] _
  unfold t_movD
  have D := N.d
  have p1 := D.p1
  have szl := sizeLine_eq
  have vn := N.vn
  refine ws_seq (ws_asg (wd_lc (wi_tup (wd_fld (wd_var rfl ⟨Cd, _, _, rfl, c.m, rfl, us.map PyData.int, rfl, ?_⟩)))))
  refine ⟨by rw [List.length_map]; omega, fun k acc ρ => acc = ((us.take k).map fun u => (u + s) % (p : Int)).map PyData.int ∧ ρ = [.dat (dayD Cd p us vs), .dat (.int s), .unk, .unk, .unk], ⟨rfl, rfl⟩, ?_, ?_⟩
  · rintro k d acc ρ2 hd ⟨rfl, rfl⟩
    rw [List.getElem?_map] at hd
    obtain ⟨u, hu, rfl⟩ := Option.map_eq_some_iff.mp hd
    refine ⟨_, _, gd_name, fun j hj => hj, ?_⟩
    refine wt_yes ?_
    refine wd_op (wd_op (wd_var rfl (wd_var rfl (do_add (wd_fld (wd_var rfl ⟨Cd, _, _, rfl, c.p, rfl, do_mod (by omega) ⟨?_, rfl⟩⟩))))))
    rw [List.take_add_one, hu, Option.toList_some, List.map_append, List.map_append, Int.fmod_eq_emod_of_nonneg _ (by omega)]; rfl
  rintro acc ρ2 ⟨rfl, rfl⟩
  rw [List.length_map, List.take_length]
  generalize hms : (us.map fun u => (u + s) % (p : Int)) = ms
  have mr : ∀ m ∈ ms, 0 ≤ m ∧ m < p := fun m z => by
    rw [← hms] at z
    obtain ⟨u, hu, rfl⟩ := List.mem_map.mp z
    exact ⟨Int.emod_nonneg _ (by omega), Int.emod_lt_of_pos _ (by omega)⟩
  have mnd : ms.Nodup := by
    rw [← hms]
    refine List.Pairwise.map _ (fun a b (hab : a ∈ us ∧ b ∈ us ∧ a < b) e => ?_) (List.Pairwise.imp_of_mem (fun {a b} ha hb (h : a < b) => ⟨ha, hb, h⟩) (show us.Pairwise (· < ·) from D.ur))
    obtain ⟨ha, hb, lt⟩ := hab
    have b1 := D.ub a ha
    have b2 := D.ub b hb
    have e2 : (b + s - (a + s)) % (p : Int) = 0 := by rw [Int.sub_emod, e, Int.sub_self]; rfl
    rw [show b + s - (a + s) = b - a by omega, Int.emod_eq_of_lt (by omega) (by omega)] at e2
    omega
  have ml : ms.length ≤ 4000 := by rw [← hms, List.length_map]; exact u4
  have hm : ∀ x : Int, x % p ∈ ms ↔ rgI p us (x - s) := fun x => by
    rw [← hms]
    constructor
    · intro z
      obtain ⟨u, hu, e⟩ := List.mem_map.mp z
      have b1 := D.ub u hu
      unfold rgI
      have : (x - s) % p = u := by
        rw [Int.sub_emod, ← e, ← Int.sub_emod, show u + s - s = u by omega, Int.emod_eq_of_lt b1.1 b1.2]
      rw [this]; exact hu
    · intro z
      refine List.mem_map.mpr ⟨(x - s) % p, z, ?_⟩
      rw [Int.add_emod, Int.emod_emod_of_dvd _ (Int.dvd_refl _), ← Int.add_emod, show x - s + s = x by omega]
  show WS K S0 _ [.dat (dayD Cd p us vs), .dat (.int s), .dat (.list (ms.map PyData.int)), .unk, .unk] _
  refine ws_ret (wd_call0 (wa_cons (wd_fld (wd_var rfl ⟨Cd, _, _, rfl, c.p, rfl, wa_cons (wd_var rfl (wa_cons (wd_lc (wi_tup (wd_fld (wd_var rfl ⟨Cd, _, _, rfl, c.t, rfl, vs.map PyData.int, rfl, ?_⟩))))))⟩))))
  refine ⟨by rw [List.length_map]; omega, fun k acc ρ => acc = ((vs.take k).map fun v => v + s).map PyData.int ∧ ρ = [.dat (dayD Cd p us vs), .dat (.int s), .dat (.list (ms.map PyData.int)), .unk, .unk], ⟨rfl, rfl⟩, ?_, ?_⟩
  · rintro k d acc ρ2 hd ⟨rfl, rfl⟩
    rw [List.getElem?_map] at hd
    obtain ⟨u, hu, rfl⟩ := Option.map_eq_some_iff.mp hd
    refine ⟨_, _, gd_name, fun j hj => hj, ?_⟩
    refine wt_yes ?_
    refine wd_op (wd_var rfl (wd_var rfl (do_add ⟨?_, rfl⟩)))
    rw [List.take_add_one, hu, Option.toList_some, List.map_append, List.map_append]; rfl
  rintro acc ρ2 ⟨rfl, rfl⟩
  rw [List.length_map, List.take_length]
  have tnd : (vs.map fun v => v + s).Nodup := List.Pairwise.map _ (fun a b (h : a < b) => by omega) (show vs.Pairwise (· < ·) from D.vr)
  refine wa_nil ⟨p, true, true, ms, vs.map fun v => v + s, rfl, ⟨p1, D.p2, mnd, ml, mr, by decide, by decide⟩, tnd, by rw [List.length_map]; omega, fun p' us' vs' f => ?_⟩
  obtain ⟨ny, rg⟩ := f.ny (k := n) (B := B + s.natAbs) (M := M) mr D.p2 (by omega) (by rw [List.length_map]; exact vn) n1 (fun t ht => by
    obtain ⟨v, hv, rfl⟩ := List.mem_map.mp ht
    have := N.vB v hv
    omega) B1 N.pm
  refine h _ ⟨p', us', vs', rfl, ny, fun x => ?_⟩
  have e1 : rgI p' us' x ↔ rgI p us (x - s) := by rw [rg, hm]
  have e2 : x ∈ vs' ↔ x - s ∈ vs := by
    rw [f.vm x]
    constructor
    · intro z
      obtain ⟨v, hv, e⟩ := List.mem_map.mp z
      rw [← e, show v + s - s = v by omega]; exact hv
    · intro z
      exact List.mem_map.mpr ⟨x - s, z, by omega⟩
  show inD p' us' vs' x ↔ P (x - s)
  rw [← hP]
  unfold inD
  rw [e1, e2]
theorem wd_sgn {S : Stt} {ρ : Rho} {Θ : PyData → Rho → Prop} {te : TE} (h : WD K S te ρ fun d ρ1 => ∃ b, d = .bool b ∧ Θ (.str (SX.S [sgN b])) ρ1) : WD K S (tCall (spP K TSgn) [] E0 (tCons te tNil)) ρ Θ :=
  wd_call0 (wa_cons (h.imp fun d ρ1 ⟨b, e, f⟩ => wa_nil ⟨b, by rw [e], f⟩))
theorem patS {p : Nat} {us : List Int} {k m : Nat} (p1 : 1 ≤ p) (hk : k < m * p) : (List.replicate m (patL p us)).flatten[k]? = some (sgN (decide (rgI p us k))) := by
  rw [rep_get (by rw [patL_len]; exact hk), patL_len, patL_get (Nat.mod_lt _ (by omega))]
  have e : ((k % p : Nat) : Int) = (k : Int) % p := Int.natCast_emod ..
  unfold sgN rgI
  rw [e]
  by_cases c : (k : Int) % p ∈ us
  · rw [if_pos c, decide_eq_true c]; rfl
  · rw [if_neg c, decide_eq_false c]; rfl
theorem ws_join (c : DayC K Cd) (h : TJoin Cd ds Φ) : WS K S0 (t_join K Cd) (rhoOf 11 ds) { nx := fun _ => Φ .none, rt := fun d _ => Φ d } := by
  obtain ⟨kcs, op, p, q, us, vs, xs, ys, rfl, hk, D, F, l5, tv, hL, h⟩ := h
  generalize hx : dayD Cd p us vs = g1
  generalize hy : dayD Cd q xs ys = g2
  show WS K S0 (t_join K Cd) [.dat g1, .dat g2, .dat (.tuple ((kcs.map SX.S).map PyData.str)), .unk, .unk, .unk, .unk, .unk, .unk, .unk, .unk] _
  unfold t_join
  have p1 := D.p1
  have q1 := F.p1
  have p2 := D.p2
  have q2 := F.p2
  have szl := sizeLine_eq
  have dp : p ∣ Nat.lcm p q := Nat.dvd_lcm_left p q
  have dq : q ∣ Nat.lcm p q := Nat.dvd_lcm_right p q
  have lp : 0 < Nat.lcm p q := Nat.lcm_pos (by omega) (by omega)
  refine ws_seq (ws_asg (wd_cb (wa_cons (wd_fld (wd_var rfl ⟨Cd, dayPs p us vs, _, hx.symm, c.p, rfl, wa_cons (wd_fld (wd_var rfl ⟨Cd, dayPs q xs ys, _, hy.symm, c.p, rfl, wa_nil (dc_lcm (by omega) (by omega) ?_)⟩))⟩)))))
  generalize hl : Nat.lcm p q = m at l5 hL h dp dq lp
  show WS K S0 _ [.dat g1, .dat g2, .dat (.tuple ((kcs.map SX.S).map PyData.str)), .dat (.int m), .unk, .unk, .unk, .unk, .unk, .unk, .unk] _
  refine ws_seq (ws_if (wt_test (wd_op (wd_var rfl (wd_int (do_gt ⟨_, rfl, ?_⟩))))))
  refine if_b (fun z => absurd z (by omega)) (fun _ => ws_next ?_)
  have quo : ∀ {p : Nat}, 1 ≤ p → p ≤ 5040 → p ∣ m → ∃ k : Nat, (m : Int).fdiv p = k ∧ 1 ≤ k ∧ k ≤ 5040 ∧ k * p = m := fun {p} p1 p2 d => by
    obtain ⟨k, e⟩ := d
    refine ⟨k, ?_, ?_, ?_, by rw [e, Nat.mul_comm]⟩
    · rw [Int.fdiv_eq_ediv_of_nonneg _ (by omega), e, Int.natCast_mul, Int.mul_ediv_cancel_left _ (by omega)]
    · rcases Nat.eq_zero_or_pos k with z | z
      · subst z; omega
      · exact z
    · have := Nat.le_mul_of_pos_left k (show 0 < p by omega)
      omega
  obtain ⟨k1, e1, a1, a2, a3⟩ := quo p1 p2 dp
  obtain ⟨k2, e2, b1, b2, b3⟩ := quo q1 q2 dq
  have log : ∀ {p : Nat}, p ≤ 5040 → (p : Int).natAbs.log2 < 9000 := fun {p} hp => by
    rw [Int.natAbs_natCast]
    have := PySem.Flt.log2_lt_of (n := p) (k := 20) (by decide) (by omega)
    omega
  refine ws_seq (ws_asg (wd_op (wd_call0 (wa_cons (wd_var rfl (wa_nil ⟨p, us, vs, by rw [← hx], D, ?_⟩))))))
  refine wd_op (wd_var rfl (wd_fld (wd_var rfl ⟨Cd, dayPs p us vs, _, hx.symm, c.p, rfl, do_div ⟨by omega, log p2⟩ ?_⟩)))
  rw [e1]
  refine do_mulS rfl a1 (by rw [patL_len]; exact p1) (by omega) (by rw [patL_len, Nat.mul_comm, a3]; omega) ?_
  refine ws_seq (ws_asg (wd_op (wd_call0 (wa_cons (wd_var rfl (wa_nil ⟨q, xs, ys, by rw [← hy], F, ?_⟩))))))
  refine wd_op (wd_var rfl (wd_fld (wd_var rfl ⟨Cd, dayPs q xs ys, _, hy.symm, c.p, rfl, do_div ⟨by omega, log q2⟩ ?_⟩)))
  rw [e2]
  refine do_mulS rfl b1 (by rw [patL_len]; exact q1) (by omega) (by rw [patL_len, Nat.mul_comm, b3]; omega) ?_
  have L1 : (List.replicate k1 (patL p us)).flatten.length = m := by simp [patL_len, a3]
  have L2' : (List.replicate k2 (patL q xs)).flatten.length = m := by simp [patL_len, b3]
  have G1 : ∀ k : Nat, k < m → (List.replicate k1 (patL p us)).flatten[k]? = some (sgN (decide (rgI p us k))) := fun k hk => patS p1 (by rw [a3]; exact hk)
  have G2 : ∀ k : Nat, k < m → (List.replicate k2 (patL q xs)).flatten[k]? = some (sgN (decide (rgI q xs k))) := fun k hk => patS q1 (by rw [b3]; exact hk)
  generalize (List.replicate k1 (patL p us)).flatten = w1 at L1 G1
  generalize (List.replicate k2 (patL q xs)).flatten = w2 at L2' G2
  have kin : ∀ a b : Bool, decide (SX.S [sgN a, sgN b] ∈ kcs.map SX.S) = op a b := fun a b => by
    rw [← hk a b]
    refine decide_eq_decide.mpr ⟨fun z => ?_, fun z => List.mem_map.mpr ⟨_, z, rfl⟩⟩
    obtain ⟨l, hl, e⟩ := List.mem_map.mp z
    rw [← SX.S_inj e]; exact hl
  generalize kcs.map SX.S = kS at kin
  -- the marked rests
  refine ws_seq (ws_asg (wd_lc (wi_rng1 (wa_cons (wd_var rfl (wa_nil ⟨_, rfl, by omega, by omega, ?_⟩))))))
  refine ⟨by rw [List.length_map, List.length_range]; omega, fun k acc ρ => acc = ((List.range k).map fun i : Nat => op (decide (rgI p us i)) (decide (rgI q xs i))).map PyData.bool ∧ ρ = [.dat g1, .dat g2, .dat (.tuple (kS.map PyData.str)), .dat (.int m), .dat (.str (SX.S w1)), .dat (.str (SX.S w2)), .unk, .unk, .unk, .unk, .unk], ⟨rfl, rfl⟩, ?_, ?_⟩
  · rintro k d acc ρ2 hd ⟨rfl, rfl⟩
    have hk : k < m := by
      have := (List.getElem?_eq_some_iff.mp hd).1
      rw [List.length_map, List.length_range] at this
      omega
    have ed : d = .int (k : Int) := by
      obtain ⟨h1, h2⟩ := List.getElem?_eq_some_iff.mp hd
      simp at h2
      rw [← h2]
    subst ed
    refine ⟨_, _, gd_name, fun j hj => hj, ?_⟩
    refine wt_yes ?_
    refine wd_op (wd_op (wd_op (wd_var rfl (wd_var rfl (do_ixS (c := sgN (decide (rgI p us k))) ?_ ?_ ?_)))))
    · rw [SX.S_len]; omega
    · exact atI_nat (by show w1.toArray.toList[k]? = _; rw [List.toList_toArray]; exact G1 k hk)
    refine wd_op (wd_var rfl (wd_var rfl (do_ixS (c := sgN (decide (rgI q xs k))) ?_ ?_ ?_)))
    · rw [SX.S_len]; omega
    · exact atI_nat (by show w2.toArray.toList[k]? = _; rw [List.toList_toArray]; exact G2 k hk)
    refine do_addS2 (Nat.le_of_ble_eq_true rfl) (wd_var rfl (do_inSt ⟨?_, rfl⟩))
    have es : ((⟨#[sgN (decide (rgI p us k))]⟩ : Str) ++ ⟨#[sgN (decide (rgI q xs k))]⟩) = SX.S [sgN (decide (rgI p us k)), sgN (decide (rgI q xs k))] := SX.S_cat [_] [_]
    rw [es, kin, List.range_succ, List.map_append, List.map_append]; rfl
  rintro acc ρ2 ⟨rfl, rfl⟩
  rw [List.length_map, List.length_range, Int.toNat_natCast]
  generalize hbs : ((List.range m).map fun i : Nat => op (decide (rgI p us i)) (decide (rgI q xs i))) = bs
  have bl : bs.length = m := by rw [← hbs, List.length_map, List.length_range]
  have bg : ∀ x : Int, ∃ k : Nat, x % m = k ∧ k < m ∧ bs[k]? = some (op (decide (rgI p us x)) (decide (rgI q xs x))) := fun x => by
    have m0 := Int.emod_nonneg x (show (m : Int) ≠ 0 by omega)
    have m1 := Int.emod_lt_of_pos x (show (0 : Int) < m by omega)
    obtain ⟨k, hk⟩ : ∃ k : Nat, x % m = k := ⟨(x % m).toNat, by omega⟩
    refine ⟨k, hk, by omega, ?_⟩
    rw [← hbs, List.getElem?_map, List.getElem?_range (by omega)]
    have r1 : rgI p us k ↔ rgI p us x := by
      unfold rgI
      rw [← hk, Int.emod_emod_of_dvd x (Int.natCast_dvd_natCast.mpr dp)]
    have r2 : rgI q xs k ↔ rgI q xs x := by
      unfold rgI
      rw [← hk, Int.emod_emod_of_dvd x (Int.natCast_dvd_natCast.mpr dq)]
    show some (op (decide (rgI p us k)) (decide (rgI q xs k))) = _
    rw [decide_eq_decide.mpr r1, decide_eq_decide.mpr r2]
  show WS K S0 _ [.dat g1, .dat g2, .dat (.tuple (kS.map PyData.str)), .dat (.int m), .dat (.str (SX.S w1)), .dat (.str (SX.S w2)), .dat (.list (bs.map PyData.bool)), .unk, .unk, .unk, .unk] _
  -- the turned ones
  refine ws_seq (ws_own (wa_nil ⟨Nat.zero_le _, ?_⟩))
  refine ws_seq (ws_for (wi_list (wd_sortSet (wd_op (wd_fld (wd_var rfl ⟨Cd, dayPs p us vs, _, hx.symm, c.t, rfl, wd_fld (wd_var rfl ⟨Cd, dayPs q xs ys, _, hy.symm, c.t, rfl, do_catA ?_ ?_⟩)⟩))))))
  · rw [List.length_map, List.length_map]; omega
  rw [← List.map_append]
  refine ⟨vs ++ ys, rfl, by rw [List.length_append]; omega, fun ss hr hm => ⟨ss.map PyData.int, rfl, fun k ρ => ∃ s8 s9 : Sl, ρ = [.dat g1, .dat g2, .dat (.tuple (kS.map PyData.str)), .dat (.int m), .dat (.str (SX.S w1)), .dat (.str (SX.S w2)), .dat (.list (bs.map PyData.bool)), .own (((ss.take k).filter fun t => op (decide (inD p us vs t)) (decide (inD q xs ys t)) != op (decide (rgI p us t)) (decide (rgI q xs t))).map PyData.int), s8, s9, .unk], ⟨.unk, .unk, rfl⟩, ?_, ?_⟩⟩
  · rintro k d ρ2 hd ⟨s8, s9, rfl⟩
    rw [List.getElem?_map] at hd
    obtain ⟨t, ht, rfl⟩ := Option.map_eq_some_iff.mp hd
    have hfl : ((ss.take k).filter fun t => op (decide (inD p us vs t)) (decide (inD q xs ys t)) != op (decide (rgI p us t)) (decide (rgI q xs t))).length ≤ k := Nat.le_trans (List.length_filter_le _ _) (by rw [List.length_take]; omega)
    have ssl : ss.length ≤ 2000 := by
      have := nd_le (m := vs ++ ys) (ris_nd hr) fun k hk => (hm k).mp hk
      rw [List.length_append] at this; omega
    have kl : k < ss.length := (List.getElem?_eq_some_iff.mp ht).1
    have st : (ss.take (k + 1)).filter (fun t => op (decide (inD p us vs t)) (decide (inD q xs ys t)) != op (decide (rgI p us t)) (decide (rgI q xs t))) = (ss.take k).filter (fun t => op (decide (inD p us vs t)) (decide (inD q xs ys t)) != op (decide (rgI p us t)) (decide (rgI q xs t))) ++ (if (op (decide (inD p us vs t)) (decide (inD q xs ys t)) != op (decide (rgI p us t)) (decide (rgI q xs t))) = true then [t] else []) := by
      rw [List.take_add_one, ht, Option.toList_some, List.filter_append]
      congr 1
      by_cases cc : (op (decide (inD p us vs t)) (decide (inD q xs ys t)) != op (decide (rgI p us t)) (decide (rgI q xs t))) = true
      · rw [if_pos cc]; exact List.filter_cons_of_pos cc
      · rw [if_neg cc]; exact List.filter_cons_of_neg cc
    generalize (ss.take k).filter (fun t => op (decide (inD p us vs t)) (decide (inD q xs ys t)) != op (decide (rgI p us t)) (decide (rgI q xs t))) = fs at hfl st
    refine ⟨_, _, gd_name, ws_wipe [9] ?_⟩
    show WS K S0 _ [.dat g1, .dat g2, .dat (.tuple (kS.map PyData.str)), .dat (.int m), .dat (.str (SX.S w1)), .dat (.str (SX.S w2)), .dat (.list (bs.map PyData.bool)), .own (fs.map PyData.int), .dat (.int t), .unk, .unk] _
    refine ws_seq (ws_asg (wd_op (wd_sgn (wd_meth (wd_var rfl ⟨dayPs p us vs, hx.symm, rfl, wa_cons (wd_var rfl (wa_nil ⟨p, us, vs, t, by rw [← hx], p1, D.ur, D.vr, by have := D.ul; omega, by have := D.vl; omega, _, rfl, ?_⟩))⟩)))))
    refine wd_sgn (wd_meth (wd_var rfl ⟨dayPs q xs ys, hy.symm, rfl, wa_cons (wd_var rfl (wa_nil ⟨q, xs, ys, t, by rw [← hy], q1, F.ur, F.vr, by have := F.ul; omega, by have := F.vl; omega, _, rfl, ?_⟩))⟩))
    rw [has_in p1, has_in q1]
    refine do_addS2 (by rw [SX.S_len, SX.S_len]; exact Nat.le_of_ble_eq_true rfl) ?_
    rw [SX.S_cat]
    show WS K S0 _ [.dat g1, .dat g2, .dat (.tuple (kS.map PyData.str)), .dat (.int m), .dat (.str (SX.S w1)), .dat (.str (SX.S w2)), .dat (.list (bs.map PyData.bool)), .own (fs.map PyData.int), .dat (.int t), .dat (.str (SX.S [sgN (decide (inD p us vs t)), sgN (decide (inD q xs ys t))])), .unk] _
    obtain ⟨j, hj, jl, gj⟩ := bg t
    refine ws_if (wt_test (wd_op (wd_op (wd_var rfl (wd_var rfl (do_inSt (wd_op (wd_var rfl (wd_op (wd_var rfl (wd_var rfl (do_mod (by omega) ?_))))))))))))
    rw [Int.fmod_eq_emod_of_nonneg _ (by omega), hj, kin]
    refine do_ixLn (k := j) rfl (by rw [List.getElem?_map, gj]; rfl) (do_neb ⟨_, rfl, ?_⟩)
    refine if_nb (fun cc => ?_) (fun cc => ws_next ?_)
    · refine ws_append rfl (wd_var rfl ⟨_, rfl, by rw [List.length_map]; omega, ?_⟩)
      dsimp only
      rw [st, if_pos (by simpa using cc), List.map_append]
      exact ⟨_, _, rfl⟩
    · dsimp only
      rw [st, if_neg (by simpa using cc), List.append_nil]
      exact ⟨_, _, rfl⟩
  · rintro ρ2 ⟨s8, s9, rfl⟩
    rw [List.length_map, List.take_length]
    generalize hts : (ss.filter fun t => op (decide (inD p us vs t)) (decide (inD q xs ys t)) != op (decide (rgI p us t)) (decide (rgI q xs t))) = ts
    have ssl : ss.length ≤ vs.length + ys.length := by
      have := nd_le (m := vs ++ ys) (ris_nd hr) fun k hk => (hm k).mp hk
      rwa [List.length_append] at this
    have tsl : ts.length ≤ ss.length := by rw [← hts]; exact List.length_filter_le _ _
    have tnd : ts.Nodup := by rw [← hts]; exact (ris_nd hr).filter _
    have tm : ∀ x, x ∈ ts ↔ (x ∈ vs ∨ x ∈ ys) ∧ (op (decide (inD p us vs x)) (decide (inD q xs ys x)) != op (decide (rgI p us x)) (decide (rgI q xs x))) = true := fun x => by
      rw [← hts, List.mem_filter, hm, List.mem_append]
    refine ws_frz (i := 7) rfl ?_
    show WS K S0 _ [.dat g1, .dat g2, .dat (.tuple (kS.map PyData.str)), .dat (.int m), .dat (.str (SX.S w1)), .dat (.str (SX.S w2)), .dat (.list (bs.map PyData.bool)), .dat (.list (ts.map PyData.int)), s8, s9, .unk] _
    refine ws_ret (wd_call0 (wa_cons (wd_var rfl (wa_cons (wd_lc (wi_rng1 (wa_cons (wd_var rfl (wa_nil ⟨_, rfl, by omega, by omega, ?_⟩)))))))))
    refine ⟨by rw [List.length_map, List.length_range]; omega, fun k acc ρ => acc = (((List.range k).filter fun i : Nat => op (decide (rgI p us i)) (decide (rgI q xs i))).map fun i : Nat => (i : Int)).map PyData.int ∧ ρ = [.dat g1, .dat g2, .dat (.tuple (kS.map PyData.str)), .dat (.int m), .dat (.str (SX.S w1)), .dat (.str (SX.S w2)), .dat (.list (bs.map PyData.bool)), .dat (.list (ts.map PyData.int)), s8, s9, .unk], ⟨rfl, rfl⟩, ?_, ?_⟩
    · rintro k d acc ρ2 hd ⟨rfl, rfl⟩
      have hk : k < m := by
        have := (List.getElem?_eq_some_iff.mp hd).1
        rw [List.length_map, List.length_range] at this
        omega
      have ed : d = .int (k : Int) := by
        obtain ⟨h1, h2⟩ := List.getElem?_eq_some_iff.mp hd
        simp at h2
        rw [← h2]
      subst ed
      have gk : bs[k]? = some (op (decide (rgI p us k)) (decide (rgI q xs k))) := by rw [← hbs, List.getElem?_map, List.getElem?_range hk]; rfl
      refine ⟨_, _, gd_name, fun j hj => hj, ?_⟩
      refine wt_B (wd_op (wd_var rfl (wd_var rfl (do_ixLn (k := k) rfl (by rw [List.getElem?_map, gk]; rfl) ⟨_, rfl, ?_⟩))))
      cases hb : op (decide (rgI p us k)) (decide (rgI q xs k)) with
      | true =>
        refine if_t (wd_var rfl ⟨?_, rfl⟩)
        rw [List.range_succ, List.filter_append, List.filter_cons_of_pos (p := fun i : Nat => op (decide (rgI p us i)) (decide (rgI q xs i))) hb, List.filter_nil, List.map_append, List.map_append]; rfl
      | false =>
        refine if_f ⟨?_, rfl⟩
        rw [List.range_succ, List.filter_append, List.filter_cons_of_neg (p := fun i : Nat => op (decide (rgI p us i)) (decide (rgI q xs i))) (by rw [hb]; decide), List.filter_nil, List.append_nil]
    rintro acc ρ2 ⟨rfl, rfl⟩
    rw [List.length_map, List.length_range, Int.toNat_natCast]
    generalize hms : (((List.range m).filter fun i : Nat => op (decide (rgI p us i)) (decide (rgI q xs i))).map fun i : Nat => (i : Int)) = ms
    have mm : ∀ r, r ∈ ms ↔ (0 ≤ r ∧ r < m) ∧ op (decide (rgI p us r)) (decide (rgI q xs r)) = true := fun r => by
      rw [← hms]
      constructor
      · intro z
        obtain ⟨i, hi, rfl⟩ := List.mem_map.mp z
        obtain ⟨h1, h2⟩ := List.mem_filter.mp hi
        have := List.mem_range.mp h1
        exact ⟨by omega, h2⟩
      · rintro ⟨h1, h2⟩
        refine List.mem_map.mpr ⟨r.toNat, List.mem_filter.mpr ⟨List.mem_range.mpr (by omega), ?_⟩, by omega⟩
        rw [Int.toNat_of_nonneg h1.1]; exact h2
    have mnd : ms.Nodup := by
      rw [← hms]
      exact List.Pairwise.map _ (fun a b (hab : a < b) => by omega) ((List.pairwise_lt_range (n := m)).filter _)
    have ml : ms.length ≤ 4000 := hL ms mnd fun r z => (mm r).mp z
    refine wa_cons (wd_var rfl (wa_nil ⟨m, true, true, ms, ts, rfl, ⟨by omega, l5, mnd, ml, fun r z => ((mm r).mp z).1, by decide, by decide⟩, tnd, by omega, fun p' us' vs' f => ?_⟩))
    obtain ⟨ny, rg⟩ := f.ny (k := vs.length + ys.length) (B := 4611686018427387904) (M := m) (fun r z => ((mm r).mp z).1) l5 (by omega) (by omega) tv (fun t ht => by
      rcases ((tm t).mp ht).1 with z | z
      · have := D.vb t z; omega
      · have := F.vb t z; omega) (Nat.le_refl _) (Nat.dvd_refl m)
    refine h p' us' vs' ny (fun v hv => ((tm v).mp ((f.vm v).mp hv)).1) fun x => ?_
    have m0 := Int.emod_nonneg x (show (m : Int) ≠ 0 by omega)
    have m1 := Int.emod_lt_of_pos x (show (0 : Int) < m by omega)
    have er : rgI p' us' x ↔ op (decide (rgI p us x)) (decide (rgI q xs x)) = true := by
      rw [rg, mm]
      have r1 : rgI p us (x % m) ↔ rgI p us x := by
        unfold rgI
        rw [Int.emod_emod_of_dvd x (Int.natCast_dvd_natCast.mpr dp)]
      have r2 : rgI q xs (x % m) ↔ rgI q xs x := by
        unfold rgI
        rw [Int.emod_emod_of_dvd x (Int.natCast_dvd_natCast.mpr dq)]
      rw [decide_eq_decide.mpr r1, decide_eq_decide.mpr r2]
      exact ⟨fun z => z.2, fun z => ⟨⟨m0, m1⟩, z⟩⟩
    have ev : x ∈ vs' ↔ _ := (f.vm x).trans (tm x)
    have n1 : x ∉ vs → decide (inD p us vs x) = decide (rgI p us x) := fun z => decide_eq_decide.mpr (by unfold inD; by_cases c : rgI p us x <;> simp [c, z])
    have n2 : x ∉ ys → decide (inD q xs ys x) = decide (rgI q xs x) := fun z => decide_eq_decide.mpr (by unfold inD; by_cases c : rgI q xs x <;> simp [c, z])
    have eu : inD p' us' vs' x ↔ ¬ (rgI p' us' x ↔ x ∈ vs') := by unfold inD; exact Iff.rfl
    rw [eu, er, ev]
    by_cases cs : x ∈ vs ∨ x ∈ ys
    · cases op (decide (inD p us vs x)) (decide (inD q xs ys x)) <;> cases op (decide (rgI p us x)) (decide (rgI q xs x)) <;> simp [cs]
    · rw [n1 fun z => cs (.inl z), n2 fun z => cs (.inr z)]
      cases op (decide (rgI p us x)) (decide (rgI q xs x)) <;> simp [cs]
end
end DL

set_option Elab.async false
set_option linter.all false
set_option maxRecDepth 100000
set_option maxHeartbeats 4000000
/-! DN6: law k18's parts -/
namespace DL
open PySem PySem.Spec PyProof.Rows L2
local macro_rules | `(tactic| walk_at "dl") => `(tactic| repeat' (first
  | with_reducible refine wd_isTy ?_ | with_reducible refine wd_isi ?_ | ((with_reducible show WD _ _ (tOp (rIxL _) (tVar _) _) _ _); refine wd_ix_own rfl ?_) | with_reducible refine wd_op ?_ | ((with_reducible show WD _ _ (tCB (rLenX _) (tCons (tVar _) tNil)) _ _); refine wd_len_scr rfl ?_) | ((with_reducible show WD _ _ (tCB (rLenX _) (tCons (tVar _) tNil)) _ _); refine wd_len_own rfl ?_) | with_reducible refine wd_cb ?_ | with_reducible refine wd_un ?_ | with_reducible refine wa_cons ?_ | with_reducible refine wa_nil ?_ | ((with_reducible show WD _ _ (tVar _) _ _); refine wd_var rfl ?_) | with_reducible refine wd_int ?_ | with_reducible refine wd_bl ?_ | with_reducible refine wd_str ?_ | with_reducible refine wd_non ?_
  | with_reducible refine do_nesS ?_ | with_reducible refine dc_intB ?_ | with_reducible refine do_add ?_ | with_reducible refine do_sub ?_ | ((with_reducible refine do_mod ?_ ?_); decide) | with_reducible refine do_mod ?_ ?_ | with_reducible refine do_mul ?_ ?_ | ((with_reducible refine do_div ?_ ?_); exact ⟨by decide, by decide⟩) | with_reducible refine do_div ?_ ?_ | ((with_reducible refine do_pow ?_ ?_); exact ⟨by decide, by decide, by decide⟩) | with_reducible refine do_pow ?_ ?_
  | with_reducible refine do_lt ?_ | with_reducible refine do_le ?_ | with_reducible refine do_gt ?_ | with_reducible refine do_ge ?_ | with_reducible refine du_neg ?_
  | with_reducible refine do_eqi ?_ | with_reducible refine do_nei ?_ | with_reducible refine do_eqs ?_ | with_reducible refine do_nes ?_ | with_reducible refine dc_abs ?_ | with_reducible refine dc_min ?_ | with_reducible refine dc_max ?_ | with_reducible refine dc_lenL ?_ | with_reducible refine dc_lenT ?_ | with_reducible refine dc_lenR ?_ | with_reducible refine dc_listT ?_ | with_reducible refine dc_listL ?_ | with_reducible refine dc_tupL ?_ | with_reducible refine dc_gcd ?_
  | ((with_reducible show DO _ (rIxT _) _ _ _); refine do_ixT rfl ?_) | ((with_reducible show DO _ (rIxL _) _ _ _); refine do_ixL rfl ?_) | ((with_reducible refine do_catL ?_ ?_); exact Nat.le_of_ble_eq_true rfl) | with_reducible refine do_catL ?_ ?_ | ((with_reducible show And (List.length _ ≤ sizeLine) _); refine ⟨Nat.le_of_ble_eq_true rfl, ?_⟩)
  | with_reducible refine wd_dnew ?_ | with_reducible refine wd_call0 ?_ | with_reducible refine wd_slA ?_ | with_reducible refine wd_slL ?_ | with_reducible refine wd_revT ?_ | with_reducible refine do_catA ?_ ?_ | with_reducible refine wo_part ?_ | with_reducible refine wo_none ?_ | with_reducible refine do_eqQ ?_ | with_reducible refine do_neQ ?_ | with_reducible refine wi_enumT ?_ | with_reducible refine wi_enumD ?_ | with_reducible refine tAdQ (by omega) (by omega) ?_ | with_reducible refine tSbQ (by omega) (by omega) ?_ | with_reducible refine tMlQ (by omega) (by omega) ?_ | with_reducible refine tDvQ (by assumption) (by omega) (by omega) ?_ | with_reducible refine tLtQ (by omega) (by omega) ?_ | with_reducible refine dc_str ?_ ?_ | with_reducible refine wd_tup ?_ | with_reducible refine wd_lst ?_ | with_reducible refine wt_test ?_ | with_reducible refine wt_B ?_ | with_reducible refine wt_not ?_ | with_reducible refine wt_and ?_ | with_reducible refine wt_or ?_ | with_reducible refine wd_ifE ?_ | with_reducible refine wd_andV ?_ | with_reducible refine wd_orV ?_ | with_reducible refine wd_notV ?_
  | with_reducible refine ws_seq ?_ | with_reducible refine ws_next ?_ | with_reducible refine ws_asg ?_ | with_reducible refine ws_ret ?_ | with_reducible refine ws_retN ?_ | with_reducible refine ws_if ?_ | with_reducible refine ws_par ?_ | with_reducible refine ws_unp2 ?_
  | with_reducible refine if_t ?_ | with_reducible refine if_f ?_ | with_reducible refine if_nf ?_ | with_reducible refine if_nt ?_
  | ((with_reducible show Exists _); first | refine ⟨_, kitInt _, ?_⟩ | refine ⟨_, kitBool _, ?_⟩ | refine ⟨_, kitTup _, ?_⟩ | refine ⟨_, kitList _, ?_⟩ | refine ⟨_, rfl, ?_⟩ | refine ⟨_, _, rfl, ?_⟩ | fail) | fail))
def t_three (K : PySem.W.Frag) (Cd : Addr) : TS :=
  (tSeq (tAsg (tLst tNil) (gName 1))
    (tSeq (tFor (iRng1 (tCons (tC (.int 3)) tNil)) (gName 2) (tSeq (tAsg (tCall (spS K FPot TGiven) [] E0 (tCons (tVar 0) tNil)) (gTup K 2 (gCons (gName 3) (gCons (gName 4) gNil))))
    (tSeq (tIfS (tTest (tOp rGt (tOp rModI (tC (.int 2520)) (tCB (rLenX K) (tCons (tVar 3) tNil))) (tC (.int 0)))) (tAsg (tSl (rSlL K) (tVar 3) tNoPart (tPart (tOp (rIxL K) (tLst (tCons (tC (.int 7)) (tCons (tC (.int 8)) (tCons (tC (.int 9)) (tCons (tC (.int 10)) (tCons (tC (.int 12)) tNil)))))) (tCall (spS K FPot TTake) [] E0 (tCons (tVar 0) (tCons (tC (.int 5)) tNil)))))) (gName 3)) tNext)
    (tSeq (tIfS (tTest (tOp rGt (tOp rModI (tC (.int 2520)) (tCB (rLenX K) (tCons (tVar 3) tNil))) (tC (.int 0)))) (tAsg (tSl (rSlL K) (tVar 3) tNoPart (tPart (tC (.int 1)))) (gName 3)) tNext)
    (tDrop (tBM K "list" rAppend (tVar 1) (tCons (tCall (spP K (TPut13 Cd)) [] E0 (tCons (tTup (tCons (tVar 3) (tCons (tVar 4) tNil))) tNil)) tNil)))))))
    (tRet (tVar 1))))
def t_rings (K : PySem.W.Frag) (Cd : Addr) : TS :=
  (tSeq (tIfS (tOr (tTest (tOp (rEqOwn K Cd true (spP K (TEqD Cd)) E0) (tCall (spP K (TJn Cd (fun a b => a ∧ b))) [] E0 (tCons (tVar 0) (tCons (tVar 1) tNil))) (tCall (spP K (TJn Cd (fun a b => a ∧ b))) [] E0 (tCons (tVar 1) (tCons (tVar 0) tNil))))) (tTest (tOp (rEqOwn K Cd true (spP K (TEqD Cd)) E0) (tCall (spP K (TJn Cd (fun a b => a ∨ b))) [] E0 (tCons (tVar 0) (tCons (tVar 1) tNil))) (tCall (spP K (TJn Cd (fun a b => a ∨ b))) [] E0 (tCons (tVar 1) (tCons (tVar 0) tNil)))))) (tRet (tC (.bl false))) tNext)
    (tSeq (tIfS (tTest (tOp (rEqOwn K Cd true (spP K (TEqD Cd)) E0) (tCall (spP K (TJn Cd (fun a b => a ∧ b))) [] E0 (tCons (tCall (spP K (TJn Cd (fun a b => a ∧ b))) [] E0 (tCons (tVar 0) (tCons (tVar 1) tNil))) (tCons (tVar 2) tNil))) (tCall (spP K (TJn Cd (fun a b => a ∧ b))) [] E0 (tCons (tVar 0) (tCons (tCall (spP K (TJn Cd (fun a b => a ∧ b))) [] E0 (tCons (tVar 1) (tCons (tVar 2) tNil))) tNil))))) (tRet (tC (.bl false))) tNext)
    (tSeq (tIfS (tTest (tOp (rEqOwn K Cd true (spP K (TEqD Cd)) E0) (tCall (spP K (TJn Cd (fun a b => a ∨ b))) [] E0 (tCons (tCall (spP K (TJn Cd (fun a b => a ∨ b))) [] E0 (tCons (tVar 0) (tCons (tVar 1) tNil))) (tCons (tVar 2) tNil))) (tCall (spP K (TJn Cd (fun a b => a ∨ b))) [] E0 (tCons (tVar 0) (tCons (tCall (spP K (TJn Cd (fun a b => a ∨ b))) [] E0 (tCons (tVar 1) (tCons (tVar 2) tNil))) tNil))))) (tRet (tC (.bl false))) tNext)
    (tSeq (tIfS (tTest (tOp (rEqOwn K Cd true (spP K (TEqD Cd)) E0) (tCall (spP K (TJn Cd (fun a b => a ∧ b))) [] E0 (tCons (tVar 0) (tCons (tCall (spP K (TJn Cd (fun a b => a ∨ b))) [] E0 (tCons (tVar 1) (tCons (tVar 2) tNil))) tNil))) (tCall (spP K (TJn Cd (fun a b => a ∨ b))) [] E0 (tCons (tCall (spP K (TJn Cd (fun a b => a ∧ b))) [] E0 (tCons (tVar 0) (tCons (tVar 1) tNil))) (tCons (tCall (spP K (TJn Cd (fun a b => a ∧ b))) [] E0 (tCons (tVar 0) (tCons (tVar 2) tNil))) tNil))))) (tRet (tC (.bl false))) tNext)
    (tSeq (tIfS (tTest (tOp (rEqOwn K Cd true (spP K (TEqD Cd)) E0) (tCall (spP K (TOthD Cd)) [] E0 (tCons (tCall (spP K (TJn Cd (fun a b => a ∧ b))) [] E0 (tCons (tVar 0) (tCons (tVar 1) tNil))) tNil)) (tCall (spP K (TJn Cd (fun a b => a ∨ b))) [] E0 (tCons (tCall (spP K (TOthD Cd)) [] E0 (tCons (tVar 0) tNil)) (tCons (tCall (spP K (TOthD Cd)) [] E0 (tCons (tVar 1) tNil)) tNil))))) (tRet (tC (.bl false))) tNext)
    (tRet (tOp (rEqOwn K Cd false (spP K (TEqD Cd)) E0) (tCall (spP K (TJn Cd (fun a b => a ∧ ¬ b))) [] E0 (tCons (tVar 0) (tCons (tVar 1) tNil))) (tCall (spP K (TJn Cd (fun a b => a ∧ b))) [] E0 (tCons (tVar 0) (tCons (tCall (spP K (TOthD Cd)) [] E0 (tCons (tVar 1) tNil)) tNil))))))))))
def t_ends (K : PySem.W.Frag) (Cd : Addr) : TS :=
  (tSeq (tIfS (tOr (tTest (tOp (rEqOwn K Cd true (spP K (TEqD Cd)) E0) (tCall (spP K (TOthD Cd)) [] E0 (tCons (tCall (spP K (TOthD Cd)) [] E0 (tCons (tVar 0) tNil)) tNil)) (tVar 0))) (tTest (tOp (rEqOwn K Cd true (spP K (TEqD Cd)) E0) (tCall (spP K (TMovD Cd)) [] E0 (tCons (tCall (spP K (TMovD Cd)) [] E0 (tCons (tVar 0) (tCons (tVar 1) tNil))) (tCons (tOp rSubI (tC (.int 0)) (tVar 1)) tNil))) (tVar 0)))) (tRet (tC (.bl false))) tNext)
    (tSeq (tIfS (tOr (tTest (tOp (rEqOwn K Cd true (spP K (TEqD Cd)) E0) (tCall (spP K (TMovD Cd)) [] E0 (tCons (tCall (spP K (TMovD Cd)) [] E0 (tCons (tVar 0) (tCons (tOp rPowI (tC (.int 10)) (tC (.int 18))) tNil))) (tCons (tUn rNegI (tOp rPowI (tC (.int 10)) (tC (.int 18)))) tNil))) (tVar 0))) (tTest (tOp (rEqOwn K Cd true (spP K (TEqD Cd)) E0) (tCall (spP K (TMovD Cd)) [] E0 (tCons (tCall (spP K (TMovD Cd)) [] E0 (tCons (tVar 0) (tCons (tC (.int 5)) tNil))) (tCons (tOp rPowI (tC (.int 10)) (tC (.int 17))) tNil))) (tCall (spP K (TMovD Cd)) [] E0 (tCons (tVar 0) (tCons (tOp rAddI (tOp rPowI (tC (.int 10)) (tC (.int 17))) (tC (.int 5))) tNil)))))) (tRet (tC (.bl false))) tNext)
    (tSeq (tIfS (tOr (tTest (tOp (rEqOwn K Cd true (spP K (TEqD Cd)) E0) (tCall (spP K (TJn Cd (fun a b => a ∧ b))) [] E0 (tCons (tVar 0) (tCons (tCall (spP K (TAllD Cd True)) [] E0 tNil) tNil))) (tVar 0))) (tOr (tTest (tOp (rEqOwn K Cd true (spP K (TEqD Cd)) E0) (tCall (spP K (TJn Cd (fun a b => a ∨ b))) [] E0 (tCons (tVar 0) (tCons (tCall (spP K (TAllD Cd False)) [] E0 tNil) tNil))) (tVar 0))) (tTest (tOp (rEqOwn K Cd true (spP K (TEqD Cd)) E0) (tCall (spP K (TJn Cd (fun a b => a ∧ b))) [] E0 (tCons (tVar 0) (tCons (tVar 0) tNil))) (tVar 0))))) (tRet (tC (.bl false))) tNext)
    (tSeq (tIfS (tOr (tTest (tOp (rEqOwn K Cd true (spP K (TEqD Cd)) E0) (tCall (spP K (TJn Cd (fun a b => a ∧ b))) [] E0 (tCons (tVar 0) (tCons (tCall (spP K (TOthD Cd)) [] E0 (tCons (tVar 0) tNil)) tNil))) (tCall (spP K (TAllD Cd False)) [] E0 tNil))) (tTest (tOp (rEqOwn K Cd true (spP K (TEqD Cd)) E0) (tCall (spP K (TJn Cd (fun a b => a ∨ b))) [] E0 (tCons (tVar 0) (tCons (tCall (spP K (TOthD Cd)) [] E0 (tCons (tVar 0) tNil)) tNil))) (tCall (spP K (TAllD Cd True)) [] E0 tNil)))) (tRet (tC (.bl false))) tNext)
    (tSeq (tIfS (tOr (tTest (tOp (rEqOwn K Cd true (spP K (TEqD Cd)) E0) (tCall (spP K (TJn Cd (fun a b => a ∧ ¬ b))) [] E0 (tCons (tVar 0) (tCons (tVar 0) tNil))) (tCall (spP K (TAllD Cd False)) [] E0 tNil))) (tTest (tOp (rEqOwn K Cd true (spP K (TEqD Cd)) E0) (tCall (spP K (TJn Cd (fun a b => a ∧ ¬ b))) [] E0 (tCons (tCall (spP K (TAllD Cd True)) [] E0 tNil) (tCons (tVar 0) tNil))) (tCall (spP K (TOthD Cd)) [] E0 (tCons (tVar 0) tNil))))) (tRet (tC (.bl false))) tNext)
    (tRet (tOrV (tOp (rNeD K) (tFld K (tVar 0) "turned") (tTup tNil)) (tOp (rEqOwn K Cd false (spP K (TEqD Cd)) E0) (tCall (spP K (TMovD Cd)) [] E0 (tCons (tVar 0) (tCons (tOp rMulI (tFld K (tVar 0) "period") (tC (.int 3))) tNil))) (tVar 0)))))))))
def t_counts (K : PySem.W.Frag) (Cd : Addr) : TS :=
  (tSeq (tAsg (tOp rAddI (tCall (spP K (TCnt Cd)) [] E0 (tCons (tVar 0) (tCons (tVar 3) (tCons (tVar 4) tNil)))) (tCall (spP K (TCnt Cd)) [] E0 (tCons (tVar 1) (tCons (tVar 3) (tCons (tVar 4) tNil))))) (gName 5))
    (tSeq (tIfS (tTest (tOp rNe (tOp rAddI (tCall (spP K (TCnt Cd)) [] E0 (tCons (tCall (spP K (TJn Cd (fun a b => a ∧ b))) [] E0 (tCons (tVar 0) (tCons (tVar 1) tNil))) (tCons (tVar 3) (tCons (tVar 4) tNil)))) (tCall (spP K (TCnt Cd)) [] E0 (tCons (tCall (spP K (TJn Cd (fun a b => a ∨ b))) [] E0 (tCons (tVar 0) (tCons (tVar 1) tNil))) (tCons (tVar 3) (tCons (tVar 4) tNil))))) (tVar 5))) (tRet (tC (.bl false))) tNext)
    (tSeq (tIfS (tTest (tOp rNe (tCall (spP K (TCnt Cd)) [] E0 (tCons (tCall (spP K (TMovD Cd)) [] E0 (tCons (tVar 0) (tCons (tVar 2) tNil))) (tCons (tOp rAddI (tVar 3) (tVar 2)) (tCons (tOp rAddI (tVar 4) (tVar 2)) tNil)))) (tCall (spP K (TCnt Cd)) [] E0 (tCons (tVar 0) (tCons (tVar 3) (tCons (tVar 4) tNil)))))) (tRet (tC (.bl false))) tNext)
    (tRet (tOp rEq (tOp rAddI (tCall (spP K (TCnt Cd)) [] E0 (tCons (tVar 0) (tCons (tVar 3) (tCons (tVar 4) tNil)))) (tCall (spP K (TCnt Cd)) [] E0 (tCons (tCall (spP K (TOthD Cd)) [] E0 (tCons (tVar 0) tNil)) (tCons (tVar 3) (tCons (tVar 4) tNil))))) (tOp rSubI (tVar 4) (tVar 3)))))))
section
variable {K : PySem.W.Frag} {ds : List PyData} {Φ : PyData → Prop} {Cd : Addr}
theorem IsDy.mono {M n n' B B' : Nat} {P : Int → Prop} {z : PyData} (h : IsDy Cd M n B P z) (h1 : n ≤ n') (h2 : B ≤ B') : IsDy Cd M n' B' P z := by
  obtain ⟨p, us, vs, e, N, hP⟩ := h
  exact ⟨p, us, vs, e, ⟨N.d, N.least, N.pm, by have := N.vn; omega, fun v hv => by have := N.vB v hv; omega⟩, hP⟩
theorem notFirst_own : PySem.W.notFirst K Cd (.ref Cd) = true := by
  unfold PySem.W.notFirst
  rw [show ((Value.ref Cd : Value) == .ref Cd) = true from beq_self_eq_true _]; rfl
theorem jn_join {op : Prop → Prop → Prop} (h : TJn Cd op ds Φ) {kcs : List (List Nat)} {bo : Bool → Bool → Bool} (hk : ∀ a b : Bool, decide ([sgN a, sgN b] ∈ kcs) = bo a b) (hop : ∀ (a b : Prop) [Decidable a] [Decidable b], bo (decide a) (decide b) = true ↔ op a b) :
    ∃ d1 d2, ds = [d1, d2] ∧ TJoin Cd [d1, d2, .tuple ((kcs.map SX.S).map PyData.str)] Φ := by
  obtain ⟨M, n1, n2, B, P, Q, p, q, us, vs, xs, ys, rfl, N1, hP, N2, hQ, M1, M2, hn, hL, h⟩ := h
  have v1 := N1.vn
  have v2 := N2.vn
  have dm : Nat.lcm p q ∣ M := Nat.lcm_dvd N1.pm N2.pm
  have lm : Nat.lcm p q ≤ M := Nat.le_of_dvd (by omega) dm
  refine ⟨_, _, rfl, kcs, bo, p, q, us, vs, xs, ys, rfl, hk, N1.d, N2.d, by omega, by omega, fun L nd hr => hL L nd fun r z => ⟨(hr r z).1, (hop _ _).mp (hr r z).2⟩, fun p' us' vs' N hv hi => h _ ⟨p', us', vs', rfl, ⟨N.d, N.least, Nat.dvd_trans N.pm dm, by have := N.vn; omega, fun v z => ?_⟩, fun x => ?_⟩⟩
  · rcases hv v z with y | y
    · exact N1.vB v y
    · exact N2.vB v y
  · rw [hi x, hop]
    show op (inD p us vs x) (inD q xs ys x) ↔ op (P x) (Q x)
    rw [propext (hP x), propext (hQ x)]
theorem ws_both (h : TJn Cd (fun a b => a ∧ b) ds Φ) : WS K S0 (t_both K Cd) (rhoOf 2 ds) { nx := fun _ => Φ .none, rt := fun d _ => Φ d } := by
  obtain ⟨d1, d2, rfl, hj⟩ := jn_join (kcs := [[49, 49]]) (bo := fun a b => a && b) h (fun a b => by cases a <;> cases b <;> rfl) (fun a b => by simp)
  show WS K S0 (t_both K Cd) [.dat d1, .dat d2] _
  unfold t_both
  exact ws_ret (wd_call0 (wa_cons (wd_var rfl (wa_cons (wd_var rfl (wa_cons (wd_tup (wa_cons (wd_str (wa_nil ⟨Nat.le_of_ble_eq_true rfl, wa_nil hj⟩))))))))))
theorem ws_either (h : TJn Cd (fun a b => a ∨ b) ds Φ) : WS K S0 (t_either K Cd) (rhoOf 2 ds) { nx := fun _ => Φ .none, rt := fun d _ => Φ d } := by
  obtain ⟨d1, d2, rfl, hj⟩ := jn_join (kcs := [[49, 49], [49, 48], [48, 49]]) (bo := fun a b => a || b) h (fun a b => by cases a <;> cases b <;> rfl) (fun a b => by simp)
  show WS K S0 (t_either K Cd) [.dat d1, .dat d2] _
  unfold t_either
  exact ws_ret (wd_call0 (wa_cons (wd_var rfl (wa_cons (wd_var rfl (wa_cons (wd_tup (wa_cons (wd_str (wa_cons (wd_str (wa_cons (wd_str (wa_nil ⟨Nat.le_of_ble_eq_true rfl, wa_nil hj⟩))))))))))))))
theorem ws_without (h : TJn Cd (fun a b => a ∧ ¬ b) ds Φ) : WS K S0 (t_without K Cd) (rhoOf 2 ds) { nx := fun _ => Φ .none, rt := fun d _ => Φ d } := by
  obtain ⟨d1, d2, rfl, hj⟩ := jn_join (kcs := [[49, 48]]) (bo := fun a b => a && !b) h (fun a b => by cases a <;> cases b <;> rfl) (fun a b => by simp)
  show WS K S0 (t_without K Cd) [.dat d1, .dat d2] _
  unfold t_without
  exact ws_ret (wd_call0 (wa_cons (wd_var rfl (wa_cons (wd_var rfl (wa_cons (wd_tup (wa_cons (wd_str (wa_nil ⟨Nat.le_of_ble_eq_true rfl, wa_nil hj⟩))))))))))
end
/-- what te tells are these days -/
def PE (K : PySem.W.Frag) (Cd : Addr) (ρ : Rho) (te : TE) (n B : Nat) (P : Int → Prop) : Prop := ∀ Θ : PyData → Rho → Prop, (∀ z, IsDy Cd 2520 n B P z → Θ z ρ) → WD K S0 te ρ Θ
section
variable {K : PySem.W.Frag} {Cd : Addr} {ρ : Rho} {t1 t2 ts : TE} {n n1 n2 B B1 B2 : Nat} {P Q : Int → Prop}
theorem PE.var {i : Nat} {z : PyData} (h : ρ[i]? = some (.dat z)) (hz : IsDy Cd 2520 n B P z) : PE K Cd ρ (tVar i) n B P := fun Θ f => wd_var h (f z hz)
theorem lcm_few {p q : Nat} (h : Nat.lcm p q ∣ 2520) {L : List Int} (nd : L.Nodup) (hr : ∀ r ∈ L, 0 ≤ r ∧ r < Nat.lcm p q) : L.length ≤ 4000 := by
  have l := Nat.le_of_dvd (by decide) h
  have := nd_le (m := (List.range 2520).map fun i : Nat => (i : Int)) nd fun k hk => List.mem_map.mpr ⟨k.toNat, List.mem_range.mpr (by have := hr k hk; omega), by have := hr k hk; omega⟩
  rw [List.length_map, List.length_range] at this
  omega
theorem PE.jn (op : Prop → Prop → Prop) (h1 : PE K Cd ρ t1 n1 B1 P) (h2 : PE K Cd ρ t2 n2 B2 Q) (hn : n1 + n2 ≤ 1000) : PE K Cd ρ (tCall (spP K (TJn Cd op)) [] E0 (tCons t1 (tCons t2 tNil))) (n1 + n2) (max B1 B2) (fun d => op (P d) (Q d)) := fun Θ f =>
  wd_call0 (wa_cons (h1 _ fun z1 hz1 => wa_cons (h2 _ fun z2 hz2 => wa_nil (by
    obtain ⟨p, us, vs, rfl, N1, hP⟩ := hz1.mono (Nat.le_refl _) (Nat.le_max_left B1 B2)
    obtain ⟨q, xs, ys, rfl, N2, hQ⟩ := hz2.mono (Nat.le_refl _) (Nat.le_max_right B1 B2)
    exact ⟨2520, n1, n2, max B1 B2, P, Q, p, q, us, vs, xs, ys, rfl, N1, hP, N2, hQ, by decide, by decide, hn, fun L nd hL => lcm_few (Nat.lcm_dvd N1.pm N2.pm) nd fun r z => (hL r z).1, f⟩))))
theorem PE.both (h1 : PE K Cd ρ t1 n1 B1 P) (h2 : PE K Cd ρ t2 n2 B2 Q) (hn : n1 + n2 ≤ 1000) : PE K Cd ρ (tCall (spP K (TJn Cd (fun a b => a ∧ b))) [] E0 (tCons t1 (tCons t2 tNil))) (n1 + n2) (max B1 B2) (fun d => P d ∧ Q d) := PE.jn _ h1 h2 hn
theorem PE.either (h1 : PE K Cd ρ t1 n1 B1 P) (h2 : PE K Cd ρ t2 n2 B2 Q) (hn : n1 + n2 ≤ 1000) : PE K Cd ρ (tCall (spP K (TJn Cd (fun a b => a ∨ b))) [] E0 (tCons t1 (tCons t2 tNil))) (n1 + n2) (max B1 B2) (fun d => P d ∨ Q d) := PE.jn _ h1 h2 hn
theorem PE.without (h1 : PE K Cd ρ t1 n1 B1 P) (h2 : PE K Cd ρ t2 n2 B2 Q) (hn : n1 + n2 ≤ 1000) : PE K Cd ρ (tCall (spP K (TJn Cd (fun a b => a ∧ ¬ b))) [] E0 (tCons t1 (tCons t2 tNil))) (n1 + n2) (max B1 B2) (fun d => P d ∧ ¬ Q d) := PE.jn (fun a b => a ∧ ¬ b) h1 h2 hn
theorem PE.oth (h1 : PE K Cd ρ t1 n B P) (hn : n ≤ 1000) (hB : B ≤ 4611686018427387904) : PE K Cd ρ (tCall (spP K (TOthD Cd)) [] E0 (tCons t1 tNil)) n B (fun d => ¬ P d) := fun Θ f =>
  wd_call0 (wa_cons (h1 _ fun z1 hz1 => wa_nil (by
    obtain ⟨p, us, vs, rfl, N1, hP⟩ := hz1
    have := Nat.le_of_dvd (by decide) N1.pm
    exact ⟨2520, n, B, P, p, us, vs, rfl, N1, hP, by omega, hB, hn, f⟩)))
theorem Dy.us_le {p : Nat} {us vs : List Int} (D : Dy p us vs) : us.length ≤ p := by
  have := nd_le (m := (List.range p).map fun i : Nat => (i : Int)) (ris_nd D.ur) fun k hk => List.mem_map.mpr ⟨k.toNat, List.mem_range.mpr (by have := D.ub k hk; omega), by have := D.ub k hk; omega⟩
  rwa [List.length_map, List.length_range] at this
theorem PE.mov {s : Int} (h1 : PE K Cd ρ t1 n B P) (hs : ∀ Θ : PyData → Rho → Prop, Θ (.int s) ρ → WD K S0 ts ρ Θ) {k : Nat} (hk : s.natAbs = k) (hn : n ≤ 1000) (hB : B + k ≤ 4611686018427387904) : PE K Cd ρ (tCall (spP K (TMovD Cd)) [] E0 (tCons t1 (tCons ts tNil))) n (B + k) (fun d => P (d - s)) := fun Θ f =>
  wd_call0 (wa_cons (h1 _ fun z1 hz1 => wa_cons (hs _ (wa_nil (by
    obtain ⟨p, us, vs, rfl, N1, hP⟩ := hz1
    subst hk
    have := Nat.le_of_dvd (by decide) N1.pm
    have := N1.d.us_le
    exact ⟨2520, n, B, P, p, us, vs, s, rfl, N1, hP, by omega, hB, hn, f⟩)))))
theorem PE.all : PE K Cd ρ (tCall (spP K (TAllD Cd True)) [] E0 tNil) 0 0 (fun _ => True) := fun Θ f => wd_call0 (wa_nil ⟨rfl, fun z hz => f z (hz 2520)⟩)
theorem PE.no : PE K Cd ρ (tCall (spP K (TAllD Cd False)) [] E0 tNil) 0 0 (fun _ => False) := fun Θ f => wd_call0 (wa_nil ⟨rfl, fun z hz => f z (hz 2520)⟩)
theorem wd_eqT {Φ : PyData → Rho → Prop} (h1 : PE K Cd ρ t1 n1 B1 P) (h2 : PE K Cd ρ t2 n2 B2 Q) (e : ∀ x, P x ↔ Q x) (f : Φ (.bool true) ρ) : WD K S0 (tOp (rEqOwn K Cd false (spP K (TEqD Cd)) E0) t1 t2) ρ Φ := wd_cmpOwn (h1 _ fun z1 hz1 => h2 _ fun z2 hz2 => by
  obtain ⟨p, us, vs, rfl, N1, hP⟩ := hz1
  obtain ⟨q, xs, ys, rfl, N2, hQ⟩ := hz2
  have u := N1.uniq N2 fun d => by rw [hP, hQ, e]
  exact ⟨_, rfl, notFirst_own, p, q, us, vs, xs, ys, rfl, true, by rw [decide_eq_true u], f⟩)
theorem wd_neF {Φ : PyData → Rho → Prop} (h1 : PE K Cd ρ t1 n1 B1 P) (h2 : PE K Cd ρ t2 n2 B2 Q) (e : ∀ x, P x ↔ Q x) (f : Φ (.bool false) ρ) : WD K S0 (tOp (rEqOwn K Cd true (spP K (TEqD Cd)) E0) t1 t2) ρ Φ := wd_cmpOwn (h1 _ fun z1 hz1 => h2 _ fun z2 hz2 => by
  obtain ⟨p, us, vs, rfl, N1, hP⟩ := hz1
  obtain ⟨q, xs, ys, rfl, N2, hQ⟩ := hz2
  have u := N1.uniq N2 fun d => by rw [hP, hQ, e]
  exact ⟨_, rfl, notFirst_own, p, q, us, vs, xs, ys, rfl, true, by rw [decide_eq_true u], f⟩)
theorem wd_cntP {Φ : PyData → Rho → Prop} {a : Int} {k : Nat} {ta tb : TE} (h1 : PE K Cd ρ t1 n B P) (ha : ∀ Θ : PyData → Rho → Prop, Θ (.int a) ρ → WD K S0 ta ρ Θ) (hb : ∀ Θ : PyData → Rho → Prop, Θ (.int (a + k)) ρ → WD K S0 tb ρ Θ) (b1 : a.natAbs ≤ 2 ^ 61) (b2 : k ≤ 2 ^ 60) (f : Φ (.int (cN P a k)) ρ) :
    WD K S0 (tCall (spP K (TCnt Cd)) [] E0 (tCons t1 (tCons ta (tCons tb tNil)))) ρ Φ :=
  wd_call0 (wa_cons (h1 _ fun z1 hz1 => wa_cons (ha _ (wa_cons (hb _ (wa_nil (by
    obtain ⟨p, us, vs, rfl, N1, hP⟩ := hz1
    exact ⟨p, us, vs, a, a + k, rfl, N1.d, by omega, by omega, by omega, by rw [cntD_cN N1.d hP]; exact f⟩)))))))
end
def B0 : Nat := 1000000000000001000
def TRings (Cd : Addr) : List PyData → (PyData → Prop) → Prop := fun ds Φ => ∃ (x y z : PyData) (P Q R : Int → Prop), ds = [x, y, z] ∧ IsDy Cd 2520 60 B0 P x ∧ IsDy Cd 2520 60 B0 Q y ∧ IsDy Cd 2520 60 B0 R z ∧ Φ (.bool true)
def TEnds (Cd : Addr) : List PyData → (PyData → Prop) → Prop := fun ds Φ => ∃ (x : PyData) (P : Int → Prop) (s : Int), ds = [x, .int s] ∧ IsDy Cd 2520 60 B0 P x ∧ s.natAbs ≤ 1000000 ∧ Φ (.bool true)
def TCounts (Cd : Addr) : List PyData → (PyData → Prop) → Prop := fun ds Φ => ∃ (x y : PyData) (P Q : Int → Prop) (s a : Int) (k : Nat), ds = [x, y, .int s, .int a, .int (a + k)] ∧ IsDy Cd 2520 60 B0 P x ∧ IsDy Cd 2520 60 B0 Q y ∧ s.natAbs ≤ 1000000 ∧ a.natAbs ≤ 800000000000000000 ∧ k ≤ 1000000000000 ∧ Φ (.bool true)
def TThree (Cd : Addr) : Nat → List PyData → (PyData → Nat → Prop) → Prop := fun B ds Φ => ds = [] ∧ B + 2000 ≤ 2 ^ 40 ∧ ∀ (x y z : PyData) (P Q R : Int → Prop) (B' : Nat), IsDy Cd 2520 60 B0 P x → IsDy Cd 2520 60 B0 Q y → IsDy Cd 2520 60 B0 R z → B' ≤ B + 1000 → Φ (.list [x, y, z]) B'
section
variable {K : PySem.W.Frag} {ds : List PyData} {Φ : PyData → Prop} {Φ' : PyData → Nat → Prop} {Cd : Addr} {S : Stt} {B : Nat}
theorem ws_rings (h : TRings Cd ds Φ) : WS K S0 (t_rings K Cd) (rhoOf 3 ds) { nx := fun _ => Φ .none, rt := fun d _ => Φ d } := by
  obtain ⟨x, y, z, P, Q, R, rfl, h1, h2, h3, h⟩ := h
  show WS K S0 (t_rings K Cd) [.dat x, .dat y, .dat z] _
  unfold t_rings
  have va : PE K Cd [.dat x, .dat y, .dat z] (tVar 0) 60 B0 P := PE.var rfl h1
  have vb : PE K Cd [.dat x, .dat y, .dat z] (tVar 1) 60 B0 Q := PE.var rfl h2
  have vc : PE K Cd [.dat x, .dat y, .dat z] (tVar 2) 60 B0 R := PE.var rfl h3
  refine ws_seq (ws_if (wt_or (wt_test (wd_neF (va.both vb (by decide)) (vb.both va (by decide)) (fun _ => and_comm) ⟨_, rfl, if_f ?_⟩))))
  refine wt_test (wd_neF (va.either vb (by decide)) (vb.either va (by decide)) (fun _ => or_comm) ⟨_, rfl, if_f (ws_next ?_)⟩)
  refine ws_seq (ws_if (wt_test (wd_neF ((va.both vb (by decide)).both vc (by decide)) (va.both (vb.both vc (by decide)) (by decide)) (fun _ => and_assoc) ⟨_, rfl, if_f (ws_next ?_)⟩)))
  refine ws_seq (ws_if (wt_test (wd_neF ((va.either vb (by decide)).either vc (by decide)) (va.either (vb.either vc (by decide)) (by decide)) (fun _ => or_assoc) ⟨_, rfl, if_f (ws_next ?_)⟩)))
  refine ws_seq (ws_if (wt_test (wd_neF (va.both (vb.either vc (by decide)) (by decide)) ((va.both vb (by decide)).either (va.both vc (by decide)) (by decide)) (fun _ => and_or_left) ⟨_, rfl, if_f (ws_next ?_)⟩)))
  refine ws_seq (ws_if (wt_test (wd_neF ((va.both vb (by decide)).oth (by decide) (by decide)) ((va.oth (by decide) (by decide)).either (vb.oth (by decide) (by decide)) (by decide)) (fun _ => Classical.not_and_iff_not_or_not) ⟨_, rfl, if_f (ws_next ?_)⟩)))
  exact ws_ret (wd_eqT (va.without vb (by decide)) (va.both (vb.oth (by decide) (by decide)) (by decide)) (fun _ => Iff.rfl) h)
theorem ws_ends (c : DayC K Cd) (h : TEnds Cd ds Φ) : WS K S0 (t_ends K Cd) (rhoOf 2 ds) { nx := fun _ => Φ .none, rt := fun d _ => Φ d } := by
  obtain ⟨x, P, s, rfl, h1, hs, h⟩ := h
  show WS K S0 (t_ends K Cd) [.dat x, .dat (.int s)] _
  unfold t_ends
  have va : PE K Cd [.dat x, .dat (.int s)] (tVar 0) 60 B0 P := PE.var rfl h1
  have b0 : B0 = 1000000000000001000 := rfl
  refine ws_seq (ws_if (wt_or (wt_test (wd_neF ((va.oth (by decide) (by decide)).oth (by decide) (by decide)) va (fun _ => Classical.not_not) ⟨_, rfl, if_f ?_⟩))))
  refine wt_test (wd_neF ((va.mov (s := s) (fun Θ f => wd_var rfl f) rfl (by decide) (by omega)).mov (s := 0 - s) (fun Θ f => wd_op (wd_int (wd_var rfl (do_sub f)))) rfl (by decide) (by omega)) va (fun d => by rw [show d - (0 - s) - s = d by omega]) ⟨_, rfl, if_f (ws_next ?_)⟩)
  refine ws_seq (ws_if (wt_or (wt_test (wd_neF ((va.mov (s := 1000000000000000000) (k := 1000000000000000000) (fun Θ f => by walk_at "dl"; exact f) rfl (by decide) (by decide)).mov (s := -1000000000000000000) (k := 1000000000000000000) (fun Θ f => by walk_at "dl"; exact f) rfl (by decide) (by decide)) va (fun d => by rw [show d - -1000000000000000000 - 1000000000000000000 = d by omega]) ⟨_, rfl, if_f ?_⟩))))
  refine wt_test (wd_neF ((va.mov (s := 5) (k := 5) (fun Θ f => by walk_at "dl"; exact f) rfl (by decide) (by decide)).mov (s := 100000000000000000) (k := 100000000000000000) (fun Θ f => by walk_at "dl"; exact f) rfl (by decide) (by decide)) (va.mov (s := 100000000000000005) (k := 100000000000000005) (fun Θ f => by walk_at "dl"; exact f) rfl (by decide) (by decide)) (fun d => by rw [show d - 100000000000000000 - 5 = d - 100000000000000005 by omega]) ⟨_, rfl, if_f (ws_next ?_)⟩)
  refine ws_seq (ws_if (wt_or (wt_test (wd_neF (va.both PE.all (by decide)) va (fun _ => and_iff_left trivial) ⟨_, rfl, if_f ?_⟩))))
  refine wt_or (wt_test (wd_neF (va.either PE.no (by decide)) va (fun _ => or_iff_left id) ⟨_, rfl, if_f ?_⟩))
  refine wt_test (wd_neF (va.both va (by decide)) va (fun _ => and_self_iff) ⟨_, rfl, if_f (ws_next ?_)⟩)
  refine ws_seq (ws_if (wt_or (wt_test (wd_neF (va.both (va.oth (by decide) (by decide)) (by decide)) PE.no (fun _ => ⟨fun z => z.2 z.1, fun z => z.elim⟩) ⟨_, rfl, if_f ?_⟩))))
  refine wt_test (wd_neF (va.either (va.oth (by decide) (by decide)) (by decide)) PE.all (fun _ => ⟨fun _ => trivial, fun _ => Classical.em _⟩) ⟨_, rfl, if_f (ws_next ?_)⟩)
  refine ws_seq (ws_if (wt_or (wt_test (wd_neF (va.without va (by decide)) PE.no (fun _ => ⟨fun z => z.2 z.1, fun z => z.elim⟩) ⟨_, rfl, if_f ?_⟩))))
  refine wt_test (wd_neF (PE.all.without va (by decide)) (va.oth (by decide) (by decide)) (fun _ => and_iff_right trivial) ⟨_, rfl, if_f (ws_next ?_)⟩)
  obtain ⟨p, us, vs, rfl, N, hP⟩ := h1
  refine ws_ret (wd_orV (wd_op (wd_fld (wd_var rfl ⟨Cd, _, _, rfl, c.t, rfl, wd_tup (wa_nil ⟨Nat.le_of_ble_eq_true rfl, do_neD (sh_tJ _) (sh_tJ []) ⟨_, rfl, ?_⟩⟩)⟩))))
  rw [show PyData.tuple [] = .tuple (([] : List Int).map PyData.int) from rfl, eqv_tJ]
  refine if_nb (fun _ => h) (fun e => ?_)
  subst e
  have hx : IsDy Cd 2520 60 B0 P (dayD Cd p us []) := ⟨p, us, [], rfl, N, hP⟩
  have va : PE K Cd [.dat (dayD Cd p us []), .dat (.int s)] (tVar 0) 60 B0 P := PE.var rfl hx
  have p2 := N.d.p2
  refine wd_eqT (va.mov (s := (p : Int) * 3) (fun Θ f => wd_op (wd_fld (wd_var rfl ⟨Cd, dayPs p us [], _, rfl, c.p, rfl, wd_int (do_mul (wideJ (small200 (n := 30) (by omega) (by decide)) (by decide)) f)⟩))) (k := p * 3) (by omega) (by decide) (by omega)) va (fun d => ?_) h
  rw [← hP, ← hP]
  unfold inD rgI
  rw [show d - (p : Int) * 3 = d + p * (-3) by omega, Int.add_mul_emod_self_left]
  simp
theorem ws_counts (h : TCounts Cd ds Φ) : WS K S0 (t_counts K Cd) (rhoOf 6 ds) { nx := fun _ => Φ .none, rt := fun d _ => Φ d } := by
  obtain ⟨x, y, P, Q, s, a, k, rfl, h1, h2, hs, ha, hk, h⟩ := h
  show WS K S0 (t_counts K Cd) [.dat x, .dat y, .dat (.int s), .dat (.int a), .dat (.int (a + k)), .unk] _
  unfold t_counts
  have b0 : B0 = 1000000000000001000 := rfl
  refine ws_seq (ws_asg (wd_op (wd_cntP (PE.var rfl h1) (fun Θ f => wd_var rfl f) (fun Θ f => wd_var rfl f) (by omega) (by omega) ?_)))
  refine wd_cntP (PE.var rfl h2) (fun Θ f => wd_var rfl f) (fun Θ f => wd_var rfl f) (by omega) (by omega) (do_add ?_)
  show WS K S0 _ [.dat x, .dat y, .dat (.int s), .dat (.int a), .dat (.int (a + k)), .dat (.int (cN P a k + cN Q a k))] _
  refine ws_seq (ws_if (wt_test (wd_op (wd_op (wd_cntP ((PE.var rfl h1).both (PE.var rfl h2) (by decide)) (fun Θ f => wd_var rfl f) (fun Θ f => wd_var rfl f) (by omega) (by omega) ?_)))))
  refine wd_cntP ((PE.var rfl h1).either (PE.var rfl h2) (by decide)) (fun Θ f => wd_var rfl f) (fun Θ f => wd_var rfl f) (by omega) (by omega) (do_add (wd_var rfl (do_nei ⟨_, rfl, ?_⟩)))
  rw [cN_both]
  refine if_nb (fun z => absurd rfl z) (fun _ => ws_next ?_)
  refine ws_seq (ws_if (wt_test (wd_op (wd_cntP (a := a + s) (k := k) ((PE.var rfl h1).mov (s := s) (fun Θ f => wd_var rfl f) rfl (by decide) (by omega)) (fun Θ f => wd_op (wd_var rfl (wd_var rfl (do_add f)))) (fun Θ f => wd_op (wd_var rfl (wd_var rfl (do_add (by rw [show a + k + s = a + s + k by omega]; exact f))))) (by omega) (by omega) ?_))))
  refine wd_cntP (PE.var rfl h1) (fun Θ f => wd_var rfl f) (fun Θ f => wd_var rfl f) (by omega) (by omega) (do_nei ⟨_, rfl, ?_⟩)
  rw [cN_move]
  refine if_nb (fun z => absurd rfl z) (fun _ => ws_next ?_)
  refine ws_ret (wd_op (wd_op (wd_cntP (PE.var rfl h1) (fun Θ f => wd_var rfl f) (fun Θ f => wd_var rfl f) (by omega) (by omega) ?_)))
  refine wd_cntP ((PE.var rfl h1).oth (by decide) (by decide)) (fun Θ f => wd_var rfl f) (fun Θ f => wd_var rfl f) (by omega) (by omega) (do_add (wd_op (wd_var rfl (wd_var rfl (do_sub (do_eqi ?_))))))
  rw [cN_not, show a + (k : Int) - a = k by omega, decide_eq_true rfl]
  exact h
theorem do_ixAny {ds : List PyData} {i : Int} {Ψ : PyData → Prop} (h0 : 0 ≤ i) (h1 : i < ds.length) (f : ∀ d ∈ ds, Ψ d) : DO K (rIxL K) (.list ds) (.int i) Ψ :=
  do_ixLn (k := i.toNat) (by omega) (List.getElem?_eq_getElem (by omega)) (f _ (List.getElem_mem _))
theorem Rst.cut {bs : List Int} (h : Rst bs) {m : Nat} (hm : 1 ≤ m) : Rst (bs.take m) := ⟨by rw [List.length_take]; have := h.l1; omega, by rw [List.length_take]; have := h.l2; omega, fun b z => h.bt b (List.mem_of_mem_take z), Nat.le_trans ((List.take_sublist _ _).filter _).length_le h.on⟩
theorem dvd_of_fmod {n : Nat} (h1 : 1 ≤ n) (h : ¬ (2520 : Int).fmod n > 0) : n ∣ 2520 := by
  have e : (2520 : Int).fmod n = ((2520 % n : Nat) : Int) := by rw [Int.fmod_eq_emod_of_nonneg _ (by omega), Int.natCast_emod]; rfl
  exact Nat.dvd_of_mod_eq_zero (by omega)
theorem put_days {bs ts : List Int} (hb : Rst bs) (ht : Trn ts) (hd : bs.length ∣ 2520) {p : Nat} {us vs : List Int} (f : DyF bs.length (mks bs) ts p us vs) : ∃ P, IsDy Cd 2520 60 B0 P (dayD Cd p us vs) := by
  obtain ⟨ny, _⟩ := f.ny (k := 60) (B := B0) (M := 2520) (fun m z => mks_mem m z) hb.l2 (by have := mks_one hb; omega) ht.l (by decide) ht.b (by decide) hd
  exact ⟨_, p, us, vs, rfl, ny, fun _ => Iff.rfl⟩
theorem ws_three (hF : FPot S) (h : TThree Cd B ds Φ') : WS K S (t_three K Cd) (.sto B :: rhoOf 4 ds) { nx := fun _ => False, rt := fun d ρ => ∃ B', ρ[0]? = some (.sto B') ∧ Φ' d B' } := by
  obtain ⟨rfl, hB, hΦ⟩ := h
  show WS K S (t_three K Cd) [.sto B, .unk, .unk, .unk, .unk] _
  unfold t_three
  have szl : sizeLine = 16777216 := sizeLine_eq
  refine ws_seq (ws_own (wa_nil ⟨Nat.zero_le _, ?_⟩))
  refine ws_seq (ws_for (wi_rng1 (wa_cons (wd_int (wa_nil ⟨_, rfl, by decide, by decide, fun k ρ => ∃ (B1 : Nat) (zs : List PyData) (s2 s3 s4 : Sl), ρ = [.sto B1, .own zs, s2, s3, s4] ∧ zs.length = k ∧ B1 ≤ B + 300 * k ∧ ∀ z ∈ zs, ∃ P, IsDy Cd 2520 60 B0 P z, ⟨B, [], _, _, _, rfl, rfl, by omega, fun z hz => nomatch hz⟩, ?_, ?_⟩)))))
  · rintro k d ρ2 hd ⟨B1, zs, s2, s3, s4, rfl, zl, hB1, hz⟩
    have hk : k < 3 := by
      have := (List.getElem?_eq_some_iff.mp hd).1
      rw [List.length_map, List.length_range] at this
      exact this
    refine ⟨_, _, gd_name, ws_wipe [3, 4] ?_⟩
    show WS K S _ [.sto B1, .own zs, .dat d, .unk, .unk] _
    refine ws_seq (ws_unp2 (wd_callS hF rfl (wa_nil ⟨B1, rfl, rfl, by omega, fun bs ts B2 hb ht hB2 => ⟨_, _, rfl, ?_⟩⟩)))
    show WS K S _ [.sto B2, .own zs, .dat d, .dat (.list (bs.map PyData.int)), .dat (.list (ts.map PyData.int))] _
    have fin : ∀ {En : DE} (he : ∀ ρ, (∃ (B1 : Nat) (zs : List PyData) (s2 s3 s4 : Sl), ρ = [.sto B1, .own zs, s2, s3, s4] ∧ zs.length = k + 1 ∧ B1 ≤ B + 300 * (k + 1) ∧ ∀ z ∈ zs, ∃ P, IsDy Cd 2520 60 B0 P z) → En.nx ρ) (cs : List Int) (B3 : Nat), Rst cs → cs.length ∣ 2520 → B3 ≤ B1 + 300 → WS K S (tDrop (tBM K "list" rAppend (tVar 1) (tCons (tCall (spP K (TPut13 Cd)) [] E0 (tCons (tTup (tCons (tVar 3) (tCons (tVar 4) tNil))) tNil)) tNil))) [.sto B3, .own zs, .dat d, .dat (.list (cs.map PyData.int)), .dat (.list (ts.map PyData.int))] En := fun {En} he cs B3 hc hd3 hB3 => by
      refine ws_append rfl (wd_call0 (wa_cons (wd_tup (wa_cons (wd_var rfl (wa_cons (wd_var rfl (wa_nil ⟨Nat.le_of_ble_eq_true rfl, wa_nil ⟨cs, ts, rfl, hc, ht, fun p us vs f => ⟨_, rfl, by omega, ?_⟩⟩⟩))))))))
      refine he _ ⟨B3, zs ++ [dayD Cd p us vs], _, _, _, rfl, by rw [List.length_append, zl]; rfl, by omega, fun z mz => ?_⟩
      rcases List.mem_append.mp mz with mz | mz
      · exact hz z mz
      · rw [List.mem_singleton] at mz; subst mz
        exact put_days hc ht hd3 f
    have two : ∀ {En : DE} (he : ∀ ρ, (∃ (B1 : Nat) (zs : List PyData) (s2 s3 s4 : Sl), ρ = [.sto B1, .own zs, s2, s3, s4] ∧ zs.length = k + 1 ∧ B1 ≤ B + 300 * (k + 1) ∧ ∀ z ∈ zs, ∃ P, IsDy Cd 2520 60 B0 P z) → En.nx ρ) (cs : List Int) (B3 : Nat), Rst cs → B3 ≤ B1 + 300 → WS K S (tSeq (tIfS (tTest (tOp rGt (tOp rModI (tC (.int 2520)) (tCB (rLenX K) (tCons (tVar 3) tNil))) (tC (.int 0)))) (tAsg (tSl (rSlL K) (tVar 3) tNoPart (tPart (tC (.int 1)))) (gName 3)) tNext) (tDrop (tBM K "list" rAppend (tVar 1) (tCons (tCall (spP K (TPut13 Cd)) [] E0 (tCons (tTup (tCons (tVar 3) (tCons (tVar 4) tNil))) tNil)) tNil)))) [.sto B3, .own zs, .dat d, .dat (.list (cs.map PyData.int)), .dat (.list (ts.map PyData.int))] En := fun {En} he cs B3 hc hB3 => by
      have l1 := hc.l1
      refine ws_seq (ws_if (wt_test (wd_op (wd_op (wd_int (wd_cb (wa_cons (wd_var rfl (wa_nil (dc_lenL (do_mod (by rw [List.length_map]; omega) (wd_int (do_gt ⟨_, rfl, ?_⟩)))))))))))))
      rw [List.length_map]
      refine if_b (fun c => ?_) (fun c => ws_next (fin he cs B3 hc (dvd_of_fmod l1 c) hB3))
      refine ws_asg (wd_slL (wd_var rfl ⟨_, rfl, wo_none (wo_part (wd_int ⟨_, rfl, ?_⟩))⟩))
      rw [show cutD (cs.map PyData.int) none (some 1) = (cs.map PyData.int).take 1 from cutD_take (n := 1) rfl, ← List.map_take]
      exact fin he (cs.take 1) B3 (hc.cut (Nat.le_refl 1)) (by rw [List.length_take, Nat.min_eq_left l1]; exact Nat.one_dvd _) hB3
    have l1 := hb.l1
    refine ws_seq (ws_if (wt_test (wd_op (wd_op (wd_int (wd_cb (wa_cons (wd_var rfl (wa_nil (dc_lenL (do_mod (by rw [List.length_map]; omega) (wd_int (do_gt ⟨_, rfl, ?_⟩)))))))))))))
    refine if_b (fun c => ?_) (fun c => ws_next (two (fun _ h => h) bs B2 hb (by omega)))
    refine ws_asg (wd_slL (wd_var rfl ⟨_, rfl, wo_none (wo_part (wd_op (wd_lst (wa_cons (wd_int (wa_cons (wd_int (wa_cons (wd_int (wa_cons (wd_int (wa_cons (wd_int (wa_nil ⟨Nat.le_of_ble_eq_true rfl, wd_takeC hF rfl (by decide) (by decide) (by omega) fun w w0 w1 => do_ixAny w0 w1 fun x hx => ?_⟩))))))))))))))⟩))
    obtain ⟨m, rfl, hm⟩ : ∃ m : Nat, x = .int m ∧ 1 ≤ m := by
      simp only [List.mem_cons, List.not_mem_nil, or_false] at hx
      rcases hx with rfl | rfl | rfl | rfl | rfl
      · exact ⟨7, rfl, by decide⟩
      · exact ⟨8, rfl, by decide⟩
      · exact ⟨9, rfl, by decide⟩
      · exact ⟨10, rfl, by decide⟩
      · exact ⟨12, rfl, by decide⟩
    refine ⟨_, rfl, ?_⟩
    rw [cutD_take rfl, ← List.map_take]
    exact two (fun _ h => h) (bs.take m) (B2 + 1) (hb.cut hm) (by omega)
  rintro ρ2 ⟨B1, zs, s2, s3, s4, rfl, zl, hB1, hz⟩
  rw [List.length_map, List.length_range, show Int.toNat 3 = 3 from rfl] at zl hB1
  refine ws_frz (i := 1) rfl ?_
  show WS K S _ [.sto B1, .dat (.list zs), s2, s3, s4] _
  match zs, zl, hz with
  | [x, y, z], _, hz =>
    obtain ⟨P, h1⟩ := hz x (by simp)
    obtain ⟨Q, h2⟩ := hz y (by simp)
    obtain ⟨R, h3⟩ := hz z (by simp)
    exact ws_ret (wd_var rfl ⟨B1, rfl, hΦ x y z P Q R B1 h1 h2 h3 (by omega)⟩)
end
end DL

set_option Elab.async false
set_option linter.all false
set_option maxRecDepth 100000
set_option maxHeartbeats 4000000
/-! DN7: law k18 -/
namespace DL
open PySem PySem.Spec PyProof.Rows L2
local macro_rules | `(tactic| walk_at "dl") => `(tactic| repeat' (first
  | with_reducible refine wd_isTy ?_ | with_reducible refine wd_isi ?_ | ((with_reducible show WD _ _ (tOp (rIxL _) (tVar _) _) _ _); refine wd_ix_own rfl ?_) | with_reducible refine wd_op ?_ | ((with_reducible show WD _ _ (tCB (rLenX _) (tCons (tVar _) tNil)) _ _); refine wd_len_scr rfl ?_) | ((with_reducible show WD _ _ (tCB (rLenX _) (tCons (tVar _) tNil)) _ _); refine wd_len_own rfl ?_) | with_reducible refine wd_cb ?_ | with_reducible refine wd_un ?_ | with_reducible refine wa_cons ?_ | with_reducible refine wa_nil ?_ | ((with_reducible show WD _ _ (tVar _) _ _); refine wd_var rfl ?_) | with_reducible refine wd_int ?_ | with_reducible refine wd_bl ?_ | with_reducible refine wd_str ?_ | with_reducible refine wd_non ?_
  | with_reducible refine do_nesS ?_ | with_reducible refine dc_intB ?_ | with_reducible refine do_add ?_ | with_reducible refine do_sub ?_ | ((with_reducible refine do_mod ?_ ?_); decide) | with_reducible refine do_mod ?_ ?_ | with_reducible refine do_mul ?_ ?_ | ((with_reducible refine do_div ?_ ?_); exact ⟨by decide, by decide⟩) | with_reducible refine do_div ?_ ?_ | ((with_reducible refine do_pow ?_ ?_); exact ⟨by decide, by decide, by decide⟩) | with_reducible refine do_pow ?_ ?_
  | with_reducible refine do_lt ?_ | with_reducible refine do_le ?_ | with_reducible refine do_gt ?_ | with_reducible refine do_ge ?_ | with_reducible refine du_neg ?_
  | with_reducible refine do_eqi ?_ | with_reducible refine do_nei ?_ | with_reducible refine do_eqs ?_ | with_reducible refine do_nes ?_ | with_reducible refine dc_abs ?_ | with_reducible refine dc_min ?_ | with_reducible refine dc_max ?_ | with_reducible refine dc_lenL ?_ | with_reducible refine dc_lenT ?_ | with_reducible refine dc_lenR ?_ | with_reducible refine dc_listT ?_ | with_reducible refine dc_listL ?_ | with_reducible refine dc_tupL ?_ | with_reducible refine dc_gcd ?_
  | ((with_reducible show DO _ (rIxT _) _ _ _); refine do_ixT rfl ?_) | ((with_reducible show DO _ (rIxL _) _ _ _); refine do_ixL rfl ?_) | ((with_reducible refine do_catL ?_ ?_); exact Nat.le_of_ble_eq_true rfl) | with_reducible refine do_catL ?_ ?_ | ((with_reducible show And (List.length _ ≤ sizeLine) _); refine ⟨Nat.le_of_ble_eq_true rfl, ?_⟩)
  | with_reducible refine wd_dnew ?_ | with_reducible refine wd_call0 ?_ | with_reducible refine wd_slA ?_ | with_reducible refine wd_slL ?_ | with_reducible refine wd_revT ?_ | with_reducible refine do_catA ?_ ?_ | with_reducible refine wo_part ?_ | with_reducible refine wo_none ?_ | with_reducible refine do_eqQ ?_ | with_reducible refine do_neQ ?_ | with_reducible refine wi_enumT ?_ | with_reducible refine wi_enumD ?_ | with_reducible refine tAdQ (by omega) (by omega) ?_ | with_reducible refine tSbQ (by omega) (by omega) ?_ | with_reducible refine tMlQ (by omega) (by omega) ?_ | with_reducible refine tDvQ (by assumption) (by omega) (by omega) ?_ | with_reducible refine tLtQ (by omega) (by omega) ?_ | with_reducible refine dc_str ?_ ?_ | with_reducible refine wd_tup ?_ | with_reducible refine wd_lst ?_ | with_reducible refine wt_test ?_ | with_reducible refine wt_B ?_ | with_reducible refine wt_not ?_ | with_reducible refine wt_and ?_ | with_reducible refine wt_or ?_ | with_reducible refine wd_ifE ?_ | with_reducible refine wd_andV ?_ | with_reducible refine wd_orV ?_ | with_reducible refine wd_notV ?_
  | with_reducible refine ws_seq ?_ | with_reducible refine ws_next ?_ | with_reducible refine ws_asg ?_ | with_reducible refine ws_ret ?_ | with_reducible refine ws_retN ?_ | with_reducible refine ws_if ?_ | with_reducible refine ws_par ?_ | with_reducible refine ws_unp2 ?_
  | with_reducible refine if_t ?_ | with_reducible refine if_f ?_ | with_reducible refine if_nf ?_ | with_reducible refine if_nt ?_
  | ((with_reducible show Exists _); first | refine ⟨_, kitInt _, ?_⟩ | refine ⟨_, kitBool _, ?_⟩ | refine ⟨_, kitTup _, ?_⟩ | refine ⟨_, kitList _, ?_⟩ | refine ⟨_, rfl, ?_⟩ | refine ⟨_, _, rfl, ?_⟩ | fail) | fail))
def t_law18 (K : PySem.W.Frag) (Cd : Addr) : TS :=
  (tSeq (tFor (iRng1 (tCons (tCB rMaxX (tCons (tC (.int 2)) (tCons (tCB rMinX (tCons (tC (.int 8)) (tCons (tCB (rLenX K) (tCons (tVar 0) tNil)) tNil))) tNil))) tNil)) (gName 1) (tSeq (tAsg (tCall (spReel K) [] E0 (tCons (tVar 0) (tCons (tVar 1) tNil))) (gName 2))
    (tSeq (tAsg (tOp (rIxL K) (tLst (tCons (tC (.int 1)) (tCons (tUn rNegI (tC (.int 1))) (tCons (tC (.int 7)) (tCons (tOp rPowI (tC (.int 10)) (tC (.int 6))) (tCons (tOp rSubI (tC (.int 0)) (tCall (spS K FPot TTake) [] E0 (tCons (tVar 2) (tCons (tOp rPowI (tC (.int 10)) (tC (.int 6))) tNil)))) (tCons (tC (.int 0)) tNil))))))) (tCall (spS K FPot TTake) [] E0 (tCons (tVar 2) (tCons (tC (.int 6)) tNil)))) (gName 3))
    (tSeq (tAsg (tOp (rIxL K) (tLst (tCons (tOp rSubI (tCall (spS K FPot TTake) [] E0 (tCons (tVar 2) (tCons (tC (.int 60)) tNil))) (tC (.int 30))) (tCons (tUn rNegI (tOp rPowI (tC (.int 10)) (tC (.int 17)))) (tCons (tOp rMulI (tC (.int 8)) (tOp rPowI (tC (.int 10)) (tC (.int 17)))) tNil)))) (tCall (spS K FPot TTake) [] E0 (tCons (tVar 2) (tCons (tC (.int 3)) tNil)))) (gName 4))
    (tSeq (tAsg (tOp rAddI (tVar 4) (tCall (spS K FPot TTake) [] E0 (tCons (tVar 2) (tCons (tOp (rIxL K) (tLst (tCons (tC (.int 50)) (tCons (tOp rPowI (tC (.int 10)) (tC (.int 12))) tNil))) (tCall (spS K FPot TTake) [] E0 (tCons (tVar 2) (tCons (tC (.int 2)) tNil)))) tNil)))) (gName 5))
    (tSeq (tAsg (tCall (spS K FPot (TThree Cd)) [] E0 (tCons (tVar 2) tNil)) (gName 6))
    (tFor (iList K (tLst (tCons (tTup (tCons (tOp (rIxL K) (tVar 6) (tC (.int 0))) (tCons (tOp (rIxL K) (tVar 6) (tC (.int 1))) (tCons (tOp (rIxL K) (tVar 6) (tC (.int 2))) tNil)))) (tCons (tTup (tCons (tOp (rIxL K) (tVar 6) (tC (.int 2))) (tCons (tOp (rIxL K) (tVar 6) (tC (.int 0))) (tCons (tOp (rIxL K) (tVar 6) (tC (.int 1))) tNil)))) tNil)))) (gTup K 3 (gCons (gName 7) (gCons (gName 8) (gCons (gName 9) gNil)))) (tSeq (tIfS (tOr (tNot (tB (tCall (spP K (TRings Cd)) [] E0 (tCons (tVar 7) (tCons (tVar 8) (tCons (tVar 9) tNil)))))) (tNot (tB (tCall (spP K (TEnds Cd)) [] E0 (tCons (tVar 7) (tCons (tVar 3) tNil)))))) (tRet (tC (.bl false))) tNext)
    (tIfS (tNot (tB (tCall (spP K (TCounts Cd)) [] E0 (tCons (tVar 7) (tCons (tVar 8) (tCons (tVar 3) (tCons (tVar 4) (tCons (tVar 5) tNil)))))))) (tRet (tC (.bl false))) tNext)))))))))
    (tRet (tC (.bl true))))
section
variable {K : PySem.W.Frag}
theorem ws_law18 {Cd : Addr} {ns : List Int} (hl : ns.length ≤ 63) : WS K S0 (t_law18 K Cd) (.scr ns :: List.replicate 9 .unk) { nx := fun _ => False, rt := fun d _ => d = .bool true } := by
  show WS K S0 (t_law18 K Cd) [.scr ns, .unk, .unk, .unk, .unk, .unk, .unk, .unk, .unk, .unk] _
  unfold t_law18
  have szl : sizeLine = 16777216 := sizeLine_eq
  refine ws_seq (ws_for (wi_rng1 (wa_cons ?_)))
  walk_at "dl"
  have hm : ∀ m : Int, m = (if (if (ns.length : Int) < 8 then (ns.length : Int) else 8) > 2 then if (ns.length : Int) < 8 then (ns.length : Int) else 8 else 2) → 2 ≤ m ∧ m ≤ 8 := fun m e => by
    rw [e]; split <;> split <;> omega
  generalize hmm : (if (if (ns.length : Int) < 8 then (ns.length : Int) else 8) > 2 then if (ns.length : Int) < 8 then (ns.length : Int) else 8 else 2) = m
  obtain ⟨m2, m10⟩ := hm m hmm.symm
  clear hm hmm
  refine ⟨by omega, by omega, fun k ρ => ∃ s1 s2 s3 s4 s5 s6 s7 s8 s9 : Sl, ρ = [.scr ns, s1, s2, s3, s4, s5, s6, s7, s8, s9], ⟨_, _, _, _, _, _, _, _, _, rfl⟩, ?_, fun ρ2 _ => ws_ret (wd_bl rfl)⟩
  rintro k d ρ2 hd ⟨s1, s2, s3, s4, s5, s6, s7, s8, s9, rfl⟩
  have hk : k < 10 := by
    have := (List.getElem?_eq_some_iff.mp hd).1
    rw [List.length_map, List.length_range] at this
    omega
  have ed : d = .int (0 + (k : Int)) := by
    obtain ⟨h1, h2⟩ := List.getElem?_eq_some_iff.mp hd
    simp at h2
    rw [← h2]; simp
  subst ed
  refine ⟨_, _, gd_name, ws_wipe [2, 3, 4, 5, 6, 7, 8, 9] ?_⟩
  show WS K S0 _ [.scr ns, .dat (.int (0 + (k : Int))), .unk, .unk, .unk, .unk, .unk, .unk, .unk, .unk] _
  refine ws_seq (ws_reel rfl hl (wd_var rfl ⟨rfl, _, rfl, by omega, by omega, fun pn1 hp1 => ?_⟩))
  have e6 : (10 : Int) ^ Int.toNat 6 = 1000000 := by decide
  have e12 : (10 : Int) ^ Int.toNat 12 = 1000000000000 := by decide
  have e17 : (10 : Int) ^ Int.toNat 17 = 100000000000000000 := by decide
  -- by
  refine ws_seq (ws_asg (wd_op (wd_lst (wa_cons (wd_int (wa_cons (wd_un (wd_int (du_neg (wa_cons (wd_int (wa_cons (wd_op (wd_int (wd_int (do_pow ⟨by decide, by decide, by decide⟩ ?_))))))))))))))))
  refine wa_cons (wd_op (wd_int (wd_callO rfl (wa_cons (wd_op (wd_int (wd_int (do_pow ⟨by decide, by decide, by decide⟩ (wa_nil ⟨pn1, 0, rfl, hp1, _, rfl, by decide, by decide, by decide, fun x x0 x1 pn2 hp2 => do_sub ?_⟩)))))))))
  refine wa_cons (wd_int (wa_nil ⟨Nat.le_of_ble_eq_true rfl, wd_callO rfl (wa_cons (wd_int (wa_nil ⟨pn2, 0 + 1, rfl, hp2, 6, rfl, by decide, by decide, by decide, fun w w0 w1 pn3 hp3 => do_ixAny w0 w1 fun z hz => ?_⟩)))⟩))
  rw [e6] at x1 hz
  obtain ⟨s, rfl, hs⟩ : ∃ s : Int, z = .int s ∧ s.natAbs ≤ 1000000 := by
    simp only [List.mem_cons, List.not_mem_nil, or_false] at hz
    rcases hz with rfl | rfl | rfl | rfl | rfl | rfl
    · exact ⟨_, rfl, by decide⟩
    · exact ⟨_, rfl, by decide⟩
    · exact ⟨_, rfl, by decide⟩
    · exact ⟨_, rfl, by decide⟩
    · exact ⟨_, rfl, by omega⟩
    · exact ⟨_, rfl, by decide⟩
  clear x0 x1 w0 w1 hz
  show WS K S0 _ [.scr ns, .dat (.int (0 + (k : Int))), .own (pn3.map PyData.int), .dat (.int s), .unk, .unk, .unk, .unk, .unk, .unk] _
  -- one
  refine ws_seq (ws_asg (wd_op (wd_lst (wa_cons (wd_op (wd_callO rfl (wa_cons (wd_int (wa_nil ⟨pn3, 0 + 1 + 1, rfl, hp3, 60, rfl, by decide, by decide, by decide, fun x x0 x1 pn4 hp4 => wd_int (do_sub ?_)⟩)))))))))
  refine wa_cons (wd_un (wd_op (wd_int (wd_int (do_pow ⟨by decide, by decide, by decide⟩ (du_neg ?_))))))
  refine wa_cons (wd_op (wd_int (wd_op (wd_int (wd_int (do_pow ⟨by decide, by decide, by decide⟩ (do_mul (wideJ (by decide) (by decide)) ?_)))))))
  refine wa_nil ⟨Nat.le_of_ble_eq_true rfl, wd_callO rfl (wa_cons (wd_int (wa_nil ⟨pn4, 0 + 1 + 1 + 1, rfl, hp4, 3, rfl, by decide, by decide, by decide, fun w w0 w1 pn5 hp5 => do_ixAny w0 w1 fun z hz => ?_⟩)))⟩
  rw [e17] at hz
  obtain ⟨a, rfl, ha⟩ : ∃ a : Int, z = .int a ∧ a.natAbs ≤ 800000000000000000 := by
    simp only [List.mem_cons, List.not_mem_nil, or_false] at hz
    rcases hz with rfl | rfl | rfl
    · exact ⟨_, rfl, by omega⟩
    · exact ⟨_, rfl, by decide⟩
    · exact ⟨_, rfl, by decide⟩
  clear x0 x1 w0 w1 hz
  show WS K S0 _ [.scr ns, .dat (.int (0 + (k : Int))), .own (pn5.map PyData.int), .dat (.int s), .dat (.int a), .unk, .unk, .unk, .unk, .unk] _
  -- other
  refine ws_seq (ws_asg (wd_op (wd_var rfl (wd_callO rfl (wa_cons (wd_op (wd_lst (wa_cons (wd_int (wa_cons (wd_op (wd_int (wd_int (do_pow ⟨by decide, by decide, by decide⟩ ?_))))))))))))))
  refine wa_nil ⟨Nat.le_of_ble_eq_true rfl, wd_callO rfl (wa_cons (wd_int (wa_nil ⟨pn5, 0 + 1 + 1 + 1 + 1, rfl, hp5, 2, rfl, by decide, by decide, by decide, fun w w0 w1 pn6 hp6 => do_ixAny w0 w1 fun z hz => ?_⟩)))⟩
  rw [e12] at hz
  obtain ⟨m', rfl, hm1, hm2⟩ : ∃ m : Int, z = .int m ∧ 1 ≤ m ∧ m ≤ 1000000000000 := by
    simp only [List.mem_cons, List.not_mem_nil, or_false] at hz
    rcases hz with rfl | rfl
    · exact ⟨_, rfl, by decide, by decide⟩
    · exact ⟨_, rfl, by decide, by decide⟩
  clear w0 w1 hz
  refine wa_nil ⟨pn6, 0 + 1 + 1 + 1 + 1 + 1, rfl, hp6, m', rfl, hm1, by omega, by decide, fun v v0 v1 pn7 hp7 => do_add ?_⟩
  obtain ⟨n, rfl⟩ : ∃ n : Nat, v = n := ⟨v.toNat, by omega⟩
  have hn : n ≤ 1000000000000 := by omega
  clear v0 v1 hm1 hm2
  show WS K S0 _ [.scr ns, .dat (.int (0 + (k : Int))), .own (pn7.map PyData.int), .dat (.int s), .dat (.int a), .dat (.int (a + n)), .unk, .unk, .unk, .unk] _
  refine ws_seq (ws_asg (wd_callO rfl (wa_nil ⟨pn7, 0 + 1 + 1 + 1 + 1 + 1 + 1, rfl, hp7, rfl, by decide, fun x y z P Q R B' h1 h2 h3 _ pn8 hp8 => ?_⟩)))
  show WS K S0 _ [.scr ns, .dat (.int (0 + (k : Int))), .own (pn8.map PyData.int), .dat (.int s), .dat (.int a), .dat (.int (a + n)), .dat (.list [x, y, z]), .unk, .unk, .unk] _
  have ix : ∀ {t : Int} {d : PyData} {Ψ : PyData → Rho → Prop}, atI [x, y, z] t = some d → Ψ d [.scr ns, .dat (.int (0 + (k : Int))), .own (pn8.map PyData.int), .dat (.int s), .dat (.int a), .dat (.int (a + n)), .dat (.list [x, y, z]), .unk, .unk, .unk] → WD K S0 (tOp (rIxL K) (tVar 6) (tC (.int t))) [.scr ns, .dat (.int (0 + (k : Int))), .own (pn8.map PyData.int), .dat (.int s), .dat (.int a), .dat (.int (a + n)), .dat (.list [x, y, z]), .unk, .unk, .unk] Ψ := fun e f => wd_op (wd_var rfl (wd_int (do_ixL e f)))
  refine ws_for (wi_list (wd_lst (wa_cons (wd_tup (wa_cons (ix rfl (wa_cons (ix rfl (wa_cons (ix rfl (wa_nil ⟨Nat.le_of_ble_eq_true rfl, ?_⟩)))))))))))
  refine wa_cons (wd_tup (wa_cons (ix rfl (wa_cons (ix rfl (wa_cons (ix rfl (wa_nil ⟨Nat.le_of_ble_eq_true rfl, ?_⟩))))))))
  refine wa_nil ⟨Nat.le_of_ble_eq_true rfl, _, rfl, fun j ρ => ∃ s7 s8 s9 : Sl, ρ = [.scr ns, .dat (.int (0 + (k : Int))), .own (pn8.map PyData.int), .dat (.int s), .dat (.int a), .dat (.int (a + n)), .dat (.list [x, y, z]), s7, s8, s9], ⟨_, _, _, rfl⟩, ?_, ?_⟩
  · rintro j d ρ3 hd ⟨s7, s8, s9, rfl⟩
    obtain ⟨x1, y1, z1, P1, Q1, R1, rfl, g1, g2, g3⟩ : ∃ (x1 y1 z1 : PyData) (P1 Q1 R1 : Int → Prop), d = .tuple [x1, y1, z1] ∧ IsDy Cd 2520 60 B0 P1 x1 ∧ IsDy Cd 2520 60 B0 Q1 y1 ∧ IsDy Cd 2520 60 B0 R1 z1 := by
      have := List.mem_of_getElem? hd
      simp only [List.mem_cons, List.not_mem_nil, or_false] at this
      rcases this with rfl | rfl
      · exact ⟨x, y, z, P, Q, R, rfl, h1, h2, h3⟩
      · exact ⟨z, x, y, R, P, Q, rfl, h3, h1, h2⟩
    refine ⟨_, _, gd_trip, ?_⟩
    show WS K S0 _ [.scr ns, .dat (.int (0 + (k : Int))), .own (pn8.map PyData.int), .dat (.int s), .dat (.int a), .dat (.int (a + n)), .dat (.list [x, y, z]), .dat x1, .dat y1, .dat z1] _
    refine ws_seq (ws_if (wt_or (wt_not (wt_B (wd_call0 (wa_cons (wd_var rfl (wa_cons (wd_var rfl (wa_cons (wd_var rfl (wa_nil ⟨x1, y1, z1, P1, Q1, R1, rfl, g1, g2, g3, true, rfl, if_nt ?_⟩))))))))))))
    refine wt_not (wt_B (wd_call0 (wa_cons (wd_var rfl (wa_cons (wd_var rfl (wa_nil ⟨x1, P1, s, rfl, g1, hs, true, rfl, if_nt (ws_next ?_)⟩)))))))
    exact ws_if (wt_not (wt_B (wd_call0 (wa_cons (wd_var rfl (wa_cons (wd_var rfl (wa_cons (wd_var rfl (wa_cons (wd_var rfl (wa_cons (wd_var rfl (wa_nil ⟨x1, y1, P1, Q1, s, a, n, rfl, g1, g2, hs, ha, hn, true, rfl, if_nt (ws_next ⟨_, _, _, rfl⟩)⟩))))))))))))))
  rintro ρ3 ⟨s7, s8, s9, rfl⟩
  exact ⟨_, _, _, _, _, _, _, _, _, rfl⟩
end
end DL

set_option Elab.async false
set_option linter.all false
set_option maxRecDepth 100000
set_option maxHeartbeats 4000000
namespace DL
open PySem PySem.Spec PyProof.Rows L2
section
variable {P : Program} {w : World} {K : PySem.W.Frag} {mg : Str → Option Value} {base : Heap} {f : Addr} {fd : FuncData}
theorem ok_is_whole  (F : FnP K "is_whole" s_is_whole f fd) (z_int : mg "int" = none) (z_type : mg "type" = none)  : FnOk P w K mg base CX0 1 f fd ["thing"] (spP K TWhI) := by
  refine F.ok sc_is_whole (fun vs H Q E h => spP_len (n := 1) (fun ds Φ ⟨_, e, _⟩ => by rw [e]; rfl) h) (fun cdv A outer s H vs Q E hr h => ⟨t_whI K, PSs.nox ?_, run_P h fun ds Φ t => ws_whI t⟩)
  exact (pss_one (ps_ret (pe_cmpR op_isTyM (pe_callTy call_typM (by rfl) z_type (by decide +kernel) (pa_cons (pv 0) pa_nil)) (pe_bltn (by rfl) z_int (by decide +kernel) rfl) (nomark _))))
theorem ok_is_unlike_row  (F : FnP K "_is_unlike_row" s_is_unlike_row f fd) (z_all : mg "all" = none) (z_len : mg "len" = none) (z_list : mg "list" = none) (z_set : mg "set" = none) (z_tuple : mg "tuple" = none) (z_type : mg "type" = none) (h_is_whole : Has P w K mg base CX0 "is_whole" 1 ["thing"] (spP K TWhI) [])  : FnOk P w K mg base CX0 2 f fd ["thing"] (spP K TUnl) := by
  refine F.ok sc_is_unlike_row (fun vs H Q E h => spP_len (n := 1) (fun ds Φ ⟨_, e, _⟩ => by rw [e]; rfl) h) (fun cdv A outer s H vs Q E hr h => ⟨t_unl K, PSs.nox ?_, run_P h fun ds Φ t => ws_unl t⟩)
  exact (pss_cons (ps_if (pt_cmpR op_notTyT (pe_callTy call_typM (by rfl) z_type (by decide +kernel) (pa_cons (pv 0) pa_nil)) (pe_tup (pa_cons (pe_bltn (by rfl) z_tuple (by decide +kernel) rfl) (pa_cons (pe_bltn (by rfl) z_list (by decide +kernel) rfl) pa_nil))) (by rfl)) (pss_one (ps_ret pe_bl)) pss_nil)
      (pss_one (ps_ret (pe_and (pe_callB (cr_all rfl) (by rfl) z_all (by decide +kernel) (pa_cons (pe_lc (own := [("one", 1)]) (g := (gName 1)) rfl sc_is_unlike_row.nd (pi_row (pv 0)) (blkOk_by (N := ["thing", "one"]) (sc := defScope s_is_unlike_row) (by decide +kernel)) (fun _ _ _ _ _ => (pg_name (i := 1) sc_is_unlike_row.nd rfl (by first | exact Or.inl rfl | exact Or.inr rfl))) (fun _ _ _ _ _ => pts_nil) (fun _ _ _ _ _ => (pe_has h_is_whole (hr.mono (by decide)) pass0 (pa_cons (pv 1) pa_nil)))) pa_nil)) (pe_one (pe_cmpR op_eq (pe_lenSet (by rfl) z_len (by rfl) z_set (pv 0)) (pe_callB call_len_seq (by rfl) z_len PySem.boot_len (pa_cons (pv 0) pa_nil)) (nomark _)))))))
theorem ok_refuse_wrong {t5040 t60 : Tok} (F : FnP K "_refuse_wrong" s_refuse_wrong f fd) (z_all : mg "all" = none) (z_len : mg "len" = none) (h__is_unlike_row : Has P w K mg base CX0 "_is_unlike_row" 2 ["thing"] (spP K TUnl) []) (h_is_whole : Has P w K mg base CX0 "is_whole" 1 ["thing"] (spP K TWhI) []) (c_MOST_PERIOD : mg "MOST_PERIOD" = some (Value.int 5040 t5040) ∧ RelV (V.int 5040) (Value.int 5040 t5040)) (c__MOST_TURNED : mg "_MOST_TURNED" = some (Value.int 60 t60) ∧ RelV (V.int 60) (Value.int 60 t60)) : FnOk P w K mg base CX0 3 f fd ["period", "marks", "turned"] (spP K TRefR) := by
  refine F.ok sc_refuse_wrong (fun vs H Q E h => spP_len (n := 3) (fun ds Φ ⟨_, _, _, _, _, e, _⟩ => by rw [e]; rfl) h) (fun cdv A outer s H vs Q E hr h => ⟨t_refR K, PSs.nox ?_, run_P h fun ds Φ t => ws_refR t⟩)
  exact (pss_cons (ps_if (pt_not (PW.pt (pw_and (pt_val (pe_has h_is_whole (hr.mono (by decide)) pass0 (pa_cons (pv 0) pa_nil))) (pw_and1 (pt_chain op_le op_le pe_int (pv 0) (pe_glob rfl c_MOST_PERIOD.1 c_MOST_PERIOD.2)))))) (pss_one ps_no) pss_nil)
      (pss_cons (ps_if (pt_not (pt_val (pe_has h__is_unlike_row (hr.mono (by decide)) pass0 (pa_cons (pv 1) pa_nil)))) (pss_one ps_no) pss_nil)
      (pss_cons (ps_if (pt_not (pt_val (pe_callB (cr_all rfl) (by rfl) z_all (by decide +kernel) (pa_cons (pe_lc (own := [("mark", 3)]) (g := (gName 3)) rfl sc_refuse_wrong.nd (pi_row (pv 1)) (blkOk_by (N := ["period", "marks", "turned", "mark"]) (sc := defScope s_refuse_wrong) (by decide +kernel)) (fun _ _ _ _ _ => (pg_name (i := 3) sc_refuse_wrong.nd rfl (by first | exact Or.inl rfl | exact Or.inr rfl))) (fun _ _ _ _ _ => pts_nil) (fun _ _ _ _ _ => (pe_chain op_le op_lt pe_int (pv 3) (pv 0)))) pa_nil)))) (pss_one ps_no) pss_nil)
      (pss_cons (ps_if (pt_not (pt_val (pe_has h__is_unlike_row (hr.mono (by decide)) pass0 (pa_cons (pv 2) pa_nil)))) (pss_one ps_no) pss_nil)
      (pss_one (ps_if (pt_cmpR op_gt (pe_callB call_len_seq (by rfl) z_len PySem.boot_len (pa_cons (pv 2) pa_nil)) (pe_glob rfl c__MOST_TURNED.1 c__MOST_TURNED.2) (nomark _)) (pss_one ps_no) pss_nil))))))
theorem ok_pattern_of  (F : FnP K "_pattern_of" s_pattern_of f fd)   : FnOk P w K mg base CX0 1 f fd ["period", "marks"] (spP K TPat) := by
  refine F.ok sc_pattern_of (fun vs H Q E h => spP_len (n := 2) (fun ds Φ ⟨_, _, _, e, _⟩ => by rw [e]; rfl) h) (fun cdv A outer s H vs Q E hr h => ⟨t_pat K, PSs.nox ?_, run_P h fun ds Φ t => ws_pat t⟩)
  exact (pss_cons (ps_set (i := 2) sc_pattern_of.nd rfl (by first | exact Or.inl rfl | exact Or.inr rfl) (pe_op op_repL (pe_lst (pa_cons pe_str pa_nil)) (pv 0)))
      (pss_cons (ps_for PassesOwn.never rfl (pi_row (pv 1)) (pg_name (i := 3) sc_pattern_of.nd rfl (by first | exact Or.inl rfl | exact Or.inr rfl)) (pss_one (ps_asg pe_str (pg_sub (pv 2) (pv 3) set_list))))
      (pss_one (ps_ret (pe_join pe_str (pv 2))))))
theorem ok_many_below  (F : FnP K "_many_below" s_many_below f fd) (z_len : mg "len" = none)  : FnOk P w K mg base CX0 1 f fd ["row", "number"] (spP K TMany) := by
  refine F.ok sc_many_below (fun vs H Q E h => spP_len (n := 2) (fun ds Φ ⟨_, _, e, _⟩ => by rw [e]; rfl) h) (fun cdv A outer s H vs Q E hr h => ⟨t_many K, PSs.nox ?_, run_P h fun ds Φ t => ws_many t⟩)
  exact (pss_cons (ps_par (by rfl) sc_many_below.nd (i := 2) (j := 3) rfl rfl (by decide) rfl rfl (pa_cons pe_int (pa_cons (pe_callB call_len_seq (by rfl) z_len PySem.boot_len (pa_cons (pv 0) pa_nil)) pa_nil)) (by rfl))
      (pss_cons (ps_while PassesOwn.never (pt_cmpR op_lt (pv 2) (pv 3) (nomark _)) (pss_cons (ps_set (i := 4) sc_many_below.nd rfl (by first | exact Or.inl rfl | exact Or.inr rfl) (pe_op op_fdivX (pe_op op_add (pv 2) (pv 3)) pe_int))
      (pss_one (ps_if (pt_cmpR op_lt (pe_ix ix_tup (pv 0) (pv 4) (fun _ _ => rfl)) (pv 1) (nomark _)) (pss_one (ps_set (i := 2) sc_many_below.nd rfl (by first | exact Or.inl rfl | exact Or.inr rfl) (pe_op op_add (pv 4) pe_int))) (pss_one (ps_set (i := 3) sc_many_below.nd rfl (by first | exact Or.inl rfl | exact Or.inr rfl) (pv 4)))))))
      (pss_one (ps_ret (pv 2)))))
theorem ok_is_in  (F : FnP K "_is_in" s_is_in f fd) (z_len : mg "len" = none) (h__many_below : Has P w K mg base CX0 "_many_below" 1 ["row", "number"] (spP K TMany) [])  : FnOk P w K mg base CX0 2 f fd ["row", "number"] (spP K TIsIn) := by
  refine F.ok sc_is_in (fun vs H Q E h => spP_len (n := 2) (fun ds Φ ⟨_, _, e, _⟩ => by rw [e]; rfl) h) (fun cdv A outer s H vs Q E hr h => ⟨t_isin K, PSs.nox ?_, run_P h fun ds Φ t => ws_isin t⟩)
  exact (pss_cons (ps_set (i := 2) sc_is_in.nd rfl (by first | exact Or.inl rfl | exact Or.inr rfl) (pe_has h__many_below (hr.mono (by decide)) pass0 (pa_cons (pv 0) (pa_cons (pv 1) pa_nil))))
      (pss_one (ps_ret (pe_and (pe_cmpR op_lt (pv 2) (pe_callB call_len_seq (by rfl) z_len PySem.boot_len (pa_cons (pv 0) pa_nil)) (nomark _)) (pe_one (pe_cmpR op_eq (pe_ix ix_tup (pv 0) (pv 2) (fun _ _ => rfl)) (pv 1) (nomark _)))))))
theorem ok_Days_init {Cd : Addr} {kw : List (Str × V)} (F : FunD K "__init__" "Days.__init__" (defArgs s_Days_init) (defBody s_Days_init) (defScope s_Days_init) [] kw f fd) (z_sorted : mg "sorted" = none) (z_tuple : mg "tuple" = none) (h__pattern_of : Has P w K mg base CX0 "_pattern_of" 1 ["period", "marks"] (spP K TPat) []) (h__refuse_wrong : Has P w K mg base CX0 "_refuse_wrong" 3 ["period", "marks", "turned"] (spP K TRefR) [])  (c : DayC K Cd) : FnOk P w K mg base CX0 4 f fd ["self", "period", "marks", "turned"] (spIni K Cd TIniD) := by
  have ln : ∀ vs H Q E, spIni K Cd TIniD vs H Q E → vs.length = 4 := fun vs H Q E h => by obtain ⟨_, _, _, _, _, _, rfl, _, _, hd, _, ⟨_, _, _, _, _, e, _⟩, _⟩ := h; rw [List.length_cons, hd.len, e]; rfl
  refine F.ok sc_Days_init (fun vs H Q E h => ln vs H Q E h) (fun cdv A outer s H vs Q E hr h => ⟨t_init K, PSs.nox ?_, run_ini (n := 2) (by rw [ln _ _ _ _ h]; rfl) h fun ds Φ t => wsi_init c t⟩)
  exact (pss_cons (ps_expr (pe_has h__refuse_wrong (hr.mono (by decide)) pass0 (pa_cons (pv 1) (pa_cons (pv 2) (pa_cons (pv 3) pa_nil)))))
      (pss_cons (ps_set (i := 4) sc_Days_init.nd rfl (by first | exact Or.inl rfl | exact Or.inr rfl) (pe_has h__pattern_of (hr.mono (by decide)) pass0 (pa_cons (pv 1) (pa_cons (pv 2) pa_nil))))
      (pss_cons (ps_fld (pv 0) (pe_bm PySem.F.plainAttrs_str PySem.F.slot_str_find PySem.F.type_str_find mt_find3 (pe_op op_add_str (pv 4) (pv 4)) (pa_cons (pv 4) (pa_cons pe_int pa_nil))) (by rfl))
      (pss_cons (ps_fld (pv 0) (pe_callTy call_tuple_of (by rfl) z_tuple (by decide +kernel) (pa_cons (pe_callB cr_sortR (by rfl) z_sorted (by decide +kernel) (pa_cons (pe_lc (own := [("mark", 5)]) (g := (gName 5)) rfl sc_Days_init.nd (pi_row (pv 2)) (blkOk_by (N := ["self", "period", "marks", "turned", "pattern", "mark"]) (sc := defScope s_Days_init) (by decide +kernel)) (fun _ _ _ _ _ => (pg_name (i := 5) sc_Days_init.nd rfl (by first | exact Or.inl rfl | exact Or.inr rfl))) (fun _ _ _ _ _ => (pts_one (pt_cmpR op_lt (pv 5) (pe_fld (pv 0) (by rfl)) (nomark _)))) (fun _ _ _ _ _ => (pv 5))) pa_nil)) pa_nil)) (by rfl))
      (pss_one (ps_fld (pv 0) (pe_callTy call_tuple_of (by rfl) z_tuple (by decide +kernel) (pa_cons (pe_callB cr_sortR (by rfl) z_sorted (by decide +kernel) (pa_cons (pv 3) pa_nil)) pa_nil)) (by rfl)))))))
theorem ok_Days_has {Cd : Addr} (F : FunD K "has" "Days.has" (defArgs s_Days_has) (defBody s_Days_has) (defScope s_Days_has) [] [] f fd) (h__is_in : Has P w K mg base CX0 "_is_in" 2 ["row", "number"] (spP K TIsIn) [])  (c : DayC K Cd) : FnOk P w K mg base CX0 3 f fd ["self", "day"] (spP K (THasD Cd)) := by
  refine F.ok sc_Days_has (fun vs H Q E h => spP_len (n := 2) (fun ds Φ ⟨_, _, _, _, e, _⟩ => by rw [e]; rfl) h) (fun cdv A outer s H vs Q E hr h => ⟨t_has K, PSs.nox ?_, run_P h fun ds Φ t => ws_has c t⟩)
  exact (pss_one (ps_ret (pe_cmpR op_ne (pe_has h__is_in (hr.mono (by decide)) pass0 (pa_cons (pe_fld (pv 0) (by rfl)) (pa_cons (pe_op op_modN (pv 1) (pe_fld (pv 0) (by rfl))) pa_nil))) (pe_has h__is_in (hr.mono (by decide)) pass0 (pa_cons (pe_fld (pv 0) (by rfl)) (pa_cons (pv 1) pa_nil))) (nomark _))))
theorem ok_Days_eq {Cd : Addr} (F : FunD K "__eq__" "Days.__eq__" (defArgs s_Days_eq) (defBody s_Days_eq) (defScope s_Days_eq) [] [] f fd) (z_isinstance : mg "isinstance" = none) (g_Days : mg "Days" = some (.ref Cd))  (c : DayC K Cd) : FnOk P w K mg base CX0 1 f fd ["self", "other"] (spP K (TEqD Cd)) := by
  refine F.ok sc_Days_eq (fun vs H Q E h => spP_len (n := 2) (fun ds Φ ⟨_, _, _, _, _, _, e, _⟩ => by rw [e]; rfl) h) (fun cdv A outer s H vs Q E hr h => ⟨t_eqD K Cd, PSs.nox ?_, run_P h fun ds Φ t => ws_eqD c (by unfold PySem.W.kitOne; rw [if_pos (beq_self_eq_true _)]) t⟩)
  exact (pss_one (ps_ret (pe_and (pe_callB call_isi (by rfl) z_isinstance (by decide +kernel) (pa_cons (pv 1) (pa_cons (pe_glob (by rfl) g_Days rfl) pa_nil))) (pe_and (pe_cmpR op_eq (pe_fld (pv 0) (by rfl)) (pe_fld (pv 1) (by rfl)) (nomark _)) (pe_and (pe_cmpR (op_eqD hr.units) (pe_fld (pv 0) (by rfl)) (pe_fld (pv 1) (by rfl)) (nomark _)) (pe_one (pe_cmpR (op_eqD hr.units) (pe_fld (pv 0) (by rfl)) (pe_fld (pv 1) (by rfl)) (nomark _))))))))
theorem ok_from_on  (F : FnP K "_from_on" s_from_on f fd) (h__many_below : Has P w K mg base CX0 "_many_below" 1 ["row", "number"] (spP K TMany) [])  : FnOk P w K mg base CX0 2 f fd ["row", "number"] (spP K TFrom) := by
  refine F.ok sc_from_on (fun vs H Q E h => spP_len (n := 2) (fun ds Φ ⟨_, _, e, _⟩ => by rw [e]; rfl) h) (fun cdv A outer s H vs Q E hr h => ⟨t_from K, PSs.nox ?_, run_P h fun ds Φ t => ws_from t⟩)
  exact (pss_one (ps_ret (pe_slice sl_tupA (pv 0) (po_some (pe_has h__many_below (hr.mono (by decide)) pass0 (pa_cons (pv 0) (pa_cons (pv 1) pa_nil)))) po_none)))
theorem ok_regular_below {Cd : Addr} (F : FnP K "_regular_below" s_regular_below f fd) (z_divmod : mg "divmod" = none) (z_len : mg "len" = none) (h__many_below : Has P w K mg base CX0 "_many_below" 1 ["row", "number"] (spP K TMany) []) (c : DayC K Cd) : FnOk P w K mg base CX0 2 f fd ["days", "day"] (spP K (TRegB Cd)) := by
  refine F.ok sc_regular_below (fun vs H Q E h => spP_len (n := 2) (fun ds Φ ⟨_, _, _, _, e, _⟩ => by rw [e]; rfl) h) (fun cdv A outer s H vs Q E hr h => ⟨t_regb K Cd, PSs.nox ?_, run_P h fun ds Φ t => ws_regb c t⟩)
  exact (pss_cons (ps_asg (pe_callB call_divmod (by rfl) z_divmod (by decide +kernel) (pa_cons (pv 1) (pa_cons (pe_fld (pv 0) (by rfl)) pa_nil))) (pg_tup rfl (pgs_cons (pg_name (i := 2) sc_regular_below.nd rfl (by first | exact Or.inl rfl | exact Or.inr rfl)) (pgs_cons (pg_name (i := 3) sc_regular_below.nd rfl (by first | exact Or.inl rfl | exact Or.inr rfl)) pgs_nil))))
      (pss_one (ps_ret (pe_op op_add (pe_op op_mulW (pv 2) (pe_callB call_len_seq (by rfl) z_len PySem.boot_len (pa_cons (pe_fld (pv 0) (by rfl)) pa_nil))) (pe_has h__many_below (hr.mono (by decide)) pass0 (pa_cons (pe_fld (pv 0) (by rfl)) (pa_cons (pv 3) pa_nil)))))))
theorem ok_count_days {Cd : Addr} (F : FnP K "count_days" s_count_days f fd) (h__from_on : Has P w K mg base CX0 "_from_on" 2 ["row", "number"] (spP K TFrom) []) (h__regular_below : Has P w K mg base CX0 "_regular_below" 2 ["days", "day"] (spP K (TRegB Cd)) []) (hm_has : HasM P w K mg base CX0 "has" Cd 3 ["self", "day"] (spP K (THasD Cd))) (c : DayC K Cd) : FnOk P w K mg base CX0 4 f fd ["days", "one", "other"] (spP K (TCnt Cd)) := by
  refine F.ok sc_count_days (fun vs H Q E h => spP_len (n := 3) (fun ds Φ ⟨_, _, _, _, _, e, _⟩ => by rw [e]; rfl) h) (fun cdv A outer s H vs Q E hr h => ⟨t_cnt K Cd, PSs.nox ?_, run_P h fun ds Φ t => ws_cntD c t⟩)
  exact (pss_cons (ps_if (pt_cmpR op_lt (pv 2) (pv 1) (nomark _)) (pss_one ps_no) pss_nil)
      (pss_cons (ps_set (i := 3) sc_count_days.nd rfl (by first | exact Or.inl rfl | exact Or.inr rfl) (pe_op op_sub (pe_has h__regular_below (hr.mono (by decide)) pass0 (pa_cons (pv 0) (pa_cons (pv 2) pa_nil))) (pe_has h__regular_below (hr.mono (by decide)) pass0 (pa_cons (pv 0) (pa_cons (pv 1) pa_nil)))))
      (pss_cons (ps_for PassesOwn.never rfl (pi_tup (pe_has h__from_on (hr.mono (by decide)) pass0 (pa_cons (pe_fld (pv 0) (by rfl)) (pa_cons (pv 1) pa_nil)))) (pg_name (i := 4) sc_count_days.nd rfl (by first | exact Or.inl rfl | exact Or.inr rfl)) (pss_one (ps_if (pt_cmpR op_lt (pv 4) (pv 2) (nomark _)) (pss_one (ps_set (i := 3) sc_count_days.nd rfl (by first | exact Or.inl rfl | exact Or.inr rfl) (pe_op op_add (pv 3) (pe_ifExp (pt_val (pe_hasM hm_has (pv 0) (hr.mono (by decide)) pass0 (pa_cons (pv 4) pa_nil))) pe_int (pe_un un_neg pe_int))))) pss_nil)))
      (pss_one (ps_ret (pv 3))))))
theorem ok_pattern {Cd : Addr} (F : FnP K "_pattern" s_pattern f fd) (h__pattern_of : Has P w K mg base CX0 "_pattern_of" 1 ["period", "marks"] (spP K TPat) []) (c : DayC K Cd) : FnOk P w K mg base CX0 2 f fd ["days"] (spP K (TPatD Cd)) := by
  refine F.ok sc_pattern (fun vs H Q E h => spP_len (n := 1) (fun ds Φ ⟨_, _, _, e, _⟩ => by rw [e]; rfl) h) (fun cdv A outer s H vs Q E hr h => ⟨t_patD K, PSs.nox ?_, run_P h fun ds Φ t => ws_patD c t⟩)
  exact (pss_one (ps_ret (pe_has h__pattern_of (hr.mono (by decide)) pass0 (pa_cons (pe_fld (pv 0) (by rfl)) (pa_cons (pe_fld (pv 0) (by rfl)) pa_nil)))))
theorem ok_told {Cd aT : Addr} (F : FnP K "_told" s_told f fd) (z_sorted : mg "sorted" = none) (z_tuple : mg "tuple" = none) (hc_Days : HasC P w K mg base CX0 "Days" Cd 5 ["self", "period", "marks", "turned"] (spIni K Cd TIniD) [.ref aT]) (c : DayC K Cd) (hT : ∀ H : Hp, SqT K H aT []) : FnOk P w K mg base CX0 6 f fd ["period", "marks", "turned"] (spP K (TToldD Cd)) := by
  refine F.ok sc_told (fun vs H Q E h => spP_len (n := 3) (fun ds Φ ⟨_, _, _, _, _, e, _⟩ => by rw [e]; rfl) h) (fun cdv A outer s H vs Q E hr h => ⟨t_toldD K Cd aT, PSs.nox ?_, run_P h fun ds Φ t => ws_told c hT t⟩)
  exact (pss_cons (ps_set (i := 3) sc_told.nd rfl (by first | exact Or.inl rfl | exact Or.inr rfl) (pe_hasC hc_Days (hr.mono (by decide)) pass0 (pa_cons (pv 0) (pa_cons (pv 1) pa_nil))))
      (pss_cons (ps_fld (pv 3) (pe_callTy call_tuple_of (by rfl) z_tuple (by decide +kernel) (pa_cons (pe_callB cr_sortR (by rfl) z_sorted (by decide +kernel) (pa_cons (pv 2) pa_nil)) pa_nil)) (by rfl))
      (pss_one (ps_ret (pv 3)))))
theorem ok_sign  (F : FnP K "_sign" s_sign f fd)   : FnOk P w K mg base CX0 1 f fd ["is_in"] (spP K TSgn) := by
  refine F.ok sc_sign (fun vs H Q E h => spP_len (n := 1) (fun ds Φ ⟨_, e, _⟩ => by rw [e]; rfl) h) (fun cdv A outer s H vs Q E hr h => ⟨t_sgn, PSs.nox ?_, run_P h fun ds Φ t => ws_sgn t⟩)
  exact (pss_one (ps_ret (pe_ifExp (pt_val (pv 0)) pe_str pe_str)))
theorem ok_joined {Cd : Addr} {t5040 : Tok} (F : FnP K "_joined" s_joined f fd) (m_lcm : mg "lcm" = some (.builtin "math.lcm")) (z_range : mg "range" = none) (z_set : mg "set" = none) (z_sorted : mg "sorted" = none) (h__pattern : Has P w K mg base CX0 "_pattern" 2 ["days"] (spP K (TPatD Cd)) []) (h__sign : Has P w K mg base CX0 "_sign" 1 ["is_in"] (spP K TSgn) []) (h__told : Has P w K mg base CX0 "_told" 6 ["period", "marks", "turned"] (spP K (TToldD Cd)) []) (hm_has : HasM P w K mg base CX0 "has" Cd 3 ["self", "day"] (spP K (THasD Cd))) (c : DayC K Cd) (c_MOST_PERIOD : mg "MOST_PERIOD" = some (Value.int 5040 t5040) ∧ RelV (V.int 5040) (Value.int 5040 t5040)) : FnOk P w K mg base CX0 7 f fd ["one", "other", "kept"] (spP K (TJoin Cd)) := by
  refine F.ok sc_joined (fun vs H Q E h => spP_len (n := 3) (fun ds Φ ⟨_, _, _, _, _, _, _, _, e, _⟩ => by rw [e]; rfl) h) (fun cdv A outer s H vs Q E hr h => ⟨t_join K Cd, PSs.nox ?_, run_P h fun ds Φ t => ws_join c t⟩)
  exact (pss_cons (ps_set (i := 3) sc_joined.nd rfl (by first | exact Or.inl rfl | exact Or.inr rfl) (pe_callBfun cr_lcm (by rfl) m_lcm (pa_cons (pe_fld (pv 0) (by rfl)) (pa_cons (pe_fld (pv 1) (by rfl)) pa_nil))))
      (pss_cons (ps_if (pt_cmpR op_gt (pv 3) (pe_glob rfl c_MOST_PERIOD.1 c_MOST_PERIOD.2) (nomark _)) (pss_one ps_no) pss_nil)
      (pss_cons (ps_set (i := 4) sc_joined.nd rfl (by first | exact Or.inl rfl | exact Or.inr rfl) (pe_op op_mulS (pe_has h__pattern (hr.mono (by decide)) pass0 (pa_cons (pv 0) pa_nil)) (pe_op op_fdivX (pv 3) (pe_fld (pv 0) (by rfl)))))
      (pss_cons (ps_set (i := 5) sc_joined.nd rfl (by first | exact Or.inl rfl | exact Or.inr rfl) (pe_op op_mulS (pe_has h__pattern (hr.mono (by decide)) pass0 (pa_cons (pv 1) pa_nil)) (pe_op op_fdivX (pv 3) (pe_fld (pv 1) (by rfl)))))
      (pss_cons (ps_set (i := 6) sc_joined.nd rfl (by first | exact Or.inl rfl | exact Or.inr rfl) (pe_lc (own := [("rest", 10)]) (g := (gName 10)) rfl sc_joined.nd (pi_range1 rfl z_range (pa_cons (pv 3) pa_nil)) (blkOk_by (N := ["one", "other", "kept", "many", "first", "second", "marked", "turned", "day", "signs", "rest"]) (sc := defScope s_joined) (by decide +kernel)) (fun _ _ _ _ _ => (pg_name (i := 10) sc_joined.nd rfl (by first | exact Or.inl rfl | exact Or.inr rfl))) (fun _ _ _ _ _ => pts_nil) (fun _ _ _ _ _ => (pe_cmpR op_in_seq (pe_op op_add_str (pe_ix ix_str (pv 4) (pv 10) (fun _ _ => rfl)) (pe_ix ix_str (pv 5) (pv 10) (fun _ _ => rfl))) (pv 2) (by rfl)))))
      (pss_cons (ps_set (i := 7) sc_joined.nd rfl (by first | exact Or.inl rfl | exact Or.inr rfl) (pe_lst pa_nil))
      (pss_cons (ps_for PassesOwn.never rfl (pi_list (pe_sortSet (by rfl) z_sorted (by rfl) z_set (pe_op op_catA (pe_fld (pv 0) (by rfl)) (pe_fld (pv 1) (by rfl))))) (pg_name (i := 8) sc_joined.nd rfl (by first | exact Or.inl rfl | exact Or.inr rfl)) (pss_cons (ps_set (i := 9) sc_joined.nd rfl (by first | exact Or.inl rfl | exact Or.inr rfl) (pe_op op_add_str (pe_has h__sign (hr.mono (by decide)) pass0 (pa_cons (pe_hasM hm_has (pv 0) (hr.mono (by decide)) pass0 (pa_cons (pv 8) pa_nil)) pa_nil)) (pe_has h__sign (hr.mono (by decide)) pass0 (pa_cons (pe_hasM hm_has (pv 1) (hr.mono (by decide)) pass0 (pa_cons (pv 8) pa_nil)) pa_nil))))
      (pss_one (ps_if (pt_cmpR op_ne (pe_cmpR op_in_seq (pv 9) (pv 2) (by rfl)) (pe_ix ix_list (pv 6) (pe_op op_modN (pv 8) (pv 3)) (fun _ _ => rfl)) (nomark _)) (pss_one (ps_expr (pe_bm PySem.F.plainAttrs_list PySem.F.slot_list_append PySem.F.type_list_append mt_append (pv 7) (pa_cons (pv 8) pa_nil)))) pss_nil))))
      (pss_one (ps_ret (pe_has h__told (hr.mono (by decide)) pass0 (pa_cons (pv 3) (pa_cons (pe_lc (own := [("rest", 10)]) (g := (gName 10)) rfl sc_joined.nd (pi_range1 rfl z_range (pa_cons (pv 3) pa_nil)) (blkOk_by (N := ["one", "other", "kept", "many", "first", "second", "marked", "turned", "day", "signs", "rest"]) (sc := defScope s_joined) (by decide +kernel)) (fun _ _ _ _ _ => (pg_name (i := 10) sc_joined.nd rfl (by first | exact Or.inl rfl | exact Or.inr rfl))) (fun _ _ _ _ _ => (pts_one (pt_val (pe_ix ix_list (pv 6) (pv 10) (fun _ _ => rfl))))) (fun _ _ _ _ _ => (pv 10))) (pa_cons (pv 7) pa_nil)))))))))))))
theorem ok_both {Cd : Addr} (F : FnP K "both" s_both f fd) (h__joined : Has P w K mg base CX0 "_joined" 7 ["one", "other", "kept"] (spP K (TJoin Cd)) [])  : FnOk P w K mg base CX0 8 f fd ["one", "other"] (spP K (TJn Cd (fun a b => a ∧ b))) := by
  refine F.ok sc_both (fun vs H Q E h => spP_len (n := 2) (fun ds Φ ⟨_, _, _, _, _, _, _, _, _, _, _, _, e, _⟩ => by rw [e]; rfl) h) (fun cdv A outer s H vs Q E hr h => ⟨t_both K Cd, PSs.nox ?_, run_P h fun ds Φ t => ws_both t⟩)
  exact (pss_one (ps_ret (pe_has h__joined (hr.mono (by decide)) pass0 (pa_cons (pv 0) (pa_cons (pv 1) (pa_cons (pe_tup (pa_cons pe_str pa_nil)) pa_nil))))))
theorem ok_either {Cd : Addr} (F : FnP K "either" s_either f fd) (h__joined : Has P w K mg base CX0 "_joined" 7 ["one", "other", "kept"] (spP K (TJoin Cd)) [])  : FnOk P w K mg base CX0 8 f fd ["one", "other"] (spP K (TJn Cd (fun a b => a ∨ b))) := by
  refine F.ok sc_either (fun vs H Q E h => spP_len (n := 2) (fun ds Φ ⟨_, _, _, _, _, _, _, _, _, _, _, _, e, _⟩ => by rw [e]; rfl) h) (fun cdv A outer s H vs Q E hr h => ⟨t_either K Cd, PSs.nox ?_, run_P h fun ds Φ t => ws_either t⟩)
  exact (pss_one (ps_ret (pe_has h__joined (hr.mono (by decide)) pass0 (pa_cons (pv 0) (pa_cons (pv 1) (pa_cons (pe_tup (pa_cons pe_str (pa_cons pe_str (pa_cons pe_str pa_nil)))) pa_nil))))))
theorem ok_without {Cd : Addr} (F : FnP K "without" s_without f fd) (h__joined : Has P w K mg base CX0 "_joined" 7 ["one", "other", "kept"] (spP K (TJoin Cd)) [])  : FnOk P w K mg base CX0 8 f fd ["one", "other"] (spP K (TJn Cd (fun a b => a ∧ ¬ b))) := by
  refine F.ok sc_without (fun vs H Q E h => spP_len (n := 2) (fun ds Φ ⟨_, _, _, _, _, _, _, _, _, _, _, _, e, _⟩ => by rw [e]; rfl) h) (fun cdv A outer s H vs Q E hr h => ⟨t_without K Cd, PSs.nox ?_, run_P h fun ds Φ t => ws_without t⟩)
  exact (pss_one (ps_ret (pe_has h__joined (hr.mono (by decide)) pass0 (pa_cons (pv 0) (pa_cons (pv 1) (pa_cons (pe_tup (pa_cons pe_str pa_nil)) pa_nil))))))
theorem ok_others {Cd : Addr} (F : FnP K "others" s_others f fd) (z_range : mg "range" = none) (h__pattern : Has P w K mg base CX0 "_pattern" 2 ["days"] (spP K (TPatD Cd)) []) (h__told : Has P w K mg base CX0 "_told" 6 ["period", "marks", "turned"] (spP K (TToldD Cd)) []) (c : DayC K Cd) : FnOk P w K mg base CX0 7 f fd ["days"] (spP K (TOthD Cd)) := by
  refine F.ok sc_others (fun vs H Q E h => spP_len (n := 1) (fun ds Φ ⟨_, _, _, _, _, _, _, e, _⟩ => by rw [e]; rfl) h) (fun cdv A outer s H vs Q E hr h => ⟨t_othD K Cd, PSs.nox ?_, run_P h fun ds Φ t => ws_othD c t⟩)
  exact (pss_cons (ps_set (i := 1) sc_others.nd rfl (by first | exact Or.inl rfl | exact Or.inr rfl) (pe_has h__pattern (hr.mono (by decide)) pass0 (pa_cons (pv 0) pa_nil)))
      (pss_cons (ps_setLc (i := 2) (own := [("rest", 3)]) (g := (gName 3)) rfl sc_others.nd rfl rfl (sw_true rfl rfl rfl (by decide +kernel)) (pi_range1 rfl z_range (pa_cons (pe_fld (pv 0) (by rfl)) pa_nil)) (blkOk_by (N := ["days", "pattern", "marks", "rest"]) (sc := defScope s_others) (by decide +kernel)) (fun _ _ _ _ _ => (pg_name (i := 3) sc_others.nd rfl (by first | exact Or.inl rfl | exact Or.inr rfl))) (fun _ _ _ _ _ => (pts_one (pt_cmpR op_eq (pe_ix ix_str (pv 1) (pv 3) (fun _ _ => rfl)) pe_str (nomark _)))) (fun _ _ _ _ _ => (pv 3)))
      (pss_one (ps_ret (pe_has h__told (hr.mono (by decide)) pass0 (pa_cons (pe_fld (pv 0) (by rfl)) (pa_cons (pv 2) (pa_cons (pe_fld (pv 0) (by rfl)) pa_nil))))))))
theorem ok_moved {Cd : Addr} (F : FnP K "moved" s_moved f fd) (h__told : Has P w K mg base CX0 "_told" 6 ["period", "marks", "turned"] (spP K (TToldD Cd)) []) (c : DayC K Cd) : FnOk P w K mg base CX0 7 f fd ["days", "by"] (spP K (TMovD Cd)) := by
  refine F.ok sc_moved (fun vs H Q E h => spP_len (n := 2) (fun ds Φ ⟨_, _, _, _, _, _, _, _, e, _⟩ => by rw [e]; rfl) h) (fun cdv A outer s H vs Q E hr h => ⟨t_movD K Cd, PSs.nox ?_, run_P h fun ds Φ t => ws_movD c t⟩)
  exact (pss_cons (ps_setLc (i := 2) (own := [("mark", 3)]) (g := (gName 3)) rfl sc_moved.nd rfl rfl (sw_true rfl rfl rfl (by decide +kernel)) (pi_tup (pe_fld (pv 0) (by rfl))) (blkOk_by (N := ["days", "by", "marks", "mark", "day"]) (sc := defScope s_moved) (by decide +kernel)) (fun _ _ _ _ _ => (pg_name (i := 3) sc_moved.nd rfl (by first | exact Or.inl rfl | exact Or.inr rfl))) (fun _ _ _ _ _ => pts_nil) (fun _ _ _ _ _ => (pe_op op_modN (pe_op op_add (pv 3) (pv 1)) (pe_fld (pv 0) (by rfl)))))
      (pss_one (ps_ret (pe_has h__told (hr.mono (by decide)) pass0 (pa_cons (pe_fld (pv 0) (by rfl)) (pa_cons (pv 2) (pa_cons (pe_lc (own := [("day", 4)]) (g := (gName 4)) rfl sc_moved.nd (pi_tup (pe_fld (pv 0) (by rfl))) (blkOk_by (N := ["days", "by", "marks", "mark", "day"]) (sc := defScope s_moved) (by decide +kernel)) (fun _ _ _ _ _ => (pg_name (i := 4) sc_moved.nd rfl (by first | exact Or.inl rfl | exact Or.inr rfl))) (fun _ _ _ _ _ => pts_nil) (fun _ _ _ _ _ => (pe_op op_add (pv 4) (pv 1)))) pa_nil)))))))
theorem ok_all_days {Cd aT : Addr} (F : FnP K "all_days" s_all_days f fd) (hc_Days : HasC P w K mg base CX0 "Days" Cd 5 ["self", "period", "marks", "turned"] (spIni K Cd TIniD) [.ref aT]) (c : DayC K Cd) (hT : ∀ H : Hp, SqT K H aT []) : FnOk P w K mg base CX0 6 f fd [] (spP K (TAllD Cd True)) := by
  refine F.ok sc_all_days (fun vs H Q E h => spP_len (n := 0) (fun ds Φ ⟨e, _⟩ => by rw [e]; rfl) h) (fun cdv A outer s H vs Q E hr h => ⟨t_allD K Cd aT, PSs.nox ?_, run_P h fun ds Φ t => ws_allD c hT t⟩)
  exact (pss_one (ps_ret (pe_hasC hc_Days (hr.mono (by decide)) pass0 (pa_cons pe_int (pa_cons (pe_tup (pa_cons pe_int pa_nil)) pa_nil)))))
theorem ok_no_days {Cd aT : Addr} (F : FnP K "no_days" s_no_days f fd) (hc_Days : HasC P w K mg base CX0 "Days" Cd 5 ["self", "period", "marks", "turned"] (spIni K Cd TIniD) [.ref aT]) (c : DayC K Cd) (hT : ∀ H : Hp, SqT K H aT []) : FnOk P w K mg base CX0 6 f fd [] (spP K (TAllD Cd False)) := by
  refine F.ok sc_no_days (fun vs H Q E h => spP_len (n := 0) (fun ds Φ ⟨e, _⟩ => by rw [e]; rfl) h) (fun cdv A outer s H vs Q E hr h => ⟨t_noD K Cd aT, PSs.nox ?_, run_P h fun ds Φ t => ws_noD c hT t⟩)
  exact (pss_one (ps_ret (pe_hasC hc_Days (hr.mono (by decide)) pass0 (pa_cons pe_int (pa_cons (pe_tup pa_nil) pa_nil)))))
theorem ok_law_reel  (F : FnP K "_law_reel" s_law_reel f fd) (z_len : mg "len" = none) (z_max : mg "max" = none)  : FnOk P w K mg base CX0 1 f fd ["_law_script", "_law_k"] (spReel K) := by
  refine F.ok sc_law_reel (fun vs H Q E h => by obtain ⟨_, _, _, rfl, _⟩ := h; rfl) (fun cdv A outer s H vs Q E hr h => ⟨t_reel K, PSs.nox ?_, reel_run h⟩)
  exact (pss_cons (ps_set (i := 2) sc_law_reel.nd rfl (by first | exact Or.inl rfl | exact Or.inr rfl) pe_int)
      (pss_cons (ps_if (pt_cmpR op_lt (pv 1) (pe_callB call_len_seq (by rfl) z_len PySem.boot_len (pa_cons (pv 0) pa_nil)) (nomark _)) (pss_one (ps_set (i := 2) sc_law_reel.nd rfl (by first | exact Or.inl rfl | exact Or.inr rfl) (pe_ix ix_list (pv 0) (pv 1) (fun _ _ => rfl)))) pss_nil)
      (pss_one (ps_ret (pe_lst (pa_cons (pe_callB (call_max2 rfl) (by rfl) z_max (by decide +kernel) (pa_cons pe_int (pa_cons (pe_op op_sub (pv 2) (pe_op op_pow pe_int pe_int)) pa_nil))) (pa_cons (pe_op op_add (pe_op op_modN (pv 2) pe_int) (pe_op op_mulW pe_int (pv 1))) (pa_cons pe_int pa_nil))))))))
theorem ok_law_draw  (F : FnP K "_law_draw" s_law_draw f fd)   : FnOk P w K mg base CX0 1 f fd ["_law_reel_here", "_law_many"] (spS K FPot TTake) := by
  refine F.ok sc_law_draw (fun vs H Q E h => spS_len (n := 1) (fun B ds Φ ⟨_, e, _⟩ => by rw [e]; rfl) h) (fun cdv A outer s H vs Q E hr h => ⟨t_draw13 K, PSs.nox ?_, draw13_run h⟩)
  exact (pss_cons (ps_if (pt_cmpR op_gt (pe_ix ix_list (pv 0) pe_int (fun _ _ => rfl)) pe_int (nomark _)) (pss_cons (ps_set (i := 2) sc_law_draw.nd rfl (by first | exact Or.inl rfl | exact Or.inr rfl) (pe_op op_modN (pe_ix ix_list (pv 0) pe_int (fun _ _ => rfl)) (pv 1)))
      (pss_cons (ps_asg (pe_op op_fdivX (pe_ix ix_list (pv 0) pe_int (fun _ _ => rfl)) (pv 1)) (pg_sub (pv 0) pe_int set_list))
      (pss_one (ps_ret (pv 2))))) pss_nil)
      (pss_cons (ps_asg (pe_op op_add (pe_ix ix_list (pv 0) pe_int (fun _ _ => rfl)) pe_int) (pg_sub (pv 0) pe_int set_list))
      (pss_cons (ps_set (i := 3) sc_law_draw.nd rfl (by first | exact Or.inl rfl | exact Or.inr rfl) (pe_ix ix_list (pv 0) pe_int (fun _ _ => rfl)))
      (pss_cons (ps_set (i := 4) sc_law_draw.nd rfl (by first | exact Or.inl rfl | exact Or.inr rfl) (pe_lst (pa_cons pe_int (pa_cons pe_int (pa_cons pe_int (pa_cons pe_int (pa_cons pe_int (pa_cons pe_int (pa_cons pe_int pa_nil)))))))))
      (pss_cons (ps_set (i := 5) sc_law_draw.nd rfl (by first | exact Or.inl rfl | exact Or.inr rfl) (pe_op op_modN (pe_op op_mulW (pe_op op_add (pe_ix ix_list (pv 0) pe_int (fun _ _ => rfl)) pe_int) (pe_op op_add (pe_op op_mulW (pv 3) (pv 3)) pe_int)) (pe_ix ix_list (pv 4) (pe_op op_modN (pv 3) pe_int) (fun _ _ => rfl))))
      (pss_cons (ps_set (i := 5) sc_law_draw.nd rfl (by first | exact Or.inl rfl | exact Or.inr rfl) (pe_op op_modN (pe_op op_add (pe_op op_add (pe_op op_mulW (pv 5) (pv 5)) (pe_op op_mulW pe_int (pv 3))) pe_int) (pe_ix ix_list (pv 4) (pe_op op_modN (pe_op op_add (pv 3) pe_int) pe_int) (fun _ _ => rfl))))
      (pss_one (ps_ret (pe_op op_modN (pe_op op_fdivX (pe_op op_modN (pe_op op_mulW (pv 5) (pe_op op_add (pv 5) pe_int)) pe_int) pe_int) (pv 1))))))))))
theorem ok_law_bits  (F : FnP K "_law_bits" s_law_bits f fd) (z_range : mg "range" = none) (h__law_draw : Has P w K mg base CX0 "_law_draw" 1 ["_law_reel_here", "_law_many"] (spS K FPot TTake) [])  : FnOk P w K mg base CX0 2 f fd ["_law_reel_here", "_law_many"] (spS K FPot TBits) := by
  refine F.ok sc_law_bits (fun vs H Q E h => spS_len (n := 1) (fun B ds Φ ⟨_, e, _⟩ => by rw [e]; rfl) h) (fun cdv A outer s H vs Q E hr h => ⟨t_bits K, PSs.nox ?_, run_S h (fun S B ds Φ hF t => ws_bits hF t) (by decide)⟩)
  exact (pss_one (ps_ret (pe_lc (own := [("_law_turn", 2)]) (g := (gName 2)) rfl sc_law_bits.nd (pi_range1 rfl z_range (pa_cons (pv 1) pa_nil)) (blkOk_by (N := ["_law_reel_here", "_law_many", "_law_turn"]) (sc := defScope s_law_bits) (by decide +kernel)) (fun _ _ _ _ _ => (pg_name (i := 2) sc_law_bits.nd rfl (by first | exact Or.inl rfl | exact Or.inr rfl))) (fun _ _ _ _ _ => pts_nil) (fun _ _ _ _ _ => (pe_has h__law_draw (hr.mono (by decide)) pass0 (pa_cons (pv 0) (pa_cons pe_int pa_nil)))))))
theorem ok_law_rests  (F : FnP K "_law_rests" s_law_rests f fd) (z_int : mg "int" = none) (z_len : mg "len" = none) (z_range : mg "range" = none) (h__law_bits : Has P w K mg base CX0 "_law_bits" 2 ["_law_reel_here", "_law_many"] (spS K FPot TBits) []) (h__law_draw : Has P w K mg base CX0 "_law_draw" 1 ["_law_reel_here", "_law_many"] (spS K FPot TTake) [])  : FnOk P w K mg base CX0 3 f fd ["_law_reel_here"] (spS K FPot TRests) := by
  refine F.ok sc_law_rests (fun vs H Q E h => spS_len (n := 0) (fun B ds Φ ⟨e, _⟩ => by rw [e]; rfl) h) (fun cdv A outer s H vs Q E hr h => ⟨t_rests K, PSs.nox ?_, run_S h (fun S B ds Φ hF t => ws_rests hF t) (by decide)⟩)
  exact (pss_cons (ps_set (i := 1) sc_law_rests.nd rfl (by first | exact Or.inl rfl | exact Or.inr rfl) (pe_has h__law_draw (hr.mono (by decide)) pass0 (pa_cons (pv 0) (pa_cons pe_int pa_nil))))
      (pss_cons (ps_set (i := 2) sc_law_rests.nd rfl (by first | exact Or.inl rfl | exact Or.inr rfl) (pe_has h__law_bits (hr.mono (by decide)) pass0 (pa_cons (pv 0) (pa_cons (pe_op op_add pe_int (pe_has h__law_draw (hr.mono (by decide)) pass0 (pa_cons (pv 0) (pa_cons pe_int pa_nil)))) pa_nil))))
      (pss_cons (ps_set (i := 3) sc_law_rests.nd rfl (by first | exact Or.inl rfl | exact Or.inr rfl) (pe_op op_add pe_int (pe_has h__law_draw (hr.mono (by decide)) pass0 (pa_cons (pv 0) (pa_cons pe_int pa_nil)))))
      (pss_cons (ps_asg (pe_tup (pa_cons (pe_has h__law_draw (hr.mono (by decide)) pass0 (pa_cons (pv 0) (pa_cons pe_int pa_nil))) (pa_cons (pe_op op_add pe_int (pe_has h__law_draw (hr.mono (by decide)) pass0 (pa_cons (pv 0) (pa_cons pe_int pa_nil)))) pa_nil))) (pg_tup rfl (pgs_cons (pg_name (i := 4) sc_law_rests.nd rfl (by first | exact Or.inl rfl | exact Or.inr rfl)) (pgs_cons (pg_name (i := 5) sc_law_rests.nd rfl (by first | exact Or.inl rfl | exact Or.inr rfl)) pgs_nil))))
      (pss_cons (ps_if (pt_cmpR op_lt (pv 1) pe_int (nomark _)) (pss_one (ps_ret (pv 2))) pss_nil)
      (pss_cons (ps_if (pt_cmpR op_eq (pv 1) pe_int (nomark _)) (pss_one (ps_ret (pe_op op_repL (pv 2) (pv 3)))) pss_nil)
      (pss_cons (ps_if (pt_cmpR op_eq (pv 1) pe_int (nomark _)) (pss_cons (ps_set (i := 2) sc_law_rests.nd rfl (by first | exact Or.inl rfl | exact Or.inr rfl) (pe_op op_repL (pv 2) (pv 3)))
      (pss_cons (ps_set (i := 4) sc_law_rests.nd rfl (by first | exact Or.inl rfl | exact Or.inr rfl) (pe_op op_modN (pv 4) (pe_callB call_len_seq (by rfl) z_len PySem.boot_len (pa_cons (pv 2) pa_nil))))
      (pss_one (ps_ret (pe_op op_catL (pe_op op_catL (pe_slice sl_list (pv 2) po_none (po_some (pv 4))) (pe_lst (pa_cons (pe_op op_sub pe_int (pe_ix ix_list (pv 2) (pv 4) (fun _ _ => rfl))) pa_nil))) (pe_slice sl_list (pv 2) (po_some (pe_op op_add (pv 4) pe_int)) po_none)))))) pss_nil)
      (pss_cons (ps_if (pt_cmpR op_eq (pv 1) pe_int (nomark _)) (pss_one (ps_ret (pe_op op_repL (pe_lst (pa_cons (pe_op op_modN (pv 4) pe_int) pa_nil)) (pv 3)))) pss_nil)
      (pss_cons (ps_if (pt_cmpR op_eq (pv 1) pe_int (nomark _)) (pss_cons (ps_set (i := 6) sc_law_rests.nd rfl (by first | exact Or.inl rfl | exact Or.inr rfl) (pe_ix ix_list (pe_lst (pa_cons pe_int (pa_cons pe_int (pa_cons pe_int (pa_cons pe_int (pa_cons pe_int (pa_cons pe_int pa_nil))))))) (pe_op op_modN (pv 4) pe_int) (fun _ _ => rfl)))
      (pss_one (ps_ret (pe_lc (own := [("_law_rest", 7)]) (g := (gName 7)) rfl sc_law_rests.nd (pi_range1 rfl z_range (pa_cons (pv 6) pa_nil)) (blkOk_by (N := ["_law_reel_here", "_law_way", "_law_some", "_law_over", "_law_at", "_law_by", "_law_period", "_law_rest"]) (sc := defScope s_law_rests) (by decide +kernel)) (fun _ _ _ _ _ => (pg_name (i := 7) sc_law_rests.nd rfl (by first | exact Or.inl rfl | exact Or.inr rfl))) (fun _ _ _ _ _ => pts_nil) (fun _ _ _ _ _ => (pe_callTy call_int1 (by rfl) z_int (by decide +kernel) (pa_cons (pe_cmpR op_eq (pe_op op_modN (pv 7) (pe_op op_add pe_int (pv 5))) (pe_op op_modN (pv 4) pe_int) (nomark _)) pa_nil))))))) pss_nil)
      (pss_cons (ps_set (i := 6) sc_law_rests.nd rfl (by first | exact Or.inl rfl | exact Or.inr rfl) (pe_ix ix_list (pe_lst (pa_cons pe_int (pa_cons pe_int (pa_cons pe_int (pa_cons pe_int (pa_cons pe_int (pa_cons pe_int (pa_cons pe_int (pa_cons pe_int pa_nil))))))))) (pe_op op_modN (pv 4) pe_int) (fun _ _ => rfl)))
      (pss_one (ps_ret (pe_lc (own := [("_law_rest", 7)]) (g := (gName 7)) rfl sc_law_rests.nd (pi_range1 rfl z_range (pa_cons (pv 6) pa_nil)) (blkOk_by (N := ["_law_reel_here", "_law_way", "_law_some", "_law_over", "_law_at", "_law_by", "_law_period", "_law_rest"]) (sc := defScope s_law_rests) (by decide +kernel)) (fun _ _ _ _ _ => (pg_name (i := 7) sc_law_rests.nd rfl (by first | exact Or.inl rfl | exact Or.inr rfl))) (fun _ _ _ _ _ => pts_nil) (fun _ _ _ _ _ => (pe_callTy call_int1 (by rfl) z_int (by decide +kernel) (pa_cons (pe_cmpR op_lt (pe_op op_modN (pe_op op_mulW (pv 7) (pv 5)) pe_int) (pe_op op_add pe_int (pv 4)) (nomark _)) pa_nil))))))))))))))))
theorem ok_law_unlike  (F : FnP K "_law_unlike" s_law_unlike f fd) (z_dict : mg "dict" = none) (z_list : mg "list" = none)  : FnOk P w K mg base CX0 1 f fd ["_law_some"] (spP K TUnlike) := by
  refine F.ok sc_law_unlike (fun vs H Q E h => spP_len (n := 1) (fun ds Φ ⟨_, e, _⟩ => by rw [e]; rfl) h) (fun cdv A outer s H vs Q E hr h => ⟨t_unlike K, PSs.nox ?_, run_P h fun ds Φ t => ws_unlike t⟩)
  exact (pss_one (ps_ret (pe_callTy (call_listD rfl) (by rfl) z_list (by decide +kernel) (pa_cons (pe_callTy (call_dictP rfl) (by rfl) z_dict (by decide +kernel) (pa_cons (pe_lc (own := [("_law_one", 1)]) (g := (gName 1)) rfl sc_law_unlike.nd (pi_list (pv 0)) (blkOk_by (N := ["_law_some", "_law_one"]) (sc := defScope s_law_unlike) (by decide +kernel)) (fun _ _ _ _ _ => (pg_name (i := 1) sc_law_unlike.nd rfl (by first | exact Or.inl rfl | exact Or.inr rfl))) (fun _ _ _ _ _ => pts_nil) (fun _ _ _ _ _ => (pe_tup (pa_cons (pv 1) (pa_cons pe_bl pa_nil))))) pa_nil)) pa_nil))))
theorem ok_law_turned  (F : FnP K "_law_turned" s_law_turned f fd) (z_int : mg "int" = none) (z_range : mg "range" = none) (h__law_draw : Has P w K mg base CX0 "_law_draw" 1 ["_law_reel_here", "_law_many"] (spS K FPot TTake) []) (h__law_unlike : Has P w K mg base CX0 "_law_unlike" 1 ["_law_some"] (spP K TUnlike) [])  : FnOk P w K mg base CX0 2 f fd ["_law_reel_here"] (spS K FPot TTurned) := by
  refine F.ok sc_law_turned (fun vs H Q E h => spS_len (n := 0) (fun B ds Φ ⟨e, _⟩ => by rw [e]; rfl) h) (fun cdv A outer s H vs Q E hr h => ⟨t_turned K, PSs.nox ?_, run_S h (fun S B ds Φ hF t => ws_turned hF t) (by decide)⟩)
  exact (pss_cons (ps_set (i := 1) sc_law_turned.nd rfl (by first | exact Or.inl rfl | exact Or.inr rfl) (pe_has h__law_draw (hr.mono (by decide)) pass0 (pa_cons (pv 0) (pa_cons pe_int pa_nil))))
      (pss_cons (ps_set (i := 2) sc_law_turned.nd rfl (by first | exact Or.inl rfl | exact Or.inr rfl) (pe_ix ix_list (pe_lst (pa_cons pe_int (pa_cons (pe_un un_neg pe_int) (pa_cons pe_int (pa_cons (pe_op op_sub (pe_op op_pow pe_int pe_int) pe_int) (pa_cons (pe_op op_sub pe_int (pe_op op_pow pe_int pe_int)) (pa_cons pe_int pa_nil))))))) (pe_has h__law_draw (hr.mono (by decide)) pass0 (pa_cons (pv 0) (pa_cons pe_int pa_nil))) (fun _ _ => rfl)))
      (pss_cons (ps_set (i := 3) sc_law_turned.nd rfl (by first | exact Or.inl rfl | exact Or.inr rfl) (pe_op op_add pe_int (pe_has h__law_draw (hr.mono (by decide)) pass0 (pa_cons (pv 0) (pa_cons pe_int pa_nil)))))
      (pss_cons (ps_if (pt_cmpR op_eq (pv 1) pe_int (nomark _)) (pss_cons (ps_set (i := 4) sc_law_turned.nd rfl (by first | exact Or.inl rfl | exact Or.inr rfl) (pe_op op_sub pe_int (pe_op op_mulW pe_int (pe_callTy call_int1 (by rfl) z_int (by decide +kernel) (pa_cons (pe_cmpR op_gt (pv 2) pe_int (nomark _)) pa_nil)))))
      (pss_one (ps_ret (pe_lc (own := [("_law_k", 5)]) (g := (gName 5)) rfl sc_law_turned.nd (pi_range1 rfl z_range (pa_cons pe_int pa_nil)) (blkOk_by (N := ["_law_reel_here", "_law_way", "_law_base", "_law_by", "_law_down", "_law_k", "_law_turn"]) (sc := defScope s_law_turned) (by decide +kernel)) (fun _ _ _ _ _ => (pg_name (i := 5) sc_law_turned.nd rfl (by first | exact Or.inl rfl | exact Or.inr rfl))) (fun _ _ _ _ _ => pts_nil) (fun _ _ _ _ _ => (pe_op op_add (pv 2) (pe_op op_mulW (pv 4) (pe_op op_modN (pe_op op_mulW (pe_op op_mulW (pv 5) (pv 3)) pe_int) pe_int)))))))) pss_nil)
      (pss_cons (ps_if (pt_cmpR op_lt (pv 1) pe_int (nomark _)) (pss_one (ps_ret (pe_lst pa_nil))) pss_nil)
      (pss_one (ps_ret (pe_has h__law_unlike (hr.mono (by decide)) pass0 (pa_cons (pe_lc (own := [("_law_turn", 6)]) (g := (gName 6)) rfl sc_law_turned.nd (pi_range1 rfl z_range (pa_cons (pe_op op_add pe_int (pe_has h__law_draw (hr.mono (by decide)) pass0 (pa_cons (pv 0) (pa_cons pe_int pa_nil)))) pa_nil)) (blkOk_by (N := ["_law_reel_here", "_law_way", "_law_base", "_law_by", "_law_down", "_law_k", "_law_turn"]) (sc := defScope s_law_turned) (by decide +kernel)) (fun _ _ _ _ _ => (pg_name (i := 6) sc_law_turned.nd rfl (by first | exact Or.inl rfl | exact Or.inr rfl))) (fun _ _ _ _ _ => pts_nil) (fun _ _ _ _ _ => (pe_op op_sub (pe_op op_add (pv 2) (pe_has h__law_draw (hr.mono (by decide)) pass0 (pa_cons (pv 0) (pa_cons pe_int pa_nil)))) pe_int))) pa_nil)))))))))
theorem ok_law_given  (F : FnP K "_law_given" s_law_given f fd) (h__law_rests : Has P w K mg base CX0 "_law_rests" 3 ["_law_reel_here"] (spS K FPot TRests) []) (h__law_turned : Has P w K mg base CX0 "_law_turned" 2 ["_law_reel_here"] (spS K FPot TTurned) [])  : FnOk P w K mg base CX0 4 f fd ["_law_reel_here"] (spS K FPot TGiven) := by
  refine F.ok sc_law_given (fun vs H Q E h => spS_len (n := 0) (fun B ds Φ ⟨e, _⟩ => by rw [e]; rfl) h) (fun cdv A outer s H vs Q E hr h => ⟨t_given K, PSs.nox ?_, run_S h (fun S B ds Φ hF t => ws_given hF t) (by decide)⟩)
  exact (pss_cons (ps_set (i := 1) sc_law_given.nd rfl (by first | exact Or.inl rfl | exact Or.inr rfl) (pe_has h__law_rests (hr.mono (by decide)) pass0 (pa_cons (pv 0) pa_nil)))
      (pss_one (ps_ret (pe_tup (pa_cons (pv 1) (pa_cons (pe_has h__law_turned (hr.mono (by decide)) pass0 (pa_cons (pv 0) pa_nil)) pa_nil))))))
theorem ok_law_marks  (F : FnP K "_law_marks" s_law_marks f fd) (z_enumerate : mg "enumerate" = none)  : FnOk P w K mg base CX0 1 f fd ["_law_here"] (spP K TMarks) := by
  refine F.ok sc_law_marks (fun vs H Q E h => spP_len (n := 1) (fun ds Φ ⟨_, e, _⟩ => by rw [e]; rfl) h) (fun cdv A outer s H vs Q E hr h => ⟨t_marks K, PSs.nox ?_, run_P h fun ds Φ t => ws_marks t⟩)
  exact (pss_one (ps_ret (pe_lc (own := [("_law_rest", 1), ("_law_there", 2)]) (g := (gTup _ 2 (gCons (gName 1) (gCons (gName 2) gNil)))) rfl sc_law_marks.nd (pi_enum (by rfl) z_enumerate (pa_cons (pv 0) pa_nil)) (blkOk_by (N := ["_law_here", "_law_rest", "_law_there"]) (sc := defScope s_law_marks) (by decide +kernel)) (fun _ _ _ _ _ => (pg_tup rfl (pgs_cons (pg_name (i := 1) sc_law_marks.nd rfl (by first | exact Or.inl rfl | exact Or.inr rfl)) (pgs_cons (pg_name (i := 2) sc_law_marks.nd rfl (by first | exact Or.inl rfl | exact Or.inr rfl)) pgs_nil)))) (fun _ _ _ _ _ => (pts_one (pt_cmpR op_eq (pv 2) pe_int (nomark _)))) (fun _ _ _ _ _ => (pv 1)))))
theorem ok_law_put {Cd : Addr} (F : FnP K "_law_put" s_law_put f fd) (z_len : mg "len" = none) (z_tuple : mg "tuple" = none) (hc_Days_k2_turned : HasCK P w K mg base CX0 "Days" Cd 5 ["self", "period", "marks", "turned"] (spIni K Cd TIniD) 2 ["turned"] gVapp) (h__law_marks : Has P w K mg base CX0 "_law_marks" 1 ["_law_here"] (spP K TMarks) []) (c : DayC K Cd) : FnOk P w K mg base CX0 6 f fd ["_law_given_here"] (spP K (TPut13 Cd)) := by
  refine F.ok sc_law_put (fun vs H Q E h => spP_len (n := 1) (fun ds Φ ⟨_, _, e, _⟩ => by rw [e]; rfl) h) (fun cdv A outer s H vs Q E hr h => ⟨t_put13 K Cd, PSs.nox ?_, run_P h fun ds Φ t => ws_put13 c.o t⟩)
  exact (pss_cons (ps_asg (pv 0) (pg_tup rfl (pgs_cons (pg_name (i := 1) sc_law_put.nd rfl (by first | exact Or.inl rfl | exact Or.inr rfl)) (pgs_cons (pg_name (i := 2) sc_law_put.nd rfl (by first | exact Or.inl rfl | exact Or.inr rfl)) pgs_nil))))
      (pss_one (ps_ret (pe_hasCK (ks := ["turned"]) hc_Days_k2_turned (hr.mono (by decide)) pass0 (pa_cons (pe_callB call_len_seq (by rfl) z_len PySem.boot_len (pa_cons (pv 1) pa_nil)) (pa_cons (pe_callTy call_tuple_of (by rfl) z_tuple (by decide +kernel) (pa_cons (pe_has h__law_marks (hr.mono (by decide)) pass0 (pa_cons (pv 1) pa_nil)) pa_nil)) pa_nil)) (pk_cons (pe_callTy call_tuple_of (by rfl) z_tuple (by decide +kernel) (pa_cons (pv 2) pa_nil)) pk_nil)))))
theorem ok_law_three {Cd : Addr} (F : FnP K "_law_three" s_law_three f fd) (z_len : mg "len" = none) (z_range : mg "range" = none) (h__law_draw : Has P w K mg base CX0 "_law_draw" 1 ["_law_reel_here", "_law_many"] (spS K FPot TTake) []) (h__law_given : Has P w K mg base CX0 "_law_given" 4 ["_law_reel_here"] (spS K FPot TGiven) []) (h__law_put : Has P w K mg base CX0 "_law_put" 6 ["_law_given_here"] (spP K (TPut13 Cd)) [])  : FnOk P w K mg base CX0 7 f fd ["_law_reel_here"] (spS K FPot (TThree Cd)) := by
  refine F.ok sc_law_three (fun vs H Q E h => spS_len (n := 0) (fun B ds Φ ⟨e, _⟩ => by rw [e]; rfl) h) (fun cdv A outer s H vs Q E hr h => ⟨t_three K Cd, PSs.nox ?_, run_S h (fun S B ds Φ hF t => ws_three hF t) (by decide)⟩)
  exact (pss_cons (ps_set (i := 1) sc_law_three.nd rfl (by first | exact Or.inl rfl | exact Or.inr rfl) (pe_lst pa_nil))
      (pss_cons (ps_for PassesOwn.never rfl (pi_range1 rfl z_range (pa_cons pe_int pa_nil)) (pg_name (i := 2) sc_law_three.nd rfl (by first | exact Or.inl rfl | exact Or.inr rfl)) (pss_cons (ps_asg (pe_has h__law_given (hr.mono (by decide)) pass0 (pa_cons (pv 0) pa_nil)) (pg_tup rfl (pgs_cons (pg_name (i := 3) sc_law_three.nd rfl (by first | exact Or.inl rfl | exact Or.inr rfl)) (pgs_cons (pg_name (i := 4) sc_law_three.nd rfl (by first | exact Or.inl rfl | exact Or.inr rfl)) pgs_nil))))
      (pss_cons (ps_if (pt_cmpR op_gt (pe_op op_modN pe_int (pe_callB call_len_seq (by rfl) z_len PySem.boot_len (pa_cons (pv 3) pa_nil))) pe_int (nomark _)) (pss_one (ps_set (i := 3) sc_law_three.nd rfl (by first | exact Or.inl rfl | exact Or.inr rfl) (pe_slice sl_list (pv 3) po_none (po_some (pe_ix ix_list (pe_lst (pa_cons pe_int (pa_cons pe_int (pa_cons pe_int (pa_cons pe_int (pa_cons pe_int pa_nil)))))) (pe_has h__law_draw (hr.mono (by decide)) pass0 (pa_cons (pv 0) (pa_cons pe_int pa_nil))) (fun _ _ => rfl)))))) pss_nil)
      (pss_cons (ps_if (pt_cmpR op_gt (pe_op op_modN pe_int (pe_callB call_len_seq (by rfl) z_len PySem.boot_len (pa_cons (pv 3) pa_nil))) pe_int (nomark _)) (pss_one (ps_set (i := 3) sc_law_three.nd rfl (by first | exact Or.inl rfl | exact Or.inr rfl) (pe_slice sl_list (pv 3) po_none (po_some pe_int)))) pss_nil)
      (pss_one (ps_expr (pe_bm PySem.F.plainAttrs_list PySem.F.slot_list_append PySem.F.type_list_append mt_append (pv 1) (pa_cons (pe_has h__law_put (hr.mono (by decide)) pass0 (pa_cons (pe_tup (pa_cons (pv 3) (pa_cons (pv 4) pa_nil))) pa_nil)) pa_nil))))))))
      (pss_one (ps_ret (pv 1)))))
theorem ok_law_rings {Cd : Addr} (F : FnP K "_law_rings" s_law_rings f fd) (he_Days : HasE P w K mg base CX0 Cd 1 (spP K (TEqD Cd))) (h_both : Has P w K mg base CX0 "both" 8 ["one", "other"] (spP K (TJn Cd (fun a b => a ∧ b))) []) (h_either : Has P w K mg base CX0 "either" 8 ["one", "other"] (spP K (TJn Cd (fun a b => a ∨ b))) []) (h_others : Has P w K mg base CX0 "others" 7 ["days"] (spP K (TOthD Cd)) []) (h_without : Has P w K mg base CX0 "without" 8 ["one", "other"] (spP K (TJn Cd (fun a b => a ∧ ¬ b))) [])  : FnOk P w K mg base CX0 9 f fd ["_law_a", "_law_b", "_law_c"] (spP K (TRings Cd)) := by
  refine F.ok sc_law_rings (fun vs H Q E h => spP_len (n := 3) (fun ds Φ ⟨_, _, _, _, _, _, e, _⟩ => by rw [e]; rfl) h) (fun cdv A outer s H vs Q E hr h => ⟨t_rings K Cd, PSs.nox ?_, run_P h fun ds Φ t => ws_rings t⟩)
  exact (pss_cons (ps_if (PW.pt (pw_or (pt_cmpR (op_neOwnH he_Days (hr.mono (by decide)) pass0) (pe_has h_both (hr.mono (by decide)) pass0 (pa_cons (pv 0) (pa_cons (pv 1) pa_nil))) (pe_has h_both (hr.mono (by decide)) pass0 (pa_cons (pv 1) (pa_cons (pv 0) pa_nil))) (nomark _)) (pw_or1 (pt_cmpR (op_neOwnH he_Days (hr.mono (by decide)) pass0) (pe_has h_either (hr.mono (by decide)) pass0 (pa_cons (pv 0) (pa_cons (pv 1) pa_nil))) (pe_has h_either (hr.mono (by decide)) pass0 (pa_cons (pv 1) (pa_cons (pv 0) pa_nil))) (nomark _))))) (pss_one (ps_ret pe_bl)) pss_nil)
      (pss_cons (ps_if (pt_cmpR (op_neOwnH he_Days (hr.mono (by decide)) pass0) (pe_has h_both (hr.mono (by decide)) pass0 (pa_cons (pe_has h_both (hr.mono (by decide)) pass0 (pa_cons (pv 0) (pa_cons (pv 1) pa_nil))) (pa_cons (pv 2) pa_nil))) (pe_has h_both (hr.mono (by decide)) pass0 (pa_cons (pv 0) (pa_cons (pe_has h_both (hr.mono (by decide)) pass0 (pa_cons (pv 1) (pa_cons (pv 2) pa_nil))) pa_nil))) (nomark _)) (pss_one (ps_ret pe_bl)) pss_nil)
      (pss_cons (ps_if (pt_cmpR (op_neOwnH he_Days (hr.mono (by decide)) pass0) (pe_has h_either (hr.mono (by decide)) pass0 (pa_cons (pe_has h_either (hr.mono (by decide)) pass0 (pa_cons (pv 0) (pa_cons (pv 1) pa_nil))) (pa_cons (pv 2) pa_nil))) (pe_has h_either (hr.mono (by decide)) pass0 (pa_cons (pv 0) (pa_cons (pe_has h_either (hr.mono (by decide)) pass0 (pa_cons (pv 1) (pa_cons (pv 2) pa_nil))) pa_nil))) (nomark _)) (pss_one (ps_ret pe_bl)) pss_nil)
      (pss_cons (ps_if (pt_cmpR (op_neOwnH he_Days (hr.mono (by decide)) pass0) (pe_has h_both (hr.mono (by decide)) pass0 (pa_cons (pv 0) (pa_cons (pe_has h_either (hr.mono (by decide)) pass0 (pa_cons (pv 1) (pa_cons (pv 2) pa_nil))) pa_nil))) (pe_has h_either (hr.mono (by decide)) pass0 (pa_cons (pe_has h_both (hr.mono (by decide)) pass0 (pa_cons (pv 0) (pa_cons (pv 1) pa_nil))) (pa_cons (pe_has h_both (hr.mono (by decide)) pass0 (pa_cons (pv 0) (pa_cons (pv 2) pa_nil))) pa_nil))) (nomark _)) (pss_one (ps_ret pe_bl)) pss_nil)
      (pss_cons (ps_if (pt_cmpR (op_neOwnH he_Days (hr.mono (by decide)) pass0) (pe_has h_others (hr.mono (by decide)) pass0 (pa_cons (pe_has h_both (hr.mono (by decide)) pass0 (pa_cons (pv 0) (pa_cons (pv 1) pa_nil))) pa_nil)) (pe_has h_either (hr.mono (by decide)) pass0 (pa_cons (pe_has h_others (hr.mono (by decide)) pass0 (pa_cons (pv 0) pa_nil)) (pa_cons (pe_has h_others (hr.mono (by decide)) pass0 (pa_cons (pv 1) pa_nil)) pa_nil))) (nomark _)) (pss_one (ps_ret pe_bl)) pss_nil)
      (pss_one (ps_ret (pe_cmpR (op_eqOwnH he_Days (hr.mono (by decide)) pass0) (pe_has h_without (hr.mono (by decide)) pass0 (pa_cons (pv 0) (pa_cons (pv 1) pa_nil))) (pe_has h_both (hr.mono (by decide)) pass0 (pa_cons (pv 0) (pa_cons (pe_has h_others (hr.mono (by decide)) pass0 (pa_cons (pv 1) pa_nil)) pa_nil))) (nomark _)))))))))
theorem ok_law_ends {Cd : Addr} (F : FnP K "_law_ends" s_law_ends f fd) (he_Days : HasE P w K mg base CX0 Cd 1 (spP K (TEqD Cd))) (h_all_days : Has P w K mg base CX0 "all_days" 6 [] (spP K (TAllD Cd True)) []) (h_both : Has P w K mg base CX0 "both" 8 ["one", "other"] (spP K (TJn Cd (fun a b => a ∧ b))) []) (h_either : Has P w K mg base CX0 "either" 8 ["one", "other"] (spP K (TJn Cd (fun a b => a ∨ b))) []) (h_moved : Has P w K mg base CX0 "moved" 7 ["days", "by"] (spP K (TMovD Cd)) []) (h_no_days : Has P w K mg base CX0 "no_days" 6 [] (spP K (TAllD Cd False)) []) (h_others : Has P w K mg base CX0 "others" 7 ["days"] (spP K (TOthD Cd)) []) (h_without : Has P w K mg base CX0 "without" 8 ["one", "other"] (spP K (TJn Cd (fun a b => a ∧ ¬ b))) []) (c : DayC K Cd) : FnOk P w K mg base CX0 9 f fd ["_law_a", "_law_by"] (spP K (TEnds Cd)) := by
  refine F.ok sc_law_ends (fun vs H Q E h => spP_len (n := 2) (fun ds Φ ⟨_, _, _, e, _⟩ => by rw [e]; rfl) h) (fun cdv A outer s H vs Q E hr h => ⟨t_ends K Cd, PSs.nox ?_, run_P h fun ds Φ t => ws_ends c t⟩)
  exact (pss_cons (ps_if (PW.pt (pw_or (pt_cmpR (op_neOwnH he_Days (hr.mono (by decide)) pass0) (pe_has h_others (hr.mono (by decide)) pass0 (pa_cons (pe_has h_others (hr.mono (by decide)) pass0 (pa_cons (pv 0) pa_nil)) pa_nil)) (pv 0) (nomark _)) (pw_or1 (pt_cmpR (op_neOwnH he_Days (hr.mono (by decide)) pass0) (pe_has h_moved (hr.mono (by decide)) pass0 (pa_cons (pe_has h_moved (hr.mono (by decide)) pass0 (pa_cons (pv 0) (pa_cons (pv 1) pa_nil))) (pa_cons (pe_op op_sub pe_int (pv 1)) pa_nil))) (pv 0) (nomark _))))) (pss_one (ps_ret pe_bl)) pss_nil)
      (pss_cons (ps_if (PW.pt (pw_or (pt_cmpR (op_neOwnH he_Days (hr.mono (by decide)) pass0) (pe_has h_moved (hr.mono (by decide)) pass0 (pa_cons (pe_has h_moved (hr.mono (by decide)) pass0 (pa_cons (pv 0) (pa_cons (pe_op op_pow pe_int pe_int) pa_nil))) (pa_cons (pe_un un_neg (pe_op op_pow pe_int pe_int)) pa_nil))) (pv 0) (nomark _)) (pw_or1 (pt_cmpR (op_neOwnH he_Days (hr.mono (by decide)) pass0) (pe_has h_moved (hr.mono (by decide)) pass0 (pa_cons (pe_has h_moved (hr.mono (by decide)) pass0 (pa_cons (pv 0) (pa_cons pe_int pa_nil))) (pa_cons (pe_op op_pow pe_int pe_int) pa_nil))) (pe_has h_moved (hr.mono (by decide)) pass0 (pa_cons (pv 0) (pa_cons (pe_op op_add (pe_op op_pow pe_int pe_int) pe_int) pa_nil))) (nomark _))))) (pss_one (ps_ret pe_bl)) pss_nil)
      (pss_cons (ps_if (PW.pt (pw_or (pt_cmpR (op_neOwnH he_Days (hr.mono (by decide)) pass0) (pe_has h_both (hr.mono (by decide)) pass0 (pa_cons (pv 0) (pa_cons (pe_has0 h_all_days (hr.mono (by decide)) pass0) pa_nil))) (pv 0) (nomark _)) (pw_or (pt_cmpR (op_neOwnH he_Days (hr.mono (by decide)) pass0) (pe_has h_either (hr.mono (by decide)) pass0 (pa_cons (pv 0) (pa_cons (pe_has0 h_no_days (hr.mono (by decide)) pass0) pa_nil))) (pv 0) (nomark _)) (pw_or1 (pt_cmpR (op_neOwnH he_Days (hr.mono (by decide)) pass0) (pe_has h_both (hr.mono (by decide)) pass0 (pa_cons (pv 0) (pa_cons (pv 0) pa_nil))) (pv 0) (nomark _)))))) (pss_one (ps_ret pe_bl)) pss_nil)
      (pss_cons (ps_if (PW.pt (pw_or (pt_cmpR (op_neOwnH he_Days (hr.mono (by decide)) pass0) (pe_has h_both (hr.mono (by decide)) pass0 (pa_cons (pv 0) (pa_cons (pe_has h_others (hr.mono (by decide)) pass0 (pa_cons (pv 0) pa_nil)) pa_nil))) (pe_has0 h_no_days (hr.mono (by decide)) pass0) (nomark _)) (pw_or1 (pt_cmpR (op_neOwnH he_Days (hr.mono (by decide)) pass0) (pe_has h_either (hr.mono (by decide)) pass0 (pa_cons (pv 0) (pa_cons (pe_has h_others (hr.mono (by decide)) pass0 (pa_cons (pv 0) pa_nil)) pa_nil))) (pe_has0 h_all_days (hr.mono (by decide)) pass0) (nomark _))))) (pss_one (ps_ret pe_bl)) pss_nil)
      (pss_cons (ps_if (PW.pt (pw_or (pt_cmpR (op_neOwnH he_Days (hr.mono (by decide)) pass0) (pe_has h_without (hr.mono (by decide)) pass0 (pa_cons (pv 0) (pa_cons (pv 0) pa_nil))) (pe_has0 h_no_days (hr.mono (by decide)) pass0) (nomark _)) (pw_or1 (pt_cmpR (op_neOwnH he_Days (hr.mono (by decide)) pass0) (pe_has h_without (hr.mono (by decide)) pass0 (pa_cons (pe_has0 h_all_days (hr.mono (by decide)) pass0) (pa_cons (pv 0) pa_nil))) (pe_has h_others (hr.mono (by decide)) pass0 (pa_cons (pv 0) pa_nil)) (nomark _))))) (pss_one (ps_ret pe_bl)) pss_nil)
      (pss_one (ps_ret (pe_or (pe_cmpR (op_neD hr.units) (pe_fld (pv 0) (by rfl)) (pe_tup pa_nil) (nomark _)) (pe_one (pe_cmpR (op_eqOwnH he_Days (hr.mono (by decide)) pass0) (pe_has h_moved (hr.mono (by decide)) pass0 (pa_cons (pv 0) (pa_cons (pe_op op_mulW (pe_fld (pv 0) (by rfl)) pe_int) pa_nil))) (pv 0) (nomark _)))))))))))
theorem ok_law_counts {Cd : Addr} (F : FnP K "_law_counts" s_law_counts f fd) (h_both : Has P w K mg base CX0 "both" 8 ["one", "other"] (spP K (TJn Cd (fun a b => a ∧ b))) []) (h_count_days : Has P w K mg base CX0 "count_days" 4 ["days", "one", "other"] (spP K (TCnt Cd)) []) (h_either : Has P w K mg base CX0 "either" 8 ["one", "other"] (spP K (TJn Cd (fun a b => a ∨ b))) []) (h_moved : Has P w K mg base CX0 "moved" 7 ["days", "by"] (spP K (TMovD Cd)) []) (h_others : Has P w K mg base CX0 "others" 7 ["days"] (spP K (TOthD Cd)) [])  : FnOk P w K mg base CX0 9 f fd ["_law_a", "_law_b", "_law_by", "_law_one", "_law_other"] (spP K (TCounts Cd)) := by
  refine F.ok sc_law_counts (fun vs H Q E h => spP_len (n := 5) (fun ds Φ ⟨_, _, _, _, _, _, _, e, _⟩ => by rw [e]; rfl) h) (fun cdv A outer s H vs Q E hr h => ⟨t_counts K Cd, PSs.nox ?_, run_P h fun ds Φ t => ws_counts t⟩)
  exact (pss_cons (ps_set (i := 5) sc_law_counts.nd rfl (by first | exact Or.inl rfl | exact Or.inr rfl) (pe_op op_add (pe_has h_count_days (hr.mono (by decide)) pass0 (pa_cons (pv 0) (pa_cons (pv 3) (pa_cons (pv 4) pa_nil)))) (pe_has h_count_days (hr.mono (by decide)) pass0 (pa_cons (pv 1) (pa_cons (pv 3) (pa_cons (pv 4) pa_nil))))))
      (pss_cons (ps_if (pt_cmpR op_ne (pe_op op_add (pe_has h_count_days (hr.mono (by decide)) pass0 (pa_cons (pe_has h_both (hr.mono (by decide)) pass0 (pa_cons (pv 0) (pa_cons (pv 1) pa_nil))) (pa_cons (pv 3) (pa_cons (pv 4) pa_nil)))) (pe_has h_count_days (hr.mono (by decide)) pass0 (pa_cons (pe_has h_either (hr.mono (by decide)) pass0 (pa_cons (pv 0) (pa_cons (pv 1) pa_nil))) (pa_cons (pv 3) (pa_cons (pv 4) pa_nil))))) (pv 5) (nomark _)) (pss_one (ps_ret pe_bl)) pss_nil)
      (pss_cons (ps_if (pt_cmpR op_ne (pe_has h_count_days (hr.mono (by decide)) pass0 (pa_cons (pe_has h_moved (hr.mono (by decide)) pass0 (pa_cons (pv 0) (pa_cons (pv 2) pa_nil))) (pa_cons (pe_op op_add (pv 3) (pv 2)) (pa_cons (pe_op op_add (pv 4) (pv 2)) pa_nil)))) (pe_has h_count_days (hr.mono (by decide)) pass0 (pa_cons (pv 0) (pa_cons (pv 3) (pa_cons (pv 4) pa_nil)))) (nomark _)) (pss_one (ps_ret pe_bl)) pss_nil)
      (pss_one (ps_ret (pe_cmpR op_eq (pe_op op_add (pe_has h_count_days (hr.mono (by decide)) pass0 (pa_cons (pv 0) (pa_cons (pv 3) (pa_cons (pv 4) pa_nil)))) (pe_has h_count_days (hr.mono (by decide)) pass0 (pa_cons (pe_has h_others (hr.mono (by decide)) pass0 (pa_cons (pv 0) pa_nil)) (pa_cons (pv 3) (pa_cons (pv 4) pa_nil))))) (pe_op op_sub (pv 4) (pv 3)) (nomark _)))))))
theorem ok_law {Cd : Addr} (F : FnP K "law" s_law f fd) (z_len : mg "len" = none) (z_max : mg "max" = none) (z_min : mg "min" = none) (z_range : mg "range" = none) (h__law_counts : Has P w K mg base CX0 "_law_counts" 9 ["_law_a", "_law_b", "_law_by", "_law_one", "_law_other"] (spP K (TCounts Cd)) []) (h__law_draw : Has P w K mg base CX0 "_law_draw" 1 ["_law_reel_here", "_law_many"] (spS K FPot TTake) []) (h__law_ends : Has P w K mg base CX0 "_law_ends" 9 ["_law_a", "_law_by"] (spP K (TEnds Cd)) []) (h__law_reel : Has P w K mg base CX0 "_law_reel" 1 ["_law_script", "_law_k"] (spReel K) []) (h__law_rings : Has P w K mg base CX0 "_law_rings" 9 ["_law_a", "_law_b", "_law_c"] (spP K (TRings Cd)) []) (h__law_three : Has P w K mg base CX0 "_law_three" 7 ["_law_reel_here"] (spS K FPot (TThree Cd)) [])  : FnG P w K mg base CX0 10 f fd ["_law_script"] (spLaw K) := by
  refine FunD_okG F sc_law (fun vs H Q E h => by obtain ⟨_, _, rfl, _⟩ := h; rfl) (fun cdv Ar outer s H vs Q E hgd hr h => ⟨t_law18 K Cd, PSs.nox ?_, run_law0 (n := 9) rfl h fun ns hl => ws_law18 (Cd := Cd) hl⟩)
  exact (pss_cons (ps_for PassesOwn.never rfl (pi_range1 rfl z_range (pa_cons (pe_callB (call_max2 rfl) (by rfl) z_max (by decide +kernel) (pa_cons pe_int (pa_cons (pe_callB (call_min2 rfl) (by rfl) z_min (by decide +kernel) (pa_cons pe_int (pa_cons (pe_callB call_len_seq (by rfl) z_len PySem.boot_len (pa_cons (pv 0) pa_nil)) pa_nil))) pa_nil))) pa_nil)) (pg_name (i := 1) sc_law.nd rfl (by first | exact Or.inl rfl | exact Or.inr rfl)) (pss_cons (ps_set (i := 2) sc_law.nd rfl (by first | exact Or.inl rfl | exact Or.inr rfl) (pe_has h__law_reel (hr.mono (by decide)) pass0 (pa_cons (pv 0) (pa_cons (pv 1) pa_nil))))
      (pss_cons (ps_set (i := 3) sc_law.nd rfl (by first | exact Or.inl rfl | exact Or.inr rfl) (pe_ix ix_list (pe_lst (pa_cons pe_int (pa_cons (pe_un un_neg pe_int) (pa_cons pe_int (pa_cons (pe_op op_pow pe_int pe_int) (pa_cons (pe_op op_sub pe_int (pe_has h__law_draw (hr.mono (by decide)) pass0 (pa_cons (pv 2) (pa_cons (pe_op op_pow pe_int pe_int) pa_nil)))) (pa_cons pe_int pa_nil))))))) (pe_has h__law_draw (hr.mono (by decide)) pass0 (pa_cons (pv 2) (pa_cons pe_int pa_nil))) (fun _ _ => rfl)))
      (pss_cons (ps_set (i := 4) sc_law.nd rfl (by first | exact Or.inl rfl | exact Or.inr rfl) (pe_ix ix_list (pe_lst (pa_cons (pe_op op_sub (pe_has h__law_draw (hr.mono (by decide)) pass0 (pa_cons (pv 2) (pa_cons pe_int pa_nil))) pe_int) (pa_cons (pe_un un_neg (pe_op op_pow pe_int pe_int)) (pa_cons (pe_op op_mulW pe_int (pe_op op_pow pe_int pe_int)) pa_nil)))) (pe_has h__law_draw (hr.mono (by decide)) pass0 (pa_cons (pv 2) (pa_cons pe_int pa_nil))) (fun _ _ => rfl)))
      (pss_cons (ps_set (i := 5) sc_law.nd rfl (by first | exact Or.inl rfl | exact Or.inr rfl) (pe_op op_add (pv 4) (pe_has h__law_draw (hr.mono (by decide)) pass0 (pa_cons (pv 2) (pa_cons (pe_ix ix_list (pe_lst (pa_cons pe_int (pa_cons (pe_op op_pow pe_int pe_int) pa_nil))) (pe_has h__law_draw (hr.mono (by decide)) pass0 (pa_cons (pv 2) (pa_cons pe_int pa_nil))) (fun _ _ => rfl)) pa_nil)))))
      (pss_cons (ps_set (i := 6) sc_law.nd rfl (by first | exact Or.inl rfl | exact Or.inr rfl) (pe_has h__law_three (hr.mono (by decide)) pass0 (pa_cons (pv 2) pa_nil)))
      (pss_one (ps_for PassesOwn.never rfl (pi_list (pe_lst (pa_cons (pe_tup (pa_cons (pe_ix ix_list (pv 6) pe_int (fun _ _ => rfl)) (pa_cons (pe_ix ix_list (pv 6) pe_int (fun _ _ => rfl)) (pa_cons (pe_ix ix_list (pv 6) pe_int (fun _ _ => rfl)) pa_nil)))) (pa_cons (pe_tup (pa_cons (pe_ix ix_list (pv 6) pe_int (fun _ _ => rfl)) (pa_cons (pe_ix ix_list (pv 6) pe_int (fun _ _ => rfl)) (pa_cons (pe_ix ix_list (pv 6) pe_int (fun _ _ => rfl)) pa_nil)))) pa_nil)))) (pg_tup rfl (pgs_cons (pg_name (i := 7) sc_law.nd rfl (by first | exact Or.inl rfl | exact Or.inr rfl)) (pgs_cons (pg_name (i := 8) sc_law.nd rfl (by first | exact Or.inl rfl | exact Or.inr rfl)) (pgs_cons (pg_name (i := 9) sc_law.nd rfl (by first | exact Or.inl rfl | exact Or.inr rfl)) pgs_nil)))) (pss_cons (ps_if (PW.pt (pw_or (pt_not (pt_val (pe_has h__law_rings (hr.mono (by decide)) pass0 (pa_cons (pv 7) (pa_cons (pv 8) (pa_cons (pv 9) pa_nil)))))) (pw_or1 (pt_not (pt_val (pe_has h__law_ends (hr.mono (by decide)) pass0 (pa_cons (pv 7) (pa_cons (pv 3) pa_nil)))))))) (pss_one (ps_ret pe_bl)) pss_nil)
      (pss_one (ps_if (pt_not (pt_val (pe_has h__law_counts (hr.mono (by decide)) pass0 (pa_cons (pv 7) (pa_cons (pv 8) (pa_cons (pv 3) (pa_cons (pv 4) (pa_cons (pv 5) pa_nil)))))))) (pss_one (ps_ret pe_bl)) pss_nil)))))))))))
      (pss_one (ps_ret pe_bl)))
end
end DL

set_option Elab.async false
set_option linter.all false
set_option maxRecDepth 100000
set_option maxHeartbeats 4000000
namespace DL
open PySem PySem.Spec PyProof.Rows L2
theorem facts {P : Program} {w : World} {K : PySem.W.Frag} {h : Heap} {mg : Str → Option Value} {f : Addr} (X : K.In h) (G : h.Ns mainGlobals mg) (hfa : mg ("law" : Str) = some (.ref f)) (c : He.SaysD fa fn K) (ce : ex K = true) :
    ∃ fd : FuncData, (∀ (s : Shared) (v : Value), BindsTo s fd ⟨[v], []⟩ [("_law_script", v)]) ∧ ∀ base : Heap, K.In base → base.Ns mainGlobals mg → FnG P w K mg base CX0 10 f fd ["_law_script"] (spLaw K) := by
  obtain ⟨ce, x8⟩ := He.ba ce
  obtain ⟨ce, x7⟩ := He.ba ce
  obtain ⟨ce, x6⟩ := He.ba ce
  obtain ⟨ce, x5⟩ := He.ba ce
  obtain ⟨ce, x4⟩ := He.ba ce
  obtain ⟨ce, x3⟩ := He.ba ce
  obtain ⟨ce, x2⟩ := He.ba ce
  obtain ⟨ce, x1⟩ := He.ba ce
  obtain ⟨ce, x0⟩ := He.ba ce
  obtain ⟨fd_is_whole, F_is_whole⟩ := c.def_ 0 (d := d_is_whole) rfl
  have g_is_whole := He.glo_ok X G (c.fact 0 (f := .glo "is_whole") rfl)
  obtain ⟨fd_is_unlike_row, F_is_unlike_row⟩ := c.def_ 1 (d := d_is_unlike_row) rfl
  have g_is_unlike_row := He.glo_ok X G (c.fact 1 (f := .glo "_is_unlike_row") rfl)
  obtain ⟨fd_refuse_wrong, F_refuse_wrong⟩ := c.def_ 2 (d := d_refuse_wrong) rfl
  have g_refuse_wrong := He.glo_ok X G (c.fact 2 (f := .glo "_refuse_wrong") rfl)
  obtain ⟨fd_pattern_of, F_pattern_of⟩ := c.def_ 3 (d := d_pattern_of) rfl
  have g_pattern_of := He.glo_ok X G (c.fact 3 (f := .glo "_pattern_of") rfl)
  obtain ⟨fd_many_below, F_many_below⟩ := c.def_ 4 (d := d_many_below) rfl
  have g_many_below := He.glo_ok X G (c.fact 4 (f := .glo "_many_below") rfl)
  obtain ⟨fd_is_in, F_is_in⟩ := c.def_ 5 (d := d_is_in) rfl
  have g_is_in := He.glo_ok X G (c.fact 5 (f := .glo "_is_in") rfl)
  obtain ⟨fd_from_on, F_from_on⟩ := c.def_ 6 (d := d_from_on) rfl
  have g_from_on := He.glo_ok X G (c.fact 6 (f := .glo "_from_on") rfl)
  obtain ⟨fd_regular_below, F_regular_below⟩ := c.def_ 7 (d := d_regular_below) rfl
  have g_regular_below := He.glo_ok X G (c.fact 7 (f := .glo "_regular_below") rfl)
  obtain ⟨fd_count_days, F_count_days⟩ := c.def_ 8 (d := d_count_days) rfl
  have g_count_days := He.glo_ok X G (c.fact 8 (f := .glo "count_days") rfl)
  obtain ⟨fd_pattern, F_pattern⟩ := c.def_ 9 (d := d_pattern) rfl
  have g_pattern := He.glo_ok X G (c.fact 9 (f := .glo "_pattern") rfl)
  obtain ⟨fd_told, F_told⟩ := c.def_ 10 (d := d_told) rfl
  have g_told := He.glo_ok X G (c.fact 10 (f := .glo "_told") rfl)
  obtain ⟨fd_sign, F_sign⟩ := c.def_ 11 (d := d_sign) rfl
  have g_sign := He.glo_ok X G (c.fact 11 (f := .glo "_sign") rfl)
  obtain ⟨fd_joined, F_joined⟩ := c.def_ 12 (d := d_joined) rfl
  have g_joined := He.glo_ok X G (c.fact 12 (f := .glo "_joined") rfl)
  obtain ⟨fd_both, F_both⟩ := c.def_ 13 (d := d_both) rfl
  have g_both := He.glo_ok X G (c.fact 13 (f := .glo "both") rfl)
  obtain ⟨fd_either, F_either⟩ := c.def_ 14 (d := d_either) rfl
  have g_either := He.glo_ok X G (c.fact 14 (f := .glo "either") rfl)
  obtain ⟨fd_without, F_without⟩ := c.def_ 15 (d := d_without) rfl
  have g_without := He.glo_ok X G (c.fact 15 (f := .glo "without") rfl)
  obtain ⟨fd_others, F_others⟩ := c.def_ 16 (d := d_others) rfl
  have g_others := He.glo_ok X G (c.fact 16 (f := .glo "others") rfl)
  obtain ⟨fd_moved, F_moved⟩ := c.def_ 17 (d := d_moved) rfl
  have g_moved := He.glo_ok X G (c.fact 17 (f := .glo "moved") rfl)
  obtain ⟨fd_all_days, F_all_days⟩ := c.def_ 18 (d := d_all_days) rfl
  have g_all_days := He.glo_ok X G (c.fact 18 (f := .glo "all_days") rfl)
  obtain ⟨fd_no_days, F_no_days⟩ := c.def_ 19 (d := d_no_days) rfl
  have g_no_days := He.glo_ok X G (c.fact 19 (f := .glo "no_days") rfl)
  obtain ⟨fd_law_reel, F_law_reel⟩ := c.def_ 20 (d := d_law_reel) rfl
  have g_law_reel := He.glo_ok X G (c.fact 20 (f := .glo "_law_reel") rfl)
  obtain ⟨fd_law_draw, F_law_draw⟩ := c.def_ 21 (d := d_law_draw) rfl
  have g_law_draw := He.glo_ok X G (c.fact 21 (f := .glo "_law_draw") rfl)
  obtain ⟨fd_law_bits, F_law_bits⟩ := c.def_ 22 (d := d_law_bits) rfl
  have g_law_bits := He.glo_ok X G (c.fact 22 (f := .glo "_law_bits") rfl)
  obtain ⟨fd_law_rests, F_law_rests⟩ := c.def_ 23 (d := d_law_rests) rfl
  have g_law_rests := He.glo_ok X G (c.fact 23 (f := .glo "_law_rests") rfl)
  obtain ⟨fd_law_unlike, F_law_unlike⟩ := c.def_ 24 (d := d_law_unlike) rfl
  have g_law_unlike := He.glo_ok X G (c.fact 24 (f := .glo "_law_unlike") rfl)
  obtain ⟨fd_law_turned, F_law_turned⟩ := c.def_ 25 (d := d_law_turned) rfl
  have g_law_turned := He.glo_ok X G (c.fact 25 (f := .glo "_law_turned") rfl)
  obtain ⟨fd_law_given, F_law_given⟩ := c.def_ 26 (d := d_law_given) rfl
  have g_law_given := He.glo_ok X G (c.fact 26 (f := .glo "_law_given") rfl)
  obtain ⟨fd_law_marks, F_law_marks⟩ := c.def_ 27 (d := d_law_marks) rfl
  have g_law_marks := He.glo_ok X G (c.fact 27 (f := .glo "_law_marks") rfl)
  obtain ⟨fd_law_put, F_law_put⟩ := c.def_ 28 (d := d_law_put) rfl
  have g_law_put := He.glo_ok X G (c.fact 28 (f := .glo "_law_put") rfl)
  obtain ⟨fd_law_three, F_law_three⟩ := c.def_ 29 (d := d_law_three) rfl
  have g_law_three := He.glo_ok X G (c.fact 29 (f := .glo "_law_three") rfl)
  obtain ⟨fd_law_rings, F_law_rings⟩ := c.def_ 30 (d := d_law_rings) rfl
  have g_law_rings := He.glo_ok X G (c.fact 30 (f := .glo "_law_rings") rfl)
  obtain ⟨fd_law_ends, F_law_ends⟩ := c.def_ 31 (d := d_law_ends) rfl
  have g_law_ends := He.glo_ok X G (c.fact 31 (f := .glo "_law_ends") rfl)
  obtain ⟨fd_law_counts, F_law_counts⟩ := c.def_ 32 (d := d_law_counts) rfl
  have g_law_counts := He.glo_ok X G (c.fact 32 (f := .glo "_law_counts") rfl)
  obtain ⟨fd_law, F_law⟩ := c.def_ 33 (d := d_law) rfl
  have g_law := He.glo_ok X G (c.fact 33 (f := .glo "law") rfl)
  obtain ⟨fd_Days_init, F_Days_init⟩ := c.def_ 34 (d := d_Days_init) rfl
  obtain ⟨fd_Days_has, F_Days_has⟩ := c.def_ 35 (d := d_Days_has) rfl
  obtain ⟨fd_Days_eq, F_Days_eq⟩ := c.def_ 36 (d := d_Days_eq) rfl
  have g_Days := He.glo_ok X G (c.fact 34 (f := .glo "Days") rfl)
  have z_all := He.free_ok X G (c.fact 35 (f := .free "all") rfl)
  have z_dict := He.free_ok X G (c.fact 36 (f := .free "dict") rfl)
  have z_divmod := He.free_ok X G (c.fact 37 (f := .free "divmod") rfl)
  have z_enumerate := He.free_ok X G (c.fact 38 (f := .free "enumerate") rfl)
  have z_int := He.free_ok X G (c.fact 39 (f := .free "int") rfl)
  have z_isinstance := He.free_ok X G (c.fact 40 (f := .free "isinstance") rfl)
  have z_len := He.free_ok X G (c.fact 41 (f := .free "len") rfl)
  have z_list := He.free_ok X G (c.fact 42 (f := .free "list") rfl)
  have z_max := He.free_ok X G (c.fact 43 (f := .free "max") rfl)
  have z_min := He.free_ok X G (c.fact 44 (f := .free "min") rfl)
  have z_range := He.free_ok X G (c.fact 45 (f := .free "range") rfl)
  have z_set := He.free_ok X G (c.fact 46 (f := .free "set") rfl)
  have z_sorted := He.free_ok X G (c.fact 47 (f := .free "sorted") rfl)
  have z_tuple := He.free_ok X G (c.fact 48 (f := .free "tuple") rfl)
  have z_type := He.free_ok X G (c.fact 49 (f := .free "type") rfl)
  obtain ⟨ti_MOST_PERIOD, gi_MOST_PERIOD⟩ := He.int_ok X G (c.fact 50 (f := .int "MOST_PERIOD" 5040) rfl)
  obtain ⟨ti__MOST_TURNED, gi__MOST_TURNED⟩ := He.int_ok X G (c.fact 51 (f := .int "_MOST_TURNED" 60) rfl)
  have m_lcm : mg "lcm" = some (.builtin "math.lcm") := blt_ok X G ce (by decide)
  have cC := dyC_ok x0
  have DC : DayC K (He.ga K "Days") := ⟨cC, noat_ok x1 "period" (by simp), noat_ok x1 "marks" (by simp), noat_ok x1 "turned" (by simp)⟩
  have M := mk_ok x2
  have Mh := meth_ok x3
  have hT := nilAt_ok x4
  have eC : EqC K (He.ga K "Days") (He.fAd K ("Days", some "__eq__")) := ⟨of_decide_eq_true x5, x6, of_decide_eq_true x7, of_decide_eq_true x8⟩
  have e := hfa.symm.trans g_law
  cases e
  refine ⟨fd_law, fun s v => FunD.bindsA (ps := ["_law_script"]) F_law (fun _ _ _ _ _ _ us hl => match us, hl with | [_], _ => rfl) s [v] rfl, fun base _ _ => ?_⟩
  have o_is_whole := ok_is_whole (P := P) (w := w) (mg := mg) (base := base) F_is_whole z_int z_type 
  have h_is_whole := has_of o_is_whole g_is_whole F_is_whole.kp (F_is_whole.bindsN (ps := ["thing"]) fun _ _ _ _ _ _ us hl => match us, hl with | [_], _ => rfl)
  have o_is_unlike_row := ok_is_unlike_row (P := P) (w := w) (mg := mg) (base := base) F_is_unlike_row z_all z_len z_list z_set z_tuple z_type h_is_whole 
  have h__is_unlike_row := has_of o_is_unlike_row g_is_unlike_row F_is_unlike_row.kp (F_is_unlike_row.bindsN (ps := ["thing"]) fun _ _ _ _ _ _ us hl => match us, hl with | [_], _ => rfl)
  have o_refuse_wrong := ok_refuse_wrong (P := P) (w := w) (mg := mg) (base := base) F_refuse_wrong z_all z_len h__is_unlike_row h_is_whole ⟨gi_MOST_PERIOD, ⟨_, rfl⟩⟩ ⟨gi__MOST_TURNED, ⟨_, rfl⟩⟩
  have h__refuse_wrong := has_of o_refuse_wrong g_refuse_wrong F_refuse_wrong.kp (F_refuse_wrong.bindsN (ps := ["period", "marks", "turned"]) fun _ _ _ _ _ _ us hl => match us, hl with | [_, _, _], _ => rfl)
  have o_pattern_of := ok_pattern_of (P := P) (w := w) (mg := mg) (base := base) F_pattern_of  
  have h__pattern_of := has_of o_pattern_of g_pattern_of F_pattern_of.kp (F_pattern_of.bindsN (ps := ["period", "marks"]) fun _ _ _ _ _ _ us hl => match us, hl with | [_, _], _ => rfl)
  have o_many_below := ok_many_below (P := P) (w := w) (mg := mg) (base := base) F_many_below z_len 
  have h__many_below := has_of o_many_below g_many_below F_many_below.kp (F_many_below.bindsN (ps := ["row", "number"]) fun _ _ _ _ _ _ us hl => match us, hl with | [_, _], _ => rfl)
  have o_is_in := ok_is_in (P := P) (w := w) (mg := mg) (base := base) F_is_in z_len h__many_below 
  have h__is_in := has_of o_is_in g_is_in F_is_in.kp (F_is_in.bindsN (ps := ["row", "number"]) fun _ _ _ _ _ _ us hl => match us, hl with | [_, _], _ => rfl)
  have Fi : FunD K "__init__" "Days.__init__" (defArgs s_Days_init) (defBody s_Days_init) (defScope s_Days_init) [] [("turned", .ref (kwdAt ("Days", some "__init__") "turned" K))] (He.fAd K ("Days", some "__init__")) fd_Days_init := F_Days_init
  have o_ini := ok_Days_init (P := P) (w := w) (mg := mg) (base := base) Fi z_sorted z_tuple h__pattern_of h__refuse_wrong DC
  obtain ⟨ds_ini, r_ini, b_ini⟩ := FunD.binds0 (ps := ["self", "period", "marks", "turned"]) Fi 3 (by simp) rfl (fun _ _ _ _ _ _ us ks l1 l2 => match us, l1, ks, l2 with | [_, _, _], _, [_], _ => ⟨_, _, _, _, _, _, rfl, rfl, rfl⟩)
  have hc_Days : HasC P w K mg base CX0 "Days" (He.ga K "Days") 5 ["self", "period", "marks", "turned"] (spIni K (He.ga K "Days") TIniD) [.ref (kwdAt ("Days", some "__init__") "turned" K)] := ⟨_, _, ds_ini, _, rfl, M, o_ini, g_Days, b_ini, r_ini⟩
  have hc_Days_k2_turned : HasCK P w K mg base CX0 "Days" (He.ga K "Days") 5 ["self", "period", "marks", "turned"] (spIni K (He.ga K "Days") TIniD) 2 ["turned"] gVapp := ⟨_, _, _, _, rfl, M, o_ini, g_Days, kbN (ps := ["self", "period", "marks", "turned"]) Fi 3 ["turned"] (fun us ws => us ++ ws) (fun r1 r2 => r1.append r2) (fun _ _ _ _ _ _ us ws l1 l2 => match us, l1, ws, l2 with | [_, _, _], _, [_], _ => rfl)⟩
  have o_has := ok_Days_has (P := P) (w := w) (mg := mg) (base := base) F_Days_has h__is_in DC
  have hm_has : HasM P w K mg base CX0 "has" (He.ga K "Days") 3 ["self", "day"] (spP K (THasD (He.ga K "Days"))) := ⟨_, _, DC.o.cls, Mh, o_has, (F_Days_has.bindsN (ps := ["self", "day"]) fun _ _ _ _ _ _ us hl => match us, hl with | [_, _], _ => rfl)⟩
  have hm_has_k_day : HasMK P w K mg base CX0 "has" (He.ga K "Days") 3 ["self", "day"] (spP K (THasD (He.ga K "Days"))) ["day"] gVapp := ⟨_, _, _, DC.o.cls, Mh, o_has, kbN (ps := ["self", "day"]) F_Days_has 1 ["day"] (fun us ws => us ++ ws) (fun r1 r2 => r1.append r2) (fun _ _ _ _ _ _ us ws l1 l2 => match us, l1, ws, l2 with | [_], _, [_], _ => rfl)⟩
  have o_eq := ok_Days_eq (P := P) (w := w) (mg := mg) (base := base) F_Days_eq z_isinstance g_Days DC
  have he_Days : HasE P w K mg base CX0 (He.ga K "Days") 1 (spP K (TEqD (He.ga K "Days"))) := ⟨⟨_, _, eC, o_eq, (F_Days_eq.bindsN (ps := ["self", "other"]) fun _ _ _ _ _ _ us hl => match us, hl with | [_, _], _ => rfl)⟩⟩
  have o_from_on := ok_from_on (P := P) (w := w) (mg := mg) (base := base) F_from_on h__many_below 
  have h__from_on := has_of o_from_on g_from_on F_from_on.kp (F_from_on.bindsN (ps := ["row", "number"]) fun _ _ _ _ _ _ us hl => match us, hl with | [_, _], _ => rfl)
  have o_regular_below := ok_regular_below (P := P) (w := w) (mg := mg) (base := base) F_regular_below z_divmod z_len h__many_below DC
  have h__regular_below := has_of o_regular_below g_regular_below F_regular_below.kp (F_regular_below.bindsN (ps := ["days", "day"]) fun _ _ _ _ _ _ us hl => match us, hl with | [_, _], _ => rfl)
  have o_count_days := ok_count_days (P := P) (w := w) (mg := mg) (base := base) F_count_days h__from_on h__regular_below hm_has DC
  have h_count_days := has_of o_count_days g_count_days F_count_days.kp (F_count_days.bindsN (ps := ["days", "one", "other"]) fun _ _ _ _ _ _ us hl => match us, hl with | [_, _, _], _ => rfl)
  have o_pattern := ok_pattern (P := P) (w := w) (mg := mg) (base := base) F_pattern h__pattern_of DC
  have h__pattern := has_of o_pattern g_pattern F_pattern.kp (F_pattern.bindsN (ps := ["days"]) fun _ _ _ _ _ _ us hl => match us, hl with | [_], _ => rfl)
  have o_told := ok_told (P := P) (w := w) (mg := mg) (base := base) F_told z_sorted z_tuple hc_Days DC hT
  have h__told := has_of o_told g_told F_told.kp (F_told.bindsN (ps := ["period", "marks", "turned"]) fun _ _ _ _ _ _ us hl => match us, hl with | [_, _, _], _ => rfl)
  have o_sign := ok_sign (P := P) (w := w) (mg := mg) (base := base) F_sign  
  have h__sign := has_of o_sign g_sign F_sign.kp (F_sign.bindsN (ps := ["is_in"]) fun _ _ _ _ _ _ us hl => match us, hl with | [_], _ => rfl)
  have o_joined := ok_joined (P := P) (w := w) (mg := mg) (base := base) F_joined m_lcm z_range z_set z_sorted h__pattern h__sign h__told hm_has DC ⟨gi_MOST_PERIOD, ⟨_, rfl⟩⟩
  have h__joined := has_of o_joined g_joined F_joined.kp (F_joined.bindsN (ps := ["one", "other", "kept"]) fun _ _ _ _ _ _ us hl => match us, hl with | [_, _, _], _ => rfl)
  have o_both := ok_both (P := P) (w := w) (mg := mg) (base := base) F_both h__joined 
  have h_both := has_of o_both g_both F_both.kp (F_both.bindsN (ps := ["one", "other"]) fun _ _ _ _ _ _ us hl => match us, hl with | [_, _], _ => rfl)
  have o_either := ok_either (P := P) (w := w) (mg := mg) (base := base) F_either h__joined 
  have h_either := has_of o_either g_either F_either.kp (F_either.bindsN (ps := ["one", "other"]) fun _ _ _ _ _ _ us hl => match us, hl with | [_, _], _ => rfl)
  have o_without := ok_without (P := P) (w := w) (mg := mg) (base := base) F_without h__joined 
  have h_without := has_of o_without g_without F_without.kp (F_without.bindsN (ps := ["one", "other"]) fun _ _ _ _ _ _ us hl => match us, hl with | [_, _], _ => rfl)
  have o_others := ok_others (P := P) (w := w) (mg := mg) (base := base) F_others z_range h__pattern h__told DC
  have h_others := has_of o_others g_others F_others.kp (F_others.bindsN (ps := ["days"]) fun _ _ _ _ _ _ us hl => match us, hl with | [_], _ => rfl)
  have o_moved := ok_moved (P := P) (w := w) (mg := mg) (base := base) F_moved h__told DC
  have h_moved := has_of o_moved g_moved F_moved.kp (F_moved.bindsN (ps := ["days", "by"]) fun _ _ _ _ _ _ us hl => match us, hl with | [_, _], _ => rfl)
  have o_all_days := ok_all_days (P := P) (w := w) (mg := mg) (base := base) F_all_days hc_Days DC hT
  have h_all_days := has_of o_all_days g_all_days F_all_days.kp (F_all_days.bindsN (ps := []) fun _ _ _ _ _ _ us hl => match us, hl with | [], _ => rfl)
  have o_no_days := ok_no_days (P := P) (w := w) (mg := mg) (base := base) F_no_days hc_Days DC hT
  have h_no_days := has_of o_no_days g_no_days F_no_days.kp (F_no_days.bindsN (ps := []) fun _ _ _ _ _ _ us hl => match us, hl with | [], _ => rfl)
  have o_law_reel := ok_law_reel (P := P) (w := w) (mg := mg) (base := base) F_law_reel z_len z_max 
  have h__law_reel := has_of o_law_reel g_law_reel F_law_reel.kp (F_law_reel.bindsN (ps := ["_law_script", "_law_k"]) fun _ _ _ _ _ _ us hl => match us, hl with | [_, _], _ => rfl)
  have o_law_draw := ok_law_draw (P := P) (w := w) (mg := mg) (base := base) F_law_draw  
  have h__law_draw := has_of o_law_draw g_law_draw F_law_draw.kp (F_law_draw.bindsN (ps := ["_law_reel_here", "_law_many"]) fun _ _ _ _ _ _ us hl => match us, hl with | [_, _], _ => rfl)
  have o_law_bits := ok_law_bits (P := P) (w := w) (mg := mg) (base := base) F_law_bits z_range h__law_draw 
  have h__law_bits := has_of o_law_bits g_law_bits F_law_bits.kp (F_law_bits.bindsN (ps := ["_law_reel_here", "_law_many"]) fun _ _ _ _ _ _ us hl => match us, hl with | [_, _], _ => rfl)
  have o_law_rests := ok_law_rests (P := P) (w := w) (mg := mg) (base := base) F_law_rests z_int z_len z_range h__law_bits h__law_draw 
  have h__law_rests := has_of o_law_rests g_law_rests F_law_rests.kp (F_law_rests.bindsN (ps := ["_law_reel_here"]) fun _ _ _ _ _ _ us hl => match us, hl with | [_], _ => rfl)
  have o_law_unlike := ok_law_unlike (P := P) (w := w) (mg := mg) (base := base) F_law_unlike z_dict z_list 
  have h__law_unlike := has_of o_law_unlike g_law_unlike F_law_unlike.kp (F_law_unlike.bindsN (ps := ["_law_some"]) fun _ _ _ _ _ _ us hl => match us, hl with | [_], _ => rfl)
  have o_law_turned := ok_law_turned (P := P) (w := w) (mg := mg) (base := base) F_law_turned z_int z_range h__law_draw h__law_unlike 
  have h__law_turned := has_of o_law_turned g_law_turned F_law_turned.kp (F_law_turned.bindsN (ps := ["_law_reel_here"]) fun _ _ _ _ _ _ us hl => match us, hl with | [_], _ => rfl)
  have o_law_given := ok_law_given (P := P) (w := w) (mg := mg) (base := base) F_law_given h__law_rests h__law_turned 
  have h__law_given := has_of o_law_given g_law_given F_law_given.kp (F_law_given.bindsN (ps := ["_law_reel_here"]) fun _ _ _ _ _ _ us hl => match us, hl with | [_], _ => rfl)
  have o_law_marks := ok_law_marks (P := P) (w := w) (mg := mg) (base := base) F_law_marks z_enumerate 
  have h__law_marks := has_of o_law_marks g_law_marks F_law_marks.kp (F_law_marks.bindsN (ps := ["_law_here"]) fun _ _ _ _ _ _ us hl => match us, hl with | [_], _ => rfl)
  have o_law_put := ok_law_put (P := P) (w := w) (mg := mg) (base := base) F_law_put z_len z_tuple hc_Days_k2_turned h__law_marks DC
  have h__law_put := has_of o_law_put g_law_put F_law_put.kp (F_law_put.bindsN (ps := ["_law_given_here"]) fun _ _ _ _ _ _ us hl => match us, hl with | [_], _ => rfl)
  have o_law_three := ok_law_three (P := P) (w := w) (mg := mg) (base := base) F_law_three z_len z_range h__law_draw h__law_given h__law_put 
  have h__law_three := has_of o_law_three g_law_three F_law_three.kp (F_law_three.bindsN (ps := ["_law_reel_here"]) fun _ _ _ _ _ _ us hl => match us, hl with | [_], _ => rfl)
  have o_law_rings := ok_law_rings (P := P) (w := w) (mg := mg) (base := base) F_law_rings he_Days h_both h_either h_others h_without 
  have h__law_rings := has_of o_law_rings g_law_rings F_law_rings.kp (F_law_rings.bindsN (ps := ["_law_a", "_law_b", "_law_c"]) fun _ _ _ _ _ _ us hl => match us, hl with | [_, _, _], _ => rfl)
  have o_law_ends := ok_law_ends (P := P) (w := w) (mg := mg) (base := base) F_law_ends he_Days h_all_days h_both h_either h_moved h_no_days h_others h_without DC
  have h__law_ends := has_of o_law_ends g_law_ends F_law_ends.kp (F_law_ends.bindsN (ps := ["_law_a", "_law_by"]) fun _ _ _ _ _ _ us hl => match us, hl with | [_, _], _ => rfl)
  have o_law_counts := ok_law_counts (P := P) (w := w) (mg := mg) (base := base) F_law_counts h_both h_count_days h_either h_moved h_others 
  have h__law_counts := has_of o_law_counts g_law_counts F_law_counts.kp (F_law_counts.bindsN (ps := ["_law_a", "_law_b", "_law_by", "_law_one", "_law_other"]) fun _ _ _ _ _ _ us hl => match us, hl with | [_, _, _, _, _], _ => rfl)
  exact ok_law (P := P) (w := w) (mg := mg) (base := base) F_law z_len z_max z_min z_range h__law_counts h__law_draw h__law_ends h__law_reel h__law_rings h__law_three (Cd := (He.ga K "Days"))
end DL
open PySem PySem.W PySem.Calls PyProof.Rows
set_option maxHeartbeats 0 in
theorem PySem.Challenge.cw_paymill_k18_whole_sets_of_days_holds : PySem.Challenge.rw_paymill_k18_whole_sets_of_days.Holds := by
  refine HH.look ?_
  refine HandSHeadRun.head_imp (r := OpenLaw.row PySem.Challenge.rw_paymill_k18_whole_sets_of_days) (q := view (OpenLaw.row PySem.Challenge.rw_paymill_k18_whole_sets_of_days).prog [49]) (H := DL.hk) (ob := DL.ob) (M := 20000) (loose := DL.loose) (d := HandSHeadRun.topDef (OpenLaw.row PySem.Challenge.rw_paymill_k18_whole_sets_of_days).prog 49) (kwd := []) DL.ob_eq
    DL.run (by kernel_rfl) (by kernel_rfl) (by kernel_rfl) (by rfl) (by first | assumption | decide +kernel) (by decide +kernel) ⟨rfl, rfl, rfl, rfl, rfl, by decide +kernel⟩ ?hw ?hc
  case hw => w_witness2
  case hc =>
    refine DL.walk_ofG (l := PySem.Challenge.rw_paymill_k18_whole_sets_of_days) (n := 63) (k := 10) (x := "_law_script") (CX := L2.CX0) rfl (by decide) (by kernel_rfl) ⟨rfl, by decide, by decide⟩ ?F (fun _ _ _ _ z => z)
    intro w mg fa h Y G hmg0
    obtain ⟨K, KX, c, ce⟩ := Y
    have hmg : mg ("law" : PySem.Str) = some (.ref fa) := by
      have e : (HandSHeadRun.topDef (OpenLaw.row PySem.Challenge.rw_paymill_k18_whole_sets_of_days).prog 49).name = ("law" : PySem.Str) := by kernel_rfl
      rw [← e]
      exact hmg0
    obtain ⟨fd, hb, hF⟩ := DL.facts (P := (PySem.Challenge.rw_paymill_k18_whole_sets_of_days).prog) (w := w) KX G hmg c ce
    exact ⟨K, fd, DL.spLaw K, KX, hb, fun H a ns hl _ hS => ⟨a, ns, rfl, hS, hl, fun _ => rfl⟩, hF⟩
