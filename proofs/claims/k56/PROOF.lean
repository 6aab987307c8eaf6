import PyProof.Rows.All
import Wide.All
import OpenK.AllK
import Wide.FinOn
import HandS.Words
import HandS.Defaults
import HandS.Head0
import HandS.Head1
import HandS.Head2
import HandS.Head3
import HandS.HeadEnd
import HandS.HeadHook1
import HandS.HeadHook2
import HandS.ExcIs
import HandS.MakeKw
import HandS.MakeKwOnly
import PyProof.ExcBaseAll.ZeroDivisionError
import HandS.ForMost
import HandS.ForExc
import HandS.Wide
import HandS.Gcd
import HandS.RaiseMore
import HandS.Iter
import HandS.More
import HandS.IsInst
import HandS.ExcOwn
import HandS.WordsExc
import KE.GoesEnum
import HandS.TupAny
import HandS.Style
import KE.KDictZip
import HandS.GenList
import HandS.DictTup
import HandS.Flow
import HandS.CallLocal
import HandS.CallSlots
import PySem.Challenge.RW_paymill_k56_taken_and_left
set_option Elab.async false
set_option linter.all false
set_option maxRecDepth 100000
set_option maxHeartbeats 4000000
/-! HR: what a head's run speaks of, by names of its own: it is run ahead of all else (memory) -/
namespace HH
open PySem PySem.Spec PyProof.Rows L2
abbrev AlG : Type := He.AlD × Bool
def bltB (K : PySem.W.Frag) (bs : List (Str × String)) : Bool := bs.all fun p => He.eqO (PySem.W.nsIn K mainGlobals p.1) (some (some (.builtin p.2)))
def obsX (n : Nat) (fa : List He.Fa) (fn : List He.DefD) (ex : PySem.W.Frag → Bool) (g : Addr → Option Obj) : AlG := (He.obsDG n fa fn g, ex (He.frG g (He.asD g n)))
def hookX (n : Nat) (fa : List He.Fa) (fn : List He.DefD) (ex : PySem.W.Frag → Bool) : PySem.W.Hook where
  α := AlG
  obs := fun s => obsX n fa fn ex s.heap.get?
  val := fun _ => (He.valD fn, true)
  says := fun _ h => ∃ K : PySem.W.Frag, K.In h ∧ He.SaysD fa fn K ∧ ex K = true
  of := fun _ _ e => ⟨_, He.frG_in, congrArg Prod.fst e, congrArg Prod.snd e⟩
  keeps := fun _ _ _ ⟨K, hK, c⟩ k => ⟨K, PySem.W.Frag.In.keeps hK k, c⟩
def excCB (K : PySem.W.Frag) (D : Addr) : Bool := decide (PySem.W.findIn K (.ref D) "__getattribute__" = some (some (.builtin "BaseException.__getattribute__"))) && (decide (PySem.W.findIn K (.ref D) "__getattr__" = some none) &&
  (decide (PySem.W.subIn K (.ref D) (.type "BaseException") = some true) && (PySem.W.hasDictIn K D && (decide (PySem.W.findIn K (.ref D) "__class__" = some (some (.builtin "object.__class__"))) &&
  (decide (PySem.W.specialIn K (.builtin "object.__class__") "__get__" = some (some (.builtin "getset_descriptor.__get__"))) && (decide (PySem.W.takesIn K (.builtin "object.__class__") = some true) && decide (PySem.W.mroIn K D (.type "object") = some true)))))))
def itA (K : PySem.W.Frag) (a : Addr) (i : Nat) : Addr := match K.lookup a with
  | some ⟨.type _, _, .seq its _, _⟩ => (match its.toList[i]? with
    | some (.ref b) => b
    | _ => a)
  | _ => a
def tupA (K : PySem.W.Frag) (a : Addr) (vs : List V) : Bool := match K.lookup a with
  | some ⟨.type c, _, .seq its _, _⟩ => decide (c = "tuple") && (decide (its.size ≤ sizeLine) && He.relAll vs its.toList)
  | _ => false
/-- a line of one knot, as the module holds it -/
def lnB1 (K : PySem.W.Frag) (x : Str) (a b c d e f : Int) : Bool :=
  tupA K (He.ga K x) [.ref (itA K (He.ga K x) 0), .ref (itA K (He.ga K x) 1)] && (tupA K (itA K (He.ga K x) 1) [.int e, .int f] &&
  (tupA K (itA K (He.ga K x) 0) [.ref (itA K (itA K (He.ga K x) 0) 0)] &&
  (tupA K (itA K (itA K (He.ga K x) 0) 0) [.ref (itA K (itA K (itA K (He.ga K x) 0) 0) 0), .ref (itA K (itA K (itA K (He.ga K x) 0) 0) 1)] &&
  (tupA K (itA K (itA K (itA K (He.ga K x) 0) 0) 0) [.int a, .int b] && tupA K (itA K (itA K (itA K (He.ga K x) 0) 0) 1) [.int c, .int d]))))
end HH

set_option Elab.async false
set_option linter.all false
set_option maxRecDepth 100000
set_option maxHeartbeats 4000000
namespace HH
open PySem PySem.Spec PyProof.Rows L2
def top (i : Nat) : Stmt := PySem.Challenge.pw_paymill_k56_taken_and_left.main.body.getD i (.Pass ⟨0, 0, 0, 0⟩)
abbrev s_law_pot : Stmt := top 56
abbrev s_law_take : Stmt := top 57
abbrev s_law_low : Stmt := top 58
abbrev s_part : Stmt := top 26
abbrev s_plus : Stmt := top 27
abbrev s_less : Stmt := top 28
abbrev s_times : Stmt := top 29
abbrev s_over : Stmt := top 30
abbrev s_is_less : Stmt := top 31
abbrev s_law_plus : Stmt := top 59
abbrev s_law_minus : Stmt := top 60
abbrev s_law_times : Stmt := top 61
abbrev s_law_below : Stmt := top 63
abbrev s_is_whole : Stmt := top 23
abbrev s_is_part : Stmt := top 24
abbrev s_is_amount : Stmt := top 25
abbrev s_is_rising : Stmt := top 37
abbrev s_slopes : Stmt := top 38
abbrev s_bends : Stmt := top 39
abbrev s_line_of : Stmt := top 33
abbrev s_slope_behind : Stmt := top 42
abbrev s_knot_no_later : Stmt := top 41
abbrev s_height : Stmt := top 43
abbrev s_y_at : Stmt := top 34
abbrev s_knot_xs : Stmt := top 40
abbrev s_heights : Stmt := top 44
abbrev s_both_heights : Stmt := top 45
abbrev s_merged : Stmt := top 46
abbrev s_sum_line : Stmt := top 35
abbrev s_is_band : Stmt := top 53
abbrev s_is_bands : Stmt := top 49
abbrev s_taken_line : Stmt := top 52
abbrev s_times_line : Stmt := top 36
abbrev s_left_line : Stmt := top 54
abbrev s_taken : Stmt := top 50
abbrev s_left : Stmt := top 51
abbrev s_law_bands : Stmt := top 64
abbrev s_law_tax : Stmt := top 65
abbrev s_law_total : Stmt := top 67
abbrev s_law_word : Stmt := top 68
abbrev s_law_told : Stmt := top 69
abbrev s_law_due : Stmt := top 70
abbrev s_law_right : Stmt := top 71
abbrev s_law_folded : Stmt := top 72
abbrev s_law : Stmt := top 73
def d_law_pot : He.DefD := ⟨("_law_pot", none), "_law_pot", "_law_pot", defArgs s_law_pot, defBody s_law_pot, defScope s_law_pot, [], []⟩
def d_law_take : He.DefD := ⟨("_law_take", none), "_law_take", "_law_take", defArgs s_law_take, defBody s_law_take, defScope s_law_take, [], []⟩
def d_law_low : He.DefD := ⟨("_law_low", none), "_law_low", "_law_low", defArgs s_law_low, defBody s_law_low, defScope s_law_low, [], []⟩
def d_part : He.DefD := ⟨("part", none), "part", "part", defArgs s_part, defBody s_part, defScope s_part, [.int 1], []⟩
def d_plus : He.DefD := ⟨("plus", none), "plus", "plus", defArgs s_plus, defBody s_plus, defScope s_plus, [], []⟩
def d_less : He.DefD := ⟨("less", none), "less", "less", defArgs s_less, defBody s_less, defScope s_less, [], []⟩
def d_times : He.DefD := ⟨("times", none), "times", "times", defArgs s_times, defBody s_times, defScope s_times, [], []⟩
def d_over : He.DefD := ⟨("over", none), "over", "over", defArgs s_over, defBody s_over, defScope s_over, [], []⟩
def d_is_less : He.DefD := ⟨("is_less", none), "is_less", "is_less", defArgs s_is_less, defBody s_is_less, defScope s_is_less, [], []⟩
def d_law_plus : He.DefD := ⟨("_law_plus", none), "_law_plus", "_law_plus", defArgs s_law_plus, defBody s_law_plus, defScope s_law_plus, [], []⟩
def d_law_minus : He.DefD := ⟨("_law_minus", none), "_law_minus", "_law_minus", defArgs s_law_minus, defBody s_law_minus, defScope s_law_minus, [], []⟩
def d_law_times : He.DefD := ⟨("_law_times", none), "_law_times", "_law_times", defArgs s_law_times, defBody s_law_times, defScope s_law_times, [], []⟩
def d_law_below : He.DefD := ⟨("_law_below", none), "_law_below", "_law_below", defArgs s_law_below, defBody s_law_below, defScope s_law_below, [], []⟩
def d_is_whole : He.DefD := ⟨("is_whole", none), "is_whole", "is_whole", defArgs s_is_whole, defBody s_is_whole, defScope s_is_whole, [], []⟩
def d_is_part : He.DefD := ⟨("is_part", none), "is_part", "is_part", defArgs s_is_part, defBody s_is_part, defScope s_is_part, [], []⟩
def d_is_amount : He.DefD := ⟨("is_amount", none), "is_amount", "is_amount", defArgs s_is_amount, defBody s_is_amount, defScope s_is_amount, [], []⟩
def d_is_rising : He.DefD := ⟨("_is_rising", none), "_is_rising", "_is_rising", defArgs s_is_rising, defBody s_is_rising, defScope s_is_rising, [], []⟩
def d_slopes : He.DefD := ⟨("_slopes", none), "_slopes", "_slopes", defArgs s_slopes, defBody s_slopes, defScope s_slopes, [], []⟩
def d_bends : He.DefD := ⟨("_bends", none), "_bends", "_bends", defArgs s_bends, defBody s_bends, defScope s_bends, [], []⟩
def d_line_of : He.DefD := ⟨("line_of", none), "line_of", "line_of", defArgs s_line_of, defBody s_line_of, defScope s_line_of, [], []⟩
def d_slope_behind : He.DefD := ⟨("_slope_behind", none), "_slope_behind", "_slope_behind", defArgs s_slope_behind, defBody s_slope_behind, defScope s_slope_behind, [], []⟩
def d_knot_no_later : He.DefD := ⟨("_knot_no_later", none), "_knot_no_later", "_knot_no_later", defArgs s_knot_no_later, defBody s_knot_no_later, defScope s_knot_no_later, [], []⟩
def d_height : He.DefD := ⟨("_height", none), "_height", "_height", defArgs s_height, defBody s_height, defScope s_height, [], []⟩
def d_y_at : He.DefD := ⟨("y_at", none), "y_at", "y_at", defArgs s_y_at, defBody s_y_at, defScope s_y_at, [], []⟩
def d_knot_xs : He.DefD := ⟨("_knot_xs", none), "_knot_xs", "_knot_xs", defArgs s_knot_xs, defBody s_knot_xs, defScope s_knot_xs, [], []⟩
def d_heights : He.DefD := ⟨("_heights", none), "_heights", "_heights", defArgs s_heights, defBody s_heights, defScope s_heights, [], []⟩
def d_both_heights : He.DefD := ⟨("_both_heights", none), "_both_heights", "_both_heights", defArgs s_both_heights, defBody s_both_heights, defScope s_both_heights, [], []⟩
def d_merged : He.DefD := ⟨("_merged", none), "_merged", "_merged", defArgs s_merged, defBody s_merged, defScope s_merged, [], []⟩
def d_sum_line : He.DefD := ⟨("sum_line", none), "sum_line", "sum_line", defArgs s_sum_line, defBody s_sum_line, defScope s_sum_line, [], []⟩
def d_is_band : He.DefD := ⟨("_is_band", none), "_is_band", "_is_band", defArgs s_is_band, defBody s_is_band, defScope s_is_band, [], []⟩
def d_is_bands : He.DefD := ⟨("is_bands", none), "is_bands", "is_bands", defArgs s_is_bands, defBody s_is_bands, defScope s_is_bands, [], []⟩
def d_taken_line : He.DefD := ⟨("taken_line", none), "taken_line", "taken_line", defArgs s_taken_line, defBody s_taken_line, defScope s_taken_line, [], []⟩
def d_times_line : He.DefD := ⟨("times_line", none), "times_line", "times_line", defArgs s_times_line, defBody s_times_line, defScope s_times_line, [], []⟩
def d_left_line : He.DefD := ⟨("_left_line", none), "_left_line", "_left_line", defArgs s_left_line, defBody s_left_line, defScope s_left_line, [], []⟩
def d_taken : He.DefD := ⟨("taken", none), "taken", "taken", defArgs s_taken, defBody s_taken, defScope s_taken, [], [("ahead", .glo "NOUGHT")]⟩
def d_left : He.DefD := ⟨("left", none), "left", "left", defArgs s_left, defBody s_left, defScope s_left, [], []⟩
def d_law_bands : He.DefD := ⟨("_law_bands", none), "_law_bands", "_law_bands", defArgs s_law_bands, defBody s_law_bands, defScope s_law_bands, [], []⟩
def d_law_tax : He.DefD := ⟨("_law_tax", none), "_law_tax", "_law_tax", defArgs s_law_tax, defBody s_law_tax, defScope s_law_tax, [], []⟩
def d_law_total : He.DefD := ⟨("_law_total", none), "_law_total", "_law_total", defArgs s_law_total, defBody s_law_total, defScope s_law_total, [], []⟩
def d_law_word : He.DefD := ⟨("_law_word", none), "_law_word", "_law_word", defArgs s_law_word, defBody s_law_word, defScope s_law_word, [], []⟩
def d_law_told : He.DefD := ⟨("_law_told", none), "_law_told", "_law_told", defArgs s_law_told, defBody s_law_told, defScope s_law_told, [], []⟩
def d_law_due : He.DefD := ⟨("_law_due", none), "_law_due", "_law_due", defArgs s_law_due, defBody s_law_due, defScope s_law_due, [], []⟩
def d_law_right : He.DefD := ⟨("_law_right", none), "_law_right", "_law_right", defArgs s_law_right, defBody s_law_right, defScope s_law_right, [], []⟩
def d_law_folded : He.DefD := ⟨("_law_folded", none), "_law_folded", "_law_folded", defArgs s_law_folded, defBody s_law_folded, defScope s_law_folded, [], []⟩
def d_law : He.DefD := ⟨("law", none), "law", "law", defArgs s_law, defBody s_law, defScope s_law, [], []⟩
def fn : List He.DefD := [d_law_pot, d_law_take, d_law_low, d_part, d_plus, d_less, d_times, d_over, d_is_less, d_law_plus, d_law_minus, d_law_times, d_law_below, d_is_whole, d_is_part, d_is_amount, d_is_rising, d_slopes, d_bends, d_line_of, d_slope_behind, d_knot_no_later, d_height, d_y_at, d_knot_xs, d_heights, d_both_heights, d_merged, d_sum_line, d_is_band, d_is_bands, d_taken_line, d_times_line, d_left_line, d_taken, d_left, d_law_bands, d_law_tax, d_law_total, d_law_word, d_law_told, d_law_due, d_law_right, d_law_folded, d_law]
def fa : List He.Fa := [.glo "_law_pot", .glo "_law_take", .glo "_law_low", .glo "part", .glo "plus", .glo "less", .glo "times", .glo "over", .glo "is_less", .glo "_law_plus", .glo "_law_minus", .glo "_law_times", .glo "_law_below", .glo "is_whole", .glo "is_part", .glo "is_amount", .glo "_is_rising", .glo "_slopes", .glo "_bends", .glo "line_of", .glo "_slope_behind", .glo "_knot_no_later", .glo "_height", .glo "y_at", .glo "_knot_xs", .glo "_heights", .glo "_both_heights", .glo "_merged", .glo "sum_line", .glo "_is_band", .glo "is_bands", .glo "taken_line", .glo "times_line", .glo "_left_line", .glo "taken", .glo "left", .glo "_law_bands", .glo "_law_tax", .glo "_law_total", .glo "_law_word", .glo "_law_told", .glo "_law_due", .glo "_law_right", .glo "_law_folded", .glo "law", .glo "NoAmount", .glo "NoLine", .glo "NoTable", .glo "NoDays", .glo "NoDeed", .glo "NoFold", .glo "NoLeave", .glo "NoPot", .glo "NoRule", .glo "NoStretch", .glo "NoTelling", .glo "NoText", .glo "NoCut", .glo "NoName", .glo "NoNumber", .glo "NoPart", .glo "TooLong", .glo "PayError", .glo "NOUGHT", .glo "ONE", .glo "_ALL_LEFT", .free "ValueError", .free "abs", .free "all", .free "enumerate", .free "int", .free "isinstance", .free "len", .free "list", .free "max", .free "min", .free "range", .free "repr", .free "tuple", .free "type", .free "zip"]
def bs : List (Str × String) := [("gcd", "math.gcd")]
def ex (K : PySem.W.Frag) : Bool := bltB K bs && (PySem.W.excIn K (He.ga K "NoAmount") [.type "ValueError", .type "Exception", .type "BaseException", .type "object"] "ValueError.__new__" && (PySem.W.keepIn K (.ref (He.ga K "NoAmount")) && (decide (PySem.W.subIn K (.ref (He.ga K "NoAmount")) (.type "BaseException") = some true) && decide (PySem.W.typeIn K (.ref (He.ga K "NoAmount")) = some (.type "type"))))) && decide (PySem.W.exmOne K (.ref (He.ga K "NoAmount")) (.ref (He.ga K "PayError")) = some true) && He.tupB K "NOUGHT" [.int 0, .int 1] && He.tupB K "ONE" [.int 1, .int 1] && excCB K (He.ga K "NoAmount") && decide (PySem.W.kitAny K (.ref (He.ga K "NoAmount")) ([(He.ga K "NoDays"), (He.ga K "NoDeed"), (He.ga K "NoFold"), (He.ga K "NoLeave"), (He.ga K "NoPot"), (He.ga K "NoRule"), (He.ga K "NoStretch"), (He.ga K "NoTelling"), (He.ga K "NoText")].map Value.ref) = some false) && decide (PySem.W.kitAny K (.ref (He.ga K "NoAmount")) ([(He.ga K "NoCut"), (He.ga K "NoName"), (He.ga K "NoNumber"), (He.ga K "NoPart"), (He.ga K "TooLong")].map Value.ref) = some false) && decide (PySem.W.kitOne K (.ref (He.ga K "NoAmount")) (.type "ValueError") = some true) && decide (PySem.W.kitOne K (.ref (He.ga K "NoAmount")) (.ref (He.ga K "NoAmount")) = some true) && decide (PySem.W.kitOne K (.ref (He.ga K "NoAmount")) (.ref (He.ga K "NoLine")) = some false) && decide (PySem.W.kitOne K (.ref (He.ga K "NoAmount")) (.ref (He.ga K "NoTable")) = some false) && lnB1 K "_ALL_LEFT" 0 1 0 1 1 1
abbrev R : PySem.W.OpenRow := PySem.W.OpenLaw.row PySem.Challenge.rw_paymill_k56_taken_and_left
abbrev hk : PySem.W.Hook := hookX 4 fa fn ex
def ob (s : PySem.W.SharedT) : AlG := obsX 4 fa fn ex (HandSHeadRun.getT s)
def loose : List Str := (["__name__", "NOUGHT", "ONE", "_ALL_LEFT", "PayError", "NoAmount", "NoLine", "NoDays", "NoRule", "NoTelling", "NoStretch", "NoTable", "NoPot", "NoFold", "NoLeave", "NoDeed", "NoText", "NoPart", "NoName", "NoNumber", "TooLong", "NoCut", "is_whole", "is_part", "is_amount", "part", "plus", "less", "times", "over"] : List Str) ++ (["is_less", "line_of", "y_at", "sum_line", "times_line", "_is_rising", "_slopes", "_bends", "_knot_xs", "_knot_no_later", "_slope_behind", "_height", "_heights", "_both_heights", "_merged", "is_bands", "taken", "left", "taken_line", "_is_band", "_left_line", "_law_pot", "_law_take", "_law_low", "_law_plus", "_law_minus", "_law_times", "_law_by", "_law_below", "_law_bands"] : List Str) ++ (["_law_tax", "_law_normal", "_law_total", "_law_word", "_law_told", "_law_due", "_law_right", "_law_folded"] : List Str)
theorem mapP {α β γ : Type} {o : Option α} {f : α → β} {g : α → γ} {b : β} {c : γ} (h1 : o.map f = some b) (h2 : o.map g = some c) : o.map (fun x => (f x, g x)) = some (b, c) := by
  cases o with
  | none => cases h1
  | some x =>
    have e1 : f x = b := Option.some.inj h1
    have e2 : g x = c := Option.some.inj h2
    show some (f x, g x) = some (b, c)
    rw [e1, e2]
open HandSHeadRun PySem.W
theorem runA (w : World) : (wholeF (fun p => stepQ (denQ tabQ) p w) fenceQ 20000 R.prog).map (fun x => looksF R.prog x.1.heap x.2.abs) = some true := by kernel_rfl
theorem runS (w : World) : (wholeF (fun p => stepQ (denQ tabQ) p w) fenceQ 20000 R.prog).map (fun x => seenQ (PySem.W.view R.prog [0, 73]) loose (importedModules R.prog.main.body) (fun s => xlAt (PySem.W.view R.prog [0, 73]) [] s && recOk R.toRowW.records s) x.2.abs) = some (openGood (PySem.W.view R.prog [0, 73]) loose) := by kernel_rfl
theorem runO1 (w : World) : (wholeF (fun p => stepQ (denQ tabQ) p w) fenceQ 20000 R.prog).map (fun x => He.obsDG 4 fa fn (getT x.2)) = some (He.valD fn) := by kernel_rfl
theorem runO2 (w : World) : (wholeF (fun p => stepQ (denQ tabQ) p w) fenceQ 20000 R.prog).map (fun x => ex (He.frG (getT x.2) (He.asD (getT x.2) 4))) = some true := by kernel_rfl
theorem run (w : World) : HandSHeadRun.RunEqI R (PySem.W.view R.prog [0, 73]) hk ob 20000 loose w := mapP (runA w) (mapP (runS w) (mapP (runO1 w) (runO2 w)))
end HH

set_option Elab.async false
set_option linter.all false
set_option maxRecDepth 100000
set_option maxHeartbeats 2000000
/-! DL: readings walked over data (PyData) in the place of values and heaps -/
namespace DL
open PySem L2

abbrev Av := Addr → Bool
/-- the heap without what is avoided -/
def wo (N : Av) (H : Hp) : Hp := fun b => if N b then none else H b
theorem wo_in {N : Av} {H : Hp} {b : Addr} (h : N b = false) : wo N H b = H b := by unfold wo; rw [h]; rfl
theorem wo_out {N : Av} {H : Hp} {b : Addr} (h : N b = true) : wo N H b = none := by unfold wo; rw [h]; rfl
theorem wo_some {N : Av} {H : Hp} {b : Addr} {o : HO} (h : wo N H b = some o) : N b = false ∧ H b = some o := by
  cases e : N b with
  | true => rw [wo_out e] at h; cases h
  | false => rw [wo_in e] at h; exact ⟨rfl, h⟩
/-- all but the avoided stays -/
def Keep (N : Av) (H H' : Hp) : Prop := ∀ b o, N b = false → H b = some o → H' b = some o
theorem Keep.refl {N : Av} {H : Hp} : Keep N H H := fun _ _ _ h => h
theorem Keep.trans {N : Av} {H H1 H2 : Hp} (a : Keep N H H1) (b : Keep N H1 H2) : Keep N H H2 := fun x o n h => b x o n (a x o n h)
theorem Keep.of {N : Av} {H H' : Hp} (a : Same H H') : Keep N H H' := fun b o _ h => a b o h
theorem Keep.wo {N : Av} {H H' : Hp} (a : Keep N H H') : Same (wo N H) (wo N H') := fun b o h => by
  obtain ⟨n, h⟩ := wo_some h
  rw [wo_in n]; exact a b o n h
def Le (N N' : Av) : Prop := ∀ b, N b = true → N' b = true
theorem Le.refl {N : Av} : Le N N := fun _ h => h
theorem Le.wo {N N' : Av} {H : Hp} (a : Le N N') : Same (wo N' H) (wo N H) := fun b o h => by
  obtain ⟨n, h⟩ := wo_some h
  have : N b = false := by
    cases e : N b with
    | false => rfl
    | true => rw [a b e] at n; cases n
  rw [wo_in this]; exact h
theorem Same.wo1 {N : Av} {H : Hp} : Same (DL.wo N H) H := fun b o h => (wo_some h).2
theorem same_t {K : PySem.W.Frag} {H H' : Hp} {a : Addr} {xs : List V} (e : Same H H') (h : SqT K H a xs) : SqT K H' a xs := by
  rcases h with (h | ⟨o, h⟩) | h
  · exact .inl (.inl (e _ _ h))
  · exact .inl (.inr ⟨o, e _ _ h⟩)
  · exact .inr h
theorem same_rd {H H' : Hp} {a : Addr} {u : HO} (e : Same H H') (h : Rd H a u) : Rd H' a u := by
  rcases h with h | ⟨o, h⟩
  · exact .inl (e _ _ h)
  · exact .inr ⟨o, e _ _ h⟩
mutual
/-- a value is a datum: lists tracked (or locked), tuples tracked, locked or the written part's -/
inductive Dt (K : PySem.W.Frag) (H : Hp) : V → PyData → Prop
  | non : Dt K H .non .none
  | bl (b : Bool) : Dt K H (.bl b) (.bool b)
  | int (i : Int) : Dt K H (.int i) (.int i)
  | str (x : Str) : Dt K H (.str x) (.str x)
  | lst {a : Addr} {xs : List V} {ds : List PyData} (h : Rd H a (.lst xs)) (t : DtAll K H xs ds) : Dt K H (.ref a) (.list ds)
  | tup {a : Addr} {xs : List V} {ds : List PyData} (h : SqT K H a xs) (t : DtAll K H xs ds) : Dt K H (.ref a) (.tuple ds)
  | dct {a : Addr} (h : H a = some (.dK [])) : Dt K H (.ref a) (.dict [])
inductive DtAll (K : PySem.W.Frag) (H : Hp) : List V → List PyData → Prop
  | nil : DtAll K H [] []
  | cons {v : V} {vs : List V} {d : PyData} {ds : List PyData} (h : Dt K H v d) (t : DtAll K H vs ds) : DtAll K H (v :: vs) (d :: ds)
end
mutual
theorem dp_mono {K : PySem.W.Frag} {H H' : Hp} (e : Same H H') : ∀ (d : PyData) (v : V), Dt K H v d → Dt K H' v d
  | .none, _, h => by cases h; exact .non
  | .bool b, _, h => by cases h; exact .bl b
  | .int i, _, h => by cases h; exact .int i
  | .str x, _, h => by cases h; exact .str x
  | .list ds, _, h => by
    cases h with
    | lst hs ha => exact .lst (same_rd e hs) (dpall_mono e ds _ ha)
  | .tuple ds, _, h => by
    cases h with
    | tup hs ha => exact .tup (same_t e hs) (dpall_mono e ds _ ha)
  | .dict _, _, h => by
    cases h with
    | dct h => exact .dct (e _ _ h)
theorem dpall_mono {K : PySem.W.Frag} {H H' : Hp} (e : Same H H') : ∀ (ds : List PyData) (vs : List V), DtAll K H vs ds → DtAll K H' vs ds
  | [], _, h => by cases h; exact .nil
  | d :: ds, _, h => by
    cases h with
    | cons h1 h2 => exact .cons (dp_mono e d _ h1) (dpall_mono e ds _ h2)
end
mutual
theorem dt_dp {K : PySem.W.Frag} {H : Hp} : ∀ (d : PyData) (v : V), d.hasDict = false → Dt K H v d → Dp K H v d
  | .none, _, _, h => by cases h; exact .non
  | .bool b, _, _, h => by cases h; exact .bl b
  | .int i, _, _, h => by cases h; exact .int i
  | .str x, _, _, h => by cases h; exact .str x
  | .list ds, _, n, h => by
    cases h with
    | lst hs ha => exact .lst (.inl hs) (dtall_dp ds _ (by simpa [PyData.hasDict] using n) ha)
  | .tuple ds, _, n, h => by
    cases h with
    | tup hs ha => exact .tup hs (dtall_dp ds _ (by simpa [PyData.hasDict] using n) ha)
  | .dict _, _, n, h => by simp [PyData.hasDict] at n
theorem dtall_dp {K : PySem.W.Frag} {H : Hp} : ∀ (ds : List PyData) (vs : List V), PyData.hasDictAll ds = false → DtAll K H vs ds → DpAll K H vs ds
  | [], _, _, h => by cases h; exact .nil
  | d :: ds, _, n, h => by
    have n' : d.hasDict = false ∧ PyData.hasDictAll ds = false := by simpa [PyData.hasDictAll] using n
    cases h with
    | cons h1 h2 => exact .cons (dt_dp d _ n'.1 h1) (dtall_dp ds _ n'.2 h2)
end
mutual
theorem lay_nd : ∀ (d : PyData), d.canLay0 = true → d.hasDict = false
  | .none, _ => rfl
  | .bool _, _ => rfl
  | .int _, _ => rfl
  | .str _, _ => rfl
  | .list ds, h => by
    have := lay_nd_all ds (by simpa [PyData.canLay0] using h)
    simpa [PyData.hasDict] using this
  | .tuple ds, h => by
    have := lay_nd_all ds (by simpa [PyData.canLay0] using h)
    simpa [PyData.hasDict] using this
  | .dict _, h => by simp [PyData.canLay0] at h
theorem lay_nd_all : ∀ (ds : List PyData), PyData.canLayAll0 ds = true → PyData.hasDictAll ds = false
  | [], _ => rfl
  | d :: ds, h => by
    have h' : d.canLay0 = true ∧ PyData.canLayAll0 ds = true := by simpa [PyData.canLayAll0] using h
    simp [PyData.hasDictAll, lay_nd d h'.1, lay_nd_all ds h'.2]
end
theorem shaped_nd {d : PyData} (h : SeqAt.shaped d = true) : d.hasDict = false := lay_nd d (SeqAt.canLay_of_shaped h)
section
variable {K : PySem.W.Frag} {N N' : Av} {H H' : Hp} {v : V} {vs ws : List V} {d : PyData} {ds es : List PyData}
/-- v is the data d, none of its objects avoided -/
def Dq (K : PySem.W.Frag) (N : Av) (H : Hp) (v : V) (d : PyData) : Prop := Dt K (wo N H) v d
def DqAll (K : PySem.W.Frag) (N : Av) (H : Hp) (vs : List V) (ds : List PyData) : Prop := DtAll K (wo N H) vs ds
theorem Dq.keep (h : Dq K N H v d) (k : Keep N H H') : Dq K N H' v d := dp_mono k.wo d v h
theorem DqAll.keep (h : DqAll K N H vs ds) (k : Keep N H H') : DqAll K N H' vs ds := dpall_mono k.wo ds vs h
theorem Dq.le (h : Dq K N' H v d) (k : Le N N') : Dq K N H v d := dp_mono k.wo d v h
theorem DqAll.le (h : DqAll K N' H vs ds) (k : Le N N') : DqAll K N H vs ds := dpall_mono k.wo ds vs h
theorem Dq.dt (h : Dq K N H v d) : Dt K H v d := dp_mono Same.wo1 d v h
theorem Dq.dp (h : Dq K N H v d) (n : d.hasDict = false) : Dp K H v d := dt_dp d v n h.dt
theorem DqAll.len : ∀ {vs : List V} {ds : List PyData}, DqAll K N H vs ds → vs.length = ds.length := by
  intro vs ds h
  induction vs generalizing ds with
  | nil => cases h; rfl
  | cons v vs ih =>
    cases h with
    | cons h1 h2 => exact congrArg (· + 1) (ih h2)
theorem DqAll.nil : DqAll K N H [] [] := DtAll.nil
theorem DqAll.cons (h : Dq K N H v d) (t : DqAll K N H vs ds) : DqAll K N H (v :: vs) (d :: ds) := DtAll.cons h t
theorem DqAll.append : ∀ {vs : List V} {ds : List PyData}, DqAll K N H vs ds → DqAll K N H ws es → DqAll K N H (vs ++ ws) (ds ++ es) := by
  intro vs ds h t
  induction vs generalizing ds with
  | nil => cases h; exact t
  | cons v vs ih =>
    cases h with
    | cons h1 h2 => exact DqAll.cons h1 (ih h2)
theorem DqAll.get : ∀ {vs : List V} {ds : List PyData} {i : Nat} {d : PyData}, DqAll K N H vs ds → ds[i]? = some d → ∃ v, vs[i]? = some v ∧ Dq K N H v d := by
  intro vs ds i d h e
  induction vs generalizing ds i with
  | nil => cases h; simp at e
  | cons v vs ih =>
    cases h with
    | cons h1 h2 =>
      cases i with
      | zero => simp at e; subst e; exact ⟨v, rfl, h1⟩
      | succ i => obtain ⟨u, h3, h4⟩ := ih h2 (by simpa using e); exact ⟨u, by simpa using h3, h4⟩
theorem DqAll.take : ∀ {vs : List V} {ds : List PyData} (n : Nat), DqAll K N H vs ds → DqAll K N H (vs.take n) (ds.take n) := by
  intro vs ds n h
  induction vs generalizing ds n with
  | nil => cases h; simp; exact DqAll.nil
  | cons v vs ih =>
    cases h with
    | cons h1 h2 =>
      cases n with
      | zero => exact DqAll.nil
      | succ n => exact DqAll.cons h1 (ih n h2)
theorem DqAll.drop : ∀ {vs : List V} {ds : List PyData} (n : Nat), DqAll K N H vs ds → DqAll K N H (vs.drop n) (ds.drop n) := by
  intro vs ds n h
  induction vs generalizing ds n with
  | nil => cases h; simp; exact DqAll.nil
  | cons v vs ih =>
    cases h with
    | cons h1 h2 =>
      cases n with
      | zero => exact DqAll.cons h1 h2
      | succ n => exact ih n h2
theorem DqAll.ints {ns : List Int} : DqAll K N H (ns.map V.int) (ns.map PyData.int) := by
  induction ns with
  | nil => exact DqAll.nil
  | cons n ns ih => exact DqAll.cons (Dt.int n) ih
theorem DqAll.of_ints : ∀ {vs : List V} {ns : List Int}, DqAll K N H vs (ns.map PyData.int) → vs = ns.map V.int := by
  intro vs ns h
  induction ns generalizing vs with
  | nil => cases h; rfl
  | cons n ns ih =>
    cases h with
    | cons h1 h2 => cases h1; rw [ih h2]; rfl
/-- a fresh address is avoided by nobody -/
theorem fresh_av (hN : ∀ b, N b = true → H b ≠ none) {p : Addr} (hp : H p = none) : N p = false := by
  cases e : N p with
  | false => rfl
  | true => exact absurd hp (hN p e)
theorem Dq.tup {p : Addr} {xs : List V} (np : N p = false) (hp : H p = some (.tup xs)) (h : DqAll K N H xs ds) : Dq K N H (.ref p) (.tuple ds) :=
  Dt.tup (.inl (.inl (by rw [wo_in np]; exact hp))) h
theorem Dq.lst {p : Addr} {xs : List V} (np : N p = false) (hp : H p = some (.lst xs)) (h : DqAll K N H xs ds) : Dq K N H (.ref p) (.list ds) :=
  Dt.lst (.inl (by rw [wo_in np]; exact hp)) h
theorem Dq.tup_inv (h : Dq K N H v (.tuple ds)) : ∃ p xs, v = .ref p ∧ SqT K (wo N H) p xs ∧ SqT K H p xs ∧ DqAll K N H xs ds := by
  cases h with
  | tup hs ha => exact ⟨_, _, rfl, hs, same_t Same.wo1 hs, ha⟩
theorem Dq.lst_inv (h : Dq K N H v (.list ds)) : ∃ p xs, v = .ref p ∧ Rd (wo N H) p (.lst xs) ∧ Rd H p (.lst xs) ∧ DqAll K N H xs ds := by
  cases h with
  | lst hs ha => exact ⟨_, _, rfl, hs, same_rd Same.wo1 hs, ha⟩
theorem Dq.int_inv {i : Int} (h : Dq K N H v (.int i)) : v = .int i := by cases h; rfl
theorem Dq.bool_inv {i : Bool} (h : Dq K N H v (.bool i)) : v = .bl i := by cases h; rfl
theorem same_new {p : Addr} (h : H p = none) (o : HO) : Same H (upd H p o) := fun b u q => by rw [upd_ne (ne_of_none q h)]; exact q
end
end DL

set_option Elab.async false
set_option linter.all false
set_option maxRecDepth 100000
set_option maxHeartbeats 2000000
namespace DL
open PySem L2

/-- a thing that changes in its footprint alone, with a bound that a call may raise -/
structure Stt where
  a : Addr
  fp : Av
  ok : Hp → Nat → Prop
  loc : ∀ H H' B, (∀ b, fp b = true → H' b = H b) → ok H B → ok H' B
  trk : ∀ H B, ok H B → ∀ b, fp b = true → H b ≠ none
/-- none -/
def S0 : Stt := ⟨0, fun _ => false, fun _ _ => False, fun _ _ _ _ h => h, fun _ _ h => h.elim⟩

inductive Sl where
  | unk
  | dat (d : PyData)
  | own (ds : List PyData)
  | sto (B : Nat)
  | scr (ns : List Int)
abbrev Rho := List Sl
/-- what stands beside the names: a value on the way, a list that a comprehension fills -/
inductive Hd where
  | dat (v : V) (d : PyData)
  | own (p : Addr) (ds : List PyData)
def HdOk (K : PySem.W.Frag) (S : Stt) (H0 : Hp) (N0 N : Av) (H : Hp) : Hd → Prop
  | .dat v d => Dq K N H v d
  | .own p ds => ∃ xs, N p = true ∧ S.fp p = false ∧ N0 p = false ∧ H0 p = none ∧ H p = some (.lst xs) ∧ DqAll K N H xs ds

def SlOk (K : PySem.W.Frag) (S : Stt) (H0 : Hp) (N0 N : Av) (σ : L2.St) (H : Hp) (i : Nat) : Sl → Prop
  | .unk => True
  | .dat d => ∃ v, σ[i]? = some (some v) ∧ Dq K N H v d
  | .own ds => ∃ p xs, σ[i]? = some (some (.ref p)) ∧ N p = true ∧ S.fp p = false ∧ N0 p = false ∧ H0 p = none ∧ H p = some (.lst xs) ∧ DqAll K N H xs ds
  | .sto B => σ[i]? = some (some (.ref S.a)) ∧ S.ok H B
  | .scr ns => ∃ a, σ[i]? = some (some (.ref a)) ∧ SqL K (wo N H) a (ns.map V.int)

structure EnvD (K : PySem.W.Frag) (S : Stt) (H0 : Hp) (N0 : Av) (Z : List Hd) (N : Av) (σ : L2.St) (H : Hp) (ρ : Rho) : Prop where
  keep : ∀ b o, S.fp b = false → H0 b = some o → H b = some o
  base : Le N0 N
  trk : ∀ b, N b = true → H b ≠ none
  sub : Le S.fp N
  slot : ∀ (i : Nat) (s : Sl), ρ[i]? = some s → SlOk K S H0 N0 N σ H i s
  len : ρ.length = σ.length
  hid : ∀ z, z ∈ Z → HdOk K S H0 N0 N H z
  injH : ∀ (i : Nat) (di dj : List PyData) (p : Addr), ρ[i]? = some (Sl.own di) → σ[i]? = some (some (V.ref p)) → Hd.own p dj ∈ Z → False
  injZ : ∀ (i j : Nat) (di dj : List PyData) (p : Addr), Z[i]? = some (Hd.own p di) → Z[j]? = some (Hd.own p dj) → i = j
  inj : ∀ (i j : Nat) (di dj : List PyData) (p : Addr), ρ[i]? = some (Sl.own di) → ρ[j]? = some (Sl.own dj) → σ[i]? = some (some (V.ref p)) → σ[j]? = some (some (V.ref p)) → i = j

def WD (K : PySem.W.Frag) (S : Stt) (te : TE) (ρ : Rho) (Φ : PyData → Rho → Prop) : Prop :=
  ∀ H0 N0 Z N σ H, EnvD K S H0 N0 Z N σ H ρ → ∀ Q : VK, (∀ v d ρ' H', Φ d ρ' → EnvD K S H0 N0 Z N σ H' ρ' → Keep N H H' → Dq K N H' v d → Q v H') → te σ H Q
def WA (K : PySem.W.Frag) (S : Stt) (ta : TA) (ρ : Rho) (Φ : List PyData → Rho → Prop) : Prop :=
  ∀ H0 N0 Z N σ H, EnvD K S H0 N0 Z N σ H ρ → ∀ Q : List V → Hp → Prop, (∀ vs ds ρ' H', Φ ds ρ' → EnvD K S H0 N0 Z N σ H' ρ' → Keep N H H' → DqAll K N H' vs ds → Q vs H') → ta σ H Q
def WT (K : PySem.W.Frag) (S : Stt) (tt : TT) (ρ : Rho) (Φ : Bool → Rho → Prop) : Prop :=
  ∀ H0 N0 Z N σ H, EnvD K S H0 N0 Z N σ H ρ → ∀ Q : Bool → Hp → Prop, (∀ b ρ' H', Φ b ρ' → EnvD K S H0 N0 Z N σ H' ρ' → Keep N H H' → Q b H') → tt σ H Q
/-- two-place operations on data, calls on data -/
def DO (K : PySem.W.Frag) (r : R2) (x y : PyData) (Ψ : PyData → Prop) : Prop :=
  ∀ (N : Av) (H : Hp), (∀ b, N b = true → H b ≠ none) → ∀ u w, Dq K N H u x → Dq K N H w y → ∀ Q : VK, (∀ v d H', Ψ d → Same H H' → Dq K N H' v d → Q v H') → r u w H Q
def DU (K : PySem.W.Frag) (r : V → Hp → VK → Prop) (x : PyData) (Ψ : PyData → Prop) : Prop :=
  ∀ (N : Av) (H : Hp), (∀ b, N b = true → H b ≠ none) → ∀ u, Dq K N H u x → ∀ Q : VK, (∀ v d H', Ψ d → Same H H' → Dq K N H' v d → Q v H') → r u H Q
def DC (K : PySem.W.Frag) (r : List V → Hp → VK → Prop) (xs : List PyData) (Ψ : PyData → Prop) : Prop :=
  ∀ (N : Av) (H : Hp), (∀ b, N b = true → H b ≠ none) → ∀ us, DqAll K N H us xs → ∀ Q : VK, (∀ v d H', Ψ d → Same H H' → Dq K N H' v d → Q v H') → r us H Q

/-- what is wanted behind a statement -/
structure DE where
  nx : Rho → Prop
  rt : PyData → Rho → Prop
  bk : Rho → Prop := fun _ => False
  ct : Rho → Prop := fun _ => False
structure Meets (K : PySem.W.Frag) (S : Stt) (H0 : Hp) (N0 : Av) (Z : List Hd) (En : DE) (D : Ends) : Prop where
  nx : ∀ N σ H ρ, En.nx ρ → EnvD K S H0 N0 Z N σ H ρ → D.nx σ H
  rt : ∀ N σ H ρ v d, En.rt d ρ → EnvD K S H0 N0 Z N σ H ρ → Dq K N0 H v d → D.rt v H
  bk : ∀ N σ H ρ, En.bk ρ → EnvD K S H0 N0 Z N σ H ρ → D.bk σ H
  ct : ∀ N σ H ρ, En.ct ρ → EnvD K S H0 N0 Z N σ H ρ → D.ct σ H
def WS (K : PySem.W.Frag) (S : Stt) (ts : TS) (ρ : Rho) (En : DE) : Prop :=
  ∀ H0 N0 Z N σ H D, EnvD K S H0 N0 Z N σ H ρ → Meets K S H0 N0 Z En D → ts D σ H

section
variable {K : PySem.W.Frag} {S : Stt} {H0 : Hp} {N0 : Av} {Z : List Hd} {N : Av} {σ : L2.St} {H H' : Hp} {ρ : Rho} {Φ : PyData → Rho → Prop}

theorem SlOk.ext (hs : Le S.fp N) (ht : ∀ b, N b = true → H b ≠ none) (e : Same H H') : ∀ {s : Sl} {i : Nat}, SlOk K S H0 N0 N σ H i s → SlOk K S H0 N0 N σ H' i s
  | .unk, _, h => h
  | .dat d, _, ⟨v, h1, h2⟩ => ⟨v, h1, h2.keep (Keep.of e)⟩
  | .own ds, _, ⟨p, xs, h1, h2, h3, h4, h5, h6, h7⟩ => ⟨p, xs, h1, h2, h3, h4, h5, e _ _ h6, h7.keep (Keep.of e)⟩
  | .sto B, _, ⟨h1, h2⟩ => ⟨h1, S.loc H H' B (fun b hb => by
      cases q : H b with
      | none => exact absurd q (ht b (hs b hb))
      | some o => exact e b o q) h2⟩
  | .scr ns, _, ⟨a, h1, h2⟩ => ⟨a, h1, (Keep.of e).wo.seq h2⟩
theorem HdOk.ext (e : Same H H') : ∀ {z : Hd}, HdOk K S H0 N0 N H z → HdOk K S H0 N0 N H' z
  | .dat v d, h => Dq.keep h (Keep.of e)
  | .own p ds, ⟨xs, h2, h3, h4, h5, h6, h7⟩ => ⟨xs, h2, h3, h4, h5, e _ _ h6, h7.keep (Keep.of e)⟩
theorem EnvD.ext (E : EnvD K S H0 N0 Z N σ H ρ) (e : Same H H') : EnvD K S H0 N0 Z N σ H' ρ where
  keep b o n h := e b o (E.keep b o n h)
  base := E.base
  trk b h z := by
    cases q : H b with
    | none => exact E.trk b h q
    | some o => rw [e b o q] at z; cases z
  sub := E.sub
  slot i s h := (E.slot i s h).ext E.sub E.trk e
  len := E.len
  hid z h := (E.hid z h).ext e
  injH := E.injH
  injZ := E.injZ
  inj := E.inj
theorem get_set {α : Type} {l : List α} {i j : Nat} {x y : α} (h : (l.set i x)[j]? = some y) : (i = j ∧ y = x) ∨ (i ≠ j ∧ l[j]? = some y) := by
  by_cases e : i = j
  · subst e
    have hl : i < l.length := by have := (List.getElem?_eq_some_iff.mp h).1; rwa [List.length_set] at this
    rw [List.getElem?_set_self hl] at h
    cases h
    exact .inl ⟨rfl, rfl⟩
  · rw [List.getElem?_set_ne e] at h
    exact .inr ⟨e, h⟩
theorem set_ne {α : Type} {l : List α} {i j : Nat} {x : α} (h : i ≠ j) : (l.set i x)[j]? = l[j]? := List.getElem?_set_ne h
theorem set_eq {α : Type} {l : List α} {i : Nat} {x : α} (h : i < l.length) : (l.set i x)[i]? = some x := List.getElem?_set_self h
theorem SlOk.other {s : Sl} {i j : Nat} {u : Option V} (h : i ≠ j) (q : SlOk K S H0 N0 N σ H j s) : SlOk K S H0 N0 N (σ.set i u) H j s := by
  cases s with
  | unk => exact q
  | dat d => obtain ⟨u, h1, h2⟩ := q; exact ⟨u, by rw [set_ne h]; exact h1, h2⟩
  | own ds => obtain ⟨p, xs, h1, h2⟩ := q; exact ⟨p, xs, by rw [set_ne h]; exact h1, h2⟩
  | sto B => obtain ⟨h1, h2⟩ := q; exact ⟨by rw [set_ne h]; exact h1, h2⟩
  | scr ns => obtain ⟨a, h1, h2⟩ := q; exact ⟨a, by rw [set_ne h]; exact h1, h2⟩
/-- a slot gets what is no list of one's own -/
theorem EnvD.set0 (E : EnvD K S H0 N0 Z N σ H ρ) {i : Nat} {u : Option V} {s : Sl} (no : ∀ ds, s ≠ .own ds) (hs : i < σ.length → SlOk K S H0 N0 N (σ.set i u) H i s) : EnvD K S H0 N0 Z N (σ.set i u) H (ρ.set i s) where
  keep := E.keep
  base := E.base
  trk := E.trk
  sub := E.sub
  len := by rw [List.length_set, List.length_set]; exact E.len
  hid := E.hid
  injZ := E.injZ
  slot j t h := by
    rcases get_set h with ⟨e, e2⟩ | ⟨e, h⟩
    · subst e; subst e2
      refine hs ?_
      have := (List.getElem?_eq_some_iff.mp h).1
      rw [List.length_set] at this
      rw [← E.len]; exact this
    · exact (E.slot j t h).other e
  injH a da dj p ha h1 hz := by
    rcases get_set ha with ⟨e, e2⟩ | ⟨e, ha⟩
    · exact absurd e2.symm (no _)
    · rw [set_ne e] at h1
      exact E.injH a da dj p ha h1 hz
  inj a b da db p ha hb h1 h2 := by
    rcases get_set ha with ⟨e, e2⟩ | ⟨ea, ha⟩
    · exact absurd e2.symm (no _)
    · rcases get_set hb with ⟨e, e2⟩ | ⟨eb, hb⟩
      · exact absurd e2.symm (no _)
      · rw [set_ne ea] at h1
        rw [set_ne eb] at h2
        exact E.inj a b da db p ha hb h1 h2
theorem EnvD.set (E : EnvD K S H0 N0 Z N σ H ρ) {i : Nat} {v : V} {d : PyData} (hv : Dq K N H v d) : EnvD K S H0 N0 Z N (σ.set i (some v)) H (ρ.set i (.dat d)) :=
  E.set0 (fun _ h => nomatch h) fun hi => ⟨v, set_eq hi, hv⟩
theorem EnvD.unset (E : EnvD K S H0 N0 Z N σ H ρ) {i : Nat} {u : Option V} : EnvD K S H0 N0 Z N (σ.set i u) H (ρ.set i .unk) :=
  E.set0 (fun _ h => nomatch h) fun _ => trivial
/-- forget -/
def Fgt (ρ ρ' : Rho) : Prop := ρ'.length = ρ.length ∧ ∀ (i : Nat) (s : Sl), ρ'[i]? = some s → s = .unk ∨ ρ[i]? = some s
theorem Fgt.refl : Fgt ρ ρ := ⟨rfl, fun _ _ h => .inr h⟩
theorem EnvD.fgt {ρ' : Rho} (E : EnvD K S H0 N0 Z N σ H ρ) (f : Fgt ρ ρ') : EnvD K S H0 N0 Z N σ H ρ' where
  keep := E.keep
  base := E.base
  trk := E.trk
  sub := E.sub
  slot i s h := by
    rcases f.2 i s h with e | e
    · subst e; trivial
    · exact E.slot i s e
  len := f.1.trans E.len
  hid := E.hid
  injZ := E.injZ
  injH a da dj p ha h1 hz := by
    rcases f.2 a _ ha with e | ea
    · cases e
    · exact E.injH a da dj p ea h1 hz
  inj a b da db p ha hb h1 h2 := by
    rcases f.2 a _ ha with e | ea
    · cases e
    · rcases f.2 b _ hb with e | eb
      · cases e
      · exact E.inj a b da db p ea eb h1 h2

/-! ### expressions -/
theorem WD.imp {te : TE} {Φ Φ' : PyData → Rho → Prop} (h : WD K S te ρ Φ) (i : ∀ d ρ', Φ d ρ' → Φ' d ρ') : WD K S te ρ Φ' := fun H0 N0 Z N σ H E Q q => h H0 N0 Z N σ H E Q fun v d ρ' H' f => q v d ρ' H' (i d ρ' f)
theorem wd_var {i : Nat} {d : PyData} (h : ρ[i]? = some (.dat d)) (f : Φ d ρ) : WD K S (tVar i) ρ Φ := fun H0 N0 Z N σ H E Q q => by
  obtain ⟨v, h1, h2⟩ := E.slot i _ h
  exact ⟨v, h1, q v d ρ H f E Keep.refl h2⟩
theorem wd_int {i : Int} (f : Φ (.int i) ρ) : WD K S (tC (.int i)) ρ Φ := fun H0 N0 Z N σ H E Q q => q _ _ ρ H f E Keep.refl (Dt.int i)
theorem wd_bl {i : Bool} (f : Φ (.bool i) ρ) : WD K S (tC (.bl i)) ρ Φ := fun H0 N0 Z N σ H E Q q => q _ _ ρ H f E Keep.refl (Dt.bl i)
theorem wd_str {i : Str} (f : Φ (.str i) ρ) : WD K S (tC (.str i)) ρ Φ := fun H0 N0 Z N σ H E Q q => q _ _ ρ H f E Keep.refl (Dt.str i)
theorem wd_non (f : Φ .none ρ) : WD K S (tC .non) ρ Φ := fun H0 N0 Z N σ H E Q q => q _ _ ρ H f E Keep.refl Dt.non
/-- a constant of the module, a tuple that the written part holds -/
theorem wd_const {v : V} {d : PyData} (h : ∀ H : Hp, Dt K H v d) (f : Φ d ρ) : WD K S (tC v) ρ Φ := fun H0 N0 Z N σ H E Q q => q _ _ ρ H f E Keep.refl (h _)
theorem wd_op {r : R2} {ta tb : TE} (h : WD K S ta ρ fun x ρ1 => WD K S tb ρ1 fun y ρ2 => DO K r x y fun z => Φ z ρ2) : WD K S (tOp r ta tb) ρ Φ := fun H0 N0 Z N σ H E Q q =>
  h H0 N0 Z N σ H E _ fun u x ρ1 H1 h1 E1 k1 d1 => h1 H0 N0 Z N σ H1 E1 _ fun w y ρ2 H2 h2 E2 k2 d2 => h2 N H2 E2.trk u w (d1.keep k2) d2 Q fun v d H3 f e d3 =>
    q v d ρ2 H3 f (E2.ext e) ((k1.trans k2).trans (Keep.of e)) d3
theorem wd_un {r : V → Hp → VK → Prop} {ta : TE} (h : WD K S ta ρ fun x ρ1 => DU K r x fun z => Φ z ρ1) : WD K S (tUn r ta) ρ Φ := fun H0 N0 Z N σ H E Q q =>
  h H0 N0 Z N σ H E _ fun u x ρ1 H1 h1 E1 k1 d1 => h1 N H1 E1.trk u d1 Q fun v d H3 f e d3 => q v d ρ1 H3 f (E1.ext e) (k1.trans (Keep.of e)) d3
theorem wa_nil {Φ : List PyData → Rho → Prop} (f : Φ [] ρ) : WA K S tNil ρ Φ := fun H0 N0 Z N σ H E Q q => q [] [] ρ H f E Keep.refl DqAll.nil
theorem wa_cons {te : TE} {ta : TA} {Φ : List PyData → Rho → Prop} (h : WD K S te ρ fun x ρ1 => WA K S ta ρ1 fun xs ρ2 => Φ (x :: xs) ρ2) : WA K S (tCons te ta) ρ Φ := fun H0 N0 Z N σ H E Q q =>
  h H0 N0 Z N σ H E _ fun u x ρ1 H1 h1 E1 k1 d1 => h1 H0 N0 Z N σ H1 E1 _ fun us xs ρ2 H2 h2 E2 k2 d2 => q (u :: us) (x :: xs) ρ2 H2 h2 E2 (k1.trans k2) (DqAll.cons (d1.keep k2) d2)
theorem wd_cb {r : List V → Hp → VK → Prop} {ta : TA} (h : WA K S ta ρ fun xs ρ1 => DC K r xs fun z => Φ z ρ1) : WD K S (tCB r ta) ρ Φ := fun H0 N0 Z N σ H E Q q =>
  h H0 N0 Z N σ H E _ fun us xs ρ1 H1 h1 E1 k1 d1 => h1 N H1 E1.trk us d1 Q fun v d H3 f e d3 => q v d ρ1 H3 f (E1.ext e) (k1.trans (Keep.of e)) d3
theorem wd_tup {ta : TA} (h : WA K S ta ρ fun xs ρ1 => xs.length ≤ sizeLine ∧ Φ (.tuple xs) ρ1) : WD K S (tTup ta) ρ Φ := fun H0 N0 Z N σ H E Q q =>
  h H0 N0 Z N σ H E _ fun us xs ρ1 H1 h1 E1 k1 d1 => ⟨by rw [d1.len]; exact h1.1, fun p hp => by
    have s := same_new hp (.tup us)
    exact q (.ref p) (.tuple xs) ρ1 _ h1.2 (E1.ext s) (k1.trans (Keep.of s)) (Dq.tup (fresh_av E1.trk hp) upd_same (d1.keep (Keep.of s)))⟩
theorem wd_lst {ta : TA} (h : WA K S ta ρ fun xs ρ1 => xs.length ≤ sizeLine ∧ Φ (.list xs) ρ1) : WD K S (tLst ta) ρ Φ := fun H0 N0 Z N σ H E Q q =>
  h H0 N0 Z N σ H E _ fun us xs ρ1 H1 h1 E1 k1 d1 => ⟨by rw [d1.len]; exact h1.1, fun p hp => by
    have s := same_new hp (.lst us)
    exact q (.ref p) (.list xs) ρ1 _ h1.2 (E1.ext s) (k1.trans (Keep.of s)) (Dq.lst (fresh_av E1.trk hp) upd_same (d1.keep (Keep.of s)))⟩
/-- tests -/
theorem wt_test {te : TE} {Φ : Bool → Rho → Prop} (h : WD K S te ρ fun x ρ1 => ∃ b, x = .bool b ∧ Φ b ρ1) : WT K S (tTest te) ρ Φ := fun H0 N0 Z N σ H E Q q =>
  h H0 N0 Z N σ H E _ fun u x ρ1 H1 ⟨b, e, f⟩ E1 k1 d1 => by subst e; exact ⟨b, d1.bool_inv, q b ρ1 H1 f E1 k1⟩
theorem wt_B {te : TE} {Φ : Bool → Rho → Prop} (h : WD K S te ρ fun x ρ1 => ∃ b, x = .bool b ∧ Φ b ρ1) : WT K S (tB te) ρ Φ := fun H0 N0 Z N σ H E Q q =>
  h H0 N0 Z N σ H E _ fun u x ρ1 H1 ⟨b, e, f⟩ E1 k1 d1 => by subst e; exact ⟨b, d1.bool_inv, q b ρ1 H1 f E1 k1⟩
theorem wt_not {t : TT} {Φ : Bool → Rho → Prop} (h : WT K S t ρ fun b ρ1 => Φ (!b) ρ1) : WT K S (tNot t) ρ Φ := fun H0 N0 Z N σ H E Q q =>
  h H0 N0 Z N σ H E _ fun b ρ1 H1 f E1 k1 => q (!b) ρ1 H1 f E1 k1
theorem wt_and {t u : TT} {Φ : Bool → Rho → Prop} (h : WT K S t ρ fun b ρ1 => if b = true then WT K S u ρ1 Φ else Φ false ρ1) : WT K S (tAnd t u) ρ Φ := fun H0 N0 Z N σ H E Q q =>
  h H0 N0 Z N σ H E _ fun b ρ1 H1 f E1 k1 => by
    cases b with
    | true => exact f H0 N0 Z N σ H1 E1 _ fun b ρ2 H2 f2 E2 k2 => q b ρ2 H2 f2 E2 (k1.trans k2)
    | false => exact q false ρ1 H1 f E1 k1
theorem wt_or {t u : TT} {Φ : Bool → Rho → Prop} (h : WT K S t ρ fun b ρ1 => if b = true then Φ true ρ1 else WT K S u ρ1 Φ) : WT K S (tOr t u) ρ Φ := fun H0 N0 Z N σ H E Q q =>
  h H0 N0 Z N σ H E _ fun b ρ1 H1 f E1 k1 => by
    cases b with
    | false => exact f H0 N0 Z N σ H1 E1 _ fun b ρ2 H2 f2 E2 k2 => q b ρ2 H2 f2 E2 (k1.trans k2)
    | true => exact q true ρ1 H1 f E1 k1
theorem wd_ifE {t : TT} {ta tb : TE} (h : WT K S t ρ fun b ρ1 => if b = true then WD K S ta ρ1 Φ else WD K S tb ρ1 Φ) : WD K S (tIf t ta tb) ρ Φ := fun H0 N0 Z N σ H E Q q =>
  h H0 N0 Z N σ H E _ fun b ρ1 H1 f E1 k1 => by
    cases b with
    | true => exact f H0 N0 Z N σ H1 E1 _ fun v d ρ2 H2 f2 E2 k2 => q v d ρ2 H2 f2 E2 (k1.trans k2)
    | false => exact f H0 N0 Z N σ H1 E1 _ fun v d ρ2 H2 f2 E2 k2 => q v d ρ2 H2 f2 E2 (k1.trans k2)
/-- and, or, not of truths as values -/
theorem wd_andV {ta tb : TE} (h : WD K S ta ρ fun x ρ1 => ∃ b, x = .bool b ∧ if b = true then WD K S tb ρ1 Φ else Φ (.bool false) ρ1) : WD K S (tAndV ta tb) ρ Φ := fun H0 N0 Z N σ H E Q q =>
  h H0 N0 Z N σ H E _ fun u x ρ1 H1 ⟨b, e, f⟩ E1 k1 d1 => by
    subst e
    refine ⟨b, d1.bool_inv, ?_⟩
    cases b with
    | true => exact f H0 N0 Z N σ H1 E1 _ fun v d ρ2 H2 f2 E2 k2 => q v d ρ2 H2 f2 E2 (k1.trans k2)
    | false => exact q _ _ ρ1 H1 f E1 k1 (Dt.bl false)
theorem wd_notV {ta : TE} (h : WD K S ta ρ fun x ρ1 => ∃ b, x = .bool b ∧ Φ (.bool !b) ρ1) : WD K S (tNotV ta) ρ Φ := fun H0 N0 Z N σ H E Q q =>
  h H0 N0 Z N σ H E _ fun u x ρ1 H1 ⟨b, e, f⟩ E1 k1 d1 => by
    subst e
    exact ⟨b, d1.bool_inv, q _ _ ρ1 H1 f E1 k1 (Dt.bl _)⟩
end
end DL

set_option Elab.async false
set_option linter.all false
set_option maxRecDepth 100000
set_option maxHeartbeats 2000000
namespace DL
open PySem L2
section
variable {K : PySem.W.Frag} {S : Stt} {H0 : Hp} {N0 : Av} {Z : List Hd} {N : Av} {σ : L2.St} {H H' : Hp} {ρ : Rho} {Φ : PyData → Rho → Prop} {Ψ : PyData → Prop}

/-! ### operations on data -/
theorem do_ii {f : Int → Int → Int} {i j : Int} (h : Ψ (.int (f i j))) : DO K (rI0 fun i j => .int (f i j)) (.int i) (.int j) Ψ := fun N H _ u w hu hw Q q => by
  cases hu; cases hw
  exact ⟨i, j, rfl, rfl, q _ _ H h (Same.refl H) (Dt.int _)⟩
theorem do_ib {f : Int → Int → Bool} {i j : Int} (h : Ψ (.bool (f i j))) : DO K (rI0 fun i j => .bl (f i j)) (.int i) (.int j) Ψ := fun N H _ u w hu hw Q q => by
  cases hu; cases hw
  exact ⟨i, j, rfl, rfl, q _ _ H h (Same.refl H) (Dt.bl _)⟩
theorem do_ic {C : Int → Int → Prop} {f : Int → Int → Int} {i j : Int} (c : C i j) (h : Ψ (.int (f i j))) : DO K (rI C fun i j => .int (f i j)) (.int i) (.int j) Ψ := fun N H _ u w hu hw Q q => by
  cases hu; cases hw
  exact ⟨i, j, rfl, rfl, c, q _ _ H h (Same.refl H) (Dt.int _)⟩
theorem du_i {f : Int → Int} {i : Int} (h : Ψ (.int (f i))) : DU K (rU fun i => .int (f i)) (.int i) Ψ := fun N H _ u hu Q q => by
  cases hu
  exact ⟨i, rfl, q _ _ H h (Same.refl H) (Dt.int _)⟩
theorem do_eqi {i j : Int} (h : Ψ (.bool (decide (i = j)))) : DO K rEq (.int i) (.int j) Ψ := fun N H _ u w hu hw Q q => by
  cases hu; cases hw
  refine ⟨rfl, ?_⟩
  have e : decide (V.int i = V.int j) = decide (i = j) := by
    by_cases e : i = j
    · subst e; simp
    · rw [decide_eq_false e, decide_eq_false (fun z => e (V.int.inj z))]
  rw [e]
  exact q _ _ H h (Same.refl H) (Dt.bl _)
theorem do_nes {i j : Str} (h : Ψ (.bool (!decide (i = j)))) : DO K rNe (.str i) (.str j) Ψ := fun N H _ u w hu hw Q q => by
  cases hu; cases hw
  refine ⟨rfl, ?_⟩
  have e : decide (V.str i = V.str j) = decide (i = j) := by
    by_cases e : i = j
    · subst e; simp
    · rw [decide_eq_false e, decide_eq_false (fun z => e (V.str.inj z))]
  rw [e]
  exact q _ _ H h (Same.refl H) (Dt.bl _)
theorem do_eqD {x y : PyData} (h1 : SeqAt.shaped x = true) (h2 : SeqAt.shaped y = true) (h : Ψ (.bool (PyData.eqv x y))) : DO K (rEqD K) x y Ψ := fun N H _ u w hu hw Q q =>
  ⟨x, y, hu.dp (shaped_nd h1), hw.dp (shaped_nd h2), h1, h2, q _ _ H h (Same.refl H) (Dt.bl _)⟩
theorem do_neD {x y : PyData} (h1 : SeqAt.shaped x = true) (h2 : SeqAt.shaped y = true) (h : Ψ (.bool (!PyData.eqv x y))) : DO K (rNeD K) x y Ψ := fun N H _ u w hu hw Q q =>
  ⟨x, y, hu.dp (shaped_nd h1), hw.dp (shaped_nd h2), h1, h2, q _ _ H h (Same.refl H) (Dt.bl _)⟩
theorem at_dq {xs : List V} {ds : List PyData} {i : Int} {d : PyData} (h : DqAll K N H xs ds) (e : atI ds i = some d) : ∃ v, atI xs i = some v ∧ Dq K N H v d := by
  unfold atI at e ⊢
  rw [h.len]
  cases q : ixN ds.length i with
  | none => rw [q] at e; cases e
  | some j => rw [q] at e; exact h.get e
theorem do_ixT {ds : List PyData} {i : Int} {d : PyData} (e : atI ds i = some d) (h : Ψ d) : DO K (rIxT K) (.tuple ds) (.int i) Ψ := fun N H _ u w hu hw Q q => by
  obtain ⟨p, xs, rfl, _, h1, h2⟩ := hu.tup_inv
  cases hw
  obtain ⟨v, h3, h4⟩ := at_dq h2 e
  exact ⟨p, xs, i, v, rfl, rfl, (by first | exact h1 | exact .inl h1), h3, q v d H h (Same.refl H) h4⟩
theorem do_ixL {ds : List PyData} {i : Int} {d : PyData} (e : atI ds i = some d) (h : Ψ d) : DO K (rIxL K) (.list ds) (.int i) Ψ := fun N H _ u w hu hw Q q => by
  obtain ⟨p, xs, rfl, _, h1, h2⟩ := hu.lst_inv
  cases hw
  obtain ⟨v, h3, h4⟩ := at_dq h2 e
  exact ⟨p, xs, i, v, rfl, rfl, (by first | exact h1 | exact .inl h1), h3, q v d H h (Same.refl H) h4⟩
/-- + of lists, locked too -/
def rCatL : R2 := fun x y H Q => ∃ a b xs zs, x = .ref a ∧ y = .ref b ∧ Rd H a (.lst xs) ∧ Rd H b (.lst zs) ∧ xs.length + zs.length ≤ sizeLine ∧ ∀ p, H p = none → Q (.ref p) (upd H p (.lst (xs ++ zs)))
theorem op_catL {X : Cx} : OpR X (binaryOp .Add) rCatL := by
  intro pins s τ G x y v u R I rx ry h
  obtain ⟨l, m, xs, zs, rfl, rfl, hL, hM, hz, k⟩ := h
  cases rx
  cases ry
  obtain ⟨z1, i1, n1, w1, g1⟩ := hL.ok I.hok
  obtain ⟨z2, i2, n2, w2, g2⟩ := hM.ok I.hok
  have e1 := w1.length
  have e2 := w2.length
  refine PySem.P.add_list g1 g2 ?_ (by simp only [List.size_toArray]; omega)
  rw [show i1.toArray ++ i2.toArray = (i1 ++ i2).toArray by simp]
  exact ⟨.ref _, _, I.lnew (t' := s.toks) (w1.append w2) (by simp only [List.length_append]; omega), rfl, k _ I.fresh⟩
theorem do_catL {xs ys : List PyData} (hz : xs.length + ys.length ≤ sizeLine) (h : Ψ (.list (xs ++ ys))) : DO K rCatL (.list xs) (.list ys) Ψ := fun N H hN u w hu hw Q q => by
  obtain ⟨p, us, rfl, _, h1, h2⟩ := hu.lst_inv
  obtain ⟨p2, ws, rfl, _, h3, h4⟩ := hw.lst_inv
  refine ⟨p, p2, us, ws, rfl, rfl, h1, h3, by rw [h2.len, h4.len]; exact hz, fun z hz => ?_⟩
  have s := same_new hz (.lst (us ++ ws))
  exact q _ _ _ h s (Dq.lst (fresh_av hN hz) upd_same ((h2.append h4).keep (Keep.of s)))

/-! ### calls of built-ins -/
theorem dc_len_l {ds : List PyData} (h : Ψ (.int ds.length)) : DC K (fun xs H Q => ∃ p ys, xs = [.ref p] ∧ (SqL K H p ys ∨ SqT K H p ys) ∧ Q (.int ys.length) H) [.list ds] Ψ := fun N H _ us hu Q q => by
  cases hu with
  | cons h1 h2 =>
    cases h2
    obtain ⟨p, xs, rfl, _, h3, h4⟩ := Dq.lst_inv h1
    exact ⟨p, xs, rfl, .inl (.inl h3), q _ _ H h (Same.refl H) (by rw [h4.len]; exact Dt.int _)⟩
theorem dc_len_t {ds : List PyData} (h : Ψ (.int ds.length)) : DC K (fun xs H Q => ∃ p ys, xs = [.ref p] ∧ (SqL K H p ys ∨ SqT K H p ys) ∧ Q (.int ys.length) H) [.tuple ds] Ψ := fun N H _ us hu Q q => by
  cases hu with
  | cons h1 h2 =>
    cases h2
    obtain ⟨p, xs, rfl, _, h3, h4⟩ := Dq.tup_inv h1
    exact ⟨p, xs, rfl, .inr h3, q _ _ H h (Same.refl H) (by rw [h4.len]; exact Dt.int _)⟩
theorem dc_gcd {a b : Int} (h : Ψ (.int (Nat.gcd a.natAbs b.natAbs : Nat))) : DC K rGcd [.int a, .int b] Ψ := fun N H _ us hu Q q => by
  cases hu with
  | cons h1 h2 =>
    cases h2 with
    | cons h2 h3 => cases h3; cases h1; cases h2; exact ⟨a, b, rfl, q _ _ H h (Same.refl H) (Dt.int _)⟩
/-- a call on one int, on two, whose answer is an int -/
theorem dc_i1 {f : Int → Int} {i : Int} (h : Ψ (.int (f i))) : DC K (fun xs H Q => ∃ i, xs = [.int i] ∧ Q (.int (f i)) H) [.int i] Ψ := fun N H _ us hu Q q => by
  cases hu with
  | cons h1 h2 => cases h2; cases h1; exact ⟨i, rfl, q _ _ H h (Same.refl H) (Dt.int _)⟩
/-! ### statements -/
theorem WS.imp {ts : TS} {En En' : DE} (h : WS K S ts ρ En) (i : ∀ ρ, En.nx ρ → En'.nx ρ) (r : ∀ d ρ, En.rt d ρ → En'.rt d ρ) (b : ∀ ρ, En.bk ρ → En'.bk ρ) (c : ∀ ρ, En.ct ρ → En'.ct ρ) : WS K S ts ρ En' :=
  fun H0 N0 Z N σ H D E M => h H0 N0 Z N σ H D E ⟨fun N σ H ρ q => M.nx N σ H ρ (i ρ q), fun N σ H ρ v d q => M.rt N σ H ρ v d (r d ρ q), fun N σ H ρ q => M.bk N σ H ρ (b ρ q), fun N σ H ρ q => M.ct N σ H ρ (c ρ q)⟩
theorem ws_seq {t u : TS} {En : DE} (h : WS K S t ρ { En with nx := fun ρ1 => WS K S u ρ1 En }) : WS K S (tSeq t u) ρ En := fun H0 N0 Z N σ H D E M =>
  h H0 N0 Z N σ H { D with nx := u D } E ⟨fun N σ H ρ q E1 => q H0 N0 Z N σ H D E1 M, M.rt, M.bk, M.ct⟩
theorem ws_next {En : DE} (h : En.nx ρ) : WS K S tNext ρ En := fun H0 N0 Z N σ H D E M => M.nx N σ H ρ h E
theorem ws_asg {te : TE} {i : Nat} {En : DE} (h : WD K S te ρ fun d ρ1 => En.nx (ρ1.set i (.dat d))) : WS K S (tAsg te (gName i)) ρ En := fun H0 N0 Z N σ H D E M =>
  h H0 N0 Z N σ H E _ fun v d ρ1 H1 f E1 k1 d1 => M.nx N _ H1 _ f (E1.set d1)
theorem ws_ret {te : TE} {En : DE} (h : WD K S te ρ En.rt) : WS K S (tRet te) ρ En := fun H0 N0 Z N σ H D E M =>
  h H0 N0 Z N σ H E _ fun v d ρ1 H1 f E1 k1 d1 => M.rt N _ H1 _ v d f E1 (d1.le E1.base)
theorem ws_if {c : TT} {t u : TS} {En : DE} (h : WT K S c ρ fun b ρ1 => if b = true then WS K S t ρ1 En else WS K S u ρ1 En) : WS K S (tIfS c t u) ρ En := fun H0 N0 Z N σ H D E M =>
  h H0 N0 Z N σ H E _ fun b ρ1 H1 f E1 k1 => by
    cases b with
    | true => exact f H0 N0 Z N σ H1 D E1 M
    | false => exact f H0 N0 Z N σ H1 D E1 M
/-- a, b = e1, e2 -/
theorem ws_par {i j : Nat} {ta : TA} {En : DE} (h : WA K S ta ρ fun ds ρ1 => ∃ x y, ds = [x, y] ∧ En.nx ((ρ1.set i (.dat x)).set j (.dat y))) : WS K S (tPar i j ta) ρ En := fun H0 N0 Z N σ H D E M =>
  h H0 N0 Z N σ H E _ fun vs ds ρ1 H1 ⟨x, y, e, f⟩ E1 k1 d1 => by
    subst e
    cases d1 with
    | cons d1 d2 =>
      cases d2 with
      | cons d2 d3 =>
        cases d3
        exact ⟨_, _, rfl, M.nx N _ H1 _ f ((E1.set d1).set d2)⟩
/-- a, b = a pair -/
theorem ws_unp2 {te : TE} {i j : Nat} {En : DE} (h : WD K S te ρ fun d ρ1 => ∃ x y, d = .tuple [x, y] ∧ En.nx ((ρ1.set i (.dat x)).set j (.dat y))) : WS K S (tAsg te (gTup K 2 (gCons (gName i) (gCons (gName j) gNil)))) ρ En := fun H0 N0 Z N σ H D E M =>
  h H0 N0 Z N σ H E _ fun v d ρ1 H1 ⟨x, y, e, f⟩ E1 k1 d1 => by
    subst e
    obtain ⟨p, xs, rfl, _, h1, h2⟩ := d1.tup_inv
    cases h2 with
    | cons a1 a2 =>
      cases a2 with
      | cons a2 a3 =>
        cases a3
        exact ⟨p, _, rfl, h1, rfl, _, _, rfl, _, _, rfl, rfl, M.nx N _ H1 _ f ((E1.set a1).set a2)⟩

/-! ### lists of one's own -/
theorem EnvD.new (E : EnvD K S H0 N0 Z N σ H ρ) {i : Nat} {p : Addr} {xs : List V} {ds : List PyData} (hp : H p = none) (hp0 : H0 p = none) (n0 : N0 p = false) (hd : DqAll K N H xs ds) :
    EnvD K S H0 N0 Z (fun b => N b || decide (b = p)) (σ.set i (some (.ref p))) (upd H p (.lst xs)) (ρ.set i (.own ds)) := by
  have np : N p = false := fresh_av E.trk hp
  have sp : S.fp p = false := by
    cases e : S.fp p with
    | false => rfl
    | true => rw [E.sub p e] at np; cases np
  have s := same_new hp (.lst xs)
  have kw : Same (wo N H) (wo (fun b => N b || decide (b = p)) (upd H p (.lst xs))) := fun b o h => by
    obtain ⟨n, h⟩ := wo_some h
    have hb : b ≠ p := ne_of_none h hp
    rw [wo_in (by simp [n, hb])]
    exact s b o h
  have dk : ∀ {v : V} {d : PyData}, Dq K N H v d → Dq K (fun b => N b || decide (b = p)) (upd H p (.lst xs)) v d := fun h => dp_mono kw _ _ h
  have dka : ∀ {v : List V} {d : List PyData}, DqAll K N H v d → DqAll K (fun b => N b || decide (b = p)) (upd H p (.lst xs)) v d := fun h => dpall_mono kw _ _ h
  have nq : ∀ {q : Addr} {ys : List V}, H q = some (.lst ys) → q ≠ p := fun h => ne_of_none h hp
  have le : ∀ b, N b = true → (N b || decide (b = p)) = true := fun b h => by rw [h]; rfl
  have old : ∀ {s : Sl} {j : Nat}, SlOk K S H0 N0 N σ H j s → SlOk K S H0 N0 (fun b => N b || decide (b = p)) σ (upd H p (.lst xs)) j s := fun {t j} h => by
    cases t with
    | unk => trivial
    | dat d => obtain ⟨v, h1, h2⟩ := h; exact ⟨v, h1, dk h2⟩
    | own es => obtain ⟨q, ys, h1, h2, h3, h4, h5, h6, h7⟩ := h; exact ⟨q, ys, h1, le q h2, h3, h4, h5, s _ _ h6, dka h7⟩
    | sto B =>
      obtain ⟨h1, h2⟩ := h
      exact ⟨h1, S.loc H _ B (fun b hb => upd_ne fun e => by rw [e, sp] at hb; cases hb) h2⟩
    | scr ns => obtain ⟨a, h1, h2⟩ := h; exact ⟨a, h1, kw.seq h2⟩
  refine ⟨fun b o n h => s b o (E.keep b o n h), fun b h => le b (E.base b h), fun b h => ?_, fun b h => le b (E.sub b h), fun j t h => ?_, by rw [List.length_set, List.length_set]; exact E.len, fun z h => ?_, fun a da dj q ha h1 hz => ?_, E.injZ, fun a b da db q ha hb h1 h2 => ?_⟩
  · by_cases e : b = p
    · subst e; rw [upd_same]; simp
    · have n : N b = true := by simpa [e] using h
      rw [upd_ne e]; exact E.trk b n
  · rcases get_set h with ⟨e, e2⟩ | ⟨e, h⟩
    · subst e; subst e2
      have hi : i < σ.length := by
        have := (List.getElem?_eq_some_iff.mp h).1
        rw [List.length_set] at this
        rw [← E.len]; exact this
      exact ⟨p, xs, set_eq hi, by simp, sp, n0, hp0, upd_same, dka hd⟩
    · exact (old (E.slot j t h)).other e
  · cases z with
    | dat v d => exact dk (E.hid _ h)
    | own q es =>
      obtain ⟨ys, h2, h3, h4, h5, h6, h7⟩ := E.hid _ h
      exact ⟨ys, le q h2, h3, h4, h5, s _ _ h6, dka h7⟩
  · rcases get_set ha with ⟨e, e2⟩ | ⟨e, ha⟩
    · subst e
      have hi : i < σ.length := by
        have := (List.getElem?_eq_some_iff.mp h1).1
        rwa [List.length_set] at this
      rw [set_eq hi] at h1
      cases h1
      obtain ⟨ys, h2, h3, h4, h5, h6, h7⟩ := E.hid _ hz
      exact nq h6 rfl
    · rw [set_ne e] at h1
      exact E.injH a da dj q ha h1 hz
  · have own : ∀ {c : Nat} {dc : List PyData} {q : Addr}, ρ[c]? = some (.own dc) → σ[c]? = some (some (V.ref q)) → q ≠ p := fun {c dc q} h1 h2 => by
      obtain ⟨q', ys, g1, g2, g3, g4, g5, g6, g7⟩ := E.slot c _ h1
      rw [g1] at h2; cases h2
      exact nq g6
    have fresh : ∀ {q : Addr}, (σ.set i (some (V.ref p)))[i]? = some (some (V.ref q)) → q = p := fun {q} h => by
      have hi : i < σ.length := by
        have := (List.getElem?_eq_some_iff.mp h).1
        rwa [List.length_set] at this
      rw [set_eq hi] at h; cases h; rfl
    rcases get_set ha with ⟨ea, e2⟩ | ⟨ea, ha⟩
    · rcases get_set hb with ⟨eb, e3⟩ | ⟨eb, hb⟩
      · exact ea.symm.trans eb
      · subst ea
        rw [set_ne eb] at h2
        exact absurd (fresh h1) (own hb h2)
    · rcases get_set hb with ⟨eb, e3⟩ | ⟨eb, hb⟩
      · subst eb
        rw [set_ne ea] at h1
        exact absurd (fresh h2) (own ha h1)
      · rw [set_ne ea] at h1
        rw [set_ne eb] at h2
        exact E.inj a b da db q ha hb h1 h2
end
end DL

set_option Elab.async false
set_option linter.all false
set_option maxRecDepth 100000
set_option maxHeartbeats 2000000
namespace DL
open PySem L2
section
variable {K : PySem.W.Frag} {S : Stt} {H0 : Hp} {N0 : Av} {Z : List Hd} {N : Av} {σ : L2.St} {H H' : Hp} {ρ : Rho} {Φ : PyData → Rho → Prop} {Ψ : PyData → Prop}

theorem free0 (E : EnvD K S H0 N0 Z N σ H ρ) {p : Addr} (hp : H p = none) : H0 p = none ∧ N0 p = false := by
  have np : N p = false := fresh_av E.trk hp
  have sp : S.fp p = false := by
    cases e : S.fp p with
    | false => rfl
    | true => rw [E.sub p e] at np; cases np
  constructor
  · cases e : H0 p with
    | none => rfl
    | some o => rw [E.keep p o sp e] at hp; cases hp
  · cases e : N0 p with
    | false => rfl
    | true => rw [E.base p e] at np; cases np
/-- x = [..], a list that will be filled -/
theorem ws_own {ta : TA} {i : Nat} {En : DE} (h : WA K S ta ρ fun ds ρ1 => ds.length ≤ sizeLine ∧ En.nx (ρ1.set i (.own ds))) : WS K S (tAsg (tLst ta) (gName i)) ρ En := fun H0 N0 Z N σ H D E M =>
  h H0 N0 Z N σ H E _ fun vs ds ρ1 H1 f E1 k1 d1 => ⟨by rw [d1.len]; exact f.1, fun p hp => by
    obtain ⟨z1, z2⟩ := free0 E1 hp
    exact M.nx _ _ _ _ f.2 (E1.new hp z1 z2 d1)⟩
/-- an own list's content changes, at p -/
theorem EnvD.chg (E : EnvD K S H0 N0 Z N σ H ρ) {p : Addr} {xs ys : List V} {i : Nat} {ds es : List PyData} (hi : ρ[i]? = some (.own ds)) (hs : σ[i]? = some (some (.ref p))) (hq : DqAll K N H ys es) :
    EnvD K S H0 N0 Z N σ (upd H p (.lst ys)) (ρ.set i (.own es)) := by
  obtain ⟨p', xs', g1, g2, g3, g4, g5, g6, g7⟩ := E.slot i _ hi
  rw [g1] at hs; cases hs
  have kp : ∀ b o, b ≠ p → H b = some o → upd H p (.lst ys) b = some o := fun b o hb h => by rw [upd_ne hb]; exact h
  have kn : Keep N H (upd H p (.lst ys)) := fun b o n h => kp b o (fun e => by rw [e, g2] at n; cases n) h
  have il : i < ρ.length := (List.getElem?_eq_some_iff.mp hi).1
  refine ⟨fun b o n h => kp b o (fun e => by rw [e, g5] at h; cases h) (E.keep b o n h), E.base, fun b h => ?_, E.sub, fun j t h => ?_, by rw [List.length_set]; exact E.len, fun z h => ?_, fun a da dj q ha h1 hz => ?_, E.injZ, fun a b da db q ha hb h1 h2 => ?_⟩
  · by_cases e : b = p
    · rw [e, upd_same]; simp
    · rw [upd_ne e]; exact E.trk b h
  · rcases get_set h with ⟨e, e2⟩ | ⟨e, h⟩
    · subst e; subst e2
      exact ⟨p, ys, g1, g2, g3, g4, g5, upd_same, hq.keep kn⟩
    · have q := E.slot j t h
      cases t with
      | unk => trivial
      | dat d => obtain ⟨v, h1, h2⟩ := q; exact ⟨v, h1, h2.keep kn⟩
      | own us =>
        obtain ⟨q, zs, h1, h2, h3, h4, h5, h6, h7⟩ := q
        have hne : q ≠ p := fun e2 => by subst e2; exact e (E.inj i j _ _ _ hi h g1 h1)
        exact ⟨q, zs, h1, h2, h3, h4, h5, kp _ _ hne h6, h7.keep kn⟩
      | sto B => obtain ⟨h1, h2⟩ := q; exact ⟨h1, S.loc H _ B (fun b hb => upd_ne fun e => by rw [e, g3] at hb; cases hb) h2⟩
      | scr ns => obtain ⟨a, h1, h2⟩ := q; exact ⟨a, h1, kn.wo.seq h2⟩
  · have q := E.hid z h
    cases z with
    | dat v d => exact Dq.keep q kn
    | own q' zs =>
      obtain ⟨us, h2, h3, h4, h5, h6, h7⟩ := q
      have hne : q' ≠ p := fun e2 => by subst e2; exact E.injH i _ _ _ hi g1 h
      exact ⟨us, h2, h3, h4, h5, kp _ _ hne h6, h7.keep kn⟩
  · rcases get_set ha with ⟨e, e2⟩ | ⟨e, ha⟩
    · subst e
      exact E.injH i _ dj q hi h1 hz
    · exact E.injH a da dj q ha h1 hz
  · have low : ∀ {c : Nat} {dc : List PyData}, (ρ.set i (.own es))[c]? = some (Sl.own dc) → ∃ dc', ρ[c]? = some (Sl.own dc') := fun {c dc} hc => by
      rcases get_set hc with ⟨e, _⟩ | ⟨_, hc⟩
      · subst e; exact ⟨_, hi⟩
      · exact ⟨_, hc⟩
    obtain ⟨da', ha'⟩ := low ha
    obtain ⟨db', hb'⟩ := low hb
    exact E.inj a b _ _ q ha' hb' h1 h2
/-- x.append(e), x a list of one's own -/
theorem ws_append {te : TE} {i : Nat} {es : List PyData} {En : DE} (h0 : ρ[i]? = some (.own es))
    (h : WD K S te ρ fun d ρ1 => ∃ ds, ρ1[i]? = some (.own ds) ∧ ds.length < sizeLine ∧ En.nx (ρ1.set i (.own (ds ++ [d])))) : WS K S (tDrop (tBM K "list" rAppend (tVar i) (tCons te tNil))) ρ En := fun H0 N0 Z N σ H D E M => by
  obtain ⟨p, xs, g1, g2, g3, g4, g5, g6, g7⟩ := E.slot i _ h0
  refine ⟨.ref p, g1, .inl ⟨rfl, _, .inl (.inl g6)⟩, h H0 N0 Z N σ H E _ fun v d ρ1 H1 ⟨ds, f1, f2, f3⟩ E1 k1 d1 => ?_⟩
  obtain ⟨p', xs', e1, e2, e3, e4, e5, e6, e7⟩ := E1.slot i _ f1
  rw [g1] at e1; cases e1
  exact ⟨p, xs', v, rfl, rfl, e6, by rw [e7.len]; exact f2, M.nx N _ _ _ f3 (E1.chg (xs := xs') f1 g1 (e7.append (DqAll.cons d1 DqAll.nil)))⟩
/-- a list of one's own, filled, is data -/
theorem EnvD.frz (E : EnvD K S H0 N0 Z N σ H ρ) {i : Nat} {ds : List PyData} (hi : ρ[i]? = some (.own ds)) : ∃ N', EnvD K S H0 N0 Z N' σ H (ρ.set i (.dat (.list ds))) := by
  obtain ⟨p, xs, g1, g2, g3, g4, g5, g6, g7⟩ := E.slot i _ hi
  have le : Le (fun b => N b && !decide (b = p)) N := fun b h => by simp at h; exact h.1
  have ne : ∀ {q : Addr}, q ≠ p → N q = true → (N q && !decide (q = p)) = true := fun h n => by simp [h, n]
  have il : i < ρ.length := (List.getElem?_eq_some_iff.mp hi).1
  refine ⟨fun b => N b && !decide (b = p), E.keep, fun b h => ne (fun e => by rw [e, g4] at h; cases h) (E.base b h), fun b h => E.trk b (le b h), fun b h => ne (fun e => by rw [e, g3] at h; cases h) (E.sub b h), fun j t h => ?_, by rw [List.length_set]; exact E.len, fun z h => ?_, fun a da dj q ha h1 hz => ?_, E.injZ, fun a b da db q ha hb h1 h2 => ?_⟩
  · rcases get_set h with ⟨e, e2⟩ | ⟨e, h⟩
    · subst e; subst e2
      exact ⟨.ref p, g1, Dq.lst (by simp) g6 (g7.le le)⟩
    · have q := E.slot j t h
      cases t with
      | unk => trivial
      | dat d => obtain ⟨v, h1, h2⟩ := q; exact ⟨v, h1, h2.le le⟩
      | own us =>
        obtain ⟨q, zs, h1, h2, h3, h4, h5, h6, h7⟩ := q
        have hne : q ≠ p := fun e2 => by subst e2; exact e (E.inj i j _ _ _ hi h g1 h1)
        exact ⟨q, zs, h1, ne hne h2, h3, h4, h5, h6, h7.le le⟩
      | sto B => exact q
      | scr ns => obtain ⟨a, h1, h2⟩ := q; exact ⟨a, h1, le.wo.seq h2⟩
  · have q := E.hid z h
    cases z with
    | dat v d => exact Dq.le q le
    | own q' zs =>
      obtain ⟨us, h2, h3, h4, h5, h6, h7⟩ := q
      have hne : q' ≠ p := fun e2 => by subst e2; exact E.injH i _ _ _ hi g1 h
      exact ⟨us, ne hne h2, h3, h4, h5, h6, h7.le le⟩
  · rcases get_set ha with ⟨e, e2⟩ | ⟨e, ha⟩
    · cases e2
    · exact E.injH a da dj q ha h1 hz
  · rcases get_set ha with ⟨e, e2⟩ | ⟨ea, ha⟩
    · cases e2
    · rcases get_set hb with ⟨e, e2⟩ | ⟨eb, hb⟩
      · cases e2
      · exact E.inj a b da db q ha hb h1 h2
theorem ws_frz {ts : TS} {i : Nat} {ds : List PyData} {En : DE} (hi : ρ[i]? = some (.own ds)) (h : WS K S ts (ρ.set i (.dat (.list ds))) En) : WS K S ts ρ En := fun H0 N0 Z N σ H D E M => by
  obtain ⟨N', E'⟩ := E.frz hi
  exact h H0 N0 Z N' σ H D E' M
theorem ws_fgt {ts : TS} {ρ' : Rho} {En : DE} (f : Fgt ρ ρ') (h : WS K S ts ρ' En) : WS K S ts ρ En := fun H0 N0 Z N σ H D E M => h H0 N0 Z N σ H D (E.fgt f) M

/-! ### loops -/
theorem EnvD.push (E : EnvD K S H0 N0 Z N σ H ρ) {v : V} {d : PyData} (h : Dq K N H v d) : EnvD K S H0 N0 (.dat v d :: Z) N σ H ρ where
  keep := E.keep
  base := E.base
  trk := E.trk
  sub := E.sub
  slot := E.slot
  len := E.len
  hid z hz := by
    rcases List.mem_cons.mp hz with e | hz
    · subst e; exact h
    · exact E.hid z hz
  injH i di dj p h1 h2 hz := by
    rcases List.mem_cons.mp hz with e | hz
    · cases e
    · exact E.injH i di dj p h1 h2 hz
  injZ i j di dj p h1 h2 := by
    cases i with
    | zero => simp at h1
    | succ i =>
      cases j with
      | zero => simp at h2
      | succ j => exact congrArg (· + 1) (E.injZ i j di dj p (by simpa using h1) (by simpa using h2))
  inj := E.inj
theorem EnvD.pop {z : Hd} (E : EnvD K S H0 N0 (z :: Z) N σ H ρ) : EnvD K S H0 N0 Z N σ H ρ where
  keep := E.keep
  base := E.base
  trk := E.trk
  sub := E.sub
  slot := E.slot
  len := E.len
  hid z hz := E.hid z (List.mem_cons_of_mem _ hz)
  injH i di dj p h1 h2 hz := E.injH i di dj p h1 h2 (List.mem_cons_of_mem _ hz)
  injZ i j di dj p h1 h2 := Nat.succ.inj (E.injZ (i + 1) (j + 1) di dj p (by simpa using h1) (by simpa using h2))
  inj := E.inj
/-- while, by a word with a measure -/
theorem ws_while {c : TT} {tb : TS} {En : DE} (I : Nat → Rho → Prop) (m0 : Nat) (i0 : I m0 ρ)
    (turn : ∀ m ρ1, I m ρ1 → WT K S c ρ1 fun b ρ2 => if b = true then WS K S tb ρ2 { nx := fun ρ3 => ∃ m', m' < m ∧ I m' ρ3, rt := En.rt, bk := En.nx, ct := fun ρ3 => ∃ m', m' < m ∧ I m' ρ3 } else En.nx ρ2) :
    WS K S (tWhile c tb) ρ En := fun H0 N0 Z N σ H D E M => by
  refine ⟨fun m σ' H' => ∃ N' ρ', EnvD K S H0 N0 Z N' σ' H' ρ' ∧ I m ρ', ⟨m0, N, ρ, E, i0⟩, ?_⟩
  rintro m σ' H' ⟨N', ρ', E', iv⟩
  refine turn m ρ' iv H0 N0 Z N' σ' H' E' _ fun b ρ2 H2 f E2 k2 => ?_
  cases b with
  | true => exact ⟨fun σ3 H3 => ∃ m', m' < m ∧ ∃ N3 ρ3, EnvD K S H0 N0 Z N3 σ3 H3 ρ3 ∧ I m' ρ3, fun σ3 H3 ⟨m', l, w⟩ => ⟨m', l, w⟩, f H0 N0 Z N' σ' H2 _ E2 ⟨fun N3 σ3 H3 ρ3 ⟨m', l, w⟩ E3 => ⟨m', l, N3, ρ3, E3, w⟩, M.rt, M.nx, fun N3 σ3 H3 ρ3 ⟨m', l, w⟩ E3 => ⟨m', l, N3, ρ3, E3, w⟩⟩⟩
  | false => exact M.nx N' σ' H2 ρ2 f E2

/-! ### comprehensions -/
def wipeR (ρ : Rho) : List Nat → Rho
  | [] => ρ
  | v :: vs => (wipeR ρ vs).set v .unk
theorem EnvD.wipe (E : EnvD K S H0 N0 Z N σ H ρ) : ∀ vs : List Nat, EnvD K S H0 N0 Z N (L2.wipe σ vs) H (wipeR ρ vs)
  | [] => E
  | v :: vs => (E.wipe vs).unset
/-- behind a comprehension: the names as ahead of it -/
theorem EnvD.unwipe : ∀ {vs : List Nat} {σ : L2.St} {ρ : Rho}, EnvD K S H0 N0 Z N (L2.wipe σ vs) H ρ → EnvD K S H0 N0 Z N σ H (wipeR ρ vs)
  | [], _, _, E => E
  | v :: vs, σ, ρ, E => by
    have e : EnvD K S H0 N0 Z N ((L2.wipe σ vs).set v none) H ρ := E
    by_cases hv : v < (L2.wipe σ vs).length
    · have e2 := e.unset (i := v) (u := (L2.wipe σ vs)[v])
      rw [List.set_set, List.set_getElem_self] at e2
      have e3 := EnvD.unwipe e2
      have cm : ∀ (us : List Nat) (r : Rho), wipeR (r.set v .unk) us = (wipeR r us).set v .unk := fun us => by
        induction us with
        | nil => intro r; rfl
        | cons u us ih =>
          intro r
          show (wipeR (r.set v .unk) us).set u .unk = ((wipeR r us).set u .unk).set v .unk
          rw [ih]
          by_cases huv : u = v
          · subst huv; rfl
          · exact List.set_comm _ _ (fun q => huv q.symm)
      rw [cm] at e3
      exact e3
    · rw [List.set_eq_of_length_le (by omega)] at e
      have e3 := EnvD.unwipe e
      show EnvD K S H0 N0 Z N σ H ((wipeR ρ vs).set v .unk)
      exact e3.fgt ⟨by rw [List.length_set], fun j s h => by
        rcases get_set h with ⟨_, q⟩ | ⟨_, q⟩
        · exact .inl q
        · exact .inr q⟩
end
end DL

set_option Elab.async false
set_option linter.all false
set_option maxRecDepth 100000
set_option maxHeartbeats 2000000
namespace DL
open PySem L2
/-- what a for walks, as data: hidden things Zx keep it, ds are its items -/
def Src (K : PySem.W.Frag) (J : It) (Zx : List Hd) (ds : List PyData) : Prop :=
  ∀ S H0 N0 Z N σ H ρ, EnvD K S H0 N0 (Zx ++ Z) N σ H ρ → (∀ k d, ds[k]? = some d → J.go k H ∧ ∀ x H', J.yld k H x H' → Same H H' ∧ Dq K N H' x d) ∧ J.stop ds.length H
def WI (K : PySem.W.Frag) (S : Stt) (wi : TI) (ρ : Rho) (Θ : List PyData → Rho → Prop) : Prop :=
  ∀ H0 N0 Z N σ H, EnvD K S H0 N0 Z N σ H ρ → ∀ R : It → Hp → Prop, (∀ J Zx ds ρ' H', Θ ds ρ' → Src K J Zx ds → (∀ p es, Hd.own p es ∉ Zx) → EnvD K S H0 N0 (Zx ++ Z) N σ H' ρ' → Keep N H H' → R J H') → wi σ H R
/-- a target takes a datum -/
def GD (K : PySem.W.Frag) (g : TG) (d : PyData) (ts : List Nat) (f : Rho → Rho) : Prop :=
  ∀ S H0 N0 Z N σ H ρ x, EnvD K S H0 N0 Z N σ H ρ → Dq K N H x d → ∀ Q : L2.St → Hp → Prop, (∀ σ', EnvD K S H0 N0 Z N σ' H (f ρ) → σ'.length = σ.length → (∀ j, j ∉ ts → σ'[j]? = σ[j]?) → Q σ' H) → g x σ H Q
section
variable {K : PySem.W.Frag} {S : Stt} {H0 : Hp} {N0 : Av} {Z : List Hd} {N : Av} {σ : L2.St} {H H' : Hp} {ρ : Rho} {Φ : PyData → Rho → Prop} {Ψ : PyData → Prop}

theorem EnvD.popn : ∀ {Zx : List Hd}, EnvD K S H0 N0 (Zx ++ Z) N σ H ρ → EnvD K S H0 N0 Z N σ H ρ
  | [], E => E
  | _ :: _, E => EnvD.popn E.pop
theorem src_list {a : Addr} {ds : List PyData} : Src K (Itl K a) [.dat (.ref a) (.list ds)] ds := fun S H0 N0 Z N σ H ρ E => by
  obtain ⟨p, xs, e, _, hr, ha⟩ := Dq.lst_inv (E.hid _ List.mem_cons_self)
  cases e
  refine ⟨fun k d hd => ?_, xs, .inl hr, by rw [ha.len]; exact Nat.le_refl _⟩
  obtain ⟨y, hy, hyd⟩ := ha.get hd
  refine ⟨⟨xs, y, .inl hr, hy⟩, fun x H' ⟨e1, e2⟩ => ?_⟩
  subst e1
  have ex : x = y := Option.some.inj ((e2 xs (.inl hr)).symm.trans hy)
  subst ex
  exact ⟨Same.refl _, hyd⟩
theorem src_tup {a : Addr} {ds : List PyData} : Src K (Itt K a) [.dat (.ref a) (.tuple ds)] ds := fun S H0 N0 Z N σ H ρ E => by
  obtain ⟨p, xs, e, _, hr, ha⟩ := Dq.tup_inv (E.hid _ List.mem_cons_self)
  cases e
  refine ⟨fun k d hd => ?_, xs, hr, by rw [ha.len]; exact Nat.le_refl _⟩
  obtain ⟨y, hy, hyd⟩ := ha.get hd
  refine ⟨⟨xs, y, hr, hy⟩, fun x H' ⟨e1, e2⟩ => ?_⟩
  subst e1
  have ex : x = y := Option.some.inj ((e2 xs hr).symm.trans hy)
  subst ex
  exact ⟨Same.refl _, hyd⟩
theorem src_rng {lo : Int} {n : Nat} : Src K (Itr lo n) [] ((List.range n).map fun k : Nat => PyData.int (lo + k)) := fun S H0 N0 Z N σ H ρ E => by
  refine ⟨fun k d hd => ?_, by show n ≤ _; simp⟩
  rw [List.getElem?_map] at hd
  by_cases hk : k < n
  · rw [List.getElem?_range hk] at hd
    cases hd
    refine ⟨hk, fun x H' ⟨e1, e2⟩ => ?_⟩
    subst e1; subst e2
    exact ⟨Same.refl _, Dt.int _⟩
  · rw [List.getElem?_eq_none (by simp; omega)] at hd
    cases hd
theorem src_enum {a : Addr} {ds : List PyData} : Src K (Ite K a) [.dat (.ref a) (.list ds)] (ds.mapIdx fun k d => PyData.tuple [.int k, d]) := fun S H0 N0 Z N σ H ρ E => by
  obtain ⟨p, xs, e, _, hr, ha⟩ := Dq.lst_inv (E.hid _ List.mem_cons_self)
  cases e
  refine ⟨fun k d hd => ?_, xs, .inl hr, by rw [ha.len]; simp⟩
  rw [List.getElem?_mapIdx] at hd
  obtain ⟨d0, hd0, rfl⟩ := Option.map_eq_some_iff.mp hd
  obtain ⟨y, hy, hyd⟩ := ha.get hd0
  refine ⟨⟨xs, y, .inl hr, hy⟩, fun v H' ⟨T, x, e1, e2, e3, e4⟩ => ?_⟩
  subst e1; subst e3
  have ex : x = y := Option.some.inj ((e4 xs (.inl hr)).symm.trans hy)
  subst ex
  have s := same_new e2 (.tup [.int (k : Nat), x])
  exact ⟨s, Dq.tup (fresh_av E.trk e2) upd_same (DqAll.cons (Dt.int _) (DqAll.cons (hyd.keep (Keep.of s)) DqAll.nil))⟩
theorem no_own1 {v : V} {d : PyData} : ∀ p es, Hd.own p es ∉ [Hd.dat v d] := fun p es h => by simp at h
theorem wi_list {tl : TE} {Θ : List PyData → Rho → Prop} (h : WD K S tl ρ fun d ρ1 => ∃ ds, d = .list ds ∧ Θ ds ρ1) : WI K S (iList K tl) ρ Θ := fun H0 N0 Z N σ H E R q =>
  h H0 N0 Z N σ H E _ fun v d ρ1 H1 ⟨ds, e, f⟩ E1 k1 d1 => by
    subst e
    obtain ⟨p, xs, rfl, hw, hr, ha⟩ := d1.lst_inv
    exact ⟨p, rfl, ⟨xs, .inl hr⟩, q _ _ ds ρ1 H1 f src_list no_own1 (E1.push d1) k1⟩
theorem wi_tup {tl : TE} {Θ : List PyData → Rho → Prop} (h : WD K S tl ρ fun d ρ1 => ∃ ds, d = .tuple ds ∧ Θ ds ρ1) : WI K S (iTup K tl) ρ Θ := fun H0 N0 Z N σ H E R q =>
  h H0 N0 Z N σ H E _ fun v d ρ1 H1 ⟨ds, e, f⟩ E1 k1 d1 => by
    subst e
    obtain ⟨p, xs, rfl, hw, hr, ha⟩ := d1.tup_inv
    exact ⟨p, rfl, ⟨xs, hr⟩, q _ _ ds ρ1 H1 f src_tup no_own1 (E1.push d1) k1⟩
theorem wi_enum {ta : TA} {Θ : List PyData → Rho → Prop} (h : WA K S ta ρ fun xs ρ1 => ∃ ds, xs = [.list ds] ∧ Θ (ds.mapIdx fun k d => PyData.tuple [.int k, d]) ρ1) : WI K S (iEnum K ta) ρ Θ := fun H0 N0 Z N σ H E R q =>
  h H0 N0 Z N σ H E _ fun vs xs ρ1 H1 ⟨ds, e, f⟩ E1 k1 d1 => by
    subst e
    cases d1 with
    | cons d1 d2 =>
      cases d2
      obtain ⟨p, xs, rfl, hw, hr, ha⟩ := Dq.lst_inv d1
      exact ⟨p, xs, rfl, .inl hr, q _ _ _ ρ1 H1 f src_enum no_own1 (E1.push d1) k1⟩
theorem wi_rng1 {ta : TA} {Θ : List PyData → Rho → Prop} (h : WA K S ta ρ fun xs ρ1 => ∃ n : Int, xs = [.int n] ∧ -(2 ^ 62) ≤ n ∧ n < 2 ^ 62 ∧ Θ ((List.range n.toNat).map fun k : Nat => PyData.int (0 + k)) ρ1) : WI K S (iRng1 ta) ρ Θ := fun H0 N0 Z N σ H E R q =>
  h H0 N0 Z N σ H E _ fun vs xs ρ1 H1 ⟨n, e, b1, b2, f⟩ E1 k1 d1 => by
    subst e
    cases d1 with
    | cons d1 d2 =>
      cases d2
      cases d1
      exact ⟨n, rfl, b1, b2, q _ [] _ ρ1 H1 f src_rng (fun p es h => by simp at h) E1 k1⟩
theorem gd_name {i : Nat} {d : PyData} : GD K (gName i) d [i] (fun ρ => ρ.set i (.dat d)) := fun S H0 N0 Z N σ H ρ x E hx Q q =>
  q _ (E.set hx) (List.length_set ..) fun j hj => set_ne fun e => hj (by simp [e])
theorem gd_pair {i j : Nat} {a b : PyData} : GD K (gTup K 2 (gCons (gName i) (gCons (gName j) gNil))) (.tuple [a, b]) [i, j] (fun ρ => (ρ.set i (.dat a)).set j (.dat b)) := fun S H0 N0 Z N σ H ρ x E hx Q q => by
  obtain ⟨p, xs, rfl, _, h1, h2⟩ := hx.tup_inv
  cases h2 with
  | cons a1 a2 =>
    cases a2 with
    | cons a2 a3 =>
      cases a3
      exact ⟨p, _, rfl, h1, rfl, _, _, rfl, _, _, rfl, rfl, q _ ((E.set a1).set a2) (by rw [List.length_set, List.length_set]) fun k hk => by
        have h1 : j ≠ k := fun e => hk (by simp [e])
        have h2 : i ≠ k := fun e => hk (by simp [e])
        rw [set_ne h1, set_ne h2]⟩
/-- for TARGET in THING -/
theorem ws_for {wi : TI} {g : TG} {tb : TS} {En : DE} (h : WI K S wi ρ fun ds ρ1 => ∃ I : Nat → Rho → Prop, I 0 ρ1 ∧
      (∀ k d ρ2, ds[k]? = some d → I k ρ2 → ∃ ts f, GD K g d ts f ∧ WS K S tb (f ρ2) { nx := I (k + 1), rt := En.rt, bk := En.nx, ct := I (k + 1) }) ∧ (∀ ρ2, I ds.length ρ2 → En.nx ρ2)) :
    WS K S (tFor wi g tb) ρ En := fun H0 N0 Z N σ H D E M =>
  h H0 N0 Z N σ H E _ fun J Zx ds ρ1 H1 ⟨I, i0, step, fin⟩ src _ E1 k1 => by
    refine ⟨fun k m σ' H' => ∃ N' ρ', EnvD K S H0 N0 (Zx ++ Z) N' σ' H' ρ' ∧ I k ρ' ∧ m = ds.length - k ∧ k ≤ ds.length, ⟨_, N, ρ1, E1, i0, rfl, Nat.zero_le _⟩, ?_⟩
    rintro k m σ' H' ⟨N', ρ', E', iv, rfl, hk⟩
    obtain ⟨s1, s2⟩ := src S H0 N0 Z N' σ' H' ρ' E'
    by_cases hlt : k < ds.length
    · have hd := List.getElem?_eq_getElem hlt
      obtain ⟨go, yl⟩ := s1 k _ hd
      obtain ⟨ts, f, gd, st⟩ := step k _ ρ' hd iv
      refine .inr ⟨go, fun σ2 H2 => ∃ N2 ρ2, EnvD K S H0 N0 (Zx ++ Z) N2 σ2 H2 ρ2 ∧ I (k + 1) ρ2, fun σ2 H2 ⟨N2, ρ2, E2, iv2⟩ => ⟨ds.length - (k + 1), by omega, N2, ρ2, E2, iv2, rfl, hlt⟩, fun x H2 hy => ?_⟩
      obtain ⟨sm, dx⟩ := yl x H2 hy
      exact gd S H0 N0 (Zx ++ Z) N' σ' H2 ρ' x (E'.ext sm) dx _ fun σ3 E3 _ _ => st H0 N0 _ N' _ _ _ E3 ⟨fun N2 σ2 H2 ρ2 q E2 => ⟨N2, ρ2, E2, q⟩, fun N2 σ2 H2 ρ2 v d q E2 => M.rt N2 σ2 H2 ρ2 v d q E2.popn, fun N2 σ2 H2 ρ2 q E2 => M.nx N2 σ2 H2 ρ2 q E2.popn, fun N2 σ2 H2 ρ2 q E2 => ⟨N2, ρ2, E2, q⟩⟩
    · have ek : k = ds.length := by omega
      subst ek
      exact .inl ⟨s2, M.nx N' σ' H' ρ' (fin ρ' iv) E'.popn⟩

/-! ### a comprehension's list -/
theorem EnvD.pushOwn (E : EnvD K S H0 N0 Z N σ H ρ) {p : Addr} (hp : H p = none) : EnvD K S H0 N0 (.own p [] :: Z) (fun b => N b || decide (b = p)) σ (upd H p (.lst [])) ρ := by
  obtain ⟨hp0, n0⟩ := free0 E hp
  have e : EnvD K S H0 N0 Z N (σ ++ [none]) H (ρ ++ [.unk]) := {
    keep := E.keep, base := E.base, trk := E.trk, sub := E.sub, hid := E.hid, injZ := E.injZ,
    len := by simp [E.len],
    slot := fun i s h => by
      by_cases hi : i < ρ.length
      · rw [List.getElem?_append_left hi] at h
        have q := E.slot i s h
        have hi2 : i < σ.length := by rw [← E.len]; exact hi
        cases s with
        | unk => trivial
        | dat d => obtain ⟨v, h1, h2⟩ := q; exact ⟨v, by rw [List.getElem?_append_left hi2]; exact h1, h2⟩
        | own ds => obtain ⟨v, xs, h1, h2⟩ := q; exact ⟨v, xs, by rw [List.getElem?_append_left hi2]; exact h1, h2⟩
        | sto B => obtain ⟨h1, h2⟩ := q; exact ⟨by rw [List.getElem?_append_left hi2]; exact h1, h2⟩
        | scr ns => obtain ⟨a, h1, h2⟩ := q; exact ⟨a, by rw [List.getElem?_append_left hi2]; exact h1, h2⟩
      · rw [List.getElem?_append_right (by omega)] at h
        have : s = .unk := by
          cases hh : i - ρ.length with
          | zero => rw [hh] at h; simpa using h.symm
          | succ n => rw [hh] at h; simp at h
        subst this; trivial
    injH := fun i di dj q h1 h2 hz => by
      by_cases hi : i < ρ.length
      · rw [List.getElem?_append_left hi] at h1
        rw [List.getElem?_append_left (by rw [← E.len]; exact hi)] at h2
        exact E.injH i di dj q h1 h2 hz
      · rw [List.getElem?_append_right (by omega)] at h1
        cases hh : i - ρ.length with
        | zero => rw [hh] at h1; simp at h1
        | succ n => rw [hh] at h1; simp at h1
    inj := fun i j di dj q h1 h2 h3 h4 => by
      have lo : ∀ {c : Nat} {dc : List PyData}, (ρ ++ [Sl.unk])[c]? = some (Sl.own dc) → c < ρ.length ∧ ρ[c]? = some (Sl.own dc) := fun {c dc} h => by
        by_cases hi : c < ρ.length
        · rw [List.getElem?_append_left hi] at h; exact ⟨hi, h⟩
        · rw [List.getElem?_append_right (by omega)] at h
          cases hh : c - ρ.length with
          | zero => rw [hh] at h; simp at h
          | succ n => rw [hh] at h; simp at h
      obtain ⟨b1, h1⟩ := lo h1
      obtain ⟨b2, h2⟩ := lo h2
      rw [List.getElem?_append_left (by rw [← E.len]; exact b1)] at h3
      rw [List.getElem?_append_left (by rw [← E.len]; exact b2)] at h4
      exact E.inj i j di dj q h1 h2 h3 h4 }
  have e2 := e.new (i := ρ.length) (ds := []) hp hp0 n0 DqAll.nil
  have r1 : (ρ ++ [Sl.unk]).set ρ.length (.own []) = ρ ++ [.own []] := by simp
  have r2 : (σ ++ [none]).set ρ.length (some (V.ref p)) = σ ++ [some (V.ref p)] := by rw [E.len]; simp
  rw [r1, r2] at e2
  have lt : ∀ {i : Nat} {s : Sl}, ρ[i]? = some s → i < ρ.length ∧ i < σ.length := fun {i s} h => by
    have h1 := (List.getElem?_eq_some_iff.mp h).1
    exact ⟨h1, by rw [← E.len]; exact h1⟩
  have up : ∀ {i : Nat} {s : Sl}, ρ[i]? = some s → (ρ ++ [Sl.own []])[i]? = some s := fun h => by rw [List.getElem?_append_left (lt h).1]; exact h
  have lastR : (ρ ++ [Sl.own []])[ρ.length]? = some (.own []) := by simp
  have lastS : (σ ++ [some (V.ref p)])[ρ.length]? = some (some (V.ref p)) := by rw [E.len]; simp
  refine ⟨e2.keep, e2.base, e2.trk, e2.sub, fun i s h => ?_, E.len, fun z h => ?_, fun i di dj q h1 h2 hz => ?_, fun i j di dj q h1 h2 => ?_, E.inj⟩
  · have q := e2.slot i s (up h)
    have l2 := (lt h).2
    cases s with
    | unk => trivial
    | dat d => obtain ⟨v, h1, h2⟩ := q; exact ⟨v, by rw [List.getElem?_append_left l2] at h1; exact h1, h2⟩
    | own ds => obtain ⟨v, xs, h1, h2⟩ := q; exact ⟨v, xs, by rw [List.getElem?_append_left l2] at h1; exact h1, h2⟩
    | sto B => obtain ⟨h1, h2⟩ := q; exact ⟨by rw [List.getElem?_append_left l2] at h1; exact h1, h2⟩
    | scr ns => obtain ⟨a, h1, h2⟩ := q; exact ⟨a, by rw [List.getElem?_append_left l2] at h1; exact h1, h2⟩
  · rcases List.mem_cons.mp h with e | h
    · subst e
      obtain ⟨p', xs, h1, h2⟩ := e2.slot ρ.length _ lastR
      rw [lastS] at h1; cases h1
      exact ⟨xs, h2⟩
    · exact e2.hid z h
  · rcases List.mem_cons.mp hz with e | hz
    · cases e
      have := e2.inj i ρ.length di [] p (up h1) lastR (by rw [List.getElem?_append_left (lt h1).2]; exact h2) lastS
      exact absurd (lt h1).1 (by omega)
    · exact E.injH i di dj q h1 h2 hz
  · cases i with
    | zero =>
      cases j with
      | zero => rfl
      | succ j =>
        exfalso
        simp at h1
        obtain ⟨h1a, h1b⟩ := h1
        subst h1a
        exact e2.injH ρ.length [] dj p lastR lastS (List.mem_of_getElem? (by simpa using h2))
    | succ i =>
      cases j with
      | zero =>
        exfalso
        simp at h2
        obtain ⟨h2a, h2b⟩ := h2
        subst h2a
        exact e2.injH ρ.length [] di p lastR lastS (List.mem_of_getElem? (by simpa using h1))
      | succ j => exact congrArg (· + 1) (E.injZ i j di dj q (by simpa using h1) (by simpa using h2))
end
end DL

set_option Elab.async false
set_option linter.all false
set_option maxRecDepth 100000
set_option maxHeartbeats 2000000
namespace DL
open PySem L2
section
variable {K : PySem.W.Frag} {S : Stt} {H0 : Hp} {N0 : Av} {Z : List Hd} {N : Av} {σ : L2.St} {H H' : Hp} {ρ : Rho} {Φ : PyData → Rho → Prop} {Ψ : PyData → Prop}
theorem EnvD.chgH {p : Addr} {ys : List V} {es fs : List PyData} (E : EnvD K S H0 N0 (.own p es :: Z) N σ H ρ) (hq : DqAll K N H ys fs) : EnvD K S H0 N0 (.own p fs :: Z) N σ (upd H p (.lst ys)) ρ := by
  obtain ⟨xs, g2, g3, g4, g5, g6, g7⟩ := E.hid _ List.mem_cons_self
  have kp : ∀ b o, b ≠ p → H b = some o → upd H p (.lst ys) b = some o := fun b o hb h => by rw [upd_ne hb]; exact h
  have kn : Keep N H (upd H p (.lst ys)) := fun b o n h => kp b o (fun e => by rw [e, g2] at n; cases n) h
  refine ⟨fun b o n h => kp b o (fun e => by rw [e, g5] at h; cases h) (E.keep b o n h), E.base, fun b h => ?_, E.sub, fun j t h => ?_, E.len, fun z h => ?_, fun i di dj q h1 h2 hz => ?_, fun i j di dj q h1 h2 => ?_, E.inj⟩
  · by_cases e : b = p
    · rw [e, upd_same]; simp
    · rw [upd_ne e]; exact E.trk b h
  · have q := E.slot j t h
    cases t with
    | unk => trivial
    | dat d => obtain ⟨v, h1, h2⟩ := q; exact ⟨v, h1, h2.keep kn⟩
    | own us =>
      obtain ⟨q, zs, h1, h2, h3, h4, h5, h6, h7⟩ := q
      have hne : q ≠ p := fun e2 => by subst e2; exact E.injH j _ _ _ h h1 List.mem_cons_self
      exact ⟨q, zs, h1, h2, h3, h4, h5, kp _ _ hne h6, h7.keep kn⟩
    | sto B => obtain ⟨h1, h2⟩ := q; exact ⟨h1, S.loc H _ B (fun b hb => upd_ne fun e => by rw [e, g3] at hb; cases hb) h2⟩
    | scr ns => obtain ⟨a, h1, h2⟩ := q; exact ⟨a, h1, kn.wo.seq h2⟩
  · rcases List.mem_cons.mp h with e | hz
    · subst e
      exact ⟨ys, g2, g3, g4, g5, upd_same, hq.keep kn⟩
    · have q := E.hid z (List.mem_cons_of_mem _ hz)
      cases z with
      | dat v d => exact Dq.keep q kn
      | own q' zs =>
        obtain ⟨us, h2, h3, h4, h5, h6, h7⟩ := q
        have hne : q' ≠ p := fun e2 => by
          subst e2
          obtain ⟨n, hn⟩ := List.getElem?_of_mem hz
          have := E.injZ 0 (n + 1) es zs q' rfl (by simpa using hn)
          cases this
        exact ⟨us, h2, h3, h4, h5, kp _ _ hne h6, h7.keep kn⟩
  · rcases List.mem_cons.mp hz with e | hz
    · cases e
      exact E.injH i di es p h1 h2 List.mem_cons_self
    · exact E.injH i di dj q h1 h2 (List.mem_cons_of_mem _ hz)
  · have lo : ∀ {c : Nat} {dc : List PyData} {q : Addr}, (Hd.own p fs :: Z)[c]? = some (Hd.own q dc) → ∃ dc', (Hd.own p es :: Z)[c]? = some (Hd.own q dc') := fun {c dc q} h => by
      cases c with
      | zero => simp at h; obtain ⟨e, _⟩ := h; subst e; exact ⟨es, rfl⟩
      | succ c => exact ⟨dc, by simpa using h⟩
    obtain ⟨d1, h1⟩ := lo h1
    obtain ⟨d2, h2⟩ := lo h2
    exact E.injZ i j d1 d2 q h1 h2
theorem EnvD.popOwn {p : Addr} {es : List PyData} (np : N p = false) (E : EnvD K S H0 N0 (.own p es :: Z) (fun b => N b || decide (b = p)) σ H ρ) : EnvD K S H0 N0 Z N σ H ρ ∧ Dq K N H (.ref p) (.list es) := by
  obtain ⟨xs, g2, g3, g4, g5, g6, g7⟩ := E.hid _ List.mem_cons_self
  have le : Le N (fun b => N b || decide (b = p)) := fun b h => by simp [h]
  have ne : ∀ {q : Addr}, q ≠ p → (N q || decide (q = p)) = true → N q = true := fun h n => by simpa [h] using n
  refine ⟨⟨E.keep, fun b h => ne (fun e => by rw [e, g4] at h; cases h) (E.base b h), fun b h => E.trk b (le b h), fun b h => ne (fun e => by rw [e, g3] at h; cases h) (E.sub b h), fun j t h => ?_, E.len, fun z h => ?_, fun i di dj q h1 h2 hz => E.injH i di dj q h1 h2 (List.mem_cons_of_mem _ hz), E.pop.injZ, E.inj⟩, Dq.lst np g6 (g7.le le)⟩
  · have q := E.slot j t h
    cases t with
    | unk => trivial
    | dat d => obtain ⟨v, h1, h2⟩ := q; exact ⟨v, h1, h2.le le⟩
    | own us =>
      obtain ⟨q, zs, h1, h2, h3, h4, h5, h6, h7⟩ := q
      have hne : q ≠ p := fun e2 => by subst e2; exact E.injH j _ _ _ h h1 List.mem_cons_self
      exact ⟨q, zs, h1, ne hne h2, h3, h4, h5, h6, h7.le le⟩
    | sto B => exact q
    | scr ns => obtain ⟨a, h1, h2⟩ := q; exact ⟨a, h1, le.wo.seq h2⟩
  · have q := E.hid z (List.mem_cons_of_mem _ h)
    cases z with
    | dat v d => exact Dq.le q le
    | own q' zs =>
      obtain ⟨us, h2, h3, h4, h5, h6, h7⟩ := q
      have hne : q' ≠ p := fun e2 => by
        subst e2
        obtain ⟨n, hn⟩ := List.getElem?_of_mem h
        have := E.injZ 0 (n + 1) es zs q' rfl (by simpa using hn)
        cases this
      exact ⟨us, ne hne h2, h3, h4, h5, h6, h7.le le⟩
/-! ### wiping names -/
theorem wipe_get (σ : L2.St) : ∀ (vs : List Nat) (j : Nat), (L2.wipe σ vs)[j]? = if j ∈ vs ∧ j < σ.length then some none else σ[j]?
  | [], j => by simp [L2.wipe]
  | v :: vs, j => by
    show ((L2.wipe σ vs).set v none)[j]? = _
    by_cases e : v = j
    · subst e
      by_cases hl : v < σ.length
      · rw [List.getElem?_set_self (by rw [wipe_length]; exact hl), if_pos ⟨List.mem_cons_self, hl⟩]
      · rw [if_neg (fun q => hl q.2), List.getElem?_eq_none (by rw [List.length_set, wipe_length]; omega), List.getElem?_eq_none (by omega)]
    · rw [List.getElem?_set_ne e, wipe_get σ vs j]
      have : (j ∈ v :: vs ∧ j < σ.length) ↔ (j ∈ vs ∧ j < σ.length) := by
        simp only [List.mem_cons]
        constructor
        · rintro ⟨q | q, l⟩
          · exact absurd q.symm e
          · exact ⟨q, l⟩
        · rintro ⟨q, l⟩; exact ⟨.inr q, l⟩
      simp only [this]
theorem wipe_off {σ τ : L2.St} {vs : List Nat} (hl : τ.length = σ.length) (h : ∀ j, j ∉ vs → τ[j]? = (L2.wipe σ vs)[j]?) : L2.wipe τ vs = L2.wipe σ vs := by
  refine List.ext_getElem? fun j => ?_
  rw [wipe_get τ]
  by_cases hj : j ∈ vs
  · by_cases hl2 : j < τ.length
    · rw [if_pos ⟨hj, hl2⟩, wipe_get, if_pos ⟨hj, by rw [← hl]; exact hl2⟩]
    · rw [if_neg (fun q => hl2 q.2), List.getElem?_eq_none (by omega), List.getElem?_eq_none (by rw [wipe_length]; omega)]
  · rw [if_neg (fun q => hj q.1)]; exact h j hj
/-- back to the wiped names -/
theorem EnvD.rewipe {τ : L2.St} {vs : List Nat} (E : EnvD K S H0 N0 Z N τ H ρ) (e : L2.wipe τ vs = L2.wipe σ vs) : EnvD K S H0 N0 Z N (L2.wipe σ vs) H (wipeR ρ vs) := by
  rw [← e]; exact E.wipe vs
theorem EnvD.mid {z : Hd} {Zx : List Hd} (E : EnvD K S H0 N0 (z :: (Zx ++ Z)) N σ H ρ) : EnvD K S H0 N0 (z :: Z) N σ H ρ where
  keep := E.keep
  base := E.base
  trk := E.trk
  sub := E.sub
  slot := E.slot
  len := E.len
  hid w hw := E.hid w (by
    rcases List.mem_cons.mp hw with e | e
    · subst e; exact List.mem_cons_self
    · exact List.mem_cons_of_mem _ (List.mem_append_right _ e))
  injH i di dj p h1 h2 hz := E.injH i di dj p h1 h2 (by
    rcases List.mem_cons.mp hz with e | e
    · subst e; exact List.mem_cons_self
    · exact List.mem_cons_of_mem _ (List.mem_append_right _ e))
  injZ i j di dj p h1 h2 := by
    have up : ∀ {c : Nat} {dc : List PyData}, (z :: Z)[c]? = some (Hd.own p dc) → (z :: (Zx ++ Z))[if c = 0 then 0 else c + Zx.length]? = some (Hd.own p dc) := fun {c dc} h => by
      cases c with
      | zero => simpa using h
      | succ c =>
        have h' : Z[c]? = some (Hd.own p dc) := by simpa using h
        rw [if_neg (by omega), show c + 1 + Zx.length = (Zx.length + c) + 1 by omega, List.getElem?_cons_succ, List.getElem?_append_right (by omega)]
        simpa using h'
    have q := E.injZ _ _ di dj p (up h1) (up h2)
    by_cases hi : i = 0 <;> by_cases hj : j = 0 <;> simp [hi, hj] at q <;> omega
  inj := E.inj
/-- [elt for TARGET in THING if TEST] -/
theorem lc_own {Θ : List PyData → Rho → Prop} {wi : TI} {g : TG} {tt : TT} {te : TE} {vs : List Nat} (h : WI K S wi ρ fun ds ρ1 => ds.length ≤ sizeLine ∧ ∃ I : Nat → List PyData → Rho → Prop, I 0 [] (wipeR ρ1 vs) ∧
      (∀ k d acc ρ2, ds[k]? = some d → I k acc ρ2 → ∃ ts f, GD K g d ts f ∧ (∀ j ∈ ts, j ∈ vs) ∧
        WT K S tt (f ρ2) fun b ρ3 => if b = true then WD K S te ρ3 fun y ρ4 => I (k + 1) (acc ++ [y]) (wipeR ρ4 vs) else I (k + 1) acc (wipeR ρ3 vs)) ∧
      (∀ acc ρ2, I ds.length acc ρ2 → Θ acc (wipeR ρ2 vs))) (E : EnvD K S H0 N0 Z N σ H ρ) {Q : VK}
    (q : ∀ D acc ρ' H', N D = false → Θ acc ρ' → EnvD K S H0 N0 (.own D acc :: Z) (fun b => N b || decide (b = D)) σ H' ρ' → Keep N H H' → Q (.ref D) H') : tLc wi g tt te vs σ H Q :=
  h H0 N0 Z N σ H E _ fun J Zx ds ρ1 H1 ⟨hz, I, i0, step, fin⟩ src nz E1 k1 D hD => by
    have nD : N D = false := fresh_av E1.trk hD
    have srcO : ∀ {acc : List PyData} {N' σ' H' ρ'}, EnvD K S H0 N0 (.own D acc :: (Zx ++ Z)) N' σ' H' ρ' → _ := fun {acc N' σ' H' ρ'} E' => src S H0 N0 Z N' σ' H' ρ' E'.pop
    refine ⟨fun k m H' => ∃ ρ' acc, EnvD K S H0 N0 (.own D acc :: (Zx ++ Z)) (fun b => N b || decide (b = D)) (L2.wipe σ vs) H' ρ' ∧ Keep N H1 H' ∧ I k acc ρ' ∧ acc.length ≤ k ∧ m = ds.length - k ∧ k ≤ ds.length,
      ⟨_, _, [], (E1.pushOwn hD).wipe vs, Keep.of (same_new hD _), i0, Nat.le_refl _, rfl, Nat.zero_le _⟩, ?_⟩
    rintro k m H' ⟨ρ', acc, E', kk, iv, hacc, rfl, hk⟩
    obtain ⟨s1, s2⟩ := srcO E'
    have kN : ∀ {Ha Hb : Hp}, Keep (fun b => N b || decide (b = D)) Ha Hb → Keep N H1 Ha → (∀ ys, Keep N H1 (upd Hb D (.lst ys))) ∧ Keep N H1 (upd Hb D (.lst [])) := fun {Ha Hb} ka kb => by
      have z : ∀ ys, Keep N H1 (upd Hb D (.lst ys)) := fun ys b o n hb => by
        have hne : b ≠ D := ne_of_none hb hD
        rw [upd_ne hne]
        exact ka b o (by simp [n, hne]) (kb b o n hb)
      exact ⟨z, z []⟩
    have kN2 : ∀ {Ha Hb : Hp}, Keep (fun b => N b || decide (b = D)) Ha Hb → Keep N H1 Ha → Keep N H1 Hb := fun {Ha Hb} ka kb b o n hb => ka b o (by simp [n, ne_of_none hb hD]) (kb b o n hb)
    by_cases hlt : k < ds.length
    · have hd := List.getElem?_eq_getElem hlt
      obtain ⟨go, yl⟩ := s1 k _ hd
      obtain ⟨ts, f, gd, hts, st⟩ := step k _ acc ρ' hd iv
      refine .inr ⟨go, fun H2 => ∃ ρ2 acc2, EnvD K S H0 N0 (.own D acc2 :: (Zx ++ Z)) (fun b => N b || decide (b = D)) (L2.wipe σ vs) H2 ρ2 ∧ Keep N H1 H2 ∧ I (k + 1) acc2 ρ2 ∧ acc2.length ≤ k + 1, fun H2 ⟨ρ2, acc2, E2, kk2, iv2, ha2⟩ => ⟨ds.length - (k + 1), by omega, ρ2, acc2, E2, kk2, iv2, ha2, rfl, hlt⟩, fun x H2 hy => ?_⟩
      obtain ⟨sm, dx⟩ := yl x H2 hy
      refine gd S H0 N0 _ _ _ H2 ρ' x (E'.ext sm) dx _ fun σ3 E3 hl3 off3 => ?_
      have ew : L2.wipe σ3 vs = L2.wipe σ vs := wipe_off (by rw [hl3, wipe_length]) fun j hj => off3 j fun q => hj (hts j q)
      refine ⟨ew, st H0 N0 _ _ σ3 H2 E3 _ fun b ρ3 H3 fb E3' k3 => ?_⟩
      have kk3 : Keep N H1 H3 := kN2 k3 (kN2 (Keep.of sm) kk)
      cases b with
      | false => exact ⟨_, acc, E3'.rewipe ew, kk3, fb, Nat.le_succ_of_le hacc⟩
      | true =>
        refine fb H0 N0 _ _ σ3 H3 E3' _ fun y d ρ4 H4 f4 E4 k4 d4 => ?_
        obtain ⟨us, g2, g3, g4, g5, g6, g7⟩ := E4.hid _ List.mem_cons_self
        refine ⟨us, g6, ?_, _, acc ++ [d], (E4.chgH (g7.append (DqAll.cons d4 DqAll.nil))).rewipe ew, (kN k4 kk3).1 _, f4, by simp; omega⟩
        rw [g7.len]; omega
    · have ek : k = ds.length := by omega
      subst ek
      exact .inl ⟨s2, q D acc _ H' nD (fin acc ρ' iv) E'.mid.unwipe (k1.trans kk)⟩
theorem wd_lc {wi : TI} {g : TG} {tt : TT} {te : TE} {vs : List Nat} (h : WI K S wi ρ fun ds ρ1 => ds.length ≤ sizeLine ∧ ∃ I : Nat → List PyData → Rho → Prop, I 0 [] (wipeR ρ1 vs) ∧
      (∀ k d acc ρ2, ds[k]? = some d → I k acc ρ2 → ∃ ts f, GD K g d ts f ∧ (∀ j ∈ ts, j ∈ vs) ∧
        WT K S tt (f ρ2) fun b ρ3 => if b = true then WD K S te ρ3 fun y ρ4 => I (k + 1) (acc ++ [y]) (wipeR ρ4 vs) else I (k + 1) acc (wipeR ρ3 vs)) ∧
      (∀ acc ρ2, I ds.length acc ρ2 → Φ (.list acc) (wipeR ρ2 vs))) : WD K S (tLc wi g tt te vs) ρ Φ := fun H0 N0 Z N σ H E Q q =>
  lc_own (Θ := fun acc ρ' => Φ (.list acc) ρ') h E fun D acc ρ' H' nD f E' k => by
    obtain ⟨E5, d5⟩ := E'.popOwn nD
    exact q _ _ ρ' H' f E5 k d5
end
end DL

set_option Elab.async false
set_option linter.all false
set_option maxRecDepth 100000
set_option maxHeartbeats 2000000
namespace DL
open PySem L2
/-! ### promises over data -/
def spP (K : PySem.W.Frag) (T : List PyData → (PyData → Prop) → Prop) : Sp := fun vs H Q _ => ∃ (N : Av) (ds : List PyData) (Φ : PyData → Prop),
  (∀ b, N b = true → H b ≠ none) ∧ DqAll K N H vs ds ∧ T ds Φ ∧ ∀ d, Φ d → ∀ v H', Same H H' → Dq K N H' v d → Q v H'
/-- the same, and what is raised: an error of the class at C without fields -/
def spX (K : PySem.W.Frag) (T : List PyData → (PyData → Prop) → (Addr → Prop) → Prop) : Sp := fun vs H Q E => ∃ (N : Av) (ds : List PyData) (Φ : PyData → Prop) (Ψ : Addr → Prop),
  (∀ b, N b = true → H b ≠ none) ∧ DqAll K N H vs ds ∧ T ds Φ Ψ ∧ (∀ d, Φ d → ∀ v H', Same H H' → Dq K N H' v d → Q v H') ∧ ∀ C, Ψ C → ∀ H', Same H H' → E (.ref C) none H'
/-- with a store in front, F: which -/
def spS (K : PySem.W.Frag) (F : Stt → Prop) (T : Nat → List PyData → (PyData → Nat → Prop) → Prop) : Sp := fun vs H Q _ => ∃ (S : Stt) (N : Av) (us : List V) (ds : List PyData) (B : Nat) (Φ : PyData → Nat → Prop),
  vs = .ref S.a :: us ∧ F S ∧ S.ok H B ∧ Le S.fp N ∧ (∀ b, N b = true → H b ≠ none) ∧ DqAll K N H us ds ∧ T B ds Φ ∧
  ∀ d B', Φ d B' → ∀ v H', (∀ b o, S.fp b = false → H b = some o → H' b = some o) → S.ok H' B' → Dq K N H' v d → Q v H'
def rhoOf (n : Nat) (ds : List PyData) : Rho := ds.map Sl.dat ++ List.replicate (n - ds.length) Sl.unk
def stoS (B : Nat) : Sl → Sl
  | .sto _ => .sto B
  | s => s
def stoAll (B : Nat) : Rho → Rho
  | [] => []
  | s :: r => stoS B s :: stoAll B r
theorem stoAll_get {B : Nat} : ∀ {ρ : Rho} {i : Nat} {s : Sl}, (stoAll B ρ)[i]? = some s → (s = .sto B ∧ ∃ B0, ρ[i]? = some (.sto B0)) ∨ ((∀ B0, s ≠ .sto B0) ∧ ρ[i]? = some s)
  | [], i, s, h => by simp [stoAll] at h
  | t :: r, 0, s, h => by
    cases t <;> simp [stoAll, stoS] at h <;> subst h
    · exact .inr ⟨fun _ => nofun, rfl⟩
    · exact .inr ⟨fun _ => nofun, rfl⟩
    · exact .inr ⟨fun _ => nofun, rfl⟩
    · exact .inl ⟨rfl, _, rfl⟩
    · exact .inr ⟨fun _ => nofun, rfl⟩
  | t :: r, i + 1, s, h => by
    have h2 : (stoAll B r)[i]? = some s := by cases t <;> simpa [stoAll, stoS] using h
    simpa using stoAll_get h2
theorem stoAll_len {B : Nat} : ∀ {ρ : Rho}, (stoAll B ρ).length = ρ.length
  | [] => rfl
  | t :: r => by simp [stoAll, stoAll_len (ρ := r)]
section
variable {K : PySem.W.Frag} {S : Stt} {H0 : Hp} {N0 : Av} {Z : List Hd} {N : Av} {σ : L2.St} {H H' : Hp} {ρ : Rho} {Φ : PyData → Rho → Prop} {Ψ : PyData → Prop}
theorem rhoOf_get {n : Nat} {ds : List PyData} {i : Nat} {s : Sl} (h : (rhoOf n ds)[i]? = some s) : s = .unk ∨ ∃ d, ds[i]? = some d ∧ s = .dat d := by
  unfold rhoOf at h
  by_cases hi : i < ds.length
  · rw [List.getElem?_append_left (by simpa using hi), List.getElem?_map, List.getElem?_eq_getElem hi] at h
    exact .inr ⟨_, List.getElem?_eq_getElem hi, by simpa using h.symm⟩
  · rw [List.getElem?_append_right (by simpa using hi), List.getElem?_replicate] at h
    split at h
    · exact .inl (Option.some.inj h).symm
    · cases h
theorem start_get {Nm : List Str} {vs : List V} {i : Nat} {v : V} (h : vs[i]? = some v) : (L2.start Nm vs)[i]? = some (some v) := by
  have hi := (List.getElem?_eq_some_iff.mp h).1
  show (vs.map some ++ List.replicate (Nm.length - vs.length) none)[i]? = _
  rw [List.getElem?_append_left (by simpa using hi), List.getElem?_map, h]; rfl
theorem env_start {Nm : List Str} {vs : List V} {ds : List PyData} (ht : ∀ b, N b = true → H b ≠ none) (hd : DqAll K N H vs ds) : EnvD K S0 H N [] N (L2.start Nm vs) H (rhoOf Nm.length ds) where
  keep _ _ _ h := h
  base := Le.refl
  trk := ht
  sub _ h := nomatch h
  len := by simp [rhoOf, L2.start, hd.len]
  hid _ h := nomatch h
  injZ i j di dj p h := by simp at h
  slot i s h := by
    rcases rhoOf_get h with e | ⟨d, e, e2⟩
    · subst e; trivial
    · subst e2
      obtain ⟨v, h1, h2⟩ := hd.get e
      exact ⟨v, start_get h1, h2⟩
  injH i di dj p h := by
    rcases rhoOf_get h with e | ⟨d, _, e2⟩
    · cases e
    · cases e2
  inj i j di dj p h := by
    rcases rhoOf_get h with e | ⟨d, _, e2⟩
    · cases e
    · cases e2
/-- a def's body keeps a promise over data -/
theorem run_P {T : List PyData → (PyData → Prop) → Prop} {Nm : List Str} {ts : TS} {vs : List V} {Q : VK} {E : XK} (h : spP K T vs H Q E)
    (b : ∀ ds Φ, T ds Φ → WS K S0 ts (rhoOf Nm.length ds) { nx := fun _ => Φ .none, rt := fun d _ => Φ d }) : ts { nx := fun _ H' => Q .non H', rt := Q } (L2.start Nm vs) H := by
  obtain ⟨N, ds, Φ, ht, hd, hT, hQ⟩ := h
  exact b ds Φ hT H N [] N _ H _ (env_start ht hd) ⟨fun N' σ' H' ρ' q E' => hQ _ q _ _ (fun b o h => E'.keep b o rfl h) Dt.non, fun N' σ' H' ρ' v d q E' dv => hQ _ q _ _ (fun b o h => E'.keep b o rfl h) dv, fun _ _ _ _ q => q.elim, fun _ _ _ _ q => q.elim⟩
/-- with a store -/
theorem run_S {F : Stt → Prop} {T : Nat → List PyData → (PyData → Nat → Prop) → Prop} {Nm : List Str} {ts : TS} {vs : List V} {Q : VK} {E : XK} (h : spS K F T vs H Q E)
    (b : ∀ S B ds Φ, F S → T B ds Φ → WS K S ts (.sto B :: rhoOf (Nm.length - 1) ds) { nx := fun _ => False, rt := fun d ρ => ∃ B', ρ[0]? = some (.sto B') ∧ Φ d B' }) (hn : 0 < Nm.length) : ts { nx := fun _ H' => Q .non H', rt := Q } (L2.start Nm vs) H := by
  obtain ⟨S, N, us, ds, B, Φ, rfl, hF, hok, hle, ht, hd, hT, hQ⟩ := h
  have E0 : EnvD K S H N [] N (L2.start Nm (V.ref S.a :: us)) H (.sto B :: rhoOf (Nm.length - 1) ds) := {
    keep := fun _ _ _ h => h, base := Le.refl, trk := ht, sub := hle, hid := fun _ h => (nomatch h), injZ := fun i j di dj p h => by simp at h
    len := by have e := hd.len; simp [rhoOf, L2.start]; omega
    slot := fun i s h => by
      cases i with
      | zero =>
        have e : s = .sto B := by simpa using h.symm
        subst e
        exact ⟨start_get rfl, hok⟩
      | succ i =>
        rcases rhoOf_get (show (rhoOf (Nm.length - 1) ds)[i]? = some s by simpa using h) with e | ⟨d, e, e2⟩
        · subst e; trivial
        · subst e2
          obtain ⟨v, h1, h2⟩ := hd.get e
          exact ⟨v, start_get (by simpa using h1), h2⟩
    injH := fun i di dj p h => by
      cases i with
      | zero => simp at h
      | succ i =>
        rcases rhoOf_get (show (rhoOf (Nm.length - 1) ds)[i]? = some (.own di) by simpa using h) with e | ⟨d, _, e2⟩
        · cases e
        · cases e2
    inj := fun i j di dj p h => by
      cases i with
      | zero => simp at h
      | succ i =>
        rcases rhoOf_get (show (rhoOf (Nm.length - 1) ds)[i]? = some (.own di) by simpa using h) with e | ⟨d, _, e2⟩
        · cases e
        · cases e2 }
  refine b S B ds Φ hF hT H N [] N _ H _ E0 ⟨fun _ _ _ _ q => q.elim, fun N' σ' H' ρ' v d ⟨B', e, q⟩ E' dv => ?_, fun _ _ _ _ q => q.elim, fun _ _ _ _ q => q.elim⟩
  exact hQ _ _ q _ _ (fun b o n h => E'.keep b o n h) (E'.slot 0 _ e).2 dv
/-- a call of such a def -/
theorem wd_call {T : List PyData → (PyData → Prop) → Prop} {dvs : List V} {dds : List PyData} {E : XK} {ta : TA} (hd : ∀ H : Hp, DtAll K H dvs dds) (h : WA K S ta ρ fun xs ρ1 => T (xs ++ dds) fun d => Φ d ρ1) :
    WD K S (tCall (spP K T) dvs E ta) ρ Φ := fun H0 N0 Z N σ H E' Q q =>
  h H0 N0 Z N σ H E' _ fun vs xs ρ1 H1 f E1 k1 d1 => ⟨N, xs ++ dds, _, E1.trk, d1.append (hd _), f, fun d fd v H2 s dv => q v d ρ1 H2 fd (E1.ext s) (k1.trans (Keep.of s)) dv⟩
theorem wd_call0 {T : List PyData → (PyData → Prop) → Prop} {E : XK} {ta : TA} (h : WA K S ta ρ fun xs ρ1 => T xs fun d => Φ d ρ1) : WD K S (tCall (spP K T) [] E ta) ρ Φ :=
  wd_call (dds := []) (fun _ => DtAll.nil) (fun H0 N0 Z N σ H E' Q q => h H0 N0 Z N σ H E' Q fun vs ds ρ' H' f => q vs ds ρ' H' (by show T (ds ++ []) _; rw [List.append_nil]; exact f))
/-- a call of a def that takes the store -/
theorem wd_callS {F : Stt → Prop} {T : Nat → List PyData → (PyData → Nat → Prop) → Prop} {E : XK} {ta : TA} {i : Nat} {B0 : Nat} (hF : F S) (hi : ρ[i]? = some (.sto B0))
    (h : WA K S ta ρ fun xs ρ1 => ∃ B, ρ1[i]? = some (.sto B) ∧ T B xs fun d B' => Φ d (stoAll B' ρ1)) : WD K S (tCall (spS K F T) [] E (tCons (tVar i) ta)) ρ Φ := fun H0 N0 Z N σ H E' Q q => by
  obtain ⟨hs, _⟩ := E'.slot i _ hi
  refine ⟨_, hs, h H0 N0 Z N σ H E' _ fun vs xs ρ1 H1 ⟨B, e, f⟩ E1 k1 d1 => ?_⟩
  obtain ⟨_, hok⟩ := E1.slot i _ e
  refine ⟨S, N, vs, xs, B, _, by simp, hF, hok, E1.sub, E1.trk, d1, f, fun d B' fd v H2 fr ok2 dv => ?_⟩
  have kk : Keep N H1 H2 := fun b o n hb => fr b o (by
    cases z : S.fp b with
    | false => rfl
    | true => rw [E1.sub b z] at n; cases n) hb
  have E2 : EnvD K S H0 N0 Z N σ H2 (stoAll B' ρ1) := {
    keep := fun b o n hb => fr b o n (E1.keep b o n hb)
    base := E1.base
    trk := fun b hb => by
      cases z : S.fp b with
      | true => exact S.trk H2 B' ok2 b z
      | false =>
        intro q2
        cases w : H1 b with
        | none => exact E1.trk b hb w
        | some o => rw [fr b o z w] at q2; cases q2
    sub := E1.sub
    len := by rw [stoAll_len]; exact E1.len
    slot := fun j s hj => by
      rcases stoAll_get hj with ⟨e1, B1, e2⟩ | ⟨e1, e2⟩
      · subst e1
        exact ⟨(E1.slot j _ e2).1, ok2⟩
      · have w := E1.slot j _ e2
        cases s with
        | unk => trivial
        | dat d => obtain ⟨u, h1, h2⟩ := w; exact ⟨u, h1, h2.keep kk⟩
        | own us => obtain ⟨p, zs, h1, h2, h3, h4, h5, h6, h7⟩ := w; exact ⟨p, zs, h1, h2, h3, h4, h5, fr _ _ h3 h6, h7.keep kk⟩
        | sto B2 => exact absurd rfl (e1 B2)
        | scr ns => obtain ⟨a, h1, h2⟩ := w; exact ⟨a, h1, kk.wo.seq h2⟩
    hid := fun z hz => by
      have w := E1.hid z hz
      cases z with
      | dat v d => exact Dq.keep w kk
      | own p us => obtain ⟨zs, h2, h3, h4, h5, h6, h7⟩ := w; exact ⟨zs, h2, h3, h4, h5, fr _ _ h3 h6, h7.keep kk⟩
    injZ := E1.injZ
    injH := fun a da dj p h1 => by
      rcases stoAll_get h1 with ⟨e1, _⟩ | ⟨_, e2⟩
      · cases e1
      · exact E1.injH a da dj p e2
    inj := fun a b da db p h1 h2 => by
      rcases stoAll_get h1 with ⟨e1, _⟩ | ⟨_, e2⟩
      · cases e1
      · rcases stoAll_get h2 with ⟨e1, _⟩ | ⟨_, e3⟩
        · cases e1
        · exact E1.inj a b da db p e2 e3 }
  exact q v d _ H2 fd E2 (k1.trans kk) dv
end
end DL

set_option Elab.async false
set_option linter.all false
set_option maxRecDepth 100000
set_option maxHeartbeats 2000000
namespace DL
open PySem PySem.Spec PyProof.Rows L2
/-- a def's promise where no text of a list is being made around the call -/
structure FnG (P : Program) (w : World) (K : PySem.W.Frag) (mg : Str → Option Value) (base : Heap) (CX : CXT) (k : Nat) (f : Addr) (fd : FuncData) (ps : List Str) (sp : Sp) : Prop where
  len : ∀ vs H Q E, sp vs H Q E → vs.length = ps.length
  run : ∀ (A : Around) (outer : List Env) (s : Shared) (H : Hp) (args : Args) (us : List Value) (vs : List V) (Q : VK) (E : XK), A.guards = some [] → Room k A → Env0 P w K mg base A outer s H →
    BindsTo s fd args (ps.zip us) → Vals vs us → sp vs H Q E → codeAny (model P w) A (.call (.ref f) args) (CR CX outer P w H s Q E) s
section
variable {P : Program} {w : World} {K : PySem.W.Frag} {mg : Str → Option Value} {base : Heap}
theorem fnG_of {CX : CXT} {k : Nat} {f : Addr} {nm ql : Str} {prm : Arguments} {bd : List Stmt} {sc : Scope} {dV kV doc pm cdv ct oc : Value} {an od : Option Addr} {osl : Array (Option Value)} {Nm ps : List Str} {sp : Sp}
    (lk : K.lookup f = some ⟨oc, od, .func (PySem.W.fnOf nm ql prm bd sc dV kV doc pm an cdv ct), osl⟩) (hcd : PySem.W.codeIn K cdv ql = true) (F : FnScope Nm ps sc) (len : ∀ vs H Q E, sp vs H Q E → vs.length = ps.length)
    (hb : ∀ (A : Around) (outer : List Env) (s : Shared) (H : Hp) (vs : List V) (Q : VK) (E : XK), A.guards = some [] → Room k (A.deeper (envOfC ql sc s.heap.objs.size f cdv)) → sp vs H Q E →
      ∃ t, PSs (cxOf CX P w K mg base Nm ql sc f cdv A outer s H E) bd t ∧ t { nx := fun _ H' => Q .non H', rt := Q } (L2.start Nm vs) H) :
    FnG P w K mg base CX (k + 1) f (PySem.W.fnOf nm ql prm bd sc dV kV doc pm an cdv ct) ps sp where
  len := len
  run A outer s H args us vs Q E hg room env bnd vals hsp := by
    have el := len vs H Q E hsp
    have inK : K.In s.heap := env.mod.kin.keeps fun b o z => (env.bs b o z).1
    have noL : s.heap.NoLimit := env.mod.nolimit.keeps fun b o z => (env.bs b o z).1
    have places : ∀ y ∈ ps.zip us, sc.names.lookup y.1 = some .local ∨ (sc.names.lookup y.1 = some .cell ∧ ((cellsFrom (s.heap.objs.size + 1) sc.names []).lookup y.1).isSome = true) := by
      rintro ⟨y, u⟩ hy
      cases F.par y (List.of_mem_zip hy).1 with
      | inl q => exact .inl q
      | inr q => exact .inr ⟨q, PySem.W.cellsFrom_some _ _ _ (.inl q)⟩
    refine codeAny_call_function room.depth (inK _ _ lk) rfl F.co F.gen rfl (PySem.W.codeRec_of inK hcd) (bnd _ _ _ _ ?_)
    refine wpAny_newFunctionEnv_cells F.kind places fun env' he s1 x => ?_
    subst he
    refine ⟨noL.keeps x.toInCall.keep, codeAny_func ?_⟩
    obtain ⟨t, ht, hq⟩ := hb A outer s H vs Q E hg (room.deeper _) hsp
    have J0 := inv_start (CX := CX) (E := E) F room.hd env el vals x
    refine wpAny_mono (ht.run [] s1 (L2.start Nm vs) H _ J0 hq) (fun fl s' hs => ?_) fun _ _ z => z
    have done : ∀ {τ : L2.St} {H' : Hp} {v : V} {u : Value}, Inv (cxOf CX P w K mg base Nm ql sc f cdv A outer s H E) [] τ H' s' → RelV v u → Q v H' → CE outer P w H s Q u s' := by
      intro τ H' v u J rv q
      exact ⟨v, H', J.os, J.bare, J.base, J.hok, rv, q⟩
    match fl, hs with
    | .ret u, ⟨v, _, H', J, rv, q⟩ => exact done J rv q
    | .next, ⟨_, H', J, q⟩ => exact done (v := V.non) (u := Value.none) J rfl q
    | .brk, ⟨_, _, _, q⟩ => exact q.elim
    | .cont, ⟨_, _, _, q⟩ => exact q.elim
/-- THE RULE for such a def -/
theorem FunD_okG {x ql : Str} {prm : Arguments} {bd : List Stmt} {sc : Scope} {dvs : List V} {kws : List (Str × V)} {f : Addr} {fd : FuncData} {CX : CXT} {Nm ps : List Str} {k : Nat} {sp : Sp} (F : FunD K x ql prm bd sc dvs kws f fd) (S : FnScope Nm ps sc) (len : ∀ vs H Q E, sp vs H Q E → vs.length = ps.length)
    (hb : ∀ (cdv : Value) (A : Around) (outer : List Env) (s : Shared) (H : Hp) (vs : List V) (Q : VK) (E : XK), A.guards = some [] → Room k (A.deeper (envOfC ql sc s.heap.objs.size f cdv)) → sp vs H Q E →
      ∃ t, PSs (cxOf CX P w K mg base Nm ql sc f cdv A outer s H E) bd t ∧ t { nx := fun _ H' => Q .non H', rt := Q } (L2.start Nm vs) H) : FnG P w K mg base CX (k + 1) f fd ps sp := by
  obtain ⟨oc, od, dV, kV, doc, pm, an, cdv, ct, osl, rfl, lk, hcd, _, _⟩ := F.ex
  exact fnG_of lk hcd S len fun A outer s H vs Q E => hb cdv A outer s H vs Q E
end
/-- the call of such a def, where no text of a list is being made -/
theorem pe_callG {X : Cx} {CX : CXT} {k : Nat} {f : Addr} {fd : FuncData} {ps : List Str} {sp : Sp} {E : XK} {x : Str} {p pos : Pos} {e : Expr} {es : List Expr} {t : TA} (F : FnG X.prog X.w X.K X.mg X.base CX k f fd ps sp) (hgd : X.A.guards = some []) (hr : Room k X.A) (hg : Gl X x) (hm : X.mg x = some (.ref f))
    (hk : PySem.W.keepIn X.K (.ref f) = true) (hb : Binds X.K fd ps []) (hx : Passes CX X E) (ha : PA X (e :: es) t) (hdb : (x == ("__debug__" : Str)) = false := by decide) (he : starEach (e :: es) X.env = (false, eval e X.env) :: starEach es X.env := by rfl)
    (hpl : (backTo pos (starEach es X.env)).any (·.1) = false := by rfl) : PE X (.Call (.Name x p) (e :: es) [] pos) (tCall sp [] E t) := by
  refine ⟨fun pins s σ H Q I h => ?_⟩
  refine wpAny_Call_Name_kw (ld_glob I hg hm ?_ hdb)
  refine PySem.W.callWith_K (h₀ := X.base) I.ok.mod.kin hk (thn (ha.run pos pins s σ H _ I h) fun us s1 ⟨vs, H1, I1, r, q⟩ => ⟨I1.kIn, ?_⟩) he hpl
  have q : sp vs H1 Q E := by
    have q' : sp (vs ++ []) H1 Q E := q
    rw [List.append_nil] at q'
    exact q'
  have hl : us.length = ps.length := r.length.symm.trans (F.len _ _ _ _ q)
  have hbd := hb s1 us I1.kIn (by rw [List.append_nil]; exact hl)
  rw [List.append_nil] at hbd
  refine wpAny_call (codeAny_mono (F.run X.A X.stack s1 H1 ⟨us, []⟩ us vs Q E hgd hr I1.env0 hbd r q) fun r s' hq => ?_)
  match r, hq with
  | .error z, hq => exact hx pins σ H1 s1 z s' I1 hq
  | .ok (.ret u), hq => exact I1.after hq
  | .ok .next, hq => exact hq.elim
  | .ok .brk, hq => exact hq.elim
  | .ok .cont, hq => exact hq.elim
/-! ### repr of data -/
def rRepr (K : PySem.W.Frag) : List V → Hp → VK → Prop := fun xs H Q => ∃ x d, xs = [x] ∧ Dp K H x d ∧ (∃ a, x = .ref a) ∧ d.showable = true ∧ d.hasDict = false ∧ d.shown.length ≤ sizeLine ∧ d.depth ≤ 50 ∧ Q (.str d.shown) H
theorem call_repr_data {X : Cx} (hgd : X.A.guards = some []) (hu : X.A.units + 64 < cLine) : CallR X (.builtin "repr") (rRepr X.K) := by
  intro pins s σ H xs us Q I r h
  obtain ⟨x, d, rfl, hd, ⟨a, rfl⟩, h1, h2, h3, h4, q⟩ := h
  obtain ⟨u, rfl, ru⟩ := vals1 r
  cases ru
  obtain ⟨as, rd⟩ := Dp.reads I d _ _ hd rfl
  refine repr_of_reads' rd h1 (fun z => by rw [h2] at z; cases z) hgd (by omega) (fun b o e => e) (fun h' u tk hk => ?_) h3
  exact ⟨.str d.shown, H, I.kept (t' := tk) hk, ⟨u, rfl⟩, q⟩
theorem dc_repr {K : PySem.W.Frag} {d : PyData} {Ψ : PyData → Prop} (hl : (∃ ds, d = .list ds) ∨ ∃ ds, d = .tuple ds) (h1 : d.showable = true) (h2 : d.hasDict = false) (h3 : d.shown.length ≤ sizeLine) (h4 : d.depth ≤ 50) (h : Ψ (.str d.shown)) : DC K (rRepr K) [d] Ψ := fun N H _ us hu Q q => by
  cases hu with
  | cons a1 a2 =>
    cases a2
    have hr : ∀ {v : V}, Dq K N H v d → ∃ a, v = .ref a := fun {v} hv => by
      rcases hl with ⟨ds, rfl⟩ | ⟨ds, rfl⟩
      · obtain ⟨p, _, e, _⟩ := hv.lst_inv; exact ⟨p, e⟩
      · obtain ⟨p, _, e, _⟩ := hv.tup_inv; exact ⟨p, e⟩
    exact ⟨_, d, rfl, Dq.dp a1 h2, hr a1, h1, h2, h3, h4, q _ _ H h (Same.refl H) (Dt.str _)⟩
/-! ### the law's own call -/
section
variable {P : Program} {w : World} {K : PySem.W.Frag} {mg mb : Str → Option Value} {CX : CXT} {k : Nat} {fa a : Addr} {fd : FuncData} {x : Str} {sp : Sp} {s₁ : Shared} {vs : List Value} {ns : List Int}
/-- from an abstract heap that tells the script alone -/
theorem lawG_core (KX : K.In s₁.heap) (hns : s₁.heap.Ns mainGlobals mg) (hb : s₁.heap.Ns builtinsNs mb) (hbb : ∀ x : Str, x ≠ "__name__" → mb x = bootBuiltins x) (hlim : s₁.heap.NoLimit) (hg : s₁.gens = #[])
    (ha : s₁.heap.get? a = some { cls := .type "list", data := .seq vs.toArray }) (hr : Room k callerA)
    (F : ∀ base : Heap, K.In base → base.Ns mainGlobals mg → FnG P w K mg base CX k fa fd [x] sp) (hbind : ∀ (s : Shared) (u : Value), BindsTo s fd ⟨[u], []⟩ [(x, u)])
    (hCX : ∀ H e s', CX [] H s₁ (fun _ _ _ => False) e s' → False) (H : Hp) (hO : Only H) (hsp : sp [.ref a] H (fun v _ => v = .bl true) fun _ _ _ => False) (hok : HOk P w H s₁.heap) (hA : ∀ b u, H b = some u → b = a) (hK : ∀ u, H a = some u → K.lookup a = none) :
    codeAny (model P w) callerA (.call (.ref fa) ⟨[.ref a], []⟩) (fun r s' => r = .ok (.ret (.bool true)) ∧ OldK s₁.heap s'.heap ∧ s'.os = s₁.os ∧ AllBare s'.gens) s₁ := by
  have dictFree : ∀ {c : Addr} {o : Obj} {es : Array DictEntry} {m : Nat}, s₁.heap.get? c = some o → o.data = .dict es m → H c = none := by
    intro c o es m hc hd
    match hq : H c with
    | none => rfl
    | some u =>
      obtain rfl := hA c u hq
      rw [ha] at hc
      cases hc
      exact absurd hd (fun z => nomatch z)
  have nsH : ∀ {c : Addr} {m : Str → Option Value}, s₁.heap.Ns c m → (hidT s₁.heap H).Ns c m := by
    rintro c m ⟨o, es, ep, e, d, r⟩
    exact ⟨o, es, ep, hidT_get e (dictFree e d), d, r⟩
  have inH : K.In (hidT s₁.heap H) := by
    intro c o hc
    refine hidT_get (KX c o hc) ?_
    match hq : H c with
    | none => rfl
    | some u =>
      obtain rfl := hA c u hq
      rw [hK u hq] at hc
      cases hc
  obtain ⟨mc, m1, m2⟩ := hlim
  have md : Mod K mg (hidT s₁.heap H) := ⟨inH, nsH hns, ⟨mb, nsH hb, hbb⟩, ⟨mc, nsH m1, m2⟩⟩
  have noF : ∀ {c : Addr}, c ∉ frs ([] : List Env) := fun z => by cases z
  have env : Env0 P w K mg (hidT s₁.heap H) callerA [] s₁ H := ⟨rfl, md, fun c o e => of_hidT e, Nat.le_of_eq (hidT_size _ _), trivial, fun c hc => absurd hc noF, hok, .of_eq hg⟩
  refine codeAny_mono ((F _ inH (nsH hns)).run callerA [] s₁ H ⟨[.ref a], []⟩ [.ref a] [.ref a] _ _ rfl hr env (hbind s₁ (.ref a)) (.cons rfl .nil) hsp) fun r s' hr' => ?_
  match r, hr' with
  | .error e, z => exact (hCX H e s' z).elim
  | .ok .next, z => exact z.elim
  | .ok .brk, z => exact z.elim
  | .ok .cont, z => exact z.elim
  | .ok (.ret u), ⟨v, H', os, bare, un, hok', rv, q⟩ =>
    have q' : v = .bl true := q
    subst q'
    obtain rfl : u = Value.bool true := rv
    refine ⟨rfl, OldK.of_keep fun c o e => ?_, os, bare⟩
    match hq : H c with
    | none => exact un.keep c o e hq noF (by simp)
    | some u =>
      rcases hO c with z | ⟨ob, xs, z⟩
      · rw [hq] at z; cases z
      · have z2 := un.frzs c ob _ z
        have e1 := (hok c _ z).1
        have e2 := (hok' c _ z2).1
        rw [e] at e1
        cases e1
        exact e2
theorem lawG_call (KX : K.In s₁.heap) (hns : s₁.heap.Ns mainGlobals mg) (hb : s₁.heap.Ns builtinsNs mb) (hbb : ∀ x : Str, x ≠ "__name__" → mb x = bootBuiltins x) (hlim : s₁.heap.NoLimit) (hg : s₁.gens = #[])
    (ha : s₁.heap.get? a = some { cls := .type "list", data := .seq vs.toArray }) (hi : IntsAre vs ns) (hl : ns.length ≤ sizeLine) (hr : Room k callerA)
    (F : ∀ base : Heap, K.In base → base.Ns mainGlobals mg → FnG P w K mg base CX k fa fd [x] sp) (hbind : ∀ (s : Shared) (u : Value), BindsTo s fd ⟨[u], []⟩ [(x, u)])
    (hsp : ∀ H : Hp, Only H → SqL K H a (ns.map V.int) → sp [.ref a] H (fun v _ => v = .bl true) fun _ _ _ => False)
    (hCX : ∀ H e s', CX [] H s₁ (fun _ _ _ => False) e s' → False) :
    codeAny (model P w) callerA (.call (.ref fa) ⟨[.ref a], []⟩) (fun r s' => r = .ok (.ret (.bool true)) ∧ OldK s₁.heap s'.heap ∧ s'.os = s₁.os ∧ AllBare s'.gens) s₁ := by
  have rv := vals_ints hi
  have hlv : vs.length ≤ sizeLine := by rw [hi.length]; exact hl
  match hk : K.lookup a with
  | some o =>
    have e := KX a o hk
    rw [ha] at e
    cases e
    have hO : Only (fun _ => none) := fun _ => .inl rfl
    refine lawG_core KX hns hb hbb hlim hg ha hr F hbind hCX (fun _ => none) hO (hsp _ hO (.inr ⟨_, vs.toArray, _, hk, rfl, rfl, rfl, by simpa using hlv, by simpa using rv⟩)) (fun _ _ z => nomatch z) (fun _ _ z => nomatch z) fun _ z => nomatch z
  | none =>
    let lst : Obj := { cls := .type "list", data := .seq vs.toArray }
    have at_a : (fun b => if b = a then some (HO.frz lst (.lst (ns.map V.int))) else none : Hp) a = some (.frz lst (.lst (ns.map V.int))) := if_pos rfl
    have only_a : ∀ b u, (fun b => if b = a then some (HO.frz lst (.lst (ns.map V.int))) else none : Hp) b = some u → b = a := fun b u z => Decidable.byContradiction fun q => by
      have z' : (none : Option HO) = some u := (if_neg q).symm.trans z
      cases z'
    have hO : Only (fun b => if b = a then some (HO.frz lst (.lst (ns.map V.int))) else none : Hp) := fun b => by
      by_cases q : b = a
      · exact .inr ⟨_, _, if_pos q⟩
      · exact .inl (if_neg q)
    refine lawG_core KX hns hb hbb hlim hg ha hr F hbind hCX _ hO (hsp _ hO (.inl (.inr ⟨lst, at_a⟩))) (fun b u z => ?_) only_a fun _ _ => hk
    obtain rfl := only_a b u z
    have z' : some (HO.frz lst (.lst (ns.map V.int))) = some u := at_a.symm.trans z
    cases z'
    exact ⟨ha, by rw [List.length_map]; exact hl, vs, _, rv, ha⟩
end
/-- the goal behind the head -/
theorem walk_ofG {l : PySem.W.OpenLaw} {n k : Nat} {q : Program} {loose : List Str} {XP : (Str → Option Value) → Heap → Prop} {YP : World → Heap → Prop} {d : DefRec} {CX : CXT} {x : Str}
    (hn : l.most = some n) (hn2 : n ≤ sizeLine) (hdf : d.params.defaults = []) (hr : Room k callerA)
    (F : ∀ (w : World) (mg : Str → Option Value) (fa : Addr) (h : Heap), YP w h → h.Ns mainGlobals mg → mg d.name = some (.ref fa) →
      ∃ (K : PySem.W.Frag) (fd : FuncData) (sp : Sp), K.In h ∧ (∀ (s : Shared) (u : Value), BindsTo s fd ⟨[u], []⟩ [(x, u)]) ∧
        (∀ (H : Hp) (a : Addr) (ns : List Int), ns.length ≤ n → Only H → SqL K H a (ns.map V.int) → sp [.ref a] H (fun v _ => v = .bl true) fun _ _ _ => False) ∧
        ∀ base : Heap, K.In base → base.Ns mainGlobals mg → FnG l.prog w K mg base CX k fa fd [x] sp)
    (hCX : ∀ (H : Hp) (s : Shared) (e : Value) (s' : Shared), CX [] H s (fun _ _ _ => False) e s' → False) : PySem.W.WalkO q loose XP YP l.row.toRowW d [] (fun f vs => PySem.call f vs) :=
  Att.attach_call hn hdf fun w s₀ s₁ mg mb fa o pm cd doc a vs ns G Y _ _ _ hmg hobj hints hlen hg =>
    let ⟨_, _, _, KX, hbd, hsp, hF⟩ := F w mg fa _ Y G.T.g hmg
    lawG_call KX G.T.g G.T.b G.T.builtins G.T.nolimit hg hobj hints (Nat.le_trans hlen hn2) hr hF hbd (fun H hO hS => hsp H a ns hlen hO hS) fun H e s' => hCX H s₁ e s'
end DL

set_option Elab.async false
set_option linter.all false
set_option maxRecDepth 100000
set_option maxHeartbeats 2000000
namespace DL
open PySem PySem.Spec PyProof.Rows L2
/-- a def of the text and its promise, as a caller wants them -/
structure Has (P : Program) (w : World) (K : PySem.W.Frag) (mg : Str → Option Value) (base : Heap) (CX : CXT) (x : Str) (k : Nat) (ps : List Str) (sp : Sp) (dvs : List V) : Prop where
  ex : ∃ (f : Addr) (fd : FuncData) (ds : List Value), FnOk P w K mg base CX k f fd ps sp ∧ mg x = some (.ref f) ∧ PySem.W.keepIn K (.ref f) = true ∧ Binds K fd ps ds ∧ Vals dvs ds
structure HasG (P : Program) (w : World) (K : PySem.W.Frag) (mg : Str → Option Value) (base : Heap) (CX : CXT) (x : Str) (k : Nat) (ps : List Str) (sp : Sp) : Prop where
  ex : ∃ (f : Addr) (fd : FuncData), FnG P w K mg base CX k f fd ps sp ∧ mg x = some (.ref f) ∧ PySem.W.keepIn K (.ref f) = true ∧ Binds K fd ps []
/-- .. by names: n places, then the names ks -/
structure HasK (P : Program) (w : World) (K : PySem.W.Frag) (mg : Str → Option Value) (base : Heap) (CX : CXT) (x : Str) (k : Nat) (ps : List Str) (sp : Sp) (n : Nat) (ks : List Str) (gV : List V → List V → List V) : Prop where
  ex : ∃ (f : Addr) (fd : FuncData) (g : List Value → List Value → List Value), FnOk P w K mg base CX k f fd ps sp ∧ mg x = some (.ref f) ∧ PySem.W.keepIn K (.ref f) = true ∧ KBn K fd ps n ks g gV
section
variable {X : Cx} {CX : CXT} {k : Nat} {ps ks : List Str} {sp : Sp} {E : XK} {x : Str} {p pos : Pos} {e : Expr} {es : List Expr} {kws : List Keyword} {t tk : TA} {dvs : List V} {n : Nat} {gV : List V → List V → List V}
theorem pe_has (h : Has X.prog X.w X.K X.mg X.base CX x k ps sp dvs) (hr : Room k X.A) (hx : Passes CX X E) (ha : PA X (e :: es) t) (hg : Gl X x := by rfl) (hdb : (x == ("__debug__" : Str)) = false := by decide)
    (he : starEach (e :: es) X.env = (false, eval e X.env) :: starEach es X.env := by rfl) (hpl : (backTo pos (starEach es X.env)).any (·.1) = false := by rfl) : PE X (.Call (.Name x p) (e :: es) [] pos) (tCall sp dvs E t) := by
  obtain ⟨f, fd, ds, F, hm, hk, hb, hd⟩ := h.ex
  exact pe_call F hr hg hm hk hb hd hx ha hdb he hpl
theorem pe_hasG (h : HasG X.prog X.w X.K X.mg X.base CX x k ps sp) (hgd : X.A.guards = some []) (hr : Room k X.A) (hx : Passes CX X E) (ha : PA X (e :: es) t) (hg : Gl X x := by rfl) (hdb : (x == ("__debug__" : Str)) = false := by decide)
    (he : starEach (e :: es) X.env = (false, eval e X.env) :: starEach es X.env := by rfl) (hpl : (backTo pos (starEach es X.env)).any (·.1) = false := by rfl) : PE X (.Call (.Name x p) (e :: es) [] pos) (tCall sp [] E t) := by
  obtain ⟨f, fd, F, hm, hk, hb⟩ := h.ex
  exact pe_callG F hgd hr hg hm hk hb hx ha hdb he hpl
/-- // by any divisor but nought, below 2 ^ 9000 -/
def CDivX (_ j : Int) : Prop := j ≠ 0 ∧ j.natAbs.log2 < 9000
theorem op_fdivX {X : Cx} : OpR X (binaryOp .FloorDiv) (rI CDivX fun i j => .int (i.fdiv j)) := opI fun i j _ _ _ _ _ hc q => floordiv_int hc.1 q (.inl (PyProof.noPylong_of_log2 hc.2))
end
end DL

set_option Elab.async false
set_option linter.all false
set_option maxRecDepth 100000
set_option maxHeartbeats 2000000
/-! DLC: what the laws' own helpers do: the store of draws -/
namespace DL
open PySem PySem.Spec PyProof.Rows L2
abbrev rAddI : R2 := rI0 fun i j => .int (i + j)
abbrev rSubI : R2 := rI0 fun i j => .int (i - j)
abbrev rMulI : R2 := rI CMulW fun i j => .int (i * j)
abbrev rDivI : R2 := rI CDivX fun i j => .int (i.fdiv j)
abbrev rModI : R2 := rI (fun _ j => j ≠ 0) fun i j => .int (i.fmod j)
abbrev rPowI : R2 := rI CPow fun i j => .int (i ^ j.toNat)
abbrev rLt : R2 := rI0 fun i j => .bl (decide (i < j))
abbrev rLe : R2 := rI0 fun i j => .bl (decide (i ≤ j))
abbrev rGt : R2 := rI0 fun i j => .bl (decide (j < i))
abbrev rGe : R2 := rI0 fun i j => .bl (decide (j ≤ i))
abbrev rNegI : V → Hp → VK → Prop := rU fun i => .int (-i)
abbrev rLenX (K : PySem.W.Frag) : List V → Hp → VK → Prop := fun xs H Q => ∃ p ys, xs = [.ref p] ∧ (SqL K H p ys ∨ SqT K H p ys) ∧ Q (.int ys.length) H
abbrev rAbsX : List V → Hp → VK → Prop := fun xs H Q => ∃ i, xs = [.int i] ∧ Q (.int (if i < 0 then -i else i)) H
abbrev rMinX : List V → Hp → VK → Prop := fun xs H Q => ∃ i j, xs = [.int i, .int j] ∧ Q (.int (if j < i then j else i)) H
abbrev rMaxX : List V → Hp → VK → Prop := fun xs H Q => ∃ i j, xs = [.int i, .int j] ∧ Q (.int (if j > i then j else i)) H
abbrev rStrI : List V → Hp → VK → Prop := fun xs H Q => ∃ i, xs = [.int i] ∧ i.natAbs.log2 < 1920 ∧ Q (.str (toString i)) H
abbrev rLenS : List V → Hp → VK → Prop := fun xs H Q => ∃ z : Str, xs = [.str z] ∧ z.length ≤ sizeLine ∧ Q (.int z.length) H

/-! ### the store -/
structure StoOk (a ga la : Addr) (H : Hp) (B : Nat) : Prop where
  ne1 : a ≠ ga
  ne2 : a ≠ la
  ne3 : ga ≠ la
  ex : ∃ (g l : List Int) (b s : Int), H a = some (.lst [.ref ga, .int b, .int s, .ref la]) ∧ H ga = some (.lst (g.map V.int)) ∧ H la = some (.lst (l.map V.int)) ∧
    g.length ≤ 63 ∧ l ≠ [] ∧ l.length ≤ 64 ∧ (∀ x ∈ l, 0 ≤ x ∧ x < 10 ^ 18) ∧ 0 ≤ b ∧ b < 2147483587 ∧ 0 ≤ s ∧ s ≤ B
def mkS (a ga la : Addr) : Stt where
  a := a
  fp b := decide (b = a) || decide (b = ga) || decide (b = la)
  ok := StoOk a ga la
  loc H H' B h k := by
    obtain ⟨h1, h2, h3, g, l, b, s, ha, hg, hl, r⟩ := k
    exact ⟨h1, h2, h3, g, l, b, s, (h a (by simp)).trans ha, (h ga (by simp)).trans hg, (h la (by simp)).trans hl, r⟩
  trk H B k b hb := by
    obtain ⟨h1, h2, h3, g, l, b', s, ha, hg, hl, r⟩ := k
    simp at hb
    rcases hb with (e | e) | e
    · rw [e, ha]; simp
    · rw [e, hg]; simp
    · rw [e, hl]; simp
def FSto (S : Stt) : Prop := ∃ a ga la, S = mkS a ga la
/-- a draw below m: any -/
def TDraw (c : Nat) (M : Int) (L : Nat) : Nat → List PyData → (PyData → Nat → Prop) → Prop := fun B ds Φ => ∃ m : Int, ds = [.int m] ∧ 1 ≤ m ∧ m ≤ M ∧ B ≤ L ∧ ∀ d : Int, 0 ≤ d → d < m → Φ (.int d) (B + c)
/-- the reading of the draw, sp: its own promise one level lower -/
def t_draw (K : PySem.W.Frag) (sp : Sp) : TS :=
  (tSeq (tWhile (tAnd (tTest (tOp (rNeD K) (tOp (rIxL K) (tVar 0) (tC (.int 0))) (tLst tNil))) (tTest (tOp rEq (tOp (rIxL K) (tOp (rIxL K) (tVar 0) (tC (.int 0))) (tC (.int 0))) (tC (.int 0))))) (tDrop (tBM K "list" rPopAt (tOp (rIxL K) (tVar 0) (tC (.int 0))) (tCons (tC (.int 0)) tNil))))
    (tSeq (tIfS (tTest (tOp (rNeD K) (tOp (rIxL K) (tVar 0) (tC (.int 0))) (tLst tNil))) (tSeq (tAsg (tOp rModI (tOp (rIxL K) (tOp (rIxL K) (tVar 0) (tC (.int 0))) (tC (.int 0))) (tVar 1)) (gName 2))
    (tSeq (tAsg (tOp rDivI (tOp (rIxL K) (tOp (rIxL K) (tVar 0) (tC (.int 0))) (tC (.int 0))) (tVar 1)) (gSub (tOp (rIxL K) (tVar 0) (tC (.int 0))) (tC (.int 0)) rSetL))
    (tRet (tVar 2)))) tNext)
    (tSeq (tIfS (tTest (tOp rGt (tVar 1) (tOp rPowI (tC (.int 10)) (tC (.int 6))))) (tSeq (tAsg (tC (.int 0)) (gName 3))
    (tSeq (tFor (iRng1 (tCons (tOp rAddI (tC (.int 1)) (tOp rDivI (tCB rLenS (tCons (tCB rStrI (tCons (tVar 1) tNil)) tNil)) (tC (.int 6)))) tNil)) (gName 4) (tAsg (tOp rAddI (tOp rMulI (tVar 3) (tOp rPowI (tC (.int 10)) (tC (.int 6)))) (tCall sp [] E0 (tCons (tVar 0) (tCons (tOp rPowI (tC (.int 10)) (tC (.int 6))) tNil)))) (gName 3)))
    (tRet (tOp rModI (tVar 3) (tVar 1))))) tNext)
    (tSeq (tAsg (tOp rAddI (tOp (rIxL K) (tVar 0) (tC (.int 2))) (tC (.int 1))) (gName 5))
    (tSeq (tAsg (tVar 5) (gSub (tVar 0) (tC (.int 2)) rSetL))
    (tSeq (tAsg (tLst (tCons (tC (.int 2147483563)) (tCons (tC (.int 2147483549)) (tCons (tC (.int 2147483543)) (tCons (tC (.int 2147483497)) (tCons (tC (.int 2147483489)) tNil)))))) (gName 6))
    (tSeq (tAsg (tOp (rIxL K) (tOp (rIxL K) (tVar 0) (tC (.int 3))) (tOp rModI (tVar 5) (tCB (rLenX K) (tCons (tOp (rIxL K) (tVar 0) (tC (.int 3))) tNil)))) (gName 7))
    (tSeq (tAsg (tOp rModI (tOp rPowI (tOp rAddI (tOp rAddI (tOp rAddI (tOp (rIxL K) (tVar 0) (tC (.int 1))) (tVar 7)) (tOp rMulI (tC (.int 104729)) (tVar 5))) (tC (.int 13))) (tC (.int 3))) (tOp (rIxL K) (tVar 6) (tOp rModI (tVar 5) (tC (.int 5))))) (gName 8))
    (tSeq (tAsg (tOp rAddI (tOp rAddI (tOp rMulI (tVar 8) (tVar 8)) (tOp rModI (tOp (rIxL K) (tVar 0) (tC (.int 1))) (tC (.int 1000003)))) (tVar 5)) (gName 9))
    (tRet (tOp rModI (tOp rDivI (tOp rModI (tOp rPowI (tVar 9) (tC (.int 5))) (tOp (rIxL K) (tVar 6) (tOp rModI (tOp rAddI (tVar 5) (tC (.int 2))) (tC (.int 5))))) (tC (.int 16))) (tVar 1))))))))))))

end DL

set_option Elab.async false
set_option linter.all false
set_option maxRecDepth 100000
set_option maxHeartbeats 4000000
namespace DL
open PySem PySem.Spec PyProof.Rows L2
/-- the store's three lists, told -/
structure Sto5 (a ga la : Addr) (g l : List Int) (b s : Int) (H : Hp) : Prop where
  ha : H a = some (.lst [.ref ga, .int b, .int s, .ref la])
  hg : H ga = some (.lst (g.map V.int))
  hl : H la = some (.lst (l.map V.int))
def FrS (a ga la : Addr) (H H' : Hp) : Prop := ∀ x o, x ≠ a → x ≠ ga → x ≠ la → H x = some o → H' x = some o
section
variable {K : PySem.W.Frag} {a ga la : Addr} {g l : List Int} {b s : Int} {H : Hp} {σ : L2.St}
end
theorem log2_small {m : Int} {k : Nat} (h0 : 0 ≤ m) (h : m < 2 ^ k) (hk : 0 < k) : m.natAbs.log2 < k := PySem.Flt.log2_lt_of hk (by have e : ((2 ^ k : Nat) : Int) = (2 : Int) ^ k := Int.natCast_pow 2 k; omega)
theorem fmod_nn {i j : Int} (hj : 0 < j) : 0 ≤ i.fmod j ∧ i.fmod j < j := ⟨Int.fmod_nonneg_of_pos i hj, Int.fmod_lt_of_pos i hj⟩
theorem fdiv_nn {i j : Int} (hi : 0 ≤ i) (hj : 0 < j) : 0 ≤ i.fdiv j := Int.fdiv_nonneg hi (by omega)
end DL

set_option Elab.async false
set_option linter.all false
set_option maxRecDepth 100000
set_option maxHeartbeats 4000000
namespace DL
open PySem PySem.Spec PyProof.Rows L2
/-! ### steps by name -/
section
variable {K : PySem.W.Frag} {S : Stt} {ρ : Rho} {Φ : PyData → Rho → Prop} {Ψ : PyData → Prop}
theorem do_mul {i j : Int} (c : CMulW i j) (h : Ψ (.int (i * j))) : DO K rMulI (.int i) (.int j) Ψ := do_ic c h
theorem do_mod {i j : Int} (c : j ≠ 0) (h : Ψ (.int (i.fmod j))) : DO K rModI (.int i) (.int j) Ψ := do_ic (C := fun _ j => j ≠ 0) c h
theorem do_div {i j : Int} (c : CDivX i j) (h : Ψ (.int (i.fdiv j))) : DO K rDivI (.int i) (.int j) Ψ := do_ic c h
theorem do_pow {i j : Int} (c : CPow i j) (h : Ψ (.int (i ^ j.toNat))) : DO K rPowI (.int i) (.int j) Ψ := do_ic c h
theorem do_add {i j : Int} (h : Ψ (.int (i + j))) : DO K rAddI (.int i) (.int j) Ψ := do_ii h
theorem do_sub {i j : Int} (h : Ψ (.int (i - j))) : DO K rSubI (.int i) (.int j) Ψ := do_ii h
theorem do_lt {i j : Int} (h : Ψ (.bool (decide (i < j)))) : DO K rLt (.int i) (.int j) Ψ := do_ib (f := fun i j => decide (i < j)) h
theorem do_gt {i j : Int} (h : Ψ (.bool (decide (j < i)))) : DO K rGt (.int i) (.int j) Ψ := do_ib (f := fun i j => decide (j < i)) h
theorem do_ge {i j : Int} (h : Ψ (.bool (decide (j ≤ i)))) : DO K rGe (.int i) (.int j) Ψ := do_ib (f := fun i j => decide (j ≤ i)) h
theorem du_neg {i : Int} (h : Ψ (.int (-i))) : DU K rNegI (.int i) Ψ := du_i (f := fun i => -i) h
theorem dc_abs {i : Int} (h : Ψ (.int (i.natAbs : Nat))) : DC K rAbsX [.int i] Ψ := dc_i1 (f := fun i => if i < 0 then -i else i) (by
  have e : (if i < 0 then -i else i) = ((i.natAbs : Nat) : Int) := by split <;> omega
  show Ψ (.int (if i < 0 then -i else i))
  rw [e]; exact h)
theorem dc_lenL {ds : List PyData} (h : Ψ (.int ds.length)) : DC K (rLenX K) [.list ds] Ψ := dc_len_l h
theorem dc_lenT {ds : List PyData} (h : Ψ (.int ds.length)) : DC K (rLenX K) [.tuple ds] Ψ := dc_len_t h
/-- the cases of an answered test -/
theorem if_b {c : Prop} [Decidable c] {A B : Prop} (h1 : c → A) (h2 : ¬ c → B) : if decide c = true then A else B := by
  by_cases h : c
  · rw [if_pos (decide_eq_true h)]; exact h1 h
  · rw [if_neg (fun z => h (of_decide_eq_true z))]; exact h2 h
theorem if_t {A B : Prop} (h : A) : if true = true then A else B := by rw [if_pos rfl]; exact h
theorem if_f {A B : Prop} (h : B) : if false = true then A else B := by rw [if_neg Bool.false_ne_true]; exact h
theorem if_nf {A B : Prop} (h : A) : if (!false) = true then A else B := if_t h
theorem if_nt {A B : Prop} (h : B) : if (!true) = true then A else B := if_f h
theorem if_n {c : Prop} [Decidable c] {A B : Prop} (h1 : ¬ c → A) (h2 : c → B) : if (!decide c) = true then A else B := by
  by_cases h : c
  · rw [decide_eq_true h]; exact if_f (h2 h)
  · rw [decide_eq_false h]; exact if_t (h1 h)
end
end DL

set_option Elab.async false
set_option linter.all false
set_option maxRecDepth 100000
set_option maxHeartbeats 4000000
namespace DL
open PySem PySem.Spec PyProof.Rows L2
local macro_rules | `(tactic| walk_at "dl") => `(tactic| repeat' (first
  | with_reducible refine wd_op ?_ | with_reducible refine wd_cb ?_ | with_reducible refine wd_un ?_ | with_reducible refine wa_cons ?_ | with_reducible refine wa_nil ?_ | ((with_reducible show WD _ _ (tVar _) _ _); refine wd_var rfl ?_) | with_reducible refine wd_int ?_ | with_reducible refine wd_bl ?_ | with_reducible refine wd_str ?_ | with_reducible refine wd_non ?_
  | with_reducible refine do_add ?_ | with_reducible refine do_sub ?_ | ((with_reducible refine do_mod ?_ ?_); decide) | with_reducible refine do_mod ?_ ?_ | with_reducible refine do_mul ?_ ?_ | ((with_reducible refine do_div ?_ ?_); exact ⟨by decide, by decide⟩) | with_reducible refine do_div ?_ ?_ | ((with_reducible refine do_pow ?_ ?_); exact ⟨by decide, by decide, by decide⟩) | with_reducible refine do_pow ?_ ?_
  | with_reducible refine do_lt ?_ | with_reducible refine do_le ?_ | with_reducible refine do_gt ?_ | with_reducible refine do_ge ?_ | with_reducible refine du_neg ?_
  | with_reducible refine do_eqi ?_ | with_reducible refine do_nei ?_ | with_reducible refine do_eqs ?_ | with_reducible refine do_nes ?_ | with_reducible refine dc_abs ?_ | with_reducible refine dc_min ?_ | with_reducible refine dc_max ?_ | with_reducible refine dc_lenL ?_ | with_reducible refine dc_lenT ?_ | with_reducible refine dc_gcd ?_
  | ((with_reducible show DO _ (rIxT _) _ _ _); refine do_ixT rfl ?_) | ((with_reducible show DO _ (rIxL _) _ _ _); refine do_ixL rfl ?_) | with_reducible refine do_catL ?_ ?_
  | with_reducible refine wd_tup ?_ | with_reducible refine wd_lst ?_ | with_reducible refine wt_test ?_ | with_reducible refine wt_B ?_ | with_reducible refine wt_not ?_ | with_reducible refine wt_and ?_ | with_reducible refine wt_or ?_ | with_reducible refine wd_ifE ?_ | with_reducible refine wd_andV ?_ | with_reducible refine wd_orV ?_ | with_reducible refine wd_notV ?_
  | with_reducible refine ws_seq ?_ | with_reducible refine ws_next ?_ | with_reducible refine ws_asg ?_ | with_reducible refine ws_ret ?_ | with_reducible refine ws_retN ?_ | with_reducible refine ws_if ?_ | with_reducible refine ws_par ?_ | with_reducible refine ws_unp2 ?_
  | with_reducible refine if_t ?_ | with_reducible refine if_f ?_
  | ((with_reducible show Exists _); first | refine ⟨_, rfl, ?_⟩ | refine ⟨_, _, rfl, ?_⟩ | fail) | fail))
def spMk (K : PySem.W.Frag) : Sp := fun vs H Q _ => ∃ (a0 : Addr) (ns : List Int), vs = [.ref a0] ∧ SqL K H a0 (ns.map V.int) ∧ ns.length ≤ 63 ∧
  ∀ S H', FSto S → S.ok H' 0 → (∀ b, S.fp b = true → H b = none) → Same H H' → Q (.ref S.a) H'
def t_s1 (K : PySem.W.Frag) : TS := (tAsg (tC (.int 271)) (gName 1))
def t_s2 (K : PySem.W.Frag) : TS := (tFor (iEnum K (tCons (tSl (rSlL K) (tVar 0) tNoPart (tPart (tC (.int 63)))) tNil)) (gTup K 2 (gCons (gName 2) (gCons (gName 3) gNil))) (tAsg (tOp rModI (tOp rAddI (tOp rAddI (tOp rMulI (tVar 1) (tVar 1)) (tOp rModI (tVar 3) (tC (.int 2147483629)))) (tOp rMulI (tC (.int 40009)) (tVar 2))) (tC (.int 2147483587))) (gName 1)))
def t_s3 (K : PySem.W.Frag) : TS := (tAsg (tLc (iList K (tSl (rSlL K) (tVar 0) tNoPart (tPart (tC (.int 63))))) (gName 3) (tTest (tOp rGe (tCB rAbsX (tCons (tVar 3) tNil)) (tOp rPowI (tC (.int 10)) (tC (.int 18))))) (tCB rAbsX (tCons (tVar 3) tNil)) [3]) (gName 4))
def t_s4 (K : PySem.W.Frag) : TS := (tAsg (tLc (iList K (tSl (rSlL K) (tVar 0) tNoPart (tPart (tC (.int 63))))) (gName 3) (tTest (tOp rLt (tCB rAbsX (tCons (tVar 3) tNil)) (tOp rPowI (tC (.int 10)) (tC (.int 18))))) (tCB rAbsX (tCons (tVar 3) tNil)) [3]) (gName 5))
def t_s5 (K : PySem.W.Frag) : TS := (tRet (tLst (tCons (tVar 4) (tCons (tVar 1) (tCons (tC (.int 0)) (tCons (tOp rCatL (tVar 5) (tLst (tCons (tC (.int 17)) tNil))) tNil))))))
def t_store (K : PySem.W.Frag) : TS := tSeq (t_s1 K) (tSeq (t_s2 K) (tSeq (t_s3 K) (tSeq (t_s4 K) (t_s5 K))))
section
variable {K : PySem.W.Frag} {S : Stt} {H0 : Hp} {N0 : Av} {Z : List Hd} {N : Av} {σ : L2.St} {H H' : Hp} {ρ : Rho} {Φ : PyData → Rho → Prop} {Ψ : PyData → Prop}
end
end DL

set_option Elab.async false
set_option linter.all false
set_option maxRecDepth 100000
set_option maxHeartbeats 4000000
/-! DLT: types of data -/
namespace DL
open PySem PySem.Spec PyProof.Rows L2
def tyD : PyData → String
  | .none => "NoneType"
  | .bool _ => "bool"
  | .int _ => "int"
  | .str _ => "str"
  | .list _ => "list"
  | .tuple _ => "tuple"
  | .dict _ => "dict"
abbrev rIsTyX : R2 := fun x y H Q => ∃ a b, x = .ty a ∧ y = .ty b ∧ Q (.bl (decide (a = b))) H
section
variable {K : PySem.W.Frag} {S : Stt} {H0 : Hp} {N0 : Av} {Z : List Hd} {N : Av} {σ : L2.St} {H H' : Hp} {ρ : Rho} {Φ : PyData → Rho → Prop} {Ψ : PyData → Prop}
theorem dt_tyB {v : V} {d : PyData} (h : Dt K H v d) : TyB K H v (tyD d) := by
  cases h with
  | non => exact .non
  | bl b => exact .bl b
  | int i => exact .int i
  | str x => exact .str x
  | lst h t => exact .lst (.inl h)
  | tup h t => exact .tup h
  | dct h => exact .dK h
/-- type(x) is T -/
theorem wd_isTy {te : TE} {T : String} (h : WD K S te ρ fun d ρ1 => Φ (.bool (decide (tyD d = T))) ρ1) : WD K S (tOp rIsTyX (tCB (rTyp K) (tCons te tNil)) (tC (.ty T))) ρ Φ := fun H0 N0 Z N σ H E Q q =>
  h H0 N0 Z N σ H E _ fun v d ρ1 H1 f E1 k1 d1 => ⟨v, tyD d, rfl, dt_tyB d1.dt, _, _, rfl, rfl, q _ _ ρ1 H1 f E1 k1 (Dt.bl _)⟩
def tyNames : List String := ["NoneType", "bool", "int", "str", "list", "tuple", "dict"]
end
end DL

set_option Elab.async false
set_option linter.all false
set_option maxRecDepth 100000
set_option maxHeartbeats 4000000
/-! DLP: parts in the laws' own hands -/
namespace DL
open PySem PySem.Spec PyProof.Rows L2
local macro_rules | `(tactic| walk_at "dl") => `(tactic| repeat' (first
  | with_reducible refine wd_isTy ?_ | with_reducible refine wd_isi ?_ | with_reducible refine wd_op ?_ | with_reducible refine wd_cb ?_ | with_reducible refine wd_un ?_ | with_reducible refine wa_cons ?_ | with_reducible refine wa_nil ?_ | ((with_reducible show WD _ _ (tVar _) _ _); refine wd_var rfl ?_) | with_reducible refine wd_int ?_ | with_reducible refine wd_bl ?_ | with_reducible refine wd_str ?_ | with_reducible refine wd_non ?_
  | with_reducible refine do_add ?_ | with_reducible refine do_sub ?_ | ((with_reducible refine do_mod ?_ ?_); decide) | with_reducible refine do_mod ?_ ?_ | with_reducible refine do_mul ?_ ?_ | ((with_reducible refine do_div ?_ ?_); exact ⟨by decide, by decide⟩) | with_reducible refine do_div ?_ ?_ | ((with_reducible refine do_pow ?_ ?_); exact ⟨by decide, by decide, by decide⟩) | with_reducible refine do_pow ?_ ?_
  | with_reducible refine do_lt ?_ | with_reducible refine do_le ?_ | with_reducible refine do_gt ?_ | with_reducible refine do_ge ?_ | with_reducible refine du_neg ?_
  | with_reducible refine do_eqi ?_ | with_reducible refine do_nei ?_ | with_reducible refine do_eqs ?_ | with_reducible refine do_nes ?_ | with_reducible refine dc_abs ?_ | with_reducible refine dc_min ?_ | with_reducible refine dc_max ?_ | with_reducible refine dc_lenL ?_ | with_reducible refine dc_lenT ?_ | with_reducible refine dc_gcd ?_
  | ((with_reducible show DO _ (rIxT _) _ _ _); refine do_ixT rfl ?_) | ((with_reducible show DO _ (rIxL _) _ _ _); refine do_ixL rfl ?_) | with_reducible refine do_catL ?_ ?_
  | with_reducible refine wd_dnew ?_ | with_reducible refine wd_call0 ?_ | with_reducible refine dc_str ?_ ?_ | with_reducible refine wd_tup ?_ | with_reducible refine wd_lst ?_ | with_reducible refine wt_test ?_ | with_reducible refine wt_B ?_ | with_reducible refine wt_not ?_ | with_reducible refine wt_and ?_ | with_reducible refine wt_or ?_ | with_reducible refine wd_ifE ?_ | with_reducible refine wd_andV ?_ | with_reducible refine wd_orV ?_ | with_reducible refine wd_notV ?_
  | with_reducible refine ws_seq ?_ | with_reducible refine ws_next ?_ | with_reducible refine ws_asg ?_ | with_reducible refine ws_ret ?_ | with_reducible refine ws_retN ?_ | with_reducible refine ws_if ?_ | with_reducible refine ws_par ?_ | with_reducible refine ws_unp2 ?_
  | with_reducible refine if_t ?_ | with_reducible refine if_f ?_ | with_reducible refine if_nf ?_ | with_reducible refine if_nt ?_
  | ((with_reducible show Exists _); first | refine ⟨_, kitInt _, ?_⟩ | refine ⟨_, kitBool _, ?_⟩ | refine ⟨_, kitTup _, ?_⟩ | refine ⟨_, kitList _, ?_⟩ | refine ⟨_, rfl, ?_⟩ | refine ⟨_, _, rfl, ?_⟩ | fail) | fail))

/-! ### lowest terms -/
/-- a by b, b not nought, in lowest terms -/
def nrm (a b : Int) : Int × Int := ((if 0 < b then a else -a) / ((Nat.gcd a.natAbs b.natAbs : Nat) : Int), ((b.natAbs : Nat) : Int) / ((Nat.gcd a.natAbs b.natAbs : Nat) : Int))
def pr (x : Int × Int) : PyData := .tuple [.int x.1, .int x.2]
theorem gcd_pos {a b : Int} (h : b ≠ 0) : 0 < Nat.gcd a.natAbs b.natAbs := Nat.gcd_pos_of_pos_right _ (by omega)
/-- the promise of a maker of parts -/
def TPart : List PyData → (PyData → Prop) → Prop := fun ds Φ => ∃ a b : Int, ds = [.int a, .int b] ∧ b ≠ 0 ∧ a.natAbs < 2 ^ 8000 ∧ b.natAbs < 2 ^ 8000 ∧ Φ (pr (nrm a b))
def t_law_part (K : PySem.W.Frag) : TS :=
  (tSeq (tPar 2 3 (tCons (tCB rAbsX (tCons (tVar 0) tNil)) (tCons (tCB rAbsX (tCons (tVar 1) tNil)) tNil)))
    (tSeq (tWhile (tTest (tOp rGt (tVar 3) (tC (.int 0)))) (tPar 2 3 (tCons (tVar 3) (tCons (tOp rModI (tVar 2) (tVar 3)) tNil))))
    (tSeq (tAsg (tIf (tTest (tOp rGt (tVar 1) (tC (.int 0)))) (tC (.int 1)) (tUn rNegI (tC (.int 1)))) (gName 4))
    (tRet (tTup (tCons (tOp rDivI (tOp rMulI (tVar 4) (tVar 0)) (tVar 2)) (tCons (tOp rDivI (tCB rAbsX (tCons (tVar 1) tNil)) (tVar 2)) tNil)))))))


theorem log2_of {i : Int} {k : Nat} (h : i.natAbs < 2 ^ k) (hk : 0 < k) : i.natAbs.log2 < k := PySem.Flt.log2_lt_of hk h
theorem natAbs_gcd_le (a b : Int) (h : b ≠ 0) : Nat.gcd a.natAbs b.natAbs ≤ b.natAbs := Nat.gcd_le_right _ (by omega)
theorem euclid_step (x y : Int) (hx : 0 ≤ x) (hy : 0 < y) : Nat.gcd y.natAbs (x.fmod y).natAbs = Nat.gcd x.natAbs y.natAbs := by
  have e : (x.fmod y).natAbs = x.natAbs % y.natAbs := by
    rw [Int.fmod_eq_emod_of_nonneg x (by omega)]
    have : ((x % y).natAbs : Int) = ((x.natAbs % y.natAbs : Nat) : Int) := by
      rw [Int.natCast_emod]
      have h1 : ((x.natAbs : Nat) : Int) = x := by omega
      have h2 : ((y.natAbs : Nat) : Int) = y := by omega
      rw [h1, h2]
      have := Int.emod_nonneg x (show y ≠ 0 by omega)
      omega
    exact_mod_cast this
  rw [e, Nat.gcd_comm y.natAbs (x.natAbs % y.natAbs), ← Nat.gcd_rec y.natAbs x.natAbs, Nat.gcd_comm]
/-! ### about lowest terms -/
/-- what is in lowest terms stays -/
theorem nrm_self {a b : Int} (hb : 1 ≤ b) (hg : Nat.gcd a.natAbs b.natAbs = 1) : nrm a b = (a, b) := by
  unfold nrm
  rw [hg, if_pos (by omega)]
  have : ((b.natAbs : Nat) : Int) = b := by omega
  simp [this]
end DL

set_option Elab.async false
set_option linter.all false
set_option maxRecDepth 100000
set_option maxHeartbeats 4000000
/-! DLS: what the laws draw -/
namespace DL
open PySem PySem.Spec PyProof.Rows L2
local macro_rules | `(tactic| walk_at "dl") => `(tactic| repeat' (first
  | with_reducible refine wd_isTy ?_ | with_reducible refine wd_isi ?_ | with_reducible refine wd_op ?_ | with_reducible refine wd_cb ?_ | with_reducible refine wd_un ?_ | with_reducible refine wa_cons ?_ | with_reducible refine wa_nil ?_ | ((with_reducible show WD _ _ (tVar _) _ _); refine wd_var rfl ?_) | with_reducible refine wd_int ?_ | with_reducible refine wd_bl ?_ | with_reducible refine wd_str ?_ | with_reducible refine wd_non ?_
  | with_reducible refine do_add ?_ | with_reducible refine do_sub ?_ | ((with_reducible refine do_mod ?_ ?_); decide) | with_reducible refine do_mod ?_ ?_ | with_reducible refine do_mul ?_ ?_ | ((with_reducible refine do_div ?_ ?_); exact ⟨by decide, by decide⟩) | with_reducible refine do_div ?_ ?_ | ((with_reducible refine do_pow ?_ ?_); exact ⟨by decide, by decide, by decide⟩) | with_reducible refine do_pow ?_ ?_
  | with_reducible refine do_lt ?_ | with_reducible refine do_le ?_ | with_reducible refine do_gt ?_ | with_reducible refine do_ge ?_ | with_reducible refine du_neg ?_
  | with_reducible refine do_eqi ?_ | with_reducible refine do_nei ?_ | with_reducible refine do_eqs ?_ | with_reducible refine do_nes ?_ | with_reducible refine dc_abs ?_ | with_reducible refine dc_min ?_ | with_reducible refine dc_max ?_ | with_reducible refine dc_lenL ?_ | with_reducible refine dc_lenT ?_ | with_reducible refine dc_gcd ?_
  | ((with_reducible show DO _ (rIxT _) _ _ _); refine do_ixT rfl ?_) | ((with_reducible show DO _ (rIxL _) _ _ _); refine do_ixL rfl ?_) | with_reducible refine do_catL ?_ ?_
  | with_reducible refine wd_dnew ?_ | with_reducible refine wd_call0 ?_ | with_reducible refine dc_str ?_ ?_ | with_reducible refine wd_tup ?_ | with_reducible refine wd_lst ?_ | with_reducible refine wt_test ?_ | with_reducible refine wt_B ?_ | with_reducible refine wt_not ?_ | with_reducible refine wt_and ?_ | with_reducible refine wt_or ?_ | with_reducible refine wd_ifE ?_ | with_reducible refine wd_andV ?_ | with_reducible refine wd_orV ?_ | with_reducible refine wd_notV ?_
  | with_reducible refine ws_seq ?_ | with_reducible refine ws_next ?_ | with_reducible refine ws_asg ?_ | with_reducible refine ws_ret ?_ | with_reducible refine ws_retN ?_ | with_reducible refine ws_if ?_ | with_reducible refine ws_par ?_ | with_reducible refine ws_unp2 ?_
  | with_reducible refine if_t ?_ | with_reducible refine if_f ?_ | with_reducible refine if_nf ?_ | with_reducible refine if_nt ?_
  | ((with_reducible show Exists _); first | refine ⟨_, kitInt _, ?_⟩ | refine ⟨_, kitBool _, ?_⟩ | refine ⟨_, kitTup _, ?_⟩ | refine ⟨_, kitList _, ?_⟩ | refine ⟨_, rfl, ?_⟩ | refine ⟨_, _, rfl, ?_⟩ | fail) | fail))

abbrev TDr := TDraw 400 (2 ^ 1899) (2 ^ 40)
section
variable {K : PySem.W.Frag} {S : Stt} {ρ : Rho} {Φ : PyData → Rho → Prop} {Ψ : PyData → Prop}
theorem atI_of {ds : List PyData} {z : Int} (h0 : 0 ≤ z) (h1 : z < ds.length) : ∃ d, atI ds z = some d ∧ d ∈ ds := by
  obtain ⟨j, rfl⟩ : ∃ j : Nat, z = j := ⟨z.toNat, by omega⟩
  have hj : j < ds.length := by omega
  exact ⟨ds[j], atI_nat (List.getElem?_eq_getElem hj), List.getElem_mem hj⟩
/-- any item of a list, by a place in it -/
theorem do_ixL_any {ds : List PyData} {z : Int} (h0 : 0 ≤ z) (h1 : z < ds.length) (h : ∀ d ∈ ds, Ψ d) : DO K (rIxL K) (.list ds) (.int z) Ψ := by
  obtain ⟨d, e, hm⟩ := atI_of h0 h1
  exact do_ixL e (h d hm)
theorem do_ixL_int {ds : List PyData} {ns : List Int} {z : Int} {P : Int → Prop} (e : ds = ns.map PyData.int) (h0 : 0 ≤ z) (h1 : z < ns.length) (hp : ∀ n ∈ ns, P n) (h : ∀ n, P n → Ψ (.int n)) : DO K (rIxL K) (.list ds) (.int z) Ψ := by
  subst e
  refine do_ixL_any h0 (by rw [List.length_map]; exact h1) fun d hd => ?_
  obtain ⟨n, hn, rfl⟩ := List.mem_map.mp hd
  exact h n (hp n hn)
end
/-- a small part -/
structure PIn (n d : Int) : Prop where
  d1 : 1 ≤ d
  d2 : d ≤ 1000
  n1 : n.natAbs ≤ 10 ^ 6
  g : Nat.gcd n.natAbs d.natAbs = 1
def TSmall : Nat → List PyData → (PyData → Nat → Prop) → Prop := fun B ds Φ => ds = [] ∧ B + 3200 ≤ 2 ^ 40 ∧ ∀ n d : Int, PIn n d → Φ (pr (n, d)) (B + 3200)
def t_law_small (K : PySem.W.Frag) : TS :=
  (tSeq (tAsg (tCall (spS K FSto TDr) [] E0 (tCons (tVar 0) (tCons (tC (.int 6)) tNil))) (gName 1))
    (tSeq (tAsg (tOp (rIxL K) (tLst (tCons (tC (.int 1)) (tCons (tC (.int 1)) (tCons (tC (.int 2)) (tCons (tC (.int 3)) (tCons (tC (.int 4)) (tCons (tC (.int 12)) (tCons (tC (.int 97)) (tCons (tC (.int 101)) (tCons (tC (.int 997)) (tCons (tC (.int 1000)) (tCons (tOp rAddI (tC (.int 1)) (tCall (spS K FSto TDr) [] E0 (tCons (tVar 0) (tCons (tC (.int 1000)) tNil)))) tNil)))))))))))) (tCall (spS K FSto TDr) [] E0 (tCons (tVar 0) (tCons (tC (.int 11)) tNil)))) (gName 2))
    (tSeq (tAsg (tLst (tCons (tC (.int 0)) (tCons (tC (.int 1)) (tCons (tOp rAddI (tC (.int 1)) (tCall (spS K FSto TDr) [] E0 (tCons (tVar 0) (tCons (tC (.int 9)) tNil)))) (tCons (tCall (spS K FSto TDr) [] E0 (tCons (tVar 0) (tCons (tC (.int 1000)) tNil))) (tCons (tOp rSubI (tOp rPowI (tC (.int 10)) (tC (.int 6))) (tCall (spS K FSto TDr) [] E0 (tCons (tVar 0) (tCons (tC (.int 3)) tNil)))) tNil)))))) (gName 3))
    (tSeq (tAsg (tOp (rIxL K) (tOp rCatL (tVar 3) (tLst (tCons (tCall (spS K FSto TDr) [] E0 (tCons (tVar 0) (tCons (tOp rPowI (tC (.int 10)) (tC (.int 6))) tNil))) tNil))) (tVar 1)) (gName 3))
    (tRet (tCall (spP K TPart) [] E0 (tCons (tOp rMulI (tVar 3) (tOp (rIxL K) (tLst (tCons (tC (.int 1)) (tCons (tUn rNegI (tC (.int 1))) tNil))) (tCall (spS K FSto TDr) [] E0 (tCons (tVar 0) (tCons (tC (.int 2)) tNil))))) (tCons (tVar 2) tNil))))))))


/-! ### the law's own run -/
def spLaw (K : PySem.W.Frag) : Sp := fun vs H Q _ => ∃ (a : Addr) (ns : List Int), vs = [.ref a] ∧ SqL K H a (ns.map V.int) ∧ ns.length ≤ 63 ∧ ∀ H', Q (.bl true) H'
end DL

set_option Elab.async false
set_option linter.all false
set_option maxRecDepth 100000
set_option maxHeartbeats 2000000
namespace DL
open PySem PySem.Spec PyProof.Rows L2
/-! ### the head: facts of defs, and names that stand for a function of math -/
abbrev AlG : Type := He.AlD × Bool
def bltB (K : PySem.W.Frag) (bs : List (Str × String)) : Bool := bs.all fun p => He.eqO (PySem.W.nsIn K mainGlobals p.1) (some (some (.builtin p.2)))
def obsM (n : Nat) (fa : List He.Fa) (fn : List He.DefD) (bs : List (Str × String)) (g : Addr → Option Obj) : AlG := (He.obsDG n fa fn g, bltB (He.frG g (He.asD g n)) bs)
def hookM (n : Nat) (fa : List He.Fa) (fn : List He.DefD) (bs : List (Str × String)) : PySem.W.Hook where
  α := AlG
  obs := fun s => obsM n fa fn bs s.heap.get?
  val := fun _ => (He.valD fn, true)
  says := fun _ h => ∃ K : PySem.W.Frag, K.In h ∧ He.SaysD fa fn K ∧ bltB K bs = true
  of := fun _ _ e => ⟨_, He.frG_in, congrArg Prod.fst e, congrArg Prod.snd e⟩
  keeps := fun _ _ _ ⟨K, hK, c⟩ k => ⟨K, PySem.W.Frag.In.keeps hK k, c⟩
theorem blt_ok {K : PySem.W.Frag} {h : Heap} {mg : Str → Option Value} {bs : List (Str × String)} (X : K.In h) (G : h.Ns mainGlobals mg) (c : bltB K bs = true) {x : Str} {b : String} (hm : (x, b) ∈ bs) : mg x = some (.builtin b) :=
  PySem.W.mg_of X G (He.eqO_ok (List.all_eq_true.mp c _ hm))
/-- by names, of a def without defaults -/
theorem kbN {K : PySem.W.Frag} {x qual : Str} {params : Arguments} {body : List Stmt} {scope : Scope} {kws : List (Str × V)} {f : Addr} {fd : FuncData} {ps : List Str} (F : FunD K x qual params body scope [] kws f fd) (n : Nat) (ks : List Str) (g : {α : Type} → List α → List α → List α)
    (hrel : ∀ {vs zs : List V} {us ws : List Value}, Vals vs us → Vals zs ws → Vals (g vs zs) (g us ws))
    (h : ∀ (kV doc pm : Value) (an : Option Addr) (cdv ct : Value) (us ws : List Value), us.length = n → ws.length = ks.length → bindArgs (PySem.W.fnOf x qual params body scope .none kV doc pm an cdv ct) ⟨us, ks.zip ws⟩ = pure (ps.zip (g us ws))) :
    KBn K fd ps n ks (fun us ws => g us ws) (fun vs zs => g vs zs) := by
  obtain ⟨oc, od, dV, kV, doc, pm, an, cdv, ct, osl, rfl, lk, hcd, hD, hK⟩ := F.ex
  rcases hD with ⟨_, rfl⟩ | ⟨e, _⟩
  · exact ⟨fun s us ws _ l1 l2 => .of_eq (h kV doc pm an cdv ct us ws l1 l2), fun r1 r2 => hrel r1 r2⟩
  · exact absurd rfl e
/-- a promise of nothing: for a call that is never made -/
def spNo : Sp := fun _ _ _ _ => False
section
variable {P : Program} {w : World} {K : PySem.W.Frag} {mg : Str → Option Value} {base : Heap}
theorem has_of {x : Str} {k : Nat} {ps : List Str} {sp : Sp} {f : Addr} {fd : FuncData} (F : FnOk P w K mg base CX0 k f fd ps sp) (hm : mg x = some (.ref f)) (hk : PySem.W.keepIn K (.ref f) = true) (hb : Binds K fd ps []) : Has P w K mg base CX0 x k ps sp [] := ⟨f, fd, [], F, hm, hk, hb, .nil⟩
theorem hasG_of {x : Str} {k : Nat} {ps : List Str} {sp : Sp} {f : Addr} {fd : FuncData} (F : FnG P w K mg base CX0 k f fd ps sp) (hm : mg x = some (.ref f)) (hk : PySem.W.keepIn K (.ref f) = true) (hb : Binds K fd ps []) : HasG P w K mg base CX0 x k ps sp := ⟨f, fd, F, hm, hk, hb⟩
end
theorem spP_len {K : PySem.W.Frag} {T : List PyData → (PyData → Prop) → Prop} {n : Nat} (hT : ∀ ds Φ, T ds Φ → ds.length = n) {vs : List V} {H : Hp} {Q : VK} {E : XK} (h : spP K T vs H Q E) : vs.length = n := by
  obtain ⟨N, ds, Φ, _, hd, t, _⟩ := h
  exact hd.len.trans (hT ds Φ t)
theorem spS_len {K : PySem.W.Frag} {F : Stt → Prop} {T : Nat → List PyData → (PyData → Nat → Prop) → Prop} {n : Nat} (hT : ∀ B ds Φ, T B ds Φ → ds.length = n) {vs : List V} {H : Hp} {Q : VK} {E : XK} (h : spS K F T vs H Q E) : vs.length = n + 1 := by
  obtain ⟨S, N, us, ds, B, Φ, rfl, _, _, _, _, hd, t, _⟩ := h
  have e := hd.len.trans (hT B ds Φ t)
  simp [e]
end DL

set_option Elab.async false
set_option linter.all false
set_option maxRecDepth 100000
set_option maxHeartbeats 4000000
/-! DLA: parts reckoned -/
namespace DL
open PySem PySem.Spec PyProof.Rows L2
local macro_rules | `(tactic| walk_at "dl") => `(tactic| repeat' (first
  | with_reducible refine wd_isTy ?_ | with_reducible refine wd_isi ?_ | with_reducible refine wd_op ?_ | ((with_reducible show WD _ _ (tCB (rLenX _) (tCons (tVar _) tNil)) _ _); refine wd_len_scr rfl ?_) | with_reducible refine wd_cb ?_ | with_reducible refine wd_un ?_ | with_reducible refine wa_cons ?_ | with_reducible refine wa_nil ?_ | ((with_reducible show WD _ _ (tVar _) _ _); refine wd_var rfl ?_) | with_reducible refine wd_int ?_ | with_reducible refine wd_bl ?_ | with_reducible refine wd_str ?_ | with_reducible refine wd_non ?_
  | with_reducible refine do_add ?_ | with_reducible refine do_sub ?_ | ((with_reducible refine do_mod ?_ ?_); decide) | with_reducible refine do_mod ?_ ?_ | with_reducible refine do_mul ?_ ?_ | ((with_reducible refine do_div ?_ ?_); exact ⟨by decide, by decide⟩) | with_reducible refine do_div ?_ ?_ | ((with_reducible refine do_pow ?_ ?_); exact ⟨by decide, by decide, by decide⟩) | with_reducible refine do_pow ?_ ?_
  | with_reducible refine do_lt ?_ | with_reducible refine do_le ?_ | with_reducible refine do_gt ?_ | with_reducible refine do_ge ?_ | with_reducible refine du_neg ?_
  | with_reducible refine do_eqi ?_ | with_reducible refine do_nei ?_ | with_reducible refine do_eqs ?_ | with_reducible refine do_nes ?_ | with_reducible refine dc_abs ?_ | with_reducible refine dc_min ?_ | with_reducible refine dc_max ?_ | with_reducible refine dc_lenL ?_ | with_reducible refine dc_lenT ?_ | with_reducible refine dc_gcd ?_
  | ((with_reducible show DO _ (rIxT _) _ _ _); refine do_ixT rfl ?_) | ((with_reducible show DO _ (rIxL _) _ _ _); refine do_ixL rfl ?_) | ((with_reducible refine do_catL ?_ ?_); exact Nat.le_of_ble_eq_true rfl) | with_reducible refine do_catL ?_ ?_ | ((with_reducible show And (List.length _ ≤ sizeLine) _); refine ⟨Nat.le_of_ble_eq_true rfl, ?_⟩)
  | with_reducible refine wd_dnew ?_ | with_reducible refine wd_call0 ?_ | with_reducible refine dc_str ?_ ?_ | with_reducible refine wd_tup ?_ | with_reducible refine wd_lst ?_ | with_reducible refine wt_test ?_ | with_reducible refine wt_B ?_ | with_reducible refine wt_not ?_ | with_reducible refine wt_and ?_ | with_reducible refine wt_or ?_ | with_reducible refine wd_ifE ?_ | with_reducible refine wd_andV ?_ | with_reducible refine wd_orV ?_ | with_reducible refine wd_notV ?_
  | with_reducible refine ws_seq ?_ | with_reducible refine ws_next ?_ | with_reducible refine ws_asg ?_ | with_reducible refine ws_ret ?_ | with_reducible refine ws_retN ?_ | with_reducible refine ws_if ?_ | with_reducible refine ws_par ?_ | with_reducible refine ws_unp2 ?_
  | with_reducible refine if_t ?_ | with_reducible refine if_f ?_ | with_reducible refine if_nf ?_ | with_reducible refine if_nt ?_
  | ((with_reducible show Exists _); first | refine ⟨_, kitInt _, ?_⟩ | refine ⟨_, kitBool _, ?_⟩ | refine ⟨_, kitTup _, ?_⟩ | refine ⟨_, kitList _, ?_⟩ | refine ⟨_, rfl, ?_⟩ | refine ⟨_, _, rfl, ?_⟩ | fail) | fail))
/-! ### what is never reached -/
def tNo : TS := fun _ _ _ => False
def tNoE : TE := fun _ _ _ => False
theorem ps_no {X : Cx} {st : Stmt} : PS X st tNo := ⟨fun _ _ _ _ _ _ h => h.elim⟩
theorem pss_no {X : Cx} {st : List Stmt} : PSs X st tNo := ⟨fun _ _ _ _ _ _ h => h.elim⟩
/-! ### a maker of parts -/
def t_part (K : PySem.W.Frag) : TS :=
  (tSeq (tIfS (tTest (tOp rEq (tVar 1) (tC (.int 0)))) tNo tNext)
    (tSeq (tAsg (tCB rGcd (tCons (tVar 0) (tCons (tVar 1) tNil))) (gName 2))
    (tSeq (tIfS (tTest (tOp rLt (tVar 1) (tC (.int 0)))) (tAsg (tUn rNegI (tVar 2)) (gName 2)) tNext)
    (tRet (tTup (tCons (tOp rDivI (tVar 0) (tVar 2)) (tCons (tOp rDivI (tVar 1) (tVar 2)) tNil)))))))
theorem nrm_pos {a b : Int} (hb : 0 < b) : (nrm a b) = (a.fdiv (Nat.gcd a.natAbs b.natAbs : Nat), b.fdiv (Nat.gcd a.natAbs b.natAbs : Nat)) := by
  unfold nrm
  have : ((b.natAbs : Nat) : Int) = b := by omega
  rw [if_pos hb, this, Int.fdiv_eq_ediv_of_nonneg _ (by omega), Int.fdiv_eq_ediv_of_nonneg _ (by omega)]
theorem fdiv_neg_dvd {x g : Int} (hg : g ≠ 0) (h : g ∣ x) : x.fdiv (-g) = (-x) / g := by
  obtain ⟨k, rfl⟩ := h
  have e1 : g * k = (-g) * (-k) := by rw [Int.neg_mul_neg]
  have e2 : -(g * k) = g * (-k) := by rw [Int.mul_neg]
  rw [e2, Int.mul_ediv_cancel_left _ hg, e1, Int.mul_fdiv_cancel_left _ (by omega)]
theorem nrm_neg {a b : Int} (hb : b < 0) : (nrm a b) = (a.fdiv (-(Nat.gcd a.natAbs b.natAbs : Nat)), b.fdiv (-(Nat.gcd a.natAbs b.natAbs : Nat))) := by
  have gp := gcd_pos (a := a) (b := b) (by omega)
  have d1 : ((Nat.gcd a.natAbs b.natAbs : Nat) : Int) ∣ a := Int.ofNat_dvd_left.mpr (Nat.gcd_dvd_left _ _)
  have d2 : ((Nat.gcd a.natAbs b.natAbs : Nat) : Int) ∣ b := Int.ofNat_dvd_left.mpr (Nat.gcd_dvd_right _ _)
  unfold nrm
  have : ((b.natAbs : Nat) : Int) = -b := by omega
  rw [if_neg (by omega), this, fdiv_neg_dvd (by omega) d1, fdiv_neg_dvd (by omega) d2]
theorem ws_part {K : PySem.W.Frag} {ds : List PyData} {Φ : PyData → Prop} (h : TPart ds Φ) : WS K S0 (t_part K) (rhoOf 3 ds) { nx := fun _ => Φ .none, rt := fun d _ => Φ d } := by
  obtain ⟨a, b, rfl, hb, ha8, hb8, hΦ⟩ := h
  show WS K S0 (t_part K) [.dat (.int a), .dat (.int b), .unk] _
  unfold t_part
  walk_at "dl"
  refine if_b (fun h => absurd h hb) (fun _ => ?_)
  have gp := gcd_pos (a := a) hb
  have gl := natAbs_gcd_le a b hb
  have x8 : (((Nat.gcd a.natAbs b.natAbs : Nat) : Int)).natAbs.log2 < 9000 := by
    have := log2_of (i := ((Nat.gcd a.natAbs b.natAbs : Nat) : Int)) (k := 8000) (by omega) (by decide)
    omega
  have y8 : (-((Nat.gcd a.natAbs b.natAbs : Nat) : Int)).natAbs.log2 < 9000 := by
    rw [Int.natAbs_neg]; exact x8
  walk_at "dl"
  refine if_b (fun hn => ?_) (fun hp => ?_)
  · walk_at "dl"
    · exact ⟨by omega, y8⟩
    · exact ⟨by omega, y8⟩
    · have e := nrm_neg (a := a) hn
      rw [e] at hΦ
      exact hΦ
  · walk_at "dl"
    · exact ⟨by omega, x8⟩
    · exact ⟨by omega, x8⟩
    · have e := nrm_pos (a := a) (b := b) (by omega)
      rw [e] at hΦ
      exact hΦ
theorem eqv_pr2 (a b c d : Int) : PyData.eqv (pr (a, b)) (pr (c, d)) = (decide (a = c) && decide (b = d)) := by
  show ((a == c) && ((b == d) && true)) = _
  rw [Bool.and_true]
  by_cases h1 : a = c <;> by_cases h2 : b = d <;> simp [h1, h2]
theorem sh_pr2 (x : Int × Int) : SeqAt.shaped (pr x) = true := by
  simp [pr, SeqAt.shaped, PyData.canLay0, PyData.canLayAll0, PyData.depth, PyData.depthAll]
section
variable {K : PySem.W.Frag} {Ψ : PyData → Prop}
end
/-! ### what is reckoned of two -/
structure Wd4 (a b c d : Int) : Prop where
  a : a.natAbs < 2 ^ 3900
  b : b.natAbs < 2 ^ 3900
  c : c.natAbs < 2 ^ 3900
  d : d.natAbs < 2 ^ 3900
theorem Wd4.mul {i j : Int} (hi : i.natAbs < 2 ^ 3900) (hj : j.natAbs < 2 ^ 3900) : CMulW i j := wide_mul hi hj (by decide) (by decide) (by decide)
theorem lt78 {i j : Int} (hi : i.natAbs < 2 ^ 3900) (hj : j.natAbs < 2 ^ 3900) : (i * j).natAbs < 2 ^ 7800 := wide_lt (a := 3900) (b := 3900) hi hj
theorem le80 : (2 : Nat) ^ 7800 + 2 ^ 7800 ≤ 2 ^ 8000 := by decide +kernel
theorem lt80 {i j : Int} (hi : i.natAbs < 2 ^ 3900) (hj : j.natAbs < 2 ^ 3900) : (i * j).natAbs < 2 ^ 8000 := by
  have := lt78 hi hj; have := le80; omega
theorem add80 {x y : Int} (hx : x.natAbs < 2 ^ 7800) (hy : y.natAbs < 2 ^ 7800) : (x + y).natAbs < 2 ^ 8000 := by
  have := le80; omega
theorem sub80 {x y : Int} (hx : x.natAbs < 2 ^ 7800) (hy : y.natAbs < 2 ^ 7800) : (x - y).natAbs < 2 ^ 8000 := by
  have := le80; omega
def T2 (P : Int → Int → Int → Int → Prop) (f : Int → Int → Int → Int → PyData) : List PyData → (PyData → Prop) → Prop := fun ds Φ => ∃ a b c d : Int, ds = [pr (a, b), pr (c, d)] ∧ Wd4 a b c d ∧ P a b c d ∧ Φ (f a b c d)
abbrev PBD : Int → Int → Int → Int → Prop := fun _ b _ d => b ≠ 0 ∧ d ≠ 0
abbrev TPlus := T2 PBD fun a b c d => pr (nrm (a * d + c * b) (b * d))
abbrev TLess := T2 PBD fun a b c d => pr (nrm (a * d - c * b) (b * d))
abbrev TTimes := T2 PBD fun a b c d => pr (nrm (a * c) (b * d))
abbrev TOver := T2 (fun _ b c _ => b ≠ 0 ∧ c ≠ 0) fun a b c d => pr (nrm (a * d) (b * c))
abbrev TUnder := T2 (fun _ _ _ _ => True) fun a b c d => .bool (decide (a * d < c * b))
def T1 (f : Int → Int → PyData) : List PyData → (PyData → Prop) → Prop := fun ds Φ => ∃ a b : Int, ds = [pr (a, b)] ∧ b ≠ 0 ∧ b.natAbs < 2 ^ 3900 ∧ Φ (f a b)
abbrev TFloor := T1 fun a b => .int (a.fdiv b)
abbrev TCeil := T1 fun a b => .int (-((-a).fdiv b))
def t_plus (K : PySem.W.Frag) : TS :=
  (tRet (tCall (spP K TPart) [] E0 (tCons (tOp rAddI (tOp rMulI (tOp (rIxT K) (tVar 0) (tC (.int 0))) (tOp (rIxT K) (tVar 1) (tC (.int 1)))) (tOp rMulI (tOp (rIxT K) (tVar 1) (tC (.int 0))) (tOp (rIxT K) (tVar 0) (tC (.int 1))))) (tCons (tOp rMulI (tOp (rIxT K) (tVar 0) (tC (.int 1))) (tOp (rIxT K) (tVar 1) (tC (.int 1)))) tNil))))
def t_less (K : PySem.W.Frag) : TS :=
  (tRet (tCall (spP K TPart) [] E0 (tCons (tOp rSubI (tOp rMulI (tOp (rIxT K) (tVar 0) (tC (.int 0))) (tOp (rIxT K) (tVar 1) (tC (.int 1)))) (tOp rMulI (tOp (rIxT K) (tVar 1) (tC (.int 0))) (tOp (rIxT K) (tVar 0) (tC (.int 1))))) (tCons (tOp rMulI (tOp (rIxT K) (tVar 0) (tC (.int 1))) (tOp (rIxT K) (tVar 1) (tC (.int 1)))) tNil))))
def t_times (K : PySem.W.Frag) : TS :=
  (tRet (tCall (spP K TPart) [] E0 (tCons (tOp rMulI (tOp (rIxT K) (tVar 0) (tC (.int 0))) (tOp (rIxT K) (tVar 1) (tC (.int 0)))) (tCons (tOp rMulI (tOp (rIxT K) (tVar 0) (tC (.int 1))) (tOp (rIxT K) (tVar 1) (tC (.int 1)))) tNil))))
def t_over (K : PySem.W.Frag) : TS :=
  (tRet (tCall (spP K TPart) [] E0 (tCons (tOp rMulI (tOp (rIxT K) (tVar 0) (tC (.int 0))) (tOp (rIxT K) (tVar 1) (tC (.int 1)))) (tCons (tOp rMulI (tOp (rIxT K) (tVar 0) (tC (.int 1))) (tOp (rIxT K) (tVar 1) (tC (.int 0)))) tNil))))
def t_is_less (K : PySem.W.Frag) : TS :=
  (tRet (tOp rLt (tOp rMulI (tOp (rIxT K) (tVar 0) (tC (.int 0))) (tOp (rIxT K) (tVar 1) (tC (.int 1)))) (tOp rMulI (tOp (rIxT K) (tVar 1) (tC (.int 0))) (tOp (rIxT K) (tVar 0) (tC (.int 1))))))
def t_floor (K : PySem.W.Frag) : TS :=
  (tRet (tOp rDivI (tOp (rIxT K) (tVar 0) (tC (.int 0))) (tOp (rIxT K) (tVar 0) (tC (.int 1)))))
def t_ceiling (K : PySem.W.Frag) : TS :=
  (tRet (tUn rNegI (tOp rDivI (tUn rNegI (tOp (rIxT K) (tVar 0) (tC (.int 0)))) (tOp (rIxT K) (tVar 0) (tC (.int 1))))))
section
variable {K : PySem.W.Frag} {ds : List PyData} {Φ : PyData → Prop}
end
end DL

set_option Elab.async false
set_option linter.all false
set_option maxRecDepth 100000
set_option maxHeartbeats 4000000
/-! DLR: how long the texts of data are -/
namespace DL
open PySem PySem.Spec PyProof.Rows L2
theorem textFrom_le : ∀ (ts : List Str) (k : Nat) (acc : Str), (textFrom k acc ts).length ≤ acc.length + piled ts
  | [], _, acc => Nat.le_add_right _ _
  | t :: r, k, acc => by
    have ih := textFrom_le r (k + 1) (acc ++ (if k > 0 then ", " else "" : String) ++ t)
    have e : (acc ++ (if k > 0 then ", " else "" : String) ++ t).length ≤ acc.length + 2 + t.length := by
      rw [strLen_append, strLen_append]
      have : ((Str.ofString (if k > 0 then ", " else "" : String))).length ≤ 2 := by split <;> decide
      omega
    rw [piled_cons]
    exact Nat.le_trans ih (by omega)
theorem piled_le {m : Nat} : ∀ ts : List Str, (∀ t ∈ ts, t.length ≤ m) → piled ts ≤ ts.length * (m + 2)
  | [], _ => by simp [piled]
  | t :: r, h => by
    rw [piled_cons, List.length_cons, Nat.succ_mul]
    have := h t (List.mem_cons_self ..)
    have := piled_le r fun t ht => h t (List.mem_cons_of_mem _ ht)
    omega
theorem shownAll_mem : ∀ (xs : List PyData) (t : Str), t ∈ PyData.shownAll xs → ∃ x ∈ xs, t = x.shown
  | [], t, h => by simp [PyData.shownAll] at h
  | x :: xs, t, h => by
    rcases List.mem_cons.mp (show t ∈ x.shown :: PyData.shownAll xs from h) with e | h
    · exact ⟨x, List.mem_cons_self .., e⟩
    · obtain ⟨y, hy, e⟩ := shownAll_mem xs t h
      exact ⟨y, List.mem_cons_of_mem _ hy, e⟩
theorem shownAll_len : ∀ xs : List PyData, (PyData.shownAll xs).length = xs.length
  | [] => rfl
  | x :: xs => by show (PyData.shownAll xs).length + 1 = _; rw [shownAll_len xs]; rfl
/-- what may be shown within a row -/
structure Rp (d : PyData) : Prop where
  s : d.showable = true
  h : d.hasDict = false
  l : d.shown.length ≤ 5000
  d : d.depth ≤ 10
theorem showableAll_of : ∀ xs : List PyData, (∀ x ∈ xs, x.showable = true) → PyData.showableAll xs = true
  | [], _ => rfl
  | x :: xs, h => by
    show (x.showable && PyData.showableAll xs) = true
    rw [h x (List.mem_cons_self ..), showableAll_of xs fun y hy => h y (List.mem_cons_of_mem _ hy)]; rfl
theorem hasDictAll_of : ∀ xs : List PyData, (∀ x ∈ xs, x.hasDict = false) → PyData.hasDictAll xs = false
  | [], _ => rfl
  | x :: xs, h => by
    show (x.hasDict || PyData.hasDictAll xs) = false
    rw [h x (List.mem_cons_self ..), hasDictAll_of xs fun y hy => h y (List.mem_cons_of_mem _ hy)]; rfl
theorem depthAll_of {n : Nat} : ∀ xs : List PyData, (∀ x ∈ xs, x.depth ≤ n) → PyData.depthAll xs ≤ n
  | [], _ => Nat.zero_le _
  | x :: xs, h => by
    show max x.depth (PyData.depthAll xs) ≤ n
    exact Nat.max_le.mpr ⟨h x (List.mem_cons_self ..), depthAll_of xs fun y hy => h y (List.mem_cons_of_mem _ hy)⟩
theorem listText_le {m n : Nat} {xs : List PyData} (h : ∀ x ∈ xs, x.shown.length ≤ m) (hn : xs.length ≤ n) : (PyData.list xs).shown.length ≤ 2 + n * (m + 2) := by
  show (textFrom 0 "[" (PyData.shownAll xs) ++ ("]" : String) : Str).length ≤ _
  rw [strLen_append]
  have h1 := textFrom_le (PyData.shownAll xs) 0 "["
  have h2 := piled_le (m := m) (PyData.shownAll xs) fun t ht => by
    obtain ⟨x, hx, rfl⟩ := shownAll_mem xs t ht
    exact h x hx
  rw [shownAll_len] at h2
  have h3 : xs.length * (m + 2) ≤ n * (m + 2) := Nat.mul_le_mul_right _ hn
  have e1 : (Str.ofString "[").length = 1 := by decide
  have e2 : (Str.ofString "]").length = 1 := by decide
  rw [e1] at h1
  rw [e2]
  omega
section
variable {K : PySem.W.Frag} {Ψ : PyData → Prop}
end
end DL

set_option Elab.async false
set_option linter.all false
set_option maxRecDepth 100000
set_option maxHeartbeats 4000000
namespace DL
open PySem PySem.Spec PyProof.Rows L2
local macro_rules | `(tactic| walk_at "dl") => `(tactic| repeat' (first
  | with_reducible refine wd_isTy ?_ | with_reducible refine wd_isi ?_ | with_reducible refine wd_op ?_ | ((with_reducible show WD _ _ (tCB (rLenX _) (tCons (tVar _) tNil)) _ _); refine wd_len_scr rfl ?_) | with_reducible refine wd_cb ?_ | with_reducible refine wd_un ?_ | with_reducible refine wa_cons ?_ | with_reducible refine wa_nil ?_ | ((with_reducible show WD _ _ (tVar _) _ _); refine wd_var rfl ?_) | with_reducible refine wd_int ?_ | with_reducible refine wd_bl ?_ | with_reducible refine wd_str ?_ | with_reducible refine wd_non ?_
  | with_reducible refine do_add ?_ | with_reducible refine do_sub ?_ | ((with_reducible refine do_mod ?_ ?_); decide) | with_reducible refine do_mod ?_ ?_ | with_reducible refine do_mul ?_ ?_ | ((with_reducible refine do_div ?_ ?_); exact ⟨by decide, by decide⟩) | with_reducible refine do_div ?_ ?_ | ((with_reducible refine do_pow ?_ ?_); exact ⟨by decide, by decide, by decide⟩) | with_reducible refine do_pow ?_ ?_
  | with_reducible refine do_lt ?_ | with_reducible refine do_le ?_ | with_reducible refine do_gt ?_ | with_reducible refine do_ge ?_ | with_reducible refine du_neg ?_
  | with_reducible refine do_eqi ?_ | with_reducible refine do_nei ?_ | with_reducible refine do_eqs ?_ | with_reducible refine do_nes ?_ | with_reducible refine dc_abs ?_ | with_reducible refine dc_min ?_ | with_reducible refine dc_max ?_ | with_reducible refine dc_lenL ?_ | with_reducible refine dc_lenT ?_ | with_reducible refine dc_gcd ?_
  | ((with_reducible show DO _ (rIxT _) _ _ _); refine do_ixT rfl ?_) | ((with_reducible show DO _ (rIxL _) _ _ _); refine do_ixL rfl ?_) | ((with_reducible refine do_catL ?_ ?_); exact Nat.le_of_ble_eq_true rfl) | with_reducible refine do_catL ?_ ?_ | ((with_reducible show And (List.length _ ≤ sizeLine) _); refine ⟨Nat.le_of_ble_eq_true rfl, ?_⟩)
  | with_reducible refine wd_dnew ?_ | with_reducible refine wd_call0 ?_ | with_reducible refine dc_str ?_ ?_ | with_reducible refine wd_tup ?_ | with_reducible refine wd_lst ?_ | with_reducible refine wt_test ?_ | with_reducible refine wt_B ?_ | with_reducible refine wt_not ?_ | with_reducible refine wt_and ?_ | with_reducible refine wt_or ?_ | with_reducible refine wd_ifE ?_ | with_reducible refine wd_andV ?_ | with_reducible refine wd_orV ?_ | with_reducible refine wd_notV ?_
  | with_reducible refine ws_seq ?_ | with_reducible refine ws_next ?_ | with_reducible refine ws_asg ?_ | with_reducible refine ws_ret ?_ | with_reducible refine ws_retN ?_ | with_reducible refine ws_if ?_ | with_reducible refine ws_par ?_ | with_reducible refine ws_unp2 ?_
  | with_reducible refine if_t ?_ | with_reducible refine if_f ?_ | with_reducible refine if_nf ?_ | with_reducible refine if_nt ?_
  | ((with_reducible show Exists _); first | refine ⟨_, kitInt _, ?_⟩ | refine ⟨_, kitBool _, ?_⟩ | refine ⟨_, kitTup _, ?_⟩ | refine ⟨_, kitList _, ?_⟩ | refine ⟨_, rfl, ?_⟩ | refine ⟨_, _, rfl, ?_⟩ | fail) | fail))
/-! ### a list so many times, locked or not -/
def rRepL : R2 := fun x y H Q => ∃ a k xs, x = .ref a ∧ y = .int k ∧ Rd H a (.lst xs) ∧ (-(2 ^ 63) ≤ k ∧ k < 2 ^ 63) ∧ xs.length * k.toNat ≤ sizeLine ∧ ∀ p, H p = none → Q (.ref p) (upd H p (.lst (List.replicate k.toNat xs).flatten))
theorem fold_rep (its : List Value) : ∀ m : Nat, List.foldl (fun u v => u ++ v) #[] (List.replicate m its.toArray) = (List.replicate m its).flatten.toArray := fun m => by
  have := foldl_rep its m []
  simpa using this
theorem op_repL {X : Cx} : OpR X (binaryOp .Mult) rRepL := by
  intro pins s τ G x y v u R I rx ry h
  obtain ⟨l, k, xs, rfl, rfl, hL, ⟨b1, b2⟩, hz, q⟩ := h
  cases rx
  obtain ⟨tk, rfl⟩ := ry
  obtain ⟨z1, i1, n1, w1, g1⟩ := hL.ok I.hok
  have e1 := w1.length
  have sz : i1.toArray.size * k.toNat ≤ sizeLine := by simp only [List.size_toArray]; rw [← e1]; exact hz
  have cap : ¬ i1.toArray.size * k.toNat > (2 ^ 63 - 1) / 8 := by
    have c : (sizeLine : Nat) ≤ (2 ^ 63 - 1) / 8 := by decide
    omega
  have fit : ¬ (!Builtin.List.listFitsIndex k) = true := by
    rw [fitsIndex_both b1 b2]; simp
  have lng : ¬ Builtin.List.listTooLong (i1.toArray.size * k.toNat) = true := by
    rw [notLongL sz]; simp
  have nw : List.foldl (fun u v => u ++ v) #[] (List.replicate (if i1.toArray.isEmpty = true then 0 else k.toNat) i1.toArray) = (List.replicate k.toNat i1).flatten.toArray := by
    rw [fold_rep]
    cases i1 with
    | nil => simp
    | cons a r => rw [if_neg (by simp)]
  refine wpAny_binaryOp_repeat_ref (T := "list") (U := "int") (by decide) ⟨_, g1, rfl⟩
    (fun s' => typeIs_int s' k tk) noFill_list_mul F.fills_int_mul F.slot_int_rmul repeat_list F.slot_int_index.lookup
    (call_meets F.slot_int_rmul (typeIs_int s k tk) F.entry_int_rmul (F.args_int_rmul_2 _ _)
      (int___rmul___int_list k tk l i1.toArray n1) ⟨g1, rfl, ⟨_, g1, rfl⟩,
        call_meets F.slot_list_mul ⟨_, g1, rfl⟩ F.entry_list_mul
          (F.args_list_mul_2 _ _) (AutoListH.list___mul___list_int_3 l i1.toArray n1 k tk fit cap lng) ⟨g1, ?_⟩⟩)
  rw [nw]
  exact ⟨.ref _, _, I.lnew (t' := s.toks) (w1.rep k.toNat) (by rw [lm_len_rep_flat, Nat.mul_comm]; exact hz), rfl, q _ I.fresh⟩
end DL

set_option Elab.async false
set_option linter.all false
set_option maxRecDepth 100000
set_option maxHeartbeats 4000000
/-! DLX: what is refused, and caught -/
namespace DL
open PySem PySem.Spec PyProof.Rows L2
abbrev rNotNone : R2 := fun x y H Q => y = .non ∧ Q (.bl (!decide (x = .non))) H
abbrev rIsNone : R2 := fun x y H Q => y = .non ∧ Q (.bl (decide (x = .non))) H
/-- refused with the class at C, of nought beneath -/
def TPartX (C : Addr) : List PyData → (PyData → Prop) → (Addr → Prop) → Prop := fun ds _ Ψ => ∃ a : Int, ds = [.int a, .int 0] ∧ Ψ C
def TOverX (C : Addr) : List PyData → (PyData → Prop) → (Addr → Prop) → Prop := fun ds _ Ψ => ∃ a b d : Int, ds = [pr (a, b), pr (0, d)] ∧ Wd4 a b 0 d ∧ Ψ C
theorem spX_len {K : PySem.W.Frag} {T : List PyData → (PyData → Prop) → (Addr → Prop) → Prop} {n : Nat} (hT : ∀ ds Φ Ψ, T ds Φ Ψ → ds.length = n) {vs : List V} {H : Hp} {Q : VK} {E : XK} (h : spX K T vs H Q E) : vs.length = n := by
  obtain ⟨N, ds, Φ, Ψ, _, hd, t, _⟩ := h
  exact hd.len.trans (hT ds Φ Ψ t)
def t_partX (C : Addr) (E : XK) : TS := tSeq (tIfS (tTest (tOp rEq (tVar 1) (tC (.int 0)))) (fun _ σ H => E (.ref C) none H) tNext) tNo
def t_overX (K : PySem.W.Frag) (C : Addr) (E : XK) : TS :=
  (tRet (tCall (spX K (TPartX C)) [] E (tCons (tOp rMulI (tOp (rIxT K) (tVar 0) (tC (.int 0))) (tOp (rIxT K) (tVar 1) (tC (.int 1)))) (tCons (tOp rMulI (tOp (rIxT K) (tVar 0) (tC (.int 1))) (tOp (rIxT K) (tVar 1) (tC (.int 0)))) tNil))))
local macro_rules | `(tactic| walk_at "dl") => `(tactic| repeat' (first
  | with_reducible refine wd_isTy ?_ | with_reducible refine wd_isi ?_ | with_reducible refine wd_op ?_ | ((with_reducible show WD _ _ (tCB (rLenX _) (tCons (tVar _) tNil)) _ _); refine wd_len_scr rfl ?_) | with_reducible refine wd_cb ?_ | with_reducible refine wd_un ?_ | with_reducible refine wa_cons ?_ | with_reducible refine wa_nil ?_ | ((with_reducible show WD _ _ (tVar _) _ _); refine wd_var rfl ?_) | with_reducible refine wd_int ?_ | with_reducible refine wd_bl ?_ | with_reducible refine wd_str ?_ | with_reducible refine wd_non ?_
  | with_reducible refine do_add ?_ | with_reducible refine do_sub ?_ | ((with_reducible refine do_mod ?_ ?_); decide) | with_reducible refine do_mod ?_ ?_ | with_reducible refine do_mul ?_ ?_ | ((with_reducible refine do_div ?_ ?_); exact ⟨by decide, by decide⟩) | with_reducible refine do_div ?_ ?_ | ((with_reducible refine do_pow ?_ ?_); exact ⟨by decide, by decide, by decide⟩) | with_reducible refine do_pow ?_ ?_
  | with_reducible refine do_lt ?_ | with_reducible refine do_le ?_ | with_reducible refine do_gt ?_ | with_reducible refine do_ge ?_ | with_reducible refine du_neg ?_
  | with_reducible refine do_eqi ?_ | with_reducible refine do_nei ?_ | with_reducible refine do_eqs ?_ | with_reducible refine do_nes ?_ | with_reducible refine dc_abs ?_ | with_reducible refine dc_min ?_ | with_reducible refine dc_max ?_ | with_reducible refine dc_lenL ?_ | with_reducible refine dc_lenT ?_ | with_reducible refine dc_gcd ?_
  | ((with_reducible show DO _ (rIxT _) _ _ _); refine do_ixT rfl ?_) | ((with_reducible show DO _ (rIxL _) _ _ _); refine do_ixL rfl ?_) | ((with_reducible refine do_catL ?_ ?_); exact Nat.le_of_ble_eq_true rfl) | with_reducible refine do_catL ?_ ?_ | ((with_reducible show And (List.length _ ≤ sizeLine) _); refine ⟨Nat.le_of_ble_eq_true rfl, ?_⟩)
  | with_reducible refine wd_dnew ?_ | with_reducible refine wd_call0 ?_ | with_reducible refine dc_str ?_ ?_ | with_reducible refine wd_tup ?_ | with_reducible refine wd_lst ?_ | with_reducible refine wt_test ?_ | with_reducible refine wt_B ?_ | with_reducible refine wt_not ?_ | with_reducible refine wt_and ?_ | with_reducible refine wt_or ?_ | with_reducible refine wd_ifE ?_ | with_reducible refine wd_andV ?_ | with_reducible refine wd_orV ?_ | with_reducible refine wd_notV ?_
  | with_reducible refine ws_seq ?_ | with_reducible refine ws_next ?_ | with_reducible refine ws_asg ?_ | with_reducible refine ws_ret ?_ | with_reducible refine ws_retN ?_ | with_reducible refine ws_if ?_ | with_reducible refine ws_par ?_ | with_reducible refine ws_unp2 ?_
  | with_reducible refine if_t ?_ | with_reducible refine if_f ?_ | with_reducible refine if_nf ?_ | with_reducible refine if_nt ?_
  | ((with_reducible show Exists _); first | refine ⟨_, kitInt _, ?_⟩ | refine ⟨_, kitBool _, ?_⟩ | refine ⟨_, kitTup _, ?_⟩ | refine ⟨_, kitList _, ?_⟩ | refine ⟨_, rfl, ?_⟩ | refine ⟨_, _, rfl, ?_⟩ | fail) | fail))
/-! ### the two ways of the judge of quotients -/
structure Gd (e : Nat) (a b : Int) : Prop where
  p : 1 ≤ b
  b : b.natAbs < 2 ^ e
  a : a.natAbs < 2 ^ e
def TRight2 : List PyData → (PyData → Prop) → Prop := fun ds Φ => ∃ a b c d : Int, ds = [pr (a, b), pr (c, d)] ∧ Gd 1500 a b ∧ Gd 1500 c d ∧ Φ (.bool true)
def TRight1 : List PyData → (PyData → Prop) → Prop := fun ds Φ => ∃ a b : Int, ds = [pr (a, b)] ∧ Gd 1500 a b ∧ Φ (.bool true)
def ts_or (a : Addr) (_ : Value) (_ : Option Addr) : TS := tAsg (tVar 4) (gName 2)
def tb_or (K : PySem.W.Frag) (C : Addr) (W : WX) : TS := tAsg (tLst (tCons (tCallS (spX K (TOverX C)) (WE W) (tCons (tVar 0) (tCons (tVar 1) tNil))) (tCons tNoE tNil))) (gName 3)
def t_orZ (K : PySem.W.Frag) (C : Addr) : TS :=
  (tSeq (tAsg (tC .non) (gName 2))
    (tSeq (tAsg (tC .non) (gName 3))
    (tSeq (fun D σ H => tb_or K C (wAs K (.ref C) 4 ts_or (fun _ _ _ _ => False) D) D σ H)
    (tSeq (tIfS (tTest (tOp rEq (tOp (rIxT K) (tVar 1) (tC (.int 0))) (tC (.int 0)))) (tRet (tOp rNotNone (tVar 2) (tC .non))) tNext)
    tNo))))
end DL

set_option Elab.async false
set_option linter.all false
set_option maxRecDepth 100000
set_option maxHeartbeats 4000000
namespace DL
open PySem PySem.Spec PyProof.Rows L2
/-! ### the head: facts of one's own, too -/
def obsX (n : Nat) (fa : List He.Fa) (fn : List He.DefD) (ex : PySem.W.Frag → Bool) (g : Addr → Option Obj) : AlG := (He.obsDG n fa fn g, ex (He.frG g (He.asD g n)))
def hookX (n : Nat) (fa : List He.Fa) (fn : List He.DefD) (ex : PySem.W.Frag → Bool) : PySem.W.Hook where
  α := AlG
  obs := fun s => obsX n fa fn ex s.heap.get?
  val := fun _ => (He.valD fn, true)
  says := fun _ h => ∃ K : PySem.W.Frag, K.In h ∧ He.SaysD fa fn K ∧ ex K = true
  of := fun _ _ e => ⟨_, He.frG_in, congrArg Prod.fst e, congrArg Prod.snd e⟩
  keeps := fun _ _ _ ⟨K, hK, c⟩ k => ⟨K, PySem.W.Frag.In.keeps hK k, c⟩
theorem obsX_eq {n : Nat} {fa : List He.Fa} {fn : List He.DefD} {ex : PySem.W.Frag → Bool} {g : Addr → Option Obj} {s : Shared} (h : ∀ a, g a = s.heap.get? a) : obsX n fa fn ex g = (hookX n fa fn ex).obs s := by
  have e : g = s.heap.get? := funext h
  rw [e] <;> rfl
/-- a class of one's own right under ZeroDivisionError -/
abbrev zdBase : List Value := [.type "ZeroDivisionError", .type "ArithmeticError", .type "Exception", .type "BaseException", .type "object"]
structure ExcZ (K : PySem.W.Frag) (C : Addr) : Prop where
  q : PySem.W.excIn K C zdBase "ZeroDivisionError.__new__" = true
  k : PySem.W.keepIn K (.ref C) = true
  s : PySem.W.subIn K (.ref C) (.type "BaseException") = some true
  t : PySem.W.typeIn K (.ref C) = some (.type "type")
  m : PySem.W.exmOne K (.ref C) (.ref C) = some true
def excZB (K : PySem.W.Frag) (C : Addr) : Bool := PySem.W.excIn K C zdBase "ZeroDivisionError.__new__" && (PySem.W.keepIn K (.ref C) && (decide (PySem.W.subIn K (.ref C) (.type "BaseException") = some true) &&
  (decide (PySem.W.typeIn K (.ref C) = some (.type "type")) && decide (PySem.W.exmOne K (.ref C) (.ref C) = some true))))
theorem hasC_of {P : Program} {w : World} {K : PySem.W.Frag} {mg : Str → Option Value} {base : Heap} {CX : CXT} {x : Str} {k : Nat} {ps : List Str} {sp : Sp} {f : Addr} {fd : FuncData} (F : FnOk P w K mg base CX k f fd ps sp) (hm : mg x = some (.ref f)) (hk : PySem.W.keepIn K (.ref f) = true) (hb : Binds K fd ps []) : Has P w K mg base CX x k ps sp [] := ⟨f, fd, [], F, hm, hk, hb, .nil⟩
def TRightN : List PyData → (PyData → Prop) → Prop := fun ds Φ => ∃ a b c d : Int, ds = [pr (a, b), pr (c, d)] ∧ Gd 1500 a b ∧ Gd 1500 c d ∧ c ≠ 0 ∧ Φ (.bool true)
end DL

set_option Elab.async false
set_option linter.all false
set_option maxRecDepth 100000
set_option maxHeartbeats 4000000
/-! DLE: a caught error that is looked at behind its suite -/
namespace DL
open PySem PySem.Spec PyProof.Rows L2
/-- what is known of an error: its class, no dict -/
def excAt (a : Addr) (cls : Value) : Heap → Prop := fun h => ∃ oe vs, h.get? a = some oe ∧ Zc cls none oe ∧ oe.data = .fields vs
theorem excAt_stay {a : Addr} {cls : Value} {h1 h2 : Heap} (x : excAt a cls h1) (k : ∀ o, h1.get? a = some o → h2.get? a = some o) : excAt a cls h2 := by
  obtain ⟨oe, vs, e, z, d⟩ := x
  exact ⟨oe, vs, k _ e, z, d⟩
section
variable {X : Cx} {pins : List (Addr × Obj)} {σ : L2.St} {H : Hp} {s sI : Shared}
/-- an object that is new since the start is tracked from here on -/
theorem track {σ2 : L2.St} {H2 : Hp} {a : Addr} {cls : Value} (J : Inv X pins σ2 H2 sI) (fr : sI.heap.get? a = none) (I : Inv X pins σ H s) (na : H a = none) (nL : a ≠ X.env.locals) (q : excAt a cls s.heap) : Inv X pins σ (upd H a (.ext (excAt a cls))) s := by
  have ne : ∀ {b : Addr} {o : Obj}, sI.heap.get? b = some o → b ≠ a := fun {b o} e z => by rw [z, fr] at e; cases e
  have old : ∀ b u, H b = some u → upd H a (.ext (excAt a cls)) b = some u := fun b u e => by
    rw [upd_ne fun z => by rw [z, na] at e; cases e]; exact e
  refine { ok := I.ok, os := I.os, bare := I.bare, base := ⟨I.base.keep, I.base.slot, fun b o e n x => ?_, I.base.there, fun b xs e => ?_, fun b o u e => ?_, fun b ps e => ?_⟩, loc := I.loc, cell := I.cell, free := ?_, freeC := fun x c e => ?_, pin := fun p hp => ?_, hok := fun b o e => ?_, len := I.len }
  · obtain ⟨o', e'⟩ := J.base.there b o e x
    rw [upd_ne (ne e')]; exact I.base.free b o e n x
  · exact old _ _ (I.base.tups b xs e)
  · exact old _ _ (I.base.frzs b o u e)
  · obtain ⟨m, em⟩ := I.base.tbls b ps e
    exact ⟨m, old _ _ em⟩
  · rw [upd_ne (Ne.symm nL)]; exact I.free
  · obtain ⟨v, o, c1⟩ := J.cell x c e
    rw [upd_ne (ne c1.1)]; exact I.freeC x c e
  · obtain ⟨e1, e2, e3, e4, e5⟩ := I.pin p hp
    have := (J.pin p hp).1
    exact ⟨e1, by rw [upd_ne (ne this)]; exact e2, e3, e4, e5⟩
  · by_cases hb : b = a
    · subst hb
      rw [upd_same] at e
      cases e
      obtain ⟨oe, vs, q1, q2⟩ := id q
      exact ⟨q, ⟨oe, q1⟩, fun h1 h2 x k => excAt_stay x k⟩
    · rw [upd_ne hb] at e
      exact (I.hok b o e).stay (fun _ _ _ z => z) (fun _ z => old _ _ z) fun _ _ z => old _ _ z
end
/-- the clause 'except x as n' that takes what comes, and after whose suite the error is still known -/
def wKeep (K : PySem.W.Frag) (c : Value) (i : Nat) (ts : Addr → TS) (D : Ends) : WX := fun cls d σ H =>
  d = none ∧ PySem.W.exmOne K cls c = some true ∧ ∀ a, H a = none →
    ts a { nx := fun σ2 H2 => D.nx (σ2.set i none) (upd H2 a (.ext (excAt a cls))), rt := fun _ _ => False } (σ.set i (some (.ref a))) H
section
variable {X : Cx} {x n : Str} {c : Value} {i : Nat} {body suite : List Stmt} {st : Stmt} {np pos hpos : Pos} {tb : WX → TS} {ts : Addr → TS}
theorem ps_try_keep (hs : X.stack = X.env :: X.outer) (hf : X.env.frame = some X.env.locals) (hN : X.N.Nodup) (hi : X.N[i]? = some n) (hln : X.env.kindOf n = some .local) (hc : Names X x c)
    (hb : ∀ (W : WX) (pn : List (Addr × Obj)) (xe : Value → Shared → Prop), Takes (X.tr pn xe) W → PSs (X.tr pn xe) body (tb W))
    (hsu : ∀ (a : Addr) (oe : Obj) (pn : List (Addr × Obj)), PSs (X.suite a ((a, oe) :: pn)) (st :: suite) (ts a)) :
    PS X (.Try body [.ExceptHandler (some (.Name x np)) (some n) (st :: suite) hpos] [] [] pos) (fun D σ H => tb (wKeep X.K c i ts D) D σ H) := by
  refine ⟨fun pins s σ H D I h => ?_⟩
  have ok := I.ok
  have frames : X.A.frames = some (X.env :: X.outer) := ok.frames.trans (by rw [hs])
  refine wpAny_Try_except ?_
  let out : Value → Shared → Prop := fun e r1 =>
    wpAny (model X.prog X.w) X.A (noteFrame e X.env)
      (fun _ r2 => wpAny (model X.prog X.w) X.A (setFlight e none)
        (fun _ r3 => wpAny (model X.prog X.w) X.A
          (handleBy e X.env [.ExceptHandler (some (.Name x np)) (some n) (st :: suite) hpos]) (SP X pins D) X.xe r3) X.xe r2) X.xe r1
  have takes : Takes (X.tr (X.pn ++ pins) out) (wKeep X.K c i ts D) := by
    intro u s1 xx
    obtain ⟨a, B, sI, pinsT, σ1, H1, cls, d, rfl, JT, nb, up, sky, na, os, ag, rfl, hm, hts⟩ := xx
    have J : Inv X pins σ1 H1 sI := JT.ofTry ok
    have sky1 : Sky B (X.env :: X.outer) a (Zc cls none) X.env.locals s1.heap := hs ▸ sky
    show wpAny (model X.prog X.w) X.A (noteFrame (.ref a) X.env) _ _ _
    refine Sky.land Zc.steady frames hf sky1 fun h3 fl3 up3 => ?_
    have J3 : Inv X pins σ1 H1 { s1 with heap := h3 } := J.landed nb fl3.1 (up.trans up3) os ag
    obtain ⟨oe3, vs3, he3, hz3, hd3⟩ := fl3.there
    have nfr : a ∉ frs (X.env :: X.outer) := fun hm => by
      obtain ⟨_, o1, e1, ne1⟩ := fl3.2.2.1.mem hm
      have e2 := he3.symm.trans e1
      cases e2
      exact ne1 _ hd3
    have nL : a ≠ X.env.locals := fun z => nfr (by
      refine List.mem_filterMap.mpr ⟨X.env, List.mem_cons_self, ?_⟩
      rw [hf, z])
    have nF : a ∉ X.fs := fun hm => by
      obtain ⟨e, he, q⟩ := List.mem_filterMap.mp hm
      exact nfr (List.mem_filterMap.mpr ⟨e, List.mem_cons_of_mem _ he, q⟩)
    have fr : sI.heap.get? a = none := by
      cases e : sI.heap.get? a with
      | none => rfl
      | some o =>
        have z := nb a o e (by rw [hs]; exact nfr)
        rw [fl3.2.1] at z
        cases z
    have S3 := J3.suite he3 hd3 na nL nF
    refine wpAny_handleBy_cons (codeAny_handlers_test ?_) (by intro q; cases q)
    have lt : PySem.W.Looks (model X.prog X.w) h3 (typeOf (.ref a)) cls :=
      fun A Q E s k q => wpAny_typeOf_ref (k _ _ he3) (by rw [hz3.1]; exact q)
    have lm := PySem.W.exm_one (M := model X.prog X.w) (J3.kIn) lt hm
    have look : ∀ {Q E : Value → Shared → Prop}, Q c { s1 with heap := h3 } →
        wpAny (model X.prog X.w) (X.A.mark (some (.ref a))) (eval (.Name x np) X.env) Q E { s1 with heap := h3 } := fun {Q E} q => by
      obtain ⟨hg, hdb, g | ⟨g, hv, hnn⟩⟩ := hc
      · exact ld_glob (X := X.suite a ((a, oe3) :: (X.pn ++ pins))) S3 hg g q hdb
      · exact ld_blt (X := X.suite a ((a, oe3) :: (X.pn ++ pins))) S3 hg g hv q hnn hdb
    refine look (lm.here ?_)
    refine codeAny_handlers_suite_as ?_
    refine HandSPX.lands_againZ fl3 fun h4 fl4 up4 => ?_
    have J4 : Inv X pins σ1 H1 { s1 with heap := h4 } :=
      J.landed nb fl4.1 ((up.trans up3).trans up4) os ag
    obtain ⟨oe4, vs4, he4, hz4, hd4⟩ := fl4.there
    have S4 := J4.suite he4 hd4 na nL nF
    refine store_ok (X := X.suite a ((a, oe4) :: (X.pn ++ pins))) (v := .ref a) S4 hN hi (.inl hln) rfl (fun s5 S5 => ?_) (.inr hln)
    refine wpAny_mono ((hsu a oe4 (X.pn ++ pins)).run [] s5 _ H1 _ S5 (hts a na)) (fun f s6 hsp => ?_) (fun _ _ z => z.elim)
    match f, hsp with
    | .next, ⟨σ6, H6, S6, q6⟩ =>
      refine gone_ok (X := X.suite a ((a, oe4) :: (X.pn ++ pins))) S6 hN hi hln fun s7 S7 => ?_
      obtain ⟨p1, p2, _⟩ := S7.pin (a, oe4) (List.mem_append.mpr (.inl List.mem_cons_self))
      exact ⟨_, _, track J fr (S7.unsuite ok) p2 nL ⟨oe4, _, p1, hz4, hd4⟩, q6⟩
    | .ret u, ⟨_, _, _, _, _, q6⟩ => exact q6.elim
    | .brk, ⟨_, _, _, q6⟩ => exact q6.elim
    | .cont, ⟨_, _, _, q6⟩ => exact q6.elim
  refine wpAny_mono ((hb (wKeep X.K c i ts D) (X.pn ++ pins) out takes).run [] s σ H D (I.toTry _) h) (fun f s1 hsp => ?_) (fun e s1 he => he)
  match f, hsp with
  | .next, ⟨σ1, H1, J1, q⟩ => exact wpAny_execs_nil ⟨σ1, H1, J1.ofTry ok, q⟩
  | .brk, ⟨σ1, H1, J1, q⟩ => exact ⟨σ1, H1, J1.ofTry ok, q⟩
  | .cont, ⟨σ1, H1, J1, q⟩ => exact ⟨σ1, H1, J1.ofTry ok, q⟩
  | .ret u, ⟨v, σ1, H1, J1, r, q⟩ => exact ⟨v, σ1, H1, J1.ofTry ok, r, q⟩
end
end DL

set_option Elab.async false
set_option linter.all false
set_option maxRecDepth 100000
set_option maxHeartbeats 4000000
namespace DL
open PySem PySem.Spec PyProof.Rows L2
def gVone : List V → List V → List V := fun _ zs => zs
def gVrev : List V → List V → List V := fun _ zs => zs.reverse
def gDrev : List PyData → List PyData → List PyData := fun _ zs => zs.reverse
def t_law_over_right (K : PySem.W.Frag) : TS :=
  (tSeq (tAsg (tC .non) (gName 2))
    (tSeq (tAsg (tC .non) (gName 3))
    (tSeq (tAsg (tLst (tCons (tCall (spP K TOver) [] E0 (tCons (tVar 0) (tCons (tVar 1) tNil))) (tCons (tCallN 0 2 (spP K TOver) gVrev E0 tNil (tCons (tVar 1) (tCons (tVar 0) tNil))) tNil))) (gName 3))
    (tSeq (tIfS (tTest (tOp rEq (tOp (rIxT K) (tVar 1) (tC (.int 0))) (tC (.int 0)))) (tRet (tOp rNotNone (tVar 2) (tC .non))) tNext)
    (tRet (tAndV (tOp rIsNone (tVar 2) (tC .non)) (tOp (rEqD K) (tVar 3) (tOp rRepL (tLst (tCons (tCall (spP K TPart) [] E0 (tCons (tOp rMulI (tOp (rIxT K) (tVar 0) (tC (.int 0))) (tOp (rIxT K) (tVar 1) (tC (.int 1)))) (tCons (tOp rMulI (tOp (rIxT K) (tVar 0) (tC (.int 1))) (tOp (rIxT K) (tVar 1) (tC (.int 0)))) tNil))) tNil)) (tC (.int 2))))))))))
def t_law_whole_right (K : PySem.W.Frag) : TS :=
  (tSeq (tPar 1 2 (tCons (tCall (spP K TFloor) [] E0 (tCons (tVar 0) tNil)) (tCons (tCall (spP K TCeil) [] E0 (tCons (tVar 0) tNil)) tNil)))
    (tSeq (tIfS (tTest (tOp rNe (tCB (rRepr K) (tCons (tLst (tCons (tCallN 0 1 (spP K TFloor) gVone E0 tNil (tCons (tVar 0) tNil)) (tCons (tCallN 0 1 (spP K TCeil) gVone E0 tNil (tCons (tVar 0) tNil)) tNil))) tNil)) (tCB (rRepr K) (tCons (tLst (tCons (tVar 1) (tCons (tVar 2) tNil))) tNil)))) (tRet (tC (.bl false))) tNext)
    (tSeq (tIfS (tOr (tNot (tB (tCB (rIsi K) (tCons (tVar 1) (tCons (tC (.ty "int")) tNil))))) (tOr (tB (tCB (rIsi K) (tCons (tVar 1) (tCons (tC (.ty "bool")) tNil)))) (tOr (tNot (tB (tCB (rIsi K) (tCons (tVar 2) (tCons (tC (.ty "int")) tNil))))) (tB (tCB (rIsi K) (tCons (tVar 2) (tCons (tC (.ty "bool")) tNil))))))) (tRet (tC (.bl false))) tNext)
    (tSeq (tIfS (tOr (tTest (tOp rGt (tOp rMulI (tVar 1) (tOp (rIxT K) (tVar 0) (tC (.int 1)))) (tOp (rIxT K) (tVar 0) (tC (.int 0))))) (tTest (tOp rLe (tOp rMulI (tOp rAddI (tVar 1) (tC (.int 1))) (tOp (rIxT K) (tVar 0) (tC (.int 1)))) (tOp (rIxT K) (tVar 0) (tC (.int 0)))))) (tRet (tC (.bl false))) tNext)
    (tRet (tAndV (tOp rGe (tOp rMulI (tVar 2) (tOp (rIxT K) (tVar 0) (tC (.int 1)))) (tOp (rIxT K) (tVar 0) (tC (.int 0)))) (tOp rLt (tOp rMulI (tOp rSubI (tVar 2) (tC (.int 1))) (tOp (rIxT K) (tVar 0) (tC (.int 1)))) (tOp (rIxT K) (tVar 0) (tC (.int 0))))))))))
def t_law_right (K : PySem.W.Frag) : TS :=
  (tSeq (tIfS (tOr (tTest (tOp (rNeD K) (tCall (spP K TPlus) [] E0 (tCons (tVar 0) (tCons (tVar 1) tNil))) (tCall (spP K TPlus) [] E0 (tCons (tVar 0) (tCons (tVar 1) tNil))))) (tTest (tOp (rNeD K) (tCall (spP K TLess) [] E0 (tCons (tVar 0) (tCons (tVar 1) tNil))) (tCall (spP K TLess) [] E0 (tCons (tVar 0) (tCons (tVar 1) tNil)))))) (tRet (tC (.bl false))) tNext)
    (tSeq (tIfS (tOr (tTest (tOp (rNeD K) (tCallN 0 2 (spP K TPlus) gVrev E0 tNil (tCons (tVar 1) (tCons (tVar 0) tNil))) (tCall (spP K TPlus) [] E0 (tCons (tVar 0) (tCons (tVar 1) tNil))))) (tTest (tOp (rNeD K) (tCallN 0 2 (spP K TLess) gVrev E0 tNil (tCons (tVar 1) (tCons (tVar 0) tNil))) (tCall (spP K TLess) [] E0 (tCons (tVar 0) (tCons (tVar 1) tNil)))))) (tRet (tC (.bl false))) tNext)
    (tSeq (tIfS (tOr (tTest (tOp (rNeD K) (tCallN 0 2 (spP K TTimes) gVrev E0 tNil (tCons (tVar 1) (tCons (tVar 0) tNil))) (tCall (spP K TTimes) [] E0 (tCons (tVar 0) (tCons (tVar 1) tNil))))) (tTest (tOp rNe (tCallN 0 2 (spP K TUnder) gVrev E0 tNil (tCons (tVar 1) (tCons (tVar 0) tNil))) (tCall (spP K TUnder) [] E0 (tCons (tVar 0) (tCons (tVar 1) tNil)))))) (tRet (tC (.bl false))) tNext)
    (tSeq (tIfS (tOr (tTest (tOp (rNeD K) (tCall (spP K TTimes) [] E0 (tCons (tVar 0) (tCons (tVar 1) tNil))) (tCall (spP K TTimes) [] E0 (tCons (tVar 0) (tCons (tVar 1) tNil))))) (tNot (tB (tCall (spP K TRight2) [] E0 (tCons (tVar 0) (tCons (tVar 1) tNil)))))) (tRet (tC (.bl false))) tNext)
    (tSeq (tIfS (tTest (tOp rNe (tCB (rRepr K) (tCons (tLst (tCons (tCall (spP K TUnder) [] E0 (tCons (tVar 0) (tCons (tVar 1) tNil))) (tCons (tCall (spP K TUnder) [] E0 (tCons (tVar 1) (tCons (tVar 0) tNil))) tNil))) tNil)) (tCB (rRepr K) (tCons (tLst (tCons (tCall (spP K TUnder) [] E0 (tCons (tVar 0) (tCons (tVar 1) tNil))) (tCons (tCall (spP K TUnder) [] E0 (tCons (tVar 1) (tCons (tVar 0) tNil))) tNil))) tNil)))) (tRet (tC (.bl false))) tNext)
    (tRet (tAndV (tCall (spP K TRight1) [] E0 (tCons (tVar 0) tNil)) (tCall (spP K TRight1) [] E0 (tCons (tVar 1) tNil)))))))))

section
variable {K : PySem.W.Frag} {S : Stt} {ρ : Rho} {Φ : PyData → Rho → Prop} {Ψ : PyData → Prop}
theorem do_nesS {i : Str} (h : Ψ (.bool false)) : DO K rNe (.str i) (.str i) Ψ := do_nes (by simpa using h)
end
local macro_rules | `(tactic| walk_at "dl") => `(tactic| repeat' (first
  | with_reducible refine wd_isTy ?_ | with_reducible refine wd_isi ?_ | with_reducible refine wd_op ?_ | ((with_reducible show WD _ _ (tCB (rLenX _) (tCons (tVar _) tNil)) _ _); refine wd_len_scr rfl ?_) | with_reducible refine wd_cb ?_ | with_reducible refine wd_un ?_ | with_reducible refine wa_cons ?_ | with_reducible refine wa_nil ?_ | ((with_reducible show WD _ _ (tVar _) _ _); refine wd_var rfl ?_) | with_reducible refine wd_int ?_ | with_reducible refine wd_bl ?_ | with_reducible refine wd_str ?_ | with_reducible refine wd_non ?_
  | with_reducible refine do_nePr ?_ | with_reducible refine do_nebS ?_ | with_reducible refine do_nesS ?_ | with_reducible refine do_isNn ?_ | with_reducible refine do_add ?_ | with_reducible refine do_sub ?_ | ((with_reducible refine do_mod ?_ ?_); decide) | with_reducible refine do_mod ?_ ?_ | with_reducible refine do_mul ?_ ?_ | ((with_reducible refine do_div ?_ ?_); exact ⟨by decide, by decide⟩) | with_reducible refine do_div ?_ ?_ | ((with_reducible refine do_pow ?_ ?_); exact ⟨by decide, by decide, by decide⟩) | with_reducible refine do_pow ?_ ?_
  | with_reducible refine do_lt ?_ | with_reducible refine do_le ?_ | with_reducible refine do_gt ?_ | with_reducible refine do_ge ?_ | with_reducible refine du_neg ?_
  | with_reducible refine do_eqi ?_ | with_reducible refine do_nei ?_ | with_reducible refine do_eqs ?_ | with_reducible refine do_nes ?_ | with_reducible refine dc_abs ?_ | with_reducible refine dc_min ?_ | with_reducible refine dc_max ?_ | with_reducible refine dc_lenL ?_ | with_reducible refine dc_lenT ?_ | with_reducible refine dc_gcd ?_
  | ((with_reducible show DO _ (rIxT _) _ _ _); refine do_ixT rfl ?_) | ((with_reducible show DO _ (rIxL _) _ _ _); refine do_ixL rfl ?_) | ((with_reducible refine do_catL ?_ ?_); exact Nat.le_of_ble_eq_true rfl) | with_reducible refine do_catL ?_ ?_ | ((with_reducible show And (List.length _ ≤ sizeLine) _); refine ⟨Nat.le_of_ble_eq_true rfl, ?_⟩)
  | with_reducible refine wd_dnew ?_ | with_reducible refine wd_c2 rfl rfl (by assumption) (by first | assumption | exact trivial) ?_ | with_reducible refine wd_n2 rfl rfl (by assumption) (by first | assumption | exact trivial) ?_ | with_reducible refine wd_c1 rfl (by assumption) (by assumption) ?_ | with_reducible refine wd_n1 rfl (by assumption) (by assumption) ?_ | with_reducible refine wd_call0 ?_ | with_reducible refine dc_str ?_ ?_ | with_reducible refine wd_tup ?_ | with_reducible refine wd_lst ?_ | with_reducible refine wt_test ?_ | with_reducible refine wt_B ?_ | with_reducible refine wt_not ?_ | with_reducible refine wt_and ?_ | with_reducible refine wt_or ?_ | with_reducible refine wd_ifE ?_ | with_reducible refine wd_andV ?_ | with_reducible refine wd_orV ?_ | with_reducible refine wd_notV ?_
  | with_reducible refine ws_seq ?_ | with_reducible refine ws_next ?_ | with_reducible refine ws_asg ?_ | with_reducible refine ws_ret ?_ | with_reducible refine ws_retN ?_ | with_reducible refine ws_if ?_ | with_reducible refine ws_par ?_ | with_reducible refine ws_unp2 ?_
  | with_reducible refine if_t ?_ | with_reducible refine if_f ?_ | with_reducible refine if_nf ?_ | with_reducible refine if_nt ?_
  | ((with_reducible show Exists _); first | refine ⟨_, kitInt _, ?_⟩ | refine ⟨_, kitBool _, ?_⟩ | refine ⟨_, kitTup _, ?_⟩ | refine ⟨_, kitList _, ?_⟩ | refine ⟨_, rfl, ?_⟩ | refine ⟨_, _, rfl, ?_⟩ | fail) | fail))
section
variable {K : PySem.W.Frag} {ds : List PyData} {Φ : PyData → Prop}
end
end DL

set_option Elab.async false
set_option linter.all false
set_option maxRecDepth 100000
set_option maxHeartbeats 4000000
namespace DL
open PySem PySem.Spec PyProof.Rows L2
local macro_rules | `(tactic| walk_at "dl") => `(tactic| repeat' (first
  | with_reducible refine wd_isTy ?_ | with_reducible refine wd_isi ?_ | with_reducible refine wd_op ?_ | ((with_reducible show WD _ _ (tCB (rLenX _) (tCons (tVar _) tNil)) _ _); refine wd_len_scr rfl ?_) | with_reducible refine wd_cb ?_ | with_reducible refine wd_un ?_ | with_reducible refine wa_cons ?_ | with_reducible refine wa_nil ?_ | ((with_reducible show WD _ _ (tVar _) _ _); refine wd_var rfl ?_) | with_reducible refine wd_int ?_ | with_reducible refine wd_bl ?_ | with_reducible refine wd_str ?_ | with_reducible refine wd_non ?_
  | with_reducible refine do_nesS ?_ | with_reducible refine do_add ?_ | with_reducible refine do_sub ?_ | ((with_reducible refine do_mod ?_ ?_); decide) | with_reducible refine do_mod ?_ ?_ | with_reducible refine do_mul ?_ ?_ | ((with_reducible refine do_div ?_ ?_); exact ⟨by decide, by decide⟩) | with_reducible refine do_div ?_ ?_ | ((with_reducible refine do_pow ?_ ?_); exact ⟨by decide, by decide, by decide⟩) | with_reducible refine do_pow ?_ ?_
  | with_reducible refine do_lt ?_ | with_reducible refine do_le ?_ | with_reducible refine do_gt ?_ | with_reducible refine do_ge ?_ | with_reducible refine du_neg ?_
  | with_reducible refine do_eqi ?_ | with_reducible refine do_nei ?_ | with_reducible refine do_eqs ?_ | with_reducible refine do_nes ?_ | with_reducible refine dc_abs ?_ | with_reducible refine dc_min ?_ | with_reducible refine dc_max ?_ | with_reducible refine dc_lenL ?_ | with_reducible refine dc_lenT ?_ | with_reducible refine dc_gcd ?_
  | ((with_reducible show DO _ (rIxT _) _ _ _); refine do_ixT rfl ?_) | ((with_reducible show DO _ (rIxL _) _ _ _); refine do_ixL rfl ?_) | ((with_reducible refine do_catL ?_ ?_); exact Nat.le_of_ble_eq_true rfl) | with_reducible refine do_catL ?_ ?_ | ((with_reducible show And (List.length _ ≤ sizeLine) _); refine ⟨Nat.le_of_ble_eq_true rfl, ?_⟩)
  | with_reducible refine wd_dnew ?_ | with_reducible refine wd_call0 ?_ | with_reducible refine dc_str ?_ ?_ | with_reducible refine wd_tup ?_ | with_reducible refine wd_lst ?_ | with_reducible refine wt_test ?_ | with_reducible refine wt_B ?_ | with_reducible refine wt_not ?_ | with_reducible refine wt_and ?_ | with_reducible refine wt_or ?_ | with_reducible refine wd_ifE ?_ | with_reducible refine wd_andV ?_ | with_reducible refine wd_orV ?_ | with_reducible refine wd_notV ?_
  | with_reducible refine ws_seq ?_ | with_reducible refine ws_next ?_ | with_reducible refine ws_asg ?_ | with_reducible refine ws_ret ?_ | with_reducible refine ws_retN ?_ | with_reducible refine ws_if ?_ | with_reducible refine ws_par ?_ | with_reducible refine ws_unp2 ?_
  | with_reducible refine if_t ?_ | with_reducible refine if_f ?_ | with_reducible refine if_nf ?_ | with_reducible refine if_nt ?_
  | ((with_reducible show Exists _); first | refine ⟨_, kitInt _, ?_⟩ | refine ⟨_, kitBool _, ?_⟩ | refine ⟨_, kitTup _, ?_⟩ | refine ⟨_, kitList _, ?_⟩ | refine ⟨_, rfl, ?_⟩ | refine ⟨_, _, rfl, ?_⟩ | fail) | fail))
def gVapp : List V → List V → List V := fun vs zs => vs ++ zs
def gDapp : List PyData → List PyData → List PyData := fun vs zs => vs ++ zs
def gVone1 : List V → List V → List V := fun _ zs => zs ++ [.int 1]
def gDone1 : List PyData → List PyData → List PyData := fun _ zs => zs ++ [.int 1]
def TNumber : Nat → List PyData → (PyData → Nat → Prop) → Prop := fun B ds Φ => ds = [] ∧ B + 2400 ≤ 2 ^ 40 ∧ ∀ n : Int, n.natAbs < 2 ^ 100 → Φ (.int n) (B + 2400)
def TRefused : List PyData → (PyData → Prop) → Prop := fun ds Φ => ∃ a w : Int, ds = [.int a, .int w] ∧ Φ (.bool true)
def t_law_number (K : PySem.W.Frag) : TS :=
  (tSeq (tAsg (tCall (spS K FSto TDr) [] E0 (tCons (tVar 0) (tCons (tC (.int 5)) tNil))) (gName 1))
    (tSeq (tAsg (tLst (tCons (tC (.int 0)) (tCons (tOp rAddI (tC (.int 1)) (tCall (spS K FSto TDr) [] E0 (tCons (tVar 0) (tCons (tC (.int 12)) tNil)))) (tCons (tCall (spS K FSto TDr) [] E0 (tCons (tVar 0) (tCons (tC (.int 1000)) tNil))) (tCons (tCall (spS K FSto TDr) [] E0 (tCons (tVar 0) (tCons (tOp rPowI (tC (.int 10)) (tC (.int 30))) tNil))) tNil))))) (gName 2))
    (tRet (tOp rMulI (tOp (rIxL K) (tOp rCatL (tVar 2) (tLst (tCons (tOp rMulI (tC (.int 360)) (tCall (spS K FSto TDr) [] E0 (tCons (tVar 0) (tCons (tC (.int 99)) tNil)))) tNil))) (tVar 1)) (tOp (rIxL K) (tLst (tCons (tC (.int 1)) (tCons (tUn rNegI (tC (.int 1))) tNil))) (tCall (spS K FSto TDr) [] E0 (tCons (tVar 0) (tCons (tC (.int 2)) tNil))))))))
section
variable {K : PySem.W.Frag} {S : Stt}
local macro_rules | `(tactic| walk_at "dl") => `(tactic| repeat' (first
  | with_reducible refine wd_isTy ?_ | with_reducible refine wd_isi ?_ | with_reducible refine wd_op ?_ | ((with_reducible show WD _ _ (tCB (rLenX _) (tCons (tVar _) tNil)) _ _); refine wd_len_scr rfl ?_) | with_reducible refine wd_cb ?_ | with_reducible refine wd_un ?_ | with_reducible refine wa_cons ?_ | with_reducible refine wa_nil ?_ | ((with_reducible show WD _ _ (tVar _) _ _); refine wd_var rfl ?_) | with_reducible refine wd_int ?_ | with_reducible refine wd_bl ?_ | with_reducible refine wd_str ?_ | with_reducible refine wd_non ?_
  | with_reducible refine do_nesS ?_ | with_reducible refine do_add ?_ | with_reducible refine do_sub ?_ | ((with_reducible refine do_mod ?_ ?_); decide) | with_reducible refine do_mod ?_ ?_ | with_reducible refine do_mul ?_ ?_ | ((with_reducible refine do_div ?_ ?_); exact ⟨by decide, by decide⟩) | with_reducible refine do_div ?_ ?_ | ((with_reducible refine do_pow ?_ ?_); exact ⟨by decide, by decide, by decide⟩) | with_reducible refine do_pow ?_ ?_
  | with_reducible refine do_lt ?_ | with_reducible refine do_le ?_ | with_reducible refine do_gt ?_ | with_reducible refine do_ge ?_ | with_reducible refine du_neg ?_
  | with_reducible refine do_eqi ?_ | with_reducible refine do_nei ?_ | with_reducible refine do_eqs ?_ | with_reducible refine do_nes ?_ | with_reducible refine dc_abs ?_ | with_reducible refine dc_min ?_ | with_reducible refine dc_max ?_ | with_reducible refine dc_lenL ?_ | with_reducible refine dc_lenT ?_ | with_reducible refine dc_gcd ?_
  | ((with_reducible show DO _ (rIxT _) _ _ _); refine do_ixT rfl ?_) | ((with_reducible show DO _ (rIxL _) _ _ _); refine do_ixL rfl ?_) | ((with_reducible refine do_catL ?_ ?_); exact Nat.le_of_ble_eq_true rfl) | with_reducible refine do_catL ?_ ?_ | ((with_reducible show And (List.length _ ≤ sizeLine) _); refine ⟨Nat.le_of_ble_eq_true rfl, ?_⟩)
  | with_reducible refine wd_dnew ?_ | with_reducible refine wd_pt rfl rfl (by assumption) (by assumption) (by assumption) ?_ | with_reducible refine wd_ptR rfl rfl (by assumption) (by assumption) (by assumption) ?_ | with_reducible refine wd_ptB rfl rfl (by assumption) (by assumption) (by assumption) ?_ | with_reducible refine wd_ptD rfl (by assumption) ?_ | with_reducible refine wd_ptA rfl (by assumption) ?_ | with_reducible refine wd_call0 ?_ | with_reducible refine dc_str ?_ ?_ | with_reducible refine wd_tup ?_ | with_reducible refine wd_lst ?_ | with_reducible refine wt_test ?_ | with_reducible refine wt_B ?_ | with_reducible refine wt_not ?_ | with_reducible refine wt_and ?_ | with_reducible refine wt_or ?_ | with_reducible refine wd_ifE ?_ | with_reducible refine wd_andV ?_ | with_reducible refine wd_orV ?_ | with_reducible refine wd_notV ?_
  | with_reducible refine ws_seq ?_ | with_reducible refine ws_next ?_ | with_reducible refine ws_asg ?_ | with_reducible refine ws_ret ?_ | with_reducible refine ws_retN ?_ | with_reducible refine ws_if ?_ | with_reducible refine ws_par ?_ | with_reducible refine ws_unp2 ?_
  | with_reducible refine if_t ?_ | with_reducible refine if_f ?_ | with_reducible refine if_nf ?_ | with_reducible refine if_nt ?_
  | ((with_reducible show Exists _); first | refine ⟨_, kitInt _, ?_⟩ | refine ⟨_, kitBool _, ?_⟩ | refine ⟨_, kitTup _, ?_⟩ | refine ⟨_, kitList _, ?_⟩ | refine ⟨_, rfl, ?_⟩ | refine ⟨_, _, rfl, ?_⟩ | fail) | fail))
def t_tail3 (K : PySem.W.Frag) : TS :=
    (tSeq (tAsg (tCall (spP K TPart) [] E0 (tCons (tVar 3) (tCons (tVar 4) tNil))) (gName 5))
    (tSeq (tIfS (tTest (tOp rNe (tCB (rRepr K) (tCons (tLst (tCons (tCall (spP K TPart) [] E0 (tCons (tVar 3) (tCons (tVar 4) tNil))) (tCons (tCallN 0 2 (spP K TPart) gVrev E0 tNil (tCons (tVar 4) (tCons (tVar 3) tNil))) (tCons (tCallN 1 1 (spP K TPart) gVapp E0 (tCons (tVar 3) tNil) (tCons (tVar 4) tNil)) tNil)))) tNil)) (tCB (rRepr K) (tCons (tLst (tCons (tVar 5) (tCons (tVar 5) (tCons (tVar 5) tNil)))) tNil)))) (tRet (tC (.bl false))) tNext)
    (tIfS (tTest (tOp rNe (tCB (rRepr K) (tCons (tLst (tCons (tCall (spP K TPart) [.int 1] E0 (tCons (tVar 3) tNil)) (tCons (tCallN 0 1 (spP K TPart) gVone1 E0 tNil (tCons (tVar 3) tNil)) tNil))) tNil)) (tCB (rRepr K) (tCons (tLst (tCons (tTup (tCons (tVar 3) (tCons (tC (.int 1)) tNil))) (tCons (tTup (tCons (tVar 3) (tCons (tC (.int 1)) tNil))) tNil))) tNil)))) (tRet (tC (.bl false))) tNext)))
def t_law_rest3 (K : PySem.W.Frag) (aN aO : Addr) : TS :=
    (tSeq (tFor (iRng1 (tCons (tOp rAddI (tC (.int 20)) (tCB rMinX (tCons (tC (.int 40)) (tCons (tCB (rLenX K) (tCons (tVar 0) tNil)) tNil)))) tNil)) (gName 2) (tSeq (tAsg (tCall (spS K FSto TNumber) [] E0 (tCons (tVar 1) tNil)) (gName 3))
    (tSeq (tAsg (tCall (spS K FSto TNumber) [] E0 (tCons (tVar 1) tNil)) (gName 4))
    (tSeq (tIfS (tTest (tOp rEq (tVar 4) (tC (.int 0)))) (tSeq (tIfS (tOr (tNot (tB (tCall (spP K TRefused) [] E0 (tCons (tVar 3) (tCons (tC (.int 0)) tNil))))) (tNot (tB (tCall (spP K TRefused) [] E0 (tCons (tVar 3) (tCons (tC (.int 1)) tNil)))))) (tRet (tC (.bl false))) tNext)
    (tAsg (tC (.int 1)) (gName 4))) tNext)
    (tSeq (tAsg (tCall (spP K TPart) [] E0 (tCons (tVar 3) (tCons (tVar 4) tNil))) (gName 5))
    (tSeq (tIfS (tTest (tOp rNe (tCB (rRepr K) (tCons (tLst (tCons (tCall (spP K TPart) [] E0 (tCons (tVar 3) (tCons (tVar 4) tNil))) (tCons (tCallN 0 2 (spP K TPart) gVrev E0 tNil (tCons (tVar 4) (tCons (tVar 3) tNil))) (tCons (tCallN 1 1 (spP K TPart) gVapp E0 (tCons (tVar 3) tNil) (tCons (tVar 4) tNil)) tNil)))) tNil)) (tCB (rRepr K) (tCons (tLst (tCons (tVar 5) (tCons (tVar 5) (tCons (tVar 5) tNil)))) tNil)))) (tRet (tC (.bl false))) tNext)
    (tIfS (tTest (tOp rNe (tCB (rRepr K) (tCons (tLst (tCons (tCall (spP K TPart) [.int 1] E0 (tCons (tVar 3) tNil)) (tCons (tCallN 0 1 (spP K TPart) gVone1 E0 tNil (tCons (tVar 3) tNil)) tNil))) tNil)) (tCB (rRepr K) (tCons (tLst (tCons (tTup (tCons (tVar 3) (tCons (tC (.int 1)) tNil))) (tCons (tTup (tCons (tVar 3) (tCons (tC (.int 1)) tNil))) tNil))) tNil)))) (tRet (tC (.bl false))) tNext)))))))
    (tRet (tAndV (tOp (rEqD K) (tCall (spP K TPart) [] E0 (tCons (tC (.int 0)) (tCons (tC (.int 7)) tNil))) (tC (.ref aN))) (tAndV (tOp (rEqD K) (tCall (spP K TPart) [] E0 (tCons (tUn rNegI (tC (.int 3))) (tCons (tUn rNegI (tC (.int 3))) tNil))) (tC (.ref aO))) (tAndV (tOp (rEqD K) (tC (.ref aN)) (tTup (tCons (tC (.int 0)) (tCons (tC (.int 1)) tNil)))) (tOp (rEqD K) (tC (.ref aO)) (tTup (tCons (tC (.int 1)) (tCons (tC (.int 1)) tNil)))))))))
end
end DL

set_option Elab.async false
set_option linter.all false
set_option maxRecDepth 100000
set_option maxHeartbeats 4000000
namespace DL
open PySem PySem.Spec PyProof.Rows L2
/-! ### isinstance of a kept error -/
def rIsiE (K : PySem.W.Frag) (D : Addr) : List V → Hp → VK → Prop := fun xs H Q => ∃ (a : Addr) (c : V) (u : Value) (b : Bool), xs = [.ref a, c] ∧ ClsV c u ∧ H a = some (.ext (excAt a (.ref D))) ∧ PySem.W.kitOne K (.ref D) u = some b ∧ Q (.bl b) H
def rIsiET (K : PySem.W.Frag) (D : Addr) : List V → Hp → VK → Prop := fun xs H Q => ∃ (a tp : Addr) (cs : List V) (us : List Value) (b : Bool), xs = [.ref a, .ref tp] ∧ H tp = some (.tup cs) ∧ Paired ClsV cs us ∧ H a = some (.ext (excAt a (.ref D))) ∧ PySem.W.kitAny K (.ref D) us = some b ∧ Q (.bl b) H
section
variable {X : Cx} {pins : List (Addr × Obj)} {σ : L2.St} {H : Hp} {s : Shared} {a D : Addr}
theorem inst_of (I : Inv X pins σ H s) (h : H a = some (.ext (excAt a (.ref D)))) : ∃ ox, PySem.W.InstAt s.heap a ox D none := by
  have q : ObjOk X.prog X.w H s.heap a (.ext (excAt a (.ref D))) := I.hok a _ h
  obtain ⟨oe, vs, e, z, d⟩ := q.1
  obtain ⟨oc, od, oda, osl⟩ := oe
  obtain ⟨h1, h2⟩ := z
  dsimp only at h1 h2 d
  subst h1 h2 d
  exact ⟨_, e, rfl, rfl, trivial⟩
theorem call_isE1 (C : ExcC X.K D) : CallR X (.builtin "isinstance") (rIsiE X.K D) := by
  intro pins s σ H xs us Q I r h
  obtain ⟨a, c, u, b, rfl, k, ha, e, q⟩ := h
  obtain ⟨u1, u2, rfl, r1, r2⟩ := vals2 r
  have e2 := k.eq r2
  subst e2
  cases (show u1 = Value.ref a from r1)
  obtain ⟨ox, J⟩ := inst_of I ha
  have kx := PySem.W.handS_kitx_exc (ox := ox) (x := a) C.hg C.hk C.hs C.hd C.ha C.hn C.ht C.hm
  exact PySem.W.kia_one kx I.kIn J e (fun z => nomatch z) fun tk => ⟨.bl b, H, I.tok tk, rfl, q⟩
theorem call_isET (C : ExcC X.K D) : CallR X (.builtin "isinstance") (rIsiET X.K D) := by
  intro pins s σ H xs us Q I r h
  obtain ⟨a, tp, cs, ws, b, rfl, hT, k, ha, e, q⟩ := h
  obtain ⟨u1, u2, rfl, r1, r2⟩ := vals2 r
  cases (show u2 = Value.ref tp from r2)
  cases (show u1 = Value.ref a from r1)
  obtain ⟨ox, J⟩ := inst_of I ha
  have kx := PySem.W.handS_kitx_exc (ox := ox) (x := a) C.hg C.hk C.hs C.hd C.ha C.hn C.ht C.hm
  have ht : ObjOk X.prog X.w H s.heap tp (.tup cs) := I.hok tp _ hT
  obtain ⟨_, its, rv, ⟨oc, od, dt, sl⟩, h1, h2, n, h3⟩ := ht
  have e3 := ClsV.all k rv
  simp only at h2 h3
  subst e3 h2 h3
  exact PySem.W.kia_tup kx I.kIn J h1 e (fun z => nomatch z) fun tk => ⟨.bl b, H, I.tok tk, rfl, q⟩
end
/-! ### a call by names that may be refused, in a try -/
def tCallNS (m : Nat) (sp : Sp) (gV : List V → List V → List V) (E : L2.St → XK) (tk : TA) : TE := fun σ H Q => tk σ H fun zs H2 => zs.length = m ∧ sp (gV [] zs) H2 Q (E σ)
/-! ### the judge of refusals -/
def ts_rf (a : Addr) : TS := tAsg (tVar 3) (gName 2)
def tb_rf (K : PySem.W.Frag) (C : Addr) (W : WX) : TS := tIfS (tTest (tOp rEq (tVar 1) (tC (.int 0)))) (tDrop (tCallS (spX K (TPartX C)) (WE W) (tCons (tVar 0) (tCons (tC (.int 0)) tNil))))
  (tDrop (tCallNS 2 (spX K (TPartX C)) gVrev (WE W) (tCons (tC (.int 0)) (tCons (tVar 0) tNil))))
def te_rf (K : PySem.W.Frag) (C P : Addr) : TE := tAndV (tCB (rIsiE K C) (tCons (tVar 2) (tCons (tC (.ty "ZeroDivisionError")) tNil))) (tNotV (tCB (rIsiET K C) (tCons (tVar 2) (tCons (tTup (tCons (tC (.ref P)) (tCons (tC (.ty "ValueError")) tNil))) tNil))))
def t_rf (K : PySem.W.Frag) (C P : Addr) : TS :=
  (tSeq (tAsg (tC .non) (gName 2))
    (tSeq (fun D σ H => tb_rf K C (wKeep K (.ref C) 3 ts_rf D) D σ H)
    (tRet (te_rf K C P))))
end DL
namespace DL
open PySem PySem.Spec PyProof.Rows L2
def excCB (K : PySem.W.Frag) (D : Addr) : Bool := decide (PySem.W.findIn K (.ref D) "__getattribute__" = some (some (.builtin "BaseException.__getattribute__"))) && (decide (PySem.W.findIn K (.ref D) "__getattr__" = some none) &&
  (decide (PySem.W.subIn K (.ref D) (.type "BaseException") = some true) && (PySem.W.hasDictIn K D && (decide (PySem.W.findIn K (.ref D) "__class__" = some (some (.builtin "object.__class__"))) &&
  (decide (PySem.W.specialIn K (.builtin "object.__class__") "__get__" = some (some (.builtin "getset_descriptor.__get__"))) && (decide (PySem.W.takesIn K (.builtin "object.__class__") = some true) && decide (PySem.W.mroIn K D (.type "object") = some true)))))))
theorem excC_ok {K : PySem.W.Frag} {D : Addr} (h : excCB K D = true) : ExcC K D := by
  obtain ⟨c1, h⟩ := He.ba h
  obtain ⟨c2, h⟩ := He.ba h
  obtain ⟨c3, h⟩ := He.ba h
  obtain ⟨c4, h⟩ := He.ba h
  obtain ⟨c5, h⟩ := He.ba h
  obtain ⟨c6, h⟩ := He.ba h
  obtain ⟨c7, c8⟩ := He.ba h
  exact ⟨of_decide_eq_true c1, of_decide_eq_true c2, of_decide_eq_true c3, c4, of_decide_eq_true c5, of_decide_eq_true c6, of_decide_eq_true c7, of_decide_eq_true c8⟩
end DL

set_option Elab.async false
set_option linter.all false
/-! DMD: the module's nested tuples -/
namespace DL
open PySem PySem.Spec PyProof.Rows L2
/-! ### tuples within tuples -/
def itA (K : PySem.W.Frag) (a : Addr) (i : Nat) : Addr := match K.lookup a with
  | some ⟨.type _, _, .seq its _, _⟩ => (match its.toList[i]? with
    | some (.ref b) => b
    | _ => a)
  | _ => a
def tupA (K : PySem.W.Frag) (a : Addr) (vs : List V) : Bool := match K.lookup a with
  | some ⟨.type c, _, .seq its _, _⟩ => decide (c = "tuple") && (decide (its.size ≤ sizeLine) && He.relAll vs its.toList)
  | _ => false
theorem tupA_ok {K : PySem.W.Frag} {a : Addr} {vs : List V} (h : tupA K a vs = true) (H : Hp) : SqT K H a vs := by
  unfold tupA at h
  cases q : K.lookup a with
  | none =>
    rw [q] at h
    cases h
  | some o =>
    obtain ⟨oc, od, dt, osl⟩ := o
    rw [q] at h
    cases oc with
    | type c =>
      cases dt with
      | seq its n =>
        obtain ⟨h1, h2⟩ := He.ba (show (decide (c = "tuple") && (decide (its.size ≤ sizeLine) && He.relAll vs its.toList)) = true from h)
        obtain ⟨h3, h4⟩ := He.ba h2
        exact .inr ⟨_, its, n, q, congrArg Value.type (of_decide_eq_true h1), rfl, of_decide_eq_true h3, He.relAll_ok h4⟩
      | _ => cases h
    | _ => cases dt <;> cases h
/-- a line of one knot, as the module holds it -/
def lnB1 (K : PySem.W.Frag) (x : Str) (a b c d e f : Int) : Bool :=
  tupA K (He.ga K x) [.ref (itA K (He.ga K x) 0), .ref (itA K (He.ga K x) 1)] && (tupA K (itA K (He.ga K x) 1) [.int e, .int f] &&
  (tupA K (itA K (He.ga K x) 0) [.ref (itA K (itA K (He.ga K x) 0) 0)] &&
  (tupA K (itA K (itA K (He.ga K x) 0) 0) [.ref (itA K (itA K (itA K (He.ga K x) 0) 0) 0), .ref (itA K (itA K (itA K (He.ga K x) 0) 0) 1)] &&
  (tupA K (itA K (itA K (itA K (He.ga K x) 0) 0) 0) [.int a, .int b] && tupA K (itA K (itA K (itA K (He.ga K x) 0) 0) 1) [.int c, .int d]))))
theorem lnB1_ok {K : PySem.W.Frag} {x : Str} {a b c d e f : Int} (h : lnB1 K x a b c d e f = true) (H : Hp) :
    Dt K H (.ref (He.ga K x)) (.tuple [.tuple [.tuple [.tuple [.int a, .int b], .tuple [.int c, .int d]]], .tuple [.int e, .int f]]) := by
  unfold lnB1 at h
  obtain ⟨h1, h⟩ := He.ba h
  obtain ⟨h2, h⟩ := He.ba h
  obtain ⟨h3, h⟩ := He.ba h
  obtain ⟨h4, h⟩ := He.ba h
  obtain ⟨h5, h6⟩ := He.ba h
  exact .tup (tupA_ok h1 H) (.cons (.tup (tupA_ok h3 H) (.cons (.tup (tupA_ok h4 H) (.cons (.tup (tupA_ok h5 H) (.cons (.int _) (.cons (.int _) .nil))) (.cons (.tup (tupA_ok h6 H) (.cons (.int _) (.cons (.int _) .nil))) .nil))) .nil)) (.cons (.tup (tupA_ok h2 H) (.cons (.int _) (.cons (.int _) .nil))) .nil))
end DL

set_option Elab.async false
set_option linter.all false
set_option maxRecDepth 100000
set_option maxHeartbeats 4000000
namespace DL
open PySem PySem.Spec PyProof.Rows L2
def top (i : Nat) : Stmt := PySem.Challenge.pw_paymill_k56_taken_and_left.main.body.getD i (.Pass ⟨0, 0, 0, 0⟩)
abbrev FnP (K : PySem.W.Frag) (x : Str) (st : Stmt) (f : Addr) (fd : FuncData) : Prop := FunD K x x (defArgs st) (defBody st) (defScope st) [] [] f fd
abbrev FnD (K : PySem.W.Frag) (x : Str) (st : Stmt) (dvs : List V) (f : Addr) (fd : FuncData) : Prop := FunD K x x (defArgs st) (defBody st) (defScope st) dvs [] f fd
abbrev FnKw (K : PySem.W.Frag) (x : Str) (st : Stmt) (kws : List (Str × V)) (f : Addr) (fd : FuncData) : Prop := FunD K x x (defArgs st) (defBody st) (defScope st) [] kws f fd
abbrev s_law_pot : Stmt := top 56
theorem sc_law_pot : FnScope ["cell", "at"] ["cell", "at"] (defScope s_law_pot) := ⟨rfl, rfl, rfl, by decide +kernel, rfl, by decide +kernel, by decide +kernel⟩

abbrev s_law_take : Stmt := top 57
theorem sc_law_take : FnScope ["pot", "many", "digit", "primes", "prime", "one", "two"] ["pot", "many"] (defScope s_law_take) := ⟨rfl, rfl, rfl, by decide +kernel, rfl, by decide +kernel, by decide +kernel⟩

abbrev s_law_low : Stmt := top 58
theorem sc_law_low : FnScope ["a", "b", "one", "other", "by"] ["a", "b"] (defScope s_law_low) := ⟨rfl, rfl, rfl, by decide +kernel, rfl, by decide +kernel, by decide +kernel⟩

abbrev s_part : Stmt := top 26
theorem sc_part : FnScope ["a", "b", "common"] ["a", "b"] (defScope s_part) := ⟨rfl, rfl, rfl, by decide +kernel, rfl, by decide +kernel, by decide +kernel⟩

abbrev s_plus : Stmt := top 27
theorem sc_plus : FnScope ["one", "other"] ["one", "other"] (defScope s_plus) := ⟨rfl, rfl, rfl, by decide +kernel, rfl, by decide +kernel, by decide +kernel⟩

abbrev s_less : Stmt := top 28
theorem sc_less : FnScope ["one", "other"] ["one", "other"] (defScope s_less) := ⟨rfl, rfl, rfl, by decide +kernel, rfl, by decide +kernel, by decide +kernel⟩

abbrev s_times : Stmt := top 29
theorem sc_times : FnScope ["one", "other"] ["one", "other"] (defScope s_times) := ⟨rfl, rfl, rfl, by decide +kernel, rfl, by decide +kernel, by decide +kernel⟩

abbrev s_over : Stmt := top 30
theorem sc_over : FnScope ["one", "other"] ["one", "other"] (defScope s_over) := ⟨rfl, rfl, rfl, by decide +kernel, rfl, by decide +kernel, by decide +kernel⟩

abbrev s_is_less : Stmt := top 31
theorem sc_is_less : FnScope ["one", "other"] ["one", "other"] (defScope s_is_less) := ⟨rfl, rfl, rfl, by decide +kernel, rfl, by decide +kernel, by decide +kernel⟩

abbrev s_law_plus : Stmt := top 59
theorem sc_law_plus : FnScope ["one", "other"] ["one", "other"] (defScope s_law_plus) := ⟨rfl, rfl, rfl, by decide +kernel, rfl, by decide +kernel, by decide +kernel⟩

abbrev s_law_minus : Stmt := top 60
theorem sc_law_minus : FnScope ["one", "other"] ["one", "other"] (defScope s_law_minus) := ⟨rfl, rfl, rfl, by decide +kernel, rfl, by decide +kernel, by decide +kernel⟩

abbrev s_law_times : Stmt := top 61
theorem sc_law_times : FnScope ["one", "other"] ["one", "other"] (defScope s_law_times) := ⟨rfl, rfl, rfl, by decide +kernel, rfl, by decide +kernel, by decide +kernel⟩

abbrev s_law_below : Stmt := top 63
theorem sc_law_below : FnScope ["one", "other"] ["one", "other"] (defScope s_law_below) := ⟨rfl, rfl, rfl, by decide +kernel, rfl, by decide +kernel, by decide +kernel⟩

abbrev s_is_whole : Stmt := top 23
theorem sc_is_whole : FnScope ["thing"] ["thing"] (defScope s_is_whole) := ⟨rfl, rfl, rfl, by decide +kernel, rfl, by decide +kernel, by decide +kernel⟩

abbrev s_is_part : Stmt := top 24
theorem sc_is_part : FnScope ["thing", "a", "b"] ["thing"] (defScope s_is_part) := ⟨rfl, rfl, rfl, by decide +kernel, rfl, by decide +kernel, by decide +kernel⟩

abbrev s_is_amount : Stmt := top 25
theorem sc_is_amount : FnScope ["thing"] ["thing"] (defScope s_is_amount) := ⟨rfl, rfl, rfl, by decide +kernel, rfl, by decide +kernel, by decide +kernel⟩

abbrev s_is_rising : Stmt := top 37
theorem sc_is_rising : FnScope ["knots", "at"] ["knots"] (defScope s_is_rising) := ⟨rfl, rfl, rfl, by decide +kernel, rfl, by decide +kernel, by decide +kernel⟩

abbrev s_slopes : Stmt := top 38
theorem sc_slopes : FnScope ["knots", "slope", "found", "at", "x", "y", "next_x", "next_y"] ["knots", "slope"] (defScope s_slopes) := ⟨rfl, rfl, rfl, by decide +kernel, rfl, by decide +kernel, by decide +kernel⟩

abbrev s_bends : Stmt := top 39
theorem sc_bends : FnScope ["knots", "slope", "slopes", "found", "at", "x", "y"] ["knots", "slope"] (defScope s_bends) := ⟨rfl, rfl, rfl, by decide +kernel, rfl, by decide +kernel, by decide +kernel⟩

abbrev s_line_of : Stmt := top 33
theorem sc_line_of : FnScope ["knots", "slope"] ["knots", "slope"] (defScope s_line_of) := ⟨rfl, rfl, rfl, by decide +kernel, rfl, by decide +kernel, by decide +kernel⟩

abbrev s_slope_behind : Stmt := top 42
theorem sc_slope_behind : FnScope ["line", "at"] ["line", "at"] (defScope s_slope_behind) := ⟨rfl, rfl, rfl, by decide +kernel, rfl, by decide +kernel, by decide +kernel⟩

abbrev s_knot_no_later : Stmt := top 41
theorem sc_knot_no_later : FnScope ["knots", "x", "low", "high", "middle"] ["knots", "x"] (defScope s_knot_no_later) := ⟨rfl, rfl, rfl, by decide +kernel, rfl, by decide +kernel, by decide +kernel⟩

abbrev s_height : Stmt := top 43
theorem sc_height : FnScope ["line", "at", "x", "knot_x", "knot_y"] ["line", "at", "x"] (defScope s_height) := ⟨rfl, rfl, rfl, by decide +kernel, rfl, by decide +kernel, by decide +kernel⟩

abbrev s_y_at : Stmt := top 34
theorem sc_y_at : FnScope ["line", "x"] ["line", "x"] (defScope s_y_at) := ⟨rfl, rfl, rfl, by decide +kernel, rfl, by decide +kernel, by decide +kernel⟩

abbrev s_knot_xs : Stmt := top 40
theorem sc_knot_xs : FnScope ["line", "x", "_"] ["line"] (defScope s_knot_xs) := ⟨rfl, rfl, rfl, by decide +kernel, rfl, by decide +kernel, by decide +kernel⟩

abbrev s_heights : Stmt := top 44
theorem sc_heights : FnScope ["line", "xs", "knots", "found", "at", "x"] ["line", "xs"] (defScope s_heights) := ⟨rfl, rfl, rfl, by decide +kernel, rfl, by decide +kernel, by decide +kernel⟩

abbrev s_both_heights : Stmt := top 45
theorem sc_both_heights : FnScope ["one", "other", "xs"] ["one", "other", "xs"] (defScope s_both_heights) := ⟨rfl, rfl, rfl, by decide +kernel, rfl, by decide +kernel, by decide +kernel⟩

abbrev s_merged : Stmt := top 46
theorem sc_merged : FnScope ["some", "others", "found", "at", "x"] ["some", "others"] (defScope s_merged) := ⟨rfl, rfl, rfl, by decide +kernel, rfl, by decide +kernel, by decide +kernel⟩

abbrev s_sum_line : Stmt := top 35
theorem sc_sum_line : FnScope ["one", "other", "xs", "ys", "first", "second"] ["one", "other"] (defScope s_sum_line) := ⟨rfl, rfl, rfl, by decide +kernel, rfl, by decide +kernel, by decide +kernel⟩

abbrev s_is_band : Stmt := top 53
theorem sc_is_band : FnScope ["thing"] ["thing"] (defScope s_is_band) := ⟨rfl, rfl, rfl, by decide +kernel, rfl, by decide +kernel, by decide +kernel⟩

abbrev s_is_bands : Stmt := top 49
theorem sc_is_bands : FnScope ["thing", "rising", "at", "one"] ["thing"] (defScope s_is_bands) := ⟨rfl, rfl, rfl, by decide +kernel, rfl, by decide +kernel, by decide +kernel⟩

abbrev s_taken_line : Stmt := top 52
theorem sc_taken_line : FnScope ["bands", "x", "rate", "y", "knots", "begin", "next_rate"] ["bands"] (defScope s_taken_line) := ⟨rfl, rfl, rfl, by decide +kernel, rfl, by decide +kernel, by decide +kernel⟩

abbrev s_times_line : Stmt := top 36
theorem sc_times_line : FnScope ["line", "by", "knots", "slope", "x", "y"] ["line", "by"] (defScope s_times_line) := ⟨rfl, rfl, rfl, by decide +kernel, rfl, by decide +kernel, by decide +kernel⟩

abbrev s_left_line : Stmt := top 54
theorem sc_left_line : FnScope ["bands"] ["bands"] (defScope s_left_line) := ⟨rfl, rfl, rfl, by decide +kernel, rfl, by decide +kernel, by decide +kernel⟩

abbrev s_taken : Stmt := top 50
theorem sc_taken : FnScope ["bands", "amount", "ahead", "line"] ["bands", "amount", "ahead"] (defScope s_taken) := ⟨rfl, rfl, rfl, by decide +kernel, rfl, by decide +kernel, by decide +kernel⟩

abbrev s_left : Stmt := top 51
theorem sc_left : FnScope ["bands", "total"] ["bands", "total"] (defScope s_left) := ⟨rfl, rfl, rfl, by decide +kernel, rfl, by decide +kernel, by decide +kernel⟩

abbrev s_law_bands : Stmt := top 64
theorem sc_law_bands : FnScope ["pot", "most", "many", "by", "found", "begin", "k", "rate"] ["pot", "most"] (defScope s_law_bands) := ⟨rfl, rfl, rfl, by decide +kernel, rfl, by decide +kernel, by decide +kernel⟩

abbrev s_law_tax : Stmt := top 65
theorem sc_law_tax : FnScope ["bands", "total", "found", "at", "begin", "rate", "top"] ["bands", "total"] (defScope s_law_tax) := ⟨rfl, rfl, rfl, by decide +kernel, rfl, by decide +kernel, by decide +kernel⟩

abbrev s_law_total : Stmt := top 67
theorem sc_law_total : FnScope ["pot", "bands", "begin"] ["pot", "bands"] (defScope s_law_total) := ⟨rfl, rfl, rfl, by decide +kernel, rfl, by decide +kernel, by decide +kernel⟩

abbrev s_law_word : Stmt := top 68
theorem sc_law_word : FnScope ["caught", "kinds", "strange"] ["caught"] (defScope s_law_word) := ⟨rfl, rfl, rfl, by decide +kernel, rfl, by decide +kernel, by decide +kernel⟩

abbrev s_law_told : Stmt := top 69
theorem sc_law_told : FnScope ["ask", "bands", "amount", "sofar", "caught", "found", "e"] ["ask", "bands", "amount", "sofar"] (defScope s_law_told) := ⟨rfl, rfl, rfl, by decide +kernel, rfl, by decide +kernel, by decide +kernel⟩

abbrev s_law_due : Stmt := top 70
theorem sc_law_due : FnScope ["bands", "amount", "sofar", "total"] ["bands", "amount", "sofar"] (defScope s_law_due) := ⟨rfl, rfl, rfl, by decide +kernel, rfl, by decide +kernel, by decide +kernel⟩

abbrev s_law_right : Stmt := top 71
theorem sc_law_right : FnScope ["pot", "bands", "turn", "sofar", "total", "amount", "base", "due", "found", "more"] ["pot", "bands"] (defScope s_law_right) := ⟨rfl, rfl, rfl, by decide +kernel, rfl, by decide +kernel, by decide +kernel⟩

abbrev s_law_folded : Stmt := top 72
theorem sc_law_folded : FnScope ["script", "most", "cells", "k"] ["script", "most"] (defScope s_law_folded) := ⟨rfl, rfl, rfl, by decide +kernel, rfl, by decide +kernel, by decide +kernel⟩

abbrev s_law : Stmt := top 73
theorem sc_law : FnScope ["script", "at", "cell", "pot"] ["script"] (defScope s_law) := ⟨rfl, rfl, rfl, by decide +kernel, rfl, by decide +kernel, by decide +kernel⟩

def d_law_pot : He.DefD := ⟨("_law_pot", none), "_law_pot", "_law_pot", defArgs s_law_pot, defBody s_law_pot, defScope s_law_pot, [], []⟩
def d_law_take : He.DefD := ⟨("_law_take", none), "_law_take", "_law_take", defArgs s_law_take, defBody s_law_take, defScope s_law_take, [], []⟩
def d_law_low : He.DefD := ⟨("_law_low", none), "_law_low", "_law_low", defArgs s_law_low, defBody s_law_low, defScope s_law_low, [], []⟩
def d_part : He.DefD := ⟨("part", none), "part", "part", defArgs s_part, defBody s_part, defScope s_part, [.int 1], []⟩
def d_plus : He.DefD := ⟨("plus", none), "plus", "plus", defArgs s_plus, defBody s_plus, defScope s_plus, [], []⟩
def d_less : He.DefD := ⟨("less", none), "less", "less", defArgs s_less, defBody s_less, defScope s_less, [], []⟩
def d_times : He.DefD := ⟨("times", none), "times", "times", defArgs s_times, defBody s_times, defScope s_times, [], []⟩
def d_over : He.DefD := ⟨("over", none), "over", "over", defArgs s_over, defBody s_over, defScope s_over, [], []⟩
def d_is_less : He.DefD := ⟨("is_less", none), "is_less", "is_less", defArgs s_is_less, defBody s_is_less, defScope s_is_less, [], []⟩
def d_law_plus : He.DefD := ⟨("_law_plus", none), "_law_plus", "_law_plus", defArgs s_law_plus, defBody s_law_plus, defScope s_law_plus, [], []⟩
def d_law_minus : He.DefD := ⟨("_law_minus", none), "_law_minus", "_law_minus", defArgs s_law_minus, defBody s_law_minus, defScope s_law_minus, [], []⟩
def d_law_times : He.DefD := ⟨("_law_times", none), "_law_times", "_law_times", defArgs s_law_times, defBody s_law_times, defScope s_law_times, [], []⟩
def d_law_below : He.DefD := ⟨("_law_below", none), "_law_below", "_law_below", defArgs s_law_below, defBody s_law_below, defScope s_law_below, [], []⟩
def d_is_whole : He.DefD := ⟨("is_whole", none), "is_whole", "is_whole", defArgs s_is_whole, defBody s_is_whole, defScope s_is_whole, [], []⟩
def d_is_part : He.DefD := ⟨("is_part", none), "is_part", "is_part", defArgs s_is_part, defBody s_is_part, defScope s_is_part, [], []⟩
def d_is_amount : He.DefD := ⟨("is_amount", none), "is_amount", "is_amount", defArgs s_is_amount, defBody s_is_amount, defScope s_is_amount, [], []⟩
def d_is_rising : He.DefD := ⟨("_is_rising", none), "_is_rising", "_is_rising", defArgs s_is_rising, defBody s_is_rising, defScope s_is_rising, [], []⟩
def d_slopes : He.DefD := ⟨("_slopes", none), "_slopes", "_slopes", defArgs s_slopes, defBody s_slopes, defScope s_slopes, [], []⟩
def d_bends : He.DefD := ⟨("_bends", none), "_bends", "_bends", defArgs s_bends, defBody s_bends, defScope s_bends, [], []⟩
def d_line_of : He.DefD := ⟨("line_of", none), "line_of", "line_of", defArgs s_line_of, defBody s_line_of, defScope s_line_of, [], []⟩
def d_slope_behind : He.DefD := ⟨("_slope_behind", none), "_slope_behind", "_slope_behind", defArgs s_slope_behind, defBody s_slope_behind, defScope s_slope_behind, [], []⟩
def d_knot_no_later : He.DefD := ⟨("_knot_no_later", none), "_knot_no_later", "_knot_no_later", defArgs s_knot_no_later, defBody s_knot_no_later, defScope s_knot_no_later, [], []⟩
def d_height : He.DefD := ⟨("_height", none), "_height", "_height", defArgs s_height, defBody s_height, defScope s_height, [], []⟩
def d_y_at : He.DefD := ⟨("y_at", none), "y_at", "y_at", defArgs s_y_at, defBody s_y_at, defScope s_y_at, [], []⟩
def d_knot_xs : He.DefD := ⟨("_knot_xs", none), "_knot_xs", "_knot_xs", defArgs s_knot_xs, defBody s_knot_xs, defScope s_knot_xs, [], []⟩
def d_heights : He.DefD := ⟨("_heights", none), "_heights", "_heights", defArgs s_heights, defBody s_heights, defScope s_heights, [], []⟩
def d_both_heights : He.DefD := ⟨("_both_heights", none), "_both_heights", "_both_heights", defArgs s_both_heights, defBody s_both_heights, defScope s_both_heights, [], []⟩
def d_merged : He.DefD := ⟨("_merged", none), "_merged", "_merged", defArgs s_merged, defBody s_merged, defScope s_merged, [], []⟩
def d_sum_line : He.DefD := ⟨("sum_line", none), "sum_line", "sum_line", defArgs s_sum_line, defBody s_sum_line, defScope s_sum_line, [], []⟩
def d_is_band : He.DefD := ⟨("_is_band", none), "_is_band", "_is_band", defArgs s_is_band, defBody s_is_band, defScope s_is_band, [], []⟩
def d_is_bands : He.DefD := ⟨("is_bands", none), "is_bands", "is_bands", defArgs s_is_bands, defBody s_is_bands, defScope s_is_bands, [], []⟩
def d_taken_line : He.DefD := ⟨("taken_line", none), "taken_line", "taken_line", defArgs s_taken_line, defBody s_taken_line, defScope s_taken_line, [], []⟩
def d_times_line : He.DefD := ⟨("times_line", none), "times_line", "times_line", defArgs s_times_line, defBody s_times_line, defScope s_times_line, [], []⟩
def d_left_line : He.DefD := ⟨("_left_line", none), "_left_line", "_left_line", defArgs s_left_line, defBody s_left_line, defScope s_left_line, [], []⟩
def d_taken : He.DefD := ⟨("taken", none), "taken", "taken", defArgs s_taken, defBody s_taken, defScope s_taken, [], [("ahead", .glo "NOUGHT")]⟩
def d_left : He.DefD := ⟨("left", none), "left", "left", defArgs s_left, defBody s_left, defScope s_left, [], []⟩
def d_law_bands : He.DefD := ⟨("_law_bands", none), "_law_bands", "_law_bands", defArgs s_law_bands, defBody s_law_bands, defScope s_law_bands, [], []⟩
def d_law_tax : He.DefD := ⟨("_law_tax", none), "_law_tax", "_law_tax", defArgs s_law_tax, defBody s_law_tax, defScope s_law_tax, [], []⟩
def d_law_total : He.DefD := ⟨("_law_total", none), "_law_total", "_law_total", defArgs s_law_total, defBody s_law_total, defScope s_law_total, [], []⟩
def d_law_word : He.DefD := ⟨("_law_word", none), "_law_word", "_law_word", defArgs s_law_word, defBody s_law_word, defScope s_law_word, [], []⟩
def d_law_told : He.DefD := ⟨("_law_told", none), "_law_told", "_law_told", defArgs s_law_told, defBody s_law_told, defScope s_law_told, [], []⟩
def d_law_due : He.DefD := ⟨("_law_due", none), "_law_due", "_law_due", defArgs s_law_due, defBody s_law_due, defScope s_law_due, [], []⟩
def d_law_right : He.DefD := ⟨("_law_right", none), "_law_right", "_law_right", defArgs s_law_right, defBody s_law_right, defScope s_law_right, [], []⟩
def d_law_folded : He.DefD := ⟨("_law_folded", none), "_law_folded", "_law_folded", defArgs s_law_folded, defBody s_law_folded, defScope s_law_folded, [], []⟩
def d_law : He.DefD := ⟨("law", none), "law", "law", defArgs s_law, defBody s_law, defScope s_law, [], []⟩
def fn : List He.DefD := [d_law_pot, d_law_take, d_law_low, d_part, d_plus, d_less, d_times, d_over, d_is_less, d_law_plus, d_law_minus, d_law_times, d_law_below, d_is_whole, d_is_part, d_is_amount, d_is_rising, d_slopes, d_bends, d_line_of, d_slope_behind, d_knot_no_later, d_height, d_y_at, d_knot_xs, d_heights, d_both_heights, d_merged, d_sum_line, d_is_band, d_is_bands, d_taken_line, d_times_line, d_left_line, d_taken, d_left, d_law_bands, d_law_tax, d_law_total, d_law_word, d_law_told, d_law_due, d_law_right, d_law_folded, d_law]
def fa : List He.Fa := [.glo "_law_pot", .glo "_law_take", .glo "_law_low", .glo "part", .glo "plus", .glo "less", .glo "times", .glo "over", .glo "is_less", .glo "_law_plus", .glo "_law_minus", .glo "_law_times", .glo "_law_below", .glo "is_whole", .glo "is_part", .glo "is_amount", .glo "_is_rising", .glo "_slopes", .glo "_bends", .glo "line_of", .glo "_slope_behind", .glo "_knot_no_later", .glo "_height", .glo "y_at", .glo "_knot_xs", .glo "_heights", .glo "_both_heights", .glo "_merged", .glo "sum_line", .glo "_is_band", .glo "is_bands", .glo "taken_line", .glo "times_line", .glo "_left_line", .glo "taken", .glo "left", .glo "_law_bands", .glo "_law_tax", .glo "_law_total", .glo "_law_word", .glo "_law_told", .glo "_law_due", .glo "_law_right", .glo "_law_folded", .glo "law", .glo "NoAmount", .glo "NoLine", .glo "NoTable", .glo "NoDays", .glo "NoDeed", .glo "NoFold", .glo "NoLeave", .glo "NoPot", .glo "NoRule", .glo "NoStretch", .glo "NoTelling", .glo "NoText", .glo "NoCut", .glo "NoName", .glo "NoNumber", .glo "NoPart", .glo "TooLong", .glo "PayError", .glo "NOUGHT", .glo "ONE", .glo "_ALL_LEFT", .free "ValueError", .free "abs", .free "all", .free "enumerate", .free "int", .free "isinstance", .free "len", .free "list", .free "max", .free "min", .free "range", .free "repr", .free "tuple", .free "type", .free "zip"]
def bs : List (Str × String) := [("gcd", "math.gcd")]
def ex (K : PySem.W.Frag) : Bool := bltB K bs && (PySem.W.excIn K (He.ga K "NoAmount") [.type "ValueError", .type "Exception", .type "BaseException", .type "object"] "ValueError.__new__" && (PySem.W.keepIn K (.ref (He.ga K "NoAmount")) && (decide (PySem.W.subIn K (.ref (He.ga K "NoAmount")) (.type "BaseException") = some true) && decide (PySem.W.typeIn K (.ref (He.ga K "NoAmount")) = some (.type "type"))))) && decide (PySem.W.exmOne K (.ref (He.ga K "NoAmount")) (.ref (He.ga K "PayError")) = some true) && He.tupB K "NOUGHT" [.int 0, .int 1] && He.tupB K "ONE" [.int 1, .int 1] && excCB K (He.ga K "NoAmount") && decide (PySem.W.kitAny K (.ref (He.ga K "NoAmount")) ([(He.ga K "NoDays"), (He.ga K "NoDeed"), (He.ga K "NoFold"), (He.ga K "NoLeave"), (He.ga K "NoPot"), (He.ga K "NoRule"), (He.ga K "NoStretch"), (He.ga K "NoTelling"), (He.ga K "NoText")].map Value.ref) = some false) && decide (PySem.W.kitAny K (.ref (He.ga K "NoAmount")) ([(He.ga K "NoCut"), (He.ga K "NoName"), (He.ga K "NoNumber"), (He.ga K "NoPart"), (He.ga K "TooLong")].map Value.ref) = some false) && decide (PySem.W.kitOne K (.ref (He.ga K "NoAmount")) (.type "ValueError") = some true) && decide (PySem.W.kitOne K (.ref (He.ga K "NoAmount")) (.ref (He.ga K "NoAmount")) = some true) && decide (PySem.W.kitOne K (.ref (He.ga K "NoAmount")) (.ref (He.ga K "NoLine")) = some false) && decide (PySem.W.kitOne K (.ref (He.ga K "NoAmount")) (.ref (He.ga K "NoTable")) = some false) && lnB1 K "_ALL_LEFT" 0 1 0 1 1 1
abbrev R : PySem.W.OpenRow := PySem.W.OpenLaw.row PySem.Challenge.rw_paymill_k56_taken_and_left
abbrev hk : PySem.W.Hook := hookX 4 fa fn ex
def ob (s : PySem.W.SharedT) : AlG := obsX 4 fa fn ex (HandSHeadRun.getT s)
theorem ob_eq (s : PySem.W.SharedT) : ob s = hk.obs s.abs := obsX_eq (HandSHeadRun.getT_eq s)
def loose : List Str := (["__name__", "NOUGHT", "ONE", "_ALL_LEFT", "PayError", "NoAmount", "NoLine", "NoDays", "NoRule", "NoTelling", "NoStretch", "NoTable", "NoPot", "NoFold", "NoLeave", "NoDeed", "NoText", "NoPart", "NoName", "NoNumber", "TooLong", "NoCut", "is_whole", "is_part", "is_amount", "part", "plus", "less", "times", "over"] : List Str) ++ (["is_less", "line_of", "y_at", "sum_line", "times_line", "_is_rising", "_slopes", "_bends", "_knot_xs", "_knot_no_later", "_slope_behind", "_height", "_heights", "_both_heights", "_merged", "is_bands", "taken", "left", "taken_line", "_is_band", "_left_line", "_law_pot", "_law_take", "_law_low", "_law_plus", "_law_minus", "_law_times", "_law_by", "_law_below", "_law_bands"] : List Str) ++ (["_law_tax", "_law_normal", "_law_total", "_law_word", "_law_told", "_law_due", "_law_right", "_law_folded"] : List Str)
theorem run (w : World) : HandSHeadRun.RunEqI R (PySem.W.view R.prog [0, 73]) hk ob 20000 loose w := HH.run w
end DL

set_option Elab.async false
set_option linter.all false
/-! LM1: parts as rationals, their sizes -/
namespace DL
/-- the height of a part -/
def hgt (q : Rat) : Nat := q.num.natAbs + q.den
theorem hgt_pos (q : Rat) : 0 < hgt q := by have := q.den_pos; unfold hgt; omega
/-- the bits of a part -/
def sz (q : Rat) : Nat := (hgt q).log2 + 1
theorem hgt_lt (q : Rat) : hgt q < 2 ^ sz q := by unfold sz; exact Nat.lt_log2_self
theorem num_lt {q : Rat} {k : Nat} (h : sz q ≤ k) : q.num.natAbs < 2 ^ k := by
  have h1 := hgt_lt q
  have h2 : (2 : Nat) ^ sz q ≤ 2 ^ k := Nat.pow_le_pow_right (by decide) h
  have := q.den_pos
  unfold hgt at h1; omega
theorem den_lt {q : Rat} {k : Nat} (h : sz q ≤ k) : q.den < 2 ^ k := by
  have h1 := hgt_lt q
  have h2 : (2 : Nat) ^ sz q ≤ 2 ^ k := Nat.pow_le_pow_right (by decide) h
  unfold hgt at h1; omega
theorem sz_of {q : Rat} {k : Nat} (h : hgt q < 2 ^ k) (hk : 0 < k) : sz q ≤ k := by
  have := hgt_pos q
  have h2 := (Nat.log2_lt (by omega)).mpr h
  unfold sz; omega
theorem sz_pos (q : Rat) : 0 < sz q := Nat.succ_pos _
theorem sz_op {q r t : Rat} (h : hgt t ≤ hgt q * hgt r) : sz t ≤ sz q + sz r := by
  refine sz_of (Nat.lt_of_le_of_lt h ?_) (by have := sz_pos q; omega)
  rw [Nat.pow_add]
  exact Nat.mul_lt_mul_of_lt_of_lt (hgt_lt q) (hgt_lt r)
theorem hgt_divInt (a b : Int) (h : b ≠ 0) : hgt (Rat.divInt a b) ≤ a.natAbs + b.natAbs := by
  unfold hgt
  rw [Rat.num_divInt, Rat.den_divInt, if_neg h]
  have h1 : (b.sign * a / ((b.gcd a : Nat) : Int)).natAbs ≤ a.natAbs := by
    refine Nat.le_trans (Int.natAbs_ediv_le_natAbs _ _) ?_
    rw [Int.natAbs_mul, Int.natAbs_sign_of_ne_zero h]
    omega
  have h2 : b.natAbs / b.gcd a ≤ b.natAbs := Nat.div_le_self _ _
  omega
theorem hgt_mk (a : Int) (b : Nat) (h : b ≠ 0) : hgt (mkRat a b) ≤ a.natAbs + b := by
  have := hgt_divInt a b (by omega)
  rwa [Rat.divInt_ofNat, Int.natAbs_natCast] at this
theorem hgt_mul2 (a c : Int) (b d : Nat) (x : Int) (h : x.natAbs ≤ a.natAbs * d + c.natAbs * b) : x.natAbs + b * d ≤ (a.natAbs + b) * (c.natAbs + d) := by
  have e : (a.natAbs + b) * (c.natAbs + d) = a.natAbs * c.natAbs + a.natAbs * d + (b * c.natAbs + b * d) := by rw [Nat.add_mul, Nat.mul_add, Nat.mul_add]
  rw [e, Nat.mul_comm b c.natAbs]; omega
theorem sz_add (q r : Rat) : sz (q + r) ≤ sz q + sz r := by
  refine sz_op ?_
  rw [Rat.add_def']
  refine Nat.le_trans (hgt_mk _ _ (Nat.mul_ne_zero q.den_nz r.den_nz)) ?_
  refine hgt_mul2 q.num r.num q.den r.den _ (Nat.le_trans (Int.natAbs_add_le _ _) ?_)
  rw [Int.natAbs_mul, Int.natAbs_mul]; simp
theorem sz_sub (q r : Rat) : sz (q - r) ≤ sz q + sz r := by
  refine sz_op ?_
  rw [Rat.sub_def']
  refine Nat.le_trans (hgt_mk _ _ (Nat.mul_ne_zero q.den_nz r.den_nz)) ?_
  refine hgt_mul2 q.num r.num q.den r.den _ (Nat.le_trans (Int.natAbs_sub_le _ _) ?_)
  rw [Int.natAbs_mul, Int.natAbs_mul]; simp
theorem sz_mul (q r : Rat) : sz (q * r) ≤ sz q + sz r := by
  refine sz_op ?_
  rw [Rat.mul_def']
  refine Nat.le_trans (hgt_mk _ _ (Nat.mul_ne_zero q.den_nz r.den_nz)) ?_
  rw [Int.natAbs_mul]
  show _ ≤ (q.num.natAbs + q.den) * (r.num.natAbs + r.den)
  rw [Nat.add_mul, Nat.mul_add, Nat.mul_add]; omega
theorem hgt_inv (r : Rat) : hgt (r⁻¹) ≤ hgt r := by
  unfold hgt
  rw [Rat.num_inv, Rat.den_inv]
  have := r.den_pos
  by_cases h : r.num = 0
  · rw [h]; simp; omega
  · rw [if_neg h, Int.natAbs_mul, Int.natAbs_sign_of_ne_zero h]; simp; omega
theorem sz_div (q r : Rat) : sz (q / r) ≤ sz q + sz r := by
  rw [Rat.div_def]
  refine Nat.le_trans (sz_mul _ _) ?_
  have h : sz (r⁻¹) ≤ sz r := sz_of (Nat.lt_of_le_of_lt (hgt_inv r) (hgt_lt r)) (sz_pos r)
  omega
theorem sz_int {i : Int} {k : Nat} (h : i.natAbs + 1 < 2 ^ k) : sz (i : Rat) ≤ k := by
  refine sz_of ?_ ?_
  · unfold hgt; rw [Rat.num_intCast, Rat.den_intCast]; exact h
  · cases k with
    | zero => simp at h
    | succ k => omega
theorem sz_di {a b : Int} {k : Nat} (hb : b ≠ 0) (h : a.natAbs + b.natAbs < 2 ^ k) : sz (Rat.divInt a b) ≤ k := by
  refine sz_of (Nat.lt_of_le_of_lt (hgt_divInt a b hb) h) ?_
  cases k with
  | zero => simp at h; omega
  | succ k => omega
theorem sz_zero : sz 0 = 1 := by decide +kernel
theorem sz_one : sz 1 = 2 := by decide +kernel
/-- a pair in lowest terms, of two whole numbers -/
def nrm' (a b : Int) : Int × Int := ((if 0 < b then a else -a) / ((Nat.gcd a.natAbs b.natAbs : Nat) : Int), ((b.natAbs : Nat) : Int) / ((Nat.gcd a.natAbs b.natAbs : Nat) : Int))
theorem nrm_di {a b : Int} (h : b ≠ 0) : nrm' a b = ((Rat.divInt a b).num, ((Rat.divInt a b).den : Int)) := by
  unfold nrm'
  rw [Rat.num_divInt, Rat.den_divInt, if_neg h]
  have e : Int.gcd b a = Nat.gcd a.natAbs b.natAbs := by rw [Int.gcd_comm]; rfl
  rw [e]
  congr 1
  by_cases hb : 0 < b
  · rw [if_pos hb, Int.sign_eq_one_of_pos hb, Int.one_mul]
  · rw [if_neg hb, Int.sign_eq_neg_one_of_neg (by omega), Int.neg_mul, Int.one_mul]
theorem di_add (q r : Rat) : Rat.divInt (q.num * r.den + r.num * q.den) (q.den * r.den) = q + r := by
  rw [Rat.add_def', ← Rat.divInt_ofNat]; simp
theorem di_sub (q r : Rat) : Rat.divInt (q.num * r.den - r.num * q.den) (q.den * r.den) = q - r := by
  rw [Rat.sub_def', ← Rat.divInt_ofNat]; simp
theorem di_mul (q r : Rat) : Rat.divInt (q.num * r.num) (q.den * r.den) = q * r := by
  rw [Rat.mul_def', ← Rat.divInt_ofNat]; simp
theorem di_div (q r : Rat) : Rat.divInt (q.num * r.den) (q.den * r.num) = q / r := by
  rw [Rat.div_def, Rat.inv_def]
  have : Rat.divInt q.num q.den = q := Rat.num_divInt_den q
  conv => rhs; rw [← this]
  rw [Rat.divInt_mul_divInt]
theorem lt_q (q r : Rat) : (q.num * (r.den : Int) < r.num * (q.den : Int)) ↔ q < r := (Rat.lt_iff q r).symm
theorem den0 (q : Rat) : (q.den : Int) ≠ 0 := by have := q.den_pos; omega
theorem num0 {q : Rat} (h : q ≠ 0) : q.num ≠ 0 := fun z => h (Rat.num_eq_zero.mp z)
end DL

set_option Elab.async false
set_option linter.all false
/-! LM2: lines -/
namespace DL
abbrev Kn := List (Rat × Rat)
def kn (ks : Kn) (i : Nat) : Rat × Rat := ks.getD i (0, 0)
/-- the slope behind a knot -/
def slp (ks : Kn) (s : Rat) (i : Nat) : Rat := if i + 1 < ks.length then ((kn ks (i + 1)).2 - (kn ks i).2) / ((kn ks (i + 1)).1 - (kn ks i).1) else s
def Rising (ks : Kn) : Prop := ∀ i, i + 1 < ks.length → (kn ks i).1 < (kn ks (i + 1)).1
theorem Rising.lt {ks : Kn} (h : Rising ks) {i j : Nat} (hij : i < j) (hj : j < ks.length) : (kn ks i).1 < (kn ks j).1 := by
  induction j with
  | zero => omega
  | succ j ih =>
    have h1 := h j hj
    by_cases e : i = j
    · subst e; exact h1
    · have := ih (by omega) (by omega); grind
/-- the number of the last knot no greater -/
structure AtK (ks : Kn) (x : Rat) (i : Nat) : Prop where
  lt : i < ks.length
  le : (kn ks i).1 ≤ x
  nx : i + 1 < ks.length → x < (kn ks (i + 1)).1
theorem AtK.uniq {ks : Kn} (r : Rising ks) {x : Rat} {i j : Nat} (h : AtK ks x i) (g : AtK ks x j) : i = j := by
  rcases Nat.lt_trichotomy i j with q | q | q
  · have h1 := h.nx (by have := g.lt; omega)
    have g1 := g.le
    by_cases e : i + 1 = j
    · subst e; grind
    · have := r.lt (i := i + 1) (j := j) (by omega) g.lt; grind
  · exact q
  · have h1 := g.nx (by have := h.lt; omega)
    have g1 := h.le
    by_cases e : j + 1 = i
    · subst e; grind
    · have := r.lt (i := j + 1) (j := i) (by omega) h.lt; grind
def yOf (ks : Kn) (s : Rat) (x : Rat) (i : Nat) : Rat := (kn ks i).2 + slp ks s i * (x - (kn ks i).1)
open Classical in
/-- the line's y -/
noncomputable def yAt (ks : Kn) (s : Rat) (x : Rat) : Rat := if h : ∃ i, AtK ks x i then yOf ks s x (choose h) else 0
theorem yAt_of {ks : Kn} (r : Rising ks) {s x : Rat} {i : Nat} (h : AtK ks x i) : yAt ks s x = yOf ks s x i := by
  unfold yAt
  have e : ∃ i, AtK ks x i := ⟨i, h⟩
  rw [dif_pos e, AtK.uniq r (Classical.choose_spec e) h]
/-- all parts of a line within a size -/
structure KsB (B : Nat) (ks : Kn) (s : Rat) : Prop where
  x : ∀ i, i < ks.length → sz (kn ks i).1 ≤ B
  y : ∀ i, i < ks.length → sz (kn ks i).2 ≤ B
  s : sz s ≤ B
/-- a line that can be asked -/
structure Ln (B : Nat) (ks : Kn) (s : Rat) : Prop where
  b : KsB B ks s
  pos : 0 < ks.length
  fst : (kn ks 0).1 = 0
  ris : Rising ks
theorem slp_sz {B : Nat} {ks : Kn} {s : Rat} (h : KsB B ks s) (hB : 0 < B) (i : Nat) (hi : i < ks.length) : sz (slp ks s i) ≤ 4 * B := by
  unfold slp
  split
  · rename_i q
    have h1 := h.x i (by omega); have h2 := h.x (i + 1) q; have h3 := h.y i (by omega); have h4 := h.y (i + 1) q
    have a1 := sz_div ((kn ks (i + 1)).2 - (kn ks i).2) ((kn ks (i + 1)).1 - (kn ks i).1)
    have a2 := sz_sub (kn ks (i + 1)).2 (kn ks i).2
    have a3 := sz_sub (kn ks (i + 1)).1 (kn ks i).1
    omega
  · have := h.s; omega
theorem yOf_sz {B C : Nat} {ks : Kn} {s x : Rat} (h : KsB B ks s) (hB : 0 < B) {i : Nat} (hi : i < ks.length) (hx : sz x ≤ C) : sz (yOf ks s x i) ≤ 6 * B + C := by
  unfold yOf
  have h1 := h.x i hi; have h2 := h.y i hi; have h3 := slp_sz h hB i hi
  have a1 := sz_add (kn ks i).2 (slp ks s i * (x - (kn ks i).1))
  have a2 := sz_mul (slp ks s i) (x - (kn ks i).1)
  have a3 := sz_sub x (kn ks i).1
  omega
theorem ris_step {ks : Kn} (r : Rising ks) {i : Nat} (h : i + 1 < ks.length) : (kn ks (i + 1)).1 - (kn ks i).1 ≠ 0 := by
  have := r i h; grind
theorem kn_append_lt {ks : Kn} {p : Rat × Rat} {i : Nat} (h : i < ks.length) : kn (ks ++ [p]) i = kn ks i := by
  unfold kn; rw [List.getD_eq_getElem?_getD, List.getD_eq_getElem?_getD, List.getElem?_append_left h]
theorem kn_append_eq {ks : Kn} {p : Rat × Rat} {i : Nat} (h : i = ks.length) : kn (ks ++ [p]) i = p := by
  subst h; unfold kn; rw [List.getD_eq_getElem?_getD]; simp
theorem kn_get {ks : Kn} {i : Nat} (h : i < ks.length) : ks[i]? = some (kn ks i) := by
  unfold kn; rw [List.getD_eq_getElem?_getD, List.getElem?_eq_getElem h]; rfl
/-- an index loop: the last so far that is no greater -/
def lastIx (ks : Kn) (x : Rat) : Nat → Nat
  | 0 => 0
  | n + 1 => if x < (kn ks n).1 then lastIx ks x n else n
theorem lastIx_at {ks : Kn} {x : Rat} (r : Rising ks) (p : 0 < ks.length) (h0 : (kn ks 0).1 ≤ x) : AtK ks x (lastIx ks x ks.length) := by
  have key : ∀ n, n ≤ ks.length → (0 < n → lastIx ks x n < n) ∧ (kn ks (lastIx ks x n)).1 ≤ x ∧ ∀ j, lastIx ks x n < j → j < n → x < (kn ks j).1 := by
    intro n
    induction n with
    | zero => intro _; exact ⟨fun h => absurd h (by omega), h0, fun j _ h => absurd h (by omega)⟩
    | succ n ih =>
      intro hn
      obtain ⟨a, b, c⟩ := ih (by omega)
      unfold lastIx
      split
      · rename_i q
        refine ⟨fun _ => ?_, b, fun j h1 h2 => ?_⟩
        · by_cases e : n = 0
          · subst e; grind
          · have := a (by omega); omega
        · by_cases e : j = n
          · subst e; exact q
          · exact c j h1 (by omega)
      · rename_i q
        exact ⟨fun _ => by omega, by grind, fun j h1 h2 => by omega⟩
  obtain ⟨a, b, c⟩ := key ks.length (Nat.le_refl _)
  exact ⟨a p, b, fun h => c _ (by omega) h⟩
end DL

set_option Elab.async false
set_option linter.all false
/-! LM3: lines as they are drawn: bounds by a common bottom -/
namespace DL
/-- so many D-th parts -/
def Dv (D M : Nat) (q : Rat) : Prop := ∃ n : Int, q * (D : Rat) = (n : Rat) ∧ n.natAbs ≤ M
theorem Dv.mono {D M M' : Nat} {q : Rat} (h : Dv D M q) (k : M ≤ M') : Dv D M' q := let ⟨n, e, b⟩ := h; ⟨n, e, by omega⟩
theorem Dv.add {D M M' : Nat} {q r : Rat} (h : Dv D M q) (g : Dv D M' r) : Dv D (M + M') (q + r) := by
  obtain ⟨n, e, b⟩ := h
  obtain ⟨m, f, c⟩ := g
  exact ⟨n + m, by rw [Rat.add_mul, e, f, Rat.intCast_add], by omega⟩
theorem Dv.mul {D1 D2 M1 M2 : Nat} {q r : Rat} (h : Dv D1 M1 q) (g : Dv D2 M2 r) : Dv (D1 * D2) (M1 * M2) (q * r) := by
  obtain ⟨n, e, b⟩ := h
  obtain ⟨m, f, c⟩ := g
  refine ⟨n * m, ?_, by rw [Int.natAbs_mul]; exact Nat.mul_le_mul b c⟩
  rw [Rat.natCast_mul, Rat.intCast_mul, ← e, ← f]; grind
theorem Dv.di {a : Int} {b c : Nat} (hb : b ≠ 0) : Dv (b * c) (a.natAbs * c) (Rat.divInt a b) := by
  refine ⟨a * c, ?_, by rw [Int.natAbs_mul]; simp⟩
  have hb' : ((b : Nat) : Rat) ≠ 0 := by simpa using hb
  rw [Rat.divInt_eq_div, Rat.natCast_mul, Rat.intCast_mul, Rat.intCast_natCast, Rat.intCast_natCast, ← Rat.mul_assoc, Rat.div_mul_cancel hb']
theorem Dv.sz {D M k : Nat} {q : Rat} (h : Dv D M q) (hD : D ≠ 0) (hk : M + D < 2 ^ k) : sz q ≤ k := by
  obtain ⟨n, e, b⟩ := h
  have hD' : ((D : Nat) : Rat) ≠ 0 := by simpa using hD
  have eq : q = Rat.divInt n (D : Int) := by
    rw [Rat.divInt_eq_div, ← e, Rat.intCast_natCast, Rat.mul_div_cancel hD']
  rw [eq]
  refine sz_di (by omega) ?_
  simp; omega
theorem Dv.zero {D : Nat} : Dv D 0 0 := ⟨0, by rw [Rat.zero_mul]; rfl, by decide⟩
/-- the slopes that are drawn -/
structure SlopeOk (p : Nat) (s : Rat) : Prop where
  one : p = 1 → Dv 6 42 s
  more : 1 < p → ∃ m : Int, s = ((p * m : Int) : Rat) ∧ m.natAbs ≤ 7
structure StepOk (p : Nat) (t : Rat) : Prop where
  pos : 0 < t
  one : p = 1 → Dv 4 24 t
  more : 1 < p → ∃ n : Nat, t = Rat.divInt n p ∧ n ≤ 6
/-- ahead of the k-th slope -/
structure Stg (p k : Nat) (ks : Kn) (la : Option Rat) : Prop where
  len : ks.length = k + 1
  fst : (kn ks 0).1 = 0
  ris : Rising ks
  dx : ∀ i, i < ks.length → Dv (24 * p) (144 * i) (kn ks i).1
  dy : ∀ i, i < ks.length → Dv (24 * p) ((480 + 1008 * i) * p) (kn ks i).2
  nr : ∀ i, i + 2 < ks.length → slp ks 0 i ≠ slp ks 0 (i + 1)
  la : la = if k = 0 then none else some (slp ks 0 (k - 1))
/-- it bends at each knot -/
def Nrm (ks : Kn) (s : Rat) : Prop := ∀ i, i + 1 < ks.length → slp ks s i ≠ slp ks s (i + 1)
structure GoodL (m : Nat) (ks : Kn) (s : Rat) : Prop where
  l : Ln 26 ks s
  len : ks.length ≤ m
  nrm : Nrm ks s
structure SlopeB (p : Nat) (s : Rat) : Prop where
  one : p = 1 → Dv 6 36 s
  more : 1 < p → ∃ m : Int, s = ((m * p : Int) : Rat) ∧ m.natAbs ≤ 6
/-! what is drawn -/
end DL

set_option Elab.async false
set_option linter.all false
/-! LM4: lines knot by knot: what bends, and the one normal form -/
namespace DL
def yR : Kn → Rat → Rat → Rat
  | [], _, _ => 0
  | [a], s, x => a.2 + s * (x - a.1)
  | a :: b :: r, s, x => if x < b.1 then a.2 + (b.2 - a.2) / (b.1 - a.1) * (x - a.1) else yR (b :: r) s x
/-- the slope behind a, with the rest -/
def sR (a : Rat × Rat) : Kn → Rat → Rat
  | [], s => s
  | b :: _, _ => (b.2 - a.2) / (b.1 - a.1)
def go (sl : Rat) : Kn → Rat → Kn
  | [], _ => []
  | b :: r, s => if sR b r s = sl then go sl r s else b :: go (sR b r s) r s
def bR : Kn → Rat → Kn
  | [], _ => []
  | a :: r, s => a :: go (sR a r s) r s
def RisR : Kn → Prop
  | [] => True
  | [_] => True
  | a :: b :: r => a.1 < b.1 ∧ RisR (b :: r)
def NrmR : Kn → Rat → Prop
  | [], _ => True
  | [_], _ => True
  | a :: b :: r, s => sR a (b :: r) s ≠ sR b r s ∧ NrmR (b :: r) s
theorem RisR.tail {a : Rat × Rat} {r : Kn} (h : RisR (a :: r)) : RisR r := by
  cases r with
  | nil => trivial
  | cons b r => exact h.2
theorem RisR.skip {a b : Rat × Rat} {r : Kn} (h : RisR (a :: b :: r)) : RisR (a :: r) := by
  cases r with
  | nil => trivial
  | cons c r => exact ⟨by have := h.1; have := h.2.1; grind, h.2.2⟩
theorem two {a b : Rat × Rat} (h : a.1 < b.1) : b.2 = a.2 + (b.2 - a.2) / (b.1 - a.1) * (b.1 - a.1) := by grind
theorem sR_skip {a b : Rat × Rat} {r : Kn} {s : Rat} (h : RisR (a :: b :: r)) (e : sR b r s = sR a (b :: r) s) : sR a r s = sR a (b :: r) s := by
  cases r with
  | nil => exact e
  | cons c r =>
    have h1 := h.1
    have h2 := h.2.1
    have e' : (c.2 - b.2) / (c.1 - b.1) = (b.2 - a.2) / (b.1 - a.1) := e
    show (c.2 - a.2) / (c.1 - a.1) = (b.2 - a.2) / (b.1 - a.1)
    grind
theorem yR_skip {a b : Rat × Rat} {r : Kn} {s x : Rat} (h : RisR (a :: b :: r)) (e : sR b r s = sR a (b :: r) s) : yR (a :: r) s x = yR (a :: b :: r) s x := by
  have h1 := h.1
  cases r with
  | nil =>
    have e' : s = (b.2 - a.2) / (b.1 - a.1) := e
    show a.2 + s * (x - a.1) = if x < b.1 then a.2 + (b.2 - a.2) / (b.1 - a.1) * (x - a.1) else b.2 + s * (x - b.1)
    rw [← e']
    split
    · rfl
    · have := two h1; rw [← e'] at this; grind
  | cons c r =>
    have h2 := h.2.1
    have e2 := sR_skip h e
    have e' : (c.2 - b.2) / (c.1 - b.1) = (b.2 - a.2) / (b.1 - a.1) := e
    have e2' : (c.2 - a.2) / (c.1 - a.1) = (b.2 - a.2) / (b.1 - a.1) := e2
    show (if x < c.1 then a.2 + (c.2 - a.2) / (c.1 - a.1) * (x - a.1) else yR (c :: r) s x) = if x < b.1 then a.2 + (b.2 - a.2) / (b.1 - a.1) * (x - a.1) else (if x < c.1 then b.2 + (c.2 - b.2) / (c.1 - b.1) * (x - b.1) else yR (c :: r) s x)
    rw [e', e2']
    have t := two h1
    generalize (b.2 - a.2) / (b.1 - a.1) = sl at *
    by_cases q1 : x < b.1
    · rw [if_pos q1, if_pos (by grind)]
    · rw [if_neg q1]
      by_cases q2 : x < c.1
      · rw [if_pos q2, if_pos q2]; grind
      · rw [if_neg q2, if_neg q2]
theorem go_y {s x : Rat} : ∀ {r : Kn} {a : Rat × Rat}, RisR (a :: r) → yR (a :: go (sR a r s) r s) s x = yR (a :: r) s x := by
  intro r
  induction r with
  | nil => intro a _; rfl
  | cons b r ih =>
    intro a h
    show yR (a :: (if sR b r s = sR a (b :: r) s then go (sR a (b :: r) s) r s else b :: go (sR b r s) r s)) s x = _
    by_cases e : sR b r s = sR a (b :: r) s
    · rw [if_pos e, ← sR_skip h e, ih h.skip, yR_skip h e]
    · rw [if_neg e]
      show (if x < b.1 then _ else yR (b :: go (sR b r s) r s) s x) = if x < b.1 then _ else yR (b :: r) s x
      rw [ih h.tail]
theorem go_sR {s : Rat} : ∀ {r : Kn} {a : Rat × Rat}, RisR (a :: r) → sR a (go (sR a r s) r s) s = sR a r s := by
  intro r
  induction r with
  | nil => intro a _; rfl
  | cons b r ih =>
    intro a h
    show sR a (if sR b r s = sR a (b :: r) s then go (sR a (b :: r) s) r s else b :: go (sR b r s) r s) s = _
    by_cases e : sR b r s = sR a (b :: r) s
    · rw [if_pos e, ← sR_skip h e, ih h.skip]
    · rw [if_neg e]; rfl
theorem go_nrm {s : Rat} : ∀ {r : Kn} {a : Rat × Rat}, RisR (a :: r) → NrmR (a :: go (sR a r s) r s) s := by
  intro r
  induction r with
  | nil => intro a _; trivial
  | cons b r ih =>
    intro a h
    show NrmR (a :: (if sR b r s = sR a (b :: r) s then go (sR a (b :: r) s) r s else b :: go (sR b r s) r s)) s
    by_cases e : sR b r s = sR a (b :: r) s
    · rw [if_pos e, ← sR_skip h e]; exact ih h.skip
    · rw [if_neg e]
      refine ⟨?_, ih h.tail⟩
      rw [go_sR h.tail]
      exact fun z => e z.symm
theorem go_mem {s sl : Rat} : ∀ {r : Kn} {sl : Rat} {p : Rat × Rat}, p ∈ go sl r s → p ∈ r := by
  intro r
  induction r with
  | nil => intro sl p h; exact h
  | cons b r ih =>
    intro sl p h
    have h' : p ∈ (if sR b r s = sl then go sl r s else b :: go (sR b r s) r s) := h
    split at h'
    · exact List.mem_cons_of_mem _ (ih h')
    · rcases List.mem_cons.mp h' with e | h'
      · rw [e]; exact List.mem_cons_self
      · exact List.mem_cons_of_mem _ (ih h')
theorem RisR.head {a : Rat × Rat} : ∀ {r : Kn}, RisR (a :: r) → ∀ p ∈ r, a.1 < p.1 := by
  intro r
  induction r with
  | nil => intro _ p hp; cases hp
  | cons b r ih =>
    intro h p hp
    rcases List.mem_cons.mp hp with e | hp
    · rw [e]; exact h.1
    · exact ih h.skip p hp
theorem risR_of {a : Rat × Rat} {r : Kn} (h1 : ∀ p ∈ r, a.1 < p.1) (h2 : RisR r) : RisR (a :: r) := by
  cases r with
  | nil => trivial
  | cons b r => exact ⟨h1 b List.mem_cons_self, h2⟩
theorem go_ris {s : Rat} : ∀ {r : Kn} {sl : Rat}, RisR r → RisR (go sl r s) := by
  intro r
  induction r with
  | nil => intro sl h; trivial
  | cons b r ih =>
    intro sl h
    show RisR (if sR b r s = sl then go sl r s else b :: go (sR b r s) r s)
    split
    · exact ih h.tail
    · exact risR_of (fun p hp => h.head p (go_mem (sl := 0) hp)) (ih h.tail)
theorem bR_ris {ks : Kn} {s : Rat} (h : RisR ks) : RisR (bR ks s) := by
  cases ks with
  | nil => trivial
  | cons a r => exact risR_of (fun p hp => h.head p (go_mem (sl := 0) hp)) (go_ris h.tail)
/-- just behind a knot -/
theorem nxt {b : Rat × Rat} {r : Kn} {s u : Rat} (h : RisR (b :: r)) (hu : b.1 < u) : ∃ x, b.1 < x ∧ x < u ∧ yR (b :: r) s x = b.2 + sR b r s * (x - b.1) := by
  cases r with
  | nil => exact ⟨(b.1 + u) / 2, by grind, by grind, rfl⟩
  | cons c r =>
    have hc := h.1
    by_cases q : u < c.1
    · refine ⟨(b.1 + u) / 2, by grind, by grind, ?_⟩
      show (if (b.1 + u) / 2 < c.1 then _ else _) = _
      rw [if_pos (by grind)]; rfl
    · refine ⟨(b.1 + c.1) / 2, by grind, by grind, ?_⟩
      show (if (b.1 + c.1) / 2 < c.1 then _ else _) = _
      rw [if_pos (by grind)]; rfl
theorem yR_fst {a b : Rat × Rat} {r : Kn} {s x : Rat} (hx : x < b.1) : yR (a :: b :: r) s x = a.2 + sR a (b :: r) s * (x - a.1) := if_pos hx
theorem yR_snd {a b : Rat × Rat} {r : Kn} {s x : Rat} (hx : ¬ x < b.1) : yR (a :: b :: r) s x = yR (b :: r) s x := if_neg hx
end DL

set_option Elab.async false
set_option linter.all false
/-! LM5: by number and knot by knot -/
namespace DL
theorem kn_succ {a : Rat × Rat} {r : Kn} {i : Nat} : kn (a :: r) (i + 1) = kn r i := rfl
theorem kn_zero {a : Rat × Rat} {r : Kn} : kn (a :: r) 0 = a := rfl
theorem slp_succ {a : Rat × Rat} {r : Kn} {s : Rat} {i : Nat} : slp (a :: r) s (i + 1) = slp r s i := by
  unfold slp
  rw [kn_succ, kn_succ, List.length_cons]
  by_cases h : i + 1 < r.length
  · rw [if_pos h, if_pos (by omega)]
  · rw [if_neg h, if_neg (by omega)]
theorem slp_zero {a : Rat × Rat} {r : Kn} {s : Rat} : slp (a :: r) s 0 = sR a r s := by
  cases r with
  | nil => rfl
  | cons b r => unfold slp; rw [if_pos (by simp)]; rfl
theorem risR_iff : ∀ {ks : Kn}, Rising ks ↔ RisR ks
  | [] => ⟨fun _ => trivial, fun _ i h => absurd h (by simp)⟩
  | [a] => ⟨fun _ => trivial, fun _ i h => absurd h (by simp)⟩
  | a :: b :: r => by
    constructor
    · intro h
      refine ⟨h 0 (by simp), risR_iff.mp fun i hi => ?_⟩
      exact h (i + 1) (by simp at hi ⊢; omega)
    · intro h i hi
      cases i with
      | zero => exact h.1
      | succ i => exact risR_iff.mpr h.2 i (by simp at hi ⊢; omega)
theorem nrmR_iff {s : Rat} : ∀ {ks : Kn}, Nrm ks s ↔ NrmR ks s
  | [] => ⟨fun _ => trivial, fun _ i h => absurd h (by simp)⟩
  | [a] => ⟨fun _ => trivial, fun _ i h => absurd h (by simp)⟩
  | a :: b :: r => by
    constructor
    · intro h
      refine ⟨?_, nrmR_iff.mp fun i hi => ?_⟩
      · have := h 0 (by simp)
        rwa [slp_zero, slp_succ, slp_zero] at this
      · have := h (i + 1) (by simp at hi ⊢; omega)
        rwa [slp_succ, slp_succ] at this
    · intro h i hi
      cases i with
      | zero => rw [slp_zero, slp_succ, slp_zero]; exact h.1
      | succ i => rw [slp_succ, slp_succ]; exact nrmR_iff.mpr h.2 i (by simp at hi ⊢; omega)
theorem yR_at {s x : Rat} : ∀ {r : Kn} {a : Rat × Rat}, RisR (a :: r) → a.1 ≤ x → ∃ i, AtK (a :: r) x i ∧ yR (a :: r) s x = yOf (a :: r) s x i := by
  intro r
  induction r with
  | nil => intro a _ hx; exact ⟨0, ⟨by simp, hx, fun h => absurd h (by simp)⟩, rfl⟩
  | cons b r ih =>
    intro a h hx
    by_cases q : x < b.1
    · refine ⟨0, ⟨by simp, hx, fun _ => q⟩, ?_⟩
      rw [yR_fst q]; unfold yOf; rw [slp_zero, kn_zero]
    · obtain ⟨i, hi, e⟩ := ih h.tail (by grind)
      refine ⟨i + 1, ⟨by have := hi.lt; simp at this ⊢; omega, hi.le, fun hl => hi.nx (by simp at hl ⊢; omega)⟩, ?_⟩
      rw [yR_snd q, e]; unfold yOf; rw [slp_succ, kn_succ]
theorem yAt_yR {ks : Kn} {s x : Rat} (r : Rising ks) (h : 0 < ks.length) (hx : (kn ks 0).1 ≤ x) : yAt ks s x = yR ks s x := by
  match ks, r, h, hx with
  | a :: q, r, h, hx =>
    obtain ⟨i, hi, e⟩ := yR_at (s := s) (risR_iff.mp r) hx
    rw [yAt_of r hi, e]
/-- whether the line bends at a knot, the first one always -/
def pB (ks : Kn) (s : Rat) (i : Nat) : Bool := decide (i = 0) || !decide (slp ks s i = slp ks s (i - 1))
def bI (ks : Kn) (s : Rat) (k : Nat) : Kn := ((List.range k).filter (pB ks s)).map (kn ks)
theorem bI_succ {ks : Kn} {s : Rat} {k : Nat} : bI ks s (k + 1) = if pB ks s k = true then bI ks s k ++ [kn ks k] else bI ks s k := by
  unfold bI
  rw [List.range_succ, List.filter_append, List.map_append]
  by_cases h : pB ks s k = true
  · rw [if_pos h]; simp [List.filter, h]
  · have h' : pB ks s k = false := by simpa using h
    simp [List.filter, h']
theorem go_filter {s : Rat} : ∀ {r : Kn} {a : Rat × Rat}, ((List.range r.length).filter fun i => !decide (slp (a :: r) s (i + 1) = slp (a :: r) s i)).map (kn r) = go (sR a r s) r s := by
  intro r
  induction r with
  | nil => intro a; rfl
  | cons b r ih =>
    intro a
    rw [List.length_cons, List.range_succ_eq_map, List.filter_cons, List.filter_map, show slp (a :: b :: r) s (0 + 1) = sR b r s from (slp_succ.trans slp_zero), slp_zero]
    have e1 : (List.filter ((fun i => !decide (slp (a :: b :: r) s (i + 1) = slp (a :: b :: r) s i)) ∘ Nat.succ) (List.range r.length)) = List.filter (fun i => !decide (slp (b :: r) s (i + 1) = slp (b :: r) s i)) (List.range r.length) := by
      congr 1
      funext i
      show (!decide (slp (a :: b :: r) s (i + 1 + 1) = slp (a :: b :: r) s (i + 1))) = _
      rw [slp_succ (a := a) (i := i + 1), slp_succ (a := a) (i := i)]
    rw [e1]
    have e2 : List.map (kn (b :: r)) (List.map Nat.succ (List.filter (fun i => !decide (slp (b :: r) s (i + 1) = slp (b :: r) s i)) (List.range r.length))) = go (sR b r s) r s := by
      rw [List.map_map, ← ih]; rfl
    show List.map (kn (b :: r)) (if (!decide (sR b r s = sR a (b :: r) s)) = true then _ else _) = if sR b r s = sR a (b :: r) s then go (sR a (b :: r) s) r s else b :: go (sR b r s) r s
    by_cases h : sR b r s = sR a (b :: r) s
    · rw [decide_eq_true h, if_neg (by decide), if_pos h, e2, h]
    · rw [decide_eq_false h, if_pos (by decide), if_neg h, List.map_cons, e2]; rfl
theorem bI_bR {ks : Kn} {s : Rat} : bI ks s ks.length = bR ks s := by
  cases ks with
  | nil => rfl
  | cons a r =>
    unfold bI
    rw [List.length_cons, List.range_succ_eq_map, List.filter_cons]
    have h0 : pB (a :: r) s 0 = true := rfl
    rw [if_pos h0, List.map_cons, List.filter_map, List.map_map]
    show a :: _ = a :: go (sR a r s) r s
    rw [← go_filter]
    congr 1
theorem bR_mem {ks : Kn} {s : Rat} {p : Rat × Rat} (h : p ∈ bR ks s) : p ∈ ks := by
  cases ks with
  | nil => exact h
  | cons a r =>
    rcases List.mem_cons.mp h with e | h
    · rw [e]; exact List.mem_cons_self
    · exact List.mem_cons_of_mem _ (go_mem (sl := 0) h)
theorem bI_len {ks : Kn} {s : Rat} : (bI ks s ks.length).length ≤ ks.length := by
  unfold bI
  rw [List.length_map]
  have := List.length_filter_le (pB ks s) (List.range ks.length)
  rwa [List.length_range] at this
/-- what a row of knots comes to -/
theorem bR_ln {B : Nat} {ks : Kn} {s : Rat} (h : Ln B ks s) : Ln B (bR ks s) s ∧ Nrm (bR ks s) s ∧ (bR ks s).length ≤ ks.length ∧ ∀ x, 0 ≤ x → yAt (bR ks s) s x = yAt ks s x := by
  match ks, h with
  | a :: r, h =>
    have ris := risR_iff.mp h.ris
    have ris2 : Rising (bR (a :: r) s) := risR_iff.mpr (bR_ris ris)
    have mem : ∀ i, i < (bR (a :: r) s).length → ∃ j, j < (a :: r).length ∧ kn (bR (a :: r) s) i = kn (a :: r) j := fun i hi => by
      have hm : kn (bR (a :: r) s) i ∈ bR (a :: r) s := List.mem_of_getElem? (kn_get hi)
      obtain ⟨j, hj, e⟩ := List.getElem_of_mem (bR_mem hm)
      exact ⟨j, hj, by rw [← e]; unfold kn; rw [List.getD_eq_getElem?_getD, List.getElem?_eq_getElem hj]; rfl⟩
    refine ⟨⟨⟨fun i hi => ?_, fun i hi => ?_, h.b.s⟩, by show 0 < (a :: go (sR a r s) r s).length; simp, h.fst, ris2⟩, nrmR_iff.mpr (go_nrm ris), by rw [← bI_bR]; exact bI_len, fun x hx => ?_⟩
    · obtain ⟨j, hj, e⟩ := mem i hi; rw [e]; exact h.b.x j hj
    · obtain ⟨j, hj, e⟩ := mem i hi; rw [e]; exact h.b.y j hj
    · have hx' : (kn (a :: r) 0).1 ≤ x := by rw [h.fst]; exact hx
      rw [yAt_yR h.ris h.pos hx', yAt_yR ris2 (by show 0 < (a :: go (sR a r s) r s).length; simp) (by show a.1 ≤ x; exact hx')]
      exact go_y ris
end DL

set_option Elab.async false
set_option linter.all false
set_option maxRecDepth 100000
set_option maxHeartbeats 1000000
/-! LM6: a knot put in where the line goes straight on -/
namespace DL
def insK (ks : Kn) (k : Nat) (p : Rat × Rat) : Kn := ks.take k ++ [p] ++ ks.drop k
theorem kn_in {ks : Kn} {i : Nat} (h : i < ks.length) : kn ks i ∈ ks := List.mem_of_getElem? (kn_get h)
end DL

set_option Elab.async false
set_option linter.all false
set_option maxRecDepth 100000
set_option maxHeartbeats 1000000
/-! LM7: three hundred knots -/
namespace DL
def risB : Kn → Bool
  | [] => true
  | [_] => true
  | a :: b :: r => decide (a.1 < b.1) && risB (b :: r)
def nrmB : Kn → Rat → Bool
  | [], _ => true
  | [_], _ => true
  | a :: b :: r, s => !decide (sR a (b :: r) s = sR b r s) && nrmB (b :: r) s
def mk0 (k : Nat) : Rat × Rat := (((k : Int) : Rat), (((k : Int).fmod 2 : Int) : Rat))
def many1 : Kn := (List.range 300).map mk0
def many2 : Kn := many1.set 150 (((150 : Int) : Rat), ((1 : Int) : Rat))
end DL

set_option Elab.async false
set_option linter.all false
set_option maxRecDepth 100000
set_option maxHeartbeats 1000000
/-! LM8: rising rows of rationals -/
namespace DL
abbrev Srt (l : List Rat) : Prop := l.Pairwise (· < ·)
structure IsMg (a b l : List Rat) : Prop where
  srt : Srt l
  mem : ∀ x, x ∈ l ↔ x ∈ a ∨ x ∈ b
theorem rlt_irr {a : Rat} (h : a < a) : False := by grind
/-- two rows merged so far: k of the first, at of the second -/
structure MgI (a b : List Rat) (k at' : Nat) (f : List Rat) : Prop where
  srt : Srt f
  le : at' ≤ b.length
  mem : ∀ x, x ∈ f ↔ x ∈ a.take k ∨ x ∈ b.take at'
  lo1 : ∀ e ∈ f, ∀ y ∈ a.drop k, e < y
  lo2 : ∀ e ∈ f, ∀ y ∈ b.drop at', e < y
theorem MgI.zero {a b : List Rat} : MgI a b 0 0 [] := ⟨List.Pairwise.nil, Nat.zero_le _, by simp, by simp, by simp⟩
theorem srt_snoc {f : List Rat} {x : Rat} (h : Srt f) (g : ∀ e ∈ f, e < x) : Srt (f ++ [x]) := by
  refine List.pairwise_append.mpr ⟨h, List.pairwise_singleton _ _, ?_⟩
  intro e he y hy
  have q : y = x := by simpa using hy
  rw [q]; exact g e he
theorem srt_drop {b : List Rat} {n : Nat} {y : Rat} (h : Srt b) (hn : n < b.length) (hy : y ∈ b.drop (n + 1)) : b[n] < y := by
  have e : b.drop n = b[n] :: b.drop (n + 1) := List.drop_eq_getElem_cons hn
  have s : Srt (b.drop n) := List.Pairwise.sublist (List.drop_sublist n b) h
  rw [e, Srt, List.pairwise_cons] at s
  exact s.1 y hy
theorem mem_take_succ {b : List Rat} {n : Nat} {x : Rat} (hn : n < b.length) : (x ∈ b.take (n + 1)) ↔ (x ∈ b.take n ∨ x = b[n]) := by
  have e : b.take (n + 1) = b.take n ++ [b[n]] := by
    rw [List.take_add_one, List.getElem?_eq_getElem hn, Option.toList_some]
  rw [e, List.mem_append, List.mem_singleton]
theorem mem_drop_cons {b : List Rat} {n : Nat} {x : Rat} (hn : n < b.length) : x ∈ b.drop n ↔ x = b[n] ∨ x ∈ b.drop (n + 1) := by
  rw [List.drop_eq_getElem_cons hn, List.mem_cons]
/-- one of the second row, below the next of the first -/
theorem MgI.two {a b f : List Rat} {k n : Nat} (h : MgI a b k n f) (ha : Srt a) (hb : Srt b) (hk : k < a.length) (hn : n < b.length) (lt : b[n] < a[k]) : MgI a b k (n + 1) (f ++ [b[n]]) := by
  refine ⟨srt_snoc h.srt fun e he => h.lo2 e he _ ((mem_drop_cons hn).mpr (.inl rfl)), hn, fun x => ?_, fun e he y hy => ?_, fun e he y hy => ?_⟩
  · rw [List.mem_append, h.mem, mem_take_succ hn, List.mem_singleton, or_assoc]
  · rcases List.mem_append.mp he with q | q
    · exact h.lo1 e q y hy
    · have : e = b[n] := by simpa using q
      rw [this]
      rcases (mem_drop_cons hk).mp hy with r | r
      · rw [r]; exact lt
      · have := srt_drop ha hk r; grind
  · rcases List.mem_append.mp he with q | q
    · exact h.lo2 e q y ((mem_drop_cons hn).mpr (.inr hy))
    · have : e = b[n] := by simpa using q
      rw [this]; exact srt_drop hb hn hy
/-- the next of the first -/
theorem MgI.one {a b f : List Rat} {k n : Nat} (h : MgI a b k n f) (ha : Srt a) (hb : Srt b) (hk : k < a.length) (ge : ∀ hn : n < b.length, a[k] < b[n]) : MgI a b (k + 1) n (f ++ [a[k]]) := by
  refine ⟨srt_snoc h.srt fun e he => h.lo1 e he _ ((mem_drop_cons hk).mpr (.inl rfl)), h.le, fun x => ?_, fun e he y hy => ?_, fun e he y hy => ?_⟩
  · rw [List.mem_append, h.mem, mem_take_succ hk, List.mem_singleton]
    constructor
    · rintro ((q | q) | q)
      · exact .inl (.inl q)
      · exact .inr q
      · exact .inl (.inr q)
    · rintro ((q | q) | q)
      · exact .inl (.inl q)
      · exact .inr q
      · exact .inl (.inr q)
  · rcases List.mem_append.mp he with q | q
    · exact h.lo1 e q y ((mem_drop_cons hk).mpr (.inr hy))
    · have : e = a[k] := by simpa using q
      rw [this]; exact srt_drop ha hk hy
  · rcases List.mem_append.mp he with q | q
    · exact h.lo2 e q y hy
    · have : e = a[k] := by simpa using q
      rw [this]
      have hn : n < b.length := by
        have := List.length_pos_of_mem hy
        rw [List.length_drop] at this; omega
      have g := ge hn
      rcases (mem_drop_cons hn).mp hy with r | r
      · rw [r]; exact g
      · have := srt_drop hb hn r; grind
/-- the next of both, alike -/
theorem MgI.both {a b f : List Rat} {k n : Nat} (h : MgI a b k n f) (ha : Srt a) (hb : Srt b) (hk : k < a.length) (hn : n < b.length) (e : b[n] = a[k]) : MgI a b (k + 1) (n + 1) (f ++ [a[k]]) := by
  refine ⟨srt_snoc h.srt fun e he => h.lo1 e he _ ((mem_drop_cons hk).mpr (.inl rfl)), hn, fun x => ?_, fun e' he y hy => ?_, fun e' he y hy => ?_⟩
  · rw [List.mem_append, h.mem, mem_take_succ hk, mem_take_succ hn, List.mem_singleton, e]
    constructor
    · rintro ((q | q) | q)
      · exact .inl (.inl q)
      · exact .inr (.inl q)
      · exact .inl (.inr q)
    · rintro ((q | q) | (q | q))
      · exact .inl (.inl q)
      · exact .inr q
      · exact .inl (.inr q)
      · exact .inr q
  · rcases List.mem_append.mp he with q | q
    · exact h.lo1 e' q y ((mem_drop_cons hk).mpr (.inr hy))
    · have : e' = a[k] := by simpa using q
      rw [this]; exact srt_drop ha hk hy
  · rcases List.mem_append.mp he with q | q
    · exact h.lo2 e' q y ((mem_drop_cons hn).mpr (.inr hy))
    · have : e' = a[k] := by simpa using q
      rw [this, ← e]; exact srt_drop hb hn hy
theorem MgI.fin {a b f : List Rat} {n : Nat} (h : MgI a b a.length n f) (hb : Srt b) : IsMg a b (f ++ b.drop n) := by
  refine ⟨List.pairwise_append.mpr ⟨h.srt, List.Pairwise.sublist (List.drop_sublist n b) hb, h.lo2⟩, fun x => ?_⟩
  rw [List.mem_append, h.mem, List.take_length]
  constructor
  · rintro ((q | q) | q)
    · exact .inl q
    · exact .inr (List.mem_of_mem_take q)
    · exact .inr (List.mem_of_mem_drop q)
  · rintro (q | q)
    · exact .inl (.inl q)
    · rw [← List.take_append_drop n b] at q
      rcases List.mem_append.mp q with q | q
      · exact .inl (.inr q)
      · exact .inr q
end DL

set_option Elab.async false
set_option linter.all false
set_option maxRecDepth 100000
set_option maxHeartbeats 1000000
/-! LM9: the first x at which a line is so high -/
namespace DL
theorem atK_kn {ks : Kn} (r : Rising ks) {i : Nat} (hi : i < ks.length) : AtK ks (kn ks i).1 i := ⟨hi, Rat.le_refl, fun h => r i h⟩
theorem seg_val {ks : Kn} {s : Rat} (r : Rising ks) {i : Nat} {x z : Rat} (hx : AtK ks x i) (h1 : x ≤ z) (h2 : i + 1 < ks.length → z ≤ (kn ks (i + 1)).1) : yAt ks s z = yAt ks s x + slp ks s i * (z - x) := by
  rw [yAt_of r hx]
  have e0 : yOf ks s x i = (kn ks i).2 + slp ks s i * (x - (kn ks i).1) := rfl
  have lo := hx.le
  by_cases q : i + 1 < ks.length ∧ z = (kn ks (i + 1)).1
  · obtain ⟨q1, rfl⟩ := q
    rw [yAt_of r (atK_kn r q1)]
    have e1 : yOf ks s (kn ks (i + 1)).1 (i + 1) = (kn ks (i + 1)).2 := by unfold yOf; grind
    have e2 : slp ks s i = ((kn ks (i + 1)).2 - (kn ks i).2) / ((kn ks (i + 1)).1 - (kn ks i).1) := by unfold slp; rw [if_pos q1]
    have e3 := two (a := kn ks i) (b := kn ks (i + 1)) (r i q1)
    rw [← e2] at e3
    rw [e1, e0]
    grind
  · have hz : AtK ks z i := ⟨hx.lt, by grind, fun h => by
      have := h2 h
      have ne : z ≠ (kn ks (i + 1)).1 := fun e => q ⟨h, e⟩
      grind⟩
    rw [yAt_of r hz, e0]
    show (kn ks i).2 + slp ks s i * (z - (kn ks i).1) = _
    grind
def KnX (ks : Kn) (z : Rat) : Prop := ∃ i, i < ks.length ∧ z = (kn ks i).1
def FirstP (ks : Kn) (s g b : Rat) : Option Rat → Prop
  | none => (∀ x, (x = b ∨ (KnX ks x ∧ b < x)) → yAt ks s x < g) ∧ s ≤ 0
  | some r => b ≤ r ∧ g ≤ yAt ks s r ∧ (r ≠ b → yAt ks s r = g ∧ ∀ x, (x = b ∨ KnX ks x) → b ≤ x → x < r → yAt ks s x < g)
/-- so far not so high: up to x, behind knot j -/
structure Fs (ks : Kn) (s g b x : Rat) (j : Nat) : Prop where
  ge : b ≤ x
  at' : AtK ks x j
  low : yAt ks s x < g
  all : ∀ z, (z = b ∨ KnX ks z) → b ≤ z → z ≤ x → yAt ks s z < g
end DL

set_option Elab.async false
set_option linter.all false
/-! LM11: there is but one first x -/
namespace DL
end DL

set_option Elab.async false
set_option linter.all false
set_option maxRecDepth 100000
set_option maxHeartbeats 1000000
/-! LM12: bands: what they take and what they leave -/
namespace DL
/-- what is taken at the begin of each band -/
def tkn (bs : Kn) : Nat → Rat
  | 0 => 0
  | i + 1 => tkn bs i + (kn bs i).2 * ((kn bs (i + 1)).1 - (kn bs i).1)
def tkK (bs : Kn) (n : Nat) : Kn := (List.range n).map fun i => ((kn bs i).1, tkn bs i)
def lr (bs : Kn) : Rat := (kn bs (bs.length - 1)).2
theorem tkK_len {bs : Kn} {n : Nat} : (tkK bs n).length = n := by unfold tkK; rw [List.length_map, List.length_range]
theorem tkK_kn {bs : Kn} {n i : Nat} (h : i < n) : kn (tkK bs n) i = ((kn bs i).1, tkn bs i) := by
  have e := kn_get (ks := tkK bs n) (i := i) (by rw [tkK_len]; exact h)
  unfold tkK at e
  rw [List.getElem?_map, List.getElem?_range h] at e
  exact (Option.some.inj e).symm
theorem tkK_succ {bs : Kn} {n : Nat} : tkK bs (n + 1) = tkK bs n ++ [((kn bs n).1, tkn bs n)] := by
  unfold tkK; rw [List.range_succ, List.map_append]; rfl
structure Bd (B : Nat) (bs : Kn) : Prop where
  pos : 0 < bs.length
  len : bs.length ≤ 100
  fst : (kn bs 0).1 = 0
  ris : Rising bs
  r0 : ∀ i, i < bs.length → 0 ≤ (kn bs i).2
  r1 : ∀ i, i < bs.length → (kn bs i).2 ≤ 1
  bx : ∀ i, i < bs.length → sz (kn bs i).1 ≤ B
  br : ∀ i, i < bs.length → sz (kn bs i).2 ≤ B
  by' : ∀ i, i < bs.length → sz (tkn bs i) ≤ B
theorem tkK_ris {bs : Kn} (h : Rising bs) : Rising (tkK bs bs.length) := fun i hi => by
  rw [tkK_len] at hi
  rw [tkK_kn (by omega), tkK_kn hi]
  exact h i hi
theorem tkK_slp {bs : Kn} (h : Rising bs) {i : Nat} (hi : i < bs.length) : slp (tkK bs bs.length) (lr bs) i = (kn bs i).2 := by
  unfold slp
  rw [tkK_len]
  by_cases q : i + 1 < bs.length
  · rw [if_pos q, tkK_kn q, tkK_kn hi]
    have e : tkn bs (i + 1) = tkn bs i + (kn bs i).2 * ((kn bs (i + 1)).1 - (kn bs i).1) := rfl
    have := h i q
    show (tkn bs (i + 1) - tkn bs i) / ((kn bs (i + 1)).1 - (kn bs i).1) = _
    rw [e]
    have ne : (kn bs (i + 1)).1 - (kn bs i).1 ≠ 0 := by grind
    grind
  · rw [if_neg q]
    unfold lr
    rw [show bs.length - 1 = i by omega]
theorem tkK_at {bs : Kn} {x : Rat} {i : Nat} : AtK (tkK bs bs.length) x i ↔ AtK bs x i := by
  constructor
  · intro h
    have h1 := h.lt; rw [tkK_len] at h1
    have h2 := h.le; rw [tkK_kn h1] at h2
    refine ⟨h1, h2, fun q => ?_⟩
    have h3 := h.nx (by rw [tkK_len]; exact q)
    rwa [tkK_kn q] at h3
  · intro h
    refine ⟨by rw [tkK_len]; exact h.lt, by rw [tkK_kn h.lt]; exact h.le, fun q => ?_⟩
    rw [tkK_len] at q
    rw [tkK_kn q]; exact h.nx q
/-! what the law reckons, band by band -/
def topB (bs : Kn) (x : Rat) (i : Nat) : Rat := if i + 1 < bs.length ∧ (kn bs (i + 1)).1 < x then (kn bs (i + 1)).1 else x
def taxN (bs : Kn) (x : Rat) : Nat → Rat
  | 0 => 0
  | k + 1 => if (kn bs k).1 < topB bs x k then taxN bs x k + (kn bs k).2 * (topB bs x k - (kn bs k).1) else taxN bs x k
def tax (bs : Kn) (x : Rat) : Rat := taxN bs x bs.length
theorem ris_le {ks : Kn} (h : Rising ks) {i j : Nat} (hij : i ≤ j) (hj : j < ks.length) : (kn ks i).1 ≤ (kn ks j).1 := by
  by_cases e : i = j
  · subst e; exact Rat.le_refl
  · exact Rat.le_of_lt (h.lt (by omega) hj)
theorem taxN_at {bs : Kn} {x : Rat} {j : Nat} (r : Rising bs) (h : AtK bs x j) : ∀ k, k ≤ bs.length → taxN bs x k = if k ≤ j then tkn bs k else tkn bs j + (kn bs j).2 * (x - (kn bs j).1) := by
  have hl := h.le
  have hlt := h.lt
  intro k
  induction k with
  | zero => intro _; rw [if_pos (Nat.zero_le _)]; rfl
  | succ k ih =>
    intro hk
    have ih := ih (by omega)
    show (if (kn bs k).1 < topB bs x k then taxN bs x k + (kn bs k).2 * (topB bs x k - (kn bs k).1) else taxN bs x k) = _
    rw [ih]
    by_cases c1 : k + 1 ≤ j
    · rw [if_pos (show k ≤ j by omega), if_pos c1]
      have s1 := r k (by omega)
      have s2 := ris_le r c1 h.lt
      have et : topB bs x k = (kn bs (k + 1)).1 := by
        unfold topB
        by_cases q : (kn bs (k + 1)).1 < x
        · rw [if_pos ⟨by omega, q⟩]
        · rw [if_neg (fun z => q z.2)]; grind
      rw [et, if_pos s1]; rfl
    · rw [if_neg c1]
      by_cases c2 : k = j
      · subst c2
        rw [if_pos (Nat.le_refl _)]
        have et : topB bs x k = x := by
          unfold topB
          rw [if_neg]
          intro z
          have := h.nx z.1
          have := z.2
          grind
        rw [et]
        by_cases q : (kn bs k).1 < x
        · rw [if_pos q]
        · rw [if_neg q]
          have : x - (kn bs k).1 = 0 := by grind
          rw [this, Rat.mul_zero, Rat.add_zero]
      · rw [if_neg (show ¬ k ≤ j by omega)]
        have s1 := h.nx (by omega)
        have s2 := ris_le r (show j + 1 ≤ k by omega) (show k < bs.length by omega)
        have et : topB bs x k = x := by
          unfold topB
          rw [if_neg]
          intro z
          have := r k z.1
          have := z.2
          grind
        rw [et, if_neg (by grind)]
theorem Bd.at' {B : Nat} {bs : Kn} (h : Bd B bs) {x : Rat} (hx : 0 ≤ x) : ∃ j, AtK bs x j := ⟨_, lastIx_at h.ris h.pos (by rw [h.fst]; exact hx)⟩
theorem tax_at {bs : Kn} {x : Rat} {j : Nat} (r : Rising bs) (h : AtK bs x j) : tax bs x = tkn bs j + (kn bs j).2 * (x - (kn bs j).1) := by
  unfold tax
  rw [taxN_at r h _ (Nat.le_refl _), if_neg (by have := h.lt; omega)]
theorem tax_yAt {B : Nat} {bs : Kn} (h : Bd B bs) {x : Rat} (hx : 0 ≤ x) : yAt (tkK bs bs.length) (lr bs) x = tax bs x := by
  obtain ⟨j, hj⟩ := h.at' hx
  rw [tax_at h.ris hj, yAt_of (tkK_ris h.ris) (tkK_at.mpr hj)]
  unfold yOf
  rw [tkK_kn hj.lt, tkK_slp h.ris hj.lt]
theorem sz_lin {a r x b : Rat} {A R X C n : Nat} (h1 : sz a ≤ A) (h2 : sz r ≤ R) (h3 : sz x ≤ X) (h4 : sz b ≤ C) (h : A + R + X + C ≤ n) : sz (a + r * (x - b)) ≤ n := by
  have a1 := sz_add a (r * (x - b))
  have a2 := sz_mul r (x - b)
  have a3 := sz_sub x b
  omega
theorem taxN_sz {B C : Nat} {bs : Kn} (h : Bd B bs) {x : Rat} (hx : 0 ≤ x) (hs : sz x ≤ C) {k : Nat} (hk : k ≤ bs.length) : sz (taxN bs x k) ≤ 3 * B + C := by
  obtain ⟨j, hj⟩ := h.at' hx
  rw [taxN_at h.ris hj k hk]
  have := hj.lt
  split
  · have := h.by' k (by omega); omega
  · exact sz_lin (h.by' j hj.lt) (h.br j hj.lt) hs (h.bx j hj.lt) (by omega)
theorem tax_sz {B C : Nat} {bs : Kn} (h : Bd B bs) {x : Rat} (hx : 0 ≤ x) (hs : sz x ≤ C) : sz (tax bs x) ≤ 3 * B + C := taxN_sz h hx hs (Nat.le_refl _)
theorem tkn_b {B : Nat} {bs : Kn} (h : Bd B bs) : ∀ i, i < bs.length → 0 ≤ tkn bs i ∧ tkn bs i ≤ (kn bs i).1 := by
  intro i
  induction i with
  | zero => intro _; rw [h.fst]; exact ⟨Rat.le_refl, Rat.le_refl⟩
  | succ i ih =>
    intro hi
    obtain ⟨a, b⟩ := ih (by omega)
    have s := h.ris i hi
    have r0 := h.r0 i (by omega)
    have r1 := h.r1 i (by omega)
    have p1 : 0 ≤ (kn bs i).2 * ((kn bs (i + 1)).1 - (kn bs i).1) := Rat.mul_nonneg r0 (by grind)
    have p2 : 0 ≤ (1 - (kn bs i).2) * ((kn bs (i + 1)).1 - (kn bs i).1) := Rat.mul_nonneg (by grind) (by grind)
    show 0 ≤ tkn bs i + (kn bs i).2 * ((kn bs (i + 1)).1 - (kn bs i).1) ∧ tkn bs i + (kn bs i).2 * ((kn bs (i + 1)).1 - (kn bs i).1) ≤ _
    constructor
    · grind
    · grind
theorem tax_b {B : Nat} {bs : Kn} (h : Bd B bs) {x : Rat} (hx : 0 ≤ x) : 0 ≤ tax bs x ∧ tax bs x ≤ x := by
  obtain ⟨j, hj⟩ := h.at' hx
  rw [tax_at h.ris hj]
  obtain ⟨a, b⟩ := tkn_b h j hj.lt
  have s := hj.le
  have r0 := h.r0 j hj.lt
  have r1 := h.r1 j hj.lt
  have p1 : 0 ≤ (kn bs j).2 * (x - (kn bs j).1) := Rat.mul_nonneg r0 (by grind)
  have p2 : 0 ≤ (1 - (kn bs j).2) * (x - (kn bs j).1) := Rat.mul_nonneg (by grind) (by grind)
  constructor
  · grind
  · grind
theorem tax_zero {B : Nat} {bs : Kn} (h : Bd B bs) : tax bs 0 = 0 := by
  obtain ⟨a, b⟩ := tax_b h (x := 0) Rat.le_refl
  exact Rat.le_antisymm b a
/-! the lines of bands -/
theorem Bd.ln {B : Nat} {bs : Kn} (h : Bd B bs) : Ln B (tkK bs bs.length) (lr bs) := by
  have p := h.pos
  refine ⟨⟨fun i hi => ?_, fun i hi => ?_, h.br _ (by omega)⟩, by rw [tkK_len]; exact p, by rw [tkK_kn p]; exact h.fst, tkK_ris h.ris⟩
  · rw [tkK_len] at hi; rw [tkK_kn hi]; exact h.bx i hi
  · rw [tkK_len] at hi; rw [tkK_kn hi]; exact h.by' i hi
noncomputable def has (bs : Kn) (kept : Bool) (x : Rat) : Rat := if kept then x - tax bs x else tax bs x
def hsl (bs : Kn) (kept : Bool) : Rat := if kept then 1 - lr bs else lr bs
structure LnP (bs : Kn) (kept : Bool) (ks : Kn) : Prop where
  l : Ln 60 ks (hsl bs kept)
  n : Nrm ks (hsl bs kept)
  len : ks.length ≤ 200
  y : ∀ x, 0 ≤ x → yAt ks (hsl bs kept) x = has bs kept x
theorem Ln.mono {B C : Nat} {ks : Kn} {s : Rat} (h : Ln B ks s) (k : B ≤ C) : Ln C ks s :=
  ⟨⟨fun i hi => Nat.le_trans (h.b.x i hi) k, fun i hi => Nat.le_trans (h.b.y i hi) k, Nat.le_trans h.b.s k⟩, h.pos, h.fst, h.ris⟩
theorem takenP {B : Nat} {bs : Kn} (h : Bd B bs) (hB : B ≤ 28) : LnP bs false (bI (tkK bs bs.length) (lr bs) bs.length) := by
  have e : bI (tkK bs bs.length) (lr bs) bs.length = bR (tkK bs bs.length) (lr bs) := by
    have := bI_bR (ks := tkK bs bs.length) (s := lr bs)
    rwa [tkK_len] at this
  obtain ⟨a, b, c, d⟩ := bR_ln h.ln
  rw [e]
  have hl := h.len
  rw [tkK_len] at c
  exact ⟨a.mono (by omega), b, by omega, fun x hx => by
    show yAt _ (lr bs) x = _
    rw [d x hx, tax_yAt h hx]; rfl⟩
def timK (ks : Kn) (c : Rat) : Kn := ks.map fun p => (p.1, p.2 * c)
theorem timK_len {ks : Kn} {c : Rat} : (timK ks c).length = ks.length := by unfold timK; rw [List.length_map]
theorem timK_kn {ks : Kn} {c : Rat} {i : Nat} (h : i < ks.length) : kn (timK ks c) i = ((kn ks i).1, (kn ks i).2 * c) := by
  have e := kn_get (ks := timK ks c) (i := i) (by rw [timK_len]; exact h)
  unfold timK at e
  rw [List.getElem?_map, kn_get h] at e
  exact (Option.some.inj e).symm
theorem timK_ris {ks : Kn} {c : Rat} (h : Rising ks) : Rising (timK ks c) := fun i hi => by
  rw [timK_len] at hi
  rw [timK_kn (by omega), timK_kn hi]; exact h i hi
theorem timK_ln {B C : Nat} {ks : Kn} {s c : Rat} (h : Ln B ks s) (hc : sz c ≤ C) : Ln (B + C) (timK ks c) (s * c) := by
  refine ⟨⟨fun i hi => ?_, fun i hi => ?_, ?_⟩, by rw [timK_len]; exact h.pos, by rw [timK_kn h.pos]; exact h.fst, timK_ris h.ris⟩
  · rw [timK_len] at hi; rw [timK_kn hi]; have := h.b.x i hi; show sz (kn ks i).1 ≤ _; omega
  · rw [timK_len] at hi; rw [timK_kn hi]; have := h.b.y i hi; have := sz_mul (kn ks i).2 c; show sz ((kn ks i).2 * c) ≤ _; omega
  · have := h.b.s; have := sz_mul s c; omega
theorem timK_y {ks : Kn} {s c : Rat} (h : Rising ks) (p : 0 < ks.length) (h0 : (kn ks 0).1 = 0) {x : Rat} (hx : 0 ≤ x) : yAt (timK ks c) (s * c) x = yAt ks s x * c := by
  have hj := lastIx_at h p (by rw [h0]; exact hx)
  generalize lastIx ks x ks.length = j at hj
  have hj2 : AtK (timK ks c) x j := by
    refine ⟨by rw [timK_len]; exact hj.lt, by rw [timK_kn hj.lt]; exact hj.le, fun q => ?_⟩
    rw [timK_len] at q; rw [timK_kn q]; exact hj.nx q
  rw [yAt_of h hj, yAt_of (timK_ris h) hj2]
  unfold yOf
  rw [timK_kn hj.lt]
  have e : slp (timK ks c) (s * c) j = slp ks s j * c := by
    unfold slp
    rw [timK_len]
    by_cases q : j + 1 < ks.length
    · rw [if_pos q, if_pos q, timK_kn q, timK_kn hj.lt]
      show ((kn ks (j + 1)).2 * c - (kn ks j).2 * c) / _ = _
      have := ris_step h q
      grind
    · rw [if_neg q, if_neg q]
  rw [e]
  show (kn ks j).2 * c + _ = _
  grind
/-! the least sum with so much taken or left -/
def LeastP (bs : Kn) (kept : Bool) (g : Rat) (o : Option Rat) : Prop := ∃ ks, LnP bs kept ks ∧ FirstP ks (hsl bs kept) g 0 o
/-! bands as they are drawn -/
structure Bst (p k : Nat) (bs : Kn) (e : Rat) : Prop where
  len : bs.length = k
  e0 : k = 0 → e = 0
  fst : 0 < k → (kn bs 0).1 = 0
  ris : Rising bs
  le : ∀ i, i < k → (kn bs i).1 < e
  r : ∀ i, i < k → Dv p p (kn bs i).2 ∧ 0 ≤ (kn bs i).2 ∧ (kn bs i).2 ≤ 1
  dx : ∀ i, i < k → Dv 4 (120 * i) (kn bs i).1
  de : Dv 4 (120 * k) e
  dd : ∀ i, i + 1 < k → Dv 4 120 ((kn bs (i + 1)).1 - (kn bs i).1)
  dl : 0 < k → Dv 4 120 (e - (kn bs (k - 1)).1)
theorem Bst.zero {p : Nat} : Bst p 0 [] 0 := ⟨rfl, fun _ => rfl, fun h => absurd h (by omega), fun i h => absurd h (by simp), fun i h => absurd h (by omega), fun i h => absurd h (by omega), fun i h => absurd h (by omega), Dv.zero, fun i h => absurd h (by omega), fun h => absurd h (by omega)⟩
theorem Bst.next {p k : Nat} {bs : Kn} {e r d : Rat} (h : Bst p k bs e) (hr : Dv p p r) (r0 : 0 ≤ r) (r1 : r ≤ 1) (hd : Dv 4 120 d) (d0 : 0 < d) : Bst p (k + 1) (bs ++ [(e, r)]) (e + d) := by
  have hl := h.len
  have old : ∀ {i}, i < k → kn (bs ++ [(e, r)]) i = kn bs i := fun q => kn_append_lt (by omega)
  have new : kn (bs ++ [(e, r)]) k = (e, r) := kn_append_eq (by omega)
  refine ⟨by simp; omega, fun z => absurd z (by omega), fun _ => ?_, fun i hi => ?_, fun i hi => ?_, fun i hi => ?_, fun i hi => ?_, ?_, fun i hi => ?_, fun _ => ?_⟩
  · by_cases q : k = 0
    · subst q; rw [new]; exact h.e0 rfl
    · rw [old (by omega)]; exact h.fst (by omega)
  · simp at hi
    by_cases q : i + 1 < k
    · rw [old q, old (by omega)]; exact h.ris i (by omega)
    · have e2 : i + 1 = k := by omega
      rw [e2, new, old (by omega)]; exact h.le i (by omega)
  · by_cases q : i < k
    · rw [old q]; have := h.le i q; grind
    · have e2 : i = k := by omega
      rw [e2, new]; show e < e + d; grind
  · by_cases q : i < k
    · rw [old q]; exact h.r i q
    · have e2 : i = k := by omega
      rw [e2, new]; exact ⟨hr, r0, r1⟩
  · by_cases q : i < k
    · rw [old q]; exact h.dx i q
    · have e2 : i = k := by omega
      rw [e2, new]; exact h.de
  · exact (h.de.add hd).mono (by omega)
  · by_cases q : i + 1 < k
    · rw [old q, old (by omega)]; exact h.dd i q
    · have e2 : i + 1 = k := by omega
      rw [e2, new, old (by omega)]
      have := h.dl (by omega)
      rwa [show k - 1 = i by omega] at this
  · rw [show k + 1 - 1 = k by omega, new]
    show Dv 4 120 (e + d - e)
    have : e + d - e = d := by grind
    rw [this]; exact hd
theorem Bst.fin {p k : Nat} {bs : Kn} {e : Rat} (h : Bst p k bs e) (hp : 1 ≤ p) (hp2 : p ≤ 997) (k1 : 1 ≤ k) (hk : k ≤ 40) : Bd 26 bs := by
  have hl := h.len
  have dy : ∀ i, i < k → Dv (p * 4) (p * 120 * i) (tkn bs i) := by
    intro i
    induction i with
    | zero => intro _; exact Dv.zero
    | succ i ih =>
      intro hi
      exact ((ih (by omega)).add (((h.r i (by omega)).1).mul (h.dd i hi))).mono (by rw [Nat.mul_succ]; exact Nat.le_refl _)
  have h26 : (2 : Nat) ^ 26 = 67108864 := by decide
  refine ⟨by omega, by omega, h.fst (by omega), h.ris, fun i hi => (h.r i (by omega)).2.1, fun i hi => (h.r i (by omega)).2.2, fun i hi => ?_, fun i hi => ?_, fun i hi => ?_⟩
  · exact (h.dx i (by omega)).sz (by decide) (by omega)
  · exact ((h.r i (by omega)).1).sz (by omega) (by omega)
  · refine (dy i (by omega)).sz (by omega) ?_
    have h1 : p * 120 * i ≤ 997 * 120 * 40 := Nat.mul_le_mul (Nat.mul_le_mul_right _ hp2) (by omega)
    omega
/-- another rate for the last band -/
def reL (bs : Kn) (v : Rat) : Kn := bs.dropLast ++ [((kn bs (bs.length - 1)).1, v)]
end DL

set_option Elab.async false
set_option linter.all false
set_option maxRecDepth 100000
set_option maxHeartbeats 4000000
/-! DM1: enumerate of a tuple; how many of a list are alike -/
namespace DL
open PySem PySem.Spec PyProof.Rows L2 Sem
set_option maxHeartbeats 1000000 in
theorem meets_enum1 {v : Value} {o : Obj} {H : Heap → Prop} (B : Begins v o H) :
    PySem.Meets (Builtin.«enumerate.__new__» ⟨[.type "enumerate", v], []⟩) (fun _ R s => H s.heap ∧
      R (.ok (.ret (.ref (s.heap.push o).objs.size))) { s with heap := (s.heap.push o).push { cls := .type "enumerate", data := .fields #[.none, .bool false, .ref s.heap.objs.size, rawInt 0, .none, .none] } }) :=
  .of_wp fun prog w A R s h => by
    obtain ⟨hp, g, d, tk, os⟩ := s; obtain ⟨h1, h⟩ := h
    have hsub := sub_enumerate
    have q1 : ∀ {A' : Around} {E : Value → Shared → Prop} {Q : Value → Shared → Prop}, Q (.ref hp.objs.size) ⟨hp.push o, g, d, tk, os⟩ → wpAny (model prog w) A' (pyIter v) Q E ⟨hp, g, d, tk, os⟩ :=
      fun q => B.iter prog w _ _ ⟨hp, g, d, tk, os⟩ _ h1 q
    wp_walk using q1
    refine wpAny_stack_any fun st => wpAny_pure ?_
    split
    · rename_i c _ _ _ _ _
      cases (c == Value.type "enumerate")
      · wp_walk using q1
        exact ⟨_, rfl, h⟩
      · wp_walk using q1
        exact ⟨_, rfl, h⟩
    · wp_walk using q1
      exact ⟨_, rfl, h⟩
section
variable {prog : Program} {w : World} {A : Around} {E : Value → Shared → Prop} {s : Shared}
theorem enum_begins1 {v : Value} {o : Obj} {H : Heap → Prop} {Q : Value → Shared → Prop} (B : Begins v o H) (h1 : H s.heap)
    (h : ∀ h', IsEnum h' (s.heap.objs.size + 1) s.heap.objs.size 0 .none → h'.get? s.heap.objs.size = some o → h'.objs.size = s.heap.objs.size + 2 →
      (∀ b o, s.heap.get? b = some o → h'.get? b = some o) → Q (.ref (s.heap.objs.size + 1)) { s with heap := h' }) :
    wpAny (model prog w) A (call (.type "enumerate") [v]) Q E s := by
  refine callType_new F.called_enumerate (by decide) (F.typeCall_enumerate_1 _) (F.newCall_enumerate_1 _) (fun obj => F.args_object_init_2 obj _) F.entry_enumerate_new
    (meets_enum1 B) ⟨h1, ?_⟩
  have hz : (s.heap.push o).objs.size = s.heap.objs.size + 1 := Heap.size_push ..
  show _ ∧ _
  rw [hz]
  have he : IsEnum ((s.heap.push o).push { cls := .type "enumerate", data := .fields #[.none, .bool false, .ref s.heap.objs.size, rawInt 0, .none, .none] }) (s.heap.objs.size + 1) s.heap.objs.size 0 .none := by
    have := Heap.get?_push_size (s.heap.push o) (o := { cls := .type "enumerate", data := .fields #[.none, .bool false, .ref s.heap.objs.size, rawInt 0, .none, .none] }) rfl
    rw [hz] at this; exact this
  refine ⟨⟨_, he, rfl⟩, h _ he (Heap.get?_push_of_some _ (Heap.get?_push_size _ B.free)) (by rw [Heap.size_push, hz]) fun b o x => Heap.get?_push_of_some _ (Heap.get?_push_of_some _ x)⟩
end
/-- the tuple at a, each item in a new pair -/
def Iet (K : PySem.W.Frag) (a : Addr) : It :=
  ⟨fun i H => ∃ (xs : List V) (x : V), SqT K H a xs ∧ xs[i]? = some x, fun i H v H' => ∃ T x, v = .ref T ∧ H T = none ∧ H' = upd H T (.tup [.int (i : Nat), x]) ∧ ∀ xs, SqT K H a xs → xs[i]? = some x, fun i H => ∃ xs : List V, SqT K H a xs ∧ xs.length = i⟩
theorem turn_enumT {P : Program} {w : World} {K : PySem.W.Frag} {elts : List Expr} {kk : Nat} {tpos : Pos} (a e it : Addr) :
    Turn P w K (.Tuple elts kk tpos) (Iet K a) [e, it] e (fun i h => (∃ old, IsEnum h e it ((i : Nat) : Int) old) ∧ h.IsTupleIter it a i ∧ e ≠ it) where
  mem := by simp
  obj := fun i h st b hb => by
    obtain ⟨⟨old, he⟩, ⟨o, ho, hc, hd⟩, _⟩ := st
    have e' : b = e ∨ b = it := by simpa using hb
    rcases e' with z | z
    · rw [z]; exact ⟨_, he, fun v q => nomatch q⟩
    · rw [z]; exact ⟨o, ho, fun v q => by rw [hd] at q; cases q⟩
  keep := fun i h h' st k => let ⟨⟨old, he⟩, hi, hne⟩ := st; ⟨⟨old, k e (by simp) _ he⟩, hi.at fun o q => k it (by simp) o q, hne⟩
  item := by
    intro X hP hw hK hc i pins s σ H E I hf st hg
    subst hP hw hK
    obtain ⟨⟨old, he⟩, hit, hne⟩ := st
    obtain ⟨xs, x, hq, hx⟩ := hg
    obtain ⟨its, rv, p, hz⟩ := I.tuple hq
    obtain ⟨u, hu, ru⟩ := rv.get hx
    have p' : s.heap.IsTuple a its.toArray := p
    have hel : e < s.heap.objs.size := Heap.lt_size he
    have hil : it < s.heap.objs.size := by obtain ⟨_, q, _⟩ := hit; exact Heap.lt_size q
    have nai : a ≠ it := fun z => by
      obtain ⟨o1, e1, c1, _⟩ := hit
      obtain ⟨o2, e2, c2, _⟩ := id p'
      rw [z, e1] at e2; cases e2; rw [c1] at c2; exact absurd c2 (by decide)
    have nae : e ≠ a := fun z => by
      obtain ⟨o2, e2, c2, _⟩ := id p'
      rw [← z, he] at e2; cases e2; exact absurd (show Value.type "enumerate" = Value.type "tuple" from c2) (by decide)
    have hlt : i < its.toArray.size := by simpa using (List.getElem?_eq_some_iff.mp hu).1
    refine wpAny_pyNext_enum_itemC (Draws.tuple (A := X.A.in1) (I.ok.hd hc) it a nai its.toArray) he ⟨hit, p'⟩ hlt hne (by simp [nae, hne]) fun x' h' tk hx' ho hit' hT hsz hk => ?_
    have hx2 : x' = u := by
      have : its.toArray[i]? = some x' := hx'
      have e2 : its.toArray[i]? = some u := by simpa using hu
      rw [e2] at this; cases this; rfl
    subst hx2
    refine ⟨_, rfl, wpAny_letOwnedTupleGo_enum (s := { s with heap := h', toks := tk + 1 }) ho fun h'' he' sb => ?_⟩
    have hT2 : h''.get? s.heap.objs.size = some { cls := .type "tuple", data := .seq #[.int i tk, x'] } := (sb.2 _ (Nat.ne_of_gt hel)).trans hT
    have new : ObjOk X.prog X.w (upd H s.heap.objs.size (.tup [.int (i : Nat), x])) h'' s.heap.objs.size (.tup [.int (i : Nat), x]) :=
      ⟨by show 2 ≤ sizeLine; decide, [.int i tk, x'], .cons ⟨_, rfl⟩ (.cons ru .nil), ⟨_, hT2, rfl, _, rfl⟩⟩
    have I1 : Inv X pins σ (upd H s.heap.objs.size (.tup [.int (i : Nat), x])) { s with heap := h'', toks := tk + 1 } :=
      I.turnedNew (ch := [e, it]) (fun b ob hb q => (sb.2 b (fun z => hb (by simp [z]))).trans (hk b ob (fun z => hb (by simp [z])) (fun z => hb (by simp [z])) q)) hf (Nat.le_refl _) new
    refine ⟨.ref s.heap.objs.size, _, I1, rfl, ⟨_, x, rfl, I.hok.fresh (Nat.le_refl _), rfl, fun ys hy => by rw [I.tuple_inj hy hq]; exact hx⟩, ⟨⟨x', ?_⟩, hit'.1.at fun o q => (sb.2 it (Ne.symm hne)).trans q, hne⟩, fun b hb => ?_⟩
    · have e1 : ((i + 1 : Nat) : Int) = (i : Int) + 1 := by omega
      rw [e1]; exact he'
    · have hb' : b < s.heap.objs.size := by
        have e' : b = e ∨ b = it := by simpa using hb
        rcases e' with z | z
        · rw [z]; exact hel
        · rw [z]; exact hil
      rw [upd_ne (Nat.ne_of_lt hb')]
      exact (hf b hb).1
  done := by
    intro X hP hw hK hc i pins s σ H E I hf st hg
    subst hP hw hK
    obtain ⟨⟨old, he⟩, hit, hne⟩ := st
    obtain ⟨xs, hq, hx⟩ := hg
    obtain ⟨its, rv, p, hz⟩ := I.tuple hq
    have p' : s.heap.IsTuple a its.toArray := p
    obtain ⟨f0, f1, f2, f3, f4, f5⟩ := hf it (by simp)
    have hl := rv.length
    have nai : a ≠ it := fun z => by
      obtain ⟨o1, e1, c1, _⟩ := hit
      obtain ⟨o2, e2, c2, _⟩ := id p'
      rw [z, e1] at e2; cases e2; rw [c1] at c2; exact absurd c2 (by decide)
    have hit2 : s.heap.IsTupleIter it a its.toArray.size := by
      have e : its.toArray.size = i := by simp; omega
      rw [e]; exact hit
    exact wpAny_pyNext_enum_endD (Draws.tuple (A := X.A.in1) (I.ok.hd hc) it a nai its.toArray) he ⟨hit2, p'⟩ fun h' eb => ⟨rfl, I.turned (t' := s.toks) (fun b o hb q => eb b o hb q) f0 f1 f3 f4 f5⟩
  self := fun A i s Q E st h => let ⟨⟨_, he⟩, _⟩ := st; wpAny_pyIter_enum he h
def iEnumT (K : PySem.W.Frag) (ta : TA) : TI := fun σ H R => ta σ H fun vs H1 => ∃ a xs, vs = [.ref a] ∧ SqT K H1 a xs ∧ R (Iet K a) H1
theorem pi_enumT {X : Cx} {e : Expr} {ta : TA} {p pos tpos : Pos} {elts : List Expr} {kk : Nat} (hg : Gl X "enumerate") (hm : X.mg "enumerate" = none) (ha : PA X [e] ta) (hs : starEach [e] X.env = [(false, eval e X.env)] := by rfl) :
    PI X (.Tuple elts kk tpos) (.Call (.Name "enumerate" p) [e] [] pos) (iEnumT X.K ta) := by
  refine ⟨fun pins s σ H R I h => ?_⟩
  refine Call_ (ld_blt I hg hm boot_enumerate (PyProof.Rows.callWith_type1 (thn (ha.run pos pins s σ H _ I h) fun us s1 ⟨vs, H1, I1, r1, q1⟩ => ?_) hs rfl))
  obtain ⟨a, xs, ex, hq, q⟩ := q1
  subst ex
  cases r1 with
  | cons r rr =>
    cases rr
    cases r
    obtain ⟨its, rv, p', hz⟩ := I1.tuple hq
    refine enum_begins1 (begins_tuple a its.toArray) (show s1.heap.IsTuple a its.toArray from p') fun h' he hit hsz hk => wpAny_pyIter_enum he ?_
    have I2 : Inv X pins σ H1 { s1 with heap := h' } := I1.kept (t' := s1.toks) hk
    refine ⟨s1.heap.objs.size + 1, [s1.heap.objs.size + 1, s1.heap.objs.size], _, _, H1, rfl, I2, turn_enumT a (s1.heap.objs.size + 1) s1.heap.objs.size, ⟨⟨.none, he⟩, ⟨_, hit, rfl, rfl⟩, Nat.succ_ne_self _⟩, fun b hb => ?_, q⟩
    have e' : b = s1.heap.objs.size + 1 ∨ b = s1.heap.objs.size := by simpa using hb
    have hle : s1.heap.objs.size ≤ b := by
      rcases e' with z | z
      · rw [z]; exact Nat.le_add_right _ _
      · rw [z]; exact Nat.le_refl _
    exact I1.fpOk hle (I1.hok.fresh hle)
/-! ### how many are alike -/
def rCntF (K : PySem.W.Frag) : V → List V → Hp → VK → Prop := fun x xs H Q => ∃ (a : Addr) (ys : List V) (y : V), x = .ref a ∧ xs = [y] ∧ SqL K H a ys ∧ flatV y = true ∧ ys.all flatV = true ∧ Q (.int (ys.countP fun z => eqV z y : Nat)) H
theorem mt_countF {X : Cx} : MtR X "list.count" (rCntF X.K) := by
  intro pins s σ H x xs v us Q I rx rxs h
  obtain ⟨a, ys, y, rfl, rfl, hs, fy, fys, q⟩ := h
  cases rx
  cases rxs with
  | cons ry rt =>
    rename_i uy ut
    cases rt
    obtain ⟨its, rv, ⟨⟨cls, dd, data, sl⟩, n, ho, hc, hdn, hd⟩, hlen⟩ := I.list hs
    simp only at hc hd
    subst hc hd
    refine call_meets PySem.F.slot_list_count ⟨_, ho, rfl⟩ PySem.F.entry_list_count (PySem.F.args_list_count_2 _ _)
      (SeqAt.list_countAt a its.toArray n dd sl uy (eqU y)) ⟨ho, fun u' hu' => mem_eqAt ry fy rv fys u' (by simpa using hu'), ?_⟩
    have ec : ∀ {ys : List V} {its : List Value}, Vals ys its → ys.all flatV = true → its.countP (eqU y) = ys.countP fun z => eqV z y := by
      intro ys its rv f
      induction rv with
      | nil => rfl
      | cons r1 r2 ih =>
        simp only [List.all_cons, Bool.and_eq_true] at f
        rw [List.countP_cons, List.countP_cons, ih f.2, eqU_of r1 f.1]
    refine ⟨.int (ys.countP fun z => eqV z y : Nat), H, I.tok _, ⟨s.toks, ?_⟩, q⟩
    show Value.int ((its.toArray.toList.countP (eqU y) : Nat) : Int) s.toks = _
    rw [List.toList_toArray, ec rv fys]
/-! ### over data -/
section
variable {K : PySem.W.Frag} {S : Stt} {ρ : Rho} {Φ : PyData → Rho → Prop} {Ψ : PyData → Prop}
theorem src_enumT {a : Addr} {ds : List PyData} : Src K (Iet K a) [.dat (.ref a) (.tuple ds)] (ds.mapIdx fun k d => PyData.tuple [.int k, d]) := fun S H0 N0 Z N σ H ρ E => by
  obtain ⟨p, xs, e, _, hr, ha⟩ := Dq.tup_inv (E.hid _ List.mem_cons_self)
  cases e
  refine ⟨fun k d hd => ?_, xs, hr, by rw [ha.len]; simp⟩
  rw [List.getElem?_mapIdx] at hd
  obtain ⟨d0, hd0, rfl⟩ := Option.map_eq_some_iff.mp hd
  obtain ⟨y, hy, hyd⟩ := ha.get hd0
  refine ⟨⟨xs, y, hr, hy⟩, fun v H' ⟨T, x, e1, e2, e3, e4⟩ => ?_⟩
  subst e1; subst e3
  have ex : x = y := Option.some.inj ((e4 xs hr).symm.trans hy)
  subst ex
  have s := same_new e2 (.tup [.int (k : Nat), x])
  exact ⟨s, Dq.tup (fresh_av E.trk e2) upd_same (DqAll.cons (Dt.int _) (DqAll.cons (hyd.keep (Keep.of s)) DqAll.nil))⟩
theorem wi_enumT {ta : TA} {Θ : List PyData → Rho → Prop} (h : WA K S ta ρ fun xs ρ1 => ∃ ds, xs = [.tuple ds] ∧ Θ (ds.mapIdx fun k d => PyData.tuple [.int k, d]) ρ1) : WI K S (iEnumT K ta) ρ Θ := fun H0 N0 Z N σ H E R q =>
  h H0 N0 Z N σ H E _ fun vs xs ρ1 H1 ⟨ds, e, f⟩ E1 k1 d1 => by
    subst e
    cases d1 with
    | cons d1 d2 =>
      cases d2
      obtain ⟨p, xs, rfl, hw, hr, ha⟩ := Dq.tup_inv d1
      exact ⟨p, xs, rfl, hr, q _ _ _ ρ1 H1 f src_enumT no_own1 (E1.push d1) k1⟩
end
end DL

set_option Elab.async false
set_option linter.all false
set_option maxRecDepth 100000
set_option maxHeartbeats 4000000
/-! DLQ: rows, lists or tuples -/
namespace DL
open PySem PySem.Spec PyProof.Rows L2
abbrev tTru (K : PySem.W.Frag) (t : TE) : TT := fun σ H Q => t σ H fun x H1 => ∃ k, TruV K x H1 k ∧ Q k H1
def iRow (K : PySem.W.Frag) (t : TE) : TI := fun σ H R => iList K t σ H R ∨ iTup K t σ H R
def rIxR (K : PySem.W.Frag) : R2 := fun x y H Q => rIxL K x y H Q ∨ rIxT K x y H Q
theorem ix_row {X : Cx} : IxR X (rIxR X.K) := fun value slice pins s σ H x y v u Q I rx ry q e => q.elim (fun q => ix_list value slice pins s σ H x y v u Q I rx ry q e) fun q => ix_tup value slice pins s σ H x y v u Q I rx ry q e
section
variable {K : PySem.W.Frag} {S : Stt} {ρ : Rho} {Φ : Bool → Rho → Prop} {Ψ : PyData → Prop}
theorem do_ixRL {ds : List PyData} {i : Int} {d : PyData} (e : atI ds i = some d) (h : Ψ d) : DO K (rIxR K) (.list ds) (.int i) Ψ := fun N H hN u w hu hw Q q => .inl (do_ixL e h N H hN u w hu hw Q q)
theorem do_ixRT {ds : List PyData} {i : Int} {d : PyData} (e : atI ds i = some d) (h : Ψ d) : DO K (rIxR K) (.tuple ds) (.int i) Ψ := fun N H hN u w hu hw Q q => .inr (do_ixT e h N H hN u w hu hw Q q)
/-- list(row), tuple(row) -/
abbrev rListOf (K : PySem.W.Frag) : List V → Hp → VK → Prop := fun xs H Q => ∃ p ys, xs = [.ref p] ∧ (SqL K H p ys ∨ SqT K H p ys) ∧ ∀ l, H l = none → Q (.ref l) (upd H l (.lst ys))
abbrev rTupOf (K : PySem.W.Frag) : List V → Hp → VK → Prop := fun xs H Q => ∃ p ys, xs = [.ref p] ∧ ((SqL K H p ys ∧ ∀ l, H l = none → Q (.ref l) (upd H l (.tup ys))) ∨ (SqT K H p ys ∧ Q (.ref p) H))
end
end DL

set_option Elab.async false
set_option linter.all false
set_option maxRecDepth 100000
set_option maxHeartbeats 4000000
/-! DLO: a list of one's own, read and popped; sums of parts -/
namespace DL
open PySem PySem.Spec PyProof.Rows L2
section
variable {K : PySem.W.Frag} {S : Stt} {ρ : Rho} {Φ : PyData → Rho → Prop} {Ψ : PyData → Prop}
theorem wd_ix_own {i : Nat} {te : TE} {es : List PyData} (h0 : ρ[i]? = some (.own es)) (h : WD K S te ρ fun y ρ1 => ∃ ds z e, y = .int z ∧ ρ1[i]? = some (.own ds) ∧ atI ds z = some e ∧ Φ e ρ1) : WD K S (tOp (rIxL K) (tVar i) te) ρ Φ := fun H0 N0 Z N σ H E Q q => by
  obtain ⟨p, xs, g1, _⟩ := E.slot i _ h0
  refine ⟨_, g1, h H0 N0 Z N σ H E _ fun w y ρ1 H1 ⟨ds, z, e, ey, f1, f2, f3⟩ E1 k1 d1 => ?_⟩
  subst ey
  obtain ⟨p', xs', e1, e2, e3, e4, e5, e6, e7⟩ := E1.slot i _ f1
  rw [g1] at e1; cases e1
  cases d1
  obtain ⟨v, a1, a2⟩ := at_dq e7 f2
  exact ⟨p, xs', z, v, rfl, rfl, .inl (.inl e6), a1, q v e ρ1 H1 f3 E1 k1 a2⟩
end
end DL

set_option Elab.async false
set_option linter.all false
set_option maxRecDepth 100000
set_option maxHeartbeats 4000000
/-! DM2: a pot of draws, made anew at each turn -/
namespace DL
open PySem PySem.Spec PyProof.Rows L2
structure PotL (ns : List Int) (B : Nat) : Prop where
  ex : ∃ a b c : Int, ns = [a, b, c] ∧ 0 ≤ a ∧ 0 ≤ b ∧ b < 2 ^ 62 ∧ 0 ≤ c ∧ c ≤ B
def mkP (a : Addr) : Stt where
  a := a
  fp b := decide (b = a)
  ok H B := ∃ ns, PotL ns B ∧ H a = some (.lst (ns.map V.int))
  loc H H' B h k := by
    obtain ⟨ns, h1, h2⟩ := k
    exact ⟨ns, h1, (h a (by simp)).trans h2⟩
  trk H B k b hb := by
    obtain ⟨ns, h1, h2⟩ := k
    have e : b = a := of_decide_eq_true hb
    rw [e, h2]; simp
def FPot (S : Stt) : Prop := ∃ a, S = mkP a
/-- a new list of whole numbers -/
def spN (K : PySem.W.Frag) (T : List PyData → (List Int → Prop) → Prop) : Sp := fun vs H Q _ => ∃ (N : Av) (ds : List PyData) (Φ : List Int → Prop),
  (∀ b, N b = true → H b ≠ none) ∧ DqAll K N H vs ds ∧ T ds Φ ∧ ∀ ns, Φ ns → ∀ p H', H p = none → Same H H' → H' p = some (.lst (ns.map V.int)) → Q (.ref p) H'
section
variable {K : PySem.W.Frag} {S : Stt} {ρ : Rho} {Φ : PyData → Rho → Prop} {Ψ : PyData → Prop}
theorem ws_callN1 {T : List PyData → (List Int → Prop) → Prop} {E : XK} {ta : TA} {i : Nat} {En : DE} (h : WA K S ta ρ fun xs ρ1 => T xs fun ns => En.nx (ρ1.set i (.own (ns.map PyData.int)))) :
    WS K S (tAsg (tCall (spN K T) [] E ta) (gName i)) ρ En := fun H0 N0 Z N σ H D E' M =>
  h H0 N0 Z N σ H E' _ fun vs xs ρ1 H1 f E1 k1 d1 => by
    refine ⟨N, xs, _, E1.trk, by rw [List.append_nil]; exact d1, f, fun ns hns p H' hp sm hp' => ?_⟩
    obtain ⟨z1, z2⟩ := free0 E1 hp
    have s1 : Same H1 (fun b => if b = p then none else H' b) := fun b o hb => by
      have : b ≠ p := fun z => by rw [z, hp] at hb; cases hb
      show (if b = p then none else H' b) = some o
      rw [if_neg this]; exact sm b o hb
    have e : upd (fun b => if b = p then none else H' b) p (.lst (ns.map V.int)) = H' := by
      funext b
      by_cases z : b = p
      · subst z; rw [upd_same, hp']
      · rw [upd_ne z, if_neg z]
    have E2 := (E1.ext s1).new (i := i) (p := p) (xs := ns.map V.int) (ds := ns.map PyData.int) (if_pos rfl) z1 z2 DqAll.ints
    rw [e] at E2
    exact M.nx _ _ _ _ hns E2
/-- a call on a pot of one's own -/
theorem wd_callO {T : Nat → List PyData → (PyData → Nat → Prop) → Prop} {E : XK} {ta : TA} {i : Nat} {es : List PyData} (hi : ρ[i]? = some (.own es))
    (h : WA K S ta ρ fun xs ρ1 => ∃ ns B, ρ1[i]? = some (.own (ns.map PyData.int)) ∧ PotL ns B ∧ T B xs fun d B' => ∀ ns', PotL ns' B' → Φ d (ρ1.set i (.own (ns'.map PyData.int)))) :
    WD K S (tCall (spS K FPot T) [] E (tCons (tVar i) ta)) ρ Φ := fun H0 N0 Z N σ H E' Q q => by
  obtain ⟨p, _, hs, _⟩ := E'.slot i _ hi
  refine ⟨_, hs, h H0 N0 Z N σ H E' _ fun vs xs ρ1 H1 ⟨ns, B, e, pl, f⟩ E1 k1 d1 => ?_⟩
  obtain ⟨p', xs', g1, g2, g3, g4, g5, g6, g7⟩ := E1.slot i _ e
  rw [hs] at g1; cases g1
  obtain rfl := g7.of_ints
  have hle : Le (mkP p).fp N := fun b hb => by
    have : b = p := of_decide_eq_true hb
    rw [this]; exact g2
  refine ⟨mkP p, N, vs, xs, B, _, by simp; rfl, ⟨p, rfl⟩, ⟨ns, pl, g6⟩, hle, E1.trk, d1, f, fun d B' fd v H2 fr ok2 dv => ?_⟩
  obtain ⟨ns', pl', hp'⟩ := ok2
  have s2 : Same (upd H1 p (.lst (ns'.map V.int))) H2 := fun b o hb => by
    by_cases z : b = p
    · subst z; rw [upd_same] at hb; cases hb; exact hp'
    · rw [upd_ne z] at hb; exact fr b o (decide_eq_false z) hb
  have E2 := (E1.chg (xs := ns.map V.int) (ys := ns'.map V.int) (es := ns'.map PyData.int) e hs DqAll.ints).ext s2
  refine q v d _ H2 (fd ns' pl') E2 (k1.trans fun b o n hb => ?_) dv
  exact fr b o (decide_eq_false fun z => by rw [z, g2] at n; cases n) hb
end
/-! ### the draw -/
def TTake : Nat → List PyData → (PyData → Nat → Prop) → Prop := fun B ds Φ => ∃ m : Int, ds = [.int m] ∧ 1 ≤ m ∧ m ≤ 2 ^ 40 ∧ B ≤ 2 ^ 40 ∧ ∀ d : Int, 0 ≤ d → d < m → Φ (.int d) (B + 1)
def t_take (K : PySem.W.Frag) : TS :=
  (tSeq (tIfS (tTest (tOp rGe (tOp (rIxL K) (tVar 0) (tC (.int 0))) (tVar 1))) (tSeq (tAsg (tOp rModI (tOp (rIxL K) (tVar 0) (tC (.int 0))) (tVar 1)) (gName 2))
    (tSeq (tAsg (tOp rDivI (tOp (rIxL K) (tVar 0) (tC (.int 0))) (tVar 1)) (gSub (tVar 0) (tC (.int 0)) rSetL))
    (tRet (tVar 2)))) tNext)
    (tSeq (tAsg (tOp rAddI (tOp (rIxL K) (tVar 0) (tC (.int 2))) (tC (.int 1))) (gSub (tVar 0) (tC (.int 2)) rSetL))
    (tSeq (tAsg (tLst (tCons (tC (.int 2147483647)) (tCons (tC (.int 2147483629)) (tCons (tC (.int 2147483587)) (tCons (tC (.int 2147483579)) tNil))))) (gName 3))
    (tSeq (tAsg (tOp rCatL (tVar 3) (tLst (tCons (tC (.int 2147483563)) (tCons (tC (.int 2147483549)) (tCons (tC (.int 2147483543)) (tCons (tC (.int 2147483497)) tNil)))))) (gName 3))
    (tSeq (tAsg (tOp (rIxL K) (tVar 3) (tOp rModI (tOp (rIxL K) (tVar 0) (tC (.int 2))) (tC (.int 8)))) (gName 4))
    (tSeq (tAsg (tOp rModI (tOp rPowI (tOp rAddI (tOp rModI (tOp (rIxL K) (tVar 0) (tC (.int 1))) (tVar 4)) (tOp rMulI (tC (.int 104729)) (tOp (rIxL K) (tVar 0) (tC (.int 2))))) (tC (.int 3))) (tVar 4)) (gName 5))
    (tSeq (tAsg (tOp rAddI (tOp rAddI (tOp rAddI (tOp rMulI (tVar 5) (tVar 5)) (tOp rMulI (tOp rMulI (tC (.int 31)) (tOp (rIxL K) (tVar 0) (tC (.int 2)))) (tVar 5))) (tOp rModI (tOp (rIxL K) (tVar 0) (tC (.int 1))) (tC (.int 1000003)))) (tC (.int 7))) (gName 6))
    (tSeq (tAsg (tOp rModI (tVar 6) (tOp (rIxL K) (tVar 3) (tOp rModI (tOp rAddI (tOp (rIxL K) (tVar 0) (tC (.int 2))) (tC (.int 3))) (tC (.int 8))))) (gName 6))
    (tRet (tOp rModI (tOp rDivI (tOp rModI (tOp rPowI (tVar 6) (tC (.int 3))) (tOp (rIxL K) (tVar 3) (tOp rModI (tOp rAddI (tOp (rIxL K) (tVar 0) (tC (.int 2))) (tC (.int 5))) (tC (.int 8))))) (tC (.int 64))) (tVar 1)))))))))))
theorem take_run {K : PySem.W.Frag} {vs : List V} {H : Hp} {Q : VK} {E : XK} (h : spS K FPot TTake vs H Q E) :
    t_take K { nx := fun _ H' => Q .non H', rt := Q } (L2.start ["pot", "many", "digit", "primes", "prime", "one", "two"] vs) H := by
  obtain ⟨S, N, us, ds, B, Φ, rfl, ⟨a, rfl⟩, hok, hle, ht, hd, ⟨m, rfl, m1, mM, hB, hT⟩, hQ⟩ := h
  obtain ⟨ns, pl, ha⟩ := hok
  obtain ⟨p0, p1, p2, rfl, h0, h1, h2, h3, h4⟩ := pl.ex
  cases hd with
  | cons hd1 hd2 =>
  cases hd2
  cases hd1
  have ha' : H a = some (.lst [V.int p0, .int p1, .int p2]) := ha
  have fin : ∀ (d : Int) (H' : Hp) (q0 q2 : Int), 0 ≤ d → d < m → H' a = some (.lst [V.int q0, .int p1, .int q2]) → (∀ b o, b ≠ a → H b = some o → H' b = some o) → 0 ≤ q0 → 0 ≤ q2 → q2 ≤ B + 1 → Q (.int d) H' := by
    intro d H' q0 q2 d0 d1 e fr z0 z2 z3
    refine hQ _ _ (hT d d0 d1) _ H' (fun b o hb hy => fr b o (of_decide_eq_false hb) hy) ⟨[q0, p1, q2], ⟨q0, p1, q2, rfl, z0, h1, h2, z2, by omega⟩, e⟩ (Dt.int _)
  have hm9 : m.natAbs.log2 < 9000 := by
    have := log2_small (m := m) (k := 41) (by omega) (by omega) (by decide)
    omega
  have r0 : ∀ {H' : Hp} {q0 q2 : Int} {Q' : VK}, H' a = some (.lst [V.int q0, .int p1, .int q2]) → Q' (.int q0) H' → rIxL K (.ref a) (.int 0) H' Q' := fun e q => ⟨a, _, 0, _, rfl, rfl, .inl (.inl e), rfl, q⟩
  have r1 : ∀ {H' : Hp} {q0 q2 : Int} {Q' : VK}, H' a = some (.lst [V.int q0, .int p1, .int q2]) → Q' (.int p1) H' → rIxL K (.ref a) (.int 1) H' Q' := fun e q => ⟨a, _, 1, _, rfl, rfl, .inl (.inl e), rfl, q⟩
  have r2 : ∀ {H' : Hp} {q0 q2 : Int} {Q' : VK}, H' a = some (.lst [V.int q0, .int p1, .int q2]) → Q' (.int q2) H' → rIxL K (.ref a) (.int 2) H' Q' := fun e q => ⟨a, _, 2, _, rfl, rfl, .inl (.inl e), rfl, q⟩
  show t_take K { nx := fun _ H' => Q .non H', rt := Q } [some (.ref a), some (.int m), none, none, none, none, none] H
  refine ⟨_, rfl, ?_⟩
  dsimp only [tC]
  refine r0 ha' ?_
  refine ⟨_, rfl, p0, m, rfl, rfl, _, rfl, ?_⟩
  by_cases hlt : m ≤ p0
  · show (if decide (m ≤ p0) = true then _ else _)
    rw [if_pos (decide_eq_true hlt)]
    refine ⟨_, rfl, ?_⟩
    dsimp only [tC]
    refine r0 ha' ?_
    refine ⟨_, rfl, p0, m, rfl, rfl, by omega, ?_⟩
    refine ⟨_, rfl, ?_⟩
    dsimp only [tC]
    refine r0 ha' ?_
    refine ⟨_, rfl, p0, m, rfl, rfl, ⟨by omega, hm9⟩, ?_⟩
    refine ⟨_, rfl, a, _, 0, 0, rfl, rfl, ha', rfl, ?_⟩
    obtain ⟨z1, z2⟩ := fmod_nn (i := p0) (j := m) (by omega)
    refine ⟨_, rfl, fin _ _ (p0.fdiv m) p2 z1 z2 upd_same (fun b o nb hb => by rw [upd_ne nb]; exact hb) (fdiv_nn h0 (by omega)) h3 (by omega)⟩
  · show (if decide (m ≤ p0) = true then _ else _)
    rw [if_neg (fun z => hlt (of_decide_eq_true z))]
    show tNext _ _ _
    -- pot[2] = pot[2] + 1
    refine ⟨_, rfl, ?_⟩
    dsimp only [tC]
    refine r2 ha' ?_
    refine ⟨p2, 1, rfl, rfl, ?_⟩
    refine ⟨_, rfl, a, _, 2, 2, rfl, rfl, ha', rfl, ?_⟩
    have h1a : (upd H a (.lst ([V.int p0, .int p1, .int p2].set 2 (.int (p2 + 1))))) a = some (.lst [V.int p0, .int p1, .int (p2 + 1)]) := upd_same
    have f1 : ∀ b o, b ≠ a → H b = some o → (upd H a (.lst ([V.int p0, .int p1, .int p2].set 2 (.int (p2 + 1))))) b = some o := fun b o nb hb => by rw [upd_ne nb]; exact hb
    generalize upd H a (.lst ([V.int p0, .int p1, .int p2].set 2 (.int (p2 + 1)))) = H1 at h1a f1 ⊢
    -- primes
    refine ⟨by show 4 ≤ sizeLine; decide, fun b1 hb1 => ?_⟩
    have e2 := same_new hb1 (.lst [V.int 2147483647, .int 2147483629, .int 2147483587, .int 2147483579])
    have hL1 : (upd H1 b1 (.lst [V.int 2147483647, .int 2147483629, .int 2147483587, .int 2147483579])) b1 = some (.lst [V.int 2147483647, .int 2147483629, .int 2147483587, .int 2147483579]) := upd_same
    have h2a := e2 _ _ h1a
    have f2 : ∀ b o, b ≠ a → H b = some o → (upd H1 b1 (.lst [V.int 2147483647, .int 2147483629, .int 2147483587, .int 2147483579])) b = some o := fun b o nb hb => e2 _ _ (f1 b o nb hb)
    generalize upd H1 b1 (.lst [V.int 2147483647, .int 2147483629, .int 2147483587, .int 2147483579]) = H2 at hL1 h2a f2 ⊢
    refine ⟨_, rfl, by show 4 ≤ sizeLine; decide, fun b2 hb2 => ?_⟩
    have e3 := same_new hb2 (.lst [V.int 2147483563, .int 2147483549, .int 2147483543, .int 2147483497])
    have hL2 : (upd H2 b2 (.lst [V.int 2147483563, .int 2147483549, .int 2147483543, .int 2147483497])) b2 = some (.lst [V.int 2147483563, .int 2147483549, .int 2147483543, .int 2147483497]) := upd_same
    have h3a := e3 _ _ h2a
    have hL1' := e3 _ _ hL1
    have f3 : ∀ b o, b ≠ a → H b = some o → (upd H2 b2 (.lst [V.int 2147483563, .int 2147483549, .int 2147483543, .int 2147483497])) b = some o := fun b o nb hb => e3 _ _ (f2 b o nb hb)
    generalize upd H2 b2 (.lst [V.int 2147483563, .int 2147483549, .int 2147483543, .int 2147483497]) = H3 at hL1' hL2 h3a f3 ⊢
    refine ⟨b1, b2, _, _, rfl, rfl, .inl hL1', .inl hL2, by show 8 ≤ sizeLine; decide, fun b3 hb3 => ?_⟩
    have e4 := same_new hb3 (.lst ([V.int 2147483647, .int 2147483629, .int 2147483587, .int 2147483579] ++ [V.int 2147483563, .int 2147483549, .int 2147483543, .int 2147483497]))
    have hL : (upd H3 b3 (.lst ([V.int 2147483647, .int 2147483629, .int 2147483587, .int 2147483579] ++ [V.int 2147483563, .int 2147483549, .int 2147483543, .int 2147483497]))) b3 = some (.lst [V.int 2147483647, .int 2147483629, .int 2147483587, .int 2147483579, .int 2147483563, .int 2147483549, .int 2147483543, .int 2147483497]) := upd_same
    have h4a := e4 _ _ h3a
    have f4 : ∀ b o, b ≠ a → H b = some o → (upd H3 b3 (.lst ([V.int 2147483647, .int 2147483629, .int 2147483587, .int 2147483579] ++ [V.int 2147483563, .int 2147483549, .int 2147483543, .int 2147483497]))) b = some o := fun b o nb hb => e4 _ _ (f3 b o nb hb)
    generalize upd H3 b3 (.lst ([V.int 2147483647, .int 2147483629, .int 2147483587, .int 2147483579] ++ [V.int 2147483563, .int 2147483549, .int 2147483543, .int 2147483497])) = H4 at hL h4a f4 ⊢
    have prime : ∀ (t : Int) (Q' : VK), (∀ pr : Int, 2000000000 < pr → pr < 2 ^ 31 → Q' (.int pr) H4) → rIxL K (.ref b3) (.int (t.fmod 8)) H4 Q' := fun t Q' k => by
      obtain ⟨b1, b2⟩ := fmod_nn (i := t) (j := 8) (by decide)
      have hc : t.fmod 8 = 0 ∨ t.fmod 8 = 1 ∨ t.fmod 8 = 2 ∨ t.fmod 8 = 3 ∨ t.fmod 8 = 4 ∨ t.fmod 8 = 5 ∨ t.fmod 8 = 6 ∨ t.fmod 8 = 7 := by omega
      rcases hc with e | e | e | e | e | e | e | e <;> rw [e]
      · exact ⟨b3, _, 0, _, rfl, rfl, .inl (.inl hL), rfl, k _ (by decide) (by decide)⟩
      · exact ⟨b3, _, 1, _, rfl, rfl, .inl (.inl hL), rfl, k _ (by decide) (by decide)⟩
      · exact ⟨b3, _, 2, _, rfl, rfl, .inl (.inl hL), rfl, k _ (by decide) (by decide)⟩
      · exact ⟨b3, _, 3, _, rfl, rfl, .inl (.inl hL), rfl, k _ (by decide) (by decide)⟩
      · exact ⟨b3, _, 4, _, rfl, rfl, .inl (.inl hL), rfl, k _ (by decide) (by decide)⟩
      · exact ⟨b3, _, 5, _, rfl, rfl, .inl (.inl hL), rfl, k _ (by decide) (by decide)⟩
      · exact ⟨b3, _, 6, _, rfl, rfl, .inl (.inl hL), rfl, k _ (by decide) (by decide)⟩
      · exact ⟨b3, _, 7, _, rfl, rfl, .inl (.inl hL), rfl, k _ (by decide) (by decide)⟩
    -- prime = primes[pot[2] % 8]
    refine ⟨_, rfl, _, rfl, ?_⟩
    dsimp only [tC]
    refine r2 h4a ?_
    refine ⟨p2 + 1, 8, rfl, rfl, (by show (8 : Int) ≠ 0; decide), ?_⟩
    refine prime _ _ fun pr q0 q1 => ?_
    -- one
    refine ⟨_, rfl, ?_⟩
    dsimp only [tC]
    refine r1 h4a ?_
    refine ⟨_, rfl, p1, pr, rfl, rfl, by omega, ?_⟩
    refine ⟨_, rfl, ?_⟩
    dsimp only [tC]
    refine r2 h4a ?_
    refine ⟨104729, p2 + 1, rfl, rfl, wide_mul (a := 20) (b := 64) (by decide) (by omega) (by decide) (by decide) (by decide), ?_⟩
    obtain ⟨w1, w2⟩ := fmod_nn (i := p1) (j := pr) (by omega)
    dsimp only
    generalize p1.fmod pr = u at w1 w2 ⊢
    refine ⟨u, _, rfl, rfl, _, 3, rfl, rfl, ⟨by decide, by decide, by omega⟩, _, rfl, _, pr, rfl, rfl, by omega, ?_⟩
    obtain ⟨o1, o2⟩ := fmod_nn (i := (u + 104729 * (p2 + 1)) ^ (3 : Int).toNat) (j := pr) (by omega)
    dsimp only
    generalize ((u + 104729 * (p2 + 1)) ^ (3 : Int).toNat).fmod pr = one at o1 o2 ⊢
    -- two
    refine ⟨_, rfl, _, rfl, one, one, rfl, rfl, wide_mul (a := 32) (b := 32) (by omega) (by omega) (by decide) (by decide) (by decide), ?_⟩
    refine ⟨_, rfl, ?_⟩
    dsimp only [tC]
    refine r2 h4a ?_
    refine ⟨31, p2 + 1, rfl, rfl, wide_mul (a := 20) (b := 64) (by decide) (by omega) (by decide) (by decide) (by decide), ?_⟩
    refine ⟨_, rfl, 31 * (p2 + 1), one, rfl, rfl, wide_mul (a := 64) (b := 32) (by omega) (by omega) (by decide) (by decide) (by decide), one * one, _, rfl, rfl, ?_⟩
    refine ⟨_, rfl, ?_⟩
    dsimp only [tC]
    refine r1 h4a ?_
    refine ⟨p1, 1000003, rfl, rfl, (by show (1000003 : Int) ≠ 0; decide), _, _, rfl, rfl, _, 7, rfl, rfl, ?_⟩
    dsimp only
    generalize one * one + 31 * (p2 + 1) * one + p1.fmod 1000003 + 7 = two
    -- two % ..
    refine ⟨_, rfl, _, rfl, _, rfl, ?_⟩
    dsimp only [tC]
    refine r2 h4a ?_
    refine ⟨p2 + 1, 3, rfl, rfl, p2 + 1 + 3, 8, rfl, rfl, (by show (8 : Int) ≠ 0; decide), ?_⟩
    refine prime _ _ fun pr2 q2 q3 => ?_
    refine ⟨two, pr2, rfl, rfl, by omega, ?_⟩
    obtain ⟨t1, t2⟩ := fmod_nn (i := two) (j := pr2) (by omega)
    dsimp only
    generalize two.fmod pr2 = tw at t1 t2 ⊢
    refine ⟨_, rfl, tw, 3, rfl, rfl, ⟨by decide, by decide, by omega⟩, _, rfl, _, rfl, ?_⟩
    dsimp only [tC]
    refine r2 h4a ?_
    refine ⟨p2 + 1, 5, rfl, rfl, p2 + 1 + 5, 8, rfl, rfl, (by show (8 : Int) ≠ 0; decide), ?_⟩
    refine prime _ _ fun pr3 q4 q5 => ?_
    refine ⟨_, pr3, rfl, rfl, by omega, ?_⟩
    dsimp only
    generalize (tw ^ (3 : Int).toNat).fmod pr3 = big
    refine ⟨big, 64, rfl, rfl, ⟨by decide, by decide⟩, _, rfl, _, m, rfl, rfl, by omega, ?_⟩
    obtain ⟨z1, z2⟩ := fmod_nn (i := big.fdiv 64) (j := m) (by omega)
    exact fin _ _ p0 (p2 + 1) z1 z2 h4a f4 h0 (by omega) (by omega)
end DL

set_option Elab.async false
set_option linter.all false
set_option maxRecDepth 100000
set_option maxHeartbeats 4000000
/-! LQ1: parts reckoned, as rationals -/
namespace DL
open PySem PySem.Spec PyProof.Rows L2
def qp (q : Rat) : PyData := .tuple [.int q.num, .int (q.den : Int)]
theorem nrm_eq (a b : Int) : nrm a b = nrm' a b := rfl
theorem qp_di {a b : Int} (h : b ≠ 0) : pr (nrm a b) = qp (Rat.divInt a b) := by rw [nrm_eq, nrm_di h]; rfl
def TLow : List PyData → (PyData → Prop) → Prop := fun ds Φ => ∃ a b : Int, ds = [.int a, .int b] ∧ b ≠ 0 ∧ a.natAbs < 2 ^ 8000 ∧ b.natAbs < 2 ^ 8000 ∧ Φ (qp (Rat.divInt a b))
theorem TLow.part {ds : List PyData} {Φ : PyData → Prop} (h : TLow ds Φ) : TPart ds Φ := by
  obtain ⟨a, b, e, h1, h2, h3, h4⟩ := h
  exact ⟨a, b, e, h1, h2, h3, by rw [qp_di h1]; exact h4⟩
def TQ2 (P : Rat → Rat → Prop) (f : Rat → Rat → PyData) : List PyData → (PyData → Prop) → Prop := fun ds Φ => ∃ q r : Rat, ds = [qp q, qp r] ∧ sz q ≤ 3800 ∧ sz r ≤ 3800 ∧ P q r ∧ Φ (f q r)
def TAdQ := TQ2 (fun _ _ => True) fun q r => qp (q + r)
def TSbQ := TQ2 (fun _ _ => True) fun q r => qp (q - r)
def TMlQ := TQ2 (fun _ _ => True) fun q r => qp (q * r)
def TDvQ := TQ2 (fun _ r => r ≠ 0) fun q r => qp (q / r)
def TLtQ := TQ2 (fun _ _ => True) fun q r => .bool (decide (q < r))
section
variable {q r : Rat} {Φ : PyData → Prop}
theorem tAdQ (h1 : sz q ≤ 3800) (h2 : sz r ≤ 3800) (h : Φ (qp (q + r))) : TAdQ [qp q, qp r] Φ := ⟨q, r, rfl, h1, h2, trivial, h⟩
theorem tSbQ (h1 : sz q ≤ 3800) (h2 : sz r ≤ 3800) (h : Φ (qp (q - r))) : TSbQ [qp q, qp r] Φ := ⟨q, r, rfl, h1, h2, trivial, h⟩
theorem tMlQ (h1 : sz q ≤ 3800) (h2 : sz r ≤ 3800) (h : Φ (qp (q * r))) : TMlQ [qp q, qp r] Φ := ⟨q, r, rfl, h1, h2, trivial, h⟩
theorem tDvQ (h0 : r ≠ 0) (h1 : sz q ≤ 3800) (h2 : sz r ≤ 3800) (h : Φ (qp (q / r))) : TDvQ [qp q, qp r] Φ := ⟨q, r, rfl, h1, h2, h0, h⟩
theorem tLtQ (h1 : sz q ≤ 3800) (h2 : sz r ≤ 3800) (h : Φ (.bool (decide (q < r)))) : TLtQ [qp q, qp r] Φ := ⟨q, r, rfl, h1, h2, trivial, h⟩
end
local macro_rules | `(tactic| walk_at "dl") => `(tactic| repeat' (first
  | with_reducible refine wd_isTy ?_ | with_reducible refine wd_isi ?_ | with_reducible refine wd_op ?_ | ((with_reducible show WD _ _ (tCB (rLenX _) (tCons (tVar _) tNil)) _ _); refine wd_len_scr rfl ?_) | with_reducible refine wd_cb ?_ | with_reducible refine wd_un ?_ | with_reducible refine wa_cons ?_ | with_reducible refine wa_nil ?_ | ((with_reducible show WD _ _ (tVar _) _ _); refine wd_var rfl ?_) | with_reducible refine wd_int ?_ | with_reducible refine wd_bl ?_ | with_reducible refine wd_str ?_ | with_reducible refine wd_non ?_
  | with_reducible refine do_add ?_ | with_reducible refine do_sub ?_ | ((with_reducible refine do_mod ?_ ?_); decide) | with_reducible refine do_mod ?_ ?_ | with_reducible refine do_mul ?_ ?_ | ((with_reducible refine do_div ?_ ?_); exact ⟨by decide, by decide⟩) | with_reducible refine do_div ?_ ?_ | ((with_reducible refine do_pow ?_ ?_); exact ⟨by decide, by decide, by decide⟩) | with_reducible refine do_pow ?_ ?_
  | with_reducible refine do_lt ?_ | with_reducible refine do_le ?_ | with_reducible refine do_gt ?_ | with_reducible refine do_ge ?_ | with_reducible refine du_neg ?_
  | with_reducible refine do_eqi ?_ | with_reducible refine do_nei ?_ | with_reducible refine do_eqs ?_ | with_reducible refine do_nes ?_ | with_reducible refine dc_abs ?_ | with_reducible refine dc_min ?_ | with_reducible refine dc_max ?_ | with_reducible refine dc_lenL ?_ | with_reducible refine dc_lenT ?_ | with_reducible refine dc_gcd ?_
  | ((with_reducible show DO _ (rIxT _) _ _ _); refine do_ixT rfl ?_) | ((with_reducible show DO _ (rIxL _) _ _ _); refine do_ixL rfl ?_) | ((with_reducible refine do_catL ?_ ?_); exact Nat.le_of_ble_eq_true rfl) | with_reducible refine do_catL ?_ ?_ | ((with_reducible show And (List.length _ ≤ sizeLine) _); refine ⟨Nat.le_of_ble_eq_true rfl, ?_⟩)
  | with_reducible refine wd_dnew ?_ | with_reducible refine wd_call0 ?_ | with_reducible refine tAdQ ?_ ?_ ?_ | with_reducible refine tSbQ ?_ ?_ ?_ | with_reducible refine tMlQ ?_ ?_ ?_ | with_reducible refine tDvQ ?_ ?_ ?_ ?_ | with_reducible refine tLtQ ?_ ?_ ?_ | with_reducible refine dc_str ?_ ?_ | with_reducible refine wd_tup ?_ | with_reducible refine wd_lst ?_ | with_reducible refine wt_test ?_ | with_reducible refine wt_B ?_ | with_reducible refine wt_not ?_ | with_reducible refine wt_and ?_ | with_reducible refine wt_or ?_ | with_reducible refine wd_ifE ?_ | with_reducible refine wd_andV ?_ | with_reducible refine wd_orV ?_ | with_reducible refine wd_notV ?_
  | with_reducible refine ws_seq ?_ | with_reducible refine ws_next ?_ | with_reducible refine ws_asg ?_ | with_reducible refine ws_ret ?_ | with_reducible refine ws_retN ?_ | with_reducible refine ws_if ?_ | with_reducible refine ws_par ?_ | with_reducible refine ws_unp2 ?_
  | with_reducible refine if_t ?_ | with_reducible refine if_f ?_ | with_reducible refine if_nf ?_ | with_reducible refine if_nt ?_
  | ((with_reducible show Exists _); first | refine ⟨_, kitInt _, ?_⟩ | refine ⟨_, kitBool _, ?_⟩ | refine ⟨_, kitTup _, ?_⟩ | refine ⟨_, kitList _, ?_⟩ | refine ⟨_, rfl, ?_⟩ | refine ⟨_, _, rfl, ?_⟩ | fail) | fail))
def t_lowq (K : PySem.W.Frag) : TS :=
  (tSeq (tPar 2 3 (tCons (tCB rAbsX (tCons (tVar 0) tNil)) (tCons (tCB rAbsX (tCons (tVar 1) tNil)) tNil)))
    (tSeq (tWhile (tTest (tOp rGt (tVar 3) (tC (.int 0)))) (tPar 2 3 (tCons (tVar 3) (tCons (tOp rModI (tVar 2) (tVar 3)) tNil))))
    (tSeq (tAsg (tIf (tTest (tOp rGt (tVar 1) (tC (.int 0)))) (tVar 2) (tOp rSubI (tC (.int 0)) (tVar 2))) (gName 4))
    (tRet (tTup (tCons (tOp rDivI (tVar 0) (tVar 4)) (tCons (tOp rDivI (tVar 1) (tVar 4)) tNil)))))))
def t_addq (K : PySem.W.Frag) : TS :=
  (tRet (tCall (spP K TLow) [] E0 (tCons (tOp rAddI (tOp rMulI (tOp (rIxT K) (tVar 0) (tC (.int 0))) (tOp (rIxT K) (tVar 1) (tC (.int 1)))) (tOp rMulI (tOp (rIxT K) (tVar 1) (tC (.int 0))) (tOp (rIxT K) (tVar 0) (tC (.int 1))))) (tCons (tOp rMulI (tOp (rIxT K) (tVar 0) (tC (.int 1))) (tOp (rIxT K) (tVar 1) (tC (.int 1)))) tNil))))
def t_subq (K : PySem.W.Frag) : TS :=
  (tRet (tCall (spP K TLow) [] E0 (tCons (tOp rSubI (tOp rMulI (tOp (rIxT K) (tVar 0) (tC (.int 0))) (tOp (rIxT K) (tVar 1) (tC (.int 1)))) (tOp rMulI (tOp (rIxT K) (tVar 1) (tC (.int 0))) (tOp (rIxT K) (tVar 0) (tC (.int 1))))) (tCons (tOp rMulI (tOp (rIxT K) (tVar 0) (tC (.int 1))) (tOp (rIxT K) (tVar 1) (tC (.int 1)))) tNil))))
def t_mulq (K : PySem.W.Frag) : TS :=
  (tRet (tCall (spP K TLow) [] E0 (tCons (tOp rMulI (tOp (rIxT K) (tVar 0) (tC (.int 0))) (tOp (rIxT K) (tVar 1) (tC (.int 0)))) (tCons (tOp rMulI (tOp (rIxT K) (tVar 0) (tC (.int 1))) (tOp (rIxT K) (tVar 1) (tC (.int 1)))) tNil))))
def t_divq (K : PySem.W.Frag) : TS :=
  (tRet (tCall (spP K TLow) [] E0 (tCons (tOp rMulI (tOp (rIxT K) (tVar 0) (tC (.int 0))) (tOp (rIxT K) (tVar 1) (tC (.int 1)))) (tCons (tOp rMulI (tOp (rIxT K) (tVar 0) (tC (.int 1))) (tOp (rIxT K) (tVar 1) (tC (.int 0)))) tNil))))
def t_ltq (K : PySem.W.Frag) : TS :=
  (tRet (tOp rLt (tOp rMulI (tOp (rIxT K) (tVar 0) (tC (.int 0))) (tOp (rIxT K) (tVar 1) (tC (.int 1)))) (tOp rMulI (tOp (rIxT K) (tVar 1) (tC (.int 0))) (tOp (rIxT K) (tVar 0) (tC (.int 1))))))
theorem ws_lowq {K : PySem.W.Frag} {ds : List PyData} {Φ : PyData → Prop} (h : TLow ds Φ) : WS K S0 (t_lowq K) (rhoOf 5 ds) { nx := fun _ => Φ .none, rt := fun d _ => Φ d } := by
  obtain ⟨a, b, rfl, hb, ha8, hb8, hΦ⟩ := h
  show WS K S0 (t_lowq K) [.dat (.int a), .dat (.int b), .unk, .unk, .unk] _
  unfold t_lowq
  walk_at "dl"
  refine ws_while (fun m ρ => ∃ x y : Int, ρ = [.dat (.int a), .dat (.int b), .dat (.int x), .dat (.int y), .unk] ∧ 0 ≤ x ∧ 0 ≤ y ∧ m = y.natAbs ∧ Nat.gcd x.natAbs y.natAbs = Nat.gcd a.natAbs b.natAbs) b.natAbs ⟨_, _, rfl, by omega, by omega, by omega, by simp⟩ ?_
  rintro m ρ1 ⟨x, y, rfl, hx, hy, rfl, hg⟩
  walk_at "dl"
  refine if_b (fun hpos => ?_) (fun hz => ?_)
  · walk_at "dl"
    · omega
    · obtain ⟨z1, z2⟩ := fmod_nn (i := x) (j := y) hpos
      exact ⟨(x.fmod y).natAbs, by omega, _, _, rfl, by omega, z1, rfl, (euclid_step x y hx hpos).trans hg⟩
  · have y0 : y = 0 := by omega
    subst y0
    have gx : x.natAbs = Nat.gcd a.natAbs b.natAbs := by simpa using hg
    have gp := gcd_pos (a := a) hb
    have gl := natAbs_gcd_le a b hb
    have ex : x = ((Nat.gcd a.natAbs b.natAbs : Nat) : Int) := by omega
    have x8 : x.natAbs.log2 < 9000 := by
      have := log2_of (i := x) (k := 8000) (by omega) (by decide)
      omega
    rw [← qp_di hb] at hΦ
    walk_at "dl"
    with_reducible refine if_b (fun hp => ?_) (fun hn => ?_)
    · walk_at "dl"
      · exact ⟨by omega, x8⟩
      · exact ⟨by omega, x8⟩
      · rw [nrm_pos hp, ← ex] at hΦ; exact hΦ
    · have y8 : (0 - x).natAbs.log2 < 9000 := by
        have : (0 - x).natAbs = x.natAbs := by omega
        rw [this]; exact x8
      walk_at "dl"
      · exact ⟨by omega, y8⟩
      · exact ⟨by omega, y8⟩
      · rw [nrm_neg (by omega), ← ex, ← Int.zero_sub] at hΦ; exact hΦ
theorem q39 {q : Rat} (h : sz q ≤ 3800) : q.num.natAbs < 2 ^ 3900 := Nat.lt_of_lt_of_le (num_lt h) (Nat.pow_le_pow_right (by decide) (by decide))
theorem d39 {q : Rat} (h : sz q ≤ 3800) : ((q.den : Int)).natAbs < 2 ^ 3900 := Nat.lt_of_lt_of_le (den_lt h) (Nat.pow_le_pow_right (by decide) (by decide))
theorem ws_addq {K : PySem.W.Frag} {ds : List PyData} {Φ : PyData → Prop} (h : TAdQ ds Φ) : WS K S0 (t_addq K) (rhoOf 2 ds) { nx := fun _ => Φ .none, rt := fun d _ => Φ d } := by
  obtain ⟨q, r, rfl, h1, h2, _, hΦ⟩ := h
  show WS K S0 (t_addq K) [.dat (.tuple [.int q.num, .int (q.den : Int)]), .dat (.tuple [.int r.num, .int (r.den : Int)])] _
  unfold t_addq
  walk_at "dl"
  · exact Wd4.mul (q39 h1) (d39 h2)
  · exact Wd4.mul (q39 h2) (d39 h1)
  · exact Wd4.mul (d39 h1) (d39 h2)
  · exact ⟨_, _, rfl, Int.mul_ne_zero (den0 q) (den0 r), add80 (lt78 (q39 h1) (d39 h2)) (lt78 (q39 h2) (d39 h1)), lt80 (d39 h1) (d39 h2), by rw [di_add]; exact hΦ⟩
theorem ws_subq {K : PySem.W.Frag} {ds : List PyData} {Φ : PyData → Prop} (h : TSbQ ds Φ) : WS K S0 (t_subq K) (rhoOf 2 ds) { nx := fun _ => Φ .none, rt := fun d _ => Φ d } := by
  obtain ⟨q, r, rfl, h1, h2, _, hΦ⟩ := h
  show WS K S0 (t_subq K) [.dat (.tuple [.int q.num, .int (q.den : Int)]), .dat (.tuple [.int r.num, .int (r.den : Int)])] _
  unfold t_subq
  walk_at "dl"
  · exact Wd4.mul (q39 h1) (d39 h2)
  · exact Wd4.mul (q39 h2) (d39 h1)
  · exact Wd4.mul (d39 h1) (d39 h2)
  · exact ⟨_, _, rfl, Int.mul_ne_zero (den0 q) (den0 r), sub80 (lt78 (q39 h1) (d39 h2)) (lt78 (q39 h2) (d39 h1)), lt80 (d39 h1) (d39 h2), by rw [di_sub]; exact hΦ⟩
theorem ws_mulq {K : PySem.W.Frag} {ds : List PyData} {Φ : PyData → Prop} (h : TMlQ ds Φ) : WS K S0 (t_mulq K) (rhoOf 2 ds) { nx := fun _ => Φ .none, rt := fun d _ => Φ d } := by
  obtain ⟨q, r, rfl, h1, h2, _, hΦ⟩ := h
  show WS K S0 (t_mulq K) [.dat (.tuple [.int q.num, .int (q.den : Int)]), .dat (.tuple [.int r.num, .int (r.den : Int)])] _
  unfold t_mulq
  walk_at "dl"
  · exact Wd4.mul (q39 h1) (q39 h2)
  · exact Wd4.mul (d39 h1) (d39 h2)
  · exact ⟨_, _, rfl, Int.mul_ne_zero (den0 q) (den0 r), lt80 (q39 h1) (q39 h2), lt80 (d39 h1) (d39 h2), by rw [di_mul]; exact hΦ⟩
theorem ws_divq {K : PySem.W.Frag} {ds : List PyData} {Φ : PyData → Prop} (h : TDvQ ds Φ) : WS K S0 (t_divq K) (rhoOf 2 ds) { nx := fun _ => Φ .none, rt := fun d _ => Φ d } := by
  obtain ⟨q, r, rfl, h1, h2, h0, hΦ⟩ := h
  show WS K S0 (t_divq K) [.dat (.tuple [.int q.num, .int (q.den : Int)]), .dat (.tuple [.int r.num, .int (r.den : Int)])] _
  unfold t_divq
  walk_at "dl"
  · exact Wd4.mul (q39 h1) (d39 h2)
  · exact Wd4.mul (d39 h1) (q39 h2)
  · exact ⟨_, _, rfl, Int.mul_ne_zero (den0 q) (num0 h0), lt80 (q39 h1) (d39 h2), lt80 (d39 h1) (q39 h2), by rw [di_div]; exact hΦ⟩
theorem ws_ltq {K : PySem.W.Frag} {ds : List PyData} {Φ : PyData → Prop} (h : TLtQ ds Φ) : WS K S0 (t_ltq K) (rhoOf 2 ds) { nx := fun _ => Φ .none, rt := fun d _ => Φ d } := by
  obtain ⟨q, r, rfl, h1, h2, h0, hΦ⟩ := h
  show WS K S0 (t_ltq K) [.dat (.tuple [.int q.num, .int (q.den : Int)]), .dat (.tuple [.int r.num, .int (r.den : Int)])] _
  unfold t_ltq
  walk_at "dl"
  · exact Wd4.mul (q39 h1) (d39 h2)
  · exact Wd4.mul (q39 h2) (d39 h1)
  · have e : decide (q.num * (r.den : Int) < r.num * (q.den : Int)) = decide (q < r) := decide_eq_decide.mpr (lt_q q r)
    rw [e]; exact hΦ
end DL

set_option Elab.async false
set_option linter.all false
set_option maxRecDepth 100000
set_option maxHeartbeats 4000000
/-! LQ2: slices as data; lines asked -/
namespace DL
open PySem PySem.Spec PyProof.Rows L2
def WO (K : PySem.W.Frag) (S : Stt) (to : TO) (ρ : Rho) (Θ : Option Int → Rho → Prop) : Prop :=
  ∀ H0 N0 Z N σ H, EnvD K S H0 N0 Z N σ H ρ → ∀ Q : Option Int → Hp → Prop, (∀ o ρ' H', Θ o ρ' → EnvD K S H0 N0 Z N σ H' ρ' → Keep N H H' → Q o H') → to σ H Q
def cutD (ds : List PyData) (lo hi : Option Int) : List PyData := (ds.drop (HT.sIx ds.length 0 lo)).take (HT.sIx ds.length ds.length hi - HT.sIx ds.length 0 lo)
section
variable {K : PySem.W.Frag} {S : Stt} {ρ : Rho} {Φ : PyData → Rho → Prop} {Ψ : PyData → Prop}
theorem wo_none {Θ : Option Int → Rho → Prop} (h : Θ none ρ) : WO K S tNoPart ρ Θ := fun H0 N0 Z N σ H E Q q => q none ρ H h E Keep.refl
theorem wo_part {te : TE} {Θ : Option Int → Rho → Prop} (h : WD K S te ρ fun d ρ1 => ∃ i, d = .int i ∧ Θ (some i) ρ1) : WO K S (tPart te) ρ Θ := fun H0 N0 Z N σ H E Q q =>
  h H0 N0 Z N σ H E _ fun v d ρ1 H1 ⟨i, e, f⟩ E1 k1 d1 => by
    subst e
    exact ⟨i, d1.int_inv, q (some i) ρ1 H1 f E1 k1⟩
theorem DqAll.cut {N : Av} {H : Hp} {xs : List V} {ds : List PyData} {lo hi : Option Int} (h : DqAll K N H xs ds) : DqAll K N H (cutV xs lo hi) (cutD ds lo hi) := by
  unfold cutV cutD
  rw [h.len]
  exact (h.drop _).take _
theorem wd_slA {ta : TE} {tl th : TO} (h : WD K S ta ρ fun x ρ1 => ∃ ds, x = .tuple ds ∧ WO K S tl ρ1 fun lo ρ2 => WO K S th ρ2 fun hi ρ3 => Φ (.tuple (cutD ds lo hi)) ρ3) : WD K S (tSl (rSlA K) ta tl th) ρ Φ := fun H0 N0 Z N σ H E Q q =>
  h H0 N0 Z N σ H E _ fun v x ρ1 H1 ⟨ds, e, f⟩ E1 k1 d1 => f H0 N0 Z N σ H1 E1 _ fun lo ρ2 H2 g E2 k2 => g H0 N0 Z N σ H2 E2 _ fun hi ρ3 H3 z E3 k3 => by
    subst e
    have d3 := (d1.keep k2).keep k3
    obtain ⟨p, xs, rfl, _, h1, h2⟩ := Dq.tup_inv d3
    refine ⟨p, xs, rfl, h1, fun w => ?_, fun w r hr => ?_⟩
    · have e : cutD ds lo hi = ds := by
        unfold cutD
        have hl := h2.len
        rw [← hl, w.1, w.2, List.drop_zero, Nat.sub_zero]
        exact List.take_of_length_le (by omega)
      have z' : Φ (.tuple (cutD ds lo hi)) ρ3 := z
      rw [e] at z'
      exact q _ _ ρ3 H3 z' E3 ((k1.trans k2).trans k3) d3
    · have s := same_new hr (.tup (cutV xs lo hi))
      exact q _ _ ρ3 _ z (E3.ext s) (((k1.trans k2).trans k3).trans (Keep.of s)) (Dq.tup (fresh_av E3.trk hr) upd_same ((h2.cut).keep (Keep.of s)))
theorem wd_slL {ta : TE} {tl th : TO} (h : WD K S ta ρ fun x ρ1 => ∃ ds, x = .list ds ∧ WO K S tl ρ1 fun lo ρ2 => WO K S th ρ2 fun hi ρ3 => Φ (.list (cutD ds lo hi)) ρ3) : WD K S (tSl (rSlL K) ta tl th) ρ Φ := fun H0 N0 Z N σ H E Q q =>
  h H0 N0 Z N σ H E _ fun v x ρ1 H1 ⟨ds, e, f⟩ E1 k1 d1 => f H0 N0 Z N σ H1 E1 _ fun lo ρ2 H2 g E2 k2 => g H0 N0 Z N σ H2 E2 _ fun hi ρ3 H3 z E3 k3 => by
    subst e
    have d3 := (d1.keep k2).keep k3
    obtain ⟨p, xs, rfl, _, h1, h2⟩ := Dq.lst_inv d3
    refine ⟨p, xs, rfl, .inl h1, fun r hr => ?_⟩
    have s := same_new hr (.lst (cutV xs lo hi))
    exact q _ _ ρ3 _ z (E3.ext s) (((k1.trans k2).trans k3).trans (Keep.of s)) (Dq.lst (fresh_av E3.trk hr) upd_same ((h2.cut).keep (Keep.of s)))
theorem do_ixTn {ds : List PyData} {i : Int} {k : Nat} {d : PyData} (e : i = k) (h : ds[k]? = some d) (f : Ψ d) : DO K (rIxT K) (.tuple ds) (.int i) Ψ := by
  subst e; exact do_ixT (atI_nat h) f
theorem do_ixLn {ds : List PyData} {i : Int} {k : Nat} {d : PyData} (e : i = k) (h : ds[k]? = some d) (f : Ψ d) : DO K (rIxL K) (.list ds) (.int i) Ψ := by
  subst e; exact do_ixL (atI_nat h) f
end
/-! ### lines as data -/
def kD (p : Rat × Rat) : PyData := .tuple [qp p.1, qp p.2]
abbrev knD (ks : Kn) : PyData := .tuple (ks.map kD)
def lnD (ks : Kn) (s : Rat) : PyData := .tuple [knD ks, qp s]
theorem kD_get {ks : Kn} {i : Nat} (h : i < ks.length) : (ks.map kD)[i]? = some (kD (kn ks i)) := by
  rw [List.getElem?_map, kn_get h]; rfl
structure Lq (B : Nat) (ks : Kn) (s : Rat) : Prop where
  l : Ln B ks s
  len : ks.length ≤ 100000
  B0 : 0 < B
def TSlope : List PyData → (PyData → Prop) → Prop := fun ds Φ => ∃ (ks : Kn) (s : Rat) (i B : Nat), ds = [lnD ks s, .int i] ∧ Lq B ks s ∧ 2 * B ≤ 3800 ∧ i < ks.length ∧ Φ (qp (slp ks s i))
def TSlopes : List PyData → (PyData → Prop) → Prop := fun ds Φ => ∃ (ks : Kn) (s : Rat) (B : Nat), ds = [knD ks, qp s] ∧ KsB B ks s ∧ Rising ks ∧ 0 < ks.length ∧ ks.length ≤ 100000 ∧ 2 * B ≤ 3800 ∧ Φ (.list ((List.range ks.length).map fun i => qp (slp ks s i)))
def TNoLater : List PyData → (PyData → Prop) → Prop := fun ds Φ => ∃ (ks : Kn) (x : Rat), ds = [knD ks, qp x] ∧ Rising ks ∧ 0 < ks.length ∧ ks.length ≤ 100000 ∧ (kn ks 0).1 ≤ x ∧ sz x ≤ 3800 ∧ (∀ i, i < ks.length → sz (kn ks i).1 ≤ 3800) ∧ ∀ i : Nat, AtK ks x i → Φ (.int i)
def THeight : List PyData → (PyData → Prop) → Prop := fun ds Φ => ∃ (ks : Kn) (s x : Rat) (i B C : Nat), ds = [lnD ks s, .int i, qp x] ∧ Lq B ks s ∧ i < ks.length ∧ sz x ≤ C ∧ 5 * B + C ≤ 3800 ∧ Φ (qp (yOf ks s x i))
def TYat : List PyData → (PyData → Prop) → Prop := fun ds Φ => ∃ (ks : Kn) (s x : Rat) (B C : Nat), ds = [lnD ks s, qp x] ∧ Lq B ks s ∧ 0 ≤ x ∧ sz x ≤ C ∧ 5 * B + C ≤ 3800 ∧ Φ (qp (yAt ks s x))
local macro_rules | `(tactic| walk_at "dl") => `(tactic| repeat' (first
  | with_reducible refine wd_isTy ?_ | with_reducible refine wd_isi ?_ | with_reducible refine wd_op ?_ | ((with_reducible show WD _ _ (tCB (rLenX _) (tCons (tVar _) tNil)) _ _); refine wd_len_scr rfl ?_) | with_reducible refine wd_cb ?_ | with_reducible refine wd_un ?_ | with_reducible refine wa_cons ?_ | with_reducible refine wa_nil ?_ | ((with_reducible show WD _ _ (tVar _) _ _); refine wd_var rfl ?_) | with_reducible refine wd_int ?_ | with_reducible refine wd_bl ?_ | with_reducible refine wd_str ?_ | with_reducible refine wd_non ?_
  | with_reducible refine do_add ?_ | with_reducible refine do_sub ?_ | ((with_reducible refine do_mod ?_ ?_); decide) | with_reducible refine do_mod ?_ ?_ | with_reducible refine do_mul ?_ ?_ | ((with_reducible refine do_div ?_ ?_); exact ⟨by decide, by decide⟩) | with_reducible refine do_div ?_ ?_ | ((with_reducible refine do_pow ?_ ?_); exact ⟨by decide, by decide, by decide⟩) | with_reducible refine do_pow ?_ ?_
  | with_reducible refine do_lt ?_ | with_reducible refine do_le ?_ | with_reducible refine do_gt ?_ | with_reducible refine do_ge ?_ | with_reducible refine du_neg ?_
  | with_reducible refine do_eqi ?_ | with_reducible refine do_nei ?_ | with_reducible refine do_eqs ?_ | with_reducible refine do_nes ?_ | with_reducible refine dc_abs ?_ | with_reducible refine dc_min ?_ | with_reducible refine dc_max ?_ | with_reducible refine dc_lenL ?_ | with_reducible refine dc_lenT ?_ | with_reducible refine dc_gcd ?_
  | ((with_reducible show DO _ (rIxT _) _ _ _); refine do_ixT rfl ?_) | ((with_reducible show DO _ (rIxL _) _ _ _); refine do_ixL rfl ?_) | ((with_reducible refine do_catL ?_ ?_); exact Nat.le_of_ble_eq_true rfl) | with_reducible refine do_catL ?_ ?_ | ((with_reducible show And (List.length _ ≤ sizeLine) _); refine ⟨Nat.le_of_ble_eq_true rfl, ?_⟩)
  | with_reducible refine wd_dnew ?_ | with_reducible refine wd_call0 ?_ | with_reducible refine tAdQ (by omega) (by omega) ?_ | with_reducible refine tSbQ (by omega) (by omega) ?_ | with_reducible refine tMlQ (by omega) (by omega) ?_ | with_reducible refine tDvQ (by assumption) (by omega) (by omega) ?_ | with_reducible refine tLtQ (by omega) (by omega) ?_ | with_reducible refine dc_str ?_ ?_ | with_reducible refine wd_tup ?_ | with_reducible refine wd_lst ?_ | with_reducible refine wt_test ?_ | with_reducible refine wt_B ?_ | with_reducible refine wt_not ?_ | with_reducible refine wt_and ?_ | with_reducible refine wt_or ?_ | with_reducible refine wd_ifE ?_ | with_reducible refine wd_andV ?_ | with_reducible refine wd_orV ?_ | with_reducible refine wd_notV ?_
  | with_reducible refine ws_seq ?_ | with_reducible refine ws_next ?_ | with_reducible refine ws_asg ?_ | with_reducible refine ws_ret ?_ | with_reducible refine ws_retN ?_ | with_reducible refine ws_if ?_ | with_reducible refine ws_par ?_ | with_reducible refine ws_unp2 ?_
  | with_reducible refine if_t ?_ | with_reducible refine if_f ?_ | with_reducible refine if_nf ?_ | with_reducible refine if_nt ?_
  | ((with_reducible show Exists _); first | refine ⟨_, kitInt _, ?_⟩ | refine ⟨_, kitBool _, ?_⟩ | refine ⟨_, kitTup _, ?_⟩ | refine ⟨_, kitList _, ?_⟩ | refine ⟨_, rfl, ?_⟩ | refine ⟨_, _, rfl, ?_⟩ | fail) | fail))
def t_slope (K : PySem.W.Frag) : TS :=
  (tSeq (tAsg (tVar 0) (gTup K 2 (gCons (gName 2) (gCons (gName 3) gNil))))
    (tSeq (tIfS (tTest (tOp rEq (tOp rAddI (tVar 1) (tC (.int 1))) (tCB (rLenX K) (tCons (tVar 2) tNil)))) (tRet (tVar 3)) tNext)
    (tSeq (tAsg (tCall (spP K TSbQ) [] E0 (tCons (tOp (rIxT K) (tOp (rIxT K) (tVar 2) (tOp rAddI (tVar 1) (tC (.int 1)))) (tC (.int 1))) (tCons (tOp (rIxT K) (tOp (rIxT K) (tVar 2) (tVar 1)) (tC (.int 1))) tNil))) (gName 4))
    (tRet (tCall (spP K TDvQ) [] E0 (tCons (tVar 4) (tCons (tCall (spP K TSbQ) [] E0 (tCons (tOp (rIxT K) (tOp (rIxT K) (tVar 2) (tOp rAddI (tVar 1) (tC (.int 1)))) (tC (.int 0))) (tCons (tOp (rIxT K) (tOp (rIxT K) (tVar 2) (tVar 1)) (tC (.int 0))) tNil))) tNil)))))))
def t_slopes (K : PySem.W.Frag) : TS :=
  (tSeq (tAsg (tLst tNil) (gName 2))
    (tSeq (tFor (iRng1 (tCons (tOp rSubI (tCB (rLenX K) (tCons (tVar 0) tNil)) (tC (.int 1))) tNil)) (gName 3) (tSeq (tAsg (tOp (rIxT K) (tVar 0) (tVar 3)) (gTup K 2 (gCons (gName 4) (gCons (gName 5) gNil))))
    (tSeq (tAsg (tOp (rIxT K) (tVar 0) (tOp rAddI (tVar 3) (tC (.int 1)))) (gTup K 2 (gCons (gName 6) (gCons (gName 7) gNil))))
    (tDrop (tBM K "list" rAppend (tVar 2) (tCons (tCall (spP K TDvQ) [] E0 (tCons (tCall (spP K TSbQ) [] E0 (tCons (tVar 7) (tCons (tVar 5) tNil))) (tCons (tCall (spP K TSbQ) [] E0 (tCons (tVar 6) (tCons (tVar 4) tNil))) tNil))) tNil))))))
    (tRet (tOp rCatL (tVar 2) (tLst (tCons (tVar 1) tNil))))))
def t_nolater (K : PySem.W.Frag) : TS :=
  (tSeq (tPar 2 3 (tCons (tC (.int 0)) (tCons (tCB (rLenX K) (tCons (tVar 0) tNil)) tNil)))
    (tSeq (tWhile (tTest (tOp rGt (tOp rSubI (tVar 3) (tVar 2)) (tC (.int 1)))) (tSeq (tAsg (tOp rDivI (tOp rAddI (tVar 2) (tVar 3)) (tC (.int 2))) (gName 4))
    (tIfS (tB (tCall (spP K TLtQ) [] E0 (tCons (tVar 1) (tCons (tOp (rIxT K) (tOp (rIxT K) (tVar 0) (tVar 4)) (tC (.int 0))) tNil)))) (tAsg (tVar 4) (gName 3)) (tAsg (tVar 4) (gName 2)))))
    (tRet (tVar 2))))
section
variable {K : PySem.W.Frag} {ds : List PyData} {Φ : PyData → Prop}
theorem ws_nolater (h : TNoLater ds Φ) : WS K S0 (t_nolater K) (rhoOf 5 ds) { nx := fun _ => Φ .none, rt := fun d _ => Φ d } := by
  obtain ⟨ks, x, rfl, ris, hp, hl, h0, hx, hb, hΦ⟩ := h
  show WS K S0 (t_nolater K) [.dat (knD ks), .dat (qp x), .unk, .unk, .unk] _
  unfold t_nolater
  walk_at "dl"
  rw [List.length_map]
  refine ws_while (fun m ρ => ∃ (lo hi : Nat) (s4 : Sl), ρ = [.dat (knD ks), .dat (qp x), .dat (.int lo), .dat (.int hi), s4] ∧ lo < hi ∧ hi ≤ ks.length ∧ m = hi - lo ∧ (kn ks lo).1 ≤ x ∧ (hi < ks.length → x < (kn ks hi).1)) ks.length ⟨0, ks.length, _, rfl, hp, Nat.le_refl _, rfl, h0, fun h => absurd h (by omega)⟩ ?_
  rintro m ρ1 ⟨lo, hi, s4, rfl, hlh, hhl, rfl, hlo, hhi⟩
  walk_at "dl"
  refine if_b (fun hgt => ?_) (fun hle => ?_)
  · have em : ((lo : Int) + hi).fdiv 2 = (((lo + hi) / 2 : Nat) : Int) := by
      rw [Int.fdiv_eq_ediv_of_nonneg _ (by decide)]; omega
    walk_at "dl"
    rw [em]
    have m1 : lo < (lo + hi) / 2 := by omega
    have m2 : (lo + hi) / 2 < hi := by omega
    generalize (lo + hi) / 2 = mid at m1 m2 ⊢
    walk_at "dl"
    refine do_ixTn rfl (kD_get (by omega)) ?_
    have hbm := hb mid (by omega)
    walk_at "dl"
    · refine if_b (fun hlt => ?_) (fun hge => ?_)
      · walk_at "dl"
        exact ⟨mid - lo, by omega, lo, mid, _, rfl, by omega, by omega, rfl, hlo, fun _ => hlt⟩
      · walk_at "dl"
        exact ⟨hi - mid, by omega, mid, hi, _, rfl, by omega, by omega, rfl, by grind, hhi⟩
  · walk_at "dl"
    exact hΦ lo ⟨by omega, hlo, fun h => by have e : lo + 1 = hi := by omega
                                            rw [e]; exact hhi (by omega)⟩
end
end DL

set_option Elab.async false
set_option linter.all false
set_option maxRecDepth 100000
set_option maxHeartbeats 4000000
/-! LQ3: heights of lines -/
namespace DL
open PySem PySem.Spec PyProof.Rows L2
section
variable {K : PySem.W.Frag} {Ψ : PyData → Prop}
theorem eqv_qp (q r : Rat) : PyData.eqv (qp q) (qp r) = decide (q = r) := by
  have e : PyData.eqv (qp q) (qp r) = (decide (q.num = r.num) && decide ((q.den : Int) = (r.den : Int))) := eqv_pr2 q.num q.den r.num r.den
  rw [e]
  by_cases h : q = r
  · subst h; simp
  · rw [decide_eq_false h]
    by_cases h1 : q.num = r.num
    · have h2 : ¬ ((q.den : Int) = (r.den : Int)) := fun z => h (Rat.ext h1 (by omega))
      simp [h1, h2]
    · simp [h1]
theorem sh_qp (q : Rat) : SeqAt.shaped (qp q) = true := sh_pr2 (q.num, (q.den : Int))
theorem do_eqQ {q r : Rat} (h : Ψ (.bool (decide (q = r)))) : DO K (rEqD K) (qp q) (qp r) Ψ := do_eqD (sh_qp q) (sh_qp r) (by rw [eqv_qp]; exact h)
theorem do_neQ {q r : Rat} (h : Ψ (.bool (!decide (q = r)))) : DO K (rNeD K) (qp q) (qp r) Ψ := do_neD (sh_qp q) (sh_qp r) (by rw [eqv_qp]; exact h)
end
local macro_rules | `(tactic| walk_at "dl") => `(tactic| repeat' (first
  | with_reducible refine wd_isTy ?_ | with_reducible refine wd_isi ?_ | with_reducible refine wd_op ?_ | ((with_reducible show WD _ _ (tCB (rLenX _) (tCons (tVar _) tNil)) _ _); refine wd_len_scr rfl ?_) | with_reducible refine wd_cb ?_ | with_reducible refine wd_un ?_ | with_reducible refine wa_cons ?_ | with_reducible refine wa_nil ?_ | ((with_reducible show WD _ _ (tVar _) _ _); refine wd_var rfl ?_) | with_reducible refine wd_int ?_ | with_reducible refine wd_bl ?_ | with_reducible refine wd_str ?_ | with_reducible refine wd_non ?_
  | with_reducible refine do_add ?_ | with_reducible refine do_sub ?_ | ((with_reducible refine do_mod ?_ ?_); decide) | with_reducible refine do_mod ?_ ?_ | with_reducible refine do_mul ?_ ?_ | ((with_reducible refine do_div ?_ ?_); exact ⟨by decide, by decide⟩) | with_reducible refine do_div ?_ ?_ | ((with_reducible refine do_pow ?_ ?_); exact ⟨by decide, by decide, by decide⟩) | with_reducible refine do_pow ?_ ?_
  | with_reducible refine do_lt ?_ | with_reducible refine do_le ?_ | with_reducible refine do_gt ?_ | with_reducible refine do_ge ?_ | with_reducible refine du_neg ?_
  | with_reducible refine do_eqi ?_ | with_reducible refine do_nei ?_ | with_reducible refine do_eqs ?_ | with_reducible refine do_nes ?_ | with_reducible refine dc_abs ?_ | with_reducible refine dc_min ?_ | with_reducible refine dc_max ?_ | with_reducible refine dc_lenL ?_ | with_reducible refine dc_lenT ?_ | with_reducible refine dc_gcd ?_
  | ((with_reducible show DO _ (rIxT _) _ _ _); refine do_ixT rfl ?_) | ((with_reducible show DO _ (rIxL _) _ _ _); refine do_ixL rfl ?_) | ((with_reducible refine do_catL ?_ ?_); exact Nat.le_of_ble_eq_true rfl) | with_reducible refine do_catL ?_ ?_ | ((with_reducible show And (List.length _ ≤ sizeLine) _); refine ⟨Nat.le_of_ble_eq_true rfl, ?_⟩)
  | with_reducible refine wd_dnew ?_ | with_reducible refine wd_call0 ?_ | with_reducible refine wd_slA ?_ | with_reducible refine wo_part ?_ | with_reducible refine wo_none ?_ | with_reducible refine do_eqQ ?_ | with_reducible refine do_neQ ?_ | with_reducible refine wi_enumT ?_ | with_reducible refine tAdQ (by omega) (by omega) ?_ | with_reducible refine tSbQ (by omega) (by omega) ?_ | with_reducible refine tMlQ (by omega) (by omega) ?_ | with_reducible refine tDvQ (by assumption) (by omega) (by omega) ?_ | with_reducible refine tLtQ (by omega) (by omega) ?_ | with_reducible refine dc_str ?_ ?_ | with_reducible refine wd_tup ?_ | with_reducible refine wd_lst ?_ | with_reducible refine wt_test ?_ | with_reducible refine wt_B ?_ | with_reducible refine wt_not ?_ | with_reducible refine wt_and ?_ | with_reducible refine wt_or ?_ | with_reducible refine wd_ifE ?_ | with_reducible refine wd_andV ?_ | with_reducible refine wd_orV ?_ | with_reducible refine wd_notV ?_
  | with_reducible refine ws_seq ?_ | with_reducible refine ws_next ?_ | with_reducible refine ws_asg ?_ | with_reducible refine ws_ret ?_ | with_reducible refine ws_retN ?_ | with_reducible refine ws_if ?_ | with_reducible refine ws_par ?_ | with_reducible refine ws_unp2 ?_
  | with_reducible refine if_t ?_ | with_reducible refine if_f ?_ | with_reducible refine if_nf ?_ | with_reducible refine if_nt ?_
  | ((with_reducible show Exists _); first | refine ⟨_, kitInt _, ?_⟩ | refine ⟨_, kitBool _, ?_⟩ | refine ⟨_, kitTup _, ?_⟩ | refine ⟨_, kitList _, ?_⟩ | refine ⟨_, rfl, ?_⟩ | refine ⟨_, _, rfl, ?_⟩ | fail) | fail))
def t_lawy (K : PySem.W.Frag) : TS :=
  (tSeq (tAsg (tC (.int 0)) (gName 2))
    (tSeq (tFor (iEnumT K (tCons (tOp (rIxT K) (tVar 0) (tC (.int 0))) tNil)) (gTup K 2 (gCons (gName 3) (gCons (gName 4) gNil))) (tIfS (tNot (tB (tCall (spP K TLtQ) [] E0 (tCons (tVar 1) (tCons (tOp (rIxT K) (tVar 4) (tC (.int 0))) tNil))))) (tAsg (tVar 3) (gName 2)) tNext))
    (tSeq (tAsg (tOp (rIxT K) (tOp (rIxT K) (tVar 0) (tC (.int 0))) (tVar 2)) (gTup K 2 (gCons (gName 5) (gCons (gName 6) gNil))))
    (tRet (tCall (spP K TAdQ) [] E0 (tCons (tVar 6) (tCons (tCall (spP K TMlQ) [] E0 (tCons (tCall (spP K TSlope) [] E0 (tCons (tVar 0) (tCons (tVar 2) tNil))) (tCons (tCall (spP K TSbQ) [] E0 (tCons (tVar 1) (tCons (tVar 5) tNil))) tNil))) tNil)))))))
def t_behind (K : PySem.W.Frag) : TS :=
  (tRet (tOp (rIxL K) (tCall (spP K TSlopes) [] E0 (tCons (tSl (rSlA K) (tOp (rIxT K) (tVar 0) (tC (.int 0))) (tPart (tVar 1)) (tPart (tOp rAddI (tVar 1) (tC (.int 2))))) (tCons (tOp (rIxT K) (tVar 0) (tC (.int 1))) tNil))) (tC (.int 0))))
def t_height (K : PySem.W.Frag) : TS :=
  (tSeq (tAsg (tOp (rIxT K) (tOp (rIxT K) (tVar 0) (tC (.int 0))) (tVar 1)) (gTup K 2 (gCons (gName 3) (gCons (gName 4) gNil))))
    (tSeq (tIfS (tTest (tOp (rEqD K) (tVar 2) (tVar 3))) (tRet (tVar 4)) tNext)
    (tRet (tCall (spP K TAdQ) [] E0 (tCons (tVar 4) (tCons (tCall (spP K TMlQ) [] E0 (tCons (tCall (spP K TSlope) [] E0 (tCons (tVar 0) (tCons (tVar 1) tNil))) (tCons (tCall (spP K TSbQ) [] E0 (tCons (tVar 2) (tCons (tVar 3) tNil))) tNil))) tNil))))))
def t_yat (K : PySem.W.Frag) : TS :=
  (tSeq (tIfS (tTest (tOp rLt (tOp (rIxT K) (tVar 1) (tC (.int 0))) (tC (.int 0)))) tNo tNext)
    (tRet (tCall (spP K THeight) [] E0 (tCons (tVar 0) (tCons (tCall (spP K TNoLater) [] E0 (tCons (tOp (rIxT K) (tVar 0) (tC (.int 0))) (tCons (tVar 1) tNil))) (tCons (tVar 1) tNil))))))
section
variable {K : PySem.W.Frag} {ds : List PyData} {Φ : PyData → Prop}
def cutK (ks : Kn) (i : Nat) : Kn := (ks.drop i).take 2
theorem cutK_len {ks : Kn} {i : Nat} : (cutK ks i).length = min 2 (ks.length - i) := by unfold cutK; rw [List.length_take, List.length_drop]
theorem cutK_kn {ks : Kn} {i j : Nat} (h : j < (cutK ks i).length) : kn (cutK ks i) j = kn ks (i + j) := by
  rw [cutK_len] at h
  unfold kn cutK
  rw [List.getD_eq_getElem?_getD, List.getD_eq_getElem?_getD, List.getElem?_take, if_pos (by omega), List.getElem?_drop]
theorem cutK_slp {ks : Kn} {s : Rat} {i : Nat} (h : i < ks.length) : slp (cutK ks i) s 0 = slp ks s i := by
  have hl := cutK_len (ks := ks) (i := i)
  unfold slp
  by_cases e : i + 1 < ks.length
  · rw [if_pos e, if_pos (by omega), cutK_kn (by omega), cutK_kn (by omega)]; rfl
  · rw [if_neg e, if_neg (by omega)]
theorem cutD_K {ks : Kn} {i : Nat} (h : i < ks.length) : cutD (ks.map kD) (some (i : Int)) (some ((i : Int) + 2)) = (cutK ks i).map kD := by
  have e : (i : Int) + 2 = ((i + 2 : Nat) : Int) := by omega
  unfold cutD cutK
  rw [e, HT.sIx_nat, HT.sIx_nat, List.length_map, ← List.map_drop, ← List.map_take]
  congr 1
  have e1 : min i ks.length = i := Nat.min_eq_left (by omega)
  rw [e1]
  by_cases q : i + 2 ≤ ks.length
  · rw [Nat.min_eq_left q]; congr 1; omega
  · rw [Nat.min_eq_right (by omega), List.take_of_length_le (by rw [List.length_drop]; omega), List.take_of_length_le (by rw [List.length_drop]; omega)]
theorem ws_behind (h : TSlope ds Φ) : WS K S0 (t_behind K) (rhoOf 2 ds) { nx := fun _ => Φ .none, rt := fun d _ => Φ d } := by
  obtain ⟨ks, s, i, B, rfl, L, hB, hi, hΦ⟩ := h
  show WS K S0 (t_behind K) [.dat (.tuple [knD ks, qp s]), .dat (.int i)] _
  unfold t_behind
  walk_at "dl"
  have hl := cutK_len (ks := ks) (i := i)
  refine ⟨cutK ks i, s, B, by rw [cutD_K hi], ⟨fun j hj => ?_, fun j hj => ?_, L.l.b.s⟩, fun j hj => ?_, by omega, by omega, by omega, ?_⟩
  · rw [cutK_kn hj]; exact L.l.b.x _ (by omega)
  · rw [cutK_kn hj]; exact L.l.b.y _ (by omega)
  · rw [cutK_kn (by omega), cutK_kn hj]; exact L.l.ris (i + j) (by omega)
  · walk_at "dl"
    refine do_ixLn (k := 0) (d := qp (slp (cutK ks i) s 0)) rfl ?_ ?_
    · rw [List.getElem?_map, List.getElem?_range (by omega)]; rfl
    · rw [cutK_slp hi]; exact hΦ
theorem ws_height (h : THeight ds Φ) : WS K S0 (t_height K) (rhoOf 5 ds) { nx := fun _ => Φ .none, rt := fun d _ => Φ d } := by
  obtain ⟨ks, s, x, i, B, C, rfl, L, hi, hx, hB, hΦ⟩ := h
  show WS K S0 (t_height K) [.dat (.tuple [knD ks, qp s]), .dat (.int i), .dat (qp x), .unk, .unk] _
  unfold t_height
  have b0 := L.B0
  have x1 := L.l.b.x i hi; have y1 := L.l.b.y i hi
  have sl := slp_sz L.l.b L.B0 i hi
  have sx := sz_sub x (kn ks i).1
  have sm := sz_mul (slp ks s i) (x - (kn ks i).1)
  walk_at "dl"
  refine do_ixTn rfl (kD_get hi) ?_
  refine ⟨_, _, rfl, ?_⟩
  walk_at "dl"
  refine if_b (fun he => ?_) (fun hn => ?_)
  · walk_at "dl"
    have e : yOf ks s x i = (kn ks i).2 := by unfold yOf; rw [he]; grind
    rw [e] at hΦ; exact hΦ
  · walk_at "dl"
    refine ⟨ks, s, i, B, rfl, L, by omega, hi, ?_⟩
    walk_at "dl"
    exact hΦ
theorem ws_yat (h : TYat ds Φ) : WS K S0 (t_yat K) (rhoOf 2 ds) { nx := fun _ => Φ .none, rt := fun d _ => Φ d } := by
  obtain ⟨ks, s, x, B, C, rfl, L, h0, hx, hB, hΦ⟩ := h
  show WS K S0 (t_yat K) [.dat (.tuple [knD ks, qp s]), .dat (qp x)] _
  unfold t_yat
  have b0 := L.B0
  have n0 : ¬ x.num < 0 := by have := Rat.num_nonneg.mpr h0; omega
  walk_at "dl"
  refine if_b (fun he => absurd he n0) (fun _ => ?_)
  walk_at "dl"
  refine ⟨ks, x, rfl, L.l.ris, L.l.pos, L.len, by rw [L.l.fst]; exact h0, by omega, fun i hi => by have := L.l.b.x i hi; omega, fun i hat => ?_⟩
  walk_at "dl"
  exact ⟨ks, s, x, i, B, C, rfl, L, hat.lt, hx, hB, by rw [← yAt_of L.l.ris hat]; exact hΦ⟩
end
end DL

set_option Elab.async false
set_option linter.all false
set_option maxRecDepth 100000
set_option maxHeartbeats 4000000
/-! LQ4: a drawn line -/
namespace DL
open PySem PySem.Spec PyProof.Rows L2
section
variable {K : PySem.W.Frag} {S : Stt} {ρ : Rho} {Φ : PyData → Rho → Prop} {Ψ : PyData → Prop}
theorem wd_take {te : TE} {i B : Nat} (hF : FPot S) (h : ρ[i]? = some (.sto B)) (f : WD K S te ρ fun x ρ1 => ∃ (m : Int) (B1 : Nat), x = .int m ∧ ρ1[i]? = some (.sto B1) ∧ 1 ≤ m ∧ m ≤ 2 ^ 40 ∧ B1 ≤ 2 ^ 40 ∧ ∀ d : Int, 0 ≤ d → d < m → Φ (.int d) (stoAll (B1 + 1) ρ1)) :
    WD K S (tCall (spS K FPot TTake) [] E0 (tCons (tVar i) (tCons te tNil))) ρ Φ :=
  wd_callS hF h (wa_cons (f.imp fun d ρ' ⟨m, B1, e, h1, h2, h3, h4, h5⟩ => wa_nil ⟨B1, h1, m, by rw [e], h2, h3, h4, h5⟩))
theorem wd_takeC {i B : Nat} {m : Int} (hF : FPot S) (h : ρ[i]? = some (.sto B)) (h1 : 1 ≤ m) (h2 : m ≤ 2 ^ 40) (h3 : B ≤ 2 ^ 40) (f : ∀ d : Int, 0 ≤ d → d < m → Φ (.int d) (stoAll (B + 1) ρ)) :
    WD K S (tCall (spS K FPot TTake) [] E0 (tCons (tVar i) (tCons (tC (.int m)) tNil))) ρ Φ :=
  wd_take hF h (wd_int ⟨m, B, rfl, h, h1, h2, h3, f⟩)
theorem wd_takeV {i j B : Nat} {m : Int} (hF : FPot S) (h : ρ[i]? = some (.sto B)) (hj : ρ[j]? = some (.dat (.int m))) (h1 : 1 ≤ m) (h2 : m ≤ 2 ^ 40) (h3 : B ≤ 2 ^ 40) (f : ∀ d : Int, 0 ≤ d → d < m → Φ (.int d) (stoAll (B + 1) ρ)) :
    WD K S (tCall (spS K FPot TTake) [] E0 (tCons (tVar i) (tCons (tVar j) tNil))) ρ Φ :=
  wd_take hF h (wd_var hj ⟨m, B, rfl, h, h1, h2, h3, f⟩)
theorem do_ix3 {a b c d : Int} (h0 : 0 ≤ d) (h3 : d < 3) (f : ∀ z : Int, z = a ∨ z = b ∨ z = c → Ψ (.int z)) : DO K (rIxL K) (.list [.int a, .int b, .int c]) (.int d) Ψ := by
  have : d = 0 ∨ d = 1 ∨ d = 2 := by omega
  rcases this with rfl | rfl | rfl
  · exact do_ixL rfl (f _ (.inl rfl))
  · exact do_ixL rfl (f _ (.inr (.inl rfl)))
  · exact do_ixL rfl (f _ (.inr (.inr rfl)))
theorem ws_cut {t u : TS} {En : DE} (P : Rho → Prop) (h1 : WS K S t ρ { En with nx := P }) (h2 : ∀ ρ', P ρ' → WS K S u ρ' En) : WS K S (tSeq t u) ρ En :=
  ws_seq (h1.imp (fun ρ' p => h2 ρ' p) (fun _ _ h => h) (fun _ h => h) (fun _ h => h))
theorem small80 {x : Nat} (h : x < 1000000000000) : x < 2 ^ 8000 := Nat.lt_of_lt_of_le h (Nat.le_trans (by decide : 1000000000000 ≤ 2 ^ 40) (Nat.pow_le_pow_right (by decide) (by decide)))
def oqD : Option Rat → PyData
  | none => .none
  | some q => qp q
/-- a row of one's own, as a tuple -/
theorem wd_tupOwn {i : Nat} {ds : List PyData} (h : ρ[i]? = some (.own ds)) (f : Φ (.tuple ds) ρ) : WD K S (tCB (rTupOf K) (tCons (tVar i) tNil)) ρ Φ := fun H0 N0 Z N σ H E Q q => by
  obtain ⟨p, xs, g1, g2, g3, g4, g5, g6, g7⟩ := E.slot i _ h
  refine ⟨_, g1, p, xs, rfl, .inl ⟨.inl (.inl g6), fun l hl => ?_⟩⟩
  have s := same_new hl (.tup xs)
  exact q _ _ ρ _ f (E.ext s) (Keep.of s) (Dq.tup (fresh_av E.trk hl) upd_same (g7.keep (Keep.of s)))
/-- the last of a row of one's own -/
theorem wd_lastOwn {i : Nat} {ds : List PyData} {e : PyData} (h : ρ[i]? = some (.own ds)) (hl : ds.getLast? = some e) (f : Φ e ρ) : WD K S (tOp (rIxL K) (tVar i) (tUn rNegI (tC (.int 1)))) ρ Φ :=
  wd_ix_own h (wd_un (wd_int (du_neg ⟨ds, -1, e, rfl, h, by
    have h0 : ds ≠ [] := fun z => by rw [z] at hl; cases hl
    have h1 : 0 < ds.length := List.length_pos_iff.mpr h0
    unfold atI ixN
    rw [if_neg (by decide), if_pos (by omega)]
    have e2 : ((-1 : Int) + (ds.length : Int)).toNat = ds.length - 1 := by omega
    rw [List.getLast?_eq_getElem?] at hl
    simpa [e2] using hl, f⟩)))
end
def TLine : Nat → List PyData → (PyData → Nat → Prop) → Prop := fun B ds Φ => ∃ m : Nat, ds = [.int m] ∧ 3 ≤ m ∧ m ≤ 60 ∧ B ≤ 2 ^ 39 ∧ ∀ ks s B', B' ≤ B + 300 → GoodL m ks s → Φ (lnD ks s) B'
local macro_rules | `(tactic| walk_at "dl") => `(tactic| repeat' (first
  | with_reducible refine wd_isTy ?_ | with_reducible refine wd_isi ?_ | with_reducible refine wd_op ?_ | ((with_reducible show WD _ _ (tCB (rLenX _) (tCons (tVar _) tNil)) _ _); refine wd_len_scr rfl ?_) | with_reducible refine wd_cb ?_ | with_reducible refine wd_un ?_ | with_reducible refine wa_cons ?_ | with_reducible refine wa_nil ?_ | ((with_reducible show WD _ _ (tVar _) _ _); refine wd_var rfl ?_) | with_reducible refine wd_int ?_ | with_reducible refine wd_bl ?_ | with_reducible refine wd_str ?_ | with_reducible refine wd_non ?_
  | with_reducible refine do_add ?_ | with_reducible refine do_sub ?_ | ((with_reducible refine do_mod ?_ ?_); decide) | with_reducible refine do_mod ?_ ?_ | with_reducible refine do_mul ?_ ?_ | ((with_reducible refine do_div ?_ ?_); exact ⟨by decide, by decide⟩) | with_reducible refine do_div ?_ ?_ | ((with_reducible refine do_pow ?_ ?_); exact ⟨by decide, by decide, by decide⟩) | with_reducible refine do_pow ?_ ?_
  | with_reducible refine do_lt ?_ | with_reducible refine do_le ?_ | with_reducible refine do_gt ?_ | with_reducible refine do_ge ?_ | with_reducible refine du_neg ?_
  | with_reducible refine do_eqi ?_ | with_reducible refine do_nei ?_ | with_reducible refine do_eqs ?_ | with_reducible refine do_nes ?_ | with_reducible refine dc_abs ?_ | with_reducible refine dc_min ?_ | with_reducible refine dc_max ?_ | with_reducible refine dc_lenL ?_ | with_reducible refine dc_lenT ?_ | with_reducible refine dc_gcd ?_
  | ((with_reducible show DO _ (rIxT _) _ _ _); refine do_ixT rfl ?_) | ((with_reducible show DO _ (rIxL _) _ _ _); refine do_ixL rfl ?_) | ((with_reducible refine do_catL ?_ ?_); exact Nat.le_of_ble_eq_true rfl) | with_reducible refine do_catL ?_ ?_ | ((with_reducible show And (List.length _ ≤ sizeLine) _); refine ⟨Nat.le_of_ble_eq_true rfl, ?_⟩)
  | with_reducible refine wd_dnew ?_ | with_reducible refine wd_call0 ?_ | with_reducible refine wd_slA ?_ | with_reducible refine wo_part ?_ | with_reducible refine wo_none ?_ | with_reducible refine do_eqQ ?_ | with_reducible refine do_neQ ?_ | with_reducible refine wi_enumT ?_ | with_reducible refine tAdQ (by omega) (by omega) ?_ | with_reducible refine tSbQ (by omega) (by omega) ?_ | with_reducible refine tMlQ (by omega) (by omega) ?_ | with_reducible refine tDvQ (by assumption) (by omega) (by omega) ?_ | with_reducible refine tLtQ (by omega) (by omega) ?_ | with_reducible refine dc_str ?_ ?_ | with_reducible refine wd_tup ?_ | with_reducible refine wd_lst ?_ | with_reducible refine wt_test ?_ | with_reducible refine wt_B ?_ | with_reducible refine wt_not ?_ | with_reducible refine wt_and ?_ | with_reducible refine wt_or ?_ | with_reducible refine wd_ifE ?_ | with_reducible refine wd_andV ?_ | with_reducible refine wd_orV ?_ | with_reducible refine wd_notV ?_
  | with_reducible refine ws_seq ?_ | with_reducible refine ws_next ?_ | with_reducible refine ws_asg ?_ | with_reducible refine ws_ret ?_ | with_reducible refine ws_retN ?_ | with_reducible refine ws_if ?_ | with_reducible refine ws_par ?_ | with_reducible refine ws_unp2 ?_
  | with_reducible refine if_t ?_ | with_reducible refine if_f ?_ | with_reducible refine if_nf ?_ | with_reducible refine if_nt ?_
  | ((with_reducible show Exists _); first | refine ⟨_, kitInt _, ?_⟩ | refine ⟨_, kitBool _, ?_⟩ | refine ⟨_, kitTup _, ?_⟩ | refine ⟨_, kitList _, ?_⟩ | refine ⟨_, rfl, ?_⟩ | refine ⟨_, _, rfl, ?_⟩ | fail) | fail))
def t_line (K : PySem.W.Frag) : TS :=
  (tSeq (tAsg (tOp (rIxL K) (tLst (tCons (tOp rAddI (tC (.int 1)) (tCall (spS K FPot TTake) [] E0 (tCons (tVar 0) (tCons (tC (.int 3)) tNil)))) (tCons (tOp rAddI (tC (.int 1)) (tCall (spS K FPot TTake) [] E0 (tCons (tVar 0) (tCons (tVar 1) tNil)))) (tCons (tVar 1) tNil)))) (tCall (spS K FPot TTake) [] E0 (tCons (tVar 0) (tCons (tC (.int 3)) tNil)))) (gName 2))
    (tSeq (tAsg (tOp (rIxL K) (tLst (tCons (tC (.int 1)) (tCons (tC (.int 1)) (tCons (tC (.int 1)) (tCons (tC (.int 1)) (tCons (tC (.int 1)) (tCons (tOp (rIxL K) (tLst (tCons (tC (.int 97)) (tCons (tC (.int 101)) (tCons (tC (.int 997)) tNil)))) (tCall (spS K FPot TTake) [] E0 (tCons (tVar 0) (tCons (tC (.int 3)) tNil)))) tNil))))))) (tCall (spS K FPot TTake) [] E0 (tCons (tVar 0) (tCons (tC (.int 6)) tNil)))) (gName 3))
    (tSeq (tAsg (tLst (tCons (tTup (tCons (tTup (tCons (tC (.int 0)) (tCons (tC (.int 1)) tNil))) (tCons (tCall (spP K TLow) [] E0 (tCons (tOp rSubI (tCall (spS K FPot TTake) [] E0 (tCons (tVar 0) (tCons (tC (.int 41)) tNil))) (tC (.int 20))) (tCons (tOp (rIxL K) (tLst (tCons (tC (.int 1)) (tCons (tC (.int 2)) (tCons (tC (.int 3)) tNil)))) (tCall (spS K FPot TTake) [] E0 (tCons (tVar 0) (tCons (tC (.int 3)) tNil)))) tNil))) tNil))) tNil)) (gName 4))
    (tSeq (tAsg (tC .non) (gName 5))
    (tSeq (tFor (iRng1 (tCons (tVar 2) tNil)) (gName 6) (tSeq (tAsg (tCall (spP K TLow) [] E0 (tCons (tOp rMulI (tOp rSubI (tCall (spS K FPot TTake) [] E0 (tCons (tVar 0) (tCons (tC (.int 13)) tNil))) (tC (.int 6))) (tVar 3)) (tCons (tOp (rIxL K) (tLst (tCons (tC (.int 1)) (tCons (tC (.int 2)) (tCons (tC (.int 3)) tNil)))) (tCall (spS K FPot TTake) [] E0 (tCons (tVar 0) (tCons (tC (.int 3)) tNil)))) tNil))) (gName 7))
    (tSeq (tIfS (tTest (tOp rGt (tVar 3) (tC (.int 1)))) (tAsg (tTup (tCons (tOp rMulI (tOp rDivI (tOp rDivI (tOp (rIxT K) (tVar 7) (tC (.int 0))) (tOp (rIxT K) (tVar 7) (tC (.int 1)))) (tVar 3)) (tVar 3)) (tCons (tC (.int 1)) tNil))) (gName 7)) tNext)
    (tSeq (tIfS (tTest (tOp (rEqD K) (tVar 7) (tVar 5))) (tAsg (tCall (spP K TAdQ) [] E0 (tCons (tVar 7) (tCons (tTup (tCons (tVar 3) (tCons (tC (.int 1)) tNil))) tNil))) (gName 7)) tNext)
    (tSeq (tAsg (tVar 7) (gName 5))
    (tIfS (tTest (tOp rLt (tOp rAddI (tVar 6) (tC (.int 1))) (tVar 2))) (tSeq (tAsg (tCall (spP K TLow) [] E0 (tCons (tOp rAddI (tC (.int 1)) (tCall (spS K FPot TTake) [] E0 (tCons (tVar 0) (tCons (tC (.int 6)) tNil)))) (tCons (tOp (rIxL K) (tLst (tCons (tC (.int 1)) (tCons (tC (.int 2)) (tCons (tC (.int 4)) tNil)))) (tCall (spS K FPot TTake) [] E0 (tCons (tVar 0) (tCons (tC (.int 3)) tNil)))) tNil))) (gName 8))
    (tSeq (tIfS (tTest (tOp rGt (tVar 3) (tC (.int 1)))) (tAsg (tCall (spP K TLow) [] E0 (tCons (tOp (rIxT K) (tVar 8) (tC (.int 0))) (tCons (tVar 3) tNil))) (gName 8)) tNext)
    (tSeq (tAsg (tOp (rIxL K) (tVar 4) (tUn rNegI (tC (.int 1)))) (gTup K 2 (gCons (gName 9) (gCons (gName 10) gNil))))
    (tDrop (tBM K "list" rAppend (tVar 4) (tCons (tTup (tCons (tCall (spP K TAdQ) [] E0 (tCons (tVar 9) (tCons (tVar 8) tNil))) (tCons (tCall (spP K TAdQ) [] E0 (tCons (tVar 10) (tCons (tCall (spP K TMlQ) [] E0 (tCons (tVar 7) (tCons (tVar 8) tNil))) tNil))) tNil))) tNil)))))) tNext))))))
    (tRet (tTup (tCons (tCB (rTupOf K) (tCons (tVar 4) tNil)) (tCons (tVar 5) tNil)))))))))
theorem kD_append (ks : Kn) (p : Rat × Rat) : ks.map kD ++ [kD p] = (ks ++ [p]).map kD := by simp
section
variable {K : PySem.W.Frag} {S : Stt} {ds : List PyData} {Φ : PyData → Nat → Prop} {B : Nat}
end
end DL

set_option Elab.async false
set_option linter.all false
set_option maxRecDepth 100000
set_option maxHeartbeats 4000000
/-! LQ5: repr of lines; the pot; the cells; refusals told -/
namespace DL
open PySem PySem.Spec PyProof.Rows L2
/-! ### what may be shown -/
structure Rs (L D : Nat) (d : PyData) : Prop where
  s : d.showable = true
  h : d.hasDict = false
  l : d.shown.length ≤ L
  d : d.depth ≤ D
theorem Rs.mono {L D L' D' : Nat} {d : PyData} (h : Rs L D d) (h1 : L ≤ L') (h2 : D ≤ D') : Rs L' D' d := ⟨h.s, h.h, Nat.le_trans h.l h1, Nat.le_trans h.d h2⟩
theorem Rs.int {i : Int} {k : Nat} (hk : 0 < k) (h : i.natAbs < 2 ^ k) (h2 : k ≤ 1900) : Rs (k + 1) 0 (.int i) := by
  have hl : i.natAbs.log2 < k := log2_of (i := i) h hk
  exact ⟨decide_eq_true (show i.natAbs.log2 < 1920 by omega), rfl, by
    show (Str.ofString (toString i)).length ≤ k + 1
    rw [PySem.ofString_length]
    exact PySem.int_text_length_le (k := k) hk hl, Nat.le_refl _⟩
theorem Rs.lst {xs : List PyData} {L D n : Nat} (h : ∀ x ∈ xs, Rs L D x) (hn : xs.length ≤ n) : Rs (2 + n * (L + 2)) (D + 1) (.list xs) :=
  ⟨showableAll_of xs fun x hx => (h x hx).s, hasDictAll_of xs fun x hx => (h x hx).h, listText_le (fun x hx => (h x hx).l) hn, by
    show PyData.depthAll xs + 1 ≤ D + 1
    have := depthAll_of (n := D) xs fun x hx => (h x hx).d
    omega⟩
theorem Rs.tup {xs : List PyData} {L D n : Nat} (h : ∀ x ∈ xs, Rs L D x) (hn : xs.length ≤ n) : Rs (5 + n * (L + 2)) (D + 1) (.tuple xs) :=
  ⟨showableAll_of xs fun x hx => (h x hx).s, hasDictAll_of xs fun x hx => (h x hx).h, by
      show (tupleText (PyData.shownAll xs)).length ≤ _
      have h2 := piled_le (m := L) (PyData.shownAll xs) fun t ht => by
        obtain ⟨x, hx, rfl⟩ := shownAll_mem xs t ht
        exact (h x hx).l
      rw [shownAll_len] at h2
      have h3 : xs.length * (L + 2) ≤ n * (L + 2) := Nat.mul_le_mul_right _ hn
      have h4 : (Str.join ", " (PyData.shownAll xs)).length ≤ piled (PyData.shownAll xs) + 2 := by
        by_cases e : PyData.shownAll xs = []
        · rw [e]; decide
        · have := join_length_add _ e; omega
      unfold tupleText
      rw [strLen_append, strLen_append]
      have e1 : (Str.ofString "(").length = 1 := by decide
      have e2 : (Str.ofString (if ((PyData.shownAll xs).length == 1) = true then ",)" else ")" : String)).length ≤ 2 := by split <;> decide
      rw [e1]
      omega, by
    show PyData.depthAll xs + 1 ≤ D + 1
    have := depthAll_of (n := D) xs fun x hx => (h x hx).d
    omega⟩
theorem Rs.qp {q : Rat} {k : Nat} (hk : sz q ≤ k) (h2 : k ≤ 1900) : Rs (11 + 2 * k) 1 (DL.qp q) := by
  have k0 : 0 < k := Nat.lt_of_lt_of_le (sz_pos q) hk
  refine (Rs.tup (xs := [.int q.num, .int (q.den : Int)]) (L := k + 1) (D := 0) (n := 2) (fun x hx => ?_) (Nat.le_refl 2)).mono (by omega) (Nat.le_refl _)
  simp only [List.mem_cons, List.not_mem_nil, or_false] at hx
  rcases hx with rfl | rfl
  · exact Rs.int k0 (num_lt hk) h2
  · exact Rs.int k0 (by have := den_lt hk; simpa using this) h2
theorem kn_mem {ks : Kn} {p : Rat × Rat} (h : p ∈ ks) : ∃ i, i < ks.length ∧ p = kn ks i := by
  obtain ⟨i, hi, e⟩ := List.getElem_of_mem h
  refine ⟨i, hi, ?_⟩
  unfold kn
  rw [List.getD_eq_getElem?_getD, List.getElem?_eq_getElem hi, ← e]; rfl
section
variable {K : PySem.W.Frag} {Ψ : PyData → Prop}
theorem dc_reprS {d : PyData} {L D : Nat} (hl : (∃ ds, d = .list ds) ∨ ∃ ds, d = .tuple ds) (h : Rs L D d) (h1 : L ≤ sizeLine) (h2 : D ≤ 50) (f : Ψ (.str d.shown)) : DC K (rRepr K) [d] Ψ :=
  dc_repr hl h.s h.h (Nat.le_trans h.l h1) (Nat.le_trans h.d h2) f
end
/-! ### the pot -/
def TPot : List PyData → (List Int → Prop) → Prop := fun ds Φ => ∃ c a : Int, ds = [.int c, .int a] ∧ 0 ≤ a ∧ a ≤ 1000000 ∧ ∀ ns, PotL ns 0 → Φ ns
def t_pot (K : PySem.W.Frag) : TS :=
  (tRet (tLst (tCons (tCB rMaxX (tCons (tC (.int 0)) (tCons (tOp rSubI (tVar 0) (tOp rPowI (tC (.int 10)) (tC (.int 18)))) tNil))) (tCons (tOp rAddI (tOp rModI (tVar 0) (tC (.int 2305843009213693951))) (tOp rMulI (tC (.int 7919)) (tVar 1))) (tCons (tC (.int 0)) tNil)))))
theorem pot_run {K : PySem.W.Frag} {vs : List V} {H : Hp} {Q : VK} {E : XK} (h : spN K TPot vs H Q E) : t_pot K { nx := fun _ H' => Q .non H', rt := Q } (L2.start ["cell", "at"] vs) H := by
  obtain ⟨N, ds, Φ, ht, hd, ⟨c, a, rfl, a0, a1, hΦ⟩, hQ⟩ := h
  cases hd with
  | cons d1 d2 =>
  cases d2 with
  | cons d2 d3 =>
  cases d3
  cases d1
  cases d2
  show t_pot K { nx := fun _ H' => Q .non H', rt := Q } [some (.int c), some (.int a)] H
  obtain ⟨z1, z2⟩ := fmod_nn (i := c) (j := 2305843009213693951) (by decide)
  refine ⟨_, rfl, 10, 18, rfl, rfl, ⟨by decide, by decide, by decide⟩, c, _, rfl, rfl, 0, _, rfl, ?_⟩
  refine ⟨_, rfl, c, 2305843009213693951, rfl, rfl, (by show (2305843009213693951 : Int) ≠ 0; decide), _, rfl, 7919, a, rfl, rfl, wide_mul (a := 20) (b := 20) (by decide) (by omega) (by decide) (by decide) (by decide), _, _, rfl, rfl, ?_⟩
  refine ⟨by show 3 ≤ sizeLine; decide, fun p hp => ?_⟩
  dsimp only
  refine hQ [_, _, 0] (hΦ _ ⟨_, _, 0, rfl, ?_, ?_, ?_, by decide, by decide⟩) p _ hp (same_new hp _) upd_same
  · split <;> omega
  · omega
  · omega
/-! ### the cells, folded -/
def spF (K : PySem.W.Frag) : Sp := fun vs H Q _ => ∃ (a0 : Addr) (ns : List Int) (m : Int), vs = [.ref a0, .int m] ∧ SqL K H a0 (ns.map V.int) ∧ ns.length ≤ 63 ∧ 1 ≤ m ∧ m ≤ 1000 ∧
  ∀ cs : List Int, (cs.length : Int) ≤ m → cs.length ≤ 63 → ∀ p H', H p = none → Same H H' → H' p = some (.lst (cs.map V.int)) → Q (.ref p) H'
def t_folded (K : PySem.W.Frag) : TS :=
  (tSeq (tAsg (tOp rRepL (tLst (tCons (tC (.int 0)) tNil)) (tCB rMinX (tCons (tCB (rLenX K) (tCons (tVar 0) tNil)) (tCons (tVar 1) tNil)))) (gName 2))
    (tSeq (tFor (iRng1 (tCons (tCB (rLenX K) (tCons (tVar 0) tNil)) tNil)) (gName 3) (tAsg (tOp rAddI (tOp rMulI (tOp rModI (tOp (rIxL K) (tVar 2) (tOp rModI (tVar 3) (tVar 1))) (tOp rPowI (tC (.int 10)) (tC (.int 64)))) (tC (.int 1000003))) (tOp (rIxL K) (tVar 0) (tVar 3))) (gSub (tVar 2) (tOp rModI (tVar 3) (tVar 1)) rSetL)))
    (tRet (tVar 2))))
theorem folded_run {K : PySem.W.Frag} {vs : List V} {H : Hp} {Q : VK} {E : XK} (h : spF K vs H Q E) : t_folded K { nx := fun _ H' => Q .non H', rt := Q } (L2.start ["script", "most", "cells", "k"] vs) H := by
  obtain ⟨a0, ns, m, rfl, hs, hl, m1, m2, hQ⟩ := h
  show t_folded K { nx := fun _ H' => Q .non H', rt := Q } [some (.ref a0), some (.int m), none, none] H
  refine ⟨by show 1 ≤ sizeLine; decide, fun b hb => ?_⟩
  have e1 := same_new hb (.lst [V.int 0])
  have hs1 := e1.seq hs
  refine ⟨_, rfl, a0, _, rfl, .inl hs1, _, rfl, (ns.length : Int), m, by rw [List.length_map], ?_⟩
  obtain ⟨n, hn, n1, n2, n3⟩ : ∃ n : Nat, (if m < (ns.length : Int) then m else (ns.length : Int)) = n ∧ (n : Int) ≤ m ∧ n ≤ 63 ∧ ∀ k : Nat, k < ns.length → (k : Int).fmod m < n := by
    by_cases q : m < (ns.length : Int)
    · refine ⟨m.toNat, by rw [if_pos q]; omega, by omega, by omega, fun k hk => ?_⟩
      obtain ⟨_, z2⟩ := fmod_nn (i := (k : Int)) (j := m) (by omega)
      omega
    · refine ⟨ns.length, by rw [if_neg q], by omega, hl, fun k hk => ?_⟩
      rw [Int.fmod_eq_emod_of_nonneg _ (by omega), Int.emod_eq_of_lt (by omega) (by omega)]
      omega
  show rRepL (.ref b) (.int (if m < (ns.length : Int) then m else (ns.length : Int))) _ _
  rw [hn]
  refine ⟨b, n, [V.int 0], rfl, rfl, .inl upd_same, ⟨by omega, by omega⟩, by rw [sizeLine_eq]; simp; omega, fun p hp => ?_⟩
  have el : (List.replicate (n : Int).toNat [V.int 0]).flatten = (List.replicate n (0 : Int)).map V.int := by
    rw [Int.toNat_natCast]
    induction n with
    | zero => rfl
    | succ n ih => simp [List.replicate_succ]
  rw [el]
  have e2 := same_new hp (.lst ((List.replicate n (0 : Int)).map V.int))
  have hp0 : H p = none := by
    cases q : H p with
    | none => rfl
    | some o => rw [e1 _ _ q] at hp; cases hp
  have fr0 := e1.trans e2
  have hp2 : (upd (upd H b (.lst [V.int 0])) p (.lst ((List.replicate n (0 : Int)).map V.int))) p = some (.lst ((List.replicate n (0 : Int)).map V.int)) := upd_same
  generalize upd (upd H b (.lst [V.int 0])) p (.lst ((List.replicate n (0 : Int)).map V.int)) = H2 at e2 fr0 hp2 ⊢
  have hs2 := fr0.seq hs
  have keep : ∀ H' : Hp, (∀ b o, b ≠ p → H2 b = some o → H' b = some o) → Same H H' := fun H' k b o e => k b o (fun z => by rw [z, hp0] at e; cases e) (fr0 b o e)
  refine ⟨_, rfl, a0, _, rfl, .inl hs2, (ns.length : Int), by rw [List.length_map], by omega, by omega, ?_⟩
  refine for_range (lo := 0) (n := ns.length) (fun k σ' H' => ∃ (cs : List Int) (x3 : Option V), σ' = [some (.ref a0), some (.int m), some (.ref p), x3] ∧ cs.length = n ∧ H' p = some (.lst (cs.map V.int)) ∧ ∀ b o, b ≠ p → H2 b = some o → H' b = some o) ⟨List.replicate n 0, none, rfl, by simp, hp2, fun _ _ _ e => e⟩ ?_ ?_
  · rintro k σ' H' hk ⟨cs, x3, rfl, hcl, hcp, fr⟩
    have ss := keep H' fr
    have hs3 := ss.seq hs
    have fm : ((0 : Int) + (k : Nat)).fmod m = ((k : Int)).fmod m := by rw [Int.zero_add]
    have hj := n3 k hk
    obtain ⟨z1, z2⟩ := fmod_nn (i := (k : Int)) (j := m) (by omega)
    obtain ⟨j, ej⟩ : ∃ j : Nat, (k : Int).fmod m = j := ⟨((k : Int).fmod m).toNat, by omega⟩
    have hjn : j < cs.length := by omega
    refine ⟨_, rfl, _, rfl, _, rfl, (0 : Int) + (k : Nat), m, rfl, rfl, by omega, ?_⟩
    dsimp only
    rw [fm, ej]
    refine ⟨p, _, _, .int cs[j], rfl, rfl, .inl (.inl hcp), atI_nat (by rw [List.getElem?_map, List.getElem?_eq_getElem hjn]; rfl), ?_⟩
    refine ⟨10, 64, rfl, rfl, ⟨by decide, by decide, by decide⟩, _, _, rfl, rfl, (show (10 : Int) ^ (64 : Int).toNat ≠ 0 by decide), ?_⟩
    obtain ⟨w1, w2⟩ := fmod_nn (i := cs[j]) (j := 10 ^ (64 : Int).toNat) (by decide)
    refine ⟨_, 1000003, rfl, rfl, wide_mul (a := 220) (b := 20) ?_ (by decide) (by decide) (by decide) (by decide), ?_⟩
    · have : (10 : Int) ^ (64 : Int).toNat < 2 ^ 220 := by decide +kernel
      have e : (((2 ^ 220 : Nat)) : Int) = (2 : Int) ^ 220 := Int.natCast_pow 2 220
      omega
    refine ⟨_, rfl, _, rfl, a0, _, _, .int ns[k], rfl, rfl, hs3, by rw [Int.zero_add]; exact atI_nat (by rw [List.getElem?_map, List.getElem?_eq_getElem hk]; rfl), _, _, rfl, rfl, ?_⟩
    refine ⟨_, rfl, _, rfl, _, rfl, (0 : Int) + (k : Nat), m, rfl, rfl, by omega, ?_⟩
    dsimp only
    rw [fm, ej]
    refine ⟨p, _, _, j, rfl, rfl, hcp, ?_, ?_⟩
    · unfold ixN
      rw [if_pos (by omega), if_pos (by rw [List.length_map]; omega)]; simp
    · refine ⟨cs.set j ((cs[j].fmod (10 ^ (64 : Int).toNat)) * 1000003 + ns[k]), _, rfl, by simpa using hcl, ?_, fun b o nb e => ?_⟩
      · rw [upd_same, List.map_set]
      · rw [upd_ne nb]; exact fr b o nb e
  · rintro σ' H' ⟨cs, x3, rfl, hcl, hcp, fr⟩
    exact ⟨_, rfl, hQ cs (by omega) (by omega) p H' hp0 (keep H' fr) hcp⟩
end DL

set_option Elab.async false
set_option linter.all false
set_option maxRecDepth 100000
set_option maxHeartbeats 4000000
/-! LQ6: the word of a refusal -/
namespace DL
open PySem PySem.Spec PyProof.Rows L2
/-- a class of one's own over ValueError, made with a text -/
abbrev veBase : List Value := [.type "ValueError", .type "Exception", .type "BaseException", .type "object"]
structure ExcV (K : PySem.W.Frag) (C : Addr) : Prop where
  q : PySem.W.excIn K C veBase "ValueError.__new__" = true
  k : PySem.W.keepIn K (.ref C) = true
  s : PySem.W.subIn K (.ref C) (.type "BaseException") = some true
  t : PySem.W.typeIn K (.ref C) = some (.type "type")
def excVB (K : PySem.W.Frag) (C : Addr) : Bool := PySem.W.excIn K C veBase "ValueError.__new__" && (PySem.W.keepIn K (.ref C) && (decide (PySem.W.subIn K (.ref C) (.type "BaseException") = some true) &&
  decide (PySem.W.typeIn K (.ref C) = some (.type "type"))))
theorem excV_ok {K : PySem.W.Frag} {C : Addr} (h : excVB K C = true) : ExcV K C := by
  obtain ⟨c1, h⟩ := He.ba h
  obtain ⟨c2, h⟩ := He.ba h
  obtain ⟨c3, c4⟩ := He.ba h
  exact ⟨c1, c2, of_decide_eq_true c3, of_decide_eq_true c4⟩
/-- the classes of the refusals, by name -/
structure Cls where
  amount : Addr
  line : Addr
  table : Addr
  one : List Addr
  two : List Addr
/-- the word of one that is of the class D alone -/
structure WordOk (K : PySem.W.Frag) (c : Cls) (D : Addr) (w : Str) : Prop where
  one : PySem.W.kitAny K (.ref D) (c.one.map Value.ref) = some false
  two : PySem.W.kitAny K (.ref D) (c.two.map Value.ref) = some false
  ve : PySem.W.kitOne K (.ref D) (.type "ValueError") = some true
  kinds : ∃ (b1 b2 b3 : Bool) (j : Nat), PySem.W.kitOne K (.ref D) (.ref c.amount) = some b1 ∧ PySem.W.kitOne K (.ref D) (.ref c.line) = some b2 ∧ PySem.W.kitOne K (.ref D) (.ref c.table) = some b3 ∧
    (b1, b2, b3, j, w) ∈ [(true, false, false, 0, ("amount" : Str)), (false, true, false, 1, ("line" : Str)), (false, false, true, 2, ("table" : Str))]
def spW (K : PySem.W.Frag) (D : Addr) (w : Str) : Sp := fun vs H Q _ => ∃ a : Addr, vs = [.ref a] ∧ H a = some (.ext (excAt a (.ref D))) ∧ ∀ H', Same H H' → Q (.str w) H'
def t_word (K : PySem.W.Frag) (D A_NoAmount A_NoLine A_NoTable A_NoDays A_NoDeed A_NoFold A_NoLeave A_NoPot A_NoRule A_NoStretch A_NoTelling A_NoText A_NoCut A_NoName A_NoNumber A_NoPart A_TooLong : Addr) : TS :=
  (tSeq (tAsg (tLst (tCons (tCB (rIsiE K D) (tCons (tVar 0) (tCons (tC (.ref A_NoAmount)) tNil))) (tCons (tCB (rIsiE K D) (tCons (tVar 0) (tCons (tC (.ref A_NoLine)) tNil))) (tCons (tCB (rIsiE K D) (tCons (tVar 0) (tCons (tC (.ref A_NoTable)) tNil))) tNil)))) (gName 1))
    (tSeq (tAsg (tCB (rIsiET K D) (tCons (tVar 0) (tCons (tTup (tCons (tC (.ref A_NoDays)) (tCons (tC (.ref A_NoDeed)) (tCons (tC (.ref A_NoFold)) (tCons (tC (.ref A_NoLeave)) (tCons (tC (.ref A_NoPot)) (tCons (tC (.ref A_NoRule)) (tCons (tC (.ref A_NoStretch)) (tCons (tC (.ref A_NoTelling)) (tCons (tC (.ref A_NoText)) tNil)))))))))) tNil))) (gName 2))
    (tSeq (tAsg (tOrV (tVar 2) (tCB (rIsiET K D) (tCons (tVar 0) (tCons (tTup (tCons (tC (.ref A_NoCut)) (tCons (tC (.ref A_NoName)) (tCons (tC (.ref A_NoNumber)) (tCons (tC (.ref A_NoPart)) (tCons (tC (.ref A_TooLong)) tNil)))))) tNil)))) (gName 2))
    (tSeq (tIfS (tOr (tB (tVar 2)) (tOr (tTest (tOp rNe (tBM K "list" (rCntF K) (tVar 1) (tCons (tC (.bl true)) tNil)) (tC (.int 1)))) (tNot (tB (tCB (rIsiE K D) (tCons (tVar 0) (tCons (tC (.ty "ValueError")) tNil))))))) (tRet (tC (.str "odd"))) tNext)
    (tRet (tOp (rIxL K) (tLst (tCons (tC (.str "amount")) (tCons (tC (.str "line")) (tCons (tC (.str "table")) tNil)))) (tBM K "list" (rIndex K) (tVar 1) (tCons (tC (.bl true)) tNil))))))))
theorem run_word {K : PySem.W.Frag} {D A_NoAmount A_NoLine A_NoTable A_NoDays A_NoDeed A_NoFold A_NoLeave A_NoPot A_NoRule A_NoStretch A_NoTelling A_NoText A_NoCut A_NoName A_NoNumber A_NoPart A_TooLong : Addr} {w : Str} {vs : List V} {H : Hp} {Q : VK} {E : XK}
    (W : WordOk K ⟨A_NoAmount, A_NoLine, A_NoTable, [A_NoDays, A_NoDeed, A_NoFold, A_NoLeave, A_NoPot, A_NoRule, A_NoStretch, A_NoTelling, A_NoText], [A_NoCut, A_NoName, A_NoNumber, A_NoPart, A_TooLong]⟩ D w)
    (h : spW K D w vs H Q E) : t_word K D A_NoAmount A_NoLine A_NoTable A_NoDays A_NoDeed A_NoFold A_NoLeave A_NoPot A_NoRule A_NoStretch A_NoTelling A_NoText A_NoCut A_NoName A_NoNumber A_NoPart A_TooLong { nx := fun _ H' => Q .non H', rt := Q } (L2.start ["caught", "kinds", "strange"] vs) H := by
  obtain ⟨a, rfl, ha, hQ⟩ := h
  obtain ⟨b1, b2, b3, j, k1, k2, k3, hm⟩ := W.kinds
  show t_word _ _ _ _ _ _ _ _ _ _ _ _ _ _ _ _ _ _ _ _ [some (.ref a), none, none] H
  refine ⟨_, rfl, a, _, _, b1, rfl, .own _, ha, k1, ?_⟩
  refine ⟨_, rfl, a, _, _, b2, rfl, .own _, ha, k2, ?_⟩
  refine ⟨_, rfl, a, _, _, b3, rfl, .own _, ha, k3, ?_⟩
  refine ⟨by show 3 ≤ sizeLine; decide, fun p hp => ?_⟩
  have e1 := same_new hp (.lst [V.bl b1, .bl b2, .bl b3])
  have hp1 : (upd H p (.lst [V.bl b1, .bl b2, .bl b3])) p = some (.lst [V.bl b1, .bl b2, .bl b3]) := upd_same
  have ha1 := e1 _ _ ha
  generalize upd H p (.lst [V.bl b1, .bl b2, .bl b3]) = H1 at e1 hp1 ha1 ⊢
  refine ⟨_, rfl, by show 9 ≤ sizeLine; decide, fun t ht => ?_⟩
  have e2 := same_new ht (.tup [V.ref A_NoDays, .ref A_NoDeed, .ref A_NoFold, .ref A_NoLeave, .ref A_NoPot, .ref A_NoRule, .ref A_NoStretch, .ref A_NoTelling, .ref A_NoText])
  have ht1 : (upd H1 t (.tup [V.ref A_NoDays, .ref A_NoDeed, .ref A_NoFold, .ref A_NoLeave, .ref A_NoPot, .ref A_NoRule, .ref A_NoStretch, .ref A_NoTelling, .ref A_NoText])) t = some _ := upd_same
  have ha2 := e2 _ _ ha1
  have hp2 := e2 _ _ hp1
  have e12 := e1.trans e2
  generalize upd H1 t (.tup [V.ref A_NoDays, .ref A_NoDeed, .ref A_NoFold, .ref A_NoLeave, .ref A_NoPot, .ref A_NoRule, .ref A_NoStretch, .ref A_NoTelling, .ref A_NoText]) = H2 at e12 ht1 ha2 hp2 ⊢
  refine ⟨a, t, _, _, false, rfl, ht1, .cons (.own _) (.cons (.own _) (.cons (.own _) (.cons (.own _) (.cons (.own _) (.cons (.own _) (.cons (.own _) (.cons (.own _) (.cons (.own _) .nil)))))))), ha2, W.one, ?_⟩
  refine ⟨_, rfl, false, rfl, ?_⟩
  show (if false = true then _ else _)
  rw [if_neg Bool.false_ne_true]
  refine ⟨_, rfl, by show 5 ≤ sizeLine; decide, fun u hu => ?_⟩
  have e3 := same_new hu (.tup [V.ref A_NoCut, .ref A_NoName, .ref A_NoNumber, .ref A_NoPart, .ref A_TooLong])
  have hu1 : (upd H2 u (.tup [V.ref A_NoCut, .ref A_NoName, .ref A_NoNumber, .ref A_NoPart, .ref A_TooLong])) u = some _ := upd_same
  have ha3 := e3 _ _ ha2
  have hp3 := e3 _ _ hp2
  have e13 := e12.trans e3
  generalize upd H2 u (.tup [V.ref A_NoCut, .ref A_NoName, .ref A_NoNumber, .ref A_NoPart, .ref A_TooLong]) = H3 at e13 hu1 ha3 hp3 ⊢
  refine ⟨a, u, _, _, false, rfl, hu1, .cons (.own _) (.cons (.own _) (.cons (.own _) (.cons (.own _) (.cons (.own _) .nil)))), ha3, W.two, ?_⟩
  have cnt : [V.bl b1, .bl b2, .bl b3].countP (fun z => eqV z (.bl true)) = 1 := by
    simp only [List.mem_cons, List.not_mem_nil, or_false, Prod.mk.injEq] at hm
    rcases hm with ⟨rfl, rfl, rfl, _, _⟩ | ⟨rfl, rfl, rfl, _, _⟩ | ⟨rfl, rfl, rfl, _, _⟩ <;> decide
  dsimp only
  refine ⟨_, rfl, false, rfl, ?_⟩
  show (if false = true then _ else _)
  rw [if_neg Bool.false_ne_true]
  refine ⟨_, rfl, .inl ⟨rfl, _, .inl (.inl hp3)⟩, p, _, _, rfl, rfl, .inl (.inl hp3), rfl, rfl, ?_⟩
  rw [cnt]
  refine ⟨rfl, false, rfl, ?_⟩
  show (if false = true then _ else _)
  rw [if_neg Bool.false_ne_true]
  refine ⟨_, rfl, a, _, _, true, rfl, .ty _, ha3, W.ve, true, rfl, ?_⟩
  show (if (!true) = true then _ else _)
  rw [if_neg (by decide)]
  show tNext _ _ _
  refine ⟨by show 3 ≤ sizeLine; decide, fun r hr => ?_⟩
  have e4 := same_new hr (.lst [V.str "amount", .str "line", .str "table"])
  have hr1 : (upd H3 r (.lst [V.str "amount", .str "line", .str "table"])) r = some (.lst [V.str "amount", .str "line", .str "table"]) := upd_same
  have hp4 := e4 _ _ hp3
  have e14 := e13.trans e4
  generalize upd H3 r (.lst [V.str "amount", .str "line", .str "table"]) = H4 at e14 hr1 hp4 ⊢
  refine ⟨_, rfl, .inl ⟨rfl, _, .inl (.inl hp4)⟩, p, _, _, j, .bl true, rfl, rfl, .inl (.inl hp4), rfl, rfl, ?_⟩
  simp only [List.mem_cons, List.not_mem_nil, or_false, Prod.mk.injEq] at hm
  rcases hm with ⟨rfl, rfl, rfl, rfl, rfl⟩ | ⟨rfl, rfl, rfl, rfl, rfl⟩ | ⟨rfl, rfl, rfl, rfl, rfl⟩
  · exact ⟨rfl, rfl, fun m z' h => absurd h (by omega), r, _, 0, _, rfl, rfl, .inl (.inl hr1), rfl, hQ _ e14⟩
  · refine ⟨rfl, rfl, fun m z' h e => ?_, r, _, 1, _, rfl, rfl, .inl (.inl hr1), rfl, hQ _ e14⟩
    have : m = 0 := by omega
    subst this; cases e; rfl
  · refine ⟨rfl, rfl, fun m z' h e => ?_, r, _, 2, _, rfl, rfl, .inl (.inl hr1), rfl, hQ _ e14⟩
    have : m = 0 ∨ m = 1 := by omega
    rcases this with rfl | rfl
    · cases e; rfl
    · cases e; rfl
/-! ### a refusal of the height below nought -/
def TYx (C : Addr) : List PyData → (PyData → Prop) → (Addr → Prop) → Prop := fun ds _ Ψ => ∃ (l : PyData) (x : Rat), ds = [l, qp x] ∧ x < 0 ∧ Ψ C
def t_yatX (K : PySem.W.Frag) (C : Addr) (E : XK) : TS := tSeq (tIfS (tTest (tOp rLt (tOp (rIxT K) (tVar 1) (tC (.int 0))) (tC (.int 0)))) (fun _ σ H => E (.ref C) none H) tNext) tNo
local macro_rules | `(tactic| walk_at "dl") => `(tactic| repeat' (first
  | with_reducible refine wd_isTy ?_ | with_reducible refine wd_isi ?_ | with_reducible refine wd_op ?_ | ((with_reducible show WD _ _ (tCB (rLenX _) (tCons (tVar _) tNil)) _ _); refine wd_len_scr rfl ?_) | with_reducible refine wd_cb ?_ | with_reducible refine wd_un ?_ | with_reducible refine wa_cons ?_ | with_reducible refine wa_nil ?_ | ((with_reducible show WD _ _ (tVar _) _ _); refine wd_var rfl ?_) | with_reducible refine wd_int ?_ | with_reducible refine wd_bl ?_ | with_reducible refine wd_str ?_ | with_reducible refine wd_non ?_
  | with_reducible refine do_add ?_ | with_reducible refine do_sub ?_ | ((with_reducible refine do_mod ?_ ?_); decide) | with_reducible refine do_mod ?_ ?_ | with_reducible refine do_mul ?_ ?_ | ((with_reducible refine do_div ?_ ?_); exact ⟨by decide, by decide⟩) | with_reducible refine do_div ?_ ?_ | ((with_reducible refine do_pow ?_ ?_); exact ⟨by decide, by decide, by decide⟩) | with_reducible refine do_pow ?_ ?_
  | with_reducible refine do_lt ?_ | with_reducible refine do_le ?_ | with_reducible refine do_gt ?_ | with_reducible refine do_ge ?_ | with_reducible refine du_neg ?_
  | with_reducible refine do_eqi ?_ | with_reducible refine do_nei ?_ | with_reducible refine do_eqs ?_ | with_reducible refine do_nes ?_ | with_reducible refine dc_abs ?_ | with_reducible refine dc_min ?_ | with_reducible refine dc_max ?_ | with_reducible refine dc_lenL ?_ | with_reducible refine dc_lenT ?_ | with_reducible refine dc_gcd ?_
  | ((with_reducible show DO _ (rIxT _) _ _ _); refine do_ixT rfl ?_) | ((with_reducible show DO _ (rIxL _) _ _ _); refine do_ixL rfl ?_) | ((with_reducible refine do_catL ?_ ?_); exact Nat.le_of_ble_eq_true rfl) | with_reducible refine do_catL ?_ ?_ | ((with_reducible show And (List.length _ ≤ sizeLine) _); refine ⟨Nat.le_of_ble_eq_true rfl, ?_⟩)
  | with_reducible refine wd_dnew ?_ | with_reducible refine wd_call0 ?_ | with_reducible refine wd_slA ?_ | with_reducible refine wo_part ?_ | with_reducible refine wo_none ?_ | with_reducible refine do_eqQ ?_ | with_reducible refine do_neQ ?_ | with_reducible refine wi_enumT ?_ | with_reducible refine tAdQ (by omega) (by omega) ?_ | with_reducible refine tSbQ (by omega) (by omega) ?_ | with_reducible refine tMlQ (by omega) (by omega) ?_ | with_reducible refine tDvQ (by assumption) (by omega) (by omega) ?_ | with_reducible refine tLtQ (by omega) (by omega) ?_ | with_reducible refine dc_str ?_ ?_ | with_reducible refine wd_tup ?_ | with_reducible refine wd_lst ?_ | with_reducible refine wt_test ?_ | with_reducible refine wt_B ?_ | with_reducible refine wt_not ?_ | with_reducible refine wt_and ?_ | with_reducible refine wt_or ?_ | with_reducible refine wd_ifE ?_ | with_reducible refine wd_andV ?_ | with_reducible refine wd_orV ?_ | with_reducible refine wd_notV ?_
  | with_reducible refine ws_seq ?_ | with_reducible refine ws_next ?_ | with_reducible refine ws_asg ?_ | with_reducible refine ws_ret ?_ | with_reducible refine ws_retN ?_ | with_reducible refine ws_if ?_ | with_reducible refine ws_par ?_ | with_reducible refine ws_unp2 ?_
  | with_reducible refine if_t ?_ | with_reducible refine if_f ?_ | with_reducible refine if_nf ?_ | with_reducible refine if_nt ?_
  | ((with_reducible show Exists _); first | refine ⟨_, kitInt _, ?_⟩ | refine ⟨_, kitBool _, ?_⟩ | refine ⟨_, kitTup _, ?_⟩ | refine ⟨_, kitList _, ?_⟩ | refine ⟨_, rfl, ?_⟩ | refine ⟨_, _, rfl, ?_⟩ | fail) | fail))
theorem run_yatX {K : PySem.W.Frag} {C : Addr} {vs : List V} {H : Hp} {Q : VK} {E : XK} (h : spX K (TYx C) vs H Q E) : t_yatX K C E { nx := fun _ H' => Q .non H', rt := Q } (L2.start ["line", "x"] vs) H := by
  obtain ⟨N, ds, Φ, Ψ, ht, hd, ⟨l, x, rfl, hx, hC⟩, _, hE⟩ := h
  have wt : WT K S0 (tTest (tOp rLt (tOp (rIxT K) (tVar 1) (tC (.int 0))) (tC (.int 0)))) (rhoOf 2 [l, qp x]) fun b _ => b = true := by
    show WT K S0 _ [.dat l, .dat (qp x)] _
    walk_at "dl"
    have h1 : x.num < 0 := by
      have := Rat.num_nonneg (q := x)
      by_cases q : 0 ≤ x.num
      · have := this.mp q; grind
      · omega
    simpa using h1
  refine wt H N [] N (L2.start ["line", "x"] vs) H (env_start (Nm := ["line", "x"]) ht hd) _ fun b ρ1 H1 eb E1 k1 => ?_
  subst eb
  show (if true = true then _ else _)
  rw [if_pos rfl]
  exact hE _ hC H1 fun b o q => E1.keep b o rfl q
/-! ### told or refused -/
def TTold : List PyData → (PyData → Prop) → Prop := fun ds Φ => ∃ (l : PyData) (x : Rat), ds = [l, qp x] ∧ x < 0 ∧ Φ (.str "amount")
def ts_told (a : Addr) : TS := tAsg (tVar 4) (gName 2)
def tb_told (K : PySem.W.Frag) (C : Addr) (W : WX) : TS := tAsg (tCallS (spX K (TYx C)) (WE W) (tCons (tVar 0) (tCons (tVar 1) tNil))) (gName 3)
def te_told (K : PySem.W.Frag) (C : Addr) : TE := tIf (tTest (tOp rIsNone (tVar 2) (tC .non))) (tVar 3) (tCall (spW K C "amount") [] E0 (tCons (tVar 2) tNil))
def t_told (K : PySem.W.Frag) (C P : Addr) : TS :=
  (tSeq (tAsg (tC .non) (gName 2))
    (tSeq (tAsg (tC .non) (gName 3))
    (tSeq (fun D σ H => tb_told K C (wKeep K (.ref P) 4 ts_told D) D σ H)
    (tRet (te_told K C)))))
/-! ### the line of one part -/
def TFlat : List PyData → (PyData → Prop) → Prop := fun ds Φ => ∃ y : Rat, ds = [qp y] ∧ Φ (lnD [(0, y)] 0)
def t_flat (K : PySem.W.Frag) (a_NOUGHT : Addr) : TS :=
  (tRet (tTup (tCons (tTup (tCons (tTup (tCons (tC (.ref a_NOUGHT)) (tCons (tVar 0) tNil))) tNil)) (tCons (tC (.ref a_NOUGHT)) tNil))))
end DL

set_option Elab.async false
set_option linter.all false
set_option maxRecDepth 100000
set_option maxHeartbeats 4000000
/-! LQ7: the law of heights -/
namespace DL
open PySem PySem.Spec PyProof.Rows L2
section
variable {K : PySem.W.Frag} {S : Stt} {ρ : Rho} {Φ : PyData → Rho → Prop} {Ψ : PyData → Prop}
abbrev rInt1 : List V → Hp → VK → Prop := fun xs H Q => (∃ i, xs = [.int i] ∧ Q (.int i) H) ∨ ∃ k, xs = [.bl k] ∧ Q (.int (if k then 1 else 0)) H
theorem dc_intB {b : Bool} (h : Ψ (.int (if b then 1 else 0))) : DC K rInt1 [.bool b] Ψ := fun N H _ us hu Q q => by
  cases hu with
  | cons d1 d2 =>
    cases d2
    cases d1
    exact .inr ⟨b, rfl, q _ _ H h (Same.refl H) (Dt.int _)⟩
/-- the cells of the script, folded -/
theorem wd_folded {E : XK} {i : Nat} {ns : List Int} {m : Int} (h : ρ[i]? = some (.scr ns)) (hl : ns.length ≤ 63) (m1 : 1 ≤ m) (m2 : m ≤ 1000) (f : ∀ cs : List Int, (cs.length : Int) ≤ m → cs.length ≤ 63 → Φ (.list (cs.map PyData.int)) ρ) :
    WD K S (tCall (spF K) [] E (tCons (tVar i) (tCons (tC (.int m)) tNil))) ρ Φ := fun H0 N0 Z N σ H E' Q q => by
  obtain ⟨a, h1, h2⟩ := E'.slot i _ h
  refine ⟨_, h1, a, ns, m, rfl, (Same.wo1).seq h2, hl, m1, m2, fun cs c1 c2 p H' hp sm hp' => ?_⟩
  exact q _ _ ρ H' (f cs c1 c2) (E'.ext sm) (Keep.of sm) (Dq.lst (fresh_av E'.trk hp) hp' DqAll.ints)
theorem wt_yes {Θ : Bool → Rho → Prop} (h : Θ true ρ) : WT K S tYes ρ Θ := fun H0 N0 Z N σ H E Q q => q true ρ H h E Keep.refl
theorem do_ix2 {a b : Int} {c : Bool} (f : ∀ z : Int, z = a ∨ z = b → Ψ (.int z)) : DO K (rIxL K) (.list [.int a, .int b]) (.int (if c then 1 else 0)) Ψ := by
  cases c
  · exact do_ixL rfl (f _ (.inl rfl))
  · exact do_ixL rfl (f _ (.inr rfl))
end
local macro_rules | `(tactic| walk_at "dl") => `(tactic| repeat' (first
  | with_reducible refine wd_isTy ?_ | with_reducible refine wd_isi ?_ | with_reducible refine wd_op ?_ | ((with_reducible show WD _ _ (tCB (rLenX _) (tCons (tVar _) tNil)) _ _); refine wd_len_scr rfl ?_) | with_reducible refine wd_cb ?_ | with_reducible refine wd_un ?_ | with_reducible refine wa_cons ?_ | with_reducible refine wa_nil ?_ | ((with_reducible show WD _ _ (tVar _) _ _); refine wd_var rfl ?_) | with_reducible refine wd_int ?_ | with_reducible refine wd_bl ?_ | with_reducible refine wd_str ?_ | with_reducible refine wd_non ?_
  | with_reducible refine do_nesS ?_ | with_reducible refine dc_intB ?_ | with_reducible refine do_add ?_ | with_reducible refine do_sub ?_ | ((with_reducible refine do_mod ?_ ?_); decide) | with_reducible refine do_mod ?_ ?_ | with_reducible refine do_mul ?_ ?_ | ((with_reducible refine do_div ?_ ?_); exact ⟨by decide, by decide⟩) | with_reducible refine do_div ?_ ?_ | ((with_reducible refine do_pow ?_ ?_); exact ⟨by decide, by decide, by decide⟩) | with_reducible refine do_pow ?_ ?_
  | with_reducible refine do_lt ?_ | with_reducible refine do_le ?_ | with_reducible refine do_gt ?_ | with_reducible refine do_ge ?_ | with_reducible refine du_neg ?_
  | with_reducible refine do_eqi ?_ | with_reducible refine do_nei ?_ | with_reducible refine do_eqs ?_ | with_reducible refine do_nes ?_ | with_reducible refine dc_abs ?_ | with_reducible refine dc_min ?_ | with_reducible refine dc_max ?_ | with_reducible refine dc_lenL ?_ | with_reducible refine dc_lenT ?_ | with_reducible refine dc_gcd ?_
  | ((with_reducible show DO _ (rIxT _) _ _ _); refine do_ixT rfl ?_) | ((with_reducible show DO _ (rIxL _) _ _ _); refine do_ixL rfl ?_) | ((with_reducible refine do_catL ?_ ?_); exact Nat.le_of_ble_eq_true rfl) | with_reducible refine do_catL ?_ ?_ | ((with_reducible show And (List.length _ ≤ sizeLine) _); refine ⟨Nat.le_of_ble_eq_true rfl, ?_⟩)
  | with_reducible refine wd_dnew ?_ | with_reducible refine wd_call0 ?_ | with_reducible refine wd_slA ?_ | with_reducible refine wo_part ?_ | with_reducible refine wo_none ?_ | with_reducible refine do_eqQ ?_ | with_reducible refine do_neQ ?_ | with_reducible refine wi_enumT ?_ | with_reducible refine tAdQ (by omega) (by omega) ?_ | with_reducible refine tSbQ (by omega) (by omega) ?_ | with_reducible refine tMlQ (by omega) (by omega) ?_ | with_reducible refine tDvQ (by assumption) (by omega) (by omega) ?_ | with_reducible refine tLtQ (by omega) (by omega) ?_ | with_reducible refine dc_str ?_ ?_ | with_reducible refine wd_tup ?_ | with_reducible refine wd_lst ?_ | with_reducible refine wt_test ?_ | with_reducible refine wt_B ?_ | with_reducible refine wt_not ?_ | with_reducible refine wt_and ?_ | with_reducible refine wt_or ?_ | with_reducible refine wd_ifE ?_ | with_reducible refine wd_andV ?_ | with_reducible refine wd_orV ?_ | with_reducible refine wd_notV ?_
  | with_reducible refine ws_seq ?_ | with_reducible refine ws_next ?_ | with_reducible refine ws_asg ?_ | with_reducible refine ws_ret ?_ | with_reducible refine ws_retN ?_ | with_reducible refine ws_if ?_ | with_reducible refine ws_par ?_ | with_reducible refine ws_unp2 ?_
  | with_reducible refine if_t ?_ | with_reducible refine if_f ?_ | with_reducible refine if_nf ?_ | with_reducible refine if_nt ?_
  | ((with_reducible show Exists _); first | refine ⟨_, kitInt _, ?_⟩ | refine ⟨_, kitBool _, ?_⟩ | refine ⟨_, kitTup _, ?_⟩ | refine ⟨_, kitList _, ?_⟩ | refine ⟨_, rfl, ?_⟩ | refine ⟨_, _, rfl, ?_⟩ | fail) | fail))
def t_law7 (K : PySem.W.Frag) : TS :=
  (tSeq (tFor (iEnum K (tCons (tOp rCatL (tLst (tCons (tC (.int 0)) tNil)) (tCall (spF K) [] E0 (tCons (tVar 0) (tCons (tC (.int 20)) tNil)))) tNil)) (gTup K 2 (gCons (gName 1) (gCons (gName 2) gNil))) (tSeq (tAsg (tCall (spN K TPot) [] E0 (tCons (tVar 2) (tCons (tVar 1) tNil))) (gName 3))
    (tSeq (tAsg (tCall (spS K FPot TLine) [] E0 (tCons (tVar 3) (tCons (tOp (rIxL K) (tLst (tCons (tC (.int 12)) (tCons (tC (.int 60)) tNil))) (tCB rInt1 (tCons (tOp rEq (tVar 1) (tC (.int 1))) tNil))) tNil))) (gName 4))
    (tSeq (tAsg (tLc (iTup K (tOp (rIxT K) (tVar 4) (tC (.int 0)))) (gName 10) tYes (tOp (rIxT K) (tVar 10) (tC (.int 0))) [10]) (gName 5))
    (tSeq (tFor (iRng1 (tCons (tC (.int 4)) tNil)) (gName 6) (tSeq (tAsg (tOp (rIxL K) (tVar 5) (tCall (spS K FPot TTake) [] E0 (tCons (tVar 3) (tCons (tCB (rLenX K) (tCons (tOp (rIxT K) (tVar 4) (tC (.int 0))) tNil)) tNil)))) (gName 7))
    (tDrop (tBM K "list" rAppend (tVar 5) (tCons (tCall (spP K TAdQ) [] E0 (tCons (tVar 7) (tCons (tCall (spP K TLow) [] E0 (tCons (tCall (spS K FPot TTake) [] E0 (tCons (tVar 3) (tCons (tC (.int 9)) tNil))) (tCons (tOp (rIxL K) (tLst (tCons (tC (.int 1)) (tCons (tC (.int 7)) tNil))) (tCB rInt1 (tCons (tOp rLt (tOp (rIxT K) (tVar 7) (tC (.int 1))) (tC (.int 100))) tNil))) tNil))) tNil))) tNil)))))
    (tSeq (tAsg (tOp rCatL (tVar 5) (tLst (tCons (tCall (spP K TLow) [] E0 (tCons (tCall (spS K FPot TTake) [] E0 (tCons (tVar 3) (tCons (tOp rPowI (tC (.int 10)) (tC (.int 6))) tNil))) (tCons (tOp rAddI (tC (.int 1)) (tCall (spS K FPot TTake) [] E0 (tCons (tVar 3) (tCons (tC (.int 1000)) tNil)))) tNil))) (tCons (tTup (tCons (tOp rPowI (tC (.int 10)) (tC (.int 6))) (tCons (tC (.int 1)) tNil))) tNil)))) (gName 5))
    (tSeq (tFor (iList K (tVar 5)) (gName 8) (tIfS (tTest (tOp rNe (tCB (rRepr K) (tCons (tLst (tCons (tCall (spP K TYat) [] E0 (tCons (tVar 4) (tCons (tVar 8) tNil))) (tCons (tCall (spP K TYat) [] E0 (tCons (tVar 4) (tCons (tVar 8) tNil))) tNil))) tNil)) (tCB (rRepr K) (tCons (tLst (tCons (tCall (spP K TYat) [] E0 (tCons (tVar 4) (tCons (tVar 8) tNil))) (tCons (tCall (spP K TYat) [] E0 (tCons (tVar 4) (tCons (tVar 8) tNil))) tNil))) tNil)))) (tRet (tC (.bl false))) tNext))
    (tSeq (tIfS (tTest (tOp rNe (tCall (spP K TTold) [] E0 (tCons (tVar 4) (tCons (tCall (spP K TLow) [] E0 (tCons (tOp rSubI (tUn rNegI (tC (.int 1))) (tCall (spS K FPot TTake) [] E0 (tCons (tVar 3) (tCons (tC (.int 99)) tNil)))) (tCons (tOp rAddI (tC (.int 1)) (tCall (spS K FPot TTake) [] E0 (tCons (tVar 3) (tCons (tC (.int 99)) tNil)))) tNil))) tNil))) (tC (.str "amount")))) (tRet (tC (.bl false))) tNext)
    (tSeq (tAsg (tCall (spP K TLow) [] E0 (tCons (tOp rSubI (tCall (spS K FPot TTake) [] E0 (tCons (tVar 3) (tCons (tC (.int 2001)) tNil))) (tC (.int 1000))) (tCons (tOp rAddI (tC (.int 1)) (tCall (spS K FPot TTake) [] E0 (tCons (tVar 3) (tCons (tC (.int 1000)) tNil)))) tNil))) (gName 9))
    (tIfS (tOr (tTest (tOp rNe (tCB (rRepr K) (tCons (tCall (spP K TFlat) [] E0 (tCons (tVar 9) tNil)) tNil)) (tCB (rRepr K) (tCons (tTup (tCons (tTup (tCons (tTup (tCons (tTup (tCons (tC (.int 0)) (tCons (tC (.int 1)) tNil))) (tCons (tVar 9) tNil))) tNil)) (tCons (tTup (tCons (tC (.int 0)) (tCons (tC (.int 1)) tNil))) tNil))) tNil)))) (tTest (tOp (rNeD K) (tCall (spP K TYat) [] E0 (tCons (tCall (spP K TFlat) [] E0 (tCons (tVar 9) tNil)) (tCons (tTup (tCons (tOp rPowI (tC (.int 10)) (tC (.int 6))) (tCons (tC (.int 7)) tNil))) tNil))) (tVar 9)))) (tRet (tC (.bl false))) tNext))))))))))
    (tRet (tC (.bl true))))
theorem Ln.nn {B : Nat} {ks : Kn} {s : Rat} (h : Ln B ks s) {i : Nat} (hi : i < ks.length) : 0 ≤ (kn ks i).1 := by
  by_cases e : i = 0
  · subst e; rw [h.fst]; exact Rat.le_refl
  · have := h.ris.lt (i := 0) (j := i) (by omega) hi
    rw [h.fst] at this; exact Rat.le_of_lt this
/-- what is asked of -/
def Ask (x : Rat) : Prop := 0 ≤ x ∧ sz x ≤ 100
end DL

set_option Elab.async false
set_option linter.all false
set_option maxRecDepth 100000
set_option maxHeartbeats 4000000
namespace DL
open PySem PySem.Spec PyProof.Rows L2
/-- a law that asks without a store in front -/
theorem run_law0 {K : PySem.W.Frag} {n : Nat} {Nm : List Str} {ts : TS} {vs : List V} {H : Hp} {Q : VK} {E : XK} (hn : Nm.length = n + 1) (h : spLaw K vs H Q E)
    (b : ∀ ns, ns.length ≤ 63 → WS K S0 ts (.scr ns :: List.replicate n .unk) { nx := fun _ => False, rt := fun d _ => d = .bool true }) :
    ts { nx := fun _ H' => Q .non H', rt := Q } (L2.start Nm vs) H := by
  obtain ⟨a, ns, rfl, hs, hl, hQ⟩ := h
  have e0 : L2.start Nm [V.ref a] = some (.ref a) :: List.replicate n none := by
    show [some (V.ref a)] ++ List.replicate (Nm.length - 1) none = _
    rw [hn, show n + 1 - 1 = n by omega]
    rfl
  rw [e0]
  have rep : ∀ {i : Nat} {s : Sl}, (List.replicate n Sl.unk)[i]? = some s → s = .unk := fun {i s} h => by
    rw [List.getElem?_replicate] at h
    split at h
    · exact (Option.some.inj h).symm
    · cases h
  have woF : ∀ G : Hp, wo (fun _ => false) G = G := fun G => by funext b; rfl
  have E1 : EnvD K S0 (fun _ => none) (fun _ => false) [] (fun _ => false) (some (V.ref a) :: List.replicate n none) H (.scr ns :: List.replicate n .unk) := {
    keep := fun _ _ _ h => (nomatch h), base := fun _ h => (nomatch h), trk := fun _ h => (nomatch h), sub := fun _ h => (nomatch h), len := by simp, hid := fun _ h => (nomatch h), injZ := fun i j di dj p h => by simp at h
    slot := fun i s h => by
      match i, h with
      | 0, h => cases h; exact ⟨a, rfl, by rw [woF]; exact hs⟩
      | i + 1, h =>
        have e : s = .unk := rep (i := i) (by simpa using h)
        subst e
        trivial
    injH := fun i di dj p h1 h2 hz => by cases hz
    inj := fun i j di dj p h1 => by
      match i, h1 with
      | 0, h => cases h
      | i + 1, h =>
        have e : Sl.own di = .unk := rep (i := i) (by simpa using h)
        cases e }
  refine b ns hl _ _ _ _ _ _ _ E1 ⟨fun _ _ _ _ q => q.elim, fun N' σ' H2 ρ' v d q E2 dv => ?_, fun _ _ _ _ q => q.elim, fun _ _ _ _ q => q.elim⟩
  have q' : d = .bool true := q
  subst q'
  have e : v = .bl true := dv.bool_inv
  subst e
  exact hQ H2
end DL

set_option Elab.async false
set_option linter.all false
set_option maxRecDepth 100000
set_option maxHeartbeats 4000000
/-! K02: what is a part, what an amount -/
namespace DL
open PySem PySem.Spec PyProof.Rows L2
local macro_rules | `(tactic| walk_at "dl") => `(tactic| repeat' (first
  | with_reducible refine wd_isTy ?_ | with_reducible refine wd_isi ?_ | with_reducible refine wd_op ?_ | with_reducible refine wd_cb ?_ | with_reducible refine wd_un ?_ | with_reducible refine wa_cons ?_ | with_reducible refine wa_nil ?_ | ((with_reducible show WD _ _ (tVar _) _ _); refine wd_var rfl ?_) | with_reducible refine wd_int ?_ | with_reducible refine wd_bl ?_ | with_reducible refine wd_str ?_ | with_reducible refine wd_non ?_
  | with_reducible refine do_add ?_ | with_reducible refine do_sub ?_ | ((with_reducible refine do_mod ?_ ?_); decide) | with_reducible refine do_mod ?_ ?_ | with_reducible refine do_mul ?_ ?_ | ((with_reducible refine do_div ?_ ?_); exact ⟨by decide, by decide⟩) | with_reducible refine do_div ?_ ?_ | ((with_reducible refine do_pow ?_ ?_); exact ⟨by decide, by decide, by decide⟩) | with_reducible refine do_pow ?_ ?_
  | with_reducible refine do_lt ?_ | with_reducible refine do_le ?_ | with_reducible refine do_gt ?_ | with_reducible refine do_ge ?_ | with_reducible refine du_neg ?_
  | with_reducible refine do_eqi ?_ | with_reducible refine do_nei ?_ | with_reducible refine do_eqs ?_ | with_reducible refine do_nes ?_ | with_reducible refine dc_abs ?_ | with_reducible refine dc_min ?_ | with_reducible refine dc_max ?_ | with_reducible refine dc_lenL ?_ | with_reducible refine dc_lenT ?_ | with_reducible refine dc_gcd ?_
  | ((with_reducible show DO _ (rIxT _) _ _ _); refine do_ixT rfl ?_) | ((with_reducible show DO _ (rIxL _) _ _ _); refine do_ixL rfl ?_) | with_reducible refine do_catL ?_ ?_
  | with_reducible refine wd_dnew ?_ | with_reducible refine wd_call0 ?_ | with_reducible refine dc_str ?_ ?_ | with_reducible refine wd_tup ?_ | with_reducible refine wd_lst ?_ | with_reducible refine wt_test ?_ | with_reducible refine wt_B ?_ | with_reducible refine wt_not ?_ | with_reducible refine wt_and ?_ | with_reducible refine wt_or ?_ | with_reducible refine wd_ifE ?_ | with_reducible refine wd_andV ?_ | with_reducible refine wd_orV ?_ | with_reducible refine wd_notV ?_
  | with_reducible refine ws_seq ?_ | with_reducible refine ws_next ?_ | with_reducible refine ws_asg ?_ | with_reducible refine ws_ret ?_ | with_reducible refine ws_retN ?_ | with_reducible refine ws_if ?_ | with_reducible refine ws_par ?_ | with_reducible refine ws_unp2 ?_
  | with_reducible refine if_t ?_ | with_reducible refine if_f ?_ | with_reducible refine if_nf ?_ | with_reducible refine if_nt ?_
  | ((with_reducible show Exists _); first | refine ⟨_, kitInt _, ?_⟩ | refine ⟨_, kitBool _, ?_⟩ | refine ⟨_, kitTup _, ?_⟩ | refine ⟨_, kitList _, ?_⟩ | refine ⟨_, rfl, ?_⟩ | refine ⟨_, _, rfl, ?_⟩ | fail) | fail))

def isW (d : PyData) : Bool := tyD d == "int"
def isPartD : PyData → Bool
  | .tuple [.int a, .int b] => decide (1 ≤ b) && decide (Nat.gcd a.natAbs b.natAbs = 1)
  | _ => false
def isAmtD : PyData → Bool
  | .tuple [.int a, .int b] => decide (1 ≤ b) && decide (Nat.gcd a.natAbs b.natAbs = 1) && decide (0 ≤ a)
  | _ => false
theorem isW_int {d : PyData} (h : isW d = true) : ∃ i, d = .int i := by
  cases d <;> first | exact ⟨_, rfl⟩ | (simp [isW, tyD] at h)
def TWhole : List PyData → (PyData → Prop) → Prop := fun ds Φ => ∃ d, ds = [d] ∧ Φ (.bool (isW d))
def TPartB : List PyData → (PyData → Prop) → Prop := fun ds Φ => ∃ d, ds = [d] ∧ Φ (.bool (isPartD d))
def TAmountB : List PyData → (PyData → Prop) → Prop := fun ds Φ => ∃ d, ds = [d] ∧ Φ (.bool (isAmtD d))
def GoodD (d : PyData) : Prop := ∀ a b, d = .tuple [.int a, .int b] → a.natAbs < 2 ^ 8000 ∧ b.natAbs < 2 ^ 8000
def TIsPart : List PyData → (PyData → Prop) → Prop := fun ds Φ => ∃ d, ds = [d] ∧ GoodD d ∧ Φ (.bool (isPartD d))
/-- a part, told for judging -/
structure PBig (n d : Int) : Prop where
  d1 : 1 ≤ d
  d2 : d ≤ 10 ^ 30
  n1 : n.natAbs ≤ 10 ^ 30
def TSpoilt : Nat → List PyData → (PyData → Nat → Prop) → Prop := fun B ds Φ => ∃ n d, ds = [pr (n, d)] ∧ PBig n d ∧ B + 800 ≤ 2 ^ 40 ∧ ∀ z, GoodD z → Φ z (B + 800)
def TThing : Nat → List PyData → (PyData → Nat → Prop) → Prop := fun B ds Φ => ds = [] ∧ B + 6000 ≤ 2 ^ 40 ∧ ∀ z B', GoodD z → B' ≤ B + 6000 → Φ z B'
def t_law_whole (K : PySem.W.Frag) : TS :=
  (tRet (tAndV (tCB (rIsi K) (tCons (tVar 0) (tCons (tC (.ty "int")) tNil))) (tNotV (tCB (rIsi K) (tCons (tVar 0) (tCons (tC (.ty "bool")) tNil))))))

def t_law_is_part (K : PySem.W.Frag) : TS :=
  (tSeq (tIfS (tOr (tNot (tB (tCB (rIsi K) (tCons (tVar 0) (tCons (tC (.ty "tuple")) tNil))))) (tOr (tTest (tOp rNe (tCB (rLenX K) (tCons (tVar 0) tNil)) (tC (.int 2)))) (tOr (tNot (tB (tCall (spP K TWhole) [] E0 (tCons (tOp (rIxT K) (tVar 0) (tC (.int 0))) tNil)))) (tNot (tB (tCall (spP K TWhole) [] E0 (tCons (tOp (rIxT K) (tVar 0) (tC (.int 1))) tNil))))))) (tRet (tC (.bl false))) tNext)
    (tRet (tAndV (tOp rGt (tOp (rIxT K) (tVar 0) (tC (.int 1))) (tC (.int 0))) (tOp (rEqD K) (tCall (spP K TPart) [] E0 (tCons (tOp (rIxT K) (tVar 0) (tC (.int 0))) (tCons (tOp (rIxT K) (tVar 0) (tC (.int 1))) tNil))) (tVar 0)))))

def t_law_spoilt (K : PySem.W.Frag) : TS :=
  (tSeq (tAsg (tCall (spS K FSto TDr) [] E0 (tCons (tVar 0) (tCons (tC (.int 14)) tNil))) (gName 2))
    (tSeq (tAsg (tOp rAddI (tC (.int 2)) (tCall (spS K FSto TDr) [] E0 (tCons (tVar 0) (tCons (tC (.int 9)) tNil)))) (gName 3))
    (tSeq (tAsg (tVar 1) (gTup K 2 (gCons (gName 4) (gCons (gName 5) gNil))))
    (tSeq (tAsg (tLst (tCons (tVar 1) (tCons (tTup (tCons (tOp rMulI (tVar 3) (tVar 4)) (tCons (tOp rMulI (tVar 3) (tVar 5)) tNil))) (tCons (tTup (tCons (tVar 4) (tCons (tOp rSubI (tC (.int 0)) (tVar 5)) tNil))) (tCons (tTup (tCons (tVar 4) (tCons (tC (.int 0)) tNil))) (tCons (tTup (tCons (tOp rSubI (tC (.int 0)) (tVar 4)) (tCons (tVar 5) tNil))) (tCons (tTup (tCons (tVar 4) (tCons (tC (.bl true)) tNil))) tNil))))))) (gName 6))
    (tSeq (tAsg (tOp rCatL (tVar 6) (tLst (tCons (tTup (tCons (tC (.bl true)) (tCons (tVar 5) tNil))) (tCons (tTup (tCons (tCB rStrI (tCons (tVar 4) tNil)) (tCons (tVar 5) tNil))) (tCons (tTup (tCons (tVar 4) (tCons (tC .non) tNil))) (tCons (tLst (tCons (tVar 4) (tCons (tVar 5) tNil))) (tCons (tTup (tCons (tVar 4) tNil)) (tCons (tTup (tCons (tVar 4) (tCons (tVar 5) (tCons (tC (.int 1)) tNil)))) tNil)))))))) (gName 6))
    (tRet (tOp (rIxL K) (tOp rCatL (tVar 6) (tLst (tCons (tTup (tCons (tVar 1) tNil)) (tCons (tTup (tCons (tC (.int 0)) (tCons (tVar 3) tNil))) tNil)))) (tVar 2))))))))

def t_law_thing (K : PySem.W.Frag) : TS :=
  (tSeq (tAsg (tCall (spS K FSto TDr) [] E0 (tCons (tVar 0) (tCons (tC (.int 6)) tNil))) (gName 1))
    (tSeq (tAsg (tCall (spS K FSto TSmall) [] E0 (tCons (tVar 0) tNil)) (gName 2))
    (tSeq (tAsg (tCall (spP K TPart) [] E0 (tCons (tCall (spS K FSto TDr) [] E0 (tCons (tVar 0) (tCons (tOp rPowI (tC (.int 10)) (tC (.int 30))) tNil))) (tCons (tOp rAddI (tC (.int 1)) (tCall (spS K FSto TDr) [] E0 (tCons (tVar 0) (tCons (tOp rPowI (tC (.int 10)) (tC (.int 30))) tNil)))) tNil))) (gName 3))
    (tSeq (tIfS (tTest (tOp rEq (tVar 1) (tC (.int 0)))) (tRet (tOp (rIxL K) (tLst (tCons (tC .non) (tCons (tC (.int 7)) (tCons (tC (.bl true)) (tCons (tC (.str "")) (tCons (tTup tNil) (tCons (tLst tNil) (tCons tDNewK (tCons (tTup (tCons (tC (.int 0)) (tCons (tC (.int 1)) tNil))) (tCons (tTup (tCons (tC (.int 1)) (tCons (tC (.int 1)) tNil))) (tCons (tTup (tCons (tC (.int 0)) (tCons (tC (.int 0)) tNil))) (tCons (tTup (tCons (tC (.int 1)) (tCons (tUn rNegI (tC (.int 1))) tNil))) (tCons (tTup (tCons (tTup (tCons (tC (.int 0)) (tCons (tC (.int 1)) tNil))) (tCons (tTup (tCons (tC (.int 0)) (tCons (tC (.int 1)) tNil))) tNil))) tNil))))))))))))) (tCall (spS K FSto TDr) [] E0 (tCons (tVar 0) (tCons (tC (.int 12)) tNil))))) tNext)
    (tSeq (tIfS (tTest (tOp rEq (tVar 1) (tC (.int 1)))) (tRet (tVar 3)) tNext)
    (tSeq (tIfS (tTest (tOp rEq (tVar 1) (tC (.int 2)))) (tRet (tCall (spS K FSto TSpoilt) [] E0 (tCons (tVar 0) (tCons (tVar 3) tNil)))) tNext)
    (tRet (tCall (spS K FSto TSpoilt) [] E0 (tCons (tVar 0) (tCons (tVar 2) tNil))))))))))

def t_is_whole (K : PySem.W.Frag) : TS :=
  (tRet (tOp rIsTyX (tCB (rTyp K) (tCons (tVar 0) tNil)) (tC (.ty "int"))))

def t_is_part (K : PySem.W.Frag) : TS :=
  (tSeq (tIfS (tNot (tAnd (tTest (tOp rIsTyX (tCB (rTyp K) (tCons (tVar 0) tNil)) (tC (.ty "tuple")))) (tTest (tOp rEq (tCB (rLenX K) (tCons (tVar 0) tNil)) (tC (.int 2)))))) (tRet (tC (.bl false))) tNext)
    (tSeq (tAsg (tVar 0) (gTup K 2 (gCons (gName 1) (gCons (gName 2) gNil))))
    (tRet (tAndV (tCall (spP K TWhole) [] E0 (tCons (tVar 1) tNil)) (tAndV (tCall (spP K TWhole) [] E0 (tCons (tVar 2) tNil)) (tAndV (tOp rGe (tVar 2) (tC (.int 1))) (tOp rEq (tCB rGcd (tCons (tVar 1) (tCons (tVar 2) tNil))) (tC (.int 1)))))))))

def t_is_amount (K : PySem.W.Frag) : TS :=
  (tRet (tAndV (tCall (spP K TPartB) [] E0 (tCons (tVar 0) tNil)) (tOp rGe (tOp (rIxT K) (tVar 0) (tC (.int 0))) (tC (.int 0)))))



theorem isW_dec (d : PyData) : decide (tyD d = "int") = isW d := by
  unfold isW
  by_cases h : tyD d = "int"
  · rw [decide_eq_true h, h]; rfl
  · rw [decide_eq_false h]; exact (beq_eq_false_iff_ne.mpr h).symm
section
variable {K : PySem.W.Frag} {S : Stt}
theorem ws_is_whole {ds : List PyData} {Φ : PyData → Prop} (h : TWhole ds Φ) : WS K S0 (t_is_whole K) (rhoOf 1 ds) { nx := fun _ => Φ .none, rt := fun d _ => Φ d } := by
  obtain ⟨d, rfl, h⟩ := h
  show WS K S0 (t_is_whole K) [.dat d] _
  unfold t_is_whole
  walk_at "dl"
  rw [isW_dec]; exact h
theorem tuple2 {ds : List PyData} (h : (ds.length : Int) = 2) : ∃ x y, ds = [x, y] := by
  match ds, h with
  | [x, y], _ => exact ⟨x, y, rfl⟩
  | [], h => simp at h
  | [_], h => simp at h
  | _ :: _ :: _ :: r, h => simp at h; omega
theorem isPart_no {ds : List PyData} (h : ¬ (ds.length : Int) = 2) : isPartD (.tuple ds) = false := by
  match ds, h with
  | [x, y], h => exact absurd rfl h
  | [], h => rfl
  | [x], h => cases x <;> rfl
  | x :: y :: _ :: r, h => cases x <;> first | rfl | (cases y <;> rfl)
theorem isPart_l {x y : PyData} (h : isW x = false) : isPartD (.tuple [x, y]) = false := by
  cases x <;> first | rfl | (simp [isW, tyD] at h)
theorem isPart_r {x : Int} {y : PyData} (h : isW y = false) : isPartD (.tuple [.int x, y]) = false := by
  cases y <;> first | rfl | (simp [isW, tyD] at h)
theorem ws_is_part {ds : List PyData} {Φ : PyData → Prop} (h : TPartB ds Φ) : WS K S0 (t_is_part K) (rhoOf 3 ds) { nx := fun _ => Φ .none, rt := fun d _ => Φ d } := by
  obtain ⟨d, rfl, h⟩ := h
  show WS K S0 (t_is_part K) [.dat d, .unk, .unk] _
  unfold t_is_part
  walk_at "dl"
  with_reducible refine if_b (fun ht => ?_) (fun ht => ?_)
  · cases d with
    | tuple xs =>
      walk_at "dl"
      by_cases h2 : (xs.length : Int) = 2
      · obtain ⟨x, y, rfl⟩ := tuple2 h2
        walk_at "dl"
        refine if_f ?_
        walk_at "dl"
        refine ⟨_, rfl, _, rfl, ?_⟩
        cases hx : isW x with
        | false => rw [isPart_l hx] at h; exact h
        | true =>
          obtain ⟨i, rfl⟩ := isW_int hx
          refine if_t ?_
          walk_at "dl"
          refine ⟨_, rfl, _, rfl, ?_⟩
          cases hy : isW y with
          | false => rw [isPart_r hy] at h; exact h
          | true =>
            obtain ⟨j, rfl⟩ := isW_int hy
            refine if_t ?_
            walk_at "dl"
            with_reducible refine if_b (fun h1 => ?_) (fun h1 => ?_)
            · walk_at "dl"
              have e : isPartD (.tuple [.int i, .int j]) = decide (((Nat.gcd i.natAbs j.natAbs : Nat) : Int) = 1) := by
                show (decide (1 ≤ j) && decide (Nat.gcd i.natAbs j.natAbs = 1)) = _
                rw [decide_eq_true h1, Bool.true_and]
                by_cases hg : Nat.gcd i.natAbs j.natAbs = 1
                · rw [decide_eq_true hg, decide_eq_true (by omega)]
                · rw [decide_eq_false hg, decide_eq_false (by omega)]
              rw [e] at h
              exact h
            · have e : isPartD (.tuple [.int i, .int j]) = false := by
                show (decide (1 ≤ j) && decide (Nat.gcd i.natAbs j.natAbs = 1)) = _
                rw [decide_eq_false h1, Bool.false_and]
              rw [e] at h
              exact h
      · rw [decide_eq_false h2]
        refine if_t ?_
        walk_at "dl"
        rw [isPart_no h2] at h; exact h
    | none => exact absurd ht (by decide)
    | bool b => exact absurd ht (by simp [tyD])
    | int b => exact absurd ht (by simp [tyD])
    | str b => exact absurd ht (by simp [tyD])
    | list b => exact absurd ht (by simp [tyD])
    | dict b => exact absurd ht (by simp [tyD])
  · walk_at "dl"
    cases d with
    | tuple xs => exact absurd rfl ht
    | none => exact h
    | bool b => exact h
    | int b => exact h
    | str b => exact h
    | list b => exact h
    | dict b => exact h
theorem isAmt_and (d : PyData) (h : isPartD d = true) : ∃ a b, d = .tuple [.int a, .int b] ∧ isAmtD d = decide (0 ≤ a) := by
  match d, h with
  | .tuple [.int a, .int b], h =>
    refine ⟨a, b, rfl, ?_⟩
    show (isPartD (.tuple [.int a, .int b]) && decide (0 ≤ a)) = _
    rw [h, Bool.true_and]
theorem isAmt_no (d : PyData) (h : isPartD d = false) : isAmtD d = false := by
  match d, h with
  | .tuple [.int a, .int b], h =>
    show (isPartD (.tuple [.int a, .int b]) && decide (0 ≤ a)) = _
    rw [h, Bool.false_and]
  | .none, h => rfl
  | .bool _, h => rfl
  | .int _, h => rfl
  | .str _, h => rfl
  | .list _, h => rfl
  | .dict _, h => rfl
  | .tuple [], h => rfl
  | .tuple [x], h => cases x <;> rfl
  | .tuple (x :: y :: _ :: _), h => cases x <;> first | rfl | (cases y <;> rfl)
  | .tuple [.none, _], h => rfl
  | .tuple [.bool _, _], h => rfl
  | .tuple [.str _, _], h => rfl
  | .tuple [.list _, _], h => rfl
  | .tuple [.tuple _, _], h => rfl
  | .tuple [.dict _, _], h => rfl
  | .tuple [.int _, .none], h => rfl
  | .tuple [.int _, .bool _], h => rfl
  | .tuple [.int _, .str _], h => rfl
  | .tuple [.int _, .list _], h => rfl
  | .tuple [.int _, .tuple _], h => rfl
  | .tuple [.int _, .dict _], h => rfl
theorem ws_is_amount {ds : List PyData} {Φ : PyData → Prop} (h : TAmountB ds Φ) : WS K S0 (t_is_amount K) (rhoOf 1 ds) { nx := fun _ => Φ .none, rt := fun d _ => Φ d } := by
  obtain ⟨d, rfl, h⟩ := h
  show WS K S0 (t_is_amount K) [.dat d] _
  unfold t_is_amount
  walk_at "dl"
  refine ⟨_, rfl, _, rfl, ?_⟩
  cases hp : isPartD d with
  | false => rw [isAmt_no d hp] at h; exact h
  | true =>
    obtain ⟨a, b, rfl, e⟩ := isAmt_and d hp
    refine if_t ?_
    walk_at "dl"
    rw [e] at h
    exact h
end
end DL

set_option Elab.async false
set_option linter.all false
set_option maxRecDepth 100000
set_option maxHeartbeats 4000000
/-! DM3: reversed tuples, rows numbered, lists of one's own lengthened, repr of anything shown -/
namespace DL
open PySem PySem.Spec PyProof.Rows L2
/-! ### t[::-1] -/
section
variable {prog : Program} {w : World} {A : Around} {E : Value → Shared → Prop} {s : Shared}
end
def tRevT (K : PySem.W.Frag) (te : TE) : TE := fun σ H Q => te σ H fun x H1 => ∃ a xs, x = .ref a ∧ SqT K H1 a xs ∧ ∀ p, H1 p = none → Q (.ref p) (upd H1 p (.tup xs.reverse))
/-! ### over data -/
def iEnumR (K : PySem.W.Frag) (t : TA) : TI := fun σ H R => iEnum K t σ H R ∨ iEnumT K t σ H R
theorem pi_enumR {X : Cx} {e : Expr} {ta : TA} {p pos tpos : Pos} {elts : List Expr} {kk : Nat} (hg : Gl X "enumerate") (hm : X.mg "enumerate" = none) (ha : PA X [e] ta) (hs : starEach [e] X.env = [(false, eval e X.env)] := by rfl) :
    PI X (.Tuple elts kk tpos) (.Call (.Name "enumerate" p) [e] [] pos) (iEnumR X.K ta) :=
  ⟨fun pins s σ H R I q => q.elim (fun q => (pi_enum hg hm ha hs).run pins s σ H R I q) fun q => (pi_enumT hg hm ha hs).run pins s σ H R I q⟩
abbrev rInsert : V → List V → Hp → VK → Prop := fun x vs H Q => ∃ (l : Addr) (xs : List V) (i : Int) (y : V), x = .ref l ∧ vs = [.int i, y] ∧ H l = some (.lst xs) ∧ xs.length < sizeLine ∧ 0 ≤ i ∧ i < 2 ^ 63 ∧ Q .non (upd H l (.lst (xs.take i.toNat ++ [y] ++ xs.drop i.toNat)))
section
variable {K : PySem.W.Frag} {S : Stt} {ρ : Rho} {Φ : PyData → Rho → Prop} {Ψ : PyData → Prop}
theorem wi_enumRL {ta : TA} {Θ : List PyData → Rho → Prop} (h : WI K S (iEnum K ta) ρ Θ) : WI K S (iEnumR K ta) ρ Θ := fun H0 N0 Z N σ H E R q => .inl (h H0 N0 Z N σ H E R q)
theorem wi_enumRT {ta : TA} {Θ : List PyData → Rho → Prop} (h : WI K S (iEnumT K ta) ρ Θ) : WI K S (iEnumR K ta) ρ Θ := fun H0 N0 Z N σ H E R q => .inr (h H0 N0 Z N σ H E R q)
theorem gd_pairN {i j k : Nat} {a b c : PyData} : GD K (gTup K 2 (gCons (gName i) (gCons (gTup K 2 (gCons (gName j) (gCons (gName k) gNil))) gNil))) (.tuple [a, .tuple [b, c]]) [i, j, k] (fun ρ => ((ρ.set i (.dat a)).set j (.dat b)).set k (.dat c)) := fun S H0 N0 Z N σ H ρ x E hx Q q => by
  obtain ⟨p, xs, rfl, _, h1, h2⟩ := hx.tup_inv
  cases h2 with
  | cons a1 a2 =>
    cases a2 with
    | cons a2 a3 =>
      cases a3
      obtain ⟨p', xs', rfl, _, h1', h2'⟩ := Dq.tup_inv (N := _) (H := H) a2
      cases h2' with
      | cons b1 b2 =>
        cases b2 with
        | cons b2 b3 =>
          cases b3
          refine ⟨p, _, rfl, h1, rfl, _, _, rfl, _, _, rfl, ⟨p', _, rfl, h1', rfl, _, _, rfl, _, _, rfl, rfl, rfl, q _ (((E.set a1).set b1).set b2) (by rw [List.length_set, List.length_set, List.length_set]) fun l hl => ?_⟩⟩
          have h1 : k ≠ l := fun e => hl (by simp [e])
          have h2 : j ≠ l := fun e => hl (by simp [e])
          have h3 : i ≠ l := fun e => hl (by simp [e])
          rw [set_ne h1, set_ne h2, set_ne h3]
theorem dc_all {bs : List Bool} (h : Ψ (.bool (bs.all id))) : DC K (rAll K) [.list (bs.map PyData.bool)] Ψ := fun N H _ us hu Q q => by
  cases hu with
  | cons d1 d2 =>
    cases d2
    obtain ⟨p, xs, rfl, _, h1, h2⟩ := Dq.lst_inv d1
    have e : xs = bs.map V.bl := by
      have : ∀ {bs : List Bool} {xs : List V}, DqAll K N H xs (bs.map PyData.bool) → xs = bs.map V.bl := by
        intro bs
        induction bs with
        | nil => intro xs h; cases h; rfl
        | cons b r ih =>
          intro xs h
          cases h with
          | cons h1 h2 => cases h1; rw [ih h2]; rfl
      exact this h2
    subst e
    exact ⟨p, bs, rfl, .inl h1, q _ _ H h (Same.refl H) (Dt.bl _)⟩
def rReprZ (K : PySem.W.Frag) : List V → Hp → VK → Prop := fun xs H Q => rRepr K xs H Q ∨ (xs = [.non] ∧ Q (.str "None") H) ∨ (∃ b : Bool, xs = [.bl b] ∧ Q (.str (if b then "True" else "False")) H) ∨ (∃ i, xs = [.int i] ∧ i.natAbs.log2 < 1920 ∧ Q (.str (toString i)) H) ∨ ∃ z, xs = [.str z] ∧ (reprText z).length ≤ sizeLine ∧ Q (.str (reprText z)) H
theorem call_reprZ {X : Cx} (hgd : X.A.guards = some []) (hu : X.A.units + 64 < cLine) : CallR X (.builtin "repr") (rReprZ X.K) := by
  intro pins s σ H xs us Q I r h
  rcases h with h | ⟨rfl, q⟩ | ⟨b, rfl, q⟩ | ⟨i, rfl, b, q⟩ | ⟨z, rfl, b, q⟩
  · exact call_repr_data hgd hu pins s σ H xs us Q I r h
  · obtain ⟨u, rfl, ru⟩ := vals1 r
    cases (show u = Value.none from ru)
    exact PySem.P.repr_of_none ⟨.str "None", H, I.tok _, ⟨_, rfl⟩, q⟩
  · obtain ⟨u, rfl, ru⟩ := vals1 r
    cases (show u = Value.bool b from ru)
    exact PySem.P.repr_of_bool ⟨.str (if b then "True" else "False"), H, I.tok _, ⟨_, by cases b <;> rfl⟩, q⟩
  · obtain ⟨u, rfl, ru⟩ := vals1 r
    obtain ⟨t, rfl⟩ := (show ∃ t, u = Value.int i t from ru)
    exact PySem.P.repr_of_int b ⟨.str (toString i), H, I.tok _, ⟨_, rfl⟩, q⟩
  · obtain ⟨u, rfl, ru⟩ := vals1 r
    obtain ⟨t, rfl⟩ := (show ∃ t, u = Value.str z t from ru)
    exact PySem.P.repr_of_str ⟨.str (reprText z), H, I.tok _, ⟨_, rfl⟩, q⟩ b
theorem dc_reprZ {d : PyData} {L D : Nat} (h : Rs L D d) (h1 : L ≤ sizeLine) (h2 : D ≤ 50) (f : Ψ (.str d.shown)) : DC K (rReprZ K) [d] Ψ := by
  intro N H hN us hu Q q
  have one : ∃ u, us = [u] ∧ Dq K N H u d := by
    cases hu with
    | cons a1 a2 => cases a2; exact ⟨_, rfl, a1⟩
  obtain ⟨u, rfl, a1⟩ := one
  cases d
  case none => cases a1; exact .inr (.inl ⟨rfl, q _ _ H f (Same.refl H) (Dt.str _)⟩)
  case bool b =>
    cases a1
    refine .inr (.inr (.inl ⟨b, rfl, q _ _ H f (Same.refl H) ?_⟩))
    cases b <;> exact Dt.str _
  case int i => cases a1; exact .inr (.inr (.inr (.inl ⟨i, rfl, of_decide_eq_true h.s, q _ _ H f (Same.refl H) (Dt.str _)⟩)))
  case str z => cases a1; exact .inr (.inr (.inr (.inr ⟨z, rfl, Nat.le_trans h.l h1, q _ _ H f (Same.refl H) (Dt.str _)⟩)))
  case list ds => exact .inl (dc_reprS (.inl ⟨_, rfl⟩) h h1 h2 f N H hN _ hu Q q)
  case tuple ds => exact .inl (dc_reprS (.inr ⟨_, rfl⟩) h h1 h2 f N H hN _ hu Q q)
  case dict ds => exact absurd h.h (by simp [PyData.hasDict])
end
end DL

set_option Elab.async false
set_option linter.all false
set_option maxRecDepth 100000
set_option maxHeartbeats 4000000
/-! DM4: rows of either kind as data; lists of one's own shown for a while -/
namespace DL
open PySem PySem.Spec PyProof.Rows L2
section
variable {K : PySem.W.Frag} {S : Stt} {ρ : Rho} {Φ : PyData → Rho → Prop} {Ψ : PyData → Prop}
def rowD (b : Bool) (ds : List PyData) : PyData := if b then .list ds else .tuple ds
theorem do_ixRn {b : Bool} {ds : List PyData} {i : Int} {k : Nat} {d : PyData} (e : i = k) (h : ds[k]? = some d) (f : Ψ d) : DO K (rIxR K) (rowD b ds) (.int i) Ψ := by
  subst e
  cases b
  · exact do_ixRT (atI_nat h) f
  · exact do_ixRL (atI_nat h) f
theorem dc_lenR {b : Bool} {ds : List PyData} (h : Ψ (.int ds.length)) : DC K (rLenX K) [rowD b ds] Ψ := by
  cases b
  · exact dc_lenT h
  · exact dc_lenL h
theorem wi_enumD {ta : TA} {Θ : List PyData → Rho → Prop} (h : ∃ b, WA K S ta ρ fun xs ρ1 => ∃ ds, xs = [rowD b ds] ∧ Θ (ds.mapIdx fun k d => PyData.tuple [.int k, d]) ρ1) : WI K S (iEnumR K ta) ρ Θ := by
  obtain ⟨b, h⟩ := h
  cases b
  · exact wi_enumRT (wi_enumT h)
  · exact wi_enumRL (wi_enum h)
/-! ### all lists of one's own shown, while a thing is asked that tells a truth or a number -/
def frzS : Sl → Sl
  | .own ds => .dat (.list ds)
  | s => s
def fz (ρ : Rho) : Rho := ρ.map frzS
def Plain : PyData → Prop
  | .bool _ | .int _ | .str _ => True
  | _ => False
end
end DL

set_option Elab.async false
set_option linter.all false
set_option maxRecDepth 100000
set_option maxHeartbeats 4000000
/-! LR1: lines made of rows of knots -/
namespace DL
open PySem PySem.Spec PyProof.Rows L2
noncomputable instance risDec (ks : Kn) : Decidable (Rising ks) := Classical.propDecidable _
abbrev rkD (b : Bool) (ks : Kn) : PyData := rowD b (ks.map kD)
structure Rk (B : Nat) (ks : Kn) (s : Rat) : Prop where
  b : KsB B ks s
  len : ks.length ≤ 100000
  B0 : 0 < B
  B2 : 2 * B ≤ 3800
def TSlopesR : List PyData → (PyData → Prop) → Prop := fun ds Φ => ∃ (b : Bool) (ks : Kn) (s : Rat) (B : Nat), ds = [rkD b ks, qp s] ∧ Rk B ks s ∧ Rising ks ∧ 0 < ks.length ∧ Φ (.list ((List.range ks.length).map fun i => qp (slp ks s i)))
def TRisB : List PyData → (PyData → Prop) → Prop := fun ds Φ => ∃ (b : Bool) (ks : Kn) (B : Nat), ds = [rkD b ks] ∧ (∀ i, i < ks.length → sz (kn ks i).1 ≤ B) ∧ ks.length ≤ 100000 ∧ B ≤ 3800 ∧ Φ (.bool (decide (Rising ks)))
def TBends : List PyData → (PyData → Prop) → Prop := fun ds Φ => ∃ (b : Bool) (ks : Kn) (s : Rat) (B : Nat), ds = [rkD b ks, qp s] ∧ Rk B ks s ∧ Rising ks ∧ 0 < ks.length ∧ Φ (knD (bI ks s ks.length))
def TLineOf : List PyData → (PyData → Prop) → Prop := fun ds Φ => ∃ (b : Bool) (ks : Kn) (s : Rat) (B : Nat), ds = [rkD b ks, qp s] ∧ Rk B ks s ∧ Rising ks ∧ 0 < ks.length ∧ (kn ks 0).1 = 0 ∧ Φ (lnD (bI ks s ks.length) s)
local macro_rules | `(tactic| walk_at "dl") => `(tactic| repeat' (first
  | with_reducible refine wd_isTy ?_ | with_reducible refine wd_isi ?_ | with_reducible refine wd_op ?_ | ((with_reducible show WD _ _ (tCB (rLenX _) (tCons (tVar _) tNil)) _ _); refine wd_len_scr rfl ?_) | with_reducible refine wd_cb ?_ | with_reducible refine wd_un ?_ | with_reducible refine wa_cons ?_ | with_reducible refine wa_nil ?_ | ((with_reducible show WD _ _ (tVar _) _ _); refine wd_var rfl ?_) | with_reducible refine wd_int ?_ | with_reducible refine wd_bl ?_ | with_reducible refine wd_str ?_ | with_reducible refine wd_non ?_
  | with_reducible refine do_nesS ?_ | with_reducible refine dc_intB ?_ | with_reducible refine do_add ?_ | with_reducible refine do_sub ?_ | ((with_reducible refine do_mod ?_ ?_); decide) | with_reducible refine do_mod ?_ ?_ | with_reducible refine do_mul ?_ ?_ | ((with_reducible refine do_div ?_ ?_); exact ⟨by decide, by decide⟩) | with_reducible refine do_div ?_ ?_ | ((with_reducible refine do_pow ?_ ?_); exact ⟨by decide, by decide, by decide⟩) | with_reducible refine do_pow ?_ ?_
  | with_reducible refine do_lt ?_ | with_reducible refine do_le ?_ | with_reducible refine do_gt ?_ | with_reducible refine do_ge ?_ | with_reducible refine du_neg ?_
  | with_reducible refine do_eqi ?_ | with_reducible refine do_nei ?_ | with_reducible refine do_eqs ?_ | with_reducible refine do_nes ?_ | with_reducible refine dc_abs ?_ | with_reducible refine dc_min ?_ | with_reducible refine dc_max ?_ | with_reducible refine dc_lenL ?_ | with_reducible refine dc_lenT ?_ | with_reducible refine dc_lenR ?_ | with_reducible refine dc_gcd ?_
  | ((with_reducible show DO _ (rIxT _) _ _ _); refine do_ixT rfl ?_) | ((with_reducible show DO _ (rIxL _) _ _ _); refine do_ixL rfl ?_) | ((with_reducible refine do_catL ?_ ?_); exact Nat.le_of_ble_eq_true rfl) | with_reducible refine do_catL ?_ ?_ | ((with_reducible show And (List.length _ ≤ sizeLine) _); refine ⟨Nat.le_of_ble_eq_true rfl, ?_⟩)
  | with_reducible refine wd_dnew ?_ | with_reducible refine wd_call0 ?_ | with_reducible refine wd_slA ?_ | with_reducible refine wo_part ?_ | with_reducible refine wo_none ?_ | with_reducible refine do_eqQ ?_ | with_reducible refine do_neQ ?_ | with_reducible refine wi_enumT ?_ | with_reducible refine wi_enumD ?_ | with_reducible refine tAdQ (by omega) (by omega) ?_ | with_reducible refine tSbQ (by omega) (by omega) ?_ | with_reducible refine tMlQ (by omega) (by omega) ?_ | with_reducible refine tDvQ (by assumption) (by omega) (by omega) ?_ | with_reducible refine tLtQ (by omega) (by omega) ?_ | with_reducible refine dc_str ?_ ?_ | with_reducible refine wd_tup ?_ | with_reducible refine wd_lst ?_ | with_reducible refine wt_test ?_ | with_reducible refine wt_B ?_ | with_reducible refine wt_not ?_ | with_reducible refine wt_and ?_ | with_reducible refine wt_or ?_ | with_reducible refine wd_ifE ?_ | with_reducible refine wd_andV ?_ | with_reducible refine wd_orV ?_ | with_reducible refine wd_notV ?_
  | with_reducible refine ws_seq ?_ | with_reducible refine ws_next ?_ | with_reducible refine ws_asg ?_ | with_reducible refine ws_ret ?_ | with_reducible refine ws_retN ?_ | with_reducible refine ws_if ?_ | with_reducible refine ws_par ?_ | with_reducible refine ws_unp2 ?_
  | with_reducible refine if_t ?_ | with_reducible refine if_f ?_ | with_reducible refine if_nf ?_ | with_reducible refine if_nt ?_
  | ((with_reducible show Exists _); first | refine ⟨_, kitInt _, ?_⟩ | refine ⟨_, kitBool _, ?_⟩ | refine ⟨_, kitTup _, ?_⟩ | refine ⟨_, kitList _, ?_⟩ | refine ⟨_, rfl, ?_⟩ | refine ⟨_, _, rfl, ?_⟩ | fail) | fail))
def t_slopesR (K : PySem.W.Frag) : TS :=
  (tSeq (tAsg (tLst tNil) (gName 2))
    (tSeq (tFor (iRng1 (tCons (tOp rSubI (tCB (rLenX K) (tCons (tVar 0) tNil)) (tC (.int 1))) tNil)) (gName 3) (tSeq (tAsg (tOp (rIxR K) (tVar 0) (tVar 3)) (gTup K 2 (gCons (gName 4) (gCons (gName 5) gNil))))
    (tSeq (tAsg (tOp (rIxR K) (tVar 0) (tOp rAddI (tVar 3) (tC (.int 1)))) (gTup K 2 (gCons (gName 6) (gCons (gName 7) gNil))))
    (tDrop (tBM K "list" rAppend (tVar 2) (tCons (tCall (spP K TDvQ) [] E0 (tCons (tCall (spP K TSbQ) [] E0 (tCons (tVar 7) (tCons (tVar 5) tNil))) (tCons (tCall (spP K TSbQ) [] E0 (tCons (tVar 6) (tCons (tVar 4) tNil))) tNil))) tNil))))))
    (tRet (tOp rCatL (tVar 2) (tLst (tCons (tVar 1) tNil))))))
def t_risB (K : PySem.W.Frag) : TS :=
  (tRet (tCB (rAll K) (tCons (tLc (iRng1 (tCons (tOp rSubI (tCB (rLenX K) (tCons (tVar 0) tNil)) (tC (.int 1))) tNil)) (gName 1) tYes (tCall (spP K TLtQ) [] E0 (tCons (tOp (rIxT K) (tOp (rIxR K) (tVar 0) (tVar 1)) (tC (.int 0))) (tCons (tOp (rIxT K) (tOp (rIxR K) (tVar 0) (tOp rAddI (tVar 1) (tC (.int 1)))) (tC (.int 0))) tNil))) [1]) tNil)))
def t_bends (K : PySem.W.Frag) : TS :=
  (tSeq (tAsg (tCall (spP K TSlopesR) [] E0 (tCons (tVar 0) (tCons (tVar 1) tNil))) (gName 2))
    (tSeq (tAsg (tLst tNil) (gName 3))
    (tSeq (tFor (iEnumR K (tCons (tVar 0) tNil)) (gTup K 2 (gCons (gName 4) (gCons (gTup K 2 (gCons (gName 5) (gCons (gName 6) gNil))) gNil))) (tIfS (tOr (tTest (tOp rEq (tVar 4) (tC (.int 0)))) (tTest (tOp (rNeD K) (tOp (rIxL K) (tVar 2) (tVar 4)) (tOp (rIxL K) (tVar 2) (tOp rSubI (tVar 4) (tC (.int 1))))))) (tDrop (tBM K "list" rAppend (tVar 3) (tCons (tTup (tCons (tVar 5) (tCons (tVar 6) tNil))) tNil))) tNext))
    (tRet (tCB (rTupOf K) (tCons (tVar 3) tNil))))))
def t_lineof (K : PySem.W.Frag) (a_NOUGHT : Addr) : TS :=
  (tSeq (tIfS (tTest (tOp rEq (tCB (rLenX K) (tCons (tVar 0) tNil)) (tC (.int 0)))) tNo tNext)
    (tSeq (tIfS (tTest (tOp (rNeD K) (tOp (rIxT K) (tOp (rIxR K) (tVar 0) (tC (.int 0))) (tC (.int 0))) (tC (.ref a_NOUGHT)))) tNo tNext)
    (tSeq (tIfS (tNot (tB (tCall (spP K TRisB) [] E0 (tCons (tVar 0) tNil)))) tNo tNext)
    (tRet (tTup (tCons (tCall (spP K TBends) [] E0 (tCons (tVar 0) (tCons (tVar 1) tNil))) (tCons (tVar 1) tNil)))))))
section
variable {K : PySem.W.Frag} {ds : List PyData} {Φ : PyData → Prop}
theorem ws_slopesR (h : TSlopesR ds Φ) : WS K S0 (t_slopesR K) (rhoOf 8 ds) { nx := fun _ => Φ .none, rt := fun d _ => Φ d } := by
  obtain ⟨b, ks, s, B, rfl, R, ris, hp, hΦ⟩ := h
  show WS K S0 (t_slopesR K) [.dat (rkD b ks), .dat (qp s), .unk, .unk, .unk, .unk, .unk, .unk] _
  unfold t_slopesR
  have hB := R.B2
  have hl := R.len
  refine ws_seq (ws_own (wa_nil ⟨Nat.zero_le _, ?_⟩))
  refine ws_seq (ws_for (wi_rng1 ?_))
  walk_at "dl"
  refine ⟨by rw [List.length_map]; omega, by rw [List.length_map]; omega, fun k ρ => ∃ (s3 s4 s5 s6 s7 : Sl), ρ = [.dat (rkD b ks), .dat (qp s), .own ((List.range k).map fun i => qp (slp ks s i)), s3, s4, s5, s6, s7], ⟨_, _, _, _, _, rfl⟩, ?_, ?_⟩
  · rintro k d ρ2 hd ⟨s3, s4, s5, s6, s7, rfl⟩
    have hk : k + 1 < ks.length := by
      have := (List.getElem?_eq_some_iff.mp hd).1
      rw [List.length_map, List.length_range, List.length_map] at this; omega
    rw [List.getElem?_map, List.getElem?_range (by rw [List.length_map]; omega)] at hd
    cases hd
    have x1 := R.b.x k (by omega); have x2 := R.b.x (k + 1) hk; have y1 := R.b.y k (by omega); have y2 := R.b.y (k + 1) hk
    have ne := ris_step ris hk
    have sy := sz_sub (kn ks (k + 1)).2 (kn ks k).2
    have sx := sz_sub (kn ks (k + 1)).1 (kn ks k).1
    refine ⟨_, _, gd_name, ?_⟩
    walk_at "dl"
    refine do_ixRn (k := k) (by omega) (kD_get (by omega)) ?_
    refine ⟨_, _, rfl, ?_⟩
    walk_at "dl"
    refine do_ixRn (k := k + 1) (by omega) (kD_get hk) ?_
    refine ⟨_, _, rfl, ?_⟩
    refine ws_append rfl ?_
    walk_at "dl"
    refine ⟨by rw [List.length_map, List.length_range, sizeLine_eq]; omega, ?_⟩
    have e : slp ks s k = ((kn ks (k + 1)).2 - (kn ks k).2) / ((kn ks (k + 1)).1 - (kn ks k).1) := by unfold slp; rw [if_pos hk]
    have el : (List.range (k + 1)).map (fun i => qp (slp ks s i)) = (List.range k).map (fun i => qp (slp ks s i)) ++ [qp (((kn ks (k + 1)).2 - (kn ks k).2) / ((kn ks (k + 1)).1 - (kn ks k).1))] := by rw [List.range_succ, List.map_append, List.map_cons, List.map_nil, e]
    show ∃ _, _
    rw [el]
    exact ⟨_, _, _, _, _, rfl⟩
  · rintro ρ2 ⟨s3, s4, s5, s6, s7, rfl⟩
    rw [List.length_map, List.length_range, List.length_map]
    refine ws_frz (i := 2) rfl ?_
    walk_at "dl"
    · rw [sizeLine_eq]; simp; omega
    · have e : ((List.range ((ks.length : Int) - 1).toNat).map fun i => qp (slp ks s i)) ++ [qp s] = (List.range ks.length).map fun i => qp (slp ks s i) := by
        have e1 : ks.length = ((ks.length : Int) - 1).toNat + 1 := by omega
        have e2 : slp ks s ((ks.length : Int) - 1).toNat = s := by unfold slp; rw [if_neg (by omega)]
        conv => rhs; rw [e1, List.range_succ, List.map_append, List.map_cons, List.map_nil, e2]
      rw [e]; exact hΦ
theorem ws_risB (h : TRisB ds Φ) : WS K S0 (t_risB K) (rhoOf 2 ds) { nx := fun _ => Φ .none, rt := fun d _ => Φ d } := by
  obtain ⟨b, ks, B, rfl, hx, hl, hB, hΦ⟩ := h
  show WS K S0 (t_risB K) [.dat (rkD b ks), .unk] _
  unfold t_risB
  refine ws_ret (wd_cb (wa_cons (wd_lc (wi_rng1 ?_))))
  walk_at "dl"
  rw [List.length_map]
  refine ⟨by omega, by omega, by rw [List.length_map, List.length_range, sizeLine_eq]; omega, fun k acc ρ => acc = ((List.range k).map fun i => decide ((kn ks i).1 < (kn ks (i + 1)).1)).map PyData.bool ∧ ρ = [.dat (rkD b ks), .unk], ⟨rfl, rfl⟩, ?_, ?_⟩
  · rintro k d acc ρ2 hd ⟨rfl, rfl⟩
    have hk : k + 1 < ks.length := by
      have := (List.getElem?_eq_some_iff.mp hd).1
      rw [List.length_map, List.length_range] at this; omega
    rw [List.getElem?_map, List.getElem?_range (by omega)] at hd
    cases hd
    have x1 := hx k (by omega); have x2 := hx (k + 1) hk
    refine ⟨_, _, gd_name, fun j hj => hj, ?_⟩
    refine wt_yes ?_
    walk_at "dl"
    refine do_ixRn (k := k) (by omega) (kD_get (by omega)) ?_
    walk_at "dl"
    refine do_ixRn (k := k + 1) (by omega) (kD_get hk) ?_
    walk_at "dl"
    refine ⟨?_, rfl⟩
    rw [List.range_succ, List.map_append, List.map_append]; rfl
  · rintro acc ρ2 ⟨rfl, rfl⟩
    rw [List.length_map, List.length_range]
    refine wa_nil (dc_all ?_)
    have e : (((List.range ((ks.length : Int) - 1).toNat).map fun i => decide ((kn ks i).1 < (kn ks (i + 1)).1)).all id) = decide (Rising ks) := by
      rw [Bool.eq_iff_iff, List.all_eq_true, decide_eq_true_eq]
      constructor
      · intro q i hi
        have := q _ (List.mem_map.mpr ⟨i, List.mem_range.mpr (by omega), rfl⟩)
        exact of_decide_eq_true this
      · intro q x hx
        obtain ⟨i, hi, rfl⟩ := List.mem_map.mp hx
        exact decide_eq_true (q i (by have := List.mem_range.mp hi; omega))
    show Φ _
    rw [e]; exact hΦ
theorem kD_eta (p : Rat × Rat) : kD p = .tuple [qp p.1, qp p.2] := rfl
theorem ws_bends (h : TBends ds Φ) : WS K S0 (t_bends K) (rhoOf 7 ds) { nx := fun _ => Φ .none, rt := fun d _ => Φ d } := by
  obtain ⟨b, ks, s, B, rfl, R, ris, hp, hΦ⟩ := h
  show WS K S0 (t_bends K) [.dat (rkD b ks), .dat (qp s), .unk, .unk, .unk, .unk, .unk] _
  unfold t_bends
  have hl := R.len
  walk_at "dl"
  refine ⟨b, ks, s, B, rfl, R, ris, hp, ?_⟩
  refine ws_seq (ws_own (wa_nil ⟨Nat.zero_le _, ?_⟩))
  refine ws_seq (ws_for (wi_enumD ⟨b, ?_⟩))
  walk_at "dl"
  refine ⟨fun k ρ => ∃ (s4 s5 s6 : Sl), ρ = [.dat (rkD b ks), .dat (qp s), .dat (.list ((List.range ks.length).map fun i => qp (slp ks s i))), .own ((bI ks s k).map kD), s4, s5, s6], ⟨_, _, _, rfl⟩, ?_, ?_⟩
  · rintro k d ρ2 hd ⟨s4, s5, s6, rfl⟩
    rw [List.getElem?_mapIdx] at hd
    obtain ⟨d0, hd0, rfl⟩ := Option.map_eq_some_iff.mp hd
    have hk : k < ks.length := by have := (List.getElem?_eq_some_iff.mp hd0).1; rwa [List.length_map] at this
    rw [kD_get hk] at hd0; cases hd0
    rw [kD_eta]
    refine ⟨_, _, gd_pairN, ?_⟩
    have bl : (bI ks s k).length ≤ k := by unfold bI; rw [List.length_map]; exact Nat.le_trans (List.length_filter_le _ _) (by rw [List.length_range]; exact Nat.le_refl _)
    have add : pB ks s k = true → ∃ s4' s5' s6', ([.dat (rkD b ks), .dat (qp s), .dat (.list ((List.range ks.length).map fun i => qp (slp ks s i))), .own ((bI ks s k).map kD ++ [.tuple [qp (kn ks k).1, qp (kn ks k).2]]), .dat (.int k), .dat (qp (kn ks k).1), .dat (qp (kn ks k).2)] : Rho) = [.dat (rkD b ks), .dat (qp s), .dat (.list ((List.range ks.length).map fun i => qp (slp ks s i))), .own ((bI ks s (k + 1)).map kD), s4', s5', s6'] := fun e => by
      rw [bI_succ, if_pos e, List.map_append]
      exact ⟨_, _, _, rfl⟩
    have stay : pB ks s k = false → ∃ s4' s5' s6', ([.dat (rkD b ks), .dat (qp s), .dat (.list ((List.range ks.length).map fun i => qp (slp ks s i))), .own ((bI ks s k).map kD), .dat (.int k), .dat (qp (kn ks k).1), .dat (qp (kn ks k).2)] : Rho) = [.dat (rkD b ks), .dat (qp s), .dat (.list ((List.range ks.length).map fun i => qp (slp ks s i))), .own ((bI ks s (k + 1)).map kD), s4', s5', s6'] := fun e => by
      rw [bI_succ, if_neg (by rw [e]; decide)]
      exact ⟨_, _, _, rfl⟩
    walk_at "dl"
    refine if_b (fun h0 => ?_) (fun h0 => ?_)
    · have k0 : k = 0 := by omega
      walk_at "dl"
      refine ws_append rfl ?_
      walk_at "dl"
      refine ⟨by rw [List.length_map, sizeLine_eq]; omega, ?_⟩
      exact add (by unfold pB; rw [decide_eq_true k0]; rfl)
    · have k0 : k ≠ 0 := by omega
      walk_at "dl"
      refine do_ixLn (k := k) (d := qp (slp ks s k)) rfl (by rw [List.getElem?_map, List.getElem?_range hk]; rfl) ?_
      walk_at "dl"
      refine do_ixLn (k := k - 1) (d := qp (slp ks s (k - 1))) (by omega) (by rw [List.getElem?_map, List.getElem?_range (by omega)]; rfl) ?_
      walk_at "dl"
      refine if_n (fun hn => ?_) (fun he => ?_)
      · walk_at "dl"
        refine ws_append rfl ?_
        walk_at "dl"
        refine ⟨by rw [List.length_map, sizeLine_eq]; omega, ?_⟩
        exact add (by unfold pB; rw [decide_eq_false k0, decide_eq_false hn]; rfl)
      · walk_at "dl"
        exact stay (by unfold pB; rw [decide_eq_false k0, decide_eq_true he]; rfl)
  · rintro ρ2 ⟨s4, s5, s6, rfl⟩
    have el : ((ks.map kD).mapIdx fun k d => PyData.tuple [.int k, d]).length = ks.length := by simp
    rw [el]
    refine ws_ret (wd_tupOwn rfl hΦ)
theorem ws_lineof {aN : Addr} (hN : ∀ H : Hp, SqT K H aN [.int 0, .int 1]) (h : TLineOf ds Φ) : WS K S0 (t_lineof K aN) (rhoOf 2 ds) { nx := fun _ => Φ .none, rt := fun d _ => Φ d } := by
  obtain ⟨b, ks, s, B, rfl, R, ris, hp, h0, hΦ⟩ := h
  show WS K S0 (t_lineof K aN) [.dat (rkD b ks), .dat (qp s)] _
  unfold t_lineof
  have hl := R.len
  have hB := R.B2
  have cN : ∀ H : Hp, Dt K H (.ref aN) (qp 0) := fun H => .tup (hN H) (.cons (.int 0) (.cons (.int 1) .nil))
  walk_at "dl"
  refine if_b (fun he => absurd he (by rw [List.length_map]; omega)) (fun _ => ?_)
  walk_at "dl"
  refine do_ixRn (k := 0) rfl (kD_get hp) ?_
  walk_at "dl"
  refine wd_const cN ?_
  walk_at "dl"
  refine if_n (fun hn => absurd h0 hn) (fun _ => ?_)
  walk_at "dl"
  refine ⟨b, ks, B, rfl, R.b.x, hl, by omega, ?_⟩
  show ∃ _, _
  rw [decide_eq_true ris]
  walk_at "dl"
  refine ⟨b, ks, s, B, rfl, R, ris, hp, ?_⟩
  walk_at "dl"
  exact hΦ
end
end DL

set_option Elab.async false
set_option linter.all false
set_option maxRecDepth 100000
set_option maxHeartbeats 4000000
/-! LR2: what is a line, of anything -/
namespace DL
open PySem PySem.Spec PyProof.Rows L2
/-- of no great numbers -/
inductive Tm : PyData → Prop
  | non : Tm .none
  | bool {b : Bool} : Tm (.bool b)
  | int {i : Int} : i.natAbs < 2 ^ 1700 → Tm (.int i)
  | str {z : Str} : Tm (.str z)
  | tup {ds : List PyData} : ds.length ≤ 1000 → (∀ d ∈ ds, Tm d) → Tm (.tuple ds)
  | lst {ds : List PyData} : ds.length ≤ 1000 → (∀ d ∈ ds, Tm d) → Tm (.list ds)
theorem isPartD_qp (q : Rat) : isPartD (qp q) = true := by
  show (decide (1 ≤ (q.den : Int)) && decide (Nat.gcd q.num.natAbs (q.den : Int).natAbs = 1)) = true
  have h := q.den_pos
  rw [decide_eq_true (by omega), Bool.true_and]
  exact decide_eq_true q.reduced
def isPairD : PyData → Bool
  | .tuple xs => decide ((xs.length : Int) = 2)
  | _ => false
def isKnotD : PyData → Bool
  | .tuple [a, b] => isPartD a && isPartD b
  | _ => false
def IsLn (d : PyData) : Prop := ∃ ks s, d = lnD ks s ∧ 0 < ks.length ∧ (kn ks 0).1 = 0 ∧ Rising ks ∧ Nrm ks s
noncomputable def isLnB (d : PyData) : Bool := @decide (IsLn d) (Classical.propDecidable _)
def TPairB : List PyData → (PyData → Prop) → Prop := fun ds Φ => ∃ d, ds = [d] ∧ Φ (.bool (isPairD d))
def TKnotB : List PyData → (PyData → Prop) → Prop := fun ds Φ => ∃ d, ds = [d] ∧ Φ (.bool (isKnotD d))
def TIsPartL : List PyData → (PyData → Prop) → Prop := fun ds Φ => ∃ d, ds = [d] ∧ GoodD d ∧ Φ (.bool (isPartD d))
def TIsLine : List PyData → (PyData → Prop) → Prop := fun ds Φ => ∃ d, ds = [d] ∧ Tm d ∧ SeqAt.shaped d = true ∧ Φ (.bool (isLnB d))
local macro_rules | `(tactic| walk_at "dl") => `(tactic| repeat' (first
  | with_reducible refine wd_isTy ?_ | with_reducible refine wd_isi ?_ | with_reducible refine wd_op ?_ | ((with_reducible show WD _ _ (tCB (rLenX _) (tCons (tVar _) tNil)) _ _); refine wd_len_scr rfl ?_) | with_reducible refine wd_cb ?_ | with_reducible refine wd_un ?_ | with_reducible refine wa_cons ?_ | with_reducible refine wa_nil ?_ | ((with_reducible show WD _ _ (tVar _) _ _); refine wd_var rfl ?_) | with_reducible refine wd_int ?_ | with_reducible refine wd_bl ?_ | with_reducible refine wd_str ?_ | with_reducible refine wd_non ?_
  | with_reducible refine do_nesS ?_ | with_reducible refine dc_intB ?_ | with_reducible refine do_add ?_ | with_reducible refine do_sub ?_ | ((with_reducible refine do_mod ?_ ?_); decide) | with_reducible refine do_mod ?_ ?_ | with_reducible refine do_mul ?_ ?_ | ((with_reducible refine do_div ?_ ?_); exact ⟨by decide, by decide⟩) | with_reducible refine do_div ?_ ?_ | ((with_reducible refine do_pow ?_ ?_); exact ⟨by decide, by decide, by decide⟩) | with_reducible refine do_pow ?_ ?_
  | with_reducible refine do_lt ?_ | with_reducible refine do_le ?_ | with_reducible refine do_gt ?_ | with_reducible refine do_ge ?_ | with_reducible refine du_neg ?_
  | with_reducible refine do_eqi ?_ | with_reducible refine do_nei ?_ | with_reducible refine do_eqs ?_ | with_reducible refine do_nes ?_ | with_reducible refine dc_abs ?_ | with_reducible refine dc_min ?_ | with_reducible refine dc_max ?_ | with_reducible refine dc_lenL ?_ | with_reducible refine dc_lenT ?_ | with_reducible refine dc_lenR ?_ | with_reducible refine dc_gcd ?_
  | ((with_reducible show DO _ (rIxT _) _ _ _); refine do_ixT rfl ?_) | ((with_reducible show DO _ (rIxL _) _ _ _); refine do_ixL rfl ?_) | ((with_reducible refine do_catL ?_ ?_); exact Nat.le_of_ble_eq_true rfl) | with_reducible refine do_catL ?_ ?_ | ((with_reducible show And (List.length _ ≤ sizeLine) _); refine ⟨Nat.le_of_ble_eq_true rfl, ?_⟩)
  | with_reducible refine wd_dnew ?_ | with_reducible refine wd_call0 ?_ | with_reducible refine wd_slA ?_ | with_reducible refine wo_part ?_ | with_reducible refine wo_none ?_ | with_reducible refine do_eqQ ?_ | with_reducible refine do_neQ ?_ | with_reducible refine wi_enumT ?_ | with_reducible refine wi_enumD ?_ | with_reducible refine tAdQ (by omega) (by omega) ?_ | with_reducible refine tSbQ (by omega) (by omega) ?_ | with_reducible refine tMlQ (by omega) (by omega) ?_ | with_reducible refine tDvQ (by assumption) (by omega) (by omega) ?_ | with_reducible refine tLtQ (by omega) (by omega) ?_ | with_reducible refine dc_str ?_ ?_ | with_reducible refine wd_tup ?_ | with_reducible refine wd_lst ?_ | with_reducible refine wt_test ?_ | with_reducible refine wt_B ?_ | with_reducible refine wt_not ?_ | with_reducible refine wt_and ?_ | with_reducible refine wt_or ?_ | with_reducible refine wd_ifE ?_ | with_reducible refine wd_andV ?_ | with_reducible refine wd_orV ?_ | with_reducible refine wd_notV ?_
  | with_reducible refine ws_seq ?_ | with_reducible refine ws_next ?_ | with_reducible refine ws_asg ?_ | with_reducible refine ws_ret ?_ | with_reducible refine ws_retN ?_ | with_reducible refine ws_if ?_ | with_reducible refine ws_par ?_ | with_reducible refine ws_unp2 ?_
  | with_reducible refine if_t ?_ | with_reducible refine if_f ?_ | with_reducible refine if_nf ?_ | with_reducible refine if_nt ?_
  | ((with_reducible show Exists _); first | refine ⟨_, kitInt _, ?_⟩ | refine ⟨_, kitBool _, ?_⟩ | refine ⟨_, kitTup _, ?_⟩ | refine ⟨_, kitList _, ?_⟩ | refine ⟨_, rfl, ?_⟩ | refine ⟨_, _, rfl, ?_⟩ | fail) | fail))
def t_pairb (K : PySem.W.Frag) : TS :=
  (tRet (tAndV (tOp rIsTyX (tCB (rTyp K) (tCons (tVar 0) tNil)) (tC (.ty "tuple"))) (tOp rEq (tCB (rLenX K) (tCons (tVar 0) tNil)) (tC (.int 2)))))
def t_knotb (K : PySem.W.Frag) : TS :=
  (tRet (tAndV (tCall (spP K TPairB) [] E0 (tCons (tVar 0) tNil)) (tAndV (tCall (spP K TPartB) [] E0 (tCons (tOp (rIxT K) (tVar 0) (tC (.int 0))) tNil)) (tCall (spP K TPartB) [] E0 (tCons (tOp (rIxT K) (tVar 0) (tC (.int 1))) tNil)))))
def t_isline (K : PySem.W.Frag) (a_NOUGHT : Addr) : TS :=
  (tSeq (tIfS (tNot (tB (tCall (spP K TPairB) [] E0 (tCons (tVar 0) tNil)))) (tRet (tC (.bl false))) tNext)
    (tSeq (tAsg (tVar 0) (gTup K 2 (gCons (gName 1) (gCons (gName 2) gNil))))
    (tSeq (tIfS (tNot (tAnd (tTest (tOp rIsTyX (tCB (rTyp K) (tCons (tVar 1) tNil)) (tC (.ty "tuple")))) (tAnd (tTest (tOp rGe (tCB (rLenX K) (tCons (tVar 1) tNil)) (tC (.int 1)))) (tB (tCall (spP K TPartB) [] E0 (tCons (tVar 2) tNil)))))) (tRet (tC (.bl false))) tNext)
    (tSeq (tIfS (tNot (tB (tCB (rAll K) (tCons (tLc (iTup K (tVar 1)) (gName 3) tYes (tCall (spP K TKnotB) [] E0 (tCons (tVar 3) tNil)) [3]) tNil)))) (tRet (tC (.bl false))) tNext)
    (tSeq (tIfS (tOr (tTest (tOp (rNeD K) (tOp (rIxT K) (tOp (rIxT K) (tVar 1) (tC (.int 0))) (tC (.int 0))) (tC (.ref a_NOUGHT)))) (tNot (tB (tCall (spP K TRisB) [] E0 (tCons (tVar 1) tNil))))) (tRet (tC (.bl false))) tNext)
    (tRet (tOp rEq (tCB (rLenX K) (tCons (tCall (spP K TBends) [] E0 (tCons (tVar 1) (tCons (tVar 2) tNil))) tNil)) (tCB (rLenX K) (tCons (tVar 1) tNil)))))))))
def t_lispart (K : PySem.W.Frag) : TS :=
  (tSeq (tIfS (tOr (tNot (tB (tCB (rIsi K) (tCons (tVar 0) (tCons (tC (.ty "tuple")) tNil))))) (tTest (tOp rNe (tCB (rLenX K) (tCons (tVar 0) tNil)) (tC (.int 2))))) (tRet (tC (.bl false))) tNext)
    (tSeq (tFor (iTup K (tVar 0)) (gName 1) (tIfS (tOr (tNot (tB (tCB (rIsi K) (tCons (tVar 1) (tCons (tC (.ty "int")) tNil))))) (tB (tCB (rIsi K) (tCons (tVar 1) (tCons (tC (.ty "bool")) tNil))))) (tRet (tC (.bl false))) tNext))
    (tRet (tAndV (tOp rGt (tOp (rIxT K) (tVar 0) (tC (.int 1))) (tC (.int 0))) (tOp (rEqD K) (tCall (spP K TLow) [] E0 (tCons (tOp (rIxT K) (tVar 0) (tC (.int 0))) (tCons (tOp (rIxT K) (tVar 0) (tC (.int 1))) tNil))) (tVar 0))))))
def t_lisline (K : PySem.W.Frag) : TS :=
  (tSeq (tIfS (tOr (tNot (tB (tCB (rIsi K) (tCons (tVar 0) (tCons (tC (.ty "tuple")) tNil))))) (tOr (tTest (tOp rNe (tCB (rLenX K) (tCons (tVar 0) tNil)) (tC (.int 2)))) (tOr (tNot (tB (tCB (rIsi K) (tCons (tOp (rIxT K) (tVar 0) (tC (.int 0))) (tCons (tC (.ty "tuple")) tNil))))) (tTest (tOp (rEqD K) (tOp (rIxT K) (tVar 0) (tC (.int 0))) (tTup tNil)))))) (tRet (tC (.bl false))) tNext)
    (tSeq (tFor (iTup K (tOp (rIxT K) (tVar 0) (tC (.int 0)))) (gName 1) (tIfS (tOr (tNot (tB (tCB (rIsi K) (tCons (tVar 1) (tCons (tC (.ty "tuple")) tNil))))) (tOr (tTest (tOp rNe (tCB (rLenX K) (tCons (tVar 1) tNil)) (tC (.int 2)))) (tOr (tNot (tB (tCall (spP K TIsPartL) [] E0 (tCons (tOp (rIxT K) (tVar 1) (tC (.int 0))) tNil)))) (tNot (tB (tCall (spP K TIsPartL) [] E0 (tCons (tOp (rIxT K) (tVar 1) (tC (.int 1))) tNil))))))) (tRet (tC (.bl false))) tNext))
    (tSeq (tIfS (tOr (tNot (tB (tCall (spP K TIsPartL) [] E0 (tCons (tOp (rIxT K) (tVar 0) (tC (.int 1))) tNil)))) (tTest (tOp (rNeD K) (tOp (rIxT K) (tOp (rIxT K) (tOp (rIxT K) (tVar 0) (tC (.int 0))) (tC (.int 0))) (tC (.int 0))) (tTup (tCons (tC (.int 0)) (tCons (tC (.int 1)) tNil)))))) (tRet (tC (.bl false))) tNext)
    (tSeq (tFor (iRng2 (tCons (tC (.int 1)) (tCons (tCB (rLenX K) (tCons (tOp (rIxT K) (tVar 0) (tC (.int 0))) tNil)) tNil))) (gName 2) (tIfS (tNot (tB (tCall (spP K TLtQ) [] E0 (tCons (tOp (rIxT K) (tOp (rIxT K) (tOp (rIxT K) (tVar 0) (tC (.int 0))) (tOp rSubI (tVar 2) (tC (.int 1)))) (tC (.int 0))) (tCons (tOp (rIxT K) (tOp (rIxT K) (tOp (rIxT K) (tVar 0) (tC (.int 0))) (tVar 2)) (tC (.int 0))) tNil))))) (tRet (tC (.bl false))) tNext))
    (tRet (tOp (rEqD K) (tLc (iRng2 (tCons (tC (.int 1)) (tCons (tCB (rLenX K) (tCons (tOp (rIxT K) (tVar 0) (tC (.int 0))) tNil)) tNil))) (gName 2) (tTest (tOp (rEqD K) (tCall (spP K TSlope) [] E0 (tCons (tVar 0) (tCons (tOp rSubI (tVar 2) (tC (.int 1))) tNil))) (tCall (spP K TSlope) [] E0 (tCons (tVar 0) (tCons (tVar 2) tNil))))) (tC (.int 1)) [2]) (tLst tNil)))))))
section
variable {K : PySem.W.Frag} {ds : List PyData} {Φ : PyData → Prop}
end
end DL

set_option Elab.async false
set_option linter.all false
set_option maxRecDepth 100000
set_option maxHeartbeats 4000000
/-! LR3: knots put in where a line goes straight on; rows that don't rise -/
namespace DL
open PySem PySem.Spec PyProof.Rows L2
def bx : Nat → Nat
  | 0 => 26
  | t + 1 => 2 * bx t + 3
/-- a row of points of the line, at least its knots -/
structure MoreK (t : Nat) (ks : Kn) (s : Rat) (ms : Kn) : Prop where
  ris : Rising ms
  fst : (kn ms 0).1 = 0
  pos : 0 < ms.length
  len : ms.length ≤ ks.length + t
  x : ∀ i, i < ms.length → sz (kn ms i).1 ≤ bx t
  y : ∀ i, i < ms.length → sz (kn ms i).2 ≤ 156 + bx t
  sl : sz s ≤ 26
  on : ∀ x, 0 ≤ x → yAt ms s x = yAt ks s x
def TMore : Nat → List PyData → (PyData → Nat → Prop) → Prop := fun B ds Φ => ∃ (ks : Kn) (s : Rat), ds = [lnD ks s] ∧ Lq 26 ks s ∧ ks.length ≤ 60 ∧ B ≤ 2 ^ 39 ∧ ∀ ms B', B' ≤ B + 10 → MoreK 4 ks s ms → Φ (.list (ms.map kD)) B'
/-- a row of which no line can be made -/
def BadK (ms : Kn) : Prop := ms.length = 0 ∨ (kn ms 0).1 ≠ 0 ∨ ¬ Rising ms
structure NoK (ks ms : Kn) : Prop where
  bad : BadK ms
  len : ms.length ≤ 2 * ks.length + 2
  x : ∀ i, i < ms.length → sz (kn ms i).1 ≤ 60
  y : ∀ i, i < ms.length → sz (kn ms i).2 ≤ 60
def TNoRow : Nat → List PyData → (PyData → Nat → Prop) → Prop := fun B ds Φ => ∃ (ks : Kn) (s : Rat), ds = [lnD ks s] ∧ Lq 26 ks s ∧ ks.length ≤ 60 ∧ B ≤ 2 ^ 39 ∧ ∀ ms B', B' ≤ B + 10 → NoK ks ms → Φ (.list (ms.map kD)) B'
local macro_rules | `(tactic| walk_at "dl") => `(tactic| repeat' (first
  | with_reducible refine wd_isTy ?_ | with_reducible refine wd_isi ?_ | ((with_reducible show WD _ _ (tOp (rIxL _) (tVar _) _) _ _); refine wd_ix_own rfl ?_) | with_reducible refine wd_op ?_ | ((with_reducible show WD _ _ (tCB (rLenX _) (tCons (tVar _) tNil)) _ _); refine wd_len_scr rfl ?_) | ((with_reducible show WD _ _ (tCB (rLenX _) (tCons (tVar _) tNil)) _ _); refine wd_len_own rfl ?_) | with_reducible refine wd_cb ?_ | with_reducible refine wd_un ?_ | with_reducible refine wa_cons ?_ | with_reducible refine wa_nil ?_ | ((with_reducible show WD _ _ (tVar _) _ _); refine wd_var rfl ?_) | with_reducible refine wd_int ?_ | with_reducible refine wd_bl ?_ | with_reducible refine wd_str ?_ | with_reducible refine wd_non ?_
  | with_reducible refine do_nesS ?_ | with_reducible refine dc_intB ?_ | with_reducible refine do_add ?_ | with_reducible refine do_sub ?_ | ((with_reducible refine do_mod ?_ ?_); decide) | with_reducible refine do_mod ?_ ?_ | with_reducible refine do_mul ?_ ?_ | ((with_reducible refine do_div ?_ ?_); exact ⟨by decide, by decide⟩) | with_reducible refine do_div ?_ ?_ | ((with_reducible refine do_pow ?_ ?_); exact ⟨by decide, by decide, by decide⟩) | with_reducible refine do_pow ?_ ?_
  | with_reducible refine do_lt ?_ | with_reducible refine do_le ?_ | with_reducible refine do_gt ?_ | with_reducible refine do_ge ?_ | with_reducible refine du_neg ?_
  | with_reducible refine do_eqi ?_ | with_reducible refine do_nei ?_ | with_reducible refine do_eqs ?_ | with_reducible refine do_nes ?_ | with_reducible refine dc_abs ?_ | with_reducible refine dc_min ?_ | with_reducible refine dc_max ?_ | with_reducible refine dc_lenL ?_ | with_reducible refine dc_lenT ?_ | with_reducible refine dc_lenR ?_ | with_reducible refine dc_listT ?_ | with_reducible refine dc_listL ?_ | with_reducible refine dc_tupL ?_ | with_reducible refine dc_gcd ?_
  | ((with_reducible show DO _ (rIxT _) _ _ _); refine do_ixT rfl ?_) | ((with_reducible show DO _ (rIxL _) _ _ _); refine do_ixL rfl ?_) | ((with_reducible refine do_catL ?_ ?_); exact Nat.le_of_ble_eq_true rfl) | with_reducible refine do_catL ?_ ?_ | ((with_reducible show And (List.length _ ≤ sizeLine) _); refine ⟨Nat.le_of_ble_eq_true rfl, ?_⟩)
  | with_reducible refine wd_dnew ?_ | with_reducible refine wd_call0 ?_ | with_reducible refine wd_slA ?_ | with_reducible refine wd_slL ?_ | with_reducible refine wd_revT ?_ | with_reducible refine do_catA ?_ ?_ | with_reducible refine wo_part ?_ | with_reducible refine wo_none ?_ | with_reducible refine do_eqQ ?_ | with_reducible refine do_neQ ?_ | with_reducible refine wi_enumT ?_ | with_reducible refine wi_enumD ?_ | with_reducible refine tAdQ (by omega) (by omega) ?_ | with_reducible refine tSbQ (by omega) (by omega) ?_ | with_reducible refine tMlQ (by omega) (by omega) ?_ | with_reducible refine tDvQ (by assumption) (by omega) (by omega) ?_ | with_reducible refine tLtQ (by omega) (by omega) ?_ | with_reducible refine dc_str ?_ ?_ | with_reducible refine wd_tup ?_ | with_reducible refine wd_lst ?_ | with_reducible refine wt_test ?_ | with_reducible refine wt_B ?_ | with_reducible refine wt_not ?_ | with_reducible refine wt_and ?_ | with_reducible refine wt_or ?_ | with_reducible refine wd_ifE ?_ | with_reducible refine wd_andV ?_ | with_reducible refine wd_orV ?_ | with_reducible refine wd_notV ?_
  | with_reducible refine ws_seq ?_ | with_reducible refine ws_next ?_ | with_reducible refine ws_asg ?_ | with_reducible refine ws_ret ?_ | with_reducible refine ws_retN ?_ | with_reducible refine ws_if ?_ | with_reducible refine ws_par ?_ | with_reducible refine ws_unp2 ?_
  | with_reducible refine if_t ?_ | with_reducible refine if_f ?_ | with_reducible refine if_nf ?_ | with_reducible refine if_nt ?_
  | ((with_reducible show Exists _); first | refine ⟨_, kitInt _, ?_⟩ | refine ⟨_, kitBool _, ?_⟩ | refine ⟨_, kitTup _, ?_⟩ | refine ⟨_, kitList _, ?_⟩ | refine ⟨_, rfl, ?_⟩ | refine ⟨_, _, rfl, ?_⟩ | fail) | fail))
def t_more (K : PySem.W.Frag) : TS :=
  (tSeq (tAsg (tCB (rListOf K) (tCons (tOp (rIxT K) (tVar 1) (tC (.int 0))) tNil)) (gName 2))
    (tSeq (tFor (iRng1 (tCons (tOp rAddI (tC (.int 1)) (tCall (spS K FPot TTake) [] E0 (tCons (tVar 0) (tCons (tC (.int 4)) tNil)))) tNil)) (gName 3) (tSeq (tAsg (tCall (spS K FPot TTake) [] E0 (tCons (tVar 0) (tCons (tCB (rLenX K) (tCons (tVar 2) tNil)) tNil))) (gName 4))
    (tSeq (tAsg (tTup (tCons (tC (.int 0)) (tCons (tC (.int 1001)) tNil))) (gName 5))
    (tSeq (tIfS (tTest (tOp rLt (tOp rAddI (tVar 4) (tC (.int 1))) (tCB (rLenX K) (tCons (tVar 2) tNil)))) (tAsg (tCall (spP K TMlQ) [] E0 (tCons (tCall (spP K TAdQ) [] E0 (tCons (tOp (rIxT K) (tOp (rIxL K) (tVar 2) (tVar 4)) (tC (.int 0))) (tCons (tOp (rIxT K) (tOp (rIxL K) (tVar 2) (tOp rAddI (tVar 4) (tC (.int 1)))) (tC (.int 0))) tNil))) (tCons (tTup (tCons (tC (.int 1)) (tCons (tC (.int 2)) tNil))) tNil))) (gName 5)) tNext)
    (tSeq (tIfS (tTest (tOp rGt (tOp (rIxT K) (tVar 5) (tC (.int 1))) (tC (.int 1000)))) (tSeq (tAsg (tOp rSubI (tCB (rLenX K) (tCons (tVar 2) tNil)) (tC (.int 1))) (gName 4))
    (tAsg (tCall (spP K TAdQ) [] E0 (tCons (tOp (rIxT K) (tOp (rIxL K) (tVar 2) (tVar 4)) (tC (.int 0))) (tCons (tTup (tCons (tOp rAddI (tC (.int 1)) (tCall (spS K FPot TTake) [] E0 (tCons (tVar 0) (tCons (tC (.int 3)) tNil)))) (tCons (tC (.int 1)) tNil))) tNil))) (gName 5))) tNext)
    (tDrop (tBM K "list" rInsert (tVar 2) (tCons (tOp rAddI (tVar 4) (tC (.int 1))) (tCons (tTup (tCons (tVar 5) (tCons (tCall (spP K TYat) [] E0 (tCons (tVar 1) (tCons (tVar 5) tNil))) tNil))) tNil)))))))))
    (tRet (tVar 2))))
def t_norow (K : PySem.W.Frag) : TS :=
  (tSeq (tAsg (tCB (rListOf K) (tCons (tOp (rIxT K) (tVar 1) (tC (.int 0))) tNil)) (gName 2))
    (tSeq (tAsg (tCall (spS K FPot TTake) [] E0 (tCons (tVar 0) (tCons (tC (.int 4)) tNil))) (gName 3))
    (tSeq (tAsg (tCall (spS K FPot TTake) [] E0 (tCons (tVar 0) (tCons (tCB (rLenX K) (tCons (tVar 2) tNil)) tNil))) (gName 4))
    (tSeq (tIfS (tTest (tOp rEq (tVar 3) (tC (.int 0)))) (tRet (tLst tNil)) tNext)
    (tSeq (tIfS (tTest (tOp rEq (tVar 3) (tC (.int 1)))) (tSeq (tAsg (tTup (tCons (tOp (rIxL K) (tLst (tCons (tTup (tCons (tC (.int 1)) (tCons (tC (.int 2)) tNil))) (tCons (tTup (tCons (tUn rNegI (tC (.int 1))) (tCons (tC (.int 3)) tNil))) (tCons (tTup (tCons (tC (.int 1)) (tCons (tC (.int 997)) tNil))) tNil)))) (tCall (spS K FPot TTake) [] E0 (tCons (tVar 0) (tCons (tC (.int 3)) tNil)))) (tCons (tOp (rIxT K) (tOp (rIxL K) (tVar 2) (tC (.int 0))) (tC (.int 1))) tNil))) (gSub (tVar 2) (tC (.int 0)) rSetL))
    (tRet (tVar 2))) tNext)
    (tSeq (tIfS (tTest (tOp rEq (tVar 3) (tC (.int 2)))) (tRet (tOp rCatL (tSl (rSlL K) (tVar 2) tNoPart (tPart (tOp rAddI (tVar 4) (tC (.int 1))))) (tSl (rSlL K) (tVar 2) (tPart (tVar 4)) tNoPart))) tNext)
    (tSeq (tAsg (tCall (spP K TLow) [] E0 (tCons (tOp rAddI (tC (.int 1)) (tCall (spS K FPot TTake) [] E0 (tCons (tVar 0) (tCons (tC (.int 5)) tNil)))) (tCons (tIf (tTest (tOp rLt (tOp (rIxT K) (tOp (rIxT K) (tOp (rIxL K) (tVar 2) (tVar 4)) (tC (.int 0))) (tC (.int 1))) (tC (.int 97)))) (tC (.int 3)) (tC (.int 1))) tNil))) (gName 5))
    (tSeq (tDrop (tBM K "list" rInsert (tVar 2) (tCons (tOp rAddI (tVar 4) (tC (.int 1))) (tCons (tTup (tCons (tCall (spP K TSbQ) [] E0 (tCons (tOp (rIxT K) (tOp (rIxL K) (tVar 2) (tVar 4)) (tC (.int 0))) (tCons (tVar 5) tNil))) (tCons (tTup (tCons (tC (.int 1)) (tCons (tC (.int 1)) tNil))) tNil))) tNil))))
    (tRet (tVar 2))))))))))
section
variable {K : PySem.W.Frag} {S : Stt} {ds : List PyData} {Φ : PyData → Nat → Prop} {B : Nat}
theorem cutD_drop {l : List PyData} {n : Nat} {i : Int} (e : i = n) : cutD l (some i) none = l.drop n := by
  subst e
  unfold cutD
  rw [HT.sIx_nat]
  show (l.drop (min n l.length)).take (l.length - min n l.length) = _
  by_cases q : n ≤ l.length
  · rw [Nat.min_eq_left q, List.take_of_length_le (by rw [List.length_drop]; omega)]
  · rw [Nat.min_eq_right (by omega), List.take_of_length_le (by rw [List.length_drop]; omega), List.drop_of_length_le (by omega), List.drop_of_length_le (by omega)]
end
end DL

set_option Elab.async false
set_option linter.all false
set_option maxRecDepth 100000
set_option maxHeartbeats 4000000
/-! LR4: a line bent -/
namespace DL
open PySem PySem.Spec PyProof.Rows L2
structure Th (L D : Nat) (d : PyData) : Prop where
  r : Rs L D d
  t : Tm d
  c : d.canLay0 = true
/-- a thing to be judged -/
abbrev Thg (d : PyData) : Prop := Th 1700000 6 d
def TBent : Nat → List PyData → (PyData → Nat → Prop) → Prop := fun B ds Φ => ∃ (ks : Kn) (s : Rat), ds = [lnD ks s] ∧ Lq 26 ks s ∧ ks.length ≤ 60 ∧ B ≤ 2 ^ 38 ∧ ∀ z B', B' ≤ B + 20 → Thg z → Φ z B'
/-- a small thing -/
abbrev Odd (d : PyData) : Prop := Th 400 1 d
local macro_rules | `(tactic| walk_at "dl") => `(tactic| repeat' (first
  | with_reducible refine wd_isTy ?_ | with_reducible refine wd_isi ?_ | ((with_reducible show WD _ _ (tOp (rIxL _) (tVar _) _) _ _); refine wd_ix_own rfl ?_) | with_reducible refine wd_op ?_ | ((with_reducible show WD _ _ (tCB (rLenX _) (tCons (tVar _) tNil)) _ _); refine wd_len_scr rfl ?_) | ((with_reducible show WD _ _ (tCB (rLenX _) (tCons (tVar _) tNil)) _ _); refine wd_len_own rfl ?_) | with_reducible refine wd_cb ?_ | with_reducible refine wd_un ?_ | with_reducible refine wa_cons ?_ | with_reducible refine wa_nil ?_ | ((with_reducible show WD _ _ (tVar _) _ _); refine wd_var rfl ?_) | with_reducible refine wd_int ?_ | with_reducible refine wd_bl ?_ | with_reducible refine wd_str ?_ | with_reducible refine wd_non ?_
  | with_reducible refine do_nesS ?_ | with_reducible refine dc_intB ?_ | with_reducible refine do_add ?_ | with_reducible refine do_sub ?_ | ((with_reducible refine do_mod ?_ ?_); decide) | with_reducible refine do_mod ?_ ?_ | with_reducible refine do_mul ?_ ?_ | ((with_reducible refine do_div ?_ ?_); exact ⟨by decide, by decide⟩) | with_reducible refine do_div ?_ ?_ | ((with_reducible refine do_pow ?_ ?_); exact ⟨by decide, by decide, by decide⟩) | with_reducible refine do_pow ?_ ?_
  | with_reducible refine do_lt ?_ | with_reducible refine do_le ?_ | with_reducible refine do_gt ?_ | with_reducible refine do_ge ?_ | with_reducible refine du_neg ?_
  | with_reducible refine do_eqi ?_ | with_reducible refine do_nei ?_ | with_reducible refine do_eqs ?_ | with_reducible refine do_nes ?_ | with_reducible refine dc_abs ?_ | with_reducible refine dc_min ?_ | with_reducible refine dc_max ?_ | with_reducible refine dc_lenL ?_ | with_reducible refine dc_lenT ?_ | with_reducible refine dc_lenR ?_ | with_reducible refine dc_listT ?_ | with_reducible refine dc_listL ?_ | with_reducible refine dc_tupL ?_ | with_reducible refine dc_gcd ?_
  | ((with_reducible show DO _ (rIxT _) _ _ _); refine do_ixT rfl ?_) | ((with_reducible show DO _ (rIxL _) _ _ _); refine do_ixL rfl ?_) | ((with_reducible refine do_catL ?_ ?_); exact Nat.le_of_ble_eq_true rfl) | with_reducible refine do_catL ?_ ?_ | ((with_reducible show And (List.length _ ≤ sizeLine) _); refine ⟨Nat.le_of_ble_eq_true rfl, ?_⟩)
  | with_reducible refine wd_dnew ?_ | with_reducible refine wd_call0 ?_ | with_reducible refine wd_slA ?_ | with_reducible refine wd_slL ?_ | with_reducible refine wd_revT ?_ | with_reducible refine do_catA ?_ ?_ | with_reducible refine wo_part ?_ | with_reducible refine wo_none ?_ | with_reducible refine do_eqQ ?_ | with_reducible refine do_neQ ?_ | with_reducible refine wi_enumT ?_ | with_reducible refine wi_enumD ?_ | with_reducible refine tAdQ (by omega) (by omega) ?_ | with_reducible refine tSbQ (by omega) (by omega) ?_ | with_reducible refine tMlQ (by omega) (by omega) ?_ | with_reducible refine tDvQ (by assumption) (by omega) (by omega) ?_ | with_reducible refine tLtQ (by omega) (by omega) ?_ | with_reducible refine dc_str ?_ ?_ | with_reducible refine wd_tup ?_ | with_reducible refine wd_lst ?_ | with_reducible refine wt_test ?_ | with_reducible refine wt_B ?_ | with_reducible refine wt_not ?_ | with_reducible refine wt_and ?_ | with_reducible refine wt_or ?_ | with_reducible refine wd_ifE ?_ | with_reducible refine wd_andV ?_ | with_reducible refine wd_orV ?_ | with_reducible refine wd_notV ?_
  | with_reducible refine ws_seq ?_ | with_reducible refine ws_next ?_ | with_reducible refine ws_asg ?_ | with_reducible refine ws_ret ?_ | with_reducible refine ws_retN ?_ | with_reducible refine ws_if ?_ | with_reducible refine ws_par ?_ | with_reducible refine ws_unp2 ?_
  | with_reducible refine if_t ?_ | with_reducible refine if_f ?_ | with_reducible refine if_nf ?_ | with_reducible refine if_nt ?_
  | ((with_reducible show Exists _); first | refine ⟨_, kitInt _, ?_⟩ | refine ⟨_, kitBool _, ?_⟩ | refine ⟨_, kitTup _, ?_⟩ | refine ⟨_, kitList _, ?_⟩ | refine ⟨_, rfl, ?_⟩ | refine ⟨_, _, rfl, ?_⟩ | fail) | fail))
def t_bent (K : PySem.W.Frag) : TS :=
  (tSeq (tAsg (tCall (spS K FPot TTake) [] E0 (tCons (tVar 0) (tCons (tC (.int 10)) tNil))) (gName 2))
    (tSeq (tAsg (tVar 1) (gTup K 2 (gCons (gName 3) (gCons (gName 4) gNil))))
    (tSeq (tAsg (tCall (spS K FPot TTake) [] E0 (tCons (tVar 0) (tCons (tCB (rLenX K) (tCons (tVar 3) tNil)) tNil))) (gName 5))
    (tSeq (tAsg (tLst (tCons (tTup (tCons (tC (.int 2)) (tCons (tC (.int 4)) tNil))) (tCons (tTup (tCons (tC (.int 0)) (tCons (tC (.int 2)) tNil))) (tCons (tTup (tCons (tC (.int 1)) (tCons (tC (.int 0)) tNil))) (tCons (tTup (tCons (tC (.int 1)) (tCons (tUn rNegI (tC (.int 1))) tNil))) (tCons (tTup (tCons (tC (.bl true)) (tCons (tC (.int 1)) tNil))) (tCons (tTup (tCons (tC (.int 1)) (tCons (tC (.bl true)) tNil))) (tCons (tC (.int 1)) (tCons (tC .non) (tCons (tC (.str "1")) (tCons (tLst (tCons (tC (.int 1)) (tCons (tC (.int 1)) tNil))) (tCons (tTup (tCons (tC (.int 1)) tNil)) (tCons (tTup (tCons (tC (.int 1)) (tCons (tC (.int 1)) (tCons (tC (.int 1)) tNil)))) tNil))))))))))))) (gName 6))
    (tSeq (tAsg (tOp (rIxL K) (tOp rCatL (tVar 6) (tLst (tCons (tTup (tCons (tOp rAddI (tOp rPowI (tC (.int 10)) (tC (.int 30))) (tC (.int 1))) (tCons (tC (.int 7)) tNil))) (tCons (tTup (tCons (tC (.int 0)) (tCons (tC (.int 1)) tNil))) (tCons (tTup (tCons (tUn rNegI (tC (.int 1))) (tCons (tC (.int 2)) tNil))) (tCons (tTup (tCons (tC (.int 3)) (tCons (tC (.int 2)) tNil))) tNil)))))) (tCall (spS K FPot TTake) [] E0 (tCons (tVar 0) (tCons (tC (.int 16)) tNil)))) (gName 7))
    (tSeq (tAsg (tOp (rIxT K) (tVar 3) (tVar 5)) (gTup K 2 (gCons (gName 8) (gCons (gName 9) gNil))))
    (tSeq (tIfS (tTest (tOp rLt (tVar 2) (tC (.int 3)))) (tRet (tTup (tCons (tOp (rCatA K) (tOp (rCatA K) (tSl (rSlA K) (tVar 3) tNoPart (tPart (tVar 5))) (tTup (tCons (tOp (rIxL K) (tLst (tCons (tTup (tCons (tVar 7) (tCons (tVar 9) tNil))) (tCons (tTup (tCons (tVar 8) (tCons (tVar 7) tNil))) (tCons (tVar 7) tNil)))) (tVar 2)) tNil))) (tSl (rSlA K) (tVar 3) (tPart (tOp rAddI (tVar 5) (tC (.int 1)))) tNoPart)) (tCons (tVar 4) tNil)))) tNext)
    (tSeq (tIfS (tTest (tOp rEq (tVar 2) (tC (.int 3)))) (tRet (tTup (tCons (tVar 3) (tCons (tVar 7) tNil)))) tNext)
    (tSeq (tIfS (tTest (tOp rEq (tVar 2) (tC (.int 4)))) (tRet (tTup (tCons (tOp (rCatA K) (tOp (rCatA K) (tSl (rSlA K) (tVar 3) tNoPart (tPart (tVar 5))) (tRevT K (tSl (rSlA K) (tVar 3) (tPart (tVar 5)) (tPart (tOp rAddI (tVar 5) (tC (.int 2))))))) (tSl (rSlA K) (tVar 3) (tPart (tOp rAddI (tVar 5) (tC (.int 2)))) tNoPart)) (tCons (tVar 4) tNil)))) tNext)
    (tSeq (tIfS (tTest (tOp rEq (tVar 2) (tC (.int 5)))) (tRet (tTup (tCons (tOp (rCatA K) (tSl (rSlA K) (tVar 3) tNoPart (tPart (tOp rAddI (tVar 5) (tC (.int 1))))) (tSl (rSlA K) (tVar 3) (tPart (tVar 5)) tNoPart)) (tCons (tVar 4) tNil)))) tNext)
    (tSeq (tIfS (tTest (tOp rEq (tVar 2) (tC (.int 6)))) (tRet (tTup (tCons (tOp (rCatA K) (tSl (rSlA K) (tVar 3) tNoPart (tPart (tVar 5))) (tSl (rSlA K) (tVar 3) (tPart (tOp rAddI (tVar 5) (tC (.int 1)))) tNoPart)) (tCons (tVar 4) tNil)))) tNext)
    (tSeq (tIfS (tTest (tOp rEq (tVar 2) (tC (.int 7)))) (tRet (tTup (tCons (tCB (rTupOf K) (tCons (tCall (spS K FPot TMore) [] E0 (tCons (tVar 0) (tCons (tVar 1) tNil))) tNil)) (tCons (tVar 4) tNil)))) tNext)
    (tSeq (tIfS (tTest (tOp rEq (tVar 2) (tC (.int 8)))) (tRet (tTup (tCons (tOp (rCatA K) (tOp (rCatA K) (tSl (rSlA K) (tVar 3) tNoPart (tPart (tVar 5))) (tTup (tCons (tLst (tCons (tVar 8) (tCons (tVar 9) tNil))) tNil))) (tSl (rSlA K) (tVar 3) (tPart (tOp rAddI (tVar 5) (tC (.int 1)))) tNoPart)) (tCons (tVar 4) tNil)))) tNext)
    (tRet (tOp (rIxL K) (tLst (tCons (tCB (rListOf K) (tCons (tVar 1) tNil)) (tCons (tTup (tCons (tCB (rListOf K) (tCons (tVar 3) tNil)) (tCons (tVar 4) tNil))) (tCons (tTup (tCons (tVar 3) (tCons (tVar 4) (tCons (tVar 4) tNil)))) (tCons (tTup (tCons (tVar 3) tNil)) (tCons (tVar 7) (tCons (tTup (tCons (tTup tNil) (tCons (tVar 4) tNil))) tNil))))))) (tCall (spS K FPot TTake) [] E0 (tCons (tVar 0) (tCons (tC (.int 6)) tNil))))))))))))))))))
section
variable {K : PySem.W.Frag} {S : Stt} {ds : List PyData} {Φ : PyData → Nat → Prop} {B : Nat}
theorem b4 : bx 4 = 461 := rfl
end
end DL

set_option Elab.async false
set_option linter.all false
set_option maxRecDepth 100000
set_option maxHeartbeats 4000000
/-! LR5: refused rows; the law of lines made -/
namespace DL
open PySem PySem.Spec PyProof.Rows L2
def TLineX (C : Addr) : List PyData → (PyData → Prop) → (Addr → Prop) → Prop := fun ds _ Ψ => ∃ (b : Bool) (ks : Kn) (s : Rat) (B : Nat), ds = [rkD b ks, qp s] ∧ (∀ i, i < ks.length → sz (kn ks i).1 ≤ B) ∧ ks.length ≤ 100000 ∧ B ≤ 3800 ∧ BadK ks ∧ Ψ C
def TToldL : List PyData → (PyData → Prop) → Prop := fun ds Φ => ∃ (b : Bool) (ks : Kn) (s : Rat) (B : Nat), ds = [rkD b ks, qp s] ∧ (∀ i, i < ks.length → sz (kn ks i).1 ≤ B) ∧ ks.length ≤ 100000 ∧ B ≤ 3800 ∧ BadK ks ∧ Φ (.str "line")
def TRight : Nat → List PyData → (PyData → Nat → Prop) → Prop := fun B ds Φ => ∃ (ks : Kn) (s : Rat), ds = [lnD ks s] ∧ GoodL 60 ks s ∧ B ≤ 2 ^ 38 ∧ ∀ B', B' ≤ B + 100 → Φ (.bool true) B'
def t_lineX (K : PySem.W.Frag) (C a_NOUGHT : Addr) (E : XK) : TS :=
  (tSeq (tIfS (tTest (tOp rEq (tCB (rLenX K) (tCons (tVar 0) tNil)) (tC (.int 0)))) (fun _ σ H => E (.ref C) none H) tNext)
    (tSeq (tIfS (tTest (tOp (rNeD K) (tOp (rIxT K) (tOp (rIxR K) (tVar 0) (tC (.int 0))) (tC (.int 0))) (tC (.ref a_NOUGHT)))) (fun _ σ H => E (.ref C) none H) tNext)
    (tSeq (tIfS (tNot (tB (tCall (spP K TRisB) [] E0 (tCons (tVar 0) tNil)))) (fun _ σ H => E (.ref C) none H) tNext)
    tNo)))
def tb_toldL (K : PySem.W.Frag) (C : Addr) (W : WX) : TS := tAsg (tCallS (spX K (TLineX C)) (WE W) (tCons (tVar 0) (tCons (tVar 1) tNil))) (gName 3)
def te_toldL (K : PySem.W.Frag) (C : Addr) : TE := tIf (tTest (tOp rIsNone (tVar 2) (tC .non))) (tVar 3) (tCall (spW K C "line") [] E0 (tCons (tVar 2) tNil))
def t_toldL (K : PySem.W.Frag) (C P : Addr) : TS :=
  (tSeq (tAsg (tC .non) (gName 2))
    (tSeq (tAsg (tC .non) (gName 3))
    (tSeq (fun D σ H => tb_toldL K C (wKeep K (.ref P) 4 ts_told D) D σ H)
    (tRet (te_toldL K C)))))
local macro_rules | `(tactic| walk_at "dl") => `(tactic| repeat' (first
  | with_reducible refine wd_isTy ?_ | with_reducible refine wd_isi ?_ | ((with_reducible show WD _ _ (tOp (rIxL _) (tVar _) _) _ _); refine wd_ix_own rfl ?_) | with_reducible refine wd_op ?_ | ((with_reducible show WD _ _ (tCB (rLenX _) (tCons (tVar _) tNil)) _ _); refine wd_len_scr rfl ?_) | ((with_reducible show WD _ _ (tCB (rLenX _) (tCons (tVar _) tNil)) _ _); refine wd_len_own rfl ?_) | with_reducible refine wd_cb ?_ | with_reducible refine wd_un ?_ | with_reducible refine wa_cons ?_ | with_reducible refine wa_nil ?_ | ((with_reducible show WD _ _ (tVar _) _ _); refine wd_var rfl ?_) | with_reducible refine wd_int ?_ | with_reducible refine wd_bl ?_ | with_reducible refine wd_str ?_ | with_reducible refine wd_non ?_
  | with_reducible refine do_nesS ?_ | with_reducible refine dc_intB ?_ | with_reducible refine do_add ?_ | with_reducible refine do_sub ?_ | ((with_reducible refine do_mod ?_ ?_); decide) | with_reducible refine do_mod ?_ ?_ | with_reducible refine do_mul ?_ ?_ | ((with_reducible refine do_div ?_ ?_); exact ⟨by decide, by decide⟩) | with_reducible refine do_div ?_ ?_ | ((with_reducible refine do_pow ?_ ?_); exact ⟨by decide, by decide, by decide⟩) | with_reducible refine do_pow ?_ ?_
  | with_reducible refine do_lt ?_ | with_reducible refine do_le ?_ | with_reducible refine do_gt ?_ | with_reducible refine do_ge ?_ | with_reducible refine du_neg ?_
  | with_reducible refine do_eqi ?_ | with_reducible refine do_nei ?_ | with_reducible refine do_eqs ?_ | with_reducible refine do_nes ?_ | with_reducible refine dc_abs ?_ | with_reducible refine dc_min ?_ | with_reducible refine dc_max ?_ | with_reducible refine dc_lenL ?_ | with_reducible refine dc_lenT ?_ | with_reducible refine dc_lenR ?_ | with_reducible refine dc_listT ?_ | with_reducible refine dc_listL ?_ | with_reducible refine dc_tupL ?_ | with_reducible refine dc_gcd ?_
  | ((with_reducible show DO _ (rIxT _) _ _ _); refine do_ixT rfl ?_) | ((with_reducible show DO _ (rIxL _) _ _ _); refine do_ixL rfl ?_) | ((with_reducible refine do_catL ?_ ?_); exact Nat.le_of_ble_eq_true rfl) | with_reducible refine do_catL ?_ ?_ | ((with_reducible show And (List.length _ ≤ sizeLine) _); refine ⟨Nat.le_of_ble_eq_true rfl, ?_⟩)
  | with_reducible refine wd_dnew ?_ | with_reducible refine wd_call0 ?_ | with_reducible refine wd_slA ?_ | with_reducible refine wd_slL ?_ | with_reducible refine wd_revT ?_ | with_reducible refine do_catA ?_ ?_ | with_reducible refine wo_part ?_ | with_reducible refine wo_none ?_ | with_reducible refine do_eqQ ?_ | with_reducible refine do_neQ ?_ | with_reducible refine wi_enumT ?_ | with_reducible refine wi_enumD ?_ | with_reducible refine tAdQ (by omega) (by omega) ?_ | with_reducible refine tSbQ (by omega) (by omega) ?_ | with_reducible refine tMlQ (by omega) (by omega) ?_ | with_reducible refine tDvQ (by assumption) (by omega) (by omega) ?_ | with_reducible refine tLtQ (by omega) (by omega) ?_ | with_reducible refine dc_str ?_ ?_ | with_reducible refine wd_tup ?_ | with_reducible refine wd_lst ?_ | with_reducible refine wt_test ?_ | with_reducible refine wt_B ?_ | with_reducible refine wt_not ?_ | with_reducible refine wt_and ?_ | with_reducible refine wt_or ?_ | with_reducible refine wd_ifE ?_ | with_reducible refine wd_andV ?_ | with_reducible refine wd_orV ?_ | with_reducible refine wd_notV ?_
  | with_reducible refine ws_seq ?_ | with_reducible refine ws_next ?_ | with_reducible refine ws_asg ?_ | with_reducible refine ws_ret ?_ | with_reducible refine ws_retN ?_ | with_reducible refine ws_if ?_ | with_reducible refine ws_par ?_ | with_reducible refine ws_unp2 ?_
  | with_reducible refine if_t ?_ | with_reducible refine if_f ?_ | with_reducible refine if_nf ?_ | with_reducible refine if_nt ?_
  | ((with_reducible show Exists _); first | refine ⟨_, kitInt _, ?_⟩ | refine ⟨_, kitBool _, ?_⟩ | refine ⟨_, kitTup _, ?_⟩ | refine ⟨_, kitList _, ?_⟩ | refine ⟨_, rfl, ?_⟩ | refine ⟨_, _, rfl, ?_⟩ | fail) | fail))
def t_right6 (K : PySem.W.Frag) : TS :=
  (tSeq (tAsg (tCall (spS K FPot TMore) [] E0 (tCons (tVar 0) (tCons (tVar 1) tNil))) (gName 2))
    (tSeq (tAsg (tCB (rReprZ K) (tCons (tVar 2) tNil)) (gName 3))
    (tSeq (tIfS (tTest (tOp rNe (tCB (rReprZ K) (tCons (tLst (tCons (tCall (spP K TLineOf) [] E0 (tCons (tVar 2) (tCons (tOp (rIxT K) (tVar 1) (tC (.int 1))) tNil))) (tCons (tCall (spP K TLineOf) [] E0 (tCons (tCB (rTupOf K) (tCons (tVar 2) tNil)) (tCons (tOp (rIxT K) (tVar 1) (tC (.int 1))) tNil))) tNil))) tNil)) (tCB (rReprZ K) (tCons (tLst (tCons (tVar 1) (tCons (tVar 1) tNil))) tNil)))) (tRet (tC (.bl false))) tNext)
    (tSeq (tIfS (tOr (tTest (tOp rNe (tCB (rReprZ K) (tCons (tCall (spP K TLineOf) [] E0 (tCons (tOp (rIxT K) (tVar 1) (tC (.int 0))) (tCons (tOp (rIxT K) (tVar 1) (tC (.int 1))) tNil))) tNil)) (tCB (rReprZ K) (tCons (tVar 1) tNil)))) (tTest (tOp rNe (tCB (rReprZ K) (tCons (tVar 2) tNil)) (tVar 3)))) (tRet (tC (.bl false))) tNext)
    (tSeq (tFor (iRng1 (tCons (tC (.int 3)) tNil)) (gName 4) (tSeq (tAsg (tCall (spS K FPot TNoRow) [] E0 (tCons (tVar 0) (tCons (tVar 1) tNil))) (gName 5))
    (tSeq (tAsg (tCB (rReprZ K) (tCons (tVar 5) tNil)) (gName 3))
    (tIfS (tOr (tTest (tOp rNe (tCall (spP K TToldL) [] E0 (tCons (tVar 5) (tCons (tOp (rIxT K) (tVar 1) (tC (.int 1))) tNil))) (tC (.str "line")))) (tOr (tTest (tOp rNe (tCall (spP K TToldL) [] E0 (tCons (tCB (rTupOf K) (tCons (tVar 5) tNil)) (tCons (tOp (rIxT K) (tVar 1) (tC (.int 1))) tNil))) (tC (.str "line")))) (tTest (tOp rNe (tCB (rReprZ K) (tCons (tVar 5) tNil)) (tVar 3))))) (tRet (tC (.bl false))) tNext))))
    (tRet (tC (.bl true))))))))
end DL

set_option Elab.async false
set_option linter.all false
set_option maxRecDepth 100000
set_option maxHeartbeats 4000000
/-! LR6: the law of lines known and made -/
namespace DL
open PySem PySem.Spec PyProof.Rows L2
local macro_rules | `(tactic| walk_at "dl") => `(tactic| repeat' (first
  | with_reducible refine wd_isTy ?_ | with_reducible refine wd_isi ?_ | ((with_reducible show WD _ _ (tOp (rIxL _) (tVar _) _) _ _); refine wd_ix_own rfl ?_) | with_reducible refine wd_op ?_ | ((with_reducible show WD _ _ (tCB (rLenX _) (tCons (tVar _) tNil)) _ _); refine wd_len_scr rfl ?_) | ((with_reducible show WD _ _ (tCB (rLenX _) (tCons (tVar _) tNil)) _ _); refine wd_len_own rfl ?_) | with_reducible refine wd_cb ?_ | with_reducible refine wd_un ?_ | with_reducible refine wa_cons ?_ | with_reducible refine wa_nil ?_ | ((with_reducible show WD _ _ (tVar _) _ _); refine wd_var rfl ?_) | with_reducible refine wd_int ?_ | with_reducible refine wd_bl ?_ | with_reducible refine wd_str ?_ | with_reducible refine wd_non ?_
  | with_reducible refine do_nesS ?_ | with_reducible refine dc_intB ?_ | with_reducible refine do_add ?_ | with_reducible refine do_sub ?_ | ((with_reducible refine do_mod ?_ ?_); decide) | with_reducible refine do_mod ?_ ?_ | with_reducible refine do_mul ?_ ?_ | ((with_reducible refine do_div ?_ ?_); exact ⟨by decide, by decide⟩) | with_reducible refine do_div ?_ ?_ | ((with_reducible refine do_pow ?_ ?_); exact ⟨by decide, by decide, by decide⟩) | with_reducible refine do_pow ?_ ?_
  | with_reducible refine do_lt ?_ | with_reducible refine do_le ?_ | with_reducible refine do_gt ?_ | with_reducible refine do_ge ?_ | with_reducible refine du_neg ?_
  | with_reducible refine do_eqi ?_ | with_reducible refine do_nei ?_ | with_reducible refine do_eqs ?_ | with_reducible refine do_nes ?_ | with_reducible refine dc_abs ?_ | with_reducible refine dc_min ?_ | with_reducible refine dc_max ?_ | with_reducible refine dc_lenL ?_ | with_reducible refine dc_lenT ?_ | with_reducible refine dc_lenR ?_ | with_reducible refine dc_listT ?_ | with_reducible refine dc_listL ?_ | with_reducible refine dc_tupL ?_ | with_reducible refine dc_gcd ?_
  | ((with_reducible show DO _ (rIxT _) _ _ _); refine do_ixT rfl ?_) | ((with_reducible show DO _ (rIxL _) _ _ _); refine do_ixL rfl ?_) | ((with_reducible refine do_catL ?_ ?_); exact Nat.le_of_ble_eq_true rfl) | with_reducible refine do_catL ?_ ?_ | ((with_reducible show And (List.length _ ≤ sizeLine) _); refine ⟨Nat.le_of_ble_eq_true rfl, ?_⟩)
  | with_reducible refine wd_dnew ?_ | with_reducible refine wd_call0 ?_ | with_reducible refine wd_slA ?_ | with_reducible refine wd_slL ?_ | with_reducible refine wd_revT ?_ | with_reducible refine do_catA ?_ ?_ | with_reducible refine wo_part ?_ | with_reducible refine wo_none ?_ | with_reducible refine do_eqQ ?_ | with_reducible refine do_neQ ?_ | with_reducible refine wi_enumT ?_ | with_reducible refine wi_enumD ?_ | with_reducible refine tAdQ (by omega) (by omega) ?_ | with_reducible refine tSbQ (by omega) (by omega) ?_ | with_reducible refine tMlQ (by omega) (by omega) ?_ | with_reducible refine tDvQ (by assumption) (by omega) (by omega) ?_ | with_reducible refine tLtQ (by omega) (by omega) ?_ | with_reducible refine dc_str ?_ ?_ | with_reducible refine wd_tup ?_ | with_reducible refine wd_lst ?_ | with_reducible refine wt_test ?_ | with_reducible refine wt_B ?_ | with_reducible refine wt_not ?_ | with_reducible refine wt_and ?_ | with_reducible refine wt_or ?_ | with_reducible refine wd_ifE ?_ | with_reducible refine wd_andV ?_ | with_reducible refine wd_orV ?_ | with_reducible refine wd_notV ?_
  | with_reducible refine ws_seq ?_ | with_reducible refine ws_next ?_ | with_reducible refine ws_asg ?_ | with_reducible refine ws_ret ?_ | with_reducible refine ws_retN ?_ | with_reducible refine ws_if ?_ | with_reducible refine ws_par ?_ | with_reducible refine ws_unp2 ?_
  | with_reducible refine if_t ?_ | with_reducible refine if_f ?_ | with_reducible refine if_nf ?_ | with_reducible refine if_nt ?_
  | ((with_reducible show Exists _); first | refine ⟨_, kitInt _, ?_⟩ | refine ⟨_, kitBool _, ?_⟩ | refine ⟨_, kitTup _, ?_⟩ | refine ⟨_, kitList _, ?_⟩ | refine ⟨_, rfl, ?_⟩ | refine ⟨_, _, rfl, ?_⟩ | fail) | fail))
def t_law6 (K : PySem.W.Frag) : TS :=
  (tSeq (tFor (iEnum K (tCons (tOp rCatL (tLst (tCons (tC (.int 0)) tNil)) (tCall (spF K) [] E0 (tCons (tVar 0) (tCons (tC (.int 20)) tNil)))) tNil)) (gTup K 2 (gCons (gName 1) (gCons (gName 2) gNil))) (tSeq (tAsg (tCall (spN K TPot) [] E0 (tCons (tVar 2) (tCons (tVar 1) tNil))) (gName 3))
    (tSeq (tAsg (tCall (spS K FPot TLine) [] E0 (tCons (tVar 3) (tCons (tOp (rIxL K) (tLst (tCons (tC (.int 12)) (tCons (tC (.int 60)) tNil))) (tCB rInt1 (tCons (tOp rEq (tVar 1) (tC (.int 1))) tNil))) tNil))) (gName 4))
    (tSeq (tFor (iList K (tOp rCatL (tLst (tCons (tVar 4) tNil)) (tLc (iRng1 (tCons (tC (.int 6)) tNil)) (gName 8) tYes (tCall (spS K FPot TBent) [] E0 (tCons (tVar 3) (tCons (tVar 4) tNil))) [8]))) (gName 5) (tSeq (tAsg (tCB (rReprZ K) (tCons (tVar 5) tNil)) (gName 6))
    (tIfS (tOr (tTest (tOp rNe (tCB (rReprZ K) (tCons (tCall (spP K TIsLine) [] E0 (tCons (tVar 5) tNil)) tNil)) (tCB (rReprZ K) (tCons (tCall (spP K TIsLine) [] E0 (tCons (tVar 5) tNil)) tNil)))) (tTest (tOp rNe (tCB (rReprZ K) (tCons (tVar 5) tNil)) (tVar 6)))) (tRet (tC (.bl false))) tNext)))
    (tIfS (tNot (tB (tCall (spS K FPot TRight) [] E0 (tCons (tVar 3) (tCons (tVar 4) tNil))))) (tRet (tC (.bl false))) tNext)))))
    (tSeq (tAsg (tLc (iRng1 (tCons (tC (.int 300)) tNil)) (gName 8) tYes (tTup (tCons (tTup (tCons (tVar 8) (tCons (tC (.int 1)) tNil))) (tCons (tTup (tCons (tOp rModI (tVar 8) (tC (.int 2))) (tCons (tC (.int 1)) tNil))) tNil))) [8]) (gName 7))
    (tSeq (tIfS (tOr (tTest (tOp rNotB (tCall (spP K TIsLine) [] E0 (tCons (tTup (tCons (tCB (rTupOf K) (tCons (tVar 7) tNil)) (tCons (tTup (tCons (tC (.int 5)) (tCons (tC (.int 1)) tNil))) tNil))) tNil)) (tC (.bl true)))) (tTest (tOp (rNeD K) (tCall (spP K TLineOf) [] E0 (tCons (tVar 7) (tCons (tTup (tCons (tC (.int 5)) (tCons (tC (.int 1)) tNil))) tNil))) (tTup (tCons (tCB (rTupOf K) (tCons (tVar 7) tNil)) (tCons (tTup (tCons (tC (.int 5)) (tCons (tC (.int 1)) tNil))) tNil)))))) (tRet (tC (.bl false))) tNext)
    (tSeq (tAsg (tTup (tCons (tTup (tCons (tC (.int 150)) (tCons (tC (.int 1)) tNil))) (tCons (tTup (tCons (tC (.int 1)) (tCons (tC (.int 1)) tNil))) tNil))) (gSub (tVar 7) (tC (.int 150)) rSetL))
    (tSeq (tIfS (tOr (tTest (tOp rNotB (tCall (spP K TIsLine) [] E0 (tCons (tTup (tCons (tCB (rTupOf K) (tCons (tVar 7) tNil)) (tCons (tTup (tCons (tC (.int 5)) (tCons (tC (.int 1)) tNil))) tNil))) tNil)) (tC (.bl false)))) (tTest (tOp rNe (tCB (rLenX K) (tCons (tOp (rIxT K) (tCall (spP K TLineOf) [] E0 (tCons (tVar 7) (tCons (tTup (tCons (tC (.int 5)) (tCons (tC (.int 1)) tNil))) tNil))) (tC (.int 0))) tNil)) (tC (.int 299))))) (tRet (tC (.bl false))) tNext)
    (tRet (tOp rIsB (tCall (spP K TIsLine) [] E0 (tCons (tTup (tCons (tTup (tCons (tTup (tCons (tTup (tCons (tC (.int 0)) (tCons (tC (.int 1)) tNil))) (tCons (tTup (tCons (tC (.int 0)) (tCons (tC (.int 1)) tNil))) tNil))) tNil)) (tCons (tTup (tCons (tC (.int 0)) (tCons (tC (.int 1)) tNil))) tNil))) tNil)) (tC (.bl true)))))))))
end DL

set_option Elab.async false
set_option linter.all false
set_option maxRecDepth 100000
set_option maxHeartbeats 4000000
/-! DM5: list(zip(xs, ys)) -/
namespace DZ
open PySem PySem.W PySem.Calls PyProof.Rows PyProof.V PySem.Spec
theorem zNoLen : typeLookup (.type "zip") "__len__" = pure none := by
  rw [typeLookup_type, builtinLookup_eq_fast]
  kernel_rfl
theorem zNoHint : typeLookup (.type "zip") "__length_hint__" = pure none := by
  rw [typeLookup_type, builtinLookup_eq_fast]
  kernel_rfl
/-- where the parts of a zip stand, all below the list S -/
structure Pl (z TI TO i1 i2 l1 l2 S : Addr) : Prop where
  D : ZipApart z TI TO i1 i2 l1 l2
  z : z < S
  TI : TI < S
  TO : TO < S
  i1 : i1 < S
  i2 : i2 < S
  l1 : l1 < S
  l2 : l2 < S
/-- a zip behind its i-th pair -/
structure St (z TI TO i1 i2 l1 l2 S : Addr) (xs ys : Array Value) (i : Nat) (h : Heap) : Prop where
  ti : IsPair h TI (.ref i1) (.ref i2)
  a1 : h.IsListIter i1 l1 i
  a2 : h.IsListIter i2 l2 i
  b1 : h.IsList l1 xs
  b2 : h.IsList l2 ys
  out : (IsZip h z TI TO .none ∧ ∃ a b, IsPair h TO a b) ∨ ∃ (T : Addr) (f : Bool) (oT : Obj), IsZipHeld h z TI TO T f ∧ h.get? T = some oT ∧ T ≠ z ∧ T ≠ i1 ∧ T ≠ i2 ∧ T ≠ S
/-- the pairs made so far -/
structure Gd (xs ys : Array Value) (S : Addr) (h : Heap) (as : List Addr) : Prop where
  up : as.Pairwise (· < ·)
  lo : ∀ a ∈ as, S < a
  at' : ∀ (j : Nat) (a : Addr), as[j]? = some a → ∃ x y, xs[j]? = some x ∧ ys[j]? = some y ∧ IsPair h a x y
section
variable {prog : Program} {w : World} {A : Around} {E : Value → Shared → Prop} {s : Shared} {z TI TO i1 i2 l1 l2 S : Addr} {xs ys : Array Value}
theorem St.mv {i : Nat} {h g : Heap} (P : Pl z TI TO i1 i2 l1 l2 S) (t : St z TI TO i1 i2 l1 l2 S xs ys i h) (k : ∀ b o, b ≠ S → h.get? b = some o → g.get? b = some o) : St z TI TO i1 i2 l1 l2 S xs ys i g := by
  have n : ∀ {b : Addr}, b < S → b ≠ S := fun h => Nat.ne_of_lt h
  refine ⟨k _ _ (n P.TI) t.ti, t.a1.at fun o e => k _ _ (n P.i1) e, t.a2.at fun o e => k _ _ (n P.i2) e, t.b1.at fun o e => k _ _ (n P.l1) e, t.b2.at fun o e => k _ _ (n P.l2) e, ?_⟩
  cases t.out with
  | inl q =>
    obtain ⟨q1, a, b, q2⟩ := q
    exact .inl ⟨k _ _ (n P.z) q1, a, b, k _ _ (n P.TO) q2⟩
  | inr q =>
    obtain ⟨T, f, oT, q1, q2, q3, q4, q5, q6⟩ := q
    exact .inr ⟨T, f, oT, k _ _ (n P.z) q1, k _ _ q6 q2, q3, q4, q5, q6⟩
theorem St.nxt {i : Nat} {x y : Value} {Q : Option Value → Shared → Prop} (P : Pl z TI TO i1 i2 l1 l2 S) (t : St z TI TO i1 i2 l1 l2 S xs ys i s.heap) (hS : S < s.heap.objs.size) (hx : xs[i]? = some x) (hy : ys[i]? = some y)
    (q : ∀ g, St z TI TO i1 i2 l1 l2 S xs ys (i + 1) g → IsPair g s.heap.objs.size x y → g.objs.size = s.heap.objs.size + 1 → (∀ c o, c ≠ z → c ≠ TO → c ≠ i1 → c ≠ i2 → s.heap.get? c = some o → g.get? c = some o) → Q (some (.ref s.heap.objs.size)) { s with heap := g }) :
    wpAny (model prog w) A (pyNext (.ref z)) Q E s := by
  have D := P.D
  have ln : ∀ {c : Addr} {o : Obj}, s.heap.get? c = some o → s.heap.objs.size ≠ c := fun e => Nat.ne_of_gt (Heap.lt_size e)
  obtain ⟨o1, p1, _⟩ := id t.a1
  obtain ⟨o2, p2, _⟩ := id t.a2
  cases t.out with
  | inl o =>
    obtain ⟨oz, a, b, oTO⟩ := o
    refine wpAny_pyNext_zip_item D oz t.ti oTO t.a1 t.a2 t.b1 t.b2 hx hy fun g g1 g2 g3 g4 g5 g6 kp => q g ?_ g5 g6 kp
    refine ⟨kp _ _ D.TIz D.TITO D.TIi1 D.TIi2 t.ti, g3, g4, t.b1.at fun o e => kp _ o D.l1z D.l1TO D.l1i1 D.l1i2 e, t.b2.at fun o e => kp _ o D.l2z D.l2TO D.l2i1 D.l2i2 e, .inr ?_⟩
    exact ⟨s.heap.objs.size, false, _, g1, g5, ln oz, ln p1, ln p2, Nat.ne_of_gt hS⟩
  | inr o =>
    obtain ⟨T, f, oT, oz, hT, r1, r2, r3, r4⟩ := o
    refine wpAny_pyNext_zip_item_held D oz hT t.ti t.a1 t.a2 t.b1 t.b2 hx hy fun g g1 g3 g4 g5 g6 kp => q g ?_ g5 g6 fun c o c1 _ c3 c4 e => kp c o c1 c3 c4 e
    refine ⟨kp _ _ D.TIz D.TIi1 D.TIi2 t.ti, g3, g4, t.b1.at fun o e => kp _ o D.l1z D.l1i1 D.l1i2 e, t.b2.at fun o e => kp _ o D.l2z D.l2i1 D.l2i2 e, .inr ?_⟩
    exact ⟨T, true, oT, g1, kp _ _ r1 r2 r3 hT, r1, r2, r3, r4⟩
theorem St.end' {i : Nat} {Q : Option Value → Shared → Prop} (hh : A.handled = none) (P : Pl z TI TO i1 i2 l1 l2 S) (t : St z TI TO i1 i2 l1 l2 S xs ys i s.heap) (he : xs[i]? = none)
    (q : ∀ g, (∀ c o, c ≠ z → c ≠ TO → c ≠ i1 → c ≠ i2 → s.heap.get? c = some o → g.get? c = some o) → Q none { s with heap := g }) :
    wpAny (model prog w) A (pyNext (.ref z)) Q E s := by
  cases t.out with
  | inl o =>
    obtain ⟨oz, a, b, oTO⟩ := o
    exact wpAny_pyNext_zip_end hh P.D oz t.ti oTO t.a1 t.a2 t.b1 t.b2 (.inl he) fun g kp => q g kp
  | inr o =>
    obtain ⟨T, f, oT, oz, hT, r1, r2, r3, r4⟩ := o
    exact wpAny_pyNext_zip_end_held hh P.D oz hT t.ti t.a1 t.a2 t.b1 t.b2 (.inl he) fun g kp => q g fun c o c1 _ c3 c4 e => kp c o c1 c3 c4 e
end
section
variable {prog : Program} {w : World} {A : Around} {s : Shared} {R : Result → Shared → Prop} {z TI TO i1 i2 l1 l2 S : Addr} {xs ys : Array Value}
theorem fill (hh : A.handled = none) (P : Pl z TI TO i1 i2 l1 l2 S) (hl : xs.size = ys.size) (hn : xs.size ≤ sizeLine) (res : Value) {g0 : Heap} (low : ∀ b o, g0.get? b = some o → b ≠ S ∧ b ≠ z ∧ b ≠ TO ∧ b ≠ i1 ∧ b ≠ i2)
    (fin : ∀ g tk acc c as, (∀ b o, g0.get? b = some o → g.get? b = some o) → g.get? S = some { cls := .type "list", dict := none, data := .seq acc c, slots := #[] } → as.length = xs.size → Gd xs ys S g as →
      acc.toList = as.map Value.ref → R (.ok (.ret res)) { s with heap := g, toks := tk }) :
    ∀ (m i : Nat) (g : Heap) (tk c : Nat) (acc : Array Value) (as : List Addr), xs.size = i + m → St z TI TO i1 i2 l1 l2 S xs ys i g → (∀ b o, g0.get? b = some o → g.get? b = some o) →
      g.get? S = some { cls := .type "list", dict := none, data := .seq acc c, slots := #[] } → acc.toList = as.map Value.ref → as.length = i → Gd xs ys S g as →
      codeAny (model prog w) A (.builtin "list.extend.loop" ⟨[.ref S, .ref z, res], []⟩) R { s with heap := g, toks := tk } := by
  intro m
  induction m with
  | zero =>
    intro i g tk c acc as e t kp hS ha al G
    ((refine codeAny_builtin PySem.F.entry_extend_loop ?_); (rw [Around.under_plainId PySem.F.plain_extend_loop _]); (show wpAny _ A.in1 (pyNext (.ref z) >>= _) _ _ _))
    refine wpAny_bind (t.end' (s := { s with heap := g, toks := tk }) (A := A.in1) hh P (Array.getElem?_eq_none (by omega)) fun g' k' => ?_)
    have nS : S ≠ z ∧ S ≠ TO ∧ S ≠ i1 ∧ S ≠ i2 := ⟨Nat.ne_of_gt P.z, Nat.ne_of_gt P.TO, Nat.ne_of_gt P.i1, Nat.ne_of_gt P.i2⟩
    refine wpAny_pure (fin g' tk acc c as (fun b o e' => ?_) (k' _ _ nS.1 nS.2.1 nS.2.2.1 nS.2.2.2 hS) (by omega) ⟨G.up, G.lo, fun j a ja => ?_⟩ ha)
    · obtain ⟨_, w1, w2, w3, w4⟩ := low b o e'
      exact k' b o w1 w2 w3 w4 (kp b o e')
    · obtain ⟨x, y, hx, hy, hp⟩ := G.at' j a ja
      have la := G.lo a (List.mem_of_getElem? ja)
      exact ⟨x, y, hx, hy, k' _ _ (Nat.ne_of_gt (Nat.lt_trans P.z la)) (Nat.ne_of_gt (Nat.lt_trans P.TO la)) (Nat.ne_of_gt (Nat.lt_trans P.i1 la)) (Nat.ne_of_gt (Nat.lt_trans P.i2 la)) hp⟩
  | succ m ih =>
    intro i g tk c acc as e t kp hS ha al G
    have hix : i < xs.size := by omega
    have hiy : i < ys.size := by omega
    have as' : acc.size = i := by rw [← Array.length_toList, ha, List.length_map, al]
    have sS : S < g.objs.size := Heap.lt_size hS
    ((refine codeAny_builtin PySem.F.entry_extend_loop ?_); (rw [Around.under_plainId PySem.F.plain_extend_loop _]); (show wpAny _ A.in1 (pyNext (.ref z) >>= _) _ _ _))
    refine wpAny_bind (t.nxt (s := { s with heap := g, toks := tk }) P sS (Array.getElem?_eq_getElem hix) (Array.getElem?_eq_getElem hiy) fun g' t' hp hz k' => ?_)
    dsimp only at t' hp hz k' ⊢
    have nS : S ≠ z ∧ S ≠ TO ∧ S ≠ i1 ∧ S ≠ i2 := ⟨Nat.ne_of_gt P.z, Nat.ne_of_gt P.TO, Nat.ne_of_gt P.i1, Nat.ne_of_gt P.i2⟩
    have hS' := k' _ _ nS.1 nS.2.1 nS.2.2.1 nS.2.2.2 hS
    have mv : ∀ b o, b ≠ S → g'.get? b = some o → (g'.update S (Obj.mapSeq (·.push (Value.ref g.objs.size)))).get? b = some o := fun b o hb e' => by
      rw [Heap.get?_update_other _ _ (Ne.symm hb)]; exact e'
    have old : ∀ a, S < a → ∀ o, g.get? a = some o → (g'.update S (Obj.mapSeq (·.push (Value.ref g.objs.size)))).get? a = some o := fun a la o e' =>
      mv a o (Nat.ne_of_gt la) (k' _ _ (Nat.ne_of_gt (Nat.lt_trans P.z la)) (Nat.ne_of_gt (Nat.lt_trans P.TO la)) (Nat.ne_of_gt (Nat.lt_trans P.i1 la)) (Nat.ne_of_gt (Nat.lt_trans P.i2 la)) e')
    show wpAny _ A.in1 (updateSeq S (·.push (Value.ref g.objs.size)) >>= _) _ _ _
    refine wpAny_bind (wpAny_updateSeq hS' rfl (wpAny_pure ⟨plainId_quiet PySem.F.plain_extend_loop _, ?_⟩) (by rw [as']; omega) (by show (acc.push (Value.ref g.objs.size)).size ≤ sizeLine + 1; rw [Array.size_push, as']; omega))
    refine ih (i + 1) _ tk _ (acc.push (Value.ref g.objs.size)) (as ++ [g.objs.size]) (by omega) (t'.mv P mv) (fun b o e' => ?_) (Heap.get?_update_self _ hS' rfl) ?_ (by rw [List.length_append, al]; rfl) ⟨?_, fun a ha' => ?_, fun j a ja => ?_⟩
    · obtain ⟨w0, w1, w2, w3, w4⟩ := low b o e'
      exact mv b o w0 (k' b o w1 w2 w3 w4 (kp b o e'))
    · rw [Array.toList_push, ha, List.map_append]; rfl
    · refine List.pairwise_append.mpr ⟨G.up, List.pairwise_singleton _ _, fun a ha' b hb => ?_⟩
      have e1 : b = g.objs.size := by simpa using hb
      subst e1
      obtain ⟨j, hj⟩ := List.mem_iff_getElem?.mp ha'
      obtain ⟨_, _, _, _, hp'⟩ := G.at' j a hj
      exact Heap.lt_size hp'
    · rcases List.mem_append.mp ha' with h | h
      · exact G.lo a h
      · have e1 : a = g.objs.size := by simpa using h
        subst e1; exact sS
    · by_cases q : j < as.length
      · rw [List.getElem?_append_left q] at ja
        obtain ⟨x, y, hx, hy, hp'⟩ := G.at' j a ja
        exact ⟨x, y, hx, hy, old a (G.lo a (List.mem_of_getElem? ja)) _ hp'⟩
      · by_cases q2 : j = as.length
        · subst q2
          have e1 : g.objs.size = a := by simpa using ja
          subst e1
          exact ⟨_, _, by rw [al]; exact Array.getElem?_eq_getElem hix, by rw [al]; exact Array.getElem?_eq_getElem hiy, mv _ _ (Nat.ne_of_gt sS) hp⟩
        · rw [List.getElem?_eq_none (by rw [List.length_append, List.length_singleton]; omega)] at ja
          cases ja
end
section
variable {prog : Program} {w : World} {A : Around} {E : Value → Shared → Prop} {s : Shared} {z TI TO i1 i2 l1 l2 : Addr} {xs ys : Array Value}
/-- list(z), z a new zip of two lists of one length -/
theorem made {Q : Value → Shared → Prop} {g0 : Heap} (hh : A.handled = none) (P : Pl z TI TO i1 i2 l1 l2 s.heap.objs.size) (hl : xs.size = ys.size) (hn : xs.size ≤ sizeLine)
    (hz : IsZip s.heap z TI TO .none) (hTI : IsPair s.heap TI (.ref i1) (.ref i2)) (hTO : ∃ a b, IsPair s.heap TO a b) (h1 : s.heap.IsListIter i1 l1 0) (h2 : s.heap.IsListIter i2 l2 0) (b1 : s.heap.IsList l1 xs) (b2 : s.heap.IsList l2 ys)
    (k0 : ∀ b o, g0.get? b = some o → s.heap.get? b = some o ∧ b ≠ z ∧ b ≠ TO ∧ b ≠ i1 ∧ b ≠ i2)
    (fin : ∀ g tk acc c as, (∀ b o, g0.get? b = some o → g.get? b = some o) → g.get? s.heap.objs.size = some { cls := .type "list", dict := none, data := .seq acc c, slots := #[] } → as.length = xs.size → Gd xs ys s.heap.objs.size g as →
      acc.toList = as.map Value.ref → Q (.ref s.heap.objs.size) { s with heap := g, toks := tk }) : wpAny (model prog w) A (call (.type "list") [.ref z]) Q E s := by
  refine callType_codes (Q₁ := fun obj t => obj = .ref s.heap.objs.size ∧ t = { s with heap := s.heap.push { cls := .type "list", data := .seq #[] } }) PySem.F.called_list (PySem.F.typeCall_list_1 _) PySem.F.entry_list_init (code_list_new _ ⟨rfl, rfl⟩) fun obj t ht => ?_
  obtain ⟨rfl, rfl⟩ := ht
  have o0 : (s.heap.push { cls := .type "list", data := .seq #[] }).get? s.heap.objs.size = some { cls := .type "list", data := .seq #[] } := Heap.get?_push_size _ rfl
  refine ⟨⟨_, o0, rfl⟩, PySem.F.args_list_init_2 _ _, ?_⟩
  have zS : s.heap.objs.size ≠ z := Nat.ne_of_gt P.z
  have kk : ∀ b o, s.heap.get? b = some o → b ≠ s.heap.objs.size := fun b o e => Nat.ne_of_lt (Heap.lt_size e)
  have st0 : St z TI TO i1 i2 l1 l2 s.heap.objs.size xs ys 0 s.heap := ⟨hTI, h1, h2, b1, b2, .inl ⟨hz, hTO⟩⟩
  generalize s.heap.objs.size = S at *
  have n0 : ∀ (g : Heap) (f : Obj → Obj), (∀ b o, b ≠ S → s.heap.get? b = some o → g.get? b = some o) → ∀ b o, b ≠ S → s.heap.get? b = some o → (g.update S f).get? b = some o := fun g f q b o hb e => by
    rw [Heap.get?_update_other _ _ (Ne.symm hb)]; exact q b o hb e
  have m1 : ∀ b o, b ≠ S → s.heap.get? b = some o → (s.heap.push { cls := .type "list", data := .seq #[] }).get? b = some o := fun b o _ e => Heap.get?_push_of_some _ e
  generalize s.heap.push { cls := .type "list", data := .seq #[] } = g1 at o0 m1 ⊢
  show wpAny _ A.in1.in1 (do let old ← Builtin.List.listItems (.ref S); Builtin.List.listUpdate (.ref S) (fun _ => #[]); letGo old.toList.reverse; Builtin.List.listExtendWith (.ref S) (.ref z) .none) _ _ _
  refine wpAny_bind ?_
  unfold Builtin.List.listItems
  refine wpAny_bind (wpAny_seqItems o0 rfl (wpAny_pure ?_))
  show wpAny _ A.in1.in1 (updateSeq S (fun _ => #[]) >>= fun _ => letGo (#[] : Array Value).toList.reverse >>= fun _ => Builtin.List.listExtendWith (.ref S) (.ref z) .none) _ _ _
  refine wpAny_bind (wpAny_updateSeq o0 rfl ?_)
  have o2 := Heap.get?_update_self (Obj.mapSeq (fun _ => (#[] : Array Value))) o0 rfl
  have m2 := n0 g1 (Obj.mapSeq (fun _ => (#[] : Array Value))) m1
  generalize g1.update S (Obj.mapSeq (fun _ => (#[] : Array Value))) = g2 at o2 m2 ⊢
  refine wpAny_bind (wpAny_letGo ?_)
  unfold Builtin.List.listExtendWith
  have tz : Shared.TypeIs { s with heap := g2 } (.ref z) "zip" := ⟨_, m2 _ _ (Ne.symm zS) hz, rfl⟩
  refine wpAny_bind (wpAny_typeOf tz ?_)
  have c1 : Builtin.List.listSameRef (.ref S) (.ref z) = false := by simp [Builtin.List.listSameRef, zS]
  have c2 : (Value.type "zip" == Value.type "list") = false := by decide
  have c3 : (Value.type "zip" == Value.type "tuple") = false := by decide
  simp only [c1, c2, c3, Bool.or_false, Bool.false_eq_true, if_false]
  refine wpAny_bind (wpAny_pyIter_zip (s := { s with heap := g2 }) (m2 _ _ (Ne.symm zS) hz) ?_)
  refine wpAny_bind (wpAny_holding ?_)
  unfold Builtin.List.listLengthHint
  refine wpAny_bind (wpAny_specialOf tz zNoLen ?_)
  show wpAny _ A.in1.in1 (specialOf (Value.ref z) (Str.ofString "__length_hint__") >>= _) _ _ _
  refine wpAny_bind (wpAny_specialOf tz zNoHint ?_)
  refine wpAny_pure ?_
  show wpAny _ A.in1.in1 (rule "list.extend.makes-room" >>= fun _ => Builtin.List.listTouch (.ref S) >>= fun _ => again (.builtin "list.extend.loop" ⟨[.ref S, .ref z, .none], []⟩)) _ _ _
  refine wpAny_bind (wpAny_rule ?_)
  refine wpAny_bind ?_
  show wpAny _ A.in1.in1 (updateSeq S (·.push .none) >>= fun _ => updateSeq S (·.pop)) _ _ _
  refine wpAny_bind (wpAny_updateSeq o2 rfl ?_)
  have o3 := Heap.get?_update_self (Obj.mapSeq (·.push Value.none)) o2 rfl
  have m3 := n0 g2 (Obj.mapSeq (·.push Value.none)) m2
  refine wpAny_updateSeq (hz := by seq_fits) o3 rfl ?_
  have o4 := Heap.get?_update_self (Obj.mapSeq (·.pop)) o3 rfl
  have m4 := n0 _ (Obj.mapSeq (·.pop)) m3
  refine wpAny_pure ⟨plainId_quiet PySem.F.plain_extend_loop _, ?_⟩
  refine fill (s := s) (xs := xs) (ys := ys) (g0 := g0) (A := A.in1) hh P hl hn .none (fun b o e => ?_) (fun g tk acc c as q1 q2 q3 q4 q5 => ⟨rfl, fin g tk acc c as q1 q2 q3 q4 q5⟩) xs.size 0 _ _ _ _ [] (by omega) (st0.mv P m4) (fun b o e => ?_) o4 ?_ rfl ⟨List.Pairwise.nil, (fun a h => by cases h), (fun j a h => by simp at h)⟩
  · obtain ⟨e1, e2⟩ := k0 b o e
    exact ⟨kk b o e1, e2⟩
  · obtain ⟨e1, _⟩ := k0 b o e
    exact m4 b o (kk b o e1) e1
  · rfl
end
end DZ

set_option Elab.async false
set_option linter.all false
set_option maxRecDepth 100000
set_option maxHeartbeats 4000000
/-! DM6: list(zip(xs, ys)) in the hand layer, over data -/
namespace DL
open PySem PySem.Spec PyProof.Rows L2
def tLZip (K : PySem.W.Frag) (ta : TA) : TE := fun σ H Q => ta σ H fun vs H1 => ∃ (a b : Addr) (xs ys : List V), vs = [.ref a, .ref b] ∧ SqL K H1 a xs ∧ SqL K H1 b ys ∧ xs.length = ys.length ∧
  ∀ (H2 : Hp) (l : Addr) (as : List Addr), Same H1 H2 → H1 l = none → H2 l = some (.lst (as.map V.ref)) → as.length = xs.length → (∀ (j : Nat) (c : Addr), as[j]? = some c → H1 c = none ∧ ∃ x y, xs[j]? = some x ∧ ys[j]? = some y ∧ H2 c = some (.tup [x, y])) → Q (.ref l) H2
theorem vals_refs : ∀ as : List Addr, Vals (as.map V.ref) (as.map Value.ref)
  | [] => .nil
  | a :: as => .cons rfl (vals_refs as)
theorem pe_lzip {X : Cx} {e1 e2 : Expr} {ta : TA} {p p2 pos pos2 : Pos} (hc : X.calm = true) (hgl : Gl X "list") (hml : X.mg "list" = none) (hgz : Gl X "zip") (hmz : X.mg "zip" = none) (ha : PA X [e1, e2] ta)
    (h1 : starEach [Expr.Call (.Name "zip" p2) [e1, e2] [] pos2] X.env = [(false, eval (.Call (.Name "zip" p2) [e1, e2] [] pos2) X.env)] := by rfl)
    (h2 : starEach [e1, e2] X.env = (false, eval e1 X.env) :: starEach [e2] X.env := by rfl) (h3 : (backTo pos2 (starEach [e2] X.env)).any (·.1) = false := by rfl) :
    PE X (.Call (.Name "list" p) [.Call (.Name "zip" p2) [e1, e2] [] pos2] [] pos) (tLZip X.K ta) := by
  refine ⟨fun pins s σ H Q I h => ?_⟩
  refine wpAny_Call_Name_kw (ld_blt I hgl hml (u := .type "list") (by decide +kernel) ?_)
  refine PyProof.Rows.callWith_type1 (rest := []) ?_ h1 rfl
  rw [h1]
  show wpAny _ _ (spliced [(false, eval (.Call (.Name "zip" p2) [e1, e2] [] pos2) X.env)]) _ _ s
  refine Calls.spliced_cons (wpAny_Call_Name_kw (ld_blt I hgz hmz PyProof.Rows.boot_zip (PyProof.Rows.callWith_type1 (thn (ha.run pos2 pins s σ H _ I h) fun us s1 ⟨vs, H1, I1, r1, q1⟩ => ?_) h2 h3)))
  obtain ⟨a, b, xs, ys, ex, hqx, hqy, hlen, q⟩ := q1
  subst ex
  cases r1 with
  | cons ra rr =>
    cases rr with
    | cons rb rr =>
      cases rr
      cases ra
      cases rb
      obtain ⟨its, rv, p1, hz1⟩ := I1.list hqx
      obtain ⟨jts, rw', p2', hz2⟩ := I1.list hqy
      have n1 := rv.length
      have n2 := rw'.length
      refine call_zip_2 p1.isList p2'.isList fun g hz hTI hTO g1 g2 hsz hk => Calls.spliced_nil ?_
      have la := p1.lt
      have lb := p2'.lt
      have I2 : L2.Inv X pins σ H1 { s1 with heap := g } := I1.kept (t' := s1.toks) hk
      have old : ∀ b o, s1.heap.get? b = some o → b < s1.heap.objs.size := fun b o e => Heap.lt_size e
      refine DZ.made (s := { s1 with heap := g }) (xs := its.toArray) (ys := jts.toArray) (g0 := s1.heap) (I1.ok.hd hc) ⟨PySem.W.ktu_apart _ a b la lb, ?_, ?_, ?_, ?_, ?_, ?_, ?_⟩ (by simp; omega) (by simp; omega) hz hTI ⟨_, _, hTO⟩ g1 g2 (p1.isList.at fun o e => hk _ o e) (p2'.isList.at fun o e => hk _ o e) (fun c o e => ?_) fun g' tk acc c as k' hS hal G hacc => ?_
      · show _ < g.objs.size; rw [hsz]; omega
      · show _ < g.objs.size; rw [hsz]; omega
      · show _ < g.objs.size; rw [hsz]; omega
      · show _ < g.objs.size; rw [hsz]; omega
      · show _ < g.objs.size; rw [hsz]; omega
      · show a < g.objs.size; rw [hsz]; exact Nat.lt_of_lt_of_le la (Nat.le_add_right _ _)
      · show b < g.objs.size; rw [hsz]; exact Nat.lt_of_lt_of_le lb (Nat.le_add_right _ _)
      · have lt := old c o e
        have ne : ∀ n, c ≠ s1.heap.objs.size + n := fun n => Nat.ne_of_lt (Nat.lt_of_lt_of_le lt (Nat.le_add_right _ _))
        exact ⟨hk c o e, ne 4, ne 3, ne 0, ne 1⟩
      · replace hS : g'.get? g.objs.size = some { cls := .type "list", dict := none, data := .seq acc c, slots := #[] } := hS
        show EP X pins σ Q (.ref g.objs.size) { s1 with heap := g', toks := tk }
        replace hal : as.length = its.length := by simpa using hal
        have sb : s1.heap.objs.size ≤ g.objs.size := by omega
        have sn : H1 g.objs.size = none := I1.hok.fresh sb
        have Ia : L2.Inv X pins σ H1 { s1 with heap := g', toks := tk } := I1.kept (t' := tk) k'
        have ea : acc = (as.map Value.ref).toArray := by rw [← hacc]
        have Ib : L2.Inv X pins σ (upd H1 g.objs.size (.lst (as.map V.ref))) { s1 with heap := g', toks := tk } :=
          Ia.take (h' := g') (t' := tk) (fun _ _ _ e => e) (I1.fpOk sb sn) ⟨by rw [List.length_map]; omega, as.map Value.ref, c, vals_refs as, by rw [← ea]; exact hS⟩
        have nd : as.Nodup := List.Pairwise.imp (fun h => Nat.ne_of_lt h) G.up
        have vx : ∀ (j : Nat) (c : Addr), as[j]? = some c → ∃ x y u v, xs[j]? = some x ∧ ys[j]? = some y ∧ RelV x u ∧ RelV y v ∧ g'.get? c = some { cls := .type "tuple", data := .seq #[u, v] } := fun j c hj => by
          obtain ⟨u, v, hu, hv, hp⟩ := G.at' j c hj
          have hu' : its[j]? = some u := by simpa using hu
          have hv' : jts[j]? = some v := by simpa using hv
          have lj : j < its.length := (List.getElem?_eq_some_iff.mp hu').1
          have ex := List.getElem?_eq_getElem (l := xs) (i := j) (by omega)
          have ey := List.getElem?_eq_getElem (l := ys) (i := j) (by omega)
          obtain ⟨u', hu2, r1⟩ := rv.get ex
          obtain ⟨v', hv2, r2⟩ := rw'.get ey
          rw [hu'] at hu2; cases hu2
          rw [hv'] at hv2; cases hv2
          exact ⟨_, _, u, v, ex, ey, r1, r2, hp⟩
        obtain ⟨H2, I3, kp, tp⟩ := L2.DX.takeT (h' := g') (tk := tk) (P := fun c vs => ∀ j, as[j]? = some c → ∃ x y, xs[j]? = some x ∧ ys[j]? = some y ∧ vs = [x, y]) I1 as _ Ib nd fun c hcm => by
          obtain ⟨j, hj⟩ := List.mem_iff_getElem?.mp hcm
          obtain ⟨x, y, u, v, ex, ey, r1, r2, hp⟩ := vx j c hj
          have lc : g.objs.size < c := G.lo c hcm
          have cn : H1 c = none := I1.hok.fresh (by omega)
          refine ⟨by omega, by rw [upd_ne (Nat.ne_of_gt lc)]; exact cn, [x, y], fun j' hj' => ?_, fun H3 => ⟨by show 2 ≤ sizeLine; decide, [u, v], .cons r1 (.cons r2 .nil), ⟨_, hp, rfl, _, rfl⟩⟩⟩
          have e : j = j' := (List.getElem?_inj (List.getElem?_eq_some_iff.mp hj).1 nd).mp (hj.trans hj'.symm)
          subst e
          exact ⟨x, y, ex, ey, rfl⟩
        refine ⟨.ref g.objs.size, H2, I3, rfl, q H2 _ as (fun b o e => kp b o (by rw [upd_ne fun z => by rw [z, sn] at e; cases e]; exact e)) sn (kp _ _ upd_same) (by omega) fun j c hj => ?_⟩
        have hcm := List.mem_of_getElem? hj
        obtain ⟨vs, hP, h2c⟩ := tp c hcm
        obtain ⟨x, y, ex, ey, rfl⟩ := hP j hj
        have lc : g.objs.size < c := G.lo c hcm
        exact ⟨I1.hok.fresh (by omega), x, y, ex, ey, h2c⟩
section
variable {K : PySem.W.Frag} {S : Stt} {ρ : Rho} {Φ : PyData → Rho → Prop}
theorem DqAll.zip {N : Av} {H : Hp} : ∀ {us vs : List V} {as : List Addr} {ds es : List PyData}, DqAll K N H us ds → DqAll K N H vs es → as.length = us.length → us.length = vs.length →
    (∀ (j : Nat) (c : Addr), as[j]? = some c → N c = false ∧ ∃ x y, us[j]? = some x ∧ vs[j]? = some y ∧ H c = some (.tup [x, y])) → DqAll K N H (as.map V.ref) (List.zipWith (fun x y => PyData.tuple [x, y]) ds es)
  | [], vs, as, ds, es, h1, h2, l1, l2, _ => by
    cases h1
    have : as = [] := List.length_eq_zero_iff.mp l1
    subst this
    exact DqAll.nil
  | u :: us, [], _, _, _, _, _, _, l2, _ => by simp at l2
  | u :: us, v :: vs, [], _, _, _, _, l1, _, _ => by simp at l1
  | u :: us, v :: vs, a :: as, ds, es, h1, h2, l1, l2, h => by
    cases h1 with
    | cons a1 a2 =>
      cases h2 with
      | cons b1 b2 =>
        obtain ⟨n, x, y, ex, ey, hc⟩ := h 0 a rfl
        cases ex; cases ey
        refine DqAll.cons (Dq.tup n hc (DqAll.cons a1 (DqAll.cons b1 DqAll.nil))) (DqAll.zip a2 b2 (by simpa using l1) (by simpa using l2) fun j c hj => ?_)
        obtain ⟨n', x', y', ex', ey', hc'⟩ := h (j + 1) c hj
        exact ⟨n', x', y', ex', ey', hc'⟩
theorem wd_lzip {ta : TA} (h : WA K S ta ρ fun xs ρ1 => ∃ ds es, xs = [.list ds, .list es] ∧ ds.length = es.length ∧ Φ (.list (List.zipWith (fun x y => PyData.tuple [x, y]) ds es)) ρ1) : WD K S (tLZip K ta) ρ Φ := fun H0 N0 Z N σ H E Q q =>
  h H0 N0 Z N σ H E _ fun vs xs ρ1 H1 ⟨ds, es, e, hl, f⟩ E1 k1 d1 => by
    subst e
    cases d1 with
    | cons a1 a2 =>
      cases a2 with
      | cons a2 a3 =>
        cases a3
        obtain ⟨p, us, rfl, _, hu, ha⟩ := Dq.lst_inv (N := N) (H := H1) a1
        obtain ⟨p', vs', rfl, _, hv, hb⟩ := Dq.lst_inv (N := N) (H := H1) a2
        refine ⟨p, p', us, vs', rfl, .inl hu, .inl hv, by rw [ha.len, hb.len]; exact hl, fun H2 l as sm ln hl2 al ht => ?_⟩
        have E2 := E1.ext sm
        have nf : ∀ c, H1 c = none → N c = false := fun c hc => fresh_av E1.trk hc
        refine q _ _ ρ1 H2 f E2 (k1.trans (Keep.of sm)) (Dq.lst (nf l ln) hl2 ?_)
        exact DqAll.zip (ha.keep (Keep.of sm)) (hb.keep (Keep.of sm)) al (by rw [ha.len, hb.len]; exact hl) fun j c hj => by
          obtain ⟨cn, x, y, ex, ey, hc⟩ := ht j c hj
          exact ⟨nf c cn, x, y, ex, ey, hc⟩
end
end DL

set_option Elab.async false
set_option linter.all false
set_option maxRecDepth 100000
set_option maxHeartbeats 4000000
/-! DM7: calls that tell a new list -/
namespace DL
open PySem PySem.Spec PyProof.Rows L2
/-- a new list of data -/
def spM (K : PySem.W.Frag) (T : List PyData → (List PyData → Prop) → Prop) : Sp := fun vs H Q _ => ∃ (N : Av) (ds : List PyData) (Φ : List PyData → Prop),
  (∀ b, N b = true → H b ≠ none) ∧ DqAll K N H vs ds ∧ T ds Φ ∧ ∀ es, Φ es → ∀ p us G, Same H G → G p = none → DqAll K N G us es → Q (.ref p) (upd G p (.lst us))
section
variable {K : PySem.W.Frag} {S : Stt} {ρ : Rho} {Φ : PyData → Rho → Prop}
theorem spM_len {T : List PyData → (List PyData → Prop) → Prop} {n : Nat} {vs : List V} {H : Hp} {Q : VK} {E : XK} (hT : ∀ ds Φ, T ds Φ → ds.length = n) (h : spM K T vs H Q E) : vs.length = n := by
  obtain ⟨N, ds, Φ, _, hd, t, _⟩ := h
  exact hd.len.trans (hT ds Φ t)
theorem wd_callM {T : List PyData → (List PyData → Prop) → Prop} {E : XK} {ta : TA} (h : WA K S ta ρ fun xs ρ1 => T xs fun es => Φ (.list es) ρ1) : WD K S (tCall (spM K T) [] E ta) ρ Φ := fun H0 N0 Z N σ H E' Q q =>
  h H0 N0 Z N σ H E' _ fun vs xs ρ1 H1 f E1 k1 d1 => by
    refine ⟨N, xs, _, E1.trk, by rw [List.append_nil]; exact d1, f, fun es hes p us G sm hp hu => ?_⟩
    have E2 := E1.ext sm
    have s := same_new hp (.lst us)
    exact q _ _ ρ1 _ hes (E2.ext s) ((k1.trans (Keep.of sm)).trans (Keep.of s)) (Dq.lst (fresh_av E2.trk hp) upd_same (hu.keep (Keep.of s)))
/-- a body whose end is own + te -/
theorem run_Mcat {T : List PyData → (List PyData → Prop) → Prop} {Nm : List Str} {ts : TS} {te : TE} {i : Nat} {vs : List V} {H : Hp} {Q : VK} {E : XK} (h : spM K T vs H Q E)
    (b : ∀ ds Ψ, T ds Ψ → WS K S0 ts (rhoOf Nm.length ds) { nx := fun ρ => ∃ xs, ρ[i]? = some (.own xs) ∧ WD K S0 te ρ fun d ρ' => ∃ ys, d = .list ys ∧ ρ'[i]? = some (.own xs) ∧ xs.length + ys.length ≤ sizeLine ∧ Ψ (xs ++ ys), rt := fun _ _ => False }) :
    tSeq ts (tRet (tOp rCatL (tVar i) te)) { nx := fun _ H' => Q .non H', rt := Q } (L2.start Nm vs) H := by
  obtain ⟨N, ds, Ψ, ht, hd, t, hQ⟩ := h
  refine b ds Ψ t H N [] N (L2.start Nm vs) H _ (env_start (Nm := Nm) ht hd) ⟨fun N1 σ1 H1 ρ1 ⟨xs, hi, w⟩ E1 => ?_, fun _ _ _ _ _ _ z => z.elim, fun _ _ _ _ z => z.elim, fun _ _ _ _ z => z.elim⟩
  obtain ⟨p, us, g1, _⟩ := E1.slot i _ hi
  refine ⟨_, g1, w H N [] N1 σ1 H1 E1 _ fun v d ρ2 H2 ⟨ys, ey, hi2, hz, hΨ⟩ E2 k2 d2 => ?_⟩
  subst ey
  obtain ⟨p', us', g1', g2, g3, g4, g5, g6, g7⟩ := E2.slot i _ hi2
  rw [g1] at g1'; cases g1'
  obtain ⟨p2, ws, rfl, _, h3, h4⟩ := Dq.lst_inv d2
  refine ⟨p, p2, us', ws, rfl, rfl, .inl g6, h3, by rw [g7.len, h4.len]; exact hz, fun r hr => ?_⟩
  exact hQ (xs ++ ys) hΨ r (us' ++ ws) H2 (fun b o e => E2.keep b o rfl e) hr ((g7.append h4).le E2.base)
end
end DL

set_option Elab.async false
set_option linter.all false
set_option maxRecDepth 100000
set_option maxHeartbeats 4000000
/-! LS1: rows of x merged; heights of rows; sums of lines -/
namespace DL
open PySem PySem.Spec PyProof.Rows L2
abbrev qL (l : List Rat) : PyData := .list (l.map qp)
def TKxs : List PyData → (PyData → Prop) → Prop := fun ds Φ => ∃ (ks : Kn) (s : Rat), ds = [lnD ks s] ∧ ks.length ≤ 100000 ∧ Φ (qL (ks.map (·.1)))
def TMerged : List PyData → (List PyData → Prop) → Prop := fun ds Φ => ∃ (a b : List Rat) (B : Nat), ds = [qL a, qL b] ∧ Srt a ∧ Srt b ∧ a.length + b.length ≤ 1000000 ∧ B ≤ 3800 ∧ (∀ x ∈ a, sz x ≤ B) ∧ (∀ x ∈ b, sz x ≤ B) ∧ ∀ l, IsMg a b l → Φ (l.map qp)
def THeights : List PyData → (PyData → Prop) → Prop := fun ds Φ => ∃ (ks : Kn) (s : Rat) (xs : List Rat) (B C : Nat), ds = [lnD ks s, qL xs] ∧ Lq B ks s ∧ Srt xs ∧ xs.length ≤ 1000000 ∧ (∀ x ∈ xs, 0 ≤ x ∧ sz x ≤ C) ∧ 5 * B + C ≤ 3800 ∧ Φ (qL (xs.map (yAt ks s)))
local macro_rules | `(tactic| walk_at "dl") => `(tactic| repeat' (first
  | with_reducible refine wd_isTy ?_ | with_reducible refine wd_isi ?_ | ((with_reducible show WD _ _ (tOp (rIxL _) (tVar _) _) _ _); refine wd_ix_own rfl ?_) | with_reducible refine wd_op ?_ | ((with_reducible show WD _ _ (tCB (rLenX _) (tCons (tVar _) tNil)) _ _); refine wd_len_scr rfl ?_) | ((with_reducible show WD _ _ (tCB (rLenX _) (tCons (tVar _) tNil)) _ _); refine wd_len_own rfl ?_) | with_reducible refine wd_cb ?_ | with_reducible refine wd_un ?_ | with_reducible refine wa_cons ?_ | with_reducible refine wa_nil ?_ | ((with_reducible show WD _ _ (tVar _) _ _); refine wd_var rfl ?_) | with_reducible refine wd_int ?_ | with_reducible refine wd_bl ?_ | with_reducible refine wd_str ?_ | with_reducible refine wd_non ?_
  | with_reducible refine do_nesS ?_ | with_reducible refine dc_intB ?_ | with_reducible refine do_add ?_ | with_reducible refine do_sub ?_ | ((with_reducible refine do_mod ?_ ?_); decide) | with_reducible refine do_mod ?_ ?_ | with_reducible refine do_mul ?_ ?_ | ((with_reducible refine do_div ?_ ?_); exact ⟨by decide, by decide⟩) | with_reducible refine do_div ?_ ?_ | ((with_reducible refine do_pow ?_ ?_); exact ⟨by decide, by decide, by decide⟩) | with_reducible refine do_pow ?_ ?_
  | with_reducible refine do_lt ?_ | with_reducible refine do_le ?_ | with_reducible refine do_gt ?_ | with_reducible refine do_ge ?_ | with_reducible refine du_neg ?_
  | with_reducible refine do_eqi ?_ | with_reducible refine do_nei ?_ | with_reducible refine do_eqs ?_ | with_reducible refine do_nes ?_ | with_reducible refine dc_abs ?_ | with_reducible refine dc_min ?_ | with_reducible refine dc_max ?_ | with_reducible refine dc_lenL ?_ | with_reducible refine dc_lenT ?_ | with_reducible refine dc_lenR ?_ | with_reducible refine dc_listT ?_ | with_reducible refine dc_listL ?_ | with_reducible refine dc_tupL ?_ | with_reducible refine dc_gcd ?_
  | ((with_reducible show DO _ (rIxT _) _ _ _); refine do_ixT rfl ?_) | ((with_reducible show DO _ (rIxL _) _ _ _); refine do_ixL rfl ?_) | ((with_reducible refine do_catL ?_ ?_); exact Nat.le_of_ble_eq_true rfl) | with_reducible refine do_catL ?_ ?_ | ((with_reducible show And (List.length _ ≤ sizeLine) _); refine ⟨Nat.le_of_ble_eq_true rfl, ?_⟩)
  | with_reducible refine wd_dnew ?_ | with_reducible refine wd_call0 ?_ | with_reducible refine wd_slA ?_ | with_reducible refine wd_slL ?_ | with_reducible refine wd_revT ?_ | with_reducible refine do_catA ?_ ?_ | with_reducible refine wo_part ?_ | with_reducible refine wo_none ?_ | with_reducible refine do_eqQ ?_ | with_reducible refine do_neQ ?_ | with_reducible refine wi_enumT ?_ | with_reducible refine wi_enumD ?_ | with_reducible refine tAdQ (by omega) (by omega) ?_ | with_reducible refine tSbQ (by omega) (by omega) ?_ | with_reducible refine tMlQ (by omega) (by omega) ?_ | with_reducible refine tDvQ (by assumption) (by omega) (by omega) ?_ | with_reducible refine tLtQ (by omega) (by omega) ?_ | with_reducible refine dc_str ?_ ?_ | with_reducible refine wd_tup ?_ | with_reducible refine wd_lst ?_ | with_reducible refine wt_test ?_ | with_reducible refine wt_B ?_ | with_reducible refine wt_not ?_ | with_reducible refine wt_and ?_ | with_reducible refine wt_or ?_ | with_reducible refine wd_ifE ?_ | with_reducible refine wd_andV ?_ | with_reducible refine wd_orV ?_ | with_reducible refine wd_notV ?_
  | with_reducible refine ws_seq ?_ | with_reducible refine ws_next ?_ | with_reducible refine ws_asg ?_ | with_reducible refine ws_ret ?_ | with_reducible refine ws_retN ?_ | with_reducible refine ws_if ?_ | with_reducible refine ws_par ?_ | with_reducible refine ws_unp2 ?_
  | with_reducible refine if_t ?_ | with_reducible refine if_f ?_ | with_reducible refine if_nf ?_ | with_reducible refine if_nt ?_
  | ((with_reducible show Exists _); first | refine ⟨_, kitInt _, ?_⟩ | refine ⟨_, kitBool _, ?_⟩ | refine ⟨_, kitTup _, ?_⟩ | refine ⟨_, kitList _, ?_⟩ | refine ⟨_, rfl, ?_⟩ | refine ⟨_, _, rfl, ?_⟩ | fail) | fail))
def t_kxs (K : PySem.W.Frag) : TS :=
  (tRet (tLc (iTup K (tOp (rIxT K) (tVar 0) (tC (.int 0)))) (gTup K 2 (gCons (gName 1) (gCons (gName 2) gNil))) tYes (tVar 1) [1, 2]))
def t_heights (K : PySem.W.Frag) : TS :=
  (tSeq (tAsg (tOp (rIxT K) (tVar 0) (tC (.int 0))) (gName 2))
    (tSeq (tAsg (tLst tNil) (gName 3))
    (tSeq (tAsg (tC (.int 0)) (gName 4))
    (tSeq (tFor (iList K (tVar 1)) (gName 5) (tSeq (tWhile (tAnd (tTest (tOp rLt (tOp rAddI (tVar 4) (tC (.int 1))) (tCB (rLenX K) (tCons (tVar 2) tNil)))) (tNot (tB (tCall (spP K TLtQ) [] E0 (tCons (tVar 5) (tCons (tOp (rIxT K) (tOp (rIxT K) (tVar 2) (tOp rAddI (tVar 4) (tC (.int 1)))) (tC (.int 0))) tNil)))))) (tAsg (tOp rAddI (tVar 4) (tC (.int 1))) (gName 4)))
    (tDrop (tBM K "list" rAppend (tVar 3) (tCons (tCall (spP K THeight) [] E0 (tCons (tVar 0) (tCons (tVar 4) (tCons (tVar 5) tNil)))) tNil)))))
    (tRet (tVar 3))))))
theorem qL_get {l : List Rat} {i : Nat} (h : i < l.length) : (l.map qp)[i]? = some (qp l[i]) := by
  rw [List.getElem?_map, List.getElem?_eq_getElem h]; rfl
section
variable {K : PySem.W.Frag} {ds : List PyData} {Φ : PyData → Prop}
theorem ws_kxs (h : TKxs ds Φ) : WS K S0 (t_kxs K) (rhoOf 3 ds) { nx := fun _ => Φ .none, rt := fun d _ => Φ d } := by
  obtain ⟨ks, s, rfl, hl, hΦ⟩ := h
  show WS K S0 (t_kxs K) [.dat (.tuple [knD ks, qp s]), .unk, .unk] _
  unfold t_kxs
  refine ws_ret (wd_lc (wi_tup ?_))
  walk_at "dl"
  refine ⟨by rw [List.length_map, sizeLine_eq]; omega, fun j acc ρ => acc = ((ks.take j).map (·.1)).map qp ∧ ρ = [.dat (.tuple [knD ks, qp s]), .unk, .unk], ⟨rfl, rfl⟩, ?_, ?_⟩
  · rintro j d acc ρ3 hd3 ⟨rfl, rfl⟩
    have hj : j < ks.length := by have := (List.getElem?_eq_some_iff.mp hd3).1; rwa [List.length_map] at this
    rw [kD_get hj] at hd3; cases hd3
    rw [kD_eta]
    refine ⟨_, _, gd_pair, fun j hj => hj, ?_⟩
    refine wt_yes ?_
    walk_at "dl"
    refine ⟨?_, rfl⟩
    rw [List.take_add_one, kn_get hj, Option.toList_some, List.map_append, List.map_append]; rfl
  · rintro acc ρ3 ⟨rfl, rfl⟩
    rw [List.length_map, List.take_length]
    exact hΦ
theorem ws_heights (h : THeights ds Φ) : WS K S0 (t_heights K) (rhoOf 6 ds) { nx := fun _ => Φ .none, rt := fun d _ => Φ d } := by
  obtain ⟨ks, s, xs, B, C, rfl, L, srt, xl, hx, hB, hΦ⟩ := h
  show WS K S0 (t_heights K) [.dat (.tuple [knD ks, qp s]), .dat (qL xs), .unk, .unk, .unk, .unk] _
  unfold t_heights
  have b0 := L.B0
  have hl := L.len
  refine ws_seq (ws_asg (wd_op (wd_var rfl (wd_int (do_ixT rfl ?_)))))
  refine ws_seq (ws_own (wa_nil ⟨Nat.zero_le _, ?_⟩))
  refine ws_seq (ws_asg (wd_int ?_))
  refine ws_seq (ws_for (wi_list (wd_var rfl ⟨_, rfl, fun k ρ => ∃ (a : Nat) (s5 : Sl), ρ = [.dat (.tuple [knD ks, qp s]), .dat (qL xs), .dat (knD ks), .own (((xs.take k).map (yAt ks s)).map qp), .dat (.int a), s5] ∧ a < ks.length ∧ ∀ x ∈ xs.drop k, (kn ks a).1 ≤ x, ⟨0, _, rfl, L.l.pos, fun x hx' => by rw [L.l.fst]; exact (hx x (List.mem_of_mem_drop hx')).1⟩, ?_, ?_⟩)))
  · rintro k d ρ2 hd ⟨a, s5, rfl, ha, hlow⟩
    have hk : k < xs.length := by have := (List.getElem?_eq_some_iff.mp hd).1; rwa [List.length_map] at this
    rw [qL_get hk] at hd; cases hd
    obtain ⟨x0, xC⟩ := hx xs[k] (List.getElem_mem hk)
    have hdr : xs[k] ∈ xs.drop k := by rw [mem_drop_cons hk]; exact .inl rfl
    refine ⟨_, _, gd_name, ?_⟩
    refine ws_seq (ws_while (fun m ρ => ∃ a : Nat, ρ = [.dat (.tuple [knD ks, qp s]), .dat (qL xs), .dat (knD ks), .own (((xs.take k).map (yAt ks s)).map qp), .dat (.int a), .dat (qp xs[k])] ∧ a < ks.length ∧ (kn ks a).1 ≤ xs[k] ∧ m = ks.length - a) (ks.length - a) ⟨a, rfl, ha, hlow _ hdr, rfl⟩ ?_)
    rintro m ρ1 ⟨a, rfl, ha, hle, rfl⟩
    walk_at "dl"
    rw [List.length_map]
    have done : ∀ {En : DE}, (a + 1 < ks.length → xs[k] < (kn ks (a + 1)).1) → (∀ ρ : Rho, (∃ (a : Nat) (s5 : Sl), ρ = [.dat (.tuple [knD ks, qp s]), .dat (qL xs), .dat (knD ks), .own (((xs.take (k + 1)).map (yAt ks s)).map qp), .dat (.int a), s5] ∧ a < ks.length ∧ ∀ x ∈ xs.drop (k + 1), (kn ks a).1 ≤ x) → En.nx ρ) → WS K S0 (tDrop (tBM K "list" rAppend (tVar 3) (tCons (tCall (spP K THeight) [] E0 (tCons (tVar 0) (tCons (tVar 4) (tCons (tVar 5) tNil)))) tNil)))
        [.dat (.tuple [knD ks, qp s]), .dat (qL xs), .dat (knD ks), .own (((xs.take k).map (yAt ks s)).map qp), .dat (.int a), .dat (qp xs[k])]
        En := fun {En} hup hn => by
      have at1 : AtK ks xs[k] a := ⟨ha, hle, hup⟩
      refine ws_append rfl ?_
      walk_at "dl"
      refine ⟨ks, s, xs[k], a, B, C, rfl, L, ha, xC, hB, ?_⟩
      rw [← yAt_of L.l.ris at1]
      have em : ((xs.take k).map (yAt ks s)).map qp ++ [qp (yAt ks s xs[k])] = ((xs.take (k + 1)).map (yAt ks s)).map qp := by
        rw [List.take_add_one, List.getElem?_eq_getElem hk, Option.toList_some, List.map_append, List.map_append]; rfl
      refine ⟨_, rfl, by rw [List.length_map, List.length_map, List.length_take, sizeLine_eq]; omega, hn _ ⟨a, .dat (qp xs[k]), by rw [← em]; rfl, ha, fun y hy => ?_⟩⟩
      have := srt_drop srt hk hy
      grind
    refine if_b (fun hlt => ?_) (fun hge => ?_)
    · have ha1 : a + 1 < ks.length := by omega
      have b1 := L.l.b.x (a + 1) ha1
      walk_at "dl"
      refine do_ixTn (k := a + 1) (by omega) (kD_get ha1) ?_
      walk_at "dl"
      refine if_n (fun hn => ?_) (fun hl => ?_)
      · walk_at "dl"
        exact ⟨ks.length - (a + 1), by omega, a + 1, rfl, ha1, by grind, rfl⟩
      · exact done (fun _ => hl) fun _ h => h
    · exact done (fun h => absurd h (by omega)) fun _ h => h
  · rintro ρ2 ⟨a, s5, rfl, _, _⟩
    rw [List.length_map, List.take_length]
    refine ws_frz (i := 3) rfl ?_
    walk_at "dl"
    exact hΦ
end
end DL

set_option Elab.async false
set_option linter.all false
set_option maxRecDepth 100000
set_option maxHeartbeats 4000000
/-! LS2: rows merged; both heights; sums of lines -/
namespace DL
open PySem PySem.Spec PyProof.Rows L2
def pD (a b : Rat) : PyData := .tuple [qp a, qp b]
def TBoth : List PyData → (PyData → Prop) → Prop := fun ds Φ => ∃ (ks ls : Kn) (s t : Rat) (xs : List Rat) (B C : Nat), ds = [lnD ks s, lnD ls t, qL xs] ∧ Lq B ks s ∧ Lq B ls t ∧ Srt xs ∧ xs.length ≤ 1000000 ∧ (∀ x ∈ xs, 0 ≤ x ∧ sz x ≤ C) ∧ 5 * B + C ≤ 3800 ∧ Φ (.list (xs.map fun x => pD (yAt ks s x) (yAt ls t x)))
def xsK (ks : Kn) : List Rat := ks.map (·.1)
noncomputable def sumK (ks ls : Kn) (s t : Rat) (xs : List Rat) : Kn := xs.map fun x => (x, yAt ks s x + yAt ls t x)
def TSumL : List PyData → (PyData → Prop) → Prop := fun ds Φ => ∃ (ks ls : Kn) (s t : Rat) (B : Nat), ds = [lnD ks s, lnD ls t] ∧ Lq B ks s ∧ Lq B ls t ∧ ks.length + ls.length ≤ 100000 ∧ 28 * B ≤ 3800 ∧ ∀ xs, IsMg (xsK ks) (xsK ls) xs → Φ (lnD (bI (sumK ks ls s t xs) (s + t) (sumK ks ls s t xs).length) (s + t))
theorem xsK_srt {B : Nat} {ks : Kn} {s : Rat} (h : Ln B ks s) : Srt (xsK ks) := by
  rw [Srt, List.pairwise_iff_getElem]
  intro i j hi hj hij
  unfold xsK at hi hj ⊢
  rw [List.length_map] at hi hj
  have e : ∀ (n : Nat) (hn : n < ks.length), (ks.map (·.1))[n]'(by rw [List.length_map]; exact hn) = (kn ks n).1 := fun n hn => by
    rw [List.getElem_map]
    have := kn_get hn
    rw [List.getElem?_eq_getElem hn] at this
    rw [Option.some.inj this]
  rw [e i hi, e j hj]
  exact h.ris.lt hij hj
theorem xsK_mem {B : Nat} {ks : Kn} {s : Rat} (h : Ln B ks s) {x : Rat} (hx : x ∈ xsK ks) : 0 ≤ x ∧ sz x ≤ B := by
  unfold xsK at hx
  obtain ⟨p, hp, rfl⟩ := List.mem_map.mp hx
  obtain ⟨i, hi, rfl⟩ := kn_mem hp
  exact ⟨h.nn hi, h.b.x i hi⟩
local macro_rules | `(tactic| walk_at "dl") => `(tactic| repeat' (first
  | with_reducible refine wd_isTy ?_ | with_reducible refine wd_isi ?_ | ((with_reducible show WD _ _ (tOp (rIxL _) (tVar _) _) _ _); refine wd_ix_own rfl ?_) | with_reducible refine wd_op ?_ | ((with_reducible show WD _ _ (tCB (rLenX _) (tCons (tVar _) tNil)) _ _); refine wd_len_scr rfl ?_) | ((with_reducible show WD _ _ (tCB (rLenX _) (tCons (tVar _) tNil)) _ _); refine wd_len_own rfl ?_) | with_reducible refine wd_cb ?_ | with_reducible refine wd_un ?_ | with_reducible refine wa_cons ?_ | with_reducible refine wa_nil ?_ | ((with_reducible show WD _ _ (tVar _) _ _); refine wd_var rfl ?_) | with_reducible refine wd_int ?_ | with_reducible refine wd_bl ?_ | with_reducible refine wd_str ?_ | with_reducible refine wd_non ?_
  | with_reducible refine do_nesS ?_ | with_reducible refine dc_intB ?_ | with_reducible refine do_add ?_ | with_reducible refine do_sub ?_ | ((with_reducible refine do_mod ?_ ?_); decide) | with_reducible refine do_mod ?_ ?_ | with_reducible refine do_mul ?_ ?_ | ((with_reducible refine do_div ?_ ?_); exact ⟨by decide, by decide⟩) | with_reducible refine do_div ?_ ?_ | ((with_reducible refine do_pow ?_ ?_); exact ⟨by decide, by decide, by decide⟩) | with_reducible refine do_pow ?_ ?_
  | with_reducible refine do_lt ?_ | with_reducible refine do_le ?_ | with_reducible refine do_gt ?_ | with_reducible refine do_ge ?_ | with_reducible refine du_neg ?_
  | with_reducible refine do_eqi ?_ | with_reducible refine do_nei ?_ | with_reducible refine do_eqs ?_ | with_reducible refine do_nes ?_ | with_reducible refine dc_abs ?_ | with_reducible refine dc_min ?_ | with_reducible refine dc_max ?_ | with_reducible refine dc_lenL ?_ | with_reducible refine dc_lenT ?_ | with_reducible refine dc_lenR ?_ | with_reducible refine dc_listT ?_ | with_reducible refine dc_listL ?_ | with_reducible refine dc_tupL ?_ | with_reducible refine dc_gcd ?_
  | ((with_reducible show DO _ (rIxT _) _ _ _); refine do_ixT rfl ?_) | ((with_reducible show DO _ (rIxL _) _ _ _); refine do_ixL rfl ?_) | ((with_reducible refine do_catL ?_ ?_); exact Nat.le_of_ble_eq_true rfl) | with_reducible refine do_catL ?_ ?_ | ((with_reducible show And (List.length _ ≤ sizeLine) _); refine ⟨Nat.le_of_ble_eq_true rfl, ?_⟩)
  | with_reducible refine wd_dnew ?_ | with_reducible refine wd_call0 ?_ | with_reducible refine wd_slA ?_ | with_reducible refine wd_slL ?_ | with_reducible refine wd_revT ?_ | with_reducible refine do_catA ?_ ?_ | with_reducible refine wo_part ?_ | with_reducible refine wo_none ?_ | with_reducible refine do_eqQ ?_ | with_reducible refine do_neQ ?_ | with_reducible refine wi_enumT ?_ | with_reducible refine wi_enumD ?_ | with_reducible refine tAdQ (by omega) (by omega) ?_ | with_reducible refine tSbQ (by omega) (by omega) ?_ | with_reducible refine tMlQ (by omega) (by omega) ?_ | with_reducible refine tDvQ (by assumption) (by omega) (by omega) ?_ | with_reducible refine tLtQ (by omega) (by omega) ?_ | with_reducible refine dc_str ?_ ?_ | with_reducible refine wd_tup ?_ | with_reducible refine wd_lst ?_ | with_reducible refine wt_test ?_ | with_reducible refine wt_B ?_ | with_reducible refine wt_not ?_ | with_reducible refine wt_and ?_ | with_reducible refine wt_or ?_ | with_reducible refine wd_ifE ?_ | with_reducible refine wd_andV ?_ | with_reducible refine wd_orV ?_ | with_reducible refine wd_notV ?_
  | with_reducible refine ws_seq ?_ | with_reducible refine ws_next ?_ | with_reducible refine ws_asg ?_ | with_reducible refine ws_ret ?_ | with_reducible refine ws_retN ?_ | with_reducible refine ws_if ?_ | with_reducible refine ws_par ?_ | with_reducible refine ws_unp2 ?_
  | with_reducible refine if_t ?_ | with_reducible refine if_f ?_ | with_reducible refine if_nf ?_ | with_reducible refine if_nt ?_
  | ((with_reducible show Exists _); first | refine ⟨_, kitInt _, ?_⟩ | refine ⟨_, kitBool _, ?_⟩ | refine ⟨_, kitTup _, ?_⟩ | refine ⟨_, kitList _, ?_⟩ | refine ⟨_, rfl, ?_⟩ | refine ⟨_, _, rfl, ?_⟩ | fail) | fail))
def t_both (K : PySem.W.Frag) : TS :=
  (tRet (tLZip K (tCons (tCall (spP K THeights) [] E0 (tCons (tVar 0) (tCons (tVar 2) tNil))) (tCons (tCall (spP K THeights) [] E0 (tCons (tVar 1) (tCons (tVar 2) tNil))) tNil))))
def tb_merged (K : PySem.W.Frag) : TS :=
  (tSeq (tAsg (tLst tNil) (gName 2))
    (tSeq (tAsg (tC (.int 0)) (gName 3))
    (tFor (iList K (tVar 0)) (gName 4) (tSeq (tWhile (tAnd (tTest (tOp rLt (tVar 3) (tCB (rLenX K) (tCons (tVar 1) tNil)))) (tB (tCall (spP K TLtQ) [] E0 (tCons (tOp (rIxL K) (tVar 1) (tVar 3)) (tCons (tVar 4) tNil))))) (tSeq (tDrop (tBM K "list" rAppend (tVar 2) (tCons (tOp (rIxL K) (tVar 1) (tVar 3)) tNil)))
    (tAsg (tOp rAddI (tVar 3) (tC (.int 1))) (gName 3))))
    (tSeq (tIfS (tAnd (tTest (tOp rLt (tVar 3) (tCB (rLenX K) (tCons (tVar 1) tNil)))) (tTest (tOp (rEqD K) (tOp (rIxL K) (tVar 1) (tVar 3)) (tVar 4)))) (tAsg (tOp rAddI (tVar 3) (tC (.int 1))) (gName 3)) tNext)
    (tDrop (tBM K "list" rAppend (tVar 2) (tCons (tVar 4) tNil))))))))
def t_merged (K : PySem.W.Frag) : TS :=
  (tSeq (tAsg (tLst tNil) (gName 2))
    (tSeq (tAsg (tC (.int 0)) (gName 3))
    (tSeq (tFor (iList K (tVar 0)) (gName 4) (tSeq (tWhile (tAnd (tTest (tOp rLt (tVar 3) (tCB (rLenX K) (tCons (tVar 1) tNil)))) (tB (tCall (spP K TLtQ) [] E0 (tCons (tOp (rIxL K) (tVar 1) (tVar 3)) (tCons (tVar 4) tNil))))) (tSeq (tDrop (tBM K "list" rAppend (tVar 2) (tCons (tOp (rIxL K) (tVar 1) (tVar 3)) tNil)))
    (tAsg (tOp rAddI (tVar 3) (tC (.int 1))) (gName 3))))
    (tSeq (tIfS (tAnd (tTest (tOp rLt (tVar 3) (tCB (rLenX K) (tCons (tVar 1) tNil)))) (tTest (tOp (rEqD K) (tOp (rIxL K) (tVar 1) (tVar 3)) (tVar 4)))) (tAsg (tOp rAddI (tVar 3) (tC (.int 1))) (gName 3)) tNext)
    (tDrop (tBM K "list" rAppend (tVar 2) (tCons (tVar 4) tNil))))))
    (tRet (tOp rCatL (tVar 2) (tSl (rSlL K) (tVar 1) (tPart (tVar 3)) tNoPart))))))
def t_sumline (K : PySem.W.Frag) : TS :=
  (tSeq (tAsg (tCall (spM K TMerged) [] E0 (tCons (tCall (spP K TKxs) [] E0 (tCons (tVar 0) tNil)) (tCons (tCall (spP K TKxs) [] E0 (tCons (tVar 1) tNil)) tNil))) (gName 2))
    (tSeq (tAsg (tLc (iList K (tCall (spP K TBoth) [] E0 (tCons (tVar 0) (tCons (tVar 1) (tCons (tVar 2) tNil))))) (gTup K 2 (gCons (gName 4) (gCons (gName 5) gNil))) tYes (tCall (spP K TAdQ) [] E0 (tCons (tVar 4) (tCons (tVar 5) tNil))) [4, 5]) (gName 3))
    (tRet (tCall (spP K TLineOf) [] E0 (tCons (tLZip K (tCons (tVar 2) (tCons (tVar 3) tNil))) (tCons (tCall (spP K TAdQ) [] E0 (tCons (tOp (rIxT K) (tVar 0) (tC (.int 1))) (tCons (tOp (rIxT K) (tVar 1) (tC (.int 1))) tNil))) tNil))))))
theorem MgI.len {a b f : List Rat} {k n : Nat} (h : MgI a b k n f) : f.length ≤ a.length + b.length := by
  have nd : ∀ {f g : List Rat}, Srt f → (∀ x ∈ f, x ∈ g) → f.length ≤ g.length := fun {f} => by
    induction f with
    | nil => intro g _ _; exact Nat.zero_le _
    | cons x f ih =>
      intro g h1 h2
      rw [Srt, List.pairwise_cons] at h1
      have hx := h2 x List.mem_cons_self
      have := ih (g := g.erase x) h1.2 fun y hy => by
        have ne : y ≠ x := fun e => by subst e; exact rlt_irr (h1.1 _ hy)
        exact (List.mem_erase_of_ne ne).mpr (h2 y (List.mem_cons_of_mem _ hy))
      rw [List.length_erase_of_mem hx] at this
      have := List.length_pos_of_mem hx
      rw [List.length_cons]; omega
  have := nd (g := a ++ b) h.srt fun x hx => by
    rcases (h.mem x).mp hx with q | q
    · exact List.mem_append_left _ (List.mem_of_mem_take q)
    · exact List.mem_append_right _ (List.mem_of_mem_take q)
  rw [List.length_append] at this
  exact this
theorem IsMg.len {a b l : List Rat} (h : IsMg a b l) : l.length ≤ a.length + b.length := by
  have i : MgI a b a.length b.length l := ⟨h.srt, Nat.le_refl _, fun x => by rw [List.take_length, List.take_length]; exact h.mem x, by simp, by simp⟩
  exact i.len
theorem run_merged {K : PySem.W.Frag} {vs : List V} {H : Hp} {Q : VK} {E : XK} (h : spM K TMerged vs H Q E) : t_merged K { nx := fun _ H' => Q .non H', rt := Q } (L2.start ["some", "others", "found", "at", "x"] vs) H := by
  show tSeq (tb_merged K) (tRet (tOp rCatL (tVar 2) (tSl (rSlL K) (tVar 1) (tPart (tVar 3)) tNoPart))) { nx := fun _ H' => Q .non H', rt := Q } _ H
  refine run_Mcat h fun ds Ψ t => ?_
  obtain ⟨a, b, B, rfl, sa, sb, hl, hB, ba, bb, hΨ⟩ := t
  show WS K S0 (tb_merged K) [.dat (qL a), .dat (qL b), .unk, .unk, .unk] _
  unfold tb_merged
  refine ws_seq (ws_own (wa_nil ⟨Nat.zero_le _, ?_⟩))
  refine ws_seq (ws_asg (wd_int ?_))
  refine ws_for (wi_list (wd_var rfl ⟨_, rfl, fun k ρ => ∃ (n : Nat) (f : List Rat) (s4 : Sl), ρ = [.dat (qL a), .dat (qL b), .own (f.map qp), .dat (.int n), s4] ∧ MgI a b k n f, ⟨0, [], _, rfl, MgI.zero⟩, ?_, ?_⟩))
  · rintro k d ρ2 hd ⟨n, f, s4, rfl, hm⟩
    have hk : k < a.length := by have := (List.getElem?_eq_some_iff.mp hd).1; rwa [List.length_map] at this
    rw [qL_get hk] at hd; cases hd
    have za := ba a[k] (List.getElem_mem hk)
    refine ⟨_, _, gd_name, ?_⟩
    refine ws_seq (ws_while (fun m ρ => ∃ (n : Nat) (f : List Rat), ρ = [.dat (qL a), .dat (qL b), .own (f.map qp), .dat (.int n), .dat (qp a[k])] ∧ MgI a b k n f ∧ m = b.length - n) (b.length - n) ⟨n, f, rfl, hm, rfl⟩ ?_)
    rintro m ρ1 ⟨n, f, rfl, hm, rfl⟩
    have fl := hm.len
    have done : ∀ {En : DE}, (∀ hn : n < b.length, a[k] ≤ b[n]) → (∀ ρ : Rho, (∃ (n : Nat) (f : List Rat) (s4 : Sl), ρ = [.dat (qL a), .dat (qL b), .own (f.map qp), .dat (.int n), s4] ∧ MgI a b (k + 1) n f) → En.nx ρ) →
        WS K S0 (tSeq (tIfS (tAnd (tTest (tOp rLt (tVar 3) (tCB (rLenX K) (tCons (tVar 1) tNil)))) (tTest (tOp (rEqD K) (tOp (rIxL K) (tVar 1) (tVar 3)) (tVar 4)))) (tAsg (tOp rAddI (tVar 3) (tC (.int 1))) (gName 3)) tNext)
          (tDrop (tBM K "list" rAppend (tVar 2) (tCons (tVar 4) tNil)))) [.dat (qL a), .dat (qL b), .own (f.map qp), .dat (.int n), .dat (qp a[k])] En := fun {En} ge hn => by
      have app : ∀ n', MgI a b (k + 1) n' (f ++ [a[k]]) → WS K S0 (tDrop (tBM K "list" rAppend (tVar 2) (tCons (tVar 4) tNil))) [.dat (qL a), .dat (qL b), .own (f.map qp), .dat (.int (n' : Nat)), .dat (qp a[k])] En := fun n' hm' => by
        refine ws_append rfl (wd_var rfl ⟨_, rfl, by rw [List.length_map, sizeLine_eq]; omega, hn _ ⟨n', f ++ [a[k]], .dat (qp a[k]), by rw [List.map_append]; rfl, hm'⟩⟩)
      walk_at "dl"
      rw [List.length_map]
      refine if_b (fun hlt => ?_) (fun hge => ?_)
      · have hlt' : n < b.length := by omega
        walk_at "dl"
        refine do_ixLn rfl (qL_get hlt') ?_
        walk_at "dl"
        refine if_b (fun he => ?_) (fun hne => ?_)
        · walk_at "dl"
          exact app (n + 1) (hm.both sa sb hk hlt' he)
        · walk_at "dl"
          exact app n (hm.one sa sb hk fun _ => by have := ge hlt'; grind)
      · walk_at "dl"
        exact app n (hm.one sa sb hk fun h => absurd h (by omega))
    walk_at "dl"
    rw [List.length_map]
    refine if_b (fun hlt => ?_) (fun hge => ?_)
    · have hlt' : n < b.length := by omega
      have zb := bb b[n] (List.getElem_mem hlt')
      walk_at "dl"
      refine do_ixLn rfl (qL_get hlt') ?_
      walk_at "dl"
      refine if_b (fun hl' => ?_) (fun hn => ?_)
      · refine ws_seq (ws_append rfl ?_)
        walk_at "dl"
        refine do_ixLn rfl (qL_get hlt') ?_
        refine ⟨_, rfl, by rw [List.length_map, sizeLine_eq]; omega, ?_⟩
        walk_at "dl"
        exact ⟨b.length - (n + 1), by omega, n + 1, f ++ [b[n]], by rw [List.map_append]; rfl, hm.two sa sb hk hlt' hl', rfl⟩
      · exact done (fun _ => by grind) fun _ h => h
    · exact done (fun h => absurd h (by omega)) fun _ h => h
  · rintro ρ2 ⟨n, f, s4, rfl, hm⟩
    rw [List.length_map] at hm
    have fl := hm.len
    have mg := hm.fin sb
    refine ⟨f.map qp, rfl, ?_⟩
    walk_at "dl"
    refine ⟨rfl, ?_, ?_⟩
    · rw [cutD_drop rfl, List.length_map, List.length_drop, List.length_map, sizeLine_eq]; omega
    · rw [cutD_drop rfl, ← List.map_drop, ← List.map_append]
      exact hΨ _ mg
section
variable {K : PySem.W.Frag} {ds : List PyData} {Φ : PyData → Prop}
theorem ws_both (h : TBoth ds Φ) : WS K S0 (t_both K) (rhoOf 3 ds) { nx := fun _ => Φ .none, rt := fun d _ => Φ d } := by
  obtain ⟨ks, ls, s, t, xs, B, C, rfl, L1, L2, srt, xl, hx, hB, hΦ⟩ := h
  show WS K S0 (t_both K) [.dat (lnD ks s), .dat (lnD ls t), .dat (qL xs)] _
  unfold t_both
  refine ws_ret (wd_lzip ?_)
  walk_at "dl"
  refine ⟨ks, s, xs, B, C, rfl, L1, srt, xl, hx, hB, ?_⟩
  walk_at "dl"
  refine ⟨ls, t, xs, B, C, rfl, L2, srt, xl, hx, hB, ?_⟩
  refine wa_nil ⟨_, _, rfl, by simp, ?_⟩
  have e : List.zipWith (fun x y => PyData.tuple [x, y]) ((xs.map (yAt ks s)).map qp) ((xs.map (yAt ls t)).map qp) = xs.map fun x => pD (yAt ks s x) (yAt ls t x) := by
    rw [List.map_map, List.map_map, List.zipWith_map, List.zipWith_self]; rfl
  rw [e]; exact hΦ
theorem sumK_len {ks ls : Kn} {s t : Rat} {xs : List Rat} : (sumK ks ls s t xs).length = xs.length := by unfold sumK; rw [List.length_map]
theorem sumK_kn {ks ls : Kn} {s t : Rat} {xs : List Rat} {i : Nat} (h : i < xs.length) : kn (sumK ks ls s t xs) i = (xs[i], yAt ks s xs[i] + yAt ls t xs[i]) := by
  unfold kn sumK
  rw [List.getD_eq_getElem?_getD, List.getElem?_map, List.getElem?_eq_getElem h]; rfl
theorem yAt_sz {B C : Nat} {ks : Kn} {s x : Rat} (L : Lq B ks s) (h0 : 0 ≤ x) (hx : sz x ≤ C) : sz (yAt ks s x) ≤ 6 * B + C := by
  have hat := lastIx_at L.l.ris L.l.pos (x := x) (by rw [L.l.fst]; exact h0)
  rw [yAt_of L.l.ris hat]
  exact yOf_sz L.l.b L.B0 hat.lt hx
theorem mg_first {B C : Nat} {ks ls : Kn} {s t : Rat} {xs : List Rat} (L1 : Ln B ks s) (L2 : Ln C ls t) (h : IsMg (xsK ks) (xsK ls) xs) : ∃ hp : 0 < xs.length, xs[0] = 0 := by
  have m0 : (0 : Rat) ∈ xs := (h.mem 0).mpr (.inl (by
    unfold xsK
    exact List.mem_map.mpr ⟨kn ks 0, kn_in L1.pos, L1.fst⟩))
  have hp := List.length_pos_of_mem m0
  refine ⟨hp, ?_⟩
  have nn : 0 ≤ xs[0] := by
    rcases (h.mem _).mp (List.getElem_mem hp) with q | q
    · exact (xsK_mem L1 q).1
    · exact (xsK_mem L2 q).1
  obtain ⟨i, hi, e⟩ := List.getElem_of_mem m0
  by_cases q : i = 0
  · subst q; exact e
  · have := (List.pairwise_iff_getElem.mp h.srt) 0 i hp hi (by omega)
    rw [e] at this
    grind
theorem ws_sumline (h : TSumL ds Φ) : WS K S0 (t_sumline K) (rhoOf 6 ds) { nx := fun _ => Φ .none, rt := fun d _ => Φ d } := by
  obtain ⟨ks, ls, s, t, B, rfl, L1, L2, hl, hB, hΦ⟩ := h
  show WS K S0 (t_sumline K) [.dat (.tuple [knD ks, qp s]), .dat (.tuple [knD ls, qp t]), .unk, .unk, .unk, .unk] _
  unfold t_sumline
  have b0 := L1.B0
  refine ws_seq (ws_asg (wd_callM ?_))
  walk_at "dl"
  refine ⟨ks, s, rfl, L1.len, ?_⟩
  walk_at "dl"
  refine ⟨ls, t, rfl, L2.len, ?_⟩
  refine wa_nil ⟨xsK ks, xsK ls, B, rfl, xsK_srt L1.l, xsK_srt L2.l, by unfold xsK; rw [List.length_map, List.length_map]; omega, by omega, fun x hx => (xsK_mem L1.l hx).2, fun x hx => (xsK_mem L2.l hx).2, fun xs mg => ?_⟩
  have xl : xs.length ≤ 100000 := by
    have := mg.len
    unfold xsK at this
    rw [List.length_map, List.length_map] at this; omega
  have hx : ∀ x ∈ xs, 0 ≤ x ∧ sz x ≤ B := fun x hx => by
    rcases (mg.mem x).mp hx with q | q
    · exact xsK_mem L1.l q
    · exact xsK_mem L2.l q
  have y1 : ∀ x ∈ xs, sz (yAt ks s x) ≤ 7 * B := fun x h => by have := yAt_sz L1 (hx x h).1 (hx x h).2; omega
  have y2 : ∀ x ∈ xs, sz (yAt ls t x) ≤ 7 * B := fun x h => by have := yAt_sz L2 (hx x h).1 (hx x h).2; omega
  obtain ⟨hp, h0⟩ := mg_first L1.l L2.l mg
  refine ws_seq (ws_asg (wd_lc (wi_list ?_)))
  walk_at "dl"
  refine ⟨ks, ls, s, t, xs, B, B, rfl, L1, L2, mg.srt, by omega, hx, by omega, ?_⟩
  refine ⟨_, rfl, by rw [List.length_map, sizeLine_eq]; omega, fun j acc ρ => acc = ((xs.take j).map fun x => yAt ks s x + yAt ls t x).map qp ∧ ρ = [.dat (.tuple [knD ks, qp s]), .dat (.tuple [knD ls, qp t]), .dat (qL xs), .unk, .unk, .unk], ⟨rfl, rfl⟩, ?_, ?_⟩
  · rintro j d acc ρ3 hd3 ⟨rfl, rfl⟩
    have hj : j < xs.length := by have := (List.getElem?_eq_some_iff.mp hd3).1; rwa [List.length_map] at this
    rw [List.getElem?_map, List.getElem?_eq_getElem hj] at hd3
    cases hd3
    have z1 := y1 _ (List.getElem_mem hj); have z2 := y2 _ (List.getElem_mem hj)
    refine ⟨_, _, gd_pair, fun j hj => hj, ?_⟩
    refine wt_yes ?_
    walk_at "dl"
    refine ⟨?_, rfl⟩
    rw [List.take_add_one, List.getElem?_eq_getElem hj, Option.toList_some, List.map_append, List.map_append]; rfl
  · rintro acc ρ3 ⟨rfl, rfl⟩
    rw [List.length_map, List.take_length]
    have ss := sz_add s t
    have s1 := L1.l.b.s
    have s2 := L2.l.b.s
    refine ws_ret (wd_call0 (wa_cons (wd_lzip ?_)))
    walk_at "dl"
    refine ⟨by simp, ?_⟩
    have e : List.zipWith (fun x y => PyData.tuple [x, y]) (xs.map qp) ((xs.map fun x => yAt ks s x + yAt ls t x).map qp) = (sumK ks ls s t xs).map kD := by
      unfold sumK
      rw [List.map_map, List.map_map, List.zipWith_map, List.zipWith_self]; rfl
    rw [e]
    walk_at "dl"
    refine ⟨true, sumK ks ls s t xs, s + t, 14 * B, rfl, ⟨⟨fun i hi => ?_, fun i hi => ?_, by omega⟩, by rw [sumK_len]; omega, by omega, by omega⟩, fun i hi => ?_, by rw [sumK_len]; exact hp, ?_, hΦ xs mg⟩
    · rw [sumK_len] at hi
      rw [sumK_kn hi]
      have := (hx _ (List.getElem_mem hi)).2
      show sz xs[i] ≤ _
      omega
    · rw [sumK_len] at hi
      rw [sumK_kn hi]
      have z1 := y1 _ (List.getElem_mem hi); have z2 := y2 _ (List.getElem_mem hi)
      have := sz_add (yAt ks s xs[i]) (yAt ls t xs[i])
      show sz (yAt ks s xs[i] + yAt ls t xs[i]) ≤ _
      omega
    · rw [sumK_len] at hi
      rw [sumK_kn (by omega), sumK_kn hi]
      exact (List.pairwise_iff_getElem.mp mg.srt) i (i + 1) (by omega) hi (by omega)
    · rw [sumK_kn hp]; exact h0
end
end DL

set_option Elab.async false
set_option linter.all false
set_option maxRecDepth 100000
set_option maxHeartbeats 4000000
/-! LS3: whether a line falls; where two are unlike -/
namespace DL
open PySem PySem.Spec PyProof.Rows L2
def NoFall (ks : Kn) (s : Rat) : Prop := ∀ i, i < ks.length → 0 ≤ slp ks s i
noncomputable instance fallDec (ks : Kn) (s : Rat) : Decidable (NoFall ks s) := Classical.propDecidable _
def TNever : List PyData → (PyData → Prop) → Prop := fun ds Φ => ∃ (ks : Kn) (s : Rat) (B : Nat), ds = [lnD ks s] ∧ Lq B ks s ∧ 2 * B ≤ 3800 ∧ Φ (.bool (decide (NoFall ks s)))
def TXat : List PyData → (PyData → Prop) → Prop := fun ds Φ => ∃ (x y m g : Rat) (B : Nat), ds = [qp x, qp y, qp m, qp g] ∧ m ≠ 0 ∧ sz x ≤ B ∧ sz y ≤ B ∧ sz m ≤ B ∧ sz g ≤ B ∧ 4 * B ≤ 3800 ∧ Φ (qp (x + (g - y) / m))
/-- the rows of x and one more -/
def beyond (xs : List Rat) : List Rat := xs ++ [xs.getLast?.getD 0 + 1]
noncomputable def unlK (ks ls : Kn) (s t : Rat) (xs : List Rat) : Option Rat := xs.find? fun x => !decide (yAt ks s x = yAt ls t x)
def TUnlike : List PyData → (PyData → Prop) → Prop := fun ds Φ => ∃ (ks ls : Kn) (s t : Rat) (B : Nat), ds = [lnD ks s, lnD ls t] ∧ Lq B ks s ∧ Lq B ls t ∧ ks.length + ls.length ≤ 100000 ∧ 6 * B + 2 ≤ 3800 ∧ ∀ xs, IsMg (xsK ks) (xsK ls) xs → Φ (oqD (unlK ks ls s t (beyond xs)))
local macro_rules | `(tactic| walk_at "dl") => `(tactic| repeat' (first
  | with_reducible refine wd_isTy ?_ | with_reducible refine wd_isi ?_ | ((with_reducible show WD _ _ (tOp (rIxL _) (tVar _) _) _ _); refine wd_ix_own rfl ?_) | with_reducible refine wd_op ?_ | ((with_reducible show WD _ _ (tCB (rLenX _) (tCons (tVar _) tNil)) _ _); refine wd_len_scr rfl ?_) | ((with_reducible show WD _ _ (tCB (rLenX _) (tCons (tVar _) tNil)) _ _); refine wd_len_own rfl ?_) | with_reducible refine wd_cb ?_ | with_reducible refine wd_un ?_ | with_reducible refine wa_cons ?_ | with_reducible refine wa_nil ?_ | ((with_reducible show WD _ _ (tVar _) _ _); refine wd_var rfl ?_) | with_reducible refine wd_int ?_ | with_reducible refine wd_bl ?_ | with_reducible refine wd_str ?_ | with_reducible refine wd_non ?_
  | with_reducible refine do_nesS ?_ | with_reducible refine dc_intB ?_ | with_reducible refine do_add ?_ | with_reducible refine do_sub ?_ | ((with_reducible refine do_mod ?_ ?_); decide) | with_reducible refine do_mod ?_ ?_ | with_reducible refine do_mul ?_ ?_ | ((with_reducible refine do_div ?_ ?_); exact ⟨by decide, by decide⟩) | with_reducible refine do_div ?_ ?_ | ((with_reducible refine do_pow ?_ ?_); exact ⟨by decide, by decide, by decide⟩) | with_reducible refine do_pow ?_ ?_
  | with_reducible refine do_lt ?_ | with_reducible refine do_le ?_ | with_reducible refine do_gt ?_ | with_reducible refine do_ge ?_ | with_reducible refine du_neg ?_
  | with_reducible refine do_eqi ?_ | with_reducible refine do_nei ?_ | with_reducible refine do_eqs ?_ | with_reducible refine do_nes ?_ | with_reducible refine dc_abs ?_ | with_reducible refine dc_min ?_ | with_reducible refine dc_max ?_ | with_reducible refine dc_lenL ?_ | with_reducible refine dc_lenT ?_ | with_reducible refine dc_lenR ?_ | with_reducible refine dc_listT ?_ | with_reducible refine dc_listL ?_ | with_reducible refine dc_tupL ?_ | with_reducible refine dc_gcd ?_
  | ((with_reducible show DO _ (rIxT _) _ _ _); refine do_ixT rfl ?_) | ((with_reducible show DO _ (rIxL _) _ _ _); refine do_ixL rfl ?_) | ((with_reducible refine do_catL ?_ ?_); exact Nat.le_of_ble_eq_true rfl) | with_reducible refine do_catL ?_ ?_ | ((with_reducible show And (List.length _ ≤ sizeLine) _); refine ⟨Nat.le_of_ble_eq_true rfl, ?_⟩)
  | with_reducible refine wd_dnew ?_ | with_reducible refine wd_call0 ?_ | with_reducible refine wd_slA ?_ | with_reducible refine wd_slL ?_ | with_reducible refine wd_revT ?_ | with_reducible refine do_catA ?_ ?_ | with_reducible refine wo_part ?_ | with_reducible refine wo_none ?_ | with_reducible refine do_eqQ ?_ | with_reducible refine do_neQ ?_ | with_reducible refine wi_enumT ?_ | with_reducible refine wi_enumD ?_ | with_reducible refine tAdQ (by omega) (by omega) ?_ | with_reducible refine tSbQ (by omega) (by omega) ?_ | with_reducible refine tMlQ (by omega) (by omega) ?_ | with_reducible refine tDvQ (by assumption) (by omega) (by omega) ?_ | with_reducible refine tLtQ (by omega) (by omega) ?_ | with_reducible refine dc_str ?_ ?_ | with_reducible refine wd_tup ?_ | with_reducible refine wd_lst ?_ | with_reducible refine wt_test ?_ | with_reducible refine wt_B ?_ | with_reducible refine wt_not ?_ | with_reducible refine wt_and ?_ | with_reducible refine wt_or ?_ | with_reducible refine wd_ifE ?_ | with_reducible refine wd_andV ?_ | with_reducible refine wd_orV ?_ | with_reducible refine wd_notV ?_
  | with_reducible refine ws_seq ?_ | with_reducible refine ws_next ?_ | with_reducible refine ws_asg ?_ | with_reducible refine ws_ret ?_ | with_reducible refine ws_retN ?_ | with_reducible refine ws_if ?_ | with_reducible refine ws_par ?_ | with_reducible refine ws_unp2 ?_
  | with_reducible refine if_t ?_ | with_reducible refine if_f ?_ | with_reducible refine if_nf ?_ | with_reducible refine if_nt ?_
  | ((with_reducible show Exists _); first | refine ⟨_, kitInt _, ?_⟩ | refine ⟨_, kitBool _, ?_⟩ | refine ⟨_, kitTup _, ?_⟩ | refine ⟨_, kitList _, ?_⟩ | refine ⟨_, rfl, ?_⟩ | refine ⟨_, _, rfl, ?_⟩ | fail) | fail))
def t_never (K : PySem.W.Frag) : TS :=
  (tRet (tNotV (tCB (rAny K) (tCons (tLc (iList K (tCall (spP K TSlopesR) [] E0 (tCons (tOp (rIxT K) (tVar 0) (tC (.int 0))) (tCons (tOp (rIxT K) (tVar 0) (tC (.int 1))) tNil)))) (gName 1) tYes (tOp rLt (tOp (rIxT K) (tVar 1) (tC (.int 0))) (tC (.int 0))) [1]) tNil))))
def t_xat (K : PySem.W.Frag) : TS :=
  (tRet (tCall (spP K TAdQ) [] E0 (tCons (tVar 0) (tCons (tCall (spP K TDvQ) [] E0 (tCons (tCall (spP K TSbQ) [] E0 (tCons (tVar 3) (tCons (tVar 1) tNil))) (tCons (tVar 2) tNil))) tNil))))
def t_unlike (K : PySem.W.Frag) (a_ONE : Addr) : TS :=
  (tSeq (tAsg (tCall (spM K TMerged) [] E0 (tCons (tCall (spP K TKxs) [] E0 (tCons (tVar 0) tNil)) (tCons (tCall (spP K TKxs) [] E0 (tCons (tVar 1) tNil)) tNil))) (gName 2))
    (tSeq (tDrop (tBM K "list" rAppend (tVar 2) (tCons (tCall (spP K TAdQ) [] E0 (tCons (tOp (rIxL K) (tVar 2) (tUn rNegI (tC (.int 1)))) (tCons (tC (.ref a_ONE)) tNil))) tNil)))
    (tSeq (tFor (iEnum K (tCons (tCall (spP K TBoth) [] E0 (tCons (tVar 0) (tCons (tVar 1) (tCons (tVar 2) tNil)))) tNil)) (gTup K 2 (gCons (gName 3) (gCons (gTup K 2 (gCons (gName 4) (gCons (gName 5) gNil))) gNil))) (tIfS (tTest (tOp (rNeD K) (tVar 4) (tVar 5))) (tRet (tOp (rIxL K) (tVar 2) (tVar 3))) tNext))
    (tRet (tC .non)))))
section
variable {K : PySem.W.Frag} {ds : List PyData} {Φ : PyData → Prop}
theorem num_neg {q : Rat} : (q.num < 0) ↔ ¬ 0 ≤ q := by
  have := Rat.num_nonneg (q := q)
  constructor
  · intro h z; have := this.mpr z; omega
  · intro h
    by_cases g : 0 ≤ q.num
    · exact absurd (this.mp g) h
    · omega
end
end DL

set_option Elab.async false
set_option linter.all false
set_option maxRecDepth 100000
set_option maxHeartbeats 4000000
/-! LS4: the first x at which a line is so high -/
namespace DL
open PySem PySem.Spec PyProof.Rows L2
def TFirst : List PyData → (PyData → Prop) → Prop := fun ds Φ => ∃ (ks : Kn) (s g b : Rat) (B C : Nat), ds = [lnD ks s, qp g, qp b] ∧ Lq B ks s ∧ 0 ≤ b ∧ sz g ≤ C ∧ sz b ≤ C ∧ 40 * B + 8 * C ≤ 3800 ∧ ∀ o, FirstP ks s g b o → (∀ r, o = some r → sz r ≤ 20 * B + 6 * C) → Φ (oqD o)
local macro_rules | `(tactic| walk_at "dl") => `(tactic| repeat' (first
  | with_reducible refine wd_isTy ?_ | with_reducible refine wd_isi ?_ | ((with_reducible show WD _ _ (tOp (rIxL _) (tVar _) _) _ _); refine wd_ix_own rfl ?_) | with_reducible refine wd_op ?_ | ((with_reducible show WD _ _ (tCB (rLenX _) (tCons (tVar _) tNil)) _ _); refine wd_len_scr rfl ?_) | ((with_reducible show WD _ _ (tCB (rLenX _) (tCons (tVar _) tNil)) _ _); refine wd_len_own rfl ?_) | with_reducible refine wd_cb ?_ | with_reducible refine wd_un ?_ | with_reducible refine wa_cons ?_ | with_reducible refine wa_nil ?_ | ((with_reducible show WD _ _ (tVar _) _ _); refine wd_var rfl ?_) | with_reducible refine wd_int ?_ | with_reducible refine wd_bl ?_ | with_reducible refine wd_str ?_ | with_reducible refine wd_non ?_
  | with_reducible refine do_nesS ?_ | with_reducible refine dc_intB ?_ | with_reducible refine do_add ?_ | with_reducible refine do_sub ?_ | ((with_reducible refine do_mod ?_ ?_); decide) | with_reducible refine do_mod ?_ ?_ | with_reducible refine do_mul ?_ ?_ | ((with_reducible refine do_div ?_ ?_); exact ⟨by decide, by decide⟩) | with_reducible refine do_div ?_ ?_ | ((with_reducible refine do_pow ?_ ?_); exact ⟨by decide, by decide, by decide⟩) | with_reducible refine do_pow ?_ ?_
  | with_reducible refine do_lt ?_ | with_reducible refine do_le ?_ | with_reducible refine do_gt ?_ | with_reducible refine do_ge ?_ | with_reducible refine du_neg ?_
  | with_reducible refine do_eqi ?_ | with_reducible refine do_nei ?_ | with_reducible refine do_eqs ?_ | with_reducible refine do_nes ?_ | with_reducible refine dc_abs ?_ | with_reducible refine dc_min ?_ | with_reducible refine dc_max ?_ | with_reducible refine dc_lenL ?_ | with_reducible refine dc_lenT ?_ | with_reducible refine dc_lenR ?_ | with_reducible refine dc_listT ?_ | with_reducible refine dc_listL ?_ | with_reducible refine dc_tupL ?_ | with_reducible refine dc_gcd ?_
  | ((with_reducible show DO _ (rIxT _) _ _ _); refine do_ixT rfl ?_) | ((with_reducible show DO _ (rIxL _) _ _ _); refine do_ixL rfl ?_) | ((with_reducible refine do_catL ?_ ?_); exact Nat.le_of_ble_eq_true rfl) | with_reducible refine do_catL ?_ ?_ | ((with_reducible show And (List.length _ ≤ sizeLine) _); refine ⟨Nat.le_of_ble_eq_true rfl, ?_⟩)
  | with_reducible refine wd_dnew ?_ | with_reducible refine wd_call0 ?_ | with_reducible refine wd_slA ?_ | with_reducible refine wd_slL ?_ | with_reducible refine wd_revT ?_ | with_reducible refine do_catA ?_ ?_ | with_reducible refine wo_part ?_ | with_reducible refine wo_none ?_ | with_reducible refine do_eqQ ?_ | with_reducible refine do_neQ ?_ | with_reducible refine wi_enumT ?_ | with_reducible refine wi_enumD ?_ | with_reducible refine tAdQ (by omega) (by omega) ?_ | with_reducible refine tSbQ (by omega) (by omega) ?_ | with_reducible refine tMlQ (by omega) (by omega) ?_ | with_reducible refine tDvQ (by assumption) (by omega) (by omega) ?_ | with_reducible refine tLtQ (by omega) (by omega) ?_ | with_reducible refine dc_str ?_ ?_ | with_reducible refine wd_tup ?_ | with_reducible refine wd_lst ?_ | with_reducible refine wt_test ?_ | with_reducible refine wt_B ?_ | with_reducible refine wt_not ?_ | with_reducible refine wt_and ?_ | with_reducible refine wt_or ?_ | with_reducible refine wd_ifE ?_ | with_reducible refine wd_andV ?_ | with_reducible refine wd_orV ?_ | with_reducible refine wd_notV ?_
  | with_reducible refine ws_seq ?_ | with_reducible refine ws_next ?_ | with_reducible refine ws_asg ?_ | with_reducible refine ws_ret ?_ | with_reducible refine ws_retN ?_ | with_reducible refine ws_if ?_ | with_reducible refine ws_par ?_ | with_reducible refine ws_unp2 ?_
  | with_reducible refine if_t ?_ | with_reducible refine if_f ?_ | with_reducible refine if_nf ?_ | with_reducible refine if_nt ?_
  | ((with_reducible show Exists _); first | refine ⟨_, kitInt _, ?_⟩ | refine ⟨_, kitBool _, ?_⟩ | refine ⟨_, kitTup _, ?_⟩ | refine ⟨_, kitList _, ?_⟩ | refine ⟨_, rfl, ?_⟩ | refine ⟨_, _, rfl, ?_⟩ | fail) | fail))
def t_firstat (K : PySem.W.Frag) : TS :=
  (tSeq (tAsg (tVar 0) (gTup K 2 (gCons (gName 3) (gCons (gName 4) gNil))))
    (tSeq (tPar 5 6 (tCons (tVar 2) (tCons (tCall (spP K TYat) [] E0 (tCons (tVar 0) (tCons (tVar 2) tNil))) tNil)))
    (tSeq (tIfS (tNot (tB (tCall (spP K TLtQ) [] E0 (tCons (tVar 6) (tCons (tVar 1) tNil))))) (tRet (tVar 5)) tNext)
    (tSeq (tFor (iTup K (tSl (rSlA K) (tVar 3) (tPart (tOp rAddI (tCall (spP K TNoLater) [] E0 (tCons (tVar 3) (tCons (tVar 2) tNil))) (tC (.int 1)))) tNoPart)) (gTup K 2 (gCons (gName 7) (gCons (gName 8) gNil))) (tSeq (tIfS (tNot (tB (tCall (spP K TLtQ) [] E0 (tCons (tVar 8) (tCons (tVar 1) tNil))))) (tRet (tCall (spP K TXat) [] E0 (tCons (tVar 5) (tCons (tVar 6) (tCons (tCall (spP K TDvQ) [] E0 (tCons (tCall (spP K TSbQ) [] E0 (tCons (tVar 8) (tCons (tVar 6) tNil))) (tCons (tCall (spP K TSbQ) [] E0 (tCons (tVar 7) (tCons (tVar 5) tNil))) tNil))) (tCons (tVar 1) tNil)))))) tNext)
    (tPar 5 6 (tCons (tVar 7) (tCons (tVar 8) tNil)))))
    (tSeq (tIfS (tTest (tOp rLe (tOp (rIxT K) (tVar 4) (tC (.int 0))) (tC (.int 0)))) (tRet (tC .non)) tNext)
    (tRet (tCall (spP K TXat) [] E0 (tCons (tVar 5) (tCons (tVar 6) (tCons (tVar 4) (tCons (tVar 1) tNil)))))))))))
section
variable {K : PySem.W.Frag} {ds : List PyData} {Φ : PyData → Prop}
end
end DL

set_option Elab.async false
set_option linter.all false
set_option maxRecDepth 100000
set_option maxHeartbeats 1000000
/-! LM10: put into a rising row -/
namespace DL
def cntL (f : List Rat) (x : Rat) : Nat := (f.filter fun y => decide (y < x)).length
end DL

set_option Elab.async false
set_option linter.all false
set_option maxRecDepth 100000
set_option maxHeartbeats 4000000
/-! LS5: the law's own rows of x -/
namespace DL
open PySem PySem.Spec PyProof.Rows L2
def TSorted : List PyData → (PyData → Prop) → Prop := fun ds Φ => ∃ (some' : List Rat) (B : Nat), ds = [qL some'] ∧ some'.length ≤ 100000 ∧ B ≤ 3800 ∧ (∀ x ∈ some', sz x ≤ B) ∧ ∀ l, Srt l → (∀ x, x ∈ l ↔ x ∈ some') → Φ (qL l)
local macro_rules | `(tactic| walk_at "dl") => `(tactic| repeat' (first
  | with_reducible refine wd_isTy ?_ | with_reducible refine wd_isi ?_ | ((with_reducible show WD _ _ (tOp (rIxL _) (tVar _) _) _ _); refine wd_ix_own rfl ?_) | with_reducible refine wd_op ?_ | ((with_reducible show WD _ _ (tCB (rLenX _) (tCons (tVar _) tNil)) _ _); refine wd_len_scr rfl ?_) | ((with_reducible show WD _ _ (tCB (rLenX _) (tCons (tVar _) tNil)) _ _); refine wd_len_own rfl ?_) | with_reducible refine wd_cb ?_ | with_reducible refine wd_un ?_ | with_reducible refine wa_cons ?_ | with_reducible refine wa_nil ?_ | ((with_reducible show WD _ _ (tVar _) _ _); refine wd_var rfl ?_) | with_reducible refine wd_int ?_ | with_reducible refine wd_bl ?_ | with_reducible refine wd_str ?_ | with_reducible refine wd_non ?_
  | with_reducible refine do_nesS ?_ | with_reducible refine dc_intB ?_ | with_reducible refine do_add ?_ | with_reducible refine do_sub ?_ | ((with_reducible refine do_mod ?_ ?_); decide) | with_reducible refine do_mod ?_ ?_ | with_reducible refine do_mul ?_ ?_ | ((with_reducible refine do_div ?_ ?_); exact ⟨by decide, by decide⟩) | with_reducible refine do_div ?_ ?_ | ((with_reducible refine do_pow ?_ ?_); exact ⟨by decide, by decide, by decide⟩) | with_reducible refine do_pow ?_ ?_
  | with_reducible refine do_lt ?_ | with_reducible refine do_le ?_ | with_reducible refine do_gt ?_ | with_reducible refine do_ge ?_ | with_reducible refine du_neg ?_
  | with_reducible refine do_eqi ?_ | with_reducible refine do_nei ?_ | with_reducible refine do_eqs ?_ | with_reducible refine do_nes ?_ | with_reducible refine dc_abs ?_ | with_reducible refine dc_min ?_ | with_reducible refine dc_max ?_ | with_reducible refine dc_lenL ?_ | with_reducible refine dc_lenT ?_ | with_reducible refine dc_lenR ?_ | with_reducible refine dc_listT ?_ | with_reducible refine dc_listL ?_ | with_reducible refine dc_tupL ?_ | with_reducible refine dc_gcd ?_
  | ((with_reducible show DO _ (rIxT _) _ _ _); refine do_ixT rfl ?_) | ((with_reducible show DO _ (rIxL _) _ _ _); refine do_ixL rfl ?_) | ((with_reducible refine do_catL ?_ ?_); exact Nat.le_of_ble_eq_true rfl) | with_reducible refine do_catL ?_ ?_ | ((with_reducible show And (List.length _ ≤ sizeLine) _); refine ⟨Nat.le_of_ble_eq_true rfl, ?_⟩)
  | with_reducible refine wd_dnew ?_ | with_reducible refine wd_call0 ?_ | with_reducible refine wd_slA ?_ | with_reducible refine wd_slL ?_ | with_reducible refine wd_revT ?_ | with_reducible refine do_catA ?_ ?_ | with_reducible refine wo_part ?_ | with_reducible refine wo_none ?_ | with_reducible refine do_eqQ ?_ | with_reducible refine do_neQ ?_ | with_reducible refine wi_enumT ?_ | with_reducible refine wi_enumD ?_ | with_reducible refine tAdQ (by omega) (by omega) ?_ | with_reducible refine tSbQ (by omega) (by omega) ?_ | with_reducible refine tMlQ (by omega) (by omega) ?_ | with_reducible refine tDvQ (by assumption) (by omega) (by omega) ?_ | with_reducible refine tLtQ (by omega) (by omega) ?_ | with_reducible refine dc_str ?_ ?_ | with_reducible refine wd_tup ?_ | with_reducible refine wd_lst ?_ | with_reducible refine wt_test ?_ | with_reducible refine wt_B ?_ | with_reducible refine wt_not ?_ | with_reducible refine wt_and ?_ | with_reducible refine wt_or ?_ | with_reducible refine wd_ifE ?_ | with_reducible refine wd_andV ?_ | with_reducible refine wd_orV ?_ | with_reducible refine wd_notV ?_
  | with_reducible refine ws_seq ?_ | with_reducible refine ws_next ?_ | with_reducible refine ws_asg ?_ | with_reducible refine ws_ret ?_ | with_reducible refine ws_retN ?_ | with_reducible refine ws_if ?_ | with_reducible refine ws_par ?_ | with_reducible refine ws_unp2 ?_
  | with_reducible refine if_t ?_ | with_reducible refine if_f ?_ | with_reducible refine if_nf ?_ | with_reducible refine if_nt ?_
  | ((with_reducible show Exists _); first | refine ⟨_, kitInt _, ?_⟩ | refine ⟨_, kitBool _, ?_⟩ | refine ⟨_, kitTup _, ?_⟩ | refine ⟨_, kitList _, ?_⟩ | refine ⟨_, rfl, ?_⟩ | refine ⟨_, _, rfl, ?_⟩ | fail) | fail))
def t_sorted (K : PySem.W.Frag) : TS :=
  (tSeq (tAsg (tLst tNil) (gName 1))
    (tSeq (tFor (iList K (tVar 0)) (gName 2) (tSeq (tAsg (tCB (rLenX K) (tCons (tLc (iList K (tVar 1)) (gName 4) (tB (tCall (spP K TLtQ) [] E0 (tCons (tVar 4) (tCons (tVar 2) tNil)))) (tC (.int 1)) [4]) tNil)) (gName 3))
    (tIfS (tOr (tTest (tOp rEq (tVar 3) (tCB (rLenX K) (tCons (tVar 1) tNil)))) (tTest (tOp (rNeD K) (tOp (rIxL K) (tVar 1) (tVar 3)) (tVar 2)))) (tDrop (tBM K "list" rInsert (tVar 1) (tCons (tVar 3) (tCons (tVar 2) tNil)))) tNext)))
    (tRet (tVar 1))))
section
variable {K : PySem.W.Frag} {ds : List PyData} {Φ : PyData → Prop}
end
end DL

set_option Elab.async false
set_option linter.all false
set_option maxRecDepth 100000
set_option maxHeartbeats 4000000
/-! DM8: a list of one's own lengthened by a comprehension -/
namespace DL
open PySem PySem.Spec PyProof.Rows L2
section
variable {K : PySem.W.Frag} {S : Stt} {ρ : Rho}
end
end DL

set_option Elab.async false
set_option linter.all false
set_option maxRecDepth 100000
set_option maxHeartbeats 4000000
/-! LS6: the law's x of two lines, where they are unlike -/
namespace DL
open PySem PySem.Spec PyProof.Rows L2
def TXsL : List PyData → (PyData → Prop) → Prop := fun ds Φ => ∃ (ks ls : Kn) (s t : Rat) (B : Nat), ds = [.list [lnD ks s, lnD ls t]] ∧ Lq B ks s ∧ Lq B ls t ∧ ks.length + ls.length ≤ 100000 ∧ B + 2 ≤ 3800 ∧ ∀ xs, IsMg (xsK ks) (xsK ls) xs → Φ (qL (beyond xs))
local macro_rules | `(tactic| walk_at "dl") => `(tactic| repeat' (first
  | with_reducible refine wd_isTy ?_ | with_reducible refine wd_isi ?_ | ((with_reducible show WD _ _ (tOp (rIxL _) (tVar _) _) _ _); refine wd_ix_own rfl ?_) | with_reducible refine wd_op ?_ | ((with_reducible show WD _ _ (tCB (rLenX _) (tCons (tVar _) tNil)) _ _); refine wd_len_scr rfl ?_) | ((with_reducible show WD _ _ (tCB (rLenX _) (tCons (tVar _) tNil)) _ _); refine wd_len_own rfl ?_) | with_reducible refine wd_cb ?_ | with_reducible refine wd_un ?_ | with_reducible refine wa_cons ?_ | with_reducible refine wa_nil ?_ | ((with_reducible show WD _ _ (tVar _) _ _); refine wd_var rfl ?_) | with_reducible refine wd_int ?_ | with_reducible refine wd_bl ?_ | with_reducible refine wd_str ?_ | with_reducible refine wd_non ?_
  | with_reducible refine do_nesS ?_ | with_reducible refine dc_intB ?_ | with_reducible refine do_add ?_ | with_reducible refine do_sub ?_ | ((with_reducible refine do_mod ?_ ?_); decide) | with_reducible refine do_mod ?_ ?_ | with_reducible refine do_mul ?_ ?_ | ((with_reducible refine do_div ?_ ?_); exact ⟨by decide, by decide⟩) | with_reducible refine do_div ?_ ?_ | ((with_reducible refine do_pow ?_ ?_); exact ⟨by decide, by decide, by decide⟩) | with_reducible refine do_pow ?_ ?_
  | with_reducible refine do_lt ?_ | with_reducible refine do_le ?_ | with_reducible refine do_gt ?_ | with_reducible refine do_ge ?_ | with_reducible refine du_neg ?_
  | with_reducible refine do_eqi ?_ | with_reducible refine do_nei ?_ | with_reducible refine do_eqs ?_ | with_reducible refine do_nes ?_ | with_reducible refine dc_abs ?_ | with_reducible refine dc_min ?_ | with_reducible refine dc_max ?_ | with_reducible refine dc_lenL ?_ | with_reducible refine dc_lenT ?_ | with_reducible refine dc_lenR ?_ | with_reducible refine dc_listT ?_ | with_reducible refine dc_listL ?_ | with_reducible refine dc_tupL ?_ | with_reducible refine dc_gcd ?_
  | ((with_reducible show DO _ (rIxT _) _ _ _); refine do_ixT rfl ?_) | ((with_reducible show DO _ (rIxL _) _ _ _); refine do_ixL rfl ?_) | ((with_reducible refine do_catL ?_ ?_); exact Nat.le_of_ble_eq_true rfl) | with_reducible refine do_catL ?_ ?_ | ((with_reducible show And (List.length _ ≤ sizeLine) _); refine ⟨Nat.le_of_ble_eq_true rfl, ?_⟩)
  | with_reducible refine wd_dnew ?_ | with_reducible refine wd_call0 ?_ | with_reducible refine wd_slA ?_ | with_reducible refine wd_slL ?_ | with_reducible refine wd_revT ?_ | with_reducible refine do_catA ?_ ?_ | with_reducible refine wo_part ?_ | with_reducible refine wo_none ?_ | with_reducible refine do_eqQ ?_ | with_reducible refine do_neQ ?_ | with_reducible refine wi_enumT ?_ | with_reducible refine wi_enumD ?_ | with_reducible refine tAdQ (by omega) (by omega) ?_ | with_reducible refine tSbQ (by omega) (by omega) ?_ | with_reducible refine tMlQ (by omega) (by omega) ?_ | with_reducible refine tDvQ (by assumption) (by omega) (by omega) ?_ | with_reducible refine tLtQ (by omega) (by omega) ?_ | with_reducible refine dc_str ?_ ?_ | with_reducible refine wd_tup ?_ | with_reducible refine wd_lst ?_ | with_reducible refine wt_test ?_ | with_reducible refine wt_B ?_ | with_reducible refine wt_not ?_ | with_reducible refine wt_and ?_ | with_reducible refine wt_or ?_ | with_reducible refine wd_ifE ?_ | with_reducible refine wd_andV ?_ | with_reducible refine wd_orV ?_ | with_reducible refine wd_notV ?_
  | with_reducible refine ws_seq ?_ | with_reducible refine ws_next ?_ | with_reducible refine ws_asg ?_ | with_reducible refine ws_ret ?_ | with_reducible refine ws_retN ?_ | with_reducible refine ws_if ?_ | with_reducible refine ws_par ?_ | with_reducible refine ws_unp2 ?_
  | with_reducible refine if_t ?_ | with_reducible refine if_f ?_ | with_reducible refine if_nf ?_ | with_reducible refine if_nt ?_
  | ((with_reducible show Exists _); first | refine ⟨_, kitInt _, ?_⟩ | refine ⟨_, kitBool _, ?_⟩ | refine ⟨_, kitTup _, ?_⟩ | refine ⟨_, kitList _, ?_⟩ | refine ⟨_, rfl, ?_⟩ | refine ⟨_, _, rfl, ?_⟩ | fail) | fail))
def t_xsl (K : PySem.W.Frag) : TS :=
  (tSeq (tAsg (tLst tNil) (gName 1))
    (tSeq (tFor (iList K (tVar 0)) (gName 2) (tDrop (tBM K "list" rExtend (tVar 1) (tCons (tLc (iTup K (tOp (rIxT K) (tVar 2) (tC (.int 0)))) (gName 4) tYes (tOp (rIxT K) (tVar 4) (tC (.int 0))) [4]) tNil))))
    (tSeq (tAsg (tCall (spP K TSorted) [] E0 (tCons (tVar 1) tNil)) (gName 3))
    (tRet (tOp rCatL (tVar 3) (tLst (tCons (tCall (spP K TAdQ) [] E0 (tCons (tOp (rIxL K) (tVar 3) (tUn rNegI (tC (.int 1)))) (tCons (tTup (tCons (tC (.int 1)) (tCons (tC (.int 1)) tNil))) tNil))) tNil)))))))
def t_lunlike (K : PySem.W.Frag) : TS :=
  (tSeq (tFor (iList K (tCall (spP K TXsL) [] E0 (tCons (tLst (tCons (tVar 0) (tCons (tVar 1) tNil))) tNil))) (gName 2) (tIfS (tTest (tOp (rNeD K) (tCall (spP K TYat) [] E0 (tCons (tVar 0) (tCons (tVar 2) tNil))) (tCall (spP K TYat) [] E0 (tCons (tVar 1) (tCons (tVar 2) tNil))))) (tRet (tVar 2)) tNext))
    (tRet (tC .non)))
section
variable {K : PySem.W.Frag} {ds : List PyData} {Φ : PyData → Prop}
end
end DL

set_option Elab.async false
set_option linter.all false
set_option maxRecDepth 100000
set_option maxHeartbeats 4000000
/-! LS7: the law's look at what is found first -/
namespace DL
open PySem PySem.Spec PyProof.Rows L2
def TFirstR : List PyData → (PyData → Prop) → Prop := fun ds Φ => ∃ (ks : Kn) (s g b : Rat) (o : Option Rat) (B C : Nat), ds = [lnD ks s, qp g, qp b, oqD o] ∧ Lq B ks s ∧ 0 ≤ b ∧ sz g ≤ C ∧ sz b ≤ C ∧ B ≤ C ∧ (∀ r, o = some r → sz r ≤ C) ∧ 6 * B + C ≤ 3800 ∧ FirstP ks s g b o ∧ Φ (.bool true)
local macro_rules | `(tactic| walk_at "dl") => `(tactic| repeat' (first
  | with_reducible refine wd_isTy ?_ | with_reducible refine wd_isi ?_ | ((with_reducible show WD _ _ (tOp (rIxL _) (tVar _) _) _ _); refine wd_ix_own rfl ?_) | with_reducible refine wd_op ?_ | ((with_reducible show WD _ _ (tCB (rLenX _) (tCons (tVar _) tNil)) _ _); refine wd_len_scr rfl ?_) | ((with_reducible show WD _ _ (tCB (rLenX _) (tCons (tVar _) tNil)) _ _); refine wd_len_own rfl ?_) | with_reducible refine wd_cb ?_ | with_reducible refine wd_un ?_ | with_reducible refine wa_cons ?_ | with_reducible refine wa_nil ?_ | ((with_reducible show WD _ _ (tVar _) _ _); refine wd_var rfl ?_) | with_reducible refine wd_int ?_ | with_reducible refine wd_bl ?_ | with_reducible refine wd_str ?_ | with_reducible refine wd_non ?_
  | with_reducible refine do_nesS ?_ | with_reducible refine dc_intB ?_ | with_reducible refine do_add ?_ | with_reducible refine do_sub ?_ | ((with_reducible refine do_mod ?_ ?_); decide) | with_reducible refine do_mod ?_ ?_ | with_reducible refine do_mul ?_ ?_ | ((with_reducible refine do_div ?_ ?_); exact ⟨by decide, by decide⟩) | with_reducible refine do_div ?_ ?_ | ((with_reducible refine do_pow ?_ ?_); exact ⟨by decide, by decide, by decide⟩) | with_reducible refine do_pow ?_ ?_
  | with_reducible refine do_lt ?_ | with_reducible refine do_le ?_ | with_reducible refine do_gt ?_ | with_reducible refine do_ge ?_ | with_reducible refine du_neg ?_
  | with_reducible refine do_eqi ?_ | with_reducible refine do_nei ?_ | with_reducible refine do_eqs ?_ | with_reducible refine do_nes ?_ | with_reducible refine dc_abs ?_ | with_reducible refine dc_min ?_ | with_reducible refine dc_max ?_ | with_reducible refine dc_lenL ?_ | with_reducible refine dc_lenT ?_ | with_reducible refine dc_lenR ?_ | with_reducible refine dc_listT ?_ | with_reducible refine dc_listL ?_ | with_reducible refine dc_tupL ?_ | with_reducible refine dc_gcd ?_
  | ((with_reducible show DO _ (rIxT _) _ _ _); refine do_ixT rfl ?_) | ((with_reducible show DO _ (rIxL _) _ _ _); refine do_ixL rfl ?_) | ((with_reducible refine do_catL ?_ ?_); exact Nat.le_of_ble_eq_true rfl) | with_reducible refine do_catL ?_ ?_ | ((with_reducible show And (List.length _ ≤ sizeLine) _); refine ⟨Nat.le_of_ble_eq_true rfl, ?_⟩)
  | with_reducible refine wd_dnew ?_ | with_reducible refine wd_call0 ?_ | with_reducible refine wd_slA ?_ | with_reducible refine wd_slL ?_ | with_reducible refine wd_revT ?_ | with_reducible refine do_catA ?_ ?_ | with_reducible refine wo_part ?_ | with_reducible refine wo_none ?_ | with_reducible refine do_eqQ ?_ | with_reducible refine do_neQ ?_ | with_reducible refine wi_enumT ?_ | with_reducible refine wi_enumD ?_ | with_reducible refine tAdQ (by omega) (by omega) ?_ | with_reducible refine tSbQ (by omega) (by omega) ?_ | with_reducible refine tMlQ (by omega) (by omega) ?_ | with_reducible refine tDvQ (by assumption) (by omega) (by omega) ?_ | with_reducible refine tLtQ (by omega) (by omega) ?_ | with_reducible refine dc_str ?_ ?_ | with_reducible refine wd_tup ?_ | with_reducible refine wd_lst ?_ | with_reducible refine wt_test ?_ | with_reducible refine wt_B ?_ | with_reducible refine wt_not ?_ | with_reducible refine wt_and ?_ | with_reducible refine wt_or ?_ | with_reducible refine wd_ifE ?_ | with_reducible refine wd_andV ?_ | with_reducible refine wd_orV ?_ | with_reducible refine wd_notV ?_
  | with_reducible refine ws_seq ?_ | with_reducible refine ws_next ?_ | with_reducible refine ws_asg ?_ | with_reducible refine ws_ret ?_ | with_reducible refine ws_retN ?_ | with_reducible refine ws_if ?_ | with_reducible refine ws_par ?_ | with_reducible refine ws_unp2 ?_
  | with_reducible refine if_t ?_ | with_reducible refine if_f ?_ | with_reducible refine if_nf ?_ | with_reducible refine if_nt ?_
  | ((with_reducible show Exists _); first | refine ⟨_, kitInt _, ?_⟩ | refine ⟨_, kitBool _, ?_⟩ | refine ⟨_, kitTup _, ?_⟩ | refine ⟨_, kitList _, ?_⟩ | refine ⟨_, rfl, ?_⟩ | refine ⟨_, _, rfl, ?_⟩ | fail) | fail))
def t_firstr (K : PySem.W.Frag) : TS :=
  (tSeq (tIfS (tTest (tOp rIsNone (tVar 3) (tC .non))) (tSeq (tAsg (tLc (iTup K (tOp (rIxT K) (tVar 0) (tC (.int 0)))) (gName 6) (tB (tCall (spP K TLtQ) [] E0 (tCons (tVar 2) (tCons (tOp (rIxT K) (tVar 6) (tC (.int 0))) tNil)))) (tOp (rIxT K) (tVar 6) (tC (.int 0))) [6]) (gName 4))
    (tSeq (tFor (iList K (tOp rCatL (tLst (tCons (tVar 2) tNil)) (tVar 4))) (gName 5) (tIfS (tNot (tB (tCall (spP K TLtQ) [] E0 (tCons (tCall (spP K TYat) [] E0 (tCons (tVar 0) (tCons (tVar 5) tNil))) (tCons (tVar 1) tNil))))) (tRet (tC (.bl false))) tNext))
    (tRet (tOp rLe (tOp (rIxT K) (tOp (rIxT K) (tVar 0) (tC (.int 1))) (tC (.int 0))) (tC (.int 0)))))) tNext)
    (tSeq (tIfS (tOr (tNot (tB (tCB (rIsi K) (tCons (tVar 3) (tCons (tC (.ty "tuple")) tNil))))) (tOr (tTest (tOp rNe (tCB (rLenX K) (tCons (tVar 3) tNil)) (tC (.int 2)))) (tOr (tTest (tOp rLt (tOp (rIxT K) (tVar 3) (tC (.int 1))) (tC (.int 1)))) (tTest (tOp (rNeD K) (tCall (spP K TLow) [] E0 (tCons (tOp (rIxT K) (tVar 3) (tC (.int 0))) (tCons (tOp (rIxT K) (tVar 3) (tC (.int 1))) tNil))) (tVar 3)))))) (tRet (tC (.bl false))) tNext)
    (tSeq (tIfS (tOr (tB (tCall (spP K TLtQ) [] E0 (tCons (tVar 3) (tCons (tVar 2) tNil)))) (tB (tCall (spP K TLtQ) [] E0 (tCons (tCall (spP K TYat) [] E0 (tCons (tVar 0) (tCons (tVar 3) tNil))) (tCons (tVar 1) tNil))))) (tRet (tC (.bl false))) tNext)
    (tSeq (tIfS (tTest (tOp (rEqD K) (tVar 3) (tVar 2))) (tRet (tC (.bl true))) tNext)
    (tSeq (tIfS (tTest (tOp (rNeD K) (tCall (spP K TYat) [] E0 (tCons (tVar 0) (tCons (tVar 3) tNil))) (tVar 1))) (tRet (tC (.bl false))) tNext)
    (tSeq (tFor (iList K (tOp rCatL (tLst (tCons (tVar 2) tNil)) (tLc (iTup K (tOp (rIxT K) (tVar 0) (tC (.int 0)))) (gName 6) tYes (tOp (rIxT K) (tVar 6) (tC (.int 0))) [6]))) (gName 5) (tIfS (tAnd (tNot (tB (tCall (spP K TLtQ) [] E0 (tCons (tVar 5) (tCons (tVar 2) tNil))))) (tAnd (tB (tCall (spP K TLtQ) [] E0 (tCons (tVar 5) (tCons (tVar 3) tNil)))) (tNot (tB (tCall (spP K TLtQ) [] E0 (tCons (tCall (spP K TYat) [] E0 (tCons (tVar 0) (tCons (tVar 5) tNil))) (tCons (tVar 1) tNil))))))) (tRet (tC (.bl false))) tNext))
    (tRet (tC (.bl true)))))))))
section
variable {K : PySem.W.Frag} {ds : List PyData} {Φ : PyData → Prop} {Ψ : PyData → Prop}
end
end DL

set_option Elab.async false
set_option linter.all false
set_option maxRecDepth 100000
set_option maxHeartbeats 4000000
/-! DM9: three names at once -/
namespace DL
open PySem PySem.Spec PyProof.Rows L2
section
variable {K : PySem.W.Frag} {S : Stt} {ρ : Rho}
end
end DL

set_option Elab.async false
set_option linter.all false
/-! PM1: payments of totals, as rationals, and their sizes -/
namespace DL
abbrev P3 := Rat × Rat × Rat
def keptR (sh n d : Rat) : Rat := if n ≤ 0 then n else if sh * n < d then sh * n else d
def pstep (sh : Rat) (s : P3) (t : Rat) : P3 := (t, s.2.1 + (t - s.1 - keptR sh (t - s.1) s.2.2), s.2.2 - keptR sh (t - s.1) s.2.2)
def prow (sh : Rat) (s : P3) (t : Rat) : P3 := (t - s.1 - keptR sh (t - s.1) s.2.2, s.2.1 + (t - s.1 - keptR sh (t - s.1) s.2.2), s.2.2 - keptR sh (t - s.1) s.2.2)
def pS (sh : Rat) (ts : List Rat) : P3 := ts.foldl (pstep sh) (0, 0, 0)
def pRwF (sh : Rat) : P3 → List Rat → List P3
  | _, [] => []
  | s, t :: r => prow sh s t :: pRwF sh (pstep sh s t) r
def pRw (sh : Rat) (ts : List Rat) : List P3 := pRwF sh (0, 0, 0) ts
/-! sizes -/
/-- the common bottom of all totals -/
def dd : Nat := (List.range 1000).foldl (fun a k => Nat.lcm a (k + 1)) 1 * 988027000 ^ 4
def mm : Nat := dd * 2 ^ 21
end DL

set_option Elab.async false
set_option linter.all false
/-! PM2: what holds behind each payday; sizes -/
namespace DL
structure ShOk (R : Nat) (sh : Rat) : Prop where
  pos : 0 < sh
  le : sh ≤ 1
  r1 : 1 ≤ R
  r2 : R ≤ 1000
  dv : Dv R R sh
def Tot (t : Rat) : Prop := Dv dd mm t
structure PI (R k : Nat) (s : P3) : Prop where
  last : Tot s.1
  debt : Dv (dd * R) (2 * k * (mm * R)) s.2.2
  d0 : 0 ≤ s.2.2
  sum : s.2.1 = s.1 + s.2.2
/-- the sizes of all that a payday reckons with -/
structure PZ (sh : Rat) (s : P3) (t : Rat) : Prop where
  last : sz s.1 ≤ 1640
  all : sz s.2.1 ≤ 1640
  debt : sz s.2.2 ≤ 1640
  tot : sz t ≤ 1640
  new : sz (t - s.1) ≤ 1640
  shn : sz (sh * (t - s.1)) ≤ 1640
  now1 : sz (t - s.1 - s.2.2) ≤ 1640
  now2 : sz (t - s.1 - sh * (t - s.1)) ≤ 1640
  kept : sz (keptR sh (t - s.1) s.2.2) ≤ 1640
  now : sz (t - s.1 - keptR sh (t - s.1) s.2.2) ≤ 1640
  all2 : sz (pstep sh s t).2.1 ≤ 1640
  debt2 : sz (pstep sh s t).2.2 ≤ 1640
end DL

set_option Elab.async false
set_option linter.all false
/-! PM3: the totals that are drawn -/
namespace DL
/-- a hair -/
def Hair (q : Rat) : Prop := Dv (988027000 ^ 4) (988027000 ^ 4) q
def hair0 : Rat := Rat.divInt 1 997 * Rat.divInt 1 1000 * Rat.divInt 1 991
def hairs : Nat → Rat
  | 0 => hair0
  | j + 1 => hairs j * hairs j
end DL

set_option Elab.async false
set_option linter.all false
set_option maxRecDepth 100000
set_option maxHeartbeats 4000000
/-! PQ1: small parts, shares, totals drawn -/
namespace DL
open PySem PySem.Spec PyProof.Rows L2
def SmQ (q : Rat) : Prop := ∃ (n : Int) (d : Nat), q = Rat.divInt n d ∧ 1 ≤ d ∧ d ≤ 1000 ∧ n.natAbs ≤ 1000000
def TSmallQ : Nat → List PyData → (PyData → Nat → Prop) → Prop := fun B ds Φ => ds = [] ∧ B + 3200 ≤ 2 ^ 40 ∧ ∀ q, SmQ q → Φ (qp q) (B + 3200)
def TShareQ : Nat → List PyData → (PyData → Nat → Prop) → Prop := fun B ds Φ => ds = [] ∧ B + 1600 ≤ 2 ^ 40 ∧ ∀ R q, ShOk R q → Φ (qp q) (B + 1600)
def TTotals : Nat → List PyData → (PyData → Nat → Prop) → Prop := fun B ds Φ => ∃ most : Int, ds = [.int most] ∧ 1 ≤ most ∧ most ≤ 120 ∧ B + 1000000 ≤ 2 ^ 40 ∧ ∀ (ts : List Rat) (B' : Nat), (ts.length : Int) ≤ 120 → (∀ t ∈ ts, Tot t) → B' ≤ B + 1000000 → Φ (.list (ts.map qp)) B'
theorem qp_of {n d : Int} (hd : 1 ≤ d) (hg : Nat.gcd n.natAbs d.natAbs = 1) : PyData.tuple [.int n, .int d] = qp (Rat.divInt n d) := by
  rw [← qp_di (by omega), nrm_self hd hg]; rfl
theorem qp_int {n : Int} : PyData.tuple [.int n, .int 1] = qp (n : Rat) := by
  unfold qp; rw [Rat.num_intCast, Rat.den_intCast]; rfl
theorem qp01 : PyData.tuple [.int 0, .int 1] = qp 0 := rfl
theorem qp11 : PyData.tuple [.int 1, .int 1] = qp 1 := rfl
def negA (q : Rat) : Rat := if 0 ≤ q.num then -q else q
theorem fgt_set {ρ : Rho} {i : Nat} : Fgt ρ (ρ.set i .unk) := ⟨List.length_set, fun j s h => by
  rcases get_set h with ⟨_, e⟩ | ⟨_, e⟩
  · exact .inl e
  · exact .inr e⟩
theorem fgt_wipe {ρ : Rho} : ∀ vs : List Nat, Fgt ρ (wipeR ρ vs)
  | [] => Fgt.refl
  | v :: vs => by
    obtain ⟨l, f⟩ := fgt_wipe (ρ := ρ) vs
    obtain ⟨l2, f2⟩ := fgt_set (ρ := wipeR ρ vs) (i := v)
    refine ⟨l2.trans l, fun i s h => ?_⟩
    rcases f2 i s h with e | e
    · exact .inl e
    · exact f i s e
theorem ws_wipe {K : PySem.W.Frag} {S : Stt} {ρ : Rho} {ts : TS} {En : DE} (vs : List Nat) (h : WS K S ts (wipeR ρ vs) En) : WS K S ts ρ En := ws_fgt (fgt_wipe vs) h
local macro_rules | `(tactic| walk_at "dl") => `(tactic| repeat' (first
  | with_reducible refine wd_isTy ?_ | with_reducible refine wd_isi ?_ | ((with_reducible show WD _ _ (tOp (rIxL _) (tVar _) _) _ _); refine wd_ix_own rfl ?_) | with_reducible refine wd_op ?_ | ((with_reducible show WD _ _ (tCB (rLenX _) (tCons (tVar _) tNil)) _ _); refine wd_len_scr rfl ?_) | ((with_reducible show WD _ _ (tCB (rLenX _) (tCons (tVar _) tNil)) _ _); refine wd_len_own rfl ?_) | with_reducible refine wd_cb ?_ | with_reducible refine wd_un ?_ | with_reducible refine wa_cons ?_ | with_reducible refine wa_nil ?_ | ((with_reducible show WD _ _ (tVar _) _ _); refine wd_var rfl ?_) | with_reducible refine wd_int ?_ | with_reducible refine wd_bl ?_ | with_reducible refine wd_str ?_ | with_reducible refine wd_non ?_
  | with_reducible refine do_nesS ?_ | with_reducible refine dc_intB ?_ | with_reducible refine do_add ?_ | with_reducible refine do_sub ?_ | ((with_reducible refine do_mod ?_ ?_); decide) | with_reducible refine do_mod ?_ ?_ | with_reducible refine do_mul ?_ ?_ | ((with_reducible refine do_div ?_ ?_); exact ⟨by decide, by decide⟩) | with_reducible refine do_div ?_ ?_ | ((with_reducible refine do_pow ?_ ?_); exact ⟨by decide, by decide, by decide⟩) | with_reducible refine do_pow ?_ ?_
  | with_reducible refine do_lt ?_ | with_reducible refine do_le ?_ | with_reducible refine do_gt ?_ | with_reducible refine do_ge ?_ | with_reducible refine du_neg ?_
  | with_reducible refine do_eqi ?_ | with_reducible refine do_nei ?_ | with_reducible refine do_eqs ?_ | with_reducible refine do_nes ?_ | with_reducible refine dc_abs ?_ | with_reducible refine dc_min ?_ | with_reducible refine dc_max ?_ | with_reducible refine dc_lenL ?_ | with_reducible refine dc_lenT ?_ | with_reducible refine dc_lenR ?_ | with_reducible refine dc_listT ?_ | with_reducible refine dc_listL ?_ | with_reducible refine dc_tupL ?_ | with_reducible refine dc_gcd ?_
  | ((with_reducible show DO _ (rIxT _) _ _ _); refine do_ixT rfl ?_) | ((with_reducible show DO _ (rIxL _) _ _ _); refine do_ixL rfl ?_) | ((with_reducible refine do_catL ?_ ?_); exact Nat.le_of_ble_eq_true rfl) | with_reducible refine do_catL ?_ ?_ | ((with_reducible show And (List.length _ ≤ sizeLine) _); refine ⟨Nat.le_of_ble_eq_true rfl, ?_⟩)
  | with_reducible refine wd_dnew ?_ | with_reducible refine wd_call0 ?_ | with_reducible refine wd_slA ?_ | with_reducible refine wd_slL ?_ | with_reducible refine wd_revT ?_ | with_reducible refine do_catA ?_ ?_ | with_reducible refine wo_part ?_ | with_reducible refine wo_none ?_ | with_reducible refine do_eqQ ?_ | with_reducible refine do_neQ ?_ | with_reducible refine wi_enumT ?_ | with_reducible refine wi_enumD ?_ | with_reducible refine tAdQ (by omega) (by omega) ?_ | with_reducible refine tSbQ (by omega) (by omega) ?_ | with_reducible refine tMlQ (by omega) (by omega) ?_ | with_reducible refine tDvQ (by assumption) (by omega) (by omega) ?_ | with_reducible refine tLtQ (by omega) (by omega) ?_ | with_reducible refine dc_str ?_ ?_ | with_reducible refine wd_tup ?_ | with_reducible refine wd_lst ?_ | with_reducible refine wt_test ?_ | with_reducible refine wt_B ?_ | with_reducible refine wt_not ?_ | with_reducible refine wt_and ?_ | with_reducible refine wt_or ?_ | with_reducible refine wd_ifE ?_ | with_reducible refine wd_andV ?_ | with_reducible refine wd_orV ?_ | with_reducible refine wd_notV ?_
  | with_reducible refine ws_seq ?_ | with_reducible refine ws_next ?_ | with_reducible refine ws_asg ?_ | with_reducible refine ws_ret ?_ | with_reducible refine ws_retN ?_ | with_reducible refine ws_if ?_ | with_reducible refine ws_par ?_ | with_reducible refine ws_unp2 ?_
  | with_reducible refine if_t ?_ | with_reducible refine if_f ?_ | with_reducible refine if_nf ?_ | with_reducible refine if_nt ?_
  | ((with_reducible show Exists _); first | refine ⟨_, kitInt _, ?_⟩ | refine ⟨_, kitBool _, ?_⟩ | refine ⟨_, kitTup _, ?_⟩ | refine ⟨_, kitList _, ?_⟩ | refine ⟨_, rfl, ?_⟩ | refine ⟨_, _, rfl, ?_⟩ | fail) | fail))
def t_smallq (K : PySem.W.Frag) : TS :=
  (tSeq (tAsg (tCall (spS K FSto TDr) [] E0 (tCons (tVar 0) (tCons (tC (.int 6)) tNil))) (gName 1))
    (tSeq (tAsg (tOp (rIxL K) (tLst (tCons (tC (.int 1)) (tCons (tC (.int 1)) (tCons (tC (.int 2)) (tCons (tC (.int 3)) (tCons (tC (.int 4)) (tCons (tC (.int 12)) (tCons (tC (.int 97)) (tCons (tC (.int 101)) (tCons (tC (.int 997)) (tCons (tC (.int 1000)) (tCons (tOp rAddI (tC (.int 1)) (tCall (spS K FSto TDr) [] E0 (tCons (tVar 0) (tCons (tC (.int 1000)) tNil)))) tNil)))))))))))) (tCall (spS K FSto TDr) [] E0 (tCons (tVar 0) (tCons (tC (.int 11)) tNil)))) (gName 2))
    (tSeq (tAsg (tLst (tCons (tC (.int 0)) (tCons (tC (.int 1)) (tCons (tOp rAddI (tC (.int 1)) (tCall (spS K FSto TDr) [] E0 (tCons (tVar 0) (tCons (tC (.int 9)) tNil)))) (tCons (tCall (spS K FSto TDr) [] E0 (tCons (tVar 0) (tCons (tC (.int 1000)) tNil))) (tCons (tOp rSubI (tOp rPowI (tC (.int 10)) (tC (.int 6))) (tCall (spS K FSto TDr) [] E0 (tCons (tVar 0) (tCons (tC (.int 3)) tNil)))) tNil)))))) (gName 3))
    (tSeq (tAsg (tOp (rIxL K) (tOp rCatL (tVar 3) (tLst (tCons (tCall (spS K FSto TDr) [] E0 (tCons (tVar 0) (tCons (tOp rPowI (tC (.int 10)) (tC (.int 6))) tNil))) tNil))) (tVar 1)) (gName 3))
    (tRet (tCall (spP K TLow) [] E0 (tCons (tOp rMulI (tVar 3) (tOp (rIxL K) (tLst (tCons (tC (.int 1)) (tCons (tUn rNegI (tC (.int 1))) tNil))) (tCall (spS K FSto TDr) [] E0 (tCons (tVar 0) (tCons (tC (.int 2)) tNil))))) (tCons (tVar 2) tNil))))))))
def t_shareq (K : PySem.W.Frag) : TS :=
  (tSeq (tAsg (tOp (rIxL K) (tLst (tCons (tC (.int 1)) (tCons (tC (.int 2)) (tCons (tC (.int 3)) (tCons (tC (.int 10)) (tCons (tC (.int 97)) (tCons (tC (.int 997)) (tCons (tOp rAddI (tC (.int 1)) (tCall (spS K FSto TDr) [] E0 (tCons (tVar 0) (tCons (tC (.int 1000)) tNil)))) tNil)))))))) (tCall (spS K FSto TDr) [] E0 (tCons (tVar 0) (tCons (tC (.int 7)) tNil)))) (gName 1))
    (tRet (tCall (spP K TLow) [] E0 (tCons (tOp rSubI (tVar 1) (tOp rMulI (tCall (spS K FSto TDr) [] E0 (tCons (tVar 0) (tCons (tVar 1) tNil))) (tCall (spS K FSto TDr) [] E0 (tCons (tVar 0) (tCons (tC (.int 2)) tNil))))) (tCons (tVar 1) tNil)))))
def t_totals (K : PySem.W.Frag) : TS :=
  (tSeq (tAsg (tCall (spS K FSto TDr) [] E0 (tCons (tVar 0) (tCons (tC (.int 6)) tNil))) (gName 2))
    (tSeq (tAsg (tOp (rIxL K) (tLst (tCons (tC (.int 3)) (tCons (tC (.int 8)) (tCons (tVar 1) tNil)))) (tCall (spS K FSto TDr) [] E0 (tCons (tVar 0) (tCons (tC (.int 3)) tNil)))) (gName 3))
    (tSeq (tAsg (tCall (spP K TMlQ) [] E0 (tCons (tCall (spP K TMlQ) [] E0 (tCons (tTup (tCons (tC (.int 1)) (tCons (tC (.int 997)) tNil))) (tCons (tTup (tCons (tC (.int 1)) (tCons (tC (.int 1000)) tNil))) tNil))) (tCons (tTup (tCons (tC (.int 1)) (tCons (tC (.int 991)) tNil))) tNil))) (gName 4))
    (tSeq (tFor (iRng1 (tCons (tCall (spS K FSto TDr) [] E0 (tCons (tVar 0) (tCons (tC (.int 3)) tNil))) tNil)) (gName 5) (tAsg (tCall (spP K TMlQ) [] E0 (tCons (tVar 4) (tCons (tVar 4) tNil))) (gName 4)))
    (tSeq (tAsg (tOp (rIxL K) (tLst (tCons (tC (.int 1)) (tCons (tC (.int 1)) (tCons (tC (.int 2)) (tCons (tC (.int 3)) (tCons (tC (.int 12)) (tCons (tC (.int 97)) (tCons (tC (.int 1000)) tNil)))))))) (tCall (spS K FSto TDr) [] E0 (tCons (tVar 0) (tCons (tC (.int 7)) tNil)))) (gName 6))
    (tSeq (tAsg (tLst tNil) (gName 7))
    (tSeq (tAsg (tOp rSubI (tCall (spS K FSto TDr) [] E0 (tCons (tVar 0) (tCons (tC (.int 2000)) tNil))) (tC (.int 1000))) (gName 8))
    (tSeq (tFor (iRng1 (tCons (tCall (spS K FSto TDr) [] E0 (tCons (tVar 0) (tCons (tOp rAddI (tVar 3) (tC (.int 1))) tNil))) tNil)) (gName 9) (tSeq (tAsg (tCall (spS K FSto TDr) [] E0 (tCons (tVar 0) (tCons (tOp (rIxL K) (tLst (tCons (tC (.int 3)) (tCons (tC (.int 50)) (tCons (tC (.int 20000)) tNil)))) (tCall (spS K FSto TDr) [] E0 (tCons (tVar 0) (tCons (tC (.int 3)) tNil)))) tNil))) (gName 10))
    (tSeq (tAsg (tOp rAddI (tVar 8) (tOp (rIxL K) (tLst (tCons (tOp rSubI (tVar 10) (tC (.int 10))) (tCons (tVar 10) (tCons (tOp rSubI (tC (.int 0)) (tVar 10)) (tCons (tOp rMulI (tVar 10) (tOp rSubI (tC (.int 1)) (tOp rMulI (tC (.int 2)) (tOp rModI (tVar 9) (tC (.int 2)))))) (tCons (tC (.int 0)) (tCons (tVar 10) tNil))))))) (tVar 2))) (gName 8))
    (tSeq (tAsg (tCB rMaxX (tCons (tUn rNegI (tOp rPowI (tC (.int 10)) (tC (.int 6)))) (tCons (tCB rMinX (tCons (tOp rPowI (tC (.int 10)) (tC (.int 6))) (tCons (tVar 8) tNil))) tNil))) (gName 8))
    (tSeq (tAsg (tCall (spP K TLow) [] E0 (tCons (tVar 8) (tCons (tVar 6) tNil))) (gName 11))
    (tSeq (tIfS (tAnd (tTest (tOp rEq (tVar 2) (tC (.int 0)))) (tTest (tOp rEq (tCall (spS K FSto TDr) [] E0 (tCons (tVar 0) (tCons (tC (.int 3)) tNil))) (tC (.int 0))))) (tAsg (tCall (spS K FSto TSmallQ) [] E0 (tCons (tVar 0) tNil)) (gName 11)) tNext)
    (tSeq (tIfS (tTest (tOp rEq (tVar 2) (tC (.int 5)))) (tAsg (tTup (tCons (tOp rSubI (tC (.int 0)) (tCB rAbsX (tCons (tOp (rIxT K) (tVar 11) (tC (.int 0))) tNil))) (tCons (tOp (rIxT K) (tVar 11) (tC (.int 1))) tNil))) (gName 11)) tNext)
    (tSeq (tIfS (tTest (tOp rEq (tCall (spS K FSto TDr) [] E0 (tCons (tVar 0) (tCons (tC (.int 4)) tNil))) (tC (.int 0)))) (tAsg (tCall (spP K TAdQ) [] E0 (tCons (tVar 11) (tCons (tCall (spP K TMlQ) [] E0 (tCons (tVar 4) (tCons (tTup (tCons (tOp rSubI (tCall (spS K FSto TDr) [] E0 (tCons (tVar 0) (tCons (tC (.int 9)) tNil))) (tC (.int 4))) (tCons (tC (.int 1)) tNil))) tNil))) tNil))) (gName 11)) tNext)
    (tDrop (tBM K "list" rAppend (tVar 7) (tCons (tVar 11) tNil)))))))))))
    (tRet (tVar 7))))))))))
def t_tot3 (K : PySem.W.Frag) : TS :=
  (tSeq (tIfS (tTest (tOp rEq (tCall (spS K FSto TDr) [] E0 (tCons (tVar 0) (tCons (tC (.int 4)) tNil))) (tC (.int 0)))) (tAsg (tCall (spP K TAdQ) [] E0 (tCons (tVar 11) (tCons (tCall (spP K TMlQ) [] E0 (tCons (tVar 4) (tCons (tTup (tCons (tOp rSubI (tCall (spS K FSto TDr) [] E0 (tCons (tVar 0) (tCons (tC (.int 9)) tNil))) (tC (.int 4))) (tCons (tC (.int 1)) tNil))) tNil))) tNil))) (gName 11)) tNext)
    (tDrop (tBM K "list" rAppend (tVar 7) (tCons (tVar 11) tNil))))
def t_tot2 (K : PySem.W.Frag) : TS :=
  (tSeq (tIfS (tTest (tOp rEq (tVar 2) (tC (.int 5)))) (tAsg (tTup (tCons (tOp rSubI (tC (.int 0)) (tCB rAbsX (tCons (tOp (rIxT K) (tVar 11) (tC (.int 0))) tNil))) (tCons (tOp (rIxT K) (tVar 11) (tC (.int 1))) tNil))) (gName 11)) tNext)
    (tSeq (tIfS (tTest (tOp rEq (tCall (spS K FSto TDr) [] E0 (tCons (tVar 0) (tCons (tC (.int 4)) tNil))) (tC (.int 0)))) (tAsg (tCall (spP K TAdQ) [] E0 (tCons (tVar 11) (tCons (tCall (spP K TMlQ) [] E0 (tCons (tVar 4) (tCons (tTup (tCons (tOp rSubI (tCall (spS K FSto TDr) [] E0 (tCons (tVar 0) (tCons (tC (.int 9)) tNil))) (tC (.int 4))) (tCons (tC (.int 1)) tNil))) tNil))) tNil))) (gName 11)) tNext)
    (tDrop (tBM K "list" rAppend (tVar 7) (tCons (tVar 11) tNil)))))
def t_tot1 (K : PySem.W.Frag) : TS :=
  (tSeq (tIfS (tAnd (tTest (tOp rEq (tVar 2) (tC (.int 0)))) (tTest (tOp rEq (tCall (spS K FSto TDr) [] E0 (tCons (tVar 0) (tCons (tC (.int 3)) tNil))) (tC (.int 0))))) (tAsg (tCall (spS K FSto TSmallQ) [] E0 (tCons (tVar 0) tNil)) (gName 11)) tNext)
    (tSeq (tIfS (tTest (tOp rEq (tVar 2) (tC (.int 5)))) (tAsg (tTup (tCons (tOp rSubI (tC (.int 0)) (tCB rAbsX (tCons (tOp (rIxT K) (tVar 11) (tC (.int 0))) tNil))) (tCons (tOp (rIxT K) (tVar 11) (tC (.int 1))) tNil))) (gName 11)) tNext)
    (tSeq (tIfS (tTest (tOp rEq (tCall (spS K FSto TDr) [] E0 (tCons (tVar 0) (tCons (tC (.int 4)) tNil))) (tC (.int 0)))) (tAsg (tCall (spP K TAdQ) [] E0 (tCons (tVar 11) (tCons (tCall (spP K TMlQ) [] E0 (tCons (tVar 4) (tCons (tTup (tCons (tOp rSubI (tCall (spS K FSto TDr) [] E0 (tCons (tVar 0) (tCons (tC (.int 9)) tNil))) (tC (.int 4))) (tCons (tC (.int 1)) tNil))) tNil))) tNil))) (gName 11)) tNext)
    (tDrop (tBM K "list" rAppend (tVar 7) (tCons (tVar 11) tNil))))))
section
variable {K : PySem.W.Frag} {S : Stt}
end
end DL

set_option Elab.async false
set_option linter.all false
set_option maxRecDepth 100000
set_option maxHeartbeats 4000000
/-! LS8: what is asked, a line bent -/
namespace DL
open PySem PySem.Spec PyProof.Rows L2
def TAsked : Nat → List PyData → (PyData → Nat → Prop) → Prop := fun B ds Φ => ∃ (ks : Kn) (s : Rat), ds = [lnD ks s] ∧ GoodL 60 ks s ∧ B ≤ 2 ^ 39 ∧ ∀ g b : Rat, sz g ≤ 40 → sz b ≤ 40 → 0 ≤ b → ∀ B', B' ≤ B + 10 → Φ (.tuple [qp g, qp b]) B'
def TBentL : Nat → List PyData → (PyData → Nat → Prop) → Prop := fun B ds Φ => ∃ (ks : Kn) (s : Rat), ds = [lnD ks s] ∧ GoodL 60 ks s ∧ B ≤ 2 ^ 39 ∧ ∀ (ls : Kn) (t : Rat), Lq 400 ls t → ls.length ≤ 200 → ∀ B', B' ≤ B + 10 → Φ (lnD ls t) B'
local macro_rules | `(tactic| walk_at "dl") => `(tactic| repeat' (first
  | with_reducible refine wd_isTy ?_ | with_reducible refine wd_isi ?_ | ((with_reducible show WD _ _ (tOp (rIxL _) (tVar _) _) _ _); refine wd_ix_own rfl ?_) | with_reducible refine wd_op ?_ | ((with_reducible show WD _ _ (tCB (rLenX _) (tCons (tVar _) tNil)) _ _); refine wd_len_scr rfl ?_) | ((with_reducible show WD _ _ (tCB (rLenX _) (tCons (tVar _) tNil)) _ _); refine wd_len_own rfl ?_) | with_reducible refine wd_cb ?_ | with_reducible refine wd_un ?_ | with_reducible refine wa_cons ?_ | with_reducible refine wa_nil ?_ | ((with_reducible show WD _ _ (tVar _) _ _); refine wd_var rfl ?_) | with_reducible refine wd_int ?_ | with_reducible refine wd_bl ?_ | with_reducible refine wd_str ?_ | with_reducible refine wd_non ?_
  | with_reducible refine do_nesS ?_ | with_reducible refine dc_intB ?_ | with_reducible refine do_add ?_ | with_reducible refine do_sub ?_ | ((with_reducible refine do_mod ?_ ?_); decide) | with_reducible refine do_mod ?_ ?_ | with_reducible refine do_mul ?_ ?_ | ((with_reducible refine do_div ?_ ?_); exact ⟨by decide, by decide⟩) | with_reducible refine do_div ?_ ?_ | ((with_reducible refine do_pow ?_ ?_); exact ⟨by decide, by decide, by decide⟩) | with_reducible refine do_pow ?_ ?_
  | with_reducible refine do_lt ?_ | with_reducible refine do_le ?_ | with_reducible refine do_gt ?_ | with_reducible refine do_ge ?_ | with_reducible refine du_neg ?_
  | with_reducible refine do_eqi ?_ | with_reducible refine do_nei ?_ | with_reducible refine do_eqs ?_ | with_reducible refine do_nes ?_ | with_reducible refine dc_abs ?_ | with_reducible refine dc_min ?_ | with_reducible refine dc_max ?_ | with_reducible refine dc_lenL ?_ | with_reducible refine dc_lenT ?_ | with_reducible refine dc_lenR ?_ | with_reducible refine dc_listT ?_ | with_reducible refine dc_listL ?_ | with_reducible refine dc_tupL ?_ | with_reducible refine dc_gcd ?_
  | ((with_reducible show DO _ (rIxT _) _ _ _); refine do_ixT rfl ?_) | ((with_reducible show DO _ (rIxL _) _ _ _); refine do_ixL rfl ?_) | ((with_reducible refine do_catL ?_ ?_); exact Nat.le_of_ble_eq_true rfl) | with_reducible refine do_catL ?_ ?_ | ((with_reducible show And (List.length _ ≤ sizeLine) _); refine ⟨Nat.le_of_ble_eq_true rfl, ?_⟩)
  | with_reducible refine wd_dnew ?_ | with_reducible refine wd_call0 ?_ | with_reducible refine wd_slA ?_ | with_reducible refine wd_slL ?_ | with_reducible refine wd_revT ?_ | with_reducible refine do_catA ?_ ?_ | with_reducible refine wo_part ?_ | with_reducible refine wo_none ?_ | with_reducible refine do_eqQ ?_ | with_reducible refine do_neQ ?_ | with_reducible refine wi_enumT ?_ | with_reducible refine wi_enumD ?_ | with_reducible refine tAdQ (by omega) (by omega) ?_ | with_reducible refine tSbQ (by omega) (by omega) ?_ | with_reducible refine tMlQ (by omega) (by omega) ?_ | with_reducible refine tDvQ (by assumption) (by omega) (by omega) ?_ | with_reducible refine tLtQ (by omega) (by omega) ?_ | with_reducible refine dc_str ?_ ?_ | with_reducible refine wd_tup ?_ | with_reducible refine wd_lst ?_ | with_reducible refine wt_test ?_ | with_reducible refine wt_B ?_ | with_reducible refine wt_not ?_ | with_reducible refine wt_and ?_ | with_reducible refine wt_or ?_ | with_reducible refine wd_ifE ?_ | with_reducible refine wd_andV ?_ | with_reducible refine wd_orV ?_ | with_reducible refine wd_notV ?_
  | with_reducible refine ws_seq ?_ | with_reducible refine ws_next ?_ | with_reducible refine ws_asg ?_ | with_reducible refine ws_ret ?_ | with_reducible refine ws_retN ?_ | with_reducible refine ws_if ?_ | with_reducible refine ws_par ?_ | with_reducible refine ws_unp2 ?_
  | with_reducible refine if_t ?_ | with_reducible refine if_f ?_ | with_reducible refine if_nf ?_ | with_reducible refine if_nt ?_
  | ((with_reducible show Exists _); first | refine ⟨_, kitInt _, ?_⟩ | refine ⟨_, kitBool _, ?_⟩ | refine ⟨_, kitTup _, ?_⟩ | refine ⟨_, kitList _, ?_⟩ | refine ⟨_, rfl, ?_⟩ | refine ⟨_, _, rfl, ?_⟩ | fail) | fail))
def t_asked (K : PySem.W.Frag) : TS :=
  (tSeq (tAsg (tLc (iTup K (tOp (rIxT K) (tVar 1) (tC (.int 0)))) (gName 6) tYes (tOp (rIxT K) (tVar 6) (tC (.int 1))) [6]) (gName 2))
    (tSeq (tAsg (tOp (rIxL K) (tVar 2) (tCall (spS K FPot TTake) [] E0 (tCons (tVar 0) (tCons (tCB (rLenX K) (tCons (tVar 2) tNil)) tNil)))) (gName 3))
    (tSeq (tAsg (tLst (tCons (tVar 3) (tCons (tCall (spP K TAdQ) [] E0 (tCons (tVar 3) (tCons (tTup (tCons (tC (.int 1)) (tCons (tC (.int 1)) tNil))) tNil))) (tCons (tCall (spP K TAdQ) [] E0 (tCons (tVar 3) (tCons (tTup (tCons (tOp rSubI (tCall (spS K FPot TTake) [] E0 (tCons (tVar 0) (tCons (tC (.int 41)) tNil))) (tC (.int 20))) (tCons (tC (.int 1)) tNil))) tNil))) (tCons (tTup (tCons (tOp rPowI (tC (.int 10)) (tC (.int 6))) (tCons (tC (.int 1)) tNil))) (tCons (tTup (tCons (tUn rNegI (tOp rPowI (tC (.int 10)) (tC (.int 6)))) (tCons (tC (.int 1)) tNil))) tNil)))))) (gName 4))
    (tSeq (tAsg (tOp (rIxT K) (tOp (rIxT K) (tOp (rIxT K) (tVar 1) (tC (.int 0))) (tCall (spS K FPot TTake) [] E0 (tCons (tVar 0) (tCons (tCB (rLenX K) (tCons (tVar 2) tNil)) tNil)))) (tC (.int 0))) (gName 5))
    (tSeq (tAsg (tOp (rIxL K) (tLst (tCons (tTup (tCons (tC (.int 0)) (tCons (tC (.int 1)) tNil))) (tCons (tVar 5) (tCons (tCall (spP K TAdQ) [] E0 (tCons (tVar 5) (tCons (tTup (tCons (tCall (spS K FPot TTake) [] E0 (tCons (tVar 0) (tCons (tC (.int 7)) tNil))) (tCons (tC (.int 1)) tNil))) tNil))) tNil)))) (tCall (spS K FPot TTake) [] E0 (tCons (tVar 0) (tCons (tC (.int 3)) tNil)))) (gName 5))
    (tRet (tTup (tCons (tOp (rIxL K) (tVar 4) (tCall (spS K FPot TTake) [] E0 (tCons (tVar 0) (tCons (tC (.int 5)) tNil)))) (tCons (tVar 5) tNil)))))))))
def t_bentl (K : PySem.W.Frag) : TS :=
  (tSeq (tAsg (tVar 1) (gTup K 2 (gCons (gName 2) (gCons (gName 3) gNil))))
    (tSeq (tIfS (tTest (tOp rEq (tCall (spS K FPot TTake) [] E0 (tCons (tVar 0) (tCons (tC (.int 2)) tNil))) (tC (.int 0)))) (tSeq (tAsg (tCall (spP K TAdQ) [] E0 (tCons (tVar 3) (tCons (tTup (tCons (tC (.int 1)) (tCons (tC (.int 97)) tNil))) tNil))) (gName 4))
    (tSeq (tIfS (tAnd (tTest (tOp rGt (tCB (rLenX K) (tCons (tVar 2) tNil)) (tC (.int 1)))) (tTest (tOp (rEqD K) (tCall (spP K TSlope) [] E0 (tCons (tVar 1) (tCons (tOp rSubI (tCB (rLenX K) (tCons (tVar 2) tNil)) (tC (.int 2))) tNil))) (tVar 4)))) (tAsg (tCall (spP K TAdQ) [] E0 (tCons (tVar 4) (tCons (tTup (tCons (tC (.int 1)) (tCons (tC (.int 1)) tNil))) tNil))) (gName 4)) tNext)
    (tRet (tTup (tCons (tVar 2) (tCons (tVar 4) tNil)))))) tNext)
    (tSeq (tAsg (tCall (spS K FPot TTake) [] E0 (tCons (tVar 0) (tCons (tCB (rLenX K) (tCons (tVar 2) tNil)) tNil))) (gName 5))
    (tSeq (tAsg (tTup (tCons (tTup (tCons (tOp (rIxT K) (tOp (rIxT K) (tVar 2) (tVar 5)) (tC (.int 0))) (tCons (tTup (tCons (tC (.int 1)) (tCons (tC (.int 7)) tNil))) tNil))) (tCons (tTup (tCons (tCall (spP K TAdQ) [] E0 (tCons (tOp (rIxT K) (tOp (rIxT K) (tVar 2) (tVar 5)) (tC (.int 0))) (tCons (tTup (tCons (tC (.int 1)) (tCons (tC (.int 1)) tNil))) tNil))) (tCons (tTup (tCons (tC (.int 0)) (tCons (tC (.int 1)) tNil))) tNil))) tNil))) (gName 6))
    (tSeq (tIfS (tTest (tOp (rEqD K) (tOp (rIxT K) (tOp (rIxT K) (tVar 2) (tVar 5)) (tC (.int 0))) (tTup (tCons (tC (.int 0)) (tCons (tC (.int 1)) tNil))))) (tRet (tCall (spP K TSumL) [] E0 (tCons (tVar 1) (tCons (tTup (tCons (tVar 6) (tCons (tTup (tCons (tC (.int 0)) (tCons (tC (.int 1)) tNil))) tNil))) tNil)))) tNext)
    (tRet (tCall (spP K TSumL) [] E0 (tCons (tVar 1) (tCons (tTup (tCons (tOp (rCatA K) (tTup (tCons (tTup (tCons (tTup (tCons (tC (.int 0)) (tCons (tC (.int 1)) tNil))) (tCons (tTup (tCons (tC (.int 0)) (tCons (tC (.int 1)) tNil))) tNil))) tNil)) (tVar 6)) (tCons (tTup (tCons (tC (.int 0)) (tCons (tC (.int 1)) tNil))) tNil))) tNil)))))))))
section
variable {K : PySem.W.Frag} {S : Stt}
theorem do_ixL_q {Ψ : PyData → Prop} {ds : List PyData} {qs : List Rat} {z : Int} {P : Rat → Prop} (e : ds = qs.map qp) (h0 : 0 ≤ z) (h1 : z < qs.length) (hp : ∀ n ∈ qs, P n) (h : ∀ n, P n → Ψ (qp n)) : DO K (rIxL K) (.list ds) (.int z) Ψ := by
  subst e
  refine do_ixL_any h0 (by rw [List.length_map]; exact h1) fun d hd => ?_
  obtain ⟨n, hn, rfl⟩ := List.mem_map.mp hd
  exact h n (hp n hn)
end
end DL

set_option Elab.async false
set_option linter.all false
set_option maxRecDepth 100000
set_option maxHeartbeats 1000000
/-! LM13: the heights of a sum of lines; what bands leave -/
namespace DL
theorem srt_le {xs : List Rat} (h : Srt xs) {i j : Nat} (hi : i < xs.length) (hj : j < xs.length) (hij : i ≤ j) : xs[i] ≤ xs[j] := by
  by_cases e : i = j
  · subst e; exact Rat.le_refl
  · exact Rat.le_of_lt ((List.pairwise_iff_getElem.mp h) i j hi hj (by omega))
/-- between neighbours of a row that holds all its knots, a line is straight -/
theorem seg_row {ks : Kn} {s : Rat} {xs : List Rat} {j : Nat} (ri : Rising ks) (p : 0 < ks.length) (h0 : (kn ks 0).1 = 0) (sr : Srt xs) (hm : ∀ i, i < ks.length → (kn ks i).1 ∈ xs) (hj : j < xs.length) (x0 : 0 ≤ xs[j]) :
    ∃ m : Rat, (¬ j + 1 < xs.length → m = s) ∧ ∀ z, xs[j] ≤ z → (∀ h : j + 1 < xs.length, z ≤ xs[j + 1]) → yAt ks s z = yAt ks s xs[j] + m * (z - xs[j]) := by
  have hi := lastIx_at ri p (by rw [h0]; exact x0)
  generalize lastIx ks xs[j] ks.length = i at hi
  have nxt : i + 1 < ks.length → ∃ h : j + 1 < xs.length, xs[j + 1] ≤ (kn ks (i + 1)).1 := fun q => by
    have lt := hi.nx q
    obtain ⟨k, hk, e⟩ := List.getElem_of_mem (hm (i + 1) q)
    rw [← e] at lt ⊢
    have jk : j < k := by
      by_cases c : j < k
      · exact c
      · have := srt_le sr hk hj (by omega); grind
    exact ⟨by omega, srt_le sr (by omega) hk (by omega)⟩
  refine ⟨slp ks s i, fun q => ?_, fun z z1 z2 => seg_val ri hi z1 fun q => ?_⟩
  · unfold slp
    rw [if_neg]
    intro c
    obtain ⟨h, _⟩ := nxt c
    exact q h
  · obtain ⟨h, e⟩ := nxt q
    have := z2 h
    grind
theorem sum_ln {B C : Nat} {ks ls : Kn} {s t : Rat} {xs : List Rat} (L1 : Ln B ks s) (L2 : Ln C ls t) (mg : IsMg (xsK ks) (xsK ls) xs) :
    Rising (sumK ks ls s t xs) ∧ 0 < xs.length ∧ (kn (sumK ks ls s t xs) 0).1 = 0 ∧ ∀ x, 0 ≤ x → yAt (sumK ks ls s t xs) (s + t) x = yAt ks s x + yAt ls t x := by
  obtain ⟨hp, h0⟩ := mg_first L1 L2 mg
  have ris : Rising (sumK ks ls s t xs) := fun i hi => by
    rw [sumK_len] at hi
    rw [sumK_kn hi, sumK_kn (by omega)]
    exact (List.pairwise_iff_getElem.mp mg.srt) i (i + 1) (by omega) hi (by omega)
  have k0 : (kn (sumK ks ls s t xs) 0).1 = 0 := by rw [sumK_kn hp]; exact h0
  refine ⟨ris, hp, k0, fun x hx => ?_⟩
  have hj := lastIx_at ris (by rw [sumK_len]; exact hp) (by rw [k0]; exact hx)
  generalize lastIx (sumK ks ls s t xs) x (sumK ks ls s t xs).length = j at hj
  have jl : j < xs.length := by have := hj.lt; rwa [sumK_len] at this
  have x0 : 0 ≤ xs[j] := by
    have := srt_le mg.srt hp jl (Nat.zero_le _)
    rwa [h0] at this
  have le : xs[j] ≤ x := by have := hj.le; rwa [sumK_kn jl] at this
  have nx : ∀ h : j + 1 < xs.length, x ≤ xs[j + 1] := fun h => by
    have := hj.nx (by rw [sumK_len]; exact h)
    rw [sumK_kn h] at this
    exact Rat.le_of_lt this
  obtain ⟨m1, e1, f1⟩ := seg_row (s := s) L1.ris L1.pos L1.fst mg.srt (fun i hi => (mg.mem _).mpr (.inl (List.mem_map.mpr ⟨kn ks i, kn_in hi, rfl⟩))) jl x0
  obtain ⟨m2, e2, f2⟩ := seg_row (s := t) L2.ris L2.pos L2.fst mg.srt (fun i hi => (mg.mem _).mpr (.inr (List.mem_map.mpr ⟨kn ls i, kn_in hi, rfl⟩))) jl x0
  rw [yAt_of ris hj, f1 x le nx, f2 x le nx]
  unfold yOf
  rw [sumK_kn jl]
  have es : slp (sumK ks ls s t xs) (s + t) j = m1 + m2 := by
    unfold slp
    rw [sumK_len]
    by_cases q : j + 1 < xs.length
    · rw [if_pos q, sumK_kn q, sumK_kn jl]
      have lt := (List.pairwise_iff_getElem.mp mg.srt) j (j + 1) jl q (by omega)
      have g1 := f1 xs[j + 1] (Rat.le_of_lt lt) (fun _ => Rat.le_refl)
      have g2 := f2 xs[j + 1] (Rat.le_of_lt lt) (fun _ => Rat.le_refl)
      show (yAt ks s xs[j + 1] + yAt ls t xs[j + 1] - (yAt ks s xs[j] + yAt ls t xs[j])) / (xs[j + 1] - xs[j]) = _
      rw [g1, g2]
      have ne : xs[j + 1] - xs[j] ≠ 0 := by grind
      grind
    · rw [if_neg q, e1 q, e2 q]
  rw [es]
  show yAt ks s xs[j] + yAt ls t xs[j] + (m1 + m2) * (x - xs[j]) = _
  grind
theorem yAt_id {x : Rat} (hx : 0 ≤ x) : yAt [(0, 0)] 1 x = x := by
  rw [yAt_of (fun i h => absurd h (by simp)) (⟨by simp, hx, fun h => absurd h (by simp)⟩ : AtK [(0, 0)] x 0)]
  unfold yOf slp
  rw [if_neg (by simp)]
  show (0 : Rat) + 1 * (x - 0) = x
  grind
theorem ln_id : Ln 2 [(0, 0)] 1 := by
  refine ⟨⟨fun i hi => ?_, fun i hi => ?_, by rw [sz_one]; decide⟩, by simp, rfl, fun i h => absurd h (by simp)⟩
  all_goals
    have : i = 0 := by simp at hi; omega
    subst this
    show sz 0 ≤ 2
    rw [sz_zero]; decide
theorem sz_neg1 : sz (-1) ≤ 2 := by decide +kernel
/-- the line of what is left, from the line of what is taken -/
theorem leftP {bs : Kn} {ks : Kn} {xs : List Rat} {B : Nat} (b : Bd B bs) (hB : B ≤ 28) (h : Ln B ks (lr bs)) (hl : ks.length ≤ 100) (hy : ∀ x, 0 ≤ x → yAt ks (lr bs) x = tax bs x) (hs : sz (lr bs) ≤ B)
    (mg : IsMg (xsK [(0, 0)]) (xsK (bI (timK ks (-1)) (lr bs * -1) ks.length)) xs) :
    LnP bs true (bI (sumK [(0, 0)] (bI (timK ks (-1)) (lr bs * -1) ks.length) 1 (lr bs * -1) xs) (1 + lr bs * -1) (sumK [(0, 0)] (bI (timK ks (-1)) (lr bs * -1) ks.length) 1 (lr bs * -1) xs).length) := by
  have e : bI (timK ks (-1)) (lr bs * -1) ks.length = bR (timK ks (-1)) (lr bs * -1) := by
    have := bI_bR (ks := timK ks (-1)) (s := lr bs * -1)
    rwa [timK_len] at this
  obtain ⟨a1, a2, a3, a4⟩ := bR_ln (timK_ln h sz_neg1)
  rw [timK_len] at a3
  rw [e] at mg ⊢
  generalize bR (timK ks (-1)) (lr bs * -1) = ls at a1 a2 a3 a4 mg ⊢
  have yl : ∀ x, 0 ≤ x → yAt ls (lr bs * -1) x = - tax bs x := fun x hx => by
    rw [a4 x hx, timK_y h.ris h.pos h.fst hx, hy x hx]; grind
  obtain ⟨ris, hp, k0, hsum⟩ := sum_ln ln_id a1 mg
  have xl : xs.length ≤ 1 + ls.length := by
    have := mg.len
    unfold xsK at this
    rw [List.length_map, List.length_map] at this
    exact this
  have kx : ∀ x ∈ xs, 0 ≤ x ∧ sz x ≤ B + 2 ∧ sz (yAt ls (lr bs * -1) x) ≤ B + 2 := fun x hx => by
    rcases (mg.mem x).mp hx with q | q
    · have e0 : x = 0 := by unfold xsK at q; simpa using q
      subst e0
      refine ⟨Rat.le_refl, ?_, ?_⟩
      · rw [sz_zero]; omega
      · rw [yl 0 Rat.le_refl, tax_zero b]
        have : -(0 : Rat) = 0 := by grind
        rw [this, sz_zero]; omega
    · unfold xsK at q
      obtain ⟨p, hp, rfl⟩ := List.mem_map.mp q
      obtain ⟨i, hi, rfl⟩ := kn_mem hp
      have x0 : 0 ≤ (kn ls i).1 := by
        have := ris_le a1.ris (i := 0) (j := i) (Nat.zero_le _) hi
        rwa [a1.fst] at this
      have yv : yAt ls (lr bs * -1) (kn ls i).1 = (kn ls i).2 := by
        rw [yAt_of a1.ris (atK_kn a1.ris hi)]
        unfold yOf
        grind
      exact ⟨x0, a1.b.x i hi, by rw [yv]; exact a1.b.y i hi⟩
  have es : 1 + lr bs * -1 = 1 - lr bs := by grind
  have ln : Ln 60 (sumK [(0, 0)] ls 1 (lr bs * -1) xs) (1 + lr bs * -1) := by
    refine ⟨⟨fun i hi => ?_, fun i hi => ?_, ?_⟩, by rw [sumK_len]; exact hp, k0, ris⟩
    · rw [sumK_len] at hi
      rw [sumK_kn hi]
      have := (kx _ (List.getElem_mem hi)).2.1
      show sz xs[i] ≤ _; omega
    · rw [sumK_len] at hi
      rw [sumK_kn hi]
      obtain ⟨x0, x1, x2⟩ := kx _ (List.getElem_mem hi)
      have := sz_add (yAt [(0, 0)] 1 xs[i]) (yAt ls (lr bs * -1) xs[i])
      show sz (yAt [(0, 0)] 1 xs[i] + yAt ls (lr bs * -1) xs[i]) ≤ _
      rw [yAt_id x0] at this ⊢
      omega
    · have h1 := a1.b.s
      have h2 := sz_add 1 (lr bs * -1)
      have h3 : sz (1 : Rat) ≤ 2 := by rw [sz_one]; decide
      omega
  obtain ⟨b1, b2, b3, b4⟩ := bR_ln ln
  rw [es] at hsum b1 b2 b3 b4
  rw [bI_bR, es]
  rw [sumK_len] at b3
  exact ⟨b1, b2, by omega, fun x hx => by
    show yAt _ (1 - lr bs) x = _
    rw [b4 x hx, hsum x hx, yAt_id hx, yl x hx]
    show _ = x - tax bs x
    grind⟩
end DL

set_option Elab.async false
set_option linter.all false
set_option maxRecDepth 100000
set_option maxHeartbeats 4000000
/-! BQ1: bands: the program's own reckoning of their lines -/
namespace DL
open PySem PySem.Spec PyProof.Rows L2
def TBandQ : List PyData → (PyData → Prop) → Prop := fun ds Φ => ∃ p : Rat × Rat, ds = [kD p] ∧ 0 ≤ p.1 ∧ 0 ≤ p.2 ∧ p.2 ≤ 1 ∧ sz p.2 ≤ 3700 ∧ Φ (.bool true)
def TBandsQ : List PyData → (PyData → Prop) → Prop := fun ds Φ => ∃ bs : Kn, ds = [knD bs] ∧ Bd 48 bs ∧ Φ (.bool true)
def TTakenL : List PyData → (PyData → Prop) → Prop := fun ds Φ => ∃ bs : Kn, ds = [knD bs] ∧ Bd 48 bs ∧ Φ (lnD (bI (tkK bs bs.length) (lr bs) bs.length) (lr bs))
def TTimesL : List PyData → (PyData → Prop) → Prop := fun ds Φ => ∃ (ks : Kn) (s c : Rat) (B C : Nat), ds = [lnD ks s, qp c] ∧ Lq B ks s ∧ sz c ≤ C ∧ 2 * (B + C) ≤ 3800 ∧ Φ (lnD (bI (timK ks c) (s * c) ks.length) (s * c))
def TLeftL : List PyData → (PyData → Prop) → Prop := fun ds Φ => ∃ bs : Kn, ds = [knD bs] ∧ Bd 28 bs ∧ ∀ ks, LnP bs true ks → Φ (lnD ks (1 - lr bs))
def TLeast (kept : Bool) : List PyData → (PyData → Prop) → Prop := fun ds Φ => ∃ (bs : Kn) (g : Rat), ds = [knD bs, qp g] ∧ Bd 28 bs ∧ sz g ≤ 22 ∧ ∀ o, LeastP bs kept g o → (∀ r, o = some r → sz r ≤ 1400) → Φ (oqD o)
abbrev TLeastL := TLeast true
abbrev TLeastT := TLeast false
local macro_rules | `(tactic| walk_at "dl") => `(tactic| repeat' (first
  | with_reducible refine wd_isTy ?_ | with_reducible refine wd_isi ?_ | ((with_reducible show WD _ _ (tOp (rIxL _) (tVar _) _) _ _); refine wd_ix_own rfl ?_) | with_reducible refine wd_op ?_ | ((with_reducible show WD _ _ (tCB (rLenX _) (tCons (tVar _) tNil)) _ _); refine wd_len_scr rfl ?_) | ((with_reducible show WD _ _ (tCB (rLenX _) (tCons (tVar _) tNil)) _ _); refine wd_len_own rfl ?_) | with_reducible refine wd_cb ?_ | with_reducible refine wd_un ?_ | with_reducible refine wa_cons ?_ | with_reducible refine wa_nil ?_ | ((with_reducible show WD _ _ (tVar _) _ _); refine wd_var rfl ?_) | with_reducible refine wd_int ?_ | with_reducible refine wd_bl ?_ | with_reducible refine wd_str ?_ | with_reducible refine wd_non ?_
  | with_reducible refine do_nesS ?_ | with_reducible refine dc_intB ?_ | with_reducible refine do_add ?_ | with_reducible refine do_sub ?_ | ((with_reducible refine do_mod ?_ ?_); decide) | with_reducible refine do_mod ?_ ?_ | with_reducible refine do_mul ?_ ?_ | ((with_reducible refine do_div ?_ ?_); exact ⟨by decide, by decide⟩) | with_reducible refine do_div ?_ ?_ | ((with_reducible refine do_pow ?_ ?_); exact ⟨by decide, by decide, by decide⟩) | with_reducible refine do_pow ?_ ?_
  | with_reducible refine do_lt ?_ | with_reducible refine do_le ?_ | with_reducible refine do_gt ?_ | with_reducible refine do_ge ?_ | with_reducible refine du_neg ?_
  | with_reducible refine do_eqi ?_ | with_reducible refine do_nei ?_ | with_reducible refine do_eqs ?_ | with_reducible refine do_nes ?_ | with_reducible refine dc_abs ?_ | with_reducible refine dc_min ?_ | with_reducible refine dc_max ?_ | with_reducible refine dc_lenL ?_ | with_reducible refine dc_lenT ?_ | with_reducible refine dc_lenR ?_ | with_reducible refine dc_listT ?_ | with_reducible refine dc_listL ?_ | with_reducible refine dc_tupL ?_ | with_reducible refine dc_gcd ?_
  | ((with_reducible show DO _ (rIxT _) _ _ _); refine do_ixT rfl ?_) | ((with_reducible show DO _ (rIxL _) _ _ _); refine do_ixL rfl ?_) | ((with_reducible refine do_catL ?_ ?_); exact Nat.le_of_ble_eq_true rfl) | with_reducible refine do_catL ?_ ?_ | ((with_reducible show And (List.length _ ≤ sizeLine) _); refine ⟨Nat.le_of_ble_eq_true rfl, ?_⟩)
  | with_reducible refine wd_dnew ?_ | with_reducible refine wd_call0 ?_ | with_reducible refine wd_slA ?_ | with_reducible refine wd_slL ?_ | with_reducible refine wd_revT ?_ | with_reducible refine do_catA ?_ ?_ | with_reducible refine wo_part ?_ | with_reducible refine wo_none ?_ | with_reducible refine do_eqQ ?_ | with_reducible refine do_neQ ?_ | with_reducible refine wi_enumT ?_ | with_reducible refine wi_enumD ?_ | with_reducible refine tAdQ (by omega) (by omega) ?_ | with_reducible refine tSbQ (by omega) (by omega) ?_ | with_reducible refine tMlQ (by omega) (by omega) ?_ | with_reducible refine tDvQ (by assumption) (by omega) (by omega) ?_ | with_reducible refine tLtQ (by omega) (by omega) ?_ | with_reducible refine dc_str ?_ ?_ | with_reducible refine wd_tup ?_ | with_reducible refine wd_lst ?_ | with_reducible refine wt_test ?_ | with_reducible refine wt_B ?_ | with_reducible refine wt_not ?_ | with_reducible refine wt_and ?_ | with_reducible refine wt_or ?_ | with_reducible refine wd_ifE ?_ | with_reducible refine wd_andV ?_ | with_reducible refine wd_orV ?_ | with_reducible refine wd_notV ?_
  | with_reducible refine ws_seq ?_ | with_reducible refine ws_next ?_ | with_reducible refine ws_asg ?_ | with_reducible refine ws_ret ?_ | with_reducible refine ws_retN ?_ | with_reducible refine ws_if ?_ | with_reducible refine ws_par ?_ | with_reducible refine ws_unp2 ?_
  | with_reducible refine if_t ?_ | with_reducible refine if_f ?_ | with_reducible refine if_nf ?_ | with_reducible refine if_nt ?_
  | ((with_reducible show Exists _); first | refine ⟨_, kitInt _, ?_⟩ | refine ⟨_, kitBool _, ?_⟩ | refine ⟨_, kitTup _, ?_⟩ | refine ⟨_, kitList _, ?_⟩ | refine ⟨_, rfl, ?_⟩ | refine ⟨_, _, rfl, ?_⟩ | fail) | fail))
def t_isband (K : PySem.W.Frag) (a_ONE : Addr) : TS :=
  (tSeq (tIfS (tNot (tAnd (tTest (tOp rIsTyX (tCB (rTyp K) (tCons (tVar 0) tNil)) (tC (.ty "tuple")))) (tAnd (tTest (tOp rEq (tCB (rLenX K) (tCons (tVar 0) tNil)) (tC (.int 2)))) (tB (tCall (spP K TAmountB) [] E0 (tCons (tOp (rIxT K) (tVar 0) (tC (.int 0))) tNil)))))) (tRet (tC (.bl false))) tNext)
    (tRet (tAndV (tCall (spP K TAmountB) [] E0 (tCons (tOp (rIxT K) (tVar 0) (tC (.int 1))) tNil)) (tNotV (tCall (spP K TLtQ) [] E0 (tCons (tC (.ref a_ONE)) (tCons (tOp (rIxT K) (tVar 0) (tC (.int 1))) tNil)))))))
def t_isbands (K : PySem.W.Frag) (a_NOUGHT : Addr) : TS :=
  (tSeq (tIfS (tNot (tAnd (tTest (tOp rIsTyX (tCB (rTyp K) (tCons (tVar 0) tNil)) (tC (.ty "tuple")))) (tAnd (tTest (tOp rGe (tCB (rLenX K) (tCons (tVar 0) tNil)) (tC (.int 1)))) (tB (tCB (rAll K) (tCons (tLc (iTup K (tVar 0)) (gName 3) tYes (tCall (spP K TBandQ) [] E0 (tCons (tVar 3) tNil)) [3]) tNil)))))) (tRet (tC (.bl false))) tNext)
    (tSeq (tAsg (tLc (iRng1 (tCons (tOp rSubI (tCB (rLenX K) (tCons (tVar 0) tNil)) (tC (.int 1))) tNil)) (gName 2) tYes (tCall (spP K TLtQ) [] E0 (tCons (tOp (rIxT K) (tOp (rIxT K) (tVar 0) (tVar 2)) (tC (.int 0))) (tCons (tOp (rIxT K) (tOp (rIxT K) (tVar 0) (tOp rAddI (tVar 2) (tC (.int 1)))) (tC (.int 0))) tNil))) [2]) (gName 1))
    (tRet (tAndV (tOp (rEqD K) (tOp (rIxT K) (tOp (rIxT K) (tVar 0) (tC (.int 0))) (tC (.int 0))) (tC (.ref a_NOUGHT))) (tCB (rAll K) (tCons (tVar 1) tNil))))))
def t_takenline (K : PySem.W.Frag) (a_NOUGHT : Addr) : TS :=
  (tSeq (tIfS (tNot (tB (tCall (spP K TBandsQ) [] E0 (tCons (tVar 0) tNil)))) tNo tNext)
    (tSeq (tAsg (tOp (rIxT K) (tVar 0) (tC (.int 0))) (gTup K 2 (gCons (gName 1) (gCons (gName 2) gNil))))
    (tSeq (tAsg (tC (.ref a_NOUGHT)) (gName 3))
    (tSeq (tAsg (tLst (tCons (tTup (tCons (tVar 1) (tCons (tVar 3) tNil))) tNil)) (gName 4))
    (tSeq (tFor (iTup K (tSl (rSlA K) (tVar 0) (tPart (tC (.int 1))) tNoPart)) (gTup K 2 (gCons (gName 5) (gCons (gName 6) gNil))) (tSeq (tAsg (tCall (spP K TAdQ) [] E0 (tCons (tVar 3) (tCons (tCall (spP K TMlQ) [] E0 (tCons (tVar 2) (tCons (tCall (spP K TSbQ) [] E0 (tCons (tVar 5) (tCons (tVar 1) tNil))) tNil))) tNil))) (gName 3))
    (tSeq (tDrop (tBM K "list" rAppend (tVar 4) (tCons (tTup (tCons (tVar 5) (tCons (tVar 3) tNil))) tNil)))
    (tPar 1 2 (tCons (tVar 5) (tCons (tVar 6) tNil))))))
    (tRet (tCall (spP K TLineOf) [] E0 (tCons (tVar 4) (tCons (tVar 2) tNil)))))))))
def t_timesline (K : PySem.W.Frag) : TS :=
  (tSeq (tAsg (tVar 0) (gTup K 2 (gCons (gName 2) (gCons (gName 3) gNil))))
    (tRet (tCall (spP K TLineOf) [] E0 (tCons (tLc (iTup K (tVar 2)) (gTup K 2 (gCons (gName 4) (gCons (gName 5) gNil))) tYes (tTup (tCons (tVar 4) (tCons (tCall (spP K TMlQ) [] E0 (tCons (tVar 5) (tCons (tVar 1) tNil))) tNil))) [4, 5]) (tCons (tCall (spP K TMlQ) [] E0 (tCons (tVar 3) (tCons (tVar 1) tNil))) tNil)))))
def t_leftline (K : PySem.W.Frag) (a__ALL_LEFT : Addr) : TS :=
  (tRet (tCall (spP K TSumL) [] E0 (tCons (tC (.ref a__ALL_LEFT)) (tCons (tCall (spP K TTimesL) [] E0 (tCons (tCall (spP K TTakenL) [] E0 (tCons (tVar 0) tNil)) (tCons (tTup (tCons (tUn rNegI (tC (.int 1))) (tCons (tC (.int 1)) tNil))) tNil))) tNil))))
def t_leastl (K : PySem.W.Frag) (aN : Addr) : TS :=
  (tRet (tCall (spP K TFirst) [.ref aN] E0 (tCons (tCall (spP K TLeftL) [] E0 (tCons (tVar 0) tNil)) (tCons (tVar 1) tNil))))
def t_leastt (K : PySem.W.Frag) (aN : Addr) : TS :=
  (tRet (tCall (spP K TFirst) [.ref aN] E0 (tCons (tCall (spP K TTakenL) [] E0 (tCons (tVar 0) tNil)) (tCons (tVar 1) tNil))))
theorem Bd.mono {B C : Nat} {bs : Kn} (b : Bd B bs) (h : B ≤ C) : Bd C bs := ⟨b.pos, b.len, b.fst, b.ris, b.r0, b.r1, fun i hi => Nat.le_trans (b.bx i hi) h, fun i hi => Nat.le_trans (b.br i hi) h, fun i hi => Nat.le_trans (b.by' i hi) h⟩
theorem isAmt_qp {q : Rat} (h : 0 ≤ q) : isAmtD (qp q) = true := by
  have h1 := isPartD_qp q
  obtain ⟨a, b, e, f⟩ := isAmt_and _ h1
  rw [f]
  have : a = q.num := by unfold qp at e; injection e with e; injection e with e1 e2; injection e1 with e1; exact e1.symm
  rw [this]
  exact decide_eq_true (Rat.num_nonneg.mpr h)
section
variable {K : PySem.W.Frag} {ds : List PyData} {Φ : PyData → Prop}
theorem cNo {aN : Addr} (hN : ∀ H : Hp, SqT K H aN [.int 0, .int 1]) : ∀ H : Hp, Dt K H (.ref aN) (qp 0) := fun H => .tup (hN H) (.cons (.int 0) (.cons (.int 1) .nil))
theorem cOn {aO : Addr} (hO : ∀ H : Hp, SqT K H aO [.int 1, .int 1]) : ∀ H : Hp, Dt K H (.ref aO) (qp 1) := fun H => .tup (hO H) (.cons (.int 1) (.cons (.int 1) .nil))
theorem ws_isband {aO : Addr} (hO : ∀ H : Hp, SqT K H aO [.int 1, .int 1]) (h : TBandQ ds Φ) : WS K S0 (t_isband K aO) (rhoOf 1 ds) { nx := fun _ => Φ .none, rt := fun d _ => Φ d } := by
  obtain ⟨p, rfl, h0, r0, r1, rs, hΦ⟩ := h
  show WS K S0 (t_isband K aO) [.dat (.tuple [qp p.1, qp p.2])] _
  unfold t_isband
  have s1 : sz (1 : Rat) ≤ 2 := by rw [sz_one]; decide
  have a1 := isAmt_qp h0
  have a2 := isAmt_qp r0
  walk_at "dl"
  refine if_t ?_
  walk_at "dl"
  refine if_t ?_
  walk_at "dl"
  refine ⟨_, rfl, _, rfl, ?_⟩
  rw [a1]
  walk_at "dl"
  refine ⟨_, rfl, _, rfl, ?_⟩
  rw [a2]
  refine if_t ?_
  walk_at "dl"
  refine wd_const (cOn hO) ?_
  walk_at "dl"
  rw [decide_eq_false (show ¬ (1 : Rat) < p.2 by grind)]
  exact hΦ
theorem ws_isbands {aN : Addr} (hN : ∀ H : Hp, SqT K H aN [.int 0, .int 1]) (h : TBandsQ ds Φ) : WS K S0 (t_isbands K aN) (rhoOf 4 ds) { nx := fun _ => Φ .none, rt := fun d _ => Φ d } := by
  obtain ⟨bs, rfl, b, hΦ⟩ := h
  show WS K S0 (t_isbands K aN) [.dat (knD bs), .unk, .unk, .unk] _
  unfold t_isbands
  have hl := b.len
  have hp := b.pos
  walk_at "dl"
  refine if_t ?_
  walk_at "dl"
  rw [List.length_map]
  refine if_b (fun _ => ?_) (fun z => absurd (show (1 : Int) ≤ bs.length by omega) z)
  refine wt_B (wd_cb (wa_cons (wd_lc (wi_tup ?_))))
  walk_at "dl"
  refine ⟨by rw [List.length_map, sizeLine_eq]; omega, fun j acc ρ => acc = (List.replicate j true).map PyData.bool ∧ ρ = [.dat (knD bs), .unk, .unk, .unk], ⟨rfl, rfl⟩, ?_, ?_⟩
  · rintro j d acc ρ2 hd ⟨rfl, rfl⟩
    have hj : j < bs.length := by have := (List.getElem?_eq_some_iff.mp hd).1; rwa [List.length_map] at this
    rw [kD_get hj] at hd; cases hd
    refine ⟨_, _, gd_name, fun j hj => hj, ?_⟩
    refine wt_yes ?_
    walk_at "dl"
    have x0 : 0 ≤ (kn bs j).1 := by
      have := ris_le b.ris (i := 0) (j := j) (Nat.zero_le _) hj
      rwa [b.fst] at this
    refine ⟨kn bs j, rfl, x0, b.r0 j hj, b.r1 j hj, by have := b.br j hj; omega, ?_⟩
    refine ⟨?_, rfl⟩
    rw [List.replicate_succ', List.map_append]; rfl
  · rintro acc ρ2 ⟨rfl, rfl⟩
    refine wa_nil (dc_all ?_)
    rw [List.length_map, show (List.replicate bs.length true).all id = true by simp]
    refine ⟨_, rfl, ?_⟩
    walk_at "dl"
    refine wd_lc (wi_rng1 ?_)
    walk_at "dl"
    rw [List.length_map]
    refine ⟨by omega, by omega, by rw [List.length_map, List.length_range, sizeLine_eq]; omega, fun k acc ρ => acc = (List.replicate k true).map PyData.bool ∧ ρ = [.dat (knD bs), .unk, .unk, .unk], ⟨rfl, rfl⟩, ?_, ?_⟩
    · rintro k d acc ρ2 hd ⟨rfl, rfl⟩
      have hk : k + 1 < bs.length := by
        have := (List.getElem?_eq_some_iff.mp hd).1
        rw [List.length_map, List.length_range] at this; omega
      rw [List.getElem?_map, List.getElem?_range (by omega)] at hd
      cases hd
      have x1 := b.bx k (by omega); have x2 := b.bx (k + 1) hk
      refine ⟨_, _, gd_name, fun j hj => hj, ?_⟩
      refine wt_yes ?_
      walk_at "dl"
      refine do_ixTn (k := k) (by omega) (kD_get (by omega)) ?_
      walk_at "dl"
      refine do_ixTn (k := k + 1) (by omega) (kD_get hk) ?_
      walk_at "dl"
      rw [decide_eq_true (b.ris k hk)]
      refine ⟨?_, rfl⟩
      rw [List.replicate_succ', List.map_append]; rfl
    · rintro acc ρ2 ⟨rfl, rfl⟩
      rw [List.length_map, List.length_range]
      walk_at "dl"
      refine do_ixTn (k := 0) rfl (kD_get hp) ?_
      walk_at "dl"
      refine wd_const (cNo hN) ?_
      rw [b.fst]
      walk_at "dl"
      refine if_t ?_
      walk_at "dl"
      refine dc_all ?_
      rw [show (List.replicate ((bs.length : Int) - 1).toNat true).all id = true by simp]
      exact hΦ
theorem ws_takenline {aN : Addr} (hN : ∀ H : Hp, SqT K H aN [.int 0, .int 1]) (h : TTakenL ds Φ) : WS K S0 (t_takenline K aN) (rhoOf 7 ds) { nx := fun _ => Φ .none, rt := fun d _ => Φ d } := by
  obtain ⟨bs, rfl, b, hΦ⟩ := h
  show WS K S0 (t_takenline K aN) [.dat (knD bs), .unk, .unk, .unk, .unk, .unk, .unk] _
  unfold t_takenline
  have hl := b.len
  have hp := b.pos
  refine ws_seq (ws_if (wt_not (wt_B (wd_call0 (wa_cons (wd_var rfl (wa_nil ⟨bs, rfl, b, _, rfl, ?_⟩)))))))
  refine if_nt (ws_next ?_)
  refine ws_seq (ws_unp2 (wd_op (wd_var rfl (wd_int (do_ixTn (k := 0) rfl (kD_get hp) ?_)))))
  refine ⟨_, _, rfl, ?_⟩
  refine ws_seq (ws_asg (wd_const (cNo hN) ?_))
  refine ws_seq (ws_own ?_)
  walk_at "dl"
  refine ws_seq (ws_for (wi_tup (wd_slA ?_)))
  walk_at "dl"
  rw [show cutD (bs.map kD) (some 1) none = (bs.map kD).drop 1 from cutD_drop (n := 1) rfl]
  refine ⟨fun j ρ => ∃ (s5 s6 : Sl), ρ = [.dat (knD bs), .dat (qp (kn bs j).1), .dat (qp (kn bs j).2), .dat (qp (tkn bs j)), .own ((tkK bs (j + 1)).map kD), s5, s6], ⟨_, _, by rw [b.fst]; show _ = ([Sl.dat (knD bs), .dat (qp 0), .dat (qp (kn bs 0).2), .dat (qp 0), .own [kD ((kn bs 0).1, tkn bs 0)], _, _] : Rho); rw [b.fst]; rfl⟩, ?_, ?_⟩
  · rintro j d ρ2 hd ⟨s5, s6, rfl⟩
    have hj : j + 1 < bs.length := by
      have := (List.getElem?_eq_some_iff.mp hd).1
      rw [List.length_drop, List.length_map] at this; omega
    rw [List.getElem?_drop, show 1 + j = j + 1 by omega, kD_get hj] at hd
    cases hd
    rw [kD_eta]
    refine ⟨_, _, gd_pair, ?_⟩
    have x1 := b.bx j (by omega); have x2 := b.bx (j + 1) hj; have y1 := b.by' j (by omega); have r1 := b.br j (by omega)
    have z1 := sz_sub (kn bs (j + 1)).1 (kn bs j).1
    have z2 := sz_mul (kn bs j).2 ((kn bs (j + 1)).1 - (kn bs j).1)
    walk_at "dl"
    refine ws_append rfl ?_
    walk_at "dl"
    refine ⟨by rw [List.length_map, tkK_len, sizeLine_eq]; omega, ?_⟩
    refine ws_par ?_
    walk_at "dl"
    refine ⟨.dat (qp (kn bs (j + 1)).1), .dat (qp (kn bs (j + 1)).2), ?_⟩
    rw [tkK_succ (n := j + 1), List.map_append]
    rfl
  · rintro ρ2 ⟨s5, s6, rfl⟩
    rw [List.length_drop, List.length_map, show bs.length - 1 + 1 = bs.length by omega]
    refine ws_next (ws_frz (i := 4) rfl ?_)
    walk_at "dl"
    have ln := b.ln
    refine ⟨true, tkK bs bs.length, (kn bs (bs.length - 1)).2, 48, rfl, ⟨ln.b, by rw [tkK_len]; omega, by decide, by decide⟩, ln.ris, ln.pos, ln.fst, ?_⟩
    rw [tkK_len]; exact hΦ
theorem ws_timesline (h : TTimesL ds Φ) : WS K S0 (t_timesline K) (rhoOf 6 ds) { nx := fun _ => Φ .none, rt := fun d _ => Φ d } := by
  obtain ⟨ks, s, c, B, C, rfl, L, hc, hB, hΦ⟩ := h
  show WS K S0 (t_timesline K) [.dat (.tuple [knD ks, qp s]), .dat (qp c), .unk, .unk, .unk, .unk] _
  unfold t_timesline
  have hl := L.len
  have b0 := L.B0
  have ss := L.l.b.s
  have sm := sz_mul s c
  refine ws_seq (ws_unp2 (wd_var rfl ⟨_, _, rfl, ?_⟩))
  refine ws_ret (wd_call0 (wa_cons (wd_lc (wi_tup ?_))))
  walk_at "dl"
  refine ⟨by rw [List.length_map, sizeLine_eq]; omega, fun j acc ρ => acc = ((timK ks c).take j).map kD ∧ ρ = [.dat (.tuple [knD ks, qp s]), .dat (qp c), .dat (knD ks), .dat (qp s), .unk, .unk], ⟨rfl, rfl⟩, ?_, ?_⟩
  · rintro j d acc ρ2 hd ⟨rfl, rfl⟩
    have hj : j < ks.length := by have := (List.getElem?_eq_some_iff.mp hd).1; rwa [List.length_map] at this
    rw [kD_get hj] at hd; cases hd
    rw [kD_eta]
    refine ⟨_, _, gd_pair, fun j hj => hj, ?_⟩
    refine wt_yes ?_
    have := L.l.b.y j hj
    walk_at "dl"
    refine ⟨?_, rfl⟩
    rw [List.take_add_one, kn_get (by rw [timK_len]; exact hj), Option.toList_some, List.map_append, timK_kn hj]; rfl
  · rintro acc ρ2 ⟨rfl, rfl⟩
    rw [List.length_map, ← timK_len (c := c), List.take_length]
    walk_at "dl"
    have ln := timK_ln L.l hc
    refine ⟨true, timK ks c, s * c, B + C, rfl, ⟨ln.b, by rw [timK_len]; omega, by omega, by omega⟩, ln.ris, ln.pos, ln.fst, ?_⟩
    rw [timK_len]; exact hΦ
theorem ws_leftline {aA : Addr} (hA : ∀ H : Hp, Dt K H (.ref aA) (lnD [(0, 0)] 1)) (h : TLeftL ds Φ) : WS K S0 (t_leftline K aA) (rhoOf 1 ds) { nx := fun _ => Φ .none, rt := fun d _ => Φ d } := by
  obtain ⟨bs, rfl, b, hΦ⟩ := h
  show WS K S0 (t_leftline K aA) [.dat (knD bs)] _
  unfold t_leftline
  refine ws_ret (wd_call0 (wa_cons (wd_const hA ?_)))
  refine wa_cons (wd_call0 (wa_cons (wd_call0 (wa_cons (wd_var rfl (wa_nil ⟨bs, rfl, b.mono (by decide), ?_⟩))))))
  have t := takenP b (Nat.le_refl _)
  have hl := b.len
  have hln := b.ln
  have lk : (bI (tkK bs bs.length) (lr bs) bs.length).length ≤ bs.length := by
    have := bI_len (ks := tkK bs bs.length) (s := lr bs)
    rwa [tkK_len] at this
  have lt : Ln 28 (bI (tkK bs bs.length) (lr bs) bs.length) (lr bs) := by
    have e : bI (tkK bs bs.length) (lr bs) bs.length = bR (tkK bs bs.length) (lr bs) := by
      have := bI_bR (ks := tkK bs bs.length) (s := lr bs)
      rwa [tkK_len] at this
    rw [e]; exact (bR_ln hln).1
  have ty := t.y
  generalize bI (tkK bs bs.length) (lr bs) bs.length = ks at t lk lt ty ⊢
  have em : PyData.tuple [.int (-1), .int 1] = qp (-1) := by
    unfold qp
    rw [show (-1 : Rat).num = -1 by decide +kernel, show (-1 : Rat).den = 1 by decide +kernel]; rfl
  walk_at "dl"
  rw [em]
  refine ⟨ks, lr bs, -1, 28, 2, rfl, ⟨lt, by omega, by decide⟩, sz_neg1, by decide, ?_⟩
  have l2 : Lq 30 (bI (timK ks (-1)) (lr bs * -1) ks.length) (lr bs * -1) ∧ (bI (timK ks (-1)) (lr bs * -1) ks.length).length ≤ ks.length := by
    have e : bI (timK ks (-1)) (lr bs * -1) ks.length = bR (timK ks (-1)) (lr bs * -1) := by
      have := bI_bR (ks := timK ks (-1)) (s := lr bs * -1)
      rwa [timK_len] at this
    rw [e]
    obtain ⟨a1, a2, a3, a4⟩ := bR_ln (timK_ln lt sz_neg1)
    rw [timK_len] at a3
    exact ⟨⟨a1, by omega, by decide⟩, a3⟩
  refine wa_nil ⟨[(0, 0)], _, 1, lr bs * -1, 30, rfl, ⟨ln_id.mono (by decide), by simp, by decide⟩, l2.1, by have := l2.2; simp; omega, by decide, fun xs mg => ?_⟩
  have r := leftP b (Nat.le_refl _) lt (by omega) (fun x hx => ty x hx) lt.b.s mg
  have es : 1 + lr bs * -1 = 1 - lr bs := by grind
  have r2 := hΦ _ r
  rw [es] at r2 ⊢
  exact r2
end
end DL

set_option Elab.async false
set_option linter.all false
/-! DMC: a row of one's own beside the empty row; the module's nested tuples -/
namespace DL
open PySem PySem.Spec PyProof.Rows L2
section
variable {K : PySem.W.Frag} {S : Stt} {ρ : Rho} {Φ : PyData → Rho → Prop}
theorem wd_neNil {i : Nat} {ds : List PyData} (h : ρ[i]? = some (.own ds)) (hs : SeqAt.shaped (.list ds) = true) (f : Φ (.bool (!PyData.eqv (.list ds) (.list []))) ρ) : WD K S (tOp (rNeD K) (tVar i) (tLst tNil)) ρ Φ := fun H0 N0 Z N σ H E Q q => by
  obtain ⟨p, xs, g1, g2, g3, g4, g5, g6, g7⟩ := E.slot i _ h
  refine ⟨_, g1, Nat.zero_le _, fun p2 hp2 => ?_⟩
  have s := same_new hp2 (.lst [])
  have d1 : Dt K (upd H p2 (.lst [])) (.ref p) (.list ds) := .lst (.inl (s _ _ g6)) (dpall_mono Same.wo1 ds xs (g7.keep (Keep.of s)))
  have d2 : Dt K (upd H p2 (.lst [])) (.ref p2) (.list []) := .lst (.inl upd_same) .nil
  exact ⟨.list ds, .list [], dt_dp _ _ (shaped_nd hs) d1, dt_dp _ _ rfl d2, hs, by decide, q _ _ ρ _ f (E.ext s) (Keep.of s) (Dt.bl _)⟩
end
end DL

set_option Elab.async false
set_option linter.all false
set_option maxRecDepth 100000
set_option maxHeartbeats 4000000
/-! DMA: equality of data -/
namespace DL
open PySem PySem.Spec PyProof.Rows L2
structure Sh (n : Nat) (d : PyData) : Prop where
  c : d.canLay0 = true
  d : d.depth ≤ n
theorem canAll_of : ∀ {xs : List PyData}, (∀ x ∈ xs, x.canLay0 = true) → PyData.canLayAll0 xs = true
  | [], _ => rfl
  | x :: xs, h => by
    show (x.canLay0 && PyData.canLayAll0 xs) = true
    rw [h x List.mem_cons_self, canAll_of fun y hy => h y (List.mem_cons_of_mem _ hy)]; rfl
theorem Sh.ok {n : Nat} {d : PyData} (h : Sh n d) (hn : n ≤ 64) : SeqAt.shaped d = true := by
  unfold SeqAt.shaped
  rw [h.c, decide_eq_true (Nat.le_trans h.d hn)]; rfl
theorem Sh.int {i : Int} : Sh 0 (.int i) := ⟨rfl, Nat.le_refl _⟩
theorem Sh.lst {n : Nat} {xs : List PyData} (h : ∀ x ∈ xs, Sh n x) : Sh (n + 1) (.list xs) := ⟨canAll_of fun x hx => (h x hx).c, by
  show PyData.depthAll xs + 1 ≤ n + 1
  have := depthAll_of xs fun x hx => (h x hx).d
  omega⟩
theorem Sh.tup {n : Nat} {xs : List PyData} (h : ∀ x ∈ xs, Sh n x) : Sh (n + 1) (.tuple xs) := ⟨canAll_of fun x hx => (h x hx).c, by
  show PyData.depthAll xs + 1 ≤ n + 1
  have := depthAll_of xs fun x hx => (h x hx).d
  omega⟩
mutual
theorem eqv_rfl : ∀ (d : PyData), d.canLay0 = true → PyData.eqv d d = true
  | .none, _ => rfl
  | .bool b, _ => by unfold PyData.eqv; simp
  | .int i, _ => by unfold PyData.eqv; simp
  | .str s, _ => by unfold PyData.eqv; simp
  | .list xs, h => by unfold PyData.eqv; exact eqvAll_rfl xs (by rw [PyData.canLay0] at h; exact h)
  | .tuple xs, h => by unfold PyData.eqv; exact eqvAll_rfl xs (by rw [PyData.canLay0] at h; exact h)
  | .dict _, h => by rw [PyData.canLay0] at h; cases h
theorem eqvAll_rfl : ∀ (ds : List PyData), PyData.canLayAll0 ds = true → PyData.eqvAll ds ds = true
  | [], _ => rfl
  | x :: xs, h => by
    rw [PyData.canLayAll0, Bool.and_eq_true] at h
    unfold PyData.eqvAll
    rw [eqv_rfl x h.1, eqvAll_rfl xs h.2]; rfl
end
mutual
/-- no truth within -/
def noB : PyData → Bool
  | .bool _ => false
  | .list xs => noBAll xs
  | .tuple xs => noBAll xs
  | .dict _ => false
  | _ => true
def noBAll : List PyData → Bool
  | [] => true
  | x :: xs => noB x && noBAll xs
end
mutual
theorem eqv_eq : ∀ (d e : PyData), noB d = true → noB e = true → PyData.eqv d e = true → d = e
  | .none, e, _, _, h => by cases e <;> first | rfl | (unfold PyData.eqv at h; cases h)
  | .bool b, e, h1, _, h => by rw [noB] at h1; cases h1
  | .int i, e, _, h2, h => by
    cases e <;> first | (rw [noB] at h2; cases h2; done) | (unfold PyData.eqv at h; first | cases h; done | (rw [beq_iff_eq] at h; rw [h]))
  | .str s, e, _, h2, h => by
    cases e <;> first | (rw [noB] at h2; cases h2; done) | (unfold PyData.eqv at h; first | cases h; done | (rw [beq_iff_eq] at h; rw [h]))
  | .list xs, e, h1, h2, h => by
    cases e <;> first | (unfold PyData.eqv at h; cases h; done) | skip
    rename_i ys
    unfold PyData.eqv at h
    rw [noB] at h1 h2
    rw [eqvAll_eq xs ys h1 h2 h]
  | .tuple xs, e, h1, h2, h => by
    cases e <;> first | (unfold PyData.eqv at h; cases h; done) | skip
    rename_i ys
    unfold PyData.eqv at h
    rw [noB] at h1 h2
    rw [eqvAll_eq xs ys h1 h2 h]
  | .dict _, e, h1, _, h => by rw [noB] at h1; cases h1
theorem eqvAll_eq : ∀ (ds es : List PyData), noBAll ds = true → noBAll es = true → PyData.eqvAll ds es = true → ds = es
  | [], [], _, _, _ => rfl
  | [], y :: ys, _, _, h => by unfold PyData.eqvAll at h; cases h
  | x :: xs, [], _, _, h => by unfold PyData.eqvAll at h; cases h
  | x :: xs, y :: ys, h1, h2, h => by
    unfold PyData.eqvAll at h
    rw [noBAll, Bool.and_eq_true] at h1 h2
    rw [Bool.and_eq_true] at h
    rw [eqv_eq x y h1.1 h2.1 h.1, eqvAll_eq xs ys h1.2 h2.2 h.2]
end
section
variable {K : PySem.W.Frag} {Ψ : PyData → Prop}
end
end DL

set_option Elab.async false
set_option linter.all false
set_option maxRecDepth 100000
set_option maxHeartbeats 4000000
/-! BQ2: bands as the law draws and reckons them -/
namespace DL
open PySem PySem.Spec PyProof.Rows L2
def TBandsD : Nat → List PyData → (PyData → Nat → Prop) → Prop := fun B ds Φ => ∃ m : Nat, ds = [.int m] ∧ 3 ≤ m ∧ m ≤ 30 ∧ B ≤ 2 ^ 39 ∧ ∀ bs B', B' ≤ B + 300 → Bd 26 bs → bs.length ≤ m → Φ (knD bs) B'
def TTax : List PyData → (PyData → Prop) → Prop := fun ds Φ => ∃ (bs : Kn) (x : Rat) (C : Nat), ds = [knD bs, qp x] ∧ Bd 48 bs ∧ 0 ≤ x ∧ sz x ≤ C ∧ C ≤ 1500 ∧ Φ (qp (tax bs x))
def THas : List PyData → (PyData → Prop) → Prop := fun ds Φ => ∃ (bs : Kn) (x : Rat) (C : Nat) (kept : Bool), ds = [knD bs, qp x, .bool kept] ∧ Bd 28 bs ∧ 0 ≤ x ∧ sz x ≤ C ∧ C ≤ 1500 ∧ Φ (qp (has bs kept x))
def TTotalD : Nat → List PyData → (PyData → Nat → Prop) → Prop := fun B ds Φ => ∃ bs : Kn, ds = [knD bs] ∧ Bd 28 bs ∧ B ≤ 2 ^ 39 ∧ ∀ x B', B' ≤ B + 10 → 0 ≤ x → sz x ≤ 60 → Φ (qp x) B'
local macro_rules | `(tactic| walk_at "dl") => `(tactic| repeat' (first
  | with_reducible refine wd_isTy ?_ | with_reducible refine wd_isi ?_ | ((with_reducible show WD _ _ (tOp (rIxL _) (tVar _) _) _ _); refine wd_ix_own rfl ?_) | with_reducible refine wd_op ?_ | ((with_reducible show WD _ _ (tCB (rLenX _) (tCons (tVar _) tNil)) _ _); refine wd_len_scr rfl ?_) | ((with_reducible show WD _ _ (tCB (rLenX _) (tCons (tVar _) tNil)) _ _); refine wd_len_own rfl ?_) | with_reducible refine wd_cb ?_ | with_reducible refine wd_un ?_ | with_reducible refine wa_cons ?_ | with_reducible refine wa_nil ?_ | ((with_reducible show WD _ _ (tVar _) _ _); refine wd_var rfl ?_) | with_reducible refine wd_int ?_ | with_reducible refine wd_bl ?_ | with_reducible refine wd_str ?_ | with_reducible refine wd_non ?_
  | with_reducible refine do_nesS ?_ | with_reducible refine dc_intB ?_ | with_reducible refine do_add ?_ | with_reducible refine do_sub ?_ | ((with_reducible refine do_mod ?_ ?_); decide) | with_reducible refine do_mod ?_ ?_ | with_reducible refine do_mul ?_ ?_ | ((with_reducible refine do_div ?_ ?_); exact ⟨by decide, by decide⟩) | with_reducible refine do_div ?_ ?_ | ((with_reducible refine do_pow ?_ ?_); exact ⟨by decide, by decide, by decide⟩) | with_reducible refine do_pow ?_ ?_
  | with_reducible refine do_lt ?_ | with_reducible refine do_le ?_ | with_reducible refine do_gt ?_ | with_reducible refine do_ge ?_ | with_reducible refine du_neg ?_
  | with_reducible refine do_eqi ?_ | with_reducible refine do_nei ?_ | with_reducible refine do_eqs ?_ | with_reducible refine do_nes ?_ | with_reducible refine dc_abs ?_ | with_reducible refine dc_min ?_ | with_reducible refine dc_max ?_ | with_reducible refine dc_lenL ?_ | with_reducible refine dc_lenT ?_ | with_reducible refine dc_lenR ?_ | with_reducible refine dc_listT ?_ | with_reducible refine dc_listL ?_ | with_reducible refine dc_tupL ?_ | with_reducible refine dc_gcd ?_
  | ((with_reducible show DO _ (rIxT _) _ _ _); refine do_ixT rfl ?_) | ((with_reducible show DO _ (rIxL _) _ _ _); refine do_ixL rfl ?_) | ((with_reducible refine do_catL ?_ ?_); exact Nat.le_of_ble_eq_true rfl) | with_reducible refine do_catL ?_ ?_ | ((with_reducible show And (List.length _ ≤ sizeLine) _); refine ⟨Nat.le_of_ble_eq_true rfl, ?_⟩)
  | with_reducible refine wd_dnew ?_ | with_reducible refine wd_call0 ?_ | with_reducible refine wd_slA ?_ | with_reducible refine wd_slL ?_ | with_reducible refine wd_revT ?_ | with_reducible refine do_catA ?_ ?_ | with_reducible refine wo_part ?_ | with_reducible refine wo_none ?_ | with_reducible refine do_eqQ ?_ | with_reducible refine do_neQ ?_ | with_reducible refine wi_enumT ?_ | with_reducible refine wi_enumD ?_ | with_reducible refine tAdQ (by omega) (by omega) ?_ | with_reducible refine tSbQ (by omega) (by omega) ?_ | with_reducible refine tMlQ (by omega) (by omega) ?_ | with_reducible refine tDvQ (by assumption) (by omega) (by omega) ?_ | with_reducible refine tLtQ (by omega) (by omega) ?_ | with_reducible refine dc_str ?_ ?_ | with_reducible refine wd_tup ?_ | with_reducible refine wd_lst ?_ | with_reducible refine wt_test ?_ | with_reducible refine wt_B ?_ | with_reducible refine wt_not ?_ | with_reducible refine wt_and ?_ | with_reducible refine wt_or ?_ | with_reducible refine wd_ifE ?_ | with_reducible refine wd_andV ?_ | with_reducible refine wd_orV ?_ | with_reducible refine wd_notV ?_
  | with_reducible refine ws_seq ?_ | with_reducible refine ws_next ?_ | with_reducible refine ws_asg ?_ | with_reducible refine ws_ret ?_ | with_reducible refine ws_retN ?_ | with_reducible refine ws_if ?_ | with_reducible refine ws_par ?_ | with_reducible refine ws_unp2 ?_
  | with_reducible refine if_t ?_ | with_reducible refine if_f ?_ | with_reducible refine if_nf ?_ | with_reducible refine if_nt ?_
  | ((with_reducible show Exists _); first | refine ⟨_, kitInt _, ?_⟩ | refine ⟨_, kitBool _, ?_⟩ | refine ⟨_, kitTup _, ?_⟩ | refine ⟨_, kitList _, ?_⟩ | refine ⟨_, rfl, ?_⟩ | refine ⟨_, _, rfl, ?_⟩ | fail) | fail))
def t_bandsd (K : PySem.W.Frag) : TS :=
  (tSeq (tAsg (tOp (rIxL K) (tLst (tCons (tOp rAddI (tC (.int 1)) (tCall (spS K FPot TTake) [] E0 (tCons (tVar 0) (tCons (tC (.int 3)) tNil)))) (tCons (tOp rAddI (tC (.int 1)) (tCall (spS K FPot TTake) [] E0 (tCons (tVar 0) (tCons (tVar 1) tNil)))) (tCons (tVar 1) tNil)))) (tCall (spS K FPot TTake) [] E0 (tCons (tVar 0) (tCons (tC (.int 3)) tNil)))) (gName 2))
    (tSeq (tAsg (tOp (rIxL K) (tLst (tCons (tC (.int 1)) (tCons (tC (.int 2)) (tCons (tC (.int 4)) (tCons (tC (.int 5)) (tCons (tC (.int 10)) (tCons (tOp (rIxL K) (tLst (tCons (tC (.int 97)) (tCons (tC (.int 101)) (tCons (tC (.int 997)) tNil)))) (tCall (spS K FPot TTake) [] E0 (tCons (tVar 0) (tCons (tC (.int 3)) tNil)))) tNil))))))) (tCall (spS K FPot TTake) [] E0 (tCons (tVar 0) (tCons (tC (.int 6)) tNil)))) (gName 3))
    (tSeq (tAsg (tLst tNil) (gName 4))
    (tSeq (tAsg (tTup (tCons (tC (.int 0)) (tCons (tC (.int 1)) tNil))) (gName 5))
    (tSeq (tFor (iRng1 (tCons (tVar 2) tNil)) (gName 6) (tSeq (tAsg (tCall (spP K TLow) [] E0 (tCons (tCall (spS K FPot TTake) [] E0 (tCons (tVar 0) (tCons (tOp rAddI (tVar 3) (tC (.int 1))) tNil))) (tCons (tVar 3) tNil))) (gName 7))
    (tSeq (tIfS (tAnd (tTest (tOp (rNeD K) (tVar 4) (tLst tNil))) (tTest (tOp rEq (tCall (spS K FPot TTake) [] E0 (tCons (tVar 0) (tCons (tC (.int 5)) tNil))) (tC (.int 0))))) (tAsg (tOp (rIxT K) (tOp (rIxL K) (tVar 4) (tUn rNegI (tC (.int 1)))) (tC (.int 1))) (gName 7)) tNext)
    (tSeq (tDrop (tBM K "list" rAppend (tVar 4) (tCons (tTup (tCons (tVar 5) (tCons (tVar 7) tNil))) tNil)))
    (tAsg (tCall (spP K TAdQ) [] E0 (tCons (tVar 5) (tCons (tCall (spP K TLow) [] E0 (tCons (tOp rAddI (tC (.int 1)) (tCall (spS K FPot TTake) [] E0 (tCons (tVar 0) (tCons (tC (.int 30)) tNil)))) (tCons (tOp (rIxL K) (tLst (tCons (tC (.int 1)) (tCons (tC (.int 2)) (tCons (tC (.int 4)) tNil)))) (tCall (spS K FPot TTake) [] E0 (tCons (tVar 0) (tCons (tC (.int 3)) tNil)))) tNil))) tNil))) (gName 5))))))
    (tRet (tCB (rTupOf K) (tCons (tVar 4) tNil))))))))
def t_tax (K : PySem.W.Frag) : TS :=
  (tSeq (tAsg (tTup (tCons (tC (.int 0)) (tCons (tC (.int 1)) tNil))) (gName 2))
    (tSeq (tFor (iEnumT K (tCons (tVar 0) tNil)) (gTup K 2 (gCons (gName 3) (gCons (gTup K 2 (gCons (gName 4) (gCons (gName 5) gNil))) gNil))) (tSeq (tAsg (tVar 1) (gName 6))
    (tSeq (tIfS (tAnd (tTest (tOp rLt (tOp rAddI (tVar 3) (tC (.int 1))) (tCB (rLenX K) (tCons (tVar 0) tNil)))) (tB (tCall (spP K TLtQ) [] E0 (tCons (tOp (rIxT K) (tOp (rIxT K) (tVar 0) (tOp rAddI (tVar 3) (tC (.int 1)))) (tC (.int 0))) (tCons (tVar 1) tNil))))) (tAsg (tOp (rIxT K) (tOp (rIxT K) (tVar 0) (tOp rAddI (tVar 3) (tC (.int 1)))) (tC (.int 0))) (gName 6)) tNext)
    (tIfS (tB (tCall (spP K TLtQ) [] E0 (tCons (tVar 4) (tCons (tVar 6) tNil)))) (tAsg (tCall (spP K TAdQ) [] E0 (tCons (tVar 2) (tCons (tCall (spP K TMlQ) [] E0 (tCons (tVar 5) (tCons (tCall (spP K TSbQ) [] E0 (tCons (tVar 6) (tCons (tVar 4) tNil))) tNil))) tNil))) (gName 2)) tNext))))
    (tRet (tVar 2))))
def t_has (K : PySem.W.Frag) : TS :=
  (tSeq (tAsg (tCall (spP K TTax) [] E0 (tCons (tVar 0) (tCons (tVar 1) tNil))) (gName 3))
    (tRet (tIf (tB (tVar 2)) (tCall (spP K TSbQ) [] E0 (tCons (tVar 1) (tCons (tVar 3) tNil))) (tVar 3))))
def t_totald (K : PySem.W.Frag) : TS :=
  (tSeq (tAsg (tOp (rIxT K) (tOp (rIxT K) (tVar 1) (tCall (spS K FPot TTake) [] E0 (tCons (tVar 0) (tCons (tCB (rLenX K) (tCons (tVar 1) tNil)) tNil)))) (tC (.int 0))) (gName 2))
    (tRet (tOp (rIxL K) (tLst (tCons (tTup (tCons (tC (.int 0)) (tCons (tC (.int 1)) tNil))) (tCons (tVar 2) (tCons (tCall (spP K TAdQ) [] E0 (tCons (tVar 2) (tCons (tCall (spP K TLow) [] E0 (tCons (tOp rAddI (tC (.int 1)) (tCall (spS K FPot TTake) [] E0 (tCons (tVar 0) (tCons (tC (.int 60)) tNil)))) (tCons (tC (.int 3)) tNil))) tNil))) (tCons (tCall (spP K TLow) [] E0 (tCons (tCall (spS K FPot TTake) [] E0 (tCons (tVar 0) (tCons (tOp rPowI (tC (.int 10)) (tC (.int 6))) tNil))) (tCons (tOp rAddI (tC (.int 1)) (tCall (spS K FPot TTake) [] E0 (tCons (tVar 0) (tCons (tC (.int 1000)) tNil)))) tNil))) (tCons (tTup (tCons (tOp rPowI (tC (.int 10)) (tC (.int 6))) (tCons (tC (.int 1)) tNil))) tNil)))))) (tCall (spS K FPot TTake) [] E0 (tCons (tVar 0) (tCons (tC (.int 5)) tNil))))))
theorem rate1 {d : Int} {p : Nat} (h0 : 0 ≤ d) (h1 : d ≤ p) (hp : 1 ≤ p) : Dv p p (Rat.divInt d p) ∧ 0 ≤ Rat.divInt d p ∧ Rat.divInt d p ≤ 1 := by
  have p0 : (0 : Rat) < ((p : Int) : Rat) := Rat.intCast_pos.mpr (by omega)
  refine ⟨?_, ?_, ?_⟩
  · have := (Dv.di (a := d) (b := p) (c := 1) (by omega))
    rw [Nat.mul_one, Nat.mul_one] at this
    exact this.mono (by omega)
  · rw [Rat.divInt_eq_div, Rat.div_def]
    exact Rat.mul_nonneg (by exact_mod_cast h0) (Rat.le_of_lt (Rat.inv_pos.mpr p0))
  · rw [Rat.divInt_eq_div]
    have h2 : ((d : Int) : Rat) ≤ ((p : Int) : Rat) := Rat.intCast_le_intCast.mpr h1
    have e : ((d : Int) : Rat) / ((p : Int) : Rat) * ((p : Int) : Rat) = d := Rat.div_mul_cancel (by grind)
    refine Rat.le_of_mul_le_mul_right (c := ((p : Int) : Rat)) ?_ p0
    rw [e, Rat.one_mul]; exact h2
theorem stepB {n c : Int} (h1 : 1 ≤ n) (h2 : n ≤ 30) (hc : c = 1 ∨ c = 2 ∨ c = 4) : Dv 4 120 (Rat.divInt n c) ∧ 0 < Rat.divInt n c := by
  refine ⟨?_, ?_⟩
  · rcases hc with rfl | rfl | rfl
    · exact (Dv.di (a := n) (b := 1) (c := 4) (by decide)).mono (by omega)
    · exact (Dv.di (a := n) (b := 2) (c := 2) (by decide)).mono (by omega)
    · exact (Dv.di (a := n) (b := 4) (c := 1) (by decide)).mono (by omega)
  · have c0 : 0 < c := by omega
    rw [Rat.divInt_eq_div, Rat.div_def]
    exact Rat.mul_pos (Rat.intCast_pos.mpr (by omega)) (Rat.inv_pos.mpr (Rat.intCast_pos.mpr c0))
theorem sh_kn (ks : Kn) : SeqAt.shaped (.list (ks.map kD)) = true := (Sh.lst (n := 2) fun x hx => by
  obtain ⟨p, _, rfl⟩ := List.mem_map.mp hx
  refine Sh.tup (n := 1) fun y hy => ?_
  simp only [List.mem_cons, List.not_mem_nil, or_false] at hy
  rcases hy with rfl | rfl <;>
    exact Sh.tup (n := 0) fun z hz => by
      simp only [List.mem_cons, List.not_mem_nil, or_false] at hz
      rcases hz with rfl | rfl <;> exact Sh.int).ok (by decide)
theorem eqv_nil {ks : Kn} : (!PyData.eqv (.list (ks.map kD)) (.list [])) = decide (0 < ks.length) := by
  cases ks with
  | nil => rfl
  | cons a r => rfl
section
variable {K : PySem.W.Frag} {S : Stt}
theorem ws_bandsd {B : Nat} {ds : List PyData} {Φ : PyData → Nat → Prop} (hF : FPot S) (h : TBandsD B ds Φ) : WS K S (t_bandsd K) (.sto B :: rhoOf 7 ds) { nx := fun _ => False, rt := fun d ρ => ∃ B', ρ[0]? = some (.sto B') ∧ Φ d B' } := by
  obtain ⟨m, rfl, m3, m30, hB, hΦ⟩ := h
  show WS K S (t_bandsd K) [.sto B, .dat (.int m), .unk, .unk, .unk, .unk, .unk, .unk] _
  unfold t_bandsd
  have h39 : (2 : Nat) ^ 39 = 549755813888 := by decide
  have h40 : (2 : Nat) ^ 40 = 1099511627776 := by decide
  have h40' : (2 : Int) ^ 40 = 1099511627776 := by decide
  walk_at "dl"
  refine wd_takeC hF rfl (by decide) (by decide) (by omega) fun d1 d10 d11 => ?_
  walk_at "dl"
  refine wd_takeV hF rfl rfl (by omega) (by omega) (by omega) fun d2 d20 d21 => ?_
  walk_at "dl"
  refine wd_takeC hF rfl (by decide) (by decide) (by omega) fun d3 d30 d31 => ?_
  refine do_ix3 d30 d31 fun many hm => ?_
  obtain ⟨n, rfl, n1, n2⟩ : ∃ n : Nat, many = n ∧ 1 ≤ n ∧ n ≤ m := ⟨many.toNat, by omega, by omega, by omega⟩
  clear hm
  walk_at "dl"
  refine wd_takeC hF rfl (by decide) (by decide) (by omega) fun d4 d40 d41 => ?_
  refine do_ix3 d40 d41 fun pp hpp => ?_
  walk_at "dl"
  refine wd_takeC hF rfl (by decide) (by decide) (by omega) fun d5 d50 d51 => ?_
  refine do_ixL_int (ns := [1, 2, 4, 5, 10, pp]) (P := fun z => 1 ≤ z ∧ z ≤ 997) rfl d50 (by simpa using d51) (fun z hz => ?_) fun pz hpz => ?_
  · simp only [List.mem_cons, List.not_mem_nil, or_false] at hz; omega
  obtain ⟨p, rfl, p1, p2⟩ : ∃ p : Nat, pz = p ∧ 1 ≤ p ∧ p ≤ 997 := ⟨pz.toNat, by omega, by omega, by omega⟩
  clear hpz hpp
  refine ws_seq (ws_own (wa_nil ⟨Nat.zero_le _, ?_⟩))
  walk_at "dl"
  rw [show PyData.tuple [.int 0, .int 1] = qp 0 from rfl]
  refine ws_for (wi_rng1 ?_)
  walk_at "dl"
  refine ⟨by omega, by omega, fun k ρ => ∃ (B' : Nat) (bs : Kn) (e : Rat) (s6 s7 : Sl), ρ = [.sto B', .dat (.int m), .dat (.int n), .dat (.int p), .own (bs.map kD), .dat (qp e), s6, s7] ∧ B' ≤ B + 7 + 4 * k ∧ Bst p k bs e, ⟨_, [], 0, _, _, rfl, by omega, Bst.zero⟩, ?_, ?_⟩
  · rintro k d ρ2 hd ⟨B', bs, e, s6, s7, rfl, hB', st⟩
    have hk : k < n := by
      have := (List.getElem?_eq_some_iff.mp hd).1
      rw [List.length_map, List.length_range] at this; omega
    rw [List.getElem?_map, List.getElem?_range (by omega)] at hd
    cases hd
    have hl := st.len
    refine ⟨_, _, gd_name, ?_⟩
    walk_at "dl"
    refine wd_take hF rfl ?_
    walk_at "dl"
    refine ⟨_, _, rfl, rfl, by omega, by omega, by omega, fun e1 e10 e11 => ?_⟩
    walk_at "dl"
    refine ⟨e1, p, rfl, by omega, small80 (by omega), small80 (by omega), ?_⟩
    obtain ⟨q1, q2, q3⟩ := rate1 (d := e1) (p := p) e10 (by omega) p1
    generalize Rat.divInt e1 p = R at q1 q2 q3 ⊢
    refine ws_cut (fun ρ => ∃ (B2 : Nat) (R2 : Rat) (s6 : Sl), ρ = [.sto B2, .dat (.int m), .dat (.int n), .dat (.int p), .own (bs.map kD), .dat (qp e), s6, .dat (qp R2)] ∧ B2 ≤ B' + 2 ∧ Dv p p R2 ∧ 0 ≤ R2 ∧ R2 ≤ 1) ?_ ?_
    · refine ws_if (wt_and (wt_test (wd_neNil rfl (sh_kn bs) ?_)))
      rw [eqv_nil]
      refine ⟨_, rfl, ?_⟩
      refine if_b (fun h0 => ?_) (fun h0 => ?_)
      · refine wt_test (wd_op (wd_takeC hF rfl (by decide) (by decide) (by omega) fun e2 e20 e21 => ?_))
        walk_at "dl"
        refine if_b (fun hz => ?_) (fun hz => ?_)
        · have hlast : (bs.map kD).getLast? = some (kD (kn bs (k - 1))) := by
            rw [List.getLast?_eq_getElem?, List.length_map, hl]
            exact kD_get (by omega)
          refine ws_asg (wd_op (wd_lastOwn rfl hlast ?_))
          rw [kD_eta]
          walk_at "dl"
          obtain ⟨r1, r2, r3⟩ := st.r (k - 1) (by omega)
          exact ⟨_, _, _, rfl, by omega, r1, r2, r3⟩
        · exact ws_next ⟨_, _, _, rfl, by omega, q1, q2, q3⟩
      · exact if_f (ws_next ⟨_, _, _, rfl, by omega, q1, q2, q3⟩)
    rintro ρ3 ⟨B2, R2, s6, rfl, hB2, r1, r2, r3⟩
    refine ws_seq (ws_append rfl ?_)
    walk_at "dl"
    refine ⟨by rw [List.length_map, sizeLine_eq]; omega, ?_⟩
    have ez : sz e ≤ 20 := st.de.sz (by decide) (by omega)
    refine ws_asg (wd_call0 (wa_cons (wd_var rfl (wa_cons (wd_call0 (wa_cons (wd_op (wd_int ?_))))))))
    refine wd_takeC hF rfl (by decide) (by decide) (by omega) fun u1 u10 u11 => ?_
    walk_at "dl"
    refine wd_takeC hF rfl (by decide) (by decide) (by omega) fun u2 u20 u21 => ?_
    refine do_ix3 u20 u21 fun c3 hc3 => ?_
    refine wa_nil ⟨1 + u1, c3, rfl, by omega, small80 (by omega), small80 (by omega), ?_⟩
    obtain ⟨t1, t2⟩ := stepB (n := 1 + u1) (c := c3) (by omega) (by omega) hc3
    have tz : sz (Rat.divInt (1 + u1) c3) ≤ 20 := t1.sz (by decide) (by decide)
    generalize Rat.divInt (1 + u1) c3 = T at t1 t2 tz ⊢
    walk_at "dl"
    refine ⟨_, bs ++ [(e, R2)], e + T, _, _, by rw [← kD_append]; rfl, by omega, st.next r1 r2 r3 t1 t2⟩
  · rintro ρ2 ⟨B', bs, e, s6, s7, rfl, hB', st⟩
    rw [List.length_map, List.length_range] at hB' st
    refine ws_ret (wd_tupOwn rfl ?_)
    have hl := st.len
    exact ⟨B', rfl, hΦ bs B' (by omega) (st.fin p1 p2 (by omega) (by omega)) (by omega)⟩
end
section
variable {K : PySem.W.Frag} {ds : List PyData} {Φ : PyData → Prop}
theorem ws_tax (h : TTax ds Φ) : WS K S0 (t_tax K) (rhoOf 7 ds) { nx := fun _ => Φ .none, rt := fun d _ => Φ d } := by
  obtain ⟨bs, x, C, rfl, b, h0, hx, hC, hΦ⟩ := h
  show WS K S0 (t_tax K) [.dat (knD bs), .dat (qp x), .unk, .unk, .unk, .unk, .unk] _
  unfold t_tax
  have hl := b.len
  walk_at "dl"
  rw [show PyData.tuple [.int 0, .int 1] = qp 0 from rfl]
  refine ws_for (wi_enumT ?_)
  walk_at "dl"
  refine ⟨fun k ρ => ∃ s3 s4 s5 s6 : Sl, ρ = [.dat (knD bs), .dat (qp x), .dat (qp (taxN bs x k)), s3, s4, s5, s6], ⟨_, _, _, _, rfl⟩, ?_, ?_⟩
  · rintro k d ρ2 hd ⟨s3, s4, s5, s6, rfl⟩
    rw [List.getElem?_mapIdx] at hd
    obtain ⟨d0, hd0, rfl⟩ := Option.map_eq_some_iff.mp hd
    have hk : k < bs.length := by have := (List.getElem?_eq_some_iff.mp hd0).1; rwa [List.length_map] at this
    rw [kD_get hk] at hd0; cases hd0
    rw [kD_eta]
    refine ⟨_, _, gd_pairN, ?_⟩
    have x1 := b.bx k hk
    have r1 := b.br k hk
    have tz := taxN_sz b h0 hx (k := k) (by omega)
    refine ws_seq (ws_asg (wd_var rfl ?_))
    refine ws_cut (fun ρ => ρ = [.dat (knD bs), .dat (qp x), .dat (qp (taxN bs x k)), .dat (.int k), .dat (qp (kn bs k).1), .dat (qp (kn bs k).2), .dat (qp (topB bs x k))]) ?_ ?_
    · refine ws_if (wt_and (wt_test ?_))
      walk_at "dl"
      rw [List.length_map]
      refine if_b (fun h1 => ?_) (fun h1 => ?_)
      · have h2 : k + 1 < bs.length := by omega
        have x2 := b.bx (k + 1) h2
        walk_at "dl"
        refine do_ixTn (k := k + 1) (by omega) (kD_get h2) ?_
        walk_at "dl"
        refine if_b (fun h3 => ?_) (fun h3 => ?_)
        · walk_at "dl"
          refine do_ixTn (k := k + 1) (by omega) (kD_get h2) ?_
          walk_at "dl"
          have e : topB bs x k = (kn bs (k + 1)).1 := by unfold topB; rw [if_pos ⟨h2, h3⟩]
          rw [e]; rfl
        · walk_at "dl"
          have e : topB bs x k = x := by unfold topB; rw [if_neg fun z => h3 z.2]
          show _ = _
          rw [e]; rfl
      · walk_at "dl"
        have e : topB bs x k = x := by unfold topB; rw [if_neg fun z => h1 (by have := z.1; omega)]
        show _ = _
        rw [e]; rfl
    rintro ρ3 rfl
    have zt : sz (topB bs x k) ≤ C + 48 := by
      unfold topB
      split
      · rename_i q; have := b.bx (k + 1) q.1; omega
      · omega
    have z1 := sz_sub (topB bs x k) (kn bs k).1
    have z2 := sz_mul (kn bs k).2 (topB bs x k - (kn bs k).1)
    have en : taxN bs x (k + 1) = if (kn bs k).1 < topB bs x k then taxN bs x k + (kn bs k).2 * (topB bs x k - (kn bs k).1) else taxN bs x k := rfl
    walk_at "dl"
    refine if_b (fun h1 => ?_) (fun h1 => ?_)
    · rw [if_pos h1] at en
      walk_at "dl"
      show ∃ _, _
      rw [en]; exact ⟨_, _, _, _, rfl⟩
    · rw [if_neg h1] at en
      walk_at "dl"
      show ∃ _, _
      rw [en]; exact ⟨_, _, _, _, rfl⟩
  · rintro ρ2 ⟨s3, s4, s5, s6, rfl⟩
    have el : ((bs.map kD).mapIdx fun k d => PyData.tuple [.int k, d]).length = bs.length := by simp
    rw [el]
    walk_at "dl"
    exact hΦ
end
section
variable {K : PySem.W.Frag} {S : Stt}
theorem ws_totald {B : Nat} {ds : List PyData} {Φ : PyData → Nat → Prop} (hF : FPot S) (h : TTotalD B ds Φ) : WS K S (t_totald K) (.sto B :: rhoOf 2 ds) { nx := fun _ => False, rt := fun d ρ => ∃ B', ρ[0]? = some (.sto B') ∧ Φ d B' } := by
  obtain ⟨bs, rfl, b, hB, hΦ⟩ := h
  show WS K S (t_totald K) [.sto B, .dat (knD bs), .unk] _
  unfold t_totald
  have hl := b.len
  have hp := b.pos
  have h39 : (2 : Nat) ^ 39 = 549755813888 := by decide
  have h40 : (2 : Nat) ^ 40 = 1099511627776 := by decide
  refine ws_seq (ws_asg (wd_op (wd_op (wd_var rfl (wd_take hF rfl ?_)))))
  walk_at "dl"
  rw [List.length_map]
  refine ⟨_, _, rfl, rfl, by omega, by omega, by omega, fun z0 z00 z01 => ?_⟩
  obtain ⟨j, rfl⟩ : ∃ j : Nat, z0 = j := ⟨z0.toNat, by omega⟩
  have hj : j < bs.length := by omega
  refine do_ixTn rfl (kD_get hj) ?_
  rw [kD_eta]
  have bz := b.bx j hj
  have b0 : 0 ≤ (kn bs j).1 := by
    have := ris_le b.ris (i := 0) (j := j) (Nat.zero_le _) hj
    rwa [b.fst] at this
  generalize (kn bs j).1 = e at bz b0 ⊢
  walk_at "dl"
  refine wd_takeC hF rfl (by decide) (by decide) (by omega) fun z1 z10 z11 => ?_
  walk_at "dl"
  refine ⟨1 + z1, 3, rfl, by decide, small80 (by omega), small80 (by omega), ?_⟩
  have q1 : sz (Rat.divInt (1 + z1) 3) ≤ 8 := sz_di (by decide) (by omega)
  have q1n : 0 ≤ Rat.divInt (1 + z1) 3 := by
    rw [Rat.divInt_eq_div, Rat.div_def]
    exact Rat.mul_nonneg (by exact_mod_cast (show 0 ≤ 1 + z1 by omega)) (by decide +kernel)
  generalize Rat.divInt (1 + z1) 3 = T at q1 q1n ⊢
  have q2 := sz_add e T
  walk_at "dl"
  refine wd_take hF rfl ?_
  walk_at "dl"
  refine ⟨1000000, _, rfl, rfl, by decide, by decide, by omega, fun z2 z20 z21 => ?_⟩
  walk_at "dl"
  refine wd_takeC hF rfl (by decide) (by decide) (by omega) fun z3 z30 z31 => ?_
  walk_at "dl"
  refine ⟨z2, 1 + z3, rfl, by omega, small80 (by omega), small80 (by omega), ?_⟩
  have q3 : sz (Rat.divInt z2 (1 + z3)) ≤ 21 := sz_di (by omega) (by omega)
  have q3n : 0 ≤ Rat.divInt z2 (1 + z3) := by
    rw [Rat.divInt_eq_div, Rat.div_def]
    exact Rat.mul_nonneg (by exact_mod_cast z20) (Rat.le_of_lt (Rat.inv_pos.mpr (Rat.intCast_pos.mpr (by omega))))
  generalize Rat.divInt z2 (1 + z3) = U at q3 q3n ⊢
  walk_at "dl"
  rw [show PyData.tuple [.int ((10 : Int) ^ (6 : Int).toNat), .int 1] = qp ((1000000 : Int) : Rat) from qp_int]
  refine wd_takeC hF rfl (by decide) (by decide) (by omega) fun z4 z40 z41 => ?_
  refine do_ixL_q (qs := [0, e, e + T, U, ((1000000 : Int) : Rat)]) (P := fun g => 0 ≤ g ∧ sz g ≤ 60) rfl z40 (by simpa using z41) (fun n hn => ?_) fun g hg => ?_
  · have s1 : sz ((1000000 : Int) : Rat) ≤ 21 := sz_int (by decide)
    simp only [List.mem_cons, List.not_mem_nil, or_false] at hn
    rcases hn with rfl | rfl | rfl | rfl | rfl
    · exact ⟨Rat.le_refl, by rw [sz_zero]; decide⟩
    · exact ⟨b0, by omega⟩
    · exact ⟨by grind, by omega⟩
    · exact ⟨q3n, by omega⟩
    · exact ⟨by decide +kernel, by omega⟩
  exact ⟨_, rfl, hΦ g _ (by omega) hg.1 hg.2⟩
end
end DL

set_option Elab.async false
set_option linter.all false
set_option maxRecDepth 100000
set_option maxHeartbeats 4000000
/-! DMB: a call with places and names that may be refused -/
namespace DL
open PySem PySem.Spec PyProof.Rows L2
def tCallNSk (n m : Nat) (sp : Sp) (gV : List V → List V → List V) (E : L2.St → XK) (t tk : TA) : TE := fun σ H Q => t σ H fun vs H1 => tk σ H1 fun zs H2 => vs.length = n ∧ zs.length = m ∧ sp (gV vs zs) H2 Q (E σ)
end DL

set_option Elab.async false
set_option linter.all false
set_option maxRecDepth 100000
set_option maxHeartbeats 4000000
/-! LS9: the judge of what is first -/
namespace DL
open PySem PySem.Spec PyProof.Rows L2
def TFirstX (C : Addr) : List PyData → (PyData → Prop) → (Addr → Prop) → Prop := fun ds _ Ψ => ∃ (a b g : PyData) (x : Rat), ds = [.tuple [a, b], g, qp x] ∧ x < 0 ∧ Ψ C
def TRefA : List PyData → (PyData → Prop) → Prop := fun ds Φ => ∃ (a b g : PyData) (x : Rat), ds = [.tuple [a, b], g, qp x] ∧ x < 0 ∧ Φ (.bool true)
def TFirsts : Nat → List PyData → (PyData → Nat → Prop) → Prop := fun B ds Φ => ∃ (ks : Kn) (s : Rat), ds = [lnD ks s] ∧ GoodL 60 ks s ∧ B ≤ 2 ^ 38 ∧ ∀ B', B' ≤ B + 100 → Φ (.bool true) B'
def t_firstX (K : PySem.W.Frag) (C : Addr) (E : XK) : TS :=
  (tSeq (tAsg (tVar 0) (gTup K 2 (gCons (gName 3) (gCons (gName 4) gNil)))) (tSeq (tPar 5 6 (tCons (tVar 2) (tCons (tCall (spX K (TYx C)) [] E (tCons (tVar 0) (tCons (tVar 2) tNil))) tNil))) tNo))
def tb_refA (K : PySem.W.Frag) (C : Addr) (W : WX) : TS := tDrop (tCallNSk 2 1 (spX K (TFirstX C)) gVapp (WE W) (tCons (tVar 0) (tCons (tVar 1) tNil)) (tCons (tVar 2) tNil))
def ts_refA (a : Addr) : TS := tAsg (tVar 4) (gName 3)
def t_refA (K : PySem.W.Frag) (C P : Addr) : TS :=
  (tSeq (tAsg (tC .non) (gName 3))
    (tSeq (fun D σ H => tb_refA K C (wKeep K (.ref P) 4 ts_refA D) D σ H)
    (tRet (tOp rEq (tCall (spW K C "amount") [] E0 (tCons (tVar 3) tNil)) (tC (.str "amount"))))))
local macro_rules | `(tactic| walk_at "dl") => `(tactic| repeat' (first
  | with_reducible refine wd_isTy ?_ | with_reducible refine wd_isi ?_ | ((with_reducible show WD _ _ (tOp (rIxL _) (tVar _) _) _ _); refine wd_ix_own rfl ?_) | with_reducible refine wd_op ?_ | ((with_reducible show WD _ _ (tCB (rLenX _) (tCons (tVar _) tNil)) _ _); refine wd_len_scr rfl ?_) | ((with_reducible show WD _ _ (tCB (rLenX _) (tCons (tVar _) tNil)) _ _); refine wd_len_own rfl ?_) | with_reducible refine wd_cb ?_ | with_reducible refine wd_un ?_ | with_reducible refine wa_cons ?_ | with_reducible refine wa_nil ?_ | ((with_reducible show WD _ _ (tVar _) _ _); refine wd_var rfl ?_) | with_reducible refine wd_int ?_ | with_reducible refine wd_bl ?_ | with_reducible refine wd_str ?_ | with_reducible refine wd_non ?_
  | with_reducible refine do_nesS ?_ | with_reducible refine dc_intB ?_ | with_reducible refine do_add ?_ | with_reducible refine do_sub ?_ | ((with_reducible refine do_mod ?_ ?_); decide) | with_reducible refine do_mod ?_ ?_ | with_reducible refine do_mul ?_ ?_ | ((with_reducible refine do_div ?_ ?_); exact ⟨by decide, by decide⟩) | with_reducible refine do_div ?_ ?_ | ((with_reducible refine do_pow ?_ ?_); exact ⟨by decide, by decide, by decide⟩) | with_reducible refine do_pow ?_ ?_
  | with_reducible refine do_lt ?_ | with_reducible refine do_le ?_ | with_reducible refine do_gt ?_ | with_reducible refine do_ge ?_ | with_reducible refine du_neg ?_
  | with_reducible refine do_eqi ?_ | with_reducible refine do_nei ?_ | with_reducible refine do_eqs ?_ | with_reducible refine do_nes ?_ | with_reducible refine dc_abs ?_ | with_reducible refine dc_min ?_ | with_reducible refine dc_max ?_ | with_reducible refine dc_lenL ?_ | with_reducible refine dc_lenT ?_ | with_reducible refine dc_lenR ?_ | with_reducible refine dc_listT ?_ | with_reducible refine dc_listL ?_ | with_reducible refine dc_tupL ?_ | with_reducible refine dc_gcd ?_
  | ((with_reducible show DO _ (rIxT _) _ _ _); refine do_ixT rfl ?_) | ((with_reducible show DO _ (rIxL _) _ _ _); refine do_ixL rfl ?_) | ((with_reducible refine do_catL ?_ ?_); exact Nat.le_of_ble_eq_true rfl) | with_reducible refine do_catL ?_ ?_ | ((with_reducible show And (List.length _ ≤ sizeLine) _); refine ⟨Nat.le_of_ble_eq_true rfl, ?_⟩)
  | with_reducible refine wd_dnew ?_ | with_reducible refine wd_call0 ?_ | with_reducible refine wd_slA ?_ | with_reducible refine wd_slL ?_ | with_reducible refine wd_revT ?_ | with_reducible refine do_catA ?_ ?_ | with_reducible refine wo_part ?_ | with_reducible refine wo_none ?_ | with_reducible refine do_eqQ ?_ | with_reducible refine do_neQ ?_ | with_reducible refine wi_enumT ?_ | with_reducible refine wi_enumD ?_ | with_reducible refine tAdQ (by omega) (by omega) ?_ | with_reducible refine tSbQ (by omega) (by omega) ?_ | with_reducible refine tMlQ (by omega) (by omega) ?_ | with_reducible refine tDvQ (by assumption) (by omega) (by omega) ?_ | with_reducible refine tLtQ (by omega) (by omega) ?_ | with_reducible refine dc_str ?_ ?_ | with_reducible refine wd_tup ?_ | with_reducible refine wd_lst ?_ | with_reducible refine wt_test ?_ | with_reducible refine wt_B ?_ | with_reducible refine wt_not ?_ | with_reducible refine wt_and ?_ | with_reducible refine wt_or ?_ | with_reducible refine wd_ifE ?_ | with_reducible refine wd_andV ?_ | with_reducible refine wd_orV ?_ | with_reducible refine wd_notV ?_
  | with_reducible refine ws_seq ?_ | with_reducible refine ws_next ?_ | with_reducible refine ws_asg ?_ | with_reducible refine ws_ret ?_ | with_reducible refine ws_retN ?_ | with_reducible refine ws_if ?_ | with_reducible refine ws_par ?_ | with_reducible refine ws_unp2 ?_
  | with_reducible refine if_t ?_ | with_reducible refine if_f ?_ | with_reducible refine if_nf ?_ | with_reducible refine if_nt ?_
  | ((with_reducible show Exists _); first | refine ⟨_, kitInt _, ?_⟩ | refine ⟨_, kitBool _, ?_⟩ | refine ⟨_, kitTup _, ?_⟩ | refine ⟨_, kitList _, ?_⟩ | refine ⟨_, rfl, ?_⟩ | refine ⟨_, _, rfl, ?_⟩ | fail) | fail))
def t_firsts (K : PySem.W.Frag) (aN : Addr) : TS :=
  (tSeq (tFor (iRng1 (tCons (tC (.int 5)) tNil)) (gName 2) (tSeq (tAsg (tCall (spS K FPot TAsked) [] E0 (tCons (tVar 0) (tCons (tVar 1) tNil))) (gTup K 2 (gCons (gName 3) (gCons (gName 4) gNil))))
    (tSeq (tAsg (tCallN 2 1 (spP K TFirst) gVapp E0 (tCons (tVar 1) (tCons (tVar 3) tNil)) (tCons (tVar 4) tNil)) (gName 5))
    (tSeq (tIfS (tNot (tB (tCall (spP K TFirstR) [] E0 (tCons (tVar 1) (tCons (tVar 3) (tCons (tVar 4) (tCons (tVar 5) tNil))))))) (tRet (tC (.bl false))) tNext)
    (tSeq (tIfS (tTest (tOp rNe (tCB (rReprZ K) (tCons (tCallN 2 1 (spP K TFirst) gVapp E0 (tCons (tVar 1) (tCons (tVar 3) tNil)) (tCons (tVar 4) tNil)) tNil)) (tCB (rReprZ K) (tCons (tVar 5) tNil)))) (tRet (tC (.bl false))) tNext)
    (tIfS (tTest (tOp rNe (tCB (rReprZ K) (tCons (tCall (spP K TFirst) [.ref aN] E0 (tCons (tVar 1) (tCons (tVar 3) tNil))) tNil)) (tCB (rReprZ K) (tCons (tCallN 2 1 (spP K TFirst) gVapp E0 (tCons (tVar 1) (tCons (tVar 3) tNil)) (tCons (tTup (tCons (tC (.int 0)) (tCons (tC (.int 1)) tNil))) tNil)) tNil)))) (tRet (tC (.bl false))) tNext))))))
    (tRet (tCall (spP K TRefA) [] E0 (tCons (tVar 1) (tCons (tTup (tCons (tC (.int 0)) (tCons (tC (.int 1)) tNil))) (tCons (tTup (tCons (tOp rSubI (tOp rSubI (tC (.int 0)) (tC (.int 1))) (tCall (spS K FPot TTake) [] E0 (tCons (tVar 0) (tCons (tC (.int 9)) tNil)))) (tCons (tC (.int 997)) tNil))) tNil))))))
section
variable {K : PySem.W.Frag} {S : Stt}
end
end DL

set_option Elab.async false
set_option linter.all false
set_option maxRecDepth 100000
set_option maxHeartbeats 4000000
/-! LS10: law k11 -/
namespace DL
open PySem PySem.Spec PyProof.Rows L2
local macro_rules | `(tactic| walk_at "dl") => `(tactic| repeat' (first
  | with_reducible refine wd_isTy ?_ | with_reducible refine wd_isi ?_ | ((with_reducible show WD _ _ (tOp (rIxL _) (tVar _) _) _ _); refine wd_ix_own rfl ?_) | with_reducible refine wd_op ?_ | ((with_reducible show WD _ _ (tCB (rLenX _) (tCons (tVar _) tNil)) _ _); refine wd_len_scr rfl ?_) | ((with_reducible show WD _ _ (tCB (rLenX _) (tCons (tVar _) tNil)) _ _); refine wd_len_own rfl ?_) | with_reducible refine wd_cb ?_ | with_reducible refine wd_un ?_ | with_reducible refine wa_cons ?_ | with_reducible refine wa_nil ?_ | ((with_reducible show WD _ _ (tVar _) _ _); refine wd_var rfl ?_) | with_reducible refine wd_int ?_ | with_reducible refine wd_bl ?_ | with_reducible refine wd_str ?_ | with_reducible refine wd_non ?_
  | with_reducible refine do_nesS ?_ | with_reducible refine dc_intB ?_ | with_reducible refine do_add ?_ | with_reducible refine do_sub ?_ | ((with_reducible refine do_mod ?_ ?_); decide) | with_reducible refine do_mod ?_ ?_ | with_reducible refine do_mul ?_ ?_ | ((with_reducible refine do_div ?_ ?_); exact ⟨by decide, by decide⟩) | with_reducible refine do_div ?_ ?_ | ((with_reducible refine do_pow ?_ ?_); exact ⟨by decide, by decide, by decide⟩) | with_reducible refine do_pow ?_ ?_
  | with_reducible refine do_lt ?_ | with_reducible refine do_le ?_ | with_reducible refine do_gt ?_ | with_reducible refine do_ge ?_ | with_reducible refine du_neg ?_
  | with_reducible refine do_eqi ?_ | with_reducible refine do_nei ?_ | with_reducible refine do_eqs ?_ | with_reducible refine do_nes ?_ | with_reducible refine dc_abs ?_ | with_reducible refine dc_min ?_ | with_reducible refine dc_max ?_ | with_reducible refine dc_lenL ?_ | with_reducible refine dc_lenT ?_ | with_reducible refine dc_lenR ?_ | with_reducible refine dc_listT ?_ | with_reducible refine dc_listL ?_ | with_reducible refine dc_tupL ?_ | with_reducible refine dc_gcd ?_
  | ((with_reducible show DO _ (rIxT _) _ _ _); refine do_ixT rfl ?_) | ((with_reducible show DO _ (rIxL _) _ _ _); refine do_ixL rfl ?_) | ((with_reducible refine do_catL ?_ ?_); exact Nat.le_of_ble_eq_true rfl) | with_reducible refine do_catL ?_ ?_ | ((with_reducible show And (List.length _ ≤ sizeLine) _); refine ⟨Nat.le_of_ble_eq_true rfl, ?_⟩)
  | with_reducible refine wd_dnew ?_ | with_reducible refine wd_call0 ?_ | with_reducible refine wd_slA ?_ | with_reducible refine wd_slL ?_ | with_reducible refine wd_revT ?_ | with_reducible refine do_catA ?_ ?_ | with_reducible refine wo_part ?_ | with_reducible refine wo_none ?_ | with_reducible refine do_eqQ ?_ | with_reducible refine do_neQ ?_ | with_reducible refine wi_enumT ?_ | with_reducible refine wi_enumD ?_ | with_reducible refine tAdQ (by omega) (by omega) ?_ | with_reducible refine tSbQ (by omega) (by omega) ?_ | with_reducible refine tMlQ (by omega) (by omega) ?_ | with_reducible refine tDvQ (by assumption) (by omega) (by omega) ?_ | with_reducible refine tLtQ (by omega) (by omega) ?_ | with_reducible refine dc_str ?_ ?_ | with_reducible refine wd_tup ?_ | with_reducible refine wd_lst ?_ | with_reducible refine wt_test ?_ | with_reducible refine wt_B ?_ | with_reducible refine wt_not ?_ | with_reducible refine wt_and ?_ | with_reducible refine wt_or ?_ | with_reducible refine wd_ifE ?_ | with_reducible refine wd_andV ?_ | with_reducible refine wd_orV ?_ | with_reducible refine wd_notV ?_
  | with_reducible refine ws_seq ?_ | with_reducible refine ws_next ?_ | with_reducible refine ws_asg ?_ | with_reducible refine ws_ret ?_ | with_reducible refine ws_retN ?_ | with_reducible refine ws_if ?_ | with_reducible refine ws_par ?_ | with_reducible refine ws_unp2 ?_
  | with_reducible refine if_t ?_ | with_reducible refine if_f ?_ | with_reducible refine if_nf ?_ | with_reducible refine if_nt ?_
  | ((with_reducible show Exists _); first | refine ⟨_, kitInt _, ?_⟩ | refine ⟨_, kitBool _, ?_⟩ | refine ⟨_, kitTup _, ?_⟩ | refine ⟨_, kitList _, ?_⟩ | refine ⟨_, rfl, ?_⟩ | refine ⟨_, _, rfl, ?_⟩ | fail) | fail))
def t_b11 (K : PySem.W.Frag) : TS :=
  (tSeq (tAsg (tOp (rNeD K) (tLc (iRng1 (tCons (tCB (rLenX K) (tCons (tOp (rIxT K) (tVar 5) (tC (.int 0))) tNil)) tNil)) (gName 12) (tTest (tOp rLt (tOp (rIxT K) (tCall (spP K TSlope) [] E0 (tCons (tVar 5) (tCons (tVar 12) tNil))) (tC (.int 0))) (tC (.int 0)))) (tC (.int 1)) [12]) (tLst tNil)) (gName 7))
    (tSeq (tAsg (tTup (tCons (tOp (rIxT K) (tVar 5) (tC (.int 0))) (tCons (tTup (tCons (tOp rAddI (tCB rAbsX (tCons (tOp (rIxT K) (tOp (rIxT K) (tVar 5) (tC (.int 1))) (tC (.int 0))) tNil)) (tOp rPowI (tC (.int 10)) (tC (.int 5)))) (tCons (tC (.int 1)) tNil))) tNil))) (gName 8))
    (tSeq (tAsg (tOp (rNeD K) (tLc (iRng1 (tCons (tOp rSubI (tCB (rLenX K) (tCons (tOp (rIxT K) (tVar 5) (tC (.int 0))) tNil)) (tC (.int 1))) tNil)) (gName 12) (tTest (tOp rLt (tOp (rIxT K) (tCall (spP K TSlope) [] E0 (tCons (tVar 5) (tCons (tVar 12) tNil))) (tC (.int 0))) (tC (.int 0)))) (tC (.int 1)) [12]) (tLst tNil)) (gName 9))
    (tSeq (tIfS (tTest (tOp rNe (tCB (rReprZ K) (tCons (tLst (tCons (tCall (spP K TNever) [] E0 (tCons (tVar 5) tNil)) (tCons (tCall (spP K TNever) [] E0 (tCons (tVar 8) tNil)) tNil))) tNil)) (tCB (rReprZ K) (tCons (tLst (tCons (tNotV (tVar 7)) (tCons (tNotV (tVar 9)) tNil))) tNil)))) (tRet (tC (.bl false))) tNext)
    (tFor (iRng1 (tCons (tC (.int 2)) tNil)) (gName 10) (tSeq (tAsg (tLst (tCons (tCall (spP K TUnlike) [] E0 (tCons (tVar 5) (tCons (tVar 6) tNil))) (tCons (tCall (spP K TUnlike) [] E0 (tCons (tVar 6) (tCons (tVar 5) tNil))) (tCons (tCall (spP K TUnlike) [] E0 (tCons (tVar 5) (tCons (tVar 5) tNil))) tNil)))) (gName 11))
    (tIfS (tTest (tOp rNe (tCB (rReprZ K) (tCons (tLst (tCons (tCall (spP K TUnlike) [] E0 (tCons (tVar 5) (tCons (tVar 6) tNil))) (tCons (tCall (spP K TUnlike) [] E0 (tCons (tVar 6) (tCons (tVar 5) tNil))) (tCons (tCall (spP K TUnlike) [] E0 (tCons (tVar 5) (tCons (tVar 5) tNil))) tNil)))) tNil)) (tCB (rReprZ K) (tCons (tVar 11) tNil)))) (tRet (tC (.bl false))) tNext)))))))
def t_law11 (K : PySem.W.Frag) : TS :=
  (tSeq (tFor (iEnum K (tCons (tOp rCatL (tLst (tCons (tC (.int 0)) tNil)) (tCall (spF K) [] E0 (tCons (tVar 0) (tCons (tC (.int 20)) tNil)))) tNil)) (gTup K 2 (gCons (gName 1) (gCons (gName 2) gNil))) (tSeq (tAsg (tCall (spN K TPot) [] E0 (tCons (tVar 2) (tCons (tVar 1) tNil))) (gName 3))
    (tSeq (tAsg (tOp (rIxL K) (tLst (tCons (tC (.int 10)) (tCons (tC (.int 60)) tNil))) (tCB rInt1 (tCons (tOp rEq (tVar 1) (tC (.int 1))) tNil))) (gName 4))
    (tSeq (tAsg (tCall (spS K FPot TLine) [] E0 (tCons (tVar 3) (tCons (tVar 4) tNil))) (gName 5))
    (tSeq (tAsg (tOp (rIxL K) (tLst (tCons (tVar 5) (tCons (tCall (spS K FPot TLine) [] E0 (tCons (tVar 3) (tCons (tVar 4) tNil))) (tCons (tCall (spS K FPot TBentL) [] E0 (tCons (tVar 3) (tCons (tVar 5) tNil))) tNil)))) (tCall (spS K FPot TTake) [] E0 (tCons (tVar 3) (tCons (tC (.int 3)) tNil)))) (gName 6))
    (tSeq (tIfS (tNot (tB (tCall (spS K FPot TFirsts) [] E0 (tCons (tVar 3) (tCons (tVar 5) tNil))))) (tRet (tC (.bl false))) tNext)
    (tSeq (tAsg (tOp (rNeD K) (tLc (iRng1 (tCons (tCB (rLenX K) (tCons (tOp (rIxT K) (tVar 5) (tC (.int 0))) tNil)) tNil)) (gName 12) (tTest (tOp rLt (tOp (rIxT K) (tCall (spP K TSlope) [] E0 (tCons (tVar 5) (tCons (tVar 12) tNil))) (tC (.int 0))) (tC (.int 0)))) (tC (.int 1)) [12]) (tLst tNil)) (gName 7))
    (tSeq (tAsg (tTup (tCons (tOp (rIxT K) (tVar 5) (tC (.int 0))) (tCons (tTup (tCons (tOp rAddI (tCB rAbsX (tCons (tOp (rIxT K) (tOp (rIxT K) (tVar 5) (tC (.int 1))) (tC (.int 0))) tNil)) (tOp rPowI (tC (.int 10)) (tC (.int 5)))) (tCons (tC (.int 1)) tNil))) tNil))) (gName 8))
    (tSeq (tAsg (tOp (rNeD K) (tLc (iRng1 (tCons (tOp rSubI (tCB (rLenX K) (tCons (tOp (rIxT K) (tVar 5) (tC (.int 0))) tNil)) (tC (.int 1))) tNil)) (gName 12) (tTest (tOp rLt (tOp (rIxT K) (tCall (spP K TSlope) [] E0 (tCons (tVar 5) (tCons (tVar 12) tNil))) (tC (.int 0))) (tC (.int 0)))) (tC (.int 1)) [12]) (tLst tNil)) (gName 9))
    (tSeq (tIfS (tTest (tOp rNe (tCB (rReprZ K) (tCons (tLst (tCons (tCall (spP K TNever) [] E0 (tCons (tVar 5) tNil)) (tCons (tCall (spP K TNever) [] E0 (tCons (tVar 8) tNil)) tNil))) tNil)) (tCB (rReprZ K) (tCons (tLst (tCons (tNotV (tVar 7)) (tCons (tNotV (tVar 9)) tNil))) tNil)))) (tRet (tC (.bl false))) tNext)
    (tFor (iRng1 (tCons (tC (.int 2)) tNil)) (gName 10) (tSeq (tAsg (tLst (tCons (tCall (spP K TUnlike) [] E0 (tCons (tVar 5) (tCons (tVar 6) tNil))) (tCons (tCall (spP K TUnlike) [] E0 (tCons (tVar 6) (tCons (tVar 5) tNil))) (tCons (tCall (spP K TUnlike) [] E0 (tCons (tVar 5) (tCons (tVar 5) tNil))) tNil)))) (gName 11))
    (tIfS (tTest (tOp rNe (tCB (rReprZ K) (tCons (tLst (tCons (tCall (spP K TUnlike) [] E0 (tCons (tVar 5) (tCons (tVar 6) tNil))) (tCons (tCall (spP K TUnlike) [] E0 (tCons (tVar 6) (tCons (tVar 5) tNil))) (tCons (tCall (spP K TUnlike) [] E0 (tCons (tVar 5) (tCons (tVar 5) tNil))) tNil)))) tNil)) (tCB (rReprZ K) (tCons (tVar 11) tNil)))) (tRet (tC (.bl false))) tNext)))))))))))))
    (tRet (tC (.bl true))))
/-- of so many ones -/
def onesD (n : Nat) : PyData := .list (List.replicate n (.int 1))
noncomputable def nFall (ks : Kn) (s : Rat) (k : Nat) : Nat := ((List.range k).filter fun i => decide (slp ks s i < 0)).length
section
variable {K : PySem.W.Frag} {S : Stt}
end
end DL

set_option Elab.async false
set_option linter.all false
set_option maxRecDepth 100000
set_option maxHeartbeats 4000000
/-! LS11: a promise weakened -/
namespace DL
open PySem PySem.Spec PyProof.Rows L2
theorem spP_imp {K : PySem.W.Frag} {T T' : List PyData → (PyData → Prop) → Prop} (hT : ∀ ds Φ, T' ds Φ → T ds Φ) {vs : List V} {H : Hp} {Q : VK} {E : XK} (h : spP K T' vs H Q E) : spP K T vs H Q E := by
  obtain ⟨N, ds, Φ, h1, h2, h3, h4⟩ := h
  exact ⟨N, ds, Φ, h1, h2, hT _ _ h3, h4⟩
theorem slopes_up {ds : List PyData} {Φ : PyData → Prop} (h : TSlopes ds Φ) : TSlopesR ds Φ := by
  obtain ⟨ks, s, B, rfl, hb, ri, hp, hl, hB, hΦ⟩ := h
  exact ⟨false, ks, s, B, rfl, ⟨hb, hl, by have := hb.s; have := sz_pos s; omega, hB⟩, ri, hp, hΦ⟩
end DL

set_option Elab.async false
set_option linter.all false
set_option maxRecDepth 100000
set_option maxHeartbeats 4000000
/-! BQ3: law k57 -/
namespace DL
open PySem PySem.Spec PyProof.Rows L2
def TGoalD : Nat → List PyData → (PyData → Nat → Prop) → Prop := fun B ds Φ => ∃ (bs : Kn) (kept : Bool), ds = [knD bs, .bool kept] ∧ Bd 28 bs ∧ B ≤ 2 ^ 38 ∧ ∀ g B', B' ≤ B + 20 → sz g ≤ 22 → Φ (qp g) B'
def TLeastR : List PyData → (PyData → Prop) → Prop := fun ds Φ => ∃ (bs : Kn) (g : Rat) (o : Option Rat) (kept : Bool), ds = [knD bs, qp g, oqD o, .bool kept] ∧ Bd 28 bs ∧ sz g ≤ 22 ∧ LeastP bs kept g o ∧ (∀ r, o = some r → sz r ≤ 1400) ∧ Φ (.bool true)
local macro_rules | `(tactic| walk_at "dl") => `(tactic| repeat' (first
  | with_reducible refine wd_isTy ?_ | with_reducible refine wd_isi ?_ | ((with_reducible show WD _ _ (tOp (rIxL _) (tVar _) _) _ _); refine wd_ix_own rfl ?_) | with_reducible refine wd_op ?_ | ((with_reducible show WD _ _ (tCB (rLenX _) (tCons (tVar _) tNil)) _ _); refine wd_len_scr rfl ?_) | ((with_reducible show WD _ _ (tCB (rLenX _) (tCons (tVar _) tNil)) _ _); refine wd_len_own rfl ?_) | with_reducible refine wd_cb ?_ | with_reducible refine wd_un ?_ | with_reducible refine wa_cons ?_ | with_reducible refine wa_nil ?_ | ((with_reducible show WD _ _ (tVar _) _ _); refine wd_var rfl ?_) | with_reducible refine wd_int ?_ | with_reducible refine wd_bl ?_ | with_reducible refine wd_str ?_ | with_reducible refine wd_non ?_
  | with_reducible refine do_nesS ?_ | with_reducible refine dc_intB ?_ | with_reducible refine do_add ?_ | with_reducible refine do_sub ?_ | ((with_reducible refine do_mod ?_ ?_); decide) | with_reducible refine do_mod ?_ ?_ | with_reducible refine do_mul ?_ ?_ | ((with_reducible refine do_div ?_ ?_); exact ⟨by decide, by decide⟩) | with_reducible refine do_div ?_ ?_ | ((with_reducible refine do_pow ?_ ?_); exact ⟨by decide, by decide, by decide⟩) | with_reducible refine do_pow ?_ ?_
  | with_reducible refine do_lt ?_ | with_reducible refine do_le ?_ | with_reducible refine do_gt ?_ | with_reducible refine do_ge ?_ | with_reducible refine du_neg ?_
  | with_reducible refine do_eqi ?_ | with_reducible refine do_nei ?_ | with_reducible refine do_eqs ?_ | with_reducible refine do_nes ?_ | with_reducible refine dc_abs ?_ | with_reducible refine dc_min ?_ | with_reducible refine dc_max ?_ | with_reducible refine dc_lenL ?_ | with_reducible refine dc_lenT ?_ | with_reducible refine dc_lenR ?_ | with_reducible refine dc_listT ?_ | with_reducible refine dc_listL ?_ | with_reducible refine dc_tupL ?_ | with_reducible refine dc_gcd ?_
  | ((with_reducible show DO _ (rIxT _) _ _ _); refine do_ixT rfl ?_) | ((with_reducible show DO _ (rIxL _) _ _ _); refine do_ixL rfl ?_) | ((with_reducible refine do_catL ?_ ?_); exact Nat.le_of_ble_eq_true rfl) | with_reducible refine do_catL ?_ ?_ | ((with_reducible show And (List.length _ ≤ sizeLine) _); refine ⟨Nat.le_of_ble_eq_true rfl, ?_⟩)
  | with_reducible refine wd_dnew ?_ | with_reducible refine wd_call0 ?_ | with_reducible refine wd_slA ?_ | with_reducible refine wd_slL ?_ | with_reducible refine wd_revT ?_ | with_reducible refine do_catA ?_ ?_ | with_reducible refine wo_part ?_ | with_reducible refine wo_none ?_ | with_reducible refine do_eqQ ?_ | with_reducible refine do_neQ ?_ | with_reducible refine wi_enumT ?_ | with_reducible refine wi_enumD ?_ | with_reducible refine tAdQ (by omega) (by omega) ?_ | with_reducible refine tSbQ (by omega) (by omega) ?_ | with_reducible refine tMlQ (by omega) (by omega) ?_ | with_reducible refine tDvQ (by assumption) (by omega) (by omega) ?_ | with_reducible refine tLtQ (by omega) (by omega) ?_ | with_reducible refine dc_str ?_ ?_ | with_reducible refine wd_tup ?_ | with_reducible refine wd_lst ?_ | with_reducible refine wt_test ?_ | with_reducible refine wt_B ?_ | with_reducible refine wt_not ?_ | with_reducible refine wt_and ?_ | with_reducible refine wt_or ?_ | with_reducible refine wd_ifE ?_ | with_reducible refine wd_andV ?_ | with_reducible refine wd_orV ?_ | with_reducible refine wd_notV ?_
  | with_reducible refine ws_seq ?_ | with_reducible refine ws_next ?_ | with_reducible refine ws_asg ?_ | with_reducible refine ws_ret ?_ | with_reducible refine ws_retN ?_ | with_reducible refine ws_if ?_ | with_reducible refine ws_par ?_ | with_reducible refine ws_unp2 ?_
  | with_reducible refine if_t ?_ | with_reducible refine if_f ?_ | with_reducible refine if_nf ?_ | with_reducible refine if_nt ?_
  | ((with_reducible show Exists _); first | refine ⟨_, kitInt _, ?_⟩ | refine ⟨_, kitBool _, ?_⟩ | refine ⟨_, kitTup _, ?_⟩ | refine ⟨_, kitList _, ?_⟩ | refine ⟨_, rfl, ?_⟩ | refine ⟨_, _, rfl, ?_⟩ | fail) | fail))
def t_goald (K : PySem.W.Frag) : TS :=
  (tSeq (tAsg (tCall (spP K THas) [] E0 (tCons (tVar 1) (tCons (tCall (spS K FPot TTotalD) [] E0 (tCons (tVar 0) (tCons (tVar 1) tNil))) (tCons (tVar 2) tNil)))) (gName 3))
    (tSeq (tAsg (tOp (rIxL K) (tLst (tCons (tVar 3) (tCons (tCall (spP K TAdQ) [] E0 (tCons (tVar 3) (tCons (tTup (tCons (tC (.int 1)) (tCons (tC (.int 1)) tNil))) tNil))) (tCons (tCall (spP K TAdQ) [] E0 (tCons (tVar 3) (tCons (tTup (tCons (tC (.int 1)) (tCons (tC (.int 2)) tNil))) tNil))) (tCons (tTup (tCons (tC (.int 0)) (tCons (tC (.int 1)) tNil))) (tCons (tTup (tCons (tUn rNegI (tC (.int 1))) (tCons (tC (.int 2)) tNil))) (tCons (tTup (tCons (tOp rPowI (tC (.int 10)) (tC (.int 6))) (tCons (tC (.int 1)) tNil))) tNil))))))) (tCall (spS K FPot TTake) [] E0 (tCons (tVar 0) (tCons (tC (.int 6)) tNil)))) (gName 3))
    (tRet (tIf (tAnd (tTest (tOp rLe (tOp (rIxT K) (tVar 3) (tC (.int 1))) (tC (.int 1000)))) (tTest (tOp rLe (tOp (rIxT K) (tVar 3) (tC (.int 0))) (tOp rPowI (tC (.int 10)) (tC (.int 6)))))) (tVar 3) (tTup (tCons (tCB rMinX (tCons (tOp rPowI (tC (.int 10)) (tC (.int 6))) (tCons (tOp rDivI (tOp (rIxT K) (tVar 3) (tC (.int 0))) (tOp (rIxT K) (tVar 3) (tC (.int 1)))) tNil))) (tCons (tC (.int 1)) tNil)))))))
def t_leastr (K : PySem.W.Frag) : TS :=
  (tSeq (tIfS (tTest (tOp rLe (tOp (rIxT K) (tVar 1) (tC (.int 0))) (tC (.int 0)))) (tRet (tOp (rEqD K) (tVar 2) (tTup (tCons (tC (.int 0)) (tCons (tC (.int 1)) tNil))))) tNext)
    (tSeq (tIfS (tTest (tOp rIsNone (tVar 2) (tC .non))) (tSeq (tAsg (tOp (rIxT K) (tVar 0) (tUn rNegI (tC (.int 1)))) (gTup K 2 (gCons (gName 4) (gCons (gName 5) gNil))))
    (tRet (tAndV (tCall (spP K TLtQ) [] E0 (tCons (tCall (spP K THas) [] E0 (tCons (tVar 0) (tCons (tVar 4) (tCons (tVar 3) tNil)))) (tCons (tVar 1) tNil))) (tOp (rEqD K) (tVar 5) (tOp (rIxL K) (tLst (tCons (tTup (tCons (tC (.int 0)) (tCons (tC (.int 1)) tNil))) (tCons (tTup (tCons (tC (.int 1)) (tCons (tC (.int 1)) tNil))) tNil))) (tCB rInt1 (tCons (tVar 3) tNil))))))) tNext)
    (tSeq (tIfS (tOr (tNot (tB (tCB (rIsi K) (tCons (tVar 2) (tCons (tC (.ty "tuple")) tNil))))) (tOr (tTest (tOp rNe (tCB (rLenX K) (tCons (tVar 2) tNil)) (tC (.int 2)))) (tOr (tTest (tOp rLt (tOp (rIxT K) (tVar 2) (tC (.int 0))) (tC (.int 1)))) (tTest (tOp rLt (tOp (rIxT K) (tVar 2) (tC (.int 1))) (tC (.int 1))))))) (tRet (tC (.bl false))) tNext)
    (tSeq (tIfS (tOr (tTest (tOp (rNeD K) (tCall (spP K TLow) [] E0 (tCons (tOp (rIxT K) (tVar 2) (tC (.int 0))) (tCons (tOp (rIxT K) (tVar 2) (tC (.int 1))) tNil))) (tVar 2))) (tTest (tOp (rNeD K) (tCall (spP K THas) [] E0 (tCons (tVar 0) (tCons (tVar 2) (tCons (tVar 3) tNil)))) (tVar 1)))) (tRet (tC (.bl false))) tNext)
    (tSeq (tAsg (tOp (rIxL K) (tLc (iTup K (tVar 0)) (gTup K 2 (gCons (gName 4) (gCons (gName 5) gNil))) (tB (tCall (spP K TLtQ) [] E0 (tCons (tVar 4) (tCons (tVar 2) tNil)))) (tVar 4) [4, 5]) (tUn rNegI (tC (.int 1)))) (gName 6))
    (tRet (tCall (spP K TLtQ) [] E0 (tCons (tCall (spP K THas) [] E0 (tCons (tVar 0) (tCons (tVar 6) (tCons (tVar 3) tNil)))) (tCons (tVar 1) tNil)))))))))
def t_b57 (K : PySem.W.Frag) : TS :=
  (tFor (iRng1 (tCons (tC (.int 5)) tNil)) (gName 6) (tSeq (tAsg (tCall (spS K FPot TGoalD) [] E0 (tCons (tVar 3) (tCons (tVar 5) (tCons (tC (.bl true)) tNil)))) (gName 7))
    (tSeq (tAsg (tCall (spP K TLeastL) [] E0 (tCons (tVar 5) (tCons (tVar 7) tNil))) (gName 8))
    (tSeq (tIfS (tOr (tNot (tB (tCall (spP K TLeastR) [] E0 (tCons (tVar 5) (tCons (tVar 7) (tCons (tVar 8) (tCons (tC (.bl true)) tNil))))))) (tTest (tOp rNe (tCB (rReprZ K) (tCons (tCall (spP K TLeastL) [] E0 (tCons (tVar 5) (tCons (tVar 7) tNil))) tNil)) (tCB (rReprZ K) (tCons (tVar 8) tNil))))) (tRet (tC (.bl false))) tNext)
    (tSeq (tAsg (tCall (spS K FPot TGoalD) [] E0 (tCons (tVar 3) (tCons (tVar 5) (tCons (tC (.bl false)) tNil)))) (gName 7))
    (tSeq (tAsg (tCall (spP K TLeastT) [] E0 (tCons (tVar 5) (tCons (tVar 7) tNil))) (gName 8))
    (tIfS (tOr (tNot (tB (tCall (spP K TLeastR) [] E0 (tCons (tVar 5) (tCons (tVar 7) (tCons (tVar 8) (tCons (tC (.bl false)) tNil))))))) (tTest (tOp rNe (tCB (rReprZ K) (tCons (tCall (spP K TLeastT) [] E0 (tCons (tVar 5) (tCons (tVar 7) tNil))) tNil)) (tCB (rReprZ K) (tCons (tVar 8) tNil))))) (tRet (tC (.bl false))) tNext)))))))
def t_law57 (K : PySem.W.Frag) : TS :=
  (tSeq (tFor (iEnum K (tCons (tOp rCatL (tLst (tCons (tC (.int 0)) tNil)) (tCall (spF K) [] E0 (tCons (tVar 0) (tCons (tC (.int 16)) tNil)))) tNil)) (gTup K 2 (gCons (gName 1) (gCons (gName 2) gNil))) (tSeq (tAsg (tCall (spN K TPot) [] E0 (tCons (tVar 2) (tCons (tVar 1) tNil))) (gName 3))
    (tSeq (tAsg (tCall (spS K FPot TTake) [] E0 (tCons (tVar 3) (tCons (tC (.int 4)) tNil))) (gName 4))
    (tSeq (tAsg (tCall (spS K FPot TBandsD) [] E0 (tCons (tVar 3) (tCons (tOp (rIxL K) (tLst (tCons (tC (.int 12)) (tCons (tC (.int 20)) tNil))) (tCB rInt1 (tCons (tOp rEq (tVar 1) (tC (.int 1))) tNil))) tNil))) (gName 5))
    (tSeq (tIfS (tTest (tOp rLt (tVar 4) (tC (.int 2)))) (tAsg (tOp (rCatA K) (tSl (rSlA K) (tVar 5) tNoPart (tPart (tUn rNegI (tC (.int 1))))) (tTup (tCons (tTup (tCons (tOp (rIxT K) (tOp (rIxT K) (tVar 5) (tUn rNegI (tC (.int 1)))) (tC (.int 0))) (tCons (tTup (tCons (tVar 4) (tCons (tC (.int 1)) tNil))) tNil))) tNil))) (gName 5)) tNext)
    (tFor (iRng1 (tCons (tC (.int 5)) tNil)) (gName 6) (tSeq (tAsg (tCall (spS K FPot TGoalD) [] E0 (tCons (tVar 3) (tCons (tVar 5) (tCons (tC (.bl true)) tNil)))) (gName 7))
    (tSeq (tAsg (tCall (spP K TLeastL) [] E0 (tCons (tVar 5) (tCons (tVar 7) tNil))) (gName 8))
    (tSeq (tIfS (tOr (tNot (tB (tCall (spP K TLeastR) [] E0 (tCons (tVar 5) (tCons (tVar 7) (tCons (tVar 8) (tCons (tC (.bl true)) tNil))))))) (tTest (tOp rNe (tCB (rReprZ K) (tCons (tCall (spP K TLeastL) [] E0 (tCons (tVar 5) (tCons (tVar 7) tNil))) tNil)) (tCB (rReprZ K) (tCons (tVar 8) tNil))))) (tRet (tC (.bl false))) tNext)
    (tSeq (tAsg (tCall (spS K FPot TGoalD) [] E0 (tCons (tVar 3) (tCons (tVar 5) (tCons (tC (.bl false)) tNil)))) (gName 7))
    (tSeq (tAsg (tCall (spP K TLeastT) [] E0 (tCons (tVar 5) (tCons (tVar 7) tNil))) (gName 8))
    (tIfS (tOr (tNot (tB (tCall (spP K TLeastR) [] E0 (tCons (tVar 5) (tCons (tVar 7) (tCons (tVar 8) (tCons (tC (.bl false)) tNil))))))) (tTest (tOp rNe (tCB (rReprZ K) (tCons (tCall (spP K TLeastT) [] E0 (tCons (tVar 5) (tCons (tVar 7) tNil))) tNil)) (tCB (rReprZ K) (tCons (tVar 8) tNil))))) (tRet (tC (.bl false))) tNext))))))))))))
    (tRet (tC (.bl true))))
section
variable {K : PySem.W.Frag} {S : Stt}
end
section
variable {K : PySem.W.Frag} {ds : List PyData} {Φ : PyData → Prop}
end
section
variable {K : PySem.W.Frag} {S : Stt}
end
end DL

set_option Elab.async false
set_option linter.all false
set_option maxRecDepth 100000
set_option maxHeartbeats 4000000
/-! DMF: a call of a def that a local name holds, which may be refused; promises joined -/
namespace DL
open PySem PySem.Spec PyProof.Rows L2
section
variable {P : Program} {w : World} {K : PySem.W.Frag} {mg : Str → Option Value} {base : Heap} {CX : CXT} {k : Nat} {f : Addr} {fd : FuncData} {ps : List Str} {sp sp1 sp2 : Sp}
/-- what raises nothing keeps any wish of what is raised -/
theorem fn_any (F : FnOk P w K mg base CX0 k f fd ps sp) : FnOk P w K mg base CX k f fd ps sp :=
  ⟨F.len, fun A outer s H args us vs Q E hr he hb hv hs => codeAny_mono (F.run A outer s H args us vs Q E hr he hb hv hs) fun r s' hq => match r, hq with
    | .ok (.ret _), hq => hq
    | .ok .next, hq => hq.elim
    | .ok .brk, hq => hq.elim
    | .ok .cont, hq => hq.elim
    | .error _, hq => hq.elim⟩
theorem fn_or (F1 : FnOk P w K mg base CX k f fd ps sp1) (F2 : FnOk P w K mg base CX k f fd ps sp2) (h : ∀ vs H Q E, sp vs H Q E → sp1 vs H Q E ∨ sp2 vs H Q E) : FnOk P w K mg base CX k f fd ps sp :=
  ⟨fun vs H Q E q => (h vs H Q E q).elim (F1.len vs H Q E) (F2.len vs H Q E), fun A outer s H args us vs Q E hr he hb hv hs => (h vs H Q E hs).elim (F1.run A outer s H args us vs Q E hr he hb hv) (F2.run A outer s H args us vs Q E hr he hb hv)⟩
/-- what a local name may hold: a def, its defaults filled up -/
structure HeldS (P : Program) (w : World) (K : PySem.W.Frag) (mg : Str → Option Value) (base : Heap) (CX : CXT) (k : Nat) (f : Addr) (sp : Sp) : Prop where
  ex : ∃ (fd : FuncData) (ps : List Str) (ds : List Value) (dvs : List V) (sp0 : Sp), FnOk P w K mg base CX k f fd ps sp0 ∧ PySem.W.keepIn K (.ref f) = true ∧ Binds K fd ps ds ∧ Vals dvs ds ∧ ∀ vs H Q E, sp vs H Q E → sp0 (vs ++ dvs) H Q E
/-- the same, called by places and names -/
structure HeldK (P : Program) (w : World) (K : PySem.W.Frag) (mg : Str → Option Value) (base : Heap) (CX : CXT) (k n : Nat) (ks : List Str) (f : Addr) (sp : Sp) (gV : List V → List V → List V) : Prop where
  ex : ∃ (fd : FuncData) (ps : List Str) (g : List Value → List Value → List Value), FnOk P w K mg base CX k f fd ps sp ∧ PySem.W.keepIn K (.ref f) = true ∧ KBn K fd ps n ks g gV
end
def tCallF (i : Nat) (S : Addr → Sp → Prop) (E : L2.St → XK) (t : TA) : TE := fun σ H Q => ∃ f sp, σ[i]? = some (some (.ref f)) ∧ S f sp ∧ t σ H fun vs H1 => sp vs H1 Q (E σ)
def tCallFk (i n m : Nat) (S : Addr → Sp → Prop) (gV : List V → List V → List V) (E : L2.St → XK) (t tk : TA) : TE := fun σ H Q => ∃ f sp, σ[i]? = some (some (.ref f)) ∧ S f sp ∧ t σ H fun vs H1 => tk σ H1 fun zs H2 => vs.length = n ∧ zs.length = m ∧ sp (gV vs zs) H2 Q (E σ)
section
variable {X : Cx} {CX : CXT} {k i n : Nat} {S : Addr → Sp → Prop} {E : L2.St → XK} {x : Str} {p pos : Pos} {e : Expr} {es : List Expr} {kws : List Keyword} {ks : List Str} {t tk : TA} {gV : List V → List V → List V}
theorem pe_callF (A : ∀ f sp, S f sp → HeldS X.prog X.w X.K X.mg X.base CX k f sp) (hr : Room k X.A) (hN : X.N[i]? = some x) (hv : Vis X.env.scope x) (hx : ∀ σ, PassesAt CX X σ (E σ)) (ha : PA X (e :: es) t)
    (hdb : (x == ("__debug__" : Str)) = false := by decide) (hcd : (x == ("__classdict__" : Str)) = false := by decide)
    (he : starEach (e :: es) X.env = (false, eval e X.env) :: starEach es X.env := by rfl) (hpl : (backTo pos (starEach es X.env)).any (·.1) = false := by rfl) : PE X (.Call (.Name x p) (e :: es) [] pos) (tCallF i S E t) := by
  refine ⟨fun pins s σ H Q I h => ?_⟩
  obtain ⟨f, sp, hs, hS, ht⟩ := h
  obtain ⟨fd, ps, ds, dvs, sp0, F, hk, hb, hd, imp⟩ := (A f sp hS).ex
  refine wpAny_Call_Name_kw (thn ((pe_var (pos := p) hN hv hdb hcd).run pins s σ H (fun v H1 => v = .ref f ∧ H1 = H) I ⟨.ref f, hs, rfl, rfl⟩) fun u s1 ⟨v, H1, I1, r1, q1⟩ => ?_)
  obtain ⟨rfl, rfl⟩ := q1
  cases r1
  refine PySem.W.callWith_K (h₀ := X.base) I.ok.mod.kin hk (thn (ha.run pos pins s1 σ _ _ I1 ht) fun us s2 ⟨vs, H2, I2, r, q⟩ => ⟨I2.kIn, ?_⟩) he hpl
  exact run_fnSD F hr hb hd (hx σ) I2 r (imp _ _ _ _ q)
theorem pe_callFk (A : ∀ f sp, S f sp → HeldK X.prog X.w X.K X.mg X.base CX k n ks f sp gV) (hr : Room k X.A) (hN : X.N[i]? = some x) (hv : Vis X.env.scope x) (hx : ∀ σ, PassesAt CX X σ (E σ)) (ha : PA X (e :: es) t) (hkw : PK X kws tk)
    (hall : (backToKw pos (keywordEach kws X.env)).all (·.1.isSome) = true := by rfl) (hks : (backToKw pos (keywordEach kws X.env)).filterMap (·.1) = ks := by rfl) (hdb : (x == ("__debug__" : Str)) = false := by decide) (hcd : (x == ("__classdict__" : Str)) = false := by decide)
    (he : starEach (e :: es) X.env = (false, eval e X.env) :: starEach es X.env := by rfl) (hpl : ((backTo pos (starEach (e :: es) X.env)).any (·.1) || (backToKw pos (keywordEach kws X.env)).any (·.1.isNone)) = false := by rfl) : PE X (.Call (.Name x p) (e :: es) kws pos) (tCallFk i n ks.length S gV E t tk) := by
  refine ⟨fun pins s σ H Q I h => ?_⟩
  obtain ⟨f, sp, hs, hS, ht⟩ := h
  obtain ⟨fd, ps, g, F, hk, hb⟩ := (A f sp hS).ex
  refine wpAny_Call_Name_kw (thn ((pe_var (pos := p) hN hv hdb hcd).run pins s σ H (fun v H1 => v = .ref f ∧ H1 = H) I ⟨.ref f, hs, rfl, rfl⟩) fun u s0 ⟨v, H0, I0, r1, q1⟩ => ?_)
  obtain ⟨rfl, rfl⟩ := q1
  cases r1
  refine PySem.W.callWith_KW (h₀ := X.base) I.ok.mod.kin hk hall (thn (ha.run pos pins s0 σ _ _ I0 ht) fun us s1 ⟨vs, H1, I1, r, q⟩ => thn (hkw.run pos pins s1 σ H1 _ I1 q) fun ws s2 ⟨zs, H2, I2, rz, l1, l2, q2⟩ => ⟨I2.kIn, ?_⟩) hpl he
  rw [hks]
  have r2 := hb.rel r rz
  have l3 : us.length = n := r.length.symm.trans l1
  refine wpAny_call (codeAny_mono (F.run X.A X.stack s2 H2 ⟨us, ks.zip ws⟩ (g us ws) (gV vs zs) Q (E σ) hr I2.env0 (hb.to s2 us ws I2.kIn l3 (rz.length.symm.trans l2)) r2 q2) fun r s3 hq => ?_)
  match r, hq with
  | .error z, hq => exact hx σ pins H2 s2 z s3 I2 hq
  | .ok (.ret u), hq => exact I2.after hq
  | .ok .next, hq => exact hq.elim
  | .ok .brk, hq => exact hq.elim
  | .ok .cont, hq => exact hq.elim
end
section
variable {K : PySem.W.Frag} {S : Stt} {ρ : Rho} {Φ : PyData → Rho → Prop}
/-- a def handed in by name, then data -/
theorem wd_callFn {T : List PyData → (PyData → Prop) → Prop} {sp : Sp} {f : Addr} {E : XK} {ta : TA} (hsp : ∀ us H Q, spP K T us H Q E → sp (.ref f :: us) H Q E) (h : WA K S ta ρ fun xs ρ1 => T xs fun d => Φ d ρ1) : WD K S (tCall sp [] E (tCons (tC (.ref f)) ta)) ρ Φ := fun H0 N0 Z N σ H E' Q q =>
  h H0 N0 Z N σ H E' _ fun vs xs ρ1 H1 g E1 k1 d1 => by
    show sp ((.ref f :: vs) ++ []) H1 Q E
    rw [List.append_nil]
    exact hsp _ _ _ ⟨N, xs, _, E1.trk, d1, g, fun d fd v H2 s dv => q v d ρ1 H2 fd (E1.ext s) (k1.trans (Keep.of s)) dv⟩
/-- a call that may be refused, from a start -/
theorem td_callB {T : List PyData → (PyData → Prop) → (Addr → Prop) → Prop} {Ψ : Addr → Prop} {E : XK} {ta : TA} (h : WA K S0 ta ρ fun xs ρ1 => T xs (fun d => Φ d ρ1) Ψ) {H0 : Hp} {N0 N : Av} {Z : List Hd} {σ : L2.St} {H : Hp} (En : EnvD K S0 H0 N0 Z N σ H ρ)
    (hE : ∀ C, Ψ C → ∀ H', Same H0 H' → E (.ref C) none H') (Q : VK) (q : ∀ v d ρ' H', Φ d ρ' → EnvD K S0 H0 N0 Z N σ H' ρ' → Keep N H H' → Dq K N H' v d → Q v H') : tCall (spX K T) [] E ta σ H Q :=
  h H0 N0 Z N σ H En _ fun vs xs ρ1 H1 f E1 k1 d1 => by
    show spX K T (vs ++ []) H1 Q E
    rw [List.append_nil]
    exact ⟨N, xs, _, Ψ, E1.trk, d1, f, fun d fd v H2 s dv => q v d ρ1 H2 fd (E1.ext s) (k1.trans (Keep.of s)) dv, fun C hC H2 s => hE C hC H2 fun b o e => s b o (E1.keep b o rfl e)⟩
end
end DL

set_option Elab.async false
set_option linter.all false
set_option maxRecDepth 100000
set_option maxHeartbeats 4000000
/-! BQ13: law k56 -/
namespace DL
open PySem PySem.Spec PyProof.Rows L2
def tkD (bs : Kn) (a x : Rat) : PyData := if x + a < 0 ∨ x < 0 then .str "amount" else qp (tax bs (x + a) - tax bs x)
def lfD (bs : Kn) (x : Rat) : PyData := if x < 0 then .str "amount" else qp (x - tax bs x)
def TYb (C : Addr) : List PyData → (PyData → Prop) → (Addr → Prop) → Prop := fun ds Φ Ψ => TYat ds Φ ∨ TYx C ds Φ Ψ
def TTakenB (C : Addr) : List PyData → (PyData → Prop) → (Addr → Prop) → Prop := fun ds Φ Ψ => ∃ (bs : Kn) (a x : Rat), ds = [knD bs, qp a, qp x] ∧ Bd 28 bs ∧ sz a ≤ 300 ∧ sz x ≤ 300 ∧ ((x + a < 0 ∨ x < 0) → Ψ C) ∧ (¬ (x + a < 0 ∨ x < 0) → Φ (qp (tax bs (x + a) - tax bs x)))
def TLeftA : List PyData → (PyData → Prop) → Prop := fun ds Φ => ∃ (bs : Kn) (x : Rat), ds = [knD bs, qp x] ∧ Bd 28 bs ∧ sz x ≤ 300 ∧ 0 ≤ x ∧ Φ (qp (x - tax bs x))
def TLeftB (C : Addr) : List PyData → (PyData → Prop) → (Addr → Prop) → Prop := fun ds Φ Ψ => ∃ (bs : Kn) (x : Rat), ds = [knD bs, qp x] ∧ Bd 28 bs ∧ sz x ≤ 300 ∧ (x < 0 → Ψ C) ∧ (¬ x < 0 → Φ (qp (x - tax bs x)))
/-- what `_law_told` tells of taken, of left -/
def TToT : List PyData → (PyData → Prop) → Prop := fun ds Φ => ∃ (bs : Kn) (a : Rat) (o : Option Rat), ds = [knD bs, qp a, oqD o] ∧ Bd 28 bs ∧ sz a ≤ 300 ∧ sz (o.getD 0) ≤ 300 ∧ Φ (tkD bs a (o.getD 0))
def TToL : List PyData → (PyData → Prop) → Prop := fun ds Φ => ∃ (bs : Kn) (x : Rat), ds = [knD bs, qp x, .none] ∧ Bd 28 bs ∧ sz x ≤ 300 ∧ Φ (lfD bs x)
def spTo (K : PySem.W.Frag) (ft fl : Addr) : Sp := fun vs H Q E => (∃ us, vs = .ref ft :: us ∧ spP K TToT us H Q E) ∨ (∃ us, vs = .ref fl :: us ∧ spP K TToL us H Q E)
def TDue : List PyData → (PyData → Prop) → Prop := fun ds Φ => ∃ (bs : Kn) (a x : Rat), ds = [knD bs, qp a, qp x] ∧ Bd 28 bs ∧ sz a ≤ 300 ∧ sz x ≤ 300 ∧ Φ (if x < 0 ∨ x + a < 0 then .str "amount" else qp (tax bs (x + a) - tax bs x))
def TRightT : Nat → List PyData → (PyData → Nat → Prop) → Prop := fun B ds Φ => ∃ bs : Kn, ds = [knD bs] ∧ Bd 28 bs ∧ B ≤ 2 ^ 37 ∧ ∀ B', B' ≤ B + 400 → Φ (.bool true) B'
local macro_rules | `(tactic| walk_at "dl") => `(tactic| repeat' (first
  | with_reducible refine wd_isTy ?_ | with_reducible refine wd_isi ?_ | ((with_reducible show WD _ _ (tOp (rIxL _) (tVar _) _) _ _); refine wd_ix_own rfl ?_) | with_reducible refine wd_op ?_ | ((with_reducible show WD _ _ (tCB (rLenX _) (tCons (tVar _) tNil)) _ _); refine wd_len_scr rfl ?_) | ((with_reducible show WD _ _ (tCB (rLenX _) (tCons (tVar _) tNil)) _ _); refine wd_len_own rfl ?_) | with_reducible refine wd_cb ?_ | with_reducible refine wd_un ?_ | with_reducible refine wa_cons ?_ | with_reducible refine wa_nil ?_ | ((with_reducible show WD _ _ (tVar _) _ _); refine wd_var rfl ?_) | with_reducible refine wd_int ?_ | with_reducible refine wd_bl ?_ | with_reducible refine wd_str ?_ | with_reducible refine wd_non ?_
  | with_reducible refine do_nesS ?_ | with_reducible refine dc_intB ?_ | with_reducible refine do_add ?_ | with_reducible refine do_sub ?_ | ((with_reducible refine do_mod ?_ ?_); decide) | with_reducible refine do_mod ?_ ?_ | with_reducible refine do_mul ?_ ?_ | ((with_reducible refine do_div ?_ ?_); exact ⟨by decide, by decide⟩) | with_reducible refine do_div ?_ ?_ | ((with_reducible refine do_pow ?_ ?_); exact ⟨by decide, by decide, by decide⟩) | with_reducible refine do_pow ?_ ?_
  | with_reducible refine do_lt ?_ | with_reducible refine do_le ?_ | with_reducible refine do_gt ?_ | with_reducible refine do_ge ?_ | with_reducible refine du_neg ?_
  | with_reducible refine do_eqi ?_ | with_reducible refine do_nei ?_ | with_reducible refine do_eqs ?_ | with_reducible refine do_nes ?_ | with_reducible refine dc_abs ?_ | with_reducible refine dc_min ?_ | with_reducible refine dc_max ?_ | with_reducible refine dc_lenL ?_ | with_reducible refine dc_lenT ?_ | with_reducible refine dc_lenR ?_ | with_reducible refine dc_listT ?_ | with_reducible refine dc_listL ?_ | with_reducible refine dc_tupL ?_ | with_reducible refine dc_gcd ?_
  | ((with_reducible show DO _ (rIxT _) _ _ _); refine do_ixT rfl ?_) | ((with_reducible show DO _ (rIxL _) _ _ _); refine do_ixL rfl ?_) | ((with_reducible refine do_catL ?_ ?_); exact Nat.le_of_ble_eq_true rfl) | with_reducible refine do_catL ?_ ?_ | ((with_reducible show And (List.length _ ≤ sizeLine) _); refine ⟨Nat.le_of_ble_eq_true rfl, ?_⟩)
  | with_reducible refine wd_dnew ?_ | with_reducible refine wd_call0 ?_ | with_reducible refine wd_slA ?_ | with_reducible refine wd_slL ?_ | with_reducible refine wd_revT ?_ | with_reducible refine do_catA ?_ ?_ | with_reducible refine wo_part ?_ | with_reducible refine wo_none ?_ | with_reducible refine do_eqQ ?_ | with_reducible refine do_neQ ?_ | with_reducible refine wi_enumT ?_ | with_reducible refine wi_enumD ?_ | with_reducible refine tAdQ (by omega) (by omega) ?_ | with_reducible refine tSbQ (by omega) (by omega) ?_ | with_reducible refine tMlQ (by omega) (by omega) ?_ | with_reducible refine tDvQ (by assumption) (by omega) (by omega) ?_ | with_reducible refine tLtQ (by omega) (by omega) ?_ | with_reducible refine dc_str ?_ ?_ | with_reducible refine wd_tup ?_ | with_reducible refine wd_lst ?_ | with_reducible refine wt_test ?_ | with_reducible refine wt_B ?_ | with_reducible refine wt_not ?_ | with_reducible refine wt_and ?_ | with_reducible refine wt_or ?_ | with_reducible refine wd_ifE ?_ | with_reducible refine wd_andV ?_ | with_reducible refine wd_orV ?_ | with_reducible refine wd_notV ?_
  | with_reducible refine ws_seq ?_ | with_reducible refine ws_next ?_ | with_reducible refine ws_asg ?_ | with_reducible refine ws_ret ?_ | with_reducible refine ws_retN ?_ | with_reducible refine ws_if ?_ | with_reducible refine ws_par ?_ | with_reducible refine ws_unp2 ?_
  | with_reducible refine if_t ?_ | with_reducible refine if_f ?_ | with_reducible refine if_nf ?_ | with_reducible refine if_nt ?_
  | ((with_reducible show Exists _); first | refine ⟨_, kitInt _, ?_⟩ | refine ⟨_, kitBool _, ?_⟩ | refine ⟨_, kitTup _, ?_⟩ | refine ⟨_, kitList _, ?_⟩ | refine ⟨_, rfl, ?_⟩ | refine ⟨_, _, rfl, ?_⟩ | fail) | fail))
def t_takenB (K : PySem.W.Frag) (C : Addr) (E : XK) : TS :=
  (tSeq (tAsg (tCall (spP K TTakenL) [] E0 (tCons (tVar 0) tNil)) (gName 3))
    (tRet (tCall (spP K TSbQ) [] E0 (tCons (tCall (spX K (TYb C)) [] E (tCons (tVar 3) (tCons (tCall (spP K TAdQ) [] E0 (tCons (tVar 2) (tCons (tVar 1) tNil))) tNil))) (tCons (tCall (spX K (TYb C)) [] E (tCons (tVar 3) (tCons (tVar 2) tNil))) tNil)))))
def t_lefta (K : PySem.W.Frag) : TS :=
  (tRet (tCall (spP K TYat) [] E0 (tCons (tCall (spP K TLeftL) [] E0 (tCons (tVar 0) tNil)) (tCons (tVar 1) tNil))))
def t_leftB (K : PySem.W.Frag) (C : Addr) (E : XK) : TS :=
  (tRet (tCall (spX K (TYb C)) [] E (tCons (tCall (spP K TLeftL) [] E0 (tCons (tVar 0) tNil)) (tCons (tVar 1) tNil))))
def t_due (K : PySem.W.Frag) : TS :=
  (tSeq (tAsg (tCall (spP K TAdQ) [] E0 (tCons (tVar 2) (tCons (tVar 1) tNil))) (gName 3))
    (tSeq (tIfS (tOr (tTest (tOp rLt (tOp (rIxT K) (tVar 2) (tC (.int 0))) (tC (.int 0)))) (tTest (tOp rLt (tOp (rIxT K) (tVar 3) (tC (.int 0))) (tC (.int 0))))) (tRet (tC (.str "amount"))) tNext)
    (tRet (tCall (spP K TSbQ) [] E0 (tCons (tCall (spP K TTax) [] E0 (tCons (tVar 0) (tCons (tVar 3) tNil))) (tCons (tCall (spP K TTax) [] E0 (tCons (tVar 0) (tCons (tVar 2) tNil))) tNil))))))
def t_right (K : PySem.W.Frag) (a_taken a_left : Addr) : TS :=
  (tSeq (tFor (iRng1 (tCons (tC (.int 5)) tNil)) (gName 2) (tSeq (tAsg (tCall (spS K FPot TTotalD) [] E0 (tCons (tVar 0) (tCons (tVar 1) tNil))) (gName 3))
    (tSeq (tAsg (tCall (spS K FPot TTotalD) [] E0 (tCons (tVar 0) (tCons (tVar 1) tNil))) (gName 4))
    (tSeq (tAsg (tOp (rIxL K) (tLst (tCons (tCall (spP K TSbQ) [] E0 (tCons (tVar 4) (tCons (tVar 3) tNil))) (tCons (tVar 4) (tCons (tTup (tCons (tOp rSubI (tC (.int 0)) (tOp (rIxT K) (tVar 4) (tC (.int 0)))) (tCons (tOp (rIxT K) (tVar 4) (tC (.int 1))) tNil))) tNil)))) (tCall (spS K FPot TTake) [] E0 (tCons (tVar 0) (tCons (tC (.int 3)) tNil)))) (gName 5))
    (tSeq (tIfS (tOr (tTest (tOp rGt (tOp (rIxT K) (tVar 5) (tC (.int 1))) (tC (.int 1000)))) (tTest (tOp rGt (tCB rAbsX (tCons (tOp (rIxT K) (tVar 5) (tC (.int 0))) tNil)) (tOp rPowI (tC (.int 10)) (tC (.int 6)))))) (tAsg (tVar 4) (gName 5)) tNext)
    (tSeq (tFor (iList K (tLst (tCons (tVar 3) (tCons (tTup (tCons (tC (.int 0)) (tCons (tC (.int 1)) tNil))) (tCons (tTup (tCons (tUn rNegI (tC (.int 1))) (tCons (tOp rAddI (tC (.int 1)) (tCall (spS K FPot TTake) [] E0 (tCons (tVar 0) (tCons (tC (.int 9)) tNil)))) tNil))) tNil))))) (gName 6) (tSeq (tAsg (tCall (spP K TDue) [] E0 (tCons (tVar 1) (tCons (tVar 5) (tCons (tVar 6) tNil)))) (gName 7))
    (tSeq (tAsg (tLst (tCons (tCall (spTo K a_taken a_left) [] E0 (tCons (tC (.ref a_taken)) (tCons (tVar 1) (tCons (tVar 5) (tCons (tVar 6) tNil))))) (tCons (tCall (spTo K a_taken a_left) [] E0 (tCons (tC (.ref a_taken)) (tCons (tVar 1) (tCons (tVar 5) (tCons (tVar 6) tNil))))) tNil))) (gName 8))
    (tIfS (tTest (tOp rNe (tCB (rReprZ K) (tCons (tVar 8) tNil)) (tCB (rReprZ K) (tCons (tLst (tCons (tVar 7) (tCons (tVar 7) tNil))) tNil)))) (tRet (tC (.bl false))) tNext))))
    (tSeq (tIfS (tTest (tOp rNe (tCB (rReprZ K) (tCons (tCall (spTo K a_taken a_left) [] E0 (tCons (tC (.ref a_taken)) (tCons (tVar 1) (tCons (tVar 5) (tCons (tC .non) tNil))))) tNil)) (tCB (rReprZ K) (tCons (tCall (spP K TDue) [] E0 (tCons (tVar 1) (tCons (tVar 5) (tCons (tTup (tCons (tC (.int 0)) (tCons (tC (.int 1)) tNil))) tNil)))) tNil)))) (tRet (tC (.bl false))) tNext)
    (tSeq (tIfS (tTest (tOp rNe (tCB (rReprZ K) (tCons (tCall (spTo K a_taken a_left) [] E0 (tCons (tC (.ref a_left)) (tCons (tVar 1) (tCons (tVar 4) (tCons (tC .non) tNil))))) tNil)) (tCB (rReprZ K) (tCons (tCall (spP K TSbQ) [] E0 (tCons (tVar 4) (tCons (tCall (spP K TTax) [] E0 (tCons (tVar 1) (tCons (tVar 4) tNil))) tNil))) tNil)))) (tRet (tC (.bl false))) tNext)
    (tSeq (tAsg (tCall (spP K TAdQ) [] E0 (tCons (tVar 4) (tCons (tTup (tCons (tC (.int 1)) (tCons (tC (.int 1)) tNil))) tNil))) (gName 9))
    (tIfS (tB (tCall (spP K TLtQ) [] E0 (tCons (tCall (spP K TSbQ) [] E0 (tCons (tVar 9) (tCons (tCall (spP K TTax) [] E0 (tCons (tVar 1) (tCons (tVar 9) tNil))) tNil))) (tCons (tCall (spP K TLeftA) [] E0 (tCons (tVar 1) (tCons (tVar 4) tNil))) tNil)))) (tRet (tC (.bl false))) tNext))))))))))
    (tRet (tOp (rEqD K) (tCall (spTo K a_taken a_left) [] E0 (tCons (tC (.ref a_left)) (tCons (tVar 1) (tCons (tTup (tCons (tUn rNegI (tC (.int 1))) (tCons (tOp rAddI (tC (.int 1)) (tCall (spS K FPot TTake) [] E0 (tCons (tVar 0) (tCons (tC (.int 99)) tNil)))) tNil))) (tCons (tC .non) tNil))))) (tC (.str "amount")))))
def t_law56 (K : PySem.W.Frag) : TS :=
  (tSeq (tFor (iEnum K (tCons (tOp rCatL (tLst (tCons (tC (.int 0)) tNil)) (tCall (spF K) [] E0 (tCons (tVar 0) (tCons (tC (.int 16)) tNil)))) tNil)) (gTup K 2 (gCons (gName 1) (gCons (gName 2) gNil))) (tSeq (tAsg (tCall (spN K TPot) [] E0 (tCons (tVar 2) (tCons (tVar 1) tNil))) (gName 3))
    (tIfS (tNot (tB (tCall (spS K FPot TRightT) [] E0 (tCons (tVar 3) (tCons (tCall (spS K FPot TBandsD) [] E0 (tCons (tVar 3) (tCons (tOp (rIxL K) (tLst (tCons (tC (.int 12)) (tCons (tC (.int 20)) tNil))) (tCB rInt1 (tCons (tOp rEq (tVar 1) (tC (.int 1))) tNil))) tNil))) tNil))))) (tRet (tC (.bl false))) tNext)))
    (tRet (tC (.bl true))))
/-- the defs that `ask` holds, and how they are called -/
def S56 (K : PySem.W.Frag) (C ft fl : Addr) : Addr → Sp → Prop := fun f sp => (f = ft ∧ sp = spX K fun ds Φ Ψ => TTakenB C (ds ++ [qp 0]) Φ Ψ) ∨ (f = fl ∧ sp = spX K (TLeftB C))
def S56k (K : PySem.W.Frag) (C ft : Addr) : Addr → Sp → Prop := fun f sp => f = ft ∧ sp = spX K (TTakenB C)
def tb_56 (K : PySem.W.Frag) (C ft fl : Addr) (W : WX) : TS := tAsg (tIf (tTest (tOp rIsNone (tVar 3) (tC .non))) (tCallF 0 (S56 K C ft fl) (WE W) (tCons (tVar 1) (tCons (tVar 2) tNil))) (tCallFk 0 2 1 (S56k K C ft) gVapp (WE W) (tCons (tVar 1) (tCons (tVar 2) tNil)) (tCons (tVar 3) tNil))) (gName 5)
def ts_56 (a : Addr) : TS := tAsg (tVar 6) (gName 4)
def te_56 (K : PySem.W.Frag) (C : Addr) : TE := tIf (tTest (tOp rIsNone (tVar 4) (tC .non))) (tVar 5) (tCall (spW K C "amount") [] E0 (tCons (tVar 4) tNil))
def t_56 (K : PySem.W.Frag) (C P ft fl : Addr) : TS :=
  (tSeq (tAsg (tC .non) (gName 4))
    (tSeq (tAsg (tC .non) (gName 5))
    (tSeq (fun D σ H => tb_56 K C ft fl (wKeep K (.ref P) 6 ts_56 D) D σ H)
    (tRet (te_56 K C)))))
theorem lt0n {q : Rat} : (q.num < 0) ↔ q < 0 := by rw [num_neg]; grind
theorem qp_neg {q : Rat} : PyData.tuple [.int (0 - q.num), .int (q.den : Int)] = qp (-q) := by
  show PyData.tuple [.int (0 - q.num), .int (q.den : Int)] = .tuple [.int (-q.num), .int (q.den : Int)]
  rw [show (0 : Int) - q.num = -q.num by omega]
theorem qp_m1 {n : Int} (h : 1 ≤ n) : PyData.tuple [.int (-1), .int n] = qp (Rat.divInt (-1) n) := qp_of h (by simp)
theorem neg_m1 {n : Int} (h : 1 ≤ n) : Rat.divInt (-1) n < 0 := by
  have e : Rat.divInt (-1) n = -(Rat.divInt 1 n) := by rw [Rat.neg_divInt]
  have p : 0 < Rat.divInt 1 n := by
    rw [Rat.divInt_eq_div, Rat.div_def]
    exact Rat.mul_pos (by decide +kernel) (Rat.inv_pos.mpr (Rat.intCast_pos.mpr (by omega)))
  rw [e]; grind
theorem nn_of {x : Rat} (h : ¬ x < 0) : 0 ≤ x := by grind
section
variable {K : PySem.W.Frag} {ds : List PyData} {Φ : PyData → Prop}
theorem yb_or {C : Addr} {vs : List V} {H : Hp} {Q : VK} {E : XK} (h : spX K (TYb C) vs H Q E) : spP K TYat vs H Q E ∨ spX K (TYx C) vs H Q E := by
  obtain ⟨N, ds, Φ, Ψ, ht, hd, t | t, hQ, hE⟩ := h
  · exact .inl ⟨N, ds, Φ, ht, hd, t, hQ⟩
  · exact .inr ⟨N, ds, Φ, Ψ, ht, hd, t, hQ, hE⟩
/-- y_at of a line of bands at any x -/
theorem yb {C : Addr} {Φ : PyData → Prop} {Ψ : Addr → Prop} {bs : Kn} {kept : Bool} {ks : Kn} {x : Rat} (k : LnP bs kept ks) (hx : sz x ≤ 700) (h1 : x < 0 → Ψ C) (h2 : ¬ x < 0 → Φ (qp (has bs kept x))) : TYb C [lnD ks (hsl bs kept), qp x] Φ Ψ := by
  by_cases h : x < 0
  · exact .inr ⟨_, x, rfl, h, h1 h⟩
  · have x0 := nn_of h
    refine .inl ⟨ks, hsl bs kept, x, 60, 700, rfl, ⟨k.l, by have := k.len; omega, by decide⟩, x0, hx, by decide, ?_⟩
    rw [k.y x x0]; exact h2 h
theorem run_takenB {C : Addr} {vs : List V} {H : Hp} {Q : VK} {E : XK} (h : spX K (TTakenB C) vs H Q E) : t_takenB K C E { nx := fun _ H' => Q .non H', rt := Q } (L2.start ["bands", "amount", "ahead", "line"] vs) H := by
  obtain ⟨N, ds, Φ, Ψ, ht, hd, ⟨bs, a, x, rfl, b, ha, hx, hC, hP⟩, hQ, hE⟩ := h
  have k := takenP b (Nat.le_refl _)
  have z1 := sz_add x a
  have hl := b.len
  have w0 : WS K S0 (tAsg (tCall (spP K TTakenL) [] E0 (tCons (tVar 0) tNil)) (gName 3)) [.dat (knD bs), .dat (qp a), .dat (qp x), .unk] { nx := fun ρ => ρ = [.dat (knD bs), .dat (qp a), .dat (qp x), .dat (lnD (bI (tkK bs bs.length) (lr bs) bs.length) (lr bs))], rt := fun _ _ => False } :=
    ws_asg (wd_call0 (wa_cons (wd_var rfl (wa_nil ⟨bs, rfl, b.mono (by decide), rfl⟩))))
  unfold t_takenB tSeq
  dsimp only
  refine w0 H N [] N (L2.start ["bands", "amount", "ahead", "line"] vs) H _ (env_start (Nm := ["bands", "amount", "ahead", "line"]) ht hd) ⟨fun N1 σ1 H1 ρ1 e E1 => ?_, fun _ _ _ _ _ _ f _ _ => f.elim, fun _ _ _ _ f _ => f.elim, fun _ _ _ _ f _ => f.elim⟩
  subst e
  generalize bI (tkK bs bs.length) (lr bs) bs.length = ks at k E1
  have wA : WA K S0 (tCons (tVar 3) (tCons (tCall (spP K TAdQ) [] E0 (tCons (tVar 2) (tCons (tVar 1) tNil))) tNil)) [.dat (knD bs), .dat (qp a), .dat (qp x), .dat (lnD ks (lr bs))] fun xs ρ1 => TYb C xs (fun d => ρ1 = [.dat (knD bs), .dat (qp a), .dat (qp x), .dat (lnD ks (lr bs))] ∧ ¬ x + a < 0 ∧ d = qp (tax bs (x + a))) Ψ := by
    refine wa_cons (wd_var rfl (wa_cons (wd_call0 (wa_cons (wd_var rfl (wa_cons (wd_var rfl (wa_nil (tAdQ (by omega) (by omega) (wa_nil ?_))))))))))
    exact yb k (by omega) (fun h => hC (.inl h)) fun h => ⟨rfl, h, rfl⟩
  show tCall (spX K (TYb C)) [] E (tCons (tVar 3) (tCons (tCall (spP K TAdQ) [] E0 (tCons (tVar 2) (tCons (tVar 1) tNil))) tNil)) σ1 H1 fun v1 H2 => tCall (spX K (TYb C)) [] E (tCons (tVar 3) (tCons (tVar 2) tNil)) σ1 H2 fun v2 H3 => spP K TSbQ [v1, v2] H3 Q E0
  refine td_callB wA E1 hE _ fun v1 d1 ρ2 H2 ⟨e2, nn, ed⟩ E2 k2 q2 => ?_
  subst e2
  subst ed
  have wB : WA K S0 (tCons (tVar 3) (tCons (tVar 2) tNil)) [.dat (knD bs), .dat (qp a), .dat (qp x), .dat (lnD ks (lr bs))] fun xs ρ1 => TYb C xs (fun d => ρ1 = [.dat (knD bs), .dat (qp a), .dat (qp x), .dat (lnD ks (lr bs))] ∧ ¬ x < 0 ∧ d = qp (tax bs x)) Ψ := by
    refine wa_cons (wd_var rfl (wa_cons (wd_var rfl (wa_nil ?_))))
    exact yb k (by omega) (fun h => hC (.inr h)) fun h => ⟨rfl, h, rfl⟩
  refine td_callB wB E2 hE _ fun v2 d2 ρ3 H3 ⟨e3, nn2, ed2⟩ E3 k3 q3 => ?_
  subst e3
  subst ed2
  have t1 := tax_sz b (nn_of nn) (show sz (x + a) ≤ 600 by omega)
  have t2 := tax_sz b (nn_of nn2) hx
  refine ⟨N1, [qp (tax bs (x + a)), qp (tax bs x)], fun d => d = qp (tax bs (x + a) - tax bs x), E3.trk, .cons (q2.keep k3) (.cons q3 .nil), tSbQ (by omega) (by omega) rfl, fun d ed v H4 sm dv => ?_⟩
  subst ed
  refine hQ _ (hP fun z => z.elim nn nn2) v H4 (fun bb o e => sm bb o (E3.keep bb o rfl e)) (dv.le E3.base)
theorem ws_lefta (h : TLeftA ds Φ) : WS K S0 (t_lefta K) (rhoOf 2 ds) { nx := fun _ => Φ .none, rt := fun d _ => Φ d } := by
  obtain ⟨bs, x, rfl, b, hx, x0, hΦ⟩ := h
  show WS K S0 (t_lefta K) [.dat (knD bs), .dat (qp x)] _
  unfold t_lefta
  refine ws_ret (wd_call0 (wa_cons (wd_call0 (wa_cons (wd_var rfl (wa_nil ⟨bs, rfl, b, fun ks k => ?_⟩))))))
  refine wa_cons (wd_var rfl (wa_nil ⟨ks, _, x, 60, 300, rfl, ⟨k.l, by have := k.len; omega, by decide⟩, x0, hx, by decide, ?_⟩))
  have e := k.y x x0
  show Φ (qp (yAt ks (hsl bs true) x))
  rw [e]; exact hΦ
theorem run_leftB {C : Addr} {vs : List V} {H : Hp} {Q : VK} {E : XK} (h : spX K (TLeftB C) vs H Q E) : t_leftB K C E { nx := fun _ H' => Q .non H', rt := Q } (L2.start ["bands", "total"] vs) H := by
  obtain ⟨N, ds, Φ, Ψ, ht, hd, ⟨bs, x, rfl, b, hx, hC, hP⟩, hQ, hE⟩ := h
  have wA : WA K S0 (tCons (tCall (spP K TLeftL) [] E0 (tCons (tVar 0) tNil)) (tCons (tVar 1) tNil)) [.dat (knD bs), .dat (qp x)] fun xs ρ1 => TYb C xs (fun d => Φ d) Ψ := by
    refine wa_cons (wd_call0 (wa_cons (wd_var rfl (wa_nil ⟨bs, rfl, b, fun ks k => ?_⟩))))
    refine wa_cons (wd_var rfl (wa_nil ?_))
    exact yb k (by omega) hC hP
  show tCall (spX K (TYb C)) [] E _ _ H _
  refine td_callB wA (env_start (Nm := ["bands", "total"]) ht hd) hE _ fun v1 d1 ρ2 H2 f E2 k2 q2 => ?_
  exact hQ _ f v1 H2 (fun bb o e => E2.keep bb o rfl e) q2
theorem ws_due (h : TDue ds Φ) : WS K S0 (t_due K) (rhoOf 4 ds) { nx := fun _ => Φ .none, rt := fun d _ => Φ d } := by
  obtain ⟨bs, a, x, rfl, b, ha, hx, hΦ⟩ := h
  show WS K S0 (t_due K) [.dat (knD bs), .dat (qp a), .dat (qp x), .unk] _
  unfold t_due
  have z1 := sz_add x a
  refine ws_seq (ws_asg (wd_call0 (wa_cons (wd_var rfl (wa_cons (wd_var rfl (wa_nil (tAdQ (by omega) (by omega) ?_))))))))
  refine ws_seq (ws_if (wt_or (wt_test (wd_op (wd_op (wd_var rfl (wd_int (do_ixT rfl (wd_int (do_lt ⟨_, rfl, ?_⟩))))))))))
  refine if_b (fun h1 => ?_) (fun h1 => ?_)
  · rw [if_pos rfl]
    rw [if_pos (.inl (lt0n.mp h1))] at hΦ
    exact ws_ret (wd_str hΦ)
  refine wt_test (wd_op (wd_op (wd_var rfl (wd_int (do_ixT rfl (wd_int (do_lt ⟨_, rfl, ?_⟩)))))))
  refine if_b (fun h2 => ?_) (fun h2 => ?_)
  · rw [if_pos (.inr (lt0n.mp h2))] at hΦ
    exact ws_ret (wd_str hΦ)
  have n1 : ¬ x < 0 := fun z => h1 (lt0n.mpr z)
  have n2 : ¬ x + a < 0 := fun z => h2 (lt0n.mpr z)
  rw [if_neg fun z => z.elim n1 n2] at hΦ
  have t1 := tax_sz b (nn_of n2) (show sz (x + a) ≤ 600 by omega)
  have t2 := tax_sz b (nn_of n1) hx
  refine ws_next (ws_ret (wd_call0 (wa_cons (wd_call0 (wa_cons (wd_var rfl (wa_cons (wd_var rfl (wa_nil ⟨bs, x + a, 600, rfl, b.mono (by decide), nn_of n2, by omega, by decide, ?_⟩)))))))))
  refine wa_cons (wd_call0 (wa_cons (wd_var rfl (wa_cons (wd_var rfl (wa_nil ⟨bs, x, 300, rfl, b.mono (by decide), nn_of n1, hx, by decide, ?_⟩))))))
  exact wa_nil (tSbQ (by omega) (by omega) hΦ)
end
theorem spX_dfl {K : PySem.W.Frag} {T : List PyData → (PyData → Prop) → (Addr → Prop) → Prop} {aN : Addr} {d : PyData} {vs : List V} {H : Hp} {Q : VK} {E : XK} (hd : ∀ H, Dt K H (.ref aN) d) (h : spX K (fun ds Φ Ψ => T (ds ++ [d]) Φ Ψ) vs H Q E) : spX K T (vs ++ [.ref aN]) H Q E := by
  obtain ⟨N, ds, Φ, Ψ, ht, hd', t, hQ, hE⟩ := h
  exact ⟨N, ds ++ [d], Φ, Ψ, ht, hd'.append (.cons (hd _) .nil), t, hQ, hE⟩
theorem spTo_len {K : PySem.W.Frag} {ft fl : Addr} {vs : List V} {H : Hp} {Q : VK} {E : XK} (h : spTo K ft fl vs H Q E) : vs.length = 4 := by
  rcases h with ⟨us, rfl, h⟩ | ⟨us, rfl, h⟩
  · have := spP_len (n := 3) (fun ds Φ ⟨_, _, _, e, _⟩ => by rw [e]; rfl) h
    simp [this]
  · have := spP_len (n := 3) (fun ds Φ ⟨_, _, e, _⟩ => by rw [e]; rfl) h
    simp [this]
/-! ### told or refused -/
theorem tk_pos {bs : Kn} {a x : Rat} (h : x + a < 0 ∨ x < 0) : tkD bs a x = .str "amount" := if_pos h
theorem tk_neg {bs : Kn} {a x : Rat} (h : ¬ (x + a < 0 ∨ x < 0)) : tkD bs a x = qp (tax bs (x + a) - tax bs x) := if_neg h
section
variable {K : PySem.W.Frag}
theorem run_56 {C P ft fl : Addr} {vs : List V} {H : Hp} {Q : VK} {E : XK} (hx : PySem.W.exmOne K (.ref C) (.ref P) = some true)
    (h : spTo K ft fl vs H Q E) : t_56 K C P ft fl { nx := fun _ H' => Q .non H', rt := Q } (L2.start ["ask", "bands", "amount", "sofar", "caught", "found", "e"] vs) H := by
  have told : ∀ {N : Av} {f : Addr} {v0 v1 v2 v : V} {d : PyData} {H1 : Hp}, (∀ v H', Same H H' → Dq K N H' v d → Q v H') → Same H H1 → Dq K N H1 v d →
      te_56 K C [some (.ref f), some v0, some v1, some v2, some .non, some v, none] H1 Q := by
    intro N f v0 v1 v2 v d H1 hq sm dv
    refine ⟨_, rfl, rfl, true, rfl, ?_⟩
    show (if true = true then _ else _)
    rw [if_pos rfl]
    exact ⟨_, rfl, hq _ _ sm dv⟩
  have refd : ∀ {N : Av} {f a : Addr} {v0 v1 v2 : V} {H1 : Hp}, (∀ v H', Same H H' → Dq K N H' v (.str "amount") → Q v H') → Same H H1 → H1 a = none →
      te_56 K C [some (.ref f), some v0, some v1, some v2, some (.ref a), some .non, none] (upd H1 a (.ext (excAt a (.ref C)))) Q := by
    intro N f a v0 v1 v2 H1 hq sm hn
    refine ⟨_, rfl, rfl, false, rfl, ?_⟩
    show (if false = true then _ else _)
    rw [if_neg Bool.false_ne_true]
    refine ⟨_, rfl, a, rfl, upd_same, fun H2 s2 => ?_⟩
    refine hq _ _ (fun b o e => ?_) (Dt.str _)
    have e1 := sm b o e
    have ba : b ≠ a := fun z => by rw [z, hn] at e1; cases e1
    exact s2 b o (by rw [upd_ne ba]; exact e1)
  rcases h with ⟨us, rfl, N, ds, Φ, ht, hd, ⟨bs, a, o, rfl, b, ha, ho, hΦ⟩, hQ⟩ | ⟨us, rfl, N, ds, Φ, ht, hd, ⟨bs, x, rfl, b, hx1, hΦ⟩, hQ⟩
  · cases hd with
    | cons d1 d2 =>
    cases d2 with
    | cons d2 d3 =>
    cases d3 with
    | cons d3 d4 =>
    cases d4
    rename_i v0 v1 v2
    cases o with
    | none =>
      cases d3
      refine ⟨_, rfl, rfl, true, rfl, ?_⟩
      show (if true = true then _ else _)
      rw [if_pos rfl]
      refine ⟨ft, _, rfl, .inl ⟨rfl, rfl⟩, _, rfl, _, rfl, N, [knD bs, qp a], fun d => d = qp (tax bs (0 + a) - tax bs 0) ∧ ¬ ((0 : Rat) + a < 0 ∨ (0 : Rat) < 0), fun C' => C' = C ∧ ((0 : Rat) + a < 0 ∨ (0 : Rat) < 0), ht, .cons d1 (.cons d2 .nil), ⟨bs, a, 0, rfl, b, ha, ho, fun h => ⟨rfl, h⟩, fun h => ⟨rfl, h⟩⟩, fun d hd v H1 sm dv => ?_, fun C' hC H1 sm => ?_⟩
      · obtain ⟨rfl, hn⟩ := hd
        rw [show (none : Option Rat).getD 0 = 0 from rfl, tk_neg hn] at hΦ
        exact told (hQ _ hΦ) sm dv
      · obtain ⟨rfl, hn⟩ := hC
        rw [show (none : Option Rat).getD 0 = 0 from rfl, tk_pos hn] at hΦ
        exact ⟨rfl, hx, fun y hy => ⟨_, rfl, refd (hQ _ hΦ) sm hy⟩⟩
    | some x =>
      obtain ⟨p, xs, rfl, _, _, _⟩ := Dq.tup_inv d3
      refine ⟨_, rfl, rfl, false, rfl, ?_⟩
      show (if false = true then _ else _)
      rw [if_neg Bool.false_ne_true]
      refine ⟨ft, _, rfl, ⟨rfl, rfl⟩, _, rfl, _, rfl, _, rfl, rfl, rfl, N, [knD bs, qp a, qp x], fun d => d = qp (tax bs (x + a) - tax bs x) ∧ ¬ (x + a < 0 ∨ x < 0), fun C' => C' = C ∧ (x + a < 0 ∨ x < 0), ht, .cons d1 (.cons d2 (.cons d3 .nil)), ⟨bs, a, x, rfl, b, ha, ho, fun h => ⟨rfl, h⟩, fun h => ⟨rfl, h⟩⟩, fun d hd v H1 sm dv => ?_, fun C' hC H1 sm => ?_⟩
      · obtain ⟨rfl, hn⟩ := hd
        rw [show (some x).getD 0 = x from rfl, tk_neg hn] at hΦ
        exact told (hQ _ hΦ) sm dv
      · obtain ⟨rfl, hn⟩ := hC
        rw [show (some x).getD 0 = x from rfl, tk_pos hn] at hΦ
        exact ⟨rfl, hx, fun y hy => ⟨_, rfl, refd (hQ _ hΦ) sm hy⟩⟩
  · cases hd with
    | cons d1 d2 =>
    cases d2 with
    | cons d2 d3 =>
    cases d3 with
    | cons d3 d4 =>
    cases d4
    rename_i v0 v1 v2
    cases d3
    refine ⟨_, rfl, rfl, true, rfl, ?_⟩
    show (if true = true then _ else _)
    rw [if_pos rfl]
    refine ⟨fl, _, rfl, .inr ⟨rfl, rfl⟩, _, rfl, _, rfl, N, [knD bs, qp x], fun d => d = qp (x - tax bs x) ∧ ¬ x < 0, fun C' => C' = C ∧ x < 0, ht, .cons d1 (.cons d2 .nil), ⟨bs, x, rfl, b, hx1, fun h => ⟨rfl, h⟩, fun h => ⟨rfl, h⟩⟩, fun d hd v H1 sm dv => ?_, fun C' hC H1 sm => ?_⟩
    · obtain ⟨rfl, hn⟩ := hd
      rw [show lfD bs x = qp (x - tax bs x) from if_neg hn] at hΦ
      exact told (hQ _ hΦ) sm dv
    · obtain ⟨rfl, hn⟩ := hC
      rw [show lfD bs x = .str "amount" from if_pos hn] at hΦ
      exact ⟨rfl, hx, fun y hy => ⟨_, rfl, refd (hQ _ hΦ) sm hy⟩⟩
end
/-! ### what is left never falls -/
theorem tkn_gap {B : Nat} {bs : Kn} (h : Bd B bs) {i : Nat} : ∀ n, i + n < bs.length → 0 ≤ tkn bs (i + n) - tkn bs i ∧ tkn bs (i + n) - tkn bs i ≤ (kn bs (i + n)).1 - (kn bs i).1 := by
  intro n
  induction n with
  | zero => intro _; constructor <;> grind
  | succ n ih =>
    intro hi
    obtain ⟨a, b⟩ := ih (by omega)
    have s := h.ris (i + n) (by omega)
    have r0 := h.r0 (i + n) (by omega)
    have r1 := h.r1 (i + n) (by omega)
    have p1 : 0 ≤ (kn bs (i + n)).2 * ((kn bs (i + n + 1)).1 - (kn bs (i + n)).1) := Rat.mul_nonneg r0 (by grind)
    have p2 : 0 ≤ (1 - (kn bs (i + n)).2) * ((kn bs (i + n + 1)).1 - (kn bs (i + n)).1) := Rat.mul_nonneg (by grind) (by grind)
    have e : tkn bs (i + (n + 1)) = tkn bs (i + n) + (kn bs (i + n)).2 * ((kn bs (i + n + 1)).1 - (kn bs (i + n)).1) := rfl
    rw [e, show i + (n + 1) = i + n + 1 by omega]
    constructor
    · grind
    · grind
theorem tax_gap {B : Nat} {bs : Kn} (h : Bd B bs) {x y : Rat} (hx : 0 ≤ x) (hy : x ≤ y) : 0 ≤ tax bs y - tax bs x ∧ tax bs y - tax bs x ≤ y - x := by
  obtain ⟨j, hj⟩ := h.at' hx
  obtain ⟨l, hl⟩ := h.at' (x := y) (by grind)
  rw [tax_at h.ris hj, tax_at h.ris hl]
  have r0 := h.r0 l hl.lt
  have r1 := h.r1 l hl.lt
  have s0 := h.r0 j hj.lt
  have s1 := h.r1 j hj.lt
  by_cases e : l ≤ j
  · by_cases e2 : l = j
    · subst e2
      have p1 : 0 ≤ (kn bs l).2 * (y - x) := Rat.mul_nonneg r0 (by grind)
      have p2 : 0 ≤ (1 - (kn bs l).2) * (y - x) := Rat.mul_nonneg (by grind) (by grind)
      constructor <;> grind
    · have a := hl.nx (by have := hj.lt; omega)
      have b := ris_le h.ris (i := l + 1) (j := j) (by omega) hj.lt
      have c := hj.le
      exact absurd (show y < y by grind) (by grind)
  · obtain ⟨n, rfl⟩ : ∃ n, l = j + 1 + n := ⟨l - (j + 1), by omega⟩
    obtain ⟨a, b⟩ := tkn_gap h (i := j + 1) n hl.lt
    have c := hj.nx (by have := hl.lt; omega)
    have d := hl.le
    have e3 : tkn bs (j + 1) = tkn bs j + (kn bs j).2 * ((kn bs (j + 1)).1 - (kn bs j).1) := rfl
    have p1 : 0 ≤ (kn bs j).2 * ((kn bs (j + 1)).1 - x) := Rat.mul_nonneg s0 (by grind)
    have p2 : 0 ≤ (1 - (kn bs j).2) * ((kn bs (j + 1)).1 - x) := Rat.mul_nonneg (by grind) (by grind)
    have p3 : 0 ≤ (kn bs (j + 1 + n)).2 * (y - (kn bs (j + 1 + n)).1) := Rat.mul_nonneg r0 (by grind)
    have p4 : 0 ≤ (1 - (kn bs (j + 1 + n)).2) * (y - (kn bs (j + 1 + n)).1) := Rat.mul_nonneg (by grind) (by grind)
    constructor <;> grind
/-! ### the law -/
theorem Rs.str6 : Rs 20 0 (.str "amount") := ⟨by decide +kernel, by decide +kernel, by decide +kernel, by decide +kernel⟩
theorem Rs.tk {bs : Kn} {a x : Rat} (b : Bd 28 bs) (ha : sz a ≤ 300) (hx : sz x ≤ 300) : Rs 4000 1 (tkD bs a x) := by
  by_cases h : x + a < 0 ∨ x < 0
  · rw [tk_pos h]; exact Rs.str6.mono (by decide) (by decide)
  · rw [tk_neg h]
    have h' : ¬ x + a < 0 ∧ ¬ x < 0 := ⟨fun z => h (.inl z), fun z => h (.inr z)⟩
    have z1 := sz_add x a
    have t1 := tax_sz b (nn_of h'.1) (show sz (x + a) ≤ 600 by omega)
    have t2 := tax_sz b (nn_of h'.2) hx
    have t3 := sz_sub (tax bs (x + a)) (tax bs x)
    exact (Rs.qp (k := 1900) (by omega) (by decide)).mono (by decide) (by decide)
theorem due_tk {bs : Kn} {a x : Rat} : (if x < 0 ∨ x + a < 0 then PyData.str "amount" else qp (tax bs (x + a) - tax bs x)) = tkD bs a x := by
  unfold tkD
  by_cases h : x + a < 0 ∨ x < 0
  · rw [if_pos h, if_pos (h.symm)]
  · rw [if_neg h, if_neg fun z => h z.symm]
section
variable {K : PySem.W.Frag} {S : Stt}
theorem ws_rightt {a_taken a_left : Addr} {B : Nat} {ds : List PyData} {Φ : PyData → Nat → Prop} (hF : FPot S) (h : TRightT B ds Φ) : WS K S (t_right K a_taken a_left) (.sto B :: rhoOf 9 ds) { nx := fun _ => False, rt := fun d ρ => ∃ B', ρ[0]? = some (.sto B') ∧ Φ d B' } := by
  obtain ⟨bs, rfl, b, hB, hΦ⟩ := h
  show WS K S (t_right K a_taken a_left) [.sto B, .dat (knD bs), .unk, .unk, .unk, .unk, .unk, .unk, .unk, .unk] _
  unfold t_right
  have h37 : (2 : Nat) ^ 37 = 137438953472 := by decide
  have h39 : (2 : Nat) ^ 39 = 549755813888 := by decide
  have h40 : (2 : Nat) ^ 40 = 1099511627776 := by decide
  have spT : ∀ us H Q E, spP K TToT us H Q E → spTo K a_taken a_left (.ref a_taken :: us) H Q E := fun us H Q E h => .inl ⟨us, rfl, h⟩
  have spL : ∀ us H Q E, spP K TToL us H Q E → spTo K a_taken a_left (.ref a_left :: us) H Q E := fun us H Q E h => .inr ⟨us, rfl, h⟩
  refine ws_seq (ws_for (wi_rng1 (wa_cons (wd_int (wa_nil ⟨5, rfl, by decide, by decide, fun k ρ => ∃ (B' : Nat) (s2 s3 s4 s5 s6 s7 s8 s9 : Sl), ρ = [.sto B', .dat (knD bs), s2, s3, s4, s5, s6, s7, s8, s9] ∧ B' ≤ B + 60 * k, ⟨B, _, _, _, _, _, _, _, _, rfl, by omega⟩, ?_, ?_⟩)))))
  · rintro k d ρ2 hd ⟨B1, s2, s3, s4, s5, s6, s7, s8, s9, rfl, hB1⟩
    have hk : k < 5 := by
      have := (List.getElem?_eq_some_iff.mp hd).1
      simpa using this
    refine ⟨_, _, gd_name, ws_wipe [3, 4, 5, 6, 7, 8, 9] ?_⟩
    show WS K S _ [.sto B1, .dat (knD bs), .dat d, .unk, .unk, .unk, .unk, .unk, .unk, .unk] _
    refine ws_seq (ws_asg (wd_callS hF rfl (wa_cons (wd_var rfl (wa_nil ⟨B1, rfl, bs, rfl, b, by omega, fun x B2 hB2 x0 xs => ?_⟩)))))
    refine ws_seq (ws_asg (wd_callS hF rfl (wa_cons (wd_var rfl (wa_nil ⟨B2, rfl, bs, rfl, b, by omega, fun y B3 hB3 y0 ys => ?_⟩)))))
    have z1 := sz_sub y x
    have z2 : sz (-y) ≤ 60 := by
      have e : hgt (-y) = hgt y := by show (-y.num).natAbs + y.den = y.num.natAbs + y.den; rw [Int.natAbs_neg]
      unfold sz at ys ⊢; rw [e]; exact ys
    refine ws_seq (ws_asg (wd_op (wd_lst (wa_cons (wd_call0 (wa_cons (wd_var rfl (wa_cons (wd_var rfl (wa_nil (tSbQ (by omega) (by omega) ?_)))))))))))
    refine wa_cons (wd_var rfl (wa_cons (wd_tup (wa_cons (wd_op (wd_int (wd_op (wd_var rfl (wd_int (do_ixT rfl (do_sub ?_)))))))))) )
    refine wa_cons (wd_op (wd_var rfl (wd_int (do_ixT rfl (wa_nil ⟨Nat.le_of_ble_eq_true rfl, ?_⟩)))))
    rw [qp_neg]
    refine wa_nil ⟨Nat.le_of_ble_eq_true rfl, ?_⟩
    refine wd_takeC hF rfl (by decide) (by decide) (by omega) fun c c0 c1 => ?_
    refine do_ixL_q (qs := [y - x, y, -y]) (P := fun g => sz g ≤ 130) rfl c0 (by simpa using c1) (fun n hn => ?_) fun a0 ha0 => ?_
    · simp only [List.mem_cons, List.not_mem_nil, or_false] at hn
      rcases hn with rfl | rfl | rfl <;> omega
    have an := num_lt ha0
    refine ws_cut (fun ρ => ∃ a : Rat, sz a ≤ 130 ∧ ρ = [.sto (B3 + 1), .dat (knD bs), .dat d, .dat (qp x), .dat (qp y), .dat (qp a), .unk, .unk, .unk, .unk]) ?_ ?_
    · refine ws_if (wt_or (wt_test (wd_op (wd_op (wd_var rfl (wd_int (do_ixT rfl (wd_int (do_gt ⟨_, rfl, ?_⟩)))))))))
      refine if_b (fun h1 => ?_) (fun h1 => ?_)
      · rw [if_pos rfl]
        exact ws_asg (wd_var rfl ⟨y, by omega, rfl⟩)
      refine wt_test (wd_op (wd_cb (wa_cons (wd_op (wd_var rfl (wd_int (do_ixT rfl (wa_nil (dc_abs (wd_op (wd_int (wd_int (do_pow ⟨by decide, by decide, by decide⟩ (do_gt ⟨_, rfl, ?_⟩))))))))))))))
      refine if_b (fun h2 => ?_) (fun h2 => ?_)
      · exact ws_asg (wd_var rfl ⟨y, by omega, rfl⟩)
      · exact ws_next ⟨a0, ha0, rfl⟩
    rintro ρ3 ⟨a, ha, rfl⟩
    have none0 : sz ((none : Option Rat).getD 0) ≤ 300 := by show sz (0 : Rat) ≤ 300; rw [sz_zero]; decide
    refine ws_cut (fun ρ => ∃ (s6 s7 s8 : Sl), ρ = [.sto (B3 + 2), .dat (knD bs), .dat d, .dat (qp x), .dat (qp y), .dat (qp a), s6, s7, s8, .unk]) ?_ ?_
    · refine ws_for (wi_list (wd_lst (wa_cons (wd_var rfl (wa_cons (wd_tup (wa_cons (wd_int (wa_cons (wd_int (wa_nil ⟨Nat.le_of_ble_eq_true rfl, ?_⟩)))))))))))
      rw [qp01]
      refine wa_cons (wd_tup (wa_cons (wd_un (wd_int (du_neg ?_)))))
      refine wa_cons (wd_op (wd_int (wd_takeC hF rfl (by decide) (by decide) (by omega) fun e e0 e1 => do_add (wa_nil ⟨Nat.le_of_ble_eq_true rfl, ?_⟩))))
      rw [qp_m1 (by omega)]
      have zm : sz (Rat.divInt (-1) (1 + e)) ≤ 4 := sz_di (by omega) (by omega)
      generalize Rat.divInt (-1) (1 + e) = m at zm ⊢
      refine wa_nil ⟨Nat.le_of_ble_eq_true rfl, _, rfl, fun j ρ => ∃ (s6 s7 s8 : Sl), ρ = [.sto (B3 + 2), .dat (knD bs), .dat d, .dat (qp x), .dat (qp y), .dat (qp a), s6, s7, s8, .unk], ⟨_, _, _, rfl⟩, ?_, ?_⟩
      · rintro j d2 ρ4 hd2 ⟨s6, s7, s8, rfl⟩
        obtain ⟨q, rfl, hq⟩ : ∃ q : Rat, d2 = qp q ∧ sz q ≤ 300 := by
          have hm := List.mem_of_getElem? hd2
          simp only [List.mem_cons, List.not_mem_nil, or_false] at hm
          rcases hm with rfl | rfl | rfl
          · exact ⟨x, rfl, by omega⟩
          · exact ⟨0, rfl, by rw [sz_zero]; decide⟩
          · exact ⟨m, rfl, by omega⟩
        refine ⟨_, _, gd_name, ?_⟩
        refine ws_seq (ws_asg (wd_call0 (wa_cons (wd_var rfl (wa_cons (wd_var rfl (wa_cons (wd_var rfl (wa_nil ⟨bs, a, q, rfl, b, by omega, hq, ?_⟩)))))))))
        rw [due_tk]
        have rs := Rs.tk (a := a) (x := q) b (by omega) hq
        have tt : ∀ {ρ : Rho} {Ψ : PyData → Rho → Prop}, ρ[1]? = some (.dat (knD bs)) → ρ[5]? = some (.dat (qp a)) → ρ[6]? = some (.dat (qp q)) → Ψ (tkD bs a q) ρ → WD K S (tCall (spTo K a_taken a_left) [] E0 (tCons (tC (.ref a_taken)) (tCons (tVar 1) (tCons (tVar 5) (tCons (tVar 6) tNil))))) ρ Ψ := fun {ρ Ψ} h1 h5 h6 hp =>
          wd_callFn (fun us H Q h => spT us H Q _ h) (wa_cons (wd_var h1 (wa_cons (wd_var h5 (wa_cons (wd_var h6 (wa_nil ⟨bs, a, some q, rfl, b, by omega, hq, hp⟩)))))))
        refine ws_seq (ws_asg (wd_lst (wa_cons (tt rfl rfl rfl (wa_cons (tt rfl rfl rfl (wa_nil ⟨Nat.le_of_ble_eq_true rfl, ?_⟩)))))))
        generalize tkD bs a q = D at rs ⊢
        have rl : Rs 9000 2 (.list [D, D]) := (Rs.lst (n := 2) (fun z hz => by
          simp only [List.mem_cons, List.not_mem_nil, or_false] at hz
          rcases hz with rfl | rfl <;> exact rs) (by simp)).mono (by decide) (by decide)
        refine ws_if (wt_test (wd_op (wd_cb (wa_cons (wd_var rfl (wa_nil (dc_reprZ rl (by rw [sizeLine_eq]; decide) (by decide) ?_)))))))
        refine wd_cb (wa_cons (wd_lst (wa_cons (wd_var rfl (wa_cons (wd_var rfl (wa_nil ⟨Nat.le_of_ble_eq_true rfl, ?_⟩)))))))
        refine wa_nil (dc_reprZ rl (by rw [sizeLine_eq]; decide) (by decide) (do_nesS ⟨false, rfl, ?_⟩))
        exact if_f (ws_next ⟨_, _, _, rfl⟩)
      · rintro ρ4 ⟨s6, s7, s8, rfl⟩
        exact ⟨_, _, _, rfl⟩
    rintro ρ4 ⟨s6, s7, s8, rfl⟩
    have rs := Rs.tk (a := a) (x := 0) b (by omega) none0
    refine ws_seq (ws_if (wt_test (wd_op (wd_cb (wa_cons (wd_callFn (fun us H Q h => spT us H Q _ h) (wa_cons (wd_var rfl (wa_cons (wd_var rfl (wa_cons (wd_non (wa_nil ⟨bs, a, none, rfl, b, by omega, none0, ?_⟩)))))))))))))
    refine wa_nil (dc_reprZ rs (by rw [sizeLine_eq]; decide) (by decide) ?_)
    refine wd_cb (wa_cons (wd_call0 (wa_cons (wd_var rfl (wa_cons (wd_var rfl (wa_cons (wd_tup (wa_cons (wd_int (wa_cons (wd_int (wa_nil ⟨Nat.le_of_ble_eq_true rfl, ?_⟩)))))))))))))
    rw [qp01]
    refine wa_nil ⟨bs, a, 0, rfl, b, by omega, none0, ?_⟩
    rw [due_tk]
    refine wa_nil (dc_reprZ rs (by rw [sizeLine_eq]; decide) (by decide) (do_nesS ⟨false, rfl, ?_⟩))
    refine if_f (ws_next ?_)
    have ty := tax_sz b y0 ys
    have yn : ¬ y < 0 := by grind
    have el : lfD bs y = qp (y - tax bs y) := if_neg yn
    have zl := sz_sub y (tax bs y)
    have rq : Rs 4000 1 (qp (y - tax bs y)) := (Rs.qp (k := 1900) (by omega) (by decide)).mono (by decide) (by decide)
    refine ws_seq (ws_if (wt_test (wd_op (wd_cb (wa_cons (wd_callFn (fun us H Q h => spL us H Q _ h) (wa_cons (wd_var rfl (wa_cons (wd_var rfl (wa_cons (wd_non (wa_nil ⟨bs, y, rfl, b, by omega, ?_⟩)))))))))))))
    rw [el]
    refine wa_nil (dc_reprZ rq (by rw [sizeLine_eq]; decide) (by decide) ?_)
    refine wd_cb (wa_cons (wd_call0 (wa_cons (wd_var rfl (wa_cons (wd_call0 (wa_cons (wd_var rfl (wa_cons (wd_var rfl (wa_nil ⟨bs, y, 60, rfl, b.mono (by decide), y0, ys, by decide, wa_nil (tSbQ (by omega) (by omega) ?_)⟩)))))))))))
    refine wa_nil (dc_reprZ rq (by rw [sizeLine_eq]; decide) (by decide) (do_nesS ⟨false, rfl, ?_⟩))
    refine if_f (ws_next ?_)
    have o1 : sz (1 : Rat) ≤ 2 := by rw [sz_one]; decide
    have y1 := sz_add y 1
    refine ws_seq (ws_asg (wd_call0 (wa_cons (wd_var rfl (wa_cons (wd_tup (wa_cons (wd_int (wa_cons (wd_int (wa_nil ⟨Nat.le_of_ble_eq_true rfl, ?_⟩)))))))))))
    rw [qp11]
    refine wa_nil (tAdQ (by omega) (by omega) ?_)
    have p0 : 0 ≤ y + 1 := by grind
    have tm := tax_sz b p0 (show sz (y + 1) ≤ 62 by omega)
    have zm := sz_sub (y + 1) (tax bs (y + 1))
    refine ws_if (wt_B (wd_call0 (wa_cons (wd_call0 (wa_cons (wd_var rfl (wa_cons (wd_call0 (wa_cons (wd_var rfl (wa_cons (wd_var rfl (wa_nil ⟨bs, y + 1, 62, rfl, b.mono (by decide), p0, by omega, by decide, wa_nil (tSbQ (by omega) (by omega) ?_)⟩)))))))))))))
    refine wa_cons (wd_call0 (wa_cons (wd_var rfl (wa_cons (wd_var rfl (wa_nil ⟨bs, y, rfl, b, by omega, y0, ?_⟩))))))
    refine wa_nil (tLtQ (by omega) (by omega) ⟨_, rfl, ?_⟩)
    have g := (tax_gap b y0 (show y ≤ y + 1 by grind)).2
    rw [decide_eq_false (show ¬ y + 1 - tax bs (y + 1) < y - tax bs y by grind)]
    exact if_f (ws_next ⟨_, _, _, _, _, _, _, _, _, rfl, by omega⟩)
  · rintro ρ2 ⟨B1, s2, s3, s4, s5, s6, s7, s8, s9, rfl, hB1⟩
    have hB5 : B1 ≤ B + 300 := by simpa using hB1
    refine ws_ret (wd_op (wd_callFn (fun us H Q h => spL us H Q _ h) (wa_cons (wd_var rfl (wa_cons (wd_tup (wa_cons (wd_un (wd_int (du_neg ?_))))))))))
    refine wa_cons (wd_op (wd_int (wd_takeC hF rfl (by decide) (by decide) (by omega) fun e e0 e1 => do_add (wa_nil ⟨Nat.le_of_ble_eq_true rfl, ?_⟩))))
    rw [qp_m1 (by omega)]
    have zm : sz (Rat.divInt (-1) (1 + e)) ≤ 8 := sz_di (by omega) (by omega)
    have nm := neg_m1 (n := 1 + e) (by omega)
    generalize Rat.divInt (-1) (1 + e) = m at zm nm ⊢
    refine wa_cons (wd_non (wa_nil ⟨bs, m, rfl, b, by omega, ?_⟩))
    rw [show lfD bs m = .str "amount" from if_pos nm]
    refine wd_str (do_eqD (by decide +kernel) (by decide +kernel) ?_)
    exact ⟨B1 + 1, rfl, hΦ _ (by omega)⟩
end
theorem ws_law56 {K : PySem.W.Frag} {ns : List Int} (hl : ns.length ≤ 63) : WS K S0 (t_law56 K) (.scr ns :: List.replicate 3 .unk) { nx := fun _ => False, rt := fun d _ => d = .bool true } := by
  show WS K S0 (t_law56 K) [.scr ns, .unk, .unk, .unk] _
  unfold t_law56
  have h37 : (2 : Nat) ^ 37 = 137438953472 := by decide
  have h39 : (2 : Nat) ^ 39 = 549755813888 := by decide
  refine ws_seq (ws_for (wi_enum ?_))
  refine wa_cons (wd_op (wd_lst (wa_cons (wd_int (wa_nil ⟨by show 1 ≤ sizeLine; decide, ?_⟩)))))
  refine wd_folded rfl hl (by decide) (by decide) fun cs c1 c2 => ?_
  refine do_catL (by rw [sizeLine_eq]; simp; omega) ?_
  refine wa_nil ⟨_, rfl, fun k ρ => ∃ s1 s2 s3 : Sl, ρ = [.scr ns, s1, s2, s3], ⟨_, _, _, rfl⟩, ?_, ?_⟩
  · rintro k d ρ2 hd ⟨s1, s2, s3, rfl⟩
    rw [List.getElem?_mapIdx] at hd
    obtain ⟨d0, hd0, rfl⟩ := Option.map_eq_some_iff.mp hd
    have hk : k < 64 := by
      have := (List.getElem?_eq_some_iff.mp hd0).1
      simp at this; omega
    obtain ⟨c, rfl⟩ : ∃ c : Int, d0 = .int c := by
      have hm := List.mem_of_getElem? hd0
      simp only [List.cons_append, List.nil_append, List.mem_cons, List.mem_map] at hm
      rcases hm with h | ⟨c, _, h⟩
      · exact ⟨0, h⟩
      · exact ⟨c, h.symm⟩
    refine ⟨_, _, gd_pair, ws_wipe [3] ?_⟩
    show WS K S0 (tSeq _ _) [.scr ns, .dat (.int k), .dat (.int c), .unk] _
    refine ws_seq (ws_callN1 ?_)
    walk_at "dl"
    refine ⟨c, k, rfl, by omega, by omega, fun p0 hp0 => ?_⟩
    refine ws_if (wt_not (wt_B (wd_callO rfl (wa_cons (wd_callO rfl (wa_cons (wd_op (wd_lst (wa_cons (wd_int (wa_cons (wd_int (wa_nil ⟨Nat.le_of_ble_eq_true rfl, ?_⟩)))))))))))))
    walk_at "dl"
    refine do_ix2 fun most hmost => ?_
    obtain ⟨m, rfl, m1, m2⟩ : ∃ m : Nat, most = m ∧ 3 ≤ m ∧ m ≤ 30 := ⟨most.toNat, by omega, by omega, by omega⟩
    refine wa_nil ⟨p0, _, rfl, hp0, m, rfl, m1, m2, by omega, fun bs B2 hB2 b26 lm p2 hp2 => ?_⟩
    have b : Bd 28 bs := b26.mono (by decide)
    refine wa_nil ⟨p2, B2, rfl, hp2, bs, rfl, b, by omega, fun B3 hB3 p3 hp3 => ⟨true, rfl, if_nt (ws_next ⟨_, _, _, rfl⟩)⟩⟩
  · rintro ρ2 ⟨s1, s2, s3, rfl⟩
    refine ws_ret (wd_bl rfl)
end DL

set_option Elab.async false
set_option linter.all false
set_option maxRecDepth 100000
set_option maxHeartbeats 4000000
namespace DL
open PySem PySem.Spec PyProof.Rows L2
section
variable {P : Program} {w : World} {K : PySem.W.Frag} {mg : Str → Option Value} {base : Heap} {f : Addr} {fd : FuncData}
theorem ok_law_pot  (F : FnP K "_law_pot" s_law_pot f fd) (z_max : mg "max" = none)  : FnOk P w K mg base CX0 1 f fd ["cell", "at"] (spN K TPot) := by
  refine F.ok sc_law_pot (fun vs H Q E h => by obtain ⟨N, ds, Φ, _, hd, ⟨_, _, e, _⟩, _⟩ := h; exact hd.len.trans (by rw [e]; rfl)) (fun cdv A outer s H vs Q E hr h => ⟨t_pot K, PSs.nox ?_, pot_run h⟩)
  exact (pss_one (ps_ret (pe_lst (pa_cons (pe_callB (call_max2 rfl) (by rfl) z_max (by decide +kernel) (pa_cons pe_int (pa_cons (pe_op op_sub (pv 0) (pe_op op_pow pe_int pe_int)) pa_nil))) (pa_cons (pe_op op_add (pe_op op_modN (pv 0) pe_int) (pe_op op_mulW pe_int (pv 1))) (pa_cons pe_int pa_nil))))))
theorem ok_law_take  (F : FnP K "_law_take" s_law_take f fd)   : FnOk P w K mg base CX0 1 f fd ["pot", "many"] (spS K FPot TTake) := by
  refine F.ok sc_law_take (fun vs H Q E h => spS_len (n := 1) (fun B ds Φ ⟨_, e, _⟩ => by rw [e]; rfl) h) (fun cdv A outer s H vs Q E hr h => ⟨t_take K, PSs.nox ?_, take_run h⟩)
  exact (pss_cons (ps_if (pt_cmpR op_ge (pe_ix ix_list (pv 0) pe_int (fun _ _ => rfl)) (pv 1) (nomark _)) (pss_cons (ps_set (i := 2) sc_law_take.nd rfl (by first | exact Or.inl rfl | exact Or.inr rfl) (pe_op op_modN (pe_ix ix_list (pv 0) pe_int (fun _ _ => rfl)) (pv 1)))
      (pss_cons (ps_asg (pe_op op_fdivX (pe_ix ix_list (pv 0) pe_int (fun _ _ => rfl)) (pv 1)) (pg_sub (pv 0) pe_int set_list))
      (pss_one (ps_ret (pv 2))))) pss_nil)
      (pss_cons (ps_asg (pe_op op_add (pe_ix ix_list (pv 0) pe_int (fun _ _ => rfl)) pe_int) (pg_sub (pv 0) pe_int set_list))
      (pss_cons (ps_set (i := 3) sc_law_take.nd rfl (by first | exact Or.inl rfl | exact Or.inr rfl) (pe_lst (pa_cons pe_int (pa_cons pe_int (pa_cons pe_int (pa_cons pe_int pa_nil))))))
      (pss_cons (ps_set (i := 3) sc_law_take.nd rfl (by first | exact Or.inl rfl | exact Or.inr rfl) (pe_op op_catL (pv 3) (pe_lst (pa_cons pe_int (pa_cons pe_int (pa_cons pe_int (pa_cons pe_int pa_nil)))))))
      (pss_cons (ps_set (i := 4) sc_law_take.nd rfl (by first | exact Or.inl rfl | exact Or.inr rfl) (pe_ix ix_list (pv 3) (pe_op op_modN (pe_ix ix_list (pv 0) pe_int (fun _ _ => rfl)) pe_int) (fun _ _ => rfl)))
      (pss_cons (ps_set (i := 5) sc_law_take.nd rfl (by first | exact Or.inl rfl | exact Or.inr rfl) (pe_op op_modN (pe_op op_pow (pe_op op_add (pe_op op_modN (pe_ix ix_list (pv 0) pe_int (fun _ _ => rfl)) (pv 4)) (pe_op op_mulW pe_int (pe_ix ix_list (pv 0) pe_int (fun _ _ => rfl)))) pe_int) (pv 4)))
      (pss_cons (ps_set (i := 6) sc_law_take.nd rfl (by first | exact Or.inl rfl | exact Or.inr rfl) (pe_op op_add (pe_op op_add (pe_op op_add (pe_op op_mulW (pv 5) (pv 5)) (pe_op op_mulW (pe_op op_mulW pe_int (pe_ix ix_list (pv 0) pe_int (fun _ _ => rfl))) (pv 5))) (pe_op op_modN (pe_ix ix_list (pv 0) pe_int (fun _ _ => rfl)) pe_int)) pe_int))
      (pss_cons (ps_set (i := 6) sc_law_take.nd rfl (by first | exact Or.inl rfl | exact Or.inr rfl) (pe_op op_modN (pv 6) (pe_ix ix_list (pv 3) (pe_op op_modN (pe_op op_add (pe_ix ix_list (pv 0) pe_int (fun _ _ => rfl)) pe_int) pe_int) (fun _ _ => rfl))))
      (pss_one (ps_ret (pe_op op_modN (pe_op op_fdivX (pe_op op_modN (pe_op op_pow (pv 6) pe_int) (pe_ix ix_list (pv 3) (pe_op op_modN (pe_op op_add (pe_ix ix_list (pv 0) pe_int (fun _ _ => rfl)) pe_int) pe_int) (fun _ _ => rfl))) pe_int) (pv 1))))))))))))
theorem ok_law_low  (F : FnP K "_law_low" s_law_low f fd) (z_abs : mg "abs" = none)  : FnOk P w K mg base CX0 1 f fd ["a", "b"] (spP K TLow) := by
  refine F.ok sc_law_low (fun vs H Q E h => spP_len (n := 2) (fun ds Φ ⟨_, _, e, _⟩ => by rw [e]; rfl) h) (fun cdv A outer s H vs Q E hr h => ⟨t_lowq K, PSs.nox ?_, run_P h fun ds Φ t => ws_lowq t⟩)
  exact (pss_cons (ps_par (by rfl) sc_law_low.nd (i := 2) (j := 3) rfl rfl (by decide) rfl rfl (pa_cons (pe_callB call_abs (by rfl) z_abs (by decide +kernel) (pa_cons (pv 0) pa_nil)) (pa_cons (pe_callB call_abs (by rfl) z_abs (by decide +kernel) (pa_cons (pv 1) pa_nil)) pa_nil)) (by rfl))
      (pss_cons (ps_while PassesOwn.never (pt_cmpR op_gt (pv 3) pe_int (nomark _)) (pss_one (ps_par (by rfl) sc_law_low.nd (i := 2) (j := 3) rfl rfl (by decide) rfl rfl (pa_cons (pv 3) (pa_cons (pe_op op_modN (pv 2) (pv 3)) pa_nil)) (by rfl))))
      (pss_cons (ps_set (i := 4) sc_law_low.nd rfl (by first | exact Or.inl rfl | exact Or.inr rfl) (pe_ifExp (pt_cmpR op_gt (pv 1) pe_int (nomark _)) (pv 2) (pe_op op_sub pe_int (pv 2))))
      (pss_one (ps_ret (pe_tup (pa_cons (pe_op op_fdivX (pv 0) (pv 4)) (pa_cons (pe_op op_fdivX (pv 1) (pv 4)) pa_nil))))))))
theorem ok_part  (F : FnD K "part" s_part [.int 1] f fd) (m_gcd : mg "gcd" = some (.builtin "math.gcd"))  : FnOk P w K mg base CX0 1 f fd ["a", "b"] (spP K TLow) := by
  refine F.ok sc_part (fun vs H Q E h => spP_len (n := 2) (fun ds Φ ⟨_, _, e, _⟩ => by rw [e]; rfl) h) (fun cdv A outer s H vs Q E hr h => ⟨t_part K, PSs.nox ?_, run_P h fun ds Φ t => ws_part t.part⟩)
  exact (pss_cons (ps_if (pt_cmpR op_eq (pv 1) pe_int (nomark _)) (pss_one ps_no) pss_nil)
      (pss_cons (ps_set (i := 2) sc_part.nd rfl (by first | exact Or.inl rfl | exact Or.inr rfl) (pe_callBfun cr_gcd (by rfl) m_gcd (pa_cons (pv 0) (pa_cons (pv 1) pa_nil))))
      (pss_cons (ps_if (pt_cmpR op_lt (pv 1) pe_int (nomark _)) (pss_one (ps_set (i := 2) sc_part.nd rfl (by first | exact Or.inl rfl | exact Or.inr rfl) (pe_un un_neg (pv 2)))) pss_nil)
      (pss_one (ps_ret (pe_tup (pa_cons (pe_op op_fdivX (pv 0) (pv 2)) (pa_cons (pe_op op_fdivX (pv 1) (pv 2)) pa_nil))))))))
theorem ok_plus  (F : FnP K "plus" s_plus f fd) (h_part : Has P w K mg base CX0 "part" 1 ["a", "b"] (spP K TLow) [])  : FnOk P w K mg base CX0 2 f fd ["one", "other"] (spP K TAdQ) := by
  refine F.ok sc_plus (fun vs H Q E h => spP_len (n := 2) (fun ds Φ ⟨_, _, e, _⟩ => by rw [e]; rfl) h) (fun cdv A outer s H vs Q E hr h => ⟨t_addq K, PSs.nox ?_, run_P h fun ds Φ t => ws_addq t⟩)
  exact (pss_one (ps_ret (pe_has h_part (hr.mono (by decide)) pass0 (pa_cons (pe_op op_add (pe_op op_mulW (pe_ix ix_tup (pv 0) pe_int (fun _ _ => rfl)) (pe_ix ix_tup (pv 1) pe_int (fun _ _ => rfl))) (pe_op op_mulW (pe_ix ix_tup (pv 1) pe_int (fun _ _ => rfl)) (pe_ix ix_tup (pv 0) pe_int (fun _ _ => rfl)))) (pa_cons (pe_op op_mulW (pe_ix ix_tup (pv 0) pe_int (fun _ _ => rfl)) (pe_ix ix_tup (pv 1) pe_int (fun _ _ => rfl))) pa_nil)))))
theorem ok_less  (F : FnP K "less" s_less f fd) (h_part : Has P w K mg base CX0 "part" 1 ["a", "b"] (spP K TLow) [])  : FnOk P w K mg base CX0 2 f fd ["one", "other"] (spP K TSbQ) := by
  refine F.ok sc_less (fun vs H Q E h => spP_len (n := 2) (fun ds Φ ⟨_, _, e, _⟩ => by rw [e]; rfl) h) (fun cdv A outer s H vs Q E hr h => ⟨t_subq K, PSs.nox ?_, run_P h fun ds Φ t => ws_subq t⟩)
  exact (pss_one (ps_ret (pe_has h_part (hr.mono (by decide)) pass0 (pa_cons (pe_op op_sub (pe_op op_mulW (pe_ix ix_tup (pv 0) pe_int (fun _ _ => rfl)) (pe_ix ix_tup (pv 1) pe_int (fun _ _ => rfl))) (pe_op op_mulW (pe_ix ix_tup (pv 1) pe_int (fun _ _ => rfl)) (pe_ix ix_tup (pv 0) pe_int (fun _ _ => rfl)))) (pa_cons (pe_op op_mulW (pe_ix ix_tup (pv 0) pe_int (fun _ _ => rfl)) (pe_ix ix_tup (pv 1) pe_int (fun _ _ => rfl))) pa_nil)))))
theorem ok_times  (F : FnP K "times" s_times f fd) (h_part : Has P w K mg base CX0 "part" 1 ["a", "b"] (spP K TLow) [])  : FnOk P w K mg base CX0 2 f fd ["one", "other"] (spP K TMlQ) := by
  refine F.ok sc_times (fun vs H Q E h => spP_len (n := 2) (fun ds Φ ⟨_, _, e, _⟩ => by rw [e]; rfl) h) (fun cdv A outer s H vs Q E hr h => ⟨t_mulq K, PSs.nox ?_, run_P h fun ds Φ t => ws_mulq t⟩)
  exact (pss_one (ps_ret (pe_has h_part (hr.mono (by decide)) pass0 (pa_cons (pe_op op_mulW (pe_ix ix_tup (pv 0) pe_int (fun _ _ => rfl)) (pe_ix ix_tup (pv 1) pe_int (fun _ _ => rfl))) (pa_cons (pe_op op_mulW (pe_ix ix_tup (pv 0) pe_int (fun _ _ => rfl)) (pe_ix ix_tup (pv 1) pe_int (fun _ _ => rfl))) pa_nil)))))
theorem ok_over  (F : FnP K "over" s_over f fd) (h_part : Has P w K mg base CX0 "part" 1 ["a", "b"] (spP K TLow) [])  : FnOk P w K mg base CX0 2 f fd ["one", "other"] (spP K TDvQ) := by
  refine F.ok sc_over (fun vs H Q E h => spP_len (n := 2) (fun ds Φ ⟨_, _, e, _⟩ => by rw [e]; rfl) h) (fun cdv A outer s H vs Q E hr h => ⟨t_divq K, PSs.nox ?_, run_P h fun ds Φ t => ws_divq t⟩)
  exact (pss_one (ps_ret (pe_has h_part (hr.mono (by decide)) pass0 (pa_cons (pe_op op_mulW (pe_ix ix_tup (pv 0) pe_int (fun _ _ => rfl)) (pe_ix ix_tup (pv 1) pe_int (fun _ _ => rfl))) (pa_cons (pe_op op_mulW (pe_ix ix_tup (pv 0) pe_int (fun _ _ => rfl)) (pe_ix ix_tup (pv 1) pe_int (fun _ _ => rfl))) pa_nil)))))
theorem ok_is_less  (F : FnP K "is_less" s_is_less f fd)   : FnOk P w K mg base CX0 1 f fd ["one", "other"] (spP K TLtQ) := by
  refine F.ok sc_is_less (fun vs H Q E h => spP_len (n := 2) (fun ds Φ ⟨_, _, e, _⟩ => by rw [e]; rfl) h) (fun cdv A outer s H vs Q E hr h => ⟨t_ltq K, PSs.nox ?_, run_P h fun ds Φ t => ws_ltq t⟩)
  exact (pss_one (ps_ret (pe_cmpR op_lt (pe_op op_mulW (pe_ix ix_tup (pv 0) pe_int (fun _ _ => rfl)) (pe_ix ix_tup (pv 1) pe_int (fun _ _ => rfl))) (pe_op op_mulW (pe_ix ix_tup (pv 1) pe_int (fun _ _ => rfl)) (pe_ix ix_tup (pv 0) pe_int (fun _ _ => rfl))) (nomark _))))
theorem ok_law_plus  (F : FnP K "_law_plus" s_law_plus f fd) (h__law_low : Has P w K mg base CX0 "_law_low" 1 ["a", "b"] (spP K TLow) [])  : FnOk P w K mg base CX0 2 f fd ["one", "other"] (spP K TAdQ) := by
  refine F.ok sc_law_plus (fun vs H Q E h => spP_len (n := 2) (fun ds Φ ⟨_, _, e, _⟩ => by rw [e]; rfl) h) (fun cdv A outer s H vs Q E hr h => ⟨t_addq K, PSs.nox ?_, run_P h fun ds Φ t => ws_addq t⟩)
  exact (pss_one (ps_ret (pe_has h__law_low (hr.mono (by decide)) pass0 (pa_cons (pe_op op_add (pe_op op_mulW (pe_ix ix_tup (pv 0) pe_int (fun _ _ => rfl)) (pe_ix ix_tup (pv 1) pe_int (fun _ _ => rfl))) (pe_op op_mulW (pe_ix ix_tup (pv 1) pe_int (fun _ _ => rfl)) (pe_ix ix_tup (pv 0) pe_int (fun _ _ => rfl)))) (pa_cons (pe_op op_mulW (pe_ix ix_tup (pv 0) pe_int (fun _ _ => rfl)) (pe_ix ix_tup (pv 1) pe_int (fun _ _ => rfl))) pa_nil)))))
theorem ok_law_minus  (F : FnP K "_law_minus" s_law_minus f fd) (h__law_low : Has P w K mg base CX0 "_law_low" 1 ["a", "b"] (spP K TLow) [])  : FnOk P w K mg base CX0 2 f fd ["one", "other"] (spP K TSbQ) := by
  refine F.ok sc_law_minus (fun vs H Q E h => spP_len (n := 2) (fun ds Φ ⟨_, _, e, _⟩ => by rw [e]; rfl) h) (fun cdv A outer s H vs Q E hr h => ⟨t_subq K, PSs.nox ?_, run_P h fun ds Φ t => ws_subq t⟩)
  exact (pss_one (ps_ret (pe_has h__law_low (hr.mono (by decide)) pass0 (pa_cons (pe_op op_sub (pe_op op_mulW (pe_ix ix_tup (pv 0) pe_int (fun _ _ => rfl)) (pe_ix ix_tup (pv 1) pe_int (fun _ _ => rfl))) (pe_op op_mulW (pe_ix ix_tup (pv 1) pe_int (fun _ _ => rfl)) (pe_ix ix_tup (pv 0) pe_int (fun _ _ => rfl)))) (pa_cons (pe_op op_mulW (pe_ix ix_tup (pv 0) pe_int (fun _ _ => rfl)) (pe_ix ix_tup (pv 1) pe_int (fun _ _ => rfl))) pa_nil)))))
theorem ok_law_times  (F : FnP K "_law_times" s_law_times f fd) (h__law_low : Has P w K mg base CX0 "_law_low" 1 ["a", "b"] (spP K TLow) [])  : FnOk P w K mg base CX0 2 f fd ["one", "other"] (spP K TMlQ) := by
  refine F.ok sc_law_times (fun vs H Q E h => spP_len (n := 2) (fun ds Φ ⟨_, _, e, _⟩ => by rw [e]; rfl) h) (fun cdv A outer s H vs Q E hr h => ⟨t_mulq K, PSs.nox ?_, run_P h fun ds Φ t => ws_mulq t⟩)
  exact (pss_one (ps_ret (pe_has h__law_low (hr.mono (by decide)) pass0 (pa_cons (pe_op op_mulW (pe_ix ix_tup (pv 0) pe_int (fun _ _ => rfl)) (pe_ix ix_tup (pv 1) pe_int (fun _ _ => rfl))) (pa_cons (pe_op op_mulW (pe_ix ix_tup (pv 0) pe_int (fun _ _ => rfl)) (pe_ix ix_tup (pv 1) pe_int (fun _ _ => rfl))) pa_nil)))))
theorem ok_law_below  (F : FnP K "_law_below" s_law_below f fd)   : FnOk P w K mg base CX0 1 f fd ["one", "other"] (spP K TLtQ) := by
  refine F.ok sc_law_below (fun vs H Q E h => spP_len (n := 2) (fun ds Φ ⟨_, _, e, _⟩ => by rw [e]; rfl) h) (fun cdv A outer s H vs Q E hr h => ⟨t_ltq K, PSs.nox ?_, run_P h fun ds Φ t => ws_ltq t⟩)
  exact (pss_one (ps_ret (pe_cmpR op_lt (pe_op op_mulW (pe_ix ix_tup (pv 0) pe_int (fun _ _ => rfl)) (pe_ix ix_tup (pv 1) pe_int (fun _ _ => rfl))) (pe_op op_mulW (pe_ix ix_tup (pv 1) pe_int (fun _ _ => rfl)) (pe_ix ix_tup (pv 0) pe_int (fun _ _ => rfl))) (nomark _))))
theorem ok_is_whole  (F : FnP K "is_whole" s_is_whole f fd) (z_int : mg "int" = none) (z_type : mg "type" = none)  : FnOk P w K mg base CX0 1 f fd ["thing"] (spP K TWhole) := by
  refine F.ok sc_is_whole (fun vs H Q E h => spP_len (n := 1) (fun ds Φ ⟨_, e, _⟩ => by rw [e]; rfl) h) (fun cdv A outer s H vs Q E hr h => ⟨t_is_whole K, PSs.nox ?_, run_P h fun ds Φ t => ws_is_whole t⟩)
  exact (pss_one (ps_ret (pe_cmpR op_isTyB (pe_callTy call_type1 (by rfl) z_type (by decide +kernel) (pa_cons (pv 0) pa_nil)) (pe_bltn (by rfl) z_int (by decide +kernel) rfl) (nomark _))))
theorem ok_is_part  (F : FnP K "is_part" s_is_part f fd) (m_gcd : mg "gcd" = some (.builtin "math.gcd")) (z_len : mg "len" = none) (z_tuple : mg "tuple" = none) (z_type : mg "type" = none) (h_is_whole : Has P w K mg base CX0 "is_whole" 1 ["thing"] (spP K TWhole) [])  : FnOk P w K mg base CX0 2 f fd ["thing"] (spP K TPartB) := by
  refine F.ok sc_is_part (fun vs H Q E h => spP_len (n := 1) (fun ds Φ ⟨_, e, _⟩ => by rw [e]; rfl) h) (fun cdv A outer s H vs Q E hr h => ⟨t_is_part K, PSs.nox ?_, run_P h fun ds Φ t => ws_is_part t⟩)
  exact (pss_cons (ps_if (pt_not (PW.pt (pw_and (pt_cmpR op_isTyB (pe_callTy call_type1 (by rfl) z_type (by decide +kernel) (pa_cons (pv 0) pa_nil)) (pe_bltn (by rfl) z_tuple (by decide +kernel) rfl) (nomark _)) (pw_and1 (pt_cmpR op_eq (pe_callB call_len_seq (by rfl) z_len PySem.boot_len (pa_cons (pv 0) pa_nil)) pe_int (nomark _)))))) (pss_one (ps_ret pe_bl)) pss_nil)
      (pss_cons (ps_asg (pv 0) (pg_tup rfl (pgs_cons (pg_name (i := 1) sc_is_part.nd rfl (by first | exact Or.inl rfl | exact Or.inr rfl)) (pgs_cons (pg_name (i := 2) sc_is_part.nd rfl (by first | exact Or.inl rfl | exact Or.inr rfl)) pgs_nil))))
      (pss_one (ps_ret (pe_and (pe_has h_is_whole (hr.mono (by decide)) pass0 (pa_cons (pv 1) pa_nil)) (pe_and (pe_has h_is_whole (hr.mono (by decide)) pass0 (pa_cons (pv 2) pa_nil)) (pe_and (pe_cmpR op_ge (pv 2) pe_int (nomark _)) (pe_one (pe_cmpR op_eq (pe_callBfun cr_gcd (by rfl) m_gcd (pa_cons (pv 1) (pa_cons (pv 2) pa_nil))) pe_int (nomark _))))))))))
theorem ok_is_amount  (F : FnP K "is_amount" s_is_amount f fd) (h_is_part : Has P w K mg base CX0 "is_part" 2 ["thing"] (spP K TPartB) [])  : FnOk P w K mg base CX0 3 f fd ["thing"] (spP K TAmountB) := by
  refine F.ok sc_is_amount (fun vs H Q E h => spP_len (n := 1) (fun ds Φ ⟨_, e, _⟩ => by rw [e]; rfl) h) (fun cdv A outer s H vs Q E hr h => ⟨t_is_amount K, PSs.nox ?_, run_P h fun ds Φ t => ws_is_amount t⟩)
  exact (pss_one (ps_ret (pe_and (pe_has h_is_part (hr.mono (by decide)) pass0 (pa_cons (pv 0) pa_nil)) (pe_one (pe_cmpR op_ge (pe_ix ix_tup (pv 0) pe_int (fun _ _ => rfl)) pe_int (nomark _))))))
theorem ok_is_rising  (F : FnP K "_is_rising" s_is_rising f fd) (z_all : mg "all" = none) (z_len : mg "len" = none) (z_range : mg "range" = none) (h_is_less : Has P w K mg base CX0 "is_less" 1 ["one", "other"] (spP K TLtQ) [])  : FnOk P w K mg base CX0 2 f fd ["knots"] (spP K TRisB) := by
  refine F.ok sc_is_rising (fun vs H Q E h => spP_len (n := 1) (fun ds Φ ⟨_, _, _, e, _⟩ => by rw [e]; rfl) h) (fun cdv A outer s H vs Q E hr h => ⟨t_risB K, PSs.nox ?_, run_P h fun ds Φ t => ws_risB t⟩)
  exact (pss_one (ps_ret (pe_callB (cr_all rfl) (by rfl) z_all (by decide +kernel) (pa_cons (pe_lc (own := [("at", 1)]) (g := (gName 1)) rfl sc_is_rising.nd (pi_range1 rfl z_range (pa_cons (pe_op op_sub (pe_callB call_len_seq (by rfl) z_len PySem.boot_len (pa_cons (pv 0) pa_nil)) pe_int) pa_nil)) (blkOk_by (N := ["knots", "at"]) (sc := defScope s_is_rising) (by decide +kernel)) (fun _ _ _ _ _ => (pg_name (i := 1) sc_is_rising.nd rfl (by first | exact Or.inl rfl | exact Or.inr rfl))) (fun _ _ _ _ _ => pts_nil) (fun _ _ _ _ _ => (pe_has h_is_less (hr.mono (by decide)) pass0 (pa_cons (pe_ix ix_tup (pe_ix ix_row (pv 0) (pv 1) (fun _ _ => rfl)) pe_int (fun _ _ => rfl)) (pa_cons (pe_ix ix_tup (pe_ix ix_row (pv 0) (pe_op op_add (pv 1) pe_int) (fun _ _ => rfl)) pe_int (fun _ _ => rfl)) pa_nil))))) pa_nil))))
theorem ok_slopes  (F : FnP K "_slopes" s_slopes f fd) (z_len : mg "len" = none) (z_range : mg "range" = none) (h_less : Has P w K mg base CX0 "less" 2 ["one", "other"] (spP K TSbQ) []) (h_over : Has P w K mg base CX0 "over" 2 ["one", "other"] (spP K TDvQ) [])  : FnOk P w K mg base CX0 3 f fd ["knots", "slope"] (spP K TSlopesR) := by
  refine F.ok sc_slopes (fun vs H Q E h => spP_len (n := 2) (fun ds Φ ⟨_, _, _, _, e, _⟩ => by rw [e]; rfl) h) (fun cdv A outer s H vs Q E hr h => ⟨t_slopesR K, PSs.nox ?_, run_P h fun ds Φ t => ws_slopesR t⟩)
  exact (pss_cons (ps_set (i := 2) sc_slopes.nd rfl (by first | exact Or.inl rfl | exact Or.inr rfl) (pe_lst pa_nil))
      (pss_cons (ps_for PassesOwn.never rfl (pi_range1 rfl z_range (pa_cons (pe_op op_sub (pe_callB call_len_seq (by rfl) z_len PySem.boot_len (pa_cons (pv 0) pa_nil)) pe_int) pa_nil)) (pg_name (i := 3) sc_slopes.nd rfl (by first | exact Or.inl rfl | exact Or.inr rfl)) (pss_cons (ps_asg (pe_ix ix_row (pv 0) (pv 3) (fun _ _ => rfl)) (pg_tup rfl (pgs_cons (pg_name (i := 4) sc_slopes.nd rfl (by first | exact Or.inl rfl | exact Or.inr rfl)) (pgs_cons (pg_name (i := 5) sc_slopes.nd rfl (by first | exact Or.inl rfl | exact Or.inr rfl)) pgs_nil))))
      (pss_cons (ps_asg (pe_ix ix_row (pv 0) (pe_op op_add (pv 3) pe_int) (fun _ _ => rfl)) (pg_tup rfl (pgs_cons (pg_name (i := 6) sc_slopes.nd rfl (by first | exact Or.inl rfl | exact Or.inr rfl)) (pgs_cons (pg_name (i := 7) sc_slopes.nd rfl (by first | exact Or.inl rfl | exact Or.inr rfl)) pgs_nil))))
      (pss_one (ps_expr (pe_bm PySem.F.plainAttrs_list PySem.F.slot_list_append PySem.F.type_list_append mt_append (pv 2) (pa_cons (pe_has h_over (hr.mono (by decide)) pass0 (pa_cons (pe_has h_less (hr.mono (by decide)) pass0 (pa_cons (pv 7) (pa_cons (pv 5) pa_nil))) (pa_cons (pe_has h_less (hr.mono (by decide)) pass0 (pa_cons (pv 6) (pa_cons (pv 4) pa_nil))) pa_nil))) pa_nil)))))))
      (pss_one (ps_ret (pe_op op_catL (pv 2) (pe_lst (pa_cons (pv 1) pa_nil)))))))
theorem ok_bends  (F : FnP K "_bends" s_bends f fd) (z_enumerate : mg "enumerate" = none) (z_tuple : mg "tuple" = none) (h__slopes : Has P w K mg base CX0 "_slopes" 3 ["knots", "slope"] (spP K TSlopesR) [])  : FnOk P w K mg base CX0 4 f fd ["knots", "slope"] (spP K TBends) := by
  refine F.ok sc_bends (fun vs H Q E h => spP_len (n := 2) (fun ds Φ ⟨_, _, _, _, e, _⟩ => by rw [e]; rfl) h) (fun cdv A outer s H vs Q E hr h => ⟨t_bends K, PSs.nox ?_, run_P h fun ds Φ t => ws_bends t⟩)
  exact (pss_cons (ps_set (i := 2) sc_bends.nd rfl (by first | exact Or.inl rfl | exact Or.inr rfl) (pe_has h__slopes (hr.mono (by decide)) pass0 (pa_cons (pv 0) (pa_cons (pv 1) pa_nil))))
      (pss_cons (ps_set (i := 3) sc_bends.nd rfl (by first | exact Or.inl rfl | exact Or.inr rfl) (pe_lst pa_nil))
      (pss_cons (ps_for PassesOwn.never rfl (pi_enumR (by rfl) z_enumerate (pa_cons (pv 0) pa_nil)) (pg_tup rfl (pgs_cons (pg_name (i := 4) sc_bends.nd rfl (by first | exact Or.inl rfl | exact Or.inr rfl)) (pgs_cons (pg_tup rfl (pgs_cons (pg_name (i := 5) sc_bends.nd rfl (by first | exact Or.inl rfl | exact Or.inr rfl)) (pgs_cons (pg_name (i := 6) sc_bends.nd rfl (by first | exact Or.inl rfl | exact Or.inr rfl)) pgs_nil))) pgs_nil))) (pss_one (ps_if (PW.pt (pw_or (pt_cmpR op_eq (pv 4) pe_int (nomark _)) (pw_or1 (pt_cmpR (op_neD hr.units) (pe_ix ix_list (pv 2) (pv 4) (fun _ _ => rfl)) (pe_ix ix_list (pv 2) (pe_op op_sub (pv 4) pe_int) (fun _ _ => rfl)) (nomark _))))) (pss_one (ps_expr (pe_bm PySem.F.plainAttrs_list PySem.F.slot_list_append PySem.F.type_list_append mt_append (pv 3) (pa_cons (pe_tup (pa_cons (pv 5) (pa_cons (pv 6) pa_nil))) pa_nil)))) pss_nil)))
      (pss_one (ps_ret (pe_callTy call_tuple_of (by rfl) z_tuple (by decide +kernel) (pa_cons (pv 3) pa_nil)))))))
theorem ok_line_of {a_NOUGHT : Addr} (F : FnP K "line_of" s_line_of f fd) (z_len : mg "len" = none) (h__bends : Has P w K mg base CX0 "_bends" 4 ["knots", "slope"] (spP K TBends) []) (h__is_rising : Has P w K mg base CX0 "_is_rising" 2 ["knots"] (spP K TRisB) []) (c_NOUGHT : mg "NOUGHT" = some (.ref a_NOUGHT) ∧ RelV (V.ref a_NOUGHT) (Value.ref a_NOUGHT)) (hN : ∀ H : Hp, SqT K H a_NOUGHT [.int 0, .int 1]) : FnOk P w K mg base CX0 5 f fd ["knots", "slope"] (spP K TLineOf) := by
  refine F.ok sc_line_of (fun vs H Q E h => spP_len (n := 2) (fun ds Φ ⟨_, _, _, _, e, _⟩ => by rw [e]; rfl) h) (fun cdv A outer s H vs Q E hr h => ⟨t_lineof K a_NOUGHT, PSs.nox ?_, run_P h fun ds Φ t => ws_lineof hN t⟩)
  exact (pss_cons (ps_if (pt_cmpR op_eq (pe_callB call_len_seq (by rfl) z_len PySem.boot_len (pa_cons (pv 0) pa_nil)) pe_int (nomark _)) (pss_one ps_no) pss_nil)
      (pss_cons (ps_if (pt_cmpR (op_neD hr.units) (pe_ix ix_tup (pe_ix ix_row (pv 0) pe_int (fun _ _ => rfl)) pe_int (fun _ _ => rfl)) (pe_glob rfl c_NOUGHT.1 c_NOUGHT.2) (nomark _)) (pss_one ps_no) pss_nil)
      (pss_cons (ps_if (pt_not (pt_val (pe_has h__is_rising (hr.mono (by decide)) pass0 (pa_cons (pv 0) pa_nil)))) (pss_one ps_no) pss_nil)
      (pss_one (ps_ret (pe_tup (pa_cons (pe_has h__bends (hr.mono (by decide)) pass0 (pa_cons (pv 0) (pa_cons (pv 1) pa_nil))) (pa_cons (pv 1) pa_nil))))))))
theorem ok_slope_behind  (F : FnP K "_slope_behind" s_slope_behind f fd) (h__slopes : Has P w K mg base CX0 "_slopes" 3 ["knots", "slope"] (spP K TSlopes) [])  : FnOk P w K mg base CX0 4 f fd ["line", "at"] (spP K TSlope) := by
  refine F.ok sc_slope_behind (fun vs H Q E h => spP_len (n := 2) (fun ds Φ ⟨_, _, _, _, e, _⟩ => by rw [e]; rfl) h) (fun cdv A outer s H vs Q E hr h => ⟨t_behind K, PSs.nox ?_, run_P h fun ds Φ t => ws_behind t⟩)
  exact (pss_one (ps_ret (pe_ix ix_list (pe_has h__slopes (hr.mono (by decide)) pass0 (pa_cons (pe_slice sl_tupA (pe_ix ix_tup (pv 0) pe_int (fun _ _ => rfl)) (po_some (pv 1)) (po_some (pe_op op_add (pv 1) pe_int))) (pa_cons (pe_ix ix_tup (pv 0) pe_int (fun _ _ => rfl)) pa_nil))) pe_int (fun _ _ => rfl))))
theorem ok_knot_no_later  (F : FnP K "_knot_no_later" s_knot_no_later f fd) (z_len : mg "len" = none) (h_is_less : Has P w K mg base CX0 "is_less" 1 ["one", "other"] (spP K TLtQ) [])  : FnOk P w K mg base CX0 2 f fd ["knots", "x"] (spP K TNoLater) := by
  refine F.ok sc_knot_no_later (fun vs H Q E h => spP_len (n := 2) (fun ds Φ ⟨_, _, e, _⟩ => by rw [e]; rfl) h) (fun cdv A outer s H vs Q E hr h => ⟨t_nolater K, PSs.nox ?_, run_P h fun ds Φ t => ws_nolater t⟩)
  exact (pss_cons (ps_par (by rfl) sc_knot_no_later.nd (i := 2) (j := 3) rfl rfl (by decide) rfl rfl (pa_cons pe_int (pa_cons (pe_callB call_len_seq (by rfl) z_len PySem.boot_len (pa_cons (pv 0) pa_nil)) pa_nil)) (by rfl))
      (pss_cons (ps_while PassesOwn.never (pt_cmpR op_gt (pe_op op_sub (pv 3) (pv 2)) pe_int (nomark _)) (pss_cons (ps_set (i := 4) sc_knot_no_later.nd rfl (by first | exact Or.inl rfl | exact Or.inr rfl) (pe_op op_fdivX (pe_op op_add (pv 2) (pv 3)) pe_int))
      (pss_one (ps_if (pt_val (pe_has h_is_less (hr.mono (by decide)) pass0 (pa_cons (pv 1) (pa_cons (pe_ix ix_tup (pe_ix ix_tup (pv 0) (pv 4) (fun _ _ => rfl)) pe_int (fun _ _ => rfl)) pa_nil)))) (pss_one (ps_set (i := 3) sc_knot_no_later.nd rfl (by first | exact Or.inl rfl | exact Or.inr rfl) (pv 4))) (pss_one (ps_set (i := 2) sc_knot_no_later.nd rfl (by first | exact Or.inl rfl | exact Or.inr rfl) (pv 4)))))))
      (pss_one (ps_ret (pv 2)))))
theorem ok_height  (F : FnP K "_height" s_height f fd) (h__slope_behind : Has P w K mg base CX0 "_slope_behind" 4 ["line", "at"] (spP K TSlope) []) (h_less : Has P w K mg base CX0 "less" 2 ["one", "other"] (spP K TSbQ) []) (h_plus : Has P w K mg base CX0 "plus" 2 ["one", "other"] (spP K TAdQ) []) (h_times : Has P w K mg base CX0 "times" 2 ["one", "other"] (spP K TMlQ) [])  : FnOk P w K mg base CX0 5 f fd ["line", "at", "x"] (spP K THeight) := by
  refine F.ok sc_height (fun vs H Q E h => spP_len (n := 3) (fun ds Φ ⟨_, _, _, _, _, _, e, _⟩ => by rw [e]; rfl) h) (fun cdv A outer s H vs Q E hr h => ⟨t_height K, PSs.nox ?_, run_P h fun ds Φ t => ws_height t⟩)
  exact (pss_cons (ps_asg (pe_ix ix_tup (pe_ix ix_tup (pv 0) pe_int (fun _ _ => rfl)) (pv 1) (fun _ _ => rfl)) (pg_tup rfl (pgs_cons (pg_name (i := 3) sc_height.nd rfl (by first | exact Or.inl rfl | exact Or.inr rfl)) (pgs_cons (pg_name (i := 4) sc_height.nd rfl (by first | exact Or.inl rfl | exact Or.inr rfl)) pgs_nil))))
      (pss_cons (ps_if (pt_cmpR (op_eqD hr.units) (pv 2) (pv 3) (nomark _)) (pss_one (ps_ret (pv 4))) pss_nil)
      (pss_one (ps_ret (pe_has h_plus (hr.mono (by decide)) pass0 (pa_cons (pv 4) (pa_cons (pe_has h_times (hr.mono (by decide)) pass0 (pa_cons (pe_has h__slope_behind (hr.mono (by decide)) pass0 (pa_cons (pv 0) (pa_cons (pv 1) pa_nil))) (pa_cons (pe_has h_less (hr.mono (by decide)) pass0 (pa_cons (pv 2) (pa_cons (pv 3) pa_nil))) pa_nil))) pa_nil)))))))
theorem ok_y_at  (F : FnP K "y_at" s_y_at f fd) (h__height : Has P w K mg base CX0 "_height" 5 ["line", "at", "x"] (spP K THeight) []) (h__knot_no_later : Has P w K mg base CX0 "_knot_no_later" 2 ["knots", "x"] (spP K TNoLater) [])  : FnOk P w K mg base CX0 6 f fd ["line", "x"] (spP K TYat) := by
  refine F.ok sc_y_at (fun vs H Q E h => spP_len (n := 2) (fun ds Φ ⟨_, _, _, _, _, e, _⟩ => by rw [e]; rfl) h) (fun cdv A outer s H vs Q E hr h => ⟨t_yat K, PSs.nox ?_, run_P h fun ds Φ t => ws_yat t⟩)
  exact (pss_cons (ps_if (pt_cmpR op_lt (pe_ix ix_tup (pv 1) pe_int (fun _ _ => rfl)) pe_int (nomark _)) (pss_one ps_no) pss_nil)
      (pss_one (ps_ret (pe_has h__height (hr.mono (by decide)) pass0 (pa_cons (pv 0) (pa_cons (pe_has h__knot_no_later (hr.mono (by decide)) pass0 (pa_cons (pe_ix ix_tup (pv 0) pe_int (fun _ _ => rfl)) (pa_cons (pv 1) pa_nil))) (pa_cons (pv 1) pa_nil)))))))
theorem ok_yatX {C : Addr} (F : FnP K "y_at" s_y_at f fd) (Z : ExcV K C) (gC : mg "NoAmount" = some (.ref C)) : FnOk P w K mg base (L2.CX P w) 1 f fd ["line", "x"] (spX K (TYx C)) := by
  refine F.ok sc_y_at (fun vs H Q E h => spX_len (n := 2) (fun ds Φ Ψ ⟨_, _, e, _⟩ => by rw [e]; rfl) h) (fun cdv A outer s H vs Q E hr h => ⟨t_yatX K C E, ?_, run_yatX h⟩)
  exact pss_cons (ps_if (pt_cmpR op_lt (pe_ix ix_tup (pv 1) pe_int (fun _ _ => rfl)) pe_int (nomark _))
    (pss_one (ps_raise rfl (takes_of rfl rfl rfl rfl) (pmk_own PySem.F.excBase_ValueError Z.q gC Z.k (raises_own Z.s Z.t) (by exact rfl)))) pss_nil) pss_no
theorem ok_knot_xs  (F : FnP K "_knot_xs" s_knot_xs f fd)   : FnOk P w K mg base CX0 1 f fd ["line"] (spP K TKxs) := by
  refine F.ok sc_knot_xs (fun vs H Q E h => spP_len (n := 1) (fun ds Φ ⟨_, _, e, _⟩ => by rw [e]; rfl) h) (fun cdv A outer s H vs Q E hr h => ⟨t_kxs K, PSs.nox ?_, run_P h fun ds Φ t => ws_kxs t⟩)
  exact (pss_one (ps_ret (pe_lc (own := [("x", 1), ("_", 2)]) (g := (gTup _ 2 (gCons (gName 1) (gCons (gName 2) gNil)))) rfl sc_knot_xs.nd (pi_tup (pe_ix ix_tup (pv 0) pe_int (fun _ _ => rfl))) (blkOk_by (N := ["line", "x", "_"]) (sc := defScope s_knot_xs) (by decide +kernel)) (fun _ _ _ _ _ => (pg_tup rfl (pgs_cons (pg_name (i := 1) sc_knot_xs.nd rfl (by first | exact Or.inl rfl | exact Or.inr rfl)) (pgs_cons (pg_name (i := 2) sc_knot_xs.nd rfl (by first | exact Or.inl rfl | exact Or.inr rfl)) pgs_nil)))) (fun _ _ _ _ _ => pts_nil) (fun _ _ _ _ _ => (pv 1)))))
theorem ok_heights  (F : FnP K "_heights" s_heights f fd) (z_len : mg "len" = none) (h__height : Has P w K mg base CX0 "_height" 5 ["line", "at", "x"] (spP K THeight) []) (h_is_less : Has P w K mg base CX0 "is_less" 1 ["one", "other"] (spP K TLtQ) [])  : FnOk P w K mg base CX0 6 f fd ["line", "xs"] (spP K THeights) := by
  refine F.ok sc_heights (fun vs H Q E h => spP_len (n := 2) (fun ds Φ ⟨_, _, _, _, _, e, _⟩ => by rw [e]; rfl) h) (fun cdv A outer s H vs Q E hr h => ⟨t_heights K, PSs.nox ?_, run_P h fun ds Φ t => ws_heights t⟩)
  exact (pss_cons (ps_set (i := 2) sc_heights.nd rfl (by first | exact Or.inl rfl | exact Or.inr rfl) (pe_ix ix_tup (pv 0) pe_int (fun _ _ => rfl)))
      (pss_cons (ps_set (i := 3) sc_heights.nd rfl (by first | exact Or.inl rfl | exact Or.inr rfl) (pe_lst pa_nil))
      (pss_cons (ps_set (i := 4) sc_heights.nd rfl (by first | exact Or.inl rfl | exact Or.inr rfl) pe_int)
      (pss_cons (ps_for PassesOwn.never rfl (pi_list (pv 1)) (pg_name (i := 5) sc_heights.nd rfl (by first | exact Or.inl rfl | exact Or.inr rfl)) (pss_cons (ps_while PassesOwn.never (PW.pt (pw_and (pt_cmpR op_lt (pe_op op_add (pv 4) pe_int) (pe_callB call_len_seq (by rfl) z_len PySem.boot_len (pa_cons (pv 2) pa_nil)) (nomark _)) (pw_and1 (pt_not (pt_val (pe_has h_is_less (hr.mono (by decide)) pass0 (pa_cons (pv 5) (pa_cons (pe_ix ix_tup (pe_ix ix_tup (pv 2) (pe_op op_add (pv 4) pe_int) (fun _ _ => rfl)) pe_int (fun _ _ => rfl)) pa_nil)))))))) (pss_one (ps_set (i := 4) sc_heights.nd rfl (by first | exact Or.inl rfl | exact Or.inr rfl) (pe_op op_add (pv 4) pe_int))))
      (pss_one (ps_expr (pe_bm PySem.F.plainAttrs_list PySem.F.slot_list_append PySem.F.type_list_append mt_append (pv 3) (pa_cons (pe_has h__height (hr.mono (by decide)) pass0 (pa_cons (pv 0) (pa_cons (pv 4) (pa_cons (pv 5) pa_nil)))) pa_nil))))))
      (pss_one (ps_ret (pv 3)))))))
theorem ok_both_heights  (F : FnP K "_both_heights" s_both_heights f fd) (z_list : mg "list" = none) (z_zip : mg "zip" = none) (h__heights : Has P w K mg base CX0 "_heights" 6 ["line", "xs"] (spP K THeights) [])  : FnOk P w K mg base CX0 7 f fd ["one", "other", "xs"] (spP K TBoth) := by
  refine F.ok sc_both_heights (fun vs H Q E h => spP_len (n := 3) (fun ds Φ ⟨_, _, _, _, _, _, _, e, _⟩ => by rw [e]; rfl) h) (fun cdv A outer s H vs Q E hr h => ⟨t_both K, PSs.nox ?_, run_P h fun ds Φ t => ws_both t⟩)
  exact (pss_one (ps_ret (pe_lzip rfl (by rfl) z_list (by rfl) z_zip (pa_cons (pe_has h__heights (hr.mono (by decide)) pass0 (pa_cons (pv 0) (pa_cons (pv 2) pa_nil))) (pa_cons (pe_has h__heights (hr.mono (by decide)) pass0 (pa_cons (pv 1) (pa_cons (pv 2) pa_nil))) pa_nil)))))
theorem ok_merged  (F : FnP K "_merged" s_merged f fd) (z_len : mg "len" = none) (h_is_less : Has P w K mg base CX0 "is_less" 1 ["one", "other"] (spP K TLtQ) [])  : FnOk P w K mg base CX0 2 f fd ["some", "others"] (spM K TMerged) := by
  refine F.ok sc_merged (fun vs H Q E h => spM_len (n := 2) (fun ds Φ ⟨_, _, _, e, _⟩ => by rw [e]; rfl) h) (fun cdv A outer s H vs Q E hr h => ⟨t_merged K, PSs.nox ?_, run_merged h⟩)
  exact (pss_cons (ps_set (i := 2) sc_merged.nd rfl (by first | exact Or.inl rfl | exact Or.inr rfl) (pe_lst pa_nil))
      (pss_cons (ps_set (i := 3) sc_merged.nd rfl (by first | exact Or.inl rfl | exact Or.inr rfl) pe_int)
      (pss_cons (ps_for PassesOwn.never rfl (pi_list (pv 0)) (pg_name (i := 4) sc_merged.nd rfl (by first | exact Or.inl rfl | exact Or.inr rfl)) (pss_cons (ps_while PassesOwn.never (PW.pt (pw_and (pt_cmpR op_lt (pv 3) (pe_callB call_len_seq (by rfl) z_len PySem.boot_len (pa_cons (pv 1) pa_nil)) (nomark _)) (pw_and1 (pt_val (pe_has h_is_less (hr.mono (by decide)) pass0 (pa_cons (pe_ix ix_list (pv 1) (pv 3) (fun _ _ => rfl)) (pa_cons (pv 4) pa_nil))))))) (pss_cons (ps_expr (pe_bm PySem.F.plainAttrs_list PySem.F.slot_list_append PySem.F.type_list_append mt_append (pv 2) (pa_cons (pe_ix ix_list (pv 1) (pv 3) (fun _ _ => rfl)) pa_nil)))
      (pss_one (ps_set (i := 3) sc_merged.nd rfl (by first | exact Or.inl rfl | exact Or.inr rfl) (pe_op op_add (pv 3) pe_int)))))
      (pss_cons (ps_if (PW.pt (pw_and (pt_cmpR op_lt (pv 3) (pe_callB call_len_seq (by rfl) z_len PySem.boot_len (pa_cons (pv 1) pa_nil)) (nomark _)) (pw_and1 (pt_cmpR (op_eqD hr.units) (pe_ix ix_list (pv 1) (pv 3) (fun _ _ => rfl)) (pv 4) (nomark _))))) (pss_one (ps_set (i := 3) sc_merged.nd rfl (by first | exact Or.inl rfl | exact Or.inr rfl) (pe_op op_add (pv 3) pe_int))) pss_nil)
      (pss_one (ps_expr (pe_bm PySem.F.plainAttrs_list PySem.F.slot_list_append PySem.F.type_list_append mt_append (pv 2) (pa_cons (pv 4) pa_nil)))))))
      (pss_one (ps_ret (pe_op op_catL (pv 2) (pe_slice sl_list (pv 1) (po_some (pv 3)) po_none)))))))
theorem ok_sum_line  (F : FnP K "sum_line" s_sum_line f fd) (z_list : mg "list" = none) (z_zip : mg "zip" = none) (h__both_heights : Has P w K mg base CX0 "_both_heights" 7 ["one", "other", "xs"] (spP K TBoth) []) (h__knot_xs : Has P w K mg base CX0 "_knot_xs" 1 ["line"] (spP K TKxs) []) (h__merged : Has P w K mg base CX0 "_merged" 2 ["some", "others"] (spM K TMerged) []) (h_line_of : Has P w K mg base CX0 "line_of" 5 ["knots", "slope"] (spP K TLineOf) []) (h_plus : Has P w K mg base CX0 "plus" 2 ["one", "other"] (spP K TAdQ) [])  : FnOk P w K mg base CX0 8 f fd ["one", "other"] (spP K TSumL) := by
  refine F.ok sc_sum_line (fun vs H Q E h => spP_len (n := 2) (fun ds Φ ⟨_, _, _, _, _, e, _⟩ => by rw [e]; rfl) h) (fun cdv A outer s H vs Q E hr h => ⟨t_sumline K, PSs.nox ?_, run_P h fun ds Φ t => ws_sumline t⟩)
  exact (pss_cons (ps_set (i := 2) sc_sum_line.nd rfl (by first | exact Or.inl rfl | exact Or.inr rfl) (pe_has h__merged (hr.mono (by decide)) pass0 (pa_cons (pe_has h__knot_xs (hr.mono (by decide)) pass0 (pa_cons (pv 0) pa_nil)) (pa_cons (pe_has h__knot_xs (hr.mono (by decide)) pass0 (pa_cons (pv 1) pa_nil)) pa_nil))))
      (pss_cons (ps_setLc (i := 3) (own := [("first", 4), ("second", 5)]) (g := (gTup _ 2 (gCons (gName 4) (gCons (gName 5) gNil)))) rfl sc_sum_line.nd rfl rfl (sw_true rfl rfl rfl (by decide +kernel)) (pi_list (pe_has h__both_heights (hr.mono (by decide)) pass0 (pa_cons (pv 0) (pa_cons (pv 1) (pa_cons (pv 2) pa_nil))))) (blkOk_by (N := ["one", "other", "xs", "ys", "first", "second"]) (sc := defScope s_sum_line) (by decide +kernel)) (fun _ _ _ _ _ => (pg_tup rfl (pgs_cons (pg_name (i := 4) sc_sum_line.nd rfl (by first | exact Or.inl rfl | exact Or.inr rfl)) (pgs_cons (pg_name (i := 5) sc_sum_line.nd rfl (by first | exact Or.inl rfl | exact Or.inr rfl)) pgs_nil)))) (fun _ _ _ _ _ => pts_nil) (fun _ _ _ _ _ => (pe_has h_plus (hr.mono (by decide)) pass0 (pa_cons (pv 4) (pa_cons (pv 5) pa_nil)))))
      (pss_one (ps_ret (pe_has h_line_of (hr.mono (by decide)) pass0 (pa_cons (pe_lzip rfl (by rfl) z_list (by rfl) z_zip (pa_cons (pv 2) (pa_cons (pv 3) pa_nil))) (pa_cons (pe_has h_plus (hr.mono (by decide)) pass0 (pa_cons (pe_ix ix_tup (pv 0) pe_int (fun _ _ => rfl)) (pa_cons (pe_ix ix_tup (pv 1) pe_int (fun _ _ => rfl)) pa_nil))) pa_nil)))))))
theorem ok_is_band {a_ONE : Addr} (F : FnP K "_is_band" s_is_band f fd) (z_len : mg "len" = none) (z_tuple : mg "tuple" = none) (z_type : mg "type" = none) (h_is_amount : Has P w K mg base CX0 "is_amount" 3 ["thing"] (spP K TAmountB) []) (h_is_less : Has P w K mg base CX0 "is_less" 1 ["one", "other"] (spP K TLtQ) []) (c_ONE : mg "ONE" = some (.ref a_ONE) ∧ RelV (V.ref a_ONE) (Value.ref a_ONE)) (hO : ∀ H : Hp, SqT K H a_ONE [.int 1, .int 1]) : FnOk P w K mg base CX0 4 f fd ["thing"] (spP K TBandQ) := by
  refine F.ok sc_is_band (fun vs H Q E h => spP_len (n := 1) (fun ds Φ ⟨_, e, _⟩ => by rw [e]; rfl) h) (fun cdv A outer s H vs Q E hr h => ⟨t_isband K a_ONE, PSs.nox ?_, run_P h fun ds Φ t => ws_isband hO t⟩)
  exact (pss_cons (ps_if (pt_not (PW.pt (pw_and (pt_cmpR op_isTyB (pe_callTy call_type1 (by rfl) z_type (by decide +kernel) (pa_cons (pv 0) pa_nil)) (pe_bltn (by rfl) z_tuple (by decide +kernel) rfl) (nomark _)) (pw_and (pt_cmpR op_eq (pe_callB call_len_seq (by rfl) z_len PySem.boot_len (pa_cons (pv 0) pa_nil)) pe_int (nomark _)) (pw_and1 (pt_val (pe_has h_is_amount (hr.mono (by decide)) pass0 (pa_cons (pe_ix ix_tup (pv 0) pe_int (fun _ _ => rfl)) pa_nil)))))))) (pss_one (ps_ret pe_bl)) pss_nil)
      (pss_one (ps_ret (pe_and (pe_has h_is_amount (hr.mono (by decide)) pass0 (pa_cons (pe_ix ix_tup (pv 0) pe_int (fun _ _ => rfl)) pa_nil)) (pe_one (pe_not (pe_has h_is_less (hr.mono (by decide)) pass0 (pa_cons (pe_glob rfl c_ONE.1 c_ONE.2) (pa_cons (pe_ix ix_tup (pv 0) pe_int (fun _ _ => rfl)) pa_nil)))))))))
theorem ok_is_bands {a_NOUGHT : Addr} (F : FnP K "is_bands" s_is_bands f fd) (z_all : mg "all" = none) (z_len : mg "len" = none) (z_range : mg "range" = none) (z_tuple : mg "tuple" = none) (z_type : mg "type" = none) (h__is_band : Has P w K mg base CX0 "_is_band" 4 ["thing"] (spP K TBandQ) []) (h_is_less : Has P w K mg base CX0 "is_less" 1 ["one", "other"] (spP K TLtQ) []) (c_NOUGHT : mg "NOUGHT" = some (.ref a_NOUGHT) ∧ RelV (V.ref a_NOUGHT) (Value.ref a_NOUGHT)) (hN : ∀ H : Hp, SqT K H a_NOUGHT [.int 0, .int 1]) : FnOk P w K mg base CX0 5 f fd ["thing"] (spP K TBandsQ) := by
  refine F.ok sc_is_bands (fun vs H Q E h => spP_len (n := 1) (fun ds Φ ⟨_, e, _⟩ => by rw [e]; rfl) h) (fun cdv A outer s H vs Q E hr h => ⟨t_isbands K a_NOUGHT, PSs.nox ?_, run_P h fun ds Φ t => ws_isbands hN t⟩)
  exact (pss_cons (ps_if (pt_not (PW.pt (pw_and (pt_cmpR op_isTyB (pe_callTy call_type1 (by rfl) z_type (by decide +kernel) (pa_cons (pv 0) pa_nil)) (pe_bltn (by rfl) z_tuple (by decide +kernel) rfl) (nomark _)) (pw_and (pt_cmpR op_ge (pe_callB call_len_seq (by rfl) z_len PySem.boot_len (pa_cons (pv 0) pa_nil)) pe_int (nomark _)) (pw_and1 (pt_val (pe_callB (cr_all rfl) (by rfl) z_all (by decide +kernel) (pa_cons (pe_lc (own := [("one", 3)]) (g := (gName 3)) rfl sc_is_bands.nd (pi_tup (pv 0)) (blkOk_by (N := ["thing", "rising", "at", "one"]) (sc := defScope s_is_bands) (by decide +kernel)) (fun _ _ _ _ _ => (pg_name (i := 3) sc_is_bands.nd rfl (by first | exact Or.inl rfl | exact Or.inr rfl))) (fun _ _ _ _ _ => pts_nil) (fun _ _ _ _ _ => (pe_has h__is_band (hr.mono (by decide)) pass0 (pa_cons (pv 3) pa_nil)))) pa_nil)))))))) (pss_one (ps_ret pe_bl)) pss_nil)
      (pss_cons (ps_setLc (i := 1) (own := [("at", 2)]) (g := (gName 2)) rfl sc_is_bands.nd rfl rfl (sw_true rfl rfl rfl (by decide +kernel)) (pi_range1 rfl z_range (pa_cons (pe_op op_sub (pe_callB call_len_seq (by rfl) z_len PySem.boot_len (pa_cons (pv 0) pa_nil)) pe_int) pa_nil)) (blkOk_by (N := ["thing", "rising", "at", "one"]) (sc := defScope s_is_bands) (by decide +kernel)) (fun _ _ _ _ _ => (pg_name (i := 2) sc_is_bands.nd rfl (by first | exact Or.inl rfl | exact Or.inr rfl))) (fun _ _ _ _ _ => pts_nil) (fun _ _ _ _ _ => (pe_has h_is_less (hr.mono (by decide)) pass0 (pa_cons (pe_ix ix_tup (pe_ix ix_tup (pv 0) (pv 2) (fun _ _ => rfl)) pe_int (fun _ _ => rfl)) (pa_cons (pe_ix ix_tup (pe_ix ix_tup (pv 0) (pe_op op_add (pv 2) pe_int) (fun _ _ => rfl)) pe_int (fun _ _ => rfl)) pa_nil)))))
      (pss_one (ps_ret (pe_and (pe_cmpR (op_eqD hr.units) (pe_ix ix_tup (pe_ix ix_tup (pv 0) pe_int (fun _ _ => rfl)) pe_int (fun _ _ => rfl)) (pe_glob rfl c_NOUGHT.1 c_NOUGHT.2) (nomark _)) (pe_one (pe_callB (cr_all rfl) (by rfl) z_all (by decide +kernel) (pa_cons (pv 1) pa_nil))))))))
theorem ok_taken_line {a_NOUGHT : Addr} (F : FnP K "taken_line" s_taken_line f fd) (h_is_bands : Has P w K mg base CX0 "is_bands" 5 ["thing"] (spP K TBandsQ) []) (h_less : Has P w K mg base CX0 "less" 2 ["one", "other"] (spP K TSbQ) []) (h_line_of : Has P w K mg base CX0 "line_of" 5 ["knots", "slope"] (spP K TLineOf) []) (h_plus : Has P w K mg base CX0 "plus" 2 ["one", "other"] (spP K TAdQ) []) (h_times : Has P w K mg base CX0 "times" 2 ["one", "other"] (spP K TMlQ) []) (c_NOUGHT : mg "NOUGHT" = some (.ref a_NOUGHT) ∧ RelV (V.ref a_NOUGHT) (Value.ref a_NOUGHT)) (hN : ∀ H : Hp, SqT K H a_NOUGHT [.int 0, .int 1]) : FnOk P w K mg base CX0 6 f fd ["bands"] (spP K TTakenL) := by
  refine F.ok sc_taken_line (fun vs H Q E h => spP_len (n := 1) (fun ds Φ ⟨_, e, _⟩ => by rw [e]; rfl) h) (fun cdv A outer s H vs Q E hr h => ⟨t_takenline K a_NOUGHT, PSs.nox ?_, run_P h fun ds Φ t => ws_takenline hN t⟩)
  exact (pss_cons (ps_if (pt_not (pt_val (pe_has h_is_bands (hr.mono (by decide)) pass0 (pa_cons (pv 0) pa_nil)))) (pss_one ps_no) pss_nil)
      (pss_cons (ps_asg (pe_ix ix_tup (pv 0) pe_int (fun _ _ => rfl)) (pg_tup rfl (pgs_cons (pg_name (i := 1) sc_taken_line.nd rfl (by first | exact Or.inl rfl | exact Or.inr rfl)) (pgs_cons (pg_name (i := 2) sc_taken_line.nd rfl (by first | exact Or.inl rfl | exact Or.inr rfl)) pgs_nil))))
      (pss_cons (ps_set (i := 3) sc_taken_line.nd rfl (by first | exact Or.inl rfl | exact Or.inr rfl) (pe_glob rfl c_NOUGHT.1 c_NOUGHT.2))
      (pss_cons (ps_set (i := 4) sc_taken_line.nd rfl (by first | exact Or.inl rfl | exact Or.inr rfl) (pe_lst (pa_cons (pe_tup (pa_cons (pv 1) (pa_cons (pv 3) pa_nil))) pa_nil)))
      (pss_cons (ps_for PassesOwn.never rfl (pi_tup (pe_slice sl_tupA (pv 0) (po_some pe_int) po_none)) (pg_tup rfl (pgs_cons (pg_name (i := 5) sc_taken_line.nd rfl (by first | exact Or.inl rfl | exact Or.inr rfl)) (pgs_cons (pg_name (i := 6) sc_taken_line.nd rfl (by first | exact Or.inl rfl | exact Or.inr rfl)) pgs_nil))) (pss_cons (ps_set (i := 3) sc_taken_line.nd rfl (by first | exact Or.inl rfl | exact Or.inr rfl) (pe_has h_plus (hr.mono (by decide)) pass0 (pa_cons (pv 3) (pa_cons (pe_has h_times (hr.mono (by decide)) pass0 (pa_cons (pv 2) (pa_cons (pe_has h_less (hr.mono (by decide)) pass0 (pa_cons (pv 5) (pa_cons (pv 1) pa_nil))) pa_nil))) pa_nil))))
      (pss_cons (ps_expr (pe_bm PySem.F.plainAttrs_list PySem.F.slot_list_append PySem.F.type_list_append mt_append (pv 4) (pa_cons (pe_tup (pa_cons (pv 5) (pa_cons (pv 3) pa_nil))) pa_nil)))
      (pss_one (ps_par (by rfl) sc_taken_line.nd (i := 1) (j := 2) rfl rfl (by decide) rfl rfl (pa_cons (pv 5) (pa_cons (pv 6) pa_nil)) (by rfl))))))
      (pss_one (ps_ret (pe_has h_line_of (hr.mono (by decide)) pass0 (pa_cons (pv 4) (pa_cons (pv 2) pa_nil))))))))))
theorem ok_times_line  (F : FnP K "times_line" s_times_line f fd) (h_line_of : Has P w K mg base CX0 "line_of" 5 ["knots", "slope"] (spP K TLineOf) []) (h_times : Has P w K mg base CX0 "times" 2 ["one", "other"] (spP K TMlQ) [])  : FnOk P w K mg base CX0 6 f fd ["line", "by"] (spP K TTimesL) := by
  refine F.ok sc_times_line (fun vs H Q E h => spP_len (n := 2) (fun ds Φ ⟨_, _, _, _, _, e, _⟩ => by rw [e]; rfl) h) (fun cdv A outer s H vs Q E hr h => ⟨t_timesline K, PSs.nox ?_, run_P h fun ds Φ t => ws_timesline t⟩)
  exact (pss_cons (ps_asg (pv 0) (pg_tup rfl (pgs_cons (pg_name (i := 2) sc_times_line.nd rfl (by first | exact Or.inl rfl | exact Or.inr rfl)) (pgs_cons (pg_name (i := 3) sc_times_line.nd rfl (by first | exact Or.inl rfl | exact Or.inr rfl)) pgs_nil))))
      (pss_one (ps_ret (pe_has h_line_of (hr.mono (by decide)) pass0 (pa_cons (pe_lc (own := [("x", 4), ("y", 5)]) (g := (gTup _ 2 (gCons (gName 4) (gCons (gName 5) gNil)))) rfl sc_times_line.nd (pi_tup (pv 2)) (blkOk_by (N := ["line", "by", "knots", "slope", "x", "y"]) (sc := defScope s_times_line) (by decide +kernel)) (fun _ _ _ _ _ => (pg_tup rfl (pgs_cons (pg_name (i := 4) sc_times_line.nd rfl (by first | exact Or.inl rfl | exact Or.inr rfl)) (pgs_cons (pg_name (i := 5) sc_times_line.nd rfl (by first | exact Or.inl rfl | exact Or.inr rfl)) pgs_nil)))) (fun _ _ _ _ _ => pts_nil) (fun _ _ _ _ _ => (pe_tup (pa_cons (pv 4) (pa_cons (pe_has h_times (hr.mono (by decide)) pass0 (pa_cons (pv 5) (pa_cons (pv 1) pa_nil))) pa_nil))))) (pa_cons (pe_has h_times (hr.mono (by decide)) pass0 (pa_cons (pv 3) (pa_cons (pv 1) pa_nil))) pa_nil))))))
theorem ok_left_line {a__ALL_LEFT : Addr} (F : FnP K "_left_line" s_left_line f fd) (h_sum_line : Has P w K mg base CX0 "sum_line" 8 ["one", "other"] (spP K TSumL) []) (h_taken_line : Has P w K mg base CX0 "taken_line" 6 ["bands"] (spP K TTakenL) []) (h_times_line : Has P w K mg base CX0 "times_line" 6 ["line", "by"] (spP K TTimesL) []) (c__ALL_LEFT : mg "_ALL_LEFT" = some (.ref a__ALL_LEFT) ∧ RelV (V.ref a__ALL_LEFT) (Value.ref a__ALL_LEFT)) (hA : ∀ H : Hp, Dt K H (.ref a__ALL_LEFT) (lnD [(0, 0)] 1)) : FnOk P w K mg base CX0 9 f fd ["bands"] (spP K TLeftL) := by
  refine F.ok sc_left_line (fun vs H Q E h => spP_len (n := 1) (fun ds Φ ⟨_, e, _⟩ => by rw [e]; rfl) h) (fun cdv A outer s H vs Q E hr h => ⟨t_leftline K a__ALL_LEFT, PSs.nox ?_, run_P h fun ds Φ t => ws_leftline hA t⟩)
  exact (pss_one (ps_ret (pe_has h_sum_line (hr.mono (by decide)) pass0 (pa_cons (pe_glob rfl c__ALL_LEFT.1 c__ALL_LEFT.2) (pa_cons (pe_has h_times_line (hr.mono (by decide)) pass0 (pa_cons (pe_has h_taken_line (hr.mono (by decide)) pass0 (pa_cons (pv 0) pa_nil)) (pa_cons (pe_tup (pa_cons (pe_un un_neg pe_int) (pa_cons pe_int pa_nil))) pa_nil))) pa_nil)))))
theorem ok_taken {v0 : V} {C : Addr} (F : FnKw K "taken" s_taken [("ahead", v0)] f fd) (h_taken_line : Has P w K mg base CX0 "taken_line" 6 ["bands"] (spP K TTakenL) []) (h_plus : Has P w K mg base CX0 "plus" 2 ["one", "other"] (spP K TAdQ) []) (h_less : Has P w K mg base CX0 "less" 2 ["one", "other"] (spP K TSbQ) []) (hB : Has P w K mg base (L2.CX P w) "y_at" 6 ["line", "x"] (spX K (TYb C)) []) : FnOk P w K mg base (L2.CX P w) 7 f fd ["bands", "amount", "ahead"] (spX K (TTakenB C)) := by
  refine F.ok sc_taken (fun vs H Q E h => spX_len (n := 3) (fun ds Φ Ψ ⟨_, _, _, e, _⟩ => by rw [e]; rfl) h) (fun cdv A outer s H vs Q E hr h => ⟨t_takenB K C E, ?_, run_takenB h⟩)
  exact pss_cons (ps_set (i := 3) sc_taken.nd rfl (by first | exact Or.inl rfl | exact Or.inr rfl) (pe_has h_taken_line (hr.mono (by decide)) pass0 (pa_cons (pv 0) pa_nil)))
    (pss_one (ps_ret (pe_has h_less (hr.mono (by decide)) pass0 (pa_cons (pe_has hB (hr.mono (by decide)) (passes_call (takes_of rfl rfl rfl rfl) fun _ _ _ _ h => h) (pa_cons (pv 3) (pa_cons (pe_has h_plus (hr.mono (by decide)) pass0 (pa_cons (pv 2) (pa_cons (pv 1) pa_nil))) pa_nil))) (pa_cons (pe_has hB (hr.mono (by decide)) (passes_call (takes_of rfl rfl rfl rfl) fun _ _ _ _ h => h) (pa_cons (pv 3) (pa_cons (pv 2) pa_nil))) pa_nil)))))
theorem ok_left  (F : FnP K "left" s_left f fd) (h__left_line : Has P w K mg base CX0 "_left_line" 9 ["bands"] (spP K TLeftL) []) (h_y_at : Has P w K mg base CX0 "y_at" 6 ["line", "x"] (spP K TYat) [])  : FnOk P w K mg base CX0 10 f fd ["bands", "total"] (spP K TLeftA) := by
  refine F.ok sc_left (fun vs H Q E h => spP_len (n := 2) (fun ds Φ ⟨_, _, e, _⟩ => by rw [e]; rfl) h) (fun cdv A outer s H vs Q E hr h => ⟨t_lefta K, PSs.nox ?_, run_P h fun ds Φ t => ws_lefta t⟩)
  exact (pss_one (ps_ret (pe_has h_y_at (hr.mono (by decide)) pass0 (pa_cons (pe_has h__left_line (hr.mono (by decide)) pass0 (pa_cons (pv 0) pa_nil)) (pa_cons (pv 1) pa_nil)))))
theorem ok_leftB {C : Addr} (F : FnP K "left" s_left f fd) (h__left_line : Has P w K mg base CX0 "_left_line" 9 ["bands"] (spP K TLeftL) []) (hB : Has P w K mg base (L2.CX P w) "y_at" 6 ["line", "x"] (spX K (TYb C)) []) : FnOk P w K mg base (L2.CX P w) 10 f fd ["bands", "total"] (spX K (TLeftB C)) := by
  refine F.ok sc_left (fun vs H Q E h => spX_len (n := 2) (fun ds Φ Ψ ⟨_, _, e, _⟩ => by rw [e]; rfl) h) (fun cdv A outer s H vs Q E hr h => ⟨t_leftB K C E, ?_, run_leftB h⟩)
  exact pss_one (ps_ret (pe_has hB (hr.mono (by decide)) (passes_call (takes_of rfl rfl rfl rfl) fun _ _ _ _ h => h) (pa_cons (pe_has h__left_line (hr.mono (by decide)) pass0 (pa_cons (pv 0) pa_nil)) (pa_cons (pv 1) pa_nil))))
theorem ok_law_bands  (F : FnP K "_law_bands" s_law_bands f fd) (z_range : mg "range" = none) (z_tuple : mg "tuple" = none) (h__law_low : Has P w K mg base CX0 "_law_low" 1 ["a", "b"] (spP K TLow) []) (h__law_plus : Has P w K mg base CX0 "_law_plus" 2 ["one", "other"] (spP K TAdQ) []) (h__law_take : Has P w K mg base CX0 "_law_take" 1 ["pot", "many"] (spS K FPot TTake) [])  : FnOk P w K mg base CX0 3 f fd ["pot", "most"] (spS K FPot TBandsD) := by
  refine F.ok sc_law_bands (fun vs H Q E h => spS_len (n := 1) (fun B ds Φ ⟨_, e, _⟩ => by rw [e]; rfl) h) (fun cdv A outer s H vs Q E hr h => ⟨t_bandsd K, PSs.nox ?_, run_S h (fun S B ds Φ hF t => ws_bandsd hF t) (by decide)⟩)
  exact (pss_cons (ps_set (i := 2) sc_law_bands.nd rfl (by first | exact Or.inl rfl | exact Or.inr rfl) (pe_ix ix_list (pe_lst (pa_cons (pe_op op_add pe_int (pe_has h__law_take (hr.mono (by decide)) pass0 (pa_cons (pv 0) (pa_cons pe_int pa_nil)))) (pa_cons (pe_op op_add pe_int (pe_has h__law_take (hr.mono (by decide)) pass0 (pa_cons (pv 0) (pa_cons (pv 1) pa_nil)))) (pa_cons (pv 1) pa_nil)))) (pe_has h__law_take (hr.mono (by decide)) pass0 (pa_cons (pv 0) (pa_cons pe_int pa_nil))) (fun _ _ => rfl)))
      (pss_cons (ps_set (i := 3) sc_law_bands.nd rfl (by first | exact Or.inl rfl | exact Or.inr rfl) (pe_ix ix_list (pe_lst (pa_cons pe_int (pa_cons pe_int (pa_cons pe_int (pa_cons pe_int (pa_cons pe_int (pa_cons (pe_ix ix_list (pe_lst (pa_cons pe_int (pa_cons pe_int (pa_cons pe_int pa_nil)))) (pe_has h__law_take (hr.mono (by decide)) pass0 (pa_cons (pv 0) (pa_cons pe_int pa_nil))) (fun _ _ => rfl)) pa_nil))))))) (pe_has h__law_take (hr.mono (by decide)) pass0 (pa_cons (pv 0) (pa_cons pe_int pa_nil))) (fun _ _ => rfl)))
      (pss_cons (ps_set (i := 4) sc_law_bands.nd rfl (by first | exact Or.inl rfl | exact Or.inr rfl) (pe_lst pa_nil))
      (pss_cons (ps_set (i := 5) sc_law_bands.nd rfl (by first | exact Or.inl rfl | exact Or.inr rfl) (pe_tup (pa_cons pe_int (pa_cons pe_int pa_nil))))
      (pss_cons (ps_for PassesOwn.never rfl (pi_range1 rfl z_range (pa_cons (pv 2) pa_nil)) (pg_name (i := 6) sc_law_bands.nd rfl (by first | exact Or.inl rfl | exact Or.inr rfl)) (pss_cons (ps_set (i := 7) sc_law_bands.nd rfl (by first | exact Or.inl rfl | exact Or.inr rfl) (pe_has h__law_low (hr.mono (by decide)) pass0 (pa_cons (pe_has h__law_take (hr.mono (by decide)) pass0 (pa_cons (pv 0) (pa_cons (pe_op op_add (pv 3) pe_int) pa_nil))) (pa_cons (pv 3) pa_nil))))
      (pss_cons (ps_if (PW.pt (pw_and (pt_cmpR (op_neD hr.units) (pv 4) (pe_lst pa_nil) (nomark _)) (pw_and1 (pt_cmpR op_eq (pe_has h__law_take (hr.mono (by decide)) pass0 (pa_cons (pv 0) (pa_cons pe_int pa_nil))) pe_int (nomark _))))) (pss_one (ps_set (i := 7) sc_law_bands.nd rfl (by first | exact Or.inl rfl | exact Or.inr rfl) (pe_ix ix_tup (pe_ix ix_list (pv 4) (pe_un un_neg pe_int) (fun _ _ => rfl)) pe_int (fun _ _ => rfl)))) pss_nil)
      (pss_cons (ps_expr (pe_bm PySem.F.plainAttrs_list PySem.F.slot_list_append PySem.F.type_list_append mt_append (pv 4) (pa_cons (pe_tup (pa_cons (pv 5) (pa_cons (pv 7) pa_nil))) pa_nil)))
      (pss_one (ps_set (i := 5) sc_law_bands.nd rfl (by first | exact Or.inl rfl | exact Or.inr rfl) (pe_has h__law_plus (hr.mono (by decide)) pass0 (pa_cons (pv 5) (pa_cons (pe_has h__law_low (hr.mono (by decide)) pass0 (pa_cons (pe_op op_add pe_int (pe_has h__law_take (hr.mono (by decide)) pass0 (pa_cons (pv 0) (pa_cons pe_int pa_nil)))) (pa_cons (pe_ix ix_list (pe_lst (pa_cons pe_int (pa_cons pe_int (pa_cons pe_int pa_nil)))) (pe_has h__law_take (hr.mono (by decide)) pass0 (pa_cons (pv 0) (pa_cons pe_int pa_nil))) (fun _ _ => rfl)) pa_nil))) pa_nil)))))))))
      (pss_one (ps_ret (pe_callTy call_tuple_of (by rfl) z_tuple (by decide +kernel) (pa_cons (pv 4) pa_nil)))))))))
theorem ok_law_tax  (F : FnP K "_law_tax" s_law_tax f fd) (z_enumerate : mg "enumerate" = none) (z_len : mg "len" = none) (h__law_below : Has P w K mg base CX0 "_law_below" 1 ["one", "other"] (spP K TLtQ) []) (h__law_minus : Has P w K mg base CX0 "_law_minus" 2 ["one", "other"] (spP K TSbQ) []) (h__law_plus : Has P w K mg base CX0 "_law_plus" 2 ["one", "other"] (spP K TAdQ) []) (h__law_times : Has P w K mg base CX0 "_law_times" 2 ["one", "other"] (spP K TMlQ) [])  : FnOk P w K mg base CX0 3 f fd ["bands", "total"] (spP K TTax) := by
  refine F.ok sc_law_tax (fun vs H Q E h => spP_len (n := 2) (fun ds Φ ⟨_, _, _, e, _⟩ => by rw [e]; rfl) h) (fun cdv A outer s H vs Q E hr h => ⟨t_tax K, PSs.nox ?_, run_P h fun ds Φ t => ws_tax t⟩)
  exact (pss_cons (ps_set (i := 2) sc_law_tax.nd rfl (by first | exact Or.inl rfl | exact Or.inr rfl) (pe_tup (pa_cons pe_int (pa_cons pe_int pa_nil))))
      (pss_cons (ps_for PassesOwn.never rfl (pi_enumT (by rfl) z_enumerate (pa_cons (pv 0) pa_nil)) (pg_tup rfl (pgs_cons (pg_name (i := 3) sc_law_tax.nd rfl (by first | exact Or.inl rfl | exact Or.inr rfl)) (pgs_cons (pg_tup rfl (pgs_cons (pg_name (i := 4) sc_law_tax.nd rfl (by first | exact Or.inl rfl | exact Or.inr rfl)) (pgs_cons (pg_name (i := 5) sc_law_tax.nd rfl (by first | exact Or.inl rfl | exact Or.inr rfl)) pgs_nil))) pgs_nil))) (pss_cons (ps_set (i := 6) sc_law_tax.nd rfl (by first | exact Or.inl rfl | exact Or.inr rfl) (pv 1))
      (pss_cons (ps_if (PW.pt (pw_and (pt_cmpR op_lt (pe_op op_add (pv 3) pe_int) (pe_callB call_len_seq (by rfl) z_len PySem.boot_len (pa_cons (pv 0) pa_nil)) (nomark _)) (pw_and1 (pt_val (pe_has h__law_below (hr.mono (by decide)) pass0 (pa_cons (pe_ix ix_tup (pe_ix ix_tup (pv 0) (pe_op op_add (pv 3) pe_int) (fun _ _ => rfl)) pe_int (fun _ _ => rfl)) (pa_cons (pv 1) pa_nil))))))) (pss_one (ps_set (i := 6) sc_law_tax.nd rfl (by first | exact Or.inl rfl | exact Or.inr rfl) (pe_ix ix_tup (pe_ix ix_tup (pv 0) (pe_op op_add (pv 3) pe_int) (fun _ _ => rfl)) pe_int (fun _ _ => rfl)))) pss_nil)
      (pss_one (ps_if (pt_val (pe_has h__law_below (hr.mono (by decide)) pass0 (pa_cons (pv 4) (pa_cons (pv 6) pa_nil)))) (pss_one (ps_set (i := 2) sc_law_tax.nd rfl (by first | exact Or.inl rfl | exact Or.inr rfl) (pe_has h__law_plus (hr.mono (by decide)) pass0 (pa_cons (pv 2) (pa_cons (pe_has h__law_times (hr.mono (by decide)) pass0 (pa_cons (pv 5) (pa_cons (pe_has h__law_minus (hr.mono (by decide)) pass0 (pa_cons (pv 6) (pa_cons (pv 4) pa_nil))) pa_nil))) pa_nil))))) pss_nil)))))
      (pss_one (ps_ret (pv 2)))))
theorem ok_law_total  (F : FnP K "_law_total" s_law_total f fd) (z_len : mg "len" = none) (h__law_low : Has P w K mg base CX0 "_law_low" 1 ["a", "b"] (spP K TLow) []) (h__law_plus : Has P w K mg base CX0 "_law_plus" 2 ["one", "other"] (spP K TAdQ) []) (h__law_take : Has P w K mg base CX0 "_law_take" 1 ["pot", "many"] (spS K FPot TTake) [])  : FnOk P w K mg base CX0 3 f fd ["pot", "bands"] (spS K FPot TTotalD) := by
  refine F.ok sc_law_total (fun vs H Q E h => spS_len (n := 1) (fun B ds Φ ⟨_, e, _⟩ => by rw [e]; rfl) h) (fun cdv A outer s H vs Q E hr h => ⟨t_totald K, PSs.nox ?_, run_S h (fun S B ds Φ hF t => ws_totald hF t) (by decide)⟩)
  exact (pss_cons (ps_set (i := 2) sc_law_total.nd rfl (by first | exact Or.inl rfl | exact Or.inr rfl) (pe_ix ix_tup (pe_ix ix_tup (pv 1) (pe_has h__law_take (hr.mono (by decide)) pass0 (pa_cons (pv 0) (pa_cons (pe_callB call_len_seq (by rfl) z_len PySem.boot_len (pa_cons (pv 1) pa_nil)) pa_nil))) (fun _ _ => rfl)) pe_int (fun _ _ => rfl)))
      (pss_one (ps_ret (pe_ix ix_list (pe_lst (pa_cons (pe_tup (pa_cons pe_int (pa_cons pe_int pa_nil))) (pa_cons (pv 2) (pa_cons (pe_has h__law_plus (hr.mono (by decide)) pass0 (pa_cons (pv 2) (pa_cons (pe_has h__law_low (hr.mono (by decide)) pass0 (pa_cons (pe_op op_add pe_int (pe_has h__law_take (hr.mono (by decide)) pass0 (pa_cons (pv 0) (pa_cons pe_int pa_nil)))) (pa_cons pe_int pa_nil))) pa_nil))) (pa_cons (pe_has h__law_low (hr.mono (by decide)) pass0 (pa_cons (pe_has h__law_take (hr.mono (by decide)) pass0 (pa_cons (pv 0) (pa_cons (pe_op op_pow pe_int pe_int) pa_nil))) (pa_cons (pe_op op_add pe_int (pe_has h__law_take (hr.mono (by decide)) pass0 (pa_cons (pv 0) (pa_cons pe_int pa_nil)))) pa_nil))) (pa_cons (pe_tup (pa_cons (pe_op op_pow pe_int pe_int) (pa_cons pe_int pa_nil))) pa_nil)))))) (pe_has h__law_take (hr.mono (by decide)) pass0 (pa_cons (pv 0) (pa_cons pe_int pa_nil))) (fun _ _ => rfl)))))
theorem ok_law_word {D A_NoAmount A_NoLine A_NoTable A_NoDays A_NoDeed A_NoFold A_NoLeave A_NoPot A_NoRule A_NoStretch A_NoTelling A_NoText A_NoCut A_NoName A_NoNumber A_NoPart A_TooLong : Addr} {wd : Str} (F : FnP K "_law_word" s_law_word f fd) (z_ValueError : mg "ValueError" = none) (z_isinstance : mg "isinstance" = none)  (g_NoAmount : mg "NoAmount" = some (.ref A_NoAmount)) (g_NoLine : mg "NoLine" = some (.ref A_NoLine)) (g_NoTable : mg "NoTable" = some (.ref A_NoTable)) (g_NoDays : mg "NoDays" = some (.ref A_NoDays)) (g_NoDeed : mg "NoDeed" = some (.ref A_NoDeed)) (g_NoFold : mg "NoFold" = some (.ref A_NoFold)) (g_NoLeave : mg "NoLeave" = some (.ref A_NoLeave)) (g_NoPot : mg "NoPot" = some (.ref A_NoPot)) (g_NoRule : mg "NoRule" = some (.ref A_NoRule)) (g_NoStretch : mg "NoStretch" = some (.ref A_NoStretch)) (g_NoTelling : mg "NoTelling" = some (.ref A_NoTelling)) (g_NoText : mg "NoText" = some (.ref A_NoText)) (g_NoCut : mg "NoCut" = some (.ref A_NoCut)) (g_NoName : mg "NoName" = some (.ref A_NoName)) (g_NoNumber : mg "NoNumber" = some (.ref A_NoNumber)) (g_NoPart : mg "NoPart" = some (.ref A_NoPart)) (g_TooLong : mg "TooLong" = some (.ref A_TooLong)) (Y : ExcC K D)
    (W : WordOk K ⟨A_NoAmount, A_NoLine, A_NoTable, [A_NoDays, A_NoDeed, A_NoFold, A_NoLeave, A_NoPot, A_NoRule, A_NoStretch, A_NoTelling, A_NoText], [A_NoCut, A_NoName, A_NoNumber, A_NoPart, A_TooLong]⟩ D wd) : FnOk P w K mg base CX0 1 f fd ["caught"] (spW K D wd) := by
  refine F.ok sc_law_word (fun vs H Q E h => by obtain ⟨_, rfl, _⟩ := h; rfl) (fun cdv A outer s H vs Q E hr h => ⟨t_word K D A_NoAmount A_NoLine A_NoTable A_NoDays A_NoDeed A_NoFold A_NoLeave A_NoPot A_NoRule A_NoStretch A_NoTelling A_NoText A_NoCut A_NoName A_NoNumber A_NoPart A_TooLong, PSs.nox ?_, run_word W h⟩)
  exact (pss_cons (ps_set (i := 1) sc_law_word.nd rfl (by first | exact Or.inl rfl | exact Or.inr rfl) (pe_lst (pa_cons (pe_callB (call_isE1 Y) (by rfl) z_isinstance (by decide +kernel) (pa_cons (pv 0) (pa_cons (pe_glob (by rfl) g_NoAmount rfl) pa_nil))) (pa_cons (pe_callB (call_isE1 Y) (by rfl) z_isinstance (by decide +kernel) (pa_cons (pv 0) (pa_cons (pe_glob (by rfl) g_NoLine rfl) pa_nil))) (pa_cons (pe_callB (call_isE1 Y) (by rfl) z_isinstance (by decide +kernel) (pa_cons (pv 0) (pa_cons (pe_glob (by rfl) g_NoTable rfl) pa_nil))) pa_nil)))))
      (pss_cons (ps_set (i := 2) sc_law_word.nd rfl (by first | exact Or.inl rfl | exact Or.inr rfl) (pe_callB (call_isET Y) (by rfl) z_isinstance (by decide +kernel) (pa_cons (pv 0) (pa_cons (pe_tup (pa_cons (pe_glob (by rfl) g_NoDays rfl) (pa_cons (pe_glob (by rfl) g_NoDeed rfl) (pa_cons (pe_glob (by rfl) g_NoFold rfl) (pa_cons (pe_glob (by rfl) g_NoLeave rfl) (pa_cons (pe_glob (by rfl) g_NoPot rfl) (pa_cons (pe_glob (by rfl) g_NoRule rfl) (pa_cons (pe_glob (by rfl) g_NoStretch rfl) (pa_cons (pe_glob (by rfl) g_NoTelling rfl) (pa_cons (pe_glob (by rfl) g_NoText rfl) pa_nil)))))))))) pa_nil))))
      (pss_cons (ps_set (i := 2) sc_law_word.nd rfl (by first | exact Or.inl rfl | exact Or.inr rfl) (pe_or (pv 2) (pe_one (pe_callB (call_isET Y) (by rfl) z_isinstance (by decide +kernel) (pa_cons (pv 0) (pa_cons (pe_tup (pa_cons (pe_glob (by rfl) g_NoCut rfl) (pa_cons (pe_glob (by rfl) g_NoName rfl) (pa_cons (pe_glob (by rfl) g_NoNumber rfl) (pa_cons (pe_glob (by rfl) g_NoPart rfl) (pa_cons (pe_glob (by rfl) g_TooLong rfl) pa_nil)))))) pa_nil))))))
      (pss_cons (ps_if (PW.pt (pw_or (pt_val (pv 2)) (pw_or (pt_cmpR op_ne (pe_bm PySem.F.plainAttrs_list PySem.F.slot_list_count PySem.F.type_list_count mt_countF (pv 1) (pa_cons pe_bl pa_nil)) pe_int (nomark _)) (pw_or1 (pt_not (pt_val (pe_callB (call_isE1 Y) (by rfl) z_isinstance (by decide +kernel) (pa_cons (pv 0) (pa_cons (pe_bltn (by rfl) z_ValueError (by decide +kernel) rfl) pa_nil))))))))) (pss_one (ps_ret pe_str)) pss_nil)
      (pss_one (ps_ret (pe_ix ix_list (pe_lst (pa_cons pe_str (pa_cons pe_str (pa_cons pe_str pa_nil)))) (pe_bm PySem.F.plainAttrs_list PySem.F.slot_list_index PySem.F.type_list_index mt_index (pv 1) (pa_cons pe_bl pa_nil)) (fun _ _ => rfl))))))))
theorem ok_law_told {C Pa ft fl : Addr} (F : FnP K "_law_told" s_law_told f fd) (A1 : ∀ f sp, S56 K C ft fl f sp → HeldS P w K mg base (L2.CX P w) 10 f sp) (A2 : ∀ f sp, S56k K C ft f sp → HeldK P w K mg base (L2.CX P w) 10 2 ["ahead"] f sp gVapp) (h__law_word : Has P w K mg base CX0 "_law_word" 1 ["caught"] (spW K C "amount") []) (gP : mg "PayError" = some (.ref Pa)) (hm : PySem.W.exmOne K (.ref C) (.ref Pa) = some true) : FnOk P w K mg base CX0 11 f fd ["ask", "bands", "amount", "sofar"] (spTo K ft fl) := by
  refine F.ok sc_law_told (fun vs H Q E h => spTo_len h) (fun cdv A outer s H vs Q E hr h => ⟨t_56 K C Pa ft fl, PSs.nox ?_, run_56 hm h⟩)
  exact pss_cons (ps_set (i := 4) sc_law_told.nd rfl (by first | exact Or.inl rfl | exact Or.inr rfl) pe_non)
    (pss_cons (ps_set (i := 5) sc_law_told.nd rfl (by first | exact Or.inl rfl | exact Or.inr rfl) pe_non)
    (pss_cons (ps_try_keep (i := 6) (tb := tb_56 K C ft fl) (ts := ts_56) rfl rfl sc_law_told.nd rfl rfl ⟨rfl, by decide, .inl gP⟩
      (fun W pn xe tk => pss_one (ps_set (i := 5) sc_law_told.nd rfl (by first | exact Or.inl rfl | exact Or.inr rfl) (pe_ifExp (pt_cmpR op_isN (pv 3) pe_non (nomark _)) (pe_callF A1 (hr.mono (by decide)) rfl (by first | exact Or.inl rfl | exact Or.inr (Or.inl rfl) | exact Or.inr (Or.inr rfl)) (fun σ => passAt tk σ) (pa_cons (pv 1) (pa_cons (pv 2) pa_nil))) (pe_callFk (ks := ["ahead"]) (n := 2) A2 (hr.mono (by decide)) rfl (by first | exact Or.inl rfl | exact Or.inr (Or.inl rfl) | exact Or.inr (Or.inr rfl)) (fun σ => passAt tk σ) (pa_cons (pv 1) (pa_cons (pv 2) pa_nil)) (pk_cons (pv 3) pk_nil)))))
      (fun a oe pn => pss_one (ps_set (i := 4) sc_law_told.nd rfl (by first | exact Or.inl rfl | exact Or.inr rfl) (pv 6))))
    (pss_one (ps_ret (pe_ifExp (pt_cmpR op_isN (pv 4) pe_non (nomark _)) (pv 5) (pe_has h__law_word (hr.mono (by decide)) pass0 (pa_cons (pv 4) pa_nil)))))))
theorem ok_law_due  (F : FnP K "_law_due" s_law_due f fd) (h__law_minus : Has P w K mg base CX0 "_law_minus" 2 ["one", "other"] (spP K TSbQ) []) (h__law_plus : Has P w K mg base CX0 "_law_plus" 2 ["one", "other"] (spP K TAdQ) []) (h__law_tax : Has P w K mg base CX0 "_law_tax" 3 ["bands", "total"] (spP K TTax) [])  : FnOk P w K mg base CX0 4 f fd ["bands", "amount", "sofar"] (spP K TDue) := by
  refine F.ok sc_law_due (fun vs H Q E h => spP_len (n := 3) (fun ds Φ ⟨_, _, _, e, _⟩ => by rw [e]; rfl) h) (fun cdv A outer s H vs Q E hr h => ⟨t_due K, PSs.nox ?_, run_P h fun ds Φ t => ws_due t⟩)
  exact (pss_cons (ps_set (i := 3) sc_law_due.nd rfl (by first | exact Or.inl rfl | exact Or.inr rfl) (pe_has h__law_plus (hr.mono (by decide)) pass0 (pa_cons (pv 2) (pa_cons (pv 1) pa_nil))))
      (pss_cons (ps_if (PW.pt (pw_or (pt_cmpR op_lt (pe_ix ix_tup (pv 2) pe_int (fun _ _ => rfl)) pe_int (nomark _)) (pw_or1 (pt_cmpR op_lt (pe_ix ix_tup (pv 3) pe_int (fun _ _ => rfl)) pe_int (nomark _))))) (pss_one (ps_ret pe_str)) pss_nil)
      (pss_one (ps_ret (pe_has h__law_minus (hr.mono (by decide)) pass0 (pa_cons (pe_has h__law_tax (hr.mono (by decide)) pass0 (pa_cons (pv 0) (pa_cons (pv 3) pa_nil))) (pa_cons (pe_has h__law_tax (hr.mono (by decide)) pass0 (pa_cons (pv 0) (pa_cons (pv 2) pa_nil))) pa_nil)))))))
theorem ok_law_right {a_taken a_left : Addr} (F : FnP K "_law_right" s_law_right f fd) (z_abs : mg "abs" = none) (z_range : mg "range" = none) (z_repr : mg "repr" = none) (h__law_below : Has P w K mg base CX0 "_law_below" 1 ["one", "other"] (spP K TLtQ) []) (h__law_due : Has P w K mg base CX0 "_law_due" 4 ["bands", "amount", "sofar"] (spP K TDue) []) (h__law_minus : Has P w K mg base CX0 "_law_minus" 2 ["one", "other"] (spP K TSbQ) []) (h__law_plus : Has P w K mg base CX0 "_law_plus" 2 ["one", "other"] (spP K TAdQ) []) (h__law_take : Has P w K mg base CX0 "_law_take" 1 ["pot", "many"] (spS K FPot TTake) []) (h__law_tax : Has P w K mg base CX0 "_law_tax" 3 ["bands", "total"] (spP K TTax) []) (h__law_told : Has P w K mg base CX0 "_law_told" 11 ["ask", "bands", "amount", "sofar"] (spTo K a_taken a_left) []) (h__law_total : Has P w K mg base CX0 "_law_total" 3 ["pot", "bands"] (spS K FPot TTotalD) []) (h_left : Has P w K mg base CX0 "left" 10 ["bands", "total"] (spP K TLeftA) []) (c_taken : mg "taken" = some (.ref a_taken) ∧ RelV (V.ref a_taken) (Value.ref a_taken)) (c_left : mg "left" = some (.ref a_left) ∧ RelV (V.ref a_left) (Value.ref a_left)) : FnG P w K mg base CX0 12 f fd ["pot", "bands"] (spS K FPot TRightT) := by
  refine FunD_okG F sc_law_right (fun vs H Q E h => spS_len (n := 1) (fun B ds Φ ⟨_, e, _⟩ => by rw [e]; rfl) h) (fun cdv A outer s H vs Q E hgd hr h => ⟨t_right K a_taken a_left, PSs.nox ?_, run_S h (fun S B ds Φ hF t => ws_rightt hF t) (by decide)⟩)
  exact (pss_cons (ps_for PassesOwn.never rfl (pi_range1 rfl z_range (pa_cons pe_int pa_nil)) (pg_name (i := 2) sc_law_right.nd rfl (by first | exact Or.inl rfl | exact Or.inr rfl)) (pss_cons (ps_set (i := 3) sc_law_right.nd rfl (by first | exact Or.inl rfl | exact Or.inr rfl) (pe_has h__law_total (hr.mono (by decide)) pass0 (pa_cons (pv 0) (pa_cons (pv 1) pa_nil))))
      (pss_cons (ps_set (i := 4) sc_law_right.nd rfl (by first | exact Or.inl rfl | exact Or.inr rfl) (pe_has h__law_total (hr.mono (by decide)) pass0 (pa_cons (pv 0) (pa_cons (pv 1) pa_nil))))
      (pss_cons (ps_set (i := 5) sc_law_right.nd rfl (by first | exact Or.inl rfl | exact Or.inr rfl) (pe_ix ix_list (pe_lst (pa_cons (pe_has h__law_minus (hr.mono (by decide)) pass0 (pa_cons (pv 4) (pa_cons (pv 3) pa_nil))) (pa_cons (pv 4) (pa_cons (pe_tup (pa_cons (pe_op op_sub pe_int (pe_ix ix_tup (pv 4) pe_int (fun _ _ => rfl))) (pa_cons (pe_ix ix_tup (pv 4) pe_int (fun _ _ => rfl)) pa_nil))) pa_nil)))) (pe_has h__law_take (hr.mono (by decide)) pass0 (pa_cons (pv 0) (pa_cons pe_int pa_nil))) (fun _ _ => rfl)))
      (pss_cons (ps_if (PW.pt (pw_or (pt_cmpR op_gt (pe_ix ix_tup (pv 5) pe_int (fun _ _ => rfl)) pe_int (nomark _)) (pw_or1 (pt_cmpR op_gt (pe_callB call_abs (by rfl) z_abs (by decide +kernel) (pa_cons (pe_ix ix_tup (pv 5) pe_int (fun _ _ => rfl)) pa_nil)) (pe_op op_pow pe_int pe_int) (nomark _))))) (pss_one (ps_set (i := 5) sc_law_right.nd rfl (by first | exact Or.inl rfl | exact Or.inr rfl) (pv 4))) pss_nil)
      (pss_cons (ps_for PassesOwn.never rfl (pi_list (pe_lst (pa_cons (pv 3) (pa_cons (pe_tup (pa_cons pe_int (pa_cons pe_int pa_nil))) (pa_cons (pe_tup (pa_cons (pe_un un_neg pe_int) (pa_cons (pe_op op_add pe_int (pe_has h__law_take (hr.mono (by decide)) pass0 (pa_cons (pv 0) (pa_cons pe_int pa_nil)))) pa_nil))) pa_nil))))) (pg_name (i := 6) sc_law_right.nd rfl (by first | exact Or.inl rfl | exact Or.inr rfl)) (pss_cons (ps_set (i := 7) sc_law_right.nd rfl (by first | exact Or.inl rfl | exact Or.inr rfl) (pe_has h__law_due (hr.mono (by decide)) pass0 (pa_cons (pv 1) (pa_cons (pv 5) (pa_cons (pv 6) pa_nil)))))
      (pss_cons (ps_set (i := 8) sc_law_right.nd rfl (by first | exact Or.inl rfl | exact Or.inr rfl) (pe_lst (pa_cons (pe_has h__law_told (hr.mono (by decide)) pass0 (pa_cons (pe_glob rfl c_taken.1 c_taken.2) (pa_cons (pv 1) (pa_cons (pv 5) (pa_cons (pv 6) pa_nil))))) (pa_cons (pe_has h__law_told (hr.mono (by decide)) pass0 (pa_cons (pe_glob rfl c_taken.1 c_taken.2) (pa_cons (pv 1) (pa_cons (pv 5) (pa_cons (pv 6) pa_nil))))) pa_nil))))
      (pss_one (ps_if (pt_cmpR op_ne (pe_callB (call_reprZ hgd hr.units) (by rfl) z_repr (by decide +kernel) (pa_cons (pv 8) pa_nil)) (pe_callB (call_reprZ hgd hr.units) (by rfl) z_repr (by decide +kernel) (pa_cons (pe_lst (pa_cons (pv 7) (pa_cons (pv 7) pa_nil))) pa_nil)) (nomark _)) (pss_one (ps_ret pe_bl)) pss_nil)))))
      (pss_cons (ps_if (pt_cmpR op_ne (pe_callB (call_reprZ hgd hr.units) (by rfl) z_repr (by decide +kernel) (pa_cons (pe_has h__law_told (hr.mono (by decide)) pass0 (pa_cons (pe_glob rfl c_taken.1 c_taken.2) (pa_cons (pv 1) (pa_cons (pv 5) (pa_cons pe_non pa_nil))))) pa_nil)) (pe_callB (call_reprZ hgd hr.units) (by rfl) z_repr (by decide +kernel) (pa_cons (pe_has h__law_due (hr.mono (by decide)) pass0 (pa_cons (pv 1) (pa_cons (pv 5) (pa_cons (pe_tup (pa_cons pe_int (pa_cons pe_int pa_nil))) pa_nil)))) pa_nil)) (nomark _)) (pss_one (ps_ret pe_bl)) pss_nil)
      (pss_cons (ps_if (pt_cmpR op_ne (pe_callB (call_reprZ hgd hr.units) (by rfl) z_repr (by decide +kernel) (pa_cons (pe_has h__law_told (hr.mono (by decide)) pass0 (pa_cons (pe_glob rfl c_left.1 c_left.2) (pa_cons (pv 1) (pa_cons (pv 4) (pa_cons pe_non pa_nil))))) pa_nil)) (pe_callB (call_reprZ hgd hr.units) (by rfl) z_repr (by decide +kernel) (pa_cons (pe_has h__law_minus (hr.mono (by decide)) pass0 (pa_cons (pv 4) (pa_cons (pe_has h__law_tax (hr.mono (by decide)) pass0 (pa_cons (pv 1) (pa_cons (pv 4) pa_nil))) pa_nil))) pa_nil)) (nomark _)) (pss_one (ps_ret pe_bl)) pss_nil)
      (pss_cons (ps_set (i := 9) sc_law_right.nd rfl (by first | exact Or.inl rfl | exact Or.inr rfl) (pe_has h__law_plus (hr.mono (by decide)) pass0 (pa_cons (pv 4) (pa_cons (pe_tup (pa_cons pe_int (pa_cons pe_int pa_nil))) pa_nil))))
      (pss_one (ps_if (pt_val (pe_has h__law_below (hr.mono (by decide)) pass0 (pa_cons (pe_has h__law_minus (hr.mono (by decide)) pass0 (pa_cons (pv 9) (pa_cons (pe_has h__law_tax (hr.mono (by decide)) pass0 (pa_cons (pv 1) (pa_cons (pv 9) pa_nil))) pa_nil))) (pa_cons (pe_has h_left (hr.mono (by decide)) pass0 (pa_cons (pv 1) (pa_cons (pv 4) pa_nil))) pa_nil)))) (pss_one (ps_ret pe_bl)) pss_nil)))))))))))
      (pss_one (ps_ret (pe_cmpR (op_eqD hr.units) (pe_has h__law_told (hr.mono (by decide)) pass0 (pa_cons (pe_glob rfl c_left.1 c_left.2) (pa_cons (pv 1) (pa_cons (pe_tup (pa_cons (pe_un un_neg pe_int) (pa_cons (pe_op op_add pe_int (pe_has h__law_take (hr.mono (by decide)) pass0 (pa_cons (pv 0) (pa_cons pe_int pa_nil)))) pa_nil))) (pa_cons pe_non pa_nil))))) pe_str (nomark _)))))
theorem ok_law_folded  (F : FnP K "_law_folded" s_law_folded f fd) (z_len : mg "len" = none) (z_min : mg "min" = none) (z_range : mg "range" = none)  : FnOk P w K mg base CX0 1 f fd ["script", "most"] (spF K) := by
  refine F.ok sc_law_folded (fun vs H Q E h => by obtain ⟨_, _, _, rfl, _⟩ := h; rfl) (fun cdv A outer s H vs Q E hr h => ⟨t_folded K, PSs.nox ?_, folded_run h⟩)
  exact (pss_cons (ps_set (i := 2) sc_law_folded.nd rfl (by first | exact Or.inl rfl | exact Or.inr rfl) (pe_op op_repL (pe_lst (pa_cons pe_int pa_nil)) (pe_callB (call_min2 rfl) (by rfl) z_min (by decide +kernel) (pa_cons (pe_callB call_len_seq (by rfl) z_len PySem.boot_len (pa_cons (pv 0) pa_nil)) (pa_cons (pv 1) pa_nil)))))
      (pss_cons (ps_for PassesOwn.never rfl (pi_range1 rfl z_range (pa_cons (pe_callB call_len_seq (by rfl) z_len PySem.boot_len (pa_cons (pv 0) pa_nil)) pa_nil)) (pg_name (i := 3) sc_law_folded.nd rfl (by first | exact Or.inl rfl | exact Or.inr rfl)) (pss_one (ps_asg (pe_op op_add (pe_op op_mulW (pe_op op_modN (pe_ix ix_list (pv 2) (pe_op op_modN (pv 3) (pv 1)) (fun _ _ => rfl)) (pe_op op_pow pe_int pe_int)) pe_int) (pe_ix ix_list (pv 0) (pv 3) (fun _ _ => rfl))) (pg_sub (pv 2) (pe_op op_modN (pv 3) (pv 1)) set_list))))
      (pss_one (ps_ret (pv 2)))))
theorem ok_law  (F : FnP K "law" s_law f fd) (z_enumerate : mg "enumerate" = none) (z_int : mg "int" = none) (h__law_bands : Has P w K mg base CX0 "_law_bands" 3 ["pot", "most"] (spS K FPot TBandsD) []) (h__law_folded : Has P w K mg base CX0 "_law_folded" 1 ["script", "most"] (spF K) []) (h__law_pot : Has P w K mg base CX0 "_law_pot" 1 ["cell", "at"] (spN K TPot) []) (h__law_right : HasG P w K mg base CX0 "_law_right" 12 ["pot", "bands"] (spS K FPot TRightT))  : FnG P w K mg base CX0 13 f fd ["script"] (spLaw K) := by
  refine FunD_okG F sc_law (fun vs H Q E h => by obtain ⟨_, _, rfl, _⟩ := h; rfl) (fun cdv A outer s H vs Q E hgd hr h => ⟨t_law56 K, PSs.nox ?_, run_law0 (n := 3) rfl h fun ns hl => ws_law56 hl⟩)
  exact (pss_cons (ps_for PassesOwn.never rfl (pi_enum (by rfl) z_enumerate (pa_cons (pe_op op_catL (pe_lst (pa_cons pe_int pa_nil)) (pe_has h__law_folded (hr.mono (by decide)) pass0 (pa_cons (pv 0) (pa_cons pe_int pa_nil)))) pa_nil)) (pg_tup rfl (pgs_cons (pg_name (i := 1) sc_law.nd rfl (by first | exact Or.inl rfl | exact Or.inr rfl)) (pgs_cons (pg_name (i := 2) sc_law.nd rfl (by first | exact Or.inl rfl | exact Or.inr rfl)) pgs_nil))) (pss_cons (ps_set (i := 3) sc_law.nd rfl (by first | exact Or.inl rfl | exact Or.inr rfl) (pe_has h__law_pot (hr.mono (by decide)) pass0 (pa_cons (pv 2) (pa_cons (pv 1) pa_nil))))
      (pss_one (ps_if (pt_not (pt_val (pe_hasG h__law_right hgd (hr.mono (by decide)) pass0 (pa_cons (pv 3) (pa_cons (pe_has h__law_bands (hr.mono (by decide)) pass0 (pa_cons (pv 3) (pa_cons (pe_ix ix_list (pe_lst (pa_cons pe_int (pa_cons pe_int pa_nil))) (pe_callTy call_int1 (by rfl) z_int (by decide +kernel) (pa_cons (pe_cmpR op_eq (pv 1) pe_int (nomark _)) pa_nil)) (fun _ _ => rfl)) pa_nil))) pa_nil))))) (pss_one (ps_ret pe_bl)) pss_nil))))
      (pss_one (ps_ret pe_bl)))
end
end DL

set_option Elab.async false
set_option linter.all false
set_option maxRecDepth 100000
set_option maxHeartbeats 4000000
namespace DL
open PySem PySem.Spec PyProof.Rows L2
theorem facts {P : Program} {w : World} {K : PySem.W.Frag} {h : Heap} {mg : Str → Option Value} {f : Addr} (X : K.In h) (G : h.Ns mainGlobals mg) (hfa : mg ("law" : Str) = some (.ref f)) (c : He.SaysD fa fn K) (ce : ex K = true) :
    ∃ fd : FuncData, (∀ (s : Shared) (v : Value), BindsTo s fd ⟨[v], []⟩ [("script", v)]) ∧ ∀ base : Heap, K.In base → base.Ns mainGlobals mg → FnG P w K mg base CX0 13 f fd ["script"] (spLaw K) := by
  obtain ⟨ce, x11⟩ := He.ba ce
  obtain ⟨ce, x10⟩ := He.ba ce
  obtain ⟨ce, x9⟩ := He.ba ce
  obtain ⟨ce, x8⟩ := He.ba ce
  obtain ⟨ce, x7⟩ := He.ba ce
  obtain ⟨ce, x6⟩ := He.ba ce
  obtain ⟨ce, x5⟩ := He.ba ce
  obtain ⟨ce, x4⟩ := He.ba ce
  obtain ⟨ce, x3⟩ := He.ba ce
  obtain ⟨ce, x2⟩ := He.ba ce
  obtain ⟨ce, x1⟩ := He.ba ce
  obtain ⟨ce, x0⟩ := He.ba ce
  obtain ⟨fd_law_pot, F_law_pot⟩ := c.def_ 0 (d := d_law_pot) rfl
  have g_law_pot := He.glo_ok X G (c.fact 0 (f := .glo "_law_pot") rfl)
  obtain ⟨fd_law_take, F_law_take⟩ := c.def_ 1 (d := d_law_take) rfl
  have g_law_take := He.glo_ok X G (c.fact 1 (f := .glo "_law_take") rfl)
  obtain ⟨fd_law_low, F_law_low⟩ := c.def_ 2 (d := d_law_low) rfl
  have g_law_low := He.glo_ok X G (c.fact 2 (f := .glo "_law_low") rfl)
  obtain ⟨fd_part, F_part⟩ := c.def_ 3 (d := d_part) rfl
  have g_part := He.glo_ok X G (c.fact 3 (f := .glo "part") rfl)
  obtain ⟨fd_plus, F_plus⟩ := c.def_ 4 (d := d_plus) rfl
  have g_plus := He.glo_ok X G (c.fact 4 (f := .glo "plus") rfl)
  obtain ⟨fd_less, F_less⟩ := c.def_ 5 (d := d_less) rfl
  have g_less := He.glo_ok X G (c.fact 5 (f := .glo "less") rfl)
  obtain ⟨fd_times, F_times⟩ := c.def_ 6 (d := d_times) rfl
  have g_times := He.glo_ok X G (c.fact 6 (f := .glo "times") rfl)
  obtain ⟨fd_over, F_over⟩ := c.def_ 7 (d := d_over) rfl
  have g_over := He.glo_ok X G (c.fact 7 (f := .glo "over") rfl)
  obtain ⟨fd_is_less, F_is_less⟩ := c.def_ 8 (d := d_is_less) rfl
  have g_is_less := He.glo_ok X G (c.fact 8 (f := .glo "is_less") rfl)
  obtain ⟨fd_law_plus, F_law_plus⟩ := c.def_ 9 (d := d_law_plus) rfl
  have g_law_plus := He.glo_ok X G (c.fact 9 (f := .glo "_law_plus") rfl)
  obtain ⟨fd_law_minus, F_law_minus⟩ := c.def_ 10 (d := d_law_minus) rfl
  have g_law_minus := He.glo_ok X G (c.fact 10 (f := .glo "_law_minus") rfl)
  obtain ⟨fd_law_times, F_law_times⟩ := c.def_ 11 (d := d_law_times) rfl
  have g_law_times := He.glo_ok X G (c.fact 11 (f := .glo "_law_times") rfl)
  obtain ⟨fd_law_below, F_law_below⟩ := c.def_ 12 (d := d_law_below) rfl
  have g_law_below := He.glo_ok X G (c.fact 12 (f := .glo "_law_below") rfl)
  obtain ⟨fd_is_whole, F_is_whole⟩ := c.def_ 13 (d := d_is_whole) rfl
  have g_is_whole := He.glo_ok X G (c.fact 13 (f := .glo "is_whole") rfl)
  obtain ⟨fd_is_part, F_is_part⟩ := c.def_ 14 (d := d_is_part) rfl
  have g_is_part := He.glo_ok X G (c.fact 14 (f := .glo "is_part") rfl)
  obtain ⟨fd_is_amount, F_is_amount⟩ := c.def_ 15 (d := d_is_amount) rfl
  have g_is_amount := He.glo_ok X G (c.fact 15 (f := .glo "is_amount") rfl)
  obtain ⟨fd_is_rising, F_is_rising⟩ := c.def_ 16 (d := d_is_rising) rfl
  have g_is_rising := He.glo_ok X G (c.fact 16 (f := .glo "_is_rising") rfl)
  obtain ⟨fd_slopes, F_slopes⟩ := c.def_ 17 (d := d_slopes) rfl
  have g_slopes := He.glo_ok X G (c.fact 17 (f := .glo "_slopes") rfl)
  obtain ⟨fd_bends, F_bends⟩ := c.def_ 18 (d := d_bends) rfl
  have g_bends := He.glo_ok X G (c.fact 18 (f := .glo "_bends") rfl)
  obtain ⟨fd_line_of, F_line_of⟩ := c.def_ 19 (d := d_line_of) rfl
  have g_line_of := He.glo_ok X G (c.fact 19 (f := .glo "line_of") rfl)
  obtain ⟨fd_slope_behind, F_slope_behind⟩ := c.def_ 20 (d := d_slope_behind) rfl
  have g_slope_behind := He.glo_ok X G (c.fact 20 (f := .glo "_slope_behind") rfl)
  obtain ⟨fd_knot_no_later, F_knot_no_later⟩ := c.def_ 21 (d := d_knot_no_later) rfl
  have g_knot_no_later := He.glo_ok X G (c.fact 21 (f := .glo "_knot_no_later") rfl)
  obtain ⟨fd_height, F_height⟩ := c.def_ 22 (d := d_height) rfl
  have g_height := He.glo_ok X G (c.fact 22 (f := .glo "_height") rfl)
  obtain ⟨fd_y_at, F_y_at⟩ := c.def_ 23 (d := d_y_at) rfl
  have g_y_at := He.glo_ok X G (c.fact 23 (f := .glo "y_at") rfl)
  obtain ⟨fd_knot_xs, F_knot_xs⟩ := c.def_ 24 (d := d_knot_xs) rfl
  have g_knot_xs := He.glo_ok X G (c.fact 24 (f := .glo "_knot_xs") rfl)
  obtain ⟨fd_heights, F_heights⟩ := c.def_ 25 (d := d_heights) rfl
  have g_heights := He.glo_ok X G (c.fact 25 (f := .glo "_heights") rfl)
  obtain ⟨fd_both_heights, F_both_heights⟩ := c.def_ 26 (d := d_both_heights) rfl
  have g_both_heights := He.glo_ok X G (c.fact 26 (f := .glo "_both_heights") rfl)
  obtain ⟨fd_merged, F_merged⟩ := c.def_ 27 (d := d_merged) rfl
  have g_merged := He.glo_ok X G (c.fact 27 (f := .glo "_merged") rfl)
  obtain ⟨fd_sum_line, F_sum_line⟩ := c.def_ 28 (d := d_sum_line) rfl
  have g_sum_line := He.glo_ok X G (c.fact 28 (f := .glo "sum_line") rfl)
  obtain ⟨fd_is_band, F_is_band⟩ := c.def_ 29 (d := d_is_band) rfl
  have g_is_band := He.glo_ok X G (c.fact 29 (f := .glo "_is_band") rfl)
  obtain ⟨fd_is_bands, F_is_bands⟩ := c.def_ 30 (d := d_is_bands) rfl
  have g_is_bands := He.glo_ok X G (c.fact 30 (f := .glo "is_bands") rfl)
  obtain ⟨fd_taken_line, F_taken_line⟩ := c.def_ 31 (d := d_taken_line) rfl
  have g_taken_line := He.glo_ok X G (c.fact 31 (f := .glo "taken_line") rfl)
  obtain ⟨fd_times_line, F_times_line⟩ := c.def_ 32 (d := d_times_line) rfl
  have g_times_line := He.glo_ok X G (c.fact 32 (f := .glo "times_line") rfl)
  obtain ⟨fd_left_line, F_left_line⟩ := c.def_ 33 (d := d_left_line) rfl
  have g_left_line := He.glo_ok X G (c.fact 33 (f := .glo "_left_line") rfl)
  obtain ⟨fd_taken, F_taken⟩ := c.def_ 34 (d := d_taken) rfl
  have g_taken := He.glo_ok X G (c.fact 34 (f := .glo "taken") rfl)
  obtain ⟨fd_left, F_left⟩ := c.def_ 35 (d := d_left) rfl
  have g_left := He.glo_ok X G (c.fact 35 (f := .glo "left") rfl)
  obtain ⟨fd_law_bands, F_law_bands⟩ := c.def_ 36 (d := d_law_bands) rfl
  have g_law_bands := He.glo_ok X G (c.fact 36 (f := .glo "_law_bands") rfl)
  obtain ⟨fd_law_tax, F_law_tax⟩ := c.def_ 37 (d := d_law_tax) rfl
  have g_law_tax := He.glo_ok X G (c.fact 37 (f := .glo "_law_tax") rfl)
  obtain ⟨fd_law_total, F_law_total⟩ := c.def_ 38 (d := d_law_total) rfl
  have g_law_total := He.glo_ok X G (c.fact 38 (f := .glo "_law_total") rfl)
  obtain ⟨fd_law_word, F_law_word⟩ := c.def_ 39 (d := d_law_word) rfl
  have g_law_word := He.glo_ok X G (c.fact 39 (f := .glo "_law_word") rfl)
  obtain ⟨fd_law_told, F_law_told⟩ := c.def_ 40 (d := d_law_told) rfl
  have g_law_told := He.glo_ok X G (c.fact 40 (f := .glo "_law_told") rfl)
  obtain ⟨fd_law_due, F_law_due⟩ := c.def_ 41 (d := d_law_due) rfl
  have g_law_due := He.glo_ok X G (c.fact 41 (f := .glo "_law_due") rfl)
  obtain ⟨fd_law_right, F_law_right⟩ := c.def_ 42 (d := d_law_right) rfl
  have g_law_right := He.glo_ok X G (c.fact 42 (f := .glo "_law_right") rfl)
  obtain ⟨fd_law_folded, F_law_folded⟩ := c.def_ 43 (d := d_law_folded) rfl
  have g_law_folded := He.glo_ok X G (c.fact 43 (f := .glo "_law_folded") rfl)
  obtain ⟨fd_law, F_law⟩ := c.def_ 44 (d := d_law) rfl
  have g_law := He.glo_ok X G (c.fact 44 (f := .glo "law") rfl)
  have g_NoAmount := He.glo_ok X G (c.fact 45 (f := .glo "NoAmount") rfl)
  have g_NoLine := He.glo_ok X G (c.fact 46 (f := .glo "NoLine") rfl)
  have g_NoTable := He.glo_ok X G (c.fact 47 (f := .glo "NoTable") rfl)
  have g_NoDays := He.glo_ok X G (c.fact 48 (f := .glo "NoDays") rfl)
  have g_NoDeed := He.glo_ok X G (c.fact 49 (f := .glo "NoDeed") rfl)
  have g_NoFold := He.glo_ok X G (c.fact 50 (f := .glo "NoFold") rfl)
  have g_NoLeave := He.glo_ok X G (c.fact 51 (f := .glo "NoLeave") rfl)
  have g_NoPot := He.glo_ok X G (c.fact 52 (f := .glo "NoPot") rfl)
  have g_NoRule := He.glo_ok X G (c.fact 53 (f := .glo "NoRule") rfl)
  have g_NoStretch := He.glo_ok X G (c.fact 54 (f := .glo "NoStretch") rfl)
  have g_NoTelling := He.glo_ok X G (c.fact 55 (f := .glo "NoTelling") rfl)
  have g_NoText := He.glo_ok X G (c.fact 56 (f := .glo "NoText") rfl)
  have g_NoCut := He.glo_ok X G (c.fact 57 (f := .glo "NoCut") rfl)
  have g_NoName := He.glo_ok X G (c.fact 58 (f := .glo "NoName") rfl)
  have g_NoNumber := He.glo_ok X G (c.fact 59 (f := .glo "NoNumber") rfl)
  have g_NoPart := He.glo_ok X G (c.fact 60 (f := .glo "NoPart") rfl)
  have g_TooLong := He.glo_ok X G (c.fact 61 (f := .glo "TooLong") rfl)
  have g_PayError := He.glo_ok X G (c.fact 62 (f := .glo "PayError") rfl)
  have g_NOUGHT := He.glo_ok X G (c.fact 63 (f := .glo "NOUGHT") rfl)
  have g_ONE := He.glo_ok X G (c.fact 64 (f := .glo "ONE") rfl)
  have g__ALL_LEFT := He.glo_ok X G (c.fact 65 (f := .glo "_ALL_LEFT") rfl)
  have z_ValueError := He.free_ok X G (c.fact 66 (f := .free "ValueError") rfl)
  have z_abs := He.free_ok X G (c.fact 67 (f := .free "abs") rfl)
  have z_all := He.free_ok X G (c.fact 68 (f := .free "all") rfl)
  have z_enumerate := He.free_ok X G (c.fact 69 (f := .free "enumerate") rfl)
  have z_int := He.free_ok X G (c.fact 70 (f := .free "int") rfl)
  have z_isinstance := He.free_ok X G (c.fact 71 (f := .free "isinstance") rfl)
  have z_len := He.free_ok X G (c.fact 72 (f := .free "len") rfl)
  have z_list := He.free_ok X G (c.fact 73 (f := .free "list") rfl)
  have z_max := He.free_ok X G (c.fact 74 (f := .free "max") rfl)
  have z_min := He.free_ok X G (c.fact 75 (f := .free "min") rfl)
  have z_range := He.free_ok X G (c.fact 76 (f := .free "range") rfl)
  have z_repr := He.free_ok X G (c.fact 77 (f := .free "repr") rfl)
  have z_tuple := He.free_ok X G (c.fact 78 (f := .free "tuple") rfl)
  have z_type := He.free_ok X G (c.fact 79 (f := .free "type") rfl)
  have z_zip := He.free_ok X G (c.fact 80 (f := .free "zip") rfl)
  have m_gcd : mg "gcd" = some (.builtin "math.gcd") := blt_ok X G ce (by decide)
  have Z := excV_ok (show excVB K (He.ga K "NoAmount") = true from x0)
  have hm := of_decide_eq_true x1
  have hN := He.tupB_ok x2
  have hO := He.tupB_ok x3
  have Y := excC_ok x4
  have W : WordOk K ⟨(He.ga K "NoAmount"), (He.ga K "NoLine"), (He.ga K "NoTable"), [(He.ga K "NoDays"), (He.ga K "NoDeed"), (He.ga K "NoFold"), (He.ga K "NoLeave"), (He.ga K "NoPot"), (He.ga K "NoRule"), (He.ga K "NoStretch"), (He.ga K "NoTelling"), (He.ga K "NoText")], [(He.ga K "NoCut"), (He.ga K "NoName"), (He.ga K "NoNumber"), (He.ga K "NoPart"), (He.ga K "TooLong")]⟩ (He.ga K "NoAmount") "amount" := ⟨of_decide_eq_true x5, of_decide_eq_true x6, of_decide_eq_true x7, true, false, false, 0, of_decide_eq_true x8, of_decide_eq_true x9, of_decide_eq_true x10, List.mem_cons_self ..⟩
  have hA : ∀ H : Hp, Dt K H (.ref (He.ga K "_ALL_LEFT")) (lnD [(0, 0)] 1) := lnB1_ok x11
  have e := hfa.symm.trans g_law
  cases e
  refine ⟨fd_law, fun s v => FunD.bindsA (ps := ["script"]) F_law (fun _ _ _ _ _ _ us hl => match us, hl with | [_], _ => rfl) s [v] rfl, fun base _ _ => ?_⟩
  have o_law_pot := ok_law_pot (P := P) (w := w) (mg := mg) (base := base) F_law_pot z_max 
  have h__law_pot := has_of o_law_pot g_law_pot F_law_pot.kp (F_law_pot.bindsN (ps := ["cell", "at"]) fun _ _ _ _ _ _ us hl => match us, hl with | [_, _], _ => rfl)
  have o_law_take := ok_law_take (P := P) (w := w) (mg := mg) (base := base) F_law_take  
  have h__law_take := has_of o_law_take g_law_take F_law_take.kp (F_law_take.bindsN (ps := ["pot", "many"]) fun _ _ _ _ _ _ us hl => match us, hl with | [_, _], _ => rfl)
  have o_law_low := ok_law_low (P := P) (w := w) (mg := mg) (base := base) F_law_low z_abs 
  have h__law_low := has_of o_law_low g_law_low F_law_low.kp (F_law_low.bindsN (ps := ["a", "b"]) fun _ _ _ _ _ _ us hl => match us, hl with | [_, _], _ => rfl)
  have Fp_part : FnD K "part" s_part [.int 1] (He.fAd K d_part.at_) fd_part := F_part
  have b_part : Binds K fd_part ["a", "b"] [] := by
    obtain ⟨ds, r, b⟩ := FunD.binds1 (ps := ["a", "b"]) Fp_part 2 1 (by simp) rfl (fun _ _ _ _ _ _ _ us its l1 l2 => match us, l1, its, l2 with | [_, _], _, [_], _ => ⟨_, rfl, rfl⟩)
    cases r
    exact b
  have o_part := ok_part (P := P) (w := w) (mg := mg) (base := base) F_part m_gcd 
  have h_part := has_of o_part g_part F_part.kp b_part
  have o_plus := ok_plus (P := P) (w := w) (mg := mg) (base := base) F_plus h_part 
  have h_plus := has_of o_plus g_plus F_plus.kp (F_plus.bindsN (ps := ["one", "other"]) fun _ _ _ _ _ _ us hl => match us, hl with | [_, _], _ => rfl)
  have o_less := ok_less (P := P) (w := w) (mg := mg) (base := base) F_less h_part 
  have h_less := has_of o_less g_less F_less.kp (F_less.bindsN (ps := ["one", "other"]) fun _ _ _ _ _ _ us hl => match us, hl with | [_, _], _ => rfl)
  have o_times := ok_times (P := P) (w := w) (mg := mg) (base := base) F_times h_part 
  have h_times := has_of o_times g_times F_times.kp (F_times.bindsN (ps := ["one", "other"]) fun _ _ _ _ _ _ us hl => match us, hl with | [_, _], _ => rfl)
  have o_over := ok_over (P := P) (w := w) (mg := mg) (base := base) F_over h_part 
  have h_over := has_of o_over g_over F_over.kp (F_over.bindsN (ps := ["one", "other"]) fun _ _ _ _ _ _ us hl => match us, hl with | [_, _], _ => rfl)
  have o_is_less := ok_is_less (P := P) (w := w) (mg := mg) (base := base) F_is_less  
  have h_is_less := has_of o_is_less g_is_less F_is_less.kp (F_is_less.bindsN (ps := ["one", "other"]) fun _ _ _ _ _ _ us hl => match us, hl with | [_, _], _ => rfl)
  have o_law_plus := ok_law_plus (P := P) (w := w) (mg := mg) (base := base) F_law_plus h__law_low 
  have h__law_plus := has_of o_law_plus g_law_plus F_law_plus.kp (F_law_plus.bindsN (ps := ["one", "other"]) fun _ _ _ _ _ _ us hl => match us, hl with | [_, _], _ => rfl)
  have o_law_minus := ok_law_minus (P := P) (w := w) (mg := mg) (base := base) F_law_minus h__law_low 
  have h__law_minus := has_of o_law_minus g_law_minus F_law_minus.kp (F_law_minus.bindsN (ps := ["one", "other"]) fun _ _ _ _ _ _ us hl => match us, hl with | [_, _], _ => rfl)
  have o_law_times := ok_law_times (P := P) (w := w) (mg := mg) (base := base) F_law_times h__law_low 
  have h__law_times := has_of o_law_times g_law_times F_law_times.kp (F_law_times.bindsN (ps := ["one", "other"]) fun _ _ _ _ _ _ us hl => match us, hl with | [_, _], _ => rfl)
  have o_law_below := ok_law_below (P := P) (w := w) (mg := mg) (base := base) F_law_below  
  have h__law_below := has_of o_law_below g_law_below F_law_below.kp (F_law_below.bindsN (ps := ["one", "other"]) fun _ _ _ _ _ _ us hl => match us, hl with | [_, _], _ => rfl)
  have o_is_whole := ok_is_whole (P := P) (w := w) (mg := mg) (base := base) F_is_whole z_int z_type 
  have h_is_whole := has_of o_is_whole g_is_whole F_is_whole.kp (F_is_whole.bindsN (ps := ["thing"]) fun _ _ _ _ _ _ us hl => match us, hl with | [_], _ => rfl)
  have o_is_part := ok_is_part (P := P) (w := w) (mg := mg) (base := base) F_is_part m_gcd z_len z_tuple z_type h_is_whole 
  have h_is_part := has_of o_is_part g_is_part F_is_part.kp (F_is_part.bindsN (ps := ["thing"]) fun _ _ _ _ _ _ us hl => match us, hl with | [_], _ => rfl)
  have o_is_amount := ok_is_amount (P := P) (w := w) (mg := mg) (base := base) F_is_amount h_is_part 
  have h_is_amount := has_of o_is_amount g_is_amount F_is_amount.kp (F_is_amount.bindsN (ps := ["thing"]) fun _ _ _ _ _ _ us hl => match us, hl with | [_], _ => rfl)
  have o_is_rising := ok_is_rising (P := P) (w := w) (mg := mg) (base := base) F_is_rising z_all z_len z_range h_is_less 
  have h__is_rising := has_of o_is_rising g_is_rising F_is_rising.kp (F_is_rising.bindsN (ps := ["knots"]) fun _ _ _ _ _ _ us hl => match us, hl with | [_], _ => rfl)
  have o_slopes := ok_slopes (P := P) (w := w) (mg := mg) (base := base) F_slopes z_len z_range h_less h_over 
  have h__slopes := has_of o_slopes g_slopes F_slopes.kp (F_slopes.bindsN (ps := ["knots", "slope"]) fun _ _ _ _ _ _ us hl => match us, hl with | [_, _], _ => rfl)
  have hS__slopes : Has P w K mg base CX0 "_slopes" 3 ["knots", "slope"] (spP K TSlopes) [] := has_of (o_slopes.imp fun vs H Q E h => spP_imp (fun _ _ => slopes_up) h) g_slopes F_slopes.kp (F_slopes.bindsN (ps := ["knots", "slope"]) fun _ _ _ _ _ _ us hl => match us, hl with | [_, _], _ => rfl)
  have o_bends := ok_bends (P := P) (w := w) (mg := mg) (base := base) F_bends z_enumerate z_tuple h__slopes 
  have h__bends := has_of o_bends g_bends F_bends.kp (F_bends.bindsN (ps := ["knots", "slope"]) fun _ _ _ _ _ _ us hl => match us, hl with | [_, _], _ => rfl)
  have o_line_of := ok_line_of (P := P) (w := w) (mg := mg) (base := base) F_line_of z_len h__bends h__is_rising ⟨g_NOUGHT, rfl⟩ hN
  have h_line_of := has_of o_line_of g_line_of F_line_of.kp (F_line_of.bindsN (ps := ["knots", "slope"]) fun _ _ _ _ _ _ us hl => match us, hl with | [_, _], _ => rfl)
  have o_slope_behind := ok_slope_behind (P := P) (w := w) (mg := mg) (base := base) F_slope_behind hS__slopes 
  have h__slope_behind := has_of o_slope_behind g_slope_behind F_slope_behind.kp (F_slope_behind.bindsN (ps := ["line", "at"]) fun _ _ _ _ _ _ us hl => match us, hl with | [_, _], _ => rfl)
  have o_knot_no_later := ok_knot_no_later (P := P) (w := w) (mg := mg) (base := base) F_knot_no_later z_len h_is_less 
  have h__knot_no_later := has_of o_knot_no_later g_knot_no_later F_knot_no_later.kp (F_knot_no_later.bindsN (ps := ["knots", "x"]) fun _ _ _ _ _ _ us hl => match us, hl with | [_, _], _ => rfl)
  have o_height := ok_height (P := P) (w := w) (mg := mg) (base := base) F_height h__slope_behind h_less h_plus h_times 
  have h__height := has_of o_height g_height F_height.kp (F_height.bindsN (ps := ["line", "at", "x"]) fun _ _ _ _ _ _ us hl => match us, hl with | [_, _, _], _ => rfl)
  have o_y_at := ok_y_at (P := P) (w := w) (mg := mg) (base := base) F_y_at h__height h__knot_no_later 
  have h_y_at := has_of o_y_at g_y_at F_y_at.kp (F_y_at.bindsN (ps := ["line", "x"]) fun _ _ _ _ _ _ us hl => match us, hl with | [_, _], _ => rfl)
  have hX_y_at : Has P w K mg base (L2.CX P w) "y_at" 1 ["line", "x"] (spX K (TYx (He.ga K "NoAmount"))) [] := hasC_of (ok_yatX F_y_at Z g_NoAmount) g_y_at F_y_at.kp (F_y_at.bindsN (ps := ["line", "x"]) fun _ _ _ _ _ _ us hl => match us, hl with | [_, _], _ => rfl)
  have hB_y_at : Has P w K mg base (L2.CX P w) "y_at" 6 ["line", "x"] (spX K (TYb (He.ga K "NoAmount"))) [] := hasC_of (fn_or (fn_any o_y_at) ((ok_yatX F_y_at Z g_NoAmount).mono (by decide)) fun _ _ _ _ h => yb_or h) g_y_at F_y_at.kp (F_y_at.bindsN (ps := ["line", "x"]) fun _ _ _ _ _ _ us hl => match us, hl with | [_, _], _ => rfl)
  have o_knot_xs := ok_knot_xs (P := P) (w := w) (mg := mg) (base := base) F_knot_xs  
  have h__knot_xs := has_of o_knot_xs g_knot_xs F_knot_xs.kp (F_knot_xs.bindsN (ps := ["line"]) fun _ _ _ _ _ _ us hl => match us, hl with | [_], _ => rfl)
  have o_heights := ok_heights (P := P) (w := w) (mg := mg) (base := base) F_heights z_len h__height h_is_less 
  have h__heights := has_of o_heights g_heights F_heights.kp (F_heights.bindsN (ps := ["line", "xs"]) fun _ _ _ _ _ _ us hl => match us, hl with | [_, _], _ => rfl)
  have o_both_heights := ok_both_heights (P := P) (w := w) (mg := mg) (base := base) F_both_heights z_list z_zip h__heights 
  have h__both_heights := has_of o_both_heights g_both_heights F_both_heights.kp (F_both_heights.bindsN (ps := ["one", "other", "xs"]) fun _ _ _ _ _ _ us hl => match us, hl with | [_, _, _], _ => rfl)
  have o_merged := ok_merged (P := P) (w := w) (mg := mg) (base := base) F_merged z_len h_is_less 
  have h__merged := has_of o_merged g_merged F_merged.kp (F_merged.bindsN (ps := ["some", "others"]) fun _ _ _ _ _ _ us hl => match us, hl with | [_, _], _ => rfl)
  have o_sum_line := ok_sum_line (P := P) (w := w) (mg := mg) (base := base) F_sum_line z_list z_zip h__both_heights h__knot_xs h__merged h_line_of h_plus 
  have h_sum_line := has_of o_sum_line g_sum_line F_sum_line.kp (F_sum_line.bindsN (ps := ["one", "other"]) fun _ _ _ _ _ _ us hl => match us, hl with | [_, _], _ => rfl)
  have o_is_band := ok_is_band (P := P) (w := w) (mg := mg) (base := base) F_is_band z_len z_tuple z_type h_is_amount h_is_less ⟨g_ONE, rfl⟩ hO
  have h__is_band := has_of o_is_band g_is_band F_is_band.kp (F_is_band.bindsN (ps := ["thing"]) fun _ _ _ _ _ _ us hl => match us, hl with | [_], _ => rfl)
  have o_is_bands := ok_is_bands (P := P) (w := w) (mg := mg) (base := base) F_is_bands z_all z_len z_range z_tuple z_type h__is_band h_is_less ⟨g_NOUGHT, rfl⟩ hN
  have h_is_bands := has_of o_is_bands g_is_bands F_is_bands.kp (F_is_bands.bindsN (ps := ["thing"]) fun _ _ _ _ _ _ us hl => match us, hl with | [_], _ => rfl)
  have o_taken_line := ok_taken_line (P := P) (w := w) (mg := mg) (base := base) F_taken_line h_is_bands h_less h_line_of h_plus h_times ⟨g_NOUGHT, rfl⟩ hN
  have h_taken_line := has_of o_taken_line g_taken_line F_taken_line.kp (F_taken_line.bindsN (ps := ["bands"]) fun _ _ _ _ _ _ us hl => match us, hl with | [_], _ => rfl)
  have o_times_line := ok_times_line (P := P) (w := w) (mg := mg) (base := base) F_times_line h_line_of h_times 
  have h_times_line := has_of o_times_line g_times_line F_times_line.kp (F_times_line.bindsN (ps := ["line", "by"]) fun _ _ _ _ _ _ us hl => match us, hl with | [_, _], _ => rfl)
  have o_left_line := ok_left_line (P := P) (w := w) (mg := mg) (base := base) F_left_line h_sum_line h_taken_line h_times_line ⟨g__ALL_LEFT, rfl⟩ hA
  have h__left_line := has_of o_left_line g_left_line F_left_line.kp (F_left_line.bindsN (ps := ["bands"]) fun _ _ _ _ _ _ us hl => match us, hl with | [_], _ => rfl)
  have Fk_taken : FnKw K "taken" s_taken [("ahead", .ref (He.ga K "NOUGHT"))] (He.fAd K d_taken.at_) fd_taken := F_taken
  have o_taken := ok_taken (P := P) (w := w) (mg := mg) (base := base) F_taken  h_taken_line h_plus h_less hB_y_at
  obtain ⟨ds_taken, r_taken, b_taken⟩ := FunD.binds0 (ps := ["bands", "amount", "ahead"]) Fk_taken 2 (by simp) rfl (fun _ _ _ _ _ _ us ks l1 l2 => match us, l1, ks, l2 with | [_, _], _, [_], _ => ⟨_, _, _, _, _, _, rfl, rfl, rfl⟩)
  have kb_taken := kbN (ps := ["bands", "amount", "ahead"]) Fk_taken 2 ["ahead"] (fun us ws => us ++ ws) (fun r1 r2 => r1.append r2) (fun _ _ _ _ _ _ us ws l1 l2 => match us, l1, ws, l2 with | [_, _], _, [_], _ => rfl)
  have o_left := ok_left (P := P) (w := w) (mg := mg) (base := base) F_left h__left_line h_y_at 
  have h_left := has_of o_left g_left F_left.kp (F_left.bindsN (ps := ["bands", "total"]) fun _ _ _ _ _ _ us hl => match us, hl with | [_, _], _ => rfl)
  have o_leftB := ok_leftB (P := P) (w := w) (mg := mg) (base := base) F_left h__left_line hB_y_at
  have hHS : ∀ f sp, S56 K (He.ga K "NoAmount") (He.fAd K d_taken.at_) (He.fAd K d_left.at_) f sp → HeldS P w K mg base (L2.CX P w) 10 f sp := by
    rintro f sp (⟨rfl, rfl⟩ | ⟨rfl, rfl⟩)
    · exact ⟨fd_taken, _, ds_taken, [.ref (He.ga K "NOUGHT")], _, o_taken.mono (by decide), F_taken.kp, b_taken, r_taken, fun vs H Q E h => spX_dfl (cNo hN) h⟩
    · exact ⟨fd_left, ["bands", "total"], [], [], _, o_leftB.mono (by decide), F_left.kp, (F_left.bindsN (ps := ["bands", "total"]) fun _ _ _ _ _ _ us hl => match us, hl with | [_, _], _ => rfl), .nil, fun vs H Q E h => by rw [List.append_nil]; exact h⟩
  have hHK : ∀ f sp, S56k K (He.ga K "NoAmount") (He.fAd K d_taken.at_) f sp → HeldK P w K mg base (L2.CX P w) 10 2 ["ahead"] f sp gVapp := by
    rintro f sp ⟨rfl, rfl⟩
    exact ⟨fd_taken, _, _, o_taken.mono (by decide), F_taken.kp, kb_taken⟩
  have o_law_bands := ok_law_bands (P := P) (w := w) (mg := mg) (base := base) F_law_bands z_range z_tuple h__law_low h__law_plus h__law_take 
  have h__law_bands := has_of o_law_bands g_law_bands F_law_bands.kp (F_law_bands.bindsN (ps := ["pot", "most"]) fun _ _ _ _ _ _ us hl => match us, hl with | [_, _], _ => rfl)
  have o_law_tax := ok_law_tax (P := P) (w := w) (mg := mg) (base := base) F_law_tax z_enumerate z_len h__law_below h__law_minus h__law_plus h__law_times 
  have h__law_tax := has_of o_law_tax g_law_tax F_law_tax.kp (F_law_tax.bindsN (ps := ["bands", "total"]) fun _ _ _ _ _ _ us hl => match us, hl with | [_, _], _ => rfl)
  have o_law_total := ok_law_total (P := P) (w := w) (mg := mg) (base := base) F_law_total z_len h__law_low h__law_plus h__law_take 
  have h__law_total := has_of o_law_total g_law_total F_law_total.kp (F_law_total.bindsN (ps := ["pot", "bands"]) fun _ _ _ _ _ _ us hl => match us, hl with | [_, _], _ => rfl)
  have o_law_word := ok_law_word (P := P) (w := w) (mg := mg) (base := base) F_law_word z_ValueError z_isinstance g_NoAmount g_NoLine g_NoTable g_NoDays g_NoDeed g_NoFold g_NoLeave g_NoPot g_NoRule g_NoStretch g_NoTelling g_NoText g_NoCut g_NoName g_NoNumber g_NoPart g_TooLong Y W
  have h__law_word := has_of o_law_word g_law_word F_law_word.kp (F_law_word.bindsN (ps := ["caught"]) fun _ _ _ _ _ _ us hl => match us, hl with | [_], _ => rfl)
  have o_law_told := ok_law_told (P := P) (w := w) (mg := mg) (base := base) F_law_told  hHS hHK h__law_word g_PayError hm
  have h__law_told := has_of o_law_told g_law_told F_law_told.kp (F_law_told.bindsN (ps := ["ask", "bands", "amount", "sofar"]) fun _ _ _ _ _ _ us hl => match us, hl with | [_, _, _, _], _ => rfl)
  have o_law_due := ok_law_due (P := P) (w := w) (mg := mg) (base := base) F_law_due h__law_minus h__law_plus h__law_tax 
  have h__law_due := has_of o_law_due g_law_due F_law_due.kp (F_law_due.bindsN (ps := ["bands", "amount", "sofar"]) fun _ _ _ _ _ _ us hl => match us, hl with | [_, _, _], _ => rfl)
  have o_law_right := ok_law_right (P := P) (w := w) (mg := mg) (base := base) F_law_right z_abs z_range z_repr h__law_below h__law_due h__law_minus h__law_plus h__law_take h__law_tax h__law_told h__law_total h_left ⟨g_taken, rfl⟩ ⟨g_left, rfl⟩
  have h__law_right := hasG_of o_law_right g_law_right F_law_right.kp (F_law_right.bindsN (ps := ["pot", "bands"]) fun _ _ _ _ _ _ us hl => match us, hl with | [_, _], _ => rfl)
  have o_law_folded := ok_law_folded (P := P) (w := w) (mg := mg) (base := base) F_law_folded z_len z_min z_range 
  have h__law_folded := has_of o_law_folded g_law_folded F_law_folded.kp (F_law_folded.bindsN (ps := ["script", "most"]) fun _ _ _ _ _ _ us hl => match us, hl with | [_, _], _ => rfl)
  exact ok_law (P := P) (w := w) (mg := mg) (base := base) F_law z_enumerate z_int h__law_bands h__law_folded h__law_pot h__law_right 
end DL
open PySem PySem.W PySem.Calls PyProof.Rows
set_option maxHeartbeats 0 in
theorem PySem.Challenge.cw_paymill_k56_taken_and_left_holds : PySem.Challenge.rw_paymill_k56_taken_and_left.Holds := by
  w_on; o_law
  refine HandSHeadRun.head_imp (r := OpenLaw.row PySem.Challenge.rw_paymill_k56_taken_and_left) (q := view (OpenLaw.row PySem.Challenge.rw_paymill_k56_taken_and_left).prog [0, 73]) (H := DL.hk) (ob := DL.ob) (M := 20000) (loose := DL.loose) (d := HandSHeadRun.topDef (OpenLaw.row PySem.Challenge.rw_paymill_k56_taken_and_left).prog 73) (kwd := []) DL.ob_eq
    DL.run (by kernel_rfl) (by kernel_rfl) (by kernel_rfl) (by rfl) (by first | assumption | decide +kernel) (by decide +kernel) ⟨rfl, rfl, rfl, rfl, rfl, by decide +kernel⟩ ?hw ?hc
  case hw => w_witness2
  case hc =>
    refine DL.walk_ofG (l := PySem.Challenge.rw_paymill_k56_taken_and_left) (n := 63) (k := 13) (x := "script") (CX := L2.CX0) rfl (by decide) (by kernel_rfl) ⟨rfl, by decide, by decide⟩ ?F (fun _ _ _ _ z => z)
    intro w mg fa h Y G hmg0
    obtain ⟨K, KX, c, ce⟩ := Y
    have hmg : mg ("law" : PySem.Str) = some (.ref fa) := by
      have e : (HandSHeadRun.topDef (OpenLaw.row PySem.Challenge.rw_paymill_k56_taken_and_left).prog 73).name = ("law" : PySem.Str) := by kernel_rfl
      rw [← e]
      exact hmg0
    obtain ⟨fd, hb, hF⟩ := DL.facts (P := (PySem.Challenge.rw_paymill_k56_taken_and_left).prog) (w := w) KX G hmg c ce
    exact ⟨K, fd, DL.spLaw K, KX, hb, fun H a ns hl _ hS => ⟨a, ns, rfl, hS, hl, fun _ => rfl⟩, hF⟩
