import PyProof.Rows.All
import Wide.All
import OpenK.AllK
import Wide.FinOn
import HandS.Words
import HandS.Defaults
import HandS.Head0
import HandS.Head1
import HandS.Head2
import HandS.Head3
import HandS.HeadEnd
import HandS.HeadHook1
import HandS.HeadHook2
import HandS.ExcIs
import HandS.MakeKw
import HandS.MakeKwOnly
import PyProof.ExcBaseAll.ZeroDivisionError
import HandS.ForMost
import HandS.ForExc
import HandS.Wide
import HandS.Gcd
import HandS.RaiseMore
import HandS.Iter
import HandS.More
import HandS.IsInst
import HandS.ExcOwn
import HandS.WordsExc
import KE.GoesEnum
import HandS.TupAny
import HandS.Style
import HandS.WideBits
import KE.KDictZip
import HandS.GenList
import HandS.DictTup
import HandS.Flow
import HandS.CallLocal
import HandS.CallSlots
import HandS.Zip
import HandS.SortInts
import PyProof.WalksMore
import PyProof.WalkInts
import PyProof.Rows.TupIter
import HandS.Deep
import KE.DataFind
import HandS.TupMul
import PySem.Challenge.RW_paymill_k61_foldings_known
set_option Elab.async false
set_option linter.all false
set_option maxRecDepth 100000
set_option maxHeartbeats 4000000
/-! HR: what a head's run speaks of, by names of its own: it is run ahead of all else (memory) -/
namespace HH
open PySem PySem.Spec PyProof.Rows L2
abbrev AlG : Type := He.AlD × Bool
def bltB (K : PySem.W.Frag) (bs : List (Str × String)) : Bool := bs.all fun p => He.eqO (PySem.W.nsIn K mainGlobals p.1) (some (some (.builtin p.2)))
def obsX (n : Nat) (fa : List He.Fa) (fn : List He.DefD) (ex : PySem.W.Frag → Bool) (g : Addr → Option Obj) : AlG := (He.obsDG n fa fn g, ex (He.frG g (He.asD g n)))
def hookX (n : Nat) (fa : List He.Fa) (fn : List He.DefD) (ex : PySem.W.Frag → Bool) : PySem.W.Hook where
  α := AlG
  obs := fun s => obsX n fa fn ex s.heap.get?
  val := fun _ => (He.valD fn, true)
  says := fun _ h => ∃ K : PySem.W.Frag, K.In h ∧ He.SaysD fa fn K ∧ ex K = true
  of := fun _ _ e => ⟨_, He.frG_in, congrArg Prod.fst e, congrArg Prod.snd e⟩
  keeps := fun _ _ _ ⟨K, hK, c⟩ k => ⟨K, PySem.W.Frag.In.keeps hK k, c⟩
def excCB (K : PySem.W.Frag) (D : Addr) : Bool := decide (PySem.W.findIn K (.ref D) "__getattribute__" = some (some (.builtin "BaseException.__getattribute__"))) && (decide (PySem.W.findIn K (.ref D) "__getattr__" = some none) &&
  (decide (PySem.W.subIn K (.ref D) (.type "BaseException") = some true) && (PySem.W.hasDictIn K D && (decide (PySem.W.findIn K (.ref D) "__class__" = some (some (.builtin "object.__class__"))) &&
  (decide (PySem.W.specialIn K (.builtin "object.__class__") "__get__" = some (some (.builtin "getset_descriptor.__get__"))) && (decide (PySem.W.takesIn K (.builtin "object.__class__") = some true) && decide (PySem.W.mroIn K D (.type "object") = some true)))))))
def itA (K : PySem.W.Frag) (a : Addr) (i : Nat) : Addr := match K.lookup a with
  | some ⟨.type _, _, .seq its _, _⟩ => (match its.toList[i]? with
    | some (.ref b) => b
    | _ => a)
  | _ => a
def tupA (K : PySem.W.Frag) (a : Addr) (vs : List V) : Bool := match K.lookup a with
  | some ⟨.type c, _, .seq its _, _⟩ => decide (c = "tuple") && (decide (its.size ≤ sizeLine) && He.relAll vs its.toList)
  | _ => false
/-- a line of one knot, as the module holds it -/
def lnB1 (K : PySem.W.Frag) (x : Str) (a b c d e f : Int) : Bool :=
  tupA K (He.ga K x) [.ref (itA K (He.ga K x) 0), .ref (itA K (He.ga K x) 1)] && (tupA K (itA K (He.ga K x) 1) [.int e, .int f] &&
  (tupA K (itA K (He.ga K x) 0) [.ref (itA K (itA K (He.ga K x) 0) 0)] &&
  (tupA K (itA K (itA K (He.ga K x) 0) 0) [.ref (itA K (itA K (itA K (He.ga K x) 0) 0) 0), .ref (itA K (itA K (itA K (He.ga K x) 0) 0) 1)] &&
  (tupA K (itA K (itA K (itA K (He.ga K x) 0) 0) 0) [.int a, .int b] && tupA K (itA K (itA K (itA K (He.ga K x) 0) 0) 1) [.int c, .int d]))))
end HH

set_option Elab.async false
set_option linter.all false
set_option maxRecDepth 100000
set_option maxHeartbeats 4000000
namespace HH
open PySem PySem.Spec PyProof.Rows L2
def top (i : Nat) : Stmt := PySem.Challenge.pw_paymill_k61_foldings_known.main.body.getD i (.Pass ⟨0, 0, 0, 0⟩)
abbrev s_is_whole : Stmt := top 1
abbrev s_is_rising : Stmt := top 3
abbrev s_is_set : Stmt := top 7
abbrev s_is_folding : Stmt := top 6
abbrev s_law_mix : Stmt := top 9
abbrev s_law_deck : Stmt := top 10
abbrev s_law_next : Stmt := top 11
abbrev s_law_frac : Stmt := top 12
abbrev s_law_amounts : Stmt := top 13
abbrev s_law_folding : Stmt := top 14
abbrev s_law_whole : Stmt := top 15
abbrev s_law_is_set : Stmt := top 16
abbrev s_law_due : Stmt := top 17
abbrev s_law_odd_set : Stmt := top 18
abbrev s_law_spoilt : Stmt := top 19
abbrev s_law_right : Stmt := top 20
abbrev s_law : Stmt := top 21
def d_is_whole : He.DefD := ⟨("is_whole", none), "is_whole", "is_whole", defArgs s_is_whole, defBody s_is_whole, defScope s_is_whole, [], []⟩
def d_is_rising : He.DefD := ⟨("is_rising", none), "is_rising", "is_rising", defArgs s_is_rising, defBody s_is_rising, defScope s_is_rising, [], []⟩
def d_is_set : He.DefD := ⟨("_is_set", none), "_is_set", "_is_set", defArgs s_is_set, defBody s_is_set, defScope s_is_set, [], []⟩
def d_is_folding : He.DefD := ⟨("is_folding", none), "is_folding", "is_folding", defArgs s_is_folding, defBody s_is_folding, defScope s_is_folding, [], []⟩
def d_law_mix : He.DefD := ⟨("_law_mix", none), "_law_mix", "_law_mix", defArgs s_law_mix, defBody s_law_mix, defScope s_law_mix, [], []⟩
def d_law_deck : He.DefD := ⟨("_law_deck", none), "_law_deck", "_law_deck", defArgs s_law_deck, defBody s_law_deck, defScope s_law_deck, [], []⟩
def d_law_next : He.DefD := ⟨("_law_next", none), "_law_next", "_law_next", defArgs s_law_next, defBody s_law_next, defScope s_law_next, [], []⟩
def d_law_frac : He.DefD := ⟨("_law_frac", none), "_law_frac", "_law_frac", defArgs s_law_frac, defBody s_law_frac, defScope s_law_frac, [], []⟩
def d_law_amounts : He.DefD := ⟨("_law_amounts", none), "_law_amounts", "_law_amounts", defArgs s_law_amounts, defBody s_law_amounts, defScope s_law_amounts, [], []⟩
def d_law_folding : He.DefD := ⟨("_law_folding", none), "_law_folding", "_law_folding", defArgs s_law_folding, defBody s_law_folding, defScope s_law_folding, [], []⟩
def d_law_whole : He.DefD := ⟨("_law_whole", none), "_law_whole", "_law_whole", defArgs s_law_whole, defBody s_law_whole, defScope s_law_whole, [], []⟩
def d_law_is_set : He.DefD := ⟨("_law_is_set", none), "_law_is_set", "_law_is_set", defArgs s_law_is_set, defBody s_law_is_set, defScope s_law_is_set, [], []⟩
def d_law_due : He.DefD := ⟨("_law_due", none), "_law_due", "_law_due", defArgs s_law_due, defBody s_law_due, defScope s_law_due, [], []⟩
def d_law_odd_set : He.DefD := ⟨("_law_odd_set", none), "_law_odd_set", "_law_odd_set", defArgs s_law_odd_set, defBody s_law_odd_set, defScope s_law_odd_set, [], []⟩
def d_law_spoilt : He.DefD := ⟨("_law_spoilt", none), "_law_spoilt", "_law_spoilt", defArgs s_law_spoilt, defBody s_law_spoilt, defScope s_law_spoilt, [], []⟩
def d_law_right : He.DefD := ⟨("_law_right", none), "_law_right", "_law_right", defArgs s_law_right, defBody s_law_right, defScope s_law_right, [], []⟩
def d_law : He.DefD := ⟨("law", none), "law", "law", defArgs s_law, defBody s_law, defScope s_law, [], []⟩
def fn : List He.DefD := [d_is_whole, d_is_rising, d_is_set, d_is_folding, d_law_mix, d_law_deck, d_law_next, d_law_frac, d_law_amounts, d_law_folding, d_law_whole, d_law_is_set, d_law_due, d_law_odd_set, d_law_spoilt, d_law_right, d_law]
def fa : List He.Fa := [.glo "is_whole", .glo "is_rising", .glo "_is_set", .glo "is_folding", .glo "_law_mix", .glo "_law_deck", .glo "_law_next", .glo "_law_frac", .glo "_law_amounts", .glo "_law_folding", .glo "_law_whole", .glo "_law_is_set", .glo "_law_due", .glo "_law_odd_set", .glo "_law_spoilt", .glo "_law_right", .glo "law", .free "abs", .free "all", .free "bool", .free "enumerate", .free "int", .free "isinstance", .free "len", .free "list", .free "max", .free "min", .free "range", .free "repr", .free "sorted", .free "sum", .free "tuple", .free "type", .free "zip", .int "_MOST_SETS" 40]
def bs : List (Str × String) := []
def ex (K : PySem.W.Frag) : Bool := bltB K bs
abbrev R : PySem.W.OpenRow := PySem.W.OpenLaw.row PySem.Challenge.rw_paymill_k61_foldings_known
abbrev hk : PySem.W.Hook := hookX 4 fa fn ex
def ob (s : PySem.W.SharedT) : AlG := obsX 4 fa fn ex (HandSHeadRun.getT s)
def loose : List Str := (["__name__", "_MOST_SETS", "is_whole", "is_rising", "is_folding", "_is_set", "_law_mix", "_law_deck", "_law_next", "_law_frac", "_law_amounts", "_law_folding", "_law_whole", "_law_is_set", "_law_due", "_law_odd_set", "_law_spoilt", "_law_right"] : List Str)
theorem mapP {α β γ : Type} {o : Option α} {f : α → β} {g : α → γ} {b : β} {c : γ} (h1 : o.map f = some b) (h2 : o.map g = some c) : o.map (fun x => (f x, g x)) = some (b, c) := by
  cases o with
  | none => cases h1
  | some x =>
    have e1 : f x = b := Option.some.inj h1
    have e2 : g x = c := Option.some.inj h2
    show some (f x, g x) = some (b, c)
    rw [e1, e2]
open HandSHeadRun PySem.W
theorem runA (w : World) : (wholeF (fun p => stepQ (denQ tabQ) p w) fenceQ 20000 R.prog).map (fun x => looksF R.prog x.1.heap x.2.abs) = some true := by kernel_rfl
theorem runS (w : World) : (wholeF (fun p => stepQ (denQ tabQ) p w) fenceQ 20000 R.prog).map (fun x => seenQ (PySem.W.view R.prog [21]) loose (importedModules R.prog.main.body) (fun s => xlAt (PySem.W.view R.prog [21]) [] s && recOk R.toRowW.records s) x.2.abs) = some (openGood (PySem.W.view R.prog [21]) loose) := by kernel_rfl
theorem runO1 (w : World) : (wholeF (fun p => stepQ (denQ tabQ) p w) fenceQ 20000 R.prog).map (fun x => He.obsDG 4 fa fn (getT x.2)) = some (He.valD fn) := by kernel_rfl
theorem runO2 (w : World) : (wholeF (fun p => stepQ (denQ tabQ) p w) fenceQ 20000 R.prog).map (fun x => ex (He.frG (getT x.2) (He.asD (getT x.2) 4))) = some true := by kernel_rfl
theorem run (w : World) : HandSHeadRun.RunEqI R (PySem.W.view R.prog [21]) hk ob 20000 loose w := mapP (runA w) (mapP (runS w) (mapP (runO1 w) (runO2 w)))
end HH

set_option Elab.async false
set_option linter.all false
set_option maxRecDepth 100000
set_option maxHeartbeats 4000000
open PySem PySem.W PySem.Calls PyProof.Rows
set_option maxHeartbeats 0 in
theorem HH.look (h : (OpenLaw.row PySem.Challenge.rw_paymill_k61_foldings_known).Holds) : PySem.Challenge.rw_paymill_k61_foldings_known.Holds := by
  w_on; o_law
  exact h

set_option Elab.async false
set_option linter.all false
set_option maxRecDepth 100000
set_option maxHeartbeats 2000000
/-! DL: readings walked over data (PyData) in the place of values and heaps -/
namespace DL
open PySem L2

abbrev Av := Addr → Bool
/-- the heap without what is avoided -/
def wo (N : Av) (H : Hp) : Hp := fun b => if N b then none else H b
theorem wo_in {N : Av} {H : Hp} {b : Addr} (h : N b = false) : wo N H b = H b := by unfold wo; rw [h]; rfl
theorem wo_out {N : Av} {H : Hp} {b : Addr} (h : N b = true) : wo N H b = none := by unfold wo; rw [h]; rfl
theorem wo_some {N : Av} {H : Hp} {b : Addr} {o : HO} (h : wo N H b = some o) : N b = false ∧ H b = some o := by
  cases e : N b with
  | true => rw [wo_out e] at h; cases h
  | false => rw [wo_in e] at h; exact ⟨rfl, h⟩
/-- all but the avoided stays -/
def Keep (N : Av) (H H' : Hp) : Prop := ∀ b o, N b = false → H b = some o → H' b = some o
theorem Keep.refl {N : Av} {H : Hp} : Keep N H H := fun _ _ _ h => h
theorem Keep.trans {N : Av} {H H1 H2 : Hp} (a : Keep N H H1) (b : Keep N H1 H2) : Keep N H H2 := fun x o n h => b x o n (a x o n h)
theorem Keep.of {N : Av} {H H' : Hp} (a : Same H H') : Keep N H H' := fun b o _ h => a b o h
theorem Keep.wo {N : Av} {H H' : Hp} (a : Keep N H H') : Same (wo N H) (wo N H') := fun b o h => by
  obtain ⟨n, h⟩ := wo_some h
  rw [wo_in n]; exact a b o n h
def Le (N N' : Av) : Prop := ∀ b, N b = true → N' b = true
theorem Le.refl {N : Av} : Le N N := fun _ h => h
theorem Le.wo {N N' : Av} {H : Hp} (a : Le N N') : Same (wo N' H) (wo N H) := fun b o h => by
  obtain ⟨n, h⟩ := wo_some h
  have : N b = false := by
    cases e : N b with
    | false => rfl
    | true => rw [a b e] at n; cases n
  rw [wo_in this]; exact h
theorem Same.wo1 {N : Av} {H : Hp} : Same (DL.wo N H) H := fun b o h => (wo_some h).2
theorem same_t {K : PySem.W.Frag} {H H' : Hp} {a : Addr} {xs : List V} (e : Same H H') (h : SqT K H a xs) : SqT K H' a xs := by
  rcases h with (h | ⟨o, h⟩) | h
  · exact .inl (.inl (e _ _ h))
  · exact .inl (.inr ⟨o, e _ _ h⟩)
  · exact .inr h
theorem same_rd {H H' : Hp} {a : Addr} {u : HO} (e : Same H H') (h : Rd H a u) : Rd H' a u := by
  rcases h with h | ⟨o, h⟩
  · exact .inl (e _ _ h)
  · exact .inr ⟨o, e _ _ h⟩
mutual
/-- a value is a datum: lists tracked (or locked), tuples tracked, locked or the written part's -/
inductive Dt (K : PySem.W.Frag) (H : Hp) : V → PyData → Prop
  | non : Dt K H .non .none
  | bl (b : Bool) : Dt K H (.bl b) (.bool b)
  | int (i : Int) : Dt K H (.int i) (.int i)
  | str (x : Str) : Dt K H (.str x) (.str x)
  | lst {a : Addr} {xs : List V} {ds : List PyData} (h : Rd H a (.lst xs)) (t : DtAll K H xs ds) : Dt K H (.ref a) (.list ds)
  | tup {a : Addr} {xs : List V} {ds : List PyData} (h : SqT K H a xs) (t : DtAll K H xs ds) : Dt K H (.ref a) (.tuple ds)
  | dct {a : Addr} (h : H a = some (.dK [])) : Dt K H (.ref a) (.dict [])
inductive DtAll (K : PySem.W.Frag) (H : Hp) : List V → List PyData → Prop
  | nil : DtAll K H [] []
  | cons {v : V} {vs : List V} {d : PyData} {ds : List PyData} (h : Dt K H v d) (t : DtAll K H vs ds) : DtAll K H (v :: vs) (d :: ds)
end
mutual
theorem dp_mono {K : PySem.W.Frag} {H H' : Hp} (e : Same H H') : ∀ (d : PyData) (v : V), Dt K H v d → Dt K H' v d
  | .none, _, h => by cases h; exact .non
  | .bool b, _, h => by cases h; exact .bl b
  | .int i, _, h => by cases h; exact .int i
  | .str x, _, h => by cases h; exact .str x
  | .list ds, _, h => by
    cases h with
    | lst hs ha => exact .lst (same_rd e hs) (dpall_mono e ds _ ha)
  | .tuple ds, _, h => by
    cases h with
    | tup hs ha => exact .tup (same_t e hs) (dpall_mono e ds _ ha)
  | .dict _, _, h => by
    cases h with
    | dct h => exact .dct (e _ _ h)
theorem dpall_mono {K : PySem.W.Frag} {H H' : Hp} (e : Same H H') : ∀ (ds : List PyData) (vs : List V), DtAll K H vs ds → DtAll K H' vs ds
  | [], _, h => by cases h; exact .nil
  | d :: ds, _, h => by
    cases h with
    | cons h1 h2 => exact .cons (dp_mono e d _ h1) (dpall_mono e ds _ h2)
end
mutual
theorem dt_dp {K : PySem.W.Frag} {H : Hp} : ∀ (d : PyData) (v : V), d.hasDict = false → Dt K H v d → Dp K H v d
  | .none, _, _, h => by cases h; exact .non
  | .bool b, _, _, h => by cases h; exact .bl b
  | .int i, _, _, h => by cases h; exact .int i
  | .str x, _, _, h => by cases h; exact .str x
  | .list ds, _, n, h => by
    cases h with
    | lst hs ha => exact .lst (.inl hs) (dtall_dp ds _ (by simpa [PyData.hasDict] using n) ha)
  | .tuple ds, _, n, h => by
    cases h with
    | tup hs ha => exact .tup hs (dtall_dp ds _ (by simpa [PyData.hasDict] using n) ha)
  | .dict _, _, n, h => by simp [PyData.hasDict] at n
theorem dtall_dp {K : PySem.W.Frag} {H : Hp} : ∀ (ds : List PyData) (vs : List V), PyData.hasDictAll ds = false → DtAll K H vs ds → DpAll K H vs ds
  | [], _, _, h => by cases h; exact .nil
  | d :: ds, _, n, h => by
    have n' : d.hasDict = false ∧ PyData.hasDictAll ds = false := by simpa [PyData.hasDictAll] using n
    cases h with
    | cons h1 h2 => exact .cons (dt_dp d _ n'.1 h1) (dtall_dp ds _ n'.2 h2)
end
mutual
theorem lay_nd : ∀ (d : PyData), d.canLay0 = true → d.hasDict = false
  | .none, _ => rfl
  | .bool _, _ => rfl
  | .int _, _ => rfl
  | .str _, _ => rfl
  | .list ds, h => by
    have := lay_nd_all ds (by simpa [PyData.canLay0] using h)
    simpa [PyData.hasDict] using this
  | .tuple ds, h => by
    have := lay_nd_all ds (by simpa [PyData.canLay0] using h)
    simpa [PyData.hasDict] using this
  | .dict _, h => by simp [PyData.canLay0] at h
theorem lay_nd_all : ∀ (ds : List PyData), PyData.canLayAll0 ds = true → PyData.hasDictAll ds = false
  | [], _ => rfl
  | d :: ds, h => by
    have h' : d.canLay0 = true ∧ PyData.canLayAll0 ds = true := by simpa [PyData.canLayAll0] using h
    simp [PyData.hasDictAll, lay_nd d h'.1, lay_nd_all ds h'.2]
end
theorem shaped_nd {d : PyData} (h : SeqAt.shaped d = true) : d.hasDict = false := lay_nd d (SeqAt.canLay_of_shaped h)
section
variable {K : PySem.W.Frag} {N N' : Av} {H H' : Hp} {v : V} {vs ws : List V} {d : PyData} {ds es : List PyData}
/-- v is the data d, none of its objects avoided -/
def Dq (K : PySem.W.Frag) (N : Av) (H : Hp) (v : V) (d : PyData) : Prop := Dt K (wo N H) v d
def DqAll (K : PySem.W.Frag) (N : Av) (H : Hp) (vs : List V) (ds : List PyData) : Prop := DtAll K (wo N H) vs ds
theorem Dq.keep (h : Dq K N H v d) (k : Keep N H H') : Dq K N H' v d := dp_mono k.wo d v h
theorem DqAll.keep (h : DqAll K N H vs ds) (k : Keep N H H') : DqAll K N H' vs ds := dpall_mono k.wo ds vs h
theorem Dq.le (h : Dq K N' H v d) (k : Le N N') : Dq K N H v d := dp_mono k.wo d v h
theorem DqAll.le (h : DqAll K N' H vs ds) (k : Le N N') : DqAll K N H vs ds := dpall_mono k.wo ds vs h
theorem Dq.dt (h : Dq K N H v d) : Dt K H v d := dp_mono Same.wo1 d v h
theorem Dq.dp (h : Dq K N H v d) (n : d.hasDict = false) : Dp K H v d := dt_dp d v n h.dt
theorem DqAll.dp (h : DqAll K N H vs ds) (n : PyData.hasDictAll ds = false) : DpAll K H vs ds := dtall_dp ds vs n (dpall_mono Same.wo1 ds vs h)
theorem DqAll.len : ∀ {vs : List V} {ds : List PyData}, DqAll K N H vs ds → vs.length = ds.length := by
  intro vs ds h
  induction vs generalizing ds with
  | nil => cases h; rfl
  | cons v vs ih =>
    cases h with
    | cons h1 h2 => exact congrArg (· + 1) (ih h2)
theorem DqAll.nil : DqAll K N H [] [] := DtAll.nil
theorem DqAll.cons (h : Dq K N H v d) (t : DqAll K N H vs ds) : DqAll K N H (v :: vs) (d :: ds) := DtAll.cons h t
theorem DqAll.append : ∀ {vs : List V} {ds : List PyData}, DqAll K N H vs ds → DqAll K N H ws es → DqAll K N H (vs ++ ws) (ds ++ es) := by
  intro vs ds h t
  induction vs generalizing ds with
  | nil => cases h; exact t
  | cons v vs ih =>
    cases h with
    | cons h1 h2 => exact DqAll.cons h1 (ih h2)
theorem DqAll.get : ∀ {vs : List V} {ds : List PyData} {i : Nat} {d : PyData}, DqAll K N H vs ds → ds[i]? = some d → ∃ v, vs[i]? = some v ∧ Dq K N H v d := by
  intro vs ds i d h e
  induction vs generalizing ds i with
  | nil => cases h; simp at e
  | cons v vs ih =>
    cases h with
    | cons h1 h2 =>
      cases i with
      | zero => simp at e; subst e; exact ⟨v, rfl, h1⟩
      | succ i => obtain ⟨u, h3, h4⟩ := ih h2 (by simpa using e); exact ⟨u, by simpa using h3, h4⟩
theorem DqAll.take : ∀ {vs : List V} {ds : List PyData} (n : Nat), DqAll K N H vs ds → DqAll K N H (vs.take n) (ds.take n) := by
  intro vs ds n h
  induction vs generalizing ds n with
  | nil => cases h; simp; exact DqAll.nil
  | cons v vs ih =>
    cases h with
    | cons h1 h2 =>
      cases n with
      | zero => exact DqAll.nil
      | succ n => exact DqAll.cons h1 (ih n h2)
theorem DqAll.drop : ∀ {vs : List V} {ds : List PyData} (n : Nat), DqAll K N H vs ds → DqAll K N H (vs.drop n) (ds.drop n) := by
  intro vs ds n h
  induction vs generalizing ds n with
  | nil => cases h; simp; exact DqAll.nil
  | cons v vs ih =>
    cases h with
    | cons h1 h2 =>
      cases n with
      | zero => exact DqAll.cons h1 h2
      | succ n => exact ih n h2
theorem DqAll.ints {ns : List Int} : DqAll K N H (ns.map V.int) (ns.map PyData.int) := by
  induction ns with
  | nil => exact DqAll.nil
  | cons n ns ih => exact DqAll.cons (Dt.int n) ih
theorem DqAll.of_ints : ∀ {vs : List V} {ns : List Int}, DqAll K N H vs (ns.map PyData.int) → vs = ns.map V.int := by
  intro vs ns h
  induction ns generalizing vs with
  | nil => cases h; rfl
  | cons n ns ih =>
    cases h with
    | cons h1 h2 => cases h1; rw [ih h2]; rfl
/-- a fresh address is avoided by nobody -/
theorem fresh_av (hN : ∀ b, N b = true → H b ≠ none) {p : Addr} (hp : H p = none) : N p = false := by
  cases e : N p with
  | false => rfl
  | true => exact absurd hp (hN p e)
theorem Dq.tup {p : Addr} {xs : List V} (np : N p = false) (hp : H p = some (.tup xs)) (h : DqAll K N H xs ds) : Dq K N H (.ref p) (.tuple ds) :=
  Dt.tup (.inl (.inl (by rw [wo_in np]; exact hp))) h
theorem Dq.lst {p : Addr} {xs : List V} (np : N p = false) (hp : H p = some (.lst xs)) (h : DqAll K N H xs ds) : Dq K N H (.ref p) (.list ds) :=
  Dt.lst (.inl (by rw [wo_in np]; exact hp)) h
theorem Dq.tup_inv (h : Dq K N H v (.tuple ds)) : ∃ p xs, v = .ref p ∧ SqT K (wo N H) p xs ∧ SqT K H p xs ∧ DqAll K N H xs ds := by
  cases h with
  | tup hs ha => exact ⟨_, _, rfl, hs, same_t Same.wo1 hs, ha⟩
theorem Dq.lst_inv (h : Dq K N H v (.list ds)) : ∃ p xs, v = .ref p ∧ Rd (wo N H) p (.lst xs) ∧ Rd H p (.lst xs) ∧ DqAll K N H xs ds := by
  cases h with
  | lst hs ha => exact ⟨_, _, rfl, hs, same_rd Same.wo1 hs, ha⟩
theorem Dq.int_inv {i : Int} (h : Dq K N H v (.int i)) : v = .int i := by cases h; rfl
theorem Dq.bool_inv {i : Bool} (h : Dq K N H v (.bool i)) : v = .bl i := by cases h; rfl
theorem same_new {p : Addr} (h : H p = none) (o : HO) : Same H (upd H p o) := fun b u q => by rw [upd_ne (ne_of_none q h)]; exact q
end
end DL

set_option Elab.async false
set_option linter.all false
set_option maxRecDepth 100000
set_option maxHeartbeats 2000000
namespace DL
open PySem L2

/-- a thing that changes in its footprint alone, with a bound that a call may raise -/
structure Stt where
  a : Addr
  fp : Av
  ok : Hp → Nat → Prop
  loc : ∀ H H' B, (∀ b, fp b = true → H' b = H b) → ok H B → ok H' B
  trk : ∀ H B, ok H B → ∀ b, fp b = true → H b ≠ none
/-- none -/
def S0 : Stt := ⟨0, fun _ => false, fun _ _ => False, fun _ _ _ _ h => h, fun _ _ h => h.elim⟩

inductive Sl where
  | unk
  | dat (d : PyData)
  | own (ds : List PyData)
  | sto (B : Nat)
  | scr (ns : List Int)
abbrev Rho := List Sl
/-- what stands beside the names: a value on the way, a list that a comprehension fills -/
inductive Hd where
  | dat (v : V) (d : PyData)
  | own (p : Addr) (ds : List PyData)
def HdOk (K : PySem.W.Frag) (S : Stt) (H0 : Hp) (N0 N : Av) (H : Hp) : Hd → Prop
  | .dat v d => Dq K N H v d
  | .own p ds => ∃ xs, N p = true ∧ S.fp p = false ∧ N0 p = false ∧ H0 p = none ∧ H p = some (.lst xs) ∧ DqAll K N H xs ds

def SlOk (K : PySem.W.Frag) (S : Stt) (H0 : Hp) (N0 N : Av) (σ : L2.St) (H : Hp) (i : Nat) : Sl → Prop
  | .unk => True
  | .dat d => ∃ v, σ[i]? = some (some v) ∧ Dq K N H v d
  | .own ds => ∃ p xs, σ[i]? = some (some (.ref p)) ∧ N p = true ∧ S.fp p = false ∧ N0 p = false ∧ H0 p = none ∧ H p = some (.lst xs) ∧ DqAll K N H xs ds
  | .sto B => σ[i]? = some (some (.ref S.a)) ∧ S.ok H B
  | .scr ns => ∃ a, σ[i]? = some (some (.ref a)) ∧ SqL K (wo N H) a (ns.map V.int)

structure EnvD (K : PySem.W.Frag) (S : Stt) (H0 : Hp) (N0 : Av) (Z : List Hd) (N : Av) (σ : L2.St) (H : Hp) (ρ : Rho) : Prop where
  keep : ∀ b o, S.fp b = false → H0 b = some o → H b = some o
  base : Le N0 N
  trk : ∀ b, N b = true → H b ≠ none
  sub : Le S.fp N
  slot : ∀ (i : Nat) (s : Sl), ρ[i]? = some s → SlOk K S H0 N0 N σ H i s
  len : ρ.length = σ.length
  hid : ∀ z, z ∈ Z → HdOk K S H0 N0 N H z
  injH : ∀ (i : Nat) (di dj : List PyData) (p : Addr), ρ[i]? = some (Sl.own di) → σ[i]? = some (some (V.ref p)) → Hd.own p dj ∈ Z → False
  injZ : ∀ (i j : Nat) (di dj : List PyData) (p : Addr), Z[i]? = some (Hd.own p di) → Z[j]? = some (Hd.own p dj) → i = j
  inj : ∀ (i j : Nat) (di dj : List PyData) (p : Addr), ρ[i]? = some (Sl.own di) → ρ[j]? = some (Sl.own dj) → σ[i]? = some (some (V.ref p)) → σ[j]? = some (some (V.ref p)) → i = j

def WD (K : PySem.W.Frag) (S : Stt) (te : TE) (ρ : Rho) (Φ : PyData → Rho → Prop) : Prop :=
  ∀ H0 N0 Z N σ H, EnvD K S H0 N0 Z N σ H ρ → ∀ Q : VK, (∀ v d ρ' H', Φ d ρ' → EnvD K S H0 N0 Z N σ H' ρ' → Keep N H H' → Dq K N H' v d → Q v H') → te σ H Q
def WA (K : PySem.W.Frag) (S : Stt) (ta : TA) (ρ : Rho) (Φ : List PyData → Rho → Prop) : Prop :=
  ∀ H0 N0 Z N σ H, EnvD K S H0 N0 Z N σ H ρ → ∀ Q : List V → Hp → Prop, (∀ vs ds ρ' H', Φ ds ρ' → EnvD K S H0 N0 Z N σ H' ρ' → Keep N H H' → DqAll K N H' vs ds → Q vs H') → ta σ H Q
def WT (K : PySem.W.Frag) (S : Stt) (tt : TT) (ρ : Rho) (Φ : Bool → Rho → Prop) : Prop :=
  ∀ H0 N0 Z N σ H, EnvD K S H0 N0 Z N σ H ρ → ∀ Q : Bool → Hp → Prop, (∀ b ρ' H', Φ b ρ' → EnvD K S H0 N0 Z N σ H' ρ' → Keep N H H' → Q b H') → tt σ H Q
/-- two-place operations on data, calls on data -/
def DO (K : PySem.W.Frag) (r : R2) (x y : PyData) (Ψ : PyData → Prop) : Prop :=
  ∀ (N : Av) (H : Hp), (∀ b, N b = true → H b ≠ none) → ∀ u w, Dq K N H u x → Dq K N H w y → ∀ Q : VK, (∀ v d H', Ψ d → Same H H' → Dq K N H' v d → Q v H') → r u w H Q
def DU (K : PySem.W.Frag) (r : V → Hp → VK → Prop) (x : PyData) (Ψ : PyData → Prop) : Prop :=
  ∀ (N : Av) (H : Hp), (∀ b, N b = true → H b ≠ none) → ∀ u, Dq K N H u x → ∀ Q : VK, (∀ v d H', Ψ d → Same H H' → Dq K N H' v d → Q v H') → r u H Q
def DC (K : PySem.W.Frag) (r : List V → Hp → VK → Prop) (xs : List PyData) (Ψ : PyData → Prop) : Prop :=
  ∀ (N : Av) (H : Hp), (∀ b, N b = true → H b ≠ none) → ∀ us, DqAll K N H us xs → ∀ Q : VK, (∀ v d H', Ψ d → Same H H' → Dq K N H' v d → Q v H') → r us H Q

/-- what is wanted behind a statement -/
structure DE where
  nx : Rho → Prop
  rt : PyData → Rho → Prop
  bk : Rho → Prop := fun _ => False
  ct : Rho → Prop := fun _ => False
structure Meets (K : PySem.W.Frag) (S : Stt) (H0 : Hp) (N0 : Av) (Z : List Hd) (En : DE) (D : Ends) : Prop where
  nx : ∀ N σ H ρ, En.nx ρ → EnvD K S H0 N0 Z N σ H ρ → D.nx σ H
  rt : ∀ N σ H ρ v d, En.rt d ρ → EnvD K S H0 N0 Z N σ H ρ → Dq K N0 H v d → D.rt v H
  bk : ∀ N σ H ρ, En.bk ρ → EnvD K S H0 N0 Z N σ H ρ → D.bk σ H
  ct : ∀ N σ H ρ, En.ct ρ → EnvD K S H0 N0 Z N σ H ρ → D.ct σ H
def WS (K : PySem.W.Frag) (S : Stt) (ts : TS) (ρ : Rho) (En : DE) : Prop :=
  ∀ H0 N0 Z N σ H D, EnvD K S H0 N0 Z N σ H ρ → Meets K S H0 N0 Z En D → ts D σ H

section
variable {K : PySem.W.Frag} {S : Stt} {H0 : Hp} {N0 : Av} {Z : List Hd} {N : Av} {σ : L2.St} {H H' : Hp} {ρ : Rho} {Φ : PyData → Rho → Prop}

theorem SlOk.ext (hs : Le S.fp N) (ht : ∀ b, N b = true → H b ≠ none) (e : Same H H') : ∀ {s : Sl} {i : Nat}, SlOk K S H0 N0 N σ H i s → SlOk K S H0 N0 N σ H' i s
  | .unk, _, h => h
  | .dat d, _, ⟨v, h1, h2⟩ => ⟨v, h1, h2.keep (Keep.of e)⟩
  | .own ds, _, ⟨p, xs, h1, h2, h3, h4, h5, h6, h7⟩ => ⟨p, xs, h1, h2, h3, h4, h5, e _ _ h6, h7.keep (Keep.of e)⟩
  | .sto B, _, ⟨h1, h2⟩ => ⟨h1, S.loc H H' B (fun b hb => by
      cases q : H b with
      | none => exact absurd q (ht b (hs b hb))
      | some o => exact e b o q) h2⟩
  | .scr ns, _, ⟨a, h1, h2⟩ => ⟨a, h1, (Keep.of e).wo.seq h2⟩
theorem HdOk.ext (e : Same H H') : ∀ {z : Hd}, HdOk K S H0 N0 N H z → HdOk K S H0 N0 N H' z
  | .dat v d, h => Dq.keep h (Keep.of e)
  | .own p ds, ⟨xs, h2, h3, h4, h5, h6, h7⟩ => ⟨xs, h2, h3, h4, h5, e _ _ h6, h7.keep (Keep.of e)⟩
theorem EnvD.ext (E : EnvD K S H0 N0 Z N σ H ρ) (e : Same H H') : EnvD K S H0 N0 Z N σ H' ρ where
  keep b o n h := e b o (E.keep b o n h)
  base := E.base
  trk b h z := by
    cases q : H b with
    | none => exact E.trk b h q
    | some o => rw [e b o q] at z; cases z
  sub := E.sub
  slot i s h := (E.slot i s h).ext E.sub E.trk e
  len := E.len
  hid z h := (E.hid z h).ext e
  injH := E.injH
  injZ := E.injZ
  inj := E.inj
theorem get_set {α : Type} {l : List α} {i j : Nat} {x y : α} (h : (l.set i x)[j]? = some y) : (i = j ∧ y = x) ∨ (i ≠ j ∧ l[j]? = some y) := by
  by_cases e : i = j
  · subst e
    have hl : i < l.length := by have := (List.getElem?_eq_some_iff.mp h).1; rwa [List.length_set] at this
    rw [List.getElem?_set_self hl] at h
    cases h
    exact .inl ⟨rfl, rfl⟩
  · rw [List.getElem?_set_ne e] at h
    exact .inr ⟨e, h⟩
theorem set_ne {α : Type} {l : List α} {i j : Nat} {x : α} (h : i ≠ j) : (l.set i x)[j]? = l[j]? := List.getElem?_set_ne h
theorem set_eq {α : Type} {l : List α} {i : Nat} {x : α} (h : i < l.length) : (l.set i x)[i]? = some x := List.getElem?_set_self h
theorem SlOk.other {s : Sl} {i j : Nat} {u : Option V} (h : i ≠ j) (q : SlOk K S H0 N0 N σ H j s) : SlOk K S H0 N0 N (σ.set i u) H j s := by
  cases s with
  | unk => exact q
  | dat d => obtain ⟨u, h1, h2⟩ := q; exact ⟨u, by rw [set_ne h]; exact h1, h2⟩
  | own ds => obtain ⟨p, xs, h1, h2⟩ := q; exact ⟨p, xs, by rw [set_ne h]; exact h1, h2⟩
  | sto B => obtain ⟨h1, h2⟩ := q; exact ⟨by rw [set_ne h]; exact h1, h2⟩
  | scr ns => obtain ⟨a, h1, h2⟩ := q; exact ⟨a, by rw [set_ne h]; exact h1, h2⟩
/-- a slot gets what is no list of one's own -/
theorem EnvD.set0 (E : EnvD K S H0 N0 Z N σ H ρ) {i : Nat} {u : Option V} {s : Sl} (no : ∀ ds, s ≠ .own ds) (hs : i < σ.length → SlOk K S H0 N0 N (σ.set i u) H i s) : EnvD K S H0 N0 Z N (σ.set i u) H (ρ.set i s) where
  keep := E.keep
  base := E.base
  trk := E.trk
  sub := E.sub
  len := by rw [List.length_set, List.length_set]; exact E.len
  hid := E.hid
  injZ := E.injZ
  slot j t h := by
    rcases get_set h with ⟨e, e2⟩ | ⟨e, h⟩
    · subst e; subst e2
      refine hs ?_
      have := (List.getElem?_eq_some_iff.mp h).1
      rw [List.length_set] at this
      rw [← E.len]; exact this
    · exact (E.slot j t h).other e
  injH a da dj p ha h1 hz := by
    rcases get_set ha with ⟨e, e2⟩ | ⟨e, ha⟩
    · exact absurd e2.symm (no _)
    · rw [set_ne e] at h1
      exact E.injH a da dj p ha h1 hz
  inj a b da db p ha hb h1 h2 := by
    rcases get_set ha with ⟨e, e2⟩ | ⟨ea, ha⟩
    · exact absurd e2.symm (no _)
    · rcases get_set hb with ⟨e, e2⟩ | ⟨eb, hb⟩
      · exact absurd e2.symm (no _)
      · rw [set_ne ea] at h1
        rw [set_ne eb] at h2
        exact E.inj a b da db p ha hb h1 h2
theorem EnvD.set (E : EnvD K S H0 N0 Z N σ H ρ) {i : Nat} {v : V} {d : PyData} (hv : Dq K N H v d) : EnvD K S H0 N0 Z N (σ.set i (some v)) H (ρ.set i (.dat d)) :=
  E.set0 (fun _ h => nomatch h) fun hi => ⟨v, set_eq hi, hv⟩
theorem EnvD.unset (E : EnvD K S H0 N0 Z N σ H ρ) {i : Nat} {u : Option V} : EnvD K S H0 N0 Z N (σ.set i u) H (ρ.set i .unk) :=
  E.set0 (fun _ h => nomatch h) fun _ => trivial
/-- forget -/
def Fgt (ρ ρ' : Rho) : Prop := ρ'.length = ρ.length ∧ ∀ (i : Nat) (s : Sl), ρ'[i]? = some s → s = .unk ∨ ρ[i]? = some s
theorem Fgt.refl : Fgt ρ ρ := ⟨rfl, fun _ _ h => .inr h⟩
theorem EnvD.fgt {ρ' : Rho} (E : EnvD K S H0 N0 Z N σ H ρ) (f : Fgt ρ ρ') : EnvD K S H0 N0 Z N σ H ρ' where
  keep := E.keep
  base := E.base
  trk := E.trk
  sub := E.sub
  slot i s h := by
    rcases f.2 i s h with e | e
    · subst e; trivial
    · exact E.slot i s e
  len := f.1.trans E.len
  hid := E.hid
  injZ := E.injZ
  injH a da dj p ha h1 hz := by
    rcases f.2 a _ ha with e | ea
    · cases e
    · exact E.injH a da dj p ea h1 hz
  inj a b da db p ha hb h1 h2 := by
    rcases f.2 a _ ha with e | ea
    · cases e
    · rcases f.2 b _ hb with e | eb
      · cases e
      · exact E.inj a b da db p ea eb h1 h2

/-! ### expressions -/
theorem WD.imp {te : TE} {Φ Φ' : PyData → Rho → Prop} (h : WD K S te ρ Φ) (i : ∀ d ρ', Φ d ρ' → Φ' d ρ') : WD K S te ρ Φ' := fun H0 N0 Z N σ H E Q q => h H0 N0 Z N σ H E Q fun v d ρ' H' f => q v d ρ' H' (i d ρ' f)
theorem wd_var {i : Nat} {d : PyData} (h : ρ[i]? = some (.dat d)) (f : Φ d ρ) : WD K S (tVar i) ρ Φ := fun H0 N0 Z N σ H E Q q => by
  obtain ⟨v, h1, h2⟩ := E.slot i _ h
  exact ⟨v, h1, q v d ρ H f E Keep.refl h2⟩
theorem wd_int {i : Int} (f : Φ (.int i) ρ) : WD K S (tC (.int i)) ρ Φ := fun H0 N0 Z N σ H E Q q => q _ _ ρ H f E Keep.refl (Dt.int i)
theorem wd_bl {i : Bool} (f : Φ (.bool i) ρ) : WD K S (tC (.bl i)) ρ Φ := fun H0 N0 Z N σ H E Q q => q _ _ ρ H f E Keep.refl (Dt.bl i)
theorem wd_str {i : Str} (f : Φ (.str i) ρ) : WD K S (tC (.str i)) ρ Φ := fun H0 N0 Z N σ H E Q q => q _ _ ρ H f E Keep.refl (Dt.str i)
theorem wd_non (f : Φ .none ρ) : WD K S (tC .non) ρ Φ := fun H0 N0 Z N σ H E Q q => q _ _ ρ H f E Keep.refl Dt.non
theorem wd_op {r : R2} {ta tb : TE} (h : WD K S ta ρ fun x ρ1 => WD K S tb ρ1 fun y ρ2 => DO K r x y fun z => Φ z ρ2) : WD K S (tOp r ta tb) ρ Φ := fun H0 N0 Z N σ H E Q q =>
  h H0 N0 Z N σ H E _ fun u x ρ1 H1 h1 E1 k1 d1 => h1 H0 N0 Z N σ H1 E1 _ fun w y ρ2 H2 h2 E2 k2 d2 => h2 N H2 E2.trk u w (d1.keep k2) d2 Q fun v d H3 f e d3 =>
    q v d ρ2 H3 f (E2.ext e) ((k1.trans k2).trans (Keep.of e)) d3
theorem wd_un {r : V → Hp → VK → Prop} {ta : TE} (h : WD K S ta ρ fun x ρ1 => DU K r x fun z => Φ z ρ1) : WD K S (tUn r ta) ρ Φ := fun H0 N0 Z N σ H E Q q =>
  h H0 N0 Z N σ H E _ fun u x ρ1 H1 h1 E1 k1 d1 => h1 N H1 E1.trk u d1 Q fun v d H3 f e d3 => q v d ρ1 H3 f (E1.ext e) (k1.trans (Keep.of e)) d3
theorem wa_nil {Φ : List PyData → Rho → Prop} (f : Φ [] ρ) : WA K S tNil ρ Φ := fun H0 N0 Z N σ H E Q q => q [] [] ρ H f E Keep.refl DqAll.nil
theorem wa_cons {te : TE} {ta : TA} {Φ : List PyData → Rho → Prop} (h : WD K S te ρ fun x ρ1 => WA K S ta ρ1 fun xs ρ2 => Φ (x :: xs) ρ2) : WA K S (tCons te ta) ρ Φ := fun H0 N0 Z N σ H E Q q =>
  h H0 N0 Z N σ H E _ fun u x ρ1 H1 h1 E1 k1 d1 => h1 H0 N0 Z N σ H1 E1 _ fun us xs ρ2 H2 h2 E2 k2 d2 => q (u :: us) (x :: xs) ρ2 H2 h2 E2 (k1.trans k2) (DqAll.cons (d1.keep k2) d2)
theorem wd_cb {r : List V → Hp → VK → Prop} {ta : TA} (h : WA K S ta ρ fun xs ρ1 => DC K r xs fun z => Φ z ρ1) : WD K S (tCB r ta) ρ Φ := fun H0 N0 Z N σ H E Q q =>
  h H0 N0 Z N σ H E _ fun us xs ρ1 H1 h1 E1 k1 d1 => h1 N H1 E1.trk us d1 Q fun v d H3 f e d3 => q v d ρ1 H3 f (E1.ext e) (k1.trans (Keep.of e)) d3
theorem wd_tup {ta : TA} (h : WA K S ta ρ fun xs ρ1 => xs.length ≤ sizeLine ∧ Φ (.tuple xs) ρ1) : WD K S (tTup ta) ρ Φ := fun H0 N0 Z N σ H E Q q =>
  h H0 N0 Z N σ H E _ fun us xs ρ1 H1 h1 E1 k1 d1 => ⟨by rw [d1.len]; exact h1.1, fun p hp => by
    have s := same_new hp (.tup us)
    exact q (.ref p) (.tuple xs) ρ1 _ h1.2 (E1.ext s) (k1.trans (Keep.of s)) (Dq.tup (fresh_av E1.trk hp) upd_same (d1.keep (Keep.of s)))⟩
theorem wd_lst {ta : TA} (h : WA K S ta ρ fun xs ρ1 => xs.length ≤ sizeLine ∧ Φ (.list xs) ρ1) : WD K S (tLst ta) ρ Φ := fun H0 N0 Z N σ H E Q q =>
  h H0 N0 Z N σ H E _ fun us xs ρ1 H1 h1 E1 k1 d1 => ⟨by rw [d1.len]; exact h1.1, fun p hp => by
    have s := same_new hp (.lst us)
    exact q (.ref p) (.list xs) ρ1 _ h1.2 (E1.ext s) (k1.trans (Keep.of s)) (Dq.lst (fresh_av E1.trk hp) upd_same (d1.keep (Keep.of s)))⟩
/-- tests -/
theorem wt_test {te : TE} {Φ : Bool → Rho → Prop} (h : WD K S te ρ fun x ρ1 => ∃ b, x = .bool b ∧ Φ b ρ1) : WT K S (tTest te) ρ Φ := fun H0 N0 Z N σ H E Q q =>
  h H0 N0 Z N σ H E _ fun u x ρ1 H1 ⟨b, e, f⟩ E1 k1 d1 => by subst e; exact ⟨b, d1.bool_inv, q b ρ1 H1 f E1 k1⟩
theorem wt_B {te : TE} {Φ : Bool → Rho → Prop} (h : WD K S te ρ fun x ρ1 => ∃ b, x = .bool b ∧ Φ b ρ1) : WT K S (tB te) ρ Φ := fun H0 N0 Z N σ H E Q q =>
  h H0 N0 Z N σ H E _ fun u x ρ1 H1 ⟨b, e, f⟩ E1 k1 d1 => by subst e; exact ⟨b, d1.bool_inv, q b ρ1 H1 f E1 k1⟩
theorem wt_not {t : TT} {Φ : Bool → Rho → Prop} (h : WT K S t ρ fun b ρ1 => Φ (!b) ρ1) : WT K S (tNot t) ρ Φ := fun H0 N0 Z N σ H E Q q =>
  h H0 N0 Z N σ H E _ fun b ρ1 H1 f E1 k1 => q (!b) ρ1 H1 f E1 k1
theorem wt_and {t u : TT} {Φ : Bool → Rho → Prop} (h : WT K S t ρ fun b ρ1 => if b = true then WT K S u ρ1 Φ else Φ false ρ1) : WT K S (tAnd t u) ρ Φ := fun H0 N0 Z N σ H E Q q =>
  h H0 N0 Z N σ H E _ fun b ρ1 H1 f E1 k1 => by
    cases b with
    | true => exact f H0 N0 Z N σ H1 E1 _ fun b ρ2 H2 f2 E2 k2 => q b ρ2 H2 f2 E2 (k1.trans k2)
    | false => exact q false ρ1 H1 f E1 k1
theorem wt_or {t u : TT} {Φ : Bool → Rho → Prop} (h : WT K S t ρ fun b ρ1 => if b = true then Φ true ρ1 else WT K S u ρ1 Φ) : WT K S (tOr t u) ρ Φ := fun H0 N0 Z N σ H E Q q =>
  h H0 N0 Z N σ H E _ fun b ρ1 H1 f E1 k1 => by
    cases b with
    | false => exact f H0 N0 Z N σ H1 E1 _ fun b ρ2 H2 f2 E2 k2 => q b ρ2 H2 f2 E2 (k1.trans k2)
    | true => exact q true ρ1 H1 f E1 k1
/-- and, or, not of truths as values -/
theorem wd_andV {ta tb : TE} (h : WD K S ta ρ fun x ρ1 => ∃ b, x = .bool b ∧ if b = true then WD K S tb ρ1 Φ else Φ (.bool false) ρ1) : WD K S (tAndV ta tb) ρ Φ := fun H0 N0 Z N σ H E Q q =>
  h H0 N0 Z N σ H E _ fun u x ρ1 H1 ⟨b, e, f⟩ E1 k1 d1 => by
    subst e
    refine ⟨b, d1.bool_inv, ?_⟩
    cases b with
    | true => exact f H0 N0 Z N σ H1 E1 _ fun v d ρ2 H2 f2 E2 k2 => q v d ρ2 H2 f2 E2 (k1.trans k2)
    | false => exact q _ _ ρ1 H1 f E1 k1 (Dt.bl false)
theorem wd_notV {ta : TE} (h : WD K S ta ρ fun x ρ1 => ∃ b, x = .bool b ∧ Φ (.bool !b) ρ1) : WD K S (tNotV ta) ρ Φ := fun H0 N0 Z N σ H E Q q =>
  h H0 N0 Z N σ H E _ fun u x ρ1 H1 ⟨b, e, f⟩ E1 k1 d1 => by
    subst e
    exact ⟨b, d1.bool_inv, q _ _ ρ1 H1 f E1 k1 (Dt.bl _)⟩
end
end DL

set_option Elab.async false
set_option linter.all false
set_option maxRecDepth 100000
set_option maxHeartbeats 2000000
namespace DL
open PySem L2
section
variable {K : PySem.W.Frag} {S : Stt} {H0 : Hp} {N0 : Av} {Z : List Hd} {N : Av} {σ : L2.St} {H H' : Hp} {ρ : Rho} {Φ : PyData → Rho → Prop} {Ψ : PyData → Prop}

/-! ### operations on data -/
theorem do_ii {f : Int → Int → Int} {i j : Int} (h : Ψ (.int (f i j))) : DO K (rI0 fun i j => .int (f i j)) (.int i) (.int j) Ψ := fun N H _ u w hu hw Q q => by
  cases hu; cases hw
  exact ⟨i, j, rfl, rfl, q _ _ H h (Same.refl H) (Dt.int _)⟩
theorem do_ib {f : Int → Int → Bool} {i j : Int} (h : Ψ (.bool (f i j))) : DO K (rI0 fun i j => .bl (f i j)) (.int i) (.int j) Ψ := fun N H _ u w hu hw Q q => by
  cases hu; cases hw
  exact ⟨i, j, rfl, rfl, q _ _ H h (Same.refl H) (Dt.bl _)⟩
theorem do_ic {C : Int → Int → Prop} {f : Int → Int → Int} {i j : Int} (c : C i j) (h : Ψ (.int (f i j))) : DO K (rI C fun i j => .int (f i j)) (.int i) (.int j) Ψ := fun N H _ u w hu hw Q q => by
  cases hu; cases hw
  exact ⟨i, j, rfl, rfl, c, q _ _ H h (Same.refl H) (Dt.int _)⟩
theorem du_i {f : Int → Int} {i : Int} (h : Ψ (.int (f i))) : DU K (rU fun i => .int (f i)) (.int i) Ψ := fun N H _ u hu Q q => by
  cases hu
  exact ⟨i, rfl, q _ _ H h (Same.refl H) (Dt.int _)⟩
theorem do_eqi {i j : Int} (h : Ψ (.bool (decide (i = j)))) : DO K rEq (.int i) (.int j) Ψ := fun N H _ u w hu hw Q q => by
  cases hu; cases hw
  refine ⟨rfl, ?_⟩
  have e : decide (V.int i = V.int j) = decide (i = j) := by
    by_cases e : i = j
    · subst e; simp
    · rw [decide_eq_false e, decide_eq_false (fun z => e (V.int.inj z))]
  rw [e]
  exact q _ _ H h (Same.refl H) (Dt.bl _)
theorem do_eqs {i j : Str} (h : Ψ (.bool (decide (i = j)))) : DO K rEq (.str i) (.str j) Ψ := fun N H _ u w hu hw Q q => by
  cases hu; cases hw
  refine ⟨rfl, ?_⟩
  have e : decide (V.str i = V.str j) = decide (i = j) := by
    by_cases e : i = j
    · subst e; simp
    · rw [decide_eq_false e, decide_eq_false (fun z => e (V.str.inj z))]
  rw [e]
  exact q _ _ H h (Same.refl H) (Dt.bl _)
theorem do_eqD {x y : PyData} (h1 : SeqAt.shaped x = true) (h2 : SeqAt.shaped y = true) (h : Ψ (.bool (PyData.eqv x y))) : DO K (rEqD K) x y Ψ := fun N H _ u w hu hw Q q =>
  ⟨x, y, hu.dp (shaped_nd h1), hw.dp (shaped_nd h2), h1, h2, q _ _ H h (Same.refl H) (Dt.bl _)⟩
theorem do_neD {x y : PyData} (h1 : SeqAt.shaped x = true) (h2 : SeqAt.shaped y = true) (h : Ψ (.bool (!PyData.eqv x y))) : DO K (rNeD K) x y Ψ := fun N H _ u w hu hw Q q =>
  ⟨x, y, hu.dp (shaped_nd h1), hw.dp (shaped_nd h2), h1, h2, q _ _ H h (Same.refl H) (Dt.bl _)⟩
theorem at_dq {xs : List V} {ds : List PyData} {i : Int} {d : PyData} (h : DqAll K N H xs ds) (e : atI ds i = some d) : ∃ v, atI xs i = some v ∧ Dq K N H v d := by
  unfold atI at e ⊢
  rw [h.len]
  cases q : ixN ds.length i with
  | none => rw [q] at e; cases e
  | some j => rw [q] at e; exact h.get e
theorem do_ixT {ds : List PyData} {i : Int} {d : PyData} (e : atI ds i = some d) (h : Ψ d) : DO K (rIxT K) (.tuple ds) (.int i) Ψ := fun N H _ u w hu hw Q q => by
  obtain ⟨p, xs, rfl, _, h1, h2⟩ := hu.tup_inv
  cases hw
  obtain ⟨v, h3, h4⟩ := at_dq h2 e
  exact ⟨p, xs, i, v, rfl, rfl, (by first | exact h1 | exact .inl h1), h3, q v d H h (Same.refl H) h4⟩
theorem do_ixL {ds : List PyData} {i : Int} {d : PyData} (e : atI ds i = some d) (h : Ψ d) : DO K (rIxL K) (.list ds) (.int i) Ψ := fun N H _ u w hu hw Q q => by
  obtain ⟨p, xs, rfl, _, h1, h2⟩ := hu.lst_inv
  cases hw
  obtain ⟨v, h3, h4⟩ := at_dq h2 e
  exact ⟨p, xs, i, v, rfl, rfl, (by first | exact h1 | exact .inl h1), h3, q v d H h (Same.refl H) h4⟩
/-- + of lists, locked too -/
def rCatL : R2 := fun x y H Q => ∃ a b xs zs, x = .ref a ∧ y = .ref b ∧ Rd H a (.lst xs) ∧ Rd H b (.lst zs) ∧ xs.length + zs.length ≤ sizeLine ∧ ∀ p, H p = none → Q (.ref p) (upd H p (.lst (xs ++ zs)))
/-! ### calls of built-ins -/
theorem dc_len_l {ds : List PyData} (h : Ψ (.int ds.length)) : DC K (fun xs H Q => ∃ p ys, xs = [.ref p] ∧ (SqL K H p ys ∨ SqT K H p ys) ∧ Q (.int ys.length) H) [.list ds] Ψ := fun N H _ us hu Q q => by
  cases hu with
  | cons h1 h2 =>
    cases h2
    obtain ⟨p, xs, rfl, _, h3, h4⟩ := Dq.lst_inv h1
    exact ⟨p, xs, rfl, .inl (.inl h3), q _ _ H h (Same.refl H) (by rw [h4.len]; exact Dt.int _)⟩
theorem dc_len_t {ds : List PyData} (h : Ψ (.int ds.length)) : DC K (fun xs H Q => ∃ p ys, xs = [.ref p] ∧ (SqL K H p ys ∨ SqT K H p ys) ∧ Q (.int ys.length) H) [.tuple ds] Ψ := fun N H _ us hu Q q => by
  cases hu with
  | cons h1 h2 =>
    cases h2
    obtain ⟨p, xs, rfl, _, h3, h4⟩ := Dq.tup_inv h1
    exact ⟨p, xs, rfl, .inr h3, q _ _ H h (Same.refl H) (by rw [h4.len]; exact Dt.int _)⟩
/-- a call on one int, on two, whose answer is an int -/
theorem dc_i1 {f : Int → Int} {i : Int} (h : Ψ (.int (f i))) : DC K (fun xs H Q => ∃ i, xs = [.int i] ∧ Q (.int (f i)) H) [.int i] Ψ := fun N H _ us hu Q q => by
  cases hu with
  | cons h1 h2 => cases h2; cases h1; exact ⟨i, rfl, q _ _ H h (Same.refl H) (Dt.int _)⟩
theorem dc_i2 {f : Int → Int → Int} {i j : Int} (h : Ψ (.int (f i j))) : DC K (fun xs H Q => ∃ i j, xs = [.int i, .int j] ∧ Q (.int (f i j)) H) [.int i, .int j] Ψ := fun N H _ us hu Q q => by
  cases hu with
  | cons h1 h2 =>
    cases h2 with
    | cons h2 h3 => cases h3; cases h1; cases h2; exact ⟨i, j, rfl, q _ _ H h (Same.refl H) (Dt.int _)⟩

/-! ### statements -/
theorem ws_seq {t u : TS} {En : DE} (h : WS K S t ρ { En with nx := fun ρ1 => WS K S u ρ1 En }) : WS K S (tSeq t u) ρ En := fun H0 N0 Z N σ H D E M =>
  h H0 N0 Z N σ H { D with nx := u D } E ⟨fun N σ H ρ q E1 => q H0 N0 Z N σ H D E1 M, M.rt, M.bk, M.ct⟩
theorem ws_next {En : DE} (h : En.nx ρ) : WS K S tNext ρ En := fun H0 N0 Z N σ H D E M => M.nx N σ H ρ h E
theorem ws_asg {te : TE} {i : Nat} {En : DE} (h : WD K S te ρ fun d ρ1 => En.nx (ρ1.set i (.dat d))) : WS K S (tAsg te (gName i)) ρ En := fun H0 N0 Z N σ H D E M =>
  h H0 N0 Z N σ H E _ fun v d ρ1 H1 f E1 k1 d1 => M.nx N _ H1 _ f (E1.set d1)
theorem ws_ret {te : TE} {En : DE} (h : WD K S te ρ En.rt) : WS K S (tRet te) ρ En := fun H0 N0 Z N σ H D E M =>
  h H0 N0 Z N σ H E _ fun v d ρ1 H1 f E1 k1 d1 => M.rt N _ H1 _ v d f E1 (d1.le E1.base)
theorem ws_if {c : TT} {t u : TS} {En : DE} (h : WT K S c ρ fun b ρ1 => if b = true then WS K S t ρ1 En else WS K S u ρ1 En) : WS K S (tIfS c t u) ρ En := fun H0 N0 Z N σ H D E M =>
  h H0 N0 Z N σ H E _ fun b ρ1 H1 f E1 k1 => by
    cases b with
    | true => exact f H0 N0 Z N σ H1 D E1 M
    | false => exact f H0 N0 Z N σ H1 D E1 M
/-- a, b = e1, e2 -/
theorem ws_par {i j : Nat} {ta : TA} {En : DE} (h : WA K S ta ρ fun ds ρ1 => ∃ x y, ds = [x, y] ∧ En.nx ((ρ1.set i (.dat x)).set j (.dat y))) : WS K S (tPar i j ta) ρ En := fun H0 N0 Z N σ H D E M =>
  h H0 N0 Z N σ H E _ fun vs ds ρ1 H1 ⟨x, y, e, f⟩ E1 k1 d1 => by
    subst e
    cases d1 with
    | cons d1 d2 =>
      cases d2 with
      | cons d2 d3 =>
        cases d3
        exact ⟨_, _, rfl, M.nx N _ H1 _ f ((E1.set d1).set d2)⟩
/-! ### lists of one's own -/
theorem EnvD.new (E : EnvD K S H0 N0 Z N σ H ρ) {i : Nat} {p : Addr} {xs : List V} {ds : List PyData} (hp : H p = none) (hp0 : H0 p = none) (n0 : N0 p = false) (hd : DqAll K N H xs ds) :
    EnvD K S H0 N0 Z (fun b => N b || decide (b = p)) (σ.set i (some (.ref p))) (upd H p (.lst xs)) (ρ.set i (.own ds)) := by
  have np : N p = false := fresh_av E.trk hp
  have sp : S.fp p = false := by
    cases e : S.fp p with
    | false => rfl
    | true => rw [E.sub p e] at np; cases np
  have s := same_new hp (.lst xs)
  have kw : Same (wo N H) (wo (fun b => N b || decide (b = p)) (upd H p (.lst xs))) := fun b o h => by
    obtain ⟨n, h⟩ := wo_some h
    have hb : b ≠ p := ne_of_none h hp
    rw [wo_in (by simp [n, hb])]
    exact s b o h
  have dk : ∀ {v : V} {d : PyData}, Dq K N H v d → Dq K (fun b => N b || decide (b = p)) (upd H p (.lst xs)) v d := fun h => dp_mono kw _ _ h
  have dka : ∀ {v : List V} {d : List PyData}, DqAll K N H v d → DqAll K (fun b => N b || decide (b = p)) (upd H p (.lst xs)) v d := fun h => dpall_mono kw _ _ h
  have nq : ∀ {q : Addr} {ys : List V}, H q = some (.lst ys) → q ≠ p := fun h => ne_of_none h hp
  have le : ∀ b, N b = true → (N b || decide (b = p)) = true := fun b h => by rw [h]; rfl
  have old : ∀ {s : Sl} {j : Nat}, SlOk K S H0 N0 N σ H j s → SlOk K S H0 N0 (fun b => N b || decide (b = p)) σ (upd H p (.lst xs)) j s := fun {t j} h => by
    cases t with
    | unk => trivial
    | dat d => obtain ⟨v, h1, h2⟩ := h; exact ⟨v, h1, dk h2⟩
    | own es => obtain ⟨q, ys, h1, h2, h3, h4, h5, h6, h7⟩ := h; exact ⟨q, ys, h1, le q h2, h3, h4, h5, s _ _ h6, dka h7⟩
    | sto B =>
      obtain ⟨h1, h2⟩ := h
      exact ⟨h1, S.loc H _ B (fun b hb => upd_ne fun e => by rw [e, sp] at hb; cases hb) h2⟩
    | scr ns => obtain ⟨a, h1, h2⟩ := h; exact ⟨a, h1, kw.seq h2⟩
  refine ⟨fun b o n h => s b o (E.keep b o n h), fun b h => le b (E.base b h), fun b h => ?_, fun b h => le b (E.sub b h), fun j t h => ?_, by rw [List.length_set, List.length_set]; exact E.len, fun z h => ?_, fun a da dj q ha h1 hz => ?_, E.injZ, fun a b da db q ha hb h1 h2 => ?_⟩
  · by_cases e : b = p
    · subst e; rw [upd_same]; simp
    · have n : N b = true := by simpa [e] using h
      rw [upd_ne e]; exact E.trk b n
  · rcases get_set h with ⟨e, e2⟩ | ⟨e, h⟩
    · subst e; subst e2
      have hi : i < σ.length := by
        have := (List.getElem?_eq_some_iff.mp h).1
        rw [List.length_set] at this
        rw [← E.len]; exact this
      exact ⟨p, xs, set_eq hi, by simp, sp, n0, hp0, upd_same, dka hd⟩
    · exact (old (E.slot j t h)).other e
  · cases z with
    | dat v d => exact dk (E.hid _ h)
    | own q es =>
      obtain ⟨ys, h2, h3, h4, h5, h6, h7⟩ := E.hid _ h
      exact ⟨ys, le q h2, h3, h4, h5, s _ _ h6, dka h7⟩
  · rcases get_set ha with ⟨e, e2⟩ | ⟨e, ha⟩
    · subst e
      have hi : i < σ.length := by
        have := (List.getElem?_eq_some_iff.mp h1).1
        rwa [List.length_set] at this
      rw [set_eq hi] at h1
      cases h1
      obtain ⟨ys, h2, h3, h4, h5, h6, h7⟩ := E.hid _ hz
      exact nq h6 rfl
    · rw [set_ne e] at h1
      exact E.injH a da dj q ha h1 hz
  · have own : ∀ {c : Nat} {dc : List PyData} {q : Addr}, ρ[c]? = some (.own dc) → σ[c]? = some (some (V.ref q)) → q ≠ p := fun {c dc q} h1 h2 => by
      obtain ⟨q', ys, g1, g2, g3, g4, g5, g6, g7⟩ := E.slot c _ h1
      rw [g1] at h2; cases h2
      exact nq g6
    have fresh : ∀ {q : Addr}, (σ.set i (some (V.ref p)))[i]? = some (some (V.ref q)) → q = p := fun {q} h => by
      have hi : i < σ.length := by
        have := (List.getElem?_eq_some_iff.mp h).1
        rwa [List.length_set] at this
      rw [set_eq hi] at h; cases h; rfl
    rcases get_set ha with ⟨ea, e2⟩ | ⟨ea, ha⟩
    · rcases get_set hb with ⟨eb, e3⟩ | ⟨eb, hb⟩
      · exact ea.symm.trans eb
      · subst ea
        rw [set_ne eb] at h2
        exact absurd (fresh h1) (own hb h2)
    · rcases get_set hb with ⟨eb, e3⟩ | ⟨eb, hb⟩
      · subst eb
        rw [set_ne ea] at h1
        exact absurd (fresh h2) (own ha h1)
      · rw [set_ne ea] at h1
        rw [set_ne eb] at h2
        exact E.inj a b da db q ha hb h1 h2
end
end DL

set_option Elab.async false
set_option linter.all false
set_option maxRecDepth 100000
set_option maxHeartbeats 2000000
namespace DL
open PySem L2
section
variable {K : PySem.W.Frag} {S : Stt} {H0 : Hp} {N0 : Av} {Z : List Hd} {N : Av} {σ : L2.St} {H H' : Hp} {ρ : Rho} {Φ : PyData → Rho → Prop} {Ψ : PyData → Prop}

theorem free0 (E : EnvD K S H0 N0 Z N σ H ρ) {p : Addr} (hp : H p = none) : H0 p = none ∧ N0 p = false := by
  have np : N p = false := fresh_av E.trk hp
  have sp : S.fp p = false := by
    cases e : S.fp p with
    | false => rfl
    | true => rw [E.sub p e] at np; cases np
  constructor
  · cases e : H0 p with
    | none => rfl
    | some o => rw [E.keep p o sp e] at hp; cases hp
  · cases e : N0 p with
    | false => rfl
    | true => rw [E.base p e] at np; cases np
/-- x = [..], a list that will be filled -/
theorem ws_own {ta : TA} {i : Nat} {En : DE} (h : WA K S ta ρ fun ds ρ1 => ds.length ≤ sizeLine ∧ En.nx (ρ1.set i (.own ds))) : WS K S (tAsg (tLst ta) (gName i)) ρ En := fun H0 N0 Z N σ H D E M =>
  h H0 N0 Z N σ H E _ fun vs ds ρ1 H1 f E1 k1 d1 => ⟨by rw [d1.len]; exact f.1, fun p hp => by
    obtain ⟨z1, z2⟩ := free0 E1 hp
    exact M.nx _ _ _ _ f.2 (E1.new hp z1 z2 d1)⟩
/-- an own list's content changes, at p -/
theorem EnvD.chg (E : EnvD K S H0 N0 Z N σ H ρ) {p : Addr} {xs ys : List V} {i : Nat} {ds es : List PyData} (hi : ρ[i]? = some (.own ds)) (hs : σ[i]? = some (some (.ref p))) (hq : DqAll K N H ys es) :
    EnvD K S H0 N0 Z N σ (upd H p (.lst ys)) (ρ.set i (.own es)) := by
  obtain ⟨p', xs', g1, g2, g3, g4, g5, g6, g7⟩ := E.slot i _ hi
  rw [g1] at hs; cases hs
  have kp : ∀ b o, b ≠ p → H b = some o → upd H p (.lst ys) b = some o := fun b o hb h => by rw [upd_ne hb]; exact h
  have kn : Keep N H (upd H p (.lst ys)) := fun b o n h => kp b o (fun e => by rw [e, g2] at n; cases n) h
  have il : i < ρ.length := (List.getElem?_eq_some_iff.mp hi).1
  refine ⟨fun b o n h => kp b o (fun e => by rw [e, g5] at h; cases h) (E.keep b o n h), E.base, fun b h => ?_, E.sub, fun j t h => ?_, by rw [List.length_set]; exact E.len, fun z h => ?_, fun a da dj q ha h1 hz => ?_, E.injZ, fun a b da db q ha hb h1 h2 => ?_⟩
  · by_cases e : b = p
    · rw [e, upd_same]; simp
    · rw [upd_ne e]; exact E.trk b h
  · rcases get_set h with ⟨e, e2⟩ | ⟨e, h⟩
    · subst e; subst e2
      exact ⟨p, ys, g1, g2, g3, g4, g5, upd_same, hq.keep kn⟩
    · have q := E.slot j t h
      cases t with
      | unk => trivial
      | dat d => obtain ⟨v, h1, h2⟩ := q; exact ⟨v, h1, h2.keep kn⟩
      | own us =>
        obtain ⟨q, zs, h1, h2, h3, h4, h5, h6, h7⟩ := q
        have hne : q ≠ p := fun e2 => by subst e2; exact e (E.inj i j _ _ _ hi h g1 h1)
        exact ⟨q, zs, h1, h2, h3, h4, h5, kp _ _ hne h6, h7.keep kn⟩
      | sto B => obtain ⟨h1, h2⟩ := q; exact ⟨h1, S.loc H _ B (fun b hb => upd_ne fun e => by rw [e, g3] at hb; cases hb) h2⟩
      | scr ns => obtain ⟨a, h1, h2⟩ := q; exact ⟨a, h1, kn.wo.seq h2⟩
  · have q := E.hid z h
    cases z with
    | dat v d => exact Dq.keep q kn
    | own q' zs =>
      obtain ⟨us, h2, h3, h4, h5, h6, h7⟩ := q
      have hne : q' ≠ p := fun e2 => by subst e2; exact E.injH i _ _ _ hi g1 h
      exact ⟨us, h2, h3, h4, h5, kp _ _ hne h6, h7.keep kn⟩
  · rcases get_set ha with ⟨e, e2⟩ | ⟨e, ha⟩
    · subst e
      exact E.injH i _ dj q hi h1 hz
    · exact E.injH a da dj q ha h1 hz
  · have low : ∀ {c : Nat} {dc : List PyData}, (ρ.set i (.own es))[c]? = some (Sl.own dc) → ∃ dc', ρ[c]? = some (Sl.own dc') := fun {c dc} hc => by
      rcases get_set hc with ⟨e, _⟩ | ⟨_, hc⟩
      · subst e; exact ⟨_, hi⟩
      · exact ⟨_, hc⟩
    obtain ⟨da', ha'⟩ := low ha
    obtain ⟨db', hb'⟩ := low hb
    exact E.inj a b _ _ q ha' hb' h1 h2
/-- x.append(e), x a list of one's own -/
theorem ws_append {te : TE} {i : Nat} {es : List PyData} {En : DE} (h0 : ρ[i]? = some (.own es))
    (h : WD K S te ρ fun d ρ1 => ∃ ds, ρ1[i]? = some (.own ds) ∧ ds.length < sizeLine ∧ En.nx (ρ1.set i (.own (ds ++ [d])))) : WS K S (tDrop (tBM K "list" rAppend (tVar i) (tCons te tNil))) ρ En := fun H0 N0 Z N σ H D E M => by
  obtain ⟨p, xs, g1, g2, g3, g4, g5, g6, g7⟩ := E.slot i _ h0
  refine ⟨.ref p, g1, .inl ⟨rfl, _, .inl (.inl g6)⟩, h H0 N0 Z N σ H E _ fun v d ρ1 H1 ⟨ds, f1, f2, f3⟩ E1 k1 d1 => ?_⟩
  obtain ⟨p', xs', e1, e2, e3, e4, e5, e6, e7⟩ := E1.slot i _ f1
  rw [g1] at e1; cases e1
  exact ⟨p, xs', v, rfl, rfl, e6, by rw [e7.len]; exact f2, M.nx N _ _ _ f3 (E1.chg (xs := xs') f1 g1 (e7.append (DqAll.cons d1 DqAll.nil)))⟩
/-- a list of one's own, filled, is data -/
theorem EnvD.frz (E : EnvD K S H0 N0 Z N σ H ρ) {i : Nat} {ds : List PyData} (hi : ρ[i]? = some (.own ds)) : ∃ N', EnvD K S H0 N0 Z N' σ H (ρ.set i (.dat (.list ds))) := by
  obtain ⟨p, xs, g1, g2, g3, g4, g5, g6, g7⟩ := E.slot i _ hi
  have le : Le (fun b => N b && !decide (b = p)) N := fun b h => by simp at h; exact h.1
  have ne : ∀ {q : Addr}, q ≠ p → N q = true → (N q && !decide (q = p)) = true := fun h n => by simp [h, n]
  have il : i < ρ.length := (List.getElem?_eq_some_iff.mp hi).1
  refine ⟨fun b => N b && !decide (b = p), E.keep, fun b h => ne (fun e => by rw [e, g4] at h; cases h) (E.base b h), fun b h => E.trk b (le b h), fun b h => ne (fun e => by rw [e, g3] at h; cases h) (E.sub b h), fun j t h => ?_, by rw [List.length_set]; exact E.len, fun z h => ?_, fun a da dj q ha h1 hz => ?_, E.injZ, fun a b da db q ha hb h1 h2 => ?_⟩
  · rcases get_set h with ⟨e, e2⟩ | ⟨e, h⟩
    · subst e; subst e2
      exact ⟨.ref p, g1, Dq.lst (by simp) g6 (g7.le le)⟩
    · have q := E.slot j t h
      cases t with
      | unk => trivial
      | dat d => obtain ⟨v, h1, h2⟩ := q; exact ⟨v, h1, h2.le le⟩
      | own us =>
        obtain ⟨q, zs, h1, h2, h3, h4, h5, h6, h7⟩ := q
        have hne : q ≠ p := fun e2 => by subst e2; exact e (E.inj i j _ _ _ hi h g1 h1)
        exact ⟨q, zs, h1, ne hne h2, h3, h4, h5, h6, h7.le le⟩
      | sto B => exact q
      | scr ns => obtain ⟨a, h1, h2⟩ := q; exact ⟨a, h1, le.wo.seq h2⟩
  · have q := E.hid z h
    cases z with
    | dat v d => exact Dq.le q le
    | own q' zs =>
      obtain ⟨us, h2, h3, h4, h5, h6, h7⟩ := q
      have hne : q' ≠ p := fun e2 => by subst e2; exact E.injH i _ _ _ hi g1 h
      exact ⟨us, ne hne h2, h3, h4, h5, h6, h7.le le⟩
  · rcases get_set ha with ⟨e, e2⟩ | ⟨e, ha⟩
    · cases e2
    · exact E.injH a da dj q ha h1 hz
  · rcases get_set ha with ⟨e, e2⟩ | ⟨ea, ha⟩
    · cases e2
    · rcases get_set hb with ⟨e, e2⟩ | ⟨eb, hb⟩
      · cases e2
      · exact E.inj a b da db q ha hb h1 h2
theorem ws_frz {ts : TS} {i : Nat} {ds : List PyData} {En : DE} (hi : ρ[i]? = some (.own ds)) (h : WS K S ts (ρ.set i (.dat (.list ds))) En) : WS K S ts ρ En := fun H0 N0 Z N σ H D E M => by
  obtain ⟨N', E'⟩ := E.frz hi
  exact h H0 N0 Z N' σ H D E' M
theorem ws_fgt {ts : TS} {ρ' : Rho} {En : DE} (f : Fgt ρ ρ') (h : WS K S ts ρ' En) : WS K S ts ρ En := fun H0 N0 Z N σ H D E M => h H0 N0 Z N σ H D (E.fgt f) M

/-! ### loops -/
theorem EnvD.push (E : EnvD K S H0 N0 Z N σ H ρ) {v : V} {d : PyData} (h : Dq K N H v d) : EnvD K S H0 N0 (.dat v d :: Z) N σ H ρ where
  keep := E.keep
  base := E.base
  trk := E.trk
  sub := E.sub
  slot := E.slot
  len := E.len
  hid z hz := by
    rcases List.mem_cons.mp hz with e | hz
    · subst e; exact h
    · exact E.hid z hz
  injH i di dj p h1 h2 hz := by
    rcases List.mem_cons.mp hz with e | hz
    · cases e
    · exact E.injH i di dj p h1 h2 hz
  injZ i j di dj p h1 h2 := by
    cases i with
    | zero => simp at h1
    | succ i =>
      cases j with
      | zero => simp at h2
      | succ j => exact congrArg (· + 1) (E.injZ i j di dj p (by simpa using h1) (by simpa using h2))
  inj := E.inj
theorem EnvD.pop {z : Hd} (E : EnvD K S H0 N0 (z :: Z) N σ H ρ) : EnvD K S H0 N0 Z N σ H ρ where
  keep := E.keep
  base := E.base
  trk := E.trk
  sub := E.sub
  slot := E.slot
  len := E.len
  hid z hz := E.hid z (List.mem_cons_of_mem _ hz)
  injH i di dj p h1 h2 hz := E.injH i di dj p h1 h2 (List.mem_cons_of_mem _ hz)
  injZ i j di dj p h1 h2 := Nat.succ.inj (E.injZ (i + 1) (j + 1) di dj p (by simpa using h1) (by simpa using h2))
  inj := E.inj
/-- while, by a word with a measure -/
theorem ws_while {c : TT} {tb : TS} {En : DE} (I : Nat → Rho → Prop) (m0 : Nat) (i0 : I m0 ρ)
    (turn : ∀ m ρ1, I m ρ1 → WT K S c ρ1 fun b ρ2 => if b = true then WS K S tb ρ2 { nx := fun ρ3 => ∃ m', m' < m ∧ I m' ρ3, rt := En.rt, bk := En.nx, ct := fun ρ3 => ∃ m', m' < m ∧ I m' ρ3 } else En.nx ρ2) :
    WS K S (tWhile c tb) ρ En := fun H0 N0 Z N σ H D E M => by
  refine ⟨fun m σ' H' => ∃ N' ρ', EnvD K S H0 N0 Z N' σ' H' ρ' ∧ I m ρ', ⟨m0, N, ρ, E, i0⟩, ?_⟩
  rintro m σ' H' ⟨N', ρ', E', iv⟩
  refine turn m ρ' iv H0 N0 Z N' σ' H' E' _ fun b ρ2 H2 f E2 k2 => ?_
  cases b with
  | true => exact ⟨fun σ3 H3 => ∃ m', m' < m ∧ ∃ N3 ρ3, EnvD K S H0 N0 Z N3 σ3 H3 ρ3 ∧ I m' ρ3, fun σ3 H3 ⟨m', l, w⟩ => ⟨m', l, w⟩, f H0 N0 Z N' σ' H2 _ E2 ⟨fun N3 σ3 H3 ρ3 ⟨m', l, w⟩ E3 => ⟨m', l, N3, ρ3, E3, w⟩, M.rt, M.nx, fun N3 σ3 H3 ρ3 ⟨m', l, w⟩ E3 => ⟨m', l, N3, ρ3, E3, w⟩⟩⟩
  | false => exact M.nx N' σ' H2 ρ2 f E2

/-! ### comprehensions -/
def wipeR (ρ : Rho) : List Nat → Rho
  | [] => ρ
  | v :: vs => (wipeR ρ vs).set v .unk
theorem EnvD.wipe (E : EnvD K S H0 N0 Z N σ H ρ) : ∀ vs : List Nat, EnvD K S H0 N0 Z N (L2.wipe σ vs) H (wipeR ρ vs)
  | [] => E
  | v :: vs => (E.wipe vs).unset
/-- behind a comprehension: the names as ahead of it -/
theorem EnvD.unwipe : ∀ {vs : List Nat} {σ : L2.St} {ρ : Rho}, EnvD K S H0 N0 Z N (L2.wipe σ vs) H ρ → EnvD K S H0 N0 Z N σ H (wipeR ρ vs)
  | [], _, _, E => E
  | v :: vs, σ, ρ, E => by
    have e : EnvD K S H0 N0 Z N ((L2.wipe σ vs).set v none) H ρ := E
    by_cases hv : v < (L2.wipe σ vs).length
    · have e2 := e.unset (i := v) (u := (L2.wipe σ vs)[v])
      rw [List.set_set, List.set_getElem_self] at e2
      have e3 := EnvD.unwipe e2
      have cm : ∀ (us : List Nat) (r : Rho), wipeR (r.set v .unk) us = (wipeR r us).set v .unk := fun us => by
        induction us with
        | nil => intro r; rfl
        | cons u us ih =>
          intro r
          show (wipeR (r.set v .unk) us).set u .unk = ((wipeR r us).set u .unk).set v .unk
          rw [ih]
          by_cases huv : u = v
          · subst huv; rfl
          · exact List.set_comm _ _ (fun q => huv q.symm)
      rw [cm] at e3
      exact e3
    · rw [List.set_eq_of_length_le (by omega)] at e
      have e3 := EnvD.unwipe e
      show EnvD K S H0 N0 Z N σ H ((wipeR ρ vs).set v .unk)
      exact e3.fgt ⟨by rw [List.length_set], fun j s h => by
        rcases get_set h with ⟨_, q⟩ | ⟨_, q⟩
        · exact .inl q
        · exact .inr q⟩
end
end DL

set_option Elab.async false
set_option linter.all false
set_option maxRecDepth 100000
set_option maxHeartbeats 2000000
namespace DL
open PySem L2
/-- what a for walks, as data: hidden things Zx keep it, ds are its items -/
def Src (K : PySem.W.Frag) (J : It) (Zx : List Hd) (ds : List PyData) : Prop :=
  ∀ S H0 N0 Z N σ H ρ, EnvD K S H0 N0 (Zx ++ Z) N σ H ρ → (∀ k d, ds[k]? = some d → J.go k H ∧ ∀ x H', J.yld k H x H' → Same H H' ∧ Dq K N H' x d) ∧ J.stop ds.length H
def WI (K : PySem.W.Frag) (S : Stt) (wi : TI) (ρ : Rho) (Θ : List PyData → Rho → Prop) : Prop :=
  ∀ H0 N0 Z N σ H, EnvD K S H0 N0 Z N σ H ρ → ∀ R : It → Hp → Prop, (∀ J Zx ds ρ' H', Θ ds ρ' → Src K J Zx ds → (∀ p es, Hd.own p es ∉ Zx) → EnvD K S H0 N0 (Zx ++ Z) N σ H' ρ' → Keep N H H' → R J H') → wi σ H R
/-- a target takes a datum -/
def GD (K : PySem.W.Frag) (g : TG) (d : PyData) (ts : List Nat) (f : Rho → Rho) : Prop :=
  ∀ S H0 N0 Z N σ H ρ x, EnvD K S H0 N0 Z N σ H ρ → Dq K N H x d → ∀ Q : L2.St → Hp → Prop, (∀ σ', EnvD K S H0 N0 Z N σ' H (f ρ) → σ'.length = σ.length → (∀ j, j ∉ ts → σ'[j]? = σ[j]?) → Q σ' H) → g x σ H Q
section
variable {K : PySem.W.Frag} {S : Stt} {H0 : Hp} {N0 : Av} {Z : List Hd} {N : Av} {σ : L2.St} {H H' : Hp} {ρ : Rho} {Φ : PyData → Rho → Prop} {Ψ : PyData → Prop}

theorem EnvD.popn : ∀ {Zx : List Hd}, EnvD K S H0 N0 (Zx ++ Z) N σ H ρ → EnvD K S H0 N0 Z N σ H ρ
  | [], E => E
  | _ :: _, E => EnvD.popn E.pop
theorem src_list {a : Addr} {ds : List PyData} : Src K (Itl K a) [.dat (.ref a) (.list ds)] ds := fun S H0 N0 Z N σ H ρ E => by
  obtain ⟨p, xs, e, _, hr, ha⟩ := Dq.lst_inv (E.hid _ List.mem_cons_self)
  cases e
  refine ⟨fun k d hd => ?_, xs, .inl hr, by rw [ha.len]; exact Nat.le_refl _⟩
  obtain ⟨y, hy, hyd⟩ := ha.get hd
  refine ⟨⟨xs, y, .inl hr, hy⟩, fun x H' ⟨e1, e2⟩ => ?_⟩
  subst e1
  have ex : x = y := Option.some.inj ((e2 xs (.inl hr)).symm.trans hy)
  subst ex
  exact ⟨Same.refl _, hyd⟩
theorem src_tup {a : Addr} {ds : List PyData} : Src K (Itt K a) [.dat (.ref a) (.tuple ds)] ds := fun S H0 N0 Z N σ H ρ E => by
  obtain ⟨p, xs, e, _, hr, ha⟩ := Dq.tup_inv (E.hid _ List.mem_cons_self)
  cases e
  refine ⟨fun k d hd => ?_, xs, hr, by rw [ha.len]; exact Nat.le_refl _⟩
  obtain ⟨y, hy, hyd⟩ := ha.get hd
  refine ⟨⟨xs, y, hr, hy⟩, fun x H' ⟨e1, e2⟩ => ?_⟩
  subst e1
  have ex : x = y := Option.some.inj ((e2 xs hr).symm.trans hy)
  subst ex
  exact ⟨Same.refl _, hyd⟩
theorem src_rng {lo : Int} {n : Nat} : Src K (Itr lo n) [] ((List.range n).map fun k : Nat => PyData.int (lo + k)) := fun S H0 N0 Z N σ H ρ E => by
  refine ⟨fun k d hd => ?_, by show n ≤ _; simp⟩
  rw [List.getElem?_map] at hd
  by_cases hk : k < n
  · rw [List.getElem?_range hk] at hd
    cases hd
    refine ⟨hk, fun x H' ⟨e1, e2⟩ => ?_⟩
    subst e1; subst e2
    exact ⟨Same.refl _, Dt.int _⟩
  · rw [List.getElem?_eq_none (by simp; omega)] at hd
    cases hd
theorem no_own1 {v : V} {d : PyData} : ∀ p es, Hd.own p es ∉ [Hd.dat v d] := fun p es h => by simp at h
theorem wi_list {tl : TE} {Θ : List PyData → Rho → Prop} (h : WD K S tl ρ fun d ρ1 => ∃ ds, d = .list ds ∧ Θ ds ρ1) : WI K S (iList K tl) ρ Θ := fun H0 N0 Z N σ H E R q =>
  h H0 N0 Z N σ H E _ fun v d ρ1 H1 ⟨ds, e, f⟩ E1 k1 d1 => by
    subst e
    obtain ⟨p, xs, rfl, hw, hr, ha⟩ := d1.lst_inv
    exact ⟨p, rfl, ⟨xs, .inl hr⟩, q _ _ ds ρ1 H1 f src_list no_own1 (E1.push d1) k1⟩
theorem wi_tup {tl : TE} {Θ : List PyData → Rho → Prop} (h : WD K S tl ρ fun d ρ1 => ∃ ds, d = .tuple ds ∧ Θ ds ρ1) : WI K S (iTup K tl) ρ Θ := fun H0 N0 Z N σ H E R q =>
  h H0 N0 Z N σ H E _ fun v d ρ1 H1 ⟨ds, e, f⟩ E1 k1 d1 => by
    subst e
    obtain ⟨p, xs, rfl, hw, hr, ha⟩ := d1.tup_inv
    exact ⟨p, rfl, ⟨xs, hr⟩, q _ _ ds ρ1 H1 f src_tup no_own1 (E1.push d1) k1⟩
theorem wi_rng1 {ta : TA} {Θ : List PyData → Rho → Prop} (h : WA K S ta ρ fun xs ρ1 => ∃ n : Int, xs = [.int n] ∧ -(2 ^ 62) ≤ n ∧ n < 2 ^ 62 ∧ Θ ((List.range n.toNat).map fun k : Nat => PyData.int (0 + k)) ρ1) : WI K S (iRng1 ta) ρ Θ := fun H0 N0 Z N σ H E R q =>
  h H0 N0 Z N σ H E _ fun vs xs ρ1 H1 ⟨n, e, b1, b2, f⟩ E1 k1 d1 => by
    subst e
    cases d1 with
    | cons d1 d2 =>
      cases d2
      cases d1
      exact ⟨n, rfl, b1, b2, q _ [] _ ρ1 H1 f src_rng (fun p es h => by simp at h) E1 k1⟩
theorem gd_name {i : Nat} {d : PyData} : GD K (gName i) d [i] (fun ρ => ρ.set i (.dat d)) := fun S H0 N0 Z N σ H ρ x E hx Q q =>
  q _ (E.set hx) (List.length_set ..) fun j hj => set_ne fun e => hj (by simp [e])
theorem gd_pair {i j : Nat} {a b : PyData} : GD K (gTup K 2 (gCons (gName i) (gCons (gName j) gNil))) (.tuple [a, b]) [i, j] (fun ρ => (ρ.set i (.dat a)).set j (.dat b)) := fun S H0 N0 Z N σ H ρ x E hx Q q => by
  obtain ⟨p, xs, rfl, _, h1, h2⟩ := hx.tup_inv
  cases h2 with
  | cons a1 a2 =>
    cases a2 with
    | cons a2 a3 =>
      cases a3
      exact ⟨p, _, rfl, h1, rfl, _, _, rfl, _, _, rfl, rfl, q _ ((E.set a1).set a2) (by rw [List.length_set, List.length_set]) fun k hk => by
        have h1 : j ≠ k := fun e => hk (by simp [e])
        have h2 : i ≠ k := fun e => hk (by simp [e])
        rw [set_ne h1, set_ne h2]⟩
/-- for TARGET in THING -/
theorem ws_for {wi : TI} {g : TG} {tb : TS} {En : DE} (h : WI K S wi ρ fun ds ρ1 => ∃ I : Nat → Rho → Prop, I 0 ρ1 ∧
      (∀ k d ρ2, ds[k]? = some d → I k ρ2 → ∃ ts f, GD K g d ts f ∧ WS K S tb (f ρ2) { nx := I (k + 1), rt := En.rt, bk := En.nx, ct := I (k + 1) }) ∧ (∀ ρ2, I ds.length ρ2 → En.nx ρ2)) :
    WS K S (tFor wi g tb) ρ En := fun H0 N0 Z N σ H D E M =>
  h H0 N0 Z N σ H E _ fun J Zx ds ρ1 H1 ⟨I, i0, step, fin⟩ src _ E1 k1 => by
    refine ⟨fun k m σ' H' => ∃ N' ρ', EnvD K S H0 N0 (Zx ++ Z) N' σ' H' ρ' ∧ I k ρ' ∧ m = ds.length - k ∧ k ≤ ds.length, ⟨_, N, ρ1, E1, i0, rfl, Nat.zero_le _⟩, ?_⟩
    rintro k m σ' H' ⟨N', ρ', E', iv, rfl, hk⟩
    obtain ⟨s1, s2⟩ := src S H0 N0 Z N' σ' H' ρ' E'
    by_cases hlt : k < ds.length
    · have hd := List.getElem?_eq_getElem hlt
      obtain ⟨go, yl⟩ := s1 k _ hd
      obtain ⟨ts, f, gd, st⟩ := step k _ ρ' hd iv
      refine .inr ⟨go, fun σ2 H2 => ∃ N2 ρ2, EnvD K S H0 N0 (Zx ++ Z) N2 σ2 H2 ρ2 ∧ I (k + 1) ρ2, fun σ2 H2 ⟨N2, ρ2, E2, iv2⟩ => ⟨ds.length - (k + 1), by omega, N2, ρ2, E2, iv2, rfl, hlt⟩, fun x H2 hy => ?_⟩
      obtain ⟨sm, dx⟩ := yl x H2 hy
      exact gd S H0 N0 (Zx ++ Z) N' σ' H2 ρ' x (E'.ext sm) dx _ fun σ3 E3 _ _ => st H0 N0 _ N' _ _ _ E3 ⟨fun N2 σ2 H2 ρ2 q E2 => ⟨N2, ρ2, E2, q⟩, fun N2 σ2 H2 ρ2 v d q E2 => M.rt N2 σ2 H2 ρ2 v d q E2.popn, fun N2 σ2 H2 ρ2 q E2 => M.nx N2 σ2 H2 ρ2 q E2.popn, fun N2 σ2 H2 ρ2 q E2 => ⟨N2, ρ2, E2, q⟩⟩
    · have ek : k = ds.length := by omega
      subst ek
      exact .inl ⟨s2, M.nx N' σ' H' ρ' (fin ρ' iv) E'.popn⟩

/-! ### a comprehension's list -/
theorem EnvD.pushOwn (E : EnvD K S H0 N0 Z N σ H ρ) {p : Addr} (hp : H p = none) : EnvD K S H0 N0 (.own p [] :: Z) (fun b => N b || decide (b = p)) σ (upd H p (.lst [])) ρ := by
  obtain ⟨hp0, n0⟩ := free0 E hp
  have e : EnvD K S H0 N0 Z N (σ ++ [none]) H (ρ ++ [.unk]) := {
    keep := E.keep, base := E.base, trk := E.trk, sub := E.sub, hid := E.hid, injZ := E.injZ,
    len := by simp [E.len],
    slot := fun i s h => by
      by_cases hi : i < ρ.length
      · rw [List.getElem?_append_left hi] at h
        have q := E.slot i s h
        have hi2 : i < σ.length := by rw [← E.len]; exact hi
        cases s with
        | unk => trivial
        | dat d => obtain ⟨v, h1, h2⟩ := q; exact ⟨v, by rw [List.getElem?_append_left hi2]; exact h1, h2⟩
        | own ds => obtain ⟨v, xs, h1, h2⟩ := q; exact ⟨v, xs, by rw [List.getElem?_append_left hi2]; exact h1, h2⟩
        | sto B => obtain ⟨h1, h2⟩ := q; exact ⟨by rw [List.getElem?_append_left hi2]; exact h1, h2⟩
        | scr ns => obtain ⟨a, h1, h2⟩ := q; exact ⟨a, by rw [List.getElem?_append_left hi2]; exact h1, h2⟩
      · rw [List.getElem?_append_right (by omega)] at h
        have : s = .unk := by
          cases hh : i - ρ.length with
          | zero => rw [hh] at h; simpa using h.symm
          | succ n => rw [hh] at h; simp at h
        subst this; trivial
    injH := fun i di dj q h1 h2 hz => by
      by_cases hi : i < ρ.length
      · rw [List.getElem?_append_left hi] at h1
        rw [List.getElem?_append_left (by rw [← E.len]; exact hi)] at h2
        exact E.injH i di dj q h1 h2 hz
      · rw [List.getElem?_append_right (by omega)] at h1
        cases hh : i - ρ.length with
        | zero => rw [hh] at h1; simp at h1
        | succ n => rw [hh] at h1; simp at h1
    inj := fun i j di dj q h1 h2 h3 h4 => by
      have lo : ∀ {c : Nat} {dc : List PyData}, (ρ ++ [Sl.unk])[c]? = some (Sl.own dc) → c < ρ.length ∧ ρ[c]? = some (Sl.own dc) := fun {c dc} h => by
        by_cases hi : c < ρ.length
        · rw [List.getElem?_append_left hi] at h; exact ⟨hi, h⟩
        · rw [List.getElem?_append_right (by omega)] at h
          cases hh : c - ρ.length with
          | zero => rw [hh] at h; simp at h
          | succ n => rw [hh] at h; simp at h
      obtain ⟨b1, h1⟩ := lo h1
      obtain ⟨b2, h2⟩ := lo h2
      rw [List.getElem?_append_left (by rw [← E.len]; exact b1)] at h3
      rw [List.getElem?_append_left (by rw [← E.len]; exact b2)] at h4
      exact E.inj i j di dj q h1 h2 h3 h4 }
  have e2 := e.new (i := ρ.length) (ds := []) hp hp0 n0 DqAll.nil
  have r1 : (ρ ++ [Sl.unk]).set ρ.length (.own []) = ρ ++ [.own []] := by simp
  have r2 : (σ ++ [none]).set ρ.length (some (V.ref p)) = σ ++ [some (V.ref p)] := by rw [E.len]; simp
  rw [r1, r2] at e2
  have lt : ∀ {i : Nat} {s : Sl}, ρ[i]? = some s → i < ρ.length ∧ i < σ.length := fun {i s} h => by
    have h1 := (List.getElem?_eq_some_iff.mp h).1
    exact ⟨h1, by rw [← E.len]; exact h1⟩
  have up : ∀ {i : Nat} {s : Sl}, ρ[i]? = some s → (ρ ++ [Sl.own []])[i]? = some s := fun h => by rw [List.getElem?_append_left (lt h).1]; exact h
  have lastR : (ρ ++ [Sl.own []])[ρ.length]? = some (.own []) := by simp
  have lastS : (σ ++ [some (V.ref p)])[ρ.length]? = some (some (V.ref p)) := by rw [E.len]; simp
  refine ⟨e2.keep, e2.base, e2.trk, e2.sub, fun i s h => ?_, E.len, fun z h => ?_, fun i di dj q h1 h2 hz => ?_, fun i j di dj q h1 h2 => ?_, E.inj⟩
  · have q := e2.slot i s (up h)
    have l2 := (lt h).2
    cases s with
    | unk => trivial
    | dat d => obtain ⟨v, h1, h2⟩ := q; exact ⟨v, by rw [List.getElem?_append_left l2] at h1; exact h1, h2⟩
    | own ds => obtain ⟨v, xs, h1, h2⟩ := q; exact ⟨v, xs, by rw [List.getElem?_append_left l2] at h1; exact h1, h2⟩
    | sto B => obtain ⟨h1, h2⟩ := q; exact ⟨by rw [List.getElem?_append_left l2] at h1; exact h1, h2⟩
    | scr ns => obtain ⟨a, h1, h2⟩ := q; exact ⟨a, by rw [List.getElem?_append_left l2] at h1; exact h1, h2⟩
  · rcases List.mem_cons.mp h with e | h
    · subst e
      obtain ⟨p', xs, h1, h2⟩ := e2.slot ρ.length _ lastR
      rw [lastS] at h1; cases h1
      exact ⟨xs, h2⟩
    · exact e2.hid z h
  · rcases List.mem_cons.mp hz with e | hz
    · cases e
      have := e2.inj i ρ.length di [] p (up h1) lastR (by rw [List.getElem?_append_left (lt h1).2]; exact h2) lastS
      exact absurd (lt h1).1 (by omega)
    · exact E.injH i di dj q h1 h2 hz
  · cases i with
    | zero =>
      cases j with
      | zero => rfl
      | succ j =>
        exfalso
        simp at h1
        obtain ⟨h1a, h1b⟩ := h1
        subst h1a
        exact e2.injH ρ.length [] dj p lastR lastS (List.mem_of_getElem? (by simpa using h2))
    | succ i =>
      cases j with
      | zero =>
        exfalso
        simp at h2
        obtain ⟨h2a, h2b⟩ := h2
        subst h2a
        exact e2.injH ρ.length [] di p lastR lastS (List.mem_of_getElem? (by simpa using h1))
      | succ j => exact congrArg (· + 1) (E.injZ i j di dj q (by simpa using h1) (by simpa using h2))
end
end DL

set_option Elab.async false
set_option linter.all false
set_option maxRecDepth 100000
set_option maxHeartbeats 2000000
namespace DL
open PySem L2
section
variable {K : PySem.W.Frag} {S : Stt} {H0 : Hp} {N0 : Av} {Z : List Hd} {N : Av} {σ : L2.St} {H H' : Hp} {ρ : Rho} {Φ : PyData → Rho → Prop} {Ψ : PyData → Prop}
theorem EnvD.chgH {p : Addr} {ys : List V} {es fs : List PyData} (E : EnvD K S H0 N0 (.own p es :: Z) N σ H ρ) (hq : DqAll K N H ys fs) : EnvD K S H0 N0 (.own p fs :: Z) N σ (upd H p (.lst ys)) ρ := by
  obtain ⟨xs, g2, g3, g4, g5, g6, g7⟩ := E.hid _ List.mem_cons_self
  have kp : ∀ b o, b ≠ p → H b = some o → upd H p (.lst ys) b = some o := fun b o hb h => by rw [upd_ne hb]; exact h
  have kn : Keep N H (upd H p (.lst ys)) := fun b o n h => kp b o (fun e => by rw [e, g2] at n; cases n) h
  refine ⟨fun b o n h => kp b o (fun e => by rw [e, g5] at h; cases h) (E.keep b o n h), E.base, fun b h => ?_, E.sub, fun j t h => ?_, E.len, fun z h => ?_, fun i di dj q h1 h2 hz => ?_, fun i j di dj q h1 h2 => ?_, E.inj⟩
  · by_cases e : b = p
    · rw [e, upd_same]; simp
    · rw [upd_ne e]; exact E.trk b h
  · have q := E.slot j t h
    cases t with
    | unk => trivial
    | dat d => obtain ⟨v, h1, h2⟩ := q; exact ⟨v, h1, h2.keep kn⟩
    | own us =>
      obtain ⟨q, zs, h1, h2, h3, h4, h5, h6, h7⟩ := q
      have hne : q ≠ p := fun e2 => by subst e2; exact E.injH j _ _ _ h h1 List.mem_cons_self
      exact ⟨q, zs, h1, h2, h3, h4, h5, kp _ _ hne h6, h7.keep kn⟩
    | sto B => obtain ⟨h1, h2⟩ := q; exact ⟨h1, S.loc H _ B (fun b hb => upd_ne fun e => by rw [e, g3] at hb; cases hb) h2⟩
    | scr ns => obtain ⟨a, h1, h2⟩ := q; exact ⟨a, h1, kn.wo.seq h2⟩
  · rcases List.mem_cons.mp h with e | hz
    · subst e
      exact ⟨ys, g2, g3, g4, g5, upd_same, hq.keep kn⟩
    · have q := E.hid z (List.mem_cons_of_mem _ hz)
      cases z with
      | dat v d => exact Dq.keep q kn
      | own q' zs =>
        obtain ⟨us, h2, h3, h4, h5, h6, h7⟩ := q
        have hne : q' ≠ p := fun e2 => by
          subst e2
          obtain ⟨n, hn⟩ := List.getElem?_of_mem hz
          have := E.injZ 0 (n + 1) es zs q' rfl (by simpa using hn)
          cases this
        exact ⟨us, h2, h3, h4, h5, kp _ _ hne h6, h7.keep kn⟩
  · rcases List.mem_cons.mp hz with e | hz
    · cases e
      exact E.injH i di es p h1 h2 List.mem_cons_self
    · exact E.injH i di dj q h1 h2 (List.mem_cons_of_mem _ hz)
  · have lo : ∀ {c : Nat} {dc : List PyData} {q : Addr}, (Hd.own p fs :: Z)[c]? = some (Hd.own q dc) → ∃ dc', (Hd.own p es :: Z)[c]? = some (Hd.own q dc') := fun {c dc q} h => by
      cases c with
      | zero => simp at h; obtain ⟨e, _⟩ := h; subst e; exact ⟨es, rfl⟩
      | succ c => exact ⟨dc, by simpa using h⟩
    obtain ⟨d1, h1⟩ := lo h1
    obtain ⟨d2, h2⟩ := lo h2
    exact E.injZ i j d1 d2 q h1 h2
theorem EnvD.popOwn {p : Addr} {es : List PyData} (np : N p = false) (E : EnvD K S H0 N0 (.own p es :: Z) (fun b => N b || decide (b = p)) σ H ρ) : EnvD K S H0 N0 Z N σ H ρ ∧ Dq K N H (.ref p) (.list es) := by
  obtain ⟨xs, g2, g3, g4, g5, g6, g7⟩ := E.hid _ List.mem_cons_self
  have le : Le N (fun b => N b || decide (b = p)) := fun b h => by simp [h]
  have ne : ∀ {q : Addr}, q ≠ p → (N q || decide (q = p)) = true → N q = true := fun h n => by simpa [h] using n
  refine ⟨⟨E.keep, fun b h => ne (fun e => by rw [e, g4] at h; cases h) (E.base b h), fun b h => E.trk b (le b h), fun b h => ne (fun e => by rw [e, g3] at h; cases h) (E.sub b h), fun j t h => ?_, E.len, fun z h => ?_, fun i di dj q h1 h2 hz => E.injH i di dj q h1 h2 (List.mem_cons_of_mem _ hz), E.pop.injZ, E.inj⟩, Dq.lst np g6 (g7.le le)⟩
  · have q := E.slot j t h
    cases t with
    | unk => trivial
    | dat d => obtain ⟨v, h1, h2⟩ := q; exact ⟨v, h1, h2.le le⟩
    | own us =>
      obtain ⟨q, zs, h1, h2, h3, h4, h5, h6, h7⟩ := q
      have hne : q ≠ p := fun e2 => by subst e2; exact E.injH j _ _ _ h h1 List.mem_cons_self
      exact ⟨q, zs, h1, ne hne h2, h3, h4, h5, h6, h7.le le⟩
    | sto B => exact q
    | scr ns => obtain ⟨a, h1, h2⟩ := q; exact ⟨a, h1, le.wo.seq h2⟩
  · have q := E.hid z (List.mem_cons_of_mem _ h)
    cases z with
    | dat v d => exact Dq.le q le
    | own q' zs =>
      obtain ⟨us, h2, h3, h4, h5, h6, h7⟩ := q
      have hne : q' ≠ p := fun e2 => by
        subst e2
        obtain ⟨n, hn⟩ := List.getElem?_of_mem h
        have := E.injZ 0 (n + 1) es zs q' rfl (by simpa using hn)
        cases this
      exact ⟨us, ne hne h2, h3, h4, h5, h6, h7.le le⟩
/-! ### wiping names -/
theorem wipe_get (σ : L2.St) : ∀ (vs : List Nat) (j : Nat), (L2.wipe σ vs)[j]? = if j ∈ vs ∧ j < σ.length then some none else σ[j]?
  | [], j => by simp [L2.wipe]
  | v :: vs, j => by
    show ((L2.wipe σ vs).set v none)[j]? = _
    by_cases e : v = j
    · subst e
      by_cases hl : v < σ.length
      · rw [List.getElem?_set_self (by rw [wipe_length]; exact hl), if_pos ⟨List.mem_cons_self, hl⟩]
      · rw [if_neg (fun q => hl q.2), List.getElem?_eq_none (by rw [List.length_set, wipe_length]; omega), List.getElem?_eq_none (by omega)]
    · rw [List.getElem?_set_ne e, wipe_get σ vs j]
      have : (j ∈ v :: vs ∧ j < σ.length) ↔ (j ∈ vs ∧ j < σ.length) := by
        simp only [List.mem_cons]
        constructor
        · rintro ⟨q | q, l⟩
          · exact absurd q.symm e
          · exact ⟨q, l⟩
        · rintro ⟨q, l⟩; exact ⟨.inr q, l⟩
      simp only [this]
theorem wipe_off {σ τ : L2.St} {vs : List Nat} (hl : τ.length = σ.length) (h : ∀ j, j ∉ vs → τ[j]? = (L2.wipe σ vs)[j]?) : L2.wipe τ vs = L2.wipe σ vs := by
  refine List.ext_getElem? fun j => ?_
  rw [wipe_get τ]
  by_cases hj : j ∈ vs
  · by_cases hl2 : j < τ.length
    · rw [if_pos ⟨hj, hl2⟩, wipe_get, if_pos ⟨hj, by rw [← hl]; exact hl2⟩]
    · rw [if_neg (fun q => hl2 q.2), List.getElem?_eq_none (by omega), List.getElem?_eq_none (by rw [wipe_length]; omega)]
  · rw [if_neg (fun q => hj q.1)]; exact h j hj
/-- back to the wiped names -/
theorem EnvD.rewipe {τ : L2.St} {vs : List Nat} (E : EnvD K S H0 N0 Z N τ H ρ) (e : L2.wipe τ vs = L2.wipe σ vs) : EnvD K S H0 N0 Z N (L2.wipe σ vs) H (wipeR ρ vs) := by
  rw [← e]; exact E.wipe vs
theorem EnvD.mid {z : Hd} {Zx : List Hd} (E : EnvD K S H0 N0 (z :: (Zx ++ Z)) N σ H ρ) : EnvD K S H0 N0 (z :: Z) N σ H ρ where
  keep := E.keep
  base := E.base
  trk := E.trk
  sub := E.sub
  slot := E.slot
  len := E.len
  hid w hw := E.hid w (by
    rcases List.mem_cons.mp hw with e | e
    · subst e; exact List.mem_cons_self
    · exact List.mem_cons_of_mem _ (List.mem_append_right _ e))
  injH i di dj p h1 h2 hz := E.injH i di dj p h1 h2 (by
    rcases List.mem_cons.mp hz with e | e
    · subst e; exact List.mem_cons_self
    · exact List.mem_cons_of_mem _ (List.mem_append_right _ e))
  injZ i j di dj p h1 h2 := by
    have up : ∀ {c : Nat} {dc : List PyData}, (z :: Z)[c]? = some (Hd.own p dc) → (z :: (Zx ++ Z))[if c = 0 then 0 else c + Zx.length]? = some (Hd.own p dc) := fun {c dc} h => by
      cases c with
      | zero => simpa using h
      | succ c =>
        have h' : Z[c]? = some (Hd.own p dc) := by simpa using h
        rw [if_neg (by omega), show c + 1 + Zx.length = (Zx.length + c) + 1 by omega, List.getElem?_cons_succ, List.getElem?_append_right (by omega)]
        simpa using h'
    have q := E.injZ _ _ di dj p (up h1) (up h2)
    by_cases hi : i = 0 <;> by_cases hj : j = 0 <;> simp [hi, hj] at q <;> omega
  inj := E.inj
/-- a hidden list goes to a name -/
theorem EnvD.toSlot {p : Addr} {es : List PyData} (E : EnvD K S H0 N0 (.own p es :: Z) N σ H ρ) {i : Nat} : EnvD K S H0 N0 Z N (σ.set i (some (.ref p))) H (ρ.set i (.own es)) := by
  obtain ⟨xs, g2, g3, g4, g5, g6, g7⟩ := E.hid _ List.mem_cons_self
  have nz : ∀ {c : Nat} {dc : List PyData}, ρ[c]? = some (.own dc) → σ[c]? = some (some (V.ref p)) → False := fun h1 h2 => E.injH _ _ _ p h1 h2 List.mem_cons_self
  have sl : ∀ {c : Nat} {q : Addr}, i = c → (σ.set i (some (V.ref p)))[c]? = some (some (V.ref q)) → q = p := fun {c q} e h => by
    subst e
    have hi : i < σ.length := by
      have := (List.getElem?_eq_some_iff.mp h).1
      rwa [List.length_set] at this
    rw [set_eq hi] at h; cases h; rfl
  refine ⟨E.keep, E.base, E.trk, E.sub, fun j t h => ?_, by rw [List.length_set, List.length_set]; exact E.len, fun z h => E.hid z (List.mem_cons_of_mem _ h), fun a da dj q ha h1 hz => ?_, E.pop.injZ, fun a b da db q ha hb h1 h2 => ?_⟩
  · rcases get_set h with ⟨e, e2⟩ | ⟨e, h⟩
    · subst e; subst e2
      have hi : i < σ.length := by
        have := (List.getElem?_eq_some_iff.mp h).1
        rw [List.length_set] at this
        rw [← E.len]; exact this
      exact ⟨p, xs, set_eq hi, g2, g3, g4, g5, g6, g7⟩
    · exact (E.slot j t h).other e
  · rcases get_set ha with ⟨e, e2⟩ | ⟨e, ha⟩
    · have := sl e h1
      subst this
      obtain ⟨n, hn⟩ := List.getElem?_of_mem hz
      have := E.injZ 0 (n + 1) es dj q rfl (by simpa using hn)
      cases this
    · rw [set_ne e] at h1
      exact E.injH a da dj q ha h1 (List.mem_cons_of_mem _ hz)
  · rcases get_set ha with ⟨ea, e2⟩ | ⟨ea, ha⟩
    · have e1 := sl ea h1
      rcases get_set hb with ⟨eb, e3⟩ | ⟨eb, hb⟩
      · exact ea.symm.trans eb
      · rw [set_ne eb] at h2
        subst e1
        exact (nz hb h2).elim
    · rcases get_set hb with ⟨eb, e3⟩ | ⟨eb, hb⟩
      · have e1 := sl eb h2
        rw [set_ne ea] at h1
        subst e1
        exact (nz ha h1).elim
      · rw [set_ne ea] at h1
        rw [set_ne eb] at h2
        exact E.inj a b da db q ha hb h1 h2
/-- [elt for TARGET in THING if TEST] -/
theorem lc_own {Θ : List PyData → Rho → Prop} {wi : TI} {g : TG} {tt : TT} {te : TE} {vs : List Nat} (h : WI K S wi ρ fun ds ρ1 => ds.length ≤ sizeLine ∧ ∃ I : Nat → List PyData → Rho → Prop, I 0 [] (wipeR ρ1 vs) ∧
      (∀ k d acc ρ2, ds[k]? = some d → I k acc ρ2 → ∃ ts f, GD K g d ts f ∧ (∀ j ∈ ts, j ∈ vs) ∧
        WT K S tt (f ρ2) fun b ρ3 => if b = true then WD K S te ρ3 fun y ρ4 => I (k + 1) (acc ++ [y]) (wipeR ρ4 vs) else I (k + 1) acc (wipeR ρ3 vs)) ∧
      (∀ acc ρ2, I ds.length acc ρ2 → Θ acc (wipeR ρ2 vs))) (E : EnvD K S H0 N0 Z N σ H ρ) {Q : VK}
    (q : ∀ D acc ρ' H', N D = false → Θ acc ρ' → EnvD K S H0 N0 (.own D acc :: Z) (fun b => N b || decide (b = D)) σ H' ρ' → Keep N H H' → Q (.ref D) H') : tLc wi g tt te vs σ H Q :=
  h H0 N0 Z N σ H E _ fun J Zx ds ρ1 H1 ⟨hz, I, i0, step, fin⟩ src nz E1 k1 D hD => by
    have nD : N D = false := fresh_av E1.trk hD
    have srcO : ∀ {acc : List PyData} {N' σ' H' ρ'}, EnvD K S H0 N0 (.own D acc :: (Zx ++ Z)) N' σ' H' ρ' → _ := fun {acc N' σ' H' ρ'} E' => src S H0 N0 Z N' σ' H' ρ' E'.pop
    refine ⟨fun k m H' => ∃ ρ' acc, EnvD K S H0 N0 (.own D acc :: (Zx ++ Z)) (fun b => N b || decide (b = D)) (L2.wipe σ vs) H' ρ' ∧ Keep N H1 H' ∧ I k acc ρ' ∧ acc.length ≤ k ∧ m = ds.length - k ∧ k ≤ ds.length,
      ⟨_, _, [], (E1.pushOwn hD).wipe vs, Keep.of (same_new hD _), i0, Nat.le_refl _, rfl, Nat.zero_le _⟩, ?_⟩
    rintro k m H' ⟨ρ', acc, E', kk, iv, hacc, rfl, hk⟩
    obtain ⟨s1, s2⟩ := srcO E'
    have kN : ∀ {Ha Hb : Hp}, Keep (fun b => N b || decide (b = D)) Ha Hb → Keep N H1 Ha → (∀ ys, Keep N H1 (upd Hb D (.lst ys))) ∧ Keep N H1 (upd Hb D (.lst [])) := fun {Ha Hb} ka kb => by
      have z : ∀ ys, Keep N H1 (upd Hb D (.lst ys)) := fun ys b o n hb => by
        have hne : b ≠ D := ne_of_none hb hD
        rw [upd_ne hne]
        exact ka b o (by simp [n, hne]) (kb b o n hb)
      exact ⟨z, z []⟩
    have kN2 : ∀ {Ha Hb : Hp}, Keep (fun b => N b || decide (b = D)) Ha Hb → Keep N H1 Ha → Keep N H1 Hb := fun {Ha Hb} ka kb b o n hb => ka b o (by simp [n, ne_of_none hb hD]) (kb b o n hb)
    by_cases hlt : k < ds.length
    · have hd := List.getElem?_eq_getElem hlt
      obtain ⟨go, yl⟩ := s1 k _ hd
      obtain ⟨ts, f, gd, hts, st⟩ := step k _ acc ρ' hd iv
      refine .inr ⟨go, fun H2 => ∃ ρ2 acc2, EnvD K S H0 N0 (.own D acc2 :: (Zx ++ Z)) (fun b => N b || decide (b = D)) (L2.wipe σ vs) H2 ρ2 ∧ Keep N H1 H2 ∧ I (k + 1) acc2 ρ2 ∧ acc2.length ≤ k + 1, fun H2 ⟨ρ2, acc2, E2, kk2, iv2, ha2⟩ => ⟨ds.length - (k + 1), by omega, ρ2, acc2, E2, kk2, iv2, ha2, rfl, hlt⟩, fun x H2 hy => ?_⟩
      obtain ⟨sm, dx⟩ := yl x H2 hy
      refine gd S H0 N0 _ _ _ H2 ρ' x (E'.ext sm) dx _ fun σ3 E3 hl3 off3 => ?_
      have ew : L2.wipe σ3 vs = L2.wipe σ vs := wipe_off (by rw [hl3, wipe_length]) fun j hj => off3 j fun q => hj (hts j q)
      refine ⟨ew, st H0 N0 _ _ σ3 H2 E3 _ fun b ρ3 H3 fb E3' k3 => ?_⟩
      have kk3 : Keep N H1 H3 := kN2 k3 (kN2 (Keep.of sm) kk)
      cases b with
      | false => exact ⟨_, acc, E3'.rewipe ew, kk3, fb, Nat.le_succ_of_le hacc⟩
      | true =>
        refine fb H0 N0 _ _ σ3 H3 E3' _ fun y d ρ4 H4 f4 E4 k4 d4 => ?_
        obtain ⟨us, g2, g3, g4, g5, g6, g7⟩ := E4.hid _ List.mem_cons_self
        refine ⟨us, g6, ?_, _, acc ++ [d], (E4.chgH (g7.append (DqAll.cons d4 DqAll.nil))).rewipe ew, (kN k4 kk3).1 _, f4, by simp; omega⟩
        rw [g7.len]; omega
    · have ek : k = ds.length := by omega
      subst ek
      exact .inl ⟨s2, q D acc _ H' nD (fin acc ρ' iv) E'.mid.unwipe (k1.trans kk)⟩
theorem wd_lc {wi : TI} {g : TG} {tt : TT} {te : TE} {vs : List Nat} (h : WI K S wi ρ fun ds ρ1 => ds.length ≤ sizeLine ∧ ∃ I : Nat → List PyData → Rho → Prop, I 0 [] (wipeR ρ1 vs) ∧
      (∀ k d acc ρ2, ds[k]? = some d → I k acc ρ2 → ∃ ts f, GD K g d ts f ∧ (∀ j ∈ ts, j ∈ vs) ∧
        WT K S tt (f ρ2) fun b ρ3 => if b = true then WD K S te ρ3 fun y ρ4 => I (k + 1) (acc ++ [y]) (wipeR ρ4 vs) else I (k + 1) acc (wipeR ρ3 vs)) ∧
      (∀ acc ρ2, I ds.length acc ρ2 → Φ (.list acc) (wipeR ρ2 vs))) : WD K S (tLc wi g tt te vs) ρ Φ := fun H0 N0 Z N σ H E Q q =>
  lc_own (Θ := fun acc ρ' => Φ (.list acc) ρ') h E fun D acc ρ' H' nD f E' k => by
    obtain ⟨E5, d5⟩ := E'.popOwn nD
    exact q _ _ ρ' H' f E5 k d5
/-- x = [.. for ..], to be filled or told on -/
theorem ws_lc {wi : TI} {g : TG} {tt : TT} {te : TE} {vs : List Nat} {i : Nat} {En : DE} (h : WI K S wi ρ fun ds ρ1 => ds.length ≤ sizeLine ∧ ∃ I : Nat → List PyData → Rho → Prop, I 0 [] (wipeR ρ1 vs) ∧
      (∀ k d acc ρ2, ds[k]? = some d → I k acc ρ2 → ∃ ts f, GD K g d ts f ∧ (∀ j ∈ ts, j ∈ vs) ∧
        WT K S tt (f ρ2) fun b ρ3 => if b = true then WD K S te ρ3 fun y ρ4 => I (k + 1) (acc ++ [y]) (wipeR ρ4 vs) else I (k + 1) acc (wipeR ρ3 vs)) ∧
      (∀ acc ρ2, I ds.length acc ρ2 → En.nx ((wipeR ρ2 vs).set i (.own acc)))) : WS K S (tAsg (tLc wi g tt te vs) (gName i)) ρ En := fun H0 N0 Z N σ H D E M =>
  lc_own (Θ := fun acc ρ' => En.nx (ρ'.set i (.own acc))) h E fun p acc ρ' H' nD f E' k => M.nx _ _ _ _ f E'.toSlot
end
end DL

set_option Elab.async false
set_option linter.all false
set_option maxRecDepth 100000
set_option maxHeartbeats 2000000
namespace DL
open PySem L2
/-! ### promises over data -/
def spP (K : PySem.W.Frag) (T : List PyData → (PyData → Prop) → Prop) : Sp := fun vs H Q _ => ∃ (N : Av) (ds : List PyData) (Φ : PyData → Prop),
  (∀ b, N b = true → H b ≠ none) ∧ DqAll K N H vs ds ∧ T ds Φ ∧ ∀ d, Φ d → ∀ v H', Same H H' → Dq K N H' v d → Q v H'
/-- the same, and what is raised: an error of the class at C without fields -/
def spX (K : PySem.W.Frag) (T : List PyData → (PyData → Prop) → (Addr → Prop) → Prop) : Sp := fun vs H Q E => ∃ (N : Av) (ds : List PyData) (Φ : PyData → Prop) (Ψ : Addr → Prop),
  (∀ b, N b = true → H b ≠ none) ∧ DqAll K N H vs ds ∧ T ds Φ Ψ ∧ (∀ d, Φ d → ∀ v H', Same H H' → Dq K N H' v d → Q v H') ∧ ∀ C, Ψ C → ∀ H', Same H H' → E (.ref C) none H'
/-- with a store in front, F: which -/
def spS (K : PySem.W.Frag) (F : Stt → Prop) (T : Nat → List PyData → (PyData → Nat → Prop) → Prop) : Sp := fun vs H Q _ => ∃ (S : Stt) (N : Av) (us : List V) (ds : List PyData) (B : Nat) (Φ : PyData → Nat → Prop),
  vs = .ref S.a :: us ∧ F S ∧ S.ok H B ∧ Le S.fp N ∧ (∀ b, N b = true → H b ≠ none) ∧ DqAll K N H us ds ∧ T B ds Φ ∧
  ∀ d B', Φ d B' → ∀ v H', (∀ b o, S.fp b = false → H b = some o → H' b = some o) → S.ok H' B' → Dq K N H' v d → Q v H'
def rhoOf (n : Nat) (ds : List PyData) : Rho := ds.map Sl.dat ++ List.replicate (n - ds.length) Sl.unk
def stoS (B : Nat) : Sl → Sl
  | .sto _ => .sto B
  | s => s
def stoAll (B : Nat) : Rho → Rho
  | [] => []
  | s :: r => stoS B s :: stoAll B r
theorem stoAll_get {B : Nat} : ∀ {ρ : Rho} {i : Nat} {s : Sl}, (stoAll B ρ)[i]? = some s → (s = .sto B ∧ ∃ B0, ρ[i]? = some (.sto B0)) ∨ ((∀ B0, s ≠ .sto B0) ∧ ρ[i]? = some s)
  | [], i, s, h => by simp [stoAll] at h
  | t :: r, 0, s, h => by
    cases t <;> simp [stoAll, stoS] at h <;> subst h
    · exact .inr ⟨fun _ => nofun, rfl⟩
    · exact .inr ⟨fun _ => nofun, rfl⟩
    · exact .inr ⟨fun _ => nofun, rfl⟩
    · exact .inl ⟨rfl, _, rfl⟩
    · exact .inr ⟨fun _ => nofun, rfl⟩
  | t :: r, i + 1, s, h => by
    have h2 : (stoAll B r)[i]? = some s := by cases t <;> simpa [stoAll, stoS] using h
    simpa using stoAll_get h2
theorem stoAll_len {B : Nat} : ∀ {ρ : Rho}, (stoAll B ρ).length = ρ.length
  | [] => rfl
  | t :: r => by simp [stoAll, stoAll_len (ρ := r)]
section
variable {K : PySem.W.Frag} {S : Stt} {H0 : Hp} {N0 : Av} {Z : List Hd} {N : Av} {σ : L2.St} {H H' : Hp} {ρ : Rho} {Φ : PyData → Rho → Prop} {Ψ : PyData → Prop}
theorem rhoOf_get {n : Nat} {ds : List PyData} {i : Nat} {s : Sl} (h : (rhoOf n ds)[i]? = some s) : s = .unk ∨ ∃ d, ds[i]? = some d ∧ s = .dat d := by
  unfold rhoOf at h
  by_cases hi : i < ds.length
  · rw [List.getElem?_append_left (by simpa using hi), List.getElem?_map, List.getElem?_eq_getElem hi] at h
    exact .inr ⟨_, List.getElem?_eq_getElem hi, by simpa using h.symm⟩
  · rw [List.getElem?_append_right (by simpa using hi), List.getElem?_replicate] at h
    split at h
    · exact .inl (Option.some.inj h).symm
    · cases h
theorem start_get {Nm : List Str} {vs : List V} {i : Nat} {v : V} (h : vs[i]? = some v) : (L2.start Nm vs)[i]? = some (some v) := by
  have hi := (List.getElem?_eq_some_iff.mp h).1
  show (vs.map some ++ List.replicate (Nm.length - vs.length) none)[i]? = _
  rw [List.getElem?_append_left (by simpa using hi), List.getElem?_map, h]; rfl
theorem env_start {Nm : List Str} {vs : List V} {ds : List PyData} (ht : ∀ b, N b = true → H b ≠ none) (hd : DqAll K N H vs ds) : EnvD K S0 H N [] N (L2.start Nm vs) H (rhoOf Nm.length ds) where
  keep _ _ _ h := h
  base := Le.refl
  trk := ht
  sub _ h := nomatch h
  len := by simp [rhoOf, L2.start, hd.len]
  hid _ h := nomatch h
  injZ i j di dj p h := by simp at h
  slot i s h := by
    rcases rhoOf_get h with e | ⟨d, e, e2⟩
    · subst e; trivial
    · subst e2
      obtain ⟨v, h1, h2⟩ := hd.get e
      exact ⟨v, start_get h1, h2⟩
  injH i di dj p h := by
    rcases rhoOf_get h with e | ⟨d, _, e2⟩
    · cases e
    · cases e2
  inj i j di dj p h := by
    rcases rhoOf_get h with e | ⟨d, _, e2⟩
    · cases e
    · cases e2
/-- a def's body keeps a promise over data -/
theorem run_P {T : List PyData → (PyData → Prop) → Prop} {Nm : List Str} {ts : TS} {vs : List V} {Q : VK} {E : XK} (h : spP K T vs H Q E)
    (b : ∀ ds Φ, T ds Φ → WS K S0 ts (rhoOf Nm.length ds) { nx := fun _ => Φ .none, rt := fun d _ => Φ d }) : ts { nx := fun _ H' => Q .non H', rt := Q } (L2.start Nm vs) H := by
  obtain ⟨N, ds, Φ, ht, hd, hT, hQ⟩ := h
  exact b ds Φ hT H N [] N _ H _ (env_start ht hd) ⟨fun N' σ' H' ρ' q E' => hQ _ q _ _ (fun b o h => E'.keep b o rfl h) Dt.non, fun N' σ' H' ρ' v d q E' dv => hQ _ q _ _ (fun b o h => E'.keep b o rfl h) dv, fun _ _ _ _ q => q.elim, fun _ _ _ _ q => q.elim⟩
/-- with a store -/
theorem run_S {F : Stt → Prop} {T : Nat → List PyData → (PyData → Nat → Prop) → Prop} {Nm : List Str} {ts : TS} {vs : List V} {Q : VK} {E : XK} (h : spS K F T vs H Q E)
    (b : ∀ S B ds Φ, F S → T B ds Φ → WS K S ts (.sto B :: rhoOf (Nm.length - 1) ds) { nx := fun _ => False, rt := fun d ρ => ∃ B', ρ[0]? = some (.sto B') ∧ Φ d B' }) (hn : 0 < Nm.length) : ts { nx := fun _ H' => Q .non H', rt := Q } (L2.start Nm vs) H := by
  obtain ⟨S, N, us, ds, B, Φ, rfl, hF, hok, hle, ht, hd, hT, hQ⟩ := h
  have E0 : EnvD K S H N [] N (L2.start Nm (V.ref S.a :: us)) H (.sto B :: rhoOf (Nm.length - 1) ds) := {
    keep := fun _ _ _ h => h, base := Le.refl, trk := ht, sub := hle, hid := fun _ h => (nomatch h), injZ := fun i j di dj p h => by simp at h
    len := by have e := hd.len; simp [rhoOf, L2.start]; omega
    slot := fun i s h => by
      cases i with
      | zero =>
        have e : s = .sto B := by simpa using h.symm
        subst e
        exact ⟨start_get rfl, hok⟩
      | succ i =>
        rcases rhoOf_get (show (rhoOf (Nm.length - 1) ds)[i]? = some s by simpa using h) with e | ⟨d, e, e2⟩
        · subst e; trivial
        · subst e2
          obtain ⟨v, h1, h2⟩ := hd.get e
          exact ⟨v, start_get (by simpa using h1), h2⟩
    injH := fun i di dj p h => by
      cases i with
      | zero => simp at h
      | succ i =>
        rcases rhoOf_get (show (rhoOf (Nm.length - 1) ds)[i]? = some (.own di) by simpa using h) with e | ⟨d, _, e2⟩
        · cases e
        · cases e2
    inj := fun i j di dj p h => by
      cases i with
      | zero => simp at h
      | succ i =>
        rcases rhoOf_get (show (rhoOf (Nm.length - 1) ds)[i]? = some (.own di) by simpa using h) with e | ⟨d, _, e2⟩
        · cases e
        · cases e2 }
  refine b S B ds Φ hF hT H N [] N _ H _ E0 ⟨fun _ _ _ _ q => q.elim, fun N' σ' H' ρ' v d ⟨B', e, q⟩ E' dv => ?_, fun _ _ _ _ q => q.elim, fun _ _ _ _ q => q.elim⟩
  exact hQ _ _ q _ _ (fun b o n h => E'.keep b o n h) (E'.slot 0 _ e).2 dv
/-- a call of such a def -/
theorem wd_call {T : List PyData → (PyData → Prop) → Prop} {dvs : List V} {dds : List PyData} {E : XK} {ta : TA} (hd : ∀ H : Hp, DtAll K H dvs dds) (h : WA K S ta ρ fun xs ρ1 => T (xs ++ dds) fun d => Φ d ρ1) :
    WD K S (tCall (spP K T) dvs E ta) ρ Φ := fun H0 N0 Z N σ H E' Q q =>
  h H0 N0 Z N σ H E' _ fun vs xs ρ1 H1 f E1 k1 d1 => ⟨N, xs ++ dds, _, E1.trk, d1.append (hd _), f, fun d fd v H2 s dv => q v d ρ1 H2 fd (E1.ext s) (k1.trans (Keep.of s)) dv⟩
theorem wd_call0 {T : List PyData → (PyData → Prop) → Prop} {E : XK} {ta : TA} (h : WA K S ta ρ fun xs ρ1 => T xs fun d => Φ d ρ1) : WD K S (tCall (spP K T) [] E ta) ρ Φ :=
  wd_call (dds := []) (fun _ => DtAll.nil) (fun H0 N0 Z N σ H E' Q q => h H0 N0 Z N σ H E' Q fun vs ds ρ' H' f => q vs ds ρ' H' (by show T (ds ++ []) _; rw [List.append_nil]; exact f))
/-- by names -/
theorem wd_callN {T : List PyData → (PyData → Prop) → Prop} {n m : Nat} {gV : List V → List V → List V} {gD : List PyData → List PyData → List PyData} {E : XK} {ta tk : TA}
    (hg : ∀ (N : Av) (H : Hp) vs zs ds es, DqAll K N H vs ds → DqAll K N H zs es → DqAll K N H (gV vs zs) (gD ds es))
    (h : WA K S ta ρ fun xs ρ1 => WA K S tk ρ1 fun ys ρ2 => xs.length = n ∧ ys.length = m ∧ T (gD xs ys) fun d => Φ d ρ2) : WD K S (tCallN n m (spP K T) gV E ta tk) ρ Φ := fun H0 N0 Z N σ H E' Q q =>
  h H0 N0 Z N σ H E' _ fun vs xs ρ1 H1 f E1 k1 d1 => f H0 N0 Z N σ H1 E1 _ fun zs ys ρ2 H2 ⟨l1, l2, f2⟩ E2 k2 d2 =>
    ⟨by rw [d1.len]; exact l1, by rw [d2.len]; exact l2, N, _, _, E2.trk, hg N H2 vs zs xs ys (d1.keep k2) d2, f2, fun d fd v H3 s dv => q v d ρ2 H3 fd (E2.ext s) ((k1.trans k2).trans (Keep.of s)) dv⟩
/-- a call of a def that takes the store -/
theorem wd_callS {F : Stt → Prop} {T : Nat → List PyData → (PyData → Nat → Prop) → Prop} {E : XK} {ta : TA} {i : Nat} {B0 : Nat} (hF : F S) (hi : ρ[i]? = some (.sto B0))
    (h : WA K S ta ρ fun xs ρ1 => ∃ B, ρ1[i]? = some (.sto B) ∧ T B xs fun d B' => Φ d (stoAll B' ρ1)) : WD K S (tCall (spS K F T) [] E (tCons (tVar i) ta)) ρ Φ := fun H0 N0 Z N σ H E' Q q => by
  obtain ⟨hs, _⟩ := E'.slot i _ hi
  refine ⟨_, hs, h H0 N0 Z N σ H E' _ fun vs xs ρ1 H1 ⟨B, e, f⟩ E1 k1 d1 => ?_⟩
  obtain ⟨_, hok⟩ := E1.slot i _ e
  refine ⟨S, N, vs, xs, B, _, by simp, hF, hok, E1.sub, E1.trk, d1, f, fun d B' fd v H2 fr ok2 dv => ?_⟩
  have kk : Keep N H1 H2 := fun b o n hb => fr b o (by
    cases z : S.fp b with
    | false => rfl
    | true => rw [E1.sub b z] at n; cases n) hb
  have E2 : EnvD K S H0 N0 Z N σ H2 (stoAll B' ρ1) := {
    keep := fun b o n hb => fr b o n (E1.keep b o n hb)
    base := E1.base
    trk := fun b hb => by
      cases z : S.fp b with
      | true => exact S.trk H2 B' ok2 b z
      | false =>
        intro q2
        cases w : H1 b with
        | none => exact E1.trk b hb w
        | some o => rw [fr b o z w] at q2; cases q2
    sub := E1.sub
    len := by rw [stoAll_len]; exact E1.len
    slot := fun j s hj => by
      rcases stoAll_get hj with ⟨e1, B1, e2⟩ | ⟨e1, e2⟩
      · subst e1
        exact ⟨(E1.slot j _ e2).1, ok2⟩
      · have w := E1.slot j _ e2
        cases s with
        | unk => trivial
        | dat d => obtain ⟨u, h1, h2⟩ := w; exact ⟨u, h1, h2.keep kk⟩
        | own us => obtain ⟨p, zs, h1, h2, h3, h4, h5, h6, h7⟩ := w; exact ⟨p, zs, h1, h2, h3, h4, h5, fr _ _ h3 h6, h7.keep kk⟩
        | sto B2 => exact absurd rfl (e1 B2)
        | scr ns => obtain ⟨a, h1, h2⟩ := w; exact ⟨a, h1, kk.wo.seq h2⟩
    hid := fun z hz => by
      have w := E1.hid z hz
      cases z with
      | dat v d => exact Dq.keep w kk
      | own p us => obtain ⟨zs, h2, h3, h4, h5, h6, h7⟩ := w; exact ⟨zs, h2, h3, h4, h5, fr _ _ h3 h6, h7.keep kk⟩
    injZ := E1.injZ
    injH := fun a da dj p h1 => by
      rcases stoAll_get h1 with ⟨e1, _⟩ | ⟨_, e2⟩
      · cases e1
      · exact E1.injH a da dj p e2
    inj := fun a b da db p h1 h2 => by
      rcases stoAll_get h1 with ⟨e1, _⟩ | ⟨_, e2⟩
      · cases e1
      · rcases stoAll_get h2 with ⟨e1, _⟩ | ⟨_, e3⟩
        · cases e1
        · exact E1.inj a b da db p e2 e3 }
  exact q v d _ H2 fd E2 (k1.trans kk) dv
end
end DL

set_option Elab.async false
set_option linter.all false
set_option maxRecDepth 100000
set_option maxHeartbeats 2000000
namespace DL
open PySem PySem.Spec PyProof.Rows L2
/-- a def's promise where no text of a list is being made around the call -/
structure FnG (P : Program) (w : World) (K : PySem.W.Frag) (mg : Str → Option Value) (base : Heap) (CX : CXT) (k : Nat) (f : Addr) (fd : FuncData) (ps : List Str) (sp : Sp) : Prop where
  len : ∀ vs H Q E, sp vs H Q E → vs.length = ps.length
  run : ∀ (A : Around) (outer : List Env) (s : Shared) (H : Hp) (args : Args) (us : List Value) (vs : List V) (Q : VK) (E : XK), A.guards = some [] → Room k A → Env0 P w K mg base A outer s H →
    BindsTo s fd args (ps.zip us) → Vals vs us → sp vs H Q E → codeAny (model P w) A (.call (.ref f) args) (CR CX outer P w H s Q E) s
section
variable {P : Program} {w : World} {K : PySem.W.Frag} {mg : Str → Option Value} {base : Heap}
theorem fnG_of {CX : CXT} {k : Nat} {f : Addr} {nm ql : Str} {prm : Arguments} {bd : List Stmt} {sc : Scope} {dV kV doc pm cdv ct oc : Value} {an od : Option Addr} {osl : Array (Option Value)} {Nm ps : List Str} {sp : Sp}
    (lk : K.lookup f = some ⟨oc, od, .func (PySem.W.fnOf nm ql prm bd sc dV kV doc pm an cdv ct), osl⟩) (hcd : PySem.W.codeIn K cdv ql = true) (F : FnScope Nm ps sc) (len : ∀ vs H Q E, sp vs H Q E → vs.length = ps.length)
    (hb : ∀ (A : Around) (outer : List Env) (s : Shared) (H : Hp) (vs : List V) (Q : VK) (E : XK), A.guards = some [] → Room k (A.deeper (envOfC ql sc s.heap.objs.size f cdv)) → sp vs H Q E →
      ∃ t, PSs (cxOf CX P w K mg base Nm ql sc f cdv A outer s H E) bd t ∧ t { nx := fun _ H' => Q .non H', rt := Q } (L2.start Nm vs) H) :
    FnG P w K mg base CX (k + 1) f (PySem.W.fnOf nm ql prm bd sc dV kV doc pm an cdv ct) ps sp where
  len := len
  run A outer s H args us vs Q E hg room env bnd vals hsp := by
    have el := len vs H Q E hsp
    have inK : K.In s.heap := env.mod.kin.keeps fun b o z => (env.bs b o z).1
    have noL : s.heap.NoLimit := env.mod.nolimit.keeps fun b o z => (env.bs b o z).1
    have places : ∀ y ∈ ps.zip us, sc.names.lookup y.1 = some .local ∨ (sc.names.lookup y.1 = some .cell ∧ ((cellsFrom (s.heap.objs.size + 1) sc.names []).lookup y.1).isSome = true) := by
      rintro ⟨y, u⟩ hy
      cases F.par y (List.of_mem_zip hy).1 with
      | inl q => exact .inl q
      | inr q => exact .inr ⟨q, PySem.W.cellsFrom_some _ _ _ (.inl q)⟩
    refine codeAny_call_function room.depth (inK _ _ lk) rfl F.co F.gen rfl (PySem.W.codeRec_of inK hcd) (bnd _ _ _ _ ?_)
    refine wpAny_newFunctionEnv_cells F.kind places fun env' he s1 x => ?_
    subst he
    refine ⟨noL.keeps x.toInCall.keep, codeAny_func ?_⟩
    obtain ⟨t, ht, hq⟩ := hb A outer s H vs Q E hg (room.deeper _) hsp
    have J0 := inv_start (CX := CX) (E := E) F room.hd env el vals x
    refine wpAny_mono (ht.run [] s1 (L2.start Nm vs) H _ J0 hq) (fun fl s' hs => ?_) fun _ _ z => z
    have done : ∀ {τ : L2.St} {H' : Hp} {v : V} {u : Value}, Inv (cxOf CX P w K mg base Nm ql sc f cdv A outer s H E) [] τ H' s' → RelV v u → Q v H' → CE outer P w H s Q u s' := by
      intro τ H' v u J rv q
      exact ⟨v, H', J.os, J.bare, J.base, J.hok, rv, q⟩
    match fl, hs with
    | .ret u, ⟨v, _, H', J, rv, q⟩ => exact done J rv q
    | .next, ⟨_, H', J, q⟩ => exact done (v := V.non) (u := Value.none) J rfl q
    | .brk, ⟨_, _, _, q⟩ => exact q.elim
    | .cont, ⟨_, _, _, q⟩ => exact q.elim
/-- THE RULE for such a def -/
theorem FunD_okG {x ql : Str} {prm : Arguments} {bd : List Stmt} {sc : Scope} {dvs : List V} {kws : List (Str × V)} {f : Addr} {fd : FuncData} {CX : CXT} {Nm ps : List Str} {k : Nat} {sp : Sp} (F : FunD K x ql prm bd sc dvs kws f fd) (S : FnScope Nm ps sc) (len : ∀ vs H Q E, sp vs H Q E → vs.length = ps.length)
    (hb : ∀ (cdv : Value) (A : Around) (outer : List Env) (s : Shared) (H : Hp) (vs : List V) (Q : VK) (E : XK), A.guards = some [] → Room k (A.deeper (envOfC ql sc s.heap.objs.size f cdv)) → sp vs H Q E →
      ∃ t, PSs (cxOf CX P w K mg base Nm ql sc f cdv A outer s H E) bd t ∧ t { nx := fun _ H' => Q .non H', rt := Q } (L2.start Nm vs) H) : FnG P w K mg base CX (k + 1) f fd ps sp := by
  obtain ⟨oc, od, dV, kV, doc, pm, an, cdv, ct, osl, rfl, lk, hcd, _, _⟩ := F.ex
  exact fnG_of lk hcd S len fun A outer s H vs Q E => hb cdv A outer s H vs Q E
end
/-- the call of such a def, where no text of a list is being made -/
theorem pe_callG {X : Cx} {CX : CXT} {k : Nat} {f : Addr} {fd : FuncData} {ps : List Str} {sp : Sp} {E : XK} {x : Str} {p pos : Pos} {e : Expr} {es : List Expr} {t : TA} (F : FnG X.prog X.w X.K X.mg X.base CX k f fd ps sp) (hgd : X.A.guards = some []) (hr : Room k X.A) (hg : Gl X x) (hm : X.mg x = some (.ref f))
    (hk : PySem.W.keepIn X.K (.ref f) = true) (hb : Binds X.K fd ps []) (hx : Passes CX X E) (ha : PA X (e :: es) t) (hdb : (x == ("__debug__" : Str)) = false := by decide) (he : starEach (e :: es) X.env = (false, eval e X.env) :: starEach es X.env := by rfl)
    (hpl : (backTo pos (starEach es X.env)).any (·.1) = false := by rfl) : PE X (.Call (.Name x p) (e :: es) [] pos) (tCall sp [] E t) := by
  refine ⟨fun pins s σ H Q I h => ?_⟩
  refine wpAny_Call_Name_kw (ld_glob I hg hm ?_ hdb)
  refine PySem.W.callWith_K (h₀ := X.base) I.ok.mod.kin hk (thn (ha.run pos pins s σ H _ I h) fun us s1 ⟨vs, H1, I1, r, q⟩ => ⟨I1.kIn, ?_⟩) he hpl
  have q : sp vs H1 Q E := by
    have q' : sp (vs ++ []) H1 Q E := q
    rw [List.append_nil] at q'
    exact q'
  have hl : us.length = ps.length := r.length.symm.trans (F.len _ _ _ _ q)
  have hbd := hb s1 us I1.kIn (by rw [List.append_nil]; exact hl)
  rw [List.append_nil] at hbd
  refine wpAny_call (codeAny_mono (F.run X.A X.stack s1 H1 ⟨us, []⟩ us vs Q E hgd hr I1.env0 hbd r q) fun r s' hq => ?_)
  match r, hq with
  | .error z, hq => exact hx pins σ H1 s1 z s' I1 hq
  | .ok (.ret u), hq => exact I1.after hq
  | .ok .next, hq => exact hq.elim
  | .ok .brk, hq => exact hq.elim
  | .ok .cont, hq => exact hq.elim
/-! ### repr of data -/
def rRepr (K : PySem.W.Frag) : List V → Hp → VK → Prop := fun xs H Q => ∃ x d, xs = [x] ∧ Dp K H x d ∧ (∃ a, x = .ref a) ∧ d.showable = true ∧ d.hasDict = false ∧ d.shown.length ≤ sizeLine ∧ d.depth ≤ 50 ∧ Q (.str d.shown) H
theorem call_repr_data {X : Cx} (hgd : X.A.guards = some []) (hu : X.A.units + 64 < cLine) : CallR X (.builtin "repr") (rRepr X.K) := by
  intro pins s σ H xs us Q I r h
  obtain ⟨x, d, rfl, hd, ⟨a, rfl⟩, h1, h2, h3, h4, q⟩ := h
  obtain ⟨u, rfl, ru⟩ := vals1 r
  cases ru
  obtain ⟨as, rd⟩ := Dp.reads I d _ _ hd rfl
  refine repr_of_reads' rd h1 (fun z => by rw [h2] at z; cases z) hgd (by omega) (fun b o e => e) (fun h' u tk hk => ?_) h3
  exact ⟨.str d.shown, H, I.kept (t' := tk) hk, ⟨u, rfl⟩, q⟩
theorem dc_repr {K : PySem.W.Frag} {d : PyData} {Ψ : PyData → Prop} (hl : (∃ ds, d = .list ds) ∨ ∃ ds, d = .tuple ds) (h1 : d.showable = true) (h2 : d.hasDict = false) (h3 : d.shown.length ≤ sizeLine) (h4 : d.depth ≤ 50) (h : Ψ (.str d.shown)) : DC K (rRepr K) [d] Ψ := fun N H _ us hu Q q => by
  cases hu with
  | cons a1 a2 =>
    cases a2
    have hr : ∀ {v : V}, Dq K N H v d → ∃ a, v = .ref a := fun {v} hv => by
      rcases hl with ⟨ds, rfl⟩ | ⟨ds, rfl⟩
      · obtain ⟨p, _, e, _⟩ := hv.lst_inv; exact ⟨p, e⟩
      · obtain ⟨p, _, e, _⟩ := hv.tup_inv; exact ⟨p, e⟩
    exact ⟨_, d, rfl, Dq.dp a1 h2, hr a1, h1, h2, h3, h4, q _ _ H h (Same.refl H) (Dt.str _)⟩
/-! ### the law's own call -/
section
variable {P : Program} {w : World} {K : PySem.W.Frag} {mg mb : Str → Option Value} {CX : CXT} {k : Nat} {fa a : Addr} {fd : FuncData} {x : Str} {sp : Sp} {s₁ : Shared} {vs : List Value} {ns : List Int}
/-- from an abstract heap that tells the script alone -/
theorem lawG_core (KX : K.In s₁.heap) (hns : s₁.heap.Ns mainGlobals mg) (hb : s₁.heap.Ns builtinsNs mb) (hbb : ∀ x : Str, x ≠ "__name__" → mb x = bootBuiltins x) (hlim : s₁.heap.NoLimit) (hg : s₁.gens = #[])
    (ha : s₁.heap.get? a = some { cls := .type "list", data := .seq vs.toArray }) (hr : Room k callerA)
    (F : ∀ base : Heap, K.In base → base.Ns mainGlobals mg → FnG P w K mg base CX k fa fd [x] sp) (hbind : ∀ (s : Shared) (u : Value), BindsTo s fd ⟨[u], []⟩ [(x, u)])
    (hCX : ∀ H e s', CX [] H s₁ (fun _ _ _ => False) e s' → False) (H : Hp) (hO : Only H) (hsp : sp [.ref a] H (fun v _ => v = .bl true) fun _ _ _ => False) (hok : HOk P w H s₁.heap) (hA : ∀ b u, H b = some u → b = a) (hK : ∀ u, H a = some u → K.lookup a = none) :
    codeAny (model P w) callerA (.call (.ref fa) ⟨[.ref a], []⟩) (fun r s' => r = .ok (.ret (.bool true)) ∧ OldK s₁.heap s'.heap ∧ s'.os = s₁.os ∧ AllBare s'.gens) s₁ := by
  have dictFree : ∀ {c : Addr} {o : Obj} {es : Array DictEntry} {m : Nat}, s₁.heap.get? c = some o → o.data = .dict es m → H c = none := by
    intro c o es m hc hd
    match hq : H c with
    | none => rfl
    | some u =>
      obtain rfl := hA c u hq
      rw [ha] at hc
      cases hc
      exact absurd hd (fun z => nomatch z)
  have nsH : ∀ {c : Addr} {m : Str → Option Value}, s₁.heap.Ns c m → (hidT s₁.heap H).Ns c m := by
    rintro c m ⟨o, es, ep, e, d, r⟩
    exact ⟨o, es, ep, hidT_get e (dictFree e d), d, r⟩
  have inH : K.In (hidT s₁.heap H) := by
    intro c o hc
    refine hidT_get (KX c o hc) ?_
    match hq : H c with
    | none => rfl
    | some u =>
      obtain rfl := hA c u hq
      rw [hK u hq] at hc
      cases hc
  obtain ⟨mc, m1, m2⟩ := hlim
  have md : Mod K mg (hidT s₁.heap H) := ⟨inH, nsH hns, ⟨mb, nsH hb, hbb⟩, ⟨mc, nsH m1, m2⟩⟩
  have noF : ∀ {c : Addr}, c ∉ frs ([] : List Env) := fun z => by cases z
  have env : Env0 P w K mg (hidT s₁.heap H) callerA [] s₁ H := ⟨rfl, md, fun c o e => of_hidT e, Nat.le_of_eq (hidT_size _ _), trivial, fun c hc => absurd hc noF, hok, .of_eq hg⟩
  refine codeAny_mono ((F _ inH (nsH hns)).run callerA [] s₁ H ⟨[.ref a], []⟩ [.ref a] [.ref a] _ _ rfl hr env (hbind s₁ (.ref a)) (.cons rfl .nil) hsp) fun r s' hr' => ?_
  match r, hr' with
  | .error e, z => exact (hCX H e s' z).elim
  | .ok .next, z => exact z.elim
  | .ok .brk, z => exact z.elim
  | .ok .cont, z => exact z.elim
  | .ok (.ret u), ⟨v, H', os, bare, un, hok', rv, q⟩ =>
    have q' : v = .bl true := q
    subst q'
    obtain rfl : u = Value.bool true := rv
    refine ⟨rfl, OldK.of_keep fun c o e => ?_, os, bare⟩
    match hq : H c with
    | none => exact un.keep c o e hq noF (by simp)
    | some u =>
      rcases hO c with z | ⟨ob, xs, z⟩
      · rw [hq] at z; cases z
      · have z2 := un.frzs c ob _ z
        have e1 := (hok c _ z).1
        have e2 := (hok' c _ z2).1
        rw [e] at e1
        cases e1
        exact e2
theorem lawG_call (KX : K.In s₁.heap) (hns : s₁.heap.Ns mainGlobals mg) (hb : s₁.heap.Ns builtinsNs mb) (hbb : ∀ x : Str, x ≠ "__name__" → mb x = bootBuiltins x) (hlim : s₁.heap.NoLimit) (hg : s₁.gens = #[])
    (ha : s₁.heap.get? a = some { cls := .type "list", data := .seq vs.toArray }) (hi : IntsAre vs ns) (hl : ns.length ≤ sizeLine) (hr : Room k callerA)
    (F : ∀ base : Heap, K.In base → base.Ns mainGlobals mg → FnG P w K mg base CX k fa fd [x] sp) (hbind : ∀ (s : Shared) (u : Value), BindsTo s fd ⟨[u], []⟩ [(x, u)])
    (hsp : ∀ H : Hp, Only H → SqL K H a (ns.map V.int) → sp [.ref a] H (fun v _ => v = .bl true) fun _ _ _ => False)
    (hCX : ∀ H e s', CX [] H s₁ (fun _ _ _ => False) e s' → False) :
    codeAny (model P w) callerA (.call (.ref fa) ⟨[.ref a], []⟩) (fun r s' => r = .ok (.ret (.bool true)) ∧ OldK s₁.heap s'.heap ∧ s'.os = s₁.os ∧ AllBare s'.gens) s₁ := by
  have rv := vals_ints hi
  have hlv : vs.length ≤ sizeLine := by rw [hi.length]; exact hl
  match hk : K.lookup a with
  | some o =>
    have e := KX a o hk
    rw [ha] at e
    cases e
    have hO : Only (fun _ => none) := fun _ => .inl rfl
    refine lawG_core KX hns hb hbb hlim hg ha hr F hbind hCX (fun _ => none) hO (hsp _ hO (.inr ⟨_, vs.toArray, _, hk, rfl, rfl, rfl, by simpa using hlv, by simpa using rv⟩)) (fun _ _ z => nomatch z) (fun _ _ z => nomatch z) fun _ z => nomatch z
  | none =>
    let lst : Obj := { cls := .type "list", data := .seq vs.toArray }
    have at_a : (fun b => if b = a then some (HO.frz lst (.lst (ns.map V.int))) else none : Hp) a = some (.frz lst (.lst (ns.map V.int))) := if_pos rfl
    have only_a : ∀ b u, (fun b => if b = a then some (HO.frz lst (.lst (ns.map V.int))) else none : Hp) b = some u → b = a := fun b u z => Decidable.byContradiction fun q => by
      have z' : (none : Option HO) = some u := (if_neg q).symm.trans z
      cases z'
    have hO : Only (fun b => if b = a then some (HO.frz lst (.lst (ns.map V.int))) else none : Hp) := fun b => by
      by_cases q : b = a
      · exact .inr ⟨_, _, if_pos q⟩
      · exact .inl (if_neg q)
    refine lawG_core KX hns hb hbb hlim hg ha hr F hbind hCX _ hO (hsp _ hO (.inl (.inr ⟨lst, at_a⟩))) (fun b u z => ?_) only_a fun _ _ => hk
    obtain rfl := only_a b u z
    have z' : some (HO.frz lst (.lst (ns.map V.int))) = some u := at_a.symm.trans z
    cases z'
    exact ⟨ha, by rw [List.length_map]; exact hl, vs, _, rv, ha⟩
end
/-- the goal behind the head -/
theorem walk_ofG {l : PySem.W.OpenLaw} {n k : Nat} {q : Program} {loose : List Str} {XP : (Str → Option Value) → Heap → Prop} {YP : World → Heap → Prop} {d : DefRec} {CX : CXT} {x : Str}
    (hn : l.most = some n) (hn2 : n ≤ sizeLine) (hdf : d.params.defaults = []) (hr : Room k callerA)
    (F : ∀ (w : World) (mg : Str → Option Value) (fa : Addr) (h : Heap), YP w h → h.Ns mainGlobals mg → mg d.name = some (.ref fa) →
      ∃ (K : PySem.W.Frag) (fd : FuncData) (sp : Sp), K.In h ∧ (∀ (s : Shared) (u : Value), BindsTo s fd ⟨[u], []⟩ [(x, u)]) ∧
        (∀ (H : Hp) (a : Addr) (ns : List Int), ns.length ≤ n → Only H → SqL K H a (ns.map V.int) → sp [.ref a] H (fun v _ => v = .bl true) fun _ _ _ => False) ∧
        ∀ base : Heap, K.In base → base.Ns mainGlobals mg → FnG l.prog w K mg base CX k fa fd [x] sp)
    (hCX : ∀ (H : Hp) (s : Shared) (e : Value) (s' : Shared), CX [] H s (fun _ _ _ => False) e s' → False) : PySem.W.WalkO q loose XP YP l.row.toRowW d [] (fun f vs => PySem.call f vs) :=
  Att.attach_call hn hdf fun w s₀ s₁ mg mb fa o pm cd doc a vs ns G Y _ _ _ hmg hobj hints hlen hg =>
    let ⟨_, _, _, KX, hbd, hsp, hF⟩ := F w mg fa _ Y G.T.g hmg
    lawG_call KX G.T.g G.T.b G.T.builtins G.T.nolimit hg hobj hints (Nat.le_trans hlen hn2) hr hF hbd (fun H hO hS => hsp H a ns hlen hO hS) fun H e s' => hCX H s₁ e s'
end DL

set_option Elab.async false
set_option linter.all false
set_option maxRecDepth 100000
set_option maxHeartbeats 2000000
namespace DL
open PySem PySem.Spec PyProof.Rows L2
/-- a def of the text and its promise, as a caller wants them -/
structure Has (P : Program) (w : World) (K : PySem.W.Frag) (mg : Str → Option Value) (base : Heap) (CX : CXT) (x : Str) (k : Nat) (ps : List Str) (sp : Sp) (dvs : List V) : Prop where
  ex : ∃ (f : Addr) (fd : FuncData) (ds : List Value), FnOk P w K mg base CX k f fd ps sp ∧ mg x = some (.ref f) ∧ PySem.W.keepIn K (.ref f) = true ∧ Binds K fd ps ds ∧ Vals dvs ds
structure HasG (P : Program) (w : World) (K : PySem.W.Frag) (mg : Str → Option Value) (base : Heap) (CX : CXT) (x : Str) (k : Nat) (ps : List Str) (sp : Sp) : Prop where
  ex : ∃ (f : Addr) (fd : FuncData), FnG P w K mg base CX k f fd ps sp ∧ mg x = some (.ref f) ∧ PySem.W.keepIn K (.ref f) = true ∧ Binds K fd ps []
/-- .. by names: n places, then the names ks -/
structure HasK (P : Program) (w : World) (K : PySem.W.Frag) (mg : Str → Option Value) (base : Heap) (CX : CXT) (x : Str) (k : Nat) (ps : List Str) (sp : Sp) (n : Nat) (ks : List Str) (gV : List V → List V → List V) : Prop where
  ex : ∃ (f : Addr) (fd : FuncData) (g : List Value → List Value → List Value), FnOk P w K mg base CX k f fd ps sp ∧ mg x = some (.ref f) ∧ PySem.W.keepIn K (.ref f) = true ∧ KBn K fd ps n ks g gV
section
variable {X : Cx} {CX : CXT} {k : Nat} {ps ks : List Str} {sp : Sp} {E : XK} {x : Str} {p pos : Pos} {e : Expr} {es : List Expr} {kws : List Keyword} {t tk : TA} {dvs : List V} {n : Nat} {gV : List V → List V → List V}
theorem pe_has (h : Has X.prog X.w X.K X.mg X.base CX x k ps sp dvs) (hr : Room k X.A) (hx : Passes CX X E) (ha : PA X (e :: es) t) (hg : Gl X x := by rfl) (hdb : (x == ("__debug__" : Str)) = false := by decide)
    (he : starEach (e :: es) X.env = (false, eval e X.env) :: starEach es X.env := by rfl) (hpl : (backTo pos (starEach es X.env)).any (·.1) = false := by rfl) : PE X (.Call (.Name x p) (e :: es) [] pos) (tCall sp dvs E t) := by
  obtain ⟨f, fd, ds, F, hm, hk, hb, hd⟩ := h.ex
  exact pe_call F hr hg hm hk hb hd hx ha hdb he hpl
theorem pe_hasG (h : HasG X.prog X.w X.K X.mg X.base CX x k ps sp) (hgd : X.A.guards = some []) (hr : Room k X.A) (hx : Passes CX X E) (ha : PA X (e :: es) t) (hg : Gl X x := by rfl) (hdb : (x == ("__debug__" : Str)) = false := by decide)
    (he : starEach (e :: es) X.env = (false, eval e X.env) :: starEach es X.env := by rfl) (hpl : (backTo pos (starEach es X.env)).any (·.1) = false := by rfl) : PE X (.Call (.Name x p) (e :: es) [] pos) (tCall sp [] E t) := by
  obtain ⟨f, fd, F, hm, hk, hb⟩ := h.ex
  exact pe_callG F hgd hr hg hm hk hb hx ha hdb he hpl
theorem pe_hasK0 (h : HasK X.prog X.w X.K X.mg X.base CX x k ps sp 0 ks gV) (hr : Room k X.A) (hx : Passes CX X E) (hkw : PK X kws tk) (hg : Gl X x := by rfl) (hall : (backToKw pos (keywordEach kws X.env)).all (·.1.isSome) = true := by rfl)
    (hks : (backToKw pos (keywordEach kws X.env)).filterMap (·.1) = ks := by rfl) (hdb : (x == ("__debug__" : Str)) = false := by decide)
    (hpl : ((backTo pos (starEach [] X.env)).any (·.1) || (backToKw pos (keywordEach kws X.env)).any (·.1.isNone)) = false := by rfl) : PE X (.Call (.Name x p) [] kws pos) (tCallN 0 ks.length sp gV E tNil tk) := by
  obtain ⟨f, fd, g, F, hm, hk, hb⟩ := h.ex
  refine ⟨fun pins s σ H Q I h => ?_⟩
  refine wpAny_Call_Name_kw (ld_glob I hg hm ?_ hdb)
  refine PySem.W.callWith_KW0 (h₀ := X.base) I.ok.mod.kin hk hall (thn (hkw.run pos pins s σ H _ I h) fun ws s2 ⟨zs, H2, I2, rz, _, l2, q2⟩ => ⟨I2.kIn, ?_⟩) hpl
  rw [hks]
  exact run_fnN (us := []) F hr hb hx I2 .nil rz rfl l2 q2
/-- // by any divisor but nought, below 2 ^ 9000 -/
def CDivX (_ j : Int) : Prop := j ≠ 0 ∧ j.natAbs.log2 < 9000
theorem op_fdivX {X : Cx} : OpR X (binaryOp .FloorDiv) (rI CDivX fun i j => .int (i.fdiv j)) := opI fun i j _ _ _ _ _ hc q => floordiv_int hc.1 q (.inl (PyProof.noPylong_of_log2 hc.2))
end
end DL

set_option Elab.async false
set_option linter.all false
set_option maxRecDepth 100000
set_option maxHeartbeats 2000000
/-! DLC: what the laws' own helpers do: the store of draws -/
namespace DL
open PySem PySem.Spec PyProof.Rows L2
abbrev rAddI : R2 := rI0 fun i j => .int (i + j)
abbrev rSubI : R2 := rI0 fun i j => .int (i - j)
abbrev rMulI : R2 := rI CMulW fun i j => .int (i * j)
abbrev rDivI : R2 := rI CDivX fun i j => .int (i.fdiv j)
abbrev rModI : R2 := rI (fun _ j => j ≠ 0) fun i j => .int (i.fmod j)
abbrev rPowI : R2 := rI CPow fun i j => .int (i ^ j.toNat)
abbrev rLt : R2 := rI0 fun i j => .bl (decide (i < j))
abbrev rLe : R2 := rI0 fun i j => .bl (decide (i ≤ j))
abbrev rGt : R2 := rI0 fun i j => .bl (decide (j < i))
abbrev rGe : R2 := rI0 fun i j => .bl (decide (j ≤ i))
abbrev rNegI : V → Hp → VK → Prop := rU fun i => .int (-i)
abbrev rLenX (K : PySem.W.Frag) : List V → Hp → VK → Prop := fun xs H Q => ∃ p ys, xs = [.ref p] ∧ (SqL K H p ys ∨ SqT K H p ys) ∧ Q (.int ys.length) H
abbrev rAbsX : List V → Hp → VK → Prop := fun xs H Q => ∃ i, xs = [.int i] ∧ Q (.int (if i < 0 then -i else i)) H
abbrev rMinX : List V → Hp → VK → Prop := fun xs H Q => ∃ i j, xs = [.int i, .int j] ∧ Q (.int (if j < i then j else i)) H
abbrev rMaxX : List V → Hp → VK → Prop := fun xs H Q => ∃ i j, xs = [.int i, .int j] ∧ Q (.int (if j > i then j else i)) H
abbrev rStrI : List V → Hp → VK → Prop := fun xs H Q => ∃ i, xs = [.int i] ∧ i.natAbs.log2 < 1920 ∧ Q (.str (toString i)) H
abbrev rLenS : List V → Hp → VK → Prop := fun xs H Q => ∃ z : Str, xs = [.str z] ∧ z.length ≤ sizeLine ∧ Q (.int z.length) H

/-! ### the store -/
structure StoOk (a ga la : Addr) (H : Hp) (B : Nat) : Prop where
  ne1 : a ≠ ga
  ne2 : a ≠ la
  ne3 : ga ≠ la
  ex : ∃ (g l : List Int) (b s : Int), H a = some (.lst [.ref ga, .int b, .int s, .ref la]) ∧ H ga = some (.lst (g.map V.int)) ∧ H la = some (.lst (l.map V.int)) ∧
    g.length ≤ 63 ∧ l ≠ [] ∧ l.length ≤ 64 ∧ (∀ x ∈ l, 0 ≤ x ∧ x < 10 ^ 18) ∧ 0 ≤ b ∧ b < 2147483587 ∧ 0 ≤ s ∧ s ≤ B
def mkS (a ga la : Addr) : Stt where
  a := a
  fp b := decide (b = a) || decide (b = ga) || decide (b = la)
  ok := StoOk a ga la
  loc H H' B h k := by
    obtain ⟨h1, h2, h3, g, l, b, s, ha, hg, hl, r⟩ := k
    exact ⟨h1, h2, h3, g, l, b, s, (h a (by simp)).trans ha, (h ga (by simp)).trans hg, (h la (by simp)).trans hl, r⟩
  trk H B k b hb := by
    obtain ⟨h1, h2, h3, g, l, b', s, ha, hg, hl, r⟩ := k
    simp at hb
    rcases hb with (e | e) | e
    · rw [e, ha]; simp
    · rw [e, hg]; simp
    · rw [e, hl]; simp
def FSto (S : Stt) : Prop := ∃ a ga la, S = mkS a ga la
/-- a draw below m: any -/
def TDraw (c : Nat) (M : Int) (L : Nat) : Nat → List PyData → (PyData → Nat → Prop) → Prop := fun B ds Φ => ∃ m : Int, ds = [.int m] ∧ 1 ≤ m ∧ m ≤ M ∧ B ≤ L ∧ ∀ d : Int, 0 ≤ d → d < m → Φ (.int d) (B + c)
/-- the reading of the draw, sp: its own promise one level lower -/
def t_draw (K : PySem.W.Frag) (sp : Sp) : TS :=
  (tSeq (tWhile (tAnd (tTest (tOp (rNeD K) (tOp (rIxL K) (tVar 0) (tC (.int 0))) (tLst tNil))) (tTest (tOp rEq (tOp (rIxL K) (tOp (rIxL K) (tVar 0) (tC (.int 0))) (tC (.int 0))) (tC (.int 0))))) (tDrop (tBM K "list" rPopAt (tOp (rIxL K) (tVar 0) (tC (.int 0))) (tCons (tC (.int 0)) tNil))))
    (tSeq (tIfS (tTest (tOp (rNeD K) (tOp (rIxL K) (tVar 0) (tC (.int 0))) (tLst tNil))) (tSeq (tAsg (tOp rModI (tOp (rIxL K) (tOp (rIxL K) (tVar 0) (tC (.int 0))) (tC (.int 0))) (tVar 1)) (gName 2))
    (tSeq (tAsg (tOp rDivI (tOp (rIxL K) (tOp (rIxL K) (tVar 0) (tC (.int 0))) (tC (.int 0))) (tVar 1)) (gSub (tOp (rIxL K) (tVar 0) (tC (.int 0))) (tC (.int 0)) rSetL))
    (tRet (tVar 2)))) tNext)
    (tSeq (tIfS (tTest (tOp rGt (tVar 1) (tOp rPowI (tC (.int 10)) (tC (.int 6))))) (tSeq (tAsg (tC (.int 0)) (gName 3))
    (tSeq (tFor (iRng1 (tCons (tOp rAddI (tC (.int 1)) (tOp rDivI (tCB rLenS (tCons (tCB rStrI (tCons (tVar 1) tNil)) tNil)) (tC (.int 6)))) tNil)) (gName 4) (tAsg (tOp rAddI (tOp rMulI (tVar 3) (tOp rPowI (tC (.int 10)) (tC (.int 6)))) (tCall sp [] E0 (tCons (tVar 0) (tCons (tOp rPowI (tC (.int 10)) (tC (.int 6))) tNil)))) (gName 3)))
    (tRet (tOp rModI (tVar 3) (tVar 1))))) tNext)
    (tSeq (tAsg (tOp rAddI (tOp (rIxL K) (tVar 0) (tC (.int 2))) (tC (.int 1))) (gName 5))
    (tSeq (tAsg (tVar 5) (gSub (tVar 0) (tC (.int 2)) rSetL))
    (tSeq (tAsg (tLst (tCons (tC (.int 2147483563)) (tCons (tC (.int 2147483549)) (tCons (tC (.int 2147483543)) (tCons (tC (.int 2147483497)) (tCons (tC (.int 2147483489)) tNil)))))) (gName 6))
    (tSeq (tAsg (tOp (rIxL K) (tOp (rIxL K) (tVar 0) (tC (.int 3))) (tOp rModI (tVar 5) (tCB (rLenX K) (tCons (tOp (rIxL K) (tVar 0) (tC (.int 3))) tNil)))) (gName 7))
    (tSeq (tAsg (tOp rModI (tOp rPowI (tOp rAddI (tOp rAddI (tOp rAddI (tOp (rIxL K) (tVar 0) (tC (.int 1))) (tVar 7)) (tOp rMulI (tC (.int 104729)) (tVar 5))) (tC (.int 13))) (tC (.int 3))) (tOp (rIxL K) (tVar 6) (tOp rModI (tVar 5) (tC (.int 5))))) (gName 8))
    (tSeq (tAsg (tOp rAddI (tOp rAddI (tOp rMulI (tVar 8) (tVar 8)) (tOp rModI (tOp (rIxL K) (tVar 0) (tC (.int 1))) (tC (.int 1000003)))) (tVar 5)) (gName 9))
    (tRet (tOp rModI (tOp rDivI (tOp rModI (tOp rPowI (tVar 9) (tC (.int 5))) (tOp (rIxL K) (tVar 6) (tOp rModI (tOp rAddI (tVar 5) (tC (.int 2))) (tC (.int 5))))) (tC (.int 16))) (tVar 1))))))))))))

end DL

set_option Elab.async false
set_option linter.all false
set_option maxRecDepth 100000
set_option maxHeartbeats 4000000
namespace DL
open PySem PySem.Spec PyProof.Rows L2
/-- the store's three lists, told -/
structure Sto5 (a ga la : Addr) (g l : List Int) (b s : Int) (H : Hp) : Prop where
  ha : H a = some (.lst [.ref ga, .int b, .int s, .ref la])
  hg : H ga = some (.lst (g.map V.int))
  hl : H la = some (.lst (l.map V.int))
def FrS (a ga la : Addr) (H H' : Hp) : Prop := ∀ x o, x ≠ a → x ≠ ga → x ≠ la → H x = some o → H' x = some o
section
variable {K : PySem.W.Frag} {a ga la : Addr} {g l : List Int} {b s : Int} {H : Hp} {σ : L2.St}
end
theorem log2_small {m : Int} {k : Nat} (h0 : 0 ≤ m) (h : m < 2 ^ k) (hk : 0 < k) : m.natAbs.log2 < k := PySem.Flt.log2_lt_of hk (by have e : ((2 ^ k : Nat) : Int) = (2 : Int) ^ k := Int.natCast_pow 2 k; omega)
theorem fmod_nn {i j : Int} (hj : 0 < j) : 0 ≤ i.fmod j ∧ i.fmod j < j := ⟨Int.fmod_nonneg_of_pos i hj, Int.fmod_lt_of_pos i hj⟩
theorem fdiv_nn {i j : Int} (hi : 0 ≤ i) (hj : 0 < j) : 0 ≤ i.fdiv j := Int.fdiv_nonneg hi (by omega)
end DL

set_option Elab.async false
set_option linter.all false
set_option maxRecDepth 100000
set_option maxHeartbeats 4000000
namespace DL
open PySem PySem.Spec PyProof.Rows L2
/-! ### steps by name -/
section
variable {K : PySem.W.Frag} {S : Stt} {ρ : Rho} {Φ : PyData → Rho → Prop} {Ψ : PyData → Prop}
theorem do_mul {i j : Int} (c : CMulW i j) (h : Ψ (.int (i * j))) : DO K rMulI (.int i) (.int j) Ψ := do_ic c h
theorem do_mod {i j : Int} (c : j ≠ 0) (h : Ψ (.int (i.fmod j))) : DO K rModI (.int i) (.int j) Ψ := do_ic (C := fun _ j => j ≠ 0) c h
theorem do_div {i j : Int} (c : CDivX i j) (h : Ψ (.int (i.fdiv j))) : DO K rDivI (.int i) (.int j) Ψ := do_ic c h
theorem do_pow {i j : Int} (c : CPow i j) (h : Ψ (.int (i ^ j.toNat))) : DO K rPowI (.int i) (.int j) Ψ := do_ic c h
theorem do_add {i j : Int} (h : Ψ (.int (i + j))) : DO K rAddI (.int i) (.int j) Ψ := do_ii h
theorem do_sub {i j : Int} (h : Ψ (.int (i - j))) : DO K rSubI (.int i) (.int j) Ψ := do_ii h
theorem do_lt {i j : Int} (h : Ψ (.bool (decide (i < j)))) : DO K rLt (.int i) (.int j) Ψ := do_ib (f := fun i j => decide (i < j)) h
theorem do_le {i j : Int} (h : Ψ (.bool (decide (i ≤ j)))) : DO K rLe (.int i) (.int j) Ψ := do_ib (f := fun i j => decide (i ≤ j)) h
theorem do_gt {i j : Int} (h : Ψ (.bool (decide (j < i)))) : DO K rGt (.int i) (.int j) Ψ := do_ib (f := fun i j => decide (j < i)) h
theorem do_ge {i j : Int} (h : Ψ (.bool (decide (j ≤ i)))) : DO K rGe (.int i) (.int j) Ψ := do_ib (f := fun i j => decide (j ≤ i)) h
theorem du_neg {i : Int} (h : Ψ (.int (-i))) : DU K rNegI (.int i) Ψ := du_i (f := fun i => -i) h
theorem dc_abs {i : Int} (h : Ψ (.int (i.natAbs : Nat))) : DC K rAbsX [.int i] Ψ := dc_i1 (f := fun i => if i < 0 then -i else i) (by
  have e : (if i < 0 then -i else i) = ((i.natAbs : Nat) : Int) := by split <;> omega
  show Ψ (.int (if i < 0 then -i else i))
  rw [e]; exact h)
theorem dc_min {i j : Int} (h : Ψ (.int (if j < i then j else i))) : DC K rMinX [.int i, .int j] Ψ := dc_i2 (f := fun i j => if j < i then j else i) h
theorem dc_lenL {ds : List PyData} (h : Ψ (.int ds.length)) : DC K (rLenX K) [.list ds] Ψ := dc_len_l h
theorem dc_lenT {ds : List PyData} (h : Ψ (.int ds.length)) : DC K (rLenX K) [.tuple ds] Ψ := dc_len_t h
/-- the cases of an answered test -/
theorem if_b {c : Prop} [Decidable c] {A B : Prop} (h1 : c → A) (h2 : ¬ c → B) : if decide c = true then A else B := by
  by_cases h : c
  · rw [if_pos (decide_eq_true h)]; exact h1 h
  · rw [if_neg (fun z => h (of_decide_eq_true z))]; exact h2 h
theorem if_t {A B : Prop} (h : A) : if true = true then A else B := by rw [if_pos rfl]; exact h
theorem if_f {A B : Prop} (h : B) : if false = true then A else B := by rw [if_neg Bool.false_ne_true]; exact h
theorem if_nf {A B : Prop} (h : A) : if (!false) = true then A else B := if_t h
theorem if_nt {A B : Prop} (h : B) : if (!true) = true then A else B := if_f h
theorem if_n {c : Prop} [Decidable c] {A B : Prop} (h1 : ¬ c → A) (h2 : c → B) : if (!decide c) = true then A else B := by
  by_cases h : c
  · rw [decide_eq_true h]; exact if_f (h2 h)
  · rw [decide_eq_false h]; exact if_t (h1 h)
end
end DL

set_option Elab.async false
set_option linter.all false
set_option maxRecDepth 100000
set_option maxHeartbeats 4000000
namespace DL
open PySem PySem.Spec PyProof.Rows L2
local macro_rules | `(tactic| walk_at "dl") => `(tactic| repeat' (first
  | with_reducible refine wd_op ?_ | with_reducible refine wd_cb ?_ | with_reducible refine wd_un ?_ | with_reducible refine wa_cons ?_ | with_reducible refine wa_nil ?_ | ((with_reducible show WD _ _ (tVar _) _ _); refine wd_var rfl ?_) | with_reducible refine wd_int ?_ | with_reducible refine wd_bl ?_ | with_reducible refine wd_str ?_ | with_reducible refine wd_non ?_
  | with_reducible refine do_add ?_ | with_reducible refine do_sub ?_ | ((with_reducible refine do_mod ?_ ?_); decide) | with_reducible refine do_mod ?_ ?_ | with_reducible refine do_mul ?_ ?_ | ((with_reducible refine do_div ?_ ?_); exact ⟨by decide, by decide⟩) | with_reducible refine do_div ?_ ?_ | ((with_reducible refine do_pow ?_ ?_); exact ⟨by decide, by decide, by decide⟩) | with_reducible refine do_pow ?_ ?_
  | with_reducible refine do_lt ?_ | with_reducible refine do_le ?_ | with_reducible refine do_gt ?_ | with_reducible refine do_ge ?_ | with_reducible refine du_neg ?_
  | with_reducible refine do_eqi ?_ | with_reducible refine do_nei ?_ | with_reducible refine do_eqs ?_ | with_reducible refine do_nes ?_ | with_reducible refine dc_abs ?_ | with_reducible refine dc_min ?_ | with_reducible refine dc_max ?_ | with_reducible refine dc_lenL ?_ | with_reducible refine dc_lenT ?_ | with_reducible refine dc_gcd ?_
  | ((with_reducible show DO _ (rIxT _) _ _ _); refine do_ixT rfl ?_) | ((with_reducible show DO _ (rIxL _) _ _ _); refine do_ixL rfl ?_) | with_reducible refine do_catL ?_ ?_
  | with_reducible refine wd_tup ?_ | with_reducible refine wd_lst ?_ | with_reducible refine wt_test ?_ | with_reducible refine wt_B ?_ | with_reducible refine wt_not ?_ | with_reducible refine wt_and ?_ | with_reducible refine wt_or ?_ | with_reducible refine wd_ifE ?_ | with_reducible refine wd_andV ?_ | with_reducible refine wd_orV ?_ | with_reducible refine wd_notV ?_
  | with_reducible refine ws_seq ?_ | with_reducible refine ws_next ?_ | with_reducible refine ws_asg ?_ | with_reducible refine ws_ret ?_ | with_reducible refine ws_retN ?_ | with_reducible refine ws_if ?_ | with_reducible refine ws_par ?_ | with_reducible refine ws_unp2 ?_
  | with_reducible refine if_t ?_ | with_reducible refine if_f ?_
  | ((with_reducible show Exists _); first | refine ⟨_, rfl, ?_⟩ | refine ⟨_, _, rfl, ?_⟩ | fail) | fail))
def spMk (K : PySem.W.Frag) : Sp := fun vs H Q _ => ∃ (a0 : Addr) (ns : List Int), vs = [.ref a0] ∧ SqL K H a0 (ns.map V.int) ∧ ns.length ≤ 63 ∧
  ∀ S H', FSto S → S.ok H' 0 → (∀ b, S.fp b = true → H b = none) → Same H H' → Q (.ref S.a) H'
def t_s1 (K : PySem.W.Frag) : TS := (tAsg (tC (.int 271)) (gName 1))
def t_s2 (K : PySem.W.Frag) : TS := (tFor (iEnum K (tCons (tSl (rSlL K) (tVar 0) tNoPart (tPart (tC (.int 63)))) tNil)) (gTup K 2 (gCons (gName 2) (gCons (gName 3) gNil))) (tAsg (tOp rModI (tOp rAddI (tOp rAddI (tOp rMulI (tVar 1) (tVar 1)) (tOp rModI (tVar 3) (tC (.int 2147483629)))) (tOp rMulI (tC (.int 40009)) (tVar 2))) (tC (.int 2147483587))) (gName 1)))
def t_s3 (K : PySem.W.Frag) : TS := (tAsg (tLc (iList K (tSl (rSlL K) (tVar 0) tNoPart (tPart (tC (.int 63))))) (gName 3) (tTest (tOp rGe (tCB rAbsX (tCons (tVar 3) tNil)) (tOp rPowI (tC (.int 10)) (tC (.int 18))))) (tCB rAbsX (tCons (tVar 3) tNil)) [3]) (gName 4))
def t_s4 (K : PySem.W.Frag) : TS := (tAsg (tLc (iList K (tSl (rSlL K) (tVar 0) tNoPart (tPart (tC (.int 63))))) (gName 3) (tTest (tOp rLt (tCB rAbsX (tCons (tVar 3) tNil)) (tOp rPowI (tC (.int 10)) (tC (.int 18))))) (tCB rAbsX (tCons (tVar 3) tNil)) [3]) (gName 5))
def t_s5 (K : PySem.W.Frag) : TS := (tRet (tLst (tCons (tVar 4) (tCons (tVar 1) (tCons (tC (.int 0)) (tCons (tOp rCatL (tVar 5) (tLst (tCons (tC (.int 17)) tNil))) tNil))))))
def t_store (K : PySem.W.Frag) : TS := tSeq (t_s1 K) (tSeq (t_s2 K) (tSeq (t_s3 K) (tSeq (t_s4 K) (t_s5 K))))
section
variable {K : PySem.W.Frag} {S : Stt} {H0 : Hp} {N0 : Av} {Z : List Hd} {N : Av} {σ : L2.St} {H H' : Hp} {ρ : Rho} {Φ : PyData → Rho → Prop} {Ψ : PyData → Prop}
end
end DL

set_option Elab.async false
set_option linter.all false
set_option maxRecDepth 100000
set_option maxHeartbeats 4000000
/-! DLT: types of data -/
namespace DL
open PySem PySem.Spec PyProof.Rows L2
def tyD : PyData → String
  | .none => "NoneType"
  | .bool _ => "bool"
  | .int _ => "int"
  | .str _ => "str"
  | .list _ => "list"
  | .tuple _ => "tuple"
  | .dict _ => "dict"
abbrev rIsTyX : R2 := fun x y H Q => ∃ a b, x = .ty a ∧ y = .ty b ∧ Q (.bl (decide (a = b))) H
section
variable {K : PySem.W.Frag} {S : Stt} {H0 : Hp} {N0 : Av} {Z : List Hd} {N : Av} {σ : L2.St} {H H' : Hp} {ρ : Rho} {Φ : PyData → Rho → Prop} {Ψ : PyData → Prop}
theorem dt_tyX {v : V} {d : PyData} (h : Dt K H v d) : TyX K H v (.type (tyD d)) := by
  cases h with
  | non => exact .base .non
  | bl b => exact .base (.bl b)
  | int i => exact .base (.int i)
  | str x => exact .base (.str x)
  | lst h t =>
    rcases h with h | ⟨o, h⟩
    · exact .base (.lst h)
    · exact .base (.frz h)
  | tup h t =>
    rcases h with (h | ⟨o, h⟩) | ⟨o, its, n, hk, hc, _⟩
    · exact .base (.tup h)
    · exact .fTuple h
    · exact .kTuple hk hc
  | dct h => exact .base (.dK h)
theorem dt_tyB {v : V} {d : PyData} (h : Dt K H v d) : TyB K H v (tyD d) := by
  cases h with
  | non => exact .non
  | bl b => exact .bl b
  | int i => exact .int i
  | str x => exact .str x
  | lst h t => exact .lst (.inl h)
  | tup h t => exact .tup h
  | dct h => exact .dK h
/-- isinstance(x, T) -/
theorem wd_isi {te : TE} {T : String} (h : WD K S te ρ fun d ρ1 => ∃ b, kitB (tyD d) T = some b ∧ Φ (.bool b) ρ1) : WD K S (tCB (rIsi K) (tCons te (tCons (tC (.ty T)) tNil))) ρ Φ := fun H0 N0 Z N σ H E Q q =>
  h H0 N0 Z N σ H E _ fun v d ρ1 H1 ⟨b, e, f⟩ E1 k1 d1 => ⟨v, .ty T, .type (tyD d), .type T, b, rfl, .ty T, dt_tyX d1.dt, kit_ty e, q _ _ ρ1 H1 f E1 k1 (Dt.bl b)⟩
/-- type(x) is T -/
theorem wd_isTy {te : TE} {T : String} (h : WD K S te ρ fun d ρ1 => Φ (.bool (decide (tyD d = T))) ρ1) : WD K S (tOp rIsTyX (tCB (rTyp K) (tCons te tNil)) (tC (.ty T))) ρ Φ := fun H0 N0 Z N σ H E Q q =>
  h H0 N0 Z N σ H E _ fun v d ρ1 H1 f E1 k1 d1 => ⟨v, tyD d, rfl, dt_tyB d1.dt, _, _, rfl, rfl, q _ _ ρ1 H1 f E1 k1 (Dt.bl _)⟩
def tyNames : List String := ["NoneType", "bool", "int", "str", "list", "tuple", "dict"]
theorem tyD_mem (d : PyData) : tyD d ∈ tyNames := by cases d <;> simp [tyD, tyNames]
theorem kitInt (d : PyData) : kitB (tyD d) "int" = some (tyD d == "int" || tyD d == "bool") :=
  (by decide +kernel : ∀ s ∈ tyNames, kitB s "int" = some (s == "int" || s == "bool")) _ (tyD_mem d)
theorem kitBool (d : PyData) : kitB (tyD d) "bool" = some (tyD d == "bool") :=
  (by decide +kernel : ∀ s ∈ tyNames, kitB s "bool" = some (s == "bool")) _ (tyD_mem d)
theorem kitTup (d : PyData) : kitB (tyD d) "tuple" = some (tyD d == "tuple") :=
  (by decide +kernel : ∀ s ∈ tyNames, kitB s "tuple" = some (s == "tuple")) _ (tyD_mem d)
end
end DL

set_option Elab.async false
set_option linter.all false
set_option maxRecDepth 100000
set_option maxHeartbeats 4000000
/-! DLP: parts in the laws' own hands -/
namespace DL
open PySem PySem.Spec PyProof.Rows L2
local macro_rules | `(tactic| walk_at "dl") => `(tactic| repeat' (first
  | with_reducible refine wd_isTy ?_ | with_reducible refine wd_isi ?_ | with_reducible refine wd_op ?_ | with_reducible refine wd_cb ?_ | with_reducible refine wd_un ?_ | with_reducible refine wa_cons ?_ | with_reducible refine wa_nil ?_ | ((with_reducible show WD _ _ (tVar _) _ _); refine wd_var rfl ?_) | with_reducible refine wd_int ?_ | with_reducible refine wd_bl ?_ | with_reducible refine wd_str ?_ | with_reducible refine wd_non ?_
  | with_reducible refine do_add ?_ | with_reducible refine do_sub ?_ | ((with_reducible refine do_mod ?_ ?_); decide) | with_reducible refine do_mod ?_ ?_ | with_reducible refine do_mul ?_ ?_ | ((with_reducible refine do_div ?_ ?_); exact ⟨by decide, by decide⟩) | with_reducible refine do_div ?_ ?_ | ((with_reducible refine do_pow ?_ ?_); exact ⟨by decide, by decide, by decide⟩) | with_reducible refine do_pow ?_ ?_
  | with_reducible refine do_lt ?_ | with_reducible refine do_le ?_ | with_reducible refine do_gt ?_ | with_reducible refine do_ge ?_ | with_reducible refine du_neg ?_
  | with_reducible refine do_eqi ?_ | with_reducible refine do_nei ?_ | with_reducible refine do_eqs ?_ | with_reducible refine do_nes ?_ | with_reducible refine dc_abs ?_ | with_reducible refine dc_min ?_ | with_reducible refine dc_max ?_ | with_reducible refine dc_lenL ?_ | with_reducible refine dc_lenT ?_ | with_reducible refine dc_gcd ?_
  | ((with_reducible show DO _ (rIxT _) _ _ _); refine do_ixT rfl ?_) | ((with_reducible show DO _ (rIxL _) _ _ _); refine do_ixL rfl ?_) | with_reducible refine do_catL ?_ ?_
  | with_reducible refine wd_dnew ?_ | with_reducible refine wd_call0 ?_ | with_reducible refine dc_str ?_ ?_ | with_reducible refine wd_tup ?_ | with_reducible refine wd_lst ?_ | with_reducible refine wt_test ?_ | with_reducible refine wt_B ?_ | with_reducible refine wt_not ?_ | with_reducible refine wt_and ?_ | with_reducible refine wt_or ?_ | with_reducible refine wd_ifE ?_ | with_reducible refine wd_andV ?_ | with_reducible refine wd_orV ?_ | with_reducible refine wd_notV ?_
  | with_reducible refine ws_seq ?_ | with_reducible refine ws_next ?_ | with_reducible refine ws_asg ?_ | with_reducible refine ws_ret ?_ | with_reducible refine ws_retN ?_ | with_reducible refine ws_if ?_ | with_reducible refine ws_par ?_ | with_reducible refine ws_unp2 ?_
  | with_reducible refine if_t ?_ | with_reducible refine if_f ?_ | with_reducible refine if_nf ?_ | with_reducible refine if_nt ?_
  | ((with_reducible show Exists _); first | refine ⟨_, kitInt _, ?_⟩ | refine ⟨_, kitBool _, ?_⟩ | refine ⟨_, kitTup _, ?_⟩ | refine ⟨_, kitList _, ?_⟩ | refine ⟨_, rfl, ?_⟩ | refine ⟨_, _, rfl, ?_⟩ | fail) | fail))

/-! ### lowest terms -/
/-- a by b, b not nought, in lowest terms -/
def nrm (a b : Int) : Int × Int := ((if 0 < b then a else -a) / ((Nat.gcd a.natAbs b.natAbs : Nat) : Int), ((b.natAbs : Nat) : Int) / ((Nat.gcd a.natAbs b.natAbs : Nat) : Int))
def pr (x : Int × Int) : PyData := .tuple [.int x.1, .int x.2]
/-- the promise of a maker of parts -/
def TPart : List PyData → (PyData → Prop) → Prop := fun ds Φ => ∃ a b : Int, ds = [.int a, .int b] ∧ b ≠ 0 ∧ a.natAbs < 2 ^ 8000 ∧ b.natAbs < 2 ^ 8000 ∧ Φ (pr (nrm a b))
def t_law_part (K : PySem.W.Frag) : TS :=
  (tSeq (tPar 2 3 (tCons (tCB rAbsX (tCons (tVar 0) tNil)) (tCons (tCB rAbsX (tCons (tVar 1) tNil)) tNil)))
    (tSeq (tWhile (tTest (tOp rGt (tVar 3) (tC (.int 0)))) (tPar 2 3 (tCons (tVar 3) (tCons (tOp rModI (tVar 2) (tVar 3)) tNil))))
    (tSeq (tAsg (tIf (tTest (tOp rGt (tVar 1) (tC (.int 0)))) (tC (.int 1)) (tUn rNegI (tC (.int 1)))) (gName 4))
    (tRet (tTup (tCons (tOp rDivI (tOp rMulI (tVar 4) (tVar 0)) (tVar 2)) (tCons (tOp rDivI (tCB rAbsX (tCons (tVar 1) tNil)) (tVar 2)) tNil)))))))


theorem log2_of {i : Int} {k : Nat} (h : i.natAbs < 2 ^ k) (hk : 0 < k) : i.natAbs.log2 < k := PySem.Flt.log2_lt_of hk h
/-! ### about lowest terms -/
end DL

set_option Elab.async false
set_option linter.all false
set_option maxRecDepth 100000
set_option maxHeartbeats 4000000
/-! DLS: what the laws draw -/
namespace DL
open PySem PySem.Spec PyProof.Rows L2
local macro_rules | `(tactic| walk_at "dl") => `(tactic| repeat' (first
  | with_reducible refine wd_isTy ?_ | with_reducible refine wd_isi ?_ | with_reducible refine wd_op ?_ | with_reducible refine wd_cb ?_ | with_reducible refine wd_un ?_ | with_reducible refine wa_cons ?_ | with_reducible refine wa_nil ?_ | ((with_reducible show WD _ _ (tVar _) _ _); refine wd_var rfl ?_) | with_reducible refine wd_int ?_ | with_reducible refine wd_bl ?_ | with_reducible refine wd_str ?_ | with_reducible refine wd_non ?_
  | with_reducible refine do_add ?_ | with_reducible refine do_sub ?_ | ((with_reducible refine do_mod ?_ ?_); decide) | with_reducible refine do_mod ?_ ?_ | with_reducible refine do_mul ?_ ?_ | ((with_reducible refine do_div ?_ ?_); exact ⟨by decide, by decide⟩) | with_reducible refine do_div ?_ ?_ | ((with_reducible refine do_pow ?_ ?_); exact ⟨by decide, by decide, by decide⟩) | with_reducible refine do_pow ?_ ?_
  | with_reducible refine do_lt ?_ | with_reducible refine do_le ?_ | with_reducible refine do_gt ?_ | with_reducible refine do_ge ?_ | with_reducible refine du_neg ?_
  | with_reducible refine do_eqi ?_ | with_reducible refine do_nei ?_ | with_reducible refine do_eqs ?_ | with_reducible refine do_nes ?_ | with_reducible refine dc_abs ?_ | with_reducible refine dc_min ?_ | with_reducible refine dc_max ?_ | with_reducible refine dc_lenL ?_ | with_reducible refine dc_lenT ?_ | with_reducible refine dc_gcd ?_
  | ((with_reducible show DO _ (rIxT _) _ _ _); refine do_ixT rfl ?_) | ((with_reducible show DO _ (rIxL _) _ _ _); refine do_ixL rfl ?_) | with_reducible refine do_catL ?_ ?_
  | with_reducible refine wd_dnew ?_ | with_reducible refine wd_call0 ?_ | with_reducible refine dc_str ?_ ?_ | with_reducible refine wd_tup ?_ | with_reducible refine wd_lst ?_ | with_reducible refine wt_test ?_ | with_reducible refine wt_B ?_ | with_reducible refine wt_not ?_ | with_reducible refine wt_and ?_ | with_reducible refine wt_or ?_ | with_reducible refine wd_ifE ?_ | with_reducible refine wd_andV ?_ | with_reducible refine wd_orV ?_ | with_reducible refine wd_notV ?_
  | with_reducible refine ws_seq ?_ | with_reducible refine ws_next ?_ | with_reducible refine ws_asg ?_ | with_reducible refine ws_ret ?_ | with_reducible refine ws_retN ?_ | with_reducible refine ws_if ?_ | with_reducible refine ws_par ?_ | with_reducible refine ws_unp2 ?_
  | with_reducible refine if_t ?_ | with_reducible refine if_f ?_ | with_reducible refine if_nf ?_ | with_reducible refine if_nt ?_
  | ((with_reducible show Exists _); first | refine ⟨_, kitInt _, ?_⟩ | refine ⟨_, kitBool _, ?_⟩ | refine ⟨_, kitTup _, ?_⟩ | refine ⟨_, kitList _, ?_⟩ | refine ⟨_, rfl, ?_⟩ | refine ⟨_, _, rfl, ?_⟩ | fail) | fail))

abbrev TDr := TDraw 400 (2 ^ 1899) (2 ^ 40)
section
variable {K : PySem.W.Frag} {S : Stt} {ρ : Rho} {Φ : PyData → Rho → Prop} {Ψ : PyData → Prop}
theorem atI_of {ds : List PyData} {z : Int} (h0 : 0 ≤ z) (h1 : z < ds.length) : ∃ d, atI ds z = some d ∧ d ∈ ds := by
  obtain ⟨j, rfl⟩ : ∃ j : Nat, z = j := ⟨z.toNat, by omega⟩
  have hj : j < ds.length := by omega
  exact ⟨ds[j], atI_nat (List.getElem?_eq_getElem hj), List.getElem_mem hj⟩
/-- any item of a list, by a place in it -/
theorem do_ixL_any {ds : List PyData} {z : Int} (h0 : 0 ≤ z) (h1 : z < ds.length) (h : ∀ d ∈ ds, Ψ d) : DO K (rIxL K) (.list ds) (.int z) Ψ := by
  obtain ⟨d, e, hm⟩ := atI_of h0 h1
  exact do_ixL e (h d hm)
theorem do_ixL_int {ds : List PyData} {ns : List Int} {z : Int} {P : Int → Prop} (e : ds = ns.map PyData.int) (h0 : 0 ≤ z) (h1 : z < ns.length) (hp : ∀ n ∈ ns, P n) (h : ∀ n, P n → Ψ (.int n)) : DO K (rIxL K) (.list ds) (.int z) Ψ := by
  subst e
  refine do_ixL_any h0 (by rw [List.length_map]; exact h1) fun d hd => ?_
  obtain ⟨n, hn, rfl⟩ := List.mem_map.mp hd
  exact h n (hp n hn)
end
/-- a small part -/
structure PIn (n d : Int) : Prop where
  d1 : 1 ≤ d
  d2 : d ≤ 1000
  n1 : n.natAbs ≤ 10 ^ 6
  g : Nat.gcd n.natAbs d.natAbs = 1
def TSmall : Nat → List PyData → (PyData → Nat → Prop) → Prop := fun B ds Φ => ds = [] ∧ B + 3200 ≤ 2 ^ 40 ∧ ∀ n d : Int, PIn n d → Φ (pr (n, d)) (B + 3200)
def t_law_small (K : PySem.W.Frag) : TS :=
  (tSeq (tAsg (tCall (spS K FSto TDr) [] E0 (tCons (tVar 0) (tCons (tC (.int 6)) tNil))) (gName 1))
    (tSeq (tAsg (tOp (rIxL K) (tLst (tCons (tC (.int 1)) (tCons (tC (.int 1)) (tCons (tC (.int 2)) (tCons (tC (.int 3)) (tCons (tC (.int 4)) (tCons (tC (.int 12)) (tCons (tC (.int 97)) (tCons (tC (.int 101)) (tCons (tC (.int 997)) (tCons (tC (.int 1000)) (tCons (tOp rAddI (tC (.int 1)) (tCall (spS K FSto TDr) [] E0 (tCons (tVar 0) (tCons (tC (.int 1000)) tNil)))) tNil)))))))))))) (tCall (spS K FSto TDr) [] E0 (tCons (tVar 0) (tCons (tC (.int 11)) tNil)))) (gName 2))
    (tSeq (tAsg (tLst (tCons (tC (.int 0)) (tCons (tC (.int 1)) (tCons (tOp rAddI (tC (.int 1)) (tCall (spS K FSto TDr) [] E0 (tCons (tVar 0) (tCons (tC (.int 9)) tNil)))) (tCons (tCall (spS K FSto TDr) [] E0 (tCons (tVar 0) (tCons (tC (.int 1000)) tNil))) (tCons (tOp rSubI (tOp rPowI (tC (.int 10)) (tC (.int 6))) (tCall (spS K FSto TDr) [] E0 (tCons (tVar 0) (tCons (tC (.int 3)) tNil)))) tNil)))))) (gName 3))
    (tSeq (tAsg (tOp (rIxL K) (tOp rCatL (tVar 3) (tLst (tCons (tCall (spS K FSto TDr) [] E0 (tCons (tVar 0) (tCons (tOp rPowI (tC (.int 10)) (tC (.int 6))) tNil))) tNil))) (tVar 1)) (gName 3))
    (tRet (tCall (spP K TPart) [] E0 (tCons (tOp rMulI (tVar 3) (tOp (rIxL K) (tLst (tCons (tC (.int 1)) (tCons (tUn rNegI (tC (.int 1))) tNil))) (tCall (spS K FSto TDr) [] E0 (tCons (tVar 0) (tCons (tC (.int 2)) tNil))))) (tCons (tVar 2) tNil))))))))


/-! ### the law's own run -/
def spLaw (K : PySem.W.Frag) : Sp := fun vs H Q _ => ∃ (a : Addr) (ns : List Int), vs = [.ref a] ∧ SqL K H a (ns.map V.int) ∧ ns.length ≤ 63 ∧ ∀ H', Q (.bl true) H'
end DL

set_option Elab.async false
set_option linter.all false
set_option maxRecDepth 100000
set_option maxHeartbeats 2000000
namespace DL
open PySem PySem.Spec PyProof.Rows L2
/-! ### the head: facts of defs, and names that stand for a function of math -/
abbrev AlG : Type := He.AlD × Bool
def bltB (K : PySem.W.Frag) (bs : List (Str × String)) : Bool := bs.all fun p => He.eqO (PySem.W.nsIn K mainGlobals p.1) (some (some (.builtin p.2)))
def obsM (n : Nat) (fa : List He.Fa) (fn : List He.DefD) (bs : List (Str × String)) (g : Addr → Option Obj) : AlG := (He.obsDG n fa fn g, bltB (He.frG g (He.asD g n)) bs)
def hookM (n : Nat) (fa : List He.Fa) (fn : List He.DefD) (bs : List (Str × String)) : PySem.W.Hook where
  α := AlG
  obs := fun s => obsM n fa fn bs s.heap.get?
  val := fun _ => (He.valD fn, true)
  says := fun _ h => ∃ K : PySem.W.Frag, K.In h ∧ He.SaysD fa fn K ∧ bltB K bs = true
  of := fun _ _ e => ⟨_, He.frG_in, congrArg Prod.fst e, congrArg Prod.snd e⟩
  keeps := fun _ _ _ ⟨K, hK, c⟩ k => ⟨K, PySem.W.Frag.In.keeps hK k, c⟩
/-- by names, of a def without defaults -/
theorem kbN {K : PySem.W.Frag} {x qual : Str} {params : Arguments} {body : List Stmt} {scope : Scope} {kws : List (Str × V)} {f : Addr} {fd : FuncData} {ps : List Str} (F : FunD K x qual params body scope [] kws f fd) (n : Nat) (ks : List Str) (g : {α : Type} → List α → List α → List α)
    (hrel : ∀ {vs zs : List V} {us ws : List Value}, Vals vs us → Vals zs ws → Vals (g vs zs) (g us ws))
    (h : ∀ (kV doc pm : Value) (an : Option Addr) (cdv ct : Value) (us ws : List Value), us.length = n → ws.length = ks.length → bindArgs (PySem.W.fnOf x qual params body scope .none kV doc pm an cdv ct) ⟨us, ks.zip ws⟩ = pure (ps.zip (g us ws))) :
    KBn K fd ps n ks (fun us ws => g us ws) (fun vs zs => g vs zs) := by
  obtain ⟨oc, od, dV, kV, doc, pm, an, cdv, ct, osl, rfl, lk, hcd, hD, hK⟩ := F.ex
  rcases hD with ⟨_, rfl⟩ | ⟨e, _⟩
  · exact ⟨fun s us ws _ l1 l2 => .of_eq (h kV doc pm an cdv ct us ws l1 l2), fun r1 r2 => hrel r1 r2⟩
  · exact absurd rfl e
/-- a promise of nothing: for a call that is never made -/
def spNo : Sp := fun _ _ _ _ => False
section
variable {P : Program} {w : World} {K : PySem.W.Frag} {mg : Str → Option Value} {base : Heap}
theorem has_of {x : Str} {k : Nat} {ps : List Str} {sp : Sp} {f : Addr} {fd : FuncData} (F : FnOk P w K mg base CX0 k f fd ps sp) (hm : mg x = some (.ref f)) (hk : PySem.W.keepIn K (.ref f) = true) (hb : Binds K fd ps []) : Has P w K mg base CX0 x k ps sp [] := ⟨f, fd, [], F, hm, hk, hb, .nil⟩
theorem hasG_of {x : Str} {k : Nat} {ps : List Str} {sp : Sp} {f : Addr} {fd : FuncData} (F : FnG P w K mg base CX0 k f fd ps sp) (hm : mg x = some (.ref f)) (hk : PySem.W.keepIn K (.ref f) = true) (hb : Binds K fd ps []) : HasG P w K mg base CX0 x k ps sp := ⟨f, fd, F, hm, hk, hb⟩
theorem hasK_of {x : Str} {k n : Nat} {ps ks : List Str} {sp : Sp} {gV : List V → List V → List V} {g : List Value → List Value → List Value} {f : Addr} {fd : FuncData} (F : FnOk P w K mg base CX0 k f fd ps sp) (hm : mg x = some (.ref f)) (hk : PySem.W.keepIn K (.ref f) = true) (hb : KBn K fd ps n ks g gV) : HasK P w K mg base CX0 x k ps sp n ks gV := ⟨f, fd, g, F, hm, hk, hb⟩
end
theorem spP_len {K : PySem.W.Frag} {T : List PyData → (PyData → Prop) → Prop} {n : Nat} (hT : ∀ ds Φ, T ds Φ → ds.length = n) {vs : List V} {H : Hp} {Q : VK} {E : XK} (h : spP K T vs H Q E) : vs.length = n := by
  obtain ⟨N, ds, Φ, _, hd, t, _⟩ := h
  exact hd.len.trans (hT ds Φ t)
theorem spS_len {K : PySem.W.Frag} {F : Stt → Prop} {T : Nat → List PyData → (PyData → Nat → Prop) → Prop} {n : Nat} (hT : ∀ B ds Φ, T B ds Φ → ds.length = n) {vs : List V} {H : Hp} {Q : VK} {E : XK} (h : spS K F T vs H Q E) : vs.length = n + 1 := by
  obtain ⟨S, N, us, ds, B, Φ, rfl, _, _, _, _, hd, t, _⟩ := h
  have e := hd.len.trans (hT B ds Φ t)
  simp [e]
end DL

set_option Elab.async false
set_option linter.all false
set_option maxRecDepth 100000
set_option maxHeartbeats 4000000
/-! DLA: parts reckoned -/
namespace DL
open PySem PySem.Spec PyProof.Rows L2
local macro_rules | `(tactic| walk_at "dl") => `(tactic| repeat' (first
  | with_reducible refine wd_isTy ?_ | with_reducible refine wd_isi ?_ | with_reducible refine wd_op ?_ | ((with_reducible show WD _ _ (tCB (rLenX _) (tCons (tVar _) tNil)) _ _); refine wd_len_scr rfl ?_) | with_reducible refine wd_cb ?_ | with_reducible refine wd_un ?_ | with_reducible refine wa_cons ?_ | with_reducible refine wa_nil ?_ | ((with_reducible show WD _ _ (tVar _) _ _); refine wd_var rfl ?_) | with_reducible refine wd_int ?_ | with_reducible refine wd_bl ?_ | with_reducible refine wd_str ?_ | with_reducible refine wd_non ?_
  | with_reducible refine do_add ?_ | with_reducible refine do_sub ?_ | ((with_reducible refine do_mod ?_ ?_); decide) | with_reducible refine do_mod ?_ ?_ | with_reducible refine do_mul ?_ ?_ | ((with_reducible refine do_div ?_ ?_); exact ⟨by decide, by decide⟩) | with_reducible refine do_div ?_ ?_ | ((with_reducible refine do_pow ?_ ?_); exact ⟨by decide, by decide, by decide⟩) | with_reducible refine do_pow ?_ ?_
  | with_reducible refine do_lt ?_ | with_reducible refine do_le ?_ | with_reducible refine do_gt ?_ | with_reducible refine do_ge ?_ | with_reducible refine du_neg ?_
  | with_reducible refine do_eqi ?_ | with_reducible refine do_nei ?_ | with_reducible refine do_eqs ?_ | with_reducible refine do_nes ?_ | with_reducible refine dc_abs ?_ | with_reducible refine dc_min ?_ | with_reducible refine dc_max ?_ | with_reducible refine dc_lenL ?_ | with_reducible refine dc_lenT ?_ | with_reducible refine dc_gcd ?_
  | ((with_reducible show DO _ (rIxT _) _ _ _); refine do_ixT rfl ?_) | ((with_reducible show DO _ (rIxL _) _ _ _); refine do_ixL rfl ?_) | ((with_reducible refine do_catL ?_ ?_); exact Nat.le_of_ble_eq_true rfl) | with_reducible refine do_catL ?_ ?_ | ((with_reducible show And (List.length _ ≤ sizeLine) _); refine ⟨Nat.le_of_ble_eq_true rfl, ?_⟩)
  | with_reducible refine wd_dnew ?_ | with_reducible refine wd_call0 ?_ | with_reducible refine dc_str ?_ ?_ | with_reducible refine wd_tup ?_ | with_reducible refine wd_lst ?_ | with_reducible refine wt_test ?_ | with_reducible refine wt_B ?_ | with_reducible refine wt_not ?_ | with_reducible refine wt_and ?_ | with_reducible refine wt_or ?_ | with_reducible refine wd_ifE ?_ | with_reducible refine wd_andV ?_ | with_reducible refine wd_orV ?_ | with_reducible refine wd_notV ?_
  | with_reducible refine ws_seq ?_ | with_reducible refine ws_next ?_ | with_reducible refine ws_asg ?_ | with_reducible refine ws_ret ?_ | with_reducible refine ws_retN ?_ | with_reducible refine ws_if ?_ | with_reducible refine ws_par ?_ | with_reducible refine ws_unp2 ?_
  | with_reducible refine if_t ?_ | with_reducible refine if_f ?_ | with_reducible refine if_nf ?_ | with_reducible refine if_nt ?_
  | ((with_reducible show Exists _); first | refine ⟨_, kitInt _, ?_⟩ | refine ⟨_, kitBool _, ?_⟩ | refine ⟨_, kitTup _, ?_⟩ | refine ⟨_, kitList _, ?_⟩ | refine ⟨_, rfl, ?_⟩ | refine ⟨_, _, rfl, ?_⟩ | fail) | fail))
/-! ### what is never reached -/
def tNo : TS := fun _ _ _ => False
def tNoE : TE := fun _ _ _ => False
/-! ### a maker of parts -/
def t_part (K : PySem.W.Frag) : TS :=
  (tSeq (tIfS (tTest (tOp rEq (tVar 1) (tC (.int 0)))) tNo tNext)
    (tSeq (tAsg (tCB rGcd (tCons (tVar 0) (tCons (tVar 1) tNil))) (gName 2))
    (tSeq (tIfS (tTest (tOp rLt (tVar 1) (tC (.int 0)))) (tAsg (tUn rNegI (tVar 2)) (gName 2)) tNext)
    (tRet (tTup (tCons (tOp rDivI (tVar 0) (tVar 2)) (tCons (tOp rDivI (tVar 1) (tVar 2)) tNil)))))))
section
variable {K : PySem.W.Frag} {Ψ : PyData → Prop}
end
/-! ### what is reckoned of two -/
structure Wd4 (a b c d : Int) : Prop where
  a : a.natAbs < 2 ^ 3900
  b : b.natAbs < 2 ^ 3900
  c : c.natAbs < 2 ^ 3900
  d : d.natAbs < 2 ^ 3900
def T2 (P : Int → Int → Int → Int → Prop) (f : Int → Int → Int → Int → PyData) : List PyData → (PyData → Prop) → Prop := fun ds Φ => ∃ a b c d : Int, ds = [pr (a, b), pr (c, d)] ∧ Wd4 a b c d ∧ P a b c d ∧ Φ (f a b c d)
abbrev PBD : Int → Int → Int → Int → Prop := fun _ b _ d => b ≠ 0 ∧ d ≠ 0
abbrev TPlus := T2 PBD fun a b c d => pr (nrm (a * d + c * b) (b * d))
abbrev TLess := T2 PBD fun a b c d => pr (nrm (a * d - c * b) (b * d))
abbrev TTimes := T2 PBD fun a b c d => pr (nrm (a * c) (b * d))
abbrev TOver := T2 (fun _ b c _ => b ≠ 0 ∧ c ≠ 0) fun a b c d => pr (nrm (a * d) (b * c))
abbrev TUnder := T2 (fun _ _ _ _ => True) fun a b c d => .bool (decide (a * d < c * b))
def T1 (f : Int → Int → PyData) : List PyData → (PyData → Prop) → Prop := fun ds Φ => ∃ a b : Int, ds = [pr (a, b)] ∧ b ≠ 0 ∧ b.natAbs < 2 ^ 3900 ∧ Φ (f a b)
abbrev TFloor := T1 fun a b => .int (a.fdiv b)
abbrev TCeil := T1 fun a b => .int (-((-a).fdiv b))
def t_plus (K : PySem.W.Frag) : TS :=
  (tRet (tCall (spP K TPart) [] E0 (tCons (tOp rAddI (tOp rMulI (tOp (rIxT K) (tVar 0) (tC (.int 0))) (tOp (rIxT K) (tVar 1) (tC (.int 1)))) (tOp rMulI (tOp (rIxT K) (tVar 1) (tC (.int 0))) (tOp (rIxT K) (tVar 0) (tC (.int 1))))) (tCons (tOp rMulI (tOp (rIxT K) (tVar 0) (tC (.int 1))) (tOp (rIxT K) (tVar 1) (tC (.int 1)))) tNil))))
def t_less (K : PySem.W.Frag) : TS :=
  (tRet (tCall (spP K TPart) [] E0 (tCons (tOp rSubI (tOp rMulI (tOp (rIxT K) (tVar 0) (tC (.int 0))) (tOp (rIxT K) (tVar 1) (tC (.int 1)))) (tOp rMulI (tOp (rIxT K) (tVar 1) (tC (.int 0))) (tOp (rIxT K) (tVar 0) (tC (.int 1))))) (tCons (tOp rMulI (tOp (rIxT K) (tVar 0) (tC (.int 1))) (tOp (rIxT K) (tVar 1) (tC (.int 1)))) tNil))))
def t_times (K : PySem.W.Frag) : TS :=
  (tRet (tCall (spP K TPart) [] E0 (tCons (tOp rMulI (tOp (rIxT K) (tVar 0) (tC (.int 0))) (tOp (rIxT K) (tVar 1) (tC (.int 0)))) (tCons (tOp rMulI (tOp (rIxT K) (tVar 0) (tC (.int 1))) (tOp (rIxT K) (tVar 1) (tC (.int 1)))) tNil))))
def t_over (K : PySem.W.Frag) : TS :=
  (tRet (tCall (spP K TPart) [] E0 (tCons (tOp rMulI (tOp (rIxT K) (tVar 0) (tC (.int 0))) (tOp (rIxT K) (tVar 1) (tC (.int 1)))) (tCons (tOp rMulI (tOp (rIxT K) (tVar 0) (tC (.int 1))) (tOp (rIxT K) (tVar 1) (tC (.int 0)))) tNil))))
def t_is_less (K : PySem.W.Frag) : TS :=
  (tRet (tOp rLt (tOp rMulI (tOp (rIxT K) (tVar 0) (tC (.int 0))) (tOp (rIxT K) (tVar 1) (tC (.int 1)))) (tOp rMulI (tOp (rIxT K) (tVar 1) (tC (.int 0))) (tOp (rIxT K) (tVar 0) (tC (.int 1))))))
def t_floor (K : PySem.W.Frag) : TS :=
  (tRet (tOp rDivI (tOp (rIxT K) (tVar 0) (tC (.int 0))) (tOp (rIxT K) (tVar 0) (tC (.int 1)))))
def t_ceiling (K : PySem.W.Frag) : TS :=
  (tRet (tUn rNegI (tOp rDivI (tUn rNegI (tOp (rIxT K) (tVar 0) (tC (.int 0)))) (tOp (rIxT K) (tVar 0) (tC (.int 1))))))
section
variable {K : PySem.W.Frag} {ds : List PyData} {Φ : PyData → Prop}
end
end DL

set_option Elab.async false
set_option linter.all false
set_option maxRecDepth 100000
set_option maxHeartbeats 4000000
/-! DLR: how long the texts of data are -/
namespace DL
open PySem PySem.Spec PyProof.Rows L2
theorem textFrom_le : ∀ (ts : List Str) (k : Nat) (acc : Str), (textFrom k acc ts).length ≤ acc.length + piled ts
  | [], _, acc => Nat.le_add_right _ _
  | t :: r, k, acc => by
    have ih := textFrom_le r (k + 1) (acc ++ (if k > 0 then ", " else "" : String) ++ t)
    have e : (acc ++ (if k > 0 then ", " else "" : String) ++ t).length ≤ acc.length + 2 + t.length := by
      rw [strLen_append, strLen_append]
      have : ((Str.ofString (if k > 0 then ", " else "" : String))).length ≤ 2 := by split <;> decide
      omega
    rw [piled_cons]
    exact Nat.le_trans ih (by omega)
theorem piled_le {m : Nat} : ∀ ts : List Str, (∀ t ∈ ts, t.length ≤ m) → piled ts ≤ ts.length * (m + 2)
  | [], _ => by simp [piled]
  | t :: r, h => by
    rw [piled_cons, List.length_cons, Nat.succ_mul]
    have := h t (List.mem_cons_self ..)
    have := piled_le r fun t ht => h t (List.mem_cons_of_mem _ ht)
    omega
theorem shownAll_mem : ∀ (xs : List PyData) (t : Str), t ∈ PyData.shownAll xs → ∃ x ∈ xs, t = x.shown
  | [], t, h => by simp [PyData.shownAll] at h
  | x :: xs, t, h => by
    rcases List.mem_cons.mp (show t ∈ x.shown :: PyData.shownAll xs from h) with e | h
    · exact ⟨x, List.mem_cons_self .., e⟩
    · obtain ⟨y, hy, e⟩ := shownAll_mem xs t h
      exact ⟨y, List.mem_cons_of_mem _ hy, e⟩
theorem shownAll_len : ∀ xs : List PyData, (PyData.shownAll xs).length = xs.length
  | [] => rfl
  | x :: xs => by show (PyData.shownAll xs).length + 1 = _; rw [shownAll_len xs]; rfl
/-- what may be shown within a row -/
structure Rp (d : PyData) : Prop where
  s : d.showable = true
  h : d.hasDict = false
  l : d.shown.length ≤ 5000
  d : d.depth ≤ 10
theorem showableAll_of : ∀ xs : List PyData, (∀ x ∈ xs, x.showable = true) → PyData.showableAll xs = true
  | [], _ => rfl
  | x :: xs, h => by
    show (x.showable && PyData.showableAll xs) = true
    rw [h x (List.mem_cons_self ..), showableAll_of xs fun y hy => h y (List.mem_cons_of_mem _ hy)]; rfl
theorem hasDictAll_of : ∀ xs : List PyData, (∀ x ∈ xs, x.hasDict = false) → PyData.hasDictAll xs = false
  | [], _ => rfl
  | x :: xs, h => by
    show (x.hasDict || PyData.hasDictAll xs) = false
    rw [h x (List.mem_cons_self ..), hasDictAll_of xs fun y hy => h y (List.mem_cons_of_mem _ hy)]; rfl
theorem depthAll_of {n : Nat} : ∀ xs : List PyData, (∀ x ∈ xs, x.depth ≤ n) → PyData.depthAll xs ≤ n
  | [], _ => Nat.zero_le _
  | x :: xs, h => by
    show max x.depth (PyData.depthAll xs) ≤ n
    exact Nat.max_le.mpr ⟨h x (List.mem_cons_self ..), depthAll_of xs fun y hy => h y (List.mem_cons_of_mem _ hy)⟩
theorem Rp.int {i : Int} (h : i.natAbs < 2 ^ 1900) : Rp (.int i) := by
  have h2 : i.natAbs.log2 < 1920 := by have := log2_of (i := i) (k := 1900) h (by decide); omega
  exact ⟨decide_eq_true h2, rfl, Nat.le_trans (int_text_len_1921 h2) (by decide), by show 0 ≤ 10; decide⟩
theorem listText_le {m n : Nat} {xs : List PyData} (h : ∀ x ∈ xs, x.shown.length ≤ m) (hn : xs.length ≤ n) : (PyData.list xs).shown.length ≤ 2 + n * (m + 2) := by
  show (textFrom 0 "[" (PyData.shownAll xs) ++ ("]" : String) : Str).length ≤ _
  rw [strLen_append]
  have h1 := textFrom_le (PyData.shownAll xs) 0 "["
  have h2 := piled_le (m := m) (PyData.shownAll xs) fun t ht => by
    obtain ⟨x, hx, rfl⟩ := shownAll_mem xs t ht
    exact h x hx
  rw [shownAll_len] at h2
  have h3 : xs.length * (m + 2) ≤ n * (m + 2) := Nat.mul_le_mul_right _ hn
  have e1 : (Str.ofString "[").length = 1 := by decide
  have e2 : (Str.ofString "]").length = 1 := by decide
  rw [e1] at h1
  rw [e2]
  omega
section
variable {K : PySem.W.Frag} {Ψ : PyData → Prop}
end
end DL

set_option Elab.async false
set_option linter.all false
set_option maxRecDepth 100000
set_option maxHeartbeats 4000000
namespace DL
open PySem PySem.Spec PyProof.Rows L2
local macro_rules | `(tactic| walk_at "dl") => `(tactic| repeat' (first
  | with_reducible refine wd_isTy ?_ | with_reducible refine wd_isi ?_ | with_reducible refine wd_op ?_ | ((with_reducible show WD _ _ (tCB (rLenX _) (tCons (tVar _) tNil)) _ _); refine wd_len_scr rfl ?_) | with_reducible refine wd_cb ?_ | with_reducible refine wd_un ?_ | with_reducible refine wa_cons ?_ | with_reducible refine wa_nil ?_ | ((with_reducible show WD _ _ (tVar _) _ _); refine wd_var rfl ?_) | with_reducible refine wd_int ?_ | with_reducible refine wd_bl ?_ | with_reducible refine wd_str ?_ | with_reducible refine wd_non ?_
  | with_reducible refine do_add ?_ | with_reducible refine do_sub ?_ | ((with_reducible refine do_mod ?_ ?_); decide) | with_reducible refine do_mod ?_ ?_ | with_reducible refine do_mul ?_ ?_ | ((with_reducible refine do_div ?_ ?_); exact ⟨by decide, by decide⟩) | with_reducible refine do_div ?_ ?_ | ((with_reducible refine do_pow ?_ ?_); exact ⟨by decide, by decide, by decide⟩) | with_reducible refine do_pow ?_ ?_
  | with_reducible refine do_lt ?_ | with_reducible refine do_le ?_ | with_reducible refine do_gt ?_ | with_reducible refine do_ge ?_ | with_reducible refine du_neg ?_
  | with_reducible refine do_eqi ?_ | with_reducible refine do_nei ?_ | with_reducible refine do_eqs ?_ | with_reducible refine do_nes ?_ | with_reducible refine dc_abs ?_ | with_reducible refine dc_min ?_ | with_reducible refine dc_max ?_ | with_reducible refine dc_lenL ?_ | with_reducible refine dc_lenT ?_ | with_reducible refine dc_gcd ?_
  | ((with_reducible show DO _ (rIxT _) _ _ _); refine do_ixT rfl ?_) | ((with_reducible show DO _ (rIxL _) _ _ _); refine do_ixL rfl ?_) | ((with_reducible refine do_catL ?_ ?_); exact Nat.le_of_ble_eq_true rfl) | with_reducible refine do_catL ?_ ?_ | ((with_reducible show And (List.length _ ≤ sizeLine) _); refine ⟨Nat.le_of_ble_eq_true rfl, ?_⟩)
  | with_reducible refine wd_dnew ?_ | with_reducible refine wd_call0 ?_ | with_reducible refine dc_str ?_ ?_ | with_reducible refine wd_tup ?_ | with_reducible refine wd_lst ?_ | with_reducible refine wt_test ?_ | with_reducible refine wt_B ?_ | with_reducible refine wt_not ?_ | with_reducible refine wt_and ?_ | with_reducible refine wt_or ?_ | with_reducible refine wd_ifE ?_ | with_reducible refine wd_andV ?_ | with_reducible refine wd_orV ?_ | with_reducible refine wd_notV ?_
  | with_reducible refine ws_seq ?_ | with_reducible refine ws_next ?_ | with_reducible refine ws_asg ?_ | with_reducible refine ws_ret ?_ | with_reducible refine ws_retN ?_ | with_reducible refine ws_if ?_ | with_reducible refine ws_par ?_ | with_reducible refine ws_unp2 ?_
  | with_reducible refine if_t ?_ | with_reducible refine if_f ?_ | with_reducible refine if_nf ?_ | with_reducible refine if_nt ?_
  | ((with_reducible show Exists _); first | refine ⟨_, kitInt _, ?_⟩ | refine ⟨_, kitBool _, ?_⟩ | refine ⟨_, kitTup _, ?_⟩ | refine ⟨_, kitList _, ?_⟩ | refine ⟨_, rfl, ?_⟩ | refine ⟨_, _, rfl, ?_⟩ | fail) | fail))
/-! ### a list so many times, locked or not -/
def rRepL : R2 := fun x y H Q => ∃ a k xs, x = .ref a ∧ y = .int k ∧ Rd H a (.lst xs) ∧ (-(2 ^ 63) ≤ k ∧ k < 2 ^ 63) ∧ xs.length * k.toNat ≤ sizeLine ∧ ∀ p, H p = none → Q (.ref p) (upd H p (.lst (List.replicate k.toNat xs).flatten))
theorem fold_rep (its : List Value) : ∀ m : Nat, List.foldl (fun u v => u ++ v) #[] (List.replicate m its.toArray) = (List.replicate m its).flatten.toArray := fun m => by
  have := foldl_rep its m []
  simpa using this
theorem op_repL {X : Cx} : OpR X (binaryOp .Mult) rRepL := by
  intro pins s τ G x y v u R I rx ry h
  obtain ⟨l, k, xs, rfl, rfl, hL, ⟨b1, b2⟩, hz, q⟩ := h
  cases rx
  obtain ⟨tk, rfl⟩ := ry
  obtain ⟨z1, i1, n1, w1, g1⟩ := hL.ok I.hok
  have e1 := w1.length
  have sz : i1.toArray.size * k.toNat ≤ sizeLine := by simp only [List.size_toArray]; rw [← e1]; exact hz
  have cap : ¬ i1.toArray.size * k.toNat > (2 ^ 63 - 1) / 8 := by
    have c : (sizeLine : Nat) ≤ (2 ^ 63 - 1) / 8 := by decide
    omega
  have fit : ¬ (!Builtin.List.listFitsIndex k) = true := by
    rw [fitsIndex_both b1 b2]; simp
  have lng : ¬ Builtin.List.listTooLong (i1.toArray.size * k.toNat) = true := by
    rw [notLongL sz]; simp
  have nw : List.foldl (fun u v => u ++ v) #[] (List.replicate (if i1.toArray.isEmpty = true then 0 else k.toNat) i1.toArray) = (List.replicate k.toNat i1).flatten.toArray := by
    rw [fold_rep]
    cases i1 with
    | nil => simp
    | cons a r => rw [if_neg (by simp)]
  refine wpAny_binaryOp_repeat_ref (T := "list") (U := "int") (by decide) ⟨_, g1, rfl⟩
    (fun s' => typeIs_int s' k tk) noFill_list_mul F.fills_int_mul F.slot_int_rmul repeat_list F.slot_int_index.lookup
    (call_meets F.slot_int_rmul (typeIs_int s k tk) F.entry_int_rmul (F.args_int_rmul_2 _ _)
      (int___rmul___int_list k tk l i1.toArray n1) ⟨g1, rfl, ⟨_, g1, rfl⟩,
        call_meets F.slot_list_mul ⟨_, g1, rfl⟩ F.entry_list_mul
          (F.args_list_mul_2 _ _) (AutoListH.list___mul___list_int_3 l i1.toArray n1 k tk fit cap lng) ⟨g1, ?_⟩⟩)
  rw [nw]
  exact ⟨.ref _, _, I.lnew (t' := s.toks) (w1.rep k.toNat) (by rw [lm_len_rep_flat, Nat.mul_comm]; exact hz), rfl, q _ I.fresh⟩
end DL

set_option Elab.async false
set_option linter.all false
set_option maxRecDepth 100000
set_option maxHeartbeats 4000000
/-! DLX: what is refused, and caught -/
namespace DL
open PySem PySem.Spec PyProof.Rows L2
abbrev rNotNone : R2 := fun x y H Q => y = .non ∧ Q (.bl (!decide (x = .non))) H
abbrev rIsNone : R2 := fun x y H Q => y = .non ∧ Q (.bl (decide (x = .non))) H
/-- refused with the class at C, of nought beneath -/
def TPartX (C : Addr) : List PyData → (PyData → Prop) → (Addr → Prop) → Prop := fun ds _ Ψ => ∃ a : Int, ds = [.int a, .int 0] ∧ Ψ C
def TOverX (C : Addr) : List PyData → (PyData → Prop) → (Addr → Prop) → Prop := fun ds _ Ψ => ∃ a b d : Int, ds = [pr (a, b), pr (0, d)] ∧ Wd4 a b 0 d ∧ Ψ C
def t_partX (C : Addr) (E : XK) : TS := tSeq (tIfS (tTest (tOp rEq (tVar 1) (tC (.int 0)))) (fun _ σ H => E (.ref C) none H) tNext) tNo
def t_overX (K : PySem.W.Frag) (C : Addr) (E : XK) : TS :=
  (tRet (tCall (spX K (TPartX C)) [] E (tCons (tOp rMulI (tOp (rIxT K) (tVar 0) (tC (.int 0))) (tOp (rIxT K) (tVar 1) (tC (.int 1)))) (tCons (tOp rMulI (tOp (rIxT K) (tVar 0) (tC (.int 1))) (tOp (rIxT K) (tVar 1) (tC (.int 0)))) tNil))))
local macro_rules | `(tactic| walk_at "dl") => `(tactic| repeat' (first
  | with_reducible refine wd_isTy ?_ | with_reducible refine wd_isi ?_ | with_reducible refine wd_op ?_ | ((with_reducible show WD _ _ (tCB (rLenX _) (tCons (tVar _) tNil)) _ _); refine wd_len_scr rfl ?_) | with_reducible refine wd_cb ?_ | with_reducible refine wd_un ?_ | with_reducible refine wa_cons ?_ | with_reducible refine wa_nil ?_ | ((with_reducible show WD _ _ (tVar _) _ _); refine wd_var rfl ?_) | with_reducible refine wd_int ?_ | with_reducible refine wd_bl ?_ | with_reducible refine wd_str ?_ | with_reducible refine wd_non ?_
  | with_reducible refine do_add ?_ | with_reducible refine do_sub ?_ | ((with_reducible refine do_mod ?_ ?_); decide) | with_reducible refine do_mod ?_ ?_ | with_reducible refine do_mul ?_ ?_ | ((with_reducible refine do_div ?_ ?_); exact ⟨by decide, by decide⟩) | with_reducible refine do_div ?_ ?_ | ((with_reducible refine do_pow ?_ ?_); exact ⟨by decide, by decide, by decide⟩) | with_reducible refine do_pow ?_ ?_
  | with_reducible refine do_lt ?_ | with_reducible refine do_le ?_ | with_reducible refine do_gt ?_ | with_reducible refine do_ge ?_ | with_reducible refine du_neg ?_
  | with_reducible refine do_eqi ?_ | with_reducible refine do_nei ?_ | with_reducible refine do_eqs ?_ | with_reducible refine do_nes ?_ | with_reducible refine dc_abs ?_ | with_reducible refine dc_min ?_ | with_reducible refine dc_max ?_ | with_reducible refine dc_lenL ?_ | with_reducible refine dc_lenT ?_ | with_reducible refine dc_gcd ?_
  | ((with_reducible show DO _ (rIxT _) _ _ _); refine do_ixT rfl ?_) | ((with_reducible show DO _ (rIxL _) _ _ _); refine do_ixL rfl ?_) | ((with_reducible refine do_catL ?_ ?_); exact Nat.le_of_ble_eq_true rfl) | with_reducible refine do_catL ?_ ?_ | ((with_reducible show And (List.length _ ≤ sizeLine) _); refine ⟨Nat.le_of_ble_eq_true rfl, ?_⟩)
  | with_reducible refine wd_dnew ?_ | with_reducible refine wd_call0 ?_ | with_reducible refine dc_str ?_ ?_ | with_reducible refine wd_tup ?_ | with_reducible refine wd_lst ?_ | with_reducible refine wt_test ?_ | with_reducible refine wt_B ?_ | with_reducible refine wt_not ?_ | with_reducible refine wt_and ?_ | with_reducible refine wt_or ?_ | with_reducible refine wd_ifE ?_ | with_reducible refine wd_andV ?_ | with_reducible refine wd_orV ?_ | with_reducible refine wd_notV ?_
  | with_reducible refine ws_seq ?_ | with_reducible refine ws_next ?_ | with_reducible refine ws_asg ?_ | with_reducible refine ws_ret ?_ | with_reducible refine ws_retN ?_ | with_reducible refine ws_if ?_ | with_reducible refine ws_par ?_ | with_reducible refine ws_unp2 ?_
  | with_reducible refine if_t ?_ | with_reducible refine if_f ?_ | with_reducible refine if_nf ?_ | with_reducible refine if_nt ?_
  | ((with_reducible show Exists _); first | refine ⟨_, kitInt _, ?_⟩ | refine ⟨_, kitBool _, ?_⟩ | refine ⟨_, kitTup _, ?_⟩ | refine ⟨_, kitList _, ?_⟩ | refine ⟨_, rfl, ?_⟩ | refine ⟨_, _, rfl, ?_⟩ | fail) | fail))
/-! ### the two ways of the judge of quotients -/
structure Gd (e : Nat) (a b : Int) : Prop where
  p : 1 ≤ b
  b : b.natAbs < 2 ^ e
  a : a.natAbs < 2 ^ e
def TRight2 : List PyData → (PyData → Prop) → Prop := fun ds Φ => ∃ a b c d : Int, ds = [pr (a, b), pr (c, d)] ∧ Gd 1500 a b ∧ Gd 1500 c d ∧ Φ (.bool true)
def TRight1 : List PyData → (PyData → Prop) → Prop := fun ds Φ => ∃ a b : Int, ds = [pr (a, b)] ∧ Gd 1500 a b ∧ Φ (.bool true)
def ts_or (a : Addr) (_ : Value) (_ : Option Addr) : TS := tAsg (tVar 4) (gName 2)
def tb_or (K : PySem.W.Frag) (C : Addr) (W : WX) : TS := tAsg (tLst (tCons (tCallS (spX K (TOverX C)) (WE W) (tCons (tVar 0) (tCons (tVar 1) tNil))) (tCons tNoE tNil))) (gName 3)
def t_orZ (K : PySem.W.Frag) (C : Addr) : TS :=
  (tSeq (tAsg (tC .non) (gName 2))
    (tSeq (tAsg (tC .non) (gName 3))
    (tSeq (fun D σ H => tb_or K C (wAs K (.ref C) 4 ts_or (fun _ _ _ _ => False) D) D σ H)
    (tSeq (tIfS (tTest (tOp rEq (tOp (rIxT K) (tVar 1) (tC (.int 0))) (tC (.int 0)))) (tRet (tOp rNotNone (tVar 2) (tC .non))) tNext)
    tNo))))
end DL

set_option Elab.async false
set_option linter.all false
set_option maxRecDepth 100000
set_option maxHeartbeats 4000000
namespace DL
open PySem PySem.Spec PyProof.Rows L2
/-! ### the head: facts of one's own, too -/
def obsX (n : Nat) (fa : List He.Fa) (fn : List He.DefD) (ex : PySem.W.Frag → Bool) (g : Addr → Option Obj) : AlG := (He.obsDG n fa fn g, ex (He.frG g (He.asD g n)))
def hookX (n : Nat) (fa : List He.Fa) (fn : List He.DefD) (ex : PySem.W.Frag → Bool) : PySem.W.Hook where
  α := AlG
  obs := fun s => obsX n fa fn ex s.heap.get?
  val := fun _ => (He.valD fn, true)
  says := fun _ h => ∃ K : PySem.W.Frag, K.In h ∧ He.SaysD fa fn K ∧ ex K = true
  of := fun _ _ e => ⟨_, He.frG_in, congrArg Prod.fst e, congrArg Prod.snd e⟩
  keeps := fun _ _ _ ⟨K, hK, c⟩ k => ⟨K, PySem.W.Frag.In.keeps hK k, c⟩
theorem obsX_eq {n : Nat} {fa : List He.Fa} {fn : List He.DefD} {ex : PySem.W.Frag → Bool} {g : Addr → Option Obj} {s : Shared} (h : ∀ a, g a = s.heap.get? a) : obsX n fa fn ex g = (hookX n fa fn ex).obs s := by
  have e : g = s.heap.get? := funext h
  rw [e] <;> rfl
/-- a class of one's own right under ZeroDivisionError -/
abbrev zdBase : List Value := [.type "ZeroDivisionError", .type "ArithmeticError", .type "Exception", .type "BaseException", .type "object"]
structure ExcZ (K : PySem.W.Frag) (C : Addr) : Prop where
  q : PySem.W.excIn K C zdBase "ZeroDivisionError.__new__" = true
  k : PySem.W.keepIn K (.ref C) = true
  s : PySem.W.subIn K (.ref C) (.type "BaseException") = some true
  t : PySem.W.typeIn K (.ref C) = some (.type "type")
  m : PySem.W.exmOne K (.ref C) (.ref C) = some true
def excZB (K : PySem.W.Frag) (C : Addr) : Bool := PySem.W.excIn K C zdBase "ZeroDivisionError.__new__" && (PySem.W.keepIn K (.ref C) && (decide (PySem.W.subIn K (.ref C) (.type "BaseException") = some true) &&
  (decide (PySem.W.typeIn K (.ref C) = some (.type "type")) && decide (PySem.W.exmOne K (.ref C) (.ref C) = some true))))
def TRightN : List PyData → (PyData → Prop) → Prop := fun ds Φ => ∃ a b c d : Int, ds = [pr (a, b), pr (c, d)] ∧ Gd 1500 a b ∧ Gd 1500 c d ∧ c ≠ 0 ∧ Φ (.bool true)
end DL

set_option Elab.async false
set_option linter.all false
set_option maxRecDepth 100000
set_option maxHeartbeats 4000000
/-! DLE: a caught error that is looked at behind its suite -/
namespace DL
open PySem PySem.Spec PyProof.Rows L2
/-- what is known of an error: its class, no dict -/
def excAt (a : Addr) (cls : Value) : Heap → Prop := fun h => ∃ oe vs, h.get? a = some oe ∧ Zc cls none oe ∧ oe.data = .fields vs
section
variable {X : Cx} {pins : List (Addr × Obj)} {σ : L2.St} {H : Hp} {s sI : Shared}
end
/-- the clause 'except x as n' that takes what comes, and after whose suite the error is still known -/
def wKeep (K : PySem.W.Frag) (c : Value) (i : Nat) (ts : Addr → TS) (D : Ends) : WX := fun cls d σ H =>
  d = none ∧ PySem.W.exmOne K cls c = some true ∧ ∀ a, H a = none →
    ts a { nx := fun σ2 H2 => D.nx (σ2.set i none) (upd H2 a (.ext (excAt a cls))), rt := fun _ _ => False } (σ.set i (some (.ref a))) H
section
variable {X : Cx} {x n : Str} {c : Value} {i : Nat} {body suite : List Stmt} {st : Stmt} {np pos hpos : Pos} {tb : WX → TS} {ts : Addr → TS}
end
end DL

set_option Elab.async false
set_option linter.all false
set_option maxRecDepth 100000
set_option maxHeartbeats 4000000
namespace DL
open PySem PySem.Spec PyProof.Rows L2
def gVone : List V → List V → List V := fun _ zs => zs
def gVrev : List V → List V → List V := fun _ zs => zs.reverse
theorem vals_rev : ∀ {vs : List V} {us : List Value}, Vals vs us → Vals vs.reverse us.reverse
  | [], _, h => by cases h; exact .nil
  | v :: vs, _, h => by
    cases h with
    | cons h1 h2 =>
      rw [List.reverse_cons, List.reverse_cons]
      exact (vals_rev h2).append (.cons h1 .nil)
def gDrev : List PyData → List PyData → List PyData := fun _ zs => zs.reverse
def t_law_over_right (K : PySem.W.Frag) : TS :=
  (tSeq (tAsg (tC .non) (gName 2))
    (tSeq (tAsg (tC .non) (gName 3))
    (tSeq (tAsg (tLst (tCons (tCall (spP K TOver) [] E0 (tCons (tVar 0) (tCons (tVar 1) tNil))) (tCons (tCallN 0 2 (spP K TOver) gVrev E0 tNil (tCons (tVar 1) (tCons (tVar 0) tNil))) tNil))) (gName 3))
    (tSeq (tIfS (tTest (tOp rEq (tOp (rIxT K) (tVar 1) (tC (.int 0))) (tC (.int 0)))) (tRet (tOp rNotNone (tVar 2) (tC .non))) tNext)
    (tRet (tAndV (tOp rIsNone (tVar 2) (tC .non)) (tOp (rEqD K) (tVar 3) (tOp rRepL (tLst (tCons (tCall (spP K TPart) [] E0 (tCons (tOp rMulI (tOp (rIxT K) (tVar 0) (tC (.int 0))) (tOp (rIxT K) (tVar 1) (tC (.int 1)))) (tCons (tOp rMulI (tOp (rIxT K) (tVar 0) (tC (.int 1))) (tOp (rIxT K) (tVar 1) (tC (.int 0)))) tNil))) tNil)) (tC (.int 2))))))))))
def t_law_whole_right (K : PySem.W.Frag) : TS :=
  (tSeq (tPar 1 2 (tCons (tCall (spP K TFloor) [] E0 (tCons (tVar 0) tNil)) (tCons (tCall (spP K TCeil) [] E0 (tCons (tVar 0) tNil)) tNil)))
    (tSeq (tIfS (tTest (tOp rNe (tCB (rRepr K) (tCons (tLst (tCons (tCallN 0 1 (spP K TFloor) gVone E0 tNil (tCons (tVar 0) tNil)) (tCons (tCallN 0 1 (spP K TCeil) gVone E0 tNil (tCons (tVar 0) tNil)) tNil))) tNil)) (tCB (rRepr K) (tCons (tLst (tCons (tVar 1) (tCons (tVar 2) tNil))) tNil)))) (tRet (tC (.bl false))) tNext)
    (tSeq (tIfS (tOr (tNot (tB (tCB (rIsi K) (tCons (tVar 1) (tCons (tC (.ty "int")) tNil))))) (tOr (tB (tCB (rIsi K) (tCons (tVar 1) (tCons (tC (.ty "bool")) tNil)))) (tOr (tNot (tB (tCB (rIsi K) (tCons (tVar 2) (tCons (tC (.ty "int")) tNil))))) (tB (tCB (rIsi K) (tCons (tVar 2) (tCons (tC (.ty "bool")) tNil))))))) (tRet (tC (.bl false))) tNext)
    (tSeq (tIfS (tOr (tTest (tOp rGt (tOp rMulI (tVar 1) (tOp (rIxT K) (tVar 0) (tC (.int 1)))) (tOp (rIxT K) (tVar 0) (tC (.int 0))))) (tTest (tOp rLe (tOp rMulI (tOp rAddI (tVar 1) (tC (.int 1))) (tOp (rIxT K) (tVar 0) (tC (.int 1)))) (tOp (rIxT K) (tVar 0) (tC (.int 0)))))) (tRet (tC (.bl false))) tNext)
    (tRet (tAndV (tOp rGe (tOp rMulI (tVar 2) (tOp (rIxT K) (tVar 0) (tC (.int 1)))) (tOp (rIxT K) (tVar 0) (tC (.int 0)))) (tOp rLt (tOp rMulI (tOp rSubI (tVar 2) (tC (.int 1))) (tOp (rIxT K) (tVar 0) (tC (.int 1)))) (tOp (rIxT K) (tVar 0) (tC (.int 0))))))))))
def t_law_right (K : PySem.W.Frag) : TS :=
  (tSeq (tIfS (tOr (tTest (tOp (rNeD K) (tCall (spP K TPlus) [] E0 (tCons (tVar 0) (tCons (tVar 1) tNil))) (tCall (spP K TPlus) [] E0 (tCons (tVar 0) (tCons (tVar 1) tNil))))) (tTest (tOp (rNeD K) (tCall (spP K TLess) [] E0 (tCons (tVar 0) (tCons (tVar 1) tNil))) (tCall (spP K TLess) [] E0 (tCons (tVar 0) (tCons (tVar 1) tNil)))))) (tRet (tC (.bl false))) tNext)
    (tSeq (tIfS (tOr (tTest (tOp (rNeD K) (tCallN 0 2 (spP K TPlus) gVrev E0 tNil (tCons (tVar 1) (tCons (tVar 0) tNil))) (tCall (spP K TPlus) [] E0 (tCons (tVar 0) (tCons (tVar 1) tNil))))) (tTest (tOp (rNeD K) (tCallN 0 2 (spP K TLess) gVrev E0 tNil (tCons (tVar 1) (tCons (tVar 0) tNil))) (tCall (spP K TLess) [] E0 (tCons (tVar 0) (tCons (tVar 1) tNil)))))) (tRet (tC (.bl false))) tNext)
    (tSeq (tIfS (tOr (tTest (tOp (rNeD K) (tCallN 0 2 (spP K TTimes) gVrev E0 tNil (tCons (tVar 1) (tCons (tVar 0) tNil))) (tCall (spP K TTimes) [] E0 (tCons (tVar 0) (tCons (tVar 1) tNil))))) (tTest (tOp rNe (tCallN 0 2 (spP K TUnder) gVrev E0 tNil (tCons (tVar 1) (tCons (tVar 0) tNil))) (tCall (spP K TUnder) [] E0 (tCons (tVar 0) (tCons (tVar 1) tNil)))))) (tRet (tC (.bl false))) tNext)
    (tSeq (tIfS (tOr (tTest (tOp (rNeD K) (tCall (spP K TTimes) [] E0 (tCons (tVar 0) (tCons (tVar 1) tNil))) (tCall (spP K TTimes) [] E0 (tCons (tVar 0) (tCons (tVar 1) tNil))))) (tNot (tB (tCall (spP K TRight2) [] E0 (tCons (tVar 0) (tCons (tVar 1) tNil)))))) (tRet (tC (.bl false))) tNext)
    (tSeq (tIfS (tTest (tOp rNe (tCB (rRepr K) (tCons (tLst (tCons (tCall (spP K TUnder) [] E0 (tCons (tVar 0) (tCons (tVar 1) tNil))) (tCons (tCall (spP K TUnder) [] E0 (tCons (tVar 1) (tCons (tVar 0) tNil))) tNil))) tNil)) (tCB (rRepr K) (tCons (tLst (tCons (tCall (spP K TUnder) [] E0 (tCons (tVar 0) (tCons (tVar 1) tNil))) (tCons (tCall (spP K TUnder) [] E0 (tCons (tVar 1) (tCons (tVar 0) tNil))) tNil))) tNil)))) (tRet (tC (.bl false))) tNext)
    (tRet (tAndV (tCall (spP K TRight1) [] E0 (tCons (tVar 0) tNil)) (tCall (spP K TRight1) [] E0 (tCons (tVar 1) tNil)))))))))

theorem dq_rev {K : PySem.W.Frag} {N : Av} {H : Hp} : ∀ {vs : List V} {ds : List PyData}, DqAll K N H vs ds → DqAll K N H vs.reverse ds.reverse
  | [], _, h => by cases h; exact .nil
  | v :: vs, _, h => by
    cases h with
    | cons h1 h2 =>
      rw [List.reverse_cons, List.reverse_cons]
      exact (dq_rev h2).append (.cons h1 .nil)
section
variable {K : PySem.W.Frag} {S : Stt} {ρ : Rho} {Φ : PyData → Rho → Prop} {Ψ : PyData → Prop}
end
local macro_rules | `(tactic| walk_at "dl") => `(tactic| repeat' (first
  | with_reducible refine wd_isTy ?_ | with_reducible refine wd_isi ?_ | with_reducible refine wd_op ?_ | ((with_reducible show WD _ _ (tCB (rLenX _) (tCons (tVar _) tNil)) _ _); refine wd_len_scr rfl ?_) | with_reducible refine wd_cb ?_ | with_reducible refine wd_un ?_ | with_reducible refine wa_cons ?_ | with_reducible refine wa_nil ?_ | ((with_reducible show WD _ _ (tVar _) _ _); refine wd_var rfl ?_) | with_reducible refine wd_int ?_ | with_reducible refine wd_bl ?_ | with_reducible refine wd_str ?_ | with_reducible refine wd_non ?_
  | with_reducible refine do_nePr ?_ | with_reducible refine do_nebS ?_ | with_reducible refine do_nesS ?_ | with_reducible refine do_isNn ?_ | with_reducible refine do_add ?_ | with_reducible refine do_sub ?_ | ((with_reducible refine do_mod ?_ ?_); decide) | with_reducible refine do_mod ?_ ?_ | with_reducible refine do_mul ?_ ?_ | ((with_reducible refine do_div ?_ ?_); exact ⟨by decide, by decide⟩) | with_reducible refine do_div ?_ ?_ | ((with_reducible refine do_pow ?_ ?_); exact ⟨by decide, by decide, by decide⟩) | with_reducible refine do_pow ?_ ?_
  | with_reducible refine do_lt ?_ | with_reducible refine do_le ?_ | with_reducible refine do_gt ?_ | with_reducible refine do_ge ?_ | with_reducible refine du_neg ?_
  | with_reducible refine do_eqi ?_ | with_reducible refine do_nei ?_ | with_reducible refine do_eqs ?_ | with_reducible refine do_nes ?_ | with_reducible refine dc_abs ?_ | with_reducible refine dc_min ?_ | with_reducible refine dc_max ?_ | with_reducible refine dc_lenL ?_ | with_reducible refine dc_lenT ?_ | with_reducible refine dc_gcd ?_
  | ((with_reducible show DO _ (rIxT _) _ _ _); refine do_ixT rfl ?_) | ((with_reducible show DO _ (rIxL _) _ _ _); refine do_ixL rfl ?_) | ((with_reducible refine do_catL ?_ ?_); exact Nat.le_of_ble_eq_true rfl) | with_reducible refine do_catL ?_ ?_ | ((with_reducible show And (List.length _ ≤ sizeLine) _); refine ⟨Nat.le_of_ble_eq_true rfl, ?_⟩)
  | with_reducible refine wd_dnew ?_ | with_reducible refine wd_c2 rfl rfl (by assumption) (by first | assumption | exact trivial) ?_ | with_reducible refine wd_n2 rfl rfl (by assumption) (by first | assumption | exact trivial) ?_ | with_reducible refine wd_c1 rfl (by assumption) (by assumption) ?_ | with_reducible refine wd_n1 rfl (by assumption) (by assumption) ?_ | with_reducible refine wd_call0 ?_ | with_reducible refine dc_str ?_ ?_ | with_reducible refine wd_tup ?_ | with_reducible refine wd_lst ?_ | with_reducible refine wt_test ?_ | with_reducible refine wt_B ?_ | with_reducible refine wt_not ?_ | with_reducible refine wt_and ?_ | with_reducible refine wt_or ?_ | with_reducible refine wd_ifE ?_ | with_reducible refine wd_andV ?_ | with_reducible refine wd_orV ?_ | with_reducible refine wd_notV ?_
  | with_reducible refine ws_seq ?_ | with_reducible refine ws_next ?_ | with_reducible refine ws_asg ?_ | with_reducible refine ws_ret ?_ | with_reducible refine ws_retN ?_ | with_reducible refine ws_if ?_ | with_reducible refine ws_par ?_ | with_reducible refine ws_unp2 ?_
  | with_reducible refine if_t ?_ | with_reducible refine if_f ?_ | with_reducible refine if_nf ?_ | with_reducible refine if_nt ?_
  | ((with_reducible show Exists _); first | refine ⟨_, kitInt _, ?_⟩ | refine ⟨_, kitBool _, ?_⟩ | refine ⟨_, kitTup _, ?_⟩ | refine ⟨_, kitList _, ?_⟩ | refine ⟨_, rfl, ?_⟩ | refine ⟨_, _, rfl, ?_⟩ | fail) | fail))
section
variable {K : PySem.W.Frag} {ds : List PyData} {Φ : PyData → Prop}
end
end DL

set_option Elab.async false
set_option linter.all false
set_option maxRecDepth 100000
set_option maxHeartbeats 4000000
namespace DL
open PySem PySem.Spec PyProof.Rows L2
local macro_rules | `(tactic| walk_at "dl") => `(tactic| repeat' (first
  | with_reducible refine wd_isTy ?_ | with_reducible refine wd_isi ?_ | with_reducible refine wd_op ?_ | ((with_reducible show WD _ _ (tCB (rLenX _) (tCons (tVar _) tNil)) _ _); refine wd_len_scr rfl ?_) | with_reducible refine wd_cb ?_ | with_reducible refine wd_un ?_ | with_reducible refine wa_cons ?_ | with_reducible refine wa_nil ?_ | ((with_reducible show WD _ _ (tVar _) _ _); refine wd_var rfl ?_) | with_reducible refine wd_int ?_ | with_reducible refine wd_bl ?_ | with_reducible refine wd_str ?_ | with_reducible refine wd_non ?_
  | with_reducible refine do_nesS ?_ | with_reducible refine do_add ?_ | with_reducible refine do_sub ?_ | ((with_reducible refine do_mod ?_ ?_); decide) | with_reducible refine do_mod ?_ ?_ | with_reducible refine do_mul ?_ ?_ | ((with_reducible refine do_div ?_ ?_); exact ⟨by decide, by decide⟩) | with_reducible refine do_div ?_ ?_ | ((with_reducible refine do_pow ?_ ?_); exact ⟨by decide, by decide, by decide⟩) | with_reducible refine do_pow ?_ ?_
  | with_reducible refine do_lt ?_ | with_reducible refine do_le ?_ | with_reducible refine do_gt ?_ | with_reducible refine do_ge ?_ | with_reducible refine du_neg ?_
  | with_reducible refine do_eqi ?_ | with_reducible refine do_nei ?_ | with_reducible refine do_eqs ?_ | with_reducible refine do_nes ?_ | with_reducible refine dc_abs ?_ | with_reducible refine dc_min ?_ | with_reducible refine dc_max ?_ | with_reducible refine dc_lenL ?_ | with_reducible refine dc_lenT ?_ | with_reducible refine dc_gcd ?_
  | ((with_reducible show DO _ (rIxT _) _ _ _); refine do_ixT rfl ?_) | ((with_reducible show DO _ (rIxL _) _ _ _); refine do_ixL rfl ?_) | ((with_reducible refine do_catL ?_ ?_); exact Nat.le_of_ble_eq_true rfl) | with_reducible refine do_catL ?_ ?_ | ((with_reducible show And (List.length _ ≤ sizeLine) _); refine ⟨Nat.le_of_ble_eq_true rfl, ?_⟩)
  | with_reducible refine wd_dnew ?_ | with_reducible refine wd_call0 ?_ | with_reducible refine dc_str ?_ ?_ | with_reducible refine wd_tup ?_ | with_reducible refine wd_lst ?_ | with_reducible refine wt_test ?_ | with_reducible refine wt_B ?_ | with_reducible refine wt_not ?_ | with_reducible refine wt_and ?_ | with_reducible refine wt_or ?_ | with_reducible refine wd_ifE ?_ | with_reducible refine wd_andV ?_ | with_reducible refine wd_orV ?_ | with_reducible refine wd_notV ?_
  | with_reducible refine ws_seq ?_ | with_reducible refine ws_next ?_ | with_reducible refine ws_asg ?_ | with_reducible refine ws_ret ?_ | with_reducible refine ws_retN ?_ | with_reducible refine ws_if ?_ | with_reducible refine ws_par ?_ | with_reducible refine ws_unp2 ?_
  | with_reducible refine if_t ?_ | with_reducible refine if_f ?_ | with_reducible refine if_nf ?_ | with_reducible refine if_nt ?_
  | ((with_reducible show Exists _); first | refine ⟨_, kitInt _, ?_⟩ | refine ⟨_, kitBool _, ?_⟩ | refine ⟨_, kitTup _, ?_⟩ | refine ⟨_, kitList _, ?_⟩ | refine ⟨_, rfl, ?_⟩ | refine ⟨_, _, rfl, ?_⟩ | fail) | fail))
def gVapp : List V → List V → List V := fun vs zs => vs ++ zs
def gDapp : List PyData → List PyData → List PyData := fun vs zs => vs ++ zs
def gVone1 : List V → List V → List V := fun _ zs => zs ++ [.int 1]
def gDone1 : List PyData → List PyData → List PyData := fun _ zs => zs ++ [.int 1]
def TNumber : Nat → List PyData → (PyData → Nat → Prop) → Prop := fun B ds Φ => ds = [] ∧ B + 2400 ≤ 2 ^ 40 ∧ ∀ n : Int, n.natAbs < 2 ^ 100 → Φ (.int n) (B + 2400)
def TRefused : List PyData → (PyData → Prop) → Prop := fun ds Φ => ∃ a w : Int, ds = [.int a, .int w] ∧ Φ (.bool true)
def t_law_number (K : PySem.W.Frag) : TS :=
  (tSeq (tAsg (tCall (spS K FSto TDr) [] E0 (tCons (tVar 0) (tCons (tC (.int 5)) tNil))) (gName 1))
    (tSeq (tAsg (tLst (tCons (tC (.int 0)) (tCons (tOp rAddI (tC (.int 1)) (tCall (spS K FSto TDr) [] E0 (tCons (tVar 0) (tCons (tC (.int 12)) tNil)))) (tCons (tCall (spS K FSto TDr) [] E0 (tCons (tVar 0) (tCons (tC (.int 1000)) tNil))) (tCons (tCall (spS K FSto TDr) [] E0 (tCons (tVar 0) (tCons (tOp rPowI (tC (.int 10)) (tC (.int 30))) tNil))) tNil))))) (gName 2))
    (tRet (tOp rMulI (tOp (rIxL K) (tOp rCatL (tVar 2) (tLst (tCons (tOp rMulI (tC (.int 360)) (tCall (spS K FSto TDr) [] E0 (tCons (tVar 0) (tCons (tC (.int 99)) tNil)))) tNil))) (tVar 1)) (tOp (rIxL K) (tLst (tCons (tC (.int 1)) (tCons (tUn rNegI (tC (.int 1))) tNil))) (tCall (spS K FSto TDr) [] E0 (tCons (tVar 0) (tCons (tC (.int 2)) tNil))))))))
section
variable {K : PySem.W.Frag} {S : Stt}
local macro_rules | `(tactic| walk_at "dl") => `(tactic| repeat' (first
  | with_reducible refine wd_isTy ?_ | with_reducible refine wd_isi ?_ | with_reducible refine wd_op ?_ | ((with_reducible show WD _ _ (tCB (rLenX _) (tCons (tVar _) tNil)) _ _); refine wd_len_scr rfl ?_) | with_reducible refine wd_cb ?_ | with_reducible refine wd_un ?_ | with_reducible refine wa_cons ?_ | with_reducible refine wa_nil ?_ | ((with_reducible show WD _ _ (tVar _) _ _); refine wd_var rfl ?_) | with_reducible refine wd_int ?_ | with_reducible refine wd_bl ?_ | with_reducible refine wd_str ?_ | with_reducible refine wd_non ?_
  | with_reducible refine do_nesS ?_ | with_reducible refine do_add ?_ | with_reducible refine do_sub ?_ | ((with_reducible refine do_mod ?_ ?_); decide) | with_reducible refine do_mod ?_ ?_ | with_reducible refine do_mul ?_ ?_ | ((with_reducible refine do_div ?_ ?_); exact ⟨by decide, by decide⟩) | with_reducible refine do_div ?_ ?_ | ((with_reducible refine do_pow ?_ ?_); exact ⟨by decide, by decide, by decide⟩) | with_reducible refine do_pow ?_ ?_
  | with_reducible refine do_lt ?_ | with_reducible refine do_le ?_ | with_reducible refine do_gt ?_ | with_reducible refine do_ge ?_ | with_reducible refine du_neg ?_
  | with_reducible refine do_eqi ?_ | with_reducible refine do_nei ?_ | with_reducible refine do_eqs ?_ | with_reducible refine do_nes ?_ | with_reducible refine dc_abs ?_ | with_reducible refine dc_min ?_ | with_reducible refine dc_max ?_ | with_reducible refine dc_lenL ?_ | with_reducible refine dc_lenT ?_ | with_reducible refine dc_gcd ?_
  | ((with_reducible show DO _ (rIxT _) _ _ _); refine do_ixT rfl ?_) | ((with_reducible show DO _ (rIxL _) _ _ _); refine do_ixL rfl ?_) | ((with_reducible refine do_catL ?_ ?_); exact Nat.le_of_ble_eq_true rfl) | with_reducible refine do_catL ?_ ?_ | ((with_reducible show And (List.length _ ≤ sizeLine) _); refine ⟨Nat.le_of_ble_eq_true rfl, ?_⟩)
  | with_reducible refine wd_dnew ?_ | with_reducible refine wd_pt rfl rfl (by assumption) (by assumption) (by assumption) ?_ | with_reducible refine wd_ptR rfl rfl (by assumption) (by assumption) (by assumption) ?_ | with_reducible refine wd_ptB rfl rfl (by assumption) (by assumption) (by assumption) ?_ | with_reducible refine wd_ptD rfl (by assumption) ?_ | with_reducible refine wd_ptA rfl (by assumption) ?_ | with_reducible refine wd_call0 ?_ | with_reducible refine dc_str ?_ ?_ | with_reducible refine wd_tup ?_ | with_reducible refine wd_lst ?_ | with_reducible refine wt_test ?_ | with_reducible refine wt_B ?_ | with_reducible refine wt_not ?_ | with_reducible refine wt_and ?_ | with_reducible refine wt_or ?_ | with_reducible refine wd_ifE ?_ | with_reducible refine wd_andV ?_ | with_reducible refine wd_orV ?_ | with_reducible refine wd_notV ?_
  | with_reducible refine ws_seq ?_ | with_reducible refine ws_next ?_ | with_reducible refine ws_asg ?_ | with_reducible refine ws_ret ?_ | with_reducible refine ws_retN ?_ | with_reducible refine ws_if ?_ | with_reducible refine ws_par ?_ | with_reducible refine ws_unp2 ?_
  | with_reducible refine if_t ?_ | with_reducible refine if_f ?_ | with_reducible refine if_nf ?_ | with_reducible refine if_nt ?_
  | ((with_reducible show Exists _); first | refine ⟨_, kitInt _, ?_⟩ | refine ⟨_, kitBool _, ?_⟩ | refine ⟨_, kitTup _, ?_⟩ | refine ⟨_, kitList _, ?_⟩ | refine ⟨_, rfl, ?_⟩ | refine ⟨_, _, rfl, ?_⟩ | fail) | fail))
def t_tail3 (K : PySem.W.Frag) : TS :=
    (tSeq (tAsg (tCall (spP K TPart) [] E0 (tCons (tVar 3) (tCons (tVar 4) tNil))) (gName 5))
    (tSeq (tIfS (tTest (tOp rNe (tCB (rRepr K) (tCons (tLst (tCons (tCall (spP K TPart) [] E0 (tCons (tVar 3) (tCons (tVar 4) tNil))) (tCons (tCallN 0 2 (spP K TPart) gVrev E0 tNil (tCons (tVar 4) (tCons (tVar 3) tNil))) (tCons (tCallN 1 1 (spP K TPart) gVapp E0 (tCons (tVar 3) tNil) (tCons (tVar 4) tNil)) tNil)))) tNil)) (tCB (rRepr K) (tCons (tLst (tCons (tVar 5) (tCons (tVar 5) (tCons (tVar 5) tNil)))) tNil)))) (tRet (tC (.bl false))) tNext)
    (tIfS (tTest (tOp rNe (tCB (rRepr K) (tCons (tLst (tCons (tCall (spP K TPart) [.int 1] E0 (tCons (tVar 3) tNil)) (tCons (tCallN 0 1 (spP K TPart) gVone1 E0 tNil (tCons (tVar 3) tNil)) tNil))) tNil)) (tCB (rRepr K) (tCons (tLst (tCons (tTup (tCons (tVar 3) (tCons (tC (.int 1)) tNil))) (tCons (tTup (tCons (tVar 3) (tCons (tC (.int 1)) tNil))) tNil))) tNil)))) (tRet (tC (.bl false))) tNext)))
def t_law_rest3 (K : PySem.W.Frag) (aN aO : Addr) : TS :=
    (tSeq (tFor (iRng1 (tCons (tOp rAddI (tC (.int 20)) (tCB rMinX (tCons (tC (.int 40)) (tCons (tCB (rLenX K) (tCons (tVar 0) tNil)) tNil)))) tNil)) (gName 2) (tSeq (tAsg (tCall (spS K FSto TNumber) [] E0 (tCons (tVar 1) tNil)) (gName 3))
    (tSeq (tAsg (tCall (spS K FSto TNumber) [] E0 (tCons (tVar 1) tNil)) (gName 4))
    (tSeq (tIfS (tTest (tOp rEq (tVar 4) (tC (.int 0)))) (tSeq (tIfS (tOr (tNot (tB (tCall (spP K TRefused) [] E0 (tCons (tVar 3) (tCons (tC (.int 0)) tNil))))) (tNot (tB (tCall (spP K TRefused) [] E0 (tCons (tVar 3) (tCons (tC (.int 1)) tNil)))))) (tRet (tC (.bl false))) tNext)
    (tAsg (tC (.int 1)) (gName 4))) tNext)
    (tSeq (tAsg (tCall (spP K TPart) [] E0 (tCons (tVar 3) (tCons (tVar 4) tNil))) (gName 5))
    (tSeq (tIfS (tTest (tOp rNe (tCB (rRepr K) (tCons (tLst (tCons (tCall (spP K TPart) [] E0 (tCons (tVar 3) (tCons (tVar 4) tNil))) (tCons (tCallN 0 2 (spP K TPart) gVrev E0 tNil (tCons (tVar 4) (tCons (tVar 3) tNil))) (tCons (tCallN 1 1 (spP K TPart) gVapp E0 (tCons (tVar 3) tNil) (tCons (tVar 4) tNil)) tNil)))) tNil)) (tCB (rRepr K) (tCons (tLst (tCons (tVar 5) (tCons (tVar 5) (tCons (tVar 5) tNil)))) tNil)))) (tRet (tC (.bl false))) tNext)
    (tIfS (tTest (tOp rNe (tCB (rRepr K) (tCons (tLst (tCons (tCall (spP K TPart) [.int 1] E0 (tCons (tVar 3) tNil)) (tCons (tCallN 0 1 (spP K TPart) gVone1 E0 tNil (tCons (tVar 3) tNil)) tNil))) tNil)) (tCB (rRepr K) (tCons (tLst (tCons (tTup (tCons (tVar 3) (tCons (tC (.int 1)) tNil))) (tCons (tTup (tCons (tVar 3) (tCons (tC (.int 1)) tNil))) tNil))) tNil)))) (tRet (tC (.bl false))) tNext)))))))
    (tRet (tAndV (tOp (rEqD K) (tCall (spP K TPart) [] E0 (tCons (tC (.int 0)) (tCons (tC (.int 7)) tNil))) (tC (.ref aN))) (tAndV (tOp (rEqD K) (tCall (spP K TPart) [] E0 (tCons (tUn rNegI (tC (.int 3))) (tCons (tUn rNegI (tC (.int 3))) tNil))) (tC (.ref aO))) (tAndV (tOp (rEqD K) (tC (.ref aN)) (tTup (tCons (tC (.int 0)) (tCons (tC (.int 1)) tNil)))) (tOp (rEqD K) (tC (.ref aO)) (tTup (tCons (tC (.int 1)) (tCons (tC (.int 1)) tNil)))))))))
end
end DL

set_option Elab.async false
set_option linter.all false
set_option maxRecDepth 100000
set_option maxHeartbeats 4000000
namespace DL
open PySem PySem.Spec PyProof.Rows L2
/-! ### isinstance of a kept error -/
def rIsiE (K : PySem.W.Frag) (D : Addr) : List V → Hp → VK → Prop := fun xs H Q => ∃ (a : Addr) (c : V) (u : Value) (b : Bool), xs = [.ref a, c] ∧ ClsV c u ∧ H a = some (.ext (excAt a (.ref D))) ∧ PySem.W.kitOne K (.ref D) u = some b ∧ Q (.bl b) H
def rIsiET (K : PySem.W.Frag) (D : Addr) : List V → Hp → VK → Prop := fun xs H Q => ∃ (a tp : Addr) (cs : List V) (us : List Value) (b : Bool), xs = [.ref a, .ref tp] ∧ H tp = some (.tup cs) ∧ Paired ClsV cs us ∧ H a = some (.ext (excAt a (.ref D))) ∧ PySem.W.kitAny K (.ref D) us = some b ∧ Q (.bl b) H
section
variable {X : Cx} {pins : List (Addr × Obj)} {σ : L2.St} {H : Hp} {s : Shared} {a D : Addr}
end
/-! ### a call by names that may be refused, in a try -/
def tCallNS (m : Nat) (sp : Sp) (gV : List V → List V → List V) (E : L2.St → XK) (tk : TA) : TE := fun σ H Q => tk σ H fun zs H2 => zs.length = m ∧ sp (gV [] zs) H2 Q (E σ)
/-! ### the judge of refusals -/
def ts_rf (a : Addr) : TS := tAsg (tVar 3) (gName 2)
def tb_rf (K : PySem.W.Frag) (C : Addr) (W : WX) : TS := tIfS (tTest (tOp rEq (tVar 1) (tC (.int 0)))) (tDrop (tCallS (spX K (TPartX C)) (WE W) (tCons (tVar 0) (tCons (tC (.int 0)) tNil))))
  (tDrop (tCallNS 2 (spX K (TPartX C)) gVrev (WE W) (tCons (tC (.int 0)) (tCons (tVar 0) tNil))))
def te_rf (K : PySem.W.Frag) (C P : Addr) : TE := tAndV (tCB (rIsiE K C) (tCons (tVar 2) (tCons (tC (.ty "ZeroDivisionError")) tNil))) (tNotV (tCB (rIsiET K C) (tCons (tVar 2) (tCons (tTup (tCons (tC (.ref P)) (tCons (tC (.ty "ValueError")) tNil))) tNil))))
def t_rf (K : PySem.W.Frag) (C P : Addr) : TS :=
  (tSeq (tAsg (tC .non) (gName 2))
    (tSeq (fun D σ H => tb_rf K C (wKeep K (.ref C) 3 ts_rf D) D σ H)
    (tRet (te_rf K C P))))
end DL
namespace DL
open PySem PySem.Spec PyProof.Rows L2
def excCB (K : PySem.W.Frag) (D : Addr) : Bool := decide (PySem.W.findIn K (.ref D) "__getattribute__" = some (some (.builtin "BaseException.__getattribute__"))) && (decide (PySem.W.findIn K (.ref D) "__getattr__" = some none) &&
  (decide (PySem.W.subIn K (.ref D) (.type "BaseException") = some true) && (PySem.W.hasDictIn K D && (decide (PySem.W.findIn K (.ref D) "__class__" = some (some (.builtin "object.__class__"))) &&
  (decide (PySem.W.specialIn K (.builtin "object.__class__") "__get__" = some (some (.builtin "getset_descriptor.__get__"))) && (decide (PySem.W.takesIn K (.builtin "object.__class__") = some true) && decide (PySem.W.mroIn K D (.type "object") = some true)))))))
end DL

set_option Elab.async false
set_option linter.all false
set_option maxRecDepth 100000
set_option maxHeartbeats 4000000
namespace DL
open PySem PySem.Spec PyProof.Rows L2
def top (i : Nat) : Stmt := PySem.Challenge.pw_paymill_k61_foldings_known.main.body.getD i (.Pass ⟨0, 0, 0, 0⟩)
abbrev FnP (K : PySem.W.Frag) (x : Str) (st : Stmt) (f : Addr) (fd : FuncData) : Prop := FunD K x x (defArgs st) (defBody st) (defScope st) [] [] f fd
abbrev FnD (K : PySem.W.Frag) (x : Str) (st : Stmt) (dvs : List V) (f : Addr) (fd : FuncData) : Prop := FunD K x x (defArgs st) (defBody st) (defScope st) dvs [] f fd
abbrev FnKw (K : PySem.W.Frag) (x : Str) (st : Stmt) (kws : List (Str × V)) (f : Addr) (fd : FuncData) : Prop := FunD K x x (defArgs st) (defBody st) (defScope st) [] kws f fd
abbrev s_is_whole : Stmt := top 1
theorem sc_is_whole : FnScope ["thing"] ["thing"] (defScope s_is_whole) := ⟨rfl, rfl, rfl, by decide +kernel, rfl, by decide +kernel, by decide +kernel⟩

abbrev s_is_rising : Stmt := top 3
theorem sc_is_rising : FnScope ["row", "at"] ["row"] (defScope s_is_rising) := ⟨rfl, rfl, rfl, by decide +kernel, rfl, by decide +kernel, by decide +kernel⟩

abbrev s_is_set : Stmt := top 7
theorem sc_is_set : FnScope ["many", "thing", "place"] ["many", "thing"] (defScope s_is_set) := ⟨rfl, rfl, rfl, by decide +kernel, rfl, by decide +kernel, by decide +kernel⟩

abbrev s_is_folding : Stmt := top 6
theorem sc_is_folding : FnScope ["amounts", "thing", "masks", "one", "other", "place"] ["amounts", "thing"] (defScope s_is_folding) := ⟨rfl, rfl, rfl, by decide +kernel, rfl, by decide +kernel, by decide +kernel⟩

abbrev s_law_mix : Stmt := top 9
theorem sc_law_mix : FnScope ["_law_cell", "_law_k", "_law_number"] ["_law_cell", "_law_k"] (defScope s_law_mix) := ⟨rfl, rfl, rfl, by decide +kernel, rfl, by decide +kernel, by decide +kernel⟩

abbrev s_law_deck : Stmt := top 10
theorem sc_law_deck : FnScope ["_law_cells", "_law_salt"] ["_law_cells", "_law_salt"] (defScope s_law_deck) := ⟨rfl, rfl, rfl, by decide +kernel, rfl, by decide +kernel, by decide +kernel⟩

abbrev s_law_next : Stmt := top 11
theorem sc_law_next : FnScope ["_law_deck_here", "_law_many", "_law_cell", "_law_found"] ["_law_deck_here", "_law_many"] (defScope s_law_next) := ⟨rfl, rfl, rfl, by decide +kernel, rfl, by decide +kernel, by decide +kernel⟩

abbrev s_law_frac : Stmt := top 12
theorem sc_law_frac : FnScope ["_law_above", "_law_below", "_law_one", "_law_other"] ["_law_above", "_law_below"] (defScope s_law_frac) := ⟨rfl, rfl, rfl, by decide +kernel, rfl, by decide +kernel, by decide +kernel⟩

abbrev s_law_amounts : Stmt := top 13
theorem sc_law_amounts : FnScope ["_law_deck_here", "_law_many", "_law_way", "_law_found", "_law_k", "_law_at", "_law_below", "_law_most"] ["_law_deck_here", "_law_many"] (defScope s_law_amounts) := ⟨rfl, rfl, rfl, by decide +kernel, rfl, by decide +kernel, by decide +kernel⟩

abbrev s_law_folding : Stmt := top 14
theorem sc_law_folding : FnScope ["_law_deck_here", "_law_many", "_law_most", "_law_groups", "_law_found", "_law_turn", "_law_way", "_law_set", "_law_other", "_law_place"] ["_law_deck_here", "_law_many", "_law_most"] (defScope s_law_folding) := ⟨rfl, rfl, rfl, by decide +kernel, rfl, by decide +kernel, by decide +kernel⟩

abbrev s_law_whole : Stmt := top 15
theorem sc_law_whole : FnScope ["_law_found"] ["_law_found"] (defScope s_law_whole) := ⟨rfl, rfl, rfl, by decide +kernel, rfl, by decide +kernel, by decide +kernel⟩

abbrev s_law_is_set : Stmt := top 16
theorem sc_law_is_set : FnScope ["_law_many", "_law_thing", "_law_place", "_law_one", "_law_other"] ["_law_many", "_law_thing"] (defScope s_law_is_set) := ⟨rfl, rfl, rfl, by decide +kernel, rfl, by decide +kernel, by decide +kernel⟩

abbrev s_law_due : Stmt := top 17
theorem sc_law_due : FnScope ["_law_many", "_law_thing", "_law_at", "_law_one", "_law_other", "_law_both", "_law_places", "_law_place"] ["_law_many", "_law_thing"] (defScope s_law_due) := ⟨rfl, rfl, rfl, by decide +kernel, rfl, by decide +kernel, by decide +kernel⟩

abbrev s_law_odd_set : Stmt := top 18
theorem sc_law_odd_set : FnScope ["_law_deck_here", "_law_many", "_law_set", "_law_way", "_law_at", "_law_far", "_law_odd", "_law_place"] ["_law_deck_here", "_law_many", "_law_set"] (defScope s_law_odd_set) := ⟨rfl, rfl, rfl, by decide +kernel, rfl, by decide +kernel, by decide +kernel⟩

abbrev s_law_spoilt : Stmt := top 19
theorem sc_law_spoilt : FnScope ["_law_deck_here", "_law_many", "_law_sets", "_law_way", "_law_at", "_law_set", "_law_odd"] ["_law_deck_here", "_law_many", "_law_sets"] (defScope s_law_spoilt) := ⟨rfl, rfl, rfl, by decide +kernel, rfl, by decide +kernel, by decide +kernel⟩

abbrev s_law_right : Stmt := top 20
theorem sc_law_right : FnScope ["_law_some", "_law_thing", "_law_due_here", "_law_found"] ["_law_some", "_law_thing"] (defScope s_law_right) := ⟨rfl, rfl, rfl, by decide +kernel, rfl, by decide +kernel, by decide +kernel⟩

abbrev s_law : Stmt := top 21
theorem sc_law : FnScope ["_law_script", "_law_k", "_law_deck_here", "_law_many", "_law_some", "_law_sets", "_law_turn"] ["_law_script"] (defScope s_law) := ⟨rfl, rfl, rfl, by decide +kernel, rfl, by decide +kernel, by decide +kernel⟩

def d_is_whole : He.DefD := ⟨("is_whole", none), "is_whole", "is_whole", defArgs s_is_whole, defBody s_is_whole, defScope s_is_whole, [], []⟩
def d_is_rising : He.DefD := ⟨("is_rising", none), "is_rising", "is_rising", defArgs s_is_rising, defBody s_is_rising, defScope s_is_rising, [], []⟩
def d_is_set : He.DefD := ⟨("_is_set", none), "_is_set", "_is_set", defArgs s_is_set, defBody s_is_set, defScope s_is_set, [], []⟩
def d_is_folding : He.DefD := ⟨("is_folding", none), "is_folding", "is_folding", defArgs s_is_folding, defBody s_is_folding, defScope s_is_folding, [], []⟩
def d_law_mix : He.DefD := ⟨("_law_mix", none), "_law_mix", "_law_mix", defArgs s_law_mix, defBody s_law_mix, defScope s_law_mix, [], []⟩
def d_law_deck : He.DefD := ⟨("_law_deck", none), "_law_deck", "_law_deck", defArgs s_law_deck, defBody s_law_deck, defScope s_law_deck, [], []⟩
def d_law_next : He.DefD := ⟨("_law_next", none), "_law_next", "_law_next", defArgs s_law_next, defBody s_law_next, defScope s_law_next, [], []⟩
def d_law_frac : He.DefD := ⟨("_law_frac", none), "_law_frac", "_law_frac", defArgs s_law_frac, defBody s_law_frac, defScope s_law_frac, [], []⟩
def d_law_amounts : He.DefD := ⟨("_law_amounts", none), "_law_amounts", "_law_amounts", defArgs s_law_amounts, defBody s_law_amounts, defScope s_law_amounts, [], []⟩
def d_law_folding : He.DefD := ⟨("_law_folding", none), "_law_folding", "_law_folding", defArgs s_law_folding, defBody s_law_folding, defScope s_law_folding, [], []⟩
def d_law_whole : He.DefD := ⟨("_law_whole", none), "_law_whole", "_law_whole", defArgs s_law_whole, defBody s_law_whole, defScope s_law_whole, [], []⟩
def d_law_is_set : He.DefD := ⟨("_law_is_set", none), "_law_is_set", "_law_is_set", defArgs s_law_is_set, defBody s_law_is_set, defScope s_law_is_set, [], []⟩
def d_law_due : He.DefD := ⟨("_law_due", none), "_law_due", "_law_due", defArgs s_law_due, defBody s_law_due, defScope s_law_due, [], []⟩
def d_law_odd_set : He.DefD := ⟨("_law_odd_set", none), "_law_odd_set", "_law_odd_set", defArgs s_law_odd_set, defBody s_law_odd_set, defScope s_law_odd_set, [], []⟩
def d_law_spoilt : He.DefD := ⟨("_law_spoilt", none), "_law_spoilt", "_law_spoilt", defArgs s_law_spoilt, defBody s_law_spoilt, defScope s_law_spoilt, [], []⟩
def d_law_right : He.DefD := ⟨("_law_right", none), "_law_right", "_law_right", defArgs s_law_right, defBody s_law_right, defScope s_law_right, [], []⟩
def d_law : He.DefD := ⟨("law", none), "law", "law", defArgs s_law, defBody s_law, defScope s_law, [], []⟩
def fn : List He.DefD := [d_is_whole, d_is_rising, d_is_set, d_is_folding, d_law_mix, d_law_deck, d_law_next, d_law_frac, d_law_amounts, d_law_folding, d_law_whole, d_law_is_set, d_law_due, d_law_odd_set, d_law_spoilt, d_law_right, d_law]
def fa : List He.Fa := [.glo "is_whole", .glo "is_rising", .glo "_is_set", .glo "is_folding", .glo "_law_mix", .glo "_law_deck", .glo "_law_next", .glo "_law_frac", .glo "_law_amounts", .glo "_law_folding", .glo "_law_whole", .glo "_law_is_set", .glo "_law_due", .glo "_law_odd_set", .glo "_law_spoilt", .glo "_law_right", .glo "law", .free "abs", .free "all", .free "bool", .free "enumerate", .free "int", .free "isinstance", .free "len", .free "list", .free "max", .free "min", .free "range", .free "repr", .free "sorted", .free "sum", .free "tuple", .free "type", .free "zip", .int "_MOST_SETS" 40]
def bs : List (Str × String) := []
def ex (K : PySem.W.Frag) : Bool := bltB K bs
abbrev R : PySem.W.OpenRow := PySem.W.OpenLaw.row PySem.Challenge.rw_paymill_k61_foldings_known
abbrev hk : PySem.W.Hook := hookX 4 fa fn ex
def ob (s : PySem.W.SharedT) : AlG := obsX 4 fa fn ex (HandSHeadRun.getT s)
theorem ob_eq (s : PySem.W.SharedT) : ob s = hk.obs s.abs := obsX_eq (HandSHeadRun.getT_eq s)
def loose : List Str := (["__name__", "_MOST_SETS", "is_whole", "is_rising", "is_folding", "_is_set", "_law_mix", "_law_deck", "_law_next", "_law_frac", "_law_amounts", "_law_folding", "_law_whole", "_law_is_set", "_law_due", "_law_odd_set", "_law_spoilt", "_law_right"] : List Str)
theorem run (w : World) : HandSHeadRun.RunEqI R (PySem.W.view R.prog [21]) hk ob 20000 loose w := HH.run w
end DL

set_option Elab.async false
set_option linter.all false
set_option maxRecDepth 100000
set_option maxHeartbeats 4000000
/-! DM1: enumerate of a tuple; how many of a list are alike -/
namespace DL
open PySem PySem.Spec PyProof.Rows L2 Sem
set_option maxHeartbeats 1000000 in
theorem meets_enum1 {v : Value} {o : Obj} {H : Heap → Prop} (B : Begins v o H) :
    PySem.Meets (Builtin.«enumerate.__new__» ⟨[.type "enumerate", v], []⟩) (fun _ R s => H s.heap ∧
      R (.ok (.ret (.ref (s.heap.push o).objs.size))) { s with heap := (s.heap.push o).push { cls := .type "enumerate", data := .fields #[.none, .bool false, .ref s.heap.objs.size, rawInt 0, .none, .none] } }) :=
  .of_wp fun prog w A R s h => by
    obtain ⟨hp, g, d, tk, os⟩ := s; obtain ⟨h1, h⟩ := h
    have hsub := sub_enumerate
    have q1 : ∀ {A' : Around} {E : Value → Shared → Prop} {Q : Value → Shared → Prop}, Q (.ref hp.objs.size) ⟨hp.push o, g, d, tk, os⟩ → wpAny (model prog w) A' (pyIter v) Q E ⟨hp, g, d, tk, os⟩ :=
      fun q => B.iter prog w _ _ ⟨hp, g, d, tk, os⟩ _ h1 q
    wp_walk using q1
    refine wpAny_stack_any fun st => wpAny_pure ?_
    split
    · rename_i c _ _ _ _ _
      cases (c == Value.type "enumerate")
      · wp_walk using q1
        exact ⟨_, rfl, h⟩
      · wp_walk using q1
        exact ⟨_, rfl, h⟩
    · wp_walk using q1
      exact ⟨_, rfl, h⟩
section
variable {prog : Program} {w : World} {A : Around} {E : Value → Shared → Prop} {s : Shared}
theorem enum_begins1 {v : Value} {o : Obj} {H : Heap → Prop} {Q : Value → Shared → Prop} (B : Begins v o H) (h1 : H s.heap)
    (h : ∀ h', IsEnum h' (s.heap.objs.size + 1) s.heap.objs.size 0 .none → h'.get? s.heap.objs.size = some o → h'.objs.size = s.heap.objs.size + 2 →
      (∀ b o, s.heap.get? b = some o → h'.get? b = some o) → Q (.ref (s.heap.objs.size + 1)) { s with heap := h' }) :
    wpAny (model prog w) A (call (.type "enumerate") [v]) Q E s := by
  refine callType_new F.called_enumerate (by decide) (F.typeCall_enumerate_1 _) (F.newCall_enumerate_1 _) (fun obj => F.args_object_init_2 obj _) F.entry_enumerate_new
    (meets_enum1 B) ⟨h1, ?_⟩
  have hz : (s.heap.push o).objs.size = s.heap.objs.size + 1 := Heap.size_push ..
  show _ ∧ _
  rw [hz]
  have he : IsEnum ((s.heap.push o).push { cls := .type "enumerate", data := .fields #[.none, .bool false, .ref s.heap.objs.size, rawInt 0, .none, .none] }) (s.heap.objs.size + 1) s.heap.objs.size 0 .none := by
    have := Heap.get?_push_size (s.heap.push o) (o := { cls := .type "enumerate", data := .fields #[.none, .bool false, .ref s.heap.objs.size, rawInt 0, .none, .none] }) rfl
    rw [hz] at this; exact this
  refine ⟨⟨_, he, rfl⟩, h _ he (Heap.get?_push_of_some _ (Heap.get?_push_size _ B.free)) (by rw [Heap.size_push, hz]) fun b o x => Heap.get?_push_of_some _ (Heap.get?_push_of_some _ x)⟩
end
/-- the tuple at a, each item in a new pair -/
def Iet (K : PySem.W.Frag) (a : Addr) : It :=
  ⟨fun i H => ∃ (xs : List V) (x : V), SqT K H a xs ∧ xs[i]? = some x, fun i H v H' => ∃ T x, v = .ref T ∧ H T = none ∧ H' = upd H T (.tup [.int (i : Nat), x]) ∧ ∀ xs, SqT K H a xs → xs[i]? = some x, fun i H => ∃ xs : List V, SqT K H a xs ∧ xs.length = i⟩
theorem turn_enumT {P : Program} {w : World} {K : PySem.W.Frag} {elts : List Expr} {kk : Nat} {tpos : Pos} (a e it : Addr) :
    Turn P w K (.Tuple elts kk tpos) (Iet K a) [e, it] e (fun i h => (∃ old, IsEnum h e it ((i : Nat) : Int) old) ∧ h.IsTupleIter it a i ∧ e ≠ it) where
  mem := by simp
  obj := fun i h st b hb => by
    obtain ⟨⟨old, he⟩, ⟨o, ho, hc, hd⟩, _⟩ := st
    have e' : b = e ∨ b = it := by simpa using hb
    rcases e' with z | z
    · rw [z]; exact ⟨_, he, fun v q => nomatch q⟩
    · rw [z]; exact ⟨o, ho, fun v q => by rw [hd] at q; cases q⟩
  keep := fun i h h' st k => let ⟨⟨old, he⟩, hi, hne⟩ := st; ⟨⟨old, k e (by simp) _ he⟩, hi.at fun o q => k it (by simp) o q, hne⟩
  item := by
    intro X hP hw hK hc i pins s σ H E I hf st hg
    subst hP hw hK
    obtain ⟨⟨old, he⟩, hit, hne⟩ := st
    obtain ⟨xs, x, hq, hx⟩ := hg
    obtain ⟨its, rv, p, hz⟩ := I.tuple hq
    obtain ⟨u, hu, ru⟩ := rv.get hx
    have p' : s.heap.IsTuple a its.toArray := p
    have hel : e < s.heap.objs.size := Heap.lt_size he
    have hil : it < s.heap.objs.size := by obtain ⟨_, q, _⟩ := hit; exact Heap.lt_size q
    have nai : a ≠ it := fun z => by
      obtain ⟨o1, e1, c1, _⟩ := hit
      obtain ⟨o2, e2, c2, _⟩ := id p'
      rw [z, e1] at e2; cases e2; rw [c1] at c2; exact absurd c2 (by decide)
    have nae : e ≠ a := fun z => by
      obtain ⟨o2, e2, c2, _⟩ := id p'
      rw [← z, he] at e2; cases e2; exact absurd (show Value.type "enumerate" = Value.type "tuple" from c2) (by decide)
    have hlt : i < its.toArray.size := by simpa using (List.getElem?_eq_some_iff.mp hu).1
    refine wpAny_pyNext_enum_itemC (Draws.tuple (A := X.A.in1) (I.ok.hd hc) it a nai its.toArray) he ⟨hit, p'⟩ hlt hne (by simp [nae, hne]) fun x' h' tk hx' ho hit' hT hsz hk => ?_
    have hx2 : x' = u := by
      have : its.toArray[i]? = some x' := hx'
      have e2 : its.toArray[i]? = some u := by simpa using hu
      rw [e2] at this; cases this; rfl
    subst hx2
    refine ⟨_, rfl, wpAny_letOwnedTupleGo_enum (s := { s with heap := h', toks := tk + 1 }) ho fun h'' he' sb => ?_⟩
    have hT2 : h''.get? s.heap.objs.size = some { cls := .type "tuple", data := .seq #[.int i tk, x'] } := (sb.2 _ (Nat.ne_of_gt hel)).trans hT
    have new : ObjOk X.prog X.w (upd H s.heap.objs.size (.tup [.int (i : Nat), x])) h'' s.heap.objs.size (.tup [.int (i : Nat), x]) :=
      ⟨by show 2 ≤ sizeLine; decide, [.int i tk, x'], .cons ⟨_, rfl⟩ (.cons ru .nil), ⟨_, hT2, rfl, _, rfl⟩⟩
    have I1 : Inv X pins σ (upd H s.heap.objs.size (.tup [.int (i : Nat), x])) { s with heap := h'', toks := tk + 1 } :=
      I.turnedNew (ch := [e, it]) (fun b ob hb q => (sb.2 b (fun z => hb (by simp [z]))).trans (hk b ob (fun z => hb (by simp [z])) (fun z => hb (by simp [z])) q)) hf (Nat.le_refl _) new
    refine ⟨.ref s.heap.objs.size, _, I1, rfl, ⟨_, x, rfl, I.hok.fresh (Nat.le_refl _), rfl, fun ys hy => by rw [I.tuple_inj hy hq]; exact hx⟩, ⟨⟨x', ?_⟩, hit'.1.at fun o q => (sb.2 it (Ne.symm hne)).trans q, hne⟩, fun b hb => ?_⟩
    · have e1 : ((i + 1 : Nat) : Int) = (i : Int) + 1 := by omega
      rw [e1]; exact he'
    · have hb' : b < s.heap.objs.size := by
        have e' : b = e ∨ b = it := by simpa using hb
        rcases e' with z | z
        · rw [z]; exact hel
        · rw [z]; exact hil
      rw [upd_ne (Nat.ne_of_lt hb')]
      exact (hf b hb).1
  done := by
    intro X hP hw hK hc i pins s σ H E I hf st hg
    subst hP hw hK
    obtain ⟨⟨old, he⟩, hit, hne⟩ := st
    obtain ⟨xs, hq, hx⟩ := hg
    obtain ⟨its, rv, p, hz⟩ := I.tuple hq
    have p' : s.heap.IsTuple a its.toArray := p
    obtain ⟨f0, f1, f2, f3, f4, f5⟩ := hf it (by simp)
    have hl := rv.length
    have nai : a ≠ it := fun z => by
      obtain ⟨o1, e1, c1, _⟩ := hit
      obtain ⟨o2, e2, c2, _⟩ := id p'
      rw [z, e1] at e2; cases e2; rw [c1] at c2; exact absurd c2 (by decide)
    have hit2 : s.heap.IsTupleIter it a its.toArray.size := by
      have e : its.toArray.size = i := by simp; omega
      rw [e]; exact hit
    exact wpAny_pyNext_enum_endD (Draws.tuple (A := X.A.in1) (I.ok.hd hc) it a nai its.toArray) he ⟨hit2, p'⟩ fun h' eb => ⟨rfl, I.turned (t' := s.toks) (fun b o hb q => eb b o hb q) f0 f1 f3 f4 f5⟩
  self := fun A i s Q E st h => let ⟨⟨_, he⟩, _⟩ := st; wpAny_pyIter_enum he h
def iEnumT (K : PySem.W.Frag) (ta : TA) : TI := fun σ H R => ta σ H fun vs H1 => ∃ a xs, vs = [.ref a] ∧ SqT K H1 a xs ∧ R (Iet K a) H1
theorem pi_enumT {X : Cx} {e : Expr} {ta : TA} {p pos tpos : Pos} {elts : List Expr} {kk : Nat} (hg : Gl X "enumerate") (hm : X.mg "enumerate" = none) (ha : PA X [e] ta) (hs : starEach [e] X.env = [(false, eval e X.env)] := by rfl) :
    PI X (.Tuple elts kk tpos) (.Call (.Name "enumerate" p) [e] [] pos) (iEnumT X.K ta) := by
  refine ⟨fun pins s σ H R I h => ?_⟩
  refine Call_ (ld_blt I hg hm boot_enumerate (PyProof.Rows.callWith_type1 (thn (ha.run pos pins s σ H _ I h) fun us s1 ⟨vs, H1, I1, r1, q1⟩ => ?_) hs rfl))
  obtain ⟨a, xs, ex, hq, q⟩ := q1
  subst ex
  cases r1 with
  | cons r rr =>
    cases rr
    cases r
    obtain ⟨its, rv, p', hz⟩ := I1.tuple hq
    refine enum_begins1 (begins_tuple a its.toArray) (show s1.heap.IsTuple a its.toArray from p') fun h' he hit hsz hk => wpAny_pyIter_enum he ?_
    have I2 : Inv X pins σ H1 { s1 with heap := h' } := I1.kept (t' := s1.toks) hk
    refine ⟨s1.heap.objs.size + 1, [s1.heap.objs.size + 1, s1.heap.objs.size], _, _, H1, rfl, I2, turn_enumT a (s1.heap.objs.size + 1) s1.heap.objs.size, ⟨⟨.none, he⟩, ⟨_, hit, rfl, rfl⟩, Nat.succ_ne_self _⟩, fun b hb => ?_, q⟩
    have e' : b = s1.heap.objs.size + 1 ∨ b = s1.heap.objs.size := by simpa using hb
    have hle : s1.heap.objs.size ≤ b := by
      rcases e' with z | z
      · rw [z]; exact Nat.le_add_right _ _
      · rw [z]; exact Nat.le_refl _
    exact I1.fpOk hle (I1.hok.fresh hle)
/-! ### how many are alike -/
def rCntF (K : PySem.W.Frag) : V → List V → Hp → VK → Prop := fun x xs H Q => ∃ (a : Addr) (ys : List V) (y : V), x = .ref a ∧ xs = [y] ∧ SqL K H a ys ∧ flatV y = true ∧ ys.all flatV = true ∧ Q (.int (ys.countP fun z => eqV z y : Nat)) H
/-! ### over data -/
section
variable {K : PySem.W.Frag} {S : Stt} {ρ : Rho} {Φ : PyData → Rho → Prop} {Ψ : PyData → Prop}
theorem src_enumT {a : Addr} {ds : List PyData} : Src K (Iet K a) [.dat (.ref a) (.tuple ds)] (ds.mapIdx fun k d => PyData.tuple [.int k, d]) := fun S H0 N0 Z N σ H ρ E => by
  obtain ⟨p, xs, e, _, hr, ha⟩ := Dq.tup_inv (E.hid _ List.mem_cons_self)
  cases e
  refine ⟨fun k d hd => ?_, xs, hr, by rw [ha.len]; simp⟩
  rw [List.getElem?_mapIdx] at hd
  obtain ⟨d0, hd0, rfl⟩ := Option.map_eq_some_iff.mp hd
  obtain ⟨y, hy, hyd⟩ := ha.get hd0
  refine ⟨⟨xs, y, hr, hy⟩, fun v H' ⟨T, x, e1, e2, e3, e4⟩ => ?_⟩
  subst e1; subst e3
  have ex : x = y := Option.some.inj ((e4 xs hr).symm.trans hy)
  subst ex
  have s := same_new e2 (.tup [.int (k : Nat), x])
  exact ⟨s, Dq.tup (fresh_av E.trk e2) upd_same (DqAll.cons (Dt.int _) (DqAll.cons (hyd.keep (Keep.of s)) DqAll.nil))⟩
theorem wi_enumT {ta : TA} {Θ : List PyData → Rho → Prop} (h : WA K S ta ρ fun xs ρ1 => ∃ ds, xs = [.tuple ds] ∧ Θ (ds.mapIdx fun k d => PyData.tuple [.int k, d]) ρ1) : WI K S (iEnumT K ta) ρ Θ := fun H0 N0 Z N σ H E R q =>
  h H0 N0 Z N σ H E _ fun vs xs ρ1 H1 ⟨ds, e, f⟩ E1 k1 d1 => by
    subst e
    cases d1 with
    | cons d1 d2 =>
      cases d2
      obtain ⟨p, xs, rfl, hw, hr, ha⟩ := Dq.tup_inv d1
      exact ⟨p, xs, rfl, hr, q _ _ _ ρ1 H1 f src_enumT no_own1 (E1.push d1) k1⟩
end
end DL

set_option Elab.async false
set_option linter.all false
set_option maxRecDepth 100000
set_option maxHeartbeats 4000000
/-! DLQ: rows, lists or tuples -/
namespace DL
open PySem PySem.Spec PyProof.Rows L2
abbrev tTru (K : PySem.W.Frag) (t : TE) : TT := fun σ H Q => t σ H fun x H1 => ∃ k, TruV K x H1 k ∧ Q k H1
def iRow (K : PySem.W.Frag) (t : TE) : TI := fun σ H R => iList K t σ H R ∨ iTup K t σ H R
def rIxR (K : PySem.W.Frag) : R2 := fun x y H Q => rIxL K x y H Q ∨ rIxT K x y H Q
section
variable {K : PySem.W.Frag} {S : Stt} {ρ : Rho} {Φ : Bool → Rho → Prop} {Ψ : PyData → Prop}
/-- list(row), tuple(row) -/
abbrev rListOf (K : PySem.W.Frag) : List V → Hp → VK → Prop := fun xs H Q => ∃ p ys, xs = [.ref p] ∧ (SqL K H p ys ∨ SqT K H p ys) ∧ ∀ l, H l = none → Q (.ref l) (upd H l (.lst ys))
abbrev rTupOf (K : PySem.W.Frag) : List V → Hp → VK → Prop := fun xs H Q => ∃ p ys, xs = [.ref p] ∧ ((SqL K H p ys ∧ ∀ l, H l = none → Q (.ref l) (upd H l (.tup ys))) ∨ (SqT K H p ys ∧ Q (.ref p) H))
theorem dc_tupL {ds : List PyData} (h : Ψ (.tuple ds)) : DC K (rTupOf K) [.list ds] Ψ := fun N H hN us hu Q q => by
  cases hu with
  | cons h1 h2 =>
    cases h2
    obtain ⟨p, xs, rfl, _, h3, h4⟩ := Dq.lst_inv h1
    refine ⟨p, xs, rfl, .inl ⟨.inl h3, fun z hz => ?_⟩⟩
    have s := same_new hz (.tup xs)
    exact q _ _ _ h s (Dq.tup (fresh_av hN hz) upd_same (h4.keep (Keep.of s)))
end
end DL

set_option Elab.async false
set_option linter.all false
set_option maxRecDepth 100000
set_option maxHeartbeats 4000000
/-! DLO: a list of one's own, read and popped; sums of parts -/
namespace DL
open PySem PySem.Spec PyProof.Rows L2
theorem dtall_erase {K : PySem.W.Frag} {H : Hp} : ∀ {xs : List V} {ds : List PyData} (k : Nat), DtAll K H xs ds → DtAll K H (xs.eraseIdx k) (ds.eraseIdx k)
  | _, _, _, .nil => .nil
  | _, _, 0, .cons _ h2 => h2
  | _, _, k + 1, .cons h1 h2 => .cons h1 (dtall_erase k h2)
section
variable {K : PySem.W.Frag} {S : Stt} {ρ : Rho} {Φ : PyData → Rho → Prop} {Ψ : PyData → Prop}
theorem wd_len_own {i : Nat} {ds : List PyData} (h : ρ[i]? = some (.own ds)) (f : Φ (.int ds.length) ρ) : WD K S (tCB (rLenX K) (tCons (tVar i) tNil)) ρ Φ := fun H0 N0 Z N σ H E Q q => by
  obtain ⟨p, xs, g1, g2, g3, g4, g5, g6, g7⟩ := E.slot i _ h
  exact ⟨_, g1, p, xs, rfl, .inl (.inl (.inl g6)), q _ _ ρ H (by rw [g7.len]; exact f) E Keep.refl (Dt.int _)⟩
theorem wd_ix_own {i : Nat} {te : TE} {es : List PyData} (h0 : ρ[i]? = some (.own es)) (h : WD K S te ρ fun y ρ1 => ∃ ds z e, y = .int z ∧ ρ1[i]? = some (.own ds) ∧ atI ds z = some e ∧ Φ e ρ1) : WD K S (tOp (rIxL K) (tVar i) te) ρ Φ := fun H0 N0 Z N σ H E Q q => by
  obtain ⟨p, xs, g1, _⟩ := E.slot i _ h0
  refine ⟨_, g1, h H0 N0 Z N σ H E _ fun w y ρ1 H1 ⟨ds, z, e, ey, f1, f2, f3⟩ E1 k1 d1 => ?_⟩
  subst ey
  obtain ⟨p', xs', e1, e2, e3, e4, e5, e6, e7⟩ := E1.slot i _ f1
  rw [g1] at e1; cases e1
  cases d1
  obtain ⟨v, a1, a2⟩ := at_dq e7 f2
  exact ⟨p, xs', z, v, rfl, rfl, .inl (.inl e6), a1, q v e ρ1 H1 f3 E1 k1 a2⟩
theorem wd_pop_own {i : Nat} {te : TE} {es : List PyData} (h0 : ρ[i]? = some (.own es)) (h : WD K S te ρ fun y ρ1 => ∃ (ds : List PyData) (k : Nat) (e : PyData), y = .int k ∧ ρ1[i]? = some (.own ds) ∧ (k : Int) < 2 ^ 62 ∧ ds[k]? = some e ∧ Φ e (ρ1.set i (.own (ds.eraseIdx k)))) :
    WD K S (tBM K "list" rPopAt (tVar i) (tCons te tNil)) ρ Φ := fun H0 N0 Z N σ H E Q q => by
  obtain ⟨p, xs, g1, _, _, _, _, g6, _⟩ := E.slot i _ h0
  refine ⟨.ref p, g1, .inl ⟨rfl, _, .inl (.inl g6)⟩, h H0 N0 Z N σ H E _ fun w y ρ1 H1 ⟨ds, k, e, ey, f1, f2, f3, f4⟩ E1 k1 d1 => ?_⟩
  subst ey
  obtain ⟨p', xs', e1, e2, e3, e4, e5, e6, e7⟩ := E1.slot i _ f1
  rw [g1] at e1; cases e1
  cases d1
  obtain ⟨v, a1, a2⟩ := e7.get f3
  have lk : k < xs'.length := (List.getElem?_eq_some_iff.mp a1).1
  have er : DqAll K N H1 (xs'.eraseIdx k) (ds.eraseIdx k) := dtall_erase k e7
  have E2 := E1.chg (xs := xs') f1 g1 er
  refine ⟨p, xs', k, k, v, rfl, rfl, e6, by omega, by omega, ?_, a1, ?_⟩
  · unfold seqIndex?
    rw [if_neg (show ¬ ((k : Int) < 0) by omega)]
    simp [lk]
  · refine q v e _ _ f4 E2 (k1.trans fun b o n hb => ?_) (a2.keep fun b o n hb => ?_)
    all_goals
      rw [upd_ne fun z => by rw [z, e2] at n; cases n]
      exact hb
end
end DL

set_option Elab.async false
set_option linter.all false
set_option maxRecDepth 100000
set_option maxHeartbeats 4000000
/-! DM2: a pot of draws, made anew at each turn -/
namespace DL
open PySem PySem.Spec PyProof.Rows L2
structure PotL (ns : List Int) (B : Nat) : Prop where
  ex : ∃ a b c : Int, ns = [a, b, c] ∧ 0 ≤ a ∧ 0 ≤ b ∧ b < 2 ^ 62 ∧ 0 ≤ c ∧ c ≤ B
theorem PotL.mono {ns : List Int} {B B' : Nat} (h : PotL ns B) (k : B ≤ B') : PotL ns B' := by
  obtain ⟨a, b, c, e, h1, h2, h3, h4, h5⟩ := h.ex
  exact ⟨a, b, c, e, h1, h2, h3, h4, by omega⟩
def mkP (a : Addr) : Stt where
  a := a
  fp b := decide (b = a)
  ok H B := ∃ ns, PotL ns B ∧ H a = some (.lst (ns.map V.int))
  loc H H' B h k := by
    obtain ⟨ns, h1, h2⟩ := k
    exact ⟨ns, h1, (h a (by simp)).trans h2⟩
  trk H B k b hb := by
    obtain ⟨ns, h1, h2⟩ := k
    have e : b = a := of_decide_eq_true hb
    rw [e, h2]; simp
def FPot (S : Stt) : Prop := ∃ a, S = mkP a
/-- a new list of whole numbers -/
def spN (K : PySem.W.Frag) (T : List PyData → (List Int → Prop) → Prop) : Sp := fun vs H Q _ => ∃ (N : Av) (ds : List PyData) (Φ : List Int → Prop),
  (∀ b, N b = true → H b ≠ none) ∧ DqAll K N H vs ds ∧ T ds Φ ∧ ∀ ns, Φ ns → ∀ p H', H p = none → Same H H' → H' p = some (.lst (ns.map V.int)) → Q (.ref p) H'
section
variable {K : PySem.W.Frag} {S : Stt} {ρ : Rho} {Φ : PyData → Rho → Prop} {Ψ : PyData → Prop}
end
/-! ### the draw -/
def TTake : Nat → List PyData → (PyData → Nat → Prop) → Prop := fun B ds Φ => ∃ m : Int, ds = [.int m] ∧ 1 ≤ m ∧ m ≤ 2 ^ 40 ∧ B ≤ 2 ^ 40 ∧ ∀ d : Int, 0 ≤ d → d < m → Φ (.int d) (B + 1)
def t_take (K : PySem.W.Frag) : TS :=
  (tSeq (tIfS (tTest (tOp rGe (tOp (rIxL K) (tVar 0) (tC (.int 0))) (tVar 1))) (tSeq (tAsg (tOp rModI (tOp (rIxL K) (tVar 0) (tC (.int 0))) (tVar 1)) (gName 2))
    (tSeq (tAsg (tOp rDivI (tOp (rIxL K) (tVar 0) (tC (.int 0))) (tVar 1)) (gSub (tVar 0) (tC (.int 0)) rSetL))
    (tRet (tVar 2)))) tNext)
    (tSeq (tAsg (tOp rAddI (tOp (rIxL K) (tVar 0) (tC (.int 2))) (tC (.int 1))) (gSub (tVar 0) (tC (.int 2)) rSetL))
    (tSeq (tAsg (tLst (tCons (tC (.int 2147483647)) (tCons (tC (.int 2147483629)) (tCons (tC (.int 2147483587)) (tCons (tC (.int 2147483579)) tNil))))) (gName 3))
    (tSeq (tAsg (tOp rCatL (tVar 3) (tLst (tCons (tC (.int 2147483563)) (tCons (tC (.int 2147483549)) (tCons (tC (.int 2147483543)) (tCons (tC (.int 2147483497)) tNil)))))) (gName 3))
    (tSeq (tAsg (tOp (rIxL K) (tVar 3) (tOp rModI (tOp (rIxL K) (tVar 0) (tC (.int 2))) (tC (.int 8)))) (gName 4))
    (tSeq (tAsg (tOp rModI (tOp rPowI (tOp rAddI (tOp rModI (tOp (rIxL K) (tVar 0) (tC (.int 1))) (tVar 4)) (tOp rMulI (tC (.int 104729)) (tOp (rIxL K) (tVar 0) (tC (.int 2))))) (tC (.int 3))) (tVar 4)) (gName 5))
    (tSeq (tAsg (tOp rAddI (tOp rAddI (tOp rAddI (tOp rMulI (tVar 5) (tVar 5)) (tOp rMulI (tOp rMulI (tC (.int 31)) (tOp (rIxL K) (tVar 0) (tC (.int 2)))) (tVar 5))) (tOp rModI (tOp (rIxL K) (tVar 0) (tC (.int 1))) (tC (.int 1000003)))) (tC (.int 7))) (gName 6))
    (tSeq (tAsg (tOp rModI (tVar 6) (tOp (rIxL K) (tVar 3) (tOp rModI (tOp rAddI (tOp (rIxL K) (tVar 0) (tC (.int 2))) (tC (.int 3))) (tC (.int 8))))) (gName 6))
    (tRet (tOp rModI (tOp rDivI (tOp rModI (tOp rPowI (tVar 6) (tC (.int 3))) (tOp (rIxL K) (tVar 3) (tOp rModI (tOp rAddI (tOp (rIxL K) (tVar 0) (tC (.int 2))) (tC (.int 5))) (tC (.int 8))))) (tC (.int 64))) (tVar 1)))))))))))
end DL

set_option Elab.async false
set_option linter.all false
/-! LM1: parts as rationals, their sizes -/
namespace DL
/-- the height of a part -/
def hgt (q : Rat) : Nat := q.num.natAbs + q.den
/-- the bits of a part -/
def sz (q : Rat) : Nat := (hgt q).log2 + 1
/-- a pair in lowest terms, of two whole numbers -/
def nrm' (a b : Int) : Int × Int := ((if 0 < b then a else -a) / ((Nat.gcd a.natAbs b.natAbs : Nat) : Int), ((b.natAbs : Nat) : Int) / ((Nat.gcd a.natAbs b.natAbs : Nat) : Int))
end DL

set_option Elab.async false
set_option linter.all false
/-! LM2: lines -/
namespace DL
abbrev Kn := List (Rat × Rat)
def kn (ks : Kn) (i : Nat) : Rat × Rat := ks.getD i (0, 0)
/-- the slope behind a knot -/
def slp (ks : Kn) (s : Rat) (i : Nat) : Rat := if i + 1 < ks.length then ((kn ks (i + 1)).2 - (kn ks i).2) / ((kn ks (i + 1)).1 - (kn ks i).1) else s
def Rising (ks : Kn) : Prop := ∀ i, i + 1 < ks.length → (kn ks i).1 < (kn ks (i + 1)).1
/-- the number of the last knot no greater -/
structure AtK (ks : Kn) (x : Rat) (i : Nat) : Prop where
  lt : i < ks.length
  le : (kn ks i).1 ≤ x
  nx : i + 1 < ks.length → x < (kn ks (i + 1)).1
def yOf (ks : Kn) (s : Rat) (x : Rat) (i : Nat) : Rat := (kn ks i).2 + slp ks s i * (x - (kn ks i).1)
open Classical in
/-- the line's y -/
noncomputable def yAt (ks : Kn) (s : Rat) (x : Rat) : Rat := if h : ∃ i, AtK ks x i then yOf ks s x (choose h) else 0
/-- all parts of a line within a size -/
structure KsB (B : Nat) (ks : Kn) (s : Rat) : Prop where
  x : ∀ i, i < ks.length → sz (kn ks i).1 ≤ B
  y : ∀ i, i < ks.length → sz (kn ks i).2 ≤ B
  s : sz s ≤ B
/-- a line that can be asked -/
structure Ln (B : Nat) (ks : Kn) (s : Rat) : Prop where
  b : KsB B ks s
  pos : 0 < ks.length
  fst : (kn ks 0).1 = 0
  ris : Rising ks
/-- an index loop: the last so far that is no greater -/
def lastIx (ks : Kn) (x : Rat) : Nat → Nat
  | 0 => 0
  | n + 1 => if x < (kn ks n).1 then lastIx ks x n else n
end DL

set_option Elab.async false
set_option linter.all false
set_option maxRecDepth 100000
set_option maxHeartbeats 4000000
/-! LQ1: parts reckoned, as rationals -/
namespace DL
open PySem PySem.Spec PyProof.Rows L2
def qp (q : Rat) : PyData := .tuple [.int q.num, .int (q.den : Int)]
def TLow : List PyData → (PyData → Prop) → Prop := fun ds Φ => ∃ a b : Int, ds = [.int a, .int b] ∧ b ≠ 0 ∧ a.natAbs < 2 ^ 8000 ∧ b.natAbs < 2 ^ 8000 ∧ Φ (qp (Rat.divInt a b))
def TQ2 (P : Rat → Rat → Prop) (f : Rat → Rat → PyData) : List PyData → (PyData → Prop) → Prop := fun ds Φ => ∃ q r : Rat, ds = [qp q, qp r] ∧ sz q ≤ 3800 ∧ sz r ≤ 3800 ∧ P q r ∧ Φ (f q r)
def TAdQ := TQ2 (fun _ _ => True) fun q r => qp (q + r)
def TSbQ := TQ2 (fun _ _ => True) fun q r => qp (q - r)
def TMlQ := TQ2 (fun _ _ => True) fun q r => qp (q * r)
def TDvQ := TQ2 (fun _ r => r ≠ 0) fun q r => qp (q / r)
def TLtQ := TQ2 (fun _ _ => True) fun q r => .bool (decide (q < r))
section
variable {q r : Rat} {Φ : PyData → Prop}
end
local macro_rules | `(tactic| walk_at "dl") => `(tactic| repeat' (first
  | with_reducible refine wd_isTy ?_ | with_reducible refine wd_isi ?_ | with_reducible refine wd_op ?_ | ((with_reducible show WD _ _ (tCB (rLenX _) (tCons (tVar _) tNil)) _ _); refine wd_len_scr rfl ?_) | with_reducible refine wd_cb ?_ | with_reducible refine wd_un ?_ | with_reducible refine wa_cons ?_ | with_reducible refine wa_nil ?_ | ((with_reducible show WD _ _ (tVar _) _ _); refine wd_var rfl ?_) | with_reducible refine wd_int ?_ | with_reducible refine wd_bl ?_ | with_reducible refine wd_str ?_ | with_reducible refine wd_non ?_
  | with_reducible refine do_add ?_ | with_reducible refine do_sub ?_ | ((with_reducible refine do_mod ?_ ?_); decide) | with_reducible refine do_mod ?_ ?_ | with_reducible refine do_mul ?_ ?_ | ((with_reducible refine do_div ?_ ?_); exact ⟨by decide, by decide⟩) | with_reducible refine do_div ?_ ?_ | ((with_reducible refine do_pow ?_ ?_); exact ⟨by decide, by decide, by decide⟩) | with_reducible refine do_pow ?_ ?_
  | with_reducible refine do_lt ?_ | with_reducible refine do_le ?_ | with_reducible refine do_gt ?_ | with_reducible refine do_ge ?_ | with_reducible refine du_neg ?_
  | with_reducible refine do_eqi ?_ | with_reducible refine do_nei ?_ | with_reducible refine do_eqs ?_ | with_reducible refine do_nes ?_ | with_reducible refine dc_abs ?_ | with_reducible refine dc_min ?_ | with_reducible refine dc_max ?_ | with_reducible refine dc_lenL ?_ | with_reducible refine dc_lenT ?_ | with_reducible refine dc_gcd ?_
  | ((with_reducible show DO _ (rIxT _) _ _ _); refine do_ixT rfl ?_) | ((with_reducible show DO _ (rIxL _) _ _ _); refine do_ixL rfl ?_) | ((with_reducible refine do_catL ?_ ?_); exact Nat.le_of_ble_eq_true rfl) | with_reducible refine do_catL ?_ ?_ | ((with_reducible show And (List.length _ ≤ sizeLine) _); refine ⟨Nat.le_of_ble_eq_true rfl, ?_⟩)
  | with_reducible refine wd_dnew ?_ | with_reducible refine wd_call0 ?_ | with_reducible refine tAdQ ?_ ?_ ?_ | with_reducible refine tSbQ ?_ ?_ ?_ | with_reducible refine tMlQ ?_ ?_ ?_ | with_reducible refine tDvQ ?_ ?_ ?_ ?_ | with_reducible refine tLtQ ?_ ?_ ?_ | with_reducible refine dc_str ?_ ?_ | with_reducible refine wd_tup ?_ | with_reducible refine wd_lst ?_ | with_reducible refine wt_test ?_ | with_reducible refine wt_B ?_ | with_reducible refine wt_not ?_ | with_reducible refine wt_and ?_ | with_reducible refine wt_or ?_ | with_reducible refine wd_ifE ?_ | with_reducible refine wd_andV ?_ | with_reducible refine wd_orV ?_ | with_reducible refine wd_notV ?_
  | with_reducible refine ws_seq ?_ | with_reducible refine ws_next ?_ | with_reducible refine ws_asg ?_ | with_reducible refine ws_ret ?_ | with_reducible refine ws_retN ?_ | with_reducible refine ws_if ?_ | with_reducible refine ws_par ?_ | with_reducible refine ws_unp2 ?_
  | with_reducible refine if_t ?_ | with_reducible refine if_f ?_ | with_reducible refine if_nf ?_ | with_reducible refine if_nt ?_
  | ((with_reducible show Exists _); first | refine ⟨_, kitInt _, ?_⟩ | refine ⟨_, kitBool _, ?_⟩ | refine ⟨_, kitTup _, ?_⟩ | refine ⟨_, kitList _, ?_⟩ | refine ⟨_, rfl, ?_⟩ | refine ⟨_, _, rfl, ?_⟩ | fail) | fail))
def t_lowq (K : PySem.W.Frag) : TS :=
  (tSeq (tPar 2 3 (tCons (tCB rAbsX (tCons (tVar 0) tNil)) (tCons (tCB rAbsX (tCons (tVar 1) tNil)) tNil)))
    (tSeq (tWhile (tTest (tOp rGt (tVar 3) (tC (.int 0)))) (tPar 2 3 (tCons (tVar 3) (tCons (tOp rModI (tVar 2) (tVar 3)) tNil))))
    (tSeq (tAsg (tIf (tTest (tOp rGt (tVar 1) (tC (.int 0)))) (tVar 2) (tOp rSubI (tC (.int 0)) (tVar 2))) (gName 4))
    (tRet (tTup (tCons (tOp rDivI (tVar 0) (tVar 4)) (tCons (tOp rDivI (tVar 1) (tVar 4)) tNil)))))))
def t_addq (K : PySem.W.Frag) : TS :=
  (tRet (tCall (spP K TLow) [] E0 (tCons (tOp rAddI (tOp rMulI (tOp (rIxT K) (tVar 0) (tC (.int 0))) (tOp (rIxT K) (tVar 1) (tC (.int 1)))) (tOp rMulI (tOp (rIxT K) (tVar 1) (tC (.int 0))) (tOp (rIxT K) (tVar 0) (tC (.int 1))))) (tCons (tOp rMulI (tOp (rIxT K) (tVar 0) (tC (.int 1))) (tOp (rIxT K) (tVar 1) (tC (.int 1)))) tNil))))
def t_subq (K : PySem.W.Frag) : TS :=
  (tRet (tCall (spP K TLow) [] E0 (tCons (tOp rSubI (tOp rMulI (tOp (rIxT K) (tVar 0) (tC (.int 0))) (tOp (rIxT K) (tVar 1) (tC (.int 1)))) (tOp rMulI (tOp (rIxT K) (tVar 1) (tC (.int 0))) (tOp (rIxT K) (tVar 0) (tC (.int 1))))) (tCons (tOp rMulI (tOp (rIxT K) (tVar 0) (tC (.int 1))) (tOp (rIxT K) (tVar 1) (tC (.int 1)))) tNil))))
def t_mulq (K : PySem.W.Frag) : TS :=
  (tRet (tCall (spP K TLow) [] E0 (tCons (tOp rMulI (tOp (rIxT K) (tVar 0) (tC (.int 0))) (tOp (rIxT K) (tVar 1) (tC (.int 0)))) (tCons (tOp rMulI (tOp (rIxT K) (tVar 0) (tC (.int 1))) (tOp (rIxT K) (tVar 1) (tC (.int 1)))) tNil))))
def t_divq (K : PySem.W.Frag) : TS :=
  (tRet (tCall (spP K TLow) [] E0 (tCons (tOp rMulI (tOp (rIxT K) (tVar 0) (tC (.int 0))) (tOp (rIxT K) (tVar 1) (tC (.int 1)))) (tCons (tOp rMulI (tOp (rIxT K) (tVar 0) (tC (.int 1))) (tOp (rIxT K) (tVar 1) (tC (.int 0)))) tNil))))
def t_ltq (K : PySem.W.Frag) : TS :=
  (tRet (tOp rLt (tOp rMulI (tOp (rIxT K) (tVar 0) (tC (.int 0))) (tOp (rIxT K) (tVar 1) (tC (.int 1)))) (tOp rMulI (tOp (rIxT K) (tVar 1) (tC (.int 0))) (tOp (rIxT K) (tVar 0) (tC (.int 1))))))
end DL

set_option Elab.async false
set_option linter.all false
set_option maxRecDepth 100000
set_option maxHeartbeats 4000000
/-! LQ2: slices as data; lines asked -/
namespace DL
open PySem PySem.Spec PyProof.Rows L2
def WO (K : PySem.W.Frag) (S : Stt) (to : TO) (ρ : Rho) (Θ : Option Int → Rho → Prop) : Prop :=
  ∀ H0 N0 Z N σ H, EnvD K S H0 N0 Z N σ H ρ → ∀ Q : Option Int → Hp → Prop, (∀ o ρ' H', Θ o ρ' → EnvD K S H0 N0 Z N σ H' ρ' → Keep N H H' → Q o H') → to σ H Q
def cutD (ds : List PyData) (lo hi : Option Int) : List PyData := (ds.drop (HT.sIx ds.length 0 lo)).take (HT.sIx ds.length ds.length hi - HT.sIx ds.length 0 lo)
section
variable {K : PySem.W.Frag} {S : Stt} {ρ : Rho} {Φ : PyData → Rho → Prop} {Ψ : PyData → Prop}
theorem wo_none {Θ : Option Int → Rho → Prop} (h : Θ none ρ) : WO K S tNoPart ρ Θ := fun H0 N0 Z N σ H E Q q => q none ρ H h E Keep.refl
theorem wo_part {te : TE} {Θ : Option Int → Rho → Prop} (h : WD K S te ρ fun d ρ1 => ∃ i, d = .int i ∧ Θ (some i) ρ1) : WO K S (tPart te) ρ Θ := fun H0 N0 Z N σ H E Q q =>
  h H0 N0 Z N σ H E _ fun v d ρ1 H1 ⟨i, e, f⟩ E1 k1 d1 => by
    subst e
    exact ⟨i, d1.int_inv, q (some i) ρ1 H1 f E1 k1⟩
theorem DqAll.cut {N : Av} {H : Hp} {xs : List V} {ds : List PyData} {lo hi : Option Int} (h : DqAll K N H xs ds) : DqAll K N H (cutV xs lo hi) (cutD ds lo hi) := by
  unfold cutV cutD
  rw [h.len]
  exact (h.drop _).take _
theorem wd_slA {ta : TE} {tl th : TO} (h : WD K S ta ρ fun x ρ1 => ∃ ds, x = .tuple ds ∧ WO K S tl ρ1 fun lo ρ2 => WO K S th ρ2 fun hi ρ3 => Φ (.tuple (cutD ds lo hi)) ρ3) : WD K S (tSl (rSlA K) ta tl th) ρ Φ := fun H0 N0 Z N σ H E Q q =>
  h H0 N0 Z N σ H E _ fun v x ρ1 H1 ⟨ds, e, f⟩ E1 k1 d1 => f H0 N0 Z N σ H1 E1 _ fun lo ρ2 H2 g E2 k2 => g H0 N0 Z N σ H2 E2 _ fun hi ρ3 H3 z E3 k3 => by
    subst e
    have d3 := (d1.keep k2).keep k3
    obtain ⟨p, xs, rfl, _, h1, h2⟩ := Dq.tup_inv d3
    refine ⟨p, xs, rfl, h1, fun w => ?_, fun w r hr => ?_⟩
    · have e : cutD ds lo hi = ds := by
        unfold cutD
        have hl := h2.len
        rw [← hl, w.1, w.2, List.drop_zero, Nat.sub_zero]
        exact List.take_of_length_le (by omega)
      have z' : Φ (.tuple (cutD ds lo hi)) ρ3 := z
      rw [e] at z'
      exact q _ _ ρ3 H3 z' E3 ((k1.trans k2).trans k3) d3
    · have s := same_new hr (.tup (cutV xs lo hi))
      exact q _ _ ρ3 _ z (E3.ext s) (((k1.trans k2).trans k3).trans (Keep.of s)) (Dq.tup (fresh_av E3.trk hr) upd_same ((h2.cut).keep (Keep.of s)))
theorem do_ixTn {ds : List PyData} {i : Int} {k : Nat} {d : PyData} (e : i = k) (h : ds[k]? = some d) (f : Ψ d) : DO K (rIxT K) (.tuple ds) (.int i) Ψ := by
  subst e; exact do_ixT (atI_nat h) f
theorem do_ixLn {ds : List PyData} {i : Int} {k : Nat} {d : PyData} (e : i = k) (h : ds[k]? = some d) (f : Ψ d) : DO K (rIxL K) (.list ds) (.int i) Ψ := by
  subst e; exact do_ixL (atI_nat h) f
end
/-! ### lines as data -/
def kD (p : Rat × Rat) : PyData := .tuple [qp p.1, qp p.2]
abbrev knD (ks : Kn) : PyData := .tuple (ks.map kD)
def lnD (ks : Kn) (s : Rat) : PyData := .tuple [knD ks, qp s]
structure Lq (B : Nat) (ks : Kn) (s : Rat) : Prop where
  l : Ln B ks s
  len : ks.length ≤ 100000
  B0 : 0 < B
def TSlope : List PyData → (PyData → Prop) → Prop := fun ds Φ => ∃ (ks : Kn) (s : Rat) (i B : Nat), ds = [lnD ks s, .int i] ∧ Lq B ks s ∧ 2 * B ≤ 3800 ∧ i < ks.length ∧ Φ (qp (slp ks s i))
def TSlopes : List PyData → (PyData → Prop) → Prop := fun ds Φ => ∃ (ks : Kn) (s : Rat) (B : Nat), ds = [knD ks, qp s] ∧ KsB B ks s ∧ Rising ks ∧ 0 < ks.length ∧ ks.length ≤ 100000 ∧ 2 * B ≤ 3800 ∧ Φ (.list ((List.range ks.length).map fun i => qp (slp ks s i)))
def TNoLater : List PyData → (PyData → Prop) → Prop := fun ds Φ => ∃ (ks : Kn) (x : Rat), ds = [knD ks, qp x] ∧ Rising ks ∧ 0 < ks.length ∧ ks.length ≤ 100000 ∧ (kn ks 0).1 ≤ x ∧ sz x ≤ 3800 ∧ (∀ i, i < ks.length → sz (kn ks i).1 ≤ 3800) ∧ ∀ i : Nat, AtK ks x i → Φ (.int i)
def THeight : List PyData → (PyData → Prop) → Prop := fun ds Φ => ∃ (ks : Kn) (s x : Rat) (i B C : Nat), ds = [lnD ks s, .int i, qp x] ∧ Lq B ks s ∧ i < ks.length ∧ sz x ≤ C ∧ 5 * B + C ≤ 3800 ∧ Φ (qp (yOf ks s x i))
def TYat : List PyData → (PyData → Prop) → Prop := fun ds Φ => ∃ (ks : Kn) (s x : Rat) (B C : Nat), ds = [lnD ks s, qp x] ∧ Lq B ks s ∧ 0 ≤ x ∧ sz x ≤ C ∧ 5 * B + C ≤ 3800 ∧ Φ (qp (yAt ks s x))
local macro_rules | `(tactic| walk_at "dl") => `(tactic| repeat' (first
  | with_reducible refine wd_isTy ?_ | with_reducible refine wd_isi ?_ | with_reducible refine wd_op ?_ | ((with_reducible show WD _ _ (tCB (rLenX _) (tCons (tVar _) tNil)) _ _); refine wd_len_scr rfl ?_) | with_reducible refine wd_cb ?_ | with_reducible refine wd_un ?_ | with_reducible refine wa_cons ?_ | with_reducible refine wa_nil ?_ | ((with_reducible show WD _ _ (tVar _) _ _); refine wd_var rfl ?_) | with_reducible refine wd_int ?_ | with_reducible refine wd_bl ?_ | with_reducible refine wd_str ?_ | with_reducible refine wd_non ?_
  | with_reducible refine do_add ?_ | with_reducible refine do_sub ?_ | ((with_reducible refine do_mod ?_ ?_); decide) | with_reducible refine do_mod ?_ ?_ | with_reducible refine do_mul ?_ ?_ | ((with_reducible refine do_div ?_ ?_); exact ⟨by decide, by decide⟩) | with_reducible refine do_div ?_ ?_ | ((with_reducible refine do_pow ?_ ?_); exact ⟨by decide, by decide, by decide⟩) | with_reducible refine do_pow ?_ ?_
  | with_reducible refine do_lt ?_ | with_reducible refine do_le ?_ | with_reducible refine do_gt ?_ | with_reducible refine do_ge ?_ | with_reducible refine du_neg ?_
  | with_reducible refine do_eqi ?_ | with_reducible refine do_nei ?_ | with_reducible refine do_eqs ?_ | with_reducible refine do_nes ?_ | with_reducible refine dc_abs ?_ | with_reducible refine dc_min ?_ | with_reducible refine dc_max ?_ | with_reducible refine dc_lenL ?_ | with_reducible refine dc_lenT ?_ | with_reducible refine dc_gcd ?_
  | ((with_reducible show DO _ (rIxT _) _ _ _); refine do_ixT rfl ?_) | ((with_reducible show DO _ (rIxL _) _ _ _); refine do_ixL rfl ?_) | ((with_reducible refine do_catL ?_ ?_); exact Nat.le_of_ble_eq_true rfl) | with_reducible refine do_catL ?_ ?_ | ((with_reducible show And (List.length _ ≤ sizeLine) _); refine ⟨Nat.le_of_ble_eq_true rfl, ?_⟩)
  | with_reducible refine wd_dnew ?_ | with_reducible refine wd_call0 ?_ | with_reducible refine tAdQ (by omega) (by omega) ?_ | with_reducible refine tSbQ (by omega) (by omega) ?_ | with_reducible refine tMlQ (by omega) (by omega) ?_ | with_reducible refine tDvQ (by assumption) (by omega) (by omega) ?_ | with_reducible refine tLtQ (by omega) (by omega) ?_ | with_reducible refine dc_str ?_ ?_ | with_reducible refine wd_tup ?_ | with_reducible refine wd_lst ?_ | with_reducible refine wt_test ?_ | with_reducible refine wt_B ?_ | with_reducible refine wt_not ?_ | with_reducible refine wt_and ?_ | with_reducible refine wt_or ?_ | with_reducible refine wd_ifE ?_ | with_reducible refine wd_andV ?_ | with_reducible refine wd_orV ?_ | with_reducible refine wd_notV ?_
  | with_reducible refine ws_seq ?_ | with_reducible refine ws_next ?_ | with_reducible refine ws_asg ?_ | with_reducible refine ws_ret ?_ | with_reducible refine ws_retN ?_ | with_reducible refine ws_if ?_ | with_reducible refine ws_par ?_ | with_reducible refine ws_unp2 ?_
  | with_reducible refine if_t ?_ | with_reducible refine if_f ?_ | with_reducible refine if_nf ?_ | with_reducible refine if_nt ?_
  | ((with_reducible show Exists _); first | refine ⟨_, kitInt _, ?_⟩ | refine ⟨_, kitBool _, ?_⟩ | refine ⟨_, kitTup _, ?_⟩ | refine ⟨_, kitList _, ?_⟩ | refine ⟨_, rfl, ?_⟩ | refine ⟨_, _, rfl, ?_⟩ | fail) | fail))
def t_slope (K : PySem.W.Frag) : TS :=
  (tSeq (tAsg (tVar 0) (gTup K 2 (gCons (gName 2) (gCons (gName 3) gNil))))
    (tSeq (tIfS (tTest (tOp rEq (tOp rAddI (tVar 1) (tC (.int 1))) (tCB (rLenX K) (tCons (tVar 2) tNil)))) (tRet (tVar 3)) tNext)
    (tSeq (tAsg (tCall (spP K TSbQ) [] E0 (tCons (tOp (rIxT K) (tOp (rIxT K) (tVar 2) (tOp rAddI (tVar 1) (tC (.int 1)))) (tC (.int 1))) (tCons (tOp (rIxT K) (tOp (rIxT K) (tVar 2) (tVar 1)) (tC (.int 1))) tNil))) (gName 4))
    (tRet (tCall (spP K TDvQ) [] E0 (tCons (tVar 4) (tCons (tCall (spP K TSbQ) [] E0 (tCons (tOp (rIxT K) (tOp (rIxT K) (tVar 2) (tOp rAddI (tVar 1) (tC (.int 1)))) (tC (.int 0))) (tCons (tOp (rIxT K) (tOp (rIxT K) (tVar 2) (tVar 1)) (tC (.int 0))) tNil))) tNil)))))))
def t_slopes (K : PySem.W.Frag) : TS :=
  (tSeq (tAsg (tLst tNil) (gName 2))
    (tSeq (tFor (iRng1 (tCons (tOp rSubI (tCB (rLenX K) (tCons (tVar 0) tNil)) (tC (.int 1))) tNil)) (gName 3) (tSeq (tAsg (tOp (rIxT K) (tVar 0) (tVar 3)) (gTup K 2 (gCons (gName 4) (gCons (gName 5) gNil))))
    (tSeq (tAsg (tOp (rIxT K) (tVar 0) (tOp rAddI (tVar 3) (tC (.int 1)))) (gTup K 2 (gCons (gName 6) (gCons (gName 7) gNil))))
    (tDrop (tBM K "list" rAppend (tVar 2) (tCons (tCall (spP K TDvQ) [] E0 (tCons (tCall (spP K TSbQ) [] E0 (tCons (tVar 7) (tCons (tVar 5) tNil))) (tCons (tCall (spP K TSbQ) [] E0 (tCons (tVar 6) (tCons (tVar 4) tNil))) tNil))) tNil))))))
    (tRet (tOp rCatL (tVar 2) (tLst (tCons (tVar 1) tNil))))))
def t_nolater (K : PySem.W.Frag) : TS :=
  (tSeq (tPar 2 3 (tCons (tC (.int 0)) (tCons (tCB (rLenX K) (tCons (tVar 0) tNil)) tNil)))
    (tSeq (tWhile (tTest (tOp rGt (tOp rSubI (tVar 3) (tVar 2)) (tC (.int 1)))) (tSeq (tAsg (tOp rDivI (tOp rAddI (tVar 2) (tVar 3)) (tC (.int 2))) (gName 4))
    (tIfS (tB (tCall (spP K TLtQ) [] E0 (tCons (tVar 1) (tCons (tOp (rIxT K) (tOp (rIxT K) (tVar 0) (tVar 4)) (tC (.int 0))) tNil)))) (tAsg (tVar 4) (gName 3)) (tAsg (tVar 4) (gName 2)))))
    (tRet (tVar 2))))
section
variable {K : PySem.W.Frag} {ds : List PyData} {Φ : PyData → Prop}
end
end DL

set_option Elab.async false
set_option linter.all false
set_option maxRecDepth 100000
set_option maxHeartbeats 4000000
/-! LQ3: heights of lines -/
namespace DL
open PySem PySem.Spec PyProof.Rows L2
section
variable {K : PySem.W.Frag} {Ψ : PyData → Prop}
end
local macro_rules | `(tactic| walk_at "dl") => `(tactic| repeat' (first
  | with_reducible refine wd_isTy ?_ | with_reducible refine wd_isi ?_ | with_reducible refine wd_op ?_ | ((with_reducible show WD _ _ (tCB (rLenX _) (tCons (tVar _) tNil)) _ _); refine wd_len_scr rfl ?_) | with_reducible refine wd_cb ?_ | with_reducible refine wd_un ?_ | with_reducible refine wa_cons ?_ | with_reducible refine wa_nil ?_ | ((with_reducible show WD _ _ (tVar _) _ _); refine wd_var rfl ?_) | with_reducible refine wd_int ?_ | with_reducible refine wd_bl ?_ | with_reducible refine wd_str ?_ | with_reducible refine wd_non ?_
  | with_reducible refine do_add ?_ | with_reducible refine do_sub ?_ | ((with_reducible refine do_mod ?_ ?_); decide) | with_reducible refine do_mod ?_ ?_ | with_reducible refine do_mul ?_ ?_ | ((with_reducible refine do_div ?_ ?_); exact ⟨by decide, by decide⟩) | with_reducible refine do_div ?_ ?_ | ((with_reducible refine do_pow ?_ ?_); exact ⟨by decide, by decide, by decide⟩) | with_reducible refine do_pow ?_ ?_
  | with_reducible refine do_lt ?_ | with_reducible refine do_le ?_ | with_reducible refine do_gt ?_ | with_reducible refine do_ge ?_ | with_reducible refine du_neg ?_
  | with_reducible refine do_eqi ?_ | with_reducible refine do_nei ?_ | with_reducible refine do_eqs ?_ | with_reducible refine do_nes ?_ | with_reducible refine dc_abs ?_ | with_reducible refine dc_min ?_ | with_reducible refine dc_max ?_ | with_reducible refine dc_lenL ?_ | with_reducible refine dc_lenT ?_ | with_reducible refine dc_gcd ?_
  | ((with_reducible show DO _ (rIxT _) _ _ _); refine do_ixT rfl ?_) | ((with_reducible show DO _ (rIxL _) _ _ _); refine do_ixL rfl ?_) | ((with_reducible refine do_catL ?_ ?_); exact Nat.le_of_ble_eq_true rfl) | with_reducible refine do_catL ?_ ?_ | ((with_reducible show And (List.length _ ≤ sizeLine) _); refine ⟨Nat.le_of_ble_eq_true rfl, ?_⟩)
  | with_reducible refine wd_dnew ?_ | with_reducible refine wd_call0 ?_ | with_reducible refine wd_slA ?_ | with_reducible refine wo_part ?_ | with_reducible refine wo_none ?_ | with_reducible refine do_eqQ ?_ | with_reducible refine do_neQ ?_ | with_reducible refine wi_enumT ?_ | with_reducible refine tAdQ (by omega) (by omega) ?_ | with_reducible refine tSbQ (by omega) (by omega) ?_ | with_reducible refine tMlQ (by omega) (by omega) ?_ | with_reducible refine tDvQ (by assumption) (by omega) (by omega) ?_ | with_reducible refine tLtQ (by omega) (by omega) ?_ | with_reducible refine dc_str ?_ ?_ | with_reducible refine wd_tup ?_ | with_reducible refine wd_lst ?_ | with_reducible refine wt_test ?_ | with_reducible refine wt_B ?_ | with_reducible refine wt_not ?_ | with_reducible refine wt_and ?_ | with_reducible refine wt_or ?_ | with_reducible refine wd_ifE ?_ | with_reducible refine wd_andV ?_ | with_reducible refine wd_orV ?_ | with_reducible refine wd_notV ?_
  | with_reducible refine ws_seq ?_ | with_reducible refine ws_next ?_ | with_reducible refine ws_asg ?_ | with_reducible refine ws_ret ?_ | with_reducible refine ws_retN ?_ | with_reducible refine ws_if ?_ | with_reducible refine ws_par ?_ | with_reducible refine ws_unp2 ?_
  | with_reducible refine if_t ?_ | with_reducible refine if_f ?_ | with_reducible refine if_nf ?_ | with_reducible refine if_nt ?_
  | ((with_reducible show Exists _); first | refine ⟨_, kitInt _, ?_⟩ | refine ⟨_, kitBool _, ?_⟩ | refine ⟨_, kitTup _, ?_⟩ | refine ⟨_, kitList _, ?_⟩ | refine ⟨_, rfl, ?_⟩ | refine ⟨_, _, rfl, ?_⟩ | fail) | fail))
def t_lawy (K : PySem.W.Frag) : TS :=
  (tSeq (tAsg (tC (.int 0)) (gName 2))
    (tSeq (tFor (iEnumT K (tCons (tOp (rIxT K) (tVar 0) (tC (.int 0))) tNil)) (gTup K 2 (gCons (gName 3) (gCons (gName 4) gNil))) (tIfS (tNot (tB (tCall (spP K TLtQ) [] E0 (tCons (tVar 1) (tCons (tOp (rIxT K) (tVar 4) (tC (.int 0))) tNil))))) (tAsg (tVar 3) (gName 2)) tNext))
    (tSeq (tAsg (tOp (rIxT K) (tOp (rIxT K) (tVar 0) (tC (.int 0))) (tVar 2)) (gTup K 2 (gCons (gName 5) (gCons (gName 6) gNil))))
    (tRet (tCall (spP K TAdQ) [] E0 (tCons (tVar 6) (tCons (tCall (spP K TMlQ) [] E0 (tCons (tCall (spP K TSlope) [] E0 (tCons (tVar 0) (tCons (tVar 2) tNil))) (tCons (tCall (spP K TSbQ) [] E0 (tCons (tVar 1) (tCons (tVar 5) tNil))) tNil))) tNil)))))))
def t_behind (K : PySem.W.Frag) : TS :=
  (tRet (tOp (rIxL K) (tCall (spP K TSlopes) [] E0 (tCons (tSl (rSlA K) (tOp (rIxT K) (tVar 0) (tC (.int 0))) (tPart (tVar 1)) (tPart (tOp rAddI (tVar 1) (tC (.int 2))))) (tCons (tOp (rIxT K) (tVar 0) (tC (.int 1))) tNil))) (tC (.int 0))))
def t_height (K : PySem.W.Frag) : TS :=
  (tSeq (tAsg (tOp (rIxT K) (tOp (rIxT K) (tVar 0) (tC (.int 0))) (tVar 1)) (gTup K 2 (gCons (gName 3) (gCons (gName 4) gNil))))
    (tSeq (tIfS (tTest (tOp (rEqD K) (tVar 2) (tVar 3))) (tRet (tVar 4)) tNext)
    (tRet (tCall (spP K TAdQ) [] E0 (tCons (tVar 4) (tCons (tCall (spP K TMlQ) [] E0 (tCons (tCall (spP K TSlope) [] E0 (tCons (tVar 0) (tCons (tVar 1) tNil))) (tCons (tCall (spP K TSbQ) [] E0 (tCons (tVar 2) (tCons (tVar 3) tNil))) tNil))) tNil))))))
def t_yat (K : PySem.W.Frag) : TS :=
  (tSeq (tIfS (tTest (tOp rLt (tOp (rIxT K) (tVar 1) (tC (.int 0))) (tC (.int 0)))) tNo tNext)
    (tRet (tCall (spP K THeight) [] E0 (tCons (tVar 0) (tCons (tCall (spP K TNoLater) [] E0 (tCons (tOp (rIxT K) (tVar 0) (tC (.int 0))) (tCons (tVar 1) tNil))) (tCons (tVar 1) tNil))))))
section
variable {K : PySem.W.Frag} {ds : List PyData} {Φ : PyData → Prop}
def cutK (ks : Kn) (i : Nat) : Kn := (ks.drop i).take 2
end
end DL

set_option Elab.async false
set_option linter.all false
/-! LM3: lines as they are drawn: bounds by a common bottom -/
namespace DL
/-- so many D-th parts -/
def Dv (D M : Nat) (q : Rat) : Prop := ∃ n : Int, q * (D : Rat) = (n : Rat) ∧ n.natAbs ≤ M
theorem Dv.mono {D M M' : Nat} {q : Rat} (h : Dv D M q) (k : M ≤ M') : Dv D M' q := let ⟨n, e, b⟩ := h; ⟨n, e, by omega⟩
theorem Dv.di {a : Int} {b c : Nat} (hb : b ≠ 0) : Dv (b * c) (a.natAbs * c) (Rat.divInt a b) := by
  refine ⟨a * c, ?_, by rw [Int.natAbs_mul]; simp⟩
  have hb' : ((b : Nat) : Rat) ≠ 0 := by simpa using hb
  rw [Rat.divInt_eq_div, Rat.natCast_mul, Rat.intCast_mul, Rat.intCast_natCast, Rat.intCast_natCast, ← Rat.mul_assoc, Rat.div_mul_cancel hb']
theorem Dv.int {n : Int} {D : Nat} : Dv D (n.natAbs * D) (n : Rat) := ⟨n * D, by rw [Rat.intCast_mul]; rfl, by rw [Int.natAbs_mul]; simp⟩
/-- the slopes that are drawn -/
structure SlopeOk (p : Nat) (s : Rat) : Prop where
  one : p = 1 → Dv 6 42 s
  more : 1 < p → ∃ m : Int, s = ((p * m : Int) : Rat) ∧ m.natAbs ≤ 7
structure StepOk (p : Nat) (t : Rat) : Prop where
  pos : 0 < t
  one : p = 1 → Dv 4 24 t
  more : 1 < p → ∃ n : Nat, t = Rat.divInt n p ∧ n ≤ 6
/-- ahead of the k-th slope -/
structure Stg (p k : Nat) (ks : Kn) (la : Option Rat) : Prop where
  len : ks.length = k + 1
  fst : (kn ks 0).1 = 0
  ris : Rising ks
  dx : ∀ i, i < ks.length → Dv (24 * p) (144 * i) (kn ks i).1
  dy : ∀ i, i < ks.length → Dv (24 * p) ((480 + 1008 * i) * p) (kn ks i).2
  nr : ∀ i, i + 2 < ks.length → slp ks 0 i ≠ slp ks 0 (i + 1)
  la : la = if k = 0 then none else some (slp ks 0 (k - 1))
/-- it bends at each knot -/
def Nrm (ks : Kn) (s : Rat) : Prop := ∀ i, i + 1 < ks.length → slp ks s i ≠ slp ks s (i + 1)
structure GoodL (m : Nat) (ks : Kn) (s : Rat) : Prop where
  l : Ln 26 ks s
  len : ks.length ≤ m
  nrm : Nrm ks s
structure SlopeB (p : Nat) (s : Rat) : Prop where
  one : p = 1 → Dv 6 36 s
  more : 1 < p → ∃ m : Int, s = ((m * p : Int) : Rat) ∧ m.natAbs ≤ 6
/-! what is drawn -/
theorem step1 {n c : Int} (h1 : 1 ≤ n) (h2 : n ≤ 6) (hc : c = 1 ∨ c = 2 ∨ c = 4) : Dv 4 24 (Rat.divInt n c) ∧ 0 < Rat.divInt n c ∧ 1 ≤ (Rat.divInt n c).num ∧ (Rat.divInt n c).num ≤ 6 := by
  have hn : n = 1 ∨ n = 2 ∨ n = 3 ∨ n = 4 ∨ n = 5 ∨ n = 6 := by omega
  refine ⟨?_, ?_⟩
  · rcases hc with rfl | rfl | rfl
    · exact (Dv.di (a := n) (b := 1) (c := 4) (by decide)).mono (by omega)
    · exact (Dv.di (a := n) (b := 2) (c := 2) (by decide)).mono (by omega)
    · exact (Dv.di (a := n) (b := 4) (c := 1) (by decide)).mono (by omega)
  · rcases hc with rfl | rfl | rfl <;> rcases hn with rfl | rfl | rfl | rfl | rfl | rfl <;> decide +kernel
end DL

set_option Elab.async false
set_option linter.all false
set_option maxRecDepth 100000
set_option maxHeartbeats 4000000
/-! LQ4: a drawn line -/
namespace DL
open PySem PySem.Spec PyProof.Rows L2
section
variable {K : PySem.W.Frag} {S : Stt} {ρ : Rho} {Φ : PyData → Rho → Prop} {Ψ : PyData → Prop}
def oqD : Option Rat → PyData
  | none => .none
  | some q => qp q
end
def TLine : Nat → List PyData → (PyData → Nat → Prop) → Prop := fun B ds Φ => ∃ m : Nat, ds = [.int m] ∧ 3 ≤ m ∧ m ≤ 60 ∧ B ≤ 2 ^ 39 ∧ ∀ ks s B', B' ≤ B + 300 → GoodL m ks s → Φ (lnD ks s) B'
local macro_rules | `(tactic| walk_at "dl") => `(tactic| repeat' (first
  | with_reducible refine wd_isTy ?_ | with_reducible refine wd_isi ?_ | with_reducible refine wd_op ?_ | ((with_reducible show WD _ _ (tCB (rLenX _) (tCons (tVar _) tNil)) _ _); refine wd_len_scr rfl ?_) | with_reducible refine wd_cb ?_ | with_reducible refine wd_un ?_ | with_reducible refine wa_cons ?_ | with_reducible refine wa_nil ?_ | ((with_reducible show WD _ _ (tVar _) _ _); refine wd_var rfl ?_) | with_reducible refine wd_int ?_ | with_reducible refine wd_bl ?_ | with_reducible refine wd_str ?_ | with_reducible refine wd_non ?_
  | with_reducible refine do_add ?_ | with_reducible refine do_sub ?_ | ((with_reducible refine do_mod ?_ ?_); decide) | with_reducible refine do_mod ?_ ?_ | with_reducible refine do_mul ?_ ?_ | ((with_reducible refine do_div ?_ ?_); exact ⟨by decide, by decide⟩) | with_reducible refine do_div ?_ ?_ | ((with_reducible refine do_pow ?_ ?_); exact ⟨by decide, by decide, by decide⟩) | with_reducible refine do_pow ?_ ?_
  | with_reducible refine do_lt ?_ | with_reducible refine do_le ?_ | with_reducible refine do_gt ?_ | with_reducible refine do_ge ?_ | with_reducible refine du_neg ?_
  | with_reducible refine do_eqi ?_ | with_reducible refine do_nei ?_ | with_reducible refine do_eqs ?_ | with_reducible refine do_nes ?_ | with_reducible refine dc_abs ?_ | with_reducible refine dc_min ?_ | with_reducible refine dc_max ?_ | with_reducible refine dc_lenL ?_ | with_reducible refine dc_lenT ?_ | with_reducible refine dc_gcd ?_
  | ((with_reducible show DO _ (rIxT _) _ _ _); refine do_ixT rfl ?_) | ((with_reducible show DO _ (rIxL _) _ _ _); refine do_ixL rfl ?_) | ((with_reducible refine do_catL ?_ ?_); exact Nat.le_of_ble_eq_true rfl) | with_reducible refine do_catL ?_ ?_ | ((with_reducible show And (List.length _ ≤ sizeLine) _); refine ⟨Nat.le_of_ble_eq_true rfl, ?_⟩)
  | with_reducible refine wd_dnew ?_ | with_reducible refine wd_call0 ?_ | with_reducible refine wd_slA ?_ | with_reducible refine wo_part ?_ | with_reducible refine wo_none ?_ | with_reducible refine do_eqQ ?_ | with_reducible refine do_neQ ?_ | with_reducible refine wi_enumT ?_ | with_reducible refine tAdQ (by omega) (by omega) ?_ | with_reducible refine tSbQ (by omega) (by omega) ?_ | with_reducible refine tMlQ (by omega) (by omega) ?_ | with_reducible refine tDvQ (by assumption) (by omega) (by omega) ?_ | with_reducible refine tLtQ (by omega) (by omega) ?_ | with_reducible refine dc_str ?_ ?_ | with_reducible refine wd_tup ?_ | with_reducible refine wd_lst ?_ | with_reducible refine wt_test ?_ | with_reducible refine wt_B ?_ | with_reducible refine wt_not ?_ | with_reducible refine wt_and ?_ | with_reducible refine wt_or ?_ | with_reducible refine wd_ifE ?_ | with_reducible refine wd_andV ?_ | with_reducible refine wd_orV ?_ | with_reducible refine wd_notV ?_
  | with_reducible refine ws_seq ?_ | with_reducible refine ws_next ?_ | with_reducible refine ws_asg ?_ | with_reducible refine ws_ret ?_ | with_reducible refine ws_retN ?_ | with_reducible refine ws_if ?_ | with_reducible refine ws_par ?_ | with_reducible refine ws_unp2 ?_
  | with_reducible refine if_t ?_ | with_reducible refine if_f ?_ | with_reducible refine if_nf ?_ | with_reducible refine if_nt ?_
  | ((with_reducible show Exists _); first | refine ⟨_, kitInt _, ?_⟩ | refine ⟨_, kitBool _, ?_⟩ | refine ⟨_, kitTup _, ?_⟩ | refine ⟨_, kitList _, ?_⟩ | refine ⟨_, rfl, ?_⟩ | refine ⟨_, _, rfl, ?_⟩ | fail) | fail))
def t_line (K : PySem.W.Frag) : TS :=
  (tSeq (tAsg (tOp (rIxL K) (tLst (tCons (tOp rAddI (tC (.int 1)) (tCall (spS K FPot TTake) [] E0 (tCons (tVar 0) (tCons (tC (.int 3)) tNil)))) (tCons (tOp rAddI (tC (.int 1)) (tCall (spS K FPot TTake) [] E0 (tCons (tVar 0) (tCons (tVar 1) tNil)))) (tCons (tVar 1) tNil)))) (tCall (spS K FPot TTake) [] E0 (tCons (tVar 0) (tCons (tC (.int 3)) tNil)))) (gName 2))
    (tSeq (tAsg (tOp (rIxL K) (tLst (tCons (tC (.int 1)) (tCons (tC (.int 1)) (tCons (tC (.int 1)) (tCons (tC (.int 1)) (tCons (tC (.int 1)) (tCons (tOp (rIxL K) (tLst (tCons (tC (.int 97)) (tCons (tC (.int 101)) (tCons (tC (.int 997)) tNil)))) (tCall (spS K FPot TTake) [] E0 (tCons (tVar 0) (tCons (tC (.int 3)) tNil)))) tNil))))))) (tCall (spS K FPot TTake) [] E0 (tCons (tVar 0) (tCons (tC (.int 6)) tNil)))) (gName 3))
    (tSeq (tAsg (tLst (tCons (tTup (tCons (tTup (tCons (tC (.int 0)) (tCons (tC (.int 1)) tNil))) (tCons (tCall (spP K TLow) [] E0 (tCons (tOp rSubI (tCall (spS K FPot TTake) [] E0 (tCons (tVar 0) (tCons (tC (.int 41)) tNil))) (tC (.int 20))) (tCons (tOp (rIxL K) (tLst (tCons (tC (.int 1)) (tCons (tC (.int 2)) (tCons (tC (.int 3)) tNil)))) (tCall (spS K FPot TTake) [] E0 (tCons (tVar 0) (tCons (tC (.int 3)) tNil)))) tNil))) tNil))) tNil)) (gName 4))
    (tSeq (tAsg (tC .non) (gName 5))
    (tSeq (tFor (iRng1 (tCons (tVar 2) tNil)) (gName 6) (tSeq (tAsg (tCall (spP K TLow) [] E0 (tCons (tOp rMulI (tOp rSubI (tCall (spS K FPot TTake) [] E0 (tCons (tVar 0) (tCons (tC (.int 13)) tNil))) (tC (.int 6))) (tVar 3)) (tCons (tOp (rIxL K) (tLst (tCons (tC (.int 1)) (tCons (tC (.int 2)) (tCons (tC (.int 3)) tNil)))) (tCall (spS K FPot TTake) [] E0 (tCons (tVar 0) (tCons (tC (.int 3)) tNil)))) tNil))) (gName 7))
    (tSeq (tIfS (tTest (tOp rGt (tVar 3) (tC (.int 1)))) (tAsg (tTup (tCons (tOp rMulI (tOp rDivI (tOp rDivI (tOp (rIxT K) (tVar 7) (tC (.int 0))) (tOp (rIxT K) (tVar 7) (tC (.int 1)))) (tVar 3)) (tVar 3)) (tCons (tC (.int 1)) tNil))) (gName 7)) tNext)
    (tSeq (tIfS (tTest (tOp (rEqD K) (tVar 7) (tVar 5))) (tAsg (tCall (spP K TAdQ) [] E0 (tCons (tVar 7) (tCons (tTup (tCons (tVar 3) (tCons (tC (.int 1)) tNil))) tNil))) (gName 7)) tNext)
    (tSeq (tAsg (tVar 7) (gName 5))
    (tIfS (tTest (tOp rLt (tOp rAddI (tVar 6) (tC (.int 1))) (tVar 2))) (tSeq (tAsg (tCall (spP K TLow) [] E0 (tCons (tOp rAddI (tC (.int 1)) (tCall (spS K FPot TTake) [] E0 (tCons (tVar 0) (tCons (tC (.int 6)) tNil)))) (tCons (tOp (rIxL K) (tLst (tCons (tC (.int 1)) (tCons (tC (.int 2)) (tCons (tC (.int 4)) tNil)))) (tCall (spS K FPot TTake) [] E0 (tCons (tVar 0) (tCons (tC (.int 3)) tNil)))) tNil))) (gName 8))
    (tSeq (tIfS (tTest (tOp rGt (tVar 3) (tC (.int 1)))) (tAsg (tCall (spP K TLow) [] E0 (tCons (tOp (rIxT K) (tVar 8) (tC (.int 0))) (tCons (tVar 3) tNil))) (gName 8)) tNext)
    (tSeq (tAsg (tOp (rIxL K) (tVar 4) (tUn rNegI (tC (.int 1)))) (gTup K 2 (gCons (gName 9) (gCons (gName 10) gNil))))
    (tDrop (tBM K "list" rAppend (tVar 4) (tCons (tTup (tCons (tCall (spP K TAdQ) [] E0 (tCons (tVar 9) (tCons (tVar 8) tNil))) (tCons (tCall (spP K TAdQ) [] E0 (tCons (tVar 10) (tCons (tCall (spP K TMlQ) [] E0 (tCons (tVar 7) (tCons (tVar 8) tNil))) tNil))) tNil))) tNil)))))) tNext))))))
    (tRet (tTup (tCons (tCB (rTupOf K) (tCons (tVar 4) tNil)) (tCons (tVar 5) tNil)))))))))
section
variable {K : PySem.W.Frag} {S : Stt} {ds : List PyData} {Φ : PyData → Nat → Prop} {B : Nat}
end
end DL

set_option Elab.async false
set_option linter.all false
set_option maxRecDepth 100000
set_option maxHeartbeats 4000000
/-! LQ5: repr of lines; the pot; the cells; refusals told -/
namespace DL
open PySem PySem.Spec PyProof.Rows L2
/-! ### what may be shown -/
structure Rs (L D : Nat) (d : PyData) : Prop where
  s : d.showable = true
  h : d.hasDict = false
  l : d.shown.length ≤ L
  d : d.depth ≤ D
theorem Rs.mono {L D L' D' : Nat} {d : PyData} (h : Rs L D d) (h1 : L ≤ L') (h2 : D ≤ D') : Rs L' D' d := ⟨h.s, h.h, Nat.le_trans h.l h1, Nat.le_trans h.d h2⟩
theorem Rs.int {i : Int} {k : Nat} (hk : 0 < k) (h : i.natAbs < 2 ^ k) (h2 : k ≤ 1900) : Rs (k + 1) 0 (.int i) := by
  have hl : i.natAbs.log2 < k := log2_of (i := i) h hk
  exact ⟨decide_eq_true (show i.natAbs.log2 < 1920 by omega), rfl, by
    show (Str.ofString (toString i)).length ≤ k + 1
    rw [PySem.ofString_length]
    exact PySem.int_text_length_le (k := k) hk hl, Nat.le_refl _⟩
theorem Rs.lst {xs : List PyData} {L D n : Nat} (h : ∀ x ∈ xs, Rs L D x) (hn : xs.length ≤ n) : Rs (2 + n * (L + 2)) (D + 1) (.list xs) :=
  ⟨showableAll_of xs fun x hx => (h x hx).s, hasDictAll_of xs fun x hx => (h x hx).h, listText_le (fun x hx => (h x hx).l) hn, by
    show PyData.depthAll xs + 1 ≤ D + 1
    have := depthAll_of (n := D) xs fun x hx => (h x hx).d
    omega⟩
section
variable {K : PySem.W.Frag} {Ψ : PyData → Prop}
theorem dc_reprS {d : PyData} {L D : Nat} (hl : (∃ ds, d = .list ds) ∨ ∃ ds, d = .tuple ds) (h : Rs L D d) (h1 : L ≤ sizeLine) (h2 : D ≤ 50) (f : Ψ (.str d.shown)) : DC K (rRepr K) [d] Ψ :=
  dc_repr hl h.s h.h (Nat.le_trans h.l h1) (Nat.le_trans h.d h2) f
end
/-! ### the pot -/
def TPot : List PyData → (List Int → Prop) → Prop := fun ds Φ => ∃ c a : Int, ds = [.int c, .int a] ∧ 0 ≤ a ∧ a ≤ 1000000 ∧ ∀ ns, PotL ns 0 → Φ ns
def t_pot (K : PySem.W.Frag) : TS :=
  (tRet (tLst (tCons (tCB rMaxX (tCons (tC (.int 0)) (tCons (tOp rSubI (tVar 0) (tOp rPowI (tC (.int 10)) (tC (.int 18)))) tNil))) (tCons (tOp rAddI (tOp rModI (tVar 0) (tC (.int 2305843009213693951))) (tOp rMulI (tC (.int 7919)) (tVar 1))) (tCons (tC (.int 0)) tNil)))))
/-! ### the cells, folded -/
def spF (K : PySem.W.Frag) : Sp := fun vs H Q _ => ∃ (a0 : Addr) (ns : List Int) (m : Int), vs = [.ref a0, .int m] ∧ SqL K H a0 (ns.map V.int) ∧ ns.length ≤ 63 ∧ 1 ≤ m ∧ m ≤ 1000 ∧
  ∀ cs : List Int, (cs.length : Int) ≤ m → cs.length ≤ 63 → ∀ p H', H p = none → Same H H' → H' p = some (.lst (cs.map V.int)) → Q (.ref p) H'
def t_folded (K : PySem.W.Frag) : TS :=
  (tSeq (tAsg (tOp rRepL (tLst (tCons (tC (.int 0)) tNil)) (tCB rMinX (tCons (tCB (rLenX K) (tCons (tVar 0) tNil)) (tCons (tVar 1) tNil)))) (gName 2))
    (tSeq (tFor (iRng1 (tCons (tCB (rLenX K) (tCons (tVar 0) tNil)) tNil)) (gName 3) (tAsg (tOp rAddI (tOp rMulI (tOp rModI (tOp (rIxL K) (tVar 2) (tOp rModI (tVar 3) (tVar 1))) (tOp rPowI (tC (.int 10)) (tC (.int 64)))) (tC (.int 1000003))) (tOp (rIxL K) (tVar 0) (tVar 3))) (gSub (tVar 2) (tOp rModI (tVar 3) (tVar 1)) rSetL)))
    (tRet (tVar 2))))
end DL

set_option Elab.async false
set_option linter.all false
set_option maxRecDepth 100000
set_option maxHeartbeats 4000000
/-! LQ6: the word of a refusal -/
namespace DL
open PySem PySem.Spec PyProof.Rows L2
/-- a class of one's own over ValueError, made with a text -/
abbrev veBase : List Value := [.type "ValueError", .type "Exception", .type "BaseException", .type "object"]
structure ExcV (K : PySem.W.Frag) (C : Addr) : Prop where
  q : PySem.W.excIn K C veBase "ValueError.__new__" = true
  k : PySem.W.keepIn K (.ref C) = true
  s : PySem.W.subIn K (.ref C) (.type "BaseException") = some true
  t : PySem.W.typeIn K (.ref C) = some (.type "type")
def excVB (K : PySem.W.Frag) (C : Addr) : Bool := PySem.W.excIn K C veBase "ValueError.__new__" && (PySem.W.keepIn K (.ref C) && (decide (PySem.W.subIn K (.ref C) (.type "BaseException") = some true) &&
  decide (PySem.W.typeIn K (.ref C) = some (.type "type"))))
/-- the classes of the refusals, by name -/
structure Cls where
  amount : Addr
  line : Addr
  table : Addr
  one : List Addr
  two : List Addr
/-- the word of one that is of the class D alone -/
structure WordOk (K : PySem.W.Frag) (c : Cls) (D : Addr) (w : Str) : Prop where
  one : PySem.W.kitAny K (.ref D) (c.one.map Value.ref) = some false
  two : PySem.W.kitAny K (.ref D) (c.two.map Value.ref) = some false
  ve : PySem.W.kitOne K (.ref D) (.type "ValueError") = some true
  kinds : ∃ (b1 b2 b3 : Bool) (j : Nat), PySem.W.kitOne K (.ref D) (.ref c.amount) = some b1 ∧ PySem.W.kitOne K (.ref D) (.ref c.line) = some b2 ∧ PySem.W.kitOne K (.ref D) (.ref c.table) = some b3 ∧
    (b1, b2, b3, j, w) ∈ [(true, false, false, 0, ("amount" : Str)), (false, true, false, 1, ("line" : Str)), (false, false, true, 2, ("table" : Str))]
def spW (K : PySem.W.Frag) (D : Addr) (w : Str) : Sp := fun vs H Q _ => ∃ a : Addr, vs = [.ref a] ∧ H a = some (.ext (excAt a (.ref D))) ∧ ∀ H', Same H H' → Q (.str w) H'
def t_word (K : PySem.W.Frag) (D A_NoAmount A_NoLine A_NoTable A_NoDays A_NoDeed A_NoFold A_NoLeave A_NoPot A_NoRule A_NoStretch A_NoTelling A_NoText A_NoCut A_NoName A_NoNumber A_NoPart A_TooLong : Addr) : TS :=
  (tSeq (tAsg (tLst (tCons (tCB (rIsiE K D) (tCons (tVar 0) (tCons (tC (.ref A_NoAmount)) tNil))) (tCons (tCB (rIsiE K D) (tCons (tVar 0) (tCons (tC (.ref A_NoLine)) tNil))) (tCons (tCB (rIsiE K D) (tCons (tVar 0) (tCons (tC (.ref A_NoTable)) tNil))) tNil)))) (gName 1))
    (tSeq (tAsg (tCB (rIsiET K D) (tCons (tVar 0) (tCons (tTup (tCons (tC (.ref A_NoDays)) (tCons (tC (.ref A_NoDeed)) (tCons (tC (.ref A_NoFold)) (tCons (tC (.ref A_NoLeave)) (tCons (tC (.ref A_NoPot)) (tCons (tC (.ref A_NoRule)) (tCons (tC (.ref A_NoStretch)) (tCons (tC (.ref A_NoTelling)) (tCons (tC (.ref A_NoText)) tNil)))))))))) tNil))) (gName 2))
    (tSeq (tAsg (tOrV (tVar 2) (tCB (rIsiET K D) (tCons (tVar 0) (tCons (tTup (tCons (tC (.ref A_NoCut)) (tCons (tC (.ref A_NoName)) (tCons (tC (.ref A_NoNumber)) (tCons (tC (.ref A_NoPart)) (tCons (tC (.ref A_TooLong)) tNil)))))) tNil)))) (gName 2))
    (tSeq (tIfS (tOr (tB (tVar 2)) (tOr (tTest (tOp rNe (tBM K "list" (rCntF K) (tVar 1) (tCons (tC (.bl true)) tNil)) (tC (.int 1)))) (tNot (tB (tCB (rIsiE K D) (tCons (tVar 0) (tCons (tC (.ty "ValueError")) tNil))))))) (tRet (tC (.str "odd"))) tNext)
    (tRet (tOp (rIxL K) (tLst (tCons (tC (.str "amount")) (tCons (tC (.str "line")) (tCons (tC (.str "table")) tNil)))) (tBM K "list" (rIndex K) (tVar 1) (tCons (tC (.bl true)) tNil))))))))
/-! ### a refusal of the height below nought -/
def TYx (C : Addr) : List PyData → (PyData → Prop) → (Addr → Prop) → Prop := fun ds _ Ψ => ∃ (l : PyData) (x : Rat), ds = [l, qp x] ∧ x < 0 ∧ Ψ C
def t_yatX (K : PySem.W.Frag) (C : Addr) (E : XK) : TS := tSeq (tIfS (tTest (tOp rLt (tOp (rIxT K) (tVar 1) (tC (.int 0))) (tC (.int 0)))) (fun _ σ H => E (.ref C) none H) tNext) tNo
local macro_rules | `(tactic| walk_at "dl") => `(tactic| repeat' (first
  | with_reducible refine wd_isTy ?_ | with_reducible refine wd_isi ?_ | with_reducible refine wd_op ?_ | ((with_reducible show WD _ _ (tCB (rLenX _) (tCons (tVar _) tNil)) _ _); refine wd_len_scr rfl ?_) | with_reducible refine wd_cb ?_ | with_reducible refine wd_un ?_ | with_reducible refine wa_cons ?_ | with_reducible refine wa_nil ?_ | ((with_reducible show WD _ _ (tVar _) _ _); refine wd_var rfl ?_) | with_reducible refine wd_int ?_ | with_reducible refine wd_bl ?_ | with_reducible refine wd_str ?_ | with_reducible refine wd_non ?_
  | with_reducible refine do_add ?_ | with_reducible refine do_sub ?_ | ((with_reducible refine do_mod ?_ ?_); decide) | with_reducible refine do_mod ?_ ?_ | with_reducible refine do_mul ?_ ?_ | ((with_reducible refine do_div ?_ ?_); exact ⟨by decide, by decide⟩) | with_reducible refine do_div ?_ ?_ | ((with_reducible refine do_pow ?_ ?_); exact ⟨by decide, by decide, by decide⟩) | with_reducible refine do_pow ?_ ?_
  | with_reducible refine do_lt ?_ | with_reducible refine do_le ?_ | with_reducible refine do_gt ?_ | with_reducible refine do_ge ?_ | with_reducible refine du_neg ?_
  | with_reducible refine do_eqi ?_ | with_reducible refine do_nei ?_ | with_reducible refine do_eqs ?_ | with_reducible refine do_nes ?_ | with_reducible refine dc_abs ?_ | with_reducible refine dc_min ?_ | with_reducible refine dc_max ?_ | with_reducible refine dc_lenL ?_ | with_reducible refine dc_lenT ?_ | with_reducible refine dc_gcd ?_
  | ((with_reducible show DO _ (rIxT _) _ _ _); refine do_ixT rfl ?_) | ((with_reducible show DO _ (rIxL _) _ _ _); refine do_ixL rfl ?_) | ((with_reducible refine do_catL ?_ ?_); exact Nat.le_of_ble_eq_true rfl) | with_reducible refine do_catL ?_ ?_ | ((with_reducible show And (List.length _ ≤ sizeLine) _); refine ⟨Nat.le_of_ble_eq_true rfl, ?_⟩)
  | with_reducible refine wd_dnew ?_ | with_reducible refine wd_call0 ?_ | with_reducible refine wd_slA ?_ | with_reducible refine wo_part ?_ | with_reducible refine wo_none ?_ | with_reducible refine do_eqQ ?_ | with_reducible refine do_neQ ?_ | with_reducible refine wi_enumT ?_ | with_reducible refine tAdQ (by omega) (by omega) ?_ | with_reducible refine tSbQ (by omega) (by omega) ?_ | with_reducible refine tMlQ (by omega) (by omega) ?_ | with_reducible refine tDvQ (by assumption) (by omega) (by omega) ?_ | with_reducible refine tLtQ (by omega) (by omega) ?_ | with_reducible refine dc_str ?_ ?_ | with_reducible refine wd_tup ?_ | with_reducible refine wd_lst ?_ | with_reducible refine wt_test ?_ | with_reducible refine wt_B ?_ | with_reducible refine wt_not ?_ | with_reducible refine wt_and ?_ | with_reducible refine wt_or ?_ | with_reducible refine wd_ifE ?_ | with_reducible refine wd_andV ?_ | with_reducible refine wd_orV ?_ | with_reducible refine wd_notV ?_
  | with_reducible refine ws_seq ?_ | with_reducible refine ws_next ?_ | with_reducible refine ws_asg ?_ | with_reducible refine ws_ret ?_ | with_reducible refine ws_retN ?_ | with_reducible refine ws_if ?_ | with_reducible refine ws_par ?_ | with_reducible refine ws_unp2 ?_
  | with_reducible refine if_t ?_ | with_reducible refine if_f ?_ | with_reducible refine if_nf ?_ | with_reducible refine if_nt ?_
  | ((with_reducible show Exists _); first | refine ⟨_, kitInt _, ?_⟩ | refine ⟨_, kitBool _, ?_⟩ | refine ⟨_, kitTup _, ?_⟩ | refine ⟨_, kitList _, ?_⟩ | refine ⟨_, rfl, ?_⟩ | refine ⟨_, _, rfl, ?_⟩ | fail) | fail))
/-! ### told or refused -/
def TTold : List PyData → (PyData → Prop) → Prop := fun ds Φ => ∃ (l : PyData) (x : Rat), ds = [l, qp x] ∧ x < 0 ∧ Φ (.str "amount")
def ts_told (a : Addr) : TS := tAsg (tVar 4) (gName 2)
def tb_told (K : PySem.W.Frag) (C : Addr) (W : WX) : TS := tAsg (tCallS (spX K (TYx C)) (WE W) (tCons (tVar 0) (tCons (tVar 1) tNil))) (gName 3)
def te_told (K : PySem.W.Frag) (C : Addr) : TE := tIf (tTest (tOp rIsNone (tVar 2) (tC .non))) (tVar 3) (tCall (spW K C "amount") [] E0 (tCons (tVar 2) tNil))
def t_told (K : PySem.W.Frag) (C P : Addr) : TS :=
  (tSeq (tAsg (tC .non) (gName 2))
    (tSeq (tAsg (tC .non) (gName 3))
    (tSeq (fun D σ H => tb_told K C (wKeep K (.ref P) 4 ts_told D) D σ H)
    (tRet (te_told K C)))))
/-! ### the line of one part -/
def TFlat : List PyData → (PyData → Prop) → Prop := fun ds Φ => ∃ y : Rat, ds = [qp y] ∧ Φ (lnD [(0, y)] 0)
def t_flat (K : PySem.W.Frag) (a_NOUGHT : Addr) : TS :=
  (tRet (tTup (tCons (tTup (tCons (tTup (tCons (tC (.ref a_NOUGHT)) (tCons (tVar 0) tNil))) tNil)) (tCons (tC (.ref a_NOUGHT)) tNil))))
end DL

set_option Elab.async false
set_option linter.all false
set_option maxRecDepth 100000
set_option maxHeartbeats 4000000
/-! LQ7: the law of heights -/
namespace DL
open PySem PySem.Spec PyProof.Rows L2
section
variable {K : PySem.W.Frag} {S : Stt} {ρ : Rho} {Φ : PyData → Rho → Prop} {Ψ : PyData → Prop}
abbrev rInt1 : List V → Hp → VK → Prop := fun xs H Q => (∃ i, xs = [.int i] ∧ Q (.int i) H) ∨ ∃ k, xs = [.bl k] ∧ Q (.int (if k then 1 else 0)) H
theorem wt_yes {Θ : Bool → Rho → Prop} (h : Θ true ρ) : WT K S tYes ρ Θ := fun H0 N0 Z N σ H E Q q => q true ρ H h E Keep.refl
end
local macro_rules | `(tactic| walk_at "dl") => `(tactic| repeat' (first
  | with_reducible refine wd_isTy ?_ | with_reducible refine wd_isi ?_ | with_reducible refine wd_op ?_ | ((with_reducible show WD _ _ (tCB (rLenX _) (tCons (tVar _) tNil)) _ _); refine wd_len_scr rfl ?_) | with_reducible refine wd_cb ?_ | with_reducible refine wd_un ?_ | with_reducible refine wa_cons ?_ | with_reducible refine wa_nil ?_ | ((with_reducible show WD _ _ (tVar _) _ _); refine wd_var rfl ?_) | with_reducible refine wd_int ?_ | with_reducible refine wd_bl ?_ | with_reducible refine wd_str ?_ | with_reducible refine wd_non ?_
  | with_reducible refine do_nesS ?_ | with_reducible refine dc_intB ?_ | with_reducible refine do_add ?_ | with_reducible refine do_sub ?_ | ((with_reducible refine do_mod ?_ ?_); decide) | with_reducible refine do_mod ?_ ?_ | with_reducible refine do_mul ?_ ?_ | ((with_reducible refine do_div ?_ ?_); exact ⟨by decide, by decide⟩) | with_reducible refine do_div ?_ ?_ | ((with_reducible refine do_pow ?_ ?_); exact ⟨by decide, by decide, by decide⟩) | with_reducible refine do_pow ?_ ?_
  | with_reducible refine do_lt ?_ | with_reducible refine do_le ?_ | with_reducible refine do_gt ?_ | with_reducible refine do_ge ?_ | with_reducible refine du_neg ?_
  | with_reducible refine do_eqi ?_ | with_reducible refine do_nei ?_ | with_reducible refine do_eqs ?_ | with_reducible refine do_nes ?_ | with_reducible refine dc_abs ?_ | with_reducible refine dc_min ?_ | with_reducible refine dc_max ?_ | with_reducible refine dc_lenL ?_ | with_reducible refine dc_lenT ?_ | with_reducible refine dc_gcd ?_
  | ((with_reducible show DO _ (rIxT _) _ _ _); refine do_ixT rfl ?_) | ((with_reducible show DO _ (rIxL _) _ _ _); refine do_ixL rfl ?_) | ((with_reducible refine do_catL ?_ ?_); exact Nat.le_of_ble_eq_true rfl) | with_reducible refine do_catL ?_ ?_ | ((with_reducible show And (List.length _ ≤ sizeLine) _); refine ⟨Nat.le_of_ble_eq_true rfl, ?_⟩)
  | with_reducible refine wd_dnew ?_ | with_reducible refine wd_call0 ?_ | with_reducible refine wd_slA ?_ | with_reducible refine wo_part ?_ | with_reducible refine wo_none ?_ | with_reducible refine do_eqQ ?_ | with_reducible refine do_neQ ?_ | with_reducible refine wi_enumT ?_ | with_reducible refine tAdQ (by omega) (by omega) ?_ | with_reducible refine tSbQ (by omega) (by omega) ?_ | with_reducible refine tMlQ (by omega) (by omega) ?_ | with_reducible refine tDvQ (by assumption) (by omega) (by omega) ?_ | with_reducible refine tLtQ (by omega) (by omega) ?_ | with_reducible refine dc_str ?_ ?_ | with_reducible refine wd_tup ?_ | with_reducible refine wd_lst ?_ | with_reducible refine wt_test ?_ | with_reducible refine wt_B ?_ | with_reducible refine wt_not ?_ | with_reducible refine wt_and ?_ | with_reducible refine wt_or ?_ | with_reducible refine wd_ifE ?_ | with_reducible refine wd_andV ?_ | with_reducible refine wd_orV ?_ | with_reducible refine wd_notV ?_
  | with_reducible refine ws_seq ?_ | with_reducible refine ws_next ?_ | with_reducible refine ws_asg ?_ | with_reducible refine ws_ret ?_ | with_reducible refine ws_retN ?_ | with_reducible refine ws_if ?_ | with_reducible refine ws_par ?_ | with_reducible refine ws_unp2 ?_
  | with_reducible refine if_t ?_ | with_reducible refine if_f ?_ | with_reducible refine if_nf ?_ | with_reducible refine if_nt ?_
  | ((with_reducible show Exists _); first | refine ⟨_, kitInt _, ?_⟩ | refine ⟨_, kitBool _, ?_⟩ | refine ⟨_, kitTup _, ?_⟩ | refine ⟨_, kitList _, ?_⟩ | refine ⟨_, rfl, ?_⟩ | refine ⟨_, _, rfl, ?_⟩ | fail) | fail))
def t_law7 (K : PySem.W.Frag) : TS :=
  (tSeq (tFor (iEnum K (tCons (tOp rCatL (tLst (tCons (tC (.int 0)) tNil)) (tCall (spF K) [] E0 (tCons (tVar 0) (tCons (tC (.int 20)) tNil)))) tNil)) (gTup K 2 (gCons (gName 1) (gCons (gName 2) gNil))) (tSeq (tAsg (tCall (spN K TPot) [] E0 (tCons (tVar 2) (tCons (tVar 1) tNil))) (gName 3))
    (tSeq (tAsg (tCall (spS K FPot TLine) [] E0 (tCons (tVar 3) (tCons (tOp (rIxL K) (tLst (tCons (tC (.int 12)) (tCons (tC (.int 60)) tNil))) (tCB rInt1 (tCons (tOp rEq (tVar 1) (tC (.int 1))) tNil))) tNil))) (gName 4))
    (tSeq (tAsg (tLc (iTup K (tOp (rIxT K) (tVar 4) (tC (.int 0)))) (gName 10) tYes (tOp (rIxT K) (tVar 10) (tC (.int 0))) [10]) (gName 5))
    (tSeq (tFor (iRng1 (tCons (tC (.int 4)) tNil)) (gName 6) (tSeq (tAsg (tOp (rIxL K) (tVar 5) (tCall (spS K FPot TTake) [] E0 (tCons (tVar 3) (tCons (tCB (rLenX K) (tCons (tOp (rIxT K) (tVar 4) (tC (.int 0))) tNil)) tNil)))) (gName 7))
    (tDrop (tBM K "list" rAppend (tVar 5) (tCons (tCall (spP K TAdQ) [] E0 (tCons (tVar 7) (tCons (tCall (spP K TLow) [] E0 (tCons (tCall (spS K FPot TTake) [] E0 (tCons (tVar 3) (tCons (tC (.int 9)) tNil))) (tCons (tOp (rIxL K) (tLst (tCons (tC (.int 1)) (tCons (tC (.int 7)) tNil))) (tCB rInt1 (tCons (tOp rLt (tOp (rIxT K) (tVar 7) (tC (.int 1))) (tC (.int 100))) tNil))) tNil))) tNil))) tNil)))))
    (tSeq (tAsg (tOp rCatL (tVar 5) (tLst (tCons (tCall (spP K TLow) [] E0 (tCons (tCall (spS K FPot TTake) [] E0 (tCons (tVar 3) (tCons (tOp rPowI (tC (.int 10)) (tC (.int 6))) tNil))) (tCons (tOp rAddI (tC (.int 1)) (tCall (spS K FPot TTake) [] E0 (tCons (tVar 3) (tCons (tC (.int 1000)) tNil)))) tNil))) (tCons (tTup (tCons (tOp rPowI (tC (.int 10)) (tC (.int 6))) (tCons (tC (.int 1)) tNil))) tNil)))) (gName 5))
    (tSeq (tFor (iList K (tVar 5)) (gName 8) (tIfS (tTest (tOp rNe (tCB (rRepr K) (tCons (tLst (tCons (tCall (spP K TYat) [] E0 (tCons (tVar 4) (tCons (tVar 8) tNil))) (tCons (tCall (spP K TYat) [] E0 (tCons (tVar 4) (tCons (tVar 8) tNil))) tNil))) tNil)) (tCB (rRepr K) (tCons (tLst (tCons (tCall (spP K TYat) [] E0 (tCons (tVar 4) (tCons (tVar 8) tNil))) (tCons (tCall (spP K TYat) [] E0 (tCons (tVar 4) (tCons (tVar 8) tNil))) tNil))) tNil)))) (tRet (tC (.bl false))) tNext))
    (tSeq (tIfS (tTest (tOp rNe (tCall (spP K TTold) [] E0 (tCons (tVar 4) (tCons (tCall (spP K TLow) [] E0 (tCons (tOp rSubI (tUn rNegI (tC (.int 1))) (tCall (spS K FPot TTake) [] E0 (tCons (tVar 3) (tCons (tC (.int 99)) tNil)))) (tCons (tOp rAddI (tC (.int 1)) (tCall (spS K FPot TTake) [] E0 (tCons (tVar 3) (tCons (tC (.int 99)) tNil)))) tNil))) tNil))) (tC (.str "amount")))) (tRet (tC (.bl false))) tNext)
    (tSeq (tAsg (tCall (spP K TLow) [] E0 (tCons (tOp rSubI (tCall (spS K FPot TTake) [] E0 (tCons (tVar 3) (tCons (tC (.int 2001)) tNil))) (tC (.int 1000))) (tCons (tOp rAddI (tC (.int 1)) (tCall (spS K FPot TTake) [] E0 (tCons (tVar 3) (tCons (tC (.int 1000)) tNil)))) tNil))) (gName 9))
    (tIfS (tOr (tTest (tOp rNe (tCB (rRepr K) (tCons (tCall (spP K TFlat) [] E0 (tCons (tVar 9) tNil)) tNil)) (tCB (rRepr K) (tCons (tTup (tCons (tTup (tCons (tTup (tCons (tTup (tCons (tC (.int 0)) (tCons (tC (.int 1)) tNil))) (tCons (tVar 9) tNil))) tNil)) (tCons (tTup (tCons (tC (.int 0)) (tCons (tC (.int 1)) tNil))) tNil))) tNil)))) (tTest (tOp (rNeD K) (tCall (spP K TYat) [] E0 (tCons (tCall (spP K TFlat) [] E0 (tCons (tVar 9) tNil)) (tCons (tTup (tCons (tOp rPowI (tC (.int 10)) (tC (.int 6))) (tCons (tC (.int 7)) tNil))) tNil))) (tVar 9)))) (tRet (tC (.bl false))) tNext))))))))))
    (tRet (tC (.bl true))))
/-- what is asked of -/
def Ask (x : Rat) : Prop := 0 ≤ x ∧ sz x ≤ 100
end DL

set_option Elab.async false
set_option linter.all false
set_option maxRecDepth 100000
set_option maxHeartbeats 4000000
namespace DL
open PySem PySem.Spec PyProof.Rows L2
/-- a law that asks without a store in front -/
theorem run_law0 {K : PySem.W.Frag} {n : Nat} {Nm : List Str} {ts : TS} {vs : List V} {H : Hp} {Q : VK} {E : XK} (hn : Nm.length = n + 1) (h : spLaw K vs H Q E)
    (b : ∀ ns, ns.length ≤ 63 → WS K S0 ts (.scr ns :: List.replicate n .unk) { nx := fun _ => False, rt := fun d _ => d = .bool true }) :
    ts { nx := fun _ H' => Q .non H', rt := Q } (L2.start Nm vs) H := by
  obtain ⟨a, ns, rfl, hs, hl, hQ⟩ := h
  have e0 : L2.start Nm [V.ref a] = some (.ref a) :: List.replicate n none := by
    show [some (V.ref a)] ++ List.replicate (Nm.length - 1) none = _
    rw [hn, show n + 1 - 1 = n by omega]
    rfl
  rw [e0]
  have rep : ∀ {i : Nat} {s : Sl}, (List.replicate n Sl.unk)[i]? = some s → s = .unk := fun {i s} h => by
    rw [List.getElem?_replicate] at h
    split at h
    · exact (Option.some.inj h).symm
    · cases h
  have woF : ∀ G : Hp, wo (fun _ => false) G = G := fun G => by funext b; rfl
  have E1 : EnvD K S0 (fun _ => none) (fun _ => false) [] (fun _ => false) (some (V.ref a) :: List.replicate n none) H (.scr ns :: List.replicate n .unk) := {
    keep := fun _ _ _ h => (nomatch h), base := fun _ h => (nomatch h), trk := fun _ h => (nomatch h), sub := fun _ h => (nomatch h), len := by simp, hid := fun _ h => (nomatch h), injZ := fun i j di dj p h => by simp at h
    slot := fun i s h => by
      match i, h with
      | 0, h => cases h; exact ⟨a, rfl, by rw [woF]; exact hs⟩
      | i + 1, h =>
        have e : s = .unk := rep (i := i) (by simpa using h)
        subst e
        trivial
    injH := fun i di dj p h1 h2 hz => by cases hz
    inj := fun i j di dj p h1 => by
      match i, h1 with
      | 0, h => cases h
      | i + 1, h =>
        have e : Sl.own di = .unk := rep (i := i) (by simpa using h)
        cases e }
  refine b ns hl _ _ _ _ _ _ _ E1 ⟨fun _ _ _ _ q => q.elim, fun N' σ' H2 ρ' v d q E2 dv => ?_, fun _ _ _ _ q => q.elim, fun _ _ _ _ q => q.elim⟩
  have q' : d = .bool true := q
  subst q'
  have e : v = .bl true := dv.bool_inv
  subst e
  exact hQ H2
end DL

set_option Elab.async false
set_option linter.all false
set_option maxRecDepth 100000
set_option maxHeartbeats 4000000
/-! K02: what is a part, what an amount -/
namespace DL
open PySem PySem.Spec PyProof.Rows L2
local macro_rules | `(tactic| walk_at "dl") => `(tactic| repeat' (first
  | with_reducible refine wd_isTy ?_ | with_reducible refine wd_isi ?_ | with_reducible refine wd_op ?_ | with_reducible refine wd_cb ?_ | with_reducible refine wd_un ?_ | with_reducible refine wa_cons ?_ | with_reducible refine wa_nil ?_ | ((with_reducible show WD _ _ (tVar _) _ _); refine wd_var rfl ?_) | with_reducible refine wd_int ?_ | with_reducible refine wd_bl ?_ | with_reducible refine wd_str ?_ | with_reducible refine wd_non ?_
  | with_reducible refine do_add ?_ | with_reducible refine do_sub ?_ | ((with_reducible refine do_mod ?_ ?_); decide) | with_reducible refine do_mod ?_ ?_ | with_reducible refine do_mul ?_ ?_ | ((with_reducible refine do_div ?_ ?_); exact ⟨by decide, by decide⟩) | with_reducible refine do_div ?_ ?_ | ((with_reducible refine do_pow ?_ ?_); exact ⟨by decide, by decide, by decide⟩) | with_reducible refine do_pow ?_ ?_
  | with_reducible refine do_lt ?_ | with_reducible refine do_le ?_ | with_reducible refine do_gt ?_ | with_reducible refine do_ge ?_ | with_reducible refine du_neg ?_
  | with_reducible refine do_eqi ?_ | with_reducible refine do_nei ?_ | with_reducible refine do_eqs ?_ | with_reducible refine do_nes ?_ | with_reducible refine dc_abs ?_ | with_reducible refine dc_min ?_ | with_reducible refine dc_max ?_ | with_reducible refine dc_lenL ?_ | with_reducible refine dc_lenT ?_ | with_reducible refine dc_gcd ?_
  | ((with_reducible show DO _ (rIxT _) _ _ _); refine do_ixT rfl ?_) | ((with_reducible show DO _ (rIxL _) _ _ _); refine do_ixL rfl ?_) | with_reducible refine do_catL ?_ ?_
  | with_reducible refine wd_dnew ?_ | with_reducible refine wd_call0 ?_ | with_reducible refine dc_str ?_ ?_ | with_reducible refine wd_tup ?_ | with_reducible refine wd_lst ?_ | with_reducible refine wt_test ?_ | with_reducible refine wt_B ?_ | with_reducible refine wt_not ?_ | with_reducible refine wt_and ?_ | with_reducible refine wt_or ?_ | with_reducible refine wd_ifE ?_ | with_reducible refine wd_andV ?_ | with_reducible refine wd_orV ?_ | with_reducible refine wd_notV ?_
  | with_reducible refine ws_seq ?_ | with_reducible refine ws_next ?_ | with_reducible refine ws_asg ?_ | with_reducible refine ws_ret ?_ | with_reducible refine ws_retN ?_ | with_reducible refine ws_if ?_ | with_reducible refine ws_par ?_ | with_reducible refine ws_unp2 ?_
  | with_reducible refine if_t ?_ | with_reducible refine if_f ?_ | with_reducible refine if_nf ?_ | with_reducible refine if_nt ?_
  | ((with_reducible show Exists _); first | refine ⟨_, kitInt _, ?_⟩ | refine ⟨_, kitBool _, ?_⟩ | refine ⟨_, kitTup _, ?_⟩ | refine ⟨_, kitList _, ?_⟩ | refine ⟨_, rfl, ?_⟩ | refine ⟨_, _, rfl, ?_⟩ | fail) | fail))

def isW (d : PyData) : Bool := tyD d == "int"
def isPartD : PyData → Bool
  | .tuple [.int a, .int b] => decide (1 ≤ b) && decide (Nat.gcd a.natAbs b.natAbs = 1)
  | _ => false
def isAmtD : PyData → Bool
  | .tuple [.int a, .int b] => decide (1 ≤ b) && decide (Nat.gcd a.natAbs b.natAbs = 1) && decide (0 ≤ a)
  | _ => false
def TWhole : List PyData → (PyData → Prop) → Prop := fun ds Φ => ∃ d, ds = [d] ∧ Φ (.bool (isW d))
def TPartB : List PyData → (PyData → Prop) → Prop := fun ds Φ => ∃ d, ds = [d] ∧ Φ (.bool (isPartD d))
def TAmountB : List PyData → (PyData → Prop) → Prop := fun ds Φ => ∃ d, ds = [d] ∧ Φ (.bool (isAmtD d))
def GoodD (d : PyData) : Prop := ∀ a b, d = .tuple [.int a, .int b] → a.natAbs < 2 ^ 8000 ∧ b.natAbs < 2 ^ 8000
def TIsPart : List PyData → (PyData → Prop) → Prop := fun ds Φ => ∃ d, ds = [d] ∧ GoodD d ∧ Φ (.bool (isPartD d))
/-- a part, told for judging -/
structure PBig (n d : Int) : Prop where
  d1 : 1 ≤ d
  d2 : d ≤ 10 ^ 30
  n1 : n.natAbs ≤ 10 ^ 30
def TSpoilt : Nat → List PyData → (PyData → Nat → Prop) → Prop := fun B ds Φ => ∃ n d, ds = [pr (n, d)] ∧ PBig n d ∧ B + 800 ≤ 2 ^ 40 ∧ ∀ z, GoodD z → Φ z (B + 800)
def TThing : Nat → List PyData → (PyData → Nat → Prop) → Prop := fun B ds Φ => ds = [] ∧ B + 6000 ≤ 2 ^ 40 ∧ ∀ z B', GoodD z → B' ≤ B + 6000 → Φ z B'
def t_law_whole (K : PySem.W.Frag) : TS :=
  (tRet (tAndV (tCB (rIsi K) (tCons (tVar 0) (tCons (tC (.ty "int")) tNil))) (tNotV (tCB (rIsi K) (tCons (tVar 0) (tCons (tC (.ty "bool")) tNil))))))

def t_law_is_part (K : PySem.W.Frag) : TS :=
  (tSeq (tIfS (tOr (tNot (tB (tCB (rIsi K) (tCons (tVar 0) (tCons (tC (.ty "tuple")) tNil))))) (tOr (tTest (tOp rNe (tCB (rLenX K) (tCons (tVar 0) tNil)) (tC (.int 2)))) (tOr (tNot (tB (tCall (spP K TWhole) [] E0 (tCons (tOp (rIxT K) (tVar 0) (tC (.int 0))) tNil)))) (tNot (tB (tCall (spP K TWhole) [] E0 (tCons (tOp (rIxT K) (tVar 0) (tC (.int 1))) tNil))))))) (tRet (tC (.bl false))) tNext)
    (tRet (tAndV (tOp rGt (tOp (rIxT K) (tVar 0) (tC (.int 1))) (tC (.int 0))) (tOp (rEqD K) (tCall (spP K TPart) [] E0 (tCons (tOp (rIxT K) (tVar 0) (tC (.int 0))) (tCons (tOp (rIxT K) (tVar 0) (tC (.int 1))) tNil))) (tVar 0)))))

def t_law_spoilt (K : PySem.W.Frag) : TS :=
  (tSeq (tAsg (tCall (spS K FSto TDr) [] E0 (tCons (tVar 0) (tCons (tC (.int 14)) tNil))) (gName 2))
    (tSeq (tAsg (tOp rAddI (tC (.int 2)) (tCall (spS K FSto TDr) [] E0 (tCons (tVar 0) (tCons (tC (.int 9)) tNil)))) (gName 3))
    (tSeq (tAsg (tVar 1) (gTup K 2 (gCons (gName 4) (gCons (gName 5) gNil))))
    (tSeq (tAsg (tLst (tCons (tVar 1) (tCons (tTup (tCons (tOp rMulI (tVar 3) (tVar 4)) (tCons (tOp rMulI (tVar 3) (tVar 5)) tNil))) (tCons (tTup (tCons (tVar 4) (tCons (tOp rSubI (tC (.int 0)) (tVar 5)) tNil))) (tCons (tTup (tCons (tVar 4) (tCons (tC (.int 0)) tNil))) (tCons (tTup (tCons (tOp rSubI (tC (.int 0)) (tVar 4)) (tCons (tVar 5) tNil))) (tCons (tTup (tCons (tVar 4) (tCons (tC (.bl true)) tNil))) tNil))))))) (gName 6))
    (tSeq (tAsg (tOp rCatL (tVar 6) (tLst (tCons (tTup (tCons (tC (.bl true)) (tCons (tVar 5) tNil))) (tCons (tTup (tCons (tCB rStrI (tCons (tVar 4) tNil)) (tCons (tVar 5) tNil))) (tCons (tTup (tCons (tVar 4) (tCons (tC .non) tNil))) (tCons (tLst (tCons (tVar 4) (tCons (tVar 5) tNil))) (tCons (tTup (tCons (tVar 4) tNil)) (tCons (tTup (tCons (tVar 4) (tCons (tVar 5) (tCons (tC (.int 1)) tNil)))) tNil)))))))) (gName 6))
    (tRet (tOp (rIxL K) (tOp rCatL (tVar 6) (tLst (tCons (tTup (tCons (tVar 1) tNil)) (tCons (tTup (tCons (tC (.int 0)) (tCons (tVar 3) tNil))) tNil)))) (tVar 2))))))))

def t_law_thing (K : PySem.W.Frag) : TS :=
  (tSeq (tAsg (tCall (spS K FSto TDr) [] E0 (tCons (tVar 0) (tCons (tC (.int 6)) tNil))) (gName 1))
    (tSeq (tAsg (tCall (spS K FSto TSmall) [] E0 (tCons (tVar 0) tNil)) (gName 2))
    (tSeq (tAsg (tCall (spP K TPart) [] E0 (tCons (tCall (spS K FSto TDr) [] E0 (tCons (tVar 0) (tCons (tOp rPowI (tC (.int 10)) (tC (.int 30))) tNil))) (tCons (tOp rAddI (tC (.int 1)) (tCall (spS K FSto TDr) [] E0 (tCons (tVar 0) (tCons (tOp rPowI (tC (.int 10)) (tC (.int 30))) tNil)))) tNil))) (gName 3))
    (tSeq (tIfS (tTest (tOp rEq (tVar 1) (tC (.int 0)))) (tRet (tOp (rIxL K) (tLst (tCons (tC .non) (tCons (tC (.int 7)) (tCons (tC (.bl true)) (tCons (tC (.str "")) (tCons (tTup tNil) (tCons (tLst tNil) (tCons tDNewK (tCons (tTup (tCons (tC (.int 0)) (tCons (tC (.int 1)) tNil))) (tCons (tTup (tCons (tC (.int 1)) (tCons (tC (.int 1)) tNil))) (tCons (tTup (tCons (tC (.int 0)) (tCons (tC (.int 0)) tNil))) (tCons (tTup (tCons (tC (.int 1)) (tCons (tUn rNegI (tC (.int 1))) tNil))) (tCons (tTup (tCons (tTup (tCons (tC (.int 0)) (tCons (tC (.int 1)) tNil))) (tCons (tTup (tCons (tC (.int 0)) (tCons (tC (.int 1)) tNil))) tNil))) tNil))))))))))))) (tCall (spS K FSto TDr) [] E0 (tCons (tVar 0) (tCons (tC (.int 12)) tNil))))) tNext)
    (tSeq (tIfS (tTest (tOp rEq (tVar 1) (tC (.int 1)))) (tRet (tVar 3)) tNext)
    (tSeq (tIfS (tTest (tOp rEq (tVar 1) (tC (.int 2)))) (tRet (tCall (spS K FSto TSpoilt) [] E0 (tCons (tVar 0) (tCons (tVar 3) tNil)))) tNext)
    (tRet (tCall (spS K FSto TSpoilt) [] E0 (tCons (tVar 0) (tCons (tVar 2) tNil))))))))))

def t_is_whole (K : PySem.W.Frag) : TS :=
  (tRet (tOp rIsTyX (tCB (rTyp K) (tCons (tVar 0) tNil)) (tC (.ty "int"))))

def t_is_part (K : PySem.W.Frag) : TS :=
  (tSeq (tIfS (tNot (tAnd (tTest (tOp rIsTyX (tCB (rTyp K) (tCons (tVar 0) tNil)) (tC (.ty "tuple")))) (tTest (tOp rEq (tCB (rLenX K) (tCons (tVar 0) tNil)) (tC (.int 2)))))) (tRet (tC (.bl false))) tNext)
    (tSeq (tAsg (tVar 0) (gTup K 2 (gCons (gName 1) (gCons (gName 2) gNil))))
    (tRet (tAndV (tCall (spP K TWhole) [] E0 (tCons (tVar 1) tNil)) (tAndV (tCall (spP K TWhole) [] E0 (tCons (tVar 2) tNil)) (tAndV (tOp rGe (tVar 2) (tC (.int 1))) (tOp rEq (tCB rGcd (tCons (tVar 1) (tCons (tVar 2) tNil))) (tC (.int 1)))))))))

def t_is_amount (K : PySem.W.Frag) : TS :=
  (tRet (tAndV (tCall (spP K TPartB) [] E0 (tCons (tVar 0) tNil)) (tOp rGe (tOp (rIxT K) (tVar 0) (tC (.int 0))) (tC (.int 0)))))



section
variable {K : PySem.W.Frag} {S : Stt}
end
end DL

set_option Elab.async false
set_option linter.all false
set_option maxRecDepth 100000
set_option maxHeartbeats 4000000
/-! DM3: reversed tuples, rows numbered, lists of one's own lengthened, repr of anything shown -/
namespace DL
open PySem PySem.Spec PyProof.Rows L2
/-! ### t[::-1] -/
section
variable {prog : Program} {w : World} {A : Around} {E : Value → Shared → Prop} {s : Shared}
theorem adjust_rev (n : Nat) : Builtin.Slice.sliceAdjust none none (-1) (n : Int) = ((n : Int) - 1, -1) := by
  unfold Builtin.Slice.sliceAdjust
  simp
theorem places_rev (n : Nat) : Builtin.Slice.slicePlaces ((n : Int) - 1) (-1) (-1) = n := by
  unfold Builtin.Slice.slicePlaces
  simp
  split <;> omega
theorem pick_rev (xs : Array Value) : ((List.range xs.size).filterMap fun (m : Nat) => xs[((xs.size : Int) - 1 + (m : Int) * (-1)).toNat]?).toArray = xs.toList.reverse.toArray := by
  congr 1
  have h1 : ∀ m ∈ List.range xs.size, xs[((xs.size : Int) - 1 + (m : Int) * (-1)).toNat]? = xs.toList.reverse[m]? := fun m hm => by
    rw [List.mem_range] at hm
    have e : ((xs.size : Int) - 1 + (m : Int) * (-1)).toNat = xs.size - 1 - m := by omega
    rw [e, List.getElem?_reverse (by rw [Array.length_toList]; exact hm), Array.length_toList, Array.getElem?_toList]
  have h0 : ∀ {f g : Nat → Option Value} (l : List Nat), (∀ m ∈ l, f m = g m) → l.filterMap f = l.filterMap g := by
    intro f g l
    induction l with
    | nil => intro _; rfl
    | cons a r ih =>
      intro h
      rw [List.filterMap_cons, List.filterMap_cons, h a List.mem_cons_self, ih fun m hm => h m (List.mem_cons_of_mem _ hm)]
  rw [h0 _ h1]
  have h2 : xs.size = xs.toList.reverse.length := by rw [List.length_reverse, Array.length_toList]
  rw [h2]
  generalize xs.toList.reverse = l
  have h3 : ∀ l : List Value, (List.range l.length).filterMap (fun m => l[m]?) = l := by
    intro l
    induction l with
    | nil => rfl
    | cons a r ih =>
      rw [List.length_cons, List.range_succ_eq_map, List.filterMap_cons, List.filterMap_map]
      simp only [List.getElem?_cons_zero]
      congr 1
  exact h3 l
theorem sliceApplied_rev {sl : Addr} {t : Tok} {n : Nat} {Q : Int × Int × Nat → Shared → Prop} (hs : s.heap.IsSliceOf sl .none .none (.int (-1) t))
    (h : Q ((n : Int) - 1, -1, n) s) : wpAny (model prog w) A (Builtin.Slice.sliceApplied (.ref sl) (pure (n : Int))) Q E s := by
  obtain ⟨os, hos, hcs, hds⟩ := id hs
  unfold Builtin.Slice.sliceApplied Builtin.Slice.sliceFields
  refine wpAny_bind (wpAny_bind (wpAny_field hos hds (x := .none) rfl (wpAny_bind (wpAny_field hos hds (x := .none) rfl (wpAny_bind (wpAny_field hos hds (x := .int (-1) t) rfl (wpAny_pure ?_)))))))
  refine wpAny_bind (HT.slicePart_ (.int (-1) t) ?_)
  show wpAny _ _ (if ((-1 : Int) == 0) = true then _ else _) _ _ s
  rw [if_neg (by decide)]
  refine wpAny_bind (HT.slicePart_ .none (wpAny_bind (HT.slicePart_ .none (wpAny_bind (wpAny_pure ?_)))))
  show wpAny _ _ (match Builtin.Slice.sliceAdjust none none (-1) (n : Int) with | (lo, hi) => pure (lo, (-1 : Int), Builtin.Slice.slicePlaces lo hi (-1))) _ _ s
  rw [adjust_rev]
  show wpAny _ _ (pure ((n : Int) - 1, (-1 : Int), Builtin.Slice.slicePlaces ((n : Int) - 1) (-1) (-1))) _ _ s
  rw [places_rev]
  exact wpAny_pure h
theorem getItem_tuple_rev {t sl : Addr} {items : Array Value} {tk : Tok} {Q : Value → Shared → Prop} (ht : IsTup s.heap t items) (hs : s.heap.IsSliceOf sl .none .none (.int (-1) tk))
    (h : Q (.ref s.heap.objs.size) { s with heap := s.heap.push { cls := .type "tuple", data := .seq items.toList.reverse.toArray } })
    (hsz : items.size ≤ sizeLine) : wpAny (model prog w) A (getItem (.ref t) (.ref sl)) Q E s := by
  have htake : sizeOk (.seq items.toList.reverse.toArray) := by
    show items.toList.reverse.toArray.size ≤ sizeLine
    rw [List.size_toArray, List.length_reverse, Array.length_toList]
    exact hsz
  obtain ⟨os, hos, hcs, hds⟩ := id hs
  have hTs : s.TypeIs (.ref sl) "slice" := ⟨os, hos, hcs⟩
  unfold getItem
  try with_reducible refine wpAny_holding ?_
  first | refine wpAny_bind (wpAny_pure ?_) | skip
  refine wpAny_bind (wpAny_sequenceKey ht.typeIs (by decide) ?_)
  refine wpAny_bind (wpAny_callSpecial?_slot (name := Str.ofString "__getitem__") ht.typeIs PyProof.Rows.slot_tuple_getitem
    (wpAny_call_entry PyProof.Rows.slot_tuple_getitem ht.typeIs PyProof.Rows.entry_tuple_getitem ?_ (PyProof.Rows.args_tuple_getitem _ _)))
  show wpAny _ _ (Builtin.Tuple.tupleItemsOf (.ref t) >>= _) _ _ s
  refine wpAny_bind (tupleItemsOf_ ht ?_)
  refine wpAny_bind (wpAny_typeOf hTs ?_)
  rw [if_pos (by decide)]
  refine wpAny_bind (sliceApplied_rev hs ?_)
  have hno : ¬ ((((items.size : Int) - 1) == 0 && (-1 : Int) == 1 && items.size == items.size) = true) := by
    intro q
    rw [Bool.and_eq_true, Bool.and_eq_true] at q
    exact absurd q.1.2 (by decide)
  show wpAny _ _ (if (((items.size : Int) - 1) == 0 && (-1 : Int) == 1 && items.size == items.size) = true then _ else _) _ _ s
  rw [if_neg hno, pick_rev]
  first
    | exact wpAny_bind (m := Builtin.Tuple.tupleExact _) (wpAny_newObj_type (wpAny_pure ⟨_, rfl, wpAny_pure h⟩) htake)
    | exact wpAny_bind (m := Builtin.Tuple.tupleExact _) (wpAny_newObj_type (wpAny_bind (wpAny_pure (wpAny_pure ⟨_, rfl, wpAny_pure h⟩))) htake)
    | exact wpAny_bind (wpAny_bind (m := Builtin.Tuple.tupleExact _) (wpAny_newObj_type (wpAny_pure (wpAny_pure ⟨_, rfl, wpAny_pure h⟩)) htake))
    | exact wpAny_bind (wpAny_bind (m := Builtin.Tuple.tupleExact _) (wpAny_newObj_type (wpAny_pure ⟨_, rfl, wpAny_pure h⟩) htake))
end
def tRevT (K : PySem.W.Frag) (te : TE) : TE := fun σ H Q => te σ H fun x H1 => ∃ a xs, x = .ref a ∧ SqT K H1 a xs ∧ ∀ p, H1 p = none → Q (.ref p) (upd H1 p (.tup xs.reverse))
theorem pe_revT {X : Cx} {te : TE} {e : Expr} {k : Nat} {p1 p2 p3 pos : Pos} (he : PE X e te) : PE X (.Subscript e (.Slice none none (some (.UnaryOp .USub (.Constant (.int 1) k p1) p2)) p3) pos) (tRevT X.K te) := by
  refine ⟨fun pins s σ H Q I h => ?_⟩
  refine Subscript_ (thn (he.run pins s σ H _ I h) fun v s1 ⟨x, H1, I1, r1, q1⟩ => ?_)
  obtain ⟨a, xs, ex, hx, q⟩ := q1
  subst ex
  cases r1
  have hst : PO X (some (.UnaryOp .USub (.Constant (.int 1) k p1) p2)) (tPart (tUn (rU fun i => .int (-i)) (tC (.int 1)))) := po_some (pe_un un_neg pe_int)
  refine wpAny_Slice (thn (po_none.run pins s1 σ H1 (fun o H2 => o = none ∧ H2 = H1) I1 ⟨rfl, rfl⟩) fun vl s2 ⟨l, H2, I2, pl, el, e2⟩ => ?_)
  subst el e2
  refine thn (po_none.run pins s2 σ H2 (fun o H3 => o = none ∧ H3 = H2) I2 ⟨rfl, rfl⟩) fun vu s3 ⟨u, H3, I3, pu, eu, e3⟩ => ?_
  subst eu e3
  refine thn (hst.run pins s3 σ H3 (fun o H4 => o = some (-1) ∧ H4 = H3) I3 ⟨1, rfl, -1, rfl, rfl, rfl⟩) fun vs s4 ⟨o, H4, I4, ps, eo, e4⟩ => ?_
  subst eo e4
  cases pl
  cases pu
  cases ps
  rename_i tk _
  have I5 : L2.Inv X pins σ H4 { s4 with heap := s4.heap.push { cls := .type "slice", data := .fields #[.none, .none, .int (-1) tk] } } := I4.kept (t' := s4.toks) fun b ob q => Heap.get?_push_of_some _ q
  obtain ⟨its, r, ht, hz⟩ := I5.tuple hx
  have hlen := r.length
  show wpAny (model X.prog X.w) X.A (subscriptTail e (.Slice none none (some (.UnaryOp .USub (.Constant (.int 1) k p1) p2)) p3) (.ref a) (.ref s4.heap.objs.size)) (EP X pins σ Q) X.xe { s4 with heap := s4.heap.push { cls := .type "slice", data := .fields #[.none, .none, .int (-1) tk] } }
  refine tail_any (ops := [.ref a, .ref s4.heap.objs.size]) ht.typeIs (PyProof.Rows.slot_tuple_getitem.lookup) ?_ (by with_unfolding_all rfl)
  refine getItem_tuple_rev ht (Heap.IsSliceOf.new _ .none .none (.int (-1) tk)) ?_ (by rw [List.size_toArray]; omega)
  refine ⟨.ref _, _, I5.laid (t' := s4.toks) (o := .tup xs.reverse) (fun b ob q => Heap.get?_push_of_some _ q) (Nat.le_refl _) ?_, rfl, q _ (I5.hok.fresh (Nat.le_refl _))⟩
  exact ⟨by rw [List.length_reverse]; exact hz, _, r.reverse, IsTup.new _ _⟩
/-! ### over data -/
def iEnumR (K : PySem.W.Frag) (t : TA) : TI := fun σ H R => iEnum K t σ H R ∨ iEnumT K t σ H R
abbrev rInsert : V → List V → Hp → VK → Prop := fun x vs H Q => ∃ (l : Addr) (xs : List V) (i : Int) (y : V), x = .ref l ∧ vs = [.int i, y] ∧ H l = some (.lst xs) ∧ xs.length < sizeLine ∧ 0 ≤ i ∧ i < 2 ^ 63 ∧ Q .non (upd H l (.lst (xs.take i.toNat ++ [y] ++ xs.drop i.toNat)))
section
variable {K : PySem.W.Frag} {S : Stt} {ρ : Rho} {Φ : PyData → Rho → Prop} {Ψ : PyData → Prop}
theorem DqAll.reverse {N : Av} {H : Hp} : ∀ {vs : List V} {ds : List PyData}, DqAll K N H vs ds → DqAll K N H vs.reverse ds.reverse := dq_rev
theorem wd_revT {te : TE} (h : WD K S te ρ fun x ρ1 => ∃ ds, x = .tuple ds ∧ Φ (.tuple ds.reverse) ρ1) : WD K S (tRevT K te) ρ Φ := fun H0 N0 Z N σ H E Q q =>
  h H0 N0 Z N σ H E _ fun v x ρ1 H1 ⟨ds, e, f⟩ E1 k1 d1 => by
    subst e
    obtain ⟨p, xs, rfl, _, h1, h2⟩ := Dq.tup_inv d1
    refine ⟨p, xs, rfl, h1, fun r hr => ?_⟩
    have s := same_new hr (.tup xs.reverse)
    exact q _ _ ρ1 _ f (E1.ext s) (k1.trans (Keep.of s)) (Dq.tup (fresh_av E1.trk hr) upd_same (h2.reverse.keep (Keep.of s)))
theorem dc_all {bs : List Bool} (h : Ψ (.bool (bs.all id))) : DC K (rAll K) [.list (bs.map PyData.bool)] Ψ := fun N H _ us hu Q q => by
  cases hu with
  | cons d1 d2 =>
    cases d2
    obtain ⟨p, xs, rfl, _, h1, h2⟩ := Dq.lst_inv d1
    have e : xs = bs.map V.bl := by
      have : ∀ {bs : List Bool} {xs : List V}, DqAll K N H xs (bs.map PyData.bool) → xs = bs.map V.bl := by
        intro bs
        induction bs with
        | nil => intro xs h; cases h; rfl
        | cons b r ih =>
          intro xs h
          cases h with
          | cons h1 h2 => cases h1; rw [ih h2]; rfl
      exact this h2
    subst e
    exact ⟨p, bs, rfl, .inl h1, q _ _ H h (Same.refl H) (Dt.bl _)⟩
theorem ws_insert {ta : TA} {i : Nat} {es : List PyData} {En : DE} (h0 : ρ[i]? = some (.own es))
    (h : WA K S ta ρ fun xs ρ1 => ∃ (ds : List PyData) (k : Nat) (d : PyData), xs = [.int k, d] ∧ ρ1[i]? = some (.own ds) ∧ ds.length < sizeLine ∧ (k : Int) < 2 ^ 62 ∧ En.nx (ρ1.set i (.own (ds.take k ++ [d] ++ ds.drop k)))) : WS K S (tDrop (tBM K "list" rInsert (tVar i) ta)) ρ En := fun H0 N0 Z N σ H D E M => by
  obtain ⟨p, xs, g1, g2, g3, g4, g5, g6, g7⟩ := E.slot i _ h0
  refine ⟨.ref p, g1, .inl ⟨rfl, _, .inl (.inl g6)⟩, h H0 N0 Z N σ H E _ fun vs ys ρ1 H1 ⟨ds, k, d, e, f1, f2, f3, f4⟩ E1 k1 d1 => ?_⟩
  subst e
  obtain ⟨p', xs', e1, e2, e3, e4, e5, e6, e7⟩ := E1.slot i _ f1
  rw [g1] at e1; cases e1
  cases d1 with
  | cons a1 a2 =>
    cases a2 with
    | cons a2 a3 =>
      cases a3
      cases a1
      refine ⟨p, xs', k, _, rfl, rfl, e6, by rw [e7.len]; exact f2, by omega, by omega, M.nx N _ _ _ f4 ?_⟩
      rw [Int.toNat_natCast]
      exact E1.chg (xs := xs') f1 g1 (((e7.take k).append (DqAll.cons a2 DqAll.nil)).append (e7.drop k))
def rReprZ (K : PySem.W.Frag) : List V → Hp → VK → Prop := fun xs H Q => rRepr K xs H Q ∨ (xs = [.non] ∧ Q (.str "None") H) ∨ (∃ b : Bool, xs = [.bl b] ∧ Q (.str (if b then "True" else "False")) H) ∨ (∃ i, xs = [.int i] ∧ i.natAbs.log2 < 1920 ∧ Q (.str (toString i)) H) ∨ ∃ z, xs = [.str z] ∧ (reprText z).length ≤ sizeLine ∧ Q (.str (reprText z)) H
theorem call_reprZ {X : Cx} (hgd : X.A.guards = some []) (hu : X.A.units + 64 < cLine) : CallR X (.builtin "repr") (rReprZ X.K) := by
  intro pins s σ H xs us Q I r h
  rcases h with h | ⟨rfl, q⟩ | ⟨b, rfl, q⟩ | ⟨i, rfl, b, q⟩ | ⟨z, rfl, b, q⟩
  · exact call_repr_data hgd hu pins s σ H xs us Q I r h
  · obtain ⟨u, rfl, ru⟩ := vals1 r
    cases (show u = Value.none from ru)
    exact PySem.P.repr_of_none ⟨.str "None", H, I.tok _, ⟨_, rfl⟩, q⟩
  · obtain ⟨u, rfl, ru⟩ := vals1 r
    cases (show u = Value.bool b from ru)
    exact PySem.P.repr_of_bool ⟨.str (if b then "True" else "False"), H, I.tok _, ⟨_, by cases b <;> rfl⟩, q⟩
  · obtain ⟨u, rfl, ru⟩ := vals1 r
    obtain ⟨t, rfl⟩ := (show ∃ t, u = Value.int i t from ru)
    exact PySem.P.repr_of_int b ⟨.str (toString i), H, I.tok _, ⟨_, rfl⟩, q⟩
  · obtain ⟨u, rfl, ru⟩ := vals1 r
    obtain ⟨t, rfl⟩ := (show ∃ t, u = Value.str z t from ru)
    exact PySem.P.repr_of_str ⟨.str (reprText z), H, I.tok _, ⟨_, rfl⟩, q⟩ b
theorem dc_reprZ {d : PyData} {L D : Nat} (h : Rs L D d) (h1 : L ≤ sizeLine) (h2 : D ≤ 50) (f : Ψ (.str d.shown)) : DC K (rReprZ K) [d] Ψ := by
  intro N H hN us hu Q q
  have one : ∃ u, us = [u] ∧ Dq K N H u d := by
    cases hu with
    | cons a1 a2 => cases a2; exact ⟨_, rfl, a1⟩
  obtain ⟨u, rfl, a1⟩ := one
  cases d
  case none => cases a1; exact .inr (.inl ⟨rfl, q _ _ H f (Same.refl H) (Dt.str _)⟩)
  case bool b =>
    cases a1
    refine .inr (.inr (.inl ⟨b, rfl, q _ _ H f (Same.refl H) ?_⟩))
    cases b <;> exact Dt.str _
  case int i => cases a1; exact .inr (.inr (.inr (.inl ⟨i, rfl, of_decide_eq_true h.s, q _ _ H f (Same.refl H) (Dt.str _)⟩)))
  case str z => cases a1; exact .inr (.inr (.inr (.inr ⟨z, rfl, Nat.le_trans h.l h1, q _ _ H f (Same.refl H) (Dt.str _)⟩)))
  case list ds => exact .inl (dc_reprS (.inl ⟨_, rfl⟩) h h1 h2 f N H hN _ hu Q q)
  case tuple ds => exact .inl (dc_reprS (.inr ⟨_, rfl⟩) h h1 h2 f N H hN _ hu Q q)
  case dict ds => exact absurd h.h (by simp [PyData.hasDict])
end
end DL

set_option Elab.async false
set_option linter.all false
set_option maxRecDepth 100000
set_option maxHeartbeats 4000000
/-! DM4: rows of either kind as data; lists of one's own shown for a while -/
namespace DL
open PySem PySem.Spec PyProof.Rows L2
section
variable {K : PySem.W.Frag} {S : Stt} {ρ : Rho} {Φ : PyData → Rho → Prop} {Ψ : PyData → Prop}
def rowD (b : Bool) (ds : List PyData) : PyData := if b then .list ds else .tuple ds
theorem dc_lenR {b : Bool} {ds : List PyData} (h : Ψ (.int ds.length)) : DC K (rLenX K) [rowD b ds] Ψ := by
  cases b
  · exact dc_lenT h
  · exact dc_lenL h
theorem do_catA {xs ys : List PyData} (hz : xs.length + ys.length ≤ sizeLine) (h : Ψ (.tuple (xs ++ ys))) : DO K (rCatA K) (.tuple xs) (.tuple ys) Ψ := fun N H hN u w hu hw Q q => by
  obtain ⟨p, us, rfl, _, h1, h2⟩ := hu.tup_inv
  obtain ⟨p2, ws, rfl, _, h3, h4⟩ := hw.tup_inv
  refine ⟨p, p2, us, ws, rfl, rfl, h1, h3, by rw [h2.len, h4.len]; exact hz, fun e => ?_, fun _ e => ?_, fun _ _ z hz => ?_⟩
  · subst e
    have e2 : xs = [] := List.length_eq_zero_iff.mp (by rw [← h2.len]; rfl)
    subst e2
    exact q _ _ H h (Same.refl H) hw
  · subst e
    have e2 : ys = [] := List.length_eq_zero_iff.mp (by rw [← h4.len]; rfl)
    subst e2
    rw [List.append_nil] at h
    exact q _ _ H h (Same.refl H) hu
  · have s := same_new hz (.tup (us ++ ws))
    exact q _ _ _ h s (Dq.tup (fresh_av hN hz) upd_same ((h2.append h4).keep (Keep.of s)))
theorem dc_listT {ds : List PyData} (h : Ψ (.list ds)) : DC K (rListOf K) [.tuple ds] Ψ := fun N H hN us hu Q q => by
  cases hu with
  | cons h1 h2 =>
    cases h2
    obtain ⟨p, xs, rfl, _, h3, h4⟩ := Dq.tup_inv h1
    refine ⟨p, xs, rfl, .inr h3, fun l hl => ?_⟩
    have s := same_new hl (.lst xs)
    exact q _ _ _ h s (Dq.lst (fresh_av hN hl) upd_same (h4.keep (Keep.of s)))
/-! ### all lists of one's own shown, while a thing is asked that tells a truth or a number -/
def frzS : Sl → Sl
  | .own ds => .dat (.list ds)
  | s => s
def fz (ρ : Rho) : Rho := ρ.map frzS
def Plain : PyData → Prop
  | .bool _ | .int _ | .str _ => True
  | _ => False
end
end DL

set_option Elab.async false
set_option linter.all false
set_option maxRecDepth 100000
set_option maxHeartbeats 4000000
/-! PK1: masks of rising rows of places -/
namespace DL
/-- two to the places, summed -/
def mkM : List Int → Nat
  | [] => 0
  | p :: r => 2 ^ p.toNat + mkM r
abbrev Ris (s : List Int) : Prop := s.Pairwise (· < ·)
theorem mkM_mul : ∀ {r : List Int} {p : Nat}, (∀ x ∈ r, (p : Int) < x) → ∃ a, mkM r = 2 ^ (p + 1) * a
  | [], p, _ => ⟨0, rfl⟩
  | x :: r, p, h => by
    obtain ⟨a, ha⟩ := mkM_mul (r := r) (p := p) fun y hy => h y (List.mem_cons_of_mem _ hy)
    have hx := h x List.mem_cons_self
    obtain ⟨d, hd⟩ : ∃ d, x.toNat = p + 1 + d := ⟨x.toNat - (p + 1), by omega⟩
    refine ⟨2 ^ d + a, ?_⟩
    show 2 ^ x.toNat + mkM r = _
    rw [ha, hd, Nat.pow_add, Nat.mul_add]
theorem mkM_bit : ∀ {s : List Int}, Ris s → (∀ x ∈ s, 0 ≤ x) → ∀ i : Nat, (mkM s).testBit i = decide ((i : Int) ∈ s)
  | [], _, _, i => by simp [mkM]
  | p :: r, h, h0, i => by
    obtain ⟨h1, h2⟩ := List.pairwise_cons.mp h
    have p0 := h0 p List.mem_cons_self
    obtain ⟨k, rfl⟩ : ∃ k : Nat, p = k := ⟨p.toNat, by omega⟩
    have ih := mkM_bit h2 (fun x hx => h0 x (List.mem_cons_of_mem _ hx)) i
    obtain ⟨a, ha⟩ := mkM_mul (r := r) (p := k) h1
    have e : mkM ((k : Int) :: r) = 2 ^ (k + 1) * a ||| 2 ^ k := by
      rw [← Nat.two_pow_add_eq_or_of_lt (Nat.pow_lt_pow_right (by decide) (Nat.lt_succ_self k)) a, ← ha]
      show 2 ^ (k : Int).toNat + mkM r = _
      rw [Int.toNat_natCast, Nat.add_comm]
    rw [e, Nat.testBit_or, ← ha, ih, Nat.testBit_two_pow]
    by_cases c : k = i
    · subst c; simp
    · have c2 : ¬ ((i : Int) = (k : Int)) := by omega
      simp [c, c2]
/-- what both have -/
def bothL (s t : List Int) : List Int := s.filter fun x => decide (x ∈ t)
/-- neither apart, nor one within the other -/
def crossB (s t : List Int) : Bool := decide (bothL s t ≠ []) && decide ((bothL s t).length < min s.length t.length)
theorem bothL_mem {s t : List Int} {x : Int} : x ∈ bothL s t ↔ x ∈ s ∧ x ∈ t := by
  unfold bothL; rw [List.mem_filter]; simp
theorem ris_nodup {s : List Int} (h : Ris s) : s.Nodup := List.Pairwise.imp (fun {a b} (q : a < b) => by omega) h
theorem both_perm {s t : List Int} (hs : s.Nodup) (ht : t.Nodup) : (bothL s t).Perm (bothL t s) :=
  (List.perm_ext_iff_of_nodup (hs.filter _) (ht.filter _)).mpr fun x => by
    show x ∈ bothL s t ↔ x ∈ bothL t s
    rw [bothL_mem, bothL_mem]; exact And.comm
theorem both_len {s t : List Int} : (bothL s t).length ≤ s.length := List.length_filter_le _ _
theorem both_all {s t : List Int} : (bothL s t).length = s.length ↔ ∀ x ∈ s, x ∈ t := by
  unfold bothL
  rw [List.length_filter_eq_length_iff]; simp
theorem cross_symm {s t : List Int} (hs : s.Nodup) (ht : t.Nodup) : crossB s t = crossB t s := by
  have h := both_perm hs ht
  have e : (bothL s t = []) ↔ (bothL t s = []) := ⟨fun z => by rw [z] at h; exact h.nil_eq.symm ▸ rfl, fun z => by rw [z] at h; exact h.eq_nil⟩
  have hl := h.length_eq
  unfold crossB
  rw [hl, Nat.min_comm]
  by_cases c : bothL s t = []
  · rw [decide_eq_false (p := bothL s t ≠ []) (fun z => z c), decide_eq_false (p := bothL t s ≠ []) (fun z => z (e.mp c))]
  · rw [decide_eq_true (p := bothL s t ≠ []) c, decide_eq_true (p := bothL t s ≠ []) (fun z => c (e.mpr z))]
theorem cross_self {s : List Int} : crossB s s = false := by
  have : (bothL s s).length = s.length := both_all.mpr fun x hx => hx
  unfold crossB
  rw [this, Nat.min_self, decide_eq_false (Nat.lt_irrefl _), Bool.and_false]
theorem mask_ok {s t : List Int} (hs : Ris s) (ht : Ris t) (s0 : ∀ x ∈ s, 0 ≤ x) (t0 : ∀ x ∈ t, 0 ≤ x) :
    (mkM s &&& mkM t = 0 ∨ mkM s &&& mkM t = mkM s ∨ mkM s &&& mkM t = mkM t) ↔ crossB s t = false := by
  have bit : ∀ i, (mkM s &&& mkM t).testBit i = (decide ((i : Int) ∈ s) && decide ((i : Int) ∈ t)) := fun i => by rw [Nat.testBit_and, mkM_bit hs s0, mkM_bit ht t0]
  have nat : ∀ {u : List Int}, (∀ x ∈ u, 0 ≤ x) → ∀ x ∈ u, ∃ k : Nat, x = k := fun h x hx => ⟨x.toNat, by have := h x hx; omega⟩
  have z0 : mkM s &&& mkM t = 0 ↔ bothL s t = [] := by
    constructor
    · intro h
      rw [List.eq_nil_iff_forall_not_mem]
      intro x hx
      obtain ⟨h1, h2⟩ := bothL_mem.mp hx
      obtain ⟨k, rfl⟩ := nat s0 x h1
      have := bit k
      rw [h, decide_eq_true h1, decide_eq_true h2, Nat.zero_testBit] at this
      cases this
    · intro h
      refine Nat.eq_of_testBit_eq fun i => ?_
      rw [bit, Nat.zero_testBit]
      by_cases c : (i : Int) ∈ s
      · by_cases d : (i : Int) ∈ t
        · have : (i : Int) ∈ bothL s t := bothL_mem.mpr ⟨c, d⟩
          rw [h] at this; cases this
        · rw [decide_eq_false d, Bool.and_false]
      · rw [decide_eq_false c, Bool.false_and]
  have z1 : mkM s &&& mkM t = mkM s ↔ ∀ x ∈ s, x ∈ t := by
    constructor
    · intro h x hx
      obtain ⟨k, rfl⟩ := nat s0 x hx
      have := bit k
      rw [h, mkM_bit hs s0, decide_eq_true hx, Bool.true_and] at this
      exact of_decide_eq_true this.symm
    · intro h
      refine Nat.eq_of_testBit_eq fun i => ?_
      rw [bit, mkM_bit hs s0]
      by_cases c : (i : Int) ∈ s
      · rw [decide_eq_true c, decide_eq_true (h _ c)]; rfl
      · rw [decide_eq_false c, Bool.false_and]
  have z2 : mkM s &&& mkM t = mkM t ↔ ∀ x ∈ t, x ∈ s := by
    constructor
    · intro h x hx
      obtain ⟨k, rfl⟩ := nat t0 x hx
      have := bit k
      rw [h, mkM_bit ht t0, decide_eq_true hx, Bool.and_true] at this
      exact of_decide_eq_true this.symm
    · intro h
      refine Nat.eq_of_testBit_eq fun i => ?_
      rw [bit, mkM_bit ht t0]
      by_cases c : (i : Int) ∈ t
      · rw [decide_eq_true c, decide_eq_true (h _ c)]; rfl
      · rw [decide_eq_false c, Bool.and_false]
  rw [z0, z1, z2]
  have l1 := both_len (s := s) (t := t)
  have l2 := both_len (s := t) (t := s)
  have lp := (both_perm (ris_nodup hs) (ris_nodup ht)).length_eq
  have a1 := both_all (s := s) (t := t)
  have a2 := both_all (s := t) (t := s)
  rw [← lp] at a2 l2
  have h1 : crossB s t = false ↔ ¬ (bothL s t ≠ [] ∧ (bothL s t).length < min s.length t.length) := by
    unfold crossB
    rw [← Bool.decide_and, decide_eq_false_iff_not]
  rw [h1, ← a1, ← a2]
  by_cases c : bothL s t = []
  · exact ⟨fun _ z => z.1 c, fun _ => .inl c⟩
  · constructor
    · intro h z
      have := z.2
      rcases h with h | h | h
      · exact c h
      · omega
      · omega
    · intro h
      have h3 : ¬ (bothL s t).length < min s.length t.length := fun z => h ⟨c, z⟩
      rw [Nat.lt_min] at h3
      by_cases d : (bothL s t).length = s.length
      · exact .inr (.inl d)
      · exact .inr (.inr (by omega))
/-- the sets of a folding -/
def foldB (ss : List (List Int)) : Bool := ss.all fun s => ss.all fun t => !crossB s t
theorem foldB_of {ss : List (List Int)} (hr : ∀ s ∈ ss, Ris s) (h : ∀ (i j : Nat) (s t : List Int), i < j → ss[i]? = some s → ss[j]? = some t → crossB s t = false) : foldB ss = true := by
  unfold foldB
  rw [List.all_eq_true]
  intro s hs
  rw [List.all_eq_true]
  intro t ht
  rw [Bool.not_eq_true']
  obtain ⟨i, hi⟩ := List.mem_iff_getElem?.mp hs
  obtain ⟨j, hj⟩ := List.mem_iff_getElem?.mp ht
  rcases Nat.lt_trichotomy i j with c | c | c
  · exact h i j s t c hi hj
  · subst c
    rw [hi] at hj; cases hj
    exact cross_self
  · rw [cross_symm (ris_nodup (hr s hs)) (ris_nodup (hr t ht))]
    exact h j i t s c hj hi
theorem foldB_no {ss : List (List Int)} {s t : List Int} (hs : s ∈ ss) (ht : t ∈ ss) (h : crossB s t = true) : foldB ss = false := by
  cases e : foldB ss with
  | false => rfl
  | true =>
    unfold foldB at e
    have := List.all_eq_true.mp (List.all_eq_true.mp e s hs) t ht
    rw [h] at this; cases this
end DL

set_option Elab.async false
set_option linter.all false
set_option maxRecDepth 100000
set_option maxHeartbeats 4000000
/-! PK2: [.. for .. for ..]; bits -/
namespace DL
open PySem PySem.Spec PyProof.Rows L2
section
variable {K : PySem.W.Frag} {S : Stt} {H0 : Hp} {N0 : Av} {Z : List Hd} {N : Av} {σ : L2.St} {H H' : Hp} {ρ : Rho} {Φ : PyData → Rho → Prop} {Ψ : PyData → Prop}
theorem wipe_in {σ : L2.St} {vs vs1 : List Nat} (h : ∀ j ∈ vs1, j ∈ vs) : L2.wipe (L2.wipe σ vs1) vs = L2.wipe σ vs := wipe_off (wipe_length _ _) fun j hj => by
  rw [wipe_get, wipe_get, if_neg (fun q => hj (h j q.1)), if_neg (fun q => hj q.1)]
/-- what is hidden, in another order -/
theorem EnvD.rotF {Zy W : List Hd} {z : Hd} (nz : ∀ p es, Hd.own p es ∉ Zy) (E : EnvD K S H0 N0 (Zy ++ (z :: W)) N σ H ρ) : EnvD K S H0 N0 (z :: (Zy ++ W)) N σ H ρ where
  keep := E.keep
  base := E.base
  trk := E.trk
  sub := E.sub
  slot := E.slot
  len := E.len
  hid w hw := E.hid w (by
    simp only [List.mem_cons, List.mem_append] at hw ⊢
    rcases hw with h | h | h
    · exact .inr (.inl h)
    · exact .inl h
    · exact .inr (.inr h))
  injH i di dj p h1 h2 hz := E.injH i di dj p h1 h2 (by
    simp only [List.mem_cons, List.mem_append] at hz ⊢
    rcases hz with h | h | h
    · exact .inr (.inl h)
    · exact .inl h
    · exact .inr (.inr h))
  injZ i j di dj p h1 h2 := by
    have up : ∀ {c : Nat} {dc : List PyData}, (z :: (Zy ++ W))[c]? = some (Hd.own p dc) → (Zy ++ (z :: W))[if c = 0 then Zy.length else c]? = some (Hd.own p dc) ∧ (c = 0 ∨ Zy.length < c) := fun {c dc} h => by
      cases c with
      | zero =>
        rw [if_pos rfl, List.getElem?_append_right (Nat.le_refl _), Nat.sub_self]
        exact ⟨by simpa using h, .inl rfl⟩
      | succ c =>
        rw [List.getElem?_cons_succ] at h
        rw [if_neg (by omega)]
        by_cases hc : c < Zy.length
        · rw [List.getElem?_append_left hc] at h
          exact absurd (List.mem_of_getElem? h) (nz _ _)
        · rw [List.getElem?_append_right (by omega)] at h
          refine ⟨?_, .inr (by omega)⟩
          rw [List.getElem?_append_right (by omega), show c + 1 - Zy.length = (c - Zy.length) + 1 by omega, List.getElem?_cons_succ]
          exact h
    obtain ⟨a1, a2⟩ := up h1
    obtain ⟨b1, b2⟩ := up h2
    have q := E.injZ _ _ di dj p a1 b1
    by_cases hi : i = 0 <;> by_cases hj : j = 0 <;> simp [hi, hj] at q <;> omega
  inj := E.inj
theorem EnvD.rotB {Zy W : List Hd} {z : Hd} (nz : ∀ p es, Hd.own p es ∉ Zy) (E : EnvD K S H0 N0 (z :: (Zy ++ W)) N σ H ρ) : EnvD K S H0 N0 (Zy ++ (z :: W)) N σ H ρ where
  keep := E.keep
  base := E.base
  trk := E.trk
  sub := E.sub
  slot := E.slot
  len := E.len
  hid w hw := E.hid w (by
    simp only [List.mem_cons, List.mem_append] at hw ⊢
    rcases hw with h | h | h
    · exact .inr (.inl h)
    · exact .inl h
    · exact .inr (.inr h))
  injH i di dj p h1 h2 hz := E.injH i di dj p h1 h2 (by
    simp only [List.mem_cons, List.mem_append] at hz ⊢
    rcases hz with h | h | h
    · exact .inr (.inl h)
    · exact .inl h
    · exact .inr (.inr h))
  injZ i j di dj p h1 h2 := by
    have up : ∀ {c : Nat} {dc : List PyData}, (Zy ++ (z :: W))[c]? = some (Hd.own p dc) → (z :: (Zy ++ W))[if c = Zy.length then 0 else c]? = some (Hd.own p dc) ∧ Zy.length ≤ c := fun {c dc} h => by
      by_cases hc : c < Zy.length
      · rw [List.getElem?_append_left hc] at h
        exact absurd (List.mem_of_getElem? h) (nz _ _)
      · rw [List.getElem?_append_right (by omega)] at h
        refine ⟨?_, by omega⟩
        by_cases e : c = Zy.length
        · rw [if_pos e]
          rw [e, Nat.sub_self] at h
          simpa using h
        · rw [if_neg e, show c = (c - 1) + 1 by omega, List.getElem?_cons_succ, List.getElem?_append_right (by omega)]
          rw [show c - Zy.length = (c - 1 - Zy.length) + 1 by omega, List.getElem?_cons_succ] at h
          exact h
    obtain ⟨a1, a2⟩ := up h1
    obtain ⟨b1, b2⟩ := up h2
    have q := E.injZ _ _ di dj p a1 b1
    by_cases hi : i = Zy.length <;> by_cases hj : j = Zy.length <;> simp [hi, hj] at q <;> omega
  inj := E.inj
/-- [elt for TARGET in THING for TARGET in THING] -/
theorem wd_lc2 {wi wi1 : TI} {g g1 : TG} {tt tt1 : TT} {te : TE} {vs vs1 : List Nat} (hvs : ∀ j ∈ vs1, j ∈ vs) (h : WI K S wi ρ fun ds ρ1 => ∃ I : Nat → List PyData → Rho → Prop, I 0 [] (wipeR ρ1 vs) ∧
      (∀ k d acc ρ2, ds[k]? = some d → I k acc ρ2 → ∃ ts f, GD K g d ts f ∧ (∀ j ∈ ts, j ∈ vs) ∧ WT K S tt (f ρ2) fun b ρ3 => if b = true then
        WI K S wi1 ρ3 fun es ρ4 => ∃ I1 : Nat → List PyData → Rho → Prop, I1 0 acc (wipeR ρ4 vs1) ∧
          (∀ j e acc1 ρ5, es[j]? = some e → I1 j acc1 ρ5 → ∃ ts1 f1, GD K g1 e ts1 f1 ∧ (∀ j ∈ ts1, j ∈ vs1) ∧ WT K S tt1 (f1 ρ5) fun b ρ6 => if b = true then
            WD K S te ρ6 fun y ρ7 => acc1.length < sizeLine ∧ I1 (j + 1) (acc1 ++ [y]) (wipeR ρ7 vs1) else I1 (j + 1) acc1 (wipeR ρ6 vs1)) ∧
          (∀ acc1 ρ5, I1 es.length acc1 ρ5 → I (k + 1) acc1 (wipeR ρ5 vs))
        else I (k + 1) acc (wipeR ρ3 vs)) ∧
      (∀ acc ρ2, I ds.length acc ρ2 → Φ (.list acc) (wipeR ρ2 vs))) : WD K S (tLc2 wi g tt wi1 g1 tt1 te vs vs1) ρ Φ := fun H0 N0 Z N σ H E Q q =>
  h H0 N0 Z N σ H E _ fun J Zx ds ρ1 H1 ⟨I, i0, step, fin⟩ src nz E1 k1 D hD => by
    have nD : N D = false := fresh_av E1.trk hD
    have kN : ∀ {Ha Hb : Hp}, Keep (fun b => N b || decide (b = D)) Ha Hb → Keep N H1 Ha → ∀ ys, Keep N H1 (upd Hb D (.lst ys)) := fun {Ha Hb} ka kb ys b o n hb => by
      have hne : b ≠ D := ne_of_none hb hD
      rw [upd_ne hne]
      exact ka b o (by simp [n, hne]) (kb b o n hb)
    have kN2 : ∀ {Ha Hb : Hp}, Keep (fun b => N b || decide (b = D)) Ha Hb → Keep N H1 Ha → Keep N H1 Hb := fun {Ha Hb} ka kb b o n hb => ka b o (by simp [n, ne_of_none hb hD]) (kb b o n hb)
    refine ⟨fun k m H' => ∃ ρ' acc, EnvD K S H0 N0 (.own D acc :: (Zx ++ Z)) (fun b => N b || decide (b = D)) (L2.wipe σ vs) H' ρ' ∧ Keep N H1 H' ∧ I k acc ρ' ∧ m = ds.length - k ∧ k ≤ ds.length,
      ⟨_, _, [], (E1.pushOwn hD).wipe vs, Keep.of (same_new hD _), i0, rfl, Nat.zero_le _⟩, ?_⟩
    rintro k m H' ⟨ρ', acc, E', kk, iv, rfl, hk⟩
    obtain ⟨s1, s2⟩ := src S H0 N0 Z _ _ H' ρ' E'.pop
    by_cases hlt : k < ds.length
    · have hd := List.getElem?_eq_getElem hlt
      obtain ⟨go, yl⟩ := s1 k _ hd
      obtain ⟨ts, f, gd, hts, st⟩ := step k _ acc ρ' hd iv
      refine .inr ⟨go, fun H2 => ∃ ρ2 acc2, EnvD K S H0 N0 (.own D acc2 :: (Zx ++ Z)) (fun b => N b || decide (b = D)) (L2.wipe σ vs) H2 ρ2 ∧ Keep N H1 H2 ∧ I (k + 1) acc2 ρ2, fun H2 ⟨ρ2, acc2, E2, kk2, iv2⟩ => ⟨ds.length - (k + 1), by omega, ρ2, acc2, E2, kk2, iv2, rfl, hlt⟩, fun x H2 hy => ?_⟩
      obtain ⟨sm, dx⟩ := yl x H2 hy
      refine gd S H0 N0 _ _ _ H2 ρ' x (E'.ext sm) dx _ fun σ3 E3 hl3 off3 => ?_
      have ew : L2.wipe σ3 vs = L2.wipe σ vs := wipe_off (by rw [hl3, wipe_length]) fun j hj => off3 j fun q => hj (hts j q)
      refine ⟨ew, st H0 N0 _ _ σ3 H2 E3 _ fun b ρ3 H3 fb E3' k3 => ?_⟩
      have kk3 : Keep N H1 H3 := kN2 k3 (kN2 (Keep.of sm) kk)
      cases b with
      | false => exact ⟨_, acc, E3'.rewipe ew, kk3, fb⟩
      | true =>
        refine fb H0 N0 _ _ σ3 H3 E3' _ fun J1 Zy es ρ4 H4 ⟨I1, i1, step1, fin1⟩ src1 nz1 E4 k4 => ?_
        have kk4 : Keep N H1 H4 := kN2 k4 kk3
        refine ⟨fun j m H' => ∃ ρ' acc1, EnvD K S H0 N0 (.own D acc1 :: (Zy ++ (Zx ++ Z))) (fun b => N b || decide (b = D)) (L2.wipe σ3 vs1) H' ρ' ∧ Keep N H1 H' ∧ I1 j acc1 ρ' ∧ m = es.length - j ∧ j ≤ es.length,
          ⟨_, _, acc, (E4.rotF nz1).wipe vs1, kk4, i1, rfl, Nat.zero_le _⟩, ?_⟩
        rintro j m H5 ⟨ρ5, acc1, E5, kk5, iv1, rfl, hj⟩
        obtain ⟨r1, r2⟩ := src1 S H0 N0 _ _ _ H5 ρ5 (E5.rotB nz1)
        by_cases hjl : j < es.length
        · have he := List.getElem?_eq_getElem hjl
          obtain ⟨go1, yl1⟩ := r1 j _ he
          obtain ⟨ts1, f1, gd1, hts1, st1⟩ := step1 j _ acc1 ρ5 he iv1
          refine .inr ⟨go1, fun H6 => ∃ ρ6 acc2, EnvD K S H0 N0 (.own D acc2 :: (Zy ++ (Zx ++ Z))) (fun b => N b || decide (b = D)) (L2.wipe σ3 vs1) H6 ρ6 ∧ Keep N H1 H6 ∧ I1 (j + 1) acc2 ρ6, fun H6 ⟨ρ6, acc2, E6, kk6, iv6⟩ => ⟨es.length - (j + 1), by omega, ρ6, acc2, E6, kk6, iv6, rfl, hjl⟩, fun x1 H6 hy1 => ?_⟩
          obtain ⟨sm1, dx1⟩ := yl1 x1 H6 hy1
          refine gd1 S H0 N0 _ _ _ H6 ρ5 x1 (E5.ext sm1) dx1 _ fun σ6 E6 hl6 off6 => ?_
          have ew1 : L2.wipe σ6 vs1 = L2.wipe σ3 vs1 := wipe_off (by rw [hl6, wipe_length]) fun j hj => off6 j fun q => hj (hts1 j q)
          refine ⟨ew1, st1 H0 N0 _ _ σ6 H6 E6 _ fun b ρ7 H7 fb7 E7 k7 => ?_⟩
          have kk7 : Keep N H1 H7 := kN2 k7 (kN2 (Keep.of sm1) kk5)
          cases b with
          | false => exact ⟨_, acc1, E7.rewipe ew1, kk7, fb7⟩
          | true =>
            refine fb7 H0 N0 _ _ σ6 H7 E7 _ fun y d8 ρ8 H8 ⟨hz8, f8⟩ E8 k8 d8' => ?_
            obtain ⟨us, g2, g3, g4, g5, g6, g7⟩ := E8.hid _ List.mem_cons_self
            refine ⟨us, g6, ?_, _, acc1 ++ [d8], (E8.chgH (g7.append (DqAll.cons d8' DqAll.nil))).rewipe ew1, kN k8 kk7 _, f8⟩
            rw [g7.len]; exact hz8
        · have ej : j = es.length := by omega
          subst ej
          refine .inl ⟨r2, _, acc1, ?_, kk5, fin1 acc1 ρ5 iv1⟩
          have E9 := E5.mid.wipe vs
          rw [wipe_in hvs, ew] at E9
          exact E9
    · have ek : k = ds.length := by omega
      subst ek
      refine .inl ⟨s2, ?_⟩
      obtain ⟨E5, d5⟩ := E'.mid.unwipe.popOwn nD
      exact q _ _ _ H' (fin acc ρ' iv) E5 (k1.trans kk) d5
end
end DL

set_option Elab.async false
set_option linter.all false
/-! LM4: lines knot by knot: what bends, and the one normal form -/
namespace DL
def yR : Kn → Rat → Rat → Rat
  | [], _, _ => 0
  | [a], s, x => a.2 + s * (x - a.1)
  | a :: b :: r, s, x => if x < b.1 then a.2 + (b.2 - a.2) / (b.1 - a.1) * (x - a.1) else yR (b :: r) s x
/-- the slope behind a, with the rest -/
def sR (a : Rat × Rat) : Kn → Rat → Rat
  | [], s => s
  | b :: _, _ => (b.2 - a.2) / (b.1 - a.1)
def go (sl : Rat) : Kn → Rat → Kn
  | [], _ => []
  | b :: r, s => if sR b r s = sl then go sl r s else b :: go (sR b r s) r s
def bR : Kn → Rat → Kn
  | [], _ => []
  | a :: r, s => a :: go (sR a r s) r s
def RisR : Kn → Prop
  | [] => True
  | [_] => True
  | a :: b :: r => a.1 < b.1 ∧ RisR (b :: r)
def NrmR : Kn → Rat → Prop
  | [], _ => True
  | [_], _ => True
  | a :: b :: r, s => sR a (b :: r) s ≠ sR b r s ∧ NrmR (b :: r) s
theorem RisR.skip {a b : Rat × Rat} {r : Kn} (h : RisR (a :: b :: r)) : RisR (a :: r) := by
  cases r with
  | nil => trivial
  | cons c r => exact ⟨by have := h.1; have := h.2.1; grind, h.2.2⟩
theorem two {a b : Rat × Rat} (h : a.1 < b.1) : b.2 = a.2 + (b.2 - a.2) / (b.1 - a.1) * (b.1 - a.1) := by grind
theorem RisR.head {a : Rat × Rat} : ∀ {r : Kn}, RisR (a :: r) → ∀ p ∈ r, a.1 < p.1 := by
  intro r
  induction r with
  | nil => intro _ p hp; cases hp
  | cons b r ih =>
    intro h p hp
    rcases List.mem_cons.mp hp with e | hp
    · rw [e]; exact h.1
    · exact ih h.skip p hp
end DL

set_option Elab.async false
set_option linter.all false
/-! LM5: by number and knot by knot -/
namespace DL
/-- whether the line bends at a knot, the first one always -/
def pB (ks : Kn) (s : Rat) (i : Nat) : Bool := decide (i = 0) || !decide (slp ks s i = slp ks s (i - 1))
def bI (ks : Kn) (s : Rat) (k : Nat) : Kn := ((List.range k).filter (pB ks s)).map (kn ks)
end DL

set_option Elab.async false
set_option linter.all false
set_option maxRecDepth 100000
set_option maxHeartbeats 4000000
/-! LR1: lines made of rows of knots -/
namespace DL
open PySem PySem.Spec PyProof.Rows L2
noncomputable instance risDec (ks : Kn) : Decidable (Rising ks) := Classical.propDecidable _
abbrev rkD (b : Bool) (ks : Kn) : PyData := rowD b (ks.map kD)
structure Rk (B : Nat) (ks : Kn) (s : Rat) : Prop where
  b : KsB B ks s
  len : ks.length ≤ 100000
  B0 : 0 < B
  B2 : 2 * B ≤ 3800
def TSlopesR : List PyData → (PyData → Prop) → Prop := fun ds Φ => ∃ (b : Bool) (ks : Kn) (s : Rat) (B : Nat), ds = [rkD b ks, qp s] ∧ Rk B ks s ∧ Rising ks ∧ 0 < ks.length ∧ Φ (.list ((List.range ks.length).map fun i => qp (slp ks s i)))
def TRisB : List PyData → (PyData → Prop) → Prop := fun ds Φ => ∃ (b : Bool) (ks : Kn) (B : Nat), ds = [rkD b ks] ∧ (∀ i, i < ks.length → sz (kn ks i).1 ≤ B) ∧ ks.length ≤ 100000 ∧ B ≤ 3800 ∧ Φ (.bool (decide (Rising ks)))
def TBends : List PyData → (PyData → Prop) → Prop := fun ds Φ => ∃ (b : Bool) (ks : Kn) (s : Rat) (B : Nat), ds = [rkD b ks, qp s] ∧ Rk B ks s ∧ Rising ks ∧ 0 < ks.length ∧ Φ (knD (bI ks s ks.length))
def TLineOf : List PyData → (PyData → Prop) → Prop := fun ds Φ => ∃ (b : Bool) (ks : Kn) (s : Rat) (B : Nat), ds = [rkD b ks, qp s] ∧ Rk B ks s ∧ Rising ks ∧ 0 < ks.length ∧ (kn ks 0).1 = 0 ∧ Φ (lnD (bI ks s ks.length) s)
local macro_rules | `(tactic| walk_at "dl") => `(tactic| repeat' (first
  | with_reducible refine wd_isTy ?_ | with_reducible refine wd_isi ?_ | with_reducible refine wd_op ?_ | ((with_reducible show WD _ _ (tCB (rLenX _) (tCons (tVar _) tNil)) _ _); refine wd_len_scr rfl ?_) | with_reducible refine wd_cb ?_ | with_reducible refine wd_un ?_ | with_reducible refine wa_cons ?_ | with_reducible refine wa_nil ?_ | ((with_reducible show WD _ _ (tVar _) _ _); refine wd_var rfl ?_) | with_reducible refine wd_int ?_ | with_reducible refine wd_bl ?_ | with_reducible refine wd_str ?_ | with_reducible refine wd_non ?_
  | with_reducible refine do_nesS ?_ | with_reducible refine dc_intB ?_ | with_reducible refine do_add ?_ | with_reducible refine do_sub ?_ | ((with_reducible refine do_mod ?_ ?_); decide) | with_reducible refine do_mod ?_ ?_ | with_reducible refine do_mul ?_ ?_ | ((with_reducible refine do_div ?_ ?_); exact ⟨by decide, by decide⟩) | with_reducible refine do_div ?_ ?_ | ((with_reducible refine do_pow ?_ ?_); exact ⟨by decide, by decide, by decide⟩) | with_reducible refine do_pow ?_ ?_
  | with_reducible refine do_lt ?_ | with_reducible refine do_le ?_ | with_reducible refine do_gt ?_ | with_reducible refine do_ge ?_ | with_reducible refine du_neg ?_
  | with_reducible refine do_eqi ?_ | with_reducible refine do_nei ?_ | with_reducible refine do_eqs ?_ | with_reducible refine do_nes ?_ | with_reducible refine dc_abs ?_ | with_reducible refine dc_min ?_ | with_reducible refine dc_max ?_ | with_reducible refine dc_lenL ?_ | with_reducible refine dc_lenT ?_ | with_reducible refine dc_lenR ?_ | with_reducible refine dc_gcd ?_
  | ((with_reducible show DO _ (rIxT _) _ _ _); refine do_ixT rfl ?_) | ((with_reducible show DO _ (rIxL _) _ _ _); refine do_ixL rfl ?_) | ((with_reducible refine do_catL ?_ ?_); exact Nat.le_of_ble_eq_true rfl) | with_reducible refine do_catL ?_ ?_ | ((with_reducible show And (List.length _ ≤ sizeLine) _); refine ⟨Nat.le_of_ble_eq_true rfl, ?_⟩)
  | with_reducible refine wd_dnew ?_ | with_reducible refine wd_call0 ?_ | with_reducible refine wd_slA ?_ | with_reducible refine wo_part ?_ | with_reducible refine wo_none ?_ | with_reducible refine do_eqQ ?_ | with_reducible refine do_neQ ?_ | with_reducible refine wi_enumT ?_ | with_reducible refine wi_enumD ?_ | with_reducible refine tAdQ (by omega) (by omega) ?_ | with_reducible refine tSbQ (by omega) (by omega) ?_ | with_reducible refine tMlQ (by omega) (by omega) ?_ | with_reducible refine tDvQ (by assumption) (by omega) (by omega) ?_ | with_reducible refine tLtQ (by omega) (by omega) ?_ | with_reducible refine dc_str ?_ ?_ | with_reducible refine wd_tup ?_ | with_reducible refine wd_lst ?_ | with_reducible refine wt_test ?_ | with_reducible refine wt_B ?_ | with_reducible refine wt_not ?_ | with_reducible refine wt_and ?_ | with_reducible refine wt_or ?_ | with_reducible refine wd_ifE ?_ | with_reducible refine wd_andV ?_ | with_reducible refine wd_orV ?_ | with_reducible refine wd_notV ?_
  | with_reducible refine ws_seq ?_ | with_reducible refine ws_next ?_ | with_reducible refine ws_asg ?_ | with_reducible refine ws_ret ?_ | with_reducible refine ws_retN ?_ | with_reducible refine ws_if ?_ | with_reducible refine ws_par ?_ | with_reducible refine ws_unp2 ?_
  | with_reducible refine if_t ?_ | with_reducible refine if_f ?_ | with_reducible refine if_nf ?_ | with_reducible refine if_nt ?_
  | ((with_reducible show Exists _); first | refine ⟨_, kitInt _, ?_⟩ | refine ⟨_, kitBool _, ?_⟩ | refine ⟨_, kitTup _, ?_⟩ | refine ⟨_, kitList _, ?_⟩ | refine ⟨_, rfl, ?_⟩ | refine ⟨_, _, rfl, ?_⟩ | fail) | fail))
def t_slopesR (K : PySem.W.Frag) : TS :=
  (tSeq (tAsg (tLst tNil) (gName 2))
    (tSeq (tFor (iRng1 (tCons (tOp rSubI (tCB (rLenX K) (tCons (tVar 0) tNil)) (tC (.int 1))) tNil)) (gName 3) (tSeq (tAsg (tOp (rIxR K) (tVar 0) (tVar 3)) (gTup K 2 (gCons (gName 4) (gCons (gName 5) gNil))))
    (tSeq (tAsg (tOp (rIxR K) (tVar 0) (tOp rAddI (tVar 3) (tC (.int 1)))) (gTup K 2 (gCons (gName 6) (gCons (gName 7) gNil))))
    (tDrop (tBM K "list" rAppend (tVar 2) (tCons (tCall (spP K TDvQ) [] E0 (tCons (tCall (spP K TSbQ) [] E0 (tCons (tVar 7) (tCons (tVar 5) tNil))) (tCons (tCall (spP K TSbQ) [] E0 (tCons (tVar 6) (tCons (tVar 4) tNil))) tNil))) tNil))))))
    (tRet (tOp rCatL (tVar 2) (tLst (tCons (tVar 1) tNil))))))
def t_risB (K : PySem.W.Frag) : TS :=
  (tRet (tCB (rAll K) (tCons (tLc (iRng1 (tCons (tOp rSubI (tCB (rLenX K) (tCons (tVar 0) tNil)) (tC (.int 1))) tNil)) (gName 1) tYes (tCall (spP K TLtQ) [] E0 (tCons (tOp (rIxT K) (tOp (rIxR K) (tVar 0) (tVar 1)) (tC (.int 0))) (tCons (tOp (rIxT K) (tOp (rIxR K) (tVar 0) (tOp rAddI (tVar 1) (tC (.int 1)))) (tC (.int 0))) tNil))) [1]) tNil)))
def t_bends (K : PySem.W.Frag) : TS :=
  (tSeq (tAsg (tCall (spP K TSlopesR) [] E0 (tCons (tVar 0) (tCons (tVar 1) tNil))) (gName 2))
    (tSeq (tAsg (tLst tNil) (gName 3))
    (tSeq (tFor (iEnumR K (tCons (tVar 0) tNil)) (gTup K 2 (gCons (gName 4) (gCons (gTup K 2 (gCons (gName 5) (gCons (gName 6) gNil))) gNil))) (tIfS (tOr (tTest (tOp rEq (tVar 4) (tC (.int 0)))) (tTest (tOp (rNeD K) (tOp (rIxL K) (tVar 2) (tVar 4)) (tOp (rIxL K) (tVar 2) (tOp rSubI (tVar 4) (tC (.int 1))))))) (tDrop (tBM K "list" rAppend (tVar 3) (tCons (tTup (tCons (tVar 5) (tCons (tVar 6) tNil))) tNil))) tNext))
    (tRet (tCB (rTupOf K) (tCons (tVar 3) tNil))))))
def t_lineof (K : PySem.W.Frag) (a_NOUGHT : Addr) : TS :=
  (tSeq (tIfS (tTest (tOp rEq (tCB (rLenX K) (tCons (tVar 0) tNil)) (tC (.int 0)))) tNo tNext)
    (tSeq (tIfS (tTest (tOp (rNeD K) (tOp (rIxT K) (tOp (rIxR K) (tVar 0) (tC (.int 0))) (tC (.int 0))) (tC (.ref a_NOUGHT)))) tNo tNext)
    (tSeq (tIfS (tNot (tB (tCall (spP K TRisB) [] E0 (tCons (tVar 0) tNil)))) tNo tNext)
    (tRet (tTup (tCons (tCall (spP K TBends) [] E0 (tCons (tVar 0) (tCons (tVar 1) tNil))) (tCons (tVar 1) tNil)))))))
section
variable {K : PySem.W.Frag} {ds : List PyData} {Φ : PyData → Prop}
end
end DL

set_option Elab.async false
set_option linter.all false
set_option maxRecDepth 100000
set_option maxHeartbeats 4000000
/-! LR2: what is a line, of anything -/
namespace DL
open PySem PySem.Spec PyProof.Rows L2
/-- of no great numbers -/
inductive Tm : PyData → Prop
  | non : Tm .none
  | bool {b : Bool} : Tm (.bool b)
  | int {i : Int} : i.natAbs < 2 ^ 1700 → Tm (.int i)
  | str {z : Str} : Tm (.str z)
  | tup {ds : List PyData} : ds.length ≤ 1000 → (∀ d ∈ ds, Tm d) → Tm (.tuple ds)
  | lst {ds : List PyData} : ds.length ≤ 1000 → (∀ d ∈ ds, Tm d) → Tm (.list ds)
theorem Tm.mem {ds : List PyData} (h : Tm (.tuple ds)) {d : PyData} (m : d ∈ ds) : Tm d := by cases h with | tup _ g => exact g d m
theorem Tm.len {ds : List PyData} (h : Tm (.tuple ds)) : ds.length ≤ 1000 := by cases h with | tup g _ => exact g
theorem Tm.num {i : Int} (h : Tm (.int i)) : i.natAbs < 2 ^ 1700 := by cases h with | int g => exact g
def isPairD : PyData → Bool
  | .tuple xs => decide ((xs.length : Int) = 2)
  | _ => false
def isKnotD : PyData → Bool
  | .tuple [a, b] => isPartD a && isPartD b
  | _ => false
def IsLn (d : PyData) : Prop := ∃ ks s, d = lnD ks s ∧ 0 < ks.length ∧ (kn ks 0).1 = 0 ∧ Rising ks ∧ Nrm ks s
noncomputable def isLnB (d : PyData) : Bool := @decide (IsLn d) (Classical.propDecidable _)
theorem tuple_of {d : PyData} (h : tyD d = "tuple") : ∃ xs, d = .tuple xs := by
  cases d <;> first | exact ⟨_, rfl⟩ | (simp [tyD] at h)
def TPairB : List PyData → (PyData → Prop) → Prop := fun ds Φ => ∃ d, ds = [d] ∧ Φ (.bool (isPairD d))
def TKnotB : List PyData → (PyData → Prop) → Prop := fun ds Φ => ∃ d, ds = [d] ∧ Φ (.bool (isKnotD d))
def TIsPartL : List PyData → (PyData → Prop) → Prop := fun ds Φ => ∃ d, ds = [d] ∧ GoodD d ∧ Φ (.bool (isPartD d))
def TIsLine : List PyData → (PyData → Prop) → Prop := fun ds Φ => ∃ d, ds = [d] ∧ Tm d ∧ SeqAt.shaped d = true ∧ Φ (.bool (isLnB d))
local macro_rules | `(tactic| walk_at "dl") => `(tactic| repeat' (first
  | with_reducible refine wd_isTy ?_ | with_reducible refine wd_isi ?_ | with_reducible refine wd_op ?_ | ((with_reducible show WD _ _ (tCB (rLenX _) (tCons (tVar _) tNil)) _ _); refine wd_len_scr rfl ?_) | with_reducible refine wd_cb ?_ | with_reducible refine wd_un ?_ | with_reducible refine wa_cons ?_ | with_reducible refine wa_nil ?_ | ((with_reducible show WD _ _ (tVar _) _ _); refine wd_var rfl ?_) | with_reducible refine wd_int ?_ | with_reducible refine wd_bl ?_ | with_reducible refine wd_str ?_ | with_reducible refine wd_non ?_
  | with_reducible refine do_nesS ?_ | with_reducible refine dc_intB ?_ | with_reducible refine do_add ?_ | with_reducible refine do_sub ?_ | ((with_reducible refine do_mod ?_ ?_); decide) | with_reducible refine do_mod ?_ ?_ | with_reducible refine do_mul ?_ ?_ | ((with_reducible refine do_div ?_ ?_); exact ⟨by decide, by decide⟩) | with_reducible refine do_div ?_ ?_ | ((with_reducible refine do_pow ?_ ?_); exact ⟨by decide, by decide, by decide⟩) | with_reducible refine do_pow ?_ ?_
  | with_reducible refine do_lt ?_ | with_reducible refine do_le ?_ | with_reducible refine do_gt ?_ | with_reducible refine do_ge ?_ | with_reducible refine du_neg ?_
  | with_reducible refine do_eqi ?_ | with_reducible refine do_nei ?_ | with_reducible refine do_eqs ?_ | with_reducible refine do_nes ?_ | with_reducible refine dc_abs ?_ | with_reducible refine dc_min ?_ | with_reducible refine dc_max ?_ | with_reducible refine dc_lenL ?_ | with_reducible refine dc_lenT ?_ | with_reducible refine dc_lenR ?_ | with_reducible refine dc_gcd ?_
  | ((with_reducible show DO _ (rIxT _) _ _ _); refine do_ixT rfl ?_) | ((with_reducible show DO _ (rIxL _) _ _ _); refine do_ixL rfl ?_) | ((with_reducible refine do_catL ?_ ?_); exact Nat.le_of_ble_eq_true rfl) | with_reducible refine do_catL ?_ ?_ | ((with_reducible show And (List.length _ ≤ sizeLine) _); refine ⟨Nat.le_of_ble_eq_true rfl, ?_⟩)
  | with_reducible refine wd_dnew ?_ | with_reducible refine wd_call0 ?_ | with_reducible refine wd_slA ?_ | with_reducible refine wo_part ?_ | with_reducible refine wo_none ?_ | with_reducible refine do_eqQ ?_ | with_reducible refine do_neQ ?_ | with_reducible refine wi_enumT ?_ | with_reducible refine wi_enumD ?_ | with_reducible refine tAdQ (by omega) (by omega) ?_ | with_reducible refine tSbQ (by omega) (by omega) ?_ | with_reducible refine tMlQ (by omega) (by omega) ?_ | with_reducible refine tDvQ (by assumption) (by omega) (by omega) ?_ | with_reducible refine tLtQ (by omega) (by omega) ?_ | with_reducible refine dc_str ?_ ?_ | with_reducible refine wd_tup ?_ | with_reducible refine wd_lst ?_ | with_reducible refine wt_test ?_ | with_reducible refine wt_B ?_ | with_reducible refine wt_not ?_ | with_reducible refine wt_and ?_ | with_reducible refine wt_or ?_ | with_reducible refine wd_ifE ?_ | with_reducible refine wd_andV ?_ | with_reducible refine wd_orV ?_ | with_reducible refine wd_notV ?_
  | with_reducible refine ws_seq ?_ | with_reducible refine ws_next ?_ | with_reducible refine ws_asg ?_ | with_reducible refine ws_ret ?_ | with_reducible refine ws_retN ?_ | with_reducible refine ws_if ?_ | with_reducible refine ws_par ?_ | with_reducible refine ws_unp2 ?_
  | with_reducible refine if_t ?_ | with_reducible refine if_f ?_ | with_reducible refine if_nf ?_ | with_reducible refine if_nt ?_
  | ((with_reducible show Exists _); first | refine ⟨_, kitInt _, ?_⟩ | refine ⟨_, kitBool _, ?_⟩ | refine ⟨_, kitTup _, ?_⟩ | refine ⟨_, kitList _, ?_⟩ | refine ⟨_, rfl, ?_⟩ | refine ⟨_, _, rfl, ?_⟩ | fail) | fail))
def t_pairb (K : PySem.W.Frag) : TS :=
  (tRet (tAndV (tOp rIsTyX (tCB (rTyp K) (tCons (tVar 0) tNil)) (tC (.ty "tuple"))) (tOp rEq (tCB (rLenX K) (tCons (tVar 0) tNil)) (tC (.int 2)))))
def t_knotb (K : PySem.W.Frag) : TS :=
  (tRet (tAndV (tCall (spP K TPairB) [] E0 (tCons (tVar 0) tNil)) (tAndV (tCall (spP K TPartB) [] E0 (tCons (tOp (rIxT K) (tVar 0) (tC (.int 0))) tNil)) (tCall (spP K TPartB) [] E0 (tCons (tOp (rIxT K) (tVar 0) (tC (.int 1))) tNil)))))
def t_isline (K : PySem.W.Frag) (a_NOUGHT : Addr) : TS :=
  (tSeq (tIfS (tNot (tB (tCall (spP K TPairB) [] E0 (tCons (tVar 0) tNil)))) (tRet (tC (.bl false))) tNext)
    (tSeq (tAsg (tVar 0) (gTup K 2 (gCons (gName 1) (gCons (gName 2) gNil))))
    (tSeq (tIfS (tNot (tAnd (tTest (tOp rIsTyX (tCB (rTyp K) (tCons (tVar 1) tNil)) (tC (.ty "tuple")))) (tAnd (tTest (tOp rGe (tCB (rLenX K) (tCons (tVar 1) tNil)) (tC (.int 1)))) (tB (tCall (spP K TPartB) [] E0 (tCons (tVar 2) tNil)))))) (tRet (tC (.bl false))) tNext)
    (tSeq (tIfS (tNot (tB (tCB (rAll K) (tCons (tLc (iTup K (tVar 1)) (gName 3) tYes (tCall (spP K TKnotB) [] E0 (tCons (tVar 3) tNil)) [3]) tNil)))) (tRet (tC (.bl false))) tNext)
    (tSeq (tIfS (tOr (tTest (tOp (rNeD K) (tOp (rIxT K) (tOp (rIxT K) (tVar 1) (tC (.int 0))) (tC (.int 0))) (tC (.ref a_NOUGHT)))) (tNot (tB (tCall (spP K TRisB) [] E0 (tCons (tVar 1) tNil))))) (tRet (tC (.bl false))) tNext)
    (tRet (tOp rEq (tCB (rLenX K) (tCons (tCall (spP K TBends) [] E0 (tCons (tVar 1) (tCons (tVar 2) tNil))) tNil)) (tCB (rLenX K) (tCons (tVar 1) tNil)))))))))
def t_lispart (K : PySem.W.Frag) : TS :=
  (tSeq (tIfS (tOr (tNot (tB (tCB (rIsi K) (tCons (tVar 0) (tCons (tC (.ty "tuple")) tNil))))) (tTest (tOp rNe (tCB (rLenX K) (tCons (tVar 0) tNil)) (tC (.int 2))))) (tRet (tC (.bl false))) tNext)
    (tSeq (tFor (iTup K (tVar 0)) (gName 1) (tIfS (tOr (tNot (tB (tCB (rIsi K) (tCons (tVar 1) (tCons (tC (.ty "int")) tNil))))) (tB (tCB (rIsi K) (tCons (tVar 1) (tCons (tC (.ty "bool")) tNil))))) (tRet (tC (.bl false))) tNext))
    (tRet (tAndV (tOp rGt (tOp (rIxT K) (tVar 0) (tC (.int 1))) (tC (.int 0))) (tOp (rEqD K) (tCall (spP K TLow) [] E0 (tCons (tOp (rIxT K) (tVar 0) (tC (.int 0))) (tCons (tOp (rIxT K) (tVar 0) (tC (.int 1))) tNil))) (tVar 0))))))
def t_lisline (K : PySem.W.Frag) : TS :=
  (tSeq (tIfS (tOr (tNot (tB (tCB (rIsi K) (tCons (tVar 0) (tCons (tC (.ty "tuple")) tNil))))) (tOr (tTest (tOp rNe (tCB (rLenX K) (tCons (tVar 0) tNil)) (tC (.int 2)))) (tOr (tNot (tB (tCB (rIsi K) (tCons (tOp (rIxT K) (tVar 0) (tC (.int 0))) (tCons (tC (.ty "tuple")) tNil))))) (tTest (tOp (rEqD K) (tOp (rIxT K) (tVar 0) (tC (.int 0))) (tTup tNil)))))) (tRet (tC (.bl false))) tNext)
    (tSeq (tFor (iTup K (tOp (rIxT K) (tVar 0) (tC (.int 0)))) (gName 1) (tIfS (tOr (tNot (tB (tCB (rIsi K) (tCons (tVar 1) (tCons (tC (.ty "tuple")) tNil))))) (tOr (tTest (tOp rNe (tCB (rLenX K) (tCons (tVar 1) tNil)) (tC (.int 2)))) (tOr (tNot (tB (tCall (spP K TIsPartL) [] E0 (tCons (tOp (rIxT K) (tVar 1) (tC (.int 0))) tNil)))) (tNot (tB (tCall (spP K TIsPartL) [] E0 (tCons (tOp (rIxT K) (tVar 1) (tC (.int 1))) tNil))))))) (tRet (tC (.bl false))) tNext))
    (tSeq (tIfS (tOr (tNot (tB (tCall (spP K TIsPartL) [] E0 (tCons (tOp (rIxT K) (tVar 0) (tC (.int 1))) tNil)))) (tTest (tOp (rNeD K) (tOp (rIxT K) (tOp (rIxT K) (tOp (rIxT K) (tVar 0) (tC (.int 0))) (tC (.int 0))) (tC (.int 0))) (tTup (tCons (tC (.int 0)) (tCons (tC (.int 1)) tNil)))))) (tRet (tC (.bl false))) tNext)
    (tSeq (tFor (iRng2 (tCons (tC (.int 1)) (tCons (tCB (rLenX K) (tCons (tOp (rIxT K) (tVar 0) (tC (.int 0))) tNil)) tNil))) (gName 2) (tIfS (tNot (tB (tCall (spP K TLtQ) [] E0 (tCons (tOp (rIxT K) (tOp (rIxT K) (tOp (rIxT K) (tVar 0) (tC (.int 0))) (tOp rSubI (tVar 2) (tC (.int 1)))) (tC (.int 0))) (tCons (tOp (rIxT K) (tOp (rIxT K) (tOp (rIxT K) (tVar 0) (tC (.int 0))) (tVar 2)) (tC (.int 0))) tNil))))) (tRet (tC (.bl false))) tNext))
    (tRet (tOp (rEqD K) (tLc (iRng2 (tCons (tC (.int 1)) (tCons (tCB (rLenX K) (tCons (tOp (rIxT K) (tVar 0) (tC (.int 0))) tNil)) tNil))) (gName 2) (tTest (tOp (rEqD K) (tCall (spP K TSlope) [] E0 (tCons (tVar 0) (tCons (tOp rSubI (tVar 2) (tC (.int 1))) tNil))) (tCall (spP K TSlope) [] E0 (tCons (tVar 0) (tCons (tVar 2) tNil))))) (tC (.int 1)) [2]) (tLst tNil)))))))
section
variable {K : PySem.W.Frag} {ds : List PyData} {Φ : PyData → Prop}
end
end DL

set_option Elab.async false
set_option linter.all false
set_option maxRecDepth 100000
set_option maxHeartbeats 4000000
/-! DM5: list(zip(xs, ys)) -/
namespace DZ
open PySem PySem.W PySem.Calls PyProof.Rows PyProof.V PySem.Spec
theorem zNoLen : typeLookup (.type "zip") "__len__" = pure none := by
  rw [typeLookup_type, builtinLookup_eq_fast]
  kernel_rfl
theorem zNoHint : typeLookup (.type "zip") "__length_hint__" = pure none := by
  rw [typeLookup_type, builtinLookup_eq_fast]
  kernel_rfl
/-- where the parts of a zip stand, all below the list S -/
structure Pl (z TI TO i1 i2 l1 l2 S : Addr) : Prop where
  D : ZipApart z TI TO i1 i2 l1 l2
  z : z < S
  TI : TI < S
  TO : TO < S
  i1 : i1 < S
  i2 : i2 < S
  l1 : l1 < S
  l2 : l2 < S
/-- a zip behind its i-th pair -/
structure St (z TI TO i1 i2 l1 l2 S : Addr) (xs ys : Array Value) (i : Nat) (h : Heap) : Prop where
  ti : IsPair h TI (.ref i1) (.ref i2)
  a1 : h.IsListIter i1 l1 i
  a2 : h.IsListIter i2 l2 i
  b1 : h.IsList l1 xs
  b2 : h.IsList l2 ys
  out : (IsZip h z TI TO .none ∧ ∃ a b, IsPair h TO a b) ∨ ∃ (T : Addr) (f : Bool) (oT : Obj), IsZipHeld h z TI TO T f ∧ h.get? T = some oT ∧ T ≠ z ∧ T ≠ i1 ∧ T ≠ i2 ∧ T ≠ S
/-- the pairs made so far -/
structure Gd (xs ys : Array Value) (S : Addr) (h : Heap) (as : List Addr) : Prop where
  up : as.Pairwise (· < ·)
  lo : ∀ a ∈ as, S < a
  at' : ∀ (j : Nat) (a : Addr), as[j]? = some a → ∃ x y, xs[j]? = some x ∧ ys[j]? = some y ∧ IsPair h a x y
section
variable {prog : Program} {w : World} {A : Around} {E : Value → Shared → Prop} {s : Shared} {z TI TO i1 i2 l1 l2 S : Addr} {xs ys : Array Value}
theorem St.mv {i : Nat} {h g : Heap} (P : Pl z TI TO i1 i2 l1 l2 S) (t : St z TI TO i1 i2 l1 l2 S xs ys i h) (k : ∀ b o, b ≠ S → h.get? b = some o → g.get? b = some o) : St z TI TO i1 i2 l1 l2 S xs ys i g := by
  have n : ∀ {b : Addr}, b < S → b ≠ S := fun h => Nat.ne_of_lt h
  refine ⟨k _ _ (n P.TI) t.ti, t.a1.at fun o e => k _ _ (n P.i1) e, t.a2.at fun o e => k _ _ (n P.i2) e, t.b1.at fun o e => k _ _ (n P.l1) e, t.b2.at fun o e => k _ _ (n P.l2) e, ?_⟩
  cases t.out with
  | inl q =>
    obtain ⟨q1, a, b, q2⟩ := q
    exact .inl ⟨k _ _ (n P.z) q1, a, b, k _ _ (n P.TO) q2⟩
  | inr q =>
    obtain ⟨T, f, oT, q1, q2, q3, q4, q5, q6⟩ := q
    exact .inr ⟨T, f, oT, k _ _ (n P.z) q1, k _ _ q6 q2, q3, q4, q5, q6⟩
theorem St.nxt {i : Nat} {x y : Value} {Q : Option Value → Shared → Prop} (P : Pl z TI TO i1 i2 l1 l2 S) (t : St z TI TO i1 i2 l1 l2 S xs ys i s.heap) (hS : S < s.heap.objs.size) (hx : xs[i]? = some x) (hy : ys[i]? = some y)
    (q : ∀ g, St z TI TO i1 i2 l1 l2 S xs ys (i + 1) g → IsPair g s.heap.objs.size x y → g.objs.size = s.heap.objs.size + 1 → (∀ c o, c ≠ z → c ≠ TO → c ≠ i1 → c ≠ i2 → s.heap.get? c = some o → g.get? c = some o) → Q (some (.ref s.heap.objs.size)) { s with heap := g }) :
    wpAny (model prog w) A (pyNext (.ref z)) Q E s := by
  have D := P.D
  have ln : ∀ {c : Addr} {o : Obj}, s.heap.get? c = some o → s.heap.objs.size ≠ c := fun e => Nat.ne_of_gt (Heap.lt_size e)
  obtain ⟨o1, p1, _⟩ := id t.a1
  obtain ⟨o2, p2, _⟩ := id t.a2
  cases t.out with
  | inl o =>
    obtain ⟨oz, a, b, oTO⟩ := o
    refine wpAny_pyNext_zip_item D oz t.ti oTO t.a1 t.a2 t.b1 t.b2 hx hy fun g g1 g2 g3 g4 g5 g6 kp => q g ?_ g5 g6 kp
    refine ⟨kp _ _ D.TIz D.TITO D.TIi1 D.TIi2 t.ti, g3, g4, t.b1.at fun o e => kp _ o D.l1z D.l1TO D.l1i1 D.l1i2 e, t.b2.at fun o e => kp _ o D.l2z D.l2TO D.l2i1 D.l2i2 e, .inr ?_⟩
    exact ⟨s.heap.objs.size, false, _, g1, g5, ln oz, ln p1, ln p2, Nat.ne_of_gt hS⟩
  | inr o =>
    obtain ⟨T, f, oT, oz, hT, r1, r2, r3, r4⟩ := o
    refine wpAny_pyNext_zip_item_held D oz hT t.ti t.a1 t.a2 t.b1 t.b2 hx hy fun g g1 g3 g4 g5 g6 kp => q g ?_ g5 g6 fun c o c1 _ c3 c4 e => kp c o c1 c3 c4 e
    refine ⟨kp _ _ D.TIz D.TIi1 D.TIi2 t.ti, g3, g4, t.b1.at fun o e => kp _ o D.l1z D.l1i1 D.l1i2 e, t.b2.at fun o e => kp _ o D.l2z D.l2i1 D.l2i2 e, .inr ?_⟩
    exact ⟨T, true, oT, g1, kp _ _ r1 r2 r3 hT, r1, r2, r3, r4⟩
theorem St.end' {i : Nat} {Q : Option Value → Shared → Prop} (hh : A.handled = none) (P : Pl z TI TO i1 i2 l1 l2 S) (t : St z TI TO i1 i2 l1 l2 S xs ys i s.heap) (he : xs[i]? = none)
    (q : ∀ g, (∀ c o, c ≠ z → c ≠ TO → c ≠ i1 → c ≠ i2 → s.heap.get? c = some o → g.get? c = some o) → Q none { s with heap := g }) :
    wpAny (model prog w) A (pyNext (.ref z)) Q E s := by
  cases t.out with
  | inl o =>
    obtain ⟨oz, a, b, oTO⟩ := o
    exact wpAny_pyNext_zip_end hh P.D oz t.ti oTO t.a1 t.a2 t.b1 t.b2 (.inl he) fun g kp => q g kp
  | inr o =>
    obtain ⟨T, f, oT, oz, hT, r1, r2, r3, r4⟩ := o
    exact wpAny_pyNext_zip_end_held hh P.D oz hT t.ti t.a1 t.a2 t.b1 t.b2 (.inl he) fun g kp => q g fun c o c1 _ c3 c4 e => kp c o c1 c3 c4 e
end
section
variable {prog : Program} {w : World} {A : Around} {s : Shared} {R : Result → Shared → Prop} {z TI TO i1 i2 l1 l2 S : Addr} {xs ys : Array Value}
theorem fill (hh : A.handled = none) (P : Pl z TI TO i1 i2 l1 l2 S) (hl : xs.size = ys.size) (hn : xs.size ≤ sizeLine) (res : Value) {g0 : Heap} (low : ∀ b o, g0.get? b = some o → b ≠ S ∧ b ≠ z ∧ b ≠ TO ∧ b ≠ i1 ∧ b ≠ i2)
    (fin : ∀ g tk acc c as, (∀ b o, g0.get? b = some o → g.get? b = some o) → g.get? S = some { cls := .type "list", dict := none, data := .seq acc c, slots := #[] } → as.length = xs.size → Gd xs ys S g as →
      acc.toList = as.map Value.ref → R (.ok (.ret res)) { s with heap := g, toks := tk }) :
    ∀ (m i : Nat) (g : Heap) (tk c : Nat) (acc : Array Value) (as : List Addr), xs.size = i + m → St z TI TO i1 i2 l1 l2 S xs ys i g → (∀ b o, g0.get? b = some o → g.get? b = some o) →
      g.get? S = some { cls := .type "list", dict := none, data := .seq acc c, slots := #[] } → acc.toList = as.map Value.ref → as.length = i → Gd xs ys S g as →
      codeAny (model prog w) A (.builtin "list.extend.loop" ⟨[.ref S, .ref z, res], []⟩) R { s with heap := g, toks := tk } := by
  intro m
  induction m with
  | zero =>
    intro i g tk c acc as e t kp hS ha al G
    ((refine codeAny_builtin PySem.F.entry_extend_loop ?_); (rw [Around.under_plainId PySem.F.plain_extend_loop _]); (show wpAny _ A.in1 (pyNext (.ref z) >>= _) _ _ _))
    refine wpAny_bind (t.end' (s := { s with heap := g, toks := tk }) (A := A.in1) hh P (Array.getElem?_eq_none (by omega)) fun g' k' => ?_)
    have nS : S ≠ z ∧ S ≠ TO ∧ S ≠ i1 ∧ S ≠ i2 := ⟨Nat.ne_of_gt P.z, Nat.ne_of_gt P.TO, Nat.ne_of_gt P.i1, Nat.ne_of_gt P.i2⟩
    refine wpAny_pure (fin g' tk acc c as (fun b o e' => ?_) (k' _ _ nS.1 nS.2.1 nS.2.2.1 nS.2.2.2 hS) (by omega) ⟨G.up, G.lo, fun j a ja => ?_⟩ ha)
    · obtain ⟨_, w1, w2, w3, w4⟩ := low b o e'
      exact k' b o w1 w2 w3 w4 (kp b o e')
    · obtain ⟨x, y, hx, hy, hp⟩ := G.at' j a ja
      have la := G.lo a (List.mem_of_getElem? ja)
      exact ⟨x, y, hx, hy, k' _ _ (Nat.ne_of_gt (Nat.lt_trans P.z la)) (Nat.ne_of_gt (Nat.lt_trans P.TO la)) (Nat.ne_of_gt (Nat.lt_trans P.i1 la)) (Nat.ne_of_gt (Nat.lt_trans P.i2 la)) hp⟩
  | succ m ih =>
    intro i g tk c acc as e t kp hS ha al G
    have hix : i < xs.size := by omega
    have hiy : i < ys.size := by omega
    have as' : acc.size = i := by rw [← Array.length_toList, ha, List.length_map, al]
    have sS : S < g.objs.size := Heap.lt_size hS
    ((refine codeAny_builtin PySem.F.entry_extend_loop ?_); (rw [Around.under_plainId PySem.F.plain_extend_loop _]); (show wpAny _ A.in1 (pyNext (.ref z) >>= _) _ _ _))
    refine wpAny_bind (t.nxt (s := { s with heap := g, toks := tk }) P sS (Array.getElem?_eq_getElem hix) (Array.getElem?_eq_getElem hiy) fun g' t' hp hz k' => ?_)
    dsimp only at t' hp hz k' ⊢
    have nS : S ≠ z ∧ S ≠ TO ∧ S ≠ i1 ∧ S ≠ i2 := ⟨Nat.ne_of_gt P.z, Nat.ne_of_gt P.TO, Nat.ne_of_gt P.i1, Nat.ne_of_gt P.i2⟩
    have hS' := k' _ _ nS.1 nS.2.1 nS.2.2.1 nS.2.2.2 hS
    have mv : ∀ b o, b ≠ S → g'.get? b = some o → (g'.update S (Obj.mapSeq (·.push (Value.ref g.objs.size)))).get? b = some o := fun b o hb e' => by
      rw [Heap.get?_update_other _ _ (Ne.symm hb)]; exact e'
    have old : ∀ a, S < a → ∀ o, g.get? a = some o → (g'.update S (Obj.mapSeq (·.push (Value.ref g.objs.size)))).get? a = some o := fun a la o e' =>
      mv a o (Nat.ne_of_gt la) (k' _ _ (Nat.ne_of_gt (Nat.lt_trans P.z la)) (Nat.ne_of_gt (Nat.lt_trans P.TO la)) (Nat.ne_of_gt (Nat.lt_trans P.i1 la)) (Nat.ne_of_gt (Nat.lt_trans P.i2 la)) e')
    show wpAny _ A.in1 (updateSeq S (·.push (Value.ref g.objs.size)) >>= _) _ _ _
    refine wpAny_bind (wpAny_updateSeq hS' rfl (wpAny_pure ⟨plainId_quiet PySem.F.plain_extend_loop _, ?_⟩) (by rw [as']; omega) (by show (acc.push (Value.ref g.objs.size)).size ≤ sizeLine + 1; rw [Array.size_push, as']; omega))
    refine ih (i + 1) _ tk _ (acc.push (Value.ref g.objs.size)) (as ++ [g.objs.size]) (by omega) (t'.mv P mv) (fun b o e' => ?_) (Heap.get?_update_self _ hS' rfl) ?_ (by rw [List.length_append, al]; rfl) ⟨?_, fun a ha' => ?_, fun j a ja => ?_⟩
    · obtain ⟨w0, w1, w2, w3, w4⟩ := low b o e'
      exact mv b o w0 (k' b o w1 w2 w3 w4 (kp b o e'))
    · rw [Array.toList_push, ha, List.map_append]; rfl
    · refine List.pairwise_append.mpr ⟨G.up, List.pairwise_singleton _ _, fun a ha' b hb => ?_⟩
      have e1 : b = g.objs.size := by simpa using hb
      subst e1
      obtain ⟨j, hj⟩ := List.mem_iff_getElem?.mp ha'
      obtain ⟨_, _, _, _, hp'⟩ := G.at' j a hj
      exact Heap.lt_size hp'
    · rcases List.mem_append.mp ha' with h | h
      · exact G.lo a h
      · have e1 : a = g.objs.size := by simpa using h
        subst e1; exact sS
    · by_cases q : j < as.length
      · rw [List.getElem?_append_left q] at ja
        obtain ⟨x, y, hx, hy, hp'⟩ := G.at' j a ja
        exact ⟨x, y, hx, hy, old a (G.lo a (List.mem_of_getElem? ja)) _ hp'⟩
      · by_cases q2 : j = as.length
        · subst q2
          have e1 : g.objs.size = a := by simpa using ja
          subst e1
          exact ⟨_, _, by rw [al]; exact Array.getElem?_eq_getElem hix, by rw [al]; exact Array.getElem?_eq_getElem hiy, mv _ _ (Nat.ne_of_gt sS) hp⟩
        · rw [List.getElem?_eq_none (by rw [List.length_append, List.length_singleton]; omega)] at ja
          cases ja
end
section
variable {prog : Program} {w : World} {A : Around} {E : Value → Shared → Prop} {s : Shared} {z TI TO i1 i2 l1 l2 : Addr} {xs ys : Array Value}
/-- list(z), z a new zip of two lists of one length -/
theorem made {Q : Value → Shared → Prop} {g0 : Heap} (hh : A.handled = none) (P : Pl z TI TO i1 i2 l1 l2 s.heap.objs.size) (hl : xs.size = ys.size) (hn : xs.size ≤ sizeLine)
    (hz : IsZip s.heap z TI TO .none) (hTI : IsPair s.heap TI (.ref i1) (.ref i2)) (hTO : ∃ a b, IsPair s.heap TO a b) (h1 : s.heap.IsListIter i1 l1 0) (h2 : s.heap.IsListIter i2 l2 0) (b1 : s.heap.IsList l1 xs) (b2 : s.heap.IsList l2 ys)
    (k0 : ∀ b o, g0.get? b = some o → s.heap.get? b = some o ∧ b ≠ z ∧ b ≠ TO ∧ b ≠ i1 ∧ b ≠ i2)
    (fin : ∀ g tk acc c as, (∀ b o, g0.get? b = some o → g.get? b = some o) → g.get? s.heap.objs.size = some { cls := .type "list", dict := none, data := .seq acc c, slots := #[] } → as.length = xs.size → Gd xs ys s.heap.objs.size g as →
      acc.toList = as.map Value.ref → Q (.ref s.heap.objs.size) { s with heap := g, toks := tk }) : wpAny (model prog w) A (call (.type "list") [.ref z]) Q E s := by
  refine callType_codes (Q₁ := fun obj t => obj = .ref s.heap.objs.size ∧ t = { s with heap := s.heap.push { cls := .type "list", data := .seq #[] } }) PySem.F.called_list (PySem.F.typeCall_list_1 _) PySem.F.entry_list_init (code_list_new _ ⟨rfl, rfl⟩) fun obj t ht => ?_
  obtain ⟨rfl, rfl⟩ := ht
  have o0 : (s.heap.push { cls := .type "list", data := .seq #[] }).get? s.heap.objs.size = some { cls := .type "list", data := .seq #[] } := Heap.get?_push_size _ rfl
  refine ⟨⟨_, o0, rfl⟩, PySem.F.args_list_init_2 _ _, ?_⟩
  have zS : s.heap.objs.size ≠ z := Nat.ne_of_gt P.z
  have kk : ∀ b o, s.heap.get? b = some o → b ≠ s.heap.objs.size := fun b o e => Nat.ne_of_lt (Heap.lt_size e)
  have st0 : St z TI TO i1 i2 l1 l2 s.heap.objs.size xs ys 0 s.heap := ⟨hTI, h1, h2, b1, b2, .inl ⟨hz, hTO⟩⟩
  generalize s.heap.objs.size = S at *
  have n0 : ∀ (g : Heap) (f : Obj → Obj), (∀ b o, b ≠ S → s.heap.get? b = some o → g.get? b = some o) → ∀ b o, b ≠ S → s.heap.get? b = some o → (g.update S f).get? b = some o := fun g f q b o hb e => by
    rw [Heap.get?_update_other _ _ (Ne.symm hb)]; exact q b o hb e
  have m1 : ∀ b o, b ≠ S → s.heap.get? b = some o → (s.heap.push { cls := .type "list", data := .seq #[] }).get? b = some o := fun b o _ e => Heap.get?_push_of_some _ e
  generalize s.heap.push { cls := .type "list", data := .seq #[] } = g1 at o0 m1 ⊢
  show wpAny _ A.in1.in1 (do let old ← Builtin.List.listItems (.ref S); Builtin.List.listUpdate (.ref S) (fun _ => #[]); letGo old.toList.reverse; Builtin.List.listExtendWith (.ref S) (.ref z) .none) _ _ _
  refine wpAny_bind ?_
  unfold Builtin.List.listItems
  refine wpAny_bind (wpAny_seqItems o0 rfl (wpAny_pure ?_))
  show wpAny _ A.in1.in1 (updateSeq S (fun _ => #[]) >>= fun _ => letGo (#[] : Array Value).toList.reverse >>= fun _ => Builtin.List.listExtendWith (.ref S) (.ref z) .none) _ _ _
  refine wpAny_bind (wpAny_updateSeq o0 rfl ?_)
  have o2 := Heap.get?_update_self (Obj.mapSeq (fun _ => (#[] : Array Value))) o0 rfl
  have m2 := n0 g1 (Obj.mapSeq (fun _ => (#[] : Array Value))) m1
  generalize g1.update S (Obj.mapSeq (fun _ => (#[] : Array Value))) = g2 at o2 m2 ⊢
  refine wpAny_bind (wpAny_letGo ?_)
  unfold Builtin.List.listExtendWith
  have tz : Shared.TypeIs { s with heap := g2 } (.ref z) "zip" := ⟨_, m2 _ _ (Ne.symm zS) hz, rfl⟩
  refine wpAny_bind (wpAny_typeOf tz ?_)
  have c1 : Builtin.List.listSameRef (.ref S) (.ref z) = false := by simp [Builtin.List.listSameRef, zS]
  have c2 : (Value.type "zip" == Value.type "list") = false := by decide
  have c3 : (Value.type "zip" == Value.type "tuple") = false := by decide
  simp only [c1, c2, c3, Bool.or_false, Bool.false_eq_true, if_false]
  refine wpAny_bind (wpAny_pyIter_zip (s := { s with heap := g2 }) (m2 _ _ (Ne.symm zS) hz) ?_)
  refine wpAny_bind (wpAny_holding ?_)
  unfold Builtin.List.listLengthHint
  refine wpAny_bind (wpAny_specialOf tz zNoLen ?_)
  show wpAny _ A.in1.in1 (specialOf (Value.ref z) (Str.ofString "__length_hint__") >>= _) _ _ _
  refine wpAny_bind (wpAny_specialOf tz zNoHint ?_)
  refine wpAny_pure ?_
  show wpAny _ A.in1.in1 (rule "list.extend.makes-room" >>= fun _ => Builtin.List.listTouch (.ref S) >>= fun _ => again (.builtin "list.extend.loop" ⟨[.ref S, .ref z, .none], []⟩)) _ _ _
  refine wpAny_bind (wpAny_rule ?_)
  refine wpAny_bind ?_
  show wpAny _ A.in1.in1 (updateSeq S (·.push .none) >>= fun _ => updateSeq S (·.pop)) _ _ _
  refine wpAny_bind (wpAny_updateSeq o2 rfl ?_)
  have o3 := Heap.get?_update_self (Obj.mapSeq (·.push Value.none)) o2 rfl
  have m3 := n0 g2 (Obj.mapSeq (·.push Value.none)) m2
  refine wpAny_updateSeq (hz := by seq_fits) o3 rfl ?_
  have o4 := Heap.get?_update_self (Obj.mapSeq (·.pop)) o3 rfl
  have m4 := n0 _ (Obj.mapSeq (·.pop)) m3
  refine wpAny_pure ⟨plainId_quiet PySem.F.plain_extend_loop _, ?_⟩
  refine fill (s := s) (xs := xs) (ys := ys) (g0 := g0) (A := A.in1) hh P hl hn .none (fun b o e => ?_) (fun g tk acc c as q1 q2 q3 q4 q5 => ⟨rfl, fin g tk acc c as q1 q2 q3 q4 q5⟩) xs.size 0 _ _ _ _ [] (by omega) (st0.mv P m4) (fun b o e => ?_) o4 ?_ rfl ⟨List.Pairwise.nil, (fun a h => by cases h), (fun j a h => by simp at h)⟩
  · obtain ⟨e1, e2⟩ := k0 b o e
    exact ⟨kk b o e1, e2⟩
  · obtain ⟨e1, _⟩ := k0 b o e
    exact m4 b o (kk b o e1) e1
  · rfl
end
end DZ

set_option Elab.async false
set_option linter.all false
set_option maxRecDepth 100000
set_option maxHeartbeats 4000000
/-! DM6: list(zip(xs, ys)) in the hand layer, over data -/
namespace DL
open PySem PySem.Spec PyProof.Rows L2
def tLZip (K : PySem.W.Frag) (ta : TA) : TE := fun σ H Q => ta σ H fun vs H1 => ∃ (a b : Addr) (xs ys : List V), vs = [.ref a, .ref b] ∧ SqL K H1 a xs ∧ SqL K H1 b ys ∧ xs.length = ys.length ∧
  ∀ (H2 : Hp) (l : Addr) (as : List Addr), Same H1 H2 → H1 l = none → H2 l = some (.lst (as.map V.ref)) → as.length = xs.length → (∀ (j : Nat) (c : Addr), as[j]? = some c → H1 c = none ∧ ∃ x y, xs[j]? = some x ∧ ys[j]? = some y ∧ H2 c = some (.tup [x, y])) → Q (.ref l) H2
section
variable {K : PySem.W.Frag} {S : Stt} {ρ : Rho} {Φ : PyData → Rho → Prop}
end
end DL

set_option Elab.async false
set_option linter.all false
set_option maxRecDepth 100000
set_option maxHeartbeats 4000000
/-! DM7: calls that tell a new list -/
namespace DL
open PySem PySem.Spec PyProof.Rows L2
/-- a new list of data -/
def spM (K : PySem.W.Frag) (T : List PyData → (List PyData → Prop) → Prop) : Sp := fun vs H Q _ => ∃ (N : Av) (ds : List PyData) (Φ : List PyData → Prop),
  (∀ b, N b = true → H b ≠ none) ∧ DqAll K N H vs ds ∧ T ds Φ ∧ ∀ es, Φ es → ∀ p us G, Same H G → G p = none → DqAll K N G us es → Q (.ref p) (upd G p (.lst us))
section
variable {K : PySem.W.Frag} {S : Stt} {ρ : Rho} {Φ : PyData → Rho → Prop}
end
end DL

set_option Elab.async false
set_option linter.all false
set_option maxRecDepth 100000
set_option maxHeartbeats 4000000
/-! DM8: a list of one's own lengthened by a comprehension -/
namespace DL
open PySem PySem.Spec PyProof.Rows L2
section
variable {K : PySem.W.Frag} {S : Stt} {ρ : Rho}
end
end DL

set_option Elab.async false
set_option linter.all false
set_option maxRecDepth 100000
set_option maxHeartbeats 4000000
/-! DM9: three names at once -/
namespace DL
open PySem PySem.Spec PyProof.Rows L2
section
variable {K : PySem.W.Frag} {S : Stt} {ρ : Rho}
end
end DL

set_option Elab.async false
set_option linter.all false
/-! PM1: payments of totals, as rationals, and their sizes -/
namespace DL
abbrev P3 := Rat × Rat × Rat
def keptR (sh n d : Rat) : Rat := if n ≤ 0 then n else if sh * n < d then sh * n else d
def pstep (sh : Rat) (s : P3) (t : Rat) : P3 := (t, s.2.1 + (t - s.1 - keptR sh (t - s.1) s.2.2), s.2.2 - keptR sh (t - s.1) s.2.2)
def prow (sh : Rat) (s : P3) (t : Rat) : P3 := (t - s.1 - keptR sh (t - s.1) s.2.2, s.2.1 + (t - s.1 - keptR sh (t - s.1) s.2.2), s.2.2 - keptR sh (t - s.1) s.2.2)
def pS (sh : Rat) (ts : List Rat) : P3 := ts.foldl (pstep sh) (0, 0, 0)
def pRwF (sh : Rat) : P3 → List Rat → List P3
  | _, [] => []
  | s, t :: r => prow sh s t :: pRwF sh (pstep sh s t) r
def pRw (sh : Rat) (ts : List Rat) : List P3 := pRwF sh (0, 0, 0) ts
/-! sizes -/
/-- the common bottom of all totals -/
def dd : Nat := (List.range 1000).foldl (fun a k => Nat.lcm a (k + 1)) 1 * 988027000 ^ 4
def mm : Nat := dd * 2 ^ 21
end DL

set_option Elab.async false
set_option linter.all false
/-! PM2: what holds behind each payday; sizes -/
namespace DL
structure ShOk (R : Nat) (sh : Rat) : Prop where
  pos : 0 < sh
  le : sh ≤ 1
  r1 : 1 ≤ R
  r2 : R ≤ 1000
  dv : Dv R R sh
def Tot (t : Rat) : Prop := Dv dd mm t
structure PI (R k : Nat) (s : P3) : Prop where
  last : Tot s.1
  debt : Dv (dd * R) (2 * k * (mm * R)) s.2.2
  d0 : 0 ≤ s.2.2
  sum : s.2.1 = s.1 + s.2.2
/-- the sizes of all that a payday reckons with -/
structure PZ (sh : Rat) (s : P3) (t : Rat) : Prop where
  last : sz s.1 ≤ 1640
  all : sz s.2.1 ≤ 1640
  debt : sz s.2.2 ≤ 1640
  tot : sz t ≤ 1640
  new : sz (t - s.1) ≤ 1640
  shn : sz (sh * (t - s.1)) ≤ 1640
  now1 : sz (t - s.1 - s.2.2) ≤ 1640
  now2 : sz (t - s.1 - sh * (t - s.1)) ≤ 1640
  kept : sz (keptR sh (t - s.1) s.2.2) ≤ 1640
  now : sz (t - s.1 - keptR sh (t - s.1) s.2.2) ≤ 1640
  all2 : sz (pstep sh s t).2.1 ≤ 1640
  debt2 : sz (pstep sh s t).2.2 ≤ 1640
end DL

set_option Elab.async false
set_option linter.all false
/-! PM3: the totals that are drawn -/
namespace DL
/-- a hair -/
def Hair (q : Rat) : Prop := Dv (988027000 ^ 4) (988027000 ^ 4) q
def hair0 : Rat := Rat.divInt 1 997 * Rat.divInt 1 1000 * Rat.divInt 1 991
def hairs : Nat → Rat
  | 0 => hair0
  | j + 1 => hairs j * hairs j
end DL

set_option Elab.async false
set_option linter.all false
set_option maxRecDepth 100000
set_option maxHeartbeats 4000000
/-! PQ1: small parts, shares, totals drawn -/
namespace DL
open PySem PySem.Spec PyProof.Rows L2
def SmQ (q : Rat) : Prop := ∃ (n : Int) (d : Nat), q = Rat.divInt n d ∧ 1 ≤ d ∧ d ≤ 1000 ∧ n.natAbs ≤ 1000000
def TSmallQ : Nat → List PyData → (PyData → Nat → Prop) → Prop := fun B ds Φ => ds = [] ∧ B + 3200 ≤ 2 ^ 40 ∧ ∀ q, SmQ q → Φ (qp q) (B + 3200)
def TShareQ : Nat → List PyData → (PyData → Nat → Prop) → Prop := fun B ds Φ => ds = [] ∧ B + 1600 ≤ 2 ^ 40 ∧ ∀ R q, ShOk R q → Φ (qp q) (B + 1600)
def TTotals : Nat → List PyData → (PyData → Nat → Prop) → Prop := fun B ds Φ => ∃ most : Int, ds = [.int most] ∧ 1 ≤ most ∧ most ≤ 120 ∧ B + 1000000 ≤ 2 ^ 40 ∧ ∀ (ts : List Rat) (B' : Nat), (ts.length : Int) ≤ 120 → (∀ t ∈ ts, Tot t) → B' ≤ B + 1000000 → Φ (.list (ts.map qp)) B'
def negA (q : Rat) : Rat := if 0 ≤ q.num then -q else q
theorem fgt_set {ρ : Rho} {i : Nat} : Fgt ρ (ρ.set i .unk) := ⟨List.length_set, fun j s h => by
  rcases get_set h with ⟨_, e⟩ | ⟨_, e⟩
  · exact .inl e
  · exact .inr e⟩
theorem fgt_wipe {ρ : Rho} : ∀ vs : List Nat, Fgt ρ (wipeR ρ vs)
  | [] => Fgt.refl
  | v :: vs => by
    obtain ⟨l, f⟩ := fgt_wipe (ρ := ρ) vs
    obtain ⟨l2, f2⟩ := fgt_set (ρ := wipeR ρ vs) (i := v)
    refine ⟨l2.trans l, fun i s h => ?_⟩
    rcases f2 i s h with e | e
    · exact .inl e
    · exact f i s e
theorem ws_wipe {K : PySem.W.Frag} {S : Stt} {ρ : Rho} {ts : TS} {En : DE} (vs : List Nat) (h : WS K S ts (wipeR ρ vs) En) : WS K S ts ρ En := ws_fgt (fgt_wipe vs) h
local macro_rules | `(tactic| walk_at "dl") => `(tactic| repeat' (first
  | with_reducible refine wd_isTy ?_ | with_reducible refine wd_isi ?_ | ((with_reducible show WD _ _ (tOp (rIxL _) (tVar _) _) _ _); refine wd_ix_own rfl ?_) | with_reducible refine wd_op ?_ | ((with_reducible show WD _ _ (tCB (rLenX _) (tCons (tVar _) tNil)) _ _); refine wd_len_scr rfl ?_) | ((with_reducible show WD _ _ (tCB (rLenX _) (tCons (tVar _) tNil)) _ _); refine wd_len_own rfl ?_) | with_reducible refine wd_cb ?_ | with_reducible refine wd_un ?_ | with_reducible refine wa_cons ?_ | with_reducible refine wa_nil ?_ | ((with_reducible show WD _ _ (tVar _) _ _); refine wd_var rfl ?_) | with_reducible refine wd_int ?_ | with_reducible refine wd_bl ?_ | with_reducible refine wd_str ?_ | with_reducible refine wd_non ?_
  | with_reducible refine do_nesS ?_ | with_reducible refine dc_intB ?_ | with_reducible refine do_add ?_ | with_reducible refine do_sub ?_ | ((with_reducible refine do_mod ?_ ?_); decide) | with_reducible refine do_mod ?_ ?_ | with_reducible refine do_mul ?_ ?_ | ((with_reducible refine do_div ?_ ?_); exact ⟨by decide, by decide⟩) | with_reducible refine do_div ?_ ?_ | ((with_reducible refine do_pow ?_ ?_); exact ⟨by decide, by decide, by decide⟩) | with_reducible refine do_pow ?_ ?_
  | with_reducible refine do_lt ?_ | with_reducible refine do_le ?_ | with_reducible refine do_gt ?_ | with_reducible refine do_ge ?_ | with_reducible refine du_neg ?_
  | with_reducible refine do_eqi ?_ | with_reducible refine do_nei ?_ | with_reducible refine do_eqs ?_ | with_reducible refine do_nes ?_ | with_reducible refine dc_abs ?_ | with_reducible refine dc_min ?_ | with_reducible refine dc_max ?_ | with_reducible refine dc_lenL ?_ | with_reducible refine dc_lenT ?_ | with_reducible refine dc_lenR ?_ | with_reducible refine dc_listT ?_ | with_reducible refine dc_listL ?_ | with_reducible refine dc_tupL ?_ | with_reducible refine dc_gcd ?_
  | ((with_reducible show DO _ (rIxT _) _ _ _); refine do_ixT rfl ?_) | ((with_reducible show DO _ (rIxL _) _ _ _); refine do_ixL rfl ?_) | ((with_reducible refine do_catL ?_ ?_); exact Nat.le_of_ble_eq_true rfl) | with_reducible refine do_catL ?_ ?_ | ((with_reducible show And (List.length _ ≤ sizeLine) _); refine ⟨Nat.le_of_ble_eq_true rfl, ?_⟩)
  | with_reducible refine wd_dnew ?_ | with_reducible refine wd_call0 ?_ | with_reducible refine wd_slA ?_ | with_reducible refine wd_slL ?_ | with_reducible refine wd_revT ?_ | with_reducible refine do_catA ?_ ?_ | with_reducible refine wo_part ?_ | with_reducible refine wo_none ?_ | with_reducible refine do_eqQ ?_ | with_reducible refine do_neQ ?_ | with_reducible refine wi_enumT ?_ | with_reducible refine wi_enumD ?_ | with_reducible refine tAdQ (by omega) (by omega) ?_ | with_reducible refine tSbQ (by omega) (by omega) ?_ | with_reducible refine tMlQ (by omega) (by omega) ?_ | with_reducible refine tDvQ (by assumption) (by omega) (by omega) ?_ | with_reducible refine tLtQ (by omega) (by omega) ?_ | with_reducible refine dc_str ?_ ?_ | with_reducible refine wd_tup ?_ | with_reducible refine wd_lst ?_ | with_reducible refine wt_test ?_ | with_reducible refine wt_B ?_ | with_reducible refine wt_not ?_ | with_reducible refine wt_and ?_ | with_reducible refine wt_or ?_ | with_reducible refine wd_ifE ?_ | with_reducible refine wd_andV ?_ | with_reducible refine wd_orV ?_ | with_reducible refine wd_notV ?_
  | with_reducible refine ws_seq ?_ | with_reducible refine ws_next ?_ | with_reducible refine ws_asg ?_ | with_reducible refine ws_ret ?_ | with_reducible refine ws_retN ?_ | with_reducible refine ws_if ?_ | with_reducible refine ws_par ?_ | with_reducible refine ws_unp2 ?_
  | with_reducible refine if_t ?_ | with_reducible refine if_f ?_ | with_reducible refine if_nf ?_ | with_reducible refine if_nt ?_
  | ((with_reducible show Exists _); first | refine ⟨_, kitInt _, ?_⟩ | refine ⟨_, kitBool _, ?_⟩ | refine ⟨_, kitTup _, ?_⟩ | refine ⟨_, kitList _, ?_⟩ | refine ⟨_, rfl, ?_⟩ | refine ⟨_, _, rfl, ?_⟩ | fail) | fail))
def t_smallq (K : PySem.W.Frag) : TS :=
  (tSeq (tAsg (tCall (spS K FSto TDr) [] E0 (tCons (tVar 0) (tCons (tC (.int 6)) tNil))) (gName 1))
    (tSeq (tAsg (tOp (rIxL K) (tLst (tCons (tC (.int 1)) (tCons (tC (.int 1)) (tCons (tC (.int 2)) (tCons (tC (.int 3)) (tCons (tC (.int 4)) (tCons (tC (.int 12)) (tCons (tC (.int 97)) (tCons (tC (.int 101)) (tCons (tC (.int 997)) (tCons (tC (.int 1000)) (tCons (tOp rAddI (tC (.int 1)) (tCall (spS K FSto TDr) [] E0 (tCons (tVar 0) (tCons (tC (.int 1000)) tNil)))) tNil)))))))))))) (tCall (spS K FSto TDr) [] E0 (tCons (tVar 0) (tCons (tC (.int 11)) tNil)))) (gName 2))
    (tSeq (tAsg (tLst (tCons (tC (.int 0)) (tCons (tC (.int 1)) (tCons (tOp rAddI (tC (.int 1)) (tCall (spS K FSto TDr) [] E0 (tCons (tVar 0) (tCons (tC (.int 9)) tNil)))) (tCons (tCall (spS K FSto TDr) [] E0 (tCons (tVar 0) (tCons (tC (.int 1000)) tNil))) (tCons (tOp rSubI (tOp rPowI (tC (.int 10)) (tC (.int 6))) (tCall (spS K FSto TDr) [] E0 (tCons (tVar 0) (tCons (tC (.int 3)) tNil)))) tNil)))))) (gName 3))
    (tSeq (tAsg (tOp (rIxL K) (tOp rCatL (tVar 3) (tLst (tCons (tCall (spS K FSto TDr) [] E0 (tCons (tVar 0) (tCons (tOp rPowI (tC (.int 10)) (tC (.int 6))) tNil))) tNil))) (tVar 1)) (gName 3))
    (tRet (tCall (spP K TLow) [] E0 (tCons (tOp rMulI (tVar 3) (tOp (rIxL K) (tLst (tCons (tC (.int 1)) (tCons (tUn rNegI (tC (.int 1))) tNil))) (tCall (spS K FSto TDr) [] E0 (tCons (tVar 0) (tCons (tC (.int 2)) tNil))))) (tCons (tVar 2) tNil))))))))
def t_shareq (K : PySem.W.Frag) : TS :=
  (tSeq (tAsg (tOp (rIxL K) (tLst (tCons (tC (.int 1)) (tCons (tC (.int 2)) (tCons (tC (.int 3)) (tCons (tC (.int 10)) (tCons (tC (.int 97)) (tCons (tC (.int 997)) (tCons (tOp rAddI (tC (.int 1)) (tCall (spS K FSto TDr) [] E0 (tCons (tVar 0) (tCons (tC (.int 1000)) tNil)))) tNil)))))))) (tCall (spS K FSto TDr) [] E0 (tCons (tVar 0) (tCons (tC (.int 7)) tNil)))) (gName 1))
    (tRet (tCall (spP K TLow) [] E0 (tCons (tOp rSubI (tVar 1) (tOp rMulI (tCall (spS K FSto TDr) [] E0 (tCons (tVar 0) (tCons (tVar 1) tNil))) (tCall (spS K FSto TDr) [] E0 (tCons (tVar 0) (tCons (tC (.int 2)) tNil))))) (tCons (tVar 1) tNil)))))
def t_totals (K : PySem.W.Frag) : TS :=
  (tSeq (tAsg (tCall (spS K FSto TDr) [] E0 (tCons (tVar 0) (tCons (tC (.int 6)) tNil))) (gName 2))
    (tSeq (tAsg (tOp (rIxL K) (tLst (tCons (tC (.int 3)) (tCons (tC (.int 8)) (tCons (tVar 1) tNil)))) (tCall (spS K FSto TDr) [] E0 (tCons (tVar 0) (tCons (tC (.int 3)) tNil)))) (gName 3))
    (tSeq (tAsg (tCall (spP K TMlQ) [] E0 (tCons (tCall (spP K TMlQ) [] E0 (tCons (tTup (tCons (tC (.int 1)) (tCons (tC (.int 997)) tNil))) (tCons (tTup (tCons (tC (.int 1)) (tCons (tC (.int 1000)) tNil))) tNil))) (tCons (tTup (tCons (tC (.int 1)) (tCons (tC (.int 991)) tNil))) tNil))) (gName 4))
    (tSeq (tFor (iRng1 (tCons (tCall (spS K FSto TDr) [] E0 (tCons (tVar 0) (tCons (tC (.int 3)) tNil))) tNil)) (gName 5) (tAsg (tCall (spP K TMlQ) [] E0 (tCons (tVar 4) (tCons (tVar 4) tNil))) (gName 4)))
    (tSeq (tAsg (tOp (rIxL K) (tLst (tCons (tC (.int 1)) (tCons (tC (.int 1)) (tCons (tC (.int 2)) (tCons (tC (.int 3)) (tCons (tC (.int 12)) (tCons (tC (.int 97)) (tCons (tC (.int 1000)) tNil)))))))) (tCall (spS K FSto TDr) [] E0 (tCons (tVar 0) (tCons (tC (.int 7)) tNil)))) (gName 6))
    (tSeq (tAsg (tLst tNil) (gName 7))
    (tSeq (tAsg (tOp rSubI (tCall (spS K FSto TDr) [] E0 (tCons (tVar 0) (tCons (tC (.int 2000)) tNil))) (tC (.int 1000))) (gName 8))
    (tSeq (tFor (iRng1 (tCons (tCall (spS K FSto TDr) [] E0 (tCons (tVar 0) (tCons (tOp rAddI (tVar 3) (tC (.int 1))) tNil))) tNil)) (gName 9) (tSeq (tAsg (tCall (spS K FSto TDr) [] E0 (tCons (tVar 0) (tCons (tOp (rIxL K) (tLst (tCons (tC (.int 3)) (tCons (tC (.int 50)) (tCons (tC (.int 20000)) tNil)))) (tCall (spS K FSto TDr) [] E0 (tCons (tVar 0) (tCons (tC (.int 3)) tNil)))) tNil))) (gName 10))
    (tSeq (tAsg (tOp rAddI (tVar 8) (tOp (rIxL K) (tLst (tCons (tOp rSubI (tVar 10) (tC (.int 10))) (tCons (tVar 10) (tCons (tOp rSubI (tC (.int 0)) (tVar 10)) (tCons (tOp rMulI (tVar 10) (tOp rSubI (tC (.int 1)) (tOp rMulI (tC (.int 2)) (tOp rModI (tVar 9) (tC (.int 2)))))) (tCons (tC (.int 0)) (tCons (tVar 10) tNil))))))) (tVar 2))) (gName 8))
    (tSeq (tAsg (tCB rMaxX (tCons (tUn rNegI (tOp rPowI (tC (.int 10)) (tC (.int 6)))) (tCons (tCB rMinX (tCons (tOp rPowI (tC (.int 10)) (tC (.int 6))) (tCons (tVar 8) tNil))) tNil))) (gName 8))
    (tSeq (tAsg (tCall (spP K TLow) [] E0 (tCons (tVar 8) (tCons (tVar 6) tNil))) (gName 11))
    (tSeq (tIfS (tAnd (tTest (tOp rEq (tVar 2) (tC (.int 0)))) (tTest (tOp rEq (tCall (spS K FSto TDr) [] E0 (tCons (tVar 0) (tCons (tC (.int 3)) tNil))) (tC (.int 0))))) (tAsg (tCall (spS K FSto TSmallQ) [] E0 (tCons (tVar 0) tNil)) (gName 11)) tNext)
    (tSeq (tIfS (tTest (tOp rEq (tVar 2) (tC (.int 5)))) (tAsg (tTup (tCons (tOp rSubI (tC (.int 0)) (tCB rAbsX (tCons (tOp (rIxT K) (tVar 11) (tC (.int 0))) tNil))) (tCons (tOp (rIxT K) (tVar 11) (tC (.int 1))) tNil))) (gName 11)) tNext)
    (tSeq (tIfS (tTest (tOp rEq (tCall (spS K FSto TDr) [] E0 (tCons (tVar 0) (tCons (tC (.int 4)) tNil))) (tC (.int 0)))) (tAsg (tCall (spP K TAdQ) [] E0 (tCons (tVar 11) (tCons (tCall (spP K TMlQ) [] E0 (tCons (tVar 4) (tCons (tTup (tCons (tOp rSubI (tCall (spS K FSto TDr) [] E0 (tCons (tVar 0) (tCons (tC (.int 9)) tNil))) (tC (.int 4))) (tCons (tC (.int 1)) tNil))) tNil))) tNil))) (gName 11)) tNext)
    (tDrop (tBM K "list" rAppend (tVar 7) (tCons (tVar 11) tNil)))))))))))
    (tRet (tVar 7))))))))))
def t_tot3 (K : PySem.W.Frag) : TS :=
  (tSeq (tIfS (tTest (tOp rEq (tCall (spS K FSto TDr) [] E0 (tCons (tVar 0) (tCons (tC (.int 4)) tNil))) (tC (.int 0)))) (tAsg (tCall (spP K TAdQ) [] E0 (tCons (tVar 11) (tCons (tCall (spP K TMlQ) [] E0 (tCons (tVar 4) (tCons (tTup (tCons (tOp rSubI (tCall (spS K FSto TDr) [] E0 (tCons (tVar 0) (tCons (tC (.int 9)) tNil))) (tC (.int 4))) (tCons (tC (.int 1)) tNil))) tNil))) tNil))) (gName 11)) tNext)
    (tDrop (tBM K "list" rAppend (tVar 7) (tCons (tVar 11) tNil))))
def t_tot2 (K : PySem.W.Frag) : TS :=
  (tSeq (tIfS (tTest (tOp rEq (tVar 2) (tC (.int 5)))) (tAsg (tTup (tCons (tOp rSubI (tC (.int 0)) (tCB rAbsX (tCons (tOp (rIxT K) (tVar 11) (tC (.int 0))) tNil))) (tCons (tOp (rIxT K) (tVar 11) (tC (.int 1))) tNil))) (gName 11)) tNext)
    (tSeq (tIfS (tTest (tOp rEq (tCall (spS K FSto TDr) [] E0 (tCons (tVar 0) (tCons (tC (.int 4)) tNil))) (tC (.int 0)))) (tAsg (tCall (spP K TAdQ) [] E0 (tCons (tVar 11) (tCons (tCall (spP K TMlQ) [] E0 (tCons (tVar 4) (tCons (tTup (tCons (tOp rSubI (tCall (spS K FSto TDr) [] E0 (tCons (tVar 0) (tCons (tC (.int 9)) tNil))) (tC (.int 4))) (tCons (tC (.int 1)) tNil))) tNil))) tNil))) (gName 11)) tNext)
    (tDrop (tBM K "list" rAppend (tVar 7) (tCons (tVar 11) tNil)))))
def t_tot1 (K : PySem.W.Frag) : TS :=
  (tSeq (tIfS (tAnd (tTest (tOp rEq (tVar 2) (tC (.int 0)))) (tTest (tOp rEq (tCall (spS K FSto TDr) [] E0 (tCons (tVar 0) (tCons (tC (.int 3)) tNil))) (tC (.int 0))))) (tAsg (tCall (spS K FSto TSmallQ) [] E0 (tCons (tVar 0) tNil)) (gName 11)) tNext)
    (tSeq (tIfS (tTest (tOp rEq (tVar 2) (tC (.int 5)))) (tAsg (tTup (tCons (tOp rSubI (tC (.int 0)) (tCB rAbsX (tCons (tOp (rIxT K) (tVar 11) (tC (.int 0))) tNil))) (tCons (tOp (rIxT K) (tVar 11) (tC (.int 1))) tNil))) (gName 11)) tNext)
    (tSeq (tIfS (tTest (tOp rEq (tCall (spS K FSto TDr) [] E0 (tCons (tVar 0) (tCons (tC (.int 4)) tNil))) (tC (.int 0)))) (tAsg (tCall (spP K TAdQ) [] E0 (tCons (tVar 11) (tCons (tCall (spP K TMlQ) [] E0 (tCons (tVar 4) (tCons (tTup (tCons (tOp rSubI (tCall (spS K FSto TDr) [] E0 (tCons (tVar 0) (tCons (tC (.int 9)) tNil))) (tC (.int 4))) (tCons (tC (.int 1)) tNil))) tNil))) tNil))) (gName 11)) tNext)
    (tDrop (tBM K "list" rAppend (tVar 7) (tCons (tVar 11) tNil))))))
section
variable {K : PySem.W.Frag} {S : Stt}
end
end DL

set_option Elab.async false
set_option linter.all false
set_option maxRecDepth 100000
set_option maxHeartbeats 4000000
/-! PQ2: payments -/
namespace DL
open PySem PySem.Spec PyProof.Rows L2
def p3D (x : P3) : PyData := .tuple [qp x.1, qp x.2.1, qp x.2.2]
/-- paid in whole pence -/
def w3D (x : P3) (paid : Rat) : PyData := .tuple [.int (x.2.1.floor - paid.floor), .int x.2.1.floor, qp x.2.2]
def wRwF (sh : Rat) : P3 → List Rat → List PyData
  | _, [] => []
  | s, t :: r => w3D (prow sh s t) s.2.1 :: wRwF sh (pstep sh s t) r
def wRw (sh : Rat) (ts : List Rat) : List PyData := wRwF sh (0, 0, 0) ts
def payD (w : Bool) (sh : Rat) (ts : List Rat) : List PyData := if w then wRw sh ts else (pRw sh ts).map p3D
def TRows : List PyData → (PyData → Prop) → Prop := fun ds Φ => ∃ (ts : List Rat) (sh : Rat) (R : Nat), ds = [.list (ts.map qp), qp sh] ∧ ShOk R sh ∧ ts.length ≤ 130 ∧ (∀ t ∈ ts, Tot t) ∧ Φ (.tuple ((pRw sh ts).map p3D))
def TLeastQ : List PyData → (PyData → Prop) → Prop := fun ds Φ => ∃ (p q : Rat), ds = [.tuple [qp p, qp q], .none] ∧ sz p ≤ 3800 ∧ sz q ≤ 3800 ∧ Φ (qp (if q < p then q else p))
def TFloorQ : List PyData → (PyData → Prop) → Prop := fun ds Φ => ∃ (p : Rat), ds = [qp p] ∧ sz p ≤ 3800 ∧ Φ (.int p.floor)
def TKept : List PyData → (PyData → Prop) → Prop := fun ds Φ => ∃ (n d sh : Rat), ds = [qp n, qp d, qp sh] ∧ sz sh ≤ 3800 ∧ sz n ≤ 3800 ∧ sz d ≤ 3800 ∧ sz (sh * n) ≤ 3800 ∧ Φ (qp (keptR sh n d))
def TPays : List PyData → (PyData → Prop) → Prop := fun ds Φ => ∃ (b w : Bool) (ts : List Rat) (sh : Rat) (R : Nat), ds = [rowD b (ts.map qp), qp sh, .bool w] ∧ ShOk R sh ∧ ts.length ≤ 130 ∧ (∀ t ∈ ts, Tot t) ∧ Φ (.tuple (payD w sh ts))
local macro_rules | `(tactic| walk_at "dl") => `(tactic| repeat' (first
  | with_reducible refine wd_isTy ?_ | with_reducible refine wd_isi ?_ | ((with_reducible show WD _ _ (tOp (rIxL _) (tVar _) _) _ _); refine wd_ix_own rfl ?_) | with_reducible refine wd_op ?_ | ((with_reducible show WD _ _ (tCB (rLenX _) (tCons (tVar _) tNil)) _ _); refine wd_len_scr rfl ?_) | ((with_reducible show WD _ _ (tCB (rLenX _) (tCons (tVar _) tNil)) _ _); refine wd_len_own rfl ?_) | with_reducible refine wd_cb ?_ | with_reducible refine wd_un ?_ | with_reducible refine wa_cons ?_ | with_reducible refine wa_nil ?_ | ((with_reducible show WD _ _ (tVar _) _ _); refine wd_var rfl ?_) | with_reducible refine wd_int ?_ | with_reducible refine wd_bl ?_ | with_reducible refine wd_str ?_ | with_reducible refine wd_non ?_
  | with_reducible refine do_nesS ?_ | with_reducible refine dc_intB ?_ | with_reducible refine do_add ?_ | with_reducible refine do_sub ?_ | ((with_reducible refine do_mod ?_ ?_); decide) | with_reducible refine do_mod ?_ ?_ | with_reducible refine do_mul ?_ ?_ | ((with_reducible refine do_div ?_ ?_); exact ⟨by decide, by decide⟩) | with_reducible refine do_div ?_ ?_ | ((with_reducible refine do_pow ?_ ?_); exact ⟨by decide, by decide, by decide⟩) | with_reducible refine do_pow ?_ ?_
  | with_reducible refine do_lt ?_ | with_reducible refine do_le ?_ | with_reducible refine do_gt ?_ | with_reducible refine do_ge ?_ | with_reducible refine du_neg ?_
  | with_reducible refine do_eqi ?_ | with_reducible refine do_nei ?_ | with_reducible refine do_eqs ?_ | with_reducible refine do_nes ?_ | with_reducible refine dc_abs ?_ | with_reducible refine dc_min ?_ | with_reducible refine dc_max ?_ | with_reducible refine dc_lenL ?_ | with_reducible refine dc_lenT ?_ | with_reducible refine dc_lenR ?_ | with_reducible refine dc_listT ?_ | with_reducible refine dc_listL ?_ | with_reducible refine dc_tupL ?_ | with_reducible refine dc_gcd ?_
  | ((with_reducible show DO _ (rIxT _) _ _ _); refine do_ixT rfl ?_) | ((with_reducible show DO _ (rIxL _) _ _ _); refine do_ixL rfl ?_) | ((with_reducible refine do_catL ?_ ?_); exact Nat.le_of_ble_eq_true rfl) | with_reducible refine do_catL ?_ ?_ | ((with_reducible show And (List.length _ ≤ sizeLine) _); refine ⟨Nat.le_of_ble_eq_true rfl, ?_⟩)
  | with_reducible refine wd_dnew ?_ | with_reducible refine wd_call0 ?_ | with_reducible refine wd_slA ?_ | with_reducible refine wd_slL ?_ | with_reducible refine wd_revT ?_ | with_reducible refine do_catA ?_ ?_ | with_reducible refine wo_part ?_ | with_reducible refine wo_none ?_ | with_reducible refine do_eqQ ?_ | with_reducible refine do_neQ ?_ | with_reducible refine wi_enumT ?_ | with_reducible refine wi_enumD ?_ | with_reducible refine tAdQ (by omega) (by omega) ?_ | with_reducible refine tSbQ (by omega) (by omega) ?_ | with_reducible refine tMlQ (by omega) (by omega) ?_ | with_reducible refine tDvQ (by assumption) (by omega) (by omega) ?_ | with_reducible refine tLtQ (by omega) (by omega) ?_ | with_reducible refine dc_str ?_ ?_ | with_reducible refine wd_tup ?_ | with_reducible refine wd_lst ?_ | with_reducible refine wt_test ?_ | with_reducible refine wt_B ?_ | with_reducible refine wt_not ?_ | with_reducible refine wt_and ?_ | with_reducible refine wt_or ?_ | with_reducible refine wd_ifE ?_ | with_reducible refine wd_andV ?_ | with_reducible refine wd_orV ?_ | with_reducible refine wd_notV ?_
  | with_reducible refine ws_seq ?_ | with_reducible refine ws_next ?_ | with_reducible refine ws_asg ?_ | with_reducible refine ws_ret ?_ | with_reducible refine ws_retN ?_ | with_reducible refine ws_if ?_ | with_reducible refine ws_par ?_ | with_reducible refine ws_unp2 ?_
  | with_reducible refine if_t ?_ | with_reducible refine if_f ?_ | with_reducible refine if_nf ?_ | with_reducible refine if_nt ?_
  | ((with_reducible show Exists _); first | refine ⟨_, kitInt _, ?_⟩ | refine ⟨_, kitBool _, ?_⟩ | refine ⟨_, kitTup _, ?_⟩ | refine ⟨_, kitList _, ?_⟩ | refine ⟨_, rfl, ?_⟩ | refine ⟨_, _, rfl, ?_⟩ | fail) | fail))
def t_rows (K : PySem.W.Frag) : TS :=
  (tSeq (tAsg (tLst tNil) (gName 2))
    (tSeq (tAsg (tTup (tCons (tTup (tCons (tC (.int 0)) (tCons (tC (.int 1)) tNil))) (tCons (tTup (tCons (tC (.int 0)) (tCons (tC (.int 1)) tNil))) (tCons (tTup (tCons (tC (.int 0)) (tCons (tC (.int 1)) tNil))) tNil)))) (gTup K 3 (gCons (gName 3) (gCons (gName 4) (gCons (gName 5) gNil)))))
    (tSeq (tFor (iList K (tVar 0)) (gName 6) (tSeq (tAsg (tCall (spP K TSbQ) [] E0 (tCons (tVar 6) (tCons (tVar 3) tNil))) (gName 7))
    (tSeq (tAsg (tTup (tCons (tC (.int 0)) (tCons (tC (.int 1)) tNil))) (gName 8))
    (tSeq (tIfS (tTest (tOp rLe (tOp (rIxT K) (tVar 7) (tC (.int 0))) (tC (.int 0)))) (tAsg (tCall (spP K TSbQ) [] E0 (tCons (tVar 5) (tCons (tVar 7) tNil))) (gName 5)) (tSeq (tAsg (tCall (spP K TMlQ) [] E0 (tCons (tVar 1) (tCons (tVar 7) tNil))) (gName 9))
    (tSeq (tAsg (tIf (tB (tCall (spP K TLtQ) [] E0 (tCons (tVar 5) (tCons (tVar 9) tNil)))) (tVar 5) (tVar 9)) (gName 9))
    (tSeq (tAsg (tCall (spP K TSbQ) [] E0 (tCons (tVar 7) (tCons (tVar 9) tNil))) (gName 8))
    (tAsg (tCall (spP K TSbQ) [] E0 (tCons (tVar 5) (tCons (tVar 9) tNil))) (gName 5))))))
    (tSeq (tAsg (tCall (spP K TAdQ) [] E0 (tCons (tVar 4) (tCons (tVar 8) tNil))) (gName 4))
    (tSeq (tAsg (tVar 6) (gName 3))
    (tDrop (tBM K "list" rAppend (tVar 2) (tCons (tTup (tCons (tVar 8) (tCons (tVar 4) (tCons (tVar 5) tNil)))) tNil)))))))))
    (tRet (tCB (rTupOf K) (tCons (tVar 2) tNil))))))
def t_rowsT (K : PySem.W.Frag) : TS :=
  (tSeq (tAsg (tCall (spP K TAdQ) [] E0 (tCons (tVar 4) (tCons (tVar 8) tNil))) (gName 4))
    (tSeq (tAsg (tVar 6) (gName 3))
    (tDrop (tBM K "list" rAppend (tVar 2) (tCons (tTup (tCons (tVar 8) (tCons (tVar 4) (tCons (tVar 5) tNil)))) tNil)))))
def t_paysT (K : PySem.W.Frag) : TS :=
  (tIfS (tB (tVar 2)) (tDrop (tBM K "list" rAppend (tVar 3) (tCons (tTup (tCons (tOp rSubI (tCall (spP K TFloorQ) [] E0 (tCons (tVar 5) tNil)) (tCall (spP K TFloorQ) [] E0 (tCons (tVar 11) tNil))) (tCons (tCall (spP K TFloorQ) [] E0 (tCons (tVar 5) tNil)) (tCons (tVar 6) tNil)))) tNil))) (tDrop (tBM K "list" rAppend (tVar 3) (tCons (tTup (tCons (tVar 10) (tCons (tVar 5) (tCons (tVar 6) tNil)))) tNil))))
def t_leastq (K : PySem.W.Frag) : TS :=
  (tSeq (tIfS (tNot (tTru K (tVar 0))) (tRet (tVar 1)) tNext)
    (tSeq (tAsg (tOp (rIxT K) (tVar 0) (tC (.int 0))) (gName 2))
    (tSeq (tFor (iTup K (tVar 0)) (gName 3) (tIfS (tB (tCall (spP K TLtQ) [] E0 (tCons (tVar 3) (tCons (tVar 2) tNil)))) (tAsg (tVar 3) (gName 2)) tNext))
    (tRet (tVar 2)))))
def t_floorq (K : PySem.W.Frag) : TS :=
  (tRet (tOp rDivI (tOp (rIxT K) (tVar 0) (tC (.int 0))) (tOp (rIxT K) (tVar 0) (tC (.int 1)))))
def t_kept (K : PySem.W.Frag) : TS :=
  (tSeq (tIfS (tTest (tOp rLe (tOp (rIxT K) (tVar 0) (tC (.int 0))) (tC (.int 0)))) (tRet (tVar 0)) tNext)
    (tRet (tCall (spP K TLeastQ) [.non] E0 (tCons (tTup (tCons (tVar 1) (tCons (tCall (spP K TMlQ) [] E0 (tCons (tVar 2) (tCons (tVar 0) tNil))) tNil))) tNil))))
def t_pays (K : PySem.W.Frag) (a_ONE a_NOUGHT : Addr) : TS :=
  (tSeq (tIfS (tNot (tAnd (tB (tCall (spP K TPartB) [] E0 (tCons (tVar 1) tNil))) (tAnd (tTest (tOp rGt (tOp (rIxT K) (tVar 1) (tC (.int 0))) (tC (.int 0)))) (tNot (tB (tCall (spP K TLtQ) [] E0 (tCons (tC (.ref a_ONE)) (tCons (tVar 1) tNil)))))))) tNo tNext)
    (tSeq (tAsg (tLst tNil) (gName 3))
    (tSeq (tAsg3 (tC (.ref a_NOUGHT)) (gName 4) (gName 5) (gName 6))
    (tSeq (tFor (iRow K (tVar 0)) (gName 7) (tSeq (tAsg (tCall (spP K TSbQ) [] E0 (tCons (tVar 7) (tCons (tVar 4) tNil))) (gName 8))
    (tSeq (tAsg (tCall (spP K TKept) [] E0 (tCons (tVar 8) (tCons (tVar 6) (tCons (tVar 1) tNil)))) (gName 9))
    (tSeq (tAsg (tCall (spP K TSbQ) [] E0 (tCons (tVar 8) (tCons (tVar 9) tNil))) (gName 10))
    (tSeq (tAsg (tVar 5) (gName 11))
    (tSeq (tPar3 4 5 6 (tCons (tVar 7) (tCons (tCall (spP K TAdQ) [] E0 (tCons (tVar 5) (tCons (tVar 10) tNil))) (tCons (tCall (spP K TSbQ) [] E0 (tCons (tVar 6) (tCons (tVar 9) tNil))) tNil))))
    (tIfS (tB (tVar 2)) (tDrop (tBM K "list" rAppend (tVar 3) (tCons (tTup (tCons (tOp rSubI (tCall (spP K TFloorQ) [] E0 (tCons (tVar 5) tNil)) (tCall (spP K TFloorQ) [] E0 (tCons (tVar 11) tNil))) (tCons (tCall (spP K TFloorQ) [] E0 (tCons (tVar 5) tNil)) (tCons (tVar 6) tNil)))) tNil))) (tDrop (tBM K "list" rAppend (tVar 3) (tCons (tTup (tCons (tVar 10) (tCons (tVar 5) (tCons (tVar 6) tNil)))) tNil))))))))))
    (tRet (tCB (rTupOf K) (tCons (tVar 3) tNil)))))))
section
variable {K : PySem.W.Frag} {S : Stt} {ρ : Rho} {ds : List PyData} {Φ : PyData → Prop}
end
end DL

set_option Elab.async false
set_option linter.all false
set_option maxRecDepth 100000
set_option maxHeartbeats 4000000
/-! DMA: equality of data -/
namespace DL
open PySem PySem.Spec PyProof.Rows L2
structure Sh (n : Nat) (d : PyData) : Prop where
  c : d.canLay0 = true
  d : d.depth ≤ n
theorem canAll_of : ∀ {xs : List PyData}, (∀ x ∈ xs, x.canLay0 = true) → PyData.canLayAll0 xs = true
  | [], _ => rfl
  | x :: xs, h => by
    show (x.canLay0 && PyData.canLayAll0 xs) = true
    rw [h x List.mem_cons_self, canAll_of fun y hy => h y (List.mem_cons_of_mem _ hy)]; rfl
theorem Sh.ok {n : Nat} {d : PyData} (h : Sh n d) (hn : n ≤ 64) : SeqAt.shaped d = true := by
  unfold SeqAt.shaped
  rw [h.c, decide_eq_true (Nat.le_trans h.d hn)]; rfl
theorem Sh.mono {n m : Nat} {d : PyData} (h : Sh n d) (hn : n ≤ m) : Sh m d := ⟨h.c, Nat.le_trans h.d hn⟩
theorem Sh.int {i : Int} : Sh 0 (.int i) := ⟨rfl, Nat.le_refl _⟩
theorem Sh.bool {i : Bool} : Sh 0 (.bool i) := ⟨rfl, Nat.le_refl _⟩
theorem Sh.non : Sh 0 .none := ⟨rfl, Nat.le_refl _⟩
theorem Sh.lst {n : Nat} {xs : List PyData} (h : ∀ x ∈ xs, Sh n x) : Sh (n + 1) (.list xs) := ⟨canAll_of fun x hx => (h x hx).c, by
  show PyData.depthAll xs + 1 ≤ n + 1
  have := depthAll_of xs fun x hx => (h x hx).d
  omega⟩
theorem Sh.tup {n : Nat} {xs : List PyData} (h : ∀ x ∈ xs, Sh n x) : Sh (n + 1) (.tuple xs) := ⟨canAll_of fun x hx => (h x hx).c, by
  show PyData.depthAll xs + 1 ≤ n + 1
  have := depthAll_of xs fun x hx => (h x hx).d
  omega⟩
mutual
theorem eqv_rfl : ∀ (d : PyData), d.canLay0 = true → PyData.eqv d d = true
  | .none, _ => rfl
  | .bool b, _ => by unfold PyData.eqv; simp
  | .int i, _ => by unfold PyData.eqv; simp
  | .str s, _ => by unfold PyData.eqv; simp
  | .list xs, h => by unfold PyData.eqv; exact eqvAll_rfl xs (by rw [PyData.canLay0] at h; exact h)
  | .tuple xs, h => by unfold PyData.eqv; exact eqvAll_rfl xs (by rw [PyData.canLay0] at h; exact h)
  | .dict _, h => by rw [PyData.canLay0] at h; cases h
theorem eqvAll_rfl : ∀ (ds : List PyData), PyData.canLayAll0 ds = true → PyData.eqvAll ds ds = true
  | [], _ => rfl
  | x :: xs, h => by
    rw [PyData.canLayAll0, Bool.and_eq_true] at h
    unfold PyData.eqvAll
    rw [eqv_rfl x h.1, eqvAll_rfl xs h.2]; rfl
end
mutual
/-- no truth within -/
def noB : PyData → Bool
  | .bool _ => false
  | .list xs => noBAll xs
  | .tuple xs => noBAll xs
  | .dict _ => false
  | _ => true
def noBAll : List PyData → Bool
  | [] => true
  | x :: xs => noB x && noBAll xs
end
mutual
theorem eqv_eq : ∀ (d e : PyData), noB d = true → noB e = true → PyData.eqv d e = true → d = e
  | .none, e, _, _, h => by cases e <;> first | rfl | (unfold PyData.eqv at h; cases h)
  | .bool b, e, h1, _, h => by rw [noB] at h1; cases h1
  | .int i, e, _, h2, h => by
    cases e <;> first | (rw [noB] at h2; cases h2; done) | (unfold PyData.eqv at h; first | cases h; done | (rw [beq_iff_eq] at h; rw [h]))
  | .str s, e, _, h2, h => by
    cases e <;> first | (rw [noB] at h2; cases h2; done) | (unfold PyData.eqv at h; first | cases h; done | (rw [beq_iff_eq] at h; rw [h]))
  | .list xs, e, h1, h2, h => by
    cases e <;> first | (unfold PyData.eqv at h; cases h; done) | skip
    rename_i ys
    unfold PyData.eqv at h
    rw [noB] at h1 h2
    rw [eqvAll_eq xs ys h1 h2 h]
  | .tuple xs, e, h1, h2, h => by
    cases e <;> first | (unfold PyData.eqv at h; cases h; done) | skip
    rename_i ys
    unfold PyData.eqv at h
    rw [noB] at h1 h2
    rw [eqvAll_eq xs ys h1 h2 h]
  | .dict _, e, h1, _, h => by rw [noB] at h1; cases h1
theorem eqvAll_eq : ∀ (ds es : List PyData), noBAll ds = true → noBAll es = true → PyData.eqvAll ds es = true → ds = es
  | [], [], _, _, _ => rfl
  | [], y :: ys, _, _, h => by unfold PyData.eqvAll at h; cases h
  | x :: xs, [], _, _, h => by unfold PyData.eqvAll at h; cases h
  | x :: xs, y :: ys, h1, h2, h => by
    unfold PyData.eqvAll at h
    rw [noBAll, Bool.and_eq_true] at h1 h2
    rw [Bool.and_eq_true] at h
    rw [eqv_eq x y h1.1 h2.1 h.1, eqvAll_eq xs ys h1.2 h2.2 h.2]
end
section
variable {K : PySem.W.Frag} {Ψ : PyData → Prop}
end
end DL

set_option Elab.async false
set_option linter.all false
set_option maxRecDepth 100000
set_option maxHeartbeats 4000000
/-! PQ3: law k43 -/
namespace DL
open PySem PySem.Spec PyProof.Rows L2
def gVps : List V → List V → List V := fun us ws => us ++ ws ++ [.bl false]
def gVws : List V → List V → List V := fun us ws => us ++ ws.reverse
def gVt (aO : Addr) : List V → List V → List V := fun us ws => ws ++ [.ref aO, .bl false]
def gDps : List PyData → List PyData → List PyData := fun us ws => us ++ ws ++ [.bool false]
def gDws : List PyData → List PyData → List PyData := fun us ws => us ++ ws.reverse
def gDt : List PyData → List PyData → List PyData := fun us ws => ws ++ [qp 1, .bool false]
/-! ### sizes of rows -/
structure P3S (x : P3) : Prop where
  a : sz x.1 ≤ 1640
  b : sz x.2.1 ≤ 1640
  c : sz x.2.2 ≤ 1640
def rwD (sh : Rat) (ts : List Rat) : PyData := .tuple ((pRw sh ts).map p3D)
def EldOk (e : PyData) : Prop := e = .list [] ∨ ∃ (ts : List Rat) (sh : Rat) (R : Nat), e = .list [.list (ts.map qp), qp sh, rwD sh ts] ∧ ShOk R sh ∧ ts.length ≤ 130 ∧ ∀ t ∈ ts, Tot t
local macro_rules | `(tactic| walk_at "dl") => `(tactic| repeat' (first
  | with_reducible refine wd_isTy ?_ | with_reducible refine wd_isi ?_ | ((with_reducible show WD _ _ (tOp (rIxL _) (tVar _) _) _ _); refine wd_ix_own rfl ?_) | with_reducible refine wd_op ?_ | ((with_reducible show WD _ _ (tCB (rLenX _) (tCons (tVar _) tNil)) _ _); refine wd_len_scr rfl ?_) | ((with_reducible show WD _ _ (tCB (rLenX _) (tCons (tVar _) tNil)) _ _); refine wd_len_own rfl ?_) | with_reducible refine wd_cb ?_ | with_reducible refine wd_un ?_ | with_reducible refine wa_cons ?_ | with_reducible refine wa_nil ?_ | ((with_reducible show WD _ _ (tVar _) _ _); refine wd_var rfl ?_) | with_reducible refine wd_int ?_ | with_reducible refine wd_bl ?_ | with_reducible refine wd_str ?_ | with_reducible refine wd_non ?_
  | with_reducible refine do_nesS ?_ | with_reducible refine dc_intB ?_ | with_reducible refine do_add ?_ | with_reducible refine do_sub ?_ | ((with_reducible refine do_mod ?_ ?_); decide) | with_reducible refine do_mod ?_ ?_ | with_reducible refine do_mul ?_ ?_ | ((with_reducible refine do_div ?_ ?_); exact ⟨by decide, by decide⟩) | with_reducible refine do_div ?_ ?_ | ((with_reducible refine do_pow ?_ ?_); exact ⟨by decide, by decide, by decide⟩) | with_reducible refine do_pow ?_ ?_
  | with_reducible refine do_lt ?_ | with_reducible refine do_le ?_ | with_reducible refine do_gt ?_ | with_reducible refine do_ge ?_ | with_reducible refine du_neg ?_
  | with_reducible refine do_eqi ?_ | with_reducible refine do_nei ?_ | with_reducible refine do_eqs ?_ | with_reducible refine do_nes ?_ | with_reducible refine dc_abs ?_ | with_reducible refine dc_min ?_ | with_reducible refine dc_max ?_ | with_reducible refine dc_lenL ?_ | with_reducible refine dc_lenT ?_ | with_reducible refine dc_lenR ?_ | with_reducible refine dc_listT ?_ | with_reducible refine dc_listL ?_ | with_reducible refine dc_tupL ?_ | with_reducible refine dc_gcd ?_
  | ((with_reducible show DO _ (rIxT _) _ _ _); refine do_ixT rfl ?_) | ((with_reducible show DO _ (rIxL _) _ _ _); refine do_ixL rfl ?_) | ((with_reducible refine do_catL ?_ ?_); exact Nat.le_of_ble_eq_true rfl) | with_reducible refine do_catL ?_ ?_ | ((with_reducible show And (List.length _ ≤ sizeLine) _); refine ⟨Nat.le_of_ble_eq_true rfl, ?_⟩)
  | with_reducible refine wd_dnew ?_ | with_reducible refine wd_call0 ?_ | with_reducible refine wd_slA ?_ | with_reducible refine wd_slL ?_ | with_reducible refine wd_revT ?_ | with_reducible refine do_catA ?_ ?_ | with_reducible refine wo_part ?_ | with_reducible refine wo_none ?_ | with_reducible refine do_eqQ ?_ | with_reducible refine do_neQ ?_ | with_reducible refine wi_enumT ?_ | with_reducible refine wi_enumD ?_ | with_reducible refine tAdQ (by omega) (by omega) ?_ | with_reducible refine tSbQ (by omega) (by omega) ?_ | with_reducible refine tMlQ (by omega) (by omega) ?_ | with_reducible refine tDvQ (by assumption) (by omega) (by omega) ?_ | with_reducible refine tLtQ (by omega) (by omega) ?_ | with_reducible refine dc_str ?_ ?_ | with_reducible refine wd_tup ?_ | with_reducible refine wd_lst ?_ | with_reducible refine wt_test ?_ | with_reducible refine wt_B ?_ | with_reducible refine wt_not ?_ | with_reducible refine wt_and ?_ | with_reducible refine wt_or ?_ | with_reducible refine wd_ifE ?_ | with_reducible refine wd_andV ?_ | with_reducible refine wd_orV ?_ | with_reducible refine wd_notV ?_
  | with_reducible refine ws_seq ?_ | with_reducible refine ws_next ?_ | with_reducible refine ws_asg ?_ | with_reducible refine ws_ret ?_ | with_reducible refine ws_retN ?_ | with_reducible refine ws_if ?_ | with_reducible refine ws_par ?_ | with_reducible refine ws_unp2 ?_
  | with_reducible refine if_t ?_ | with_reducible refine if_f ?_ | with_reducible refine if_nf ?_ | with_reducible refine if_nt ?_
  | ((with_reducible show Exists _); first | refine ⟨_, kitInt _, ?_⟩ | refine ⟨_, kitBool _, ?_⟩ | refine ⟨_, kitTup _, ?_⟩ | refine ⟨_, kitList _, ?_⟩ | refine ⟨_, rfl, ?_⟩ | refine ⟨_, _, rfl, ?_⟩ | fail) | fail))
def t_b43 (K : PySem.W.Frag) (aO : Addr) : TS :=
  (tSeq (tAsg (tCall (spS K FSto TShareQ) [] E0 (tCons (tVar 1) tNil)) (gName 5))
    (tSeq (tAsg (tOp (rIxL K) (tLst (tCons (tVar 4) (tCons (tCB (rTupOf K) (tCons (tVar 4) tNil)) tNil))) (tCall (spS K FSto TDr) [] E0 (tCons (tVar 1) (tCons (tC (.int 2)) tNil)))) (gName 6))
    (tSeq (tAsg (tCall (spP K TRows) [] E0 (tCons (tVar 4) (tCons (tVar 5) tNil))) (gName 7))
    (tSeq (tAsg (tCall (spP K TRows) [] E0 (tCons (tVar 4) (tCons (tTup (tCons (tC (.int 1)) (tCons (tC (.int 1)) tNil))) tNil))) (gName 8))
    (tSeq (tAsg (tLst (tCons (tCallN 1 1 (spP K TPays) gVps E0 (tCons (tVar 6) tNil) (tCons (tVar 5) tNil)) (tCons (tCallN 1 2 (spP K TPays) gVws E0 (tCons (tVar 6) tNil) (tCons (tC (.bl false)) (tCons (tVar 5) tNil))) (tCons (tCall (spP K TPays) [.ref aO, .bl false] E0 (tCons (tVar 6) tNil)) tNil)))) (gName 9))
    (tSeq (tIfS (tOr (tTest (tOp rNe (tCB (rReprZ K) (tCons (tVar 9) tNil)) (tCB (rReprZ K) (tCons (tLst (tCons (tVar 7) (tCons (tVar 7) (tCons (tVar 8) tNil)))) tNil)))) (tTest (tOp (rNeD K) (tCB (rListOf K) (tCons (tVar 6) tNil)) (tVar 4)))) (tRet (tC (.bl false))) tNext)
    (tSeq (tIfS (tTest (tOp rNe (tCB (rReprZ K) (tCons (tLst (tCons (tCallN 1 1 (spP K TPays) gVps E0 (tCons (tVar 4) tNil) (tCons (tTup (tCons (tC (.int 1)) (tCons (tC (.int 1)) tNil))) tNil)) (tCons (tCallN 0 1 (spP K TPays) (gVt aO) E0 tNil (tCons (tVar 6) tNil)) tNil))) tNil)) (tCB (rReprZ K) (tCons (tLst (tCons (tVar 8) (tCons (tVar 8) tNil))) tNil)))) (tRet (tC (.bl false))) tNext)
    (tSeq (tIfS (tAnd (tTest (tOp (rNeD K) (tVar 2) (tLst tNil))) (tTest (tOp (rNeD K) (tCallN 1 1 (spP K TPays) gVps E0 (tCons (tOp (rIxL K) (tVar 2) (tC (.int 0))) tNil) (tCons (tOp (rIxL K) (tVar 2) (tC (.int 1))) tNil)) (tOp (rIxL K) (tVar 2) (tC (.int 2)))))) (tRet (tC (.bl false))) tNext)
    (tAsg (tLst (tCons (tVar 4) (tCons (tVar 5) (tCons (tVar 7) tNil)))) (gName 2))))))))))
def t_law43 (K : PySem.W.Frag) (aO : Addr) : TS :=
  (tSeq (tAsg (tLst tNil) (gName 2))
    (tSeq (tFor (iRng1 (tCons (tOp rAddI (tC (.int 6)) (tCB rMinX (tCons (tC (.int 14)) (tCons (tCB (rLenX K) (tCons (tVar 0) tNil)) tNil)))) tNil)) (gName 3) (tSeq (tAsg (tCall (spS K FSto TTotals) [] E0 (tCons (tVar 1) (tCons (tIf (tTest (tOp rEq (tVar 3) (tC (.int 0)))) (tC (.int 120)) (tC (.int 40))) tNil))) (gName 4))
    (tSeq (tAsg (tCall (spS K FSto TShareQ) [] E0 (tCons (tVar 1) tNil)) (gName 5))
    (tSeq (tAsg (tOp (rIxL K) (tLst (tCons (tVar 4) (tCons (tCB (rTupOf K) (tCons (tVar 4) tNil)) tNil))) (tCall (spS K FSto TDr) [] E0 (tCons (tVar 1) (tCons (tC (.int 2)) tNil)))) (gName 6))
    (tSeq (tAsg (tCall (spP K TRows) [] E0 (tCons (tVar 4) (tCons (tVar 5) tNil))) (gName 7))
    (tSeq (tAsg (tCall (spP K TRows) [] E0 (tCons (tVar 4) (tCons (tTup (tCons (tC (.int 1)) (tCons (tC (.int 1)) tNil))) tNil))) (gName 8))
    (tSeq (tAsg (tLst (tCons (tCallN 1 1 (spP K TPays) gVps E0 (tCons (tVar 6) tNil) (tCons (tVar 5) tNil)) (tCons (tCallN 1 2 (spP K TPays) gVws E0 (tCons (tVar 6) tNil) (tCons (tC (.bl false)) (tCons (tVar 5) tNil))) (tCons (tCall (spP K TPays) [.ref aO, .bl false] E0 (tCons (tVar 6) tNil)) tNil)))) (gName 9))
    (tSeq (tIfS (tOr (tTest (tOp rNe (tCB (rReprZ K) (tCons (tVar 9) tNil)) (tCB (rReprZ K) (tCons (tLst (tCons (tVar 7) (tCons (tVar 7) (tCons (tVar 8) tNil)))) tNil)))) (tTest (tOp (rNeD K) (tCB (rListOf K) (tCons (tVar 6) tNil)) (tVar 4)))) (tRet (tC (.bl false))) tNext)
    (tSeq (tIfS (tTest (tOp rNe (tCB (rReprZ K) (tCons (tLst (tCons (tCallN 1 1 (spP K TPays) gVps E0 (tCons (tVar 4) tNil) (tCons (tTup (tCons (tC (.int 1)) (tCons (tC (.int 1)) tNil))) tNil)) (tCons (tCallN 0 1 (spP K TPays) (gVt aO) E0 tNil (tCons (tVar 6) tNil)) tNil))) tNil)) (tCB (rReprZ K) (tCons (tLst (tCons (tVar 8) (tCons (tVar 8) tNil))) tNil)))) (tRet (tC (.bl false))) tNext)
    (tSeq (tIfS (tAnd (tTest (tOp (rNeD K) (tVar 2) (tLst tNil))) (tTest (tOp (rNeD K) (tCallN 1 1 (spP K TPays) gVps E0 (tCons (tOp (rIxL K) (tVar 2) (tC (.int 0))) tNil) (tCons (tOp (rIxL K) (tVar 2) (tC (.int 1))) tNil)) (tOp (rIxL K) (tVar 2) (tC (.int 2)))))) (tRet (tC (.bl false))) tNext)
    (tAsg (tLst (tCons (tVar 4) (tCons (tVar 5) (tCons (tVar 7) tNil)))) (gName 2))))))))))))
    (tRet (tOp (rEqD K) (tCall (spP K TPays) [.ref aO, .bl false] E0 (tCons (tLst tNil) tNil)) (tTup tNil)))))
section
variable {K : PySem.W.Frag} {S : Stt} {ρ : Rho} {Φ : PyData → Rho → Prop}
end
end DL

set_option Elab.async false
set_option linter.all false
set_option maxRecDepth 100000
set_option maxHeartbeats 4000000
/-! PQ4: law k45 -/
namespace DL
open PySem PySem.Spec PyProof.Rows L2
def gVsw (aO : Addr) : List V → List V → List V := fun us ws => us ++ [.ref aO] ++ ws
def gDsw : List PyData → List PyData → List PyData := fun us ws => us ++ [qp 1] ++ ws
/-- so many pence paid in all behind k totals -/
def pF (sh : Rat) (ts : List Rat) (k : Nat) : Int := (pS sh (ts.take k)).2.1.floor
def wwD (sh : Rat) (ts : List Rat) : PyData := .tuple (wRw sh ts)
def TDue : List PyData → (PyData → Prop) → Prop := fun ds Φ => ∃ (ts : List Rat) (sh : Rat) (R : Nat), ds = [rwD sh ts] ∧ ShOk R sh ∧ ts.length ≤ 130 ∧ (∀ t ∈ ts, Tot t) ∧ Φ (wwD sh ts)
local macro_rules | `(tactic| walk_at "dl") => `(tactic| repeat' (first
  | with_reducible refine wd_isTy ?_ | with_reducible refine wd_isi ?_ | ((with_reducible show WD _ _ (tOp (rIxL _) (tVar _) _) _ _); refine wd_ix_own rfl ?_) | with_reducible refine wd_op ?_ | ((with_reducible show WD _ _ (tCB (rLenX _) (tCons (tVar _) tNil)) _ _); refine wd_len_scr rfl ?_) | ((with_reducible show WD _ _ (tCB (rLenX _) (tCons (tVar _) tNil)) _ _); refine wd_len_own rfl ?_) | with_reducible refine wd_cb ?_ | with_reducible refine wd_un ?_ | with_reducible refine wa_cons ?_ | with_reducible refine wa_nil ?_ | ((with_reducible show WD _ _ (tVar _) _ _); refine wd_var rfl ?_) | with_reducible refine wd_int ?_ | with_reducible refine wd_bl ?_ | with_reducible refine wd_str ?_ | with_reducible refine wd_non ?_
  | with_reducible refine do_nesS ?_ | with_reducible refine dc_intB ?_ | with_reducible refine do_add ?_ | with_reducible refine do_sub ?_ | ((with_reducible refine do_mod ?_ ?_); decide) | with_reducible refine do_mod ?_ ?_ | with_reducible refine do_mul ?_ ?_ | ((with_reducible refine do_div ?_ ?_); exact ⟨by decide, by decide⟩) | with_reducible refine do_div ?_ ?_ | ((with_reducible refine do_pow ?_ ?_); exact ⟨by decide, by decide, by decide⟩) | with_reducible refine do_pow ?_ ?_
  | with_reducible refine do_lt ?_ | with_reducible refine do_le ?_ | with_reducible refine do_gt ?_ | with_reducible refine do_ge ?_ | with_reducible refine du_neg ?_
  | with_reducible refine do_eqi ?_ | with_reducible refine do_nei ?_ | with_reducible refine do_eqs ?_ | with_reducible refine do_nes ?_ | with_reducible refine dc_abs ?_ | with_reducible refine dc_min ?_ | with_reducible refine dc_max ?_ | with_reducible refine dc_lenL ?_ | with_reducible refine dc_lenT ?_ | with_reducible refine dc_lenR ?_ | with_reducible refine dc_listT ?_ | with_reducible refine dc_listL ?_ | with_reducible refine dc_tupL ?_ | with_reducible refine dc_gcd ?_
  | ((with_reducible show DO _ (rIxT _) _ _ _); refine do_ixT rfl ?_) | ((with_reducible show DO _ (rIxL _) _ _ _); refine do_ixL rfl ?_) | ((with_reducible refine do_catL ?_ ?_); exact Nat.le_of_ble_eq_true rfl) | with_reducible refine do_catL ?_ ?_ | ((with_reducible show And (List.length _ ≤ sizeLine) _); refine ⟨Nat.le_of_ble_eq_true rfl, ?_⟩)
  | with_reducible refine wd_dnew ?_ | with_reducible refine wd_call0 ?_ | with_reducible refine wd_slA ?_ | with_reducible refine wd_slL ?_ | with_reducible refine wd_revT ?_ | with_reducible refine do_catA ?_ ?_ | with_reducible refine wo_part ?_ | with_reducible refine wo_none ?_ | with_reducible refine do_eqQ ?_ | with_reducible refine do_neQ ?_ | with_reducible refine wi_enumT ?_ | with_reducible refine wi_enumD ?_ | with_reducible refine tAdQ (by omega) (by omega) ?_ | with_reducible refine tSbQ (by omega) (by omega) ?_ | with_reducible refine tMlQ (by omega) (by omega) ?_ | with_reducible refine tDvQ (by assumption) (by omega) (by omega) ?_ | with_reducible refine tLtQ (by omega) (by omega) ?_ | with_reducible refine dc_str ?_ ?_ | with_reducible refine wd_tup ?_ | with_reducible refine wd_lst ?_ | with_reducible refine wt_test ?_ | with_reducible refine wt_B ?_ | with_reducible refine wt_not ?_ | with_reducible refine wt_and ?_ | with_reducible refine wt_or ?_ | with_reducible refine wd_ifE ?_ | with_reducible refine wd_andV ?_ | with_reducible refine wd_orV ?_ | with_reducible refine wd_notV ?_
  | with_reducible refine ws_seq ?_ | with_reducible refine ws_next ?_ | with_reducible refine ws_asg ?_ | with_reducible refine ws_ret ?_ | with_reducible refine ws_retN ?_ | with_reducible refine ws_if ?_ | with_reducible refine ws_par ?_ | with_reducible refine ws_unp2 ?_
  | with_reducible refine if_t ?_ | with_reducible refine if_f ?_ | with_reducible refine if_nf ?_ | with_reducible refine if_nt ?_
  | ((with_reducible show Exists _); first | refine ⟨_, kitInt _, ?_⟩ | refine ⟨_, kitBool _, ?_⟩ | refine ⟨_, kitTup _, ?_⟩ | refine ⟨_, kitList _, ?_⟩ | refine ⟨_, rfl, ?_⟩ | refine ⟨_, _, rfl, ?_⟩ | fail) | fail))
def t_due (K : PySem.W.Frag) : TS :=
  (tSeq (tAsg (tLst tNil) (gName 1))
    (tSeq (tAsg (tC (.int 0)) (gName 2))
    (tSeq (tFor (iTup K (tVar 0)) (gTup K 3 (gCons (gName 3) (gCons (gName 4) (gCons (gName 5) gNil)))) (tSeq (tAsg (tOp rDivI (tOp (rIxT K) (tVar 4) (tC (.int 0))) (tOp (rIxT K) (tVar 4) (tC (.int 1)))) (gName 6))
    (tSeq (tDrop (tBM K "list" rAppend (tVar 1) (tCons (tTup (tCons (tOp rSubI (tVar 6) (tVar 2)) (tCons (tVar 6) (tCons (tVar 5) tNil)))) tNil)))
    (tAsg (tVar 6) (gName 2)))))
    (tRet (tCB (rTupOf K) (tCons (tVar 1) tNil))))))
def t_b45 (K : PySem.W.Frag) (aO : Addr) : TS :=
  (tSeq (tAsg (tLst (tCons (tCallN 1 2 (spP K TPays) gVapp E0 (tCons (tVar 3) tNil) (tCons (tVar 4) (tCons (tC (.bl true)) tNil))) (tCons (tCallN 1 2 (spP K TPays) gVws E0 (tCons (tVar 3) tNil) (tCons (tC (.bl true)) (tCons (tVar 4) tNil))) tNil))) (gName 7))
    (tSeq (tDrop (tBM K "list" rAppend (tVar 7) (tCons (tCallN 1 1 (spP K TPays) (gVsw aO) E0 (tCons (tVar 3) tNil) (tCons (tC (.bl true)) tNil)) tNil)))
    (tSeq (tIfS (tTest (tOp rNe (tCB (rReprZ K) (tCons (tVar 7) tNil)) (tCB (rReprZ K) (tCons (tLst (tCons (tVar 5) (tCons (tVar 5) (tCons (tVar 6) tNil)))) tNil)))) (tRet (tC (.bl false))) tNext)
    (tSeq (tIfS (tTest (tOp (rNeD K) (tLc (iTup K (tOp (rIxL K) (tVar 7) (tC (.int 0)))) (gName 8) (tTest (tOp rLt (tOp (rIxT K) (tVar 8) (tC (.int 0))) (tC (.int 0)))) (tVar 8) [8]) (tLst tNil))) (tRet (tC (.bl false))) tNext)
    (tIfS (tTest (tOp rNe (tCB (rSum K) (tCons (tLc (iTup K (tOp (rIxL K) (tVar 7) (tC (.int 0)))) (gName 8) tYes (tOp (rIxT K) (tVar 8) (tC (.int 0))) [8]) tNil)) (tOp (rIxL K) (tOp rCatL (tLst (tCons (tC (.int 0)) tNil)) (tLc (iTup K (tOp (rIxL K) (tVar 7) (tC (.int 0)))) (gName 8) tYes (tOp (rIxT K) (tVar 8) (tC (.int 1))) [8])) (tUn rNegI (tC (.int 1)))))) (tRet (tC (.bl false))) tNext)))))
def t_law45 (K : PySem.W.Frag) (aO : Addr) : TS :=
  (tSeq (tFor (iRng1 (tCons (tOp rAddI (tC (.int 6)) (tCB rMinX (tCons (tC (.int 14)) (tCons (tCB (rLenX K) (tCons (tVar 0) tNil)) tNil)))) tNil)) (gName 2) (tSeq (tAsg (tCall (spS K FSto TTotals) [] E0 (tCons (tVar 1) (tCons (tC (.int 40)) tNil))) (gName 3))
    (tSeq (tAsg (tCall (spS K FSto TShareQ) [] E0 (tCons (tVar 1) tNil)) (gName 4))
    (tSeq (tAsg (tCall (spP K TDue) [] E0 (tCons (tCall (spP K TRows) [] E0 (tCons (tVar 3) (tCons (tVar 4) tNil))) tNil)) (gName 5))
    (tSeq (tAsg (tCall (spP K TDue) [] E0 (tCons (tCall (spP K TRows) [] E0 (tCons (tVar 3) (tCons (tTup (tCons (tC (.int 1)) (tCons (tC (.int 1)) tNil))) tNil))) tNil)) (gName 6))
    (tSeq (tAsg (tLst (tCons (tCallN 1 2 (spP K TPays) gVapp E0 (tCons (tVar 3) tNil) (tCons (tVar 4) (tCons (tC (.bl true)) tNil))) (tCons (tCallN 1 2 (spP K TPays) gVws E0 (tCons (tVar 3) tNil) (tCons (tC (.bl true)) (tCons (tVar 4) tNil))) tNil))) (gName 7))
    (tSeq (tDrop (tBM K "list" rAppend (tVar 7) (tCons (tCallN 1 1 (spP K TPays) (gVsw aO) E0 (tCons (tVar 3) tNil) (tCons (tC (.bl true)) tNil)) tNil)))
    (tSeq (tIfS (tTest (tOp rNe (tCB (rReprZ K) (tCons (tVar 7) tNil)) (tCB (rReprZ K) (tCons (tLst (tCons (tVar 5) (tCons (tVar 5) (tCons (tVar 6) tNil)))) tNil)))) (tRet (tC (.bl false))) tNext)
    (tSeq (tIfS (tTest (tOp (rNeD K) (tLc (iTup K (tOp (rIxL K) (tVar 7) (tC (.int 0)))) (gName 8) (tTest (tOp rLt (tOp (rIxT K) (tVar 8) (tC (.int 0))) (tC (.int 0)))) (tVar 8) [8]) (tLst tNil))) (tRet (tC (.bl false))) tNext)
    (tIfS (tTest (tOp rNe (tCB (rSum K) (tCons (tLc (iTup K (tOp (rIxL K) (tVar 7) (tC (.int 0)))) (gName 8) tYes (tOp (rIxT K) (tVar 8) (tC (.int 0))) [8]) tNil)) (tOp (rIxL K) (tOp rCatL (tLst (tCons (tC (.int 0)) tNil)) (tLc (iTup K (tOp (rIxL K) (tVar 7) (tC (.int 0)))) (gName 8) tYes (tOp (rIxT K) (tVar 8) (tC (.int 1))) [8])) (tUn rNegI (tC (.int 1)))))) (tRet (tC (.bl false))) tNext))))))))))
    (tRet (tOp (rEqD K) (tCallN 1 1 (spP K TPays) (gVsw aO) E0 (tCons (tTup tNil) tNil) (tCons (tC (.bl true)) tNil)) (tTup tNil))))
section
variable {K : PySem.W.Frag} {S : Stt} {ρ : Rho}
theorem dc_sum {ds : List PyData} {ns : List Int} {Ψ : PyData → Prop} (e : ds = ns.map PyData.int) (h : Ψ (.int ns.sum)) : DC K (rSum K) [.list ds] Ψ := fun N H _ us hu Q q => by
  subst e
  cases hu with
  | cons d1 d2 =>
    cases d2
    obtain ⟨p, xs, rfl, _, h1, h2⟩ := Dq.lst_inv d1
    have e := h2.of_ints
    subst e
    exact ⟨p, ns, rfl, .inl h1, q _ _ H h (Same.refl H) (Dt.int _)⟩
end
end DL

set_option Elab.async false
set_option linter.all false
set_option maxRecDepth 100000
set_option maxHeartbeats 4000000
/-! PQ8: alike texts are of alike things -/
namespace DL
open PySem
/-- the codes of a text -/
def cl (s : Str) : List Nat := s.cps.toList
theorem cl_app (a b : Str) : cl (a ++ b) = cl a ++ cl b := by
  show (a.cps ++ b.cps).toList = _
  rw [Array.toList_append]; rfl
theorem cl_of (s : String) : cl (Str.ofString s) = s.toList.map Char.toNat := by rw [Str.ofString_eq_toList]; rfl
/-- what ends a thing's text within a row's -/
def Stop (r : List Nat) : Prop := ∀ c, r.head? = some c → c = 44 ∨ c = 41
/-- a figure or the sign -/
def Fig (c : Nat) : Prop := c = 45 ∨ (48 ≤ c ∧ c ≤ 57)
theorem dig_fig {c : Char} (h : c.isDigit = true) : Fig c.toNat := by
  unfold Char.isDigit at h
  rw [Bool.and_eq_true, decide_eq_true_eq, decide_eq_true_eq] at h
  refine .inr ⟨?_, ?_⟩
  · exact h.1
  · exact h.2
theorem int_text (i : Int) : cl (PyData.int i).shown = (Int.repr i).toList.map Char.toNat := cl_of _
theorem int_fig (i : Int) : ∀ c ∈ cl (PyData.int i).shown, Fig c := by
  intro c hc
  rw [int_text] at hc
  obtain ⟨x, hx, rfl⟩ := List.mem_map.mp hc
  rw [Int.repr_eq_if] at hx
  split at hx
  · rw [Nat.toList_repr] at hx
    exact dig_fig (Nat.isDigit_of_mem_toDigits (by decide) (by decide) hx)
  · rw [String.toList_append, Nat.toList_repr] at hx
    rcases List.mem_append.mp hx with h | h
    · have : x = '-' := by simpa using h
      subst this; exact .inl rfl
    · exact dig_fig (Nat.isDigit_of_mem_toDigits (by decide) (by decide) h)
theorem int_ne (i : Int) : cl (PyData.int i).shown ≠ [] := by
  rw [int_text]
  intro h
  have h := List.map_eq_nil_iff.mp h
  rw [Int.repr_eq_if] at h
  split at h
  · rw [Nat.toList_repr] at h
    exact Nat.toDigits_ne_nil h
  · rw [String.toList_append] at h
    exact absurd (List.append_eq_nil_iff.mp h).1 (by decide)
theorem char_inj {a b : List Char} (h : a.map Char.toNat = b.map Char.toNat) : a = b := by
  induction a generalizing b with
  | nil => cases b with | nil => rfl | cons _ _ => cases h
  | cons x r ih =>
    cases b with
    | nil => cases h
    | cons y s =>
      injection h with h1 h2
      rw [ih h2, Char.toNat_inj.mp h1]
theorem int_inj {i j : Int} (h : cl (PyData.int i).shown = cl (PyData.int j).shown) : i = j := by
  rw [int_text, int_text] at h
  exact Int.repr_inj.mp (String.toList_inj.mp (char_inj h))
theorem stop_fig {r : List Nat} (h : Stop r) {c : Nat} (hc : r.head? = some c) : ¬ Fig c := by
  rcases h c hc with rfl | rfl <;> unfold Fig <;> omega
theorem figs_inj : ∀ {a b r s : List Nat}, (∀ c ∈ a, Fig c) → (∀ c ∈ b, Fig c) → Stop r → Stop s → a ++ r = b ++ s → a = b ∧ r = s
  | [], [], r, s, _, _, _, _, h => ⟨rfl, h⟩
  | [], y :: b, r, s, _, hb, hr, _, h => by
    rw [List.nil_append] at h
    exact absurd (hb y List.mem_cons_self) (stop_fig hr (by rw [h]; rfl))
  | x :: a, [], r, s, ha, _, _, hs, h => by
    rw [List.nil_append] at h
    exact absurd (ha x List.mem_cons_self) (stop_fig hs (by rw [← h]; rfl))
  | x :: a, y :: b, r, s, ha, hb, hr, hs, h => by
    injection h with h1 h2
    obtain ⟨g1, g2⟩ := figs_inj (fun c hc => ha c (List.mem_cons_of_mem _ hc)) (fun c hc => hb c (List.mem_cons_of_mem _ hc)) hr hs h2
    exact ⟨by rw [h1, g1], g2⟩
/-- the text of a tuple's items, from the second on -/
def jT : List (List Nat) → List Nat
  | [] => [41]
  | a :: r => 44 :: 32 :: (a ++ jT r)
def tT : List (List Nat) → List Nat
  | [] => [41]
  | [a] => a ++ [44, 41]
  | a :: b :: r => a ++ jT (b :: r)
theorem jT_join : ∀ (ts : List Str) (a : Str), cl (Str.join ", " (a :: ts)) ++ [41] = cl a ++ jT (ts.map cl)
  | [], a => rfl
  | b :: r, a => by
    show cl (a ++ ", " ++ Str.join ", " (b :: r)) ++ [41] = _
    rw [cl_app, cl_app, List.append_assoc, List.append_assoc, jT_join r b]
    rfl
theorem tup_text (xs : List PyData) : cl (PyData.tuple xs).shown = 40 :: tT ((PyData.shownAll xs).map cl) := by
  show cl (tupleText (PyData.shownAll xs)) = _
  generalize PyData.shownAll xs = ts
  unfold tupleText
  rw [cl_app, cl_app]
  match ts with
  | [] => rfl
  | [a] => rfl
  | a :: b :: r =>
    have := jT_join (b :: r) a
    show cl (Str.ofString "(") ++ cl (Str.join ", " (a :: b :: r)) ++ [41] = _
    rw [List.append_assoc, this]; rfl
/-- a thing of these kinds -/
inductive Pp : PyData → Prop
  | non : Pp .none
  | bool {b : Bool} : Pp (.bool b)
  | int {i : Int} : Pp (.int i)
  | str : Pp (.str (Str.ofString ""))
  | tup {ds : List PyData} : (∀ d ∈ ds, Pp d) → Pp (.tuple ds)
  | lst {ds : List PyData} : Pp (.list ds)
  | dic : Pp (.dict [])
theorem lst_head (ds : List PyData) : ∃ r, cl (PyData.list ds).shown = 91 :: r := by
  have key : ∀ (ts : List Str) (k : Nat) (acc : Str), (∃ r, cl acc = 91 :: r) → ∃ r, cl (textFrom k acc ts) = 91 :: r := by
    intro ts
    induction ts with
    | nil => intro k acc h; exact h
    | cons t ts ih =>
      intro k acc ⟨r, h⟩
      refine ih (k + 1) _ ?_
      rw [cl_app, cl_app, h]
      exact ⟨_, rfl⟩
  show ∃ r, cl (textFrom 0 "[" (PyData.shownAll ds) ++ (("]" : String) : Str)) = _
  obtain ⟨r, h⟩ := key (PyData.shownAll ds) 0 "[" ⟨[], rfl⟩
  rw [cl_app, h]
  exact ⟨_, rfl⟩
theorem Pp.head {d : PyData} (h : Pp d) : ∃ c r, cl d.shown = c :: r ∧ c ≠ 41 ∧ c ≠ 44 := by
  cases h with
  | non => exact ⟨78, _, rfl, by decide, by decide⟩
  | @bool b => cases b <;> exact ⟨_, _, rfl, by decide, by decide⟩
  | @int i =>
    have h1 := int_ne i
    have h2 := int_fig i
    cases e : cl (PyData.int i).shown with
    | nil => exact absurd e h1
    | cons c r =>
      have := h2 c (by rw [e]; exact List.mem_cons_self)
      unfold Fig at this
      exact ⟨c, r, rfl, by omega, by omega⟩
  | str => exact ⟨39, [39], by decide +kernel, by decide, by decide⟩
  | tup _ => exact ⟨40, _, tup_text _, by decide, by decide⟩
  | lst => obtain ⟨r, h⟩ := lst_head _; exact ⟨91, r, h, by decide, by decide⟩
  | dic => exact ⟨123, [125], by decide +kernel, by decide, by decide⟩
/-- told apart by its text from all other things -/
def Uq (e : PyData) : Prop := ∀ d r s, Pp d → Stop r → Stop s → cl d.shown ++ r = cl e.shown ++ s → d = e ∧ r = s
theorem Uq.int {i : Int} : Uq (.int i) := by
  intro d r s hd hr hs h
  have hf := int_fig i
  have hn := int_ne i
  have hh : ∀ {c : Nat} {u : List Nat}, cl d.shown = c :: u → Fig c := fun {c u} e => by
    rw [e] at h
    cases e2 : cl (PyData.int i).shown with
    | nil => exact absurd e2 hn
    | cons c2 u2 =>
      rw [e2] at h
      injection h with h1 _
      rw [h1]
      exact hf c2 (by rw [e2]; exact List.mem_cons_self)
  cases hd with
  | non => have := hh (c := 78) rfl; unfold Fig at this; omega
  | @bool b =>
    cases b
    · have := hh (c := 70) rfl; unfold Fig at this; omega
    · have := hh (c := 84) rfl; unfold Fig at this; omega
  | @int j =>
    obtain ⟨g1, g2⟩ := figs_inj (int_fig j) hf hr hs h
    exact ⟨by rw [int_inj g1], g2⟩
  | str => have := hh (c := 39) (u := [39]) (by decide +kernel); unfold Fig at this; omega
  | tup _ => have := hh (tup_text _); unfold Fig at this; omega
  | lst => obtain ⟨u, e⟩ := lst_head _; have := hh e; unfold Fig at this; omega
  | dic => have := hh (c := 123) (u := [125]) (by decide +kernel); unfold Fig at this; omega
end DL

set_option Elab.async false
set_option linter.all false
set_option maxRecDepth 100000
set_option maxHeartbeats 4000000
/-! DMB: a call with places and names that may be refused -/
namespace DL
open PySem PySem.Spec PyProof.Rows L2
def tCallNSk (n m : Nat) (sp : Sp) (gV : List V → List V → List V) (E : L2.St → XK) (t tk : TA) : TE := fun σ H Q => t σ H fun vs H1 => tk σ H1 fun zs H2 => vs.length = n ∧ zs.length = m ∧ sp (gV vs zs) H2 Q (E σ)
end DL

set_option Elab.async false
set_option linter.all false
set_option maxRecDepth 100000
set_option maxHeartbeats 4000000
/-! DMF: a call of a def that a local name holds, which may be refused; promises joined -/
namespace DL
open PySem PySem.Spec PyProof.Rows L2
section
variable {P : Program} {w : World} {K : PySem.W.Frag} {mg : Str → Option Value} {base : Heap} {CX : CXT} {k : Nat} {f : Addr} {fd : FuncData} {ps : List Str} {sp sp1 sp2 : Sp}
/-- what a local name may hold: a def, its defaults filled up -/
structure HeldS (P : Program) (w : World) (K : PySem.W.Frag) (mg : Str → Option Value) (base : Heap) (CX : CXT) (k : Nat) (f : Addr) (sp : Sp) : Prop where
  ex : ∃ (fd : FuncData) (ps : List Str) (ds : List Value) (dvs : List V) (sp0 : Sp), FnOk P w K mg base CX k f fd ps sp0 ∧ PySem.W.keepIn K (.ref f) = true ∧ Binds K fd ps ds ∧ Vals dvs ds ∧ ∀ vs H Q E, sp vs H Q E → sp0 (vs ++ dvs) H Q E
/-- the same, called by places and names -/
structure HeldK (P : Program) (w : World) (K : PySem.W.Frag) (mg : Str → Option Value) (base : Heap) (CX : CXT) (k n : Nat) (ks : List Str) (f : Addr) (sp : Sp) (gV : List V → List V → List V) : Prop where
  ex : ∃ (fd : FuncData) (ps : List Str) (g : List Value → List Value → List Value), FnOk P w K mg base CX k f fd ps sp ∧ PySem.W.keepIn K (.ref f) = true ∧ KBn K fd ps n ks g gV
end
def tCallF (i : Nat) (S : Addr → Sp → Prop) (E : L2.St → XK) (t : TA) : TE := fun σ H Q => ∃ f sp, σ[i]? = some (some (.ref f)) ∧ S f sp ∧ t σ H fun vs H1 => sp vs H1 Q (E σ)
def tCallFk (i n m : Nat) (S : Addr → Sp → Prop) (gV : List V → List V → List V) (E : L2.St → XK) (t tk : TA) : TE := fun σ H Q => ∃ f sp, σ[i]? = some (some (.ref f)) ∧ S f sp ∧ t σ H fun vs H1 => tk σ H1 fun zs H2 => vs.length = n ∧ zs.length = m ∧ sp (gV vs zs) H2 Q (E σ)
section
variable {X : Cx} {CX : CXT} {k i n : Nat} {S : Addr → Sp → Prop} {E : L2.St → XK} {x : Str} {p pos : Pos} {e : Expr} {es : List Expr} {kws : List Keyword} {ks : List Str} {t tk : TA} {gV : List V → List V → List V}
end
section
variable {K : PySem.W.Frag} {S : Stt} {ρ : Rho} {Φ : PyData → Rho → Prop}
end
end DL

set_option Elab.async false
set_option linter.all false
set_option maxRecDepth 100000
set_option maxHeartbeats 4000000
/-! DMG: the empty dict shown; a call of a def that an expression tells; zip of two tuples; tests ahead of a refusal -/
namespace DL
open PySem PySem.Spec PyProof.Rows L2
def rReprY (K : PySem.W.Frag) : List V → Hp → VK → Prop := fun xs H Q => rReprZ K xs H Q ∨ ∃ a, xs = [.ref a] ∧ H a = some (.dK []) ∧ Q (.str (PyData.dict []).shown) H
theorem call_reprY {X : Cx} (hgd : X.A.guards = some []) (hu : X.A.units + 64 < cLine) : CallR X (.builtin "repr") (rReprY X.K) := by
  intro pins s σ H xs us Q I r h
  rcases h with h | ⟨a, rfl, ha, q⟩
  · exact call_reprZ hgd hu pins s σ H xs us Q I r h
  · obtain ⟨u, rfl, ru⟩ := vals1 r
    cases ru
    obtain ⟨_, ns, vs, kv, o, es, ep, ho, ⟨hc, hd0, hs0⟩, hd, _, hp, _⟩ := dk_of I.hok ha
    cases kv
    have he : es.toList = [] := by
      cases e : es.toList with
      | nil => rfl
      | cons x r => rw [e] at hp; cases hp
    have rd : Reads s.heap (.ref a) (.dict []) (a :: [] ++ []) := Reads.dict ho hc hd (by rw [he]; exact ReadsAll.nil) (by rw [he]; exact ReadsAll.nil)
    have dep : X.A.units + ((PyData.dict []).depth + 1) < cLine := by
      have : (PyData.dict []).depth + 1 ≤ 64 := by decide +kernel
      omega
    refine repr_of_reads' rd (by decide +kernel) (fun _ z => ?_) hgd dep (fun b o e => e) (fun h' u tk hk => ?_) (by decide +kernel)
    · have : sysModules = a := by simpa using z
      rw [this] at ns
      simp at ns
    · exact ⟨.str (PyData.dict []).shown, H, I.kept (t' := tk) hk, ⟨u, rfl⟩, q⟩
section
variable {K : PySem.W.Frag} {S : Stt} {ρ : Rho} {Φ : PyData → Rho → Prop} {Ψ : PyData → Prop}
theorem dc_reprY {d : PyData} {L D : Nat} (h : Rs L D d) (h1 : L ≤ sizeLine) (h2 : D ≤ 50) (f : Ψ (.str d.shown)) : DC K (rReprY K) [d] Ψ := fun N H hN us hu Q q => .inl (dc_reprZ h h1 h2 f N H hN us hu Q q)
/-- the empty dict as a datum -/
theorem wd_dnewE (f : Φ (.dict []) ρ) : WD K S tDNewK ρ Φ := fun H0 N0 Z N σ H E Q q p hp => by
  have s := same_new hp (.dK [])
  exact q _ _ ρ _ f (E.ext s) (Keep.of s) (Dt.dct (by rw [wo_in (fresh_av E.trk hp)]; exact upd_same))
/-! ### zip of two tuples -/
theorem src_zipT {a b : Addr} {ds es : List PyData} : Src K (RZ.ItzT K a b) [.dat (.ref a) (.tuple ds), .dat (.ref b) (.tuple es)] (List.zipWith (fun x y => PyData.tuple [x, y]) ds es) := fun S H0 N0 Z N σ H ρ E => by
  obtain ⟨p, xs, e, _, hr, ha⟩ := Dq.tup_inv (E.hid _ List.mem_cons_self)
  obtain ⟨p2, ys, e2, _, hr2, ha2⟩ := Dq.tup_inv (E.hid _ (List.mem_cons_of_mem _ List.mem_cons_self))
  cases e; cases e2
  refine ⟨fun k d hd => ?_, xs, ys, hr, hr2, by rw [ha.len, ha2.len, List.length_zipWith]; omega⟩
  rw [List.getElem?_zipWith] at hd
  cases h1 : ds[k]? with
  | none => rw [h1] at hd; cases hd
  | some d1 =>
    cases h2 : es[k]? with
    | none => rw [h1, h2] at hd; cases hd
    | some d2 =>
      rw [h1, h2] at hd
      cases hd
      obtain ⟨y1, hy1, hyd1⟩ := ha.get h1
      obtain ⟨y2, hy2, hyd2⟩ := ha2.get h2
      refine ⟨⟨xs, ys, y1, y2, hr, hr2, hy1, hy2⟩, fun v H' ⟨T, x, y, e1, e2, e3, e4, e5⟩ => ?_⟩
      subst e1; subst e3
      have ex : x = y1 := Option.some.inj ((e4 xs hr).symm.trans hy1)
      have ey : y = y2 := Option.some.inj ((e5 ys hr2).symm.trans hy2)
      subst ex; subst ey
      have s := same_new e2 (.tup [x, y])
      exact ⟨s, Dq.tup (fresh_av E.trk e2) upd_same (DqAll.cons (hyd1.keep (Keep.of s)) (DqAll.cons (hyd2.keep (Keep.of s)) DqAll.nil))⟩
theorem wi_zipT {ta : TA} {Θ : List PyData → Rho → Prop} (h : WA K S ta ρ fun xs ρ1 => ∃ ds es, xs = [.tuple ds, .tuple es] ∧ Θ (List.zipWith (fun x y => PyData.tuple [x, y]) ds es) ρ1) : WI K S (RZ.iZipA K ta) ρ Θ := fun H0 N0 Z N σ H E R q =>
  h H0 N0 Z N σ H E _ fun vs xs ρ1 H1 ⟨ds, es, e, f⟩ E1 k1 d1 => by
    subst e
    cases d1 with
    | cons d1 d2 =>
      cases d2 with
      | cons d2 d3 =>
        cases d3
        obtain ⟨p, xs, rfl, hw, hr, ha⟩ := Dq.tup_inv d1
        obtain ⟨p2, ys, rfl, hw2, hr2, ha2⟩ := Dq.tup_inv d2
        exact ⟨p, p2, xs, ys, rfl, .inr ⟨hr, hr2, q _ _ _ ρ1 H1 f src_zipT (fun p es h => by simp at h) ((E1.push d2).push d1) k1⟩⟩
end
/-! ### a def that an expression tells, called -/
def tCallE (S : Addr → Sp → Prop) (E : L2.St → XK) (tf : TE) (t : TA) : TE := fun σ H Q => tf σ H fun v H1 => ∃ f sp, v = .ref f ∧ S f sp ∧ t σ H1 fun vs H2 => sp vs H2 Q (E σ)
section
variable {X : Cx} {CX : CXT} {k : Nat} {S : Addr → Sp → Prop} {E : L2.St → XK} {pos : Pos} {fe e : Expr} {es : List Expr} {tf : TE} {t : TA}
end
end DL

set_option Elab.async false
set_option linter.all false
set_option maxRecDepth 100000
set_option maxHeartbeats 1000000
/-! LM6: a knot put in where the line goes straight on -/
namespace DL
def insK (ks : Kn) (k : Nat) (p : Rat × Rat) : Kn := ks.take k ++ [p] ++ ks.drop k
end DL

set_option Elab.async false
set_option linter.all false
set_option maxRecDepth 100000
set_option maxHeartbeats 4000000
/-! LR3: knots put in where a line goes straight on; rows that don't rise -/
namespace DL
open PySem PySem.Spec PyProof.Rows L2
def bx : Nat → Nat
  | 0 => 26
  | t + 1 => 2 * bx t + 3
theorem bx_mono : ∀ {t n : Nat}, t ≤ n → bx t ≤ bx n
  | t, 0, h => by have : t = 0 := by omega
                  subst this; exact Nat.le_refl _
  | t, n + 1, h => by
    by_cases q : t = n + 1
    · subst q; exact Nat.le_refl _
    · have := bx_mono (t := t) (n := n) (by omega)
      show _ ≤ 2 * bx n + 3
      omega
/-- a row of points of the line, at least its knots -/
structure MoreK (t : Nat) (ks : Kn) (s : Rat) (ms : Kn) : Prop where
  ris : Rising ms
  fst : (kn ms 0).1 = 0
  pos : 0 < ms.length
  len : ms.length ≤ ks.length + t
  x : ∀ i, i < ms.length → sz (kn ms i).1 ≤ bx t
  y : ∀ i, i < ms.length → sz (kn ms i).2 ≤ 156 + bx t
  sl : sz s ≤ 26
  on : ∀ x, 0 ≤ x → yAt ms s x = yAt ks s x
theorem MoreK.mono {t n : Nat} {ks ms : Kn} {s : Rat} (h : MoreK t ks s ms) (k : t ≤ n) : MoreK n ks s ms :=
  ⟨h.ris, h.fst, h.pos, by have := h.len; omega, fun i hi => Nat.le_trans (h.x i hi) (bx_mono k), fun i hi => Nat.le_trans (h.y i hi) (by have := bx_mono k; omega), h.sl, h.on⟩
def TMore : Nat → List PyData → (PyData → Nat → Prop) → Prop := fun B ds Φ => ∃ (ks : Kn) (s : Rat), ds = [lnD ks s] ∧ Lq 26 ks s ∧ ks.length ≤ 60 ∧ B ≤ 2 ^ 39 ∧ ∀ ms B', B' ≤ B + 10 → MoreK 4 ks s ms → Φ (.list (ms.map kD)) B'
/-- a row of which no line can be made -/
def BadK (ms : Kn) : Prop := ms.length = 0 ∨ (kn ms 0).1 ≠ 0 ∨ ¬ Rising ms
structure NoK (ks ms : Kn) : Prop where
  bad : BadK ms
  len : ms.length ≤ 2 * ks.length + 2
  x : ∀ i, i < ms.length → sz (kn ms i).1 ≤ 60
  y : ∀ i, i < ms.length → sz (kn ms i).2 ≤ 60
def TNoRow : Nat → List PyData → (PyData → Nat → Prop) → Prop := fun B ds Φ => ∃ (ks : Kn) (s : Rat), ds = [lnD ks s] ∧ Lq 26 ks s ∧ ks.length ≤ 60 ∧ B ≤ 2 ^ 39 ∧ ∀ ms B', B' ≤ B + 10 → NoK ks ms → Φ (.list (ms.map kD)) B'
local macro_rules | `(tactic| walk_at "dl") => `(tactic| repeat' (first
  | with_reducible refine wd_isTy ?_ | with_reducible refine wd_isi ?_ | ((with_reducible show WD _ _ (tOp (rIxL _) (tVar _) _) _ _); refine wd_ix_own rfl ?_) | with_reducible refine wd_op ?_ | ((with_reducible show WD _ _ (tCB (rLenX _) (tCons (tVar _) tNil)) _ _); refine wd_len_scr rfl ?_) | ((with_reducible show WD _ _ (tCB (rLenX _) (tCons (tVar _) tNil)) _ _); refine wd_len_own rfl ?_) | with_reducible refine wd_cb ?_ | with_reducible refine wd_un ?_ | with_reducible refine wa_cons ?_ | with_reducible refine wa_nil ?_ | ((with_reducible show WD _ _ (tVar _) _ _); refine wd_var rfl ?_) | with_reducible refine wd_int ?_ | with_reducible refine wd_bl ?_ | with_reducible refine wd_str ?_ | with_reducible refine wd_non ?_
  | with_reducible refine do_nesS ?_ | with_reducible refine dc_intB ?_ | with_reducible refine do_add ?_ | with_reducible refine do_sub ?_ | ((with_reducible refine do_mod ?_ ?_); decide) | with_reducible refine do_mod ?_ ?_ | with_reducible refine do_mul ?_ ?_ | ((with_reducible refine do_div ?_ ?_); exact ⟨by decide, by decide⟩) | with_reducible refine do_div ?_ ?_ | ((with_reducible refine do_pow ?_ ?_); exact ⟨by decide, by decide, by decide⟩) | with_reducible refine do_pow ?_ ?_
  | with_reducible refine do_lt ?_ | with_reducible refine do_le ?_ | with_reducible refine do_gt ?_ | with_reducible refine do_ge ?_ | with_reducible refine du_neg ?_
  | with_reducible refine do_eqi ?_ | with_reducible refine do_nei ?_ | with_reducible refine do_eqs ?_ | with_reducible refine do_nes ?_ | with_reducible refine dc_abs ?_ | with_reducible refine dc_min ?_ | with_reducible refine dc_max ?_ | with_reducible refine dc_lenL ?_ | with_reducible refine dc_lenT ?_ | with_reducible refine dc_lenR ?_ | with_reducible refine dc_listT ?_ | with_reducible refine dc_listL ?_ | with_reducible refine dc_tupL ?_ | with_reducible refine dc_gcd ?_
  | ((with_reducible show DO _ (rIxT _) _ _ _); refine do_ixT rfl ?_) | ((with_reducible show DO _ (rIxL _) _ _ _); refine do_ixL rfl ?_) | ((with_reducible refine do_catL ?_ ?_); exact Nat.le_of_ble_eq_true rfl) | with_reducible refine do_catL ?_ ?_ | ((with_reducible show And (List.length _ ≤ sizeLine) _); refine ⟨Nat.le_of_ble_eq_true rfl, ?_⟩)
  | with_reducible refine wd_dnew ?_ | with_reducible refine wd_call0 ?_ | with_reducible refine wd_slA ?_ | with_reducible refine wd_slL ?_ | with_reducible refine wd_revT ?_ | with_reducible refine do_catA ?_ ?_ | with_reducible refine wo_part ?_ | with_reducible refine wo_none ?_ | with_reducible refine do_eqQ ?_ | with_reducible refine do_neQ ?_ | with_reducible refine wi_enumT ?_ | with_reducible refine wi_enumD ?_ | with_reducible refine tAdQ (by omega) (by omega) ?_ | with_reducible refine tSbQ (by omega) (by omega) ?_ | with_reducible refine tMlQ (by omega) (by omega) ?_ | with_reducible refine tDvQ (by assumption) (by omega) (by omega) ?_ | with_reducible refine tLtQ (by omega) (by omega) ?_ | with_reducible refine dc_str ?_ ?_ | with_reducible refine wd_tup ?_ | with_reducible refine wd_lst ?_ | with_reducible refine wt_test ?_ | with_reducible refine wt_B ?_ | with_reducible refine wt_not ?_ | with_reducible refine wt_and ?_ | with_reducible refine wt_or ?_ | with_reducible refine wd_ifE ?_ | with_reducible refine wd_andV ?_ | with_reducible refine wd_orV ?_ | with_reducible refine wd_notV ?_
  | with_reducible refine ws_seq ?_ | with_reducible refine ws_next ?_ | with_reducible refine ws_asg ?_ | with_reducible refine ws_ret ?_ | with_reducible refine ws_retN ?_ | with_reducible refine ws_if ?_ | with_reducible refine ws_par ?_ | with_reducible refine ws_unp2 ?_
  | with_reducible refine if_t ?_ | with_reducible refine if_f ?_ | with_reducible refine if_nf ?_ | with_reducible refine if_nt ?_
  | ((with_reducible show Exists _); first | refine ⟨_, kitInt _, ?_⟩ | refine ⟨_, kitBool _, ?_⟩ | refine ⟨_, kitTup _, ?_⟩ | refine ⟨_, kitList _, ?_⟩ | refine ⟨_, rfl, ?_⟩ | refine ⟨_, _, rfl, ?_⟩ | fail) | fail))
def t_more (K : PySem.W.Frag) : TS :=
  (tSeq (tAsg (tCB (rListOf K) (tCons (tOp (rIxT K) (tVar 1) (tC (.int 0))) tNil)) (gName 2))
    (tSeq (tFor (iRng1 (tCons (tOp rAddI (tC (.int 1)) (tCall (spS K FPot TTake) [] E0 (tCons (tVar 0) (tCons (tC (.int 4)) tNil)))) tNil)) (gName 3) (tSeq (tAsg (tCall (spS K FPot TTake) [] E0 (tCons (tVar 0) (tCons (tCB (rLenX K) (tCons (tVar 2) tNil)) tNil))) (gName 4))
    (tSeq (tAsg (tTup (tCons (tC (.int 0)) (tCons (tC (.int 1001)) tNil))) (gName 5))
    (tSeq (tIfS (tTest (tOp rLt (tOp rAddI (tVar 4) (tC (.int 1))) (tCB (rLenX K) (tCons (tVar 2) tNil)))) (tAsg (tCall (spP K TMlQ) [] E0 (tCons (tCall (spP K TAdQ) [] E0 (tCons (tOp (rIxT K) (tOp (rIxL K) (tVar 2) (tVar 4)) (tC (.int 0))) (tCons (tOp (rIxT K) (tOp (rIxL K) (tVar 2) (tOp rAddI (tVar 4) (tC (.int 1)))) (tC (.int 0))) tNil))) (tCons (tTup (tCons (tC (.int 1)) (tCons (tC (.int 2)) tNil))) tNil))) (gName 5)) tNext)
    (tSeq (tIfS (tTest (tOp rGt (tOp (rIxT K) (tVar 5) (tC (.int 1))) (tC (.int 1000)))) (tSeq (tAsg (tOp rSubI (tCB (rLenX K) (tCons (tVar 2) tNil)) (tC (.int 1))) (gName 4))
    (tAsg (tCall (spP K TAdQ) [] E0 (tCons (tOp (rIxT K) (tOp (rIxL K) (tVar 2) (tVar 4)) (tC (.int 0))) (tCons (tTup (tCons (tOp rAddI (tC (.int 1)) (tCall (spS K FPot TTake) [] E0 (tCons (tVar 0) (tCons (tC (.int 3)) tNil)))) (tCons (tC (.int 1)) tNil))) tNil))) (gName 5))) tNext)
    (tDrop (tBM K "list" rInsert (tVar 2) (tCons (tOp rAddI (tVar 4) (tC (.int 1))) (tCons (tTup (tCons (tVar 5) (tCons (tCall (spP K TYat) [] E0 (tCons (tVar 1) (tCons (tVar 5) tNil))) tNil))) tNil)))))))))
    (tRet (tVar 2))))
def t_norow (K : PySem.W.Frag) : TS :=
  (tSeq (tAsg (tCB (rListOf K) (tCons (tOp (rIxT K) (tVar 1) (tC (.int 0))) tNil)) (gName 2))
    (tSeq (tAsg (tCall (spS K FPot TTake) [] E0 (tCons (tVar 0) (tCons (tC (.int 4)) tNil))) (gName 3))
    (tSeq (tAsg (tCall (spS K FPot TTake) [] E0 (tCons (tVar 0) (tCons (tCB (rLenX K) (tCons (tVar 2) tNil)) tNil))) (gName 4))
    (tSeq (tIfS (tTest (tOp rEq (tVar 3) (tC (.int 0)))) (tRet (tLst tNil)) tNext)
    (tSeq (tIfS (tTest (tOp rEq (tVar 3) (tC (.int 1)))) (tSeq (tAsg (tTup (tCons (tOp (rIxL K) (tLst (tCons (tTup (tCons (tC (.int 1)) (tCons (tC (.int 2)) tNil))) (tCons (tTup (tCons (tUn rNegI (tC (.int 1))) (tCons (tC (.int 3)) tNil))) (tCons (tTup (tCons (tC (.int 1)) (tCons (tC (.int 997)) tNil))) tNil)))) (tCall (spS K FPot TTake) [] E0 (tCons (tVar 0) (tCons (tC (.int 3)) tNil)))) (tCons (tOp (rIxT K) (tOp (rIxL K) (tVar 2) (tC (.int 0))) (tC (.int 1))) tNil))) (gSub (tVar 2) (tC (.int 0)) rSetL))
    (tRet (tVar 2))) tNext)
    (tSeq (tIfS (tTest (tOp rEq (tVar 3) (tC (.int 2)))) (tRet (tOp rCatL (tSl (rSlL K) (tVar 2) tNoPart (tPart (tOp rAddI (tVar 4) (tC (.int 1))))) (tSl (rSlL K) (tVar 2) (tPart (tVar 4)) tNoPart))) tNext)
    (tSeq (tAsg (tCall (spP K TLow) [] E0 (tCons (tOp rAddI (tC (.int 1)) (tCall (spS K FPot TTake) [] E0 (tCons (tVar 0) (tCons (tC (.int 5)) tNil)))) (tCons (tIf (tTest (tOp rLt (tOp (rIxT K) (tOp (rIxT K) (tOp (rIxL K) (tVar 2) (tVar 4)) (tC (.int 0))) (tC (.int 1))) (tC (.int 97)))) (tC (.int 3)) (tC (.int 1))) tNil))) (gName 5))
    (tSeq (tDrop (tBM K "list" rInsert (tVar 2) (tCons (tOp rAddI (tVar 4) (tC (.int 1))) (tCons (tTup (tCons (tCall (spP K TSbQ) [] E0 (tCons (tOp (rIxT K) (tOp (rIxL K) (tVar 2) (tVar 4)) (tC (.int 0))) (tCons (tVar 5) tNil))) (tCons (tTup (tCons (tC (.int 1)) (tCons (tC (.int 1)) tNil))) tNil))) tNil))))
    (tRet (tVar 2))))))))))
section
variable {K : PySem.W.Frag} {S : Stt} {ds : List PyData} {Φ : PyData → Nat → Prop} {B : Nat}
theorem cutD_take {l : List PyData} {n : Nat} {i : Int} (e : i = n) : cutD l none (some i) = l.take n := by
  subst e
  unfold cutD
  rw [HT.sIx_nat]
  show (l.drop 0).take (min n l.length - 0) = _
  rw [List.drop_zero, Nat.sub_zero]
  by_cases q : n ≤ l.length
  · rw [Nat.min_eq_left q]
  · rw [Nat.min_eq_right (by omega), List.take_of_length_le (by omega), List.take_of_length_le (by omega)]
theorem cutD_drop {l : List PyData} {n : Nat} {i : Int} (e : i = n) : cutD l (some i) none = l.drop n := by
  subst e
  unfold cutD
  rw [HT.sIx_nat]
  show (l.drop (min n l.length)).take (l.length - min n l.length) = _
  by_cases q : n ≤ l.length
  · rw [Nat.min_eq_left q, List.take_of_length_le (by rw [List.length_drop]; omega)]
  · rw [Nat.min_eq_right (by omega), List.take_of_length_le (by rw [List.length_drop]; omega), List.drop_of_length_le (by omega), List.drop_of_length_le (by omega)]
end
end DL

set_option Elab.async false
set_option linter.all false
set_option maxRecDepth 100000
set_option maxHeartbeats 4000000
/-! LR4: a line bent -/
namespace DL
open PySem PySem.Spec PyProof.Rows L2
structure Th (L D : Nat) (d : PyData) : Prop where
  r : Rs L D d
  t : Tm d
  c : d.canLay0 = true
theorem Th.mono {L D L' D' : Nat} {d : PyData} (h : Th L D d) (h1 : L ≤ L') (h2 : D ≤ D') : Th L' D' d := ⟨h.r.mono h1 h2, h.t, h.c⟩
theorem Th.int {i : Int} {k : Nat} (hk : 0 < k) (h : i.natAbs < 2 ^ k) (h2 : k ≤ 1700) : Th (k + 1) 0 (.int i) :=
  ⟨Rs.int hk h (by omega), .int (Nat.lt_of_lt_of_le h (Nat.pow_le_pow_right (by decide) h2)), rfl⟩
/-- a thing to be judged -/
abbrev Thg (d : PyData) : Prop := Th 1700000 6 d
def TBent : Nat → List PyData → (PyData → Nat → Prop) → Prop := fun B ds Φ => ∃ (ks : Kn) (s : Rat), ds = [lnD ks s] ∧ Lq 26 ks s ∧ ks.length ≤ 60 ∧ B ≤ 2 ^ 38 ∧ ∀ z B', B' ≤ B + 20 → Thg z → Φ z B'
/-- a small thing -/
abbrev Odd (d : PyData) : Prop := Th 400 1 d
theorem ixAll {ds : List PyData} {P : PyData → Prop} {i : Int} {Ψ : PyData → Prop} {K : PySem.W.Frag} (h0 : 0 ≤ i) (h1 : i < ds.length) (h : ∀ x ∈ ds, P x) (f : ∀ z, P z → Ψ z) : DO K (rIxL K) (.list ds) (.int i) Ψ := by
  obtain ⟨n, rfl⟩ : ∃ n : Nat, i = n := ⟨i.toNat, by omega⟩
  have hn : n < ds.length := by omega
  exact do_ixLn (k := n) rfl (List.getElem?_eq_getElem hn) (f _ (h _ (List.getElem_mem hn)))
theorem cutD_sub {l : List PyData} {lo hi : Option Int} {x : PyData} (h : x ∈ cutD l lo hi) : x ∈ l := by
  unfold cutD at h
  exact List.mem_of_mem_drop (List.mem_of_mem_take h)
theorem cutD_le {l : List PyData} {lo hi : Option Int} : (cutD l lo hi).length ≤ l.length := by
  unfold cutD
  rw [List.length_take, List.length_drop]; omega
local macro_rules | `(tactic| walk_at "dl") => `(tactic| repeat' (first
  | with_reducible refine wd_isTy ?_ | with_reducible refine wd_isi ?_ | ((with_reducible show WD _ _ (tOp (rIxL _) (tVar _) _) _ _); refine wd_ix_own rfl ?_) | with_reducible refine wd_op ?_ | ((with_reducible show WD _ _ (tCB (rLenX _) (tCons (tVar _) tNil)) _ _); refine wd_len_scr rfl ?_) | ((with_reducible show WD _ _ (tCB (rLenX _) (tCons (tVar _) tNil)) _ _); refine wd_len_own rfl ?_) | with_reducible refine wd_cb ?_ | with_reducible refine wd_un ?_ | with_reducible refine wa_cons ?_ | with_reducible refine wa_nil ?_ | ((with_reducible show WD _ _ (tVar _) _ _); refine wd_var rfl ?_) | with_reducible refine wd_int ?_ | with_reducible refine wd_bl ?_ | with_reducible refine wd_str ?_ | with_reducible refine wd_non ?_
  | with_reducible refine do_nesS ?_ | with_reducible refine dc_intB ?_ | with_reducible refine do_add ?_ | with_reducible refine do_sub ?_ | ((with_reducible refine do_mod ?_ ?_); decide) | with_reducible refine do_mod ?_ ?_ | with_reducible refine do_mul ?_ ?_ | ((with_reducible refine do_div ?_ ?_); exact ⟨by decide, by decide⟩) | with_reducible refine do_div ?_ ?_ | ((with_reducible refine do_pow ?_ ?_); exact ⟨by decide, by decide, by decide⟩) | with_reducible refine do_pow ?_ ?_
  | with_reducible refine do_lt ?_ | with_reducible refine do_le ?_ | with_reducible refine do_gt ?_ | with_reducible refine do_ge ?_ | with_reducible refine du_neg ?_
  | with_reducible refine do_eqi ?_ | with_reducible refine do_nei ?_ | with_reducible refine do_eqs ?_ | with_reducible refine do_nes ?_ | with_reducible refine dc_abs ?_ | with_reducible refine dc_min ?_ | with_reducible refine dc_max ?_ | with_reducible refine dc_lenL ?_ | with_reducible refine dc_lenT ?_ | with_reducible refine dc_lenR ?_ | with_reducible refine dc_listT ?_ | with_reducible refine dc_listL ?_ | with_reducible refine dc_tupL ?_ | with_reducible refine dc_gcd ?_
  | ((with_reducible show DO _ (rIxT _) _ _ _); refine do_ixT rfl ?_) | ((with_reducible show DO _ (rIxL _) _ _ _); refine do_ixL rfl ?_) | ((with_reducible refine do_catL ?_ ?_); exact Nat.le_of_ble_eq_true rfl) | with_reducible refine do_catL ?_ ?_ | ((with_reducible show And (List.length _ ≤ sizeLine) _); refine ⟨Nat.le_of_ble_eq_true rfl, ?_⟩)
  | with_reducible refine wd_dnew ?_ | with_reducible refine wd_call0 ?_ | with_reducible refine wd_slA ?_ | with_reducible refine wd_slL ?_ | with_reducible refine wd_revT ?_ | with_reducible refine do_catA ?_ ?_ | with_reducible refine wo_part ?_ | with_reducible refine wo_none ?_ | with_reducible refine do_eqQ ?_ | with_reducible refine do_neQ ?_ | with_reducible refine wi_enumT ?_ | with_reducible refine wi_enumD ?_ | with_reducible refine tAdQ (by omega) (by omega) ?_ | with_reducible refine tSbQ (by omega) (by omega) ?_ | with_reducible refine tMlQ (by omega) (by omega) ?_ | with_reducible refine tDvQ (by assumption) (by omega) (by omega) ?_ | with_reducible refine tLtQ (by omega) (by omega) ?_ | with_reducible refine dc_str ?_ ?_ | with_reducible refine wd_tup ?_ | with_reducible refine wd_lst ?_ | with_reducible refine wt_test ?_ | with_reducible refine wt_B ?_ | with_reducible refine wt_not ?_ | with_reducible refine wt_and ?_ | with_reducible refine wt_or ?_ | with_reducible refine wd_ifE ?_ | with_reducible refine wd_andV ?_ | with_reducible refine wd_orV ?_ | with_reducible refine wd_notV ?_
  | with_reducible refine ws_seq ?_ | with_reducible refine ws_next ?_ | with_reducible refine ws_asg ?_ | with_reducible refine ws_ret ?_ | with_reducible refine ws_retN ?_ | with_reducible refine ws_if ?_ | with_reducible refine ws_par ?_ | with_reducible refine ws_unp2 ?_
  | with_reducible refine if_t ?_ | with_reducible refine if_f ?_ | with_reducible refine if_nf ?_ | with_reducible refine if_nt ?_
  | ((with_reducible show Exists _); first | refine ⟨_, kitInt _, ?_⟩ | refine ⟨_, kitBool _, ?_⟩ | refine ⟨_, kitTup _, ?_⟩ | refine ⟨_, kitList _, ?_⟩ | refine ⟨_, rfl, ?_⟩ | refine ⟨_, _, rfl, ?_⟩ | fail) | fail))
def t_bent (K : PySem.W.Frag) : TS :=
  (tSeq (tAsg (tCall (spS K FPot TTake) [] E0 (tCons (tVar 0) (tCons (tC (.int 10)) tNil))) (gName 2))
    (tSeq (tAsg (tVar 1) (gTup K 2 (gCons (gName 3) (gCons (gName 4) gNil))))
    (tSeq (tAsg (tCall (spS K FPot TTake) [] E0 (tCons (tVar 0) (tCons (tCB (rLenX K) (tCons (tVar 3) tNil)) tNil))) (gName 5))
    (tSeq (tAsg (tLst (tCons (tTup (tCons (tC (.int 2)) (tCons (tC (.int 4)) tNil))) (tCons (tTup (tCons (tC (.int 0)) (tCons (tC (.int 2)) tNil))) (tCons (tTup (tCons (tC (.int 1)) (tCons (tC (.int 0)) tNil))) (tCons (tTup (tCons (tC (.int 1)) (tCons (tUn rNegI (tC (.int 1))) tNil))) (tCons (tTup (tCons (tC (.bl true)) (tCons (tC (.int 1)) tNil))) (tCons (tTup (tCons (tC (.int 1)) (tCons (tC (.bl true)) tNil))) (tCons (tC (.int 1)) (tCons (tC .non) (tCons (tC (.str "1")) (tCons (tLst (tCons (tC (.int 1)) (tCons (tC (.int 1)) tNil))) (tCons (tTup (tCons (tC (.int 1)) tNil)) (tCons (tTup (tCons (tC (.int 1)) (tCons (tC (.int 1)) (tCons (tC (.int 1)) tNil)))) tNil))))))))))))) (gName 6))
    (tSeq (tAsg (tOp (rIxL K) (tOp rCatL (tVar 6) (tLst (tCons (tTup (tCons (tOp rAddI (tOp rPowI (tC (.int 10)) (tC (.int 30))) (tC (.int 1))) (tCons (tC (.int 7)) tNil))) (tCons (tTup (tCons (tC (.int 0)) (tCons (tC (.int 1)) tNil))) (tCons (tTup (tCons (tUn rNegI (tC (.int 1))) (tCons (tC (.int 2)) tNil))) (tCons (tTup (tCons (tC (.int 3)) (tCons (tC (.int 2)) tNil))) tNil)))))) (tCall (spS K FPot TTake) [] E0 (tCons (tVar 0) (tCons (tC (.int 16)) tNil)))) (gName 7))
    (tSeq (tAsg (tOp (rIxT K) (tVar 3) (tVar 5)) (gTup K 2 (gCons (gName 8) (gCons (gName 9) gNil))))
    (tSeq (tIfS (tTest (tOp rLt (tVar 2) (tC (.int 3)))) (tRet (tTup (tCons (tOp (rCatA K) (tOp (rCatA K) (tSl (rSlA K) (tVar 3) tNoPart (tPart (tVar 5))) (tTup (tCons (tOp (rIxL K) (tLst (tCons (tTup (tCons (tVar 7) (tCons (tVar 9) tNil))) (tCons (tTup (tCons (tVar 8) (tCons (tVar 7) tNil))) (tCons (tVar 7) tNil)))) (tVar 2)) tNil))) (tSl (rSlA K) (tVar 3) (tPart (tOp rAddI (tVar 5) (tC (.int 1)))) tNoPart)) (tCons (tVar 4) tNil)))) tNext)
    (tSeq (tIfS (tTest (tOp rEq (tVar 2) (tC (.int 3)))) (tRet (tTup (tCons (tVar 3) (tCons (tVar 7) tNil)))) tNext)
    (tSeq (tIfS (tTest (tOp rEq (tVar 2) (tC (.int 4)))) (tRet (tTup (tCons (tOp (rCatA K) (tOp (rCatA K) (tSl (rSlA K) (tVar 3) tNoPart (tPart (tVar 5))) (tRevT K (tSl (rSlA K) (tVar 3) (tPart (tVar 5)) (tPart (tOp rAddI (tVar 5) (tC (.int 2))))))) (tSl (rSlA K) (tVar 3) (tPart (tOp rAddI (tVar 5) (tC (.int 2)))) tNoPart)) (tCons (tVar 4) tNil)))) tNext)
    (tSeq (tIfS (tTest (tOp rEq (tVar 2) (tC (.int 5)))) (tRet (tTup (tCons (tOp (rCatA K) (tSl (rSlA K) (tVar 3) tNoPart (tPart (tOp rAddI (tVar 5) (tC (.int 1))))) (tSl (rSlA K) (tVar 3) (tPart (tVar 5)) tNoPart)) (tCons (tVar 4) tNil)))) tNext)
    (tSeq (tIfS (tTest (tOp rEq (tVar 2) (tC (.int 6)))) (tRet (tTup (tCons (tOp (rCatA K) (tSl (rSlA K) (tVar 3) tNoPart (tPart (tVar 5))) (tSl (rSlA K) (tVar 3) (tPart (tOp rAddI (tVar 5) (tC (.int 1)))) tNoPart)) (tCons (tVar 4) tNil)))) tNext)
    (tSeq (tIfS (tTest (tOp rEq (tVar 2) (tC (.int 7)))) (tRet (tTup (tCons (tCB (rTupOf K) (tCons (tCall (spS K FPot TMore) [] E0 (tCons (tVar 0) (tCons (tVar 1) tNil))) tNil)) (tCons (tVar 4) tNil)))) tNext)
    (tSeq (tIfS (tTest (tOp rEq (tVar 2) (tC (.int 8)))) (tRet (tTup (tCons (tOp (rCatA K) (tOp (rCatA K) (tSl (rSlA K) (tVar 3) tNoPart (tPart (tVar 5))) (tTup (tCons (tLst (tCons (tVar 8) (tCons (tVar 9) tNil))) tNil))) (tSl (rSlA K) (tVar 3) (tPart (tOp rAddI (tVar 5) (tC (.int 1)))) tNoPart)) (tCons (tVar 4) tNil)))) tNext)
    (tRet (tOp (rIxL K) (tLst (tCons (tCB (rListOf K) (tCons (tVar 1) tNil)) (tCons (tTup (tCons (tCB (rListOf K) (tCons (tVar 3) tNil)) (tCons (tVar 4) tNil))) (tCons (tTup (tCons (tVar 3) (tCons (tVar 4) (tCons (tVar 4) tNil)))) (tCons (tTup (tCons (tVar 3) tNil)) (tCons (tVar 7) (tCons (tTup (tCons (tTup tNil) (tCons (tVar 4) tNil))) tNil))))))) (tCall (spS K FPot TTake) [] E0 (tCons (tVar 0) (tCons (tC (.int 6)) tNil))))))))))))))))))
section
variable {K : PySem.W.Frag} {S : Stt} {ds : List PyData} {Φ : PyData → Nat → Prop} {B : Nat}
theorem b4 : bx 4 = 461 := rfl
end
end DL

set_option Elab.async false
set_option linter.all false
set_option maxRecDepth 100000
set_option maxHeartbeats 4000000
/-! PQ9: payments judged, of anything -/
namespace DL
open PySem PySem.Spec PyProof.Rows L2
/-! ### sizes of mixed rows -/
/-- a thing that is shown, judged, told apart -/
structure Pz (L D : Nat) (d : PyData) : Prop where
  t : Th L D d
  p : Pp d
theorem Pz.mono {L D L' D' : Nat} {d : PyData} (h : Pz L D d) (h1 : L ≤ L') (h2 : D ≤ D') : Pz L' D' d := ⟨h.t.mono h1 h2, h.p⟩
theorem Pz.int {i : Int} {k : Nat} (hk : 0 < k) (h : i.natAbs < 2 ^ k) (h2 : k ≤ 1700) : Pz (k + 1) 0 (.int i) := ⟨Th.int hk h h2, .int⟩
/-- an item of a row of rows -/
abbrev It (d : PyData) : Prop := Pz 13700 2 d
/-- a paper -/
def PzE (d : PyData) : Prop := Pz 8000000 6 d ∨ d = .dict []
/-! ### rows told apart by their texts -/
/-- so it is -/
noncomputable def tb (p : Prop) : Bool := @decide p (Classical.propDecidable _)
/-! ### triples of parts -/
def isTripD : PyData → Bool
  | .tuple [a, b, c] => isPartD a && (isPartD b && isPartD c)
  | _ => false
def TTripB : List PyData → (PyData → Prop) → Prop := fun ds Φ => ∃ d, ds = [d] ∧ Tm d ∧ Φ (.bool (isTripD d))
def TPRight : List PyData → (PyData → Prop) → Prop := fun ds Φ => ∃ (b : Bool) (ts : List Rat) (sh : Rat) (R : Nat) (z : PyData), ds = [rowD b (ts.map qp), z, qp sh] ∧ ShOk R sh ∧ ts.length ≤ 130 ∧ (∀ t ∈ ts, Tot t) ∧ PzE z ∧ Φ (.bool (tb (z = rwD sh ts)))
local macro_rules | `(tactic| walk_at "dl") => `(tactic| repeat' (first
  | with_reducible refine wd_isTy ?_ | with_reducible refine wd_isi ?_ | ((with_reducible show WD _ _ (tOp (rIxL _) (tVar _) _) _ _); refine wd_ix_own rfl ?_) | with_reducible refine wd_op ?_ | ((with_reducible show WD _ _ (tCB (rLenX _) (tCons (tVar _) tNil)) _ _); refine wd_len_scr rfl ?_) | ((with_reducible show WD _ _ (tCB (rLenX _) (tCons (tVar _) tNil)) _ _); refine wd_len_own rfl ?_) | with_reducible refine wd_cb ?_ | with_reducible refine wd_un ?_ | with_reducible refine wa_cons ?_ | with_reducible refine wa_nil ?_ | ((with_reducible show WD _ _ (tVar _) _ _); refine wd_var rfl ?_) | with_reducible refine wd_int ?_ | with_reducible refine wd_bl ?_ | with_reducible refine wd_str ?_ | with_reducible refine wd_non ?_
  | with_reducible refine do_nesS ?_ | with_reducible refine dc_intB ?_ | with_reducible refine do_add ?_ | with_reducible refine do_sub ?_ | ((with_reducible refine do_mod ?_ ?_); decide) | with_reducible refine do_mod ?_ ?_ | with_reducible refine do_mul ?_ ?_ | ((with_reducible refine do_div ?_ ?_); exact ⟨by decide, by decide⟩) | with_reducible refine do_div ?_ ?_ | ((with_reducible refine do_pow ?_ ?_); exact ⟨by decide, by decide, by decide⟩) | with_reducible refine do_pow ?_ ?_
  | with_reducible refine do_lt ?_ | with_reducible refine do_le ?_ | with_reducible refine do_gt ?_ | with_reducible refine do_ge ?_ | with_reducible refine du_neg ?_
  | with_reducible refine do_eqi ?_ | with_reducible refine do_nei ?_ | with_reducible refine do_eqs ?_ | with_reducible refine do_nes ?_ | with_reducible refine dc_abs ?_ | with_reducible refine dc_min ?_ | with_reducible refine dc_max ?_ | with_reducible refine dc_lenL ?_ | with_reducible refine dc_lenT ?_ | with_reducible refine dc_lenR ?_ | with_reducible refine dc_listT ?_ | with_reducible refine dc_listL ?_ | with_reducible refine dc_tupL ?_ | with_reducible refine dc_gcd ?_
  | ((with_reducible show DO _ (rIxT _) _ _ _); refine do_ixT rfl ?_) | ((with_reducible show DO _ (rIxL _) _ _ _); refine do_ixL rfl ?_) | ((with_reducible refine do_catL ?_ ?_); exact Nat.le_of_ble_eq_true rfl) | with_reducible refine do_catL ?_ ?_ | ((with_reducible show And (List.length _ ≤ sizeLine) _); refine ⟨Nat.le_of_ble_eq_true rfl, ?_⟩)
  | with_reducible refine wd_dnew ?_ | with_reducible refine wd_call0 ?_ | with_reducible refine wd_slA ?_ | with_reducible refine wd_slL ?_ | with_reducible refine wd_revT ?_ | with_reducible refine do_catA ?_ ?_ | with_reducible refine wo_part ?_ | with_reducible refine wo_none ?_ | with_reducible refine do_eqQ ?_ | with_reducible refine do_neQ ?_ | with_reducible refine wi_enumT ?_ | with_reducible refine wi_enumD ?_ | with_reducible refine tAdQ (by omega) (by omega) ?_ | with_reducible refine tSbQ (by omega) (by omega) ?_ | with_reducible refine tMlQ (by omega) (by omega) ?_ | with_reducible refine tDvQ (by assumption) (by omega) (by omega) ?_ | with_reducible refine tLtQ (by omega) (by omega) ?_ | with_reducible refine dc_str ?_ ?_ | with_reducible refine wd_tup ?_ | with_reducible refine wd_lst ?_ | with_reducible refine wt_test ?_ | with_reducible refine wt_B ?_ | with_reducible refine wt_not ?_ | with_reducible refine wt_and ?_ | with_reducible refine wt_or ?_ | with_reducible refine wd_ifE ?_ | with_reducible refine wd_andV ?_ | with_reducible refine wd_orV ?_ | with_reducible refine wd_notV ?_
  | with_reducible refine ws_seq ?_ | with_reducible refine ws_next ?_ | with_reducible refine ws_asg ?_ | with_reducible refine ws_ret ?_ | with_reducible refine ws_retN ?_ | with_reducible refine ws_if ?_ | with_reducible refine ws_par ?_ | with_reducible refine ws_unp2 ?_
  | with_reducible refine if_t ?_ | with_reducible refine if_f ?_ | with_reducible refine if_nf ?_ | with_reducible refine if_nt ?_
  | ((with_reducible show Exists _); first | refine ⟨_, kitInt _, ?_⟩ | refine ⟨_, kitBool _, ?_⟩ | refine ⟨_, kitTup _, ?_⟩ | refine ⟨_, kitList _, ?_⟩ | refine ⟨_, rfl, ?_⟩ | refine ⟨_, _, rfl, ?_⟩ | fail) | fail))
def t_tripb (K : PySem.W.Frag) : TS :=
  (tRet (tAndV (tOp rIsTyX (tCB (rTyp K) (tCons (tVar 0) tNil)) (tC (.ty "tuple"))) (tAndV (tOp rEq (tCB (rLenX K) (tCons (tVar 0) tNil)) (tC (.int 3))) (tCB (rAll K) (tCons (tLc (iTup K (tVar 0)) (gName 1) tYes (tCall (spP K TPartB) [] E0 (tCons (tVar 1) tNil)) [1]) tNil)))))
def t_pright (K : PySem.W.Frag) : TS :=
  (tSeq (tAsg (tCallN 1 1 (spP K TPays) gVps E0 (tCons (tVar 0) tNil) (tCons (tVar 2) tNil)) (gName 3))
    (tSeq (tIfS (tNot (tAnd (tTest (tOp rIsTyX (tCB (rTyp K) (tCons (tVar 1) tNil)) (tC (.ty "tuple")))) (tB (tCB (rAll K) (tCons (tLc (iTup K (tVar 1)) (gName 4) tYes (tCall (spP K TTripB) [] E0 (tCons (tVar 4) tNil)) [4]) tNil))))) (tRet (tC (.bl false))) tNext)
    (tRet (tOp (rEqD K) (tVar 1) (tVar 3)))))
section
variable {K : PySem.W.Frag} {ds : List PyData} {Φ : PyData → Prop}
end
end DL

set_option Elab.async false
set_option linter.all false
set_option maxRecDepth 100000
set_option maxHeartbeats 4000000
/-! PK3: is_folding, of anything -/
namespace DL
open PySem PySem.Spec PyProof.Rows L2
abbrev rAndI : R2 := rI0 fun i j => .int (Builtin.bitAnd i j)
abbrev rShl1 : R2 := fun x y H Q => ∃ k : Nat, x = .int 1 ∧ y = .int (k : Int) ∧ k ≤ 134217727 ∧ Q (.int (2 ^ k)) H
theorem bitAnd_nn (a b : Nat) : Builtin.bitAnd (a : Int) (b : Int) = ((a &&& b : Nat) : Int) := by
  unfold Builtin.bitAnd
  rw [decide_eq_true (show (0 : Int) ≤ (a : Int) by omega), decide_eq_true (show (0 : Int) ≤ (b : Int) by omega)]
  rfl
section
variable {K : PySem.W.Frag} {S : Stt} {ρ : Rho} {Φ : PyData → Rho → Prop} {Ψ : PyData → Prop}
theorem do_and {a b : Nat} (f : Ψ (.int ((a &&& b : Nat) : Int))) : DO K rAndI (.int (a : Int)) (.int (b : Int)) Ψ := fun N H _ u w hu hw Q q => by
  cases hu
  cases hw
  refine ⟨_, _, rfl, rfl, ?_⟩
  dsimp only
  rw [bitAnd_nn a b]
  exact q _ _ H f (Same.refl H) (Dt.int _)
theorem do_shl1 {k : Nat} (h : k ≤ 134217727) (f : Ψ (.int (2 ^ k))) : DO K rShl1 (.int 1) (.int (k : Int)) Ψ := fun N H _ u w hu hw Q q => by
  cases hu
  cases hw
  exact ⟨k, rfl, rfl, h, q _ _ H f (Same.refl H) (Dt.int _)⟩
theorem inV_ints (i : Int) : ∀ ns : List Int, inV (.int i) (ns.map V.int) = decide (i ∈ ns)
  | [] => by simp [inV]
  | a :: r => by
    have ih := inV_ints i r
    unfold inV at ih ⊢
    rw [List.map_cons, List.any_cons, ih]
    have e : eqV (.int a) (.int i) = decide (a = i) := rfl
    rw [e]
    by_cases c : a = i
    · subst c; simp
    · have c2 : ¬ i = a := fun z => c z.symm
      simp [c, c2]
theorem do_inV {i : Int} {ns : List Int} (f : Ψ (.bool (decide (i ∈ ns)))) : DO K (rIn K false) (.int i) (.tuple (ns.map PyData.int)) Ψ := fun N H _ u w hu hw Q q => by
  cases hu
  obtain ⟨p, xs, rfl, _, h1, h2⟩ := hw.tup_inv
  obtain rfl := h2.of_ints
  have fl : (ns.map V.int).all flatV = true := by rw [List.all_eq_true]; intro x hx; obtain ⟨k, _, rfl⟩ := List.mem_map.mp hx; rfl
  refine ⟨p, _, rfl, .inr h1, rfl, fl, ?_⟩
  rw [if_neg Bool.false_ne_true, inV_ints]
  exact q _ _ H f (Same.refl H) (Dt.bl _)
/-- i ≤ j, and so on -/
theorem wd_chainB {r' : R2} {ta tb tc : TE} (h : WD K S ta ρ fun x ρ1 => WD K S tb ρ1 fun y ρ2 => ∃ i j : Int, x = .int i ∧ y = .int j ∧ (¬ i ≤ j → Φ (.bool false) ρ2) ∧ (i ≤ j → WD K S tc ρ2 fun w ρ3 => DO K r' y w fun d => Φ d ρ3)) : WD K S (tChain rLe r' ta tb tc) ρ Φ := fun H0 N0 Z N σ H E Q q =>
  h H0 N0 Z N σ H E _ fun u x ρ1 H1 h1 E1 k1 d1 => h1 H0 N0 Z N σ H1 E1 _ fun v y ρ2 H2 ⟨i, j, ex, ey, h2, h3⟩ E2 k2 d2 => by
    subst ex ey
    obtain rfl := (d1.keep k2).int_inv
    obtain rfl := d2.int_inv
    refine ⟨i, j, rfl, rfl, decide (i ≤ j), rfl, ?_⟩
    by_cases c : i ≤ j
    · rw [if_pos (decide_eq_true c)]
      exact h3 c H0 N0 Z N σ H2 E2 _ fun w' d' ρ3 H4 h4 E4 k4 d4 => h4 N H4 E4.trk _ w' (d2.keep k4) d4 Q fun v' d'' H5 f e5 d5 => q v' d'' ρ3 H5 f (E4.ext e5) (((k1.trans k2).trans k4).trans (Keep.of e5)) d5
    · rw [if_neg (fun z => c (of_decide_eq_true z))]
      exact q _ _ ρ2 H2 (h2 c) E2 (k1.trans k2) (Dt.bl _)
end
/-! ### rising, sets, foldings -/
theorem ris_iff : ∀ {s : List Int}, Ris s ↔ ∀ (k : Nat) (a b : Int), s[k]? = some a → s[k + 1]? = some b → a < b
  | [] => ⟨fun _ k a b h => by simp at h, fun _ => .nil⟩
  | [x] => ⟨fun _ k a b _ h => by simp at h, fun _ => List.pairwise_singleton _ _⟩
  | x :: y :: r => by
    have ih := ris_iff (s := y :: r)
    constructor
    · intro h k a b ha hb
      obtain ⟨h1, h2⟩ := List.pairwise_cons.mp h
      cases k with
      | zero =>
        simp at ha hb
        rw [← ha, ← hb]
        exact h1 y List.mem_cons_self
      | succ k => exact ih.mp h2 k a b (by simpa using ha) (by simpa using hb)
    · intro h
      have h2 : Ris (y :: r) := ih.mpr fun k a b ha hb => h (k + 1) a b (by simpa using ha) (by simpa using hb)
      have h0 := h 0 x y rfl rfl
      refine List.pairwise_cons.mpr ⟨fun z hz => ?_, h2⟩
      rcases List.mem_cons.mp hz with rfl | hz
      · exact h0
      · have := (List.pairwise_cons.mp h2).1 z hz
        omega
def intD : PyData → Int
  | .int i => i
  | _ => 0
def plB (n : Int) : PyData → Bool
  | .int i => decide (0 ≤ i) && decide (i < n)
  | _ => false
def setB (n : Int) : PyData → Bool
  | .tuple xs => (decide (1 ≤ (xs.length : Int)) && decide ((xs.length : Int) ≤ n)) && (xs.all (plB n) && decide (Ris (xs.map intD)))
  | _ => false
def intsD : PyData → List Int
  | .tuple xs => xs.map intD
  | _ => []
def foldP (n : Int) : PyData → Bool
  | .tuple xs => decide ((xs.length : Int) ≤ 40) && (xs.all (setB n) && foldB (xs.map intsD))
  | _ => false
theorem pl_ints {n : Int} : ∀ {xs : List PyData}, (∀ x ∈ xs, plB n x = true) → xs = (xs.map intD).map PyData.int ∧ ∀ i ∈ xs.map intD, 0 ≤ i ∧ i < n
  | [], _ => ⟨rfl, fun _ h => by cases h⟩
  | x :: r, h => by
    obtain ⟨e, hr⟩ := pl_ints (n := n) (xs := r) fun y hy => h y (List.mem_cons_of_mem _ hy)
    have hx := h x List.mem_cons_self
    cases x <;> first | (exact absurd hx Bool.false_ne_true) | skip
    rename_i i
    have hx2 : (decide (0 ≤ i) && decide (i < n)) = true := hx
    rw [Bool.and_eq_true] at hx2
    refine ⟨?_, fun j hj => ?_⟩
    · rw [List.map_cons, List.map_cons, ← e]; rfl
    · rw [List.map_cons] at hj
      rcases List.mem_cons.mp hj with rfl | hj
      · exact ⟨of_decide_eq_true hx2.1, of_decide_eq_true hx2.2⟩
      · exact hr j hj
theorem set_ints {n : Int} {d : PyData} (h : setB n d = true) : d = .tuple ((intsD d).map PyData.int) ∧ Ris (intsD d) ∧ (∀ i ∈ intsD d, 0 ≤ i ∧ i < n) ∧ ((intsD d).length : Int) ≤ n := by
  cases d <;> first | (exact absurd h Bool.false_ne_true) | skip
  rename_i xs
  have h : ((decide (1 ≤ (xs.length : Int)) && decide ((xs.length : Int) ≤ n)) && (xs.all (plB n) && decide (Ris (xs.map intD)))) = true := h
  rw [Bool.and_eq_true, Bool.and_eq_true, Bool.and_eq_true] at h
  obtain ⟨e, hr⟩ := pl_ints fun x hx => List.all_eq_true.mp h.2.1 x hx
  exact ⟨congrArg PyData.tuple e, of_decide_eq_true h.2.2, hr, by show ((xs.map intD).length : Int) ≤ n; rw [List.length_map]; exact of_decide_eq_true h.1.2⟩
def TWholeA : List PyData → (PyData → Prop) → Prop := fun ds Φ => ∃ d, ds = [d] ∧ Φ (.bool (decide (tyD d = "int")))
def TRising : List PyData → (PyData → Prop) → Prop := fun ds Φ => ∃ s : List Int, ds = [.tuple (s.map PyData.int)] ∧ s.length ≤ 1000 ∧ Φ (.bool (decide (Ris s)))
def TIsSet : List PyData → (PyData → Prop) → Prop := fun ds Φ => ∃ (n : Int) (d : PyData), ds = [.int n, d] ∧ Tm d ∧ Φ (.bool (setB n d))
def TFolding : List PyData → (PyData → Prop) → Prop := fun ds Φ => ∃ (b : Bool) (as : List PyData) (d : PyData), ds = [rowD b as, d] ∧ as.length ≤ 1000 ∧ (tyD d = "tuple" → Tm d) ∧ Φ (.bool (foldP as.length d))
local macro_rules | `(tactic| walk_at "dl") => `(tactic| repeat' (first
  | with_reducible refine wd_isTy ?_ | with_reducible refine wd_isi ?_ | ((with_reducible show WD _ _ (tOp (rIxL _) (tVar _) _) _ _); refine wd_ix_own rfl ?_) | with_reducible refine wd_op ?_ | ((with_reducible show WD _ _ (tCB (rLenX _) (tCons (tVar _) tNil)) _ _); refine wd_len_scr rfl ?_) | ((with_reducible show WD _ _ (tCB (rLenX _) (tCons (tVar _) tNil)) _ _); refine wd_len_own rfl ?_) | with_reducible refine wd_cb ?_ | with_reducible refine wd_un ?_ | with_reducible refine wa_cons ?_ | with_reducible refine wa_nil ?_ | ((with_reducible show WD _ _ (tVar _) _ _); refine wd_var rfl ?_) | with_reducible refine wd_int ?_ | with_reducible refine wd_bl ?_ | with_reducible refine wd_str ?_ | with_reducible refine wd_non ?_
  | with_reducible refine do_nesS ?_ | with_reducible refine dc_intB ?_ | with_reducible refine do_add ?_ | with_reducible refine do_sub ?_ | ((with_reducible refine do_mod ?_ ?_); decide) | with_reducible refine do_mod ?_ ?_ | with_reducible refine do_mul ?_ ?_ | ((with_reducible refine do_div ?_ ?_); exact ⟨by decide, by decide⟩) | with_reducible refine do_div ?_ ?_ | ((with_reducible refine do_pow ?_ ?_); exact ⟨by decide, by decide, by decide⟩) | with_reducible refine do_pow ?_ ?_
  | with_reducible refine do_lt ?_ | with_reducible refine do_le ?_ | with_reducible refine do_gt ?_ | with_reducible refine do_ge ?_ | with_reducible refine du_neg ?_
  | with_reducible refine do_eqi ?_ | with_reducible refine do_nei ?_ | with_reducible refine do_eqs ?_ | with_reducible refine do_nes ?_ | with_reducible refine dc_abs ?_ | with_reducible refine dc_min ?_ | with_reducible refine dc_max ?_ | with_reducible refine dc_lenL ?_ | with_reducible refine dc_lenT ?_ | with_reducible refine dc_lenR ?_ | with_reducible refine dc_listT ?_ | with_reducible refine dc_listL ?_ | with_reducible refine dc_tupL ?_ | with_reducible refine dc_gcd ?_
  | ((with_reducible show DO _ (rIxT _) _ _ _); refine do_ixT rfl ?_) | ((with_reducible show DO _ (rIxL _) _ _ _); refine do_ixL rfl ?_) | ((with_reducible refine do_catL ?_ ?_); exact Nat.le_of_ble_eq_true rfl) | with_reducible refine do_catL ?_ ?_ | ((with_reducible show And (List.length _ ≤ sizeLine) _); refine ⟨Nat.le_of_ble_eq_true rfl, ?_⟩)
  | with_reducible refine wd_dnew ?_ | with_reducible refine wd_call0 ?_ | with_reducible refine wd_slA ?_ | with_reducible refine wd_slL ?_ | with_reducible refine wd_revT ?_ | with_reducible refine do_catA ?_ ?_ | with_reducible refine wo_part ?_ | with_reducible refine wo_none ?_ | with_reducible refine do_eqQ ?_ | with_reducible refine do_neQ ?_ | with_reducible refine wi_enumT ?_ | with_reducible refine wi_enumD ?_ | with_reducible refine tAdQ (by omega) (by omega) ?_ | with_reducible refine tSbQ (by omega) (by omega) ?_ | with_reducible refine tMlQ (by omega) (by omega) ?_ | with_reducible refine tDvQ (by assumption) (by omega) (by omega) ?_ | with_reducible refine tLtQ (by omega) (by omega) ?_ | with_reducible refine dc_str ?_ ?_ | with_reducible refine wd_tup ?_ | with_reducible refine wd_lst ?_ | with_reducible refine wt_test ?_ | with_reducible refine wt_B ?_ | with_reducible refine wt_not ?_ | with_reducible refine wt_and ?_ | with_reducible refine wt_or ?_ | with_reducible refine wd_ifE ?_ | with_reducible refine wd_andV ?_ | with_reducible refine wd_orV ?_ | with_reducible refine wd_notV ?_
  | with_reducible refine ws_seq ?_ | with_reducible refine ws_next ?_ | with_reducible refine ws_asg ?_ | with_reducible refine ws_ret ?_ | with_reducible refine ws_retN ?_ | with_reducible refine ws_if ?_ | with_reducible refine ws_par ?_ | with_reducible refine ws_unp2 ?_
  | with_reducible refine if_t ?_ | with_reducible refine if_f ?_ | with_reducible refine if_nf ?_ | with_reducible refine if_nt ?_
  | ((with_reducible show Exists _); first | refine ⟨_, kitInt _, ?_⟩ | refine ⟨_, kitBool _, ?_⟩ | refine ⟨_, kitTup _, ?_⟩ | refine ⟨_, kitList _, ?_⟩ | refine ⟨_, rfl, ?_⟩ | refine ⟨_, _, rfl, ?_⟩ | fail) | fail))
def t_whole (K : PySem.W.Frag) : TS :=
  (tRet (tOp rIsTyX (tCB (rTyp K) (tCons (tVar 0) tNil)) (tC (.ty "int"))))
def t_rising (K : PySem.W.Frag) : TS :=
  (tRet (tCB (rAll K) (tCons (tLc (iRng1 (tCons (tOp rSubI (tCB (rLenX K) (tCons (tVar 0) tNil)) (tC (.int 1))) tNil)) (gName 1) tYes (tOp rLt (tOp (rIxT K) (tVar 0) (tVar 1)) (tOp (rIxT K) (tVar 0) (tOp rAddI (tVar 1) (tC (.int 1))))) [1]) tNil)))
def t_isset (K : PySem.W.Frag) : TS :=
  (tSeq (tIfS (tNot (tAnd (tTest (tOp rIsTyX (tCB (rTyp K) (tCons (tVar 1) tNil)) (tC (.ty "tuple")))) (tTest (tChain rLe rLe (tC (.int 1)) (tCB (rLenX K) (tCons (tVar 1) tNil)) (tVar 0))))) (tRet (tC (.bl false))) tNext)
    (tRet (tAndV (tCB (rAll K) (tCons (tLc (iTup K (tVar 1)) (gName 2) tYes (tAndV (tCall (spP K TWholeA) [] E0 (tCons (tVar 2) tNil)) (tChain rLe rLt (tC (.int 0)) (tVar 2) (tVar 0))) [2]) tNil)) (tCall (spP K TRising) [] E0 (tCons (tVar 1) tNil)))))
def t_folding (K : PySem.W.Frag) : TS :=
  (tSeq (tIfS (tNot (tAnd (tTest (tOp rIsTyX (tCB (rTyp K) (tCons (tVar 1) tNil)) (tC (.ty "tuple")))) (tTest (tOp rLe (tCB (rLenX K) (tCons (tVar 1) tNil)) (tC (.int 40)))))) (tRet (tC (.bl false))) tNext)
    (tSeq (tIfS (tNot (tB (tCB (rAll K) (tCons (tLc (iTup K (tVar 1)) (gName 3) tYes (tCall (spP K TIsSet) [] E0 (tCons (tCB (rLenX K) (tCons (tVar 0) tNil)) (tCons (tVar 3) tNil))) [3]) tNil)))) (tRet (tC (.bl false))) tNext)
    (tSeq (tAsg (tLc (iTup K (tVar 1)) (gName 3) tYes (tCB (rSum K) (tCons (tLc (iTup K (tVar 3)) (gName 5) tYes (tOp rShl1 (tC (.int 1)) (tVar 5)) [5]) tNil)) [3]) (gName 2))
    (tRet (tCB (rAll K) (tCons (tLc2 (iList K (tVar 2)) (gName 3) tYes (iList K (tVar 2)) (gName 4) tYes (tOp (rIn K false) (tOp rAndI (tVar 3) (tVar 4)) (tTup (tCons (tC (.int 0)) (tCons (tVar 3) (tCons (tVar 4) tNil))))) [3, 4] [4]) tNil))))))
section
variable {K : PySem.W.Frag} {ds : List PyData} {Φ : PyData → Prop}
theorem ws_whole (h : TWholeA ds Φ) : WS K S0 (t_whole K) (rhoOf 1 ds) { nx := fun _ => Φ .none, rt := fun d _ => Φ d } := by
  obtain ⟨d, rfl, h⟩ := h
  show WS K S0 (t_whole K) [.dat d] _
  exact ws_ret (wd_isTy (wd_var rfl h))
theorem ws_rising (h : TRising ds Φ) : WS K S0 (t_rising K) (rhoOf 2 ds) { nx := fun _ => Φ .none, rt := fun d _ => Φ d } := by
  obtain ⟨s, rfl, hl, h⟩ := h
  show WS K S0 (t_rising K) [.dat (.tuple (s.map PyData.int)), .unk] _
  unfold t_rising
  refine ws_ret (wd_cb (wa_cons (wd_lc (wi_rng1 (wa_cons (wd_op (wd_cb (wa_cons (wd_var rfl (wa_nil (dc_lenT ?_)))))))))))
  rw [List.length_map]
  refine wd_int (do_sub (wa_nil ⟨_, rfl, by omega, by omega, ?_⟩))
  have n2 : ((s.length : Int) - 1).toNat = s.length - 1 := by omega
  rw [n2]
  refine ⟨by rw [List.length_map, List.length_range, sizeLine_eq]; omega, fun j acc ρ => acc = ((List.range j).map fun k => decide (s.getD k 0 < s.getD (k + 1) 0)).map PyData.bool ∧ ∃ s1, ρ = [.dat (.tuple (s.map PyData.int)), s1], ⟨rfl, _, rfl⟩, ?_, ?_⟩
  · rintro j d acc ρ2 hd ⟨rfl, s1, rfl⟩
    have hj : j < s.length - 1 := by
      have := (List.getElem?_eq_some_iff.mp hd).1
      simpa using this
    have hkd : d = .int (0 + (j : Int)) := by
      rw [List.getElem?_map] at hd
      obtain ⟨k, hk, rfl⟩ := Option.map_eq_some_iff.mp hd
      have e := (List.getElem?_eq_some_iff.mp hk).2
      rw [List.getElem_range] at e
      rw [← e]
    subst hkd
    have g : ∀ k, k < s.length → (s.map PyData.int)[k]? = some (.int (s.getD k 0)) := fun k hk => by
      rw [List.getElem?_map, List.getElem?_eq_getElem hk, List.getD_eq_getElem?_getD, List.getElem?_eq_getElem hk]; rfl
    refine ⟨_, _, gd_name, fun j hj => hj, ?_⟩
    refine wt_yes ?_
    refine wd_op (wd_op (wd_var rfl (wd_var rfl (do_ixTn (k := j) (by omega) (g j (by omega)) ?_))))
    refine wd_op (wd_var rfl (wd_op (wd_var rfl (wd_int (do_add (do_ixTn (k := j + 1) (by omega) (g (j + 1) (by omega)) ?_))))))
    refine do_lt ⟨?_, _, rfl⟩
    rw [List.range_succ, List.map_append, List.map_append]; rfl
  · rintro acc ρ2 ⟨rfl, s1, rfl⟩
    rw [List.length_map, List.length_range]
    refine wa_nil (dc_all ?_)
    have e : ((List.range (s.length - 1)).map fun k => decide (s.getD k 0 < s.getD (k + 1) 0)).all id = decide (Ris s) := by
      rw [Bool.eq_iff_iff, List.all_eq_true, decide_eq_true_iff, ris_iff]
      constructor
      · intro h k a b ha hb
        have hk := (List.getElem?_eq_some_iff.mp hb).1
        have := h (decide (s.getD k 0 < s.getD (k + 1) 0)) (List.mem_map.mpr ⟨k, List.mem_range.mpr (by omega), rfl⟩)
        have h2 := of_decide_eq_true (show decide (s.getD k 0 < s.getD (k + 1) 0) = true from this)
        rw [List.getD_eq_getElem?_getD, List.getD_eq_getElem?_getD, ha, hb] at h2
        exact h2
      · intro h x hx
        obtain ⟨k, hk, rfl⟩ := List.mem_map.mp hx
        have hk2 := List.mem_range.mp hk
        refine decide_eq_true ?_
        have e1 := List.getElem?_eq_getElem (l := s) (i := k) (by omega)
        have e2 := List.getElem?_eq_getElem (l := s) (i := k + 1) (by omega)
        rw [List.getD_eq_getElem?_getD, List.getD_eq_getElem?_getD, e1, e2]
        exact h k _ _ e1 e2
    rw [e]; exact h
theorem ws_isset (h : TIsSet ds Φ) : WS K S0 (t_isset K) (rhoOf 3 ds) { nx := fun _ => Φ .none, rt := fun d _ => Φ d } := by
  obtain ⟨n, d, rfl, tm, h⟩ := h
  show WS K S0 (t_isset K) [.dat (.int n), .dat d, .unk] _
  unfold t_isset
  have no : setB n d = false → Φ (.bool false) := fun z => by rw [z] at h; exact h
  walk_at "dl"
  refine if_b (fun ht => ?_) (fun ht => ?_)
  · obtain ⟨xs, rfl⟩ := tuple_of ht
    have xl := tm.len
    refine wt_test (wd_chainB (wd_int (wd_cb (wa_cons (wd_var rfl (wa_nil (dc_lenT ⟨1, _, rfl, rfl, fun c => ?_, fun c => ?_⟩)))))))
    · refine ⟨false, rfl, ?_⟩
      refine ws_ret (wd_bl (no ?_))
      show ((decide (1 ≤ (xs.length : Int)) && _) && _) = false
      rw [decide_eq_false c]; rfl
    refine wd_var rfl (do_le ⟨_, rfl, ?_⟩)
    refine if_n (fun c2 => ?_) (fun c2 => ?_)
    · refine ws_ret (wd_bl (no ?_))
      show ((_ && decide ((xs.length : Int) ≤ n)) && _) = false
      rw [decide_eq_false c2, Bool.and_false]; rfl
    refine ws_next ?_
    have e0 : setB n (.tuple xs) = (xs.all (plB n) && decide (Ris (xs.map intD))) := by
      show ((decide (1 ≤ (xs.length : Int)) && decide ((xs.length : Int) ≤ n)) && _) = _
      rw [decide_eq_true c, decide_eq_true c2, Bool.and_self, Bool.true_and]
    rw [e0] at h no
    refine ws_ret (wd_andV (wd_cb (wa_cons (wd_lc (wi_tup (wd_var rfl ⟨xs, rfl, by rw [sizeLine_eq]; omega, fun j acc ρ => acc = ((xs.take j).map (plB n)).map PyData.bool ∧ ∃ s1 : Sl, ρ = [.dat (.int n), .dat (.tuple xs), s1], ⟨rfl, _, rfl⟩, ?_, ?_⟩))))))
    · rintro j d acc ρ2 hd ⟨rfl, s1, rfl⟩
      refine ⟨_, _, gd_name, fun j hj => hj, ?_⟩
      refine wt_yes ?_
      have stp : ((xs.take j).map (plB n)).map PyData.bool ++ [.bool (plB n d)] = ((xs.take (j + 1)).map (plB n)).map PyData.bool := by
        rw [List.take_add_one, hd, Option.toList_some, List.map_append, List.map_append]; rfl
      refine wd_andV (wd_call0 (wa_cons (wd_var rfl (wa_nil ⟨d, rfl, _, rfl, ?_⟩))))
      by_cases ci : tyD d = "int"
      · rw [decide_eq_true ci, if_pos rfl]
        obtain ⟨k, rfl⟩ : ∃ k, d = .int k := by
          cases d <;> first | exact ⟨_, rfl⟩ | (simp [tyD] at ci)
        refine wd_chainB (wd_int (wd_var rfl ⟨0, k, rfl, rfl, fun c0 => ⟨?_, _, rfl⟩, fun c0 => wd_var rfl (do_lt ⟨?_, _, rfl⟩)⟩))
        · rw [← stp]
          show _ = _ ++ [PyData.bool (decide (0 ≤ k) && decide (k < n))]
          rw [decide_eq_false c0]; rfl
        · rw [← stp]
          show _ = _ ++ [PyData.bool (decide (0 ≤ k) && decide (k < n))]
          rw [decide_eq_true c0, Bool.true_and]
      · rw [decide_eq_false ci, if_neg Bool.false_ne_true]
        refine ⟨?_, _, rfl⟩
        rw [← stp]
        have : plB n d = false := by cases d <;> first | rfl | exact absurd rfl ci
        rw [this]
    · rintro acc ρ2 ⟨rfl, s1, rfl⟩
      rw [List.take_length]
      refine wa_nil (dc_all ⟨_, rfl, ?_⟩)
      cases ha : (xs.map (plB n)).all id with
      | false =>
        rw [if_neg Bool.false_ne_true]
        refine no ?_
        rw [List.all_map] at ha
        have : xs.all (plB n) = false := ha
        rw [this]; rfl
      | true =>
        rw [if_pos rfl]
        rw [List.all_map] at ha
        have ha : xs.all (plB n) = true := ha
        obtain ⟨ex, _⟩ := pl_ints fun x hx => List.all_eq_true.mp ha x hx
        refine wd_call0 (wa_cons (wd_var rfl (wa_nil ⟨xs.map intD, by rw [← ex], by rw [List.length_map]; omega, ?_⟩)))
        rw [ha, Bool.true_and] at h
        exact h
  · refine if_nf (ws_ret (wd_bl (no ?_)))
    cases d <;> first | rfl | exact absurd rfl ht
def okM (a b : Nat) : Bool := decide (((a &&& b : Nat) : Int) ∈ [0, (a : Int), (b : Int)])
theorem okM_iff {a b : Nat} : okM a b = true ↔ (a &&& b = 0 ∨ a &&& b = a ∨ a &&& b = b) := by
  unfold okM
  rw [decide_eq_true_iff]
  simp only [List.mem_cons, List.not_mem_nil, or_false]
  omega
theorem okM_cross {s t : List Int} (hs : Ris s) (ht : Ris t) (s0 : ∀ x ∈ s, 0 ≤ x) (t0 : ∀ x ∈ t, 0 ≤ x) : okM (mkM s) (mkM t) = !crossB s t := by
  have h := mask_ok hs ht s0 t0
  cases e : crossB s t with
  | false => exact okM_iff.mpr (h.mpr e)
  | true =>
    cases e2 : okM (mkM s) (mkM t) with
    | false => rfl
    | true => have := h.mp (okM_iff.mp e2); rw [e] at this; cases this
theorem fold_masks {ss : List (List Int)} (h : ∀ s ∈ ss, Ris s ∧ ∀ x ∈ s, 0 ≤ x) : ((ss.map mkM).all fun a => (ss.map mkM).all fun b => okM a b) = foldB ss := by
  unfold foldB
  rw [List.all_map]
  have ext : ∀ {l : List (List Int)} {f g : List Int → Bool}, (∀ x ∈ l, f x = g x) → l.all f = l.all g := fun {l f g} hx => by
    induction l with
    | nil => rfl
    | cons a r ih => rw [List.all_cons, List.all_cons, hx a List.mem_cons_self, ih fun x h => hx x (List.mem_cons_of_mem _ h)]
  refine ext fun s hs => ?_
  show (ss.map mkM).all _ = _
  rw [List.all_map]
  exact ext fun t ht => okM_cross (h s hs).1 (h t ht).1 (h s hs).2 (h t ht).2
theorem ws_folding (h : TFolding ds Φ) : WS K S0 (t_folding K) (rhoOf 6 ds) { nx := fun _ => Φ .none, rt := fun d _ => Φ d } := by
  obtain ⟨b, as, d, rfl, al, tm, h⟩ := h
  show WS K S0 (t_folding K) [.dat (rowD b as), .dat d, .unk, .unk, .unk, .unk] _
  unfold t_folding
  have no : foldP as.length d = false → Φ (.bool false) := fun z => by rw [z] at h; exact h
  walk_at "dl"
  refine if_b (fun ht => ?_) (fun ht => ?_)
  · obtain ⟨xs, rfl⟩ := tuple_of ht
    have tm := tm rfl
    have xl := tm.len
    walk_at "dl"
    refine if_n (fun c2 => ?_) (fun c2 => ?_)
    · refine ws_ret (wd_bl (no ?_))
      show (decide ((xs.length : Int) ≤ 40) && _) = false
      rw [decide_eq_false c2]; rfl
    refine ws_next ?_
    have e0 : foldP as.length (.tuple xs) = (xs.all (setB as.length) && foldB (xs.map intsD)) := by
      show (decide ((xs.length : Int) ≤ 40) && _) = _
      rw [decide_eq_true c2, Bool.true_and]
    rw [e0] at h no
    refine ws_seq (ws_if (wt_not (wt_B (wd_cb (wa_cons (wd_lc (wi_tup (wd_var rfl ⟨xs, rfl, by rw [sizeLine_eq]; omega, fun j acc ρ => acc = ((xs.take j).map (setB as.length)).map PyData.bool ∧ ∃ s1 : Sl, ρ = [.dat (rowD b as), .dat (.tuple xs), .unk, s1, .unk, .unk], ⟨rfl, _, rfl⟩, ?_, ?_⟩))))))))
    · rintro j d acc ρ2 hd ⟨rfl, s1, rfl⟩
      refine ⟨_, _, gd_name, fun j hj => hj, ?_⟩
      refine wt_yes ?_
      refine wd_call0 (wa_cons (wd_cb (wa_cons (wd_var rfl (wa_nil (dc_lenR (wa_cons (wd_var rfl (wa_nil ⟨_, d, rfl, tm.mem (List.mem_of_getElem? hd), ?_, _, rfl⟩)))))))))
      rw [List.take_add_one, hd, Option.toList_some, List.map_append, List.map_append]; rfl
    · rintro acc ρ2 ⟨rfl, s1, rfl⟩
      rw [List.take_length]
      refine wa_nil (dc_all ⟨_, rfl, ?_⟩)
      have ea : (xs.map (setB as.length)).all id = xs.all (setB as.length) := by rw [List.all_map]; rfl
      rw [ea]
      cases ha : xs.all (setB as.length) with
      | false =>
        refine if_nf (ws_ret (wd_bl (no ?_)))
        rw [ha]; rfl
      | true =>
        refine if_nt (ws_next ?_)
        rw [ha, Bool.true_and] at h
        have hset := fun x (hx : x ∈ xs) => set_ints (List.all_eq_true.mp ha x hx)
        refine ws_seq (ws_asg (wd_lc (wi_tup (wd_var rfl ⟨xs, rfl, by rw [sizeLine_eq]; omega, fun j acc ρ => acc = ((xs.take j).map fun x => ((mkM (intsD x) : Nat) : Int)).map PyData.int ∧ ∃ s1 s5 : Sl, ρ = [.dat (rowD b as), .dat (.tuple xs), .unk, s1, .unk, s5], ⟨rfl, _, _, rfl⟩, ?_, ?_⟩))))
        · rintro j d acc ρ2 hd ⟨rfl, s1, s5, rfl⟩
          have hdm := List.mem_of_getElem? hd
          obtain ⟨ed, hr, hp, hn⟩ := hset d hdm
          have hn2 : (intsD d).length ≤ 1000 := by
            have := hn; omega
          refine ⟨_, _, gd_name, fun j hj => hj, ?_⟩
          refine wt_yes ?_
          refine wd_cb (wa_cons (wd_lc (wi_tup (wd_var rfl ⟨(intsD d).map PyData.int, ed, by rw [List.length_map, sizeLine_eq]; omega, fun k acc2 ρ => acc2 = (((intsD d).take k).map fun p => ((2 ^ p.toNat : Nat) : Int)).map PyData.int ∧ ∃ s5 : Sl, ρ = [.dat (rowD b as), .dat (.tuple xs), .unk, .dat d, .unk, s5], ⟨rfl, _, rfl⟩, ?_, ?_⟩))))
          · rintro k e acc2 ρ3 he ⟨rfl, s5, rfl⟩
            rw [List.getElem?_map] at he
            obtain ⟨p, hpk, rfl⟩ := Option.map_eq_some_iff.mp he
            have pr := hp p (List.mem_of_getElem? hpk)
            obtain ⟨q, rfl⟩ : ∃ q : Nat, p = q := ⟨p.toNat, by omega⟩
            refine ⟨_, _, gd_name, fun j hj => hj, ?_⟩
            refine wt_yes ?_
            refine wd_op (wd_int (wd_var rfl (do_shl1 (by omega) ⟨?_, _, rfl⟩)))
            rw [List.take_add_one, hpk, Option.toList_some, List.map_append, List.map_append]
            congr 1
          · rintro acc2 ρ3 ⟨rfl, s5, rfl⟩
            rw [List.length_map, List.take_length]
            refine wa_nil (dc_sum rfl ⟨?_, _, _, rfl⟩)
            have sm : ∀ l : List Int, (l.map fun p => ((2 ^ p.toNat : Nat) : Int)).sum = ((mkM l : Nat) : Int) := fun l => by
              induction l with
              | nil => rfl
              | cons a r ih => rw [List.map_cons, List.sum_cons, ih]; show _ = (((2 ^ a.toNat + mkM r : Nat)) : Int); omega
            rw [sm, List.take_add_one, hd, Option.toList_some, List.map_append, List.map_append]; rfl
        · rintro acc ρ2 ⟨rfl, s1, s5, rfl⟩
          rw [List.take_length]
          have em : xs.map (fun x => ((mkM (intsD x) : Nat) : Int)) = (xs.map fun x => mkM (intsD x)).map fun m : Nat => (m : Int) := by rw [List.map_map]; rfl
          rw [em]
          have em2 : xs.map (fun x => mkM (intsD x)) = (xs.map intsD).map mkM := by rw [List.map_map]; rfl
          rw [em2]
          have fm := fold_masks (ss := xs.map intsD) fun s hs => by
            obtain ⟨x, hx, rfl⟩ := List.mem_map.mp hs
            obtain ⟨_, hr, hp, _⟩ := hset x hx
            exact ⟨hr, fun y hy => (hp y hy).1⟩
          rw [← fm] at h
          have ml : ((xs.map intsD).map mkM).length ≤ 40 := by rw [List.length_map, List.length_map]; omega
          generalize (xs.map intsD).map mkM = ms at h ml ⊢
          show WS K S0 _ [.dat (rowD b as), .dat (.tuple xs), .dat (.list ((ms.map fun m : Nat => (m : Int)).map PyData.int)), .unk, .unk, s5] _
          have gm : ∀ (k : Nat) (d : PyData), ((ms.map fun m : Nat => (m : Int)).map PyData.int)[k]? = some d → ∃ m : Nat, ms[k]? = some m ∧ d = .int (m : Int) := fun k d hd => by
            rw [List.getElem?_map] at hd
            obtain ⟨i, hi, rfl⟩ := Option.map_eq_some_iff.mp hd
            rw [List.getElem?_map] at hi
            obtain ⟨m, hm, rfl⟩ := Option.map_eq_some_iff.mp hi
            exact ⟨m, hm, rfl⟩
          refine ws_ret (wd_cb (wa_cons (wd_lc2 (by decide) (wi_list (wd_var rfl ⟨_, rfl, fun k acc ρ => ∃ bs : List Bool, acc = bs.map PyData.bool ∧ bs.all id = ((ms.take k).all fun a => ms.all fun b => okM a b) ∧ bs.length = k * ms.length ∧ k ≤ ms.length ∧ ρ = [.dat (rowD b as), .dat (.tuple xs), .dat (.list ((ms.map fun m : Nat => (m : Int)).map PyData.int)), .unk, .unk, s5], ⟨[], rfl, rfl, by simp, Nat.zero_le _, rfl⟩, ?_, ?_⟩)))))
          · rintro k d acc ρ2 hd ⟨bs, rfl, hb, hbl, hkl, rfl⟩
            obtain ⟨m, hm, rfl⟩ := gm k d hd
            have hk : k < ms.length := (List.getElem?_eq_some_iff.mp hm).1
            refine ⟨_, _, gd_name, fun j hj => (by rw [List.mem_singleton] at hj; rw [hj]; exact List.mem_cons_self), ?_⟩
            refine wt_yes ?_
            refine wi_list (wd_var rfl ⟨_, rfl, fun j acc1 ρ => ∃ bs1 : List Bool, acc1 = bs1.map PyData.bool ∧ bs1.all id = (((ms.take k).all fun a => ms.all fun b => okM a b) && ((ms.take j).all fun b => okM m b)) ∧ bs1.length = k * ms.length + j ∧ j ≤ ms.length ∧ ρ = [.dat (rowD b as), .dat (.tuple xs), .dat (.list ((ms.map fun m : Nat => (m : Int)).map PyData.int)), .dat (.int (m : Int)), .unk, s5], ⟨bs, rfl, by rw [hb]; simp, by rw [hbl]; rfl, Nat.zero_le _, rfl⟩, ?_, ?_⟩)
            · rintro j e acc1 ρ3 he ⟨bs1, rfl, hb1, hbl1, hjl, rfl⟩
              obtain ⟨m2, hm2, rfl⟩ := gm j e he
              have hj : j < ms.length := (List.getElem?_eq_some_iff.mp hm2).1
              refine ⟨_, _, gd_name, fun j hj => hj, ?_⟩
              refine wt_yes ?_
              have kk : k * ms.length ≤ 40 * 40 := Nat.mul_le_mul (by omega) ml
              refine wd_op (wd_op (wd_var rfl (wd_var rfl (do_and (wd_tup (wa_cons (wd_int (wa_cons (wd_var rfl (wa_cons (wd_var rfl (wa_nil ⟨Nat.le_of_ble_eq_true rfl, do_inV (ns := [0, (m : Int), (m2 : Int)]) ⟨?_, bs1 ++ [okM m m2], ?_, ?_, ?_, hj, rfl⟩⟩))))))))))))
              · rw [List.length_map, hbl1, sizeLine_eq]; omega
              · rw [List.map_append]; rfl
              · rw [List.all_append, hb1, List.take_add_one, hm2, Option.toList_some, List.all_append, Bool.and_assoc]; rfl
              · rw [List.length_append, hbl1]; rfl
            · rintro acc1 ρ3 ⟨bs1, rfl, hb1, hbl1, _, rfl⟩
              rw [List.length_map, List.length_map] at hb1 hbl1
              refine ⟨bs1, rfl, ?_, ?_, hk, rfl⟩
              · rw [hb1, List.take_length, List.take_add_one, hm, Option.toList_some, List.all_append]; simp
              · rw [hbl1, Nat.add_mul, Nat.one_mul]
          · rintro acc ρ2 ⟨bs, rfl, hb, _, _, rfl⟩
            rw [List.length_map, List.length_map, List.take_length] at hb
            refine wa_nil (dc_all ?_)
            rw [hb]; exact h
  · refine if_nf (ws_ret (wd_bl (no ?_)))
    cases d <;> first | rfl | exact absurd rfl ht
end
end DL

set_option Elab.async false
set_option linter.all false
set_option maxRecDepth 100000
set_option maxHeartbeats 4000000
/-! PK4: sorted of a tuple of whole numbers -/
namespace DL
open PySem PySem.Spec PyProof.Rows L2
section
variable {prog : Program} {w : World} {A : Around} {E : Value → Shared → Prop} {s : Shared}
theorem collT {t : Addr} {vs : List Value} {Q : List Value → Shared → Prop} (ht : IsTup s.heap t vs.toArray) (hz : vs.length ≤ sizeLine)
    (q : Q vs { s with heap := (s.heap.push (seqObj "list" #[] 0)).update s.heap.objs.size (Obj.mapSeq (· ++ vs.toArray)) }) : wpAny (model prog w) A (collect (.ref t)) Q E s := by
  obtain ⟨o, ho, hc, n, hd⟩ := id ht
  unfold collect
  refine wpAny_bind
    (wpAny_runValue (codeAny_builtin entry_proto_collect' ?_))
  show wpAny _ _ (do
    again (.builtin "list.__iadd__" ⟨[← newList [], .ref t], []⟩)) _ _ s
  refine wpAny_bind (wpAny_newList (wpAny_pure
    ⟨Code.quiet_builtin _ (by decide +kernel), codeAny_builtin entry_list_iadd' ?_⟩))
  show wpAny _ _ (Builtin.List.listExtendWith (.ref s.heap.objs.size) (.ref t) (.ref s.heap.objs.size)) _ _
    { s with heap := s.heap.push (seqObj "list" #[] 0) }
  unfold Builtin.List.listExtendWith
  have ho2 : (s.heap.push (seqObj "list" #[] 0)).get? t = some o := Heap.get?_push_of_some _ ho
  refine wpAny_bind (wpAny_typeOf (T := "tuple") ⟨o, ho2, hc⟩ ?_)
  have htt : (Value.type "tuple" == Value.type "tuple") = true := by rfl
  rw [if_pos (by rw [htt]; simp)]
  refine wpAny_bind (listItems_at ho2 hd ?_)
  have new0 : (s.heap.push (seqObj "list" #[] 0)).get? s.heap.objs.size = some (seqObj "list" #[] 0) := Heap.get?_push_size _ rfl
  refine wpAny_bind (listItems_at (xs := #[]) (n := 0) new0 rfl ?_)
  rw [if_neg (by simp)]
  have fits : (#[] ++ vs.toArray).size ≤ sizeLine + 1 := by
    simp only [Array.size_append, List.size_toArray, List.length_nil]; omega
  refine wpAny_bind (listUpdate_at (xs := #[]) (n := 0) new0 rfl ?_ (Nat.zero_le _) fits)
  refine wpAny_pure ?_
  show wpAny (model prog w) A (do
      let z ← load s.heap.objs.size
      match z.data with
        | .seq xs _ => pure xs.toList
        | _ => unsupported "internal:collect") Q E
    { s with heap := (s.heap.push (seqObj "list" #[] 0)).update s.heap.objs.size (Obj.mapSeq (· ++ vs.toArray)) }
  refine wpAny_bind (wpAny_load (get?_update_seq new0 _) ?_)
  show wpAny _ _ (pure (((#[] : Array Value) ++ vs.toArray)).toList) _ _ _
  have same : ((#[] : Array Value) ++ vs.toArray).toList = vs := by simp
  rw [same]
  exact wpAny_pure q
/-- sorted(t), ints: as for a list -/
theorem sortT {t : Addr} {vs : List Value} {ns : List Int} {Q : Value → Shared → Prop} (ht : IsTup s.heap t vs.toArray) (hI : IntsAre vs ns) (hz : vs.length ≤ sizeLine)
    (h : ∀ out : List Value, SrtO.Srtd SrtO.ltIv out → SrtO.Stb SrtO.ltIv out vs → Q (.ref (s.heap.objs.size + 1)) { s with heap := sortedAll s.heap vs out.toArray }) : wpAny (model prog w) A (call (.builtin "sorted") [.ref t]) Q E s := by
  refine Calls.call_function_entry kind_sorted plain_sorted entry_sorted
    (args_sorted1 _) ?_
  unfold Builtin.«sorted»
  refine wpAny_bind (m := checkCount "sorted" 1 1 _)
    (wpAny_pure ?_)
  refine wpAny_bind (collT ht hz ?_)
  refine wpAny_bind (wpAny_newList ?_ hz)
  generalize hG : (s.heap.push (seqObj "list" #[] 0)).update s.heap.objs.size (Obj.mapSeq (· ++ vs.toArray)) = G
  have gs : G.objs.size = s.heap.objs.size + 1 := by
    rw [← hG, Heap.size_update, size_push']
  have gL : (G.push (seqObj "list" vs.toArray 0)).get? (s.heap.objs.size + 1) = some (seqObj "list" vs.toArray 0) := by
    rw [← gs]; exact Heap.get?_push_size _ rfl
  show wpAny _ _ _ _ _ { s with heap := G.push (seqObj "list" vs.toArray 0) }
  rw [gs]
  refine wpAny_bind (wpAny_holding (wpAny_call_entry slot_list_sort ⟨_, gL, rfl⟩ entry_list_sort
    (SrtO.list_sort_ord SrtO.swo_int gL hz (fun h2 => SrtO.ints_sortable hI h2) fun out hs hb => ⟨_, rfl, ?_⟩)
    (args_list_sort _)))
  refine wpAny_pure ⟨_, rfl, ?_⟩
  have := h out hs hb
  unfold sortedAll at this
  rw [hG] at this
  exact this
end
/-- sorted(xs), ints of a list or of a tuple -/
def rSortR (K : PySem.W.Frag) : List V → Hp → VK → Prop := fun vs H Q => ∃ (a : Addr) (ns : List Int), vs = [V.ref a] ∧ (SqL K H a (ns.map V.int) ∨ SqT K H a (ns.map V.int)) ∧
  ∀ (ms : List Int) (p : Addr), ms.Perm ns → ms.Pairwise (· ≤ ·) → H p = none → Q (.ref p) (upd H p (.lst (ms.map V.int)))
theorem cr_sortR {X : Cx} : CallR X (.builtin "sorted") (rSortR X.K) := by
  intro pins s σ H vs us Q I r h
  obtain ⟨a, ns, rfl, hs | hs, q⟩ := h
  · exact cr_sortedI pins s σ H _ us Q I r ⟨a, ns, rfl, hs, q⟩
  · obtain ⟨its, rv, hl, hz⟩ := I.tuple hs
    rw [Vals.ref1 r]
    have hi := rv.ints
    refine sortT hl hi (by rw [← rv.length]; exact hz) fun out h1 h2 => ?_
    obtain ⟨k1, k2, k3⟩ := SrtO.ints_out hi h1 h2
    obtain ⟨ep, he⟩ := PyProof.Rows.sortedAll_at s.heap its out.toArray
    have hlen : ((out.map SrtO.iv).map V.int).length ≤ sizeLine := by
      rw [List.length_map, k2.length_eq]
      rw [List.length_map] at hz
      exact hz
    exact ⟨.ref _, upd H (s.heap.objs.size + 1) (.lst ((out.map SrtO.iv).map V.int)), I.laid (t' := s.toks) (fun _ _ => PyProof.Rows.sortedAll_old) (Nat.le_succ _) ⟨hlen, out, ep, vals_of_ints k1, he⟩, rfl, q _ _ k2 k3 (I.hok.fresh (Nat.le_succ _))⟩
section
variable {K : PySem.W.Frag} {Ψ : PyData → Prop}
theorem dc_sortT {ns : List Int} (f : ∀ ms : List Int, ms.Perm ns → ms.Pairwise (· ≤ ·) → Ψ (.list (ms.map PyData.int))) : DC K (rSortR K) [.tuple (ns.map PyData.int)] Ψ := fun N H hN us hu Q q => by
  cases hu with
  | cons d1 d2 =>
    cases d2
    obtain ⟨p, xs, rfl, _, h1, h2⟩ := Dq.tup_inv (N := N) (H := H) d1
    obtain rfl := h2.of_ints
    refine ⟨p, ns, rfl, .inr h1, fun ms r hp hr hn => q _ _ _ (f ms hp hr) (same_new hn _) (Dq.lst (fresh_av hN hn) upd_same DqAll.ints)⟩
end
end DL

set_option Elab.async false
set_option linter.all false
set_option maxRecDepth 100000
set_option maxHeartbeats 4000000
/-! PK5: the least and the greatest of a tuple of whole numbers -/
namespace DL
open PySem PySem.Spec PyProof.Rows L2
section
variable {prog : Program} {w : World} {A : Around} {E : Value → Shared → Prop} {s : Shared} {t : Addr} {xs : Array (Int × Tok)}
theorem itT {Q : Value → Shared → Prop} (ht : IsTup s.heap t (intItems xs))
    (q : ∀ z : Shared, z = { s with heap := s.heap.push { cls := .type "tuple_iterator", data := .fields #[.ref t, .int 0 0] } } →
      (z.heap.IsTupleIter s.heap.objs.size t 0 ∧ z.heap.IsTuple t (intItems xs)) → (∀ b ∈ [s.heap.objs.size, t], b < z.heap.objs.size) → t ≠ s.heap.objs.size → Q (.ref s.heap.objs.size) z) :
    wpAny (model prog w) A (pyIter (.ref t)) Q E s := by
  have lt : t < s.heap.objs.size := by obtain ⟨_, e, _⟩ := ht; exact Heap.lt_size e
  refine PyProof.Rows.iter_tuple ht (q _ rfl ⟨⟨_, Heap.get?_push_size _ rfl, rfl, rfl⟩, ht.push _⟩ (fun b hb => ?_) (Nat.ne_of_lt lt))
  show b < (s.heap.push _).objs.size
  rw [Heap.size_push]
  simp only [List.mem_cons, List.not_mem_nil, or_false] at hb
  rcases hb with rfl | rfl
  · exact Nat.lt_succ_self _
  · exact Nat.lt_succ_of_lt lt
theorem keptT {h2 : Heap} (k : ∀ b o, b ∉ [s.heap.objs.size] → (s.heap.push { cls := .type "tuple_iterator", data := .fields #[.ref t, .int 0 0] }).get? b = some o → h2.get? b = some o) :
    ∀ b o, s.heap.get? b = some o → h2.get? b = some o := fun b o e => by
  have := Heap.lt_size e
  exact k b o (fun z => by rw [List.mem_singleton] at z; rw [z] at this; exact Nat.lt_irrefl _ this) (Heap.get?_push_of_some _ e)
theorem bigT {Q : Value → Shared → Prop} (hh : A.handled = none) (ht : IsTup s.heap t (intItems xs)) (ne : 0 < xs.size)
    (q : ∀ v h2 tk, (intItems xs)[argBest (fun i j => decide (numAt xs i > numAt xs j)) (xs.size - 1)]? = some v → (∀ b o, s.heap.get? b = some o → h2.get? b = some o) → Q v { s with heap := h2, toks := tk }) :
    wpAny (model prog w) A (call (.builtin "max") [.ref t]) Q E s := by
  refine call_max_walk (itT ht fun z e st fp ne2 => ?_)
  subst e
  refine ⟨_, _, _, _, _, _, _, rfl, Walks.tuple (A := A.in1) hh _ t ne2 (intItems xs), st, fp, by simpa [intItems] using ne, CmpOf.ints_gt (numAt xs) (fun _ _ => intItems_at), fun v h2 tk hP k => ?_⟩
  exact q v h2 tk (by simpa [intItems] using hP) (keptT k)
theorem smallT {Q : Value → Shared → Prop} (hh : A.handled = none) (ht : IsTup s.heap t (intItems xs)) (ne : 0 < xs.size)
    (q : ∀ v h2 tk, (intItems xs)[argBest (fun i j => decide (numAt xs i < numAt xs j)) (xs.size - 1)]? = some v → (∀ b o, s.heap.get? b = some o → h2.get? b = some o) → Q v { s with heap := h2, toks := tk }) :
    wpAny (model prog w) A (call (.builtin "min") [.ref t]) Q E s := by
  refine call_min_walk (itT ht fun z e st fp ne2 => ?_)
  subst e
  refine ⟨_, _, _, _, _, _, _, rfl, Walks.tuple (A := A.in1) hh _ t ne2 (intItems xs), st, fp, by simpa [intItems] using ne, CmpOf.ints_lt (numAt xs) (fun _ _ => intItems_at), fun v h2 tk hP k => ?_⟩
  exact q v h2 tk (by simpa [intItems] using hP) (keptT k)
end
section
variable {prog : Program} {w : World} {A : Around} {E : Value → Shared → Prop} {s : Shared} {t : Addr} {its : List Value} {ns : List Int} {Q : Value → Shared → Prop}
theorem maxT (hh : A.handled = none) (ht : IsTup s.heap t its.toArray) (hi : IntsAre its ns) (ne : 0 < ns.length)
    (q : ∀ h2 tk m u, (∀ b o, s.heap.get? b = some o → h2.get? b = some o) → m ∈ ns → (∀ a, a ∈ ns → a ≤ m) → Q (.int m u) { s with heap := h2, toks := tk }) : wpAny (model prog w) A (call (.builtin "max") [.ref t]) Q E s := by
  obtain ⟨xs, e⟩ := hi.allInts.items
  have en : numsOf (intItems xs).toList = ns := by rw [← e]; exact hi.numsOf
  rw [nums_intItems] at en
  subst en
  rw [e] at ht
  refine bigT hh ht (by simpa using ne) fun v h2 tk hv k => ?_
  obtain ⟨u, rfl⟩ := intItems_at hv
  obtain ⟨b1, b2⟩ := argBest_gt (numAt xs) (xs.size - 1)
  have sz : 0 < xs.size := by simpa using ne
  refine q h2 tk _ u k ?_ fun a ha => ?_
  · rw [numAt_eq]
    exact PySem.getD_mem (by rw [List.length_map, Array.length_toList]; omega)
  · obtain ⟨j, hj, rfl⟩ := mem_getD ha
    rw [List.length_map, Array.length_toList] at hj
    rw [← numAt_eq]
    exact b2 j (by omega)
theorem minT (hh : A.handled = none) (ht : IsTup s.heap t its.toArray) (hi : IntsAre its ns) (ne : 0 < ns.length)
    (q : ∀ h2 tk m u, (∀ b o, s.heap.get? b = some o → h2.get? b = some o) → m ∈ ns → (∀ a, a ∈ ns → m ≤ a) → Q (.int m u) { s with heap := h2, toks := tk }) : wpAny (model prog w) A (call (.builtin "min") [.ref t]) Q E s := by
  obtain ⟨xs, e⟩ := hi.allInts.items
  have en : numsOf (intItems xs).toList = ns := by rw [← e]; exact hi.numsOf
  rw [nums_intItems] at en
  subst en
  rw [e] at ht
  refine smallT hh ht (by simpa using ne) fun v h2 tk hv k => ?_
  obtain ⟨u, rfl⟩ := intItems_at hv
  obtain ⟨b1, b2⟩ := argBest_lt (numAt xs) (xs.size - 1)
  have sz : 0 < xs.size := by simpa using ne
  refine q h2 tk _ u k ?_ fun a ha => ?_
  · rw [numAt_eq]
    exact PySem.getD_mem (by rw [List.length_map, Array.length_toList]; omega)
  · obtain ⟨j, hj, rfl⟩ := mem_getD ha
    rw [List.length_map, Array.length_toList] at hj
    rw [← numAt_eq]
    exact b2 j (by omega)
end
def rMaxT (K : PySem.W.Frag) : List V → Hp → VK → Prop := fun vs H Q => ∃ (a : Addr) (ns : List Int), vs = [V.ref a] ∧ SqT K H a (ns.map V.int) ∧ 0 < ns.length ∧ ∀ m, m ∈ ns → (∀ y, y ∈ ns → y ≤ m) → Q (.int m) H
def rMinT (K : PySem.W.Frag) : List V → Hp → VK → Prop := fun vs H Q => ∃ (a : Addr) (ns : List Int), vs = [V.ref a] ∧ SqT K H a (ns.map V.int) ∧ 0 < ns.length ∧ ∀ m, m ∈ ns → (∀ y, y ∈ ns → m ≤ y) → Q (.int m) H
theorem cr_maxT {X : Cx} (hc : X.calm = true) : CallR X (.builtin "max") (rMaxT X.K) := by
  intro pins s σ H vs us Q I r h
  obtain ⟨a, ns, rfl, hs, hne, q⟩ := h
  obtain ⟨its, rv, hl, _⟩ := I.tuple hs
  rw [Vals.ref1 r]
  exact maxT (I.ok.hd hc) hl rv.ints hne fun h2 tk m u k h1 h3 => ⟨.int _, H, I.kept k, ⟨_, rfl⟩, q m h1 h3⟩
theorem cr_minT {X : Cx} (hc : X.calm = true) : CallR X (.builtin "min") (rMinT X.K) := by
  intro pins s σ H vs us Q I r h
  obtain ⟨a, ns, rfl, hs, hne, q⟩ := h
  obtain ⟨its, rv, hl, _⟩ := I.tuple hs
  rw [Vals.ref1 r]
  exact minT (I.ok.hd hc) hl rv.ints hne fun h2 tk m u k h1 h3 => ⟨.int _, H, I.kept k, ⟨_, rfl⟩, q m h1 h3⟩
section
variable {K : PySem.W.Frag} {Ψ : PyData → Prop}
theorem dc_maxT {ns : List Int} (h0 : 0 < ns.length) (f : ∀ m, m ∈ ns → (∀ y, y ∈ ns → y ≤ m) → Ψ (.int m)) : DC K (rMaxT K) [.tuple (ns.map PyData.int)] Ψ := fun N H hN us hu Q q => by
  cases hu with
  | cons d1 d2 =>
    cases d2
    obtain ⟨p, xs, rfl, _, h1, h2⟩ := Dq.tup_inv (N := N) (H := H) d1
    obtain rfl := h2.of_ints
    exact ⟨p, ns, rfl, h1, h0, fun m hm hx => q _ _ H (f m hm hx) (Same.refl H) (Dt.int _)⟩
theorem dc_minT {ns : List Int} (h0 : 0 < ns.length) (f : ∀ m, m ∈ ns → (∀ y, y ∈ ns → m ≤ y) → Ψ (.int m)) : DC K (rMinT K) [.tuple (ns.map PyData.int)] Ψ := fun N H hN us hu Q q => by
  cases hu with
  | cons d1 d2 =>
    cases d2
    obtain ⟨p, xs, rfl, _, h1, h2⟩ := Dq.tup_inv (N := N) (H := H) d1
    obtain rfl := h2.of_ints
    exact ⟨p, ns, rfl, h1, h0, fun m hm hx => q _ _ H (f m hm hx) (Same.refl H) (Dt.int _)⟩
end
end DL

set_option Elab.async false
set_option linter.all false
set_option maxRecDepth 100000
set_option maxHeartbeats 4000000
/-! PK6: sets and foldings, as the law looks at them -/
namespace DL
open PySem PySem.Spec PyProof.Rows L2
section
variable {K : PySem.W.Frag} {S : Stt} {ρ : Rho} {Φ : PyData → Rho → Prop} {Ψ : PyData → Prop}
theorem bools_of {N : Av} {H : Hp} : ∀ {vs : List V} {bs : List Bool}, DqAll K N H vs (bs.map PyData.bool) → vs = bs.map V.bl := by
  intro vs bs h
  induction bs generalizing vs with
  | nil => cases h; rfl
  | cons n ns ih =>
    cases h with
    | cons h1 h2 => cases h1; rw [ih h2]; rfl
theorem inV_bools (c : Bool) : ∀ bs : List Bool, inV (.bl c) (bs.map V.bl) = decide (c ∈ bs)
  | [] => by simp [inV]
  | a :: r => by
    have ih := inV_bools c r
    unfold inV at ih ⊢
    rw [List.map_cons, List.any_cons, ih]
    have e : eqV (.bl a) (.bl c) = decide (a = c) := by cases a <;> cases c <;> rfl
    rw [e]
    by_cases h : a = c
    · subst h; simp
    · have h2 : ¬ c = a := fun z => h z.symm
      simp [h, h2]
theorem do_inB {c neg : Bool} {bs : List Bool} (f : Ψ (.bool (if neg = true then !decide (c ∈ bs) else decide (c ∈ bs)))) : DO K (rIn K neg) (.bool c) (.list (bs.map PyData.bool)) Ψ := fun N H _ u w hu hw Q q => by
  cases hu
  obtain ⟨p, xs, rfl, _, h1, h2⟩ := hw.lst_inv
  obtain rfl := bools_of h2
  have fl : (bs.map V.bl).all flatV = true := by rw [List.all_eq_true]; intro x hx; obtain ⟨k, _, rfl⟩ := List.mem_map.mp hx; rfl
  refine ⟨p, _, rfl, .inl (.inl h1), rfl, fl, ?_⟩
  rw [inV_bools]
  exact q _ _ H f (Same.refl H) (Dt.bl _)
theorem do_inVe {i : Int} {ns : List Int} {d : PyData} (e : d = .tuple (ns.map PyData.int)) (f : Ψ (.bool (decide (i ∈ ns)))) : DO K (rIn K false) (.int i) d Ψ := by
  subst e; exact do_inV f
theorem dc_lenTe {d : PyData} {ds : List PyData} (e : d = .tuple ds) (f : Ψ (.int ds.length)) : DC K (rLenX K) [d] Ψ := by
  subst e; exact dc_lenT f
theorem sh_ints (ns : List Int) : Sh 1 (.list (ns.map PyData.int)) := Sh.lst fun x hx => by
  obtain ⟨b, _, rfl⟩ := List.mem_map.mp hx
  exact Sh.int
end
theorem ris_len : ∀ {s : List Int} {a n : Int}, Ris s → (∀ x ∈ s, a ≤ x ∧ x < n) → s.length ≤ (n - a).toNat
  | [], _, _, _, _ => Nat.zero_le _
  | x :: r, a, n, h, hx => by
    obtain ⟨h1, h2⟩ := List.pairwise_cons.mp h
    have ih := ris_len (s := r) (a := x + 1) (n := n) h2 fun y hy => ⟨by have := h1 y hy; omega, (hx y (List.mem_cons_of_mem _ hy)).2⟩
    have := hx x List.mem_cons_self
    rw [List.length_cons]
    omega
theorem false_in {bs : List Bool} : decide (false ∈ bs) = !bs.all id := by
  induction bs with
  | nil => rfl
  | cons a r ih =>
    rw [List.all_cons, Bool.not_and, ← ih]
    cases a <;> simp
theorem rng_ris (s : List Int) : ((List.range (s.length - 1)).map fun k => decide (s.getD k 0 < s.getD (k + 1) 0)).all id = decide (Ris s) := by
  rw [Bool.eq_iff_iff, List.all_eq_true, decide_eq_true_iff, ris_iff]
  constructor
  · intro h k a b ha hb
    have hk := (List.getElem?_eq_some_iff.mp hb).1
    have := h (decide (s.getD k 0 < s.getD (k + 1) 0)) (List.mem_map.mpr ⟨k, List.mem_range.mpr (by omega), rfl⟩)
    have h2 := of_decide_eq_true (show decide (s.getD k 0 < s.getD (k + 1) 0) = true from this)
    rw [List.getD_eq_getElem?_getD, List.getD_eq_getElem?_getD, ha, hb] at h2
    exact h2
  · intro h x hx
    obtain ⟨k, hk, rfl⟩ := List.mem_map.mp hx
    have hk2 := List.mem_range.mp hk
    refine decide_eq_true ?_
    have e1 := List.getElem?_eq_getElem (l := s) (i := k) (by omega)
    have e2 := List.getElem?_eq_getElem (l := s) (i := k + 1) (by omega)
    rw [List.getD_eq_getElem?_getD, List.getD_eq_getElem?_getD, e1, e2]
    exact h k _ _ e1 e2
theorem cut_1 {l : List PyData} : cutD l (some 1) none = l.drop 1 := cutD_drop (n := 1) rfl
/-- of no great numbers, of no great depth -/
structure Tq (d : PyData) : Prop where
  t : Tm d
  s : Sh 10 d
def TIsSetL : List PyData → (PyData → Prop) → Prop := fun ds Φ => ∃ (n : Int) (d : PyData), ds = [.int n, d] ∧ Tq d ∧ Φ (.bool (setB n d))
def TDueL : List PyData → (PyData → Prop) → Prop := fun ds Φ => ∃ (n : Int) (d : PyData), ds = [.int n, d] ∧ (tyD d = "tuple" → Tq d) ∧ (∀ xs, d = .tuple xs → ∀ x ∈ xs, Tq x) ∧ Φ (.bool (foldP n d))
local macro_rules | `(tactic| walk_at "dl") => `(tactic| repeat' (first
  | with_reducible refine wd_isTy ?_ | with_reducible refine wd_isi ?_ | ((with_reducible show WD _ _ (tOp (rIxL _) (tVar _) _) _ _); refine wd_ix_own rfl ?_) | with_reducible refine wd_op ?_ | ((with_reducible show WD _ _ (tCB (rLenX _) (tCons (tVar _) tNil)) _ _); refine wd_len_scr rfl ?_) | ((with_reducible show WD _ _ (tCB (rLenX _) (tCons (tVar _) tNil)) _ _); refine wd_len_own rfl ?_) | with_reducible refine wd_cb ?_ | with_reducible refine wd_un ?_ | with_reducible refine wa_cons ?_ | with_reducible refine wa_nil ?_ | ((with_reducible show WD _ _ (tVar _) _ _); refine wd_var rfl ?_) | with_reducible refine wd_int ?_ | with_reducible refine wd_bl ?_ | with_reducible refine wd_str ?_ | with_reducible refine wd_non ?_
  | with_reducible refine do_nesS ?_ | with_reducible refine dc_intB ?_ | with_reducible refine do_add ?_ | with_reducible refine do_sub ?_ | ((with_reducible refine do_mod ?_ ?_); decide) | with_reducible refine do_mod ?_ ?_ | with_reducible refine do_mul ?_ ?_ | ((with_reducible refine do_div ?_ ?_); exact ⟨by decide, by decide⟩) | with_reducible refine do_div ?_ ?_ | ((with_reducible refine do_pow ?_ ?_); exact ⟨by decide, by decide, by decide⟩) | with_reducible refine do_pow ?_ ?_
  | with_reducible refine do_lt ?_ | with_reducible refine do_le ?_ | with_reducible refine do_gt ?_ | with_reducible refine do_ge ?_ | with_reducible refine du_neg ?_
  | with_reducible refine do_eqi ?_ | with_reducible refine do_nei ?_ | with_reducible refine do_eqs ?_ | with_reducible refine do_nes ?_ | with_reducible refine dc_abs ?_ | with_reducible refine dc_min ?_ | with_reducible refine dc_max ?_ | with_reducible refine dc_lenL ?_ | with_reducible refine dc_lenT ?_ | with_reducible refine dc_lenR ?_ | with_reducible refine dc_listT ?_ | with_reducible refine dc_listL ?_ | with_reducible refine dc_tupL ?_ | with_reducible refine dc_gcd ?_
  | ((with_reducible show DO _ (rIxT _) _ _ _); refine do_ixT rfl ?_) | ((with_reducible show DO _ (rIxL _) _ _ _); refine do_ixL rfl ?_) | ((with_reducible refine do_catL ?_ ?_); exact Nat.le_of_ble_eq_true rfl) | with_reducible refine do_catL ?_ ?_ | ((with_reducible show And (List.length _ ≤ sizeLine) _); refine ⟨Nat.le_of_ble_eq_true rfl, ?_⟩)
  | with_reducible refine wd_dnew ?_ | with_reducible refine wd_call0 ?_ | with_reducible refine wd_slA ?_ | with_reducible refine wd_slL ?_ | with_reducible refine wd_revT ?_ | with_reducible refine do_catA ?_ ?_ | with_reducible refine wo_part ?_ | with_reducible refine wo_none ?_ | with_reducible refine do_eqQ ?_ | with_reducible refine do_neQ ?_ | with_reducible refine wi_enumT ?_ | with_reducible refine wi_enumD ?_ | with_reducible refine tAdQ (by omega) (by omega) ?_ | with_reducible refine tSbQ (by omega) (by omega) ?_ | with_reducible refine tMlQ (by omega) (by omega) ?_ | with_reducible refine tDvQ (by assumption) (by omega) (by omega) ?_ | with_reducible refine tLtQ (by omega) (by omega) ?_ | with_reducible refine dc_str ?_ ?_ | with_reducible refine wd_tup ?_ | with_reducible refine wd_lst ?_ | with_reducible refine wt_test ?_ | with_reducible refine wt_B ?_ | with_reducible refine wt_not ?_ | with_reducible refine wt_and ?_ | with_reducible refine wt_or ?_ | with_reducible refine wd_ifE ?_ | with_reducible refine wd_andV ?_ | with_reducible refine wd_orV ?_ | with_reducible refine wd_notV ?_
  | with_reducible refine ws_seq ?_ | with_reducible refine ws_next ?_ | with_reducible refine ws_asg ?_ | with_reducible refine ws_ret ?_ | with_reducible refine ws_retN ?_ | with_reducible refine ws_if ?_ | with_reducible refine ws_par ?_ | with_reducible refine ws_unp2 ?_
  | with_reducible refine if_t ?_ | with_reducible refine if_f ?_ | with_reducible refine if_nf ?_ | with_reducible refine if_nt ?_
  | ((with_reducible show Exists _); first | refine ⟨_, kitInt _, ?_⟩ | refine ⟨_, kitBool _, ?_⟩ | refine ⟨_, kitTup _, ?_⟩ | refine ⟨_, kitList _, ?_⟩ | refine ⟨_, rfl, ?_⟩ | refine ⟨_, _, rfl, ?_⟩ | fail) | fail))
def t_wholeL (K : PySem.W.Frag) : TS :=
  (tRet (tAndV (tCB (rIsi K) (tCons (tVar 0) (tCons (tC (.ty "int")) tNil))) (tNotV (tCB (rIsi K) (tCons (tVar 0) (tCons (tC (.ty "bool")) tNil))))))
def t_issetL (K : PySem.W.Frag) : TS :=
  (tSeq (tIfS (tOr (tNot (tB (tCB (rIsi K) (tCons (tVar 1) (tCons (tC (.ty "tuple")) tNil))))) (tTest (tOp (rEqD K) (tVar 1) (tTup tNil)))) (tRet (tC (.bl false))) tNext)
    (tSeq (tIfS (tTest (tOp (rIn K false) (tC (.bl false)) (tLc (iTup K (tVar 1)) (gName 2) tYes (tCall (spP K TWholeA) [] E0 (tCons (tVar 2) tNil)) [2]))) (tRet (tC (.bl false))) tNext)
    (tSeq (tIfS (tOr (tTest (tOp rLt (tCB (rMinT K) (tCons (tVar 1) tNil)) (tC (.int 0)))) (tTest (tOp rGe (tCB (rMaxT K) (tCons (tVar 1) tNil)) (tVar 0)))) (tRet (tC (.bl false))) tNext)
    (tRet (tOp (rIn K true) (tC (.bl false)) (tLc (RZ.iZipA K (tCons (tVar 1) (tCons (tSl (rSlA K) (tVar 1) (tPart (tC (.int 1))) tNoPart) tNil))) (gTup K 2 (gCons (gName 3) (gCons (gName 4) gNil))) tYes (tOp rLt (tVar 3) (tVar 4)) [3, 4]))))))
def t_dueL (K : PySem.W.Frag) : TS :=
  (tSeq (tIfS (tOr (tNot (tB (tCB (rIsi K) (tCons (tVar 1) (tCons (tC (.ty "tuple")) tNil))))) (tTest (tOp rGt (tCB (rLenX K) (tCons (tVar 1) tNil)) (tC (.int 40))))) (tRet (tC (.bl false))) tNext)
    (tSeq (tIfS (tTest (tOp (rIn K false) (tC (.bl false)) (tLc (iTup K (tVar 1)) (gName 6) tYes (tCall (spP K TIsSetL) [] E0 (tCons (tVar 0) (tCons (tVar 6) tNil))) [6]))) (tRet (tC (.bl false))) tNext)
    (tSeq (tFor (iEnumT K (tCons (tVar 1) tNil)) (gTup K 2 (gCons (gName 2) (gCons (gName 3) gNil))) (tFor (iTup K (tSl (rSlA K) (tVar 1) (tPart (tOp rAddI (tVar 2) (tC (.int 1)))) tNoPart)) (gName 4) (tSeq (tAsg (tLc (iTup K (tVar 3)) (gName 7) (tTest (tOp (rIn K false) (tVar 7) (tVar 4))) (tVar 7) [7]) (gName 5))
    (tIfS (tAnd (tTest (tOp (rNeD K) (tVar 5) (tLst tNil))) (tTest (tOp rLt (tCB (rLenX K) (tCons (tVar 5) tNil)) (tCB rMinX (tCons (tCB (rLenX K) (tCons (tVar 3) tNil)) (tCons (tCB (rLenX K) (tCons (tVar 4) tNil)) tNil)))))) (tRet (tC (.bl false))) tNext))))
    (tRet (tC (.bl true))))))
section
variable {K : PySem.W.Frag} {ds : List PyData} {Φ : PyData → Prop}
theorem ws_wholeL (h : TWholeA ds Φ) : WS K S0 (t_wholeL K) (rhoOf 1 ds) { nx := fun _ => Φ .none, rt := fun d _ => Φ d } := by
  obtain ⟨d, rfl, h⟩ := h
  show WS K S0 (t_wholeL K) [.dat d] _
  unfold t_wholeL
  refine ws_ret (wd_andV (wd_isi (wd_var rfl ⟨_, kitInt _, _, rfl, ?_⟩)))
  by_cases ci : tyD d = "int"
  · rw [ci, show (("int" : String) == "int" || ("int" : String) == "bool") = true from rfl, if_pos rfl]
    refine wd_notV (wd_isi (wd_var rfl ⟨_, kitBool _, ?_⟩))
    rw [ci]
    rw [decide_eq_true ci] at h
    exact ⟨_, rfl, h⟩
  · by_cases cb : tyD d = "bool"
    · rw [cb, show (("bool" : String) == "int" || ("bool" : String) == "bool") = true from rfl, if_pos rfl]
      refine wd_notV (wd_isi (wd_var rfl ⟨_, kitBool _, ?_⟩))
      rw [cb]
      rw [decide_eq_false ci] at h
      exact ⟨_, rfl, h⟩
    · rw [show (tyD d == "int" || tyD d == "bool") = false by simp [ci, cb], if_neg Bool.false_ne_true]
      rw [decide_eq_false ci] at h
      exact h
theorem ws_issetL (h : TIsSetL ds Φ) : WS K S0 (t_issetL K) (rhoOf 5 ds) { nx := fun _ => Φ .none, rt := fun d _ => Φ d } := by
  obtain ⟨n, d, rfl, tq, h⟩ := h
  show WS K S0 (t_issetL K) [.dat (.int n), .dat d, .unk, .unk, .unk] _
  unfold t_issetL
  have no : setB n d = false → Φ (.bool false) := fun z => by rw [z] at h; exact h
  refine ws_seq (ws_if (wt_or (wt_not (wt_B (wd_isi (wd_var rfl ⟨_, kitTup _, _, rfl, ?_⟩))))))
  by_cases ct : tyD d = "tuple"
  · obtain ⟨xs, rfl⟩ := tuple_of ct
    have xl := tq.t.len
    rw [show (!tyD (PyData.tuple xs) == "tuple") = false from rfl, if_neg Bool.false_ne_true]
    refine wt_test (wd_op (wd_var rfl (wd_tup (wa_nil ⟨Nat.le_of_ble_eq_true rfl, do_eqD (tq.s.ok (by decide)) rfl ⟨_, rfl, ?_⟩⟩))))
    have ne : xs ≠ [] → 0 < xs.length := fun z => List.length_pos_iff.mpr z
    cases hx : xs with
    | nil =>
      subst hx
      rw [show PyData.eqv (.tuple []) (.tuple []) = true from rfl, if_pos rfl]
      exact ws_ret (wd_bl (no (by simp [setB])))
    | cons x r =>
      rw [show PyData.eqv (.tuple (x :: r)) (.tuple []) = false from rfl, if_neg Bool.false_ne_true]
      rw [← hx]
      have xp : 0 < xs.length := by rw [hx]; exact Nat.succ_pos _
      clear hx
      refine ws_next (ws_seq (ws_if (wt_test (wd_op (wd_bl (wd_lc (wi_tup (wd_var rfl ⟨xs, rfl, by rw [sizeLine_eq]; omega, fun j acc ρ => acc = ((xs.take j).map fun d => decide (tyD d = "int")).map PyData.bool ∧ ∃ s1 s2 s3 : Sl, ρ = [.dat (.int n), .dat (.tuple xs), s1, .unk, .unk], ⟨rfl, .unk, .unk, .unk, rfl⟩, ?_, ?_⟩))))))))
      · rintro j d acc ρ2 hd ⟨rfl, s1, _, _, rfl⟩
        refine ⟨_, _, gd_name, fun j hj => hj, ?_⟩
        refine wt_yes ?_
        refine wd_call0 (wa_cons (wd_var rfl (wa_nil ⟨d, rfl, ?_, _, .unk, .unk, rfl⟩)))
        rw [List.take_add_one, hd, Option.toList_some, List.map_append, List.map_append]; rfl
      · rintro acc ρ2 ⟨rfl, s1, _, _, rfl⟩
        rw [List.take_length]
        refine do_inB ⟨_, rfl, ?_⟩
        rw [if_neg Bool.false_ne_true, false_in]
        cases ha : (xs.map fun d => decide (tyD d = "int")).all id with
        | false =>
          refine if_t (ws_ret (wd_bl (no ?_)))
          have : xs.all (plB n) = false := by
            cases e : xs.all (plB n) with
            | false => rfl
            | true =>
              rw [List.all_map] at ha
              have : xs.all (fun d => decide (tyD d = "int")) = true := List.all_eq_true.mpr fun d hd => by
                have := List.all_eq_true.mp e d hd
                cases d <;> first | rfl | exact absurd this Bool.false_ne_true
              have ha : xs.all (fun d => decide (tyD d = "int")) = false := ha
              rw [this] at ha; cases ha
          show (_ && (xs.all (plB n) && _)) = false
          rw [this, Bool.false_and, Bool.and_false]
        | true =>
          refine if_f (ws_next ?_)
          rw [List.all_map] at ha
          have hi : ∀ d ∈ xs, d = .int (intD d) := fun d hd => by
            have := of_decide_eq_true (show decide (tyD d = "int") = true from List.all_eq_true.mp ha d hd)
            cases d <;> first | rfl | (simp [tyD] at this)
          have ex : xs = (xs.map intD).map PyData.int := by
            rw [List.map_map]
            refine (List.map_id' xs).symm.trans (List.map_congr_left fun d hd => hi d hd)
          generalize hns : xs.map intD = ns at ex
          subst ex
          have ml : ns.length ≤ 1000 := by rw [List.length_map] at xl; exact xl
          have mp : 0 < ns.length := by rw [List.length_map] at xp; exact xp
          have pl : ((ns.map PyData.int).all (plB n)) = ns.all fun i => decide (0 ≤ i) && decide (i < n) := by rw [List.all_map]; rfl
          have sB : setB n (.tuple (ns.map PyData.int)) = ((ns.all fun i => decide (0 ≤ i) && decide (i < n)) && decide (Ris ns)) := by
            show ((decide (1 ≤ (((ns.map PyData.int).length : Nat) : Int)) && decide ((((ns.map PyData.int).length : Nat) : Int) ≤ n)) && ((ns.map PyData.int).all (plB n) && decide (Ris ((ns.map PyData.int).map intD)))) = _
            rw [hns, pl, List.length_map, decide_eq_true (show (1 : Int) ≤ ((ns.length : Nat) : Int) by omega), Bool.true_and]
            cases e : ((ns.all fun i => decide (0 ≤ i) && decide (i < n)) && decide (Ris ns)) with
            | false => rw [Bool.and_false]
            | true =>
              rw [Bool.and_true]
              rw [Bool.and_eq_true] at e
              have r := ris_len (a := 0) (n := n) (of_decide_eq_true e.2) fun i hi => by
                have := List.all_eq_true.mp e.1 i hi
                rw [Bool.and_eq_true] at this
                exact ⟨of_decide_eq_true this.1, of_decide_eq_true this.2⟩
              exact decide_eq_true (by omega)
          rw [sB] at h no
          refine ws_seq (ws_if (wt_or (wt_test (wd_op (wd_cb (wa_cons (wd_var rfl (wa_nil (dc_minT mp fun lo l1 l2 => wd_int (do_lt ⟨_, rfl, ?_⟩))))))))))
          refine if_b (fun c => ?_) (fun c => ?_)
          · refine if_t (ws_ret (wd_bl (no ?_)))
            have : (ns.all fun i => decide (0 ≤ i) && decide (i < n)) = false := by
              cases e : (ns.all fun i => decide (0 ≤ i) && decide (i < n)) with
              | false => rfl
              | true =>
                have := List.all_eq_true.mp e lo l1
                rw [decide_eq_false (by omega)] at this; cases this
            rw [this]; rfl
          refine wt_test (wd_op (wd_cb (wa_cons (wd_var rfl (wa_nil (dc_maxT mp fun hi h1 h2 => wd_var rfl (do_ge ⟨_, rfl, ?_⟩)))))))
          refine if_b (fun c2 => ?_) (fun c2 => ?_)
          · refine ws_ret (wd_bl (no ?_))
            have : (ns.all fun i => decide (0 ≤ i) && decide (i < n)) = false := by
              cases e : (ns.all fun i => decide (0 ≤ i) && decide (i < n)) with
              | false => rfl
              | true =>
                have := List.all_eq_true.mp e hi h1
                rw [decide_eq_false (show ¬ hi < n by omega), Bool.and_false] at this; cases this
            rw [this]; rfl
          have all : (ns.all fun i => decide (0 ≤ i) && decide (i < n)) = true := List.all_eq_true.mpr fun i hi2 => by
            have a := l2 i hi2
            have b := h2 i hi2
            rw [decide_eq_true (by omega), decide_eq_true (by omega)]; rfl
          rw [all, Bool.true_and] at h
          refine ws_next ?_
          refine ws_ret (wd_op (wd_bl (wd_lc (wi_zipT (wa_cons (wd_var rfl (wa_cons (wd_slA (wd_var rfl ⟨_, rfl, wo_part (wd_int ⟨1, rfl, wo_none (wa_nil ⟨_, _, rfl, ?_⟩)⟩)⟩)))))))))
          rw [cut_1]
          have g : ∀ k, k < ns.length → (ns.map PyData.int)[k]? = some (.int (ns.getD k 0)) := fun k hk => by
            rw [List.getElem?_map, List.getElem?_eq_getElem hk, List.getD_eq_getElem?_getD, List.getElem?_eq_getElem hk]; rfl
          have zl : (List.zipWith (fun x y => PyData.tuple [x, y]) (ns.map PyData.int) ((ns.map PyData.int).drop 1)).length = ns.length - 1 := by
            rw [List.length_zipWith, List.length_drop, List.length_map]; omega
          refine ⟨by rw [zl, sizeLine_eq]; omega, fun k acc ρ => acc = ((List.range k).map fun j => decide (ns.getD j 0 < ns.getD (j + 1) 0)).map PyData.bool ∧ ρ = [.dat (.int n), .dat (.tuple (ns.map PyData.int)), .unk, .unk, .unk], ⟨rfl, rfl⟩, ?_, ?_⟩
          · rintro k d acc ρ2 hd ⟨rfl, rfl⟩
            have hk : k < ns.length - 1 := by
              have := (List.getElem?_eq_some_iff.mp hd).1
              rw [zl] at this; exact this
            have ed : d = .tuple [.int (ns.getD k 0), .int (ns.getD (k + 1) 0)] := by
              rw [List.getElem?_zipWith, g k (by omega), List.getElem?_drop, show 1 + k = k + 1 by omega, g (k + 1) (by omega)] at hd
              exact (Option.some.inj hd).symm
            subst ed
            refine ⟨_, _, gd_pair, fun j hj => hj, ?_⟩
            refine wt_yes ?_
            refine wd_op (wd_var rfl (wd_var rfl (do_lt ⟨?_, rfl⟩)))
            rw [List.range_succ, List.map_append, List.map_append]; rfl
          · rintro acc ρ2 ⟨rfl, rfl⟩
            rw [zl]
            refine do_inB ?_
            rw [if_pos rfl, false_in, Bool.not_not, rng_ris]
            exact h
  · rw [show (!tyD d == "tuple") = true by simp [ct], if_pos rfl]
    refine if_t (ws_ret (wd_bl (no ?_)))
    cases d <;> first | rfl | exact absurd rfl ct
theorem ws_dueL (h : TDueL ds Φ) : WS K S0 (t_dueL K) (rhoOf 8 ds) { nx := fun _ => Φ .none, rt := fun d _ => Φ d } := by
  obtain ⟨n, d, rfl, tq, tqs, h⟩ := h
  show WS K S0 (t_dueL K) [.dat (.int n), .dat d, .unk, .unk, .unk, .unk, .unk, .unk] _
  unfold t_dueL
  have no : foldP n d = false → Φ (.bool false) := fun z => by rw [z] at h; exact h
  refine ws_seq (ws_if (wt_or (wt_not (wt_B (wd_isi (wd_var rfl ⟨_, kitTup _, _, rfl, ?_⟩))))))
  by_cases ct : tyD d = "tuple"
  · obtain ⟨xs, rfl⟩ := tuple_of ct
    have tq := tq rfl
    have xl := tq.t.len
    rw [show (!tyD (PyData.tuple xs) == "tuple") = false from rfl, if_neg Bool.false_ne_true]
    refine wt_test (wd_op (wd_cb (wa_cons (wd_var rfl (wa_nil (dc_lenT (wd_int (do_gt ⟨_, rfl, ?_⟩))))))))
    refine if_b (fun c => ?_) (fun c => ?_)
    · refine ws_ret (wd_bl (no ?_))
      show (decide ((xs.length : Int) ≤ 40) && _) = false
      rw [decide_eq_false (by omega)]; rfl
    have e0 : foldP n (.tuple xs) = (xs.all (setB n) && foldB (xs.map intsD)) := by
      show (decide ((xs.length : Int) ≤ 40) && _) = _
      rw [decide_eq_true (by omega), Bool.true_and]
    rw [e0] at h no
    refine ws_next (ws_seq (ws_if (wt_test (wd_op (wd_bl (wd_lc (wi_tup (wd_var rfl ⟨xs, rfl, by rw [sizeLine_eq]; omega, fun j acc ρ => acc = ((xs.take j).map (setB n)).map PyData.bool ∧ ∃ s6 : Sl, ρ = [.dat (.int n), .dat (.tuple xs), .unk, .unk, .unk, .unk, s6, .unk], ⟨rfl, _, rfl⟩, ?_, ?_⟩))))))))
    · rintro j d acc ρ2 hd ⟨rfl, s6, rfl⟩
      refine ⟨_, _, gd_name, fun j hj => hj, ?_⟩
      refine wt_yes ?_
      refine wd_call0 (wa_cons (wd_var rfl (wa_cons (wd_var rfl (wa_nil ⟨n, d, rfl, tqs xs rfl d (List.mem_of_getElem? hd), ?_, _, rfl⟩)))))
      rw [List.take_add_one, hd, Option.toList_some, List.map_append, List.map_append]; rfl
    · rintro acc ρ2 ⟨rfl, s6, rfl⟩
      rw [List.take_length]
      refine do_inB ⟨_, rfl, ?_⟩
      rw [if_neg Bool.false_ne_true, false_in]
      have ea : (xs.map (setB n)).all id = xs.all (setB n) := by rw [List.all_map]; rfl
      rw [ea]
      cases ha : xs.all (setB n) with
      | false =>
        refine if_t (ws_ret (wd_bl (no ?_)))
        rw [ha]; rfl
      | true =>
        refine if_f (ws_next ?_)
        rw [ha, Bool.true_and] at h no
        have hset := fun x (hx : x ∈ xs) => set_ints (List.all_eq_true.mp ha x hx)
        have hl : ∀ x ∈ xs, (intsD x).length ≤ 1000 := fun x hx => by
          have := (hset x hx).1
          have t := (tqs xs rfl x hx).t
          rw [this] at t
          have := t.len
          rw [List.length_map] at this; exact this
        have no2 : ∀ x ∈ xs, ∀ y ∈ xs, crossB (intsD x) (intsD y) = true → Φ (.bool false) := fun x hx y hy z => no (foldB_no (List.mem_map.mpr ⟨x, hx, rfl⟩) (List.mem_map.mpr ⟨y, hy, rfl⟩) z)
        refine ws_seq (ws_for (wi_enumT (wa_cons (wd_var rfl (wa_nil ⟨xs, rfl, fun k ρ => (∀ i j x y, i < k → i < j → xs[i]? = some x → xs[j]? = some y → crossB (intsD x) (intsD y) = false) ∧ ∃ s2 s3 s4 s5 s6 s7 : Sl, ρ = [.dat (.int n), .dat (.tuple xs), s2, s3, s4, s5, s6, s7], ⟨fun i j x y hi => absurd hi (Nat.not_lt_zero _), _, _, _, _, _, _, rfl⟩, ?_, ?_⟩)))))
        · rintro k d ρ2 hd ⟨inv, s2, s3, s4, s5, s6, s7, rfl⟩
          rw [List.getElem?_mapIdx] at hd
          obtain ⟨x, hx, rfl⟩ := Option.map_eq_some_iff.mp hd
          have hxm := List.mem_of_getElem? hx
          obtain ⟨ex, _, _, _⟩ := hset x hxm
          refine ⟨_, _, gd_pair, ?_⟩
          refine ws_for (wi_tup (wd_slA (wd_var rfl ⟨xs, rfl, wo_part (wd_op (wd_var rfl (wd_int (do_add ⟨_, rfl, wo_none ⟨_, rfl, ?_⟩⟩))))⟩)))
          rw [cutD_drop (n := k + 1) (by omega)]
          refine ⟨fun j ρ => (∀ j', j' < j → ∀ y, xs[k + 1 + j']? = some y → crossB (intsD x) (intsD y) = false) ∧ ∃ s4 s5 s6 s7 : Sl, ρ = [.dat (.int n), .dat (.tuple xs), .dat (.int (k : Int)), .dat x, s4, s5, s6, s7], ⟨fun j' hj => absurd hj (Nat.not_lt_zero _), _, _, _, _, rfl⟩, ?_, ?_⟩
          · rintro j y ρ3 hy ⟨inv2, t4, t5, t6, t7, rfl⟩
            rw [List.getElem?_drop] at hy
            have hym := List.mem_of_getElem? hy
            obtain ⟨ey, _, _, _⟩ := hset y hym
            refine ⟨_, _, gd_name, ?_⟩
            refine ws_seq (ws_asg (wd_lc (wi_tup (wd_var rfl ⟨(intsD x).map PyData.int, ex, by rw [List.length_map, sizeLine_eq]; have := hl x hxm; omega, fun m acc ρ => acc = (bothL ((intsD x).take m) (intsD y)).map PyData.int ∧ ∃ t5 t6 t7 : Sl, ρ = [.dat (.int n), .dat (.tuple xs), .dat (.int (k : Int)), .dat x, .dat y, t5, t6, t7], ⟨rfl, _, _, _, rfl⟩, ?_, ?_⟩))))
            · rintro m e acc ρ4 he ⟨rfl, u5, u6, u7, rfl⟩
              rw [List.getElem?_map] at he
              obtain ⟨p, hp, rfl⟩ := Option.map_eq_some_iff.mp he
              refine ⟨_, _, gd_name, fun j hj => hj, ?_⟩
              have stp : bothL ((intsD x).take (m + 1)) (intsD y) = bothL ((intsD x).take m) (intsD y) ++ (if p ∈ intsD y then [p] else []) := by
                unfold bothL
                rw [List.take_add_one, hp, Option.toList_some, List.filter_append]
                congr 1
                by_cases c : p ∈ intsD y
                · rw [if_pos c, List.filter_cons_of_pos (by simpa using c)]; rfl
                · rw [if_neg c, List.filter_cons_of_neg (by simpa using c)]; rfl
              refine wt_test (wd_op (wd_var rfl (wd_var rfl (do_inVe ey ⟨_, rfl, ?_⟩))))
              refine if_b (fun c => ?_) (fun c => ?_)
              · refine wd_var rfl ⟨?_, _, _, _, rfl⟩
                rw [stp, if_pos c, List.map_append]; rfl
              · refine ⟨?_, _, _, _, rfl⟩
                rw [stp, if_neg c, List.append_nil]
            · rintro acc ρ4 ⟨rfl, u5, u6, u7, rfl⟩
              rw [List.length_map, List.take_length]
              have out : crossB (intsD x) (intsD y) = false → (∀ j', j' < j + 1 → ∀ y, xs[k + 1 + j']? = some y → crossB (intsD x) (intsD y) = false) := fun cr j' hj' y2 hy2 => by
                by_cases e : j' < j
                · exact inv2 j' e y2 hy2
                · have : j' = j := by omega
                  subst this
                  rw [hy] at hy2; cases hy2
                  exact cr
              have cb : crossB (intsD x) (intsD y) = (decide (bothL (intsD x) (intsD y) ≠ []) && decide ((bothL (intsD x) (intsD y)).length < min (intsD x).length (intsD y).length)) := rfl
              have shb := sh_ints (bothL (intsD x) (intsD y))
              generalize bothL (intsD x) (intsD y) = b at cb shb ⊢
              refine ws_if (wt_and (wt_test (wd_op (wd_var rfl (wd_lst (wa_nil ⟨Nat.le_of_ble_eq_true rfl, do_neD (shb.ok (by decide)) rfl ⟨_, rfl, ?_⟩⟩))))))
              cases b with
              | nil =>
                rw [show (!PyData.eqv (.list (([] : List Int).map PyData.int)) (.list [])) = false from rfl, if_neg Bool.false_ne_true]
                exact ws_next ⟨out (by rw [cb]; rfl), _, _, _, _, rfl⟩
              | cons p r =>
                rw [show (!PyData.eqv (.list ((p :: r).map PyData.int)) (.list [])) = true from rfl, if_pos rfl]
                refine wt_test (wd_op (wd_cb (wa_cons (wd_var rfl (wa_nil (dc_lenL (wd_cb (wa_cons (wd_cb (wa_cons (wd_var rfl (wa_nil (dc_lenTe ex (wa_cons (wd_cb (wa_cons (wd_var rfl (wa_nil (dc_lenTe ey (wa_nil (dc_min (do_lt ⟨_, rfl, ?_⟩))))))))))))))))))))))
                rw [List.length_map, List.length_map, List.length_map]
                have mn : decide (((p :: r).length : Int) < (if ((intsD y).length : Int) < ((intsD x).length : Int) then ((intsD y).length : Int) else ((intsD x).length : Int))) = decide ((p :: r).length < min (intsD x).length (intsD y).length) := by
                  refine decide_eq_decide.mpr ?_
                  rw [Nat.lt_min]
                  split <;> omega
                rw [mn]
                refine if_b (fun c => ?_) (fun c => ?_)
                · refine ws_ret (wd_bl (no2 x hxm y hym ?_))
                  rw [cb, decide_eq_true c]; rfl
                · refine ws_next ⟨out ?_, _, _, _, _, rfl⟩
                  rw [cb, decide_eq_false c, Bool.and_false]
          · rintro ρ3 ⟨inv2, t4, t5, t6, t7, rfl⟩
            refine ⟨fun i j a b hi hij ha hb => ?_, _, _, _, _, _, _, rfl⟩
            by_cases e : i < k
            · exact inv i j a b e hij ha hb
            · have ei : i = k := by omega
              subst ei
              rw [hx] at ha; cases ha
              have hj := (List.getElem?_eq_some_iff.mp hb).1
              refine inv2 (j - (i + 1)) ?_ b ?_
              · rw [List.length_drop]; omega
              · rw [show i + 1 + (j - (i + 1)) = j by omega]; exact hb
        · rintro ρ2 ⟨inv, s2, s3, s4, s5, s6, s7, rfl⟩
          rw [List.length_mapIdx] at inv
          refine ws_ret (wd_bl ?_)
          have := foldB_of (ss := xs.map intsD) (fun s hs => by
            obtain ⟨x, hx, rfl⟩ := List.mem_map.mp hs
            exact (hset x hx).2.1) fun i j s t hij hi hj => by
            rw [List.getElem?_map] at hi hj
            obtain ⟨x, hx, rfl⟩ := Option.map_eq_some_iff.mp hi
            obtain ⟨y, hy, rfl⟩ := Option.map_eq_some_iff.mp hj
            exact inv i j x y (List.getElem?_eq_some_iff.mp hx).1 hij hx hy
          rw [this] at h
          exact h
  · rw [show (!tyD d == "tuple") = true by simp [ct], if_pos rfl]
    refine if_t (ws_ret (wd_bl (no ?_)))
    cases d <;> first | rfl | exact absurd rfl ct
end
end DL

set_option Elab.async false
set_option linter.all false
set_option maxRecDepth 100000
set_option maxHeartbeats 4000000
/-! PK7: a deck of numbers -/
namespace DL
open PySem PySem.Spec PyProof.Rows L2
def TMix : List PyData → (PyData → Prop) → Prop := fun ds Φ => ∃ c k : Int, ds = [.int c, .int k] ∧ 0 ≤ k ∧ k ≤ 2 ^ 42 ∧ ∀ r : Int, Φ (.int r)
local macro_rules | `(tactic| walk_at "dl") => `(tactic| repeat' (first
  | with_reducible refine wd_isTy ?_ | with_reducible refine wd_isi ?_ | ((with_reducible show WD _ _ (tOp (rIxL _) (tVar _) _) _ _); refine wd_ix_own rfl ?_) | with_reducible refine wd_op ?_ | ((with_reducible show WD _ _ (tCB (rLenX _) (tCons (tVar _) tNil)) _ _); refine wd_len_scr rfl ?_) | ((with_reducible show WD _ _ (tCB (rLenX _) (tCons (tVar _) tNil)) _ _); refine wd_len_own rfl ?_) | with_reducible refine wd_cb ?_ | with_reducible refine wd_un ?_ | with_reducible refine wa_cons ?_ | with_reducible refine wa_nil ?_ | ((with_reducible show WD _ _ (tVar _) _ _); refine wd_var rfl ?_) | with_reducible refine wd_int ?_ | with_reducible refine wd_bl ?_ | with_reducible refine wd_str ?_ | with_reducible refine wd_non ?_
  | with_reducible refine do_nesS ?_ | with_reducible refine dc_intB ?_ | with_reducible refine do_add ?_ | with_reducible refine do_sub ?_ | ((with_reducible refine do_mod ?_ ?_); decide) | with_reducible refine do_mod ?_ ?_ | with_reducible refine do_mul ?_ ?_ | ((with_reducible refine do_div ?_ ?_); exact ⟨by decide, by decide⟩) | with_reducible refine do_div ?_ ?_ | ((with_reducible refine do_pow ?_ ?_); exact ⟨by decide, by decide, by decide⟩) | with_reducible refine do_pow ?_ ?_
  | with_reducible refine do_lt ?_ | with_reducible refine do_le ?_ | with_reducible refine do_gt ?_ | with_reducible refine do_ge ?_ | with_reducible refine du_neg ?_
  | with_reducible refine do_eqi ?_ | with_reducible refine do_nei ?_ | with_reducible refine do_eqs ?_ | with_reducible refine do_nes ?_ | with_reducible refine dc_abs ?_ | with_reducible refine dc_min ?_ | with_reducible refine dc_max ?_ | with_reducible refine dc_lenL ?_ | with_reducible refine dc_lenT ?_ | with_reducible refine dc_lenR ?_ | with_reducible refine dc_listT ?_ | with_reducible refine dc_listL ?_ | with_reducible refine dc_tupL ?_ | with_reducible refine dc_gcd ?_
  | ((with_reducible show DO _ (rIxT _) _ _ _); refine do_ixT rfl ?_) | ((with_reducible show DO _ (rIxL _) _ _ _); refine do_ixL rfl ?_) | ((with_reducible refine do_catL ?_ ?_); exact Nat.le_of_ble_eq_true rfl) | with_reducible refine do_catL ?_ ?_ | ((with_reducible show And (List.length _ ≤ sizeLine) _); refine ⟨Nat.le_of_ble_eq_true rfl, ?_⟩)
  | with_reducible refine wd_dnew ?_ | with_reducible refine wd_call0 ?_ | with_reducible refine wd_slA ?_ | with_reducible refine wd_slL ?_ | with_reducible refine wd_revT ?_ | with_reducible refine do_catA ?_ ?_ | with_reducible refine wo_part ?_ | with_reducible refine wo_none ?_ | with_reducible refine do_eqQ ?_ | with_reducible refine do_neQ ?_ | with_reducible refine wi_enumT ?_ | with_reducible refine wi_enumD ?_ | with_reducible refine tAdQ (by omega) (by omega) ?_ | with_reducible refine tSbQ (by omega) (by omega) ?_ | with_reducible refine tMlQ (by omega) (by omega) ?_ | with_reducible refine tDvQ (by assumption) (by omega) (by omega) ?_ | with_reducible refine tLtQ (by omega) (by omega) ?_ | with_reducible refine dc_str ?_ ?_ | with_reducible refine wd_tup ?_ | with_reducible refine wd_lst ?_ | with_reducible refine wt_test ?_ | with_reducible refine wt_B ?_ | with_reducible refine wt_not ?_ | with_reducible refine wt_and ?_ | with_reducible refine wt_or ?_ | with_reducible refine wd_ifE ?_ | with_reducible refine wd_andV ?_ | with_reducible refine wd_orV ?_ | with_reducible refine wd_notV ?_
  | with_reducible refine ws_seq ?_ | with_reducible refine ws_next ?_ | with_reducible refine ws_asg ?_ | with_reducible refine ws_ret ?_ | with_reducible refine ws_retN ?_ | with_reducible refine ws_if ?_ | with_reducible refine ws_par ?_ | with_reducible refine ws_unp2 ?_
  | with_reducible refine if_t ?_ | with_reducible refine if_f ?_ | with_reducible refine if_nf ?_ | with_reducible refine if_nt ?_
  | ((with_reducible show Exists _); first | refine ⟨_, kitInt _, ?_⟩ | refine ⟨_, kitBool _, ?_⟩ | refine ⟨_, kitTup _, ?_⟩ | refine ⟨_, kitList _, ?_⟩ | refine ⟨_, rfl, ?_⟩ | refine ⟨_, _, rfl, ?_⟩ | fail) | fail))
def t_mix (K : PySem.W.Frag) : TS :=
  (tSeq (tAsg (tOp rModI (tOp rAddI (tOp rAddI (tOp rAddI (tOp rModI (tVar 0) (tC (.int 2147483629))) (tOp rMulI (tOp rMulI (tC (.int 1000003)) (tVar 1)) (tVar 1))) (tOp rMulI (tC (.int 7919)) (tVar 1))) (tC (.int 5))) (tC (.int 2147483587))) (gName 2))
    (tSeq (tAsg (tOp rModI (tOp rMulI (tVar 2) (tVar 2)) (tC (.int 2147483563))) (gName 2))
    (tRet (tOp rAddI (tOp rMulI (tOp rDivI (tOp rModI (tOp rMulI (tVar 2) (tOp rAddI (tVar 2) (tC (.int 40961)))) (tC (.int 2147483549))) (tC (.int 4))) (tC (.int 1000003))) (tOp rDivI (tVar 2) (tC (.int 2048)))))))
theorem ws_mix {K : PySem.W.Frag} {ds : List PyData} {Φ : PyData → Prop} (h : TMix ds Φ) : WS K S0 (t_mix K) (rhoOf 3 ds) { nx := fun _ => Φ .none, rt := fun d _ => Φ d } := by
  obtain ⟨c, k, rfl, h0, h1, h⟩ := h
  show WS K S0 (t_mix K) [.dat (.int c), .dat (.int k), .unk] _
  unfold t_mix
  have e1 : WD K S0 (tOp rModI (tOp rAddI (tOp rAddI (tOp rAddI (tOp rModI (tVar 0) (tC (.int 2147483629))) (tOp rMulI (tOp rMulI (tC (.int 1000003)) (tVar 1)) (tVar 1))) (tOp rMulI (tC (.int 7919)) (tVar 1))) (tC (.int 5))) (tC (.int 2147483587))) [.dat (.int c), .dat (.int k), .unk] fun d ρ1 => ρ1 = [.dat (.int c), .dat (.int k), .unk] ∧ ∃ x : Int, d = .int x ∧ 0 ≤ x ∧ x < 2147483587 := by
    walk_at "dl"
    · exact wide_mul (a := 20) (b := 43) (by decide) (by omega) (by decide) (by decide) (by decide)
    · have n1 : (1000003 * k).natAbs = 1000003 * k.natAbs := Int.natAbs_mul _ _
      exact wide_mul (a := 64) (b := 43) (by omega) (by omega) (by decide) (by decide) (by decide)
    · exact wide_mul (a := 13) (b := 43) (by decide) (by omega) (by decide) (by decide) (by decide)
    · obtain ⟨b0, b1⟩ := fmod_nn (i := c.fmod 2147483629 + 1000003 * k * k + 7919 * k + 5) (j := 2147483587) (by decide)
      exact ⟨rfl, _, rfl, b0, b1⟩
  refine ws_seq (ws_asg (WD.imp e1 fun d ρ1 ⟨er, x, ex, b0, b1⟩ => ?_))
  subst er ex
  have e2 : WD K S0 (tOp rModI (tOp rMulI (tVar 2) (tVar 2)) (tC (.int 2147483563))) [.dat (.int c), .dat (.int k), .dat (.int x)] fun d ρ1 => ρ1 = [.dat (.int c), .dat (.int k), .dat (.int x)] ∧ ∃ y : Int, d = .int y ∧ 0 ≤ y ∧ y < 2147483563 := by
    walk_at "dl"
    · exact wide_mul (a := 32) (b := 32) (by omega) (by omega) (by decide) (by decide) (by decide)
    · obtain ⟨c0, c1⟩ := fmod_nn (i := x * x) (j := 2147483563) (by decide)
      exact ⟨rfl, _, rfl, c0, c1⟩
  refine ws_seq (ws_asg (WD.imp e2 fun d ρ1 ⟨er, y, ey, c0, c1⟩ => ?_))
  subst er ey
  show WS K S0 _ [.dat (.int c), .dat (.int k), .dat (.int y)] _
  walk_at "dl"
  · exact wide_mul (a := 32) (b := 33) (by omega) (by omega) (by decide) (by decide) (by decide)
  · obtain ⟨d0, d1⟩ := fmod_nn (i := y * (y + 40961)) (j := 2147483549) (by decide)
    generalize (y * (y + 40961)).fmod 2147483549 = z at d0 d1 ⊢
    have f0 : 0 ≤ z.fdiv 4 ∧ z.fdiv 4 ≤ z := by
      rw [Int.fdiv_eq_ediv_of_nonneg _ (by decide)]; omega
    exact wide_mul (a := 32) (b := 20) (by omega) (by decide) (by decide) (by decide) (by decide)
  · exact h _
structure DkL (vs : List V) (c : Addr) (m : Nat) (B : Nat) : Prop where
  ex : ∃ i1 i2 i3 s : Int, vs = [.ref c, .int i1, .int i2, .int i3, .int s] ∧ 0 ≤ i1 ∧ i1 ≤ m ∧ 0 ≤ i2 ∧ 0 ≤ i3 ∧ i3 ≤ B
def HList (o : HO) (ns : List Int) : Prop := o = .lst (ns.map V.int) ∨ ∃ z, o = .frz z (.lst (ns.map V.int))
theorem HList.rd {o : HO} {ns : List Int} {H : Hp} {c : Addr} (h : HList o ns) (e : H c = some o) : Rd H c (.lst (ns.map V.int)) := by
  rcases h with rfl | ⟨z, rfl⟩
  · exact .inl e
  · exact .inr ⟨z, e⟩
theorem HList.of {ns : List Int} {H : Hp} {c : Addr} (h : Rd H c (.lst (ns.map V.int))) : ∃ o, HList o ns ∧ H c = some o := by
  rcases h with e | ⟨z, e⟩
  · exact ⟨_, .inl rfl, e⟩
  · exact ⟨_, .inr ⟨z, rfl⟩, e⟩
def mkDk (a c : Addr) (o : HO) (ns : List Int) : Stt where
  a := a
  fp b := decide (b = a) || decide (b = c)
  ok H B := a ≠ c ∧ ∃ (vs : List V), DkL vs c ns.length B ∧ H a = some (.lst vs) ∧ H c = some o ∧ HList o ns ∧ ns.length ≤ 63
  loc H H' B h k := by
    obtain ⟨h0, vs, h1, h2, h3, h4⟩ := k
    exact ⟨h0, vs, h1, (h a (by simp)).trans h2, (h c (by simp)).trans h3, h4⟩
  trk H B k b hb := by
    obtain ⟨h0, vs, h1, h2, h3, h4⟩ := k
    rcases Bool.or_eq_true_iff.mp hb with e | e
    · rw [of_decide_eq_true e, h2]; simp
    · rw [of_decide_eq_true e, h3]; simp
def FDk (S : Stt) : Prop := ∃ a c o ns, S = mkDk a c o ns
def TNext : Nat → List PyData → (PyData → Nat → Prop) → Prop := fun B ds Φ => ∃ m : Int, ds = [.int m] ∧ 1 ≤ m ∧ m ≤ 2 ^ 40 ∧ B ≤ 2 ^ 40 ∧ ∀ d : Int, 0 ≤ d → d < m → Φ (.int d) (B + 1)
def t_left (K : PySem.W.Frag) : TS :=
  (tSeq (tIfS (tTest (tOp rGt (tOp (rIxL K) (tVar 0) (tC (.int 2))) (tC (.int 0)))) (tSeq (tAsg (tOp rModI (tOp (rIxL K) (tVar 0) (tC (.int 2))) (tVar 1)) (gName 3))
    (tSeq (tAsg (tOp rDivI (tOp (rIxL K) (tVar 0) (tC (.int 2))) (tVar 1)) (gSub (tVar 0) (tC (.int 2)) rSetL))
    (tRet (tVar 3)))) tNext)
    (tSeq (tAsg (tOp rAddI (tOp (rIxL K) (tVar 0) (tC (.int 3))) (tC (.int 1))) (gSub (tVar 0) (tC (.int 3)) rSetL))
    (tRet (tOp rModI (tCall (spP K TMix) [] E0 (tCons (tOp (rIxL K) (tVar 0) (tC (.int 4))) (tCons (tOp rAddI (tOp (rIxL K) (tVar 0) (tC (.int 3))) (tC (.int 1319))) tNil))) (tVar 1)))))
def t_next (K : PySem.W.Frag) : TS :=
  (tSeq (tIfS (tAnd (tTest (tOp rEq (tOp (rIxL K) (tVar 0) (tC (.int 2))) (tC (.int 0)))) (tTest (tOp rLt (tOp (rIxL K) (tVar 0) (tC (.int 1))) (tCB (rLenX K) (tCons (tOp (rIxL K) (tVar 0) (tC (.int 0))) tNil))))) (tSeq (tAsg (tOp (rIxL K) (tOp (rIxL K) (tVar 0) (tC (.int 0))) (tOp (rIxL K) (tVar 0) (tC (.int 1)))) (gName 2))
    (tSeq (tAsg (tOp rAddI (tOp (rIxL K) (tVar 0) (tC (.int 1))) (tC (.int 1))) (gSub (tVar 0) (tC (.int 1)) rSetL))
    (tSeq (tIfS (tTest (tOp rLt (tVar 2) (tOp rPowI (tC (.int 10)) (tC (.int 18))))) (tRet (tOp rModI (tCall (spP K TMix) [] E0 (tCons (tVar 2) (tCons (tOp (rIxL K) (tVar 0) (tC (.int 1))) tNil))) (tVar 1))) tNext)
    (tAsg (tVar 2) (gSub (tVar 0) (tC (.int 2)) rSetL))))) tNext)
    (tSeq (tIfS (tTest (tOp rGt (tOp (rIxL K) (tVar 0) (tC (.int 2))) (tC (.int 0)))) (tSeq (tAsg (tOp rModI (tOp (rIxL K) (tVar 0) (tC (.int 2))) (tVar 1)) (gName 3))
    (tSeq (tAsg (tOp rDivI (tOp (rIxL K) (tVar 0) (tC (.int 2))) (tVar 1)) (gSub (tVar 0) (tC (.int 2)) rSetL))
    (tRet (tVar 3)))) tNext)
    (tSeq (tAsg (tOp rAddI (tOp (rIxL K) (tVar 0) (tC (.int 3))) (tC (.int 1))) (gSub (tVar 0) (tC (.int 3)) rSetL))
    (tRet (tOp rModI (tCall (spP K TMix) [] E0 (tCons (tOp (rIxL K) (tVar 0) (tC (.int 4))) (tCons (tOp rAddI (tOp (rIxL K) (tVar 0) (tC (.int 3))) (tC (.int 1319))) tNil))) (tVar 1))))))
theorem next_run {K : PySem.W.Frag} {vs : List V} {H : Hp} {Q : VK} {E : XK} (h : spS K FDk TNext vs H Q E) :
    t_next K { nx := fun _ H' => Q .non H', rt := Q } (L2.start ["_law_deck_here", "_law_many", "_law_cell", "_law_found"] vs) H := by
  obtain ⟨S, N, us, ds, B, Φ, rfl, ⟨a, c, o, ns, rfl⟩, hok, hle, ht, hd, ⟨m, rfl, m1, mM, hB, hT⟩, hQ⟩ := h
  obtain ⟨nac, vs, dk, ha, hc, hL, hl⟩ := hok
  have hcR := hL.rd hc
  obtain ⟨i1, i2, i3, s, rfl, p1, p1', p2, p3, p3'⟩ := dk.ex
  cases hd with
  | cons hd1 hd2 =>
  cases hd2
  cases hd1
  -- the end, told once
  have fin : ∀ (d : Int) (G : Hp) (j1 j2 j3 : Int), 0 ≤ d → d < m → G a = some (.lst [.ref c, .int j1, .int j2, .int j3, .int s]) → (∀ b o, b ≠ a → H b = some o → G b = some o) → 0 ≤ j1 → j1 ≤ ns.length → 0 ≤ j2 → 0 ≤ j3 → j3 ≤ B + 1 → Q (.int d) G := by
    intro d G j1 j2 j3 d0 d1 e fr z1 z1' z2 z3 z3'
    refine hQ _ _ (hT d d0 d1) _ G (fun b o hb hy => fr b o (fun z => ?_) hy) ⟨nac, _, ⟨j1, j2, j3, s, rfl, z1, z1', z2, z3, by omega⟩, e, fr c _ (Ne.symm nac) hc, hL, hl⟩ (Dt.int _)
    subst z
    have : (decide (b = b) || decide (b = c)) = false := hb
    simp at this
  have r : ∀ {G : Hp} {l : List V} {k : Int} {v : V} {Q' : VK}, G a = some (.lst l) → atI l k = some v → Q' v G → rIxL K (.ref a) (.int k) G Q' := fun e g q => ⟨a, _, _, _, rfl, rfl, .inl (.inl e), g, q⟩
  have hm9 : m.natAbs.log2 < 9000 := by
    have := log2_small (m := m) (k := 41) (by omega) (by omega) (by decide)
    omega
  have ca : ∀ {G : Hp} {xs : List V}, (upd G a (.lst xs)) a = some (.lst xs) := fun {G xs} => upd_same
  have cb : ∀ {G : Hp} {xs : List V}, (∀ b o, b ≠ a → H b = some o → G b = some o) → ∀ b o, b ≠ a → H b = some o → (upd G a (.lst xs)) b = some o := fun f b o nb hb => by rw [upd_ne nb]; exact f b o nb hb
  -- a number of what is left of a cell
  have left : ∀ (D : Ends) (σ : L2.St) (G : Hp) (j1 j2 : Int), D.rt = Q → σ[0]? = some (some (.ref a)) → σ[1]? = some (some (.int m)) → σ.length = 4 → G a = some (.lst [.ref c, .int j1, .int j2, .int i3, .int s]) → (∀ b o, b ≠ a → H b = some o → G b = some o) → 0 ≤ j1 → j1 ≤ ns.length → 0 ≤ j2 →
      t_left K D σ G := by
    intro D σ G j1 j2 hD h0 h1 hlen e fr z1 z1' z2
    unfold t_left
    refine ⟨_, h0, ?_⟩
    dsimp only [tC]
    refine r e rfl ?_
    refine ⟨_, _, rfl, rfl, decide ((0 : Int) < j2), rfl, ?_⟩
    by_cases cj : 0 < j2
    · rw [if_pos (decide_eq_true cj)]
      refine ⟨_, h0, ?_⟩
      dsimp only [tC]
      refine r e rfl ?_
      refine ⟨_, h1, j2, m, rfl, rfl, by omega, ?_⟩
      obtain ⟨f1, f2⟩ := fmod_nn (i := j2) (j := m) (by omega)
      have g0 : (σ.set 3 (some (V.int (j2.fmod m))))[0]? = some (some (.ref a)) := (set_ne (by decide)).trans h0
      have g1 : (σ.set 3 (some (V.int (j2.fmod m))))[1]? = some (some (.int m)) := (set_ne (by decide)).trans h1
      have g3 : (σ.set 3 (some (V.int (j2.fmod m))))[3]? = some (some (V.int (j2.fmod m))) := set_eq (by omega)
      refine ⟨_, g0, ?_⟩
      dsimp only [tC]
      refine r e rfl ?_
      refine ⟨_, g1, j2, m, rfl, rfl, ⟨by omega, hm9⟩, ?_⟩
      refine ⟨_, g0, a, _, 2, 2, rfl, rfl, e, rfl, ?_⟩
      refine ⟨_, g3, ?_⟩
      rw [show D.rt = Q from hD]
      exact fin _ _ j1 (j2.fdiv m) i3 f1 f2 ca (cb fr) z1 z1' (fdiv_nn z2 (by omega)) p3 (by omega)
    · rw [if_neg (fun z => cj (of_decide_eq_true z))]
      refine ⟨_, h0, ?_⟩
      dsimp only [tC]
      refine r e rfl ?_
      refine ⟨i3, 1, rfl, rfl, ?_⟩
      refine ⟨_, h0, a, _, 3, 3, rfl, rfl, e, rfl, ?_⟩
      have e2 : (upd G a (.lst ([.ref c, .int j1, .int j2, .int i3, .int s].set 3 (.int (i3 + 1))))) a = some (.lst [.ref c, .int j1, .int j2, .int (i3 + 1), .int s]) := upd_same
      have fr2 := cb (xs := [.ref c, .int j1, .int j2, .int i3, .int s].set 3 (.int (i3 + 1))) fr
      generalize upd G a (.lst ([.ref c, .int j1, .int j2, .int i3, .int s].set 3 (.int (i3 + 1)))) = G2 at e2 fr2 ⊢
      refine ⟨_, h0, ?_⟩
      dsimp only [tC]
      refine r e2 rfl ?_
      refine ⟨_, h0, ?_⟩
      dsimp only [tC]
      refine r e2 rfl ?_
      refine ⟨_, _, rfl, rfl, ?_⟩
      refine ⟨fun _ => false, [.int s, .int (i3 + 1 + 1319)], fun d => ∃ x : Int, d = .int x, fun _ h => (nomatch h), .cons (.int _) (.cons (.int _) .nil), ⟨s, i3 + 1 + 1319, rfl, by omega, by omega, fun x => ⟨x, rfl⟩⟩, fun d hd v G3 sm dv => ?_⟩
      obtain ⟨x, rfl⟩ := hd
      cases dv
      refine ⟨_, h1, x, m, rfl, rfl, by omega, ?_⟩
      obtain ⟨f1, f2⟩ := fmod_nn (i := x) (j := m) (by omega)
      rw [show D.rt = Q from hD]
      exact fin _ _ j1 j2 (i3 + 1) f1 f2 (sm _ _ e2) (fun b o nb hb => sm _ _ (fr2 b o nb hb)) z1 z1' z2 (by omega) (by omega)
  show t_next K { nx := fun _ H' => Q .non H', rt := Q } [some (.ref a), some (.int m), none, none] H
  have go : ∀ (σ : L2.St) (G : Hp) (j1 j2 : Int), σ[0]? = some (some (.ref a)) → σ[1]? = some (some (.int m)) → σ.length = 4 → G a = some (.lst [.ref c, .int j1, .int j2, .int i3, .int s]) → (∀ b o, b ≠ a → H b = some o → G b = some o) → 0 ≤ j1 → j1 ≤ ns.length → 0 ≤ j2 → t_left K { nx := fun _ H' => Q .non H', rt := Q } σ G := fun σ G j1 j2 h0 h1 hl e fr z1 z1' z2 => left _ σ G j1 j2 rfl h0 h1 hl e fr z1 z1' z2
  have fr0 : ∀ b o, b ≠ a → H b = some o → H b = some o := fun b o _ h => h
  unfold t_next
  refine ⟨_, rfl, ?_⟩
  dsimp only [tC]
  refine r ha rfl ?_
  refine ⟨rfl, decide (V.int i2 = V.int 0), rfl, ?_⟩
  show (if decide (V.int i2 = V.int 0) = true then _ else _)
  by_cases z2 : i2 = 0
  · subst z2
    rw [if_pos (by simp)]
    refine ⟨_, rfl, ?_⟩
    dsimp only [tC]
    refine r ha rfl ?_
    refine ⟨_, rfl, ?_⟩
    dsimp only [tC]
    refine r ha rfl ?_
    refine ⟨c, _, rfl, .inl (.inl hcR), _, _, rfl, rfl, decide (i1 < ((ns.map V.int).length : Int)), rfl, ?_⟩
    show (if decide (i1 < ((ns.map V.int).length : Int)) = true then _ else _)
    rw [List.length_map]
    by_cases lt : i1 < (ns.length : Int)
    · rw [if_pos (decide_eq_true lt)]
      obtain ⟨k, rfl⟩ : ∃ k : Nat, i1 = k := ⟨i1.toNat, by omega⟩
      have hk : k < ns.length := by omega
      have at1 : atI (ns.map V.int) ((k : Nat) : Int) = some (V.int ns[k]) := atI_nat (by rw [List.getElem?_map, List.getElem?_eq_getElem hk]; rfl)
      refine ⟨_, rfl, ?_⟩
      dsimp only [tC]
      refine r ha rfl ?_
      refine ⟨_, rfl, ?_⟩
      dsimp only [tC]
      refine r ha rfl ?_
      refine ⟨c, _, _, _, rfl, rfl, .inl hcR, at1, ?_⟩
      generalize ns[k] = cell
      refine ⟨_, rfl, ?_⟩
      dsimp only [tC]
      refine r ha rfl ?_
      refine ⟨(k : Int), 1, rfl, rfl, ?_⟩
      refine ⟨_, rfl, a, _, 1, 1, rfl, rfl, ha, rfl, ?_⟩
      have e2 : (upd H a (.lst ([.ref c, .int ((k : Nat) : Int), .int 0, .int i3, .int s].set 1 (.int ((k : Int) + 1))))) a = some (.lst [.ref c, .int ((k : Int) + 1), .int 0, .int i3, .int s]) := upd_same
      have fr2 := cb (xs := [.ref c, .int ((k : Nat) : Int), .int 0, .int i3, .int s].set 1 (.int ((k : Int) + 1))) fr0
      generalize upd H a (.lst ([.ref c, .int ((k : Nat) : Int), .int 0, .int i3, .int s].set 1 (.int ((k : Int) + 1)))) = G2 at e2 fr2 ⊢
      refine ⟨_, rfl, (10 : Int), 18, rfl, rfl, ⟨by decide, by decide, by decide⟩, _, _, rfl, rfl, decide (cell < (10 : Int) ^ (18 : Int).toNat), rfl, ?_⟩
      show (if decide (cell < (10 : Int) ^ (18 : Int).toNat) = true then _ else _)
      by_cases cl : cell < (10 : Int) ^ (18 : Int).toNat
      · rw [if_pos (decide_eq_true cl)]
        refine ⟨_, rfl, _, rfl, ?_⟩
        dsimp only [tC]
        refine r e2 rfl ?_
        refine ⟨fun _ => false, [.int cell, .int ((k : Int) + 1)], fun d => ∃ x : Int, d = .int x, fun _ h => (nomatch h), .cons (.int _) (.cons (.int _) .nil), ⟨cell, (k : Int) + 1, rfl, by omega, by omega, fun x => ⟨x, rfl⟩⟩, fun d hd v G3 sm dv => ?_⟩
        obtain ⟨x, rfl⟩ := hd
        cases dv
        refine ⟨_, rfl, x, m, rfl, rfl, by omega, ?_⟩
        obtain ⟨f1, f2⟩ := fmod_nn (i := x) (j := m) (by omega)
        exact fin _ _ ((k : Int) + 1) 0 i3 f1 f2 (sm _ _ e2) (fun b o nb hb => sm _ _ (fr2 b o nb hb)) (by omega) (by omega) (by omega) p3 (by omega)
      · rw [if_neg (fun z => cl (of_decide_eq_true z))]
        refine ⟨_, rfl, _, rfl, a, _, 2, 2, rfl, rfl, e2, rfl, ?_⟩
        have big : (0 : Int) ≤ (10 : Int) ^ (18 : Int).toNat := by decide
        exact go _ _ ((k : Int) + 1) cell rfl rfl rfl ca (cb fr2) (by omega) (by omega) (by omega)
    · rw [if_neg (fun z => lt (of_decide_eq_true z))]
      exact go _ H i1 0 rfl rfl rfl ha fr0 p1 p1' (Int.le_refl 0)
  · rw [if_neg (by simpa using z2)]
    exact go _ H i1 i2 rfl rfl rfl ha fr0 p1 p1' p2
end DL

set_option Elab.async false
set_option linter.all false
set_option maxRecDepth 100000
set_option maxHeartbeats 4000000
/-! PK8: amounts drawn -/
namespace DL
open PySem PySem.Spec PyProof.Rows L2
def TFrac : List PyData → (PyData → Prop) → Prop := fun ds Φ => ∃ a b : Int, ds = [.int a, .int b] ∧ 1 ≤ b ∧ a.natAbs < 2 ^ 60 ∧ b < 2 ^ 60 ∧ ∀ p q : Int, Φ (.tuple [.int p, .int q])
def TAmts : Nat → List PyData → (PyData → Nat → Prop) → Prop := fun B ds Φ => ∃ n : Int, ds = [.int n] ∧ 0 ≤ n ∧ n ≤ 40 ∧ B + 200 ≤ 2 ^ 40 ∧ ∀ (as : List PyData) (B' : Nat), as.length = n.toNat → B' ≤ B + 200 → Φ (.tuple as) B'
local macro_rules | `(tactic| walk_at "dl") => `(tactic| repeat' (first
  | with_reducible refine wd_isTy ?_ | with_reducible refine wd_isi ?_ | ((with_reducible show WD _ _ (tOp (rIxL _) (tVar _) _) _ _); refine wd_ix_own rfl ?_) | with_reducible refine wd_op ?_ | ((with_reducible show WD _ _ (tCB (rLenX _) (tCons (tVar _) tNil)) _ _); refine wd_len_scr rfl ?_) | ((with_reducible show WD _ _ (tCB (rLenX _) (tCons (tVar _) tNil)) _ _); refine wd_len_own rfl ?_) | with_reducible refine wd_cb ?_ | with_reducible refine wd_un ?_ | with_reducible refine wa_cons ?_ | with_reducible refine wa_nil ?_ | ((with_reducible show WD _ _ (tVar _) _ _); refine wd_var rfl ?_) | with_reducible refine wd_int ?_ | with_reducible refine wd_bl ?_ | with_reducible refine wd_str ?_ | with_reducible refine wd_non ?_
  | with_reducible refine do_nesS ?_ | with_reducible refine dc_intB ?_ | with_reducible refine do_add ?_ | with_reducible refine do_sub ?_ | ((with_reducible refine do_mod ?_ ?_); decide) | with_reducible refine do_mod ?_ ?_ | with_reducible refine do_mul ?_ ?_ | ((with_reducible refine do_div ?_ ?_); exact ⟨by decide, by decide⟩) | with_reducible refine do_div ?_ ?_ | ((with_reducible refine do_pow ?_ ?_); exact ⟨by decide, by decide, by decide⟩) | with_reducible refine do_pow ?_ ?_
  | with_reducible refine do_lt ?_ | with_reducible refine do_le ?_ | with_reducible refine do_gt ?_ | with_reducible refine do_ge ?_ | with_reducible refine du_neg ?_
  | with_reducible refine do_eqi ?_ | with_reducible refine do_nei ?_ | with_reducible refine do_eqs ?_ | with_reducible refine do_nes ?_ | with_reducible refine dc_abs ?_ | with_reducible refine dc_min ?_ | with_reducible refine dc_max ?_ | with_reducible refine dc_lenL ?_ | with_reducible refine dc_lenT ?_ | with_reducible refine dc_lenR ?_ | with_reducible refine dc_listT ?_ | with_reducible refine dc_listL ?_ | with_reducible refine dc_tupL ?_ | with_reducible refine dc_gcd ?_
  | ((with_reducible show DO _ (rIxT _) _ _ _); refine do_ixT rfl ?_) | ((with_reducible show DO _ (rIxL _) _ _ _); refine do_ixL rfl ?_) | ((with_reducible refine do_catL ?_ ?_); exact Nat.le_of_ble_eq_true rfl) | with_reducible refine do_catL ?_ ?_ | ((with_reducible show And (List.length _ ≤ sizeLine) _); refine ⟨Nat.le_of_ble_eq_true rfl, ?_⟩)
  | with_reducible refine wd_dnew ?_ | with_reducible refine wd_call0 ?_ | with_reducible refine wd_slA ?_ | with_reducible refine wd_slL ?_ | with_reducible refine wd_revT ?_ | with_reducible refine do_catA ?_ ?_ | with_reducible refine wo_part ?_ | with_reducible refine wo_none ?_ | with_reducible refine do_eqQ ?_ | with_reducible refine do_neQ ?_ | with_reducible refine wi_enumT ?_ | with_reducible refine wi_enumD ?_ | with_reducible refine tAdQ (by omega) (by omega) ?_ | with_reducible refine tSbQ (by omega) (by omega) ?_ | with_reducible refine tMlQ (by omega) (by omega) ?_ | with_reducible refine tDvQ (by assumption) (by omega) (by omega) ?_ | with_reducible refine tLtQ (by omega) (by omega) ?_ | with_reducible refine dc_str ?_ ?_ | with_reducible refine wd_tup ?_ | with_reducible refine wd_lst ?_ | with_reducible refine wt_test ?_ | with_reducible refine wt_B ?_ | with_reducible refine wt_not ?_ | with_reducible refine wt_and ?_ | with_reducible refine wt_or ?_ | with_reducible refine wd_ifE ?_ | with_reducible refine wd_andV ?_ | with_reducible refine wd_orV ?_ | with_reducible refine wd_notV ?_
  | with_reducible refine ws_seq ?_ | with_reducible refine ws_next ?_ | with_reducible refine ws_asg ?_ | with_reducible refine ws_ret ?_ | with_reducible refine ws_retN ?_ | with_reducible refine ws_if ?_ | with_reducible refine ws_par ?_ | with_reducible refine ws_unp2 ?_
  | with_reducible refine if_t ?_ | with_reducible refine if_f ?_ | with_reducible refine if_nf ?_ | with_reducible refine if_nt ?_
  | ((with_reducible show Exists _); first | refine ⟨_, kitInt _, ?_⟩ | refine ⟨_, kitBool _, ?_⟩ | refine ⟨_, kitTup _, ?_⟩ | refine ⟨_, kitList _, ?_⟩ | refine ⟨_, rfl, ?_⟩ | refine ⟨_, _, rfl, ?_⟩ | fail) | fail))
def t_frac (K : PySem.W.Frag) : TS :=
  (tSeq (tPar 2 3 (tCons (tCB rAbsX (tCons (tVar 0) tNil)) (tCons (tVar 1) tNil)))
    (tSeq (tWhile (tTest (tOp rGt (tVar 3) (tC (.int 0)))) (tPar 2 3 (tCons (tVar 3) (tCons (tOp rModI (tVar 2) (tVar 3)) tNil))))
    (tRet (tTup (tCons (tOp rDivI (tVar 0) (tVar 2)) (tCons (tOp rDivI (tVar 1) (tVar 2)) tNil))))))
def t_amts (K : PySem.W.Frag) : TS :=
  (tSeq (tAsg (tCall (spS K FDk TNext) [] E0 (tCons (tVar 0) (tCons (tC (.int 4)) tNil))) (gName 2))
    (tSeq (tAsg (tLst tNil) (gName 3))
    (tSeq (tFor (iRng1 (tCons (tVar 1) tNil)) (gName 4) (tSeq (tAsg (tCall (spS K FDk TNext) [] E0 (tCons (tVar 0) (tCons (tOp (rIxL K) (tLst (tCons (tC (.int 6)) (tCons (tC (.int 16)) (tCons (tC (.int 3)) (tCons (tC (.int 16)) tNil))))) (tVar 2)) tNil))) (gName 5))
    (tSeq (tAsg (tOp (rIxL K) (tLst (tCons (tC (.int 1)) (tCons (tC (.int 2)) (tCons (tC (.int 3)) (tCons (tC (.int 4)) (tCons (tC (.int 6)) (tCons (tC (.int 12)) (tCons (tC (.int 7)) (tCons (tC (.int 97)) (tCons (tC (.int 101)) (tCons (tC (.int 997)) (tCons (tC (.int 5)) (tCons (tC (.int 8)) (tCons (tC (.int 10)) (tCons (tC (.int 100)) (tCons (tC (.int 999)) (tCons (tC (.int 1)) tNil))))))))))))))))) (tVar 5)) (gName 6))
    (tSeq (tIfS (tTest (tOp rEq (tVar 5) (tC (.int 15)))) (tAsg (tOp rAddI (tC (.int 1)) (tCall (spS K FDk TNext) [] E0 (tCons (tVar 0) (tCons (tC (.int 1000)) tNil)))) (gName 6)) tNext)
    (tSeq (tAsg (tOp (rIxL K) (tLst (tCons (tOp rMulI (tC (.int 4)) (tVar 6)) (tCons (tOp rMulI (tC (.int 4)) (tVar 6)) (tCons (tC (.int 3)) (tCons (tOp rPowI (tC (.int 10)) (tC (.int 6))) tNil))))) (tVar 2)) (gName 7))
    (tDrop (tBM K "list" rAppend (tVar 3) (tCons (tCall (spP K TFrac) [] E0 (tCons (tOp rSubI (tCall (spS K FDk TNext) [] E0 (tCons (tVar 0) (tCons (tOp rAddI (tOp rMulI (tC (.int 2)) (tVar 7)) (tC (.int 1))) tNil))) (tVar 7)) (tCons (tVar 6) tNil))) tNil))))))))
    (tRet (tCB (rTupOf K) (tCons (tVar 3) tNil))))))
theorem ws_frac {K : PySem.W.Frag} {ds : List PyData} {Φ : PyData → Prop} (h : TFrac ds Φ) : WS K S0 (t_frac K) (rhoOf 4 ds) { nx := fun _ => Φ .none, rt := fun d _ => Φ d } := by
  obtain ⟨a, b, rfl, hb, ha6, hb6, hΦ⟩ := h
  show WS K S0 (t_frac K) [.dat (.int a), .dat (.int b), .unk, .unk] _
  unfold t_frac
  walk_at "dl"
  refine ws_while (fun m ρ => ∃ x y : Int, ρ = [.dat (.int a), .dat (.int b), .dat (.int x), .dat (.int y)] ∧ 0 ≤ x ∧ 0 ≤ y ∧ (x ≠ 0 ∨ y ≠ 0) ∧ x < 2 ^ 60 ∧ y < 2 ^ 60 ∧ m = y.natAbs) b.natAbs ⟨_, _, rfl, by omega, by omega, .inr (by omega), by omega, by omega, rfl⟩ ?_
  rintro m ρ1 ⟨x, y, rfl, hx, hy, hne, hx6, hy6, rfl⟩
  walk_at "dl"
  refine if_b (fun hpos => ?_) (fun hz => ?_)
  · walk_at "dl"
    · omega
    · obtain ⟨z1, z2⟩ := fmod_nn (i := x) (j := y) hpos
      exact ⟨(x.fmod y).natAbs, by omega, _, _, rfl, by omega, z1, .inl (by omega), by omega, by omega, rfl⟩
  · have y0 : y = 0 := by omega
    subst y0
    have x0 : x ≠ 0 := by rcases hne with h | h; exact h; exact absurd rfl h
    have x8 : x.natAbs.log2 < 9000 := by
      have := log2_of (i := x) (k := 60) (by omega) (by decide)
      omega
    walk_at "dl"
    · exact ⟨by omega, x8⟩
    · exact ⟨by omega, x8⟩
    · exact hΦ _ _
theorem mulW1 {b : Int} (h0 : 0 ≤ b) (h1 : b ≤ 1000000) : CMulW 2 b := wide_mul (a := 10) (b := 20) (by decide) (by omega) (by decide) (by decide) (by decide)
theorem mulW4 {b : Int} (h0 : 0 ≤ b) (h1 : b ≤ 1000) : CMulW 4 b := wide_mul (a := 10) (b := 20) (by decide) (by omega) (by decide) (by decide) (by decide)
section
variable {K : PySem.W.Frag} {S : Stt} {ρ : Rho} {Φ : PyData → Rho → Prop}
/-- a number below so many, of the deck -/
theorem wd_nx {i : Nat} {te : TE} {B0 : Nat} (hF : FDk S) (hi : ρ[i]? = some (.sto B0)) (h : WD K S te ρ fun d ρ1 => ∃ (m : Int) (B : Nat), d = .int m ∧ ρ1[i]? = some (.sto B) ∧ 1 ≤ m ∧ m ≤ 2 ^ 40 ∧ B ≤ 2 ^ 40 ∧ ∀ z : Int, 0 ≤ z → z < m → Φ (.int z) (stoAll (B + 1) ρ1)) :
    WD K S (tCall (spS K FDk TNext) [] E0 (tCons (tVar i) (tCons te tNil))) ρ Φ := by
  refine wd_callS hF hi (wa_cons (WD.imp h fun d ρ1 ⟨m, B, e, hB, m1, m2, b, f⟩ => wa_nil ⟨B, hB, m, by rw [e], m1, m2, b, f⟩))
theorem wd_nxc {i : Nat} {B : Nat} {m : Int} (hF : FDk S) (hi : ρ[i]? = some (.sto B)) (m1 : 1 ≤ m) (m2 : m ≤ 2 ^ 40) (hB : B ≤ 2 ^ 40) (f : ∀ z : Int, 0 ≤ z → z < m → Φ (.int z) (stoAll (B + 1) ρ)) :
    WD K S (tCall (spS K FDk TNext) [] E0 (tCons (tVar i) (tCons (tC (.int m)) tNil))) ρ Φ := wd_nx hF hi (wd_int ⟨m, B, rfl, hi, m1, m2, hB, f⟩)
end
theorem ws_amts {K : PySem.W.Frag} {S : Stt} {B : Nat} {ds : List PyData} {Φ : PyData → Nat → Prop} (hF : FDk S) (h : TAmts B ds Φ) : WS K S (t_amts K) (.sto B :: rhoOf 7 ds) { nx := fun _ => False, rt := fun d ρ => ∃ B', ρ[0]? = some (.sto B') ∧ Φ d B' } := by
  obtain ⟨n, rfl, n0, n1, hB, hΦ⟩ := h
  show WS K S (t_amts K) [.sto B, .dat (.int n), .unk, .unk, .unk, .unk, .unk, .unk] _
  unfold t_amts
  refine ws_seq (ws_asg (wd_nxc hF rfl (by decide) (by decide) (by omega) fun w w0 w1 => ?_))
  refine ws_seq (ws_own (wa_nil ⟨Nat.zero_le _, ?_⟩))
  refine ws_seq (ws_for (wi_rng1 (wa_cons (wd_var rfl (wa_nil ⟨n, rfl, by omega, by omega, ?_⟩)))))
  refine ⟨fun k ρ => ∃ (as : List PyData) (B1 : Nat) (s4 s5 s6 s7 : Sl), ρ = [.sto B1, .dat (.int n), .dat (.int w), .own as, s4, s5, s6, s7] ∧ as.length = k ∧ B1 ≤ B + 1 + 3 * k, ⟨[], B + 1, _, _, _, _, rfl, rfl, Nat.le_refl _⟩, ?_, ?_⟩
  · rintro k d ρ2 hd ⟨as, B1, s4, s5, s6, s7, rfl, hk, hB1⟩
    have hk2 : k < n.toNat := by
      have := (List.getElem?_eq_some_iff.mp hd).1
      simpa using this
    refine ⟨_, _, gd_name, ws_wipe [5, 6, 7] ?_⟩
    show WS K S _ [.sto B1, .dat (.int n), .dat (.int w), .own as, .dat d, .unk, .unk, .unk] _
    refine ws_seq (ws_asg (wd_nx hF rfl ?_))
    walk_at "dl"
    refine do_ixL_int (ns := [6, 16, 3, 16]) (P := fun z => 1 ≤ z ∧ z ≤ 16) rfl w0 (by simpa using w1) (fun z hz => ?_) fun m hm => ?_
    · simp only [List.mem_cons, List.not_mem_nil, or_false] at hz; omega
    refine ⟨m, _, rfl, rfl, hm.1, by omega, by omega, fun at' a0 a1 => ?_⟩
    walk_at "dl"
    refine do_ixL_int (ns := [1, 2, 3, 4, 6, 12, 7, 97, 101, 997, 5, 8, 10, 100, 999, 1]) (P := fun z => 1 ≤ z ∧ z ≤ 1000) rfl a0 (by simp; omega) (fun z hz => ?_) fun b hb => ?_
    · simp only [List.mem_cons, List.not_mem_nil, or_false] at hz; omega
    walk_at "dl"
    refine if_b (fun e15 => ?_) (fun n15 => ?_)
    · walk_at "dl"
      refine wd_nxc hF rfl (by decide) (by decide) (by omega) fun z z0 z1 => ?_
      walk_at "dl"
      · exact mulW4 (b := 1 + z) (by omega) (by omega)
      · exact mulW4 (b := 1 + z) (by omega) (by omega)
      refine do_ixL_int (ns := [4 * (1 + z), 4 * (1 + z), 3, 10 ^ Int.toNat 6]) (P := fun z => 1 ≤ z ∧ z ≤ 1000000) rfl w0 (by simpa using w1) (fun y hy => ?_) fun x hx => ?_
      · simp only [List.mem_cons, List.not_mem_nil, or_false] at hy
        have e6 : (10 : Int) ^ Int.toNat 6 = 1000000 := by decide
        omega
      dsimp only
      refine ws_append (i := 3) rfl (wd_call0 (wa_cons (wd_op (wd_nx hF rfl ?_))))
      walk_at "dl"
      · exact mulW1 (b := x) (by omega) (by omega)
      refine ⟨2 * x + 1, _, rfl, rfl, by omega, by omega, by omega, fun r r0 r1 => ?_⟩
      walk_at "dl"
      refine ⟨r - x, 1 + z, rfl, by omega, by omega, by omega, fun p q => ⟨as, rfl, by rw [sizeLine_eq]; omega, ?_⟩⟩
      exact ⟨as ++ [.tuple [.int p, .int q]], _, _, _, _, _, rfl, by rw [List.length_append, hk]; rfl, by omega⟩
    · walk_at "dl"
      · exact mulW4 (b := b) (by omega) (by omega)
      · exact mulW4 (b := b) (by omega) (by omega)
      refine do_ixL_int (ns := [4 * (b), 4 * (b), 3, 10 ^ Int.toNat 6]) (P := fun z => 1 ≤ z ∧ z ≤ 1000000) rfl w0 (by simpa using w1) (fun y hy => ?_) fun x hx => ?_
      · simp only [List.mem_cons, List.not_mem_nil, or_false] at hy
        have e6 : (10 : Int) ^ Int.toNat 6 = 1000000 := by decide
        omega
      dsimp only
      refine ws_append (i := 3) rfl (wd_call0 (wa_cons (wd_op (wd_nx hF rfl ?_))))
      walk_at "dl"
      · exact mulW1 (b := x) (by omega) (by omega)
      refine ⟨2 * x + 1, _, rfl, rfl, by omega, by omega, by omega, fun r r0 r1 => ?_⟩
      walk_at "dl"
      refine ⟨r - x, b, rfl, by omega, by omega, by omega, fun p q => ⟨as, rfl, by rw [sizeLine_eq]; omega, ?_⟩⟩
      exact ⟨as ++ [.tuple [.int p, .int q]], _, _, _, _, _, rfl, by rw [List.length_append, hk]; rfl, by omega⟩
  · rintro ρ2 ⟨as, B1, s4, s5, s6, s7, rfl, hk, hB1⟩
    rw [List.length_map, List.length_range] at hk hB1
    refine ws_frz (i := 3) rfl ?_
    refine ws_ret (wd_cb (wa_cons (wd_var rfl (wa_nil (dc_tupL ⟨B1, rfl, hΦ as B1 hk (by omega)⟩)))))
end DL

set_option Elab.async false
set_option linter.all false
set_option maxRecDepth 100000
set_option maxHeartbeats 1000000
/-! LM7: three hundred knots -/
namespace DL
def risB : Kn → Bool
  | [] => true
  | [_] => true
  | a :: b :: r => decide (a.1 < b.1) && risB (b :: r)
def nrmB : Kn → Rat → Bool
  | [], _ => true
  | [_], _ => true
  | a :: b :: r, s => !decide (sR a (b :: r) s = sR b r s) && nrmB (b :: r) s
def mk0 (k : Nat) : Rat × Rat := (((k : Int) : Rat), (((k : Int).fmod 2 : Int) : Rat))
def many1 : Kn := (List.range 300).map mk0
def many2 : Kn := many1.set 150 (((150 : Int) : Rat), ((1 : Int) : Rat))
end DL

set_option Elab.async false
set_option linter.all false
set_option maxRecDepth 100000
set_option maxHeartbeats 1000000
/-! LM8: rising rows of rationals -/
namespace DL
abbrev Srt (l : List Rat) : Prop := l.Pairwise (· < ·)
structure IsMg (a b l : List Rat) : Prop where
  srt : Srt l
  mem : ∀ x, x ∈ l ↔ x ∈ a ∨ x ∈ b
theorem rlt_irr {a : Rat} (h : a < a) : False := by grind
/-- two rows merged so far: k of the first, at of the second -/
structure MgI (a b : List Rat) (k at' : Nat) (f : List Rat) : Prop where
  srt : Srt f
  le : at' ≤ b.length
  mem : ∀ x, x ∈ f ↔ x ∈ a.take k ∨ x ∈ b.take at'
  lo1 : ∀ e ∈ f, ∀ y ∈ a.drop k, e < y
  lo2 : ∀ e ∈ f, ∀ y ∈ b.drop at', e < y
end DL

set_option Elab.async false
set_option linter.all false
set_option maxRecDepth 100000
set_option maxHeartbeats 1000000
/-! LM9: the first x at which a line is so high -/
namespace DL
def KnX (ks : Kn) (z : Rat) : Prop := ∃ i, i < ks.length ∧ z = (kn ks i).1
def FirstP (ks : Kn) (s g b : Rat) : Option Rat → Prop
  | none => (∀ x, (x = b ∨ (KnX ks x ∧ b < x)) → yAt ks s x < g) ∧ s ≤ 0
  | some r => b ≤ r ∧ g ≤ yAt ks s r ∧ (r ≠ b → yAt ks s r = g ∧ ∀ x, (x = b ∨ KnX ks x) → b ≤ x → x < r → yAt ks s x < g)
/-- so far not so high: up to x, behind knot j -/
structure Fs (ks : Kn) (s g b x : Rat) (j : Nat) : Prop where
  ge : b ≤ x
  at' : AtK ks x j
  low : yAt ks s x < g
  all : ∀ z, (z = b ∨ KnX ks z) → b ≤ z → z ≤ x → yAt ks s z < g
end DL

set_option Elab.async false
set_option linter.all false
/-! LM11: there is but one first x -/
namespace DL
end DL

set_option Elab.async false
set_option linter.all false
set_option maxRecDepth 100000
set_option maxHeartbeats 1000000
/-! LM12: bands: what they take and what they leave -/
namespace DL
/-- what is taken at the begin of each band -/
def tkn (bs : Kn) : Nat → Rat
  | 0 => 0
  | i + 1 => tkn bs i + (kn bs i).2 * ((kn bs (i + 1)).1 - (kn bs i).1)
def tkK (bs : Kn) (n : Nat) : Kn := (List.range n).map fun i => ((kn bs i).1, tkn bs i)
def lr (bs : Kn) : Rat := (kn bs (bs.length - 1)).2
structure Bd (B : Nat) (bs : Kn) : Prop where
  pos : 0 < bs.length
  len : bs.length ≤ 100
  fst : (kn bs 0).1 = 0
  ris : Rising bs
  r0 : ∀ i, i < bs.length → 0 ≤ (kn bs i).2
  r1 : ∀ i, i < bs.length → (kn bs i).2 ≤ 1
  bx : ∀ i, i < bs.length → sz (kn bs i).1 ≤ B
  br : ∀ i, i < bs.length → sz (kn bs i).2 ≤ B
  by' : ∀ i, i < bs.length → sz (tkn bs i) ≤ B
/-! what the law reckons, band by band -/
def topB (bs : Kn) (x : Rat) (i : Nat) : Rat := if i + 1 < bs.length ∧ (kn bs (i + 1)).1 < x then (kn bs (i + 1)).1 else x
def taxN (bs : Kn) (x : Rat) : Nat → Rat
  | 0 => 0
  | k + 1 => if (kn bs k).1 < topB bs x k then taxN bs x k + (kn bs k).2 * (topB bs x k - (kn bs k).1) else taxN bs x k
def tax (bs : Kn) (x : Rat) : Rat := taxN bs x bs.length
/-! the lines of bands -/
noncomputable def has (bs : Kn) (kept : Bool) (x : Rat) : Rat := if kept then x - tax bs x else tax bs x
def hsl (bs : Kn) (kept : Bool) : Rat := if kept then 1 - lr bs else lr bs
structure LnP (bs : Kn) (kept : Bool) (ks : Kn) : Prop where
  l : Ln 60 ks (hsl bs kept)
  n : Nrm ks (hsl bs kept)
  len : ks.length ≤ 200
  y : ∀ x, 0 ≤ x → yAt ks (hsl bs kept) x = has bs kept x
theorem Ln.mono {B C : Nat} {ks : Kn} {s : Rat} (h : Ln B ks s) (k : B ≤ C) : Ln C ks s :=
  ⟨⟨fun i hi => Nat.le_trans (h.b.x i hi) k, fun i hi => Nat.le_trans (h.b.y i hi) k, Nat.le_trans h.b.s k⟩, h.pos, h.fst, h.ris⟩
def timK (ks : Kn) (c : Rat) : Kn := ks.map fun p => (p.1, p.2 * c)
/-! the least sum with so much taken or left -/
def LeastP (bs : Kn) (kept : Bool) (g : Rat) (o : Option Rat) : Prop := ∃ ks, LnP bs kept ks ∧ FirstP ks (hsl bs kept) g 0 o
/-! bands as they are drawn -/
structure Bst (p k : Nat) (bs : Kn) (e : Rat) : Prop where
  len : bs.length = k
  e0 : k = 0 → e = 0
  fst : 0 < k → (kn bs 0).1 = 0
  ris : Rising bs
  le : ∀ i, i < k → (kn bs i).1 < e
  r : ∀ i, i < k → Dv p p (kn bs i).2 ∧ 0 ≤ (kn bs i).2 ∧ (kn bs i).2 ≤ 1
  dx : ∀ i, i < k → Dv 4 (120 * i) (kn bs i).1
  de : Dv 4 (120 * k) e
  dd : ∀ i, i + 1 < k → Dv 4 120 ((kn bs (i + 1)).1 - (kn bs i).1)
  dl : 0 < k → Dv 4 120 (e - (kn bs (k - 1)).1)
/-- another rate for the last band -/
def reL (bs : Kn) (v : Rat) : Kn := bs.dropLast ++ [((kn bs (bs.length - 1)).1, v)]
end DL

set_option Elab.async false
set_option linter.all false
set_option maxRecDepth 100000
set_option maxHeartbeats 4000000
/-! LR5: refused rows; the law of lines made -/
namespace DL
open PySem PySem.Spec PyProof.Rows L2
def TLineX (C : Addr) : List PyData → (PyData → Prop) → (Addr → Prop) → Prop := fun ds _ Ψ => ∃ (b : Bool) (ks : Kn) (s : Rat) (B : Nat), ds = [rkD b ks, qp s] ∧ (∀ i, i < ks.length → sz (kn ks i).1 ≤ B) ∧ ks.length ≤ 100000 ∧ B ≤ 3800 ∧ BadK ks ∧ Ψ C
def TToldL : List PyData → (PyData → Prop) → Prop := fun ds Φ => ∃ (b : Bool) (ks : Kn) (s : Rat) (B : Nat), ds = [rkD b ks, qp s] ∧ (∀ i, i < ks.length → sz (kn ks i).1 ≤ B) ∧ ks.length ≤ 100000 ∧ B ≤ 3800 ∧ BadK ks ∧ Φ (.str "line")
def TRight : Nat → List PyData → (PyData → Nat → Prop) → Prop := fun B ds Φ => ∃ (ks : Kn) (s : Rat), ds = [lnD ks s] ∧ GoodL 60 ks s ∧ B ≤ 2 ^ 38 ∧ ∀ B', B' ≤ B + 100 → Φ (.bool true) B'
def t_lineX (K : PySem.W.Frag) (C a_NOUGHT : Addr) (E : XK) : TS :=
  (tSeq (tIfS (tTest (tOp rEq (tCB (rLenX K) (tCons (tVar 0) tNil)) (tC (.int 0)))) (fun _ σ H => E (.ref C) none H) tNext)
    (tSeq (tIfS (tTest (tOp (rNeD K) (tOp (rIxT K) (tOp (rIxR K) (tVar 0) (tC (.int 0))) (tC (.int 0))) (tC (.ref a_NOUGHT)))) (fun _ σ H => E (.ref C) none H) tNext)
    (tSeq (tIfS (tNot (tB (tCall (spP K TRisB) [] E0 (tCons (tVar 0) tNil)))) (fun _ σ H => E (.ref C) none H) tNext)
    tNo)))
def tb_toldL (K : PySem.W.Frag) (C : Addr) (W : WX) : TS := tAsg (tCallS (spX K (TLineX C)) (WE W) (tCons (tVar 0) (tCons (tVar 1) tNil))) (gName 3)
def te_toldL (K : PySem.W.Frag) (C : Addr) : TE := tIf (tTest (tOp rIsNone (tVar 2) (tC .non))) (tVar 3) (tCall (spW K C "line") [] E0 (tCons (tVar 2) tNil))
def t_toldL (K : PySem.W.Frag) (C P : Addr) : TS :=
  (tSeq (tAsg (tC .non) (gName 2))
    (tSeq (tAsg (tC .non) (gName 3))
    (tSeq (fun D σ H => tb_toldL K C (wKeep K (.ref P) 4 ts_told D) D σ H)
    (tRet (te_toldL K C)))))
local macro_rules | `(tactic| walk_at "dl") => `(tactic| repeat' (first
  | with_reducible refine wd_isTy ?_ | with_reducible refine wd_isi ?_ | ((with_reducible show WD _ _ (tOp (rIxL _) (tVar _) _) _ _); refine wd_ix_own rfl ?_) | with_reducible refine wd_op ?_ | ((with_reducible show WD _ _ (tCB (rLenX _) (tCons (tVar _) tNil)) _ _); refine wd_len_scr rfl ?_) | ((with_reducible show WD _ _ (tCB (rLenX _) (tCons (tVar _) tNil)) _ _); refine wd_len_own rfl ?_) | with_reducible refine wd_cb ?_ | with_reducible refine wd_un ?_ | with_reducible refine wa_cons ?_ | with_reducible refine wa_nil ?_ | ((with_reducible show WD _ _ (tVar _) _ _); refine wd_var rfl ?_) | with_reducible refine wd_int ?_ | with_reducible refine wd_bl ?_ | with_reducible refine wd_str ?_ | with_reducible refine wd_non ?_
  | with_reducible refine do_nesS ?_ | with_reducible refine dc_intB ?_ | with_reducible refine do_add ?_ | with_reducible refine do_sub ?_ | ((with_reducible refine do_mod ?_ ?_); decide) | with_reducible refine do_mod ?_ ?_ | with_reducible refine do_mul ?_ ?_ | ((with_reducible refine do_div ?_ ?_); exact ⟨by decide, by decide⟩) | with_reducible refine do_div ?_ ?_ | ((with_reducible refine do_pow ?_ ?_); exact ⟨by decide, by decide, by decide⟩) | with_reducible refine do_pow ?_ ?_
  | with_reducible refine do_lt ?_ | with_reducible refine do_le ?_ | with_reducible refine do_gt ?_ | with_reducible refine do_ge ?_ | with_reducible refine du_neg ?_
  | with_reducible refine do_eqi ?_ | with_reducible refine do_nei ?_ | with_reducible refine do_eqs ?_ | with_reducible refine do_nes ?_ | with_reducible refine dc_abs ?_ | with_reducible refine dc_min ?_ | with_reducible refine dc_max ?_ | with_reducible refine dc_lenL ?_ | with_reducible refine dc_lenT ?_ | with_reducible refine dc_lenR ?_ | with_reducible refine dc_listT ?_ | with_reducible refine dc_listL ?_ | with_reducible refine dc_tupL ?_ | with_reducible refine dc_gcd ?_
  | ((with_reducible show DO _ (rIxT _) _ _ _); refine do_ixT rfl ?_) | ((with_reducible show DO _ (rIxL _) _ _ _); refine do_ixL rfl ?_) | ((with_reducible refine do_catL ?_ ?_); exact Nat.le_of_ble_eq_true rfl) | with_reducible refine do_catL ?_ ?_ | ((with_reducible show And (List.length _ ≤ sizeLine) _); refine ⟨Nat.le_of_ble_eq_true rfl, ?_⟩)
  | with_reducible refine wd_dnew ?_ | with_reducible refine wd_call0 ?_ | with_reducible refine wd_slA ?_ | with_reducible refine wd_slL ?_ | with_reducible refine wd_revT ?_ | with_reducible refine do_catA ?_ ?_ | with_reducible refine wo_part ?_ | with_reducible refine wo_none ?_ | with_reducible refine do_eqQ ?_ | with_reducible refine do_neQ ?_ | with_reducible refine wi_enumT ?_ | with_reducible refine wi_enumD ?_ | with_reducible refine tAdQ (by omega) (by omega) ?_ | with_reducible refine tSbQ (by omega) (by omega) ?_ | with_reducible refine tMlQ (by omega) (by omega) ?_ | with_reducible refine tDvQ (by assumption) (by omega) (by omega) ?_ | with_reducible refine tLtQ (by omega) (by omega) ?_ | with_reducible refine dc_str ?_ ?_ | with_reducible refine wd_tup ?_ | with_reducible refine wd_lst ?_ | with_reducible refine wt_test ?_ | with_reducible refine wt_B ?_ | with_reducible refine wt_not ?_ | with_reducible refine wt_and ?_ | with_reducible refine wt_or ?_ | with_reducible refine wd_ifE ?_ | with_reducible refine wd_andV ?_ | with_reducible refine wd_orV ?_ | with_reducible refine wd_notV ?_
  | with_reducible refine ws_seq ?_ | with_reducible refine ws_next ?_ | with_reducible refine ws_asg ?_ | with_reducible refine ws_ret ?_ | with_reducible refine ws_retN ?_ | with_reducible refine ws_if ?_ | with_reducible refine ws_par ?_ | with_reducible refine ws_unp2 ?_
  | with_reducible refine if_t ?_ | with_reducible refine if_f ?_ | with_reducible refine if_nf ?_ | with_reducible refine if_nt ?_
  | ((with_reducible show Exists _); first | refine ⟨_, kitInt _, ?_⟩ | refine ⟨_, kitBool _, ?_⟩ | refine ⟨_, kitTup _, ?_⟩ | refine ⟨_, kitList _, ?_⟩ | refine ⟨_, rfl, ?_⟩ | refine ⟨_, _, rfl, ?_⟩ | fail) | fail))
def t_right6 (K : PySem.W.Frag) : TS :=
  (tSeq (tAsg (tCall (spS K FPot TMore) [] E0 (tCons (tVar 0) (tCons (tVar 1) tNil))) (gName 2))
    (tSeq (tAsg (tCB (rReprZ K) (tCons (tVar 2) tNil)) (gName 3))
    (tSeq (tIfS (tTest (tOp rNe (tCB (rReprZ K) (tCons (tLst (tCons (tCall (spP K TLineOf) [] E0 (tCons (tVar 2) (tCons (tOp (rIxT K) (tVar 1) (tC (.int 1))) tNil))) (tCons (tCall (spP K TLineOf) [] E0 (tCons (tCB (rTupOf K) (tCons (tVar 2) tNil)) (tCons (tOp (rIxT K) (tVar 1) (tC (.int 1))) tNil))) tNil))) tNil)) (tCB (rReprZ K) (tCons (tLst (tCons (tVar 1) (tCons (tVar 1) tNil))) tNil)))) (tRet (tC (.bl false))) tNext)
    (tSeq (tIfS (tOr (tTest (tOp rNe (tCB (rReprZ K) (tCons (tCall (spP K TLineOf) [] E0 (tCons (tOp (rIxT K) (tVar 1) (tC (.int 0))) (tCons (tOp (rIxT K) (tVar 1) (tC (.int 1))) tNil))) tNil)) (tCB (rReprZ K) (tCons (tVar 1) tNil)))) (tTest (tOp rNe (tCB (rReprZ K) (tCons (tVar 2) tNil)) (tVar 3)))) (tRet (tC (.bl false))) tNext)
    (tSeq (tFor (iRng1 (tCons (tC (.int 3)) tNil)) (gName 4) (tSeq (tAsg (tCall (spS K FPot TNoRow) [] E0 (tCons (tVar 0) (tCons (tVar 1) tNil))) (gName 5))
    (tSeq (tAsg (tCB (rReprZ K) (tCons (tVar 5) tNil)) (gName 3))
    (tIfS (tOr (tTest (tOp rNe (tCall (spP K TToldL) [] E0 (tCons (tVar 5) (tCons (tOp (rIxT K) (tVar 1) (tC (.int 1))) tNil))) (tC (.str "line")))) (tOr (tTest (tOp rNe (tCall (spP K TToldL) [] E0 (tCons (tCB (rTupOf K) (tCons (tVar 5) tNil)) (tCons (tOp (rIxT K) (tVar 1) (tC (.int 1))) tNil))) (tC (.str "line")))) (tTest (tOp rNe (tCB (rReprZ K) (tCons (tVar 5) tNil)) (tVar 3))))) (tRet (tC (.bl false))) tNext))))
    (tRet (tC (.bl true))))))))
end DL

set_option Elab.async false
set_option linter.all false
set_option maxRecDepth 100000
set_option maxHeartbeats 4000000
/-! LR6: the law of lines known and made -/
namespace DL
open PySem PySem.Spec PyProof.Rows L2
local macro_rules | `(tactic| walk_at "dl") => `(tactic| repeat' (first
  | with_reducible refine wd_isTy ?_ | with_reducible refine wd_isi ?_ | ((with_reducible show WD _ _ (tOp (rIxL _) (tVar _) _) _ _); refine wd_ix_own rfl ?_) | with_reducible refine wd_op ?_ | ((with_reducible show WD _ _ (tCB (rLenX _) (tCons (tVar _) tNil)) _ _); refine wd_len_scr rfl ?_) | ((with_reducible show WD _ _ (tCB (rLenX _) (tCons (tVar _) tNil)) _ _); refine wd_len_own rfl ?_) | with_reducible refine wd_cb ?_ | with_reducible refine wd_un ?_ | with_reducible refine wa_cons ?_ | with_reducible refine wa_nil ?_ | ((with_reducible show WD _ _ (tVar _) _ _); refine wd_var rfl ?_) | with_reducible refine wd_int ?_ | with_reducible refine wd_bl ?_ | with_reducible refine wd_str ?_ | with_reducible refine wd_non ?_
  | with_reducible refine do_nesS ?_ | with_reducible refine dc_intB ?_ | with_reducible refine do_add ?_ | with_reducible refine do_sub ?_ | ((with_reducible refine do_mod ?_ ?_); decide) | with_reducible refine do_mod ?_ ?_ | with_reducible refine do_mul ?_ ?_ | ((with_reducible refine do_div ?_ ?_); exact ⟨by decide, by decide⟩) | with_reducible refine do_div ?_ ?_ | ((with_reducible refine do_pow ?_ ?_); exact ⟨by decide, by decide, by decide⟩) | with_reducible refine do_pow ?_ ?_
  | with_reducible refine do_lt ?_ | with_reducible refine do_le ?_ | with_reducible refine do_gt ?_ | with_reducible refine do_ge ?_ | with_reducible refine du_neg ?_
  | with_reducible refine do_eqi ?_ | with_reducible refine do_nei ?_ | with_reducible refine do_eqs ?_ | with_reducible refine do_nes ?_ | with_reducible refine dc_abs ?_ | with_reducible refine dc_min ?_ | with_reducible refine dc_max ?_ | with_reducible refine dc_lenL ?_ | with_reducible refine dc_lenT ?_ | with_reducible refine dc_lenR ?_ | with_reducible refine dc_listT ?_ | with_reducible refine dc_listL ?_ | with_reducible refine dc_tupL ?_ | with_reducible refine dc_gcd ?_
  | ((with_reducible show DO _ (rIxT _) _ _ _); refine do_ixT rfl ?_) | ((with_reducible show DO _ (rIxL _) _ _ _); refine do_ixL rfl ?_) | ((with_reducible refine do_catL ?_ ?_); exact Nat.le_of_ble_eq_true rfl) | with_reducible refine do_catL ?_ ?_ | ((with_reducible show And (List.length _ ≤ sizeLine) _); refine ⟨Nat.le_of_ble_eq_true rfl, ?_⟩)
  | with_reducible refine wd_dnew ?_ | with_reducible refine wd_call0 ?_ | with_reducible refine wd_slA ?_ | with_reducible refine wd_slL ?_ | with_reducible refine wd_revT ?_ | with_reducible refine do_catA ?_ ?_ | with_reducible refine wo_part ?_ | with_reducible refine wo_none ?_ | with_reducible refine do_eqQ ?_ | with_reducible refine do_neQ ?_ | with_reducible refine wi_enumT ?_ | with_reducible refine wi_enumD ?_ | with_reducible refine tAdQ (by omega) (by omega) ?_ | with_reducible refine tSbQ (by omega) (by omega) ?_ | with_reducible refine tMlQ (by omega) (by omega) ?_ | with_reducible refine tDvQ (by assumption) (by omega) (by omega) ?_ | with_reducible refine tLtQ (by omega) (by omega) ?_ | with_reducible refine dc_str ?_ ?_ | with_reducible refine wd_tup ?_ | with_reducible refine wd_lst ?_ | with_reducible refine wt_test ?_ | with_reducible refine wt_B ?_ | with_reducible refine wt_not ?_ | with_reducible refine wt_and ?_ | with_reducible refine wt_or ?_ | with_reducible refine wd_ifE ?_ | with_reducible refine wd_andV ?_ | with_reducible refine wd_orV ?_ | with_reducible refine wd_notV ?_
  | with_reducible refine ws_seq ?_ | with_reducible refine ws_next ?_ | with_reducible refine ws_asg ?_ | with_reducible refine ws_ret ?_ | with_reducible refine ws_retN ?_ | with_reducible refine ws_if ?_ | with_reducible refine ws_par ?_ | with_reducible refine ws_unp2 ?_
  | with_reducible refine if_t ?_ | with_reducible refine if_f ?_ | with_reducible refine if_nf ?_ | with_reducible refine if_nt ?_
  | ((with_reducible show Exists _); first | refine ⟨_, kitInt _, ?_⟩ | refine ⟨_, kitBool _, ?_⟩ | refine ⟨_, kitTup _, ?_⟩ | refine ⟨_, kitList _, ?_⟩ | refine ⟨_, rfl, ?_⟩ | refine ⟨_, _, rfl, ?_⟩ | fail) | fail))
def t_law6 (K : PySem.W.Frag) : TS :=
  (tSeq (tFor (iEnum K (tCons (tOp rCatL (tLst (tCons (tC (.int 0)) tNil)) (tCall (spF K) [] E0 (tCons (tVar 0) (tCons (tC (.int 20)) tNil)))) tNil)) (gTup K 2 (gCons (gName 1) (gCons (gName 2) gNil))) (tSeq (tAsg (tCall (spN K TPot) [] E0 (tCons (tVar 2) (tCons (tVar 1) tNil))) (gName 3))
    (tSeq (tAsg (tCall (spS K FPot TLine) [] E0 (tCons (tVar 3) (tCons (tOp (rIxL K) (tLst (tCons (tC (.int 12)) (tCons (tC (.int 60)) tNil))) (tCB rInt1 (tCons (tOp rEq (tVar 1) (tC (.int 1))) tNil))) tNil))) (gName 4))
    (tSeq (tFor (iList K (tOp rCatL (tLst (tCons (tVar 4) tNil)) (tLc (iRng1 (tCons (tC (.int 6)) tNil)) (gName 8) tYes (tCall (spS K FPot TBent) [] E0 (tCons (tVar 3) (tCons (tVar 4) tNil))) [8]))) (gName 5) (tSeq (tAsg (tCB (rReprZ K) (tCons (tVar 5) tNil)) (gName 6))
    (tIfS (tOr (tTest (tOp rNe (tCB (rReprZ K) (tCons (tCall (spP K TIsLine) [] E0 (tCons (tVar 5) tNil)) tNil)) (tCB (rReprZ K) (tCons (tCall (spP K TIsLine) [] E0 (tCons (tVar 5) tNil)) tNil)))) (tTest (tOp rNe (tCB (rReprZ K) (tCons (tVar 5) tNil)) (tVar 6)))) (tRet (tC (.bl false))) tNext)))
    (tIfS (tNot (tB (tCall (spS K FPot TRight) [] E0 (tCons (tVar 3) (tCons (tVar 4) tNil))))) (tRet (tC (.bl false))) tNext)))))
    (tSeq (tAsg (tLc (iRng1 (tCons (tC (.int 300)) tNil)) (gName 8) tYes (tTup (tCons (tTup (tCons (tVar 8) (tCons (tC (.int 1)) tNil))) (tCons (tTup (tCons (tOp rModI (tVar 8) (tC (.int 2))) (tCons (tC (.int 1)) tNil))) tNil))) [8]) (gName 7))
    (tSeq (tIfS (tOr (tTest (tOp rNotB (tCall (spP K TIsLine) [] E0 (tCons (tTup (tCons (tCB (rTupOf K) (tCons (tVar 7) tNil)) (tCons (tTup (tCons (tC (.int 5)) (tCons (tC (.int 1)) tNil))) tNil))) tNil)) (tC (.bl true)))) (tTest (tOp (rNeD K) (tCall (spP K TLineOf) [] E0 (tCons (tVar 7) (tCons (tTup (tCons (tC (.int 5)) (tCons (tC (.int 1)) tNil))) tNil))) (tTup (tCons (tCB (rTupOf K) (tCons (tVar 7) tNil)) (tCons (tTup (tCons (tC (.int 5)) (tCons (tC (.int 1)) tNil))) tNil)))))) (tRet (tC (.bl false))) tNext)
    (tSeq (tAsg (tTup (tCons (tTup (tCons (tC (.int 150)) (tCons (tC (.int 1)) tNil))) (tCons (tTup (tCons (tC (.int 1)) (tCons (tC (.int 1)) tNil))) tNil))) (gSub (tVar 7) (tC (.int 150)) rSetL))
    (tSeq (tIfS (tOr (tTest (tOp rNotB (tCall (spP K TIsLine) [] E0 (tCons (tTup (tCons (tCB (rTupOf K) (tCons (tVar 7) tNil)) (tCons (tTup (tCons (tC (.int 5)) (tCons (tC (.int 1)) tNil))) tNil))) tNil)) (tC (.bl false)))) (tTest (tOp rNe (tCB (rLenX K) (tCons (tOp (rIxT K) (tCall (spP K TLineOf) [] E0 (tCons (tVar 7) (tCons (tTup (tCons (tC (.int 5)) (tCons (tC (.int 1)) tNil))) tNil))) (tC (.int 0))) tNil)) (tC (.int 299))))) (tRet (tC (.bl false))) tNext)
    (tRet (tOp rIsB (tCall (spP K TIsLine) [] E0 (tCons (tTup (tCons (tTup (tCons (tTup (tCons (tTup (tCons (tC (.int 0)) (tCons (tC (.int 1)) tNil))) (tCons (tTup (tCons (tC (.int 0)) (tCons (tC (.int 1)) tNil))) tNil))) tNil)) (tCons (tTup (tCons (tC (.int 0)) (tCons (tC (.int 1)) tNil))) tNil))) tNil)) (tC (.bl true)))))))))
theorem rs_bool {b : Bool} : Rs 10 1 (.bool b) := ⟨by cases b <;> rfl, rfl, by cases b <;> decide, by cases b <;> decide⟩
end DL

set_option Elab.async false
set_option linter.all false
set_option maxRecDepth 100000
set_option maxHeartbeats 4000000
/-! LS1: rows of x merged; heights of rows; sums of lines -/
namespace DL
open PySem PySem.Spec PyProof.Rows L2
abbrev qL (l : List Rat) : PyData := .list (l.map qp)
def TKxs : List PyData → (PyData → Prop) → Prop := fun ds Φ => ∃ (ks : Kn) (s : Rat), ds = [lnD ks s] ∧ ks.length ≤ 100000 ∧ Φ (qL (ks.map (·.1)))
def TMerged : List PyData → (List PyData → Prop) → Prop := fun ds Φ => ∃ (a b : List Rat) (B : Nat), ds = [qL a, qL b] ∧ Srt a ∧ Srt b ∧ a.length + b.length ≤ 1000000 ∧ B ≤ 3800 ∧ (∀ x ∈ a, sz x ≤ B) ∧ (∀ x ∈ b, sz x ≤ B) ∧ ∀ l, IsMg a b l → Φ (l.map qp)
def THeights : List PyData → (PyData → Prop) → Prop := fun ds Φ => ∃ (ks : Kn) (s : Rat) (xs : List Rat) (B C : Nat), ds = [lnD ks s, qL xs] ∧ Lq B ks s ∧ Srt xs ∧ xs.length ≤ 1000000 ∧ (∀ x ∈ xs, 0 ≤ x ∧ sz x ≤ C) ∧ 5 * B + C ≤ 3800 ∧ Φ (qL (xs.map (yAt ks s)))
local macro_rules | `(tactic| walk_at "dl") => `(tactic| repeat' (first
  | with_reducible refine wd_isTy ?_ | with_reducible refine wd_isi ?_ | ((with_reducible show WD _ _ (tOp (rIxL _) (tVar _) _) _ _); refine wd_ix_own rfl ?_) | with_reducible refine wd_op ?_ | ((with_reducible show WD _ _ (tCB (rLenX _) (tCons (tVar _) tNil)) _ _); refine wd_len_scr rfl ?_) | ((with_reducible show WD _ _ (tCB (rLenX _) (tCons (tVar _) tNil)) _ _); refine wd_len_own rfl ?_) | with_reducible refine wd_cb ?_ | with_reducible refine wd_un ?_ | with_reducible refine wa_cons ?_ | with_reducible refine wa_nil ?_ | ((with_reducible show WD _ _ (tVar _) _ _); refine wd_var rfl ?_) | with_reducible refine wd_int ?_ | with_reducible refine wd_bl ?_ | with_reducible refine wd_str ?_ | with_reducible refine wd_non ?_
  | with_reducible refine do_nesS ?_ | with_reducible refine dc_intB ?_ | with_reducible refine do_add ?_ | with_reducible refine do_sub ?_ | ((with_reducible refine do_mod ?_ ?_); decide) | with_reducible refine do_mod ?_ ?_ | with_reducible refine do_mul ?_ ?_ | ((with_reducible refine do_div ?_ ?_); exact ⟨by decide, by decide⟩) | with_reducible refine do_div ?_ ?_ | ((with_reducible refine do_pow ?_ ?_); exact ⟨by decide, by decide, by decide⟩) | with_reducible refine do_pow ?_ ?_
  | with_reducible refine do_lt ?_ | with_reducible refine do_le ?_ | with_reducible refine do_gt ?_ | with_reducible refine do_ge ?_ | with_reducible refine du_neg ?_
  | with_reducible refine do_eqi ?_ | with_reducible refine do_nei ?_ | with_reducible refine do_eqs ?_ | with_reducible refine do_nes ?_ | with_reducible refine dc_abs ?_ | with_reducible refine dc_min ?_ | with_reducible refine dc_max ?_ | with_reducible refine dc_lenL ?_ | with_reducible refine dc_lenT ?_ | with_reducible refine dc_lenR ?_ | with_reducible refine dc_listT ?_ | with_reducible refine dc_listL ?_ | with_reducible refine dc_tupL ?_ | with_reducible refine dc_gcd ?_
  | ((with_reducible show DO _ (rIxT _) _ _ _); refine do_ixT rfl ?_) | ((with_reducible show DO _ (rIxL _) _ _ _); refine do_ixL rfl ?_) | ((with_reducible refine do_catL ?_ ?_); exact Nat.le_of_ble_eq_true rfl) | with_reducible refine do_catL ?_ ?_ | ((with_reducible show And (List.length _ ≤ sizeLine) _); refine ⟨Nat.le_of_ble_eq_true rfl, ?_⟩)
  | with_reducible refine wd_dnew ?_ | with_reducible refine wd_call0 ?_ | with_reducible refine wd_slA ?_ | with_reducible refine wd_slL ?_ | with_reducible refine wd_revT ?_ | with_reducible refine do_catA ?_ ?_ | with_reducible refine wo_part ?_ | with_reducible refine wo_none ?_ | with_reducible refine do_eqQ ?_ | with_reducible refine do_neQ ?_ | with_reducible refine wi_enumT ?_ | with_reducible refine wi_enumD ?_ | with_reducible refine tAdQ (by omega) (by omega) ?_ | with_reducible refine tSbQ (by omega) (by omega) ?_ | with_reducible refine tMlQ (by omega) (by omega) ?_ | with_reducible refine tDvQ (by assumption) (by omega) (by omega) ?_ | with_reducible refine tLtQ (by omega) (by omega) ?_ | with_reducible refine dc_str ?_ ?_ | with_reducible refine wd_tup ?_ | with_reducible refine wd_lst ?_ | with_reducible refine wt_test ?_ | with_reducible refine wt_B ?_ | with_reducible refine wt_not ?_ | with_reducible refine wt_and ?_ | with_reducible refine wt_or ?_ | with_reducible refine wd_ifE ?_ | with_reducible refine wd_andV ?_ | with_reducible refine wd_orV ?_ | with_reducible refine wd_notV ?_
  | with_reducible refine ws_seq ?_ | with_reducible refine ws_next ?_ | with_reducible refine ws_asg ?_ | with_reducible refine ws_ret ?_ | with_reducible refine ws_retN ?_ | with_reducible refine ws_if ?_ | with_reducible refine ws_par ?_ | with_reducible refine ws_unp2 ?_
  | with_reducible refine if_t ?_ | with_reducible refine if_f ?_ | with_reducible refine if_nf ?_ | with_reducible refine if_nt ?_
  | ((with_reducible show Exists _); first | refine ⟨_, kitInt _, ?_⟩ | refine ⟨_, kitBool _, ?_⟩ | refine ⟨_, kitTup _, ?_⟩ | refine ⟨_, kitList _, ?_⟩ | refine ⟨_, rfl, ?_⟩ | refine ⟨_, _, rfl, ?_⟩ | fail) | fail))
def t_kxs (K : PySem.W.Frag) : TS :=
  (tRet (tLc (iTup K (tOp (rIxT K) (tVar 0) (tC (.int 0)))) (gTup K 2 (gCons (gName 1) (gCons (gName 2) gNil))) tYes (tVar 1) [1, 2]))
def t_heights (K : PySem.W.Frag) : TS :=
  (tSeq (tAsg (tOp (rIxT K) (tVar 0) (tC (.int 0))) (gName 2))
    (tSeq (tAsg (tLst tNil) (gName 3))
    (tSeq (tAsg (tC (.int 0)) (gName 4))
    (tSeq (tFor (iList K (tVar 1)) (gName 5) (tSeq (tWhile (tAnd (tTest (tOp rLt (tOp rAddI (tVar 4) (tC (.int 1))) (tCB (rLenX K) (tCons (tVar 2) tNil)))) (tNot (tB (tCall (spP K TLtQ) [] E0 (tCons (tVar 5) (tCons (tOp (rIxT K) (tOp (rIxT K) (tVar 2) (tOp rAddI (tVar 4) (tC (.int 1)))) (tC (.int 0))) tNil)))))) (tAsg (tOp rAddI (tVar 4) (tC (.int 1))) (gName 4)))
    (tDrop (tBM K "list" rAppend (tVar 3) (tCons (tCall (spP K THeight) [] E0 (tCons (tVar 0) (tCons (tVar 4) (tCons (tVar 5) tNil)))) tNil)))))
    (tRet (tVar 3))))))
section
variable {K : PySem.W.Frag} {ds : List PyData} {Φ : PyData → Prop}
end
end DL

set_option Elab.async false
set_option linter.all false
set_option maxRecDepth 100000
set_option maxHeartbeats 4000000
/-! LS2: rows merged; both heights; sums of lines -/
namespace DL
open PySem PySem.Spec PyProof.Rows L2
def pD (a b : Rat) : PyData := .tuple [qp a, qp b]
def TBoth : List PyData → (PyData → Prop) → Prop := fun ds Φ => ∃ (ks ls : Kn) (s t : Rat) (xs : List Rat) (B C : Nat), ds = [lnD ks s, lnD ls t, qL xs] ∧ Lq B ks s ∧ Lq B ls t ∧ Srt xs ∧ xs.length ≤ 1000000 ∧ (∀ x ∈ xs, 0 ≤ x ∧ sz x ≤ C) ∧ 5 * B + C ≤ 3800 ∧ Φ (.list (xs.map fun x => pD (yAt ks s x) (yAt ls t x)))
def xsK (ks : Kn) : List Rat := ks.map (·.1)
noncomputable def sumK (ks ls : Kn) (s t : Rat) (xs : List Rat) : Kn := xs.map fun x => (x, yAt ks s x + yAt ls t x)
def TSumL : List PyData → (PyData → Prop) → Prop := fun ds Φ => ∃ (ks ls : Kn) (s t : Rat) (B : Nat), ds = [lnD ks s, lnD ls t] ∧ Lq B ks s ∧ Lq B ls t ∧ ks.length + ls.length ≤ 100000 ∧ 28 * B ≤ 3800 ∧ ∀ xs, IsMg (xsK ks) (xsK ls) xs → Φ (lnD (bI (sumK ks ls s t xs) (s + t) (sumK ks ls s t xs).length) (s + t))
local macro_rules | `(tactic| walk_at "dl") => `(tactic| repeat' (first
  | with_reducible refine wd_isTy ?_ | with_reducible refine wd_isi ?_ | ((with_reducible show WD _ _ (tOp (rIxL _) (tVar _) _) _ _); refine wd_ix_own rfl ?_) | with_reducible refine wd_op ?_ | ((with_reducible show WD _ _ (tCB (rLenX _) (tCons (tVar _) tNil)) _ _); refine wd_len_scr rfl ?_) | ((with_reducible show WD _ _ (tCB (rLenX _) (tCons (tVar _) tNil)) _ _); refine wd_len_own rfl ?_) | with_reducible refine wd_cb ?_ | with_reducible refine wd_un ?_ | with_reducible refine wa_cons ?_ | with_reducible refine wa_nil ?_ | ((with_reducible show WD _ _ (tVar _) _ _); refine wd_var rfl ?_) | with_reducible refine wd_int ?_ | with_reducible refine wd_bl ?_ | with_reducible refine wd_str ?_ | with_reducible refine wd_non ?_
  | with_reducible refine do_nesS ?_ | with_reducible refine dc_intB ?_ | with_reducible refine do_add ?_ | with_reducible refine do_sub ?_ | ((with_reducible refine do_mod ?_ ?_); decide) | with_reducible refine do_mod ?_ ?_ | with_reducible refine do_mul ?_ ?_ | ((with_reducible refine do_div ?_ ?_); exact ⟨by decide, by decide⟩) | with_reducible refine do_div ?_ ?_ | ((with_reducible refine do_pow ?_ ?_); exact ⟨by decide, by decide, by decide⟩) | with_reducible refine do_pow ?_ ?_
  | with_reducible refine do_lt ?_ | with_reducible refine do_le ?_ | with_reducible refine do_gt ?_ | with_reducible refine do_ge ?_ | with_reducible refine du_neg ?_
  | with_reducible refine do_eqi ?_ | with_reducible refine do_nei ?_ | with_reducible refine do_eqs ?_ | with_reducible refine do_nes ?_ | with_reducible refine dc_abs ?_ | with_reducible refine dc_min ?_ | with_reducible refine dc_max ?_ | with_reducible refine dc_lenL ?_ | with_reducible refine dc_lenT ?_ | with_reducible refine dc_lenR ?_ | with_reducible refine dc_listT ?_ | with_reducible refine dc_listL ?_ | with_reducible refine dc_tupL ?_ | with_reducible refine dc_gcd ?_
  | ((with_reducible show DO _ (rIxT _) _ _ _); refine do_ixT rfl ?_) | ((with_reducible show DO _ (rIxL _) _ _ _); refine do_ixL rfl ?_) | ((with_reducible refine do_catL ?_ ?_); exact Nat.le_of_ble_eq_true rfl) | with_reducible refine do_catL ?_ ?_ | ((with_reducible show And (List.length _ ≤ sizeLine) _); refine ⟨Nat.le_of_ble_eq_true rfl, ?_⟩)
  | with_reducible refine wd_dnew ?_ | with_reducible refine wd_call0 ?_ | with_reducible refine wd_slA ?_ | with_reducible refine wd_slL ?_ | with_reducible refine wd_revT ?_ | with_reducible refine do_catA ?_ ?_ | with_reducible refine wo_part ?_ | with_reducible refine wo_none ?_ | with_reducible refine do_eqQ ?_ | with_reducible refine do_neQ ?_ | with_reducible refine wi_enumT ?_ | with_reducible refine wi_enumD ?_ | with_reducible refine tAdQ (by omega) (by omega) ?_ | with_reducible refine tSbQ (by omega) (by omega) ?_ | with_reducible refine tMlQ (by omega) (by omega) ?_ | with_reducible refine tDvQ (by assumption) (by omega) (by omega) ?_ | with_reducible refine tLtQ (by omega) (by omega) ?_ | with_reducible refine dc_str ?_ ?_ | with_reducible refine wd_tup ?_ | with_reducible refine wd_lst ?_ | with_reducible refine wt_test ?_ | with_reducible refine wt_B ?_ | with_reducible refine wt_not ?_ | with_reducible refine wt_and ?_ | with_reducible refine wt_or ?_ | with_reducible refine wd_ifE ?_ | with_reducible refine wd_andV ?_ | with_reducible refine wd_orV ?_ | with_reducible refine wd_notV ?_
  | with_reducible refine ws_seq ?_ | with_reducible refine ws_next ?_ | with_reducible refine ws_asg ?_ | with_reducible refine ws_ret ?_ | with_reducible refine ws_retN ?_ | with_reducible refine ws_if ?_ | with_reducible refine ws_par ?_ | with_reducible refine ws_unp2 ?_
  | with_reducible refine if_t ?_ | with_reducible refine if_f ?_ | with_reducible refine if_nf ?_ | with_reducible refine if_nt ?_
  | ((with_reducible show Exists _); first | refine ⟨_, kitInt _, ?_⟩ | refine ⟨_, kitBool _, ?_⟩ | refine ⟨_, kitTup _, ?_⟩ | refine ⟨_, kitList _, ?_⟩ | refine ⟨_, rfl, ?_⟩ | refine ⟨_, _, rfl, ?_⟩ | fail) | fail))
def t_both (K : PySem.W.Frag) : TS :=
  (tRet (tLZip K (tCons (tCall (spP K THeights) [] E0 (tCons (tVar 0) (tCons (tVar 2) tNil))) (tCons (tCall (spP K THeights) [] E0 (tCons (tVar 1) (tCons (tVar 2) tNil))) tNil))))
def tb_merged (K : PySem.W.Frag) : TS :=
  (tSeq (tAsg (tLst tNil) (gName 2))
    (tSeq (tAsg (tC (.int 0)) (gName 3))
    (tFor (iList K (tVar 0)) (gName 4) (tSeq (tWhile (tAnd (tTest (tOp rLt (tVar 3) (tCB (rLenX K) (tCons (tVar 1) tNil)))) (tB (tCall (spP K TLtQ) [] E0 (tCons (tOp (rIxL K) (tVar 1) (tVar 3)) (tCons (tVar 4) tNil))))) (tSeq (tDrop (tBM K "list" rAppend (tVar 2) (tCons (tOp (rIxL K) (tVar 1) (tVar 3)) tNil)))
    (tAsg (tOp rAddI (tVar 3) (tC (.int 1))) (gName 3))))
    (tSeq (tIfS (tAnd (tTest (tOp rLt (tVar 3) (tCB (rLenX K) (tCons (tVar 1) tNil)))) (tTest (tOp (rEqD K) (tOp (rIxL K) (tVar 1) (tVar 3)) (tVar 4)))) (tAsg (tOp rAddI (tVar 3) (tC (.int 1))) (gName 3)) tNext)
    (tDrop (tBM K "list" rAppend (tVar 2) (tCons (tVar 4) tNil))))))))
def t_merged (K : PySem.W.Frag) : TS :=
  (tSeq (tAsg (tLst tNil) (gName 2))
    (tSeq (tAsg (tC (.int 0)) (gName 3))
    (tSeq (tFor (iList K (tVar 0)) (gName 4) (tSeq (tWhile (tAnd (tTest (tOp rLt (tVar 3) (tCB (rLenX K) (tCons (tVar 1) tNil)))) (tB (tCall (spP K TLtQ) [] E0 (tCons (tOp (rIxL K) (tVar 1) (tVar 3)) (tCons (tVar 4) tNil))))) (tSeq (tDrop (tBM K "list" rAppend (tVar 2) (tCons (tOp (rIxL K) (tVar 1) (tVar 3)) tNil)))
    (tAsg (tOp rAddI (tVar 3) (tC (.int 1))) (gName 3))))
    (tSeq (tIfS (tAnd (tTest (tOp rLt (tVar 3) (tCB (rLenX K) (tCons (tVar 1) tNil)))) (tTest (tOp (rEqD K) (tOp (rIxL K) (tVar 1) (tVar 3)) (tVar 4)))) (tAsg (tOp rAddI (tVar 3) (tC (.int 1))) (gName 3)) tNext)
    (tDrop (tBM K "list" rAppend (tVar 2) (tCons (tVar 4) tNil))))))
    (tRet (tOp rCatL (tVar 2) (tSl (rSlL K) (tVar 1) (tPart (tVar 3)) tNoPart))))))
def t_sumline (K : PySem.W.Frag) : TS :=
  (tSeq (tAsg (tCall (spM K TMerged) [] E0 (tCons (tCall (spP K TKxs) [] E0 (tCons (tVar 0) tNil)) (tCons (tCall (spP K TKxs) [] E0 (tCons (tVar 1) tNil)) tNil))) (gName 2))
    (tSeq (tAsg (tLc (iList K (tCall (spP K TBoth) [] E0 (tCons (tVar 0) (tCons (tVar 1) (tCons (tVar 2) tNil))))) (gTup K 2 (gCons (gName 4) (gCons (gName 5) gNil))) tYes (tCall (spP K TAdQ) [] E0 (tCons (tVar 4) (tCons (tVar 5) tNil))) [4, 5]) (gName 3))
    (tRet (tCall (spP K TLineOf) [] E0 (tCons (tLZip K (tCons (tVar 2) (tCons (tVar 3) tNil))) (tCons (tCall (spP K TAdQ) [] E0 (tCons (tOp (rIxT K) (tVar 0) (tC (.int 1))) (tCons (tOp (rIxT K) (tVar 1) (tC (.int 1))) tNil))) tNil))))))
theorem MgI.len {a b f : List Rat} {k n : Nat} (h : MgI a b k n f) : f.length ≤ a.length + b.length := by
  have nd : ∀ {f g : List Rat}, Srt f → (∀ x ∈ f, x ∈ g) → f.length ≤ g.length := fun {f} => by
    induction f with
    | nil => intro g _ _; exact Nat.zero_le _
    | cons x f ih =>
      intro g h1 h2
      rw [Srt, List.pairwise_cons] at h1
      have hx := h2 x List.mem_cons_self
      have := ih (g := g.erase x) h1.2 fun y hy => by
        have ne : y ≠ x := fun e => by subst e; exact rlt_irr (h1.1 _ hy)
        exact (List.mem_erase_of_ne ne).mpr (h2 y (List.mem_cons_of_mem _ hy))
      rw [List.length_erase_of_mem hx] at this
      have := List.length_pos_of_mem hx
      rw [List.length_cons]; omega
  have := nd (g := a ++ b) h.srt fun x hx => by
    rcases (h.mem x).mp hx with q | q
    · exact List.mem_append_left _ (List.mem_of_mem_take q)
    · exact List.mem_append_right _ (List.mem_of_mem_take q)
  rw [List.length_append] at this
  exact this
theorem IsMg.len {a b l : List Rat} (h : IsMg a b l) : l.length ≤ a.length + b.length := by
  have i : MgI a b a.length b.length l := ⟨h.srt, Nat.le_refl _, fun x => by rw [List.take_length, List.take_length]; exact h.mem x, by simp, by simp⟩
  exact i.len
section
variable {K : PySem.W.Frag} {ds : List PyData} {Φ : PyData → Prop}
end
end DL

set_option Elab.async false
set_option linter.all false
set_option maxRecDepth 100000
set_option maxHeartbeats 4000000
/-! LS3: whether a line falls; where two are unlike -/
namespace DL
open PySem PySem.Spec PyProof.Rows L2
def NoFall (ks : Kn) (s : Rat) : Prop := ∀ i, i < ks.length → 0 ≤ slp ks s i
noncomputable instance fallDec (ks : Kn) (s : Rat) : Decidable (NoFall ks s) := Classical.propDecidable _
def TNever : List PyData → (PyData → Prop) → Prop := fun ds Φ => ∃ (ks : Kn) (s : Rat) (B : Nat), ds = [lnD ks s] ∧ Lq B ks s ∧ 2 * B ≤ 3800 ∧ Φ (.bool (decide (NoFall ks s)))
def TXat : List PyData → (PyData → Prop) → Prop := fun ds Φ => ∃ (x y m g : Rat) (B : Nat), ds = [qp x, qp y, qp m, qp g] ∧ m ≠ 0 ∧ sz x ≤ B ∧ sz y ≤ B ∧ sz m ≤ B ∧ sz g ≤ B ∧ 4 * B ≤ 3800 ∧ Φ (qp (x + (g - y) / m))
/-- the rows of x and one more -/
def beyond (xs : List Rat) : List Rat := xs ++ [xs.getLast?.getD 0 + 1]
noncomputable def unlK (ks ls : Kn) (s t : Rat) (xs : List Rat) : Option Rat := xs.find? fun x => !decide (yAt ks s x = yAt ls t x)
def TUnlike : List PyData → (PyData → Prop) → Prop := fun ds Φ => ∃ (ks ls : Kn) (s t : Rat) (B : Nat), ds = [lnD ks s, lnD ls t] ∧ Lq B ks s ∧ Lq B ls t ∧ ks.length + ls.length ≤ 100000 ∧ 6 * B + 2 ≤ 3800 ∧ ∀ xs, IsMg (xsK ks) (xsK ls) xs → Φ (oqD (unlK ks ls s t (beyond xs)))
local macro_rules | `(tactic| walk_at "dl") => `(tactic| repeat' (first
  | with_reducible refine wd_isTy ?_ | with_reducible refine wd_isi ?_ | ((with_reducible show WD _ _ (tOp (rIxL _) (tVar _) _) _ _); refine wd_ix_own rfl ?_) | with_reducible refine wd_op ?_ | ((with_reducible show WD _ _ (tCB (rLenX _) (tCons (tVar _) tNil)) _ _); refine wd_len_scr rfl ?_) | ((with_reducible show WD _ _ (tCB (rLenX _) (tCons (tVar _) tNil)) _ _); refine wd_len_own rfl ?_) | with_reducible refine wd_cb ?_ | with_reducible refine wd_un ?_ | with_reducible refine wa_cons ?_ | with_reducible refine wa_nil ?_ | ((with_reducible show WD _ _ (tVar _) _ _); refine wd_var rfl ?_) | with_reducible refine wd_int ?_ | with_reducible refine wd_bl ?_ | with_reducible refine wd_str ?_ | with_reducible refine wd_non ?_
  | with_reducible refine do_nesS ?_ | with_reducible refine dc_intB ?_ | with_reducible refine do_add ?_ | with_reducible refine do_sub ?_ | ((with_reducible refine do_mod ?_ ?_); decide) | with_reducible refine do_mod ?_ ?_ | with_reducible refine do_mul ?_ ?_ | ((with_reducible refine do_div ?_ ?_); exact ⟨by decide, by decide⟩) | with_reducible refine do_div ?_ ?_ | ((with_reducible refine do_pow ?_ ?_); exact ⟨by decide, by decide, by decide⟩) | with_reducible refine do_pow ?_ ?_
  | with_reducible refine do_lt ?_ | with_reducible refine do_le ?_ | with_reducible refine do_gt ?_ | with_reducible refine do_ge ?_ | with_reducible refine du_neg ?_
  | with_reducible refine do_eqi ?_ | with_reducible refine do_nei ?_ | with_reducible refine do_eqs ?_ | with_reducible refine do_nes ?_ | with_reducible refine dc_abs ?_ | with_reducible refine dc_min ?_ | with_reducible refine dc_max ?_ | with_reducible refine dc_lenL ?_ | with_reducible refine dc_lenT ?_ | with_reducible refine dc_lenR ?_ | with_reducible refine dc_listT ?_ | with_reducible refine dc_listL ?_ | with_reducible refine dc_tupL ?_ | with_reducible refine dc_gcd ?_
  | ((with_reducible show DO _ (rIxT _) _ _ _); refine do_ixT rfl ?_) | ((with_reducible show DO _ (rIxL _) _ _ _); refine do_ixL rfl ?_) | ((with_reducible refine do_catL ?_ ?_); exact Nat.le_of_ble_eq_true rfl) | with_reducible refine do_catL ?_ ?_ | ((with_reducible show And (List.length _ ≤ sizeLine) _); refine ⟨Nat.le_of_ble_eq_true rfl, ?_⟩)
  | with_reducible refine wd_dnew ?_ | with_reducible refine wd_call0 ?_ | with_reducible refine wd_slA ?_ | with_reducible refine wd_slL ?_ | with_reducible refine wd_revT ?_ | with_reducible refine do_catA ?_ ?_ | with_reducible refine wo_part ?_ | with_reducible refine wo_none ?_ | with_reducible refine do_eqQ ?_ | with_reducible refine do_neQ ?_ | with_reducible refine wi_enumT ?_ | with_reducible refine wi_enumD ?_ | with_reducible refine tAdQ (by omega) (by omega) ?_ | with_reducible refine tSbQ (by omega) (by omega) ?_ | with_reducible refine tMlQ (by omega) (by omega) ?_ | with_reducible refine tDvQ (by assumption) (by omega) (by omega) ?_ | with_reducible refine tLtQ (by omega) (by omega) ?_ | with_reducible refine dc_str ?_ ?_ | with_reducible refine wd_tup ?_ | with_reducible refine wd_lst ?_ | with_reducible refine wt_test ?_ | with_reducible refine wt_B ?_ | with_reducible refine wt_not ?_ | with_reducible refine wt_and ?_ | with_reducible refine wt_or ?_ | with_reducible refine wd_ifE ?_ | with_reducible refine wd_andV ?_ | with_reducible refine wd_orV ?_ | with_reducible refine wd_notV ?_
  | with_reducible refine ws_seq ?_ | with_reducible refine ws_next ?_ | with_reducible refine ws_asg ?_ | with_reducible refine ws_ret ?_ | with_reducible refine ws_retN ?_ | with_reducible refine ws_if ?_ | with_reducible refine ws_par ?_ | with_reducible refine ws_unp2 ?_
  | with_reducible refine if_t ?_ | with_reducible refine if_f ?_ | with_reducible refine if_nf ?_ | with_reducible refine if_nt ?_
  | ((with_reducible show Exists _); first | refine ⟨_, kitInt _, ?_⟩ | refine ⟨_, kitBool _, ?_⟩ | refine ⟨_, kitTup _, ?_⟩ | refine ⟨_, kitList _, ?_⟩ | refine ⟨_, rfl, ?_⟩ | refine ⟨_, _, rfl, ?_⟩ | fail) | fail))
def t_never (K : PySem.W.Frag) : TS :=
  (tRet (tNotV (tCB (rAny K) (tCons (tLc (iList K (tCall (spP K TSlopesR) [] E0 (tCons (tOp (rIxT K) (tVar 0) (tC (.int 0))) (tCons (tOp (rIxT K) (tVar 0) (tC (.int 1))) tNil)))) (gName 1) tYes (tOp rLt (tOp (rIxT K) (tVar 1) (tC (.int 0))) (tC (.int 0))) [1]) tNil))))
def t_xat (K : PySem.W.Frag) : TS :=
  (tRet (tCall (spP K TAdQ) [] E0 (tCons (tVar 0) (tCons (tCall (spP K TDvQ) [] E0 (tCons (tCall (spP K TSbQ) [] E0 (tCons (tVar 3) (tCons (tVar 1) tNil))) (tCons (tVar 2) tNil))) tNil))))
def t_unlike (K : PySem.W.Frag) (a_ONE : Addr) : TS :=
  (tSeq (tAsg (tCall (spM K TMerged) [] E0 (tCons (tCall (spP K TKxs) [] E0 (tCons (tVar 0) tNil)) (tCons (tCall (spP K TKxs) [] E0 (tCons (tVar 1) tNil)) tNil))) (gName 2))
    (tSeq (tDrop (tBM K "list" rAppend (tVar 2) (tCons (tCall (spP K TAdQ) [] E0 (tCons (tOp (rIxL K) (tVar 2) (tUn rNegI (tC (.int 1)))) (tCons (tC (.ref a_ONE)) tNil))) tNil)))
    (tSeq (tFor (iEnum K (tCons (tCall (spP K TBoth) [] E0 (tCons (tVar 0) (tCons (tVar 1) (tCons (tVar 2) tNil)))) tNil)) (gTup K 2 (gCons (gName 3) (gCons (gTup K 2 (gCons (gName 4) (gCons (gName 5) gNil))) gNil))) (tIfS (tTest (tOp (rNeD K) (tVar 4) (tVar 5))) (tRet (tOp (rIxL K) (tVar 2) (tVar 3))) tNext))
    (tRet (tC .non)))))
section
variable {K : PySem.W.Frag} {ds : List PyData} {Φ : PyData → Prop}
end
end DL

set_option Elab.async false
set_option linter.all false
set_option maxRecDepth 100000
set_option maxHeartbeats 4000000
/-! LS4: the first x at which a line is so high -/
namespace DL
open PySem PySem.Spec PyProof.Rows L2
def TFirst : List PyData → (PyData → Prop) → Prop := fun ds Φ => ∃ (ks : Kn) (s g b : Rat) (B C : Nat), ds = [lnD ks s, qp g, qp b] ∧ Lq B ks s ∧ 0 ≤ b ∧ sz g ≤ C ∧ sz b ≤ C ∧ 40 * B + 8 * C ≤ 3800 ∧ ∀ o, FirstP ks s g b o → (∀ r, o = some r → sz r ≤ 20 * B + 6 * C) → Φ (oqD o)
local macro_rules | `(tactic| walk_at "dl") => `(tactic| repeat' (first
  | with_reducible refine wd_isTy ?_ | with_reducible refine wd_isi ?_ | ((with_reducible show WD _ _ (tOp (rIxL _) (tVar _) _) _ _); refine wd_ix_own rfl ?_) | with_reducible refine wd_op ?_ | ((with_reducible show WD _ _ (tCB (rLenX _) (tCons (tVar _) tNil)) _ _); refine wd_len_scr rfl ?_) | ((with_reducible show WD _ _ (tCB (rLenX _) (tCons (tVar _) tNil)) _ _); refine wd_len_own rfl ?_) | with_reducible refine wd_cb ?_ | with_reducible refine wd_un ?_ | with_reducible refine wa_cons ?_ | with_reducible refine wa_nil ?_ | ((with_reducible show WD _ _ (tVar _) _ _); refine wd_var rfl ?_) | with_reducible refine wd_int ?_ | with_reducible refine wd_bl ?_ | with_reducible refine wd_str ?_ | with_reducible refine wd_non ?_
  | with_reducible refine do_nesS ?_ | with_reducible refine dc_intB ?_ | with_reducible refine do_add ?_ | with_reducible refine do_sub ?_ | ((with_reducible refine do_mod ?_ ?_); decide) | with_reducible refine do_mod ?_ ?_ | with_reducible refine do_mul ?_ ?_ | ((with_reducible refine do_div ?_ ?_); exact ⟨by decide, by decide⟩) | with_reducible refine do_div ?_ ?_ | ((with_reducible refine do_pow ?_ ?_); exact ⟨by decide, by decide, by decide⟩) | with_reducible refine do_pow ?_ ?_
  | with_reducible refine do_lt ?_ | with_reducible refine do_le ?_ | with_reducible refine do_gt ?_ | with_reducible refine do_ge ?_ | with_reducible refine du_neg ?_
  | with_reducible refine do_eqi ?_ | with_reducible refine do_nei ?_ | with_reducible refine do_eqs ?_ | with_reducible refine do_nes ?_ | with_reducible refine dc_abs ?_ | with_reducible refine dc_min ?_ | with_reducible refine dc_max ?_ | with_reducible refine dc_lenL ?_ | with_reducible refine dc_lenT ?_ | with_reducible refine dc_lenR ?_ | with_reducible refine dc_listT ?_ | with_reducible refine dc_listL ?_ | with_reducible refine dc_tupL ?_ | with_reducible refine dc_gcd ?_
  | ((with_reducible show DO _ (rIxT _) _ _ _); refine do_ixT rfl ?_) | ((with_reducible show DO _ (rIxL _) _ _ _); refine do_ixL rfl ?_) | ((with_reducible refine do_catL ?_ ?_); exact Nat.le_of_ble_eq_true rfl) | with_reducible refine do_catL ?_ ?_ | ((with_reducible show And (List.length _ ≤ sizeLine) _); refine ⟨Nat.le_of_ble_eq_true rfl, ?_⟩)
  | with_reducible refine wd_dnew ?_ | with_reducible refine wd_call0 ?_ | with_reducible refine wd_slA ?_ | with_reducible refine wd_slL ?_ | with_reducible refine wd_revT ?_ | with_reducible refine do_catA ?_ ?_ | with_reducible refine wo_part ?_ | with_reducible refine wo_none ?_ | with_reducible refine do_eqQ ?_ | with_reducible refine do_neQ ?_ | with_reducible refine wi_enumT ?_ | with_reducible refine wi_enumD ?_ | with_reducible refine tAdQ (by omega) (by omega) ?_ | with_reducible refine tSbQ (by omega) (by omega) ?_ | with_reducible refine tMlQ (by omega) (by omega) ?_ | with_reducible refine tDvQ (by assumption) (by omega) (by omega) ?_ | with_reducible refine tLtQ (by omega) (by omega) ?_ | with_reducible refine dc_str ?_ ?_ | with_reducible refine wd_tup ?_ | with_reducible refine wd_lst ?_ | with_reducible refine wt_test ?_ | with_reducible refine wt_B ?_ | with_reducible refine wt_not ?_ | with_reducible refine wt_and ?_ | with_reducible refine wt_or ?_ | with_reducible refine wd_ifE ?_ | with_reducible refine wd_andV ?_ | with_reducible refine wd_orV ?_ | with_reducible refine wd_notV ?_
  | with_reducible refine ws_seq ?_ | with_reducible refine ws_next ?_ | with_reducible refine ws_asg ?_ | with_reducible refine ws_ret ?_ | with_reducible refine ws_retN ?_ | with_reducible refine ws_if ?_ | with_reducible refine ws_par ?_ | with_reducible refine ws_unp2 ?_
  | with_reducible refine if_t ?_ | with_reducible refine if_f ?_ | with_reducible refine if_nf ?_ | with_reducible refine if_nt ?_
  | ((with_reducible show Exists _); first | refine ⟨_, kitInt _, ?_⟩ | refine ⟨_, kitBool _, ?_⟩ | refine ⟨_, kitTup _, ?_⟩ | refine ⟨_, kitList _, ?_⟩ | refine ⟨_, rfl, ?_⟩ | refine ⟨_, _, rfl, ?_⟩ | fail) | fail))
def t_firstat (K : PySem.W.Frag) : TS :=
  (tSeq (tAsg (tVar 0) (gTup K 2 (gCons (gName 3) (gCons (gName 4) gNil))))
    (tSeq (tPar 5 6 (tCons (tVar 2) (tCons (tCall (spP K TYat) [] E0 (tCons (tVar 0) (tCons (tVar 2) tNil))) tNil)))
    (tSeq (tIfS (tNot (tB (tCall (spP K TLtQ) [] E0 (tCons (tVar 6) (tCons (tVar 1) tNil))))) (tRet (tVar 5)) tNext)
    (tSeq (tFor (iTup K (tSl (rSlA K) (tVar 3) (tPart (tOp rAddI (tCall (spP K TNoLater) [] E0 (tCons (tVar 3) (tCons (tVar 2) tNil))) (tC (.int 1)))) tNoPart)) (gTup K 2 (gCons (gName 7) (gCons (gName 8) gNil))) (tSeq (tIfS (tNot (tB (tCall (spP K TLtQ) [] E0 (tCons (tVar 8) (tCons (tVar 1) tNil))))) (tRet (tCall (spP K TXat) [] E0 (tCons (tVar 5) (tCons (tVar 6) (tCons (tCall (spP K TDvQ) [] E0 (tCons (tCall (spP K TSbQ) [] E0 (tCons (tVar 8) (tCons (tVar 6) tNil))) (tCons (tCall (spP K TSbQ) [] E0 (tCons (tVar 7) (tCons (tVar 5) tNil))) tNil))) (tCons (tVar 1) tNil)))))) tNext)
    (tPar 5 6 (tCons (tVar 7) (tCons (tVar 8) tNil)))))
    (tSeq (tIfS (tTest (tOp rLe (tOp (rIxT K) (tVar 4) (tC (.int 0))) (tC (.int 0)))) (tRet (tC .non)) tNext)
    (tRet (tCall (spP K TXat) [] E0 (tCons (tVar 5) (tCons (tVar 6) (tCons (tVar 4) (tCons (tVar 1) tNil)))))))))))
section
variable {K : PySem.W.Frag} {ds : List PyData} {Φ : PyData → Prop}
end
end DL

set_option Elab.async false
set_option linter.all false
set_option maxRecDepth 100000
set_option maxHeartbeats 1000000
/-! LM10: put into a rising row -/
namespace DL
def cntL (f : List Rat) (x : Rat) : Nat := (f.filter fun y => decide (y < x)).length
end DL

set_option Elab.async false
set_option linter.all false
set_option maxRecDepth 100000
set_option maxHeartbeats 4000000
/-! LS5: the law's own rows of x -/
namespace DL
open PySem PySem.Spec PyProof.Rows L2
def TSorted : List PyData → (PyData → Prop) → Prop := fun ds Φ => ∃ (some' : List Rat) (B : Nat), ds = [qL some'] ∧ some'.length ≤ 100000 ∧ B ≤ 3800 ∧ (∀ x ∈ some', sz x ≤ B) ∧ ∀ l, Srt l → (∀ x, x ∈ l ↔ x ∈ some') → Φ (qL l)
local macro_rules | `(tactic| walk_at "dl") => `(tactic| repeat' (first
  | with_reducible refine wd_isTy ?_ | with_reducible refine wd_isi ?_ | ((with_reducible show WD _ _ (tOp (rIxL _) (tVar _) _) _ _); refine wd_ix_own rfl ?_) | with_reducible refine wd_op ?_ | ((with_reducible show WD _ _ (tCB (rLenX _) (tCons (tVar _) tNil)) _ _); refine wd_len_scr rfl ?_) | ((with_reducible show WD _ _ (tCB (rLenX _) (tCons (tVar _) tNil)) _ _); refine wd_len_own rfl ?_) | with_reducible refine wd_cb ?_ | with_reducible refine wd_un ?_ | with_reducible refine wa_cons ?_ | with_reducible refine wa_nil ?_ | ((with_reducible show WD _ _ (tVar _) _ _); refine wd_var rfl ?_) | with_reducible refine wd_int ?_ | with_reducible refine wd_bl ?_ | with_reducible refine wd_str ?_ | with_reducible refine wd_non ?_
  | with_reducible refine do_nesS ?_ | with_reducible refine dc_intB ?_ | with_reducible refine do_add ?_ | with_reducible refine do_sub ?_ | ((with_reducible refine do_mod ?_ ?_); decide) | with_reducible refine do_mod ?_ ?_ | with_reducible refine do_mul ?_ ?_ | ((with_reducible refine do_div ?_ ?_); exact ⟨by decide, by decide⟩) | with_reducible refine do_div ?_ ?_ | ((with_reducible refine do_pow ?_ ?_); exact ⟨by decide, by decide, by decide⟩) | with_reducible refine do_pow ?_ ?_
  | with_reducible refine do_lt ?_ | with_reducible refine do_le ?_ | with_reducible refine do_gt ?_ | with_reducible refine do_ge ?_ | with_reducible refine du_neg ?_
  | with_reducible refine do_eqi ?_ | with_reducible refine do_nei ?_ | with_reducible refine do_eqs ?_ | with_reducible refine do_nes ?_ | with_reducible refine dc_abs ?_ | with_reducible refine dc_min ?_ | with_reducible refine dc_max ?_ | with_reducible refine dc_lenL ?_ | with_reducible refine dc_lenT ?_ | with_reducible refine dc_lenR ?_ | with_reducible refine dc_listT ?_ | with_reducible refine dc_listL ?_ | with_reducible refine dc_tupL ?_ | with_reducible refine dc_gcd ?_
  | ((with_reducible show DO _ (rIxT _) _ _ _); refine do_ixT rfl ?_) | ((with_reducible show DO _ (rIxL _) _ _ _); refine do_ixL rfl ?_) | ((with_reducible refine do_catL ?_ ?_); exact Nat.le_of_ble_eq_true rfl) | with_reducible refine do_catL ?_ ?_ | ((with_reducible show And (List.length _ ≤ sizeLine) _); refine ⟨Nat.le_of_ble_eq_true rfl, ?_⟩)
  | with_reducible refine wd_dnew ?_ | with_reducible refine wd_call0 ?_ | with_reducible refine wd_slA ?_ | with_reducible refine wd_slL ?_ | with_reducible refine wd_revT ?_ | with_reducible refine do_catA ?_ ?_ | with_reducible refine wo_part ?_ | with_reducible refine wo_none ?_ | with_reducible refine do_eqQ ?_ | with_reducible refine do_neQ ?_ | with_reducible refine wi_enumT ?_ | with_reducible refine wi_enumD ?_ | with_reducible refine tAdQ (by omega) (by omega) ?_ | with_reducible refine tSbQ (by omega) (by omega) ?_ | with_reducible refine tMlQ (by omega) (by omega) ?_ | with_reducible refine tDvQ (by assumption) (by omega) (by omega) ?_ | with_reducible refine tLtQ (by omega) (by omega) ?_ | with_reducible refine dc_str ?_ ?_ | with_reducible refine wd_tup ?_ | with_reducible refine wd_lst ?_ | with_reducible refine wt_test ?_ | with_reducible refine wt_B ?_ | with_reducible refine wt_not ?_ | with_reducible refine wt_and ?_ | with_reducible refine wt_or ?_ | with_reducible refine wd_ifE ?_ | with_reducible refine wd_andV ?_ | with_reducible refine wd_orV ?_ | with_reducible refine wd_notV ?_
  | with_reducible refine ws_seq ?_ | with_reducible refine ws_next ?_ | with_reducible refine ws_asg ?_ | with_reducible refine ws_ret ?_ | with_reducible refine ws_retN ?_ | with_reducible refine ws_if ?_ | with_reducible refine ws_par ?_ | with_reducible refine ws_unp2 ?_
  | with_reducible refine if_t ?_ | with_reducible refine if_f ?_ | with_reducible refine if_nf ?_ | with_reducible refine if_nt ?_
  | ((with_reducible show Exists _); first | refine ⟨_, kitInt _, ?_⟩ | refine ⟨_, kitBool _, ?_⟩ | refine ⟨_, kitTup _, ?_⟩ | refine ⟨_, kitList _, ?_⟩ | refine ⟨_, rfl, ?_⟩ | refine ⟨_, _, rfl, ?_⟩ | fail) | fail))
def t_sorted (K : PySem.W.Frag) : TS :=
  (tSeq (tAsg (tLst tNil) (gName 1))
    (tSeq (tFor (iList K (tVar 0)) (gName 2) (tSeq (tAsg (tCB (rLenX K) (tCons (tLc (iList K (tVar 1)) (gName 4) (tB (tCall (spP K TLtQ) [] E0 (tCons (tVar 4) (tCons (tVar 2) tNil)))) (tC (.int 1)) [4]) tNil)) (gName 3))
    (tIfS (tOr (tTest (tOp rEq (tVar 3) (tCB (rLenX K) (tCons (tVar 1) tNil)))) (tTest (tOp (rNeD K) (tOp (rIxL K) (tVar 1) (tVar 3)) (tVar 2)))) (tDrop (tBM K "list" rInsert (tVar 1) (tCons (tVar 3) (tCons (tVar 2) tNil)))) tNext)))
    (tRet (tVar 1))))
section
variable {K : PySem.W.Frag} {ds : List PyData} {Φ : PyData → Prop}
end
end DL

set_option Elab.async false
set_option linter.all false
set_option maxRecDepth 100000
set_option maxHeartbeats 4000000
/-! LS6: the law's x of two lines, where they are unlike -/
namespace DL
open PySem PySem.Spec PyProof.Rows L2
def TXsL : List PyData → (PyData → Prop) → Prop := fun ds Φ => ∃ (ks ls : Kn) (s t : Rat) (B : Nat), ds = [.list [lnD ks s, lnD ls t]] ∧ Lq B ks s ∧ Lq B ls t ∧ ks.length + ls.length ≤ 100000 ∧ B + 2 ≤ 3800 ∧ ∀ xs, IsMg (xsK ks) (xsK ls) xs → Φ (qL (beyond xs))
local macro_rules | `(tactic| walk_at "dl") => `(tactic| repeat' (first
  | with_reducible refine wd_isTy ?_ | with_reducible refine wd_isi ?_ | ((with_reducible show WD _ _ (tOp (rIxL _) (tVar _) _) _ _); refine wd_ix_own rfl ?_) | with_reducible refine wd_op ?_ | ((with_reducible show WD _ _ (tCB (rLenX _) (tCons (tVar _) tNil)) _ _); refine wd_len_scr rfl ?_) | ((with_reducible show WD _ _ (tCB (rLenX _) (tCons (tVar _) tNil)) _ _); refine wd_len_own rfl ?_) | with_reducible refine wd_cb ?_ | with_reducible refine wd_un ?_ | with_reducible refine wa_cons ?_ | with_reducible refine wa_nil ?_ | ((with_reducible show WD _ _ (tVar _) _ _); refine wd_var rfl ?_) | with_reducible refine wd_int ?_ | with_reducible refine wd_bl ?_ | with_reducible refine wd_str ?_ | with_reducible refine wd_non ?_
  | with_reducible refine do_nesS ?_ | with_reducible refine dc_intB ?_ | with_reducible refine do_add ?_ | with_reducible refine do_sub ?_ | ((with_reducible refine do_mod ?_ ?_); decide) | with_reducible refine do_mod ?_ ?_ | with_reducible refine do_mul ?_ ?_ | ((with_reducible refine do_div ?_ ?_); exact ⟨by decide, by decide⟩) | with_reducible refine do_div ?_ ?_ | ((with_reducible refine do_pow ?_ ?_); exact ⟨by decide, by decide, by decide⟩) | with_reducible refine do_pow ?_ ?_
  | with_reducible refine do_lt ?_ | with_reducible refine do_le ?_ | with_reducible refine do_gt ?_ | with_reducible refine do_ge ?_ | with_reducible refine du_neg ?_
  | with_reducible refine do_eqi ?_ | with_reducible refine do_nei ?_ | with_reducible refine do_eqs ?_ | with_reducible refine do_nes ?_ | with_reducible refine dc_abs ?_ | with_reducible refine dc_min ?_ | with_reducible refine dc_max ?_ | with_reducible refine dc_lenL ?_ | with_reducible refine dc_lenT ?_ | with_reducible refine dc_lenR ?_ | with_reducible refine dc_listT ?_ | with_reducible refine dc_listL ?_ | with_reducible refine dc_tupL ?_ | with_reducible refine dc_gcd ?_
  | ((with_reducible show DO _ (rIxT _) _ _ _); refine do_ixT rfl ?_) | ((with_reducible show DO _ (rIxL _) _ _ _); refine do_ixL rfl ?_) | ((with_reducible refine do_catL ?_ ?_); exact Nat.le_of_ble_eq_true rfl) | with_reducible refine do_catL ?_ ?_ | ((with_reducible show And (List.length _ ≤ sizeLine) _); refine ⟨Nat.le_of_ble_eq_true rfl, ?_⟩)
  | with_reducible refine wd_dnew ?_ | with_reducible refine wd_call0 ?_ | with_reducible refine wd_slA ?_ | with_reducible refine wd_slL ?_ | with_reducible refine wd_revT ?_ | with_reducible refine do_catA ?_ ?_ | with_reducible refine wo_part ?_ | with_reducible refine wo_none ?_ | with_reducible refine do_eqQ ?_ | with_reducible refine do_neQ ?_ | with_reducible refine wi_enumT ?_ | with_reducible refine wi_enumD ?_ | with_reducible refine tAdQ (by omega) (by omega) ?_ | with_reducible refine tSbQ (by omega) (by omega) ?_ | with_reducible refine tMlQ (by omega) (by omega) ?_ | with_reducible refine tDvQ (by assumption) (by omega) (by omega) ?_ | with_reducible refine tLtQ (by omega) (by omega) ?_ | with_reducible refine dc_str ?_ ?_ | with_reducible refine wd_tup ?_ | with_reducible refine wd_lst ?_ | with_reducible refine wt_test ?_ | with_reducible refine wt_B ?_ | with_reducible refine wt_not ?_ | with_reducible refine wt_and ?_ | with_reducible refine wt_or ?_ | with_reducible refine wd_ifE ?_ | with_reducible refine wd_andV ?_ | with_reducible refine wd_orV ?_ | with_reducible refine wd_notV ?_
  | with_reducible refine ws_seq ?_ | with_reducible refine ws_next ?_ | with_reducible refine ws_asg ?_ | with_reducible refine ws_ret ?_ | with_reducible refine ws_retN ?_ | with_reducible refine ws_if ?_ | with_reducible refine ws_par ?_ | with_reducible refine ws_unp2 ?_
  | with_reducible refine if_t ?_ | with_reducible refine if_f ?_ | with_reducible refine if_nf ?_ | with_reducible refine if_nt ?_
  | ((with_reducible show Exists _); first | refine ⟨_, kitInt _, ?_⟩ | refine ⟨_, kitBool _, ?_⟩ | refine ⟨_, kitTup _, ?_⟩ | refine ⟨_, kitList _, ?_⟩ | refine ⟨_, rfl, ?_⟩ | refine ⟨_, _, rfl, ?_⟩ | fail) | fail))
def t_xsl (K : PySem.W.Frag) : TS :=
  (tSeq (tAsg (tLst tNil) (gName 1))
    (tSeq (tFor (iList K (tVar 0)) (gName 2) (tDrop (tBM K "list" rExtend (tVar 1) (tCons (tLc (iTup K (tOp (rIxT K) (tVar 2) (tC (.int 0)))) (gName 4) tYes (tOp (rIxT K) (tVar 4) (tC (.int 0))) [4]) tNil))))
    (tSeq (tAsg (tCall (spP K TSorted) [] E0 (tCons (tVar 1) tNil)) (gName 3))
    (tRet (tOp rCatL (tVar 3) (tLst (tCons (tCall (spP K TAdQ) [] E0 (tCons (tOp (rIxL K) (tVar 3) (tUn rNegI (tC (.int 1)))) (tCons (tTup (tCons (tC (.int 1)) (tCons (tC (.int 1)) tNil))) tNil))) tNil)))))))
def t_lunlike (K : PySem.W.Frag) : TS :=
  (tSeq (tFor (iList K (tCall (spP K TXsL) [] E0 (tCons (tLst (tCons (tVar 0) (tCons (tVar 1) tNil))) tNil))) (gName 2) (tIfS (tTest (tOp (rNeD K) (tCall (spP K TYat) [] E0 (tCons (tVar 0) (tCons (tVar 2) tNil))) (tCall (spP K TYat) [] E0 (tCons (tVar 1) (tCons (tVar 2) tNil))))) (tRet (tVar 2)) tNext))
    (tRet (tC .non)))
section
variable {K : PySem.W.Frag} {ds : List PyData} {Φ : PyData → Prop}
end
end DL

set_option Elab.async false
set_option linter.all false
set_option maxRecDepth 100000
set_option maxHeartbeats 4000000
/-! LS7: the law's look at what is found first -/
namespace DL
open PySem PySem.Spec PyProof.Rows L2
def TFirstR : List PyData → (PyData → Prop) → Prop := fun ds Φ => ∃ (ks : Kn) (s g b : Rat) (o : Option Rat) (B C : Nat), ds = [lnD ks s, qp g, qp b, oqD o] ∧ Lq B ks s ∧ 0 ≤ b ∧ sz g ≤ C ∧ sz b ≤ C ∧ B ≤ C ∧ (∀ r, o = some r → sz r ≤ C) ∧ 6 * B + C ≤ 3800 ∧ FirstP ks s g b o ∧ Φ (.bool true)
local macro_rules | `(tactic| walk_at "dl") => `(tactic| repeat' (first
  | with_reducible refine wd_isTy ?_ | with_reducible refine wd_isi ?_ | ((with_reducible show WD _ _ (tOp (rIxL _) (tVar _) _) _ _); refine wd_ix_own rfl ?_) | with_reducible refine wd_op ?_ | ((with_reducible show WD _ _ (tCB (rLenX _) (tCons (tVar _) tNil)) _ _); refine wd_len_scr rfl ?_) | ((with_reducible show WD _ _ (tCB (rLenX _) (tCons (tVar _) tNil)) _ _); refine wd_len_own rfl ?_) | with_reducible refine wd_cb ?_ | with_reducible refine wd_un ?_ | with_reducible refine wa_cons ?_ | with_reducible refine wa_nil ?_ | ((with_reducible show WD _ _ (tVar _) _ _); refine wd_var rfl ?_) | with_reducible refine wd_int ?_ | with_reducible refine wd_bl ?_ | with_reducible refine wd_str ?_ | with_reducible refine wd_non ?_
  | with_reducible refine do_nesS ?_ | with_reducible refine dc_intB ?_ | with_reducible refine do_add ?_ | with_reducible refine do_sub ?_ | ((with_reducible refine do_mod ?_ ?_); decide) | with_reducible refine do_mod ?_ ?_ | with_reducible refine do_mul ?_ ?_ | ((with_reducible refine do_div ?_ ?_); exact ⟨by decide, by decide⟩) | with_reducible refine do_div ?_ ?_ | ((with_reducible refine do_pow ?_ ?_); exact ⟨by decide, by decide, by decide⟩) | with_reducible refine do_pow ?_ ?_
  | with_reducible refine do_lt ?_ | with_reducible refine do_le ?_ | with_reducible refine do_gt ?_ | with_reducible refine do_ge ?_ | with_reducible refine du_neg ?_
  | with_reducible refine do_eqi ?_ | with_reducible refine do_nei ?_ | with_reducible refine do_eqs ?_ | with_reducible refine do_nes ?_ | with_reducible refine dc_abs ?_ | with_reducible refine dc_min ?_ | with_reducible refine dc_max ?_ | with_reducible refine dc_lenL ?_ | with_reducible refine dc_lenT ?_ | with_reducible refine dc_lenR ?_ | with_reducible refine dc_listT ?_ | with_reducible refine dc_listL ?_ | with_reducible refine dc_tupL ?_ | with_reducible refine dc_gcd ?_
  | ((with_reducible show DO _ (rIxT _) _ _ _); refine do_ixT rfl ?_) | ((with_reducible show DO _ (rIxL _) _ _ _); refine do_ixL rfl ?_) | ((with_reducible refine do_catL ?_ ?_); exact Nat.le_of_ble_eq_true rfl) | with_reducible refine do_catL ?_ ?_ | ((with_reducible show And (List.length _ ≤ sizeLine) _); refine ⟨Nat.le_of_ble_eq_true rfl, ?_⟩)
  | with_reducible refine wd_dnew ?_ | with_reducible refine wd_call0 ?_ | with_reducible refine wd_slA ?_ | with_reducible refine wd_slL ?_ | with_reducible refine wd_revT ?_ | with_reducible refine do_catA ?_ ?_ | with_reducible refine wo_part ?_ | with_reducible refine wo_none ?_ | with_reducible refine do_eqQ ?_ | with_reducible refine do_neQ ?_ | with_reducible refine wi_enumT ?_ | with_reducible refine wi_enumD ?_ | with_reducible refine tAdQ (by omega) (by omega) ?_ | with_reducible refine tSbQ (by omega) (by omega) ?_ | with_reducible refine tMlQ (by omega) (by omega) ?_ | with_reducible refine tDvQ (by assumption) (by omega) (by omega) ?_ | with_reducible refine tLtQ (by omega) (by omega) ?_ | with_reducible refine dc_str ?_ ?_ | with_reducible refine wd_tup ?_ | with_reducible refine wd_lst ?_ | with_reducible refine wt_test ?_ | with_reducible refine wt_B ?_ | with_reducible refine wt_not ?_ | with_reducible refine wt_and ?_ | with_reducible refine wt_or ?_ | with_reducible refine wd_ifE ?_ | with_reducible refine wd_andV ?_ | with_reducible refine wd_orV ?_ | with_reducible refine wd_notV ?_
  | with_reducible refine ws_seq ?_ | with_reducible refine ws_next ?_ | with_reducible refine ws_asg ?_ | with_reducible refine ws_ret ?_ | with_reducible refine ws_retN ?_ | with_reducible refine ws_if ?_ | with_reducible refine ws_par ?_ | with_reducible refine ws_unp2 ?_
  | with_reducible refine if_t ?_ | with_reducible refine if_f ?_ | with_reducible refine if_nf ?_ | with_reducible refine if_nt ?_
  | ((with_reducible show Exists _); first | refine ⟨_, kitInt _, ?_⟩ | refine ⟨_, kitBool _, ?_⟩ | refine ⟨_, kitTup _, ?_⟩ | refine ⟨_, kitList _, ?_⟩ | refine ⟨_, rfl, ?_⟩ | refine ⟨_, _, rfl, ?_⟩ | fail) | fail))
def t_firstr (K : PySem.W.Frag) : TS :=
  (tSeq (tIfS (tTest (tOp rIsNone (tVar 3) (tC .non))) (tSeq (tAsg (tLc (iTup K (tOp (rIxT K) (tVar 0) (tC (.int 0)))) (gName 6) (tB (tCall (spP K TLtQ) [] E0 (tCons (tVar 2) (tCons (tOp (rIxT K) (tVar 6) (tC (.int 0))) tNil)))) (tOp (rIxT K) (tVar 6) (tC (.int 0))) [6]) (gName 4))
    (tSeq (tFor (iList K (tOp rCatL (tLst (tCons (tVar 2) tNil)) (tVar 4))) (gName 5) (tIfS (tNot (tB (tCall (spP K TLtQ) [] E0 (tCons (tCall (spP K TYat) [] E0 (tCons (tVar 0) (tCons (tVar 5) tNil))) (tCons (tVar 1) tNil))))) (tRet (tC (.bl false))) tNext))
    (tRet (tOp rLe (tOp (rIxT K) (tOp (rIxT K) (tVar 0) (tC (.int 1))) (tC (.int 0))) (tC (.int 0)))))) tNext)
    (tSeq (tIfS (tOr (tNot (tB (tCB (rIsi K) (tCons (tVar 3) (tCons (tC (.ty "tuple")) tNil))))) (tOr (tTest (tOp rNe (tCB (rLenX K) (tCons (tVar 3) tNil)) (tC (.int 2)))) (tOr (tTest (tOp rLt (tOp (rIxT K) (tVar 3) (tC (.int 1))) (tC (.int 1)))) (tTest (tOp (rNeD K) (tCall (spP K TLow) [] E0 (tCons (tOp (rIxT K) (tVar 3) (tC (.int 0))) (tCons (tOp (rIxT K) (tVar 3) (tC (.int 1))) tNil))) (tVar 3)))))) (tRet (tC (.bl false))) tNext)
    (tSeq (tIfS (tOr (tB (tCall (spP K TLtQ) [] E0 (tCons (tVar 3) (tCons (tVar 2) tNil)))) (tB (tCall (spP K TLtQ) [] E0 (tCons (tCall (spP K TYat) [] E0 (tCons (tVar 0) (tCons (tVar 3) tNil))) (tCons (tVar 1) tNil))))) (tRet (tC (.bl false))) tNext)
    (tSeq (tIfS (tTest (tOp (rEqD K) (tVar 3) (tVar 2))) (tRet (tC (.bl true))) tNext)
    (tSeq (tIfS (tTest (tOp (rNeD K) (tCall (spP K TYat) [] E0 (tCons (tVar 0) (tCons (tVar 3) tNil))) (tVar 1))) (tRet (tC (.bl false))) tNext)
    (tSeq (tFor (iList K (tOp rCatL (tLst (tCons (tVar 2) tNil)) (tLc (iTup K (tOp (rIxT K) (tVar 0) (tC (.int 0)))) (gName 6) tYes (tOp (rIxT K) (tVar 6) (tC (.int 0))) [6]))) (gName 5) (tIfS (tAnd (tNot (tB (tCall (spP K TLtQ) [] E0 (tCons (tVar 5) (tCons (tVar 2) tNil))))) (tAnd (tB (tCall (spP K TLtQ) [] E0 (tCons (tVar 5) (tCons (tVar 3) tNil)))) (tNot (tB (tCall (spP K TLtQ) [] E0 (tCons (tCall (spP K TYat) [] E0 (tCons (tVar 0) (tCons (tVar 5) tNil))) (tCons (tVar 1) tNil))))))) (tRet (tC (.bl false))) tNext))
    (tRet (tC (.bl true)))))))))
section
variable {K : PySem.W.Frag} {ds : List PyData} {Φ : PyData → Prop} {Ψ : PyData → Prop}
end
end DL

set_option Elab.async false
set_option linter.all false
set_option maxRecDepth 100000
set_option maxHeartbeats 4000000
/-! LS8: what is asked, a line bent -/
namespace DL
open PySem PySem.Spec PyProof.Rows L2
def TAsked : Nat → List PyData → (PyData → Nat → Prop) → Prop := fun B ds Φ => ∃ (ks : Kn) (s : Rat), ds = [lnD ks s] ∧ GoodL 60 ks s ∧ B ≤ 2 ^ 39 ∧ ∀ g b : Rat, sz g ≤ 40 → sz b ≤ 40 → 0 ≤ b → ∀ B', B' ≤ B + 10 → Φ (.tuple [qp g, qp b]) B'
def TBentL : Nat → List PyData → (PyData → Nat → Prop) → Prop := fun B ds Φ => ∃ (ks : Kn) (s : Rat), ds = [lnD ks s] ∧ GoodL 60 ks s ∧ B ≤ 2 ^ 39 ∧ ∀ (ls : Kn) (t : Rat), Lq 400 ls t → ls.length ≤ 200 → ∀ B', B' ≤ B + 10 → Φ (lnD ls t) B'
local macro_rules | `(tactic| walk_at "dl") => `(tactic| repeat' (first
  | with_reducible refine wd_isTy ?_ | with_reducible refine wd_isi ?_ | ((with_reducible show WD _ _ (tOp (rIxL _) (tVar _) _) _ _); refine wd_ix_own rfl ?_) | with_reducible refine wd_op ?_ | ((with_reducible show WD _ _ (tCB (rLenX _) (tCons (tVar _) tNil)) _ _); refine wd_len_scr rfl ?_) | ((with_reducible show WD _ _ (tCB (rLenX _) (tCons (tVar _) tNil)) _ _); refine wd_len_own rfl ?_) | with_reducible refine wd_cb ?_ | with_reducible refine wd_un ?_ | with_reducible refine wa_cons ?_ | with_reducible refine wa_nil ?_ | ((with_reducible show WD _ _ (tVar _) _ _); refine wd_var rfl ?_) | with_reducible refine wd_int ?_ | with_reducible refine wd_bl ?_ | with_reducible refine wd_str ?_ | with_reducible refine wd_non ?_
  | with_reducible refine do_nesS ?_ | with_reducible refine dc_intB ?_ | with_reducible refine do_add ?_ | with_reducible refine do_sub ?_ | ((with_reducible refine do_mod ?_ ?_); decide) | with_reducible refine do_mod ?_ ?_ | with_reducible refine do_mul ?_ ?_ | ((with_reducible refine do_div ?_ ?_); exact ⟨by decide, by decide⟩) | with_reducible refine do_div ?_ ?_ | ((with_reducible refine do_pow ?_ ?_); exact ⟨by decide, by decide, by decide⟩) | with_reducible refine do_pow ?_ ?_
  | with_reducible refine do_lt ?_ | with_reducible refine do_le ?_ | with_reducible refine do_gt ?_ | with_reducible refine do_ge ?_ | with_reducible refine du_neg ?_
  | with_reducible refine do_eqi ?_ | with_reducible refine do_nei ?_ | with_reducible refine do_eqs ?_ | with_reducible refine do_nes ?_ | with_reducible refine dc_abs ?_ | with_reducible refine dc_min ?_ | with_reducible refine dc_max ?_ | with_reducible refine dc_lenL ?_ | with_reducible refine dc_lenT ?_ | with_reducible refine dc_lenR ?_ | with_reducible refine dc_listT ?_ | with_reducible refine dc_listL ?_ | with_reducible refine dc_tupL ?_ | with_reducible refine dc_gcd ?_
  | ((with_reducible show DO _ (rIxT _) _ _ _); refine do_ixT rfl ?_) | ((with_reducible show DO _ (rIxL _) _ _ _); refine do_ixL rfl ?_) | ((with_reducible refine do_catL ?_ ?_); exact Nat.le_of_ble_eq_true rfl) | with_reducible refine do_catL ?_ ?_ | ((with_reducible show And (List.length _ ≤ sizeLine) _); refine ⟨Nat.le_of_ble_eq_true rfl, ?_⟩)
  | with_reducible refine wd_dnew ?_ | with_reducible refine wd_call0 ?_ | with_reducible refine wd_slA ?_ | with_reducible refine wd_slL ?_ | with_reducible refine wd_revT ?_ | with_reducible refine do_catA ?_ ?_ | with_reducible refine wo_part ?_ | with_reducible refine wo_none ?_ | with_reducible refine do_eqQ ?_ | with_reducible refine do_neQ ?_ | with_reducible refine wi_enumT ?_ | with_reducible refine wi_enumD ?_ | with_reducible refine tAdQ (by omega) (by omega) ?_ | with_reducible refine tSbQ (by omega) (by omega) ?_ | with_reducible refine tMlQ (by omega) (by omega) ?_ | with_reducible refine tDvQ (by assumption) (by omega) (by omega) ?_ | with_reducible refine tLtQ (by omega) (by omega) ?_ | with_reducible refine dc_str ?_ ?_ | with_reducible refine wd_tup ?_ | with_reducible refine wd_lst ?_ | with_reducible refine wt_test ?_ | with_reducible refine wt_B ?_ | with_reducible refine wt_not ?_ | with_reducible refine wt_and ?_ | with_reducible refine wt_or ?_ | with_reducible refine wd_ifE ?_ | with_reducible refine wd_andV ?_ | with_reducible refine wd_orV ?_ | with_reducible refine wd_notV ?_
  | with_reducible refine ws_seq ?_ | with_reducible refine ws_next ?_ | with_reducible refine ws_asg ?_ | with_reducible refine ws_ret ?_ | with_reducible refine ws_retN ?_ | with_reducible refine ws_if ?_ | with_reducible refine ws_par ?_ | with_reducible refine ws_unp2 ?_
  | with_reducible refine if_t ?_ | with_reducible refine if_f ?_ | with_reducible refine if_nf ?_ | with_reducible refine if_nt ?_
  | ((with_reducible show Exists _); first | refine ⟨_, kitInt _, ?_⟩ | refine ⟨_, kitBool _, ?_⟩ | refine ⟨_, kitTup _, ?_⟩ | refine ⟨_, kitList _, ?_⟩ | refine ⟨_, rfl, ?_⟩ | refine ⟨_, _, rfl, ?_⟩ | fail) | fail))
def t_asked (K : PySem.W.Frag) : TS :=
  (tSeq (tAsg (tLc (iTup K (tOp (rIxT K) (tVar 1) (tC (.int 0)))) (gName 6) tYes (tOp (rIxT K) (tVar 6) (tC (.int 1))) [6]) (gName 2))
    (tSeq (tAsg (tOp (rIxL K) (tVar 2) (tCall (spS K FPot TTake) [] E0 (tCons (tVar 0) (tCons (tCB (rLenX K) (tCons (tVar 2) tNil)) tNil)))) (gName 3))
    (tSeq (tAsg (tLst (tCons (tVar 3) (tCons (tCall (spP K TAdQ) [] E0 (tCons (tVar 3) (tCons (tTup (tCons (tC (.int 1)) (tCons (tC (.int 1)) tNil))) tNil))) (tCons (tCall (spP K TAdQ) [] E0 (tCons (tVar 3) (tCons (tTup (tCons (tOp rSubI (tCall (spS K FPot TTake) [] E0 (tCons (tVar 0) (tCons (tC (.int 41)) tNil))) (tC (.int 20))) (tCons (tC (.int 1)) tNil))) tNil))) (tCons (tTup (tCons (tOp rPowI (tC (.int 10)) (tC (.int 6))) (tCons (tC (.int 1)) tNil))) (tCons (tTup (tCons (tUn rNegI (tOp rPowI (tC (.int 10)) (tC (.int 6)))) (tCons (tC (.int 1)) tNil))) tNil)))))) (gName 4))
    (tSeq (tAsg (tOp (rIxT K) (tOp (rIxT K) (tOp (rIxT K) (tVar 1) (tC (.int 0))) (tCall (spS K FPot TTake) [] E0 (tCons (tVar 0) (tCons (tCB (rLenX K) (tCons (tVar 2) tNil)) tNil)))) (tC (.int 0))) (gName 5))
    (tSeq (tAsg (tOp (rIxL K) (tLst (tCons (tTup (tCons (tC (.int 0)) (tCons (tC (.int 1)) tNil))) (tCons (tVar 5) (tCons (tCall (spP K TAdQ) [] E0 (tCons (tVar 5) (tCons (tTup (tCons (tCall (spS K FPot TTake) [] E0 (tCons (tVar 0) (tCons (tC (.int 7)) tNil))) (tCons (tC (.int 1)) tNil))) tNil))) tNil)))) (tCall (spS K FPot TTake) [] E0 (tCons (tVar 0) (tCons (tC (.int 3)) tNil)))) (gName 5))
    (tRet (tTup (tCons (tOp (rIxL K) (tVar 4) (tCall (spS K FPot TTake) [] E0 (tCons (tVar 0) (tCons (tC (.int 5)) tNil)))) (tCons (tVar 5) tNil)))))))))
def t_bentl (K : PySem.W.Frag) : TS :=
  (tSeq (tAsg (tVar 1) (gTup K 2 (gCons (gName 2) (gCons (gName 3) gNil))))
    (tSeq (tIfS (tTest (tOp rEq (tCall (spS K FPot TTake) [] E0 (tCons (tVar 0) (tCons (tC (.int 2)) tNil))) (tC (.int 0)))) (tSeq (tAsg (tCall (spP K TAdQ) [] E0 (tCons (tVar 3) (tCons (tTup (tCons (tC (.int 1)) (tCons (tC (.int 97)) tNil))) tNil))) (gName 4))
    (tSeq (tIfS (tAnd (tTest (tOp rGt (tCB (rLenX K) (tCons (tVar 2) tNil)) (tC (.int 1)))) (tTest (tOp (rEqD K) (tCall (spP K TSlope) [] E0 (tCons (tVar 1) (tCons (tOp rSubI (tCB (rLenX K) (tCons (tVar 2) tNil)) (tC (.int 2))) tNil))) (tVar 4)))) (tAsg (tCall (spP K TAdQ) [] E0 (tCons (tVar 4) (tCons (tTup (tCons (tC (.int 1)) (tCons (tC (.int 1)) tNil))) tNil))) (gName 4)) tNext)
    (tRet (tTup (tCons (tVar 2) (tCons (tVar 4) tNil)))))) tNext)
    (tSeq (tAsg (tCall (spS K FPot TTake) [] E0 (tCons (tVar 0) (tCons (tCB (rLenX K) (tCons (tVar 2) tNil)) tNil))) (gName 5))
    (tSeq (tAsg (tTup (tCons (tTup (tCons (tOp (rIxT K) (tOp (rIxT K) (tVar 2) (tVar 5)) (tC (.int 0))) (tCons (tTup (tCons (tC (.int 1)) (tCons (tC (.int 7)) tNil))) tNil))) (tCons (tTup (tCons (tCall (spP K TAdQ) [] E0 (tCons (tOp (rIxT K) (tOp (rIxT K) (tVar 2) (tVar 5)) (tC (.int 0))) (tCons (tTup (tCons (tC (.int 1)) (tCons (tC (.int 1)) tNil))) tNil))) (tCons (tTup (tCons (tC (.int 0)) (tCons (tC (.int 1)) tNil))) tNil))) tNil))) (gName 6))
    (tSeq (tIfS (tTest (tOp (rEqD K) (tOp (rIxT K) (tOp (rIxT K) (tVar 2) (tVar 5)) (tC (.int 0))) (tTup (tCons (tC (.int 0)) (tCons (tC (.int 1)) tNil))))) (tRet (tCall (spP K TSumL) [] E0 (tCons (tVar 1) (tCons (tTup (tCons (tVar 6) (tCons (tTup (tCons (tC (.int 0)) (tCons (tC (.int 1)) tNil))) tNil))) tNil)))) tNext)
    (tRet (tCall (spP K TSumL) [] E0 (tCons (tVar 1) (tCons (tTup (tCons (tOp (rCatA K) (tTup (tCons (tTup (tCons (tTup (tCons (tC (.int 0)) (tCons (tC (.int 1)) tNil))) (tCons (tTup (tCons (tC (.int 0)) (tCons (tC (.int 1)) tNil))) tNil))) tNil)) (tVar 6)) (tCons (tTup (tCons (tC (.int 0)) (tCons (tC (.int 1)) tNil))) tNil))) tNil)))))))))
section
variable {K : PySem.W.Frag} {S : Stt}
end
end DL

set_option Elab.async false
set_option linter.all false
set_option maxRecDepth 100000
set_option maxHeartbeats 1000000
/-! LM13: the heights of a sum of lines; what bands leave -/
namespace DL
end DL

set_option Elab.async false
set_option linter.all false
set_option maxRecDepth 100000
set_option maxHeartbeats 1000000
/-! LM14: lines with small values: sums and multiples of drawn lines -/
namespace DL
structure GoodS (m : Nat) (ks : Kn) (s : Rat) : Prop where
  g : GoodL m ks s
  sl : ∀ i, i < ks.length → sz (slp ks s i) ≤ 28
/-- within B at the knots, within V anywhere near -/
structure Vl (B V N : Nat) (ks : Kn) (s : Rat) : Prop where
  n : Nrm ks s
  len : ks.length ≤ N
  pos : 0 < ks.length
  fst : (kn ks 0).1 = 0
  ris : Rising ks
  x : ∀ i, i < ks.length → sz (kn ks i).1 ≤ 26
  ky : ∀ i, i < ks.length → sz (kn ks i).2 ≤ B
  y : ∀ x, 0 ≤ x → sz x ≤ 28 → sz (yAt ks s x) ≤ V
  s : sz s ≤ B
theorem Vl.mono {B V N B' V' N' : Nat} {ks : Kn} {s : Rat} (h : Vl B V N ks s) (h1 : B ≤ B') (h2 : V ≤ V') (h3 : N ≤ N') : Vl B' V' N' ks s :=
  ⟨h.n, Nat.le_trans h.len h3, h.pos, h.fst, h.ris, h.x, fun i hi => Nat.le_trans (h.ky i hi) h1, fun x a b => Nat.le_trans (h.y x a b) h2, Nat.le_trans h.s h1⟩
noncomputable abbrev sumL (ks ls : Kn) (s t : Rat) (xs : List Rat) : Kn := bI (sumK ks ls s t xs) (s + t) (sumK ks ls s t xs).length
noncomputable abbrev timL (ks : Kn) (s c : Rat) : Kn := bI (timK ks c) (s * c) ks.length
end DL

set_option Elab.async false
set_option linter.all false
set_option maxRecDepth 100000
set_option maxHeartbeats 4000000
/-! BQ1: bands: the program's own reckoning of their lines -/
namespace DL
open PySem PySem.Spec PyProof.Rows L2
def TBandQ : List PyData → (PyData → Prop) → Prop := fun ds Φ => ∃ p : Rat × Rat, ds = [kD p] ∧ 0 ≤ p.1 ∧ 0 ≤ p.2 ∧ p.2 ≤ 1 ∧ sz p.2 ≤ 3700 ∧ Φ (.bool true)
def TBandsQ : List PyData → (PyData → Prop) → Prop := fun ds Φ => ∃ bs : Kn, ds = [knD bs] ∧ Bd 48 bs ∧ Φ (.bool true)
def TTakenL : List PyData → (PyData → Prop) → Prop := fun ds Φ => ∃ bs : Kn, ds = [knD bs] ∧ Bd 48 bs ∧ Φ (lnD (bI (tkK bs bs.length) (lr bs) bs.length) (lr bs))
def TTimesL : List PyData → (PyData → Prop) → Prop := fun ds Φ => ∃ (ks : Kn) (s c : Rat) (B C : Nat), ds = [lnD ks s, qp c] ∧ Lq B ks s ∧ sz c ≤ C ∧ 2 * (B + C) ≤ 3800 ∧ Φ (lnD (bI (timK ks c) (s * c) ks.length) (s * c))
def TLeftL : List PyData → (PyData → Prop) → Prop := fun ds Φ => ∃ bs : Kn, ds = [knD bs] ∧ Bd 28 bs ∧ ∀ ks, LnP bs true ks → Φ (lnD ks (1 - lr bs))
def TLeast (kept : Bool) : List PyData → (PyData → Prop) → Prop := fun ds Φ => ∃ (bs : Kn) (g : Rat), ds = [knD bs, qp g] ∧ Bd 28 bs ∧ sz g ≤ 22 ∧ ∀ o, LeastP bs kept g o → (∀ r, o = some r → sz r ≤ 1400) → Φ (oqD o)
abbrev TLeastL := TLeast true
abbrev TLeastT := TLeast false
local macro_rules | `(tactic| walk_at "dl") => `(tactic| repeat' (first
  | with_reducible refine wd_isTy ?_ | with_reducible refine wd_isi ?_ | ((with_reducible show WD _ _ (tOp (rIxL _) (tVar _) _) _ _); refine wd_ix_own rfl ?_) | with_reducible refine wd_op ?_ | ((with_reducible show WD _ _ (tCB (rLenX _) (tCons (tVar _) tNil)) _ _); refine wd_len_scr rfl ?_) | ((with_reducible show WD _ _ (tCB (rLenX _) (tCons (tVar _) tNil)) _ _); refine wd_len_own rfl ?_) | with_reducible refine wd_cb ?_ | with_reducible refine wd_un ?_ | with_reducible refine wa_cons ?_ | with_reducible refine wa_nil ?_ | ((with_reducible show WD _ _ (tVar _) _ _); refine wd_var rfl ?_) | with_reducible refine wd_int ?_ | with_reducible refine wd_bl ?_ | with_reducible refine wd_str ?_ | with_reducible refine wd_non ?_
  | with_reducible refine do_nesS ?_ | with_reducible refine dc_intB ?_ | with_reducible refine do_add ?_ | with_reducible refine do_sub ?_ | ((with_reducible refine do_mod ?_ ?_); decide) | with_reducible refine do_mod ?_ ?_ | with_reducible refine do_mul ?_ ?_ | ((with_reducible refine do_div ?_ ?_); exact ⟨by decide, by decide⟩) | with_reducible refine do_div ?_ ?_ | ((with_reducible refine do_pow ?_ ?_); exact ⟨by decide, by decide, by decide⟩) | with_reducible refine do_pow ?_ ?_
  | with_reducible refine do_lt ?_ | with_reducible refine do_le ?_ | with_reducible refine do_gt ?_ | with_reducible refine do_ge ?_ | with_reducible refine du_neg ?_
  | with_reducible refine do_eqi ?_ | with_reducible refine do_nei ?_ | with_reducible refine do_eqs ?_ | with_reducible refine do_nes ?_ | with_reducible refine dc_abs ?_ | with_reducible refine dc_min ?_ | with_reducible refine dc_max ?_ | with_reducible refine dc_lenL ?_ | with_reducible refine dc_lenT ?_ | with_reducible refine dc_lenR ?_ | with_reducible refine dc_listT ?_ | with_reducible refine dc_listL ?_ | with_reducible refine dc_tupL ?_ | with_reducible refine dc_gcd ?_
  | ((with_reducible show DO _ (rIxT _) _ _ _); refine do_ixT rfl ?_) | ((with_reducible show DO _ (rIxL _) _ _ _); refine do_ixL rfl ?_) | ((with_reducible refine do_catL ?_ ?_); exact Nat.le_of_ble_eq_true rfl) | with_reducible refine do_catL ?_ ?_ | ((with_reducible show And (List.length _ ≤ sizeLine) _); refine ⟨Nat.le_of_ble_eq_true rfl, ?_⟩)
  | with_reducible refine wd_dnew ?_ | with_reducible refine wd_call0 ?_ | with_reducible refine wd_slA ?_ | with_reducible refine wd_slL ?_ | with_reducible refine wd_revT ?_ | with_reducible refine do_catA ?_ ?_ | with_reducible refine wo_part ?_ | with_reducible refine wo_none ?_ | with_reducible refine do_eqQ ?_ | with_reducible refine do_neQ ?_ | with_reducible refine wi_enumT ?_ | with_reducible refine wi_enumD ?_ | with_reducible refine tAdQ (by omega) (by omega) ?_ | with_reducible refine tSbQ (by omega) (by omega) ?_ | with_reducible refine tMlQ (by omega) (by omega) ?_ | with_reducible refine tDvQ (by assumption) (by omega) (by omega) ?_ | with_reducible refine tLtQ (by omega) (by omega) ?_ | with_reducible refine dc_str ?_ ?_ | with_reducible refine wd_tup ?_ | with_reducible refine wd_lst ?_ | with_reducible refine wt_test ?_ | with_reducible refine wt_B ?_ | with_reducible refine wt_not ?_ | with_reducible refine wt_and ?_ | with_reducible refine wt_or ?_ | with_reducible refine wd_ifE ?_ | with_reducible refine wd_andV ?_ | with_reducible refine wd_orV ?_ | with_reducible refine wd_notV ?_
  | with_reducible refine ws_seq ?_ | with_reducible refine ws_next ?_ | with_reducible refine ws_asg ?_ | with_reducible refine ws_ret ?_ | with_reducible refine ws_retN ?_ | with_reducible refine ws_if ?_ | with_reducible refine ws_par ?_ | with_reducible refine ws_unp2 ?_
  | with_reducible refine if_t ?_ | with_reducible refine if_f ?_ | with_reducible refine if_nf ?_ | with_reducible refine if_nt ?_
  | ((with_reducible show Exists _); first | refine ⟨_, kitInt _, ?_⟩ | refine ⟨_, kitBool _, ?_⟩ | refine ⟨_, kitTup _, ?_⟩ | refine ⟨_, kitList _, ?_⟩ | refine ⟨_, rfl, ?_⟩ | refine ⟨_, _, rfl, ?_⟩ | fail) | fail))
def t_isband (K : PySem.W.Frag) (a_ONE : Addr) : TS :=
  (tSeq (tIfS (tNot (tAnd (tTest (tOp rIsTyX (tCB (rTyp K) (tCons (tVar 0) tNil)) (tC (.ty "tuple")))) (tAnd (tTest (tOp rEq (tCB (rLenX K) (tCons (tVar 0) tNil)) (tC (.int 2)))) (tB (tCall (spP K TAmountB) [] E0 (tCons (tOp (rIxT K) (tVar 0) (tC (.int 0))) tNil)))))) (tRet (tC (.bl false))) tNext)
    (tRet (tAndV (tCall (spP K TAmountB) [] E0 (tCons (tOp (rIxT K) (tVar 0) (tC (.int 1))) tNil)) (tNotV (tCall (spP K TLtQ) [] E0 (tCons (tC (.ref a_ONE)) (tCons (tOp (rIxT K) (tVar 0) (tC (.int 1))) tNil)))))))
def t_isbands (K : PySem.W.Frag) (a_NOUGHT : Addr) : TS :=
  (tSeq (tIfS (tNot (tAnd (tTest (tOp rIsTyX (tCB (rTyp K) (tCons (tVar 0) tNil)) (tC (.ty "tuple")))) (tAnd (tTest (tOp rGe (tCB (rLenX K) (tCons (tVar 0) tNil)) (tC (.int 1)))) (tB (tCB (rAll K) (tCons (tLc (iTup K (tVar 0)) (gName 3) tYes (tCall (spP K TBandQ) [] E0 (tCons (tVar 3) tNil)) [3]) tNil)))))) (tRet (tC (.bl false))) tNext)
    (tSeq (tAsg (tLc (iRng1 (tCons (tOp rSubI (tCB (rLenX K) (tCons (tVar 0) tNil)) (tC (.int 1))) tNil)) (gName 2) tYes (tCall (spP K TLtQ) [] E0 (tCons (tOp (rIxT K) (tOp (rIxT K) (tVar 0) (tVar 2)) (tC (.int 0))) (tCons (tOp (rIxT K) (tOp (rIxT K) (tVar 0) (tOp rAddI (tVar 2) (tC (.int 1)))) (tC (.int 0))) tNil))) [2]) (gName 1))
    (tRet (tAndV (tOp (rEqD K) (tOp (rIxT K) (tOp (rIxT K) (tVar 0) (tC (.int 0))) (tC (.int 0))) (tC (.ref a_NOUGHT))) (tCB (rAll K) (tCons (tVar 1) tNil))))))
def t_takenline (K : PySem.W.Frag) (a_NOUGHT : Addr) : TS :=
  (tSeq (tIfS (tNot (tB (tCall (spP K TBandsQ) [] E0 (tCons (tVar 0) tNil)))) tNo tNext)
    (tSeq (tAsg (tOp (rIxT K) (tVar 0) (tC (.int 0))) (gTup K 2 (gCons (gName 1) (gCons (gName 2) gNil))))
    (tSeq (tAsg (tC (.ref a_NOUGHT)) (gName 3))
    (tSeq (tAsg (tLst (tCons (tTup (tCons (tVar 1) (tCons (tVar 3) tNil))) tNil)) (gName 4))
    (tSeq (tFor (iTup K (tSl (rSlA K) (tVar 0) (tPart (tC (.int 1))) tNoPart)) (gTup K 2 (gCons (gName 5) (gCons (gName 6) gNil))) (tSeq (tAsg (tCall (spP K TAdQ) [] E0 (tCons (tVar 3) (tCons (tCall (spP K TMlQ) [] E0 (tCons (tVar 2) (tCons (tCall (spP K TSbQ) [] E0 (tCons (tVar 5) (tCons (tVar 1) tNil))) tNil))) tNil))) (gName 3))
    (tSeq (tDrop (tBM K "list" rAppend (tVar 4) (tCons (tTup (tCons (tVar 5) (tCons (tVar 3) tNil))) tNil)))
    (tPar 1 2 (tCons (tVar 5) (tCons (tVar 6) tNil))))))
    (tRet (tCall (spP K TLineOf) [] E0 (tCons (tVar 4) (tCons (tVar 2) tNil)))))))))
def t_timesline (K : PySem.W.Frag) : TS :=
  (tSeq (tAsg (tVar 0) (gTup K 2 (gCons (gName 2) (gCons (gName 3) gNil))))
    (tRet (tCall (spP K TLineOf) [] E0 (tCons (tLc (iTup K (tVar 2)) (gTup K 2 (gCons (gName 4) (gCons (gName 5) gNil))) tYes (tTup (tCons (tVar 4) (tCons (tCall (spP K TMlQ) [] E0 (tCons (tVar 5) (tCons (tVar 1) tNil))) tNil))) [4, 5]) (tCons (tCall (spP K TMlQ) [] E0 (tCons (tVar 3) (tCons (tVar 1) tNil))) tNil)))))
def t_leftline (K : PySem.W.Frag) (a__ALL_LEFT : Addr) : TS :=
  (tRet (tCall (spP K TSumL) [] E0 (tCons (tC (.ref a__ALL_LEFT)) (tCons (tCall (spP K TTimesL) [] E0 (tCons (tCall (spP K TTakenL) [] E0 (tCons (tVar 0) tNil)) (tCons (tTup (tCons (tUn rNegI (tC (.int 1))) (tCons (tC (.int 1)) tNil))) tNil))) tNil))))
def t_leastl (K : PySem.W.Frag) (aN : Addr) : TS :=
  (tRet (tCall (spP K TFirst) [.ref aN] E0 (tCons (tCall (spP K TLeftL) [] E0 (tCons (tVar 0) tNil)) (tCons (tVar 1) tNil))))
def t_leastt (K : PySem.W.Frag) (aN : Addr) : TS :=
  (tRet (tCall (spP K TFirst) [.ref aN] E0 (tCons (tCall (spP K TTakenL) [] E0 (tCons (tVar 0) tNil)) (tCons (tVar 1) tNil))))
theorem Bd.mono {B C : Nat} {bs : Kn} (b : Bd B bs) (h : B ≤ C) : Bd C bs := ⟨b.pos, b.len, b.fst, b.ris, b.r0, b.r1, fun i hi => Nat.le_trans (b.bx i hi) h, fun i hi => Nat.le_trans (b.br i hi) h, fun i hi => Nat.le_trans (b.by' i hi) h⟩
section
variable {K : PySem.W.Frag} {ds : List PyData} {Φ : PyData → Prop}
end
end DL

set_option Elab.async false
set_option linter.all false
/-! DMC: a row of one's own beside the empty row; the module's nested tuples -/
namespace DL
open PySem PySem.Spec PyProof.Rows L2
section
variable {K : PySem.W.Frag} {S : Stt} {ρ : Rho} {Φ : PyData → Rho → Prop}
end
end DL

set_option Elab.async false
set_option linter.all false
set_option maxRecDepth 100000
set_option maxHeartbeats 4000000
/-! BQ2: bands as the law draws and reckons them -/
namespace DL
open PySem PySem.Spec PyProof.Rows L2
def TBandsD : Nat → List PyData → (PyData → Nat → Prop) → Prop := fun B ds Φ => ∃ m : Nat, ds = [.int m] ∧ 3 ≤ m ∧ m ≤ 30 ∧ B ≤ 2 ^ 39 ∧ ∀ bs B', B' ≤ B + 300 → Bd 26 bs → bs.length ≤ m → Φ (knD bs) B'
def TTax : List PyData → (PyData → Prop) → Prop := fun ds Φ => ∃ (bs : Kn) (x : Rat) (C : Nat), ds = [knD bs, qp x] ∧ Bd 48 bs ∧ 0 ≤ x ∧ sz x ≤ C ∧ C ≤ 1500 ∧ Φ (qp (tax bs x))
def THas : List PyData → (PyData → Prop) → Prop := fun ds Φ => ∃ (bs : Kn) (x : Rat) (C : Nat) (kept : Bool), ds = [knD bs, qp x, .bool kept] ∧ Bd 28 bs ∧ 0 ≤ x ∧ sz x ≤ C ∧ C ≤ 1500 ∧ Φ (qp (has bs kept x))
def TTotalD : Nat → List PyData → (PyData → Nat → Prop) → Prop := fun B ds Φ => ∃ bs : Kn, ds = [knD bs] ∧ Bd 28 bs ∧ B ≤ 2 ^ 39 ∧ ∀ x B', B' ≤ B + 10 → 0 ≤ x → sz x ≤ 60 → Φ (qp x) B'
local macro_rules | `(tactic| walk_at "dl") => `(tactic| repeat' (first
  | with_reducible refine wd_isTy ?_ | with_reducible refine wd_isi ?_ | ((with_reducible show WD _ _ (tOp (rIxL _) (tVar _) _) _ _); refine wd_ix_own rfl ?_) | with_reducible refine wd_op ?_ | ((with_reducible show WD _ _ (tCB (rLenX _) (tCons (tVar _) tNil)) _ _); refine wd_len_scr rfl ?_) | ((with_reducible show WD _ _ (tCB (rLenX _) (tCons (tVar _) tNil)) _ _); refine wd_len_own rfl ?_) | with_reducible refine wd_cb ?_ | with_reducible refine wd_un ?_ | with_reducible refine wa_cons ?_ | with_reducible refine wa_nil ?_ | ((with_reducible show WD _ _ (tVar _) _ _); refine wd_var rfl ?_) | with_reducible refine wd_int ?_ | with_reducible refine wd_bl ?_ | with_reducible refine wd_str ?_ | with_reducible refine wd_non ?_
  | with_reducible refine do_nesS ?_ | with_reducible refine dc_intB ?_ | with_reducible refine do_add ?_ | with_reducible refine do_sub ?_ | ((with_reducible refine do_mod ?_ ?_); decide) | with_reducible refine do_mod ?_ ?_ | with_reducible refine do_mul ?_ ?_ | ((with_reducible refine do_div ?_ ?_); exact ⟨by decide, by decide⟩) | with_reducible refine do_div ?_ ?_ | ((with_reducible refine do_pow ?_ ?_); exact ⟨by decide, by decide, by decide⟩) | with_reducible refine do_pow ?_ ?_
  | with_reducible refine do_lt ?_ | with_reducible refine do_le ?_ | with_reducible refine do_gt ?_ | with_reducible refine do_ge ?_ | with_reducible refine du_neg ?_
  | with_reducible refine do_eqi ?_ | with_reducible refine do_nei ?_ | with_reducible refine do_eqs ?_ | with_reducible refine do_nes ?_ | with_reducible refine dc_abs ?_ | with_reducible refine dc_min ?_ | with_reducible refine dc_max ?_ | with_reducible refine dc_lenL ?_ | with_reducible refine dc_lenT ?_ | with_reducible refine dc_lenR ?_ | with_reducible refine dc_listT ?_ | with_reducible refine dc_listL ?_ | with_reducible refine dc_tupL ?_ | with_reducible refine dc_gcd ?_
  | ((with_reducible show DO _ (rIxT _) _ _ _); refine do_ixT rfl ?_) | ((with_reducible show DO _ (rIxL _) _ _ _); refine do_ixL rfl ?_) | ((with_reducible refine do_catL ?_ ?_); exact Nat.le_of_ble_eq_true rfl) | with_reducible refine do_catL ?_ ?_ | ((with_reducible show And (List.length _ ≤ sizeLine) _); refine ⟨Nat.le_of_ble_eq_true rfl, ?_⟩)
  | with_reducible refine wd_dnew ?_ | with_reducible refine wd_call0 ?_ | with_reducible refine wd_slA ?_ | with_reducible refine wd_slL ?_ | with_reducible refine wd_revT ?_ | with_reducible refine do_catA ?_ ?_ | with_reducible refine wo_part ?_ | with_reducible refine wo_none ?_ | with_reducible refine do_eqQ ?_ | with_reducible refine do_neQ ?_ | with_reducible refine wi_enumT ?_ | with_reducible refine wi_enumD ?_ | with_reducible refine tAdQ (by omega) (by omega) ?_ | with_reducible refine tSbQ (by omega) (by omega) ?_ | with_reducible refine tMlQ (by omega) (by omega) ?_ | with_reducible refine tDvQ (by assumption) (by omega) (by omega) ?_ | with_reducible refine tLtQ (by omega) (by omega) ?_ | with_reducible refine dc_str ?_ ?_ | with_reducible refine wd_tup ?_ | with_reducible refine wd_lst ?_ | with_reducible refine wt_test ?_ | with_reducible refine wt_B ?_ | with_reducible refine wt_not ?_ | with_reducible refine wt_and ?_ | with_reducible refine wt_or ?_ | with_reducible refine wd_ifE ?_ | with_reducible refine wd_andV ?_ | with_reducible refine wd_orV ?_ | with_reducible refine wd_notV ?_
  | with_reducible refine ws_seq ?_ | with_reducible refine ws_next ?_ | with_reducible refine ws_asg ?_ | with_reducible refine ws_ret ?_ | with_reducible refine ws_retN ?_ | with_reducible refine ws_if ?_ | with_reducible refine ws_par ?_ | with_reducible refine ws_unp2 ?_
  | with_reducible refine if_t ?_ | with_reducible refine if_f ?_ | with_reducible refine if_nf ?_ | with_reducible refine if_nt ?_
  | ((with_reducible show Exists _); first | refine ⟨_, kitInt _, ?_⟩ | refine ⟨_, kitBool _, ?_⟩ | refine ⟨_, kitTup _, ?_⟩ | refine ⟨_, kitList _, ?_⟩ | refine ⟨_, rfl, ?_⟩ | refine ⟨_, _, rfl, ?_⟩ | fail) | fail))
def t_bandsd (K : PySem.W.Frag) : TS :=
  (tSeq (tAsg (tOp (rIxL K) (tLst (tCons (tOp rAddI (tC (.int 1)) (tCall (spS K FPot TTake) [] E0 (tCons (tVar 0) (tCons (tC (.int 3)) tNil)))) (tCons (tOp rAddI (tC (.int 1)) (tCall (spS K FPot TTake) [] E0 (tCons (tVar 0) (tCons (tVar 1) tNil)))) (tCons (tVar 1) tNil)))) (tCall (spS K FPot TTake) [] E0 (tCons (tVar 0) (tCons (tC (.int 3)) tNil)))) (gName 2))
    (tSeq (tAsg (tOp (rIxL K) (tLst (tCons (tC (.int 1)) (tCons (tC (.int 2)) (tCons (tC (.int 4)) (tCons (tC (.int 5)) (tCons (tC (.int 10)) (tCons (tOp (rIxL K) (tLst (tCons (tC (.int 97)) (tCons (tC (.int 101)) (tCons (tC (.int 997)) tNil)))) (tCall (spS K FPot TTake) [] E0 (tCons (tVar 0) (tCons (tC (.int 3)) tNil)))) tNil))))))) (tCall (spS K FPot TTake) [] E0 (tCons (tVar 0) (tCons (tC (.int 6)) tNil)))) (gName 3))
    (tSeq (tAsg (tLst tNil) (gName 4))
    (tSeq (tAsg (tTup (tCons (tC (.int 0)) (tCons (tC (.int 1)) tNil))) (gName 5))
    (tSeq (tFor (iRng1 (tCons (tVar 2) tNil)) (gName 6) (tSeq (tAsg (tCall (spP K TLow) [] E0 (tCons (tCall (spS K FPot TTake) [] E0 (tCons (tVar 0) (tCons (tOp rAddI (tVar 3) (tC (.int 1))) tNil))) (tCons (tVar 3) tNil))) (gName 7))
    (tSeq (tIfS (tAnd (tTest (tOp (rNeD K) (tVar 4) (tLst tNil))) (tTest (tOp rEq (tCall (spS K FPot TTake) [] E0 (tCons (tVar 0) (tCons (tC (.int 5)) tNil))) (tC (.int 0))))) (tAsg (tOp (rIxT K) (tOp (rIxL K) (tVar 4) (tUn rNegI (tC (.int 1)))) (tC (.int 1))) (gName 7)) tNext)
    (tSeq (tDrop (tBM K "list" rAppend (tVar 4) (tCons (tTup (tCons (tVar 5) (tCons (tVar 7) tNil))) tNil)))
    (tAsg (tCall (spP K TAdQ) [] E0 (tCons (tVar 5) (tCons (tCall (spP K TLow) [] E0 (tCons (tOp rAddI (tC (.int 1)) (tCall (spS K FPot TTake) [] E0 (tCons (tVar 0) (tCons (tC (.int 30)) tNil)))) (tCons (tOp (rIxL K) (tLst (tCons (tC (.int 1)) (tCons (tC (.int 2)) (tCons (tC (.int 4)) tNil)))) (tCall (spS K FPot TTake) [] E0 (tCons (tVar 0) (tCons (tC (.int 3)) tNil)))) tNil))) tNil))) (gName 5))))))
    (tRet (tCB (rTupOf K) (tCons (tVar 4) tNil))))))))
def t_tax (K : PySem.W.Frag) : TS :=
  (tSeq (tAsg (tTup (tCons (tC (.int 0)) (tCons (tC (.int 1)) tNil))) (gName 2))
    (tSeq (tFor (iEnumT K (tCons (tVar 0) tNil)) (gTup K 2 (gCons (gName 3) (gCons (gTup K 2 (gCons (gName 4) (gCons (gName 5) gNil))) gNil))) (tSeq (tAsg (tVar 1) (gName 6))
    (tSeq (tIfS (tAnd (tTest (tOp rLt (tOp rAddI (tVar 3) (tC (.int 1))) (tCB (rLenX K) (tCons (tVar 0) tNil)))) (tB (tCall (spP K TLtQ) [] E0 (tCons (tOp (rIxT K) (tOp (rIxT K) (tVar 0) (tOp rAddI (tVar 3) (tC (.int 1)))) (tC (.int 0))) (tCons (tVar 1) tNil))))) (tAsg (tOp (rIxT K) (tOp (rIxT K) (tVar 0) (tOp rAddI (tVar 3) (tC (.int 1)))) (tC (.int 0))) (gName 6)) tNext)
    (tIfS (tB (tCall (spP K TLtQ) [] E0 (tCons (tVar 4) (tCons (tVar 6) tNil)))) (tAsg (tCall (spP K TAdQ) [] E0 (tCons (tVar 2) (tCons (tCall (spP K TMlQ) [] E0 (tCons (tVar 5) (tCons (tCall (spP K TSbQ) [] E0 (tCons (tVar 6) (tCons (tVar 4) tNil))) tNil))) tNil))) (gName 2)) tNext))))
    (tRet (tVar 2))))
def t_has (K : PySem.W.Frag) : TS :=
  (tSeq (tAsg (tCall (spP K TTax) [] E0 (tCons (tVar 0) (tCons (tVar 1) tNil))) (gName 3))
    (tRet (tIf (tB (tVar 2)) (tCall (spP K TSbQ) [] E0 (tCons (tVar 1) (tCons (tVar 3) tNil))) (tVar 3))))
def t_totald (K : PySem.W.Frag) : TS :=
  (tSeq (tAsg (tOp (rIxT K) (tOp (rIxT K) (tVar 1) (tCall (spS K FPot TTake) [] E0 (tCons (tVar 0) (tCons (tCB (rLenX K) (tCons (tVar 1) tNil)) tNil)))) (tC (.int 0))) (gName 2))
    (tRet (tOp (rIxL K) (tLst (tCons (tTup (tCons (tC (.int 0)) (tCons (tC (.int 1)) tNil))) (tCons (tVar 2) (tCons (tCall (spP K TAdQ) [] E0 (tCons (tVar 2) (tCons (tCall (spP K TLow) [] E0 (tCons (tOp rAddI (tC (.int 1)) (tCall (spS K FPot TTake) [] E0 (tCons (tVar 0) (tCons (tC (.int 60)) tNil)))) (tCons (tC (.int 3)) tNil))) tNil))) (tCons (tCall (spP K TLow) [] E0 (tCons (tCall (spS K FPot TTake) [] E0 (tCons (tVar 0) (tCons (tOp rPowI (tC (.int 10)) (tC (.int 6))) tNil))) (tCons (tOp rAddI (tC (.int 1)) (tCall (spS K FPot TTake) [] E0 (tCons (tVar 0) (tCons (tC (.int 1000)) tNil)))) tNil))) (tCons (tTup (tCons (tOp rPowI (tC (.int 10)) (tC (.int 6))) (tCons (tC (.int 1)) tNil))) tNil)))))) (tCall (spS K FPot TTake) [] E0 (tCons (tVar 0) (tCons (tC (.int 5)) tNil))))))
section
variable {K : PySem.W.Frag} {S : Stt}
end
section
variable {K : PySem.W.Frag} {ds : List PyData} {Φ : PyData → Prop}
end
section
variable {K : PySem.W.Frag} {S : Stt}
end
end DL

set_option Elab.async false
set_option linter.all false
set_option maxRecDepth 100000
set_option maxHeartbeats 4000000
/-! BQ4: drawn lines with small slopes; the x of rows of lines -/
namespace DL
open PySem PySem.Spec PyProof.Rows L2
def TLineS : Nat → List PyData → (PyData → Nat → Prop) → Prop := fun B ds Φ => ∃ m : Nat, ds = [.int m] ∧ 3 ≤ m ∧ m ≤ 60 ∧ B ≤ 2 ^ 39 ∧ ∀ ks s B', B' ≤ B + 300 → GoodS m ks s → Φ (lnD ks s) B'
/-- the line of a pair -/
abbrev ldD (l : Kn × Rat) : PyData := lnD l.1 l.2
def TXsN : List PyData → (PyData → Prop) → Prop := fun ds Φ => ∃ (ls : List (Kn × Rat)) (B N : Nat), ds = [.list (ls.map ldD)] ∧ 0 < ls.length ∧ (∀ l ∈ ls, 0 < l.1.length ∧ l.1.length ≤ N ∧ ∀ i, i < l.1.length → sz (kn l.1 i).1 ≤ B) ∧ N * ls.length ≤ 100000 ∧ B + 2 ≤ 3800 ∧
  ∀ xs, Srt xs → (∀ x, x ∈ xs ↔ ∃ l ∈ ls, x ∈ xsK l.1) → 0 < xs.length → xs.length ≤ N * ls.length → Φ (qL (beyond xs))
section
local macro_rules | `(tactic| walk_at "dl") => `(tactic| repeat' (first
  | with_reducible refine wd_isTy ?_ | with_reducible refine wd_isi ?_ | with_reducible refine wd_op ?_ | ((with_reducible show WD _ _ (tCB (rLenX _) (tCons (tVar _) tNil)) _ _); refine wd_len_scr rfl ?_) | with_reducible refine wd_cb ?_ | with_reducible refine wd_un ?_ | with_reducible refine wa_cons ?_ | with_reducible refine wa_nil ?_ | ((with_reducible show WD _ _ (tVar _) _ _); refine wd_var rfl ?_) | with_reducible refine wd_int ?_ | with_reducible refine wd_bl ?_ | with_reducible refine wd_str ?_ | with_reducible refine wd_non ?_
  | with_reducible refine do_add ?_ | with_reducible refine do_sub ?_ | ((with_reducible refine do_mod ?_ ?_); decide) | with_reducible refine do_mod ?_ ?_ | with_reducible refine do_mul ?_ ?_ | ((with_reducible refine do_div ?_ ?_); exact ⟨by decide, by decide⟩) | with_reducible refine do_div ?_ ?_ | ((with_reducible refine do_pow ?_ ?_); exact ⟨by decide, by decide, by decide⟩) | with_reducible refine do_pow ?_ ?_
  | with_reducible refine do_lt ?_ | with_reducible refine do_le ?_ | with_reducible refine do_gt ?_ | with_reducible refine do_ge ?_ | with_reducible refine du_neg ?_
  | with_reducible refine do_eqi ?_ | with_reducible refine do_nei ?_ | with_reducible refine do_eqs ?_ | with_reducible refine do_nes ?_ | with_reducible refine dc_abs ?_ | with_reducible refine dc_min ?_ | with_reducible refine dc_max ?_ | with_reducible refine dc_lenL ?_ | with_reducible refine dc_lenT ?_ | with_reducible refine dc_gcd ?_
  | ((with_reducible show DO _ (rIxT _) _ _ _); refine do_ixT rfl ?_) | ((with_reducible show DO _ (rIxL _) _ _ _); refine do_ixL rfl ?_) | ((with_reducible refine do_catL ?_ ?_); exact Nat.le_of_ble_eq_true rfl) | with_reducible refine do_catL ?_ ?_ | ((with_reducible show And (List.length _ ≤ sizeLine) _); refine ⟨Nat.le_of_ble_eq_true rfl, ?_⟩)
  | with_reducible refine wd_dnew ?_ | with_reducible refine wd_call0 ?_ | with_reducible refine wd_slA ?_ | with_reducible refine wo_part ?_ | with_reducible refine wo_none ?_ | with_reducible refine do_eqQ ?_ | with_reducible refine do_neQ ?_ | with_reducible refine wi_enumT ?_ | with_reducible refine tAdQ (by omega) (by omega) ?_ | with_reducible refine tSbQ (by omega) (by omega) ?_ | with_reducible refine tMlQ (by omega) (by omega) ?_ | with_reducible refine tDvQ (by assumption) (by omega) (by omega) ?_ | with_reducible refine tLtQ (by omega) (by omega) ?_ | with_reducible refine dc_str ?_ ?_ | with_reducible refine wd_tup ?_ | with_reducible refine wd_lst ?_ | with_reducible refine wt_test ?_ | with_reducible refine wt_B ?_ | with_reducible refine wt_not ?_ | with_reducible refine wt_and ?_ | with_reducible refine wt_or ?_ | with_reducible refine wd_ifE ?_ | with_reducible refine wd_andV ?_ | with_reducible refine wd_orV ?_ | with_reducible refine wd_notV ?_
  | with_reducible refine ws_seq ?_ | with_reducible refine ws_next ?_ | with_reducible refine ws_asg ?_ | with_reducible refine ws_ret ?_ | with_reducible refine ws_retN ?_ | with_reducible refine ws_if ?_ | with_reducible refine ws_par ?_ | with_reducible refine ws_unp2 ?_
  | with_reducible refine if_t ?_ | with_reducible refine if_f ?_ | with_reducible refine if_nf ?_ | with_reducible refine if_nt ?_
  | ((with_reducible show Exists _); first | refine ⟨_, kitInt _, ?_⟩ | refine ⟨_, kitBool _, ?_⟩ | refine ⟨_, kitTup _, ?_⟩ | refine ⟨_, kitList _, ?_⟩ | refine ⟨_, rfl, ?_⟩ | refine ⟨_, _, rfl, ?_⟩ | fail) | fail))
section
variable {K : PySem.W.Frag} {S : Stt} {ds : List PyData} {Φ : PyData → Nat → Prop} {B : Nat}
end
end
section
local macro_rules | `(tactic| walk_at "dl") => `(tactic| repeat' (first
  | with_reducible refine wd_isTy ?_ | with_reducible refine wd_isi ?_ | ((with_reducible show WD _ _ (tOp (rIxL _) (tVar _) _) _ _); refine wd_ix_own rfl ?_) | with_reducible refine wd_op ?_ | ((with_reducible show WD _ _ (tCB (rLenX _) (tCons (tVar _) tNil)) _ _); refine wd_len_scr rfl ?_) | ((with_reducible show WD _ _ (tCB (rLenX _) (tCons (tVar _) tNil)) _ _); refine wd_len_own rfl ?_) | with_reducible refine wd_cb ?_ | with_reducible refine wd_un ?_ | with_reducible refine wa_cons ?_ | with_reducible refine wa_nil ?_ | ((with_reducible show WD _ _ (tVar _) _ _); refine wd_var rfl ?_) | with_reducible refine wd_int ?_ | with_reducible refine wd_bl ?_ | with_reducible refine wd_str ?_ | with_reducible refine wd_non ?_
  | with_reducible refine do_nesS ?_ | with_reducible refine dc_intB ?_ | with_reducible refine do_add ?_ | with_reducible refine do_sub ?_ | ((with_reducible refine do_mod ?_ ?_); decide) | with_reducible refine do_mod ?_ ?_ | with_reducible refine do_mul ?_ ?_ | ((with_reducible refine do_div ?_ ?_); exact ⟨by decide, by decide⟩) | with_reducible refine do_div ?_ ?_ | ((with_reducible refine do_pow ?_ ?_); exact ⟨by decide, by decide, by decide⟩) | with_reducible refine do_pow ?_ ?_
  | with_reducible refine do_lt ?_ | with_reducible refine do_le ?_ | with_reducible refine do_gt ?_ | with_reducible refine do_ge ?_ | with_reducible refine du_neg ?_
  | with_reducible refine do_eqi ?_ | with_reducible refine do_nei ?_ | with_reducible refine do_eqs ?_ | with_reducible refine do_nes ?_ | with_reducible refine dc_abs ?_ | with_reducible refine dc_min ?_ | with_reducible refine dc_max ?_ | with_reducible refine dc_lenL ?_ | with_reducible refine dc_lenT ?_ | with_reducible refine dc_lenR ?_ | with_reducible refine dc_listT ?_ | with_reducible refine dc_listL ?_ | with_reducible refine dc_tupL ?_ | with_reducible refine dc_gcd ?_
  | ((with_reducible show DO _ (rIxT _) _ _ _); refine do_ixT rfl ?_) | ((with_reducible show DO _ (rIxL _) _ _ _); refine do_ixL rfl ?_) | ((with_reducible refine do_catL ?_ ?_); exact Nat.le_of_ble_eq_true rfl) | with_reducible refine do_catL ?_ ?_ | ((with_reducible show And (List.length _ ≤ sizeLine) _); refine ⟨Nat.le_of_ble_eq_true rfl, ?_⟩)
  | with_reducible refine wd_dnew ?_ | with_reducible refine wd_call0 ?_ | with_reducible refine wd_slA ?_ | with_reducible refine wd_slL ?_ | with_reducible refine wd_revT ?_ | with_reducible refine do_catA ?_ ?_ | with_reducible refine wo_part ?_ | with_reducible refine wo_none ?_ | with_reducible refine do_eqQ ?_ | with_reducible refine do_neQ ?_ | with_reducible refine wi_enumT ?_ | with_reducible refine wi_enumD ?_ | with_reducible refine tAdQ (by omega) (by omega) ?_ | with_reducible refine tSbQ (by omega) (by omega) ?_ | with_reducible refine tMlQ (by omega) (by omega) ?_ | with_reducible refine tDvQ (by assumption) (by omega) (by omega) ?_ | with_reducible refine tLtQ (by omega) (by omega) ?_ | with_reducible refine dc_str ?_ ?_ | with_reducible refine wd_tup ?_ | with_reducible refine wd_lst ?_ | with_reducible refine wt_test ?_ | with_reducible refine wt_B ?_ | with_reducible refine wt_not ?_ | with_reducible refine wt_and ?_ | with_reducible refine wt_or ?_ | with_reducible refine wd_ifE ?_ | with_reducible refine wd_andV ?_ | with_reducible refine wd_orV ?_ | with_reducible refine wd_notV ?_
  | with_reducible refine ws_seq ?_ | with_reducible refine ws_next ?_ | with_reducible refine ws_asg ?_ | with_reducible refine ws_ret ?_ | with_reducible refine ws_retN ?_ | with_reducible refine ws_if ?_ | with_reducible refine ws_par ?_ | with_reducible refine ws_unp2 ?_
  | with_reducible refine if_t ?_ | with_reducible refine if_f ?_ | with_reducible refine if_nf ?_ | with_reducible refine if_nt ?_
  | ((with_reducible show Exists _); first | refine ⟨_, kitInt _, ?_⟩ | refine ⟨_, kitBool _, ?_⟩ | refine ⟨_, kitTup _, ?_⟩ | refine ⟨_, kitList _, ?_⟩ | refine ⟨_, rfl, ?_⟩ | refine ⟨_, _, rfl, ?_⟩ | fail) | fail))
def t_xsn (K : PySem.W.Frag) : TS :=
  (tSeq (tAsg (tLst tNil) (gName 1))
    (tSeq (tFor (iList K (tVar 0)) (gName 2) (tDrop (tBM K "list" rExtend (tVar 1) (tCons (tLc (iTup K (tOp (rIxT K) (tVar 2) (tC (.int 0)))) (gName 4) tYes (tOp (rIxT K) (tVar 4) (tC (.int 0))) [4]) tNil))))
    (tSeq (tAsg (tCall (spP K TSorted) [] E0 (tCons (tVar 1) tNil)) (gName 3))
    (tRet (tOp rCatL (tVar 3) (tLst (tCons (tCall (spP K TAdQ) [] E0 (tCons (tOp (rIxL K) (tVar 3) (tUn rNegI (tC (.int 1)))) (tCons (tTup (tCons (tC (.int 1)) (tCons (tC (.int 1)) tNil))) tNil))) tNil)))))))
section
variable {K : PySem.W.Frag} {ds : List PyData} {Φ : PyData → Prop}
end
end
end DL

set_option Elab.async false
set_option linter.all false
set_option maxRecDepth 100000
set_option maxHeartbeats 4000000
/-! LS9: the judge of what is first -/
namespace DL
open PySem PySem.Spec PyProof.Rows L2
def TFirstX (C : Addr) : List PyData → (PyData → Prop) → (Addr → Prop) → Prop := fun ds _ Ψ => ∃ (a b g : PyData) (x : Rat), ds = [.tuple [a, b], g, qp x] ∧ x < 0 ∧ Ψ C
def TRefA : List PyData → (PyData → Prop) → Prop := fun ds Φ => ∃ (a b g : PyData) (x : Rat), ds = [.tuple [a, b], g, qp x] ∧ x < 0 ∧ Φ (.bool true)
def TFirsts : Nat → List PyData → (PyData → Nat → Prop) → Prop := fun B ds Φ => ∃ (ks : Kn) (s : Rat), ds = [lnD ks s] ∧ GoodL 60 ks s ∧ B ≤ 2 ^ 38 ∧ ∀ B', B' ≤ B + 100 → Φ (.bool true) B'
def t_firstX (K : PySem.W.Frag) (C : Addr) (E : XK) : TS :=
  (tSeq (tAsg (tVar 0) (gTup K 2 (gCons (gName 3) (gCons (gName 4) gNil)))) (tSeq (tPar 5 6 (tCons (tVar 2) (tCons (tCall (spX K (TYx C)) [] E (tCons (tVar 0) (tCons (tVar 2) tNil))) tNil))) tNo))
def tb_refA (K : PySem.W.Frag) (C : Addr) (W : WX) : TS := tDrop (tCallNSk 2 1 (spX K (TFirstX C)) gVapp (WE W) (tCons (tVar 0) (tCons (tVar 1) tNil)) (tCons (tVar 2) tNil))
def ts_refA (a : Addr) : TS := tAsg (tVar 4) (gName 3)
def t_refA (K : PySem.W.Frag) (C P : Addr) : TS :=
  (tSeq (tAsg (tC .non) (gName 3))
    (tSeq (fun D σ H => tb_refA K C (wKeep K (.ref P) 4 ts_refA D) D σ H)
    (tRet (tOp rEq (tCall (spW K C "amount") [] E0 (tCons (tVar 3) tNil)) (tC (.str "amount"))))))
local macro_rules | `(tactic| walk_at "dl") => `(tactic| repeat' (first
  | with_reducible refine wd_isTy ?_ | with_reducible refine wd_isi ?_ | ((with_reducible show WD _ _ (tOp (rIxL _) (tVar _) _) _ _); refine wd_ix_own rfl ?_) | with_reducible refine wd_op ?_ | ((with_reducible show WD _ _ (tCB (rLenX _) (tCons (tVar _) tNil)) _ _); refine wd_len_scr rfl ?_) | ((with_reducible show WD _ _ (tCB (rLenX _) (tCons (tVar _) tNil)) _ _); refine wd_len_own rfl ?_) | with_reducible refine wd_cb ?_ | with_reducible refine wd_un ?_ | with_reducible refine wa_cons ?_ | with_reducible refine wa_nil ?_ | ((with_reducible show WD _ _ (tVar _) _ _); refine wd_var rfl ?_) | with_reducible refine wd_int ?_ | with_reducible refine wd_bl ?_ | with_reducible refine wd_str ?_ | with_reducible refine wd_non ?_
  | with_reducible refine do_nesS ?_ | with_reducible refine dc_intB ?_ | with_reducible refine do_add ?_ | with_reducible refine do_sub ?_ | ((with_reducible refine do_mod ?_ ?_); decide) | with_reducible refine do_mod ?_ ?_ | with_reducible refine do_mul ?_ ?_ | ((with_reducible refine do_div ?_ ?_); exact ⟨by decide, by decide⟩) | with_reducible refine do_div ?_ ?_ | ((with_reducible refine do_pow ?_ ?_); exact ⟨by decide, by decide, by decide⟩) | with_reducible refine do_pow ?_ ?_
  | with_reducible refine do_lt ?_ | with_reducible refine do_le ?_ | with_reducible refine do_gt ?_ | with_reducible refine do_ge ?_ | with_reducible refine du_neg ?_
  | with_reducible refine do_eqi ?_ | with_reducible refine do_nei ?_ | with_reducible refine do_eqs ?_ | with_reducible refine do_nes ?_ | with_reducible refine dc_abs ?_ | with_reducible refine dc_min ?_ | with_reducible refine dc_max ?_ | with_reducible refine dc_lenL ?_ | with_reducible refine dc_lenT ?_ | with_reducible refine dc_lenR ?_ | with_reducible refine dc_listT ?_ | with_reducible refine dc_listL ?_ | with_reducible refine dc_tupL ?_ | with_reducible refine dc_gcd ?_
  | ((with_reducible show DO _ (rIxT _) _ _ _); refine do_ixT rfl ?_) | ((with_reducible show DO _ (rIxL _) _ _ _); refine do_ixL rfl ?_) | ((with_reducible refine do_catL ?_ ?_); exact Nat.le_of_ble_eq_true rfl) | with_reducible refine do_catL ?_ ?_ | ((with_reducible show And (List.length _ ≤ sizeLine) _); refine ⟨Nat.le_of_ble_eq_true rfl, ?_⟩)
  | with_reducible refine wd_dnew ?_ | with_reducible refine wd_call0 ?_ | with_reducible refine wd_slA ?_ | with_reducible refine wd_slL ?_ | with_reducible refine wd_revT ?_ | with_reducible refine do_catA ?_ ?_ | with_reducible refine wo_part ?_ | with_reducible refine wo_none ?_ | with_reducible refine do_eqQ ?_ | with_reducible refine do_neQ ?_ | with_reducible refine wi_enumT ?_ | with_reducible refine wi_enumD ?_ | with_reducible refine tAdQ (by omega) (by omega) ?_ | with_reducible refine tSbQ (by omega) (by omega) ?_ | with_reducible refine tMlQ (by omega) (by omega) ?_ | with_reducible refine tDvQ (by assumption) (by omega) (by omega) ?_ | with_reducible refine tLtQ (by omega) (by omega) ?_ | with_reducible refine dc_str ?_ ?_ | with_reducible refine wd_tup ?_ | with_reducible refine wd_lst ?_ | with_reducible refine wt_test ?_ | with_reducible refine wt_B ?_ | with_reducible refine wt_not ?_ | with_reducible refine wt_and ?_ | with_reducible refine wt_or ?_ | with_reducible refine wd_ifE ?_ | with_reducible refine wd_andV ?_ | with_reducible refine wd_orV ?_ | with_reducible refine wd_notV ?_
  | with_reducible refine ws_seq ?_ | with_reducible refine ws_next ?_ | with_reducible refine ws_asg ?_ | with_reducible refine ws_ret ?_ | with_reducible refine ws_retN ?_ | with_reducible refine ws_if ?_ | with_reducible refine ws_par ?_ | with_reducible refine ws_unp2 ?_
  | with_reducible refine if_t ?_ | with_reducible refine if_f ?_ | with_reducible refine if_nf ?_ | with_reducible refine if_nt ?_
  | ((with_reducible show Exists _); first | refine ⟨_, kitInt _, ?_⟩ | refine ⟨_, kitBool _, ?_⟩ | refine ⟨_, kitTup _, ?_⟩ | refine ⟨_, kitList _, ?_⟩ | refine ⟨_, rfl, ?_⟩ | refine ⟨_, _, rfl, ?_⟩ | fail) | fail))
def t_firsts (K : PySem.W.Frag) (aN : Addr) : TS :=
  (tSeq (tFor (iRng1 (tCons (tC (.int 5)) tNil)) (gName 2) (tSeq (tAsg (tCall (spS K FPot TAsked) [] E0 (tCons (tVar 0) (tCons (tVar 1) tNil))) (gTup K 2 (gCons (gName 3) (gCons (gName 4) gNil))))
    (tSeq (tAsg (tCallN 2 1 (spP K TFirst) gVapp E0 (tCons (tVar 1) (tCons (tVar 3) tNil)) (tCons (tVar 4) tNil)) (gName 5))
    (tSeq (tIfS (tNot (tB (tCall (spP K TFirstR) [] E0 (tCons (tVar 1) (tCons (tVar 3) (tCons (tVar 4) (tCons (tVar 5) tNil))))))) (tRet (tC (.bl false))) tNext)
    (tSeq (tIfS (tTest (tOp rNe (tCB (rReprZ K) (tCons (tCallN 2 1 (spP K TFirst) gVapp E0 (tCons (tVar 1) (tCons (tVar 3) tNil)) (tCons (tVar 4) tNil)) tNil)) (tCB (rReprZ K) (tCons (tVar 5) tNil)))) (tRet (tC (.bl false))) tNext)
    (tIfS (tTest (tOp rNe (tCB (rReprZ K) (tCons (tCall (spP K TFirst) [.ref aN] E0 (tCons (tVar 1) (tCons (tVar 3) tNil))) tNil)) (tCB (rReprZ K) (tCons (tCallN 2 1 (spP K TFirst) gVapp E0 (tCons (tVar 1) (tCons (tVar 3) tNil)) (tCons (tTup (tCons (tC (.int 0)) (tCons (tC (.int 1)) tNil))) tNil)) tNil)))) (tRet (tC (.bl false))) tNext))))))
    (tRet (tCall (spP K TRefA) [] E0 (tCons (tVar 1) (tCons (tTup (tCons (tC (.int 0)) (tCons (tC (.int 1)) tNil))) (tCons (tTup (tCons (tOp rSubI (tOp rSubI (tC (.int 0)) (tC (.int 1))) (tCall (spS K FPot TTake) [] E0 (tCons (tVar 0) (tCons (tC (.int 9)) tNil)))) (tCons (tC (.int 997)) tNil))) tNil))))))
section
variable {K : PySem.W.Frag} {S : Stt}
end
end DL

set_option Elab.async false
set_option linter.all false
set_option maxRecDepth 100000
set_option maxHeartbeats 4000000
/-! LS10: law k11 -/
namespace DL
open PySem PySem.Spec PyProof.Rows L2
local macro_rules | `(tactic| walk_at "dl") => `(tactic| repeat' (first
  | with_reducible refine wd_isTy ?_ | with_reducible refine wd_isi ?_ | ((with_reducible show WD _ _ (tOp (rIxL _) (tVar _) _) _ _); refine wd_ix_own rfl ?_) | with_reducible refine wd_op ?_ | ((with_reducible show WD _ _ (tCB (rLenX _) (tCons (tVar _) tNil)) _ _); refine wd_len_scr rfl ?_) | ((with_reducible show WD _ _ (tCB (rLenX _) (tCons (tVar _) tNil)) _ _); refine wd_len_own rfl ?_) | with_reducible refine wd_cb ?_ | with_reducible refine wd_un ?_ | with_reducible refine wa_cons ?_ | with_reducible refine wa_nil ?_ | ((with_reducible show WD _ _ (tVar _) _ _); refine wd_var rfl ?_) | with_reducible refine wd_int ?_ | with_reducible refine wd_bl ?_ | with_reducible refine wd_str ?_ | with_reducible refine wd_non ?_
  | with_reducible refine do_nesS ?_ | with_reducible refine dc_intB ?_ | with_reducible refine do_add ?_ | with_reducible refine do_sub ?_ | ((with_reducible refine do_mod ?_ ?_); decide) | with_reducible refine do_mod ?_ ?_ | with_reducible refine do_mul ?_ ?_ | ((with_reducible refine do_div ?_ ?_); exact ⟨by decide, by decide⟩) | with_reducible refine do_div ?_ ?_ | ((with_reducible refine do_pow ?_ ?_); exact ⟨by decide, by decide, by decide⟩) | with_reducible refine do_pow ?_ ?_
  | with_reducible refine do_lt ?_ | with_reducible refine do_le ?_ | with_reducible refine do_gt ?_ | with_reducible refine do_ge ?_ | with_reducible refine du_neg ?_
  | with_reducible refine do_eqi ?_ | with_reducible refine do_nei ?_ | with_reducible refine do_eqs ?_ | with_reducible refine do_nes ?_ | with_reducible refine dc_abs ?_ | with_reducible refine dc_min ?_ | with_reducible refine dc_max ?_ | with_reducible refine dc_lenL ?_ | with_reducible refine dc_lenT ?_ | with_reducible refine dc_lenR ?_ | with_reducible refine dc_listT ?_ | with_reducible refine dc_listL ?_ | with_reducible refine dc_tupL ?_ | with_reducible refine dc_gcd ?_
  | ((with_reducible show DO _ (rIxT _) _ _ _); refine do_ixT rfl ?_) | ((with_reducible show DO _ (rIxL _) _ _ _); refine do_ixL rfl ?_) | ((with_reducible refine do_catL ?_ ?_); exact Nat.le_of_ble_eq_true rfl) | with_reducible refine do_catL ?_ ?_ | ((with_reducible show And (List.length _ ≤ sizeLine) _); refine ⟨Nat.le_of_ble_eq_true rfl, ?_⟩)
  | with_reducible refine wd_dnew ?_ | with_reducible refine wd_call0 ?_ | with_reducible refine wd_slA ?_ | with_reducible refine wd_slL ?_ | with_reducible refine wd_revT ?_ | with_reducible refine do_catA ?_ ?_ | with_reducible refine wo_part ?_ | with_reducible refine wo_none ?_ | with_reducible refine do_eqQ ?_ | with_reducible refine do_neQ ?_ | with_reducible refine wi_enumT ?_ | with_reducible refine wi_enumD ?_ | with_reducible refine tAdQ (by omega) (by omega) ?_ | with_reducible refine tSbQ (by omega) (by omega) ?_ | with_reducible refine tMlQ (by omega) (by omega) ?_ | with_reducible refine tDvQ (by assumption) (by omega) (by omega) ?_ | with_reducible refine tLtQ (by omega) (by omega) ?_ | with_reducible refine dc_str ?_ ?_ | with_reducible refine wd_tup ?_ | with_reducible refine wd_lst ?_ | with_reducible refine wt_test ?_ | with_reducible refine wt_B ?_ | with_reducible refine wt_not ?_ | with_reducible refine wt_and ?_ | with_reducible refine wt_or ?_ | with_reducible refine wd_ifE ?_ | with_reducible refine wd_andV ?_ | with_reducible refine wd_orV ?_ | with_reducible refine wd_notV ?_
  | with_reducible refine ws_seq ?_ | with_reducible refine ws_next ?_ | with_reducible refine ws_asg ?_ | with_reducible refine ws_ret ?_ | with_reducible refine ws_retN ?_ | with_reducible refine ws_if ?_ | with_reducible refine ws_par ?_ | with_reducible refine ws_unp2 ?_
  | with_reducible refine if_t ?_ | with_reducible refine if_f ?_ | with_reducible refine if_nf ?_ | with_reducible refine if_nt ?_
  | ((with_reducible show Exists _); first | refine ⟨_, kitInt _, ?_⟩ | refine ⟨_, kitBool _, ?_⟩ | refine ⟨_, kitTup _, ?_⟩ | refine ⟨_, kitList _, ?_⟩ | refine ⟨_, rfl, ?_⟩ | refine ⟨_, _, rfl, ?_⟩ | fail) | fail))
def t_b11 (K : PySem.W.Frag) : TS :=
  (tSeq (tAsg (tOp (rNeD K) (tLc (iRng1 (tCons (tCB (rLenX K) (tCons (tOp (rIxT K) (tVar 5) (tC (.int 0))) tNil)) tNil)) (gName 12) (tTest (tOp rLt (tOp (rIxT K) (tCall (spP K TSlope) [] E0 (tCons (tVar 5) (tCons (tVar 12) tNil))) (tC (.int 0))) (tC (.int 0)))) (tC (.int 1)) [12]) (tLst tNil)) (gName 7))
    (tSeq (tAsg (tTup (tCons (tOp (rIxT K) (tVar 5) (tC (.int 0))) (tCons (tTup (tCons (tOp rAddI (tCB rAbsX (tCons (tOp (rIxT K) (tOp (rIxT K) (tVar 5) (tC (.int 1))) (tC (.int 0))) tNil)) (tOp rPowI (tC (.int 10)) (tC (.int 5)))) (tCons (tC (.int 1)) tNil))) tNil))) (gName 8))
    (tSeq (tAsg (tOp (rNeD K) (tLc (iRng1 (tCons (tOp rSubI (tCB (rLenX K) (tCons (tOp (rIxT K) (tVar 5) (tC (.int 0))) tNil)) (tC (.int 1))) tNil)) (gName 12) (tTest (tOp rLt (tOp (rIxT K) (tCall (spP K TSlope) [] E0 (tCons (tVar 5) (tCons (tVar 12) tNil))) (tC (.int 0))) (tC (.int 0)))) (tC (.int 1)) [12]) (tLst tNil)) (gName 9))
    (tSeq (tIfS (tTest (tOp rNe (tCB (rReprZ K) (tCons (tLst (tCons (tCall (spP K TNever) [] E0 (tCons (tVar 5) tNil)) (tCons (tCall (spP K TNever) [] E0 (tCons (tVar 8) tNil)) tNil))) tNil)) (tCB (rReprZ K) (tCons (tLst (tCons (tNotV (tVar 7)) (tCons (tNotV (tVar 9)) tNil))) tNil)))) (tRet (tC (.bl false))) tNext)
    (tFor (iRng1 (tCons (tC (.int 2)) tNil)) (gName 10) (tSeq (tAsg (tLst (tCons (tCall (spP K TUnlike) [] E0 (tCons (tVar 5) (tCons (tVar 6) tNil))) (tCons (tCall (spP K TUnlike) [] E0 (tCons (tVar 6) (tCons (tVar 5) tNil))) (tCons (tCall (spP K TUnlike) [] E0 (tCons (tVar 5) (tCons (tVar 5) tNil))) tNil)))) (gName 11))
    (tIfS (tTest (tOp rNe (tCB (rReprZ K) (tCons (tLst (tCons (tCall (spP K TUnlike) [] E0 (tCons (tVar 5) (tCons (tVar 6) tNil))) (tCons (tCall (spP K TUnlike) [] E0 (tCons (tVar 6) (tCons (tVar 5) tNil))) (tCons (tCall (spP K TUnlike) [] E0 (tCons (tVar 5) (tCons (tVar 5) tNil))) tNil)))) tNil)) (tCB (rReprZ K) (tCons (tVar 11) tNil)))) (tRet (tC (.bl false))) tNext)))))))
def t_law11 (K : PySem.W.Frag) : TS :=
  (tSeq (tFor (iEnum K (tCons (tOp rCatL (tLst (tCons (tC (.int 0)) tNil)) (tCall (spF K) [] E0 (tCons (tVar 0) (tCons (tC (.int 20)) tNil)))) tNil)) (gTup K 2 (gCons (gName 1) (gCons (gName 2) gNil))) (tSeq (tAsg (tCall (spN K TPot) [] E0 (tCons (tVar 2) (tCons (tVar 1) tNil))) (gName 3))
    (tSeq (tAsg (tOp (rIxL K) (tLst (tCons (tC (.int 10)) (tCons (tC (.int 60)) tNil))) (tCB rInt1 (tCons (tOp rEq (tVar 1) (tC (.int 1))) tNil))) (gName 4))
    (tSeq (tAsg (tCall (spS K FPot TLine) [] E0 (tCons (tVar 3) (tCons (tVar 4) tNil))) (gName 5))
    (tSeq (tAsg (tOp (rIxL K) (tLst (tCons (tVar 5) (tCons (tCall (spS K FPot TLine) [] E0 (tCons (tVar 3) (tCons (tVar 4) tNil))) (tCons (tCall (spS K FPot TBentL) [] E0 (tCons (tVar 3) (tCons (tVar 5) tNil))) tNil)))) (tCall (spS K FPot TTake) [] E0 (tCons (tVar 3) (tCons (tC (.int 3)) tNil)))) (gName 6))
    (tSeq (tIfS (tNot (tB (tCall (spS K FPot TFirsts) [] E0 (tCons (tVar 3) (tCons (tVar 5) tNil))))) (tRet (tC (.bl false))) tNext)
    (tSeq (tAsg (tOp (rNeD K) (tLc (iRng1 (tCons (tCB (rLenX K) (tCons (tOp (rIxT K) (tVar 5) (tC (.int 0))) tNil)) tNil)) (gName 12) (tTest (tOp rLt (tOp (rIxT K) (tCall (spP K TSlope) [] E0 (tCons (tVar 5) (tCons (tVar 12) tNil))) (tC (.int 0))) (tC (.int 0)))) (tC (.int 1)) [12]) (tLst tNil)) (gName 7))
    (tSeq (tAsg (tTup (tCons (tOp (rIxT K) (tVar 5) (tC (.int 0))) (tCons (tTup (tCons (tOp rAddI (tCB rAbsX (tCons (tOp (rIxT K) (tOp (rIxT K) (tVar 5) (tC (.int 1))) (tC (.int 0))) tNil)) (tOp rPowI (tC (.int 10)) (tC (.int 5)))) (tCons (tC (.int 1)) tNil))) tNil))) (gName 8))
    (tSeq (tAsg (tOp (rNeD K) (tLc (iRng1 (tCons (tOp rSubI (tCB (rLenX K) (tCons (tOp (rIxT K) (tVar 5) (tC (.int 0))) tNil)) (tC (.int 1))) tNil)) (gName 12) (tTest (tOp rLt (tOp (rIxT K) (tCall (spP K TSlope) [] E0 (tCons (tVar 5) (tCons (tVar 12) tNil))) (tC (.int 0))) (tC (.int 0)))) (tC (.int 1)) [12]) (tLst tNil)) (gName 9))
    (tSeq (tIfS (tTest (tOp rNe (tCB (rReprZ K) (tCons (tLst (tCons (tCall (spP K TNever) [] E0 (tCons (tVar 5) tNil)) (tCons (tCall (spP K TNever) [] E0 (tCons (tVar 8) tNil)) tNil))) tNil)) (tCB (rReprZ K) (tCons (tLst (tCons (tNotV (tVar 7)) (tCons (tNotV (tVar 9)) tNil))) tNil)))) (tRet (tC (.bl false))) tNext)
    (tFor (iRng1 (tCons (tC (.int 2)) tNil)) (gName 10) (tSeq (tAsg (tLst (tCons (tCall (spP K TUnlike) [] E0 (tCons (tVar 5) (tCons (tVar 6) tNil))) (tCons (tCall (spP K TUnlike) [] E0 (tCons (tVar 6) (tCons (tVar 5) tNil))) (tCons (tCall (spP K TUnlike) [] E0 (tCons (tVar 5) (tCons (tVar 5) tNil))) tNil)))) (gName 11))
    (tIfS (tTest (tOp rNe (tCB (rReprZ K) (tCons (tLst (tCons (tCall (spP K TUnlike) [] E0 (tCons (tVar 5) (tCons (tVar 6) tNil))) (tCons (tCall (spP K TUnlike) [] E0 (tCons (tVar 6) (tCons (tVar 5) tNil))) (tCons (tCall (spP K TUnlike) [] E0 (tCons (tVar 5) (tCons (tVar 5) tNil))) tNil)))) tNil)) (tCB (rReprZ K) (tCons (tVar 11) tNil)))) (tRet (tC (.bl false))) tNext)))))))))))))
    (tRet (tC (.bl true))))
/-- of so many ones -/
def onesD (n : Nat) : PyData := .list (List.replicate n (.int 1))
noncomputable def nFall (ks : Kn) (s : Rat) (k : Nat) : Nat := ((List.range k).filter fun i => decide (slp ks s i < 0)).length
section
variable {K : PySem.W.Frag} {S : Stt}
end
end DL

set_option Elab.async false
set_option linter.all false
set_option maxRecDepth 100000
set_option maxHeartbeats 4000000
/-! LS11: a promise weakened -/
namespace DL
open PySem PySem.Spec PyProof.Rows L2
end DL

set_option Elab.async false
set_option linter.all false
set_option maxRecDepth 100000
set_option maxHeartbeats 4000000
/-! BQ5: law k08 -/
namespace DL
open PySem PySem.Spec PyProof.Rows L2
def TSumR : List PyData → (PyData → Prop) → Prop := fun ds Φ => ∃ (ks ls : Kn) (s t : Rat) (V : Nat), ds = [lnD ks s, lnD ls t] ∧ Vl 134 V 180 ks s ∧ Vl 134 V 180 ls t ∧ 134 ≤ V ∧ V ≤ 240 ∧ Φ (.bool true)
def TTimesR : List PyData → (PyData → Prop) → Prop := fun ds Φ => ∃ (ks : Kn) (s c : Rat), ds = [lnD ks s, qp c] ∧ Vl 134 240 180 ks s ∧ sz c ≤ 18 ∧ Φ (.bool true)
local macro_rules | `(tactic| walk_at "dl") => `(tactic| repeat' (first
  | with_reducible refine wd_isTy ?_ | with_reducible refine wd_isi ?_ | ((with_reducible show WD _ _ (tOp (rIxL _) (tVar _) _) _ _); refine wd_ix_own rfl ?_) | with_reducible refine wd_op ?_ | ((with_reducible show WD _ _ (tCB (rLenX _) (tCons (tVar _) tNil)) _ _); refine wd_len_scr rfl ?_) | ((with_reducible show WD _ _ (tCB (rLenX _) (tCons (tVar _) tNil)) _ _); refine wd_len_own rfl ?_) | with_reducible refine wd_cb ?_ | with_reducible refine wd_un ?_ | with_reducible refine wa_cons ?_ | with_reducible refine wa_nil ?_ | ((with_reducible show WD _ _ (tVar _) _ _); refine wd_var rfl ?_) | with_reducible refine wd_int ?_ | with_reducible refine wd_bl ?_ | with_reducible refine wd_str ?_ | with_reducible refine wd_non ?_
  | with_reducible refine do_nesS ?_ | with_reducible refine dc_intB ?_ | with_reducible refine do_add ?_ | with_reducible refine do_sub ?_ | ((with_reducible refine do_mod ?_ ?_); decide) | with_reducible refine do_mod ?_ ?_ | with_reducible refine do_mul ?_ ?_ | ((with_reducible refine do_div ?_ ?_); exact ⟨by decide, by decide⟩) | with_reducible refine do_div ?_ ?_ | ((with_reducible refine do_pow ?_ ?_); exact ⟨by decide, by decide, by decide⟩) | with_reducible refine do_pow ?_ ?_
  | with_reducible refine do_lt ?_ | with_reducible refine do_le ?_ | with_reducible refine do_gt ?_ | with_reducible refine do_ge ?_ | with_reducible refine du_neg ?_
  | with_reducible refine do_eqi ?_ | with_reducible refine do_nei ?_ | with_reducible refine do_eqs ?_ | with_reducible refine do_nes ?_ | with_reducible refine dc_abs ?_ | with_reducible refine dc_min ?_ | with_reducible refine dc_max ?_ | with_reducible refine dc_lenL ?_ | with_reducible refine dc_lenT ?_ | with_reducible refine dc_lenR ?_ | with_reducible refine dc_listT ?_ | with_reducible refine dc_listL ?_ | with_reducible refine dc_tupL ?_ | with_reducible refine dc_gcd ?_
  | ((with_reducible show DO _ (rIxT _) _ _ _); refine do_ixT rfl ?_) | ((with_reducible show DO _ (rIxL _) _ _ _); refine do_ixL rfl ?_) | ((with_reducible refine do_catL ?_ ?_); exact Nat.le_of_ble_eq_true rfl) | with_reducible refine do_catL ?_ ?_ | ((with_reducible show And (List.length _ ≤ sizeLine) _); refine ⟨Nat.le_of_ble_eq_true rfl, ?_⟩)
  | with_reducible refine wd_dnew ?_ | with_reducible refine wd_call0 ?_ | with_reducible refine wd_slA ?_ | with_reducible refine wd_slL ?_ | with_reducible refine wd_revT ?_ | with_reducible refine do_catA ?_ ?_ | with_reducible refine wo_part ?_ | with_reducible refine wo_none ?_ | with_reducible refine do_eqQ ?_ | with_reducible refine do_neQ ?_ | with_reducible refine wi_enumT ?_ | with_reducible refine wi_enumD ?_ | with_reducible refine tAdQ (by omega) (by omega) ?_ | with_reducible refine tSbQ (by omega) (by omega) ?_ | with_reducible refine tMlQ (by omega) (by omega) ?_ | with_reducible refine tDvQ (by assumption) (by omega) (by omega) ?_ | with_reducible refine tLtQ (by omega) (by omega) ?_ | with_reducible refine dc_str ?_ ?_ | with_reducible refine wd_tup ?_ | with_reducible refine wd_lst ?_ | with_reducible refine wt_test ?_ | with_reducible refine wt_B ?_ | with_reducible refine wt_not ?_ | with_reducible refine wt_and ?_ | with_reducible refine wt_or ?_ | with_reducible refine wd_ifE ?_ | with_reducible refine wd_andV ?_ | with_reducible refine wd_orV ?_ | with_reducible refine wd_notV ?_
  | with_reducible refine ws_seq ?_ | with_reducible refine ws_next ?_ | with_reducible refine ws_asg ?_ | with_reducible refine ws_ret ?_ | with_reducible refine ws_retN ?_ | with_reducible refine ws_if ?_ | with_reducible refine ws_par ?_ | with_reducible refine ws_unp2 ?_
  | with_reducible refine if_t ?_ | with_reducible refine if_f ?_ | with_reducible refine if_nf ?_ | with_reducible refine if_nt ?_
  | ((with_reducible show Exists _); first | refine ⟨_, kitInt _, ?_⟩ | refine ⟨_, kitBool _, ?_⟩ | refine ⟨_, kitTup _, ?_⟩ | refine ⟨_, kitList _, ?_⟩ | refine ⟨_, rfl, ?_⟩ | refine ⟨_, _, rfl, ?_⟩ | fail) | fail))
def t_sumr (K : PySem.W.Frag) : TS :=
  (tSeq (tAsg (tCall (spP K TSumL) [] E0 (tCons (tVar 0) (tCons (tVar 1) tNil))) (gName 2))
    (tSeq (tIfS (tOr (tNot (tB (tCall (spP K TIsLine) [] E0 (tCons (tVar 2) tNil)))) (tTest (tOp rNe (tCB (rReprZ K) (tCons (tCall (spP K TSumL) [] E0 (tCons (tVar 0) (tCons (tVar 1) tNil))) tNil)) (tCB (rReprZ K) (tCons (tVar 2) tNil))))) (tRet (tC (.bl false))) tNext)
    (tSeq (tFor (iList K (tCall (spP K TXsN) [] E0 (tCons (tLst (tCons (tVar 0) (tCons (tVar 1) (tCons (tVar 2) tNil)))) tNil))) (gName 3) (tIfS (tTest (tOp (rNeD K) (tCall (spP K TYat) [] E0 (tCons (tVar 2) (tCons (tVar 3) tNil))) (tCall (spP K TAdQ) [] E0 (tCons (tCall (spP K TYat) [] E0 (tCons (tVar 0) (tCons (tVar 3) tNil))) (tCons (tCall (spP K TYat) [] E0 (tCons (tVar 1) (tCons (tVar 3) tNil))) tNil))))) (tRet (tC (.bl false))) tNext))
    (tRet (tOp (rEqD K) (tOp (rIxT K) (tVar 2) (tC (.int 1))) (tCall (spP K TAdQ) [] E0 (tCons (tOp (rIxT K) (tVar 0) (tC (.int 1))) (tCons (tOp (rIxT K) (tVar 1) (tC (.int 1))) tNil))))))))
def t_timesr (K : PySem.W.Frag) : TS :=
  (tSeq (tAsg (tCall (spP K TTimesL) [] E0 (tCons (tVar 0) (tCons (tVar 1) tNil))) (gName 2))
    (tSeq (tIfS (tOr (tNot (tB (tCall (spP K TIsLine) [] E0 (tCons (tVar 2) tNil)))) (tTest (tOp rNe (tCB (rReprZ K) (tCons (tCall (spP K TTimesL) [] E0 (tCons (tVar 0) (tCons (tVar 1) tNil))) tNil)) (tCB (rReprZ K) (tCons (tVar 2) tNil))))) (tRet (tC (.bl false))) tNext)
    (tSeq (tFor (iList K (tCall (spP K TXsN) [] E0 (tCons (tLst (tCons (tVar 0) (tCons (tVar 2) tNil))) tNil))) (gName 3) (tIfS (tTest (tOp (rNeD K) (tCall (spP K TYat) [] E0 (tCons (tVar 2) (tCons (tVar 3) tNil))) (tCall (spP K TMlQ) [] E0 (tCons (tCall (spP K TYat) [] E0 (tCons (tVar 0) (tCons (tVar 3) tNil))) (tCons (tVar 1) tNil))))) (tRet (tC (.bl false))) tNext))
    (tRet (tOp (rEqD K) (tOp (rIxT K) (tVar 2) (tC (.int 1))) (tCall (spP K TMlQ) [] E0 (tCons (tOp (rIxT K) (tVar 0) (tC (.int 1))) (tCons (tVar 1) tNil))))))))
def t_b08 (K : PySem.W.Frag) : TS :=
  (tSeq (tFor (iList K (tLst (tCons (tTup (tCons (tVar 6) (tCons (tVar 7) tNil))) (tCons (tTup (tCons (tVar 7) (tCons (tVar 6) tNil))) (tCons (tTup (tCons (tVar 6) (tCons (tVar 6) tNil))) (tCons (tTup (tCons (tVar 6) (tCons (tVar 8) tNil))) (tCons (tTup (tCons (tCall (spP K TSumL) [] E0 (tCons (tVar 6) (tCons (tVar 7) tNil))) (tCons (tVar 8) tNil))) tNil))))))) (gTup K 2 (gCons (gName 9) (gCons (gName 10) gNil))) (tIfS (tNot (tB (tCall (spP K TSumR) [] E0 (tCons (tVar 9) (tCons (tVar 10) tNil))))) (tRet (tC (.bl false))) tNext))
    (tIfS (tOr (tNot (tB (tCall (spP K TTimesR) [] E0 (tCons (tVar 6) (tCons (tVar 4) tNil))))) (tNot (tB (tCall (spP K TTimesR) [] E0 (tCons (tCall (spP K TSumL) [] E0 (tCons (tVar 6) (tCons (tVar 7) tNil))) (tCons (tVar 4) tNil)))))) (tRet (tC (.bl false))) tNext))
def t_law08 (K : PySem.W.Frag) : TS :=
  (tSeq (tFor (iEnum K (tCons (tOp rCatL (tLst (tCons (tC (.int 0)) tNil)) (tCall (spF K) [] E0 (tCons (tVar 0) (tCons (tC (.int 16)) tNil)))) tNil)) (gTup K 2 (gCons (gName 1) (gCons (gName 2) gNil))) (tSeq (tAsg (tCall (spN K TPot) [] E0 (tCons (tVar 2) (tCons (tVar 1) tNil))) (gName 3))
    (tSeq (tAsg (tOp (rIxL K) (tLst (tCons (tTup (tCons (tC (.int 0)) (tCons (tC (.int 1)) tNil))) (tCons (tTup (tCons (tUn rNegI (tC (.int 1))) (tCons (tC (.int 1)) tNil))) (tCons (tCall (spP K TLow) [] E0 (tCons (tOp rSubI (tCall (spS K FPot TTake) [] E0 (tCons (tVar 3) (tCons (tC (.int 201)) tNil))) (tC (.int 100))) (tCons (tOp rAddI (tC (.int 1)) (tCall (spS K FPot TTake) [] E0 (tCons (tVar 3) (tCons (tC (.int 1000)) tNil)))) tNil))) tNil)))) (tCall (spS K FPot TTake) [] E0 (tCons (tVar 3) (tCons (tC (.int 3)) tNil)))) (gName 4))
    (tSeq (tAsg (tOp (rIxL K) (tLst (tCons (tC (.int 8)) (tCons (tC (.int 60)) tNil))) (tCB rInt1 (tCons (tOp rEq (tVar 1) (tC (.int 1))) tNil))) (gName 5))
    (tSeq (tAsg (tCall (spS K FPot TLineS) [] E0 (tCons (tVar 3) (tCons (tVar 5) tNil))) (gName 6))
    (tSeq (tAsg (tCall (spS K FPot TLineS) [] E0 (tCons (tVar 3) (tCons (tVar 5) tNil))) (gName 7))
    (tSeq (tAsg (tCall (spP K TTimesL) [] E0 (tCons (tVar 6) (tCons (tTup (tCons (tUn rNegI (tC (.int 1))) (tCons (tC (.int 1)) tNil))) tNil))) (gName 8))
    (tSeq (tFor (iList K (tLst (tCons (tTup (tCons (tVar 6) (tCons (tVar 7) tNil))) (tCons (tTup (tCons (tVar 7) (tCons (tVar 6) tNil))) (tCons (tTup (tCons (tVar 6) (tCons (tVar 6) tNil))) (tCons (tTup (tCons (tVar 6) (tCons (tVar 8) tNil))) (tCons (tTup (tCons (tCall (spP K TSumL) [] E0 (tCons (tVar 6) (tCons (tVar 7) tNil))) (tCons (tVar 8) tNil))) tNil))))))) (gTup K 2 (gCons (gName 9) (gCons (gName 10) gNil))) (tIfS (tNot (tB (tCall (spP K TSumR) [] E0 (tCons (tVar 9) (tCons (tVar 10) tNil))))) (tRet (tC (.bl false))) tNext))
    (tIfS (tOr (tNot (tB (tCall (spP K TTimesR) [] E0 (tCons (tVar 6) (tCons (tVar 4) tNil))))) (tNot (tB (tCall (spP K TTimesR) [] E0 (tCons (tCall (spP K TSumL) [] E0 (tCons (tVar 6) (tCons (tVar 7) tNil))) (tCons (tVar 4) tNil)))))) (tRet (tC (.bl false))) tNext)))))))))
    (tRet (tC (.bl true))))
section
variable {K : PySem.W.Frag} {S : Stt} {ρ : Rho} {Φ : PyData → Rho → Prop}
end
section
variable {K : PySem.W.Frag} {ds : List PyData} {Φ : PyData → Prop}
end
section
variable {K : PySem.W.Frag} {S : Stt}
end
end DL

set_option Elab.async false
set_option linter.all false
set_option maxRecDepth 100000
set_option maxHeartbeats 1000000
/-! LM15: where bands take alike; bands in normal form -/
namespace DL
/-- the line of the difference of what two bands take -/
structure DfP (as bs : Kn) (ks : Kn) (s : Rat) : Prop where
  l : Ln 400 ks s
  n : Nrm ks s
  y : ∀ x, 0 ≤ x → yAt ks s x = tax as x - tax bs x
  x : ∀ i, i < ks.length → (kn ks i).1 ∈ xsK as ∨ (kn ks i).1 ∈ xsK bs
def alkO (ks : Kn) (s : Rat) : Option Rat := if ks.length = 1 then (if s = 0 then none else some 0) else if (kn ks 1).2 = 0 then some (kn ks 1).1 else some 0
/-- no begin within -/
def NoIn (as bs : Kn) (r b : Rat) : Prop := ∀ x, (x ∈ xsK as ∨ x ∈ xsK bs) → r < x → b ≤ x
def AlkP (as bs : Kn) : Option Rat → Prop
  | none => ∀ x, 0 ≤ x → tax as x = tax bs x
  | some r => 0 ≤ r ∧ (r ∈ xsK as ∨ r ∈ xsK bs) ∧ (∀ x, 0 ≤ x → x ≤ r → tax as x = tax bs x) ∧ ∀ b, r < b → NoIn as bs r b → tax as b ≠ tax bs b
/-! normal form -/
def nB (bs : Kn) (i : Nat) : Bool := decide (i = 0) || !decide ((kn bs (i - 1)).2 = (kn bs i).2)
def nmB (bs : Kn) (k : Nat) : Kn := ((List.range k).filter (nB bs)).map (kn bs)
end DL

set_option Elab.async false
set_option linter.all false
set_option maxRecDepth 100000
set_option maxHeartbeats 1000000
/-! LM16: bands drawn, parted, mixed -/
namespace DL
structure Dr (P : Nat) (bs : Kn) : Prop where
  pos : 0 < bs.length
  len : bs.length ≤ 40
  fst : (kn bs 0).1 = 0
  b : ∀ p ∈ bs, Dv 8 9640 p.1
  r : ∀ p ∈ bs, Dv P P p.2 ∧ 0 ≤ p.2 ∧ p.2 ≤ 1
end DL

set_option Elab.async false
set_option linter.all false
set_option maxRecDepth 100000
set_option maxHeartbeats 4000000
/-! BQ6: where bands take alike; bands parted; lines of bands judged -/
namespace DL
open PySem PySem.Spec PyProof.Rows L2
def TAlike : List PyData → (PyData → Prop) → Prop := fun ds Φ => ∃ (as bs : Kn), ds = [knD as, knD bs] ∧ Bd 44 as ∧ Bd 44 bs ∧ ∀ ks s, DfP as bs ks s → Φ (oqD (alkO ks s))
def TNormal : List PyData → (PyData → Prop) → Prop := fun ds Φ => ∃ (bs : Kn), ds = [knD bs] ∧ bs.length ≤ 100 ∧ Φ (knD (nmB bs bs.length))
def TLineR : List PyData → (PyData → Prop) → Prop := fun ds Φ => ∃ (bs : Kn), ds = [knD bs] ∧ Bd 44 bs ∧ Φ (.bool true)
def TAlikeR : List PyData → (PyData → Prop) → Prop := fun ds Φ => ∃ (as bs : Kn), ds = [knD as, knD bs] ∧ Bd 44 as ∧ Bd 44 bs ∧ Φ (.bool true)
def TParted : Nat → List PyData → (PyData → Nat → Prop) → Prop := fun B ds Φ => ∃ (bs : Kn) (P : Nat), ds = [knD bs] ∧ Dr P bs ∧ 1 ≤ P ∧ P ≤ 994009 ∧ Rising bs ∧ (∀ p ∈ bs, Dv 4 4800 p.1) ∧ bs.length ≤ 39 ∧ B ≤ 2 ^ 39 ∧ ∀ cs B', B' ≤ B + 1 → Dr P cs → Rising cs → Φ (knD cs) B'
local macro_rules | `(tactic| walk_at "dl") => `(tactic| repeat' (first
  | with_reducible refine wd_isTy ?_ | with_reducible refine wd_isi ?_ | ((with_reducible show WD _ _ (tOp (rIxL _) (tVar _) _) _ _); refine wd_ix_own rfl ?_) | with_reducible refine wd_op ?_ | ((with_reducible show WD _ _ (tCB (rLenX _) (tCons (tVar _) tNil)) _ _); refine wd_len_scr rfl ?_) | ((with_reducible show WD _ _ (tCB (rLenX _) (tCons (tVar _) tNil)) _ _); refine wd_len_own rfl ?_) | with_reducible refine wd_cb ?_ | with_reducible refine wd_un ?_ | with_reducible refine wa_cons ?_ | with_reducible refine wa_nil ?_ | ((with_reducible show WD _ _ (tVar _) _ _); refine wd_var rfl ?_) | with_reducible refine wd_int ?_ | with_reducible refine wd_bl ?_ | with_reducible refine wd_str ?_ | with_reducible refine wd_non ?_
  | with_reducible refine do_nesS ?_ | with_reducible refine dc_intB ?_ | with_reducible refine do_add ?_ | with_reducible refine do_sub ?_ | ((with_reducible refine do_mod ?_ ?_); decide) | with_reducible refine do_mod ?_ ?_ | with_reducible refine do_mul ?_ ?_ | ((with_reducible refine do_div ?_ ?_); exact ⟨by decide, by decide⟩) | with_reducible refine do_div ?_ ?_ | ((with_reducible refine do_pow ?_ ?_); exact ⟨by decide, by decide, by decide⟩) | with_reducible refine do_pow ?_ ?_
  | with_reducible refine do_lt ?_ | with_reducible refine do_le ?_ | with_reducible refine do_gt ?_ | with_reducible refine do_ge ?_ | with_reducible refine du_neg ?_
  | with_reducible refine do_eqi ?_ | with_reducible refine do_nei ?_ | with_reducible refine do_eqs ?_ | with_reducible refine do_nes ?_ | with_reducible refine dc_abs ?_ | with_reducible refine dc_min ?_ | with_reducible refine dc_max ?_ | with_reducible refine dc_lenL ?_ | with_reducible refine dc_lenT ?_ | with_reducible refine dc_lenR ?_ | with_reducible refine dc_listT ?_ | with_reducible refine dc_listL ?_ | with_reducible refine dc_tupL ?_ | with_reducible refine dc_gcd ?_
  | ((with_reducible show DO _ (rIxT _) _ _ _); refine do_ixT rfl ?_) | ((with_reducible show DO _ (rIxL _) _ _ _); refine do_ixL rfl ?_) | ((with_reducible refine do_catL ?_ ?_); exact Nat.le_of_ble_eq_true rfl) | with_reducible refine do_catL ?_ ?_ | ((with_reducible show And (List.length _ ≤ sizeLine) _); refine ⟨Nat.le_of_ble_eq_true rfl, ?_⟩)
  | with_reducible refine wd_dnew ?_ | with_reducible refine wd_call0 ?_ | with_reducible refine wd_slA ?_ | with_reducible refine wd_slL ?_ | with_reducible refine wd_revT ?_ | with_reducible refine do_catA ?_ ?_ | with_reducible refine wo_part ?_ | with_reducible refine wo_none ?_ | with_reducible refine do_eqQ ?_ | with_reducible refine do_neQ ?_ | with_reducible refine wi_enumT ?_ | with_reducible refine wi_enumD ?_ | with_reducible refine tAdQ (by omega) (by omega) ?_ | with_reducible refine tSbQ (by omega) (by omega) ?_ | with_reducible refine tMlQ (by omega) (by omega) ?_ | with_reducible refine tDvQ (by assumption) (by omega) (by omega) ?_ | with_reducible refine tLtQ (by omega) (by omega) ?_ | with_reducible refine dc_str ?_ ?_ | with_reducible refine wd_tup ?_ | with_reducible refine wd_lst ?_ | with_reducible refine wt_test ?_ | with_reducible refine wt_B ?_ | with_reducible refine wt_not ?_ | with_reducible refine wt_and ?_ | with_reducible refine wt_or ?_ | with_reducible refine wd_ifE ?_ | with_reducible refine wd_andV ?_ | with_reducible refine wd_orV ?_ | with_reducible refine wd_notV ?_
  | with_reducible refine ws_seq ?_ | with_reducible refine ws_next ?_ | with_reducible refine ws_asg ?_ | with_reducible refine ws_ret ?_ | with_reducible refine ws_retN ?_ | with_reducible refine ws_if ?_ | with_reducible refine ws_par ?_ | with_reducible refine ws_unp2 ?_
  | with_reducible refine if_t ?_ | with_reducible refine if_f ?_ | with_reducible refine if_nf ?_ | with_reducible refine if_nt ?_
  | ((with_reducible show Exists _); first | refine ⟨_, kitInt _, ?_⟩ | refine ⟨_, kitBool _, ?_⟩ | refine ⟨_, kitTup _, ?_⟩ | refine ⟨_, kitList _, ?_⟩ | refine ⟨_, rfl, ?_⟩ | refine ⟨_, _, rfl, ?_⟩ | fail) | fail))
def t_alike (K : PySem.W.Frag) (a_NOUGHT : Addr) : TS :=
  (tSeq (tAsg (tCall (spP K TSumL) [] E0 (tCons (tCall (spP K TTakenL) [] E0 (tCons (tVar 0) tNil)) (tCons (tCall (spP K TTimesL) [] E0 (tCons (tCall (spP K TTakenL) [] E0 (tCons (tVar 1) tNil)) (tCons (tTup (tCons (tUn rNegI (tC (.int 1))) (tCons (tC (.int 1)) tNil))) tNil))) tNil))) (gTup K 2 (gCons (gName 2) (gCons (gName 3) gNil))))
    (tSeq (tIfS (tTest (tOp rEq (tCB (rLenX K) (tCons (tVar 2) tNil)) (tC (.int 1)))) (tRet (tIf (tTest (tOp (rEqD K) (tVar 3) (tC (.ref a_NOUGHT)))) (tC .non) (tC (.ref a_NOUGHT)))) tNext)
    (tSeq (tAsg (tOp (rIxT K) (tVar 2) (tC (.int 1))) (gTup K 2 (gCons (gName 4) (gCons (gName 5) gNil))))
    (tRet (tIf (tTest (tOp (rEqD K) (tVar 5) (tC (.ref a_NOUGHT)))) (tVar 4) (tC (.ref a_NOUGHT)))))))
def t_normal (K : PySem.W.Frag) : TS :=
  (tRet (tCB (rTupOf K) (tCons (tLc (iEnumT K (tCons (tVar 0) tNil)) (gTup K 2 (gCons (gName 1) (gCons (gName 2) gNil))) (tOr (tTest (tOp rEq (tVar 1) (tC (.int 0)))) (tTest (tOp (rNeD K) (tOp (rIxT K) (tOp (rIxT K) (tVar 0) (tOp rSubI (tVar 1) (tC (.int 1)))) (tC (.int 1))) (tOp (rIxT K) (tVar 2) (tC (.int 1)))))) (tVar 2) [1, 2]) tNil)))
def t_liner (K : PySem.W.Frag) : TS :=
  (tSeq (tAsg (tCall (spP K TTakenL) [] E0 (tCons (tVar 0) tNil)) (gName 1))
    (tSeq (tIfS (tOr (tNot (tB (tCall (spP K TIsLine) [] E0 (tCons (tVar 1) tNil)))) (tOr (tTest (tOp rNe (tCB (rReprZ K) (tCons (tCall (spP K TTakenL) [] E0 (tCons (tVar 0) tNil)) tNil)) (tCB (rReprZ K) (tCons (tVar 1) tNil)))) (tTest (tOp (rNeD K) (tOp (rIxT K) (tVar 1) (tC (.int 1))) (tOp (rIxT K) (tOp (rIxT K) (tVar 0) (tUn rNegI (tC (.int 1)))) (tC (.int 1))))))) (tRet (tC (.bl false))) tNext)
    (tSeq (tFor (iList K (tCall (spP K TSorted) [] E0 (tCons (tOp rCatL (tCall (spP K TXsN) [] E0 (tCons (tLst (tCons (tVar 1) tNil)) tNil)) (tLc (iTup K (tVar 0)) (gTup K 2 (gCons (gName 3) (gCons (gName 4) gNil))) tYes (tVar 3) [3, 4])) tNil))) (gName 2) (tIfS (tTest (tOp (rNeD K) (tCall (spP K TYat) [] E0 (tCons (tVar 1) (tCons (tVar 2) tNil))) (tCall (spP K TTax) [] E0 (tCons (tVar 0) (tCons (tVar 2) tNil))))) (tRet (tC (.bl false))) tNext))
    (tRet (tC (.bl true))))))
def t_aliker (K : PySem.W.Frag) : TS :=
  (tSeq (tAsg (tCall (spP K TAlike) [] E0 (tCons (tVar 0) (tCons (tVar 1) tNil))) (gName 2))
    (tSeq (tIfS (tTest (tOp rNe (tCB (rReprZ K) (tCons (tCall (spP K TAlike) [] E0 (tCons (tVar 0) (tCons (tVar 1) tNil))) tNil)) (tCB (rReprZ K) (tCons (tVar 2) tNil)))) (tRet (tC (.bl false))) tNext)
    (tSeq (tAsg (tCall (spP K TSorted) [] E0 (tCons (tLc (iTup K (tOp (rCatA K) (tVar 0) (tVar 1))) (gTup K 2 (gCons (gName 6) (gCons (gName 7) gNil))) tYes (tVar 6) [6, 7]) tNil)) (gName 3))
    (tSeq (tIfS (tTest (tOp rIsNone (tVar 2) (tC .non))) (tRet (tOp (rEqD K) (tCall (spP K TNormal) [] E0 (tCons (tVar 0) tNil)) (tCall (spP K TNormal) [] E0 (tCons (tVar 1) tNil)))) tNext)
    (tSeq (tIfS (tTest (tOp (rNotInD K) (tVar 2) (tVar 3))) (tRet (tC (.bl false))) tNext)
    (tSeq (tFor (iList K (tSl (rSlL K) (tVar 3) tNoPart (tPart (tOp rAddI (tBM K "list" (rIndexD K) (tVar 3) (tCons (tVar 2) tNil)) (tC (.int 1)))))) (gName 4) (tIfS (tTest (tOp (rNeD K) (tCall (spP K TTax) [] E0 (tCons (tVar 0) (tCons (tVar 4) tNil))) (tCall (spP K TTax) [] E0 (tCons (tVar 1) (tCons (tVar 4) tNil))))) (tRet (tC (.bl false))) tNext))
    (tSeq (tAsg (tOp rCatL (tSl (rSlL K) (tVar 3) (tPart (tOp rAddI (tBM K "list" (rIndexD K) (tVar 3) (tCons (tVar 2) tNil)) (tC (.int 1)))) tNoPart) (tLst (tCons (tCall (spP K TAdQ) [] E0 (tCons (tOp (rIxL K) (tVar 3) (tUn rNegI (tC (.int 1)))) (tCons (tTup (tCons (tC (.int 1)) (tCons (tC (.int 1)) tNil))) tNil))) tNil))) (gName 5))
    (tRet (tOp (rNeD K) (tCall (spP K TTax) [] E0 (tCons (tVar 0) (tCons (tOp (rIxL K) (tVar 5) (tC (.int 0))) tNil))) (tCall (spP K TTax) [] E0 (tCons (tVar 1) (tCons (tOp (rIxL K) (tVar 5) (tC (.int 0))) tNil))))))))))))
def t_parted (K : PySem.W.Frag) : TS :=
  (tSeq (tAsg (tCall (spS K FPot TTake) [] E0 (tCons (tVar 0) (tCons (tCB (rLenX K) (tCons (tVar 1) tNil)) tNil))) (gName 2))
    (tSeq (tAsg (tCall (spP K TAdQ) [] E0 (tCons (tOp (rIxT K) (tOp (rIxT K) (tVar 1) (tVar 2)) (tC (.int 0))) (tCons (tTup (tCons (tC (.int 1)) (tCons (tC (.int 8)) tNil))) tNil))) (gName 3))
    (tSeq (tIfS (tAnd (tTest (tOp rLt (tOp rAddI (tVar 2) (tC (.int 1))) (tCB (rLenX K) (tCons (tVar 1) tNil)))) (tNot (tB (tCall (spP K TLtQ) [] E0 (tCons (tVar 3) (tCons (tOp (rIxT K) (tOp (rIxT K) (tVar 1) (tOp rAddI (tVar 2) (tC (.int 1)))) (tC (.int 0))) tNil)))))) (tRet (tVar 1)) tNext)
    (tRet (tOp (rCatA K) (tOp (rCatA K) (tSl (rSlA K) (tVar 1) tNoPart (tPart (tOp rAddI (tVar 2) (tC (.int 1))))) (tTup (tCons (tTup (tCons (tVar 3) (tCons (tOp (rIxT K) (tOp (rIxT K) (tVar 1) (tVar 2)) (tC (.int 1))) tNil))) tNil))) (tSl (rSlA K) (tVar 1) (tPart (tOp rAddI (tVar 2) (tC (.int 1)))) tNoPart))))))
section
variable {K : PySem.W.Frag} {ds : List PyData} {Φ : PyData → Prop}
end
section
variable {K : PySem.W.Frag} {S : Stt}
def TBandsE : Nat → List PyData → (PyData → Nat → Prop) → Prop := fun B ds Φ => ∃ m : Nat, ds = [.int m] ∧ 3 ≤ m ∧ m ≤ 30 ∧ B ≤ 2 ^ 39 ∧ ∀ bs B' p, B' ≤ B + 300 → Dr p bs → Rising bs → 1 ≤ p → p ≤ 997 → (∀ q ∈ bs, Dv 4 4800 q.1) → bs.length ≤ m → Φ (knD bs) B'
end
end DL

set_option Elab.async false
set_option linter.all false
set_option maxRecDepth 100000
set_option maxHeartbeats 4000000
/-! PK9: a row of numbers out of a list of such rows -/
namespace DL
open PySem PySem.Spec PyProof.Rows L2
/-- l.remove(x): the first that is alike goes -/
def rRemD (K : PySem.W.Frag) : V → List V → Hp → VK → Prop := fun x xs H Q => ∃ (a : Addr) (ys : List V) (y : V) (d : PyData) (ds : List PyData) (j : Nat) (z : PyData), x = V.ref a ∧ xs = [y] ∧ H a = some (.lst ys) ∧ DpAll K H ys ds ∧ Dp K H y d ∧
  SeqAt.shaped (.list ds) = true ∧ SeqAt.shaped d = true ∧ ds[j]? = some z ∧ PyData.eqv z d = true ∧ (∀ (m : Nat) (z' : PyData), m < j → ds[m]? = some z' → PyData.eqv z' d = false) ∧ Q .non (upd H a (.lst (ys.eraseIdx j)))
theorem mt_remD {X : Cx} (hu : X.A.units + 65 < cLine) : MtM X "list.remove" (rRemD X.K) := by
  intro pins s σ H x xs v us Q I rx rxs h
  obtain ⟨a, ys, y, d, ds, j, z, rfl, rfl, hH, hl, hy, sl, sd, hz, hzj, hno, q⟩ := h
  cases rx
  obtain ⟨uy, rfl, ry⟩ := rxs.one
  obtain ⟨bs, r1⟩ := Dp.reads I d y uy hy ry
  have hxs : PyData.canLayAll0 ds = true := SeqAt.canLay_of_shaped sl
  have hroom : X.A.units + 1 + min (PyData.depthAll ds) d.depth < cLine := room_in_shaped sd hu
  obtain ⟨z0, its, n, rv, hlen, ho⟩ := I.lstM hH
  obtain ⟨as, h4⟩ := Dp.readsAll I ds _ its hl rv
  have hn : its.length = ds.length := SeqAt.ReadsAll.length ds its as h4
  have hmap : its.map (SeqAt.readOf s.heap) = ds := SeqAt.readsAll_map ds its as hxs h4
  obtain ⟨hjd, _⟩ := List.getElem?_eq_some_iff.mp hz
  have hjl : j < its.length := by omega
  have hj : j < its.toArray.size := by simpa using hjl
  have at_ : ∀ (m : Nat) (hm : m < its.toArray.size) (z' : PyData), ds[m]? = some z' → SeqAt.readOf s.heap its.toArray[m] = z' := by
    intro m hm z' hz'
    have hml : m < its.length := by simpa using hm
    rw [← hmap, List.getElem?_map, List.getElem?_eq_getElem hml] at hz'
    have e1 : SeqAt.readOf s.heap its[m] = z' := Option.some.inj (show some (SeqAt.readOf s.heap its[m]) = some z' from hz')
    simpa using e1
  refine call_meets PySem.F.slot_list_remove ⟨_, ho, rfl⟩ PySem.F.entry_list_remove (PySem.F.args_list_remove_2 _ _)
    (SeqAt.list_removeAt a its.toArray n _ _ uy (fun u => PyData.eqv (SeqAt.readOf s.heap u) d) j hj ?_ ?_ (by rw [List.size_toArray, ← hlen]; exact z0)) ⟨ho, SeqAt.items_eqAt (vs := its.toArray) (show ReadsAll s.heap its.toArray.toList ds as from h4) r1 hxs (SeqAt.canLay_of_shaped sd) hroom, ?_⟩
  · show PyData.eqv (SeqAt.readOf s.heap its.toArray[j]) d = true
    rw [at_ j hj z hz]
    exact hzj
  · intro m hm hmj
    have hmd : m < ds.length := by omega
    have hz' : ds[m]? = some ds[m] := List.getElem?_eq_getElem hmd
    show PyData.eqv (SeqAt.readOf s.heap its.toArray[m]) d = false
    rw [at_ m hm _ hz']
    exact hno m _ hmj hz'
  · refine ⟨.non, _, I.lset (its' := its.eraseIdx j) hH ho ?_ (rv.eraseIdx j) ?_, rfl, q⟩
    · show its.toArray.eraseIdxIfInBounds j = (its.eraseIdx j).toArray
      rw [List.eraseIdxIfInBounds_toArray]
    · have := len_erase ys j
      omega
section
variable {K : PySem.W.Frag} {S : Stt} {ρ : Rho} {Φ : PyData → Rho → Prop}
/-- x.remove(e), x a list of one's own -/
theorem ws_rem {te : TE} {i : Nat} {es : List PyData} {En : DE} (h0 : ρ[i]? = some (.own es))
    (h : WD K S te ρ fun d ρ1 => ∃ (ds : List PyData) (j : Nat) (z : PyData), ρ1[i]? = some (.own ds) ∧ SeqAt.shaped (.list ds) = true ∧ SeqAt.shaped d = true ∧ ds[j]? = some z ∧ PyData.eqv z d = true ∧ (∀ (m : Nat) (z' : PyData), m < j → ds[m]? = some z' → PyData.eqv z' d = false) ∧ En.nx (ρ1.set i (.own (ds.eraseIdx j)))) : WS K S (tDrop (tBM K "list" (rRemD K) (tVar i) (tCons te tNil))) ρ En := fun H0 N0 Z N σ H D E M => by
  obtain ⟨p, xs, g1, g2, g3, g4, g5, g6, g7⟩ := E.slot i _ h0
  refine ⟨.ref p, g1, .inl ⟨rfl, _, .inl (.inl g6)⟩, h H0 N0 Z N σ H E _ fun v d ρ1 H1 ⟨ds, j, z, f1, f2, f3, f4, f5, f6, f7⟩ E1 k1 d1 => ?_⟩
  obtain ⟨p', xs', e1, e2, e3, e4, e5, e6, e7⟩ := E1.slot i _ f1
  rw [g1] at e1; cases e1
  exact ⟨p, xs', v, d, ds, j, z, rfl, rfl, e6, e7.dp (shaped_nd f2), d1.dp (shaped_nd f3), f2, f3, f4, f5, f6, M.nx N _ _ _ f7 (E1.chg (xs := xs') f1 g1 (dtall_erase j e7))⟩
end
end DL

set_option Elab.async false
set_option linter.all false
set_option maxRecDepth 100000
set_option maxHeartbeats 4000000
/-! PKA: groups of places joined -/
namespace DL
open PySem PySem.Spec PyProof.Rows L2
def tI (ns : List Int) : PyData := .tuple (ns.map PyData.int)
/-- groups of places below n, n in all at most, one group at least -/
structure Gr (n : Nat) (gs : List (List Int)) : Prop where
  ne : 1 ≤ gs.length
  sum : (gs.map List.length).sum ≤ n
  ent : ∀ g ∈ gs, ∀ x ∈ g, 0 ≤ x ∧ x < n
theorem sum_eraseIdx : ∀ (l : List Nat) (j : Nat) (h : j < l.length), (l.eraseIdx j).sum + l[j] = l.sum
  | [], j, h => absurd h (Nat.not_lt_zero _)
  | a :: l, 0, h => by simp [Nat.add_comm]
  | a :: l, j + 1, h => by
    have := sum_eraseIdx l j (by simpa using h)
    simp only [List.eraseIdx_cons_succ, List.sum_cons, List.getElem_cons_succ]
    omega
theorem map_erase {α β : Type} (f : α → β) : ∀ (l : List α) (j : Nat), (l.eraseIdx j).map f = (l.map f).eraseIdx j
  | [], _ => rfl
  | _ :: _, 0 => rfl
  | a :: l, j + 1 => by
    show f a :: (l.eraseIdx j).map f = f a :: (l.map f).eraseIdx j
    rw [map_erase f l j]
theorem gsum_erase {gs : List (List Int)} {j : Nat} (h : j < gs.length) : ((gs.eraseIdx j).map List.length).sum + gs[j].length = (gs.map List.length).sum := by
  rw [map_erase]
  have := sum_eraseIdx (gs.map List.length) j (by simpa using h)
  simpa using this
theorem Gr.len {n : Nat} {gs : List (List Int)} (h : Gr n gs) {g : List Int} (hg : g ∈ gs) : g.length ≤ n := by
  obtain ⟨j, hj, rfl⟩ := List.mem_iff_getElem.mp hg
  have := gsum_erase hj
  have := h.sum
  omega
theorem mem_erase_of {α : Type} {l : List α} {j : Nat} {x : α} (h : x ∈ l.eraseIdx j) : x ∈ l := (List.eraseIdx_sublist l j).subset h
/-- two groups joined into one -/
theorem Gr.join {n : Nat} {gs : List (List Int)} (h : Gr n gs) {j m : Nat} (hj : j < gs.length) (hm : m < (gs.eraseIdx j).length) {s : List Int} (hs : s.Perm (gs[j] ++ (gs.eraseIdx j)[m])) :
    Gr n (((gs.eraseIdx j).eraseIdx m) ++ [s]) := by
  have e1 := gsum_erase hj
  have e2 := gsum_erase hm
  have e3 := hs.length_eq
  have e4 := h.sum
  rw [List.length_append] at e3
  refine ⟨by rw [List.length_append]; exact Nat.le_add_left _ _, ?_, fun g hg x hx => ?_⟩
  · rw [List.map_append, List.sum_append]
    simp only [List.map_cons, List.map_nil, List.sum_cons, List.sum_nil]
    omega
  · rcases List.mem_append.mp hg with hg | hg
    · exact h.ent g (mem_erase_of (mem_erase_of hg)) x hx
    · rw [List.mem_singleton] at hg
      subst hg
      rcases List.mem_append.mp (hs.mem_iff.mp hx) with q | q
      · exact h.ent _ (List.getElem_mem hj) x q
      · exact h.ent _ (mem_erase_of (List.getElem_mem hm)) x q
/-- the groups at the start -/
theorem Gr.one {n : Nat} (hn : 1 ≤ n) : Gr n ((List.range n).map fun k : Nat => [(k : Int)]) := by
  refine ⟨by simpa using hn, ?_, fun g hg x hx => ?_⟩
  · rw [List.map_map]
    have : ∀ k : Nat, (((List.range k).map ((List.length) ∘ fun k : Nat => [(k : Int)])).sum) = k := by
      intro k
      induction k with
      | zero => rfl
      | succ k ih => rw [List.range_succ, List.map_append, List.sum_append, ih]; rfl
    rw [this]
    exact Nat.le_refl n
  · obtain ⟨k, hk, rfl⟩ := List.mem_map.mp hg
    rw [List.mem_singleton] at hx
    subst hx
    have := List.mem_range.mp hk
    omega
theorem first_of (gs : List (List Int)) (g : List Int) (h : g ∈ gs) : ∃ (j : Nat) (hj : j < gs.length), gs[j] = g ∧ ∀ m (hm : m < gs.length), m < j → gs[m] ≠ g := by
  induction gs with
  | nil => cases h
  | cons a gs ih =>
    by_cases e : a = g
    · exact ⟨0, by simp, e, fun m _ hm => absurd hm (Nat.not_lt_zero _)⟩
    · have h2 : g ∈ gs := by
        rcases List.mem_cons.mp h with q | q
        · exact absurd q.symm e
        · exact q
      obtain ⟨j, hj, e1, e2⟩ := ih h2
      refine ⟨j + 1, by simpa using hj, by simpa using e1, fun m hm hmj => ?_⟩
      cases m with
      | zero => simpa using e
      | succ m => simpa using e2 m (by simpa using hm) (by omega)
theorem eqv_tI (as bs : List Int) : PyData.eqv (tI as) (tI bs) = decide (as = bs) := by
  show PyData.eqv (.tuple _) (.tuple _) = _
  simp only [PyData.eqv]
  induction as generalizing bs with
  | nil => cases bs <;> simp [PyData.eqvAll]
  | cons a as ih =>
    cases bs with
    | nil => simp [PyData.eqvAll]
    | cons b bs =>
      simp only [List.map_cons, PyData.eqvAll, PyData.eqv]
      rw [ih]
      by_cases h : a = b
      · subst h; simp
      · simp [h]
theorem sh_tI (ns : List Int) : SeqAt.shaped (tI ns) = true := (Sh.tup (n := 0) fun z hz => by
  obtain ⟨y, _, rfl⟩ := List.mem_map.mp hz
  exact Sh.int).ok (by decide)
theorem sh_tIs (gs : List (List Int)) : SeqAt.shaped (.list (gs.map tI)) = true := (Sh.lst (n := 1) fun x hx => by
  obtain ⟨ns, _, rfl⟩ := List.mem_map.mp hx
  exact Sh.tup (n := 0) fun z hz => by
    obtain ⟨y, _, rfl⟩ := List.mem_map.mp hz
    exact Sh.int).ok (by decide)
end DL

set_option Elab.async false
set_option linter.all false
set_option maxRecDepth 100000
set_option maxHeartbeats 4000000
/-! PKB: a folding drawn -/
namespace DL
open PySem PySem.Spec PyProof.Rows L2
def TFoldL : Nat → List PyData → (PyData → Nat → Prop) → Prop := fun B ds Φ => ∃ (n : Nat) (m : Int), ds = [.int n, .int m] ∧ 1 ≤ n ∧ n ≤ 40 ∧ 0 ≤ m ∧ m ≤ 40 ∧ B + 1000 ≤ 2 ^ 40 ∧ ∀ (fs : List (List Int)) (B' : Nat), fs.length ≤ 40 → (∀ f ∈ fs, f.length ≤ n) → (∀ f ∈ fs, ∀ x ∈ f, 0 ≤ x ∧ x < n) → B' ≤ B + 1000 → Φ (.tuple (fs.map tI)) B'
local macro_rules | `(tactic| walk_at "dl") => `(tactic| repeat' (first
  | with_reducible refine wd_isTy ?_ | with_reducible refine wd_isi ?_ | ((with_reducible show WD _ _ (tOp (rIxL _) (tVar _) _) _ _); refine wd_ix_own rfl ?_) | with_reducible refine wd_op ?_ | ((with_reducible show WD _ _ (tCB (rLenX _) (tCons (tVar _) tNil)) _ _); refine wd_len_scr rfl ?_) | ((with_reducible show WD _ _ (tCB (rLenX _) (tCons (tVar _) tNil)) _ _); refine wd_len_own rfl ?_) | with_reducible refine wd_cb ?_ | with_reducible refine wd_un ?_ | with_reducible refine wa_cons ?_ | with_reducible refine wa_nil ?_ | ((with_reducible show WD _ _ (tVar _) _ _); refine wd_var rfl ?_) | with_reducible refine wd_int ?_ | with_reducible refine wd_bl ?_ | with_reducible refine wd_str ?_ | with_reducible refine wd_non ?_
  | with_reducible refine do_nesS ?_ | with_reducible refine dc_intB ?_ | with_reducible refine do_add ?_ | with_reducible refine do_sub ?_ | ((with_reducible refine do_mod ?_ ?_); decide) | with_reducible refine do_mod ?_ ?_ | with_reducible refine do_mul ?_ ?_ | ((with_reducible refine do_div ?_ ?_); exact ⟨by decide, by decide⟩) | with_reducible refine do_div ?_ ?_ | ((with_reducible refine do_pow ?_ ?_); exact ⟨by decide, by decide, by decide⟩) | with_reducible refine do_pow ?_ ?_
  | with_reducible refine do_lt ?_ | with_reducible refine do_le ?_ | with_reducible refine do_gt ?_ | with_reducible refine do_ge ?_ | with_reducible refine du_neg ?_
  | with_reducible refine do_eqi ?_ | with_reducible refine do_nei ?_ | with_reducible refine do_eqs ?_ | with_reducible refine do_nes ?_ | with_reducible refine dc_abs ?_ | with_reducible refine dc_min ?_ | with_reducible refine dc_max ?_ | with_reducible refine dc_lenL ?_ | with_reducible refine dc_lenT ?_ | with_reducible refine dc_lenR ?_ | with_reducible refine dc_listT ?_ | with_reducible refine dc_listL ?_ | with_reducible refine dc_tupL ?_ | with_reducible refine dc_gcd ?_
  | ((with_reducible show DO _ (rIxT _) _ _ _); refine do_ixT rfl ?_) | ((with_reducible show DO _ (rIxL _) _ _ _); refine do_ixL rfl ?_) | ((with_reducible refine do_catL ?_ ?_); exact Nat.le_of_ble_eq_true rfl) | with_reducible refine do_catL ?_ ?_ | ((with_reducible show And (List.length _ ≤ sizeLine) _); refine ⟨Nat.le_of_ble_eq_true rfl, ?_⟩)
  | with_reducible refine wd_dnew ?_ | with_reducible refine wd_call0 ?_ | with_reducible refine wd_slA ?_ | with_reducible refine wd_slL ?_ | with_reducible refine wd_revT ?_ | with_reducible refine do_catA ?_ ?_ | with_reducible refine wo_part ?_ | with_reducible refine wo_none ?_ | with_reducible refine do_eqQ ?_ | with_reducible refine do_neQ ?_ | with_reducible refine wi_enumT ?_ | with_reducible refine wi_enumD ?_ | with_reducible refine tAdQ (by omega) (by omega) ?_ | with_reducible refine tSbQ (by omega) (by omega) ?_ | with_reducible refine tMlQ (by omega) (by omega) ?_ | with_reducible refine tDvQ (by assumption) (by omega) (by omega) ?_ | with_reducible refine tLtQ (by omega) (by omega) ?_ | with_reducible refine dc_str ?_ ?_ | with_reducible refine wd_tup ?_ | with_reducible refine wd_lst ?_ | with_reducible refine wt_test ?_ | with_reducible refine wt_B ?_ | with_reducible refine wt_not ?_ | with_reducible refine wt_and ?_ | with_reducible refine wt_or ?_ | with_reducible refine wd_ifE ?_ | with_reducible refine wd_andV ?_ | with_reducible refine wd_orV ?_ | with_reducible refine wd_notV ?_
  | with_reducible refine ws_seq ?_ | with_reducible refine ws_next ?_ | with_reducible refine ws_asg ?_ | with_reducible refine ws_ret ?_ | with_reducible refine ws_retN ?_ | with_reducible refine ws_if ?_ | with_reducible refine ws_par ?_ | with_reducible refine ws_unp2 ?_
  | with_reducible refine if_t ?_ | with_reducible refine if_f ?_ | with_reducible refine if_nf ?_ | with_reducible refine if_nt ?_
  | ((with_reducible show Exists _); first | refine ⟨_, kitInt _, ?_⟩ | refine ⟨_, kitBool _, ?_⟩ | refine ⟨_, kitTup _, ?_⟩ | refine ⟨_, kitList _, ?_⟩ | refine ⟨_, rfl, ?_⟩ | refine ⟨_, _, rfl, ?_⟩ | fail) | fail))
theorem atI_p0 {ds : List PyData} {z : Int} {e : PyData} (h0 : 0 ≤ z) (h : ds[z.toNat]? = some e) : atI ds z = some e := by
  unfold atI ixN
  have hl := (List.getElem?_eq_some_iff.mp h).1
  split
  · first | simpa using h | (split <;> first | simpa using h | omega)
  · omega
def t_fold (K : PySem.W.Frag) : TS :=
  (tSeq (tAsg (tLc (iRng1 (tCons (tVar 1) tNil)) (gName 9) tYes (tTup (tCons (tVar 9) tNil)) [9]) (gName 3))
    (tSeq (tAsg (tLst tNil) (gName 4))
    (tSeq (tFor (iRng1 (tCons (tCall (spS K FDk TNext) [] E0 (tCons (tVar 0) (tCons (tOp rAddI (tVar 2) (tC (.int 1))) tNil))) tNil)) (gName 5) (tSeq (tAsg (tCall (spS K FDk TNext) [] E0 (tCons (tVar 0) (tCons (tC (.int 5)) tNil))) (gName 6))
    (tSeq (tAsg (tOp (rIxL K) (tVar 3) (tCall (spS K FDk TNext) [] E0 (tCons (tVar 0) (tCons (tCB (rLenX K) (tCons (tVar 3) tNil)) tNil)))) (gName 7))
    (tSeq (tIfS (tAnd (tTest (tOp rGt (tVar 6) (tC (.int 0)))) (tTest (tOp rGt (tCB (rLenX K) (tCons (tVar 3) tNil)) (tC (.int 1))))) (tSeq (tDrop (tBM K "list" (rRemD K) (tVar 3) (tCons (tVar 7) tNil)))
    (tSeq (tAsg (tBM K "list" rPopAt (tVar 3) (tCons (tCall (spS K FDk TNext) [] E0 (tCons (tVar 0) (tCons (tCB (rLenX K) (tCons (tVar 3) tNil)) tNil))) tNil)) (gName 8))
    (tSeq (tAsg (tCB (rTupOf K) (tCons (tCB (rSortR K) (tCons (tOp (rCatA K) (tVar 7) (tVar 8)) tNil)) tNil)) (gName 7))
    (tDrop (tBM K "list" rAppend (tVar 3) (tCons (tVar 7) tNil)))))) tNext)
    (tIfS (tTest (tOp rLt (tVar 6) (tC (.int 4)))) (tDrop (tBM K "list" rInsert (tVar 4) (tCons (tCall (spS K FDk TNext) [] E0 (tCons (tVar 0) (tCons (tOp rAddI (tCB (rLenX K) (tCons (tVar 4) tNil)) (tC (.int 1))) tNil))) (tCons (tVar 7) tNil)))) tNext)))))
    (tRet (tCB (rTupOf K) (tCons (tVar 4) tNil))))))
theorem ws_fold {K : PySem.W.Frag} {S : Stt} {B : Nat} {ds : List PyData} {Φ : PyData → Nat → Prop} (hF : FDk S) (h : TFoldL B ds Φ) : WS K S (t_fold K) (.sto B :: rhoOf 9 ds) { nx := fun _ => False, rt := fun d ρ => ∃ B', ρ[0]? = some (.sto B') ∧ Φ d B' } := by
  obtain ⟨n, m, rfl, n0, n1, m0, m1, hB, hΦ⟩ := h
  show WS K S (t_fold K) [.sto B, .dat (.int n), .dat (.int m), .unk, .unk, .unk, .unk, .unk, .unk, .unk] _
  unfold t_fold
  refine ws_seq (ws_lc (wi_rng1 (wa_cons (wd_var rfl (wa_nil ⟨n, rfl, by omega, by omega, ?_⟩)))))
  refine ⟨by rw [List.length_map, List.length_range, sizeLine_eq]; omega, fun k acc ρ => acc = ((List.range k).map fun k : Nat => tI [(k : Int)]) ∧ ρ = [.sto B, .dat (.int n), .dat (.int m), .unk, .unk, .unk, .unk, .unk, .unk, .unk], ⟨rfl, rfl⟩, ?_, ?_⟩
  · rintro k d acc ρ2 hd ⟨rfl, rfl⟩
    have ek : d = .int (k : Int) := by
      obtain ⟨h1, h2⟩ := List.getElem?_eq_some_iff.mp hd
      simp at h2
      exact h2.symm
    subst ek
    refine ⟨_, _, gd_name, by decide, ?_⟩
    refine wt_yes ?_
    rw [if_pos rfl]
    walk_at "dl"
    refine ⟨?_, rfl⟩
    rw [List.range_succ, List.map_append]
    rfl
  · rintro acc ρ2 ⟨rfl, rfl⟩
    dsimp only
    rw [show (List.map (fun k : Nat => tI [(k : Int)]) (List.range (List.map (fun k : Nat => PyData.int (0 + (k : Int))) (List.range (Int.toNat (n : Int)))).length)) = ((List.range n).map fun k : Nat => [(k : Int)]).map tI from by rw [List.length_map, List.length_range, List.map_map]; rfl]
    show WS K S _ [.sto B, .dat (.int n), .dat (.int m), .own (((List.range n).map fun k : Nat => [(k : Int)]).map tI), .unk, .unk, .unk, .unk, .unk, .unk] _
    refine ws_seq (ws_own (wa_nil ⟨Nat.zero_le _, ?_⟩))
    refine ws_seq (ws_for (wi_rng1 (wa_cons (wd_nx hF rfl ?_))))
    walk_at "dl"
    refine ⟨m + 1, B, rfl, rfl, by omega, by omega, by omega, fun w w0 w1 => wa_nil ⟨w, rfl, by omega, by omega, ?_⟩⟩
    refine ⟨fun k ρ => ∃ (gs fs : List (List Int)) (B1 : Nat) (s5 s6 s7 s8 : Sl), ρ = [.sto B1, .dat (.int n), .dat (.int m), .own (gs.map tI), .own (fs.map tI), s5, s6, s7, s8, .unk] ∧ Gr n gs ∧ gs.length ≤ n ∧ fs.length ≤ k ∧ (∀ f ∈ fs, f.length ≤ n ∧ ∀ x ∈ f, 0 ≤ x ∧ x < n) ∧ B1 ≤ B + 1 + 5 * k, ⟨(List.range n).map fun k : Nat => [(k : Int)], [], B + 1, _, _, _, _, rfl, Gr.one n0, by simp, Nat.le_refl _, by simp, by omega⟩, ?_, ?_⟩
    · rintro k d ρ2 hd ⟨gs, fs, B1, s5, s6, s7, s8, rfl, hG, hgl, hfl, hf, hB1⟩
      have hk2 : k < w.toNat := by
        have := (List.getElem?_eq_some_iff.mp hd).1
        simpa using this
      have hgn := hG.ne
      refine ⟨_, _, gd_name, ws_wipe [6, 7, 8] ?_⟩
      show WS K S _ [.sto B1, .dat (.int n), .dat (.int m), .own (gs.map tI), .own (fs.map tI), .dat d, .unk, .unk, .unk, .unk] _
      refine ws_seq (ws_asg (wd_nxc hF rfl (by decide) (by decide) (by omega) fun wy y0 y1 => ?_))
      refine ws_seq (ws_asg (wd_ix_own rfl (wd_nx hF rfl (wd_len_own rfl ⟨((gs.map tI).length : Nat), B1 + 1, rfl, rfl, by rw [List.length_map]; omega, by rw [List.length_map]; omega, by omega, fun i i0 i1 => ?_⟩))))
      rw [List.length_map] at i1
      have hi : i.toNat < gs.length := by omega
      refine ⟨gs.map tI, i, tI gs[i.toNat], rfl, rfl, ?_, ?_⟩
      · refine atI_p0 i0 ?_; rw [List.getElem?_map, List.getElem?_eq_getElem hi]; rfl
      have hgi : gs[i.toNat] ∈ gs := List.getElem_mem hi
      generalize gs[i.toNat] = g at hgi
      dsimp only
      show WS K S _ [.sto (B1 + 1 + 1), .dat (.int n), .dat (.int m), .own (gs.map tI), .own (fs.map tI), .dat d, .dat (.int wy), .dat (tI g), .unk, .unk] _
      have fin : ∀ {En : DE} (gs1 : List (List Int)) (g1 : List Int) (B2 : Nat) (s8' : Option PyData), Gr n gs1 → gs1.length ≤ n → g1 ∈ gs1 → B2 ≤ B1 + 4 →
          (∀ (fs1 : List (List Int)) (B3 : Nat), fs1.length ≤ k + 1 → (∀ f ∈ fs1, f.length ≤ n ∧ ∀ x ∈ f, 0 ≤ x ∧ x < n) → B3 ≤ B1 + 5 → En.nx [.sto B3, .dat (.int n), .dat (.int m), .own (gs1.map tI), .own (fs1.map tI), .dat d, .dat (.int wy), .dat (tI g1), (s8'.elim .unk .dat), .unk]) →
          WS K S (tIfS (tTest (tOp rLt (tVar 6) (tC (.int 4)))) (tDrop (tBM K "list" rInsert (tVar 4) (tCons (tCall (spS K FDk TNext) [] E0 (tCons (tVar 0) (tCons (tOp rAddI (tCB (rLenX K) (tCons (tVar 4) tNil)) (tC (.int 1))) tNil))) (tCons (tVar 7) tNil)))) tNext) [.sto B2, .dat (.int n), .dat (.int m), .own (gs1.map tI), .own (fs.map tI), .dat d, .dat (.int wy), .dat (tI g1), (s8'.elim .unk .dat), .unk] En := by
        intro En gs1 g1 B2 s8' hG1 hl1 hg1 hB2 f
        cases s8' <;> dsimp only [Option.elim] at f ⊢
        all_goals
          refine ws_if (wt_test ?_)
          walk_at "dl"
          refine if_b (fun h4 => ?_) (fun h4 => ?_)
          · refine ws_insert rfl (wa_cons (wd_nx hF rfl (wd_op (wd_len_own rfl (wd_int (do_add ⟨((fs.map tI).length : Nat) + 1, B2, rfl, rfl, by omega, by rw [List.length_map]; omega, by omega, fun p p0 p1 => ?_⟩))))))
            refine wa_cons (wd_var rfl (wa_nil ⟨fs.map tI, p.toNat, tI g1, by rw [Int.toNat_of_nonneg p0], rfl, by rw [List.length_map, sizeLine_eq]; omega, by rw [List.length_map] at p1; omega, ?_⟩))
            have := f (fs.take p.toNat ++ [g1] ++ fs.drop p.toNat) (B2 + 1) ?_ ?_ (by omega)
            · rw [List.map_append, List.map_append, List.map_take, List.map_drop] at this
              exact this
            · rw [List.length_append, List.length_append, List.length_take, List.length_drop]
              simp only [List.length_cons, List.length_nil]
              omega
            · intro h hh
              rcases List.mem_append.mp hh with hh | hh
              · rcases List.mem_append.mp hh with hh | hh
                · exact hf h (List.mem_of_mem_take hh)
                · rw [List.mem_singleton] at hh
                  subst hh
                  exact ⟨hG1.len hg1, hG1.ent _ hg1⟩
              · exact hf h (List.mem_of_mem_drop hh)
          · refine ws_next (f fs B2 (by omega) hf (by omega))
      refine ws_seq (ws_if (wt_and (wt_test ?_)))
      walk_at "dl"
      refine if_b (fun hw => ?_) (fun hw => ?_)
      · refine wt_test ?_
        walk_at "dl"
        refine if_b (fun h1 => ?_) (fun h1 => ?_)
        · rw [List.length_map] at h1
          obtain ⟨j, hj, ej, hno⟩ := first_of gs g hgi
          refine ws_seq (ws_rem rfl (wd_var rfl ⟨gs.map tI, j, tI g, rfl, sh_tIs gs, sh_tI g, ?_, by rw [eqv_tI]; simp, fun m2 z' hm2 hz' => ?_, ?_⟩))
          · rw [List.getElem?_map, List.getElem?_eq_getElem hj, ej]; rfl
          · have hm3 : m2 < gs.length := by omega
            rw [List.getElem?_map, List.getElem?_eq_getElem hm3] at hz'
            rw [← Option.some.inj hz', eqv_tI, decide_eq_false (hno m2 hm3 hm2)]
          dsimp only
          rw [← map_erase]
          have le := List.length_eraseIdx_of_lt hj
          show WS K S _ [.sto (B1 + 1 + 1), .dat (.int n), .dat (.int m), .own ((gs.eraseIdx j).map tI), .own (fs.map tI), .dat d, .dat (.int wy), .dat (tI g), .unk, .unk] _
          refine ws_seq (ws_asg (wd_pop_own rfl (wd_nx hF rfl (wd_len_own rfl ⟨(((gs.eraseIdx j).map tI).length : Nat), B1 + 1 + 1, rfl, rfl, by rw [List.length_map]; omega, by rw [List.length_map]; omega, by omega, fun q q0 q1 => ?_⟩))))
          rw [List.length_map] at q1
          have hq : q.toNat < (gs.eraseIdx j).length := by omega
          refine ⟨(gs.eraseIdx j).map tI, q.toNat, tI (gs.eraseIdx j)[q.toNat], by rw [Int.toNat_of_nonneg q0], rfl, by omega, ?_, ?_⟩
          · rw [List.getElem?_map, List.getElem?_eq_getElem hq]; rfl
          rw [← map_erase]
          dsimp only
          show WS K S _ [.sto (B1 + 1 + 1 + 1), .dat (.int n), .dat (.int m), .own (((gs.eraseIdx j).eraseIdx q.toNat).map tI), .own (fs.map tI), .dat d, .dat (.int wy), .dat (.tuple (g.map PyData.int)), .dat (.tuple ((gs.eraseIdx j)[q.toNat].map PyData.int)), .unk] _
          have lg := hG.len hgi
          have lo := hG.len (mem_erase_of (List.getElem_mem hq))
          refine ws_seq (ws_asg (wd_cb (wa_cons (wd_cb (wa_cons (wd_op (wd_var rfl (wd_var rfl (do_catA (by rw [List.length_map, List.length_map, sizeLine_eq]; omega) ?_)))))))))
          rw [← List.map_append]
          refine wa_nil (dc_sortT fun ms hp hs => ?_)
          refine wa_nil (dc_tupL ?_)
          dsimp only
          have em : ms.Perm (gs[j] ++ (gs.eraseIdx j)[q.toNat]) := by rw [ej]; exact hp
          have hG2 := hG.join hj hq em
          have le2 := List.length_eraseIdx_of_lt hq
          show WS K S _ [.sto (B1 + 1 + 1 + 1), .dat (.int n), .dat (.int m), .own (((gs.eraseIdx j).eraseIdx q.toNat).map tI), .own (fs.map tI), .dat d, .dat (.int wy), .dat (tI ms), .dat (tI (gs.eraseIdx j)[q.toNat]), .unk] _
          refine ws_append (i := 3) rfl (wd_var rfl ⟨((gs.eraseIdx j).eraseIdx q.toNat).map tI, rfl, by rw [List.length_map, sizeLine_eq]; omega, ?_⟩)
          rw [show ((gs.eraseIdx j).eraseIdx q.toNat).map tI ++ [tI ms] = (((gs.eraseIdx j).eraseIdx q.toNat) ++ [ms]).map tI from by rw [List.map_append]; rfl]
          refine fin (((gs.eraseIdx j).eraseIdx q.toNat) ++ [ms]) ms (B1 + 3) (some (tI (gs.eraseIdx j)[q.toNat])) hG2 (by rw [List.length_append]; simp only [List.length_cons, List.length_nil]; omega) (by simp) (by omega) ?_
          exact fun fs1 B3 a1 a2 a3 => ⟨_, fs1, B3, _, _, _, _, rfl, hG2, by rw [List.length_append]; simp only [List.length_cons, List.length_nil]; omega, a1, a2, by omega⟩
        · first | refine if_f (ws_next ?_) | refine ws_next ?_
          refine fin gs g (B1 + 2) none hG hgl hgi (by omega) ?_; exact fun fs1 B3 a1 a2 a3 => ⟨gs, fs1, B3, _, _, _, _, rfl, hG, hgl, a1, a2, by omega⟩
      · first | refine if_f (ws_next ?_) | refine ws_next ?_
        refine fin gs g (B1 + 2) none hG hgl hgi (by omega) ?_; exact fun fs1 B3 a1 a2 a3 => ⟨gs, fs1, B3, _, _, _, _, rfl, hG, hgl, a1, a2, by omega⟩
    · rintro ρ2 ⟨gs, fs, B1, s5, s6, s7, s8, rfl, hG, hgl, hfl, hf, hB1⟩
      rw [List.length_map, List.length_range] at hfl hB1
      refine ws_frz (i := 4) rfl ?_
      refine ws_ret (wd_cb (wa_cons (wd_var rfl (wa_nil (dc_tupL ⟨B1, rfl, hΦ fs B1 (by omega) (fun f q => (hf f q).1) (fun f q => (hf f q).2) (by omega)⟩)))))
end DL

set_option Elab.async false
set_option linter.all false
set_option maxRecDepth 100000
set_option maxHeartbeats 4000000
/-! PKC: a tuple so many times (the empty one too), every so manieth cell, a deck of one's own -/
namespace DL
open PySem PySem.Spec PyProof.Rows L2
/-! ### t * k -/
theorem tuple_mul0 (l : Addr) (n : Nat) (dd : Option Addr) (sl : Array (Option Value)) (x : Int) (u : Tok) (c0 : (decide (x < -(2 ^ 63)) || decide (x ≥ 2 ^ 63)) = false) :
    PySem.Meets (Builtin.«tuple.__mul__» ⟨[.ref l, .int x u], []⟩) (fun _ R s => s.heap.get? l = some { cls := .type "tuple", dict := dd, data := .seq #[] n, slots := sl } ∧ R (.ok (.ret (Value.ref l))) s) :=
  .of_wp fun prog w A R s h => by
    obtain ⟨hp, g, d, tk, os⟩ := s
    obtain ⟨hl, h⟩ := h
    have f1 := AutoSeq1.idx_int
    wp_walk using wpAny_loadPart' hl
    repeat (first
      | (refine wpAny_ite_false (decide_eq_false (by rw [c0]; exact Bool.false_ne_true)) ?_; wp_walk using wpAny_loadPart' hl)
      | (refine wpAny_ite_true (decide_eq_true rfl) ?_; wp_walk using wpAny_loadPart' hl))
    exact ⟨_, rfl, h⟩
def rRepTA (K : PySem.W.Frag) : R2 := fun x y H Q => ∃ l k xs, x = V.ref l ∧ y = V.int k ∧ SqT K H l xs ∧ 2 ≤ k ∧ k ≤ 1000 ∧ xs.length ≤ 1000 ∧ (xs = [] → Q x H) ∧ (xs ≠ [] → ∀ p, H p = none → Q (.ref p) (upd H p (.tup (List.replicate k.toNat xs).flatten)))
theorem op_repTA {X : Cx} : OpR X (binaryOp .Mult) (rRepTA X.K) := by
  intro pins s σ H x y v u Q I rx ry h
  obtain ⟨l, k, xs, rfl, rfl, hT, h1, h2, hz, q0, q1⟩ := h
  by_cases hne : xs = []
  · subst hne
    cases rx
    obtain ⟨t, rfl⟩ := ry
    obtain ⟨its, r, ⟨⟨cls, dd, data, sl⟩, ho, hc, n, hd⟩, hs⟩ := I.tuple hT
    simp only at hc hd
    subst hc hd
    cases r
    have c0 : (decide (k < -(2 ^ 63)) || decide (k ≥ 2 ^ 63)) = false := by
      rw [decide_eq_false (by omega), decide_eq_false (by omega)] <;> rfl
    refine wpAny_binaryOp_repeat_ref (T := "tuple") (U := "int") (by decide) ⟨_, ho, rfl⟩ (fun s' => typeIs_int s' k t) noFill_tuple_mul F.fills_int_mul F.slot_int_rmul repeat_tuple F.slot_int_index.lookup
      (call_meets F.slot_int_rmul (typeIs_int s k t) F.entry_int_rmul (F.args_int_rmul_2 _ _) (int_rmul_tuple k t l _ n dd sl)
        ⟨ho, rfl, ⟨_, ho, rfl⟩, call_meets F.slot_tuple_mul ⟨_, ho, rfl⟩ F.entry_tuple_mul (F.args_tuple_mul_2 _ _) (tuple_mul0 l n dd sl k t c0) ⟨ho, ?_⟩⟩)
    exact ⟨.ref l, _, I, rfl, q0 rfl⟩
  · exact op_repT pins s σ H (.ref l) (.int k) v u Q I rx ry ⟨l, k, xs, rfl, rfl, hT, hne, h1, h2, hz, q1 hne⟩
section
variable {K : PySem.W.Frag} {S : Stt} {ρ : Rho} {Φ : PyData → Rho → Prop} {Ψ : PyData → Prop}
theorem DqAll.rep {N : Av} {H : Hp} {xs : List V} {ds : List PyData} (h : DqAll K N H xs ds) : ∀ k : Nat, DqAll K N H (List.replicate k xs).flatten (List.replicate k ds).flatten
  | 0 => DqAll.nil
  | k + 1 => by
    rw [List.replicate_succ, List.replicate_succ, List.flatten_cons, List.flatten_cons]
    exact h.append (DqAll.rep h k)
theorem do_repTA {ds : List PyData} {k : Int} (h1 : 2 ≤ k) (h2 : k ≤ 1000) (hz : ds.length ≤ 1000) (f : Ψ (.tuple (List.replicate k.toNat ds).flatten)) : DO K (rRepTA K) (.tuple ds) (.int k) Ψ := fun N H hN u w hu hw Q q => by
  obtain ⟨p, xs, rfl, h0, h1', h2'⟩ := hu.tup_inv
  cases hw
  refine ⟨p, k, xs, rfl, rfl, h1', h1, h2, by rw [h2'.len]; exact hz, fun e => ?_, fun e r hr => ?_⟩
  · subst e
    cases h2'
    have e0 : (List.replicate k.toNat ([] : List PyData)).flatten = [] := by rw [List.flatten_eq_nil_iff]; intro l hl; exact (List.eq_of_mem_replicate hl)
    rw [e0] at f
    exact q _ _ H f (Same.refl H) hu
  · have s := same_new hr (.tup (List.replicate k.toNat xs).flatten)
    exact q _ _ _ f s (Dq.tup (fresh_av hN hr) upd_same ((h2'.rep _).keep (Keep.of s)))
end
/-! ### xs[i:63:6] of whole numbers -/
def tStep (K : PySem.W.Frag) (hi st : Int) (te tl : TE) : TE := fun σ H Q => te σ H fun x H1 => tPart tl σ H1 fun o H2 => ∃ a ns, x = V.ref a ∧ SqL K H2 a (ns.map V.int) ∧ ∀ p, H2 p = none → Q (.ref p) (upd H2 p (.lst ((pickNums ns o (some hi) (some st)).map V.int)))
theorem vals_ints : ∀ {ns : List Int} {us : List Value}, IntsAre us ns → Vals (ns.map V.int) us
  | [], _, h => by cases h; exact .nil
  | n :: ns, _, h => by
    cases h with
    | cons _ t r => exact .cons ⟨t, rfl⟩ (vals_ints r)
theorem ints_ex : ∀ ns : List Int, ∃ vs : List Value, IntsAre vs ns
  | [] => ⟨[], .nil⟩
  | n :: ns => by
    obtain ⟨vs, h⟩ := ints_ex ns
    exact ⟨_, .cons n 0 h⟩
theorem pick_le (ns : List Int) (lo hi st : Option Int) : (pickNums ns lo hi st).length ≤ ns.length := by
  obtain ⟨vs, h⟩ := ints_ex ns
  exact length_pickNums_le h lo hi st
theorem pe_step {X : Cx} {te tl : TE} {e lo : Expr} {hi st : Int} {k1 k2 : Nat} {p1 p2 p3 pos : Pos} (h0 : st ≠ 0) (he : PE X e te) (hl : PE X lo tl) :
    PE X (.Subscript e (.Slice (some lo) (some (.Constant (.int hi) k1 p1)) (some (.Constant (.int st) k2 p2)) p3) pos) (tStep X.K hi st te tl) := by
  refine ⟨fun pins s σ H Q I h => ?_⟩
  refine Subscript_ (thn (he.run pins s σ H _ I h) fun v s1 ⟨x, H1, I1, r1, q1⟩ => ?_)
  refine wpAny_Slice (thn ((po_some hl).run pins s1 σ H1 _ I1 q1) fun vl s2 ⟨l, H2, I2, pl, q2⟩ => ?_)
  obtain ⟨a, ns, ex, hx, q⟩ := q2
  subst ex
  cases r1
  have hC1 : PO X (some (.Constant (.int hi) k1 p1)) (tPart (tC (.int hi))) := po_some pe_int
  have hC2 : PO X (some (.Constant (.int st) k2 p2)) (tPart (tC (.int st))) := po_some pe_int
  refine thn (hC1.run pins s2 σ H2 (fun o H3 => o = some hi ∧ H3 = H2) I2 ⟨hi, rfl, rfl, rfl⟩) fun vu s3 ⟨u, H3, I3, pu, eu, e3⟩ => ?_
  subst e3
  refine thn (hC2.run pins s3 σ H3 (fun o H4 => o = some st ∧ H4 = H3) I3 ⟨st, rfl, rfl, rfl⟩) fun vs s4 ⟨o, H4, I4, ps, eo, e4⟩ => ?_
  subst e4
  rw [eu] at pu
  rw [eo] at ps
  have I5 : L2.Inv X pins σ H4 { s4 with heap := s4.heap.push { cls := .type "slice", data := .fields #[vl, vu, vs] } } := I4.kept (t' := s4.toks) fun b ob q => Heap.get?_push_of_some _ q
  obtain ⟨its, r, ht, hz⟩ := I5.list hx
  have hlen := r.length
  have hI := r.ints
  show wpAny (model X.prog X.w) X.A (subscriptTail e (.Slice (some lo) _ _ p3) (.ref a) (.ref s4.heap.objs.size)) (EP X pins σ Q) X.xe { s4 with heap := s4.heap.push { cls := .type "slice", data := .fields #[vl, vu, vs] } }
  refine tail_any (ops := [.ref a, .ref s4.heap.objs.size]) ht.isList.typeIs slot_list_getitem.lookup ?_ (by with_unfolding_all rfl)
  refine wpAny_getItem_list_slice ht.isList (Heap.IsSliceOf.new ..) pl pu ps (by simpa using h0) ?_ (by rw [List.size_toArray]; omega)
  have hp := hI.pick l (some hi) (some st)
  refine ⟨.ref _, _, I5.laid (t' := s4.toks) (o := .lst ((pickNums ns l (some hi) (some st)).map V.int)) (fun b ob q => Heap.get?_push_of_some _ q) (Nat.le_refl _) ?_, rfl, q _ (I5.hok.fresh (Nat.le_refl _))⟩
  refine ⟨?_, _, 0, vals_ints hp, Heap.get?_push_size _ rfl⟩
  have := pick_le ns l (some hi) (some st)
  rw [List.length_map] at hz ⊢
  exact Nat.le_trans (pick_le ns l (some hi) (some st)) hz
section
variable {K : PySem.W.Frag} {S : Stt} {ρ : Rho} {Φ : PyData → Rho → Prop} {Ψ : PyData → Prop}
theorem wd_step {i : Nat} {tl : TE} {ns : List Int} {hi st : Int} (hs : ρ[i]? = some (.scr ns)) (h : WD K S tl ρ fun d ρ1 => ∃ z, d = .int z ∧ ρ1[i]? = some (.scr ns) ∧ ∀ cs : List Int, cs.length ≤ ns.length → Φ (.list (cs.map PyData.int)) ρ1) : WD K S (tStep K hi st (tVar i) tl) ρ Φ := fun H0 N0 Z N σ H E Q q => by
  obtain ⟨a, g1, g2⟩ := E.slot i _ hs
  refine ⟨_, g1, h H0 N0 Z N σ H E _ fun v d ρ1 H1 ⟨z, e, e1, f⟩ E1 k1 d1 => ?_⟩
  subst e
  obtain ⟨a', g1', g2'⟩ := E1.slot i _ e1
  rw [g1] at g1'; cases g1'
  refine ⟨z, d1.int_inv, a, ns, rfl, ?_, fun p hp => ?_⟩
  · rcases g2' with r | r
    · exact .inl (same_rd Same.wo1 r)
    · exact .inr r
  · have s := same_new hp (.lst ((pickNums ns (some z) (some hi) (some st)).map V.int))
    exact q _ _ ρ1 _ (f _ (pick_le ns _ _ _)) (E1.ext s) (k1.trans (Keep.of s)) (Dq.lst (fresh_av E1.trk hp) upd_same DqAll.ints)
end
/-! ### data without lists: they stay, whatever list is put to the avoided -/
mutual
def noL : PyData → Bool
  | .list _ => false
  | .dict _ => false
  | .tuple ds => noLs ds
  | _ => true
def noLs : List PyData → Bool
  | [] => true
  | d :: ds => noL d && noLs ds
end
section
variable {K : PySem.W.Frag} {N : Av} {H : Hp} {c : Addr} {zs : List V}
theorem off_t (hc : Rd H c (.lst zs)) {a : Addr} {xs : List V} (h : SqT K (wo N H) a xs) : SqT K (wo (fun b => N b || decide (b = c)) H) a xs := by
  have ok : ∀ u : HO, H a = some u → (∀ z, u = .lst z → False) → (∀ o z, u = .frz o (.lst z) → False) → N a = false → wo (fun b => N b || decide (b = c)) H a = some u := fun u hu n1 n2 na => by
    have ne : a ≠ c := fun e => by
      subst e
      rcases hc with g | ⟨o, g⟩
      · rw [g] at hu; exact n1 zs (Option.some.inj hu).symm
      · rw [g] at hu; exact n2 o zs (Option.some.inj hu).symm
    rw [wo_in (by show (N a || decide (a = c)) = false; rw [na, decide_eq_false ne]; rfl)]
    exact hu
  rcases h with (h | ⟨o, h⟩) | h
  · obtain ⟨na, ha⟩ := wo_some h
    exact .inl (.inl (ok _ ha (fun z e => by cases e) (fun o z e => by cases e) na))
  · obtain ⟨na, ha⟩ := wo_some h
    exact .inl (.inr ⟨o, ok _ ha (fun z e => by cases e) (fun o z e => by cases e) na⟩)
  · exact .inr h
mutual
theorem off_d (hc : Rd H c (.lst zs)) : ∀ (d : PyData) (v : V), noL d = true → Dt K (wo N H) v d → Dt K (wo (fun b => N b || decide (b = c)) H) v d
  | .none, _, _, h => by cases h; exact .non
  | .bool b, _, _, h => by cases h; exact .bl b
  | .int i, _, _, h => by cases h; exact .int i
  | .str x, _, _, h => by cases h; exact .str x
  | .list ds, _, n, h => by cases n
  | .tuple ds, _, n, h => by
    cases h with
    | tup hs ha => exact .tup (off_t hc hs) (off_all hc ds _ (by rw [noL] at n; exact n) ha)
  | .dict _, _, n, h => by cases n
theorem off_all (hc : Rd H c (.lst zs)) : ∀ (ds : List PyData) (vs : List V), noLs ds = true → DtAll K (wo N H) vs ds → DtAll K (wo (fun b => N b || decide (b = c)) H) vs ds
  | [], _, _, h => by cases h; exact .nil
  | d :: ds, _, n, h => by
    rw [noLs, Bool.and_eq_true] at n
    cases h with
    | cons h1 h2 => exact .cons (off_d hc d _ n.1 h1) (off_all hc ds _ n.2 h2)
end
end
theorem noL_ints : ∀ ns : List Int, noLs (ns.map PyData.int) = true
  | [] => by rw [List.map_nil, noLs]
  | n :: ns => by rw [List.map_cons, noLs, noL_ints ns]; simp [noL]
theorem noL_tIs : ∀ fs : List (List Int), noLs (fs.map tI) = true
  | [] => by rw [List.map_nil, noLs]
  | f :: fs => by rw [List.map_cons, noLs, noL_tIs fs]; show (noL (.tuple (f.map PyData.int)) && true) = true; simp [noL, noL_ints]
/-! ### the deck -/
def dkD (ns : List Int) (j1 j2 j3 s : Int) : List PyData := [.list (ns.map PyData.int), .int j1, .int j2, .int j3, .int s]
structure DkB (n : Nat) (j1 j2 j3 : Int) (B : Nat) : Prop where
  a : 0 ≤ j1
  b : j1 ≤ n
  c : 0 ≤ j2
  d : 0 ≤ j3
  e : j3 ≤ B
/-- a deck, however far it is drawn from -/
def dkS (B : Nat) (ds : List PyData) : Prop := ∃ (ns : List Int) (j1 j2 j3 s : Int), ds = dkD ns j1 j2 j3 s ∧ DkB ns.length j1 j2 j3 B ∧ ns.length ≤ 63
theorem dkS.mono {B B' : Nat} {ds : List PyData} (h : dkS B ds) (k : B ≤ B') : dkS B' ds := by
  obtain ⟨ns, j1, j2, j3, s, e, b, l⟩ := h
  exact ⟨ns, j1, j2, j3, s, e, ⟨b.a, b.b, b.c, b.d, by have := b.e; omega⟩, l⟩
section
variable {K : PySem.W.Frag} {S : Stt} {ρ : Rho} {Φ : PyData → Rho → Prop} {Ψ : PyData → Prop}
/-- a call on a deck of one's own -/
theorem wd_callDk {T : Nat → List PyData → (PyData → Nat → Prop) → Prop} {E : XK} {ta : TA} {i : Nat} {es : List PyData} (hi : ρ[i]? = some (.own es))
    (h : WA K S ta ρ fun xs ρ1 => ∃ ds B, ρ1[i]? = some (.own ds) ∧ dkS B ds ∧ noLs xs = true ∧ T B xs fun d B' => ∀ ds', dkS B' ds' → Φ d (ρ1.set i (.own ds'))) :
    WD K S (tCall (spS K FDk T) [] E (tCons (tVar i) ta)) ρ Φ := fun H0 N0 Z N σ H E' Q q => by
  obtain ⟨p, _, hs, _⟩ := E'.slot i _ hi
  refine ⟨_, hs, h H0 N0 Z N σ H E' _ fun vs xs ρ1 H1 ⟨ds, B, e, hdk, nl, f⟩ E1 k1 d1 => ?_⟩
  obtain ⟨ns, j1, j2, j3, s, rfl, hb, hl⟩ := hdk
  obtain ⟨p', xs', g1, g2, g3, g4, g5, g6, g7⟩ := E1.slot i _ e
  rw [hs] at g1; cases g1
  have g7' : DqAll K N H1 xs' (.list (ns.map PyData.int) :: [.int j1, .int j2, .int j3, .int s]) := g7
  cases g7' with
  | cons a1 a2 =>
  cases a2 with
  | cons a2 a3 =>
  cases a3 with
  | cons a3 a4 =>
  cases a4 with
  | cons a4 a5 =>
  cases a5 with
  | cons a5 a6 =>
  cases a6
  cases a2; cases a3; cases a4; cases a5
  have a1' : Dq K N H1 _ (.list (ns.map PyData.int)) := a1
  obtain ⟨c, us, rfl, hcw, hc, hus⟩ := a1'.lst_inv
  obtain rfl := hus.of_ints
  obtain ⟨o, hL, ho⟩ := HList.of hc
  have nc : N c = false := by
    rcases hcw with g | ⟨z, g⟩
    · exact (wo_some g).1
    · exact (wo_some g).1
  have ac : p ≠ c := fun z => by rw [z, nc] at g2; cases g2
  have hle : Le (mkDk p c o ns).fp (fun b => N b || decide (b = c)) := fun b hb => by
    have hb : (decide (b = p) || decide (b = c)) = true := hb
    rcases Bool.or_eq_true_iff.mp hb with e | e
    · rw [of_decide_eq_true e]; show (N p || _) = true; rw [g2]; rfl
    · show (N b || decide (b = c)) = true; rw [e, Bool.or_true]
  have trk : ∀ b, (fun b => N b || decide (b = c)) b = true → H1 b ≠ none := fun b hb => by
    rcases Bool.or_eq_true_iff.mp hb with e | e
    · exact E1.trk b e
    · rw [of_decide_eq_true e, ho]; simp
  refine ⟨mkDk p c o ns, fun b => N b || decide (b = c), vs, xs, B, _, by simp; rfl, ⟨p, c, o, ns, rfl⟩, ⟨ac, _, ⟨j1, j2, j3, s, rfl, hb.a, hb.b, hb.c, hb.d, hb.e⟩, g6, ho, hL, hl⟩, hle, trk, off_all hc xs vs nl d1, f, fun d B' fd v H2 fr ok2 dv => ?_⟩
  obtain ⟨_, vs2, dk2, hp2, hc2, _, _⟩ := ok2
  obtain ⟨k1', k2', k3', s', rfl, b1, b2, b3, b4, b5⟩ := dk2.ex
  have s2 : Same (upd H1 p (.lst [.ref c, .int k1', .int k2', .int k3', .int s'])) H2 := fun b o' hb => by
    by_cases z : b = p
    · subst z; rw [upd_same] at hb; cases hb; exact hp2
    · rw [upd_ne z] at hb
      by_cases z2 : b = c
      · subst z2; rw [ho] at hb; cases hb; exact hc2
      · exact fr b o' (by show (decide (b = p) || decide (b = c)) = false; rw [decide_eq_false z, decide_eq_false z2]; rfl) hb
  have hq : DqAll K N H1 [.ref c, .int k1', .int k2', .int k3', .int s'] (dkD ns k1' k2' k3' s') := .cons a1 (.cons (.int _) (.cons (.int _) (.cons (.int _) (.cons (.int _) .nil))))
  have E2 := (E1.chg (xs := [.ref c, .int j1, .int j2, .int j3, .int s]) (es := dkD ns k1' k2' k3' s') e hs hq).ext s2
  refine q v d _ H2 (fd _ ⟨ns, k1', k2', k3', s', rfl, ⟨b1, b2, b3, b4, b5⟩, hl⟩) E2 (k1.trans fun b o' n hb => ?_) (dv.le fun b hb => by show (N b || _) = true; rw [hb]; rfl)
  by_cases z2 : b = c
  · subst z2; rw [ho] at hb; cases hb; exact hc2
  · exact fr b o' (by
      show (decide (b = p) || decide (b = c)) = false
      rw [decide_eq_false z2, decide_eq_false fun z => by rw [z, g2] at n; cases n]; rfl) hb
/-- a number below so many, of a deck of one's own -/
theorem wd_nxo {i : Nat} {m : Int} {B : Nat} {es : List PyData} (hi : ρ[i]? = some (.own es)) (hd : dkS B es) (m1 : 1 ≤ m) (m2 : m ≤ 2 ^ 40) (hB : B ≤ 2 ^ 40) (f : ∀ z : Int, 0 ≤ z → z < m → ∀ ds', dkS (B + 1) ds' → Φ (.int z) (ρ.set i (.own ds'))) :
    WD K S (tCall (spS K FDk TNext) [] E0 (tCons (tVar i) (tCons (tC (.int m)) tNil))) ρ Φ :=
  wd_callDk hi (wa_cons (wd_int (wa_nil ⟨es, B, hi, hd, by simp [noLs, noL], m, rfl, m1, m2, hB, f⟩)))
end
/-- a deck is made -/
def spDeck (K : PySem.W.Frag) : Sp := fun vs H Q _ => ∃ (N : Av) (ns : List Int) (k : Int), (∀ b, N b = true → H b ≠ none) ∧ DqAll K N H vs [.list (ns.map PyData.int), .int k] ∧ 0 ≤ k ∧ k ≤ 63 ∧
  ∀ s p H' xs, H p = none → Same H H' → H' p = some (.lst xs) → DqAll K N H xs (dkD ns 0 0 0 s) → Q (.ref p) H'
section
variable {K : PySem.W.Frag} {S : Stt} {ρ : Rho} {Φ : PyData → Rho → Prop} {Ψ : PyData → Prop}
theorem ws_callDeck {E : XK} {ta : TA} {i : Nat} {En : DE} (h : WA K S ta ρ fun xs ρ1 => ∃ (ns : List Int) (k : Int), xs = [.list (ns.map PyData.int), .int k] ∧ 0 ≤ k ∧ k ≤ 63 ∧ ns.length ≤ 63 ∧ ∀ ds, dkS 0 ds → En.nx (ρ1.set i (.own ds))) :
    WS K S (tAsg (tCall (spDeck K) [] E ta) (gName i)) ρ En := fun H0 N0 Z N σ H D E' M =>
  h H0 N0 Z N σ H E' _ fun vs xs ρ1 H1 ⟨ns, k, ex, k0, k1', hl, f⟩ E1 k1 d1 => by
    subst ex
    refine ⟨N, ns, k, E1.trk, by rw [List.append_nil]; exact d1, k0, k1', fun s p H' xs hp sm hp' hq => ?_⟩
    obtain ⟨z1, z2⟩ := free0 E1 hp
    have s1 : Same H1 (fun b => if b = p then none else H' b) := fun b o hb => by
      have : b ≠ p := fun z => by rw [z, hp] at hb; cases hb
      show (if b = p then none else H' b) = some o
      rw [if_neg this]; exact sm b o hb
    have e : upd (fun b => if b = p then none else H' b) p (.lst xs) = H' := by
      funext b
      by_cases z : b = p
      · subst z; rw [upd_same, hp']
      · rw [upd_ne z, if_neg z]
    have E2 := (E1.ext s1).new (i := i) (p := p) (xs := xs) (ds := dkD ns 0 0 0 s) (if_pos rfl) z1 z2 (hq.keep (Keep.of s1))
    rw [e] at E2
    exact M.nx _ _ _ _ (f _ ⟨ns, 0, 0, 0, s, rfl, ⟨Int.le_refl _, by omega, Int.le_refl _, Int.le_refl _, Int.le_refl _⟩, hl⟩) E2
end
end DL

set_option Elab.async false
set_option linter.all false
set_option maxRecDepth 100000
set_option maxHeartbeats 4000000
/-! PKD: sets and foldings otherwise -/
namespace DL
open PySem PySem.Spec PyProof.Rows L2
/-- small data of a depth -/
structure Oz (n : Nat) (d : PyData) : Prop where
  t : Tm d
  s : Sh n d
theorem Oz.mono {n m : Nat} {d : PyData} (h : Oz n d) (hn : n ≤ m) : Oz m d := ⟨h.t, h.s.mono hn⟩
theorem Oz.int {i : Int} (h : i.natAbs < 2 ^ 62) : Oz 0 (.int i) := ⟨.int (Nat.lt_of_lt_of_le h (Nat.pow_le_pow_right (by decide) (by decide))), Sh.int⟩
theorem Oz.tup {n : Nat} {xs : List PyData} (h : ∀ x ∈ xs, Oz n x) (hl : xs.length ≤ 1000) : Oz (n + 1) (.tuple xs) := ⟨.tup hl fun x hx => (h x hx).t, Sh.tup fun x hx => (h x hx).s⟩
theorem Oz.lst {n : Nat} {xs : List PyData} (h : ∀ x ∈ xs, Oz n x) (hl : xs.length ≤ 1000) : Oz (n + 1) (.list xs) := ⟨.lst hl fun x hx => (h x hx).t, Sh.lst fun x hx => (h x hx).s⟩
theorem Oz.ints {ns : List Int} (h : ∀ x ∈ ns, x.natAbs < 2 ^ 62) : ∀ x ∈ ns.map PyData.int, Oz 0 x := fun x hx => by
  obtain ⟨i, hi, rfl⟩ := List.mem_map.mp hx
  exact Oz.int (h i hi)
theorem Oz.tI {g : List Int} (h : ∀ x ∈ g, 0 ≤ x ∧ x < 1000) (hl : g.length ≤ 1000) : Oz 1 (tI g) := by
  have e : (2 : Nat) ^ 62 = 4611686018427387904 := by decide
  exact Oz.tup (Oz.ints fun x hx => by have := h x hx; omega) (by rw [List.length_map]; exact hl)
def TOddL : Nat → List PyData → (PyData → Nat → Prop) → Prop := fun B ds Φ => ∃ (n : Nat) (g : List Int), ds = [.int n, tI g] ∧ n ≤ 40 ∧ g.length ≤ 40 ∧ (∀ x ∈ g, 0 ≤ x ∧ x < 1000) ∧ B + 100 ≤ 2 ^ 40 ∧ ∀ d B', Oz 2 d → B' ≤ B + 100 → Φ d B'
def TSpL : Nat → List PyData → (PyData → Nat → Prop) → Prop := fun B ds Φ => ∃ (n : Nat) (fs : List (List Int)), ds = [.int n, .tuple (fs.map tI)] ∧ 1 ≤ n ∧ n ≤ 40 ∧ fs.length ≤ 40 ∧ (∀ f ∈ fs, f.length ≤ 40 ∧ ∀ x ∈ f, 0 ≤ x ∧ x < 1000) ∧ B + 200 ≤ 2 ^ 40 ∧ ∀ d B', (tyD d = "tuple" → Oz 4 d) → B' ≤ B + 200 → Φ d B'
local macro_rules | `(tactic| walk_at "dl") => `(tactic| repeat' (first
  | with_reducible refine wd_isTy ?_ | with_reducible refine wd_isi ?_ | ((with_reducible show WD _ _ (tOp (rIxL _) (tVar _) _) _ _); refine wd_ix_own rfl ?_) | with_reducible refine wd_op ?_ | ((with_reducible show WD _ _ (tCB (rLenX _) (tCons (tVar _) tNil)) _ _); refine wd_len_scr rfl ?_) | ((with_reducible show WD _ _ (tCB (rLenX _) (tCons (tVar _) tNil)) _ _); refine wd_len_own rfl ?_) | with_reducible refine wd_cb ?_ | with_reducible refine wd_un ?_ | with_reducible refine wa_cons ?_ | with_reducible refine wa_nil ?_ | ((with_reducible show WD _ _ (tVar _) _ _); refine wd_var rfl ?_) | with_reducible refine wd_int ?_ | with_reducible refine wd_bl ?_ | with_reducible refine wd_str ?_ | with_reducible refine wd_non ?_
  | with_reducible refine do_nesS ?_ | with_reducible refine dc_intB ?_ | with_reducible refine do_add ?_ | with_reducible refine do_sub ?_ | ((with_reducible refine do_mod ?_ ?_); decide) | with_reducible refine do_mod ?_ ?_ | with_reducible refine do_mul ?_ ?_ | ((with_reducible refine do_div ?_ ?_); exact ⟨by decide, by decide⟩) | with_reducible refine do_div ?_ ?_ | ((with_reducible refine do_pow ?_ ?_); exact ⟨by decide, by decide, by decide⟩) | with_reducible refine do_pow ?_ ?_
  | with_reducible refine do_lt ?_ | with_reducible refine do_le ?_ | with_reducible refine do_gt ?_ | with_reducible refine do_ge ?_ | with_reducible refine du_neg ?_
  | with_reducible refine do_eqi ?_ | with_reducible refine do_nei ?_ | with_reducible refine do_eqs ?_ | with_reducible refine do_nes ?_ | with_reducible refine dc_abs ?_ | with_reducible refine dc_min ?_ | with_reducible refine dc_max ?_ | with_reducible refine dc_lenL ?_ | with_reducible refine dc_lenT ?_ | with_reducible refine dc_lenR ?_ | with_reducible refine dc_listT ?_ | with_reducible refine dc_listL ?_ | with_reducible refine dc_tupL ?_ | with_reducible refine dc_gcd ?_
  | ((with_reducible show DO _ (rIxT _) _ _ _); refine do_ixT rfl ?_) | ((with_reducible show DO _ (rIxL _) _ _ _); refine do_ixL rfl ?_) | ((with_reducible refine do_catL ?_ ?_); exact Nat.le_of_ble_eq_true rfl) | with_reducible refine do_catL ?_ ?_ | ((with_reducible show And (List.length _ ≤ sizeLine) _); refine ⟨Nat.le_of_ble_eq_true rfl, ?_⟩)
  | with_reducible refine wd_dnew ?_ | with_reducible refine wd_call0 ?_ | with_reducible refine wd_slA ?_ | with_reducible refine wd_slL ?_ | with_reducible refine wd_revT ?_ | with_reducible refine do_catA ?_ ?_ | with_reducible refine wo_part ?_ | with_reducible refine wo_none ?_ | with_reducible refine do_eqQ ?_ | with_reducible refine do_neQ ?_ | with_reducible refine wi_enumT ?_ | with_reducible refine wi_enumD ?_ | with_reducible refine tAdQ (by omega) (by omega) ?_ | with_reducible refine tSbQ (by omega) (by omega) ?_ | with_reducible refine tMlQ (by omega) (by omega) ?_ | with_reducible refine tDvQ (by assumption) (by omega) (by omega) ?_ | with_reducible refine tLtQ (by omega) (by omega) ?_ | with_reducible refine dc_str ?_ ?_ | with_reducible refine wd_tup ?_ | with_reducible refine wd_lst ?_ | with_reducible refine wt_test ?_ | with_reducible refine wt_B ?_ | with_reducible refine wt_not ?_ | with_reducible refine wt_and ?_ | with_reducible refine wt_or ?_ | with_reducible refine wd_ifE ?_ | with_reducible refine wd_andV ?_ | with_reducible refine wd_orV ?_ | with_reducible refine wd_notV ?_
  | with_reducible refine ws_seq ?_ | with_reducible refine ws_next ?_ | with_reducible refine ws_asg ?_ | with_reducible refine ws_ret ?_ | with_reducible refine ws_retN ?_ | with_reducible refine ws_if ?_ | with_reducible refine ws_par ?_ | with_reducible refine ws_unp2 ?_
  | with_reducible refine if_t ?_ | with_reducible refine if_f ?_ | with_reducible refine if_nf ?_ | with_reducible refine if_nt ?_
  | ((with_reducible show Exists _); first | refine ⟨_, kitInt _, ?_⟩ | refine ⟨_, kitBool _, ?_⟩ | refine ⟨_, kitTup _, ?_⟩ | refine ⟨_, kitList _, ?_⟩ | refine ⟨_, rfl, ?_⟩ | refine ⟨_, _, rfl, ?_⟩ | fail) | fail))
def t_odd (K : PySem.W.Frag) : TS :=
  (tSeq (tAsg (tCall (spS K FDk TNext) [] E0 (tCons (tVar 0) (tCons (tC (.int 9)) tNil))) (gName 3))
    (tSeq (tAsg (tCall (spS K FDk TNext) [] E0 (tCons (tVar 0) (tCons (tOp rAddI (tCB (rLenX K) (tCons (tVar 2) tNil)) (tC (.int 1))) tNil))) (gName 4))
    (tSeq (tAsg (tOp rSubI (tCall (spS K FDk TNext) [] E0 (tCons (tVar 0) (tCons (tOp rAddI (tVar 1) (tC (.int 2))) tNil))) (tC (.int 1))) (gName 5))
    (tSeq (tAsg (tOp (rIxL K) (tLst (tCons (tVar 5) (tCons (tVar 5) (tCons (tVar 1) (tCons (tUn rNegI (tC (.int 1))) (tCons (tC (.bl true)) (tCons (tC (.str "0")) (tCons (tC .non) (tCons (tTup (tCons (tC (.int 0)) tNil)) (tCons (tOp rPowI (tC (.int 10)) (tC (.int 18))) tNil)))))))))) (tCall (spS K FDk TNext) [] E0 (tCons (tVar 0) (tCons (tC (.int 9)) tNil)))) (gName 6))
    (tSeq (tIfS (tTest (tOp rEq (tVar 3) (tC (.int 0)))) (tRet (tOp (rCatA K) (tOp (rCatA K) (tSl (rSlA K) (tVar 2) tNoPart (tPart (tVar 4))) (tTup (tCons (tVar 6) tNil))) (tSl (rSlA K) (tVar 2) (tPart (tOp rAddI (tVar 4) (tC (.int 1)))) tNoPart))) tNext)
    (tSeq (tIfS (tTest (tOp rEq (tVar 3) (tC (.int 1)))) (tRet (tOp (rCatA K) (tOp (rCatA K) (tSl (rSlA K) (tVar 2) tNoPart (tPart (tVar 4))) (tTup (tCons (tVar 6) tNil))) (tSl (rSlA K) (tVar 2) (tPart (tVar 4)) tNoPart))) tNext)
    (tSeq (tIfS (tTest (tOp rEq (tVar 3) (tC (.int 2)))) (tRet (tOp (rCatA K) (tOp (rCatA K) (tSl (rSlA K) (tVar 2) tNoPart (tPart (tVar 4))) (tRevT K (tSl (rSlA K) (tVar 2) (tPart (tVar 4)) (tPart (tOp rAddI (tVar 4) (tC (.int 2))))))) (tSl (rSlA K) (tVar 2) (tPart (tOp rAddI (tVar 4) (tC (.int 2)))) tNoPart))) tNext)
    (tSeq (tIfS (tTest (tOp rEq (tVar 3) (tC (.int 3)))) (tRet (tOp (rCatA K) (tSl (rSlA K) (tVar 2) tNoPart (tPart (tVar 4))) (tSl (rSlA K) (tVar 2) (tPart (tOp rAddI (tVar 4) (tC (.int 1)))) tNoPart))) tNext)
    (tSeq (tIfS (tTest (tOp rLt (tVar 3) (tC (.int 7)))) (tRet (tCB (rTupOf K) (tCons (tLc (iRng1 (tCons (tVar 1) tNil)) (gName 7) (tTest (tOp rEq (tCall (spS K FDk TNext) [] E0 (tCons (tVar 0) (tCons (tC (.int 3)) tNil))) (tC (.int 0)))) (tVar 7) [7]) tNil))) tNext)
    (tRet (tOp (rIxL K) (tLst (tCons (tCB (rListOf K) (tCons (tVar 2) tNil)) (tCons (tOp (rCatA K) (tVar 2) (tSl (rSlA K) (tVar 2) (tPart (tUn rNegI (tC (.int 1)))) tNoPart)) (tCons (tVar 6) tNil)))) (tCall (spS K FDk TNext) [] E0 (tCons (tVar 0) (tCons (tC (.int 3)) tNil))))))))))))))
def t_spl (K : PySem.W.Frag) : TS :=
  (tSeq (tAsg (tCall (spS K FDk TNext) [] E0 (tCons (tVar 0) (tCons (tC (.int 8)) tNil))) (gName 3))
    (tSeq (tAsg (tCall (spS K FDk TNext) [] E0 (tCons (tVar 0) (tCons (tOp rAddI (tCB (rLenX K) (tCons (tVar 2) tNil)) (tC (.int 1))) tNil))) (gName 4))
    (tSeq (tAsg (tOp (rIxT K) (tOp (rCatA K) (tVar 2) (tTup (tCons (tTup (tCons (tC (.int 0)) tNil)) tNil))) (tVar 4)) (gName 5))
    (tSeq (tAsg (tCall (spS K FDk TOddL) [] E0 (tCons (tVar 0) (tCons (tVar 1) (tCons (tVar 5) tNil)))) (gName 6))
    (tSeq (tIfS (tTest (tOp rEq (tVar 3) (tC (.int 0)))) (tRet (tOp (rIxL K) (tLst (tCons (tCB (rListOf K) (tCons (tVar 2) tNil)) (tCons (tC .non) (tCons (tC (.int 7)) (tCons (tC (.str "")) (tCons tDNewK (tCons (tVar 6) tNil))))))) (tCall (spS K FDk TNext) [] E0 (tCons (tVar 0) (tCons (tC (.int 6)) tNil))))) tNext)
    (tSeq (tIfS (tTest (tOp rEq (tVar 3) (tC (.int 1)))) (tRet (tSl (rSlA K) (tOp (rRepTA K) (tVar 2) (tC (.int 41))) tNoPart (tPart (tOp (rIxL K) (tLst (tCons (tC (.int 40)) (tCons (tC (.int 41)) tNil))) (tCall (spS K FDk TNext) [] E0 (tCons (tVar 0) (tCons (tC (.int 2)) tNil))))))) tNext)
    (tSeq (tIfS (tTest (tOp rEq (tVar 3) (tC (.int 2)))) (tRet (tOp (rCatA K) (tSl (rSlA K) (tVar 2) tNoPart (tPart (tVar 4))) (tSl (rSlA K) (tVar 2) (tPart (tOp rAddI (tVar 4) (tC (.int 1)))) tNoPart))) tNext)
    (tSeq (tIfS (tTest (tOp rLt (tVar 3) (tC (.int 5)))) (tRet (tOp (rCatA K) (tOp (rCatA K) (tSl (rSlA K) (tVar 2) tNoPart (tPart (tVar 4))) (tTup (tCons (tVar 6) tNil))) (tSl (rSlA K) (tVar 2) (tPart (tVar 4)) tNoPart))) tNext)
    (tRet (tOp (rCatA K) (tOp (rCatA K) (tSl (rSlA K) (tVar 2) tNoPart (tPart (tVar 4))) (tTup (tCons (tVar 6) tNil))) (tSl (rSlA K) (tVar 2) (tPart (tOp rAddI (tVar 4) (tC (.int 1)))) tNoPart)))))))))))
section
variable {K : PySem.W.Frag} {S : Stt} {B : Nat} {ds : List PyData} {Φ : PyData → Nat → Prop}
theorem ws_odd (hF : FDk S) (h : TOddL B ds Φ) : WS K S (t_odd K) (.sto B :: rhoOf 7 ds) { nx := fun _ => False, rt := fun d ρ => ∃ B', ρ[0]? = some (.sto B') ∧ Φ d B' } := by
  obtain ⟨n, g, rfl, hn, hg, hx, hB, hΦ⟩ := h
  show WS K S (t_odd K) [.sto B, .dat (.int n), .dat (.tuple (g.map PyData.int)), .unk, .unk, .unk, .unk, .unk] _
  unfold t_odd
  have e62 : (2 : Nat) ^ 62 = 4611686018427387904 := by decide
  have os : ∀ y ∈ g.map PyData.int, Oz 0 y := Oz.ints fun x h => by have := hx x h; omega
  have ml : (g.map PyData.int).length ≤ 40 := by rw [List.length_map]; exact hg
  have szl : sizeLine = 16777216 := sizeLine_eq
  have lst : Oz 1 (.list (g.map PyData.int)) := Oz.lst os (by omega)
  generalize g.map PyData.int = gs at os ml lst
  refine ws_seq (ws_asg (wd_nxc hF rfl (by decide) (by decide) (by omega) fun w w0 w1 => ?_))
  refine ws_seq (ws_asg (wd_nx hF rfl (wd_op (wd_cb (wa_cons (wd_var rfl (wa_nil (dc_lenT (wd_int (do_add ⟨_, B + 1, rfl, rfl, by omega, by omega, by omega, fun z z0 z1 => ?_⟩))))))))))
  refine ws_seq (ws_asg (wd_op (wd_nx hF rfl (wd_op (wd_var rfl (wd_int (do_add ⟨_, B + 1 + 1, rfl, rfl, by omega, by omega, by omega, fun f f0 f1 => wd_int (do_sub ?_)⟩)))))))
  refine ws_seq (ws_asg ?_)
  walk_at "dl"
  refine wd_nxc hF rfl (by decide) (by decide) (by omega) fun o o0 o1 => ?_
  refine ixAll (P := Oz 1) o0 (by simp; omega) (fun y hy => ?_) fun od hod => ?_
  · simp only [List.mem_cons, List.not_mem_nil, or_false] at hy
    rcases hy with rfl | rfl | rfl | rfl | rfl | rfl | rfl | rfl | rfl
    · exact (Oz.int (by omega)).mono (by decide)
    · exact (Oz.int (by omega)).mono (by decide)
    · exact (Oz.int (by omega)).mono (by decide)
    · exact (Oz.int (by decide)).mono (by decide)
    · exact ⟨.bool, Sh.bool.mono (by decide)⟩
    · exact ⟨.str, ⟨by decide +kernel, Nat.zero_le _⟩⟩
    · exact ⟨.non, Sh.non.mono (by decide)⟩
    · exact Oz.tI (g := [0]) (fun x hx => by rw [List.mem_singleton] at hx; omega) (by decide)
    · exact (Oz.int (by decide)).mono (by decide)
  show WS K S _ [.sto (B + 1 + 1 + 1 + 1), .dat (.int n), .dat (.tuple gs), .dat (.int w), .dat (.int z), .dat (.int (f - 1)), .dat od, .unk] _
  have os1 : ∀ y ∈ gs, Oz 1 y := fun y hy => (os y hy).mono (by decide)
  have fin : ∀ (xs : List PyData), xs.length ≤ 1000 → (∀ x ∈ xs, x ∈ gs ∨ x = od) → Oz 2 (.tuple xs) := fun xs hl h => Oz.tup (fun x hx => by
    rcases h x hx with h | rfl
    · exact os1 x h
    · exact hod) hl
  have c1 := fun lo hi => cutD_le (l := gs) (lo := lo) (hi := hi)
  walk_at "dl"
  refine if_b (fun c => ?_) (fun c => ?_)
  · walk_at "dl"
    all_goals first | (have := c1 none (some z); have := c1 (some (z + 1)) none; (try simp only [List.length_append, List.length_cons, List.length_nil]); omega) | skip
    refine hΦ _ _ (fin _ ?_ fun x hx => ?_) (by omega)
    · have := c1 none (some z); have := c1 (some (z + 1)) none; simp only [List.length_append, List.length_cons, List.length_nil]; omega
    · simp only [List.mem_append, List.mem_cons, List.not_mem_nil, or_false] at hx
      rcases hx with (hx | hx) | hx
      · exact .inl (cutD_sub hx)
      · exact .inr hx
      · exact .inl (cutD_sub hx)
  walk_at "dl"
  refine if_b (fun c => ?_) (fun c => ?_)
  · walk_at "dl"
    all_goals first | (have := c1 none (some z); have := c1 (some z) none; (try simp only [List.length_append, List.length_cons, List.length_nil]); omega) | skip
    refine hΦ _ _ (fin _ ?_ fun x hx => ?_) (by omega)
    · have := c1 none (some z); have := c1 (some z) none; simp only [List.length_append, List.length_cons, List.length_nil]; omega
    · simp only [List.mem_append, List.mem_cons, List.not_mem_nil, or_false] at hx
      rcases hx with (hx | hx) | hx
      · exact .inl (cutD_sub hx)
      · exact .inr hx
      · exact .inl (cutD_sub hx)
  walk_at "dl"
  refine if_b (fun c => ?_) (fun c => ?_)
  · walk_at "dl"
    all_goals first | (have := c1 none (some z); have := c1 (some z) (some (z + 2)); have := c1 (some (z + 2)) none; (try simp only [List.length_append, List.length_cons, List.length_nil, List.length_reverse]); omega) | skip
    refine hΦ _ _ (fin _ ?_ fun x hx => ?_) (by omega)
    · have := c1 none (some z); have := c1 (some z) (some (z + 2)); have := c1 (some (z + 2)) none; simp only [List.length_append, List.length_cons, List.length_nil, List.length_reverse]; omega
    · simp only [List.mem_append, List.mem_reverse] at hx
      rcases hx with (hx | hx) | hx
      · exact .inl (cutD_sub hx)
      · exact .inl (cutD_sub hx)
      · exact .inl (cutD_sub hx)
  walk_at "dl"
  refine if_b (fun c => ?_) (fun c => ?_)
  · walk_at "dl"
    all_goals first | (have := c1 none (some z); have := c1 (some (z + 1)) none; (try simp only [List.length_append, List.length_cons, List.length_nil]); omega) | skip
    refine hΦ _ _ (fin _ ?_ fun x hx => ?_) (by omega)
    · have := c1 none (some z); have := c1 (some (z + 1)) none; simp only [List.length_append]; omega
    · simp only [List.mem_append] at hx
      rcases hx with hx | hx
      · exact .inl (cutD_sub hx)
      · exact .inl (cutD_sub hx)
  walk_at "dl"
  refine if_b (fun c => ?_) (fun c => ?_)
  · refine ws_ret (wd_cb (wa_cons (wd_lc (wi_rng1 (wa_cons (wd_var rfl (wa_nil ⟨n, rfl, by omega, by omega, ?_⟩)))))))
    refine ⟨by rw [List.length_map, List.length_range]; omega, fun k acc ρ => ∃ B1 : Nat, B1 = B + 4 + k ∧ acc.length ≤ k ∧ (∀ x ∈ acc, Oz 0 x) ∧ ρ = [.sto B1, .dat (.int n), .dat (.tuple gs), .dat (.int w), .dat (.int z), .dat (.int (f - 1)), .dat od, .unk], ⟨_, rfl, Nat.le_refl _, (fun x hx => nomatch hx), rfl⟩, ?_, ?_⟩
    · rintro k d acc ρ2 hd ⟨B1, hB1, hk, ha, rfl⟩
      have hk2 : k < n := by
        have := (List.getElem?_eq_some_iff.mp hd).1
        simpa using this
      have ed : d = .int (0 + (k : Int)) := by
        obtain ⟨h1, h2⟩ := List.getElem?_eq_some_iff.mp hd
        simp at h2
        rw [← h2]; simp
      subst ed
      refine ⟨_, _, gd_name, by decide, ?_⟩
      refine wt_test (wd_op (wd_nxc hF rfl (by decide) (by decide) (by omega) fun y y0 y1 => wd_int (do_eqi ⟨_, rfl, ?_⟩)))
      refine if_b (fun c => ?_) (fun c => ?_)
      · refine wd_var rfl ⟨B1 + 1, by omega, by rw [List.length_append, List.length_singleton]; omega, fun x hx => ?_, rfl⟩
        rcases List.mem_append.mp hx with hx | hx
        · exact ha x hx
        · rw [List.mem_singleton] at hx; subst hx; exact Oz.int (by omega)
      · exact ⟨B1 + 1, by omega, by omega, ha, rfl⟩
    · rintro acc ρ2 ⟨B1, hB1, hk, ha, rfl⟩
      rw [List.length_map, List.length_range] at hk hB1
      refine wa_nil (dc_tupL ⟨B1, rfl, hΦ _ _ ((Oz.tup ha (by omega)).mono (by decide)) (by omega)⟩)
  walk_at "dl"
  all_goals first | (with_reducible refine dc_listT ?_) | skip
  all_goals try walk_at "dl"
  all_goals first | (have := c1 (some (-1)) none; omega) | skip
  refine wd_nxc hF rfl (by decide) (by decide) (by omega) fun y y0 y1 => ?_
  refine ixAll (P := Oz 2) y0 (by simp; omega) (fun x hx => ?_) fun x hx => ⟨_, rfl, hΦ _ _ hx (by omega)⟩
  simp only [List.mem_cons, List.not_mem_nil, or_false] at hx
  rcases hx with rfl | rfl | rfl
  · exact lst.mono (by decide)
  · refine fin _ ?_ fun x hx => ?_
    · have := c1 (some (-1)) none; rw [List.length_append]; omega
    · rcases List.mem_append.mp hx with hx | hx
      · exact .inl hx
      · exact .inl (cutD_sub hx)
  · exact hod.mono (by decide)
theorem ty_no {s t : String} {P : Prop} (h : s = t) (n : s ≠ t) : P := absurd h n
theorem ws_spl (hF : FDk S) (h : TSpL B ds Φ) : WS K S (t_spl K) (.sto B :: rhoOf 6 ds) { nx := fun _ => False, rt := fun d ρ => ∃ B', ρ[0]? = some (.sto B') ∧ Φ d B' } := by
  obtain ⟨n, fs, rfl, n1, hn, hfl, hf, hB, hΦ⟩ := h
  show WS K S (t_spl K) [.sto B, .dat (.int n), .dat (.tuple (fs.map tI)), .unk, .unk, .unk, .unk] _
  unfold t_spl
  have os : ∀ y ∈ fs.map tI, Oz 1 y := fun y hy => by
    obtain ⟨f, hf1, rfl⟩ := List.mem_map.mp hy
    exact Oz.tI (hf f hf1).2 (by have := (hf f hf1).1; omega)
  have ml : (fs.map tI).length ≤ 40 := by rw [List.length_map]; exact hfl
  have szl : sizeLine = 16777216 := sizeLine_eq
  refine ws_seq (ws_asg (wd_nxc hF rfl (by decide) (by decide) (by omega) fun w w0 w1 => ?_))
  refine ws_seq (ws_asg (wd_nx hF rfl (wd_op (wd_cb (wa_cons (wd_var rfl (wa_nil (dc_lenT (wd_int (do_add ⟨_, B + 1, rfl, rfl, by omega, by omega, by omega, fun z z0 z1 => ?_⟩))))))))))
  rw [List.length_map] at z1
  have hz : z.toNat < (fs ++ [[0]]).length := by rw [List.length_append, List.length_singleton]; omega
  have gm : ∀ g ∈ fs ++ [[0]], g.length ≤ 40 ∧ ∀ x ∈ g, 0 ≤ x ∧ x < 1000 := fun g hg => by
    rcases List.mem_append.mp hg with hg | hg
    · exact hf g hg
    · rw [List.mem_singleton] at hg
      subst hg
      exact ⟨by decide, fun x hx => by rw [List.mem_singleton] at hx; omega⟩
  have gi := gm _ (List.getElem_mem hz)
  refine ws_seq (ws_asg (wd_op (wd_op (wd_var rfl (wd_tup (wa_cons (wd_tup (wa_cons (wd_int (wa_nil ⟨Nat.le_of_ble_eq_true rfl, wa_nil ⟨Nat.le_of_ble_eq_true rfl, ?_⟩⟩))))))))))
  refine do_catA (by simp only [List.length_cons, List.length_nil]; omega) (wd_var rfl (do_ixTn (k := z.toNat) (d := tI (fs ++ [[0]])[z.toNat]) (by omega) ?_ ?_))
  · rw [show fs.map tI ++ [PyData.tuple [.int 0]] = (fs ++ [[0]]).map tI from by rw [List.map_append]; rfl, List.getElem?_map, List.getElem?_eq_getElem hz]; rfl
  generalize (fs ++ [[0]])[z.toNat] = g at gi
  refine ws_seq (ws_asg (wd_callS hF rfl (wa_cons (wd_var rfl (wa_cons (wd_var rfl (wa_nil ⟨B + 1 + 1, rfl, n, g, rfl, hn, gi.1, gi.2, by omega, fun od B2 hod hB2 => ?_⟩)))))))
  generalize fs.map tI = gs at os ml
  show WS K S _ [.sto B2, .dat (.int n), .dat (.tuple gs), .dat (.int w), .dat (.int z), .dat (tI g), .dat od] _
  have os1 : ∀ y ∈ gs, Oz 2 y := fun y hy => (os y hy).mono (by decide)
  have fin : ∀ (xs : List PyData), xs.length ≤ 1000 → (∀ x ∈ xs, x ∈ gs ∨ x = od) → tyD (.tuple xs) = "tuple" → Oz 4 (.tuple xs) := fun xs hl h _ => (Oz.tup (n := 2) (fun x hx => by
    rcases h x hx with h | rfl
    · exact os1 x h
    · exact hod) hl).mono (by decide)
  have c1 := fun lo hi => cutD_le (l := gs) (lo := lo) (hi := hi)
  have fin0 : ∀ (xs : List PyData), xs.length ≤ 1000 → (∀ x ∈ xs, x ∈ gs ∨ x = od) → Φ (.tuple xs) B2 := fun xs hl h => hΦ _ _ (fin xs hl h) (by omega)
  refine ws_seq (ws_if (wt_test ?_))
  walk_at "dl"
  refine if_b (fun c => ?_) (fun c => ?_)
  · refine ws_ret (wd_op (wd_lst (wa_cons (wd_cb (wa_cons (wd_var rfl (wa_nil (dc_listT ?_))))))))
    refine wa_cons (wd_non (wa_cons (wd_int (wa_cons (wd_str (wa_cons (wd_dnewE (wa_cons (wd_var rfl (wa_nil ⟨Nat.le_of_ble_eq_true rfl, ?_⟩))))))))))
    refine wd_nxc hF rfl (by decide) (by decide) (by omega) fun y y0 y1 => ?_
    refine ixAll (P := fun d => tyD d = "tuple" → Oz 4 d) y0 (by simp; omega) (fun x hx => ?_) fun x hx => ⟨_, rfl, hΦ _ _ hx (by omega)⟩
    simp only [List.mem_cons, List.not_mem_nil, or_false] at hx
    rcases hx with rfl | rfl | rfl | rfl | rfl | rfl
    · exact fun h => ty_no (s := "list") (t := "tuple") h (by decide)
    · exact fun h => ty_no (s := "NoneType") (t := "tuple") h (by decide)
    · exact fun h => ty_no (s := "int") (t := "tuple") h (by decide)
    · exact fun h => ty_no (s := "str") (t := "tuple") h (by decide)
    · exact fun h => ty_no (s := "dict") (t := "tuple") h (by decide)
    · exact fun _ => hod.mono (by decide)
  refine ws_next (ws_seq (ws_if (wt_test ?_)))
  walk_at "dl"
  refine if_b (fun c => ?_) (fun c => ?_)
  · refine ws_ret (wd_slA (wd_op (wd_var rfl (wd_int (do_repTA (by decide) (by decide) (by omega) ⟨_, rfl, ?_⟩)))))
    refine wo_none (wo_part (wd_op (wd_lst (wa_cons (wd_int (wa_cons (wd_int (wa_nil ⟨Nat.le_of_ble_eq_true rfl, ?_⟩))))))))
    refine wd_nxc hF rfl (by decide) (by decide) (by omega) fun y y0 y1 => ?_
    refine ixAll (P := fun d => d = .int 40 ∨ d = .int 41) y0 (by simp; omega) (fun x hx => ?_) fun x hx => ?_
    · simp only [List.mem_cons, List.not_mem_nil, or_false] at hx
      exact hx
    have key : ∀ (i : Int) (m : Nat), i = m → m ≤ 41 → ∃ B', B2 + 1 = B' ∧ Φ (.tuple (cutD (List.replicate (41 : Int).toNat gs).flatten none (some i))) B' := fun i m e hm => by
      rw [cutD_take e]
      refine ⟨_, rfl, hΦ _ _ (fin _ ?_ fun x hx => .inl ?_) (by omega)⟩
      · rw [List.length_take]; omega
      · obtain ⟨l, hl, hx⟩ := List.mem_flatten.mp (List.mem_of_mem_take hx)
        rw [List.eq_of_mem_replicate hl] at hx
        exact hx
    rcases hx with rfl | rfl
    · obtain ⟨B', rfl, k⟩ := key 40 40 rfl (by decide)
      exact ⟨40, rfl, _, rfl, k⟩
    · obtain ⟨B', rfl, k⟩ := key 41 41 rfl (by decide)
      exact ⟨41, rfl, _, rfl, k⟩
  refine ws_next (ws_seq (ws_if (wt_test ?_)))
  walk_at "dl"
  refine if_b (fun c => ?_) (fun c => ?_)
  · walk_at "dl"
    all_goals first | (have := c1 none (some z); have := c1 (some (z + 1)) none; (try simp only [List.length_append, List.length_cons, List.length_nil]); omega) | skip
    refine fin0 _ ?_ fun x hx => ?_
    · have := c1 none (some z); have := c1 (some (z + 1)) none; simp only [List.length_append]; omega
    · simp only [List.mem_append] at hx
      rcases hx with hx | hx
      · exact .inl (cutD_sub hx)
      · exact .inl (cutD_sub hx)
  walk_at "dl"
  refine if_b (fun c => ?_) (fun c => ?_)
  · walk_at "dl"
    all_goals first | (have := c1 none (some z); have := c1 (some z) none; (try simp only [List.length_append, List.length_cons, List.length_nil]); omega) | skip
    refine fin0 _ ?_ fun x hx => ?_
    · have := c1 none (some z); have := c1 (some z) none; simp only [List.length_append, List.length_cons, List.length_nil]; omega
    · simp only [List.mem_append, List.mem_cons, List.not_mem_nil, or_false] at hx
      rcases hx with (hx | hx) | hx
      · exact .inl (cutD_sub hx)
      · exact .inr hx
      · exact .inl (cutD_sub hx)
  · walk_at "dl"
    all_goals first | (have := c1 none (some z); have := c1 (some (z + 1)) none; (try simp only [List.length_append, List.length_cons, List.length_nil]); omega) | skip
    refine fin0 _ ?_ fun x hx => ?_
    · have := c1 none (some z); have := c1 (some (z + 1)) none; simp only [List.length_append, List.length_cons, List.length_nil]; omega
    · simp only [List.mem_append, List.mem_cons, List.not_mem_nil, or_false] at hx
      rcases hx with (hx | hx) | hx
      · exact .inl (cutD_sub hx)
      · exact .inr hx
      · exact .inl (cutD_sub hx)
end
end DL

set_option Elab.async false
set_option linter.all false
set_option maxRecDepth 100000
set_option maxHeartbeats 4000000
/-! PKE: is_folding told, law k61 -/
namespace DL
open PySem PySem.Spec PyProof.Rows L2
theorem room65 {k : Nat} {A : Around} (r : Room k A) : A.units + 65 < cLine := by have := r.un; omega
theorem lay_mem : ∀ {xs : List PyData}, PyData.canLayAll0 xs = true → ∀ x ∈ xs, x.canLay0 = true
  | [], _, _, h => nomatch h
  | y :: r, h, x, hx => by
    have h' : y.canLay0 = true ∧ PyData.canLayAll0 r = true := by simpa [PyData.canLayAll0] using h
    rcases List.mem_cons.mp hx with rfl | hx
    · exact h'.1
    · exact lay_mem h'.2 x hx
theorem depth_mem : ∀ {xs : List PyData}, ∀ x ∈ xs, x.depth ≤ PyData.depthAll xs
  | [], _, h => nomatch h
  | y :: r, x, hx => by
    rw [PyData.depthAll]
    rcases List.mem_cons.mp hx with rfl | hx
    · exact Nat.le_max_left _ _
    · exact Nat.le_trans (depth_mem x hx) (Nat.le_max_right _ _)
theorem Oz.tq {n : Nat} {d : PyData} (h : Oz n d) (hn : n ≤ 10) : Tq d := ⟨h.t, h.s.mono hn⟩
theorem Oz.mem {n : Nat} {xs : List PyData} (h : Oz n (.tuple xs)) (hn : n ≤ 10) : ∀ x ∈ xs, Tq x := fun x hx => by
  refine ⟨h.t.mem hx, ⟨lay_mem h.s.c x hx, ?_⟩⟩
  have h1 := depth_mem x hx
  have h2 : PyData.depthAll xs + 1 ≤ n := by have := h.s.d; rw [PyData.depth] at this; exact this
  omega
def TRightF : List PyData → (PyData → Prop) → Prop := fun ds Φ => ∃ (as : List PyData) (d : PyData), ds = [.tuple as, d] ∧ as.length ≤ 1000 ∧ (tyD d = "tuple" → Oz 4 d) ∧ Φ (.bool true)
local macro_rules | `(tactic| walk_at "dl") => `(tactic| repeat' (first
  | with_reducible refine wd_isTy ?_ | with_reducible refine wd_isi ?_ | ((with_reducible show WD _ _ (tOp (rIxL _) (tVar _) _) _ _); refine wd_ix_own rfl ?_) | with_reducible refine wd_op ?_ | ((with_reducible show WD _ _ (tCB (rLenX _) (tCons (tVar _) tNil)) _ _); refine wd_len_scr rfl ?_) | ((with_reducible show WD _ _ (tCB (rLenX _) (tCons (tVar _) tNil)) _ _); refine wd_len_own rfl ?_) | with_reducible refine wd_cb ?_ | with_reducible refine wd_un ?_ | with_reducible refine wa_cons ?_ | with_reducible refine wa_nil ?_ | ((with_reducible show WD _ _ (tVar _) _ _); refine wd_var rfl ?_) | with_reducible refine wd_int ?_ | with_reducible refine wd_bl ?_ | with_reducible refine wd_str ?_ | with_reducible refine wd_non ?_
  | with_reducible refine do_nesS ?_ | with_reducible refine dc_intB ?_ | with_reducible refine do_add ?_ | with_reducible refine do_sub ?_ | ((with_reducible refine do_mod ?_ ?_); decide) | with_reducible refine do_mod ?_ ?_ | with_reducible refine do_mul ?_ ?_ | ((with_reducible refine do_div ?_ ?_); exact ⟨by decide, by decide⟩) | with_reducible refine do_div ?_ ?_ | ((with_reducible refine do_pow ?_ ?_); exact ⟨by decide, by decide, by decide⟩) | with_reducible refine do_pow ?_ ?_
  | with_reducible refine do_lt ?_ | with_reducible refine do_le ?_ | with_reducible refine do_gt ?_ | with_reducible refine do_ge ?_ | with_reducible refine du_neg ?_
  | with_reducible refine do_eqi ?_ | with_reducible refine do_nei ?_ | with_reducible refine do_eqs ?_ | with_reducible refine do_nes ?_ | with_reducible refine dc_abs ?_ | with_reducible refine dc_min ?_ | with_reducible refine dc_max ?_ | with_reducible refine dc_lenL ?_ | with_reducible refine dc_lenT ?_ | with_reducible refine dc_lenR ?_ | with_reducible refine dc_listT ?_ | with_reducible refine dc_listL ?_ | with_reducible refine dc_tupL ?_ | with_reducible refine dc_gcd ?_
  | ((with_reducible show DO _ (rIxT _) _ _ _); refine do_ixT rfl ?_) | ((with_reducible show DO _ (rIxL _) _ _ _); refine do_ixL rfl ?_) | ((with_reducible refine do_catL ?_ ?_); exact Nat.le_of_ble_eq_true rfl) | with_reducible refine do_catL ?_ ?_ | ((with_reducible show And (List.length _ ≤ sizeLine) _); refine ⟨Nat.le_of_ble_eq_true rfl, ?_⟩)
  | with_reducible refine wd_dnew ?_ | with_reducible refine wd_call0 ?_ | with_reducible refine wd_slA ?_ | with_reducible refine wd_slL ?_ | with_reducible refine wd_revT ?_ | with_reducible refine do_catA ?_ ?_ | with_reducible refine wo_part ?_ | with_reducible refine wo_none ?_ | with_reducible refine do_eqQ ?_ | with_reducible refine do_neQ ?_ | with_reducible refine wi_enumT ?_ | with_reducible refine wi_enumD ?_ | with_reducible refine tAdQ (by omega) (by omega) ?_ | with_reducible refine tSbQ (by omega) (by omega) ?_ | with_reducible refine tMlQ (by omega) (by omega) ?_ | with_reducible refine tDvQ (by assumption) (by omega) (by omega) ?_ | with_reducible refine tLtQ (by omega) (by omega) ?_ | with_reducible refine dc_str ?_ ?_ | with_reducible refine wd_tup ?_ | with_reducible refine wd_lst ?_ | with_reducible refine wt_test ?_ | with_reducible refine wt_B ?_ | with_reducible refine wt_not ?_ | with_reducible refine wt_and ?_ | with_reducible refine wt_or ?_ | with_reducible refine wd_ifE ?_ | with_reducible refine wd_andV ?_ | with_reducible refine wd_orV ?_ | with_reducible refine wd_notV ?_
  | with_reducible refine ws_seq ?_ | with_reducible refine ws_next ?_ | with_reducible refine ws_asg ?_ | with_reducible refine ws_ret ?_ | with_reducible refine ws_retN ?_ | with_reducible refine ws_if ?_ | with_reducible refine ws_par ?_ | with_reducible refine ws_unp2 ?_
  | with_reducible refine if_t ?_ | with_reducible refine if_f ?_ | with_reducible refine if_nf ?_ | with_reducible refine if_nt ?_
  | ((with_reducible show Exists _); first | refine ⟨_, kitInt _, ?_⟩ | refine ⟨_, kitBool _, ?_⟩ | refine ⟨_, kitTup _, ?_⟩ | refine ⟨_, kitList _, ?_⟩ | refine ⟨_, rfl, ?_⟩ | refine ⟨_, _, rfl, ?_⟩ | fail) | fail))
def t_rightF (K : PySem.W.Frag) : TS :=
  (tSeq (tAsg (tCall (spP K TDueL) [] E0 (tCons (tCB (rLenX K) (tCons (tVar 0) tNil)) (tCons (tVar 1) tNil))) (gName 2))
    (tSeq (tAsg (tLst (tCons (tCall (spP K TFolding) [] E0 (tCons (tVar 0) (tCons (tVar 1) tNil))) (tCons (tCall (spP K TFolding) [] E0 (tCons (tCB (rListOf K) (tCons (tVar 0) tNil)) (tCons (tVar 1) tNil))) tNil))) (gName 3))
    (tSeq (tDrop (tBM K "list" rAppend (tVar 3) (tCons (tCallN 0 2 (spP K TFolding) gVrev E0 tNil (tCons (tVar 1) (tCons (tVar 0) tNil))) tNil)))
    (tRet (tOp rEq (tCB (rReprY K) (tCons (tVar 3) tNil)) (tCB (rReprY K) (tCons (tOp rRepL (tLst (tCons (tVar 2) tNil)) (tC (.int 3))) tNil)))))))
def t_deck (K : PySem.W.Frag) : TS :=
  (tRet (tLst (tCons (tVar 0) (tCons (tC (.int 0)) (tCons (tC (.int 0)) (tCons (tC (.int 0)) (tCons (tOp rAddI (tCB (rSum K) (tCons (tVar 0) tNil)) (tOp rMulI (tC (.int 104729)) (tVar 1))) tNil)))))))
def t_law61 (K : PySem.W.Frag) : TS :=
  (tSeq (tFor (iRng1 (tCons (tC (.int 6)) tNil)) (gName 1) (tSeq (tAsg (tCall (spDeck K) [] E0 (tCons (tStep K 63 6 (tVar 0) (tVar 1)) (tCons (tVar 1) tNil))) (gName 2))
    (tSeq (tAsg (tOp (rIxL K) (tLst (tCons (tOp rAddI (tC (.int 1)) (tCall (spS K FDk TNext) [] E0 (tCons (tVar 2) (tCons (tC (.int 6)) tNil)))) (tCons (tOp rAddI (tC (.int 1)) (tCall (spS K FDk TNext) [] E0 (tCons (tVar 2) (tCons (tC (.int 40)) tNil)))) tNil))) (tCall (spS K FDk TNext) [] E0 (tCons (tVar 2) (tCons (tC (.int 2)) tNil)))) (gName 3))
    (tSeq (tAsg (tCall (spS K FDk TAmts) [] E0 (tCons (tVar 2) (tCons (tVar 3) tNil))) (gName 4))
    (tSeq (tAsg (tCall (spS K FDk TFoldL) [] E0 (tCons (tVar 2) (tCons (tVar 3) (tCons (tC (.int 40)) tNil)))) (gName 5))
    (tSeq (tIfS (tNot (tB (tCall (spP K TRightF) [] E0 (tCons (tVar 4) (tCons (tVar 5) tNil))))) (tRet (tC (.bl false))) tNext)
    (tFor (iRng1 (tCons (tC (.int 6)) tNil)) (gName 6) (tIfS (tNot (tB (tCall (spP K TRightF) [] E0 (tCons (tVar 4) (tCons (tCall (spS K FDk TSpL) [] E0 (tCons (tVar 2) (tCons (tVar 3) (tCons (tVar 5) tNil)))) tNil))))) (tRet (tC (.bl false))) tNext))))))))
    (tRet (tCall (spP K TFolding) [] E0 (tCons (tTup (tCons (tTup (tCons (tC (.int 1)) (tCons (tC (.int 2)) tNil))) tNil)) (tCons (tTup (tCons (tTup (tCons (tC (.int 0)) tNil)) (tCons (tTup (tCons (tC (.int 0)) tNil)) tNil))) tNil)))))
section
variable {K : PySem.W.Frag} {S : Stt} {ρ : Rho} {Ψ : PyData → Prop}
theorem do_repL3 {x : PyData} (h : Ψ (.list [x, x, x])) : DO K rRepL (.list [x]) (.int 3) Ψ := fun N H hN u w hu hw Q q => by
  obtain ⟨p, us, rfl, _, h1, h2⟩ := hu.lst_inv
  cases hw
  have l1 : us.length = 1 := h2.len
  refine ⟨p, 3, us, rfl, rfl, h1, ⟨by decide, by decide⟩, by rw [l1]; decide, fun z hz => ?_⟩
  have s := same_new hz (.lst (List.replicate (3 : Int).toNat us).flatten)
  have e : (List.replicate (3 : Int).toNat us).flatten = us ++ (us ++ us) := by
    show (List.replicate 3 us).flatten = _
    simp
  rw [e] at s ⊢
  exact q _ _ _ h s (Dq.lst (fresh_av hN hz) upd_same ((h2.append (h2.append h2)).keep (Keep.of s)))
theorem rs_bls {bs : List Bool} (h : bs.length ≤ 3) : Rs 100 2 (.list (bs.map PyData.bool)) := (Rs.lst (n := 3) (L := 10) (D := 1) (fun x hx => by
  obtain ⟨b, _, rfl⟩ := List.mem_map.mp hx
  exact rs_bool) (by rw [List.length_map]; exact h)).mono (by decide) (by decide)
theorem deck_run {vs : List V} {H : Hp} {Q : VK} {E : XK} (h : spDeck K vs H Q E) : t_deck K { nx := fun _ H' => Q .non H', rt := Q } (L2.start ["_law_cells", "_law_salt"] vs) H := by
  obtain ⟨N, ns, k, ht, hd, k0, k1, hQ⟩ := h
  cases hd with
  | cons d1 d2 =>
  cases d2 with
  | cons d2 d3 =>
  cases d3
  cases d2
  have d1' : Dq K N H _ (.list (ns.map PyData.int)) := d1
  obtain ⟨a, us, rfl, _, ha, hu⟩ := d1'.lst_inv
  obtain rfl := hu.of_ints
  show t_deck K { nx := fun _ H' => Q .non H', rt := Q } [some (.ref a), some (.int k)] H
  unfold t_deck
  refine ⟨_, rfl, ?_⟩
  dsimp only [tC]
  refine ⟨_, rfl, a, ns, rfl, .inl ha, ?_⟩
  refine ⟨_, rfl, 104729, k, rfl, rfl, wide_mul (a := 20) (b := 20) (by decide) (by omega) (by decide) (by decide) (by decide), _, _, rfl, rfl, ?_⟩
  refine ⟨by show 5 ≤ sizeLine; decide, fun p hp => ?_⟩
  dsimp only
  exact hQ _ p _ _ hp (same_new hp _) upd_same (.cons d1 (.cons (.int _) (.cons (.int _) (.cons (.int _) (.cons (.int _) .nil)))))
theorem ws_rightF {ds : List PyData} {Φ : PyData → Prop} (h : TRightF ds Φ) : WS K S0 (t_rightF K) (rhoOf 4 ds) { nx := fun _ => Φ .none, rt := fun d _ => Φ d } := by
  obtain ⟨as, d, rfl, al, hd, hΦ⟩ := h
  show WS K S0 (t_rightF K) [.dat (.tuple as), .dat d, .unk, .unk] _
  unfold t_rightF
  refine ws_seq (ws_asg (wd_call0 (wa_cons (wd_cb (wa_cons (wd_var rfl (wa_nil (dc_lenT (wa_cons (wd_var rfl (wa_nil ⟨_, d, rfl, fun h => (hd h).tq (by decide), fun xs e x hx => ?_, ?_⟩)))))))))))
  · subst e; exact (hd rfl).mem (by decide) x hx
  have tm : tyD d = "tuple" → Tm d := fun h => (hd h).t
  show WS K S0 _ [.dat (.tuple as), .dat d, .dat (.bool (foldP as.length d)), .unk] _
  generalize hb : foldP as.length d = b
  refine ws_seq (ws_own (wa_cons (wd_call0 (wa_cons (wd_var rfl (wa_cons (wd_var rfl (wa_nil ⟨false, as, d, rfl, al, tm, ?_⟩))))))))
  refine wa_cons (wd_call0 (wa_cons (wd_cb (wa_cons (wd_var rfl (wa_nil (dc_listT (wa_cons (wd_var rfl (wa_nil ⟨true, as, d, rfl, al, tm, ?_⟩))))))))))
  refine wa_nil ⟨by show 2 ≤ sizeLine; decide, ?_⟩
  rw [hb]
  refine ws_seq (ws_append (i := 3) rfl (wd_callN (gD := gDrev) (fun _ _ _ _ _ _ _ h => dq_rev h) (wa_nil (wa_cons (wd_var rfl (wa_cons (wd_var rfl (wa_nil ⟨rfl, rfl, false, as, d, rfl, al, tm, _, rfl, by show 2 < sizeLine; decide, ?_⟩))))))))
  rw [hb]
  refine ws_frz (i := 3) rfl ?_
  have rs : Rs 100 2 (.list [.bool b, .bool b, .bool b]) := rs_bls (bs := [b, b, b]) (Nat.le_refl 3)
  show WS K S0 _ [.dat (.tuple as), .dat d, .dat (.bool b), .dat (.list [.bool b, .bool b, .bool b])] _
  refine ws_ret (wd_op (wd_cb (wa_cons (wd_var rfl (wa_nil (dc_reprY rs (by rw [sizeLine_eq]; decide) (by decide) ?_))))))
  refine wd_cb (wa_cons (wd_op (wd_lst (wa_cons (wd_var rfl (wa_nil ⟨Nat.le_of_ble_eq_true rfl, wd_int (do_repL3 ?_)⟩))))))
  refine wa_nil (dc_reprY rs (by rw [sizeLine_eq]; decide) (by decide) (do_eqs ?_))
  show Φ (.bool (decide _))
  rw [decide_eq_true rfl]
  exact hΦ
theorem ws_law61 {ns : List Int} (hl : ns.length ≤ 63) : WS K S0 (t_law61 K) (.scr ns :: List.replicate 6 .unk) { nx := fun _ => False, rt := fun d _ => d = .bool true } := by
  show WS K S0 (t_law61 K) [.scr ns, .unk, .unk, .unk, .unk, .unk, .unk] _
  unfold t_law61
  refine ws_seq (ws_for (wi_rng1 (wa_cons (wd_int (wa_nil ⟨6, rfl, by decide, by decide, ?_⟩)))))
  refine ⟨fun k ρ => ∃ s1 s2 s3 s4 s5 s6 : Sl, ρ = [.scr ns, s1, s2, s3, s4, s5, s6], ⟨_, _, _, _, _, _, rfl⟩, ?_, ?_⟩
  · rintro k d ρ2 hd ⟨s1, s2, s3, s4, s5, s6, rfl⟩
    have hk : k < 6 := by
      have := (List.getElem?_eq_some_iff.mp hd).1
      simpa using this
    have ed : d = .int (0 + (k : Int)) := by
      obtain ⟨h1, h2⟩ := List.getElem?_eq_some_iff.mp hd
      simp at h2
      rw [← h2]; simp
    subst ed
    refine ⟨_, _, gd_name, ws_wipe [2, 3, 4, 5, 6] ?_⟩
    show WS K S0 _ [.scr ns, .dat (.int (0 + (k : Int))), .unk, .unk, .unk, .unk, .unk] _
    refine ws_seq (ws_callDeck (wa_cons (wd_step rfl (wd_var rfl ⟨_, rfl, rfl, fun cs hc => ?_⟩))))
    refine wa_cons (wd_var rfl (wa_nil ⟨cs, _, rfl, by omega, by omega, by omega, fun d0 hd0 => ?_⟩))
    show WS K S0 _ [.scr ns, .dat (.int (0 + (k : Int))), .own d0, .unk, .unk, .unk, .unk] _
    refine ws_seq (ws_asg (wd_op (wd_lst (wa_cons (wd_op (wd_int (wd_nxo rfl hd0 (by decide) (by decide) (by decide) fun a a0 a1 d1 hd1 => do_add ?_)))))))
    refine wa_cons (wd_op (wd_int (wd_nxo rfl hd1 (by decide) (by decide) (by decide) fun b b0 b1 d2 hd2 => do_add (wa_nil ⟨Nat.le_of_ble_eq_true rfl, ?_⟩))))
    refine wd_nxo rfl hd2 (by decide) (by decide) (by decide) fun c c0 c1 d3 hd3 => ?_
    refine ixAll (P := fun d => ∃ n : Nat, d = .int n ∧ 1 ≤ n ∧ n ≤ 40) c0 (by simp; omega) (fun x hx => ?_) fun x hx => ?_
    · simp only [List.mem_cons, List.not_mem_nil, or_false] at hx
      rcases hx with rfl | rfl
      · exact ⟨(1 + a).toNat, by rw [Int.toNat_of_nonneg (by omega)], by omega, by omega⟩
      · exact ⟨(1 + b).toNat, by rw [Int.toNat_of_nonneg (by omega)], by omega, by omega⟩
    obtain ⟨n, rfl, n1, n2⟩ := hx
    show WS K S0 _ [.scr ns, .dat (.int (0 + (k : Int))), .own d3, .dat (.int n), .unk, .unk, .unk] _
    refine ws_seq (ws_asg (wd_callDk rfl (wa_cons (wd_var rfl (wa_nil ⟨_, _, rfl, hd3, by simp [noLs, noL], n, rfl, by omega, by omega, by decide, fun as B1 hal hB1 d4 hd4 => ?_⟩)))))
    show WS K S0 _ [.scr ns, .dat (.int (0 + (k : Int))), .own d4, .dat (.int n), .dat (.tuple as), .unk, .unk] _
    refine ws_seq (ws_asg (wd_callDk rfl (wa_cons (wd_var rfl (wa_cons (wd_int (wa_nil ⟨_, _, rfl, hd4, by simp [noLs, noL], n, 40, rfl, n1, n2, by decide, by decide, by omega, fun fs B2 hfl hfn hfx hB2 d5 hd5 => ?_⟩)))))))
    show WS K S0 _ [.scr ns, .dat (.int (0 + (k : Int))), .own d5, .dat (.int n), .dat (.tuple as), .dat (.tuple (fs.map tI)), .unk] _
    have hal2 : as.length ≤ 1000 := by omega
    have hfo : Oz 4 (.tuple (fs.map tI)) := (Oz.tup (n := 1) (fun x hx => by
      obtain ⟨f, hf, rfl⟩ := List.mem_map.mp hx
      exact Oz.tI (fun x hx => by have := hfx f hf x hx; omega) (by have := hfn f hf; omega)) (by rw [List.length_map]; omega)).mono (by decide)
    refine ws_seq (ws_if (wt_not (wt_B (wd_call0 (wa_cons (wd_var rfl (wa_cons (wd_var rfl (wa_nil ⟨as, _, rfl, hal2, fun _ => hfo, true, rfl, if_nt (ws_next ?_)⟩)))))))))
    refine ws_for (wi_rng1 (wa_cons (wd_int (wa_nil ⟨6, rfl, by decide, by decide, ?_⟩))))
    refine ⟨fun j ρ => ∃ (dj : List PyData) (s6 : Sl), dkS (2000 + 200 * j) dj ∧ ρ = [.scr ns, .dat (.int (0 + (k : Int))), .own dj, .dat (.int n), .dat (.tuple as), .dat (.tuple (fs.map tI)), s6], ⟨d5, _, hd5.mono (by omega), rfl⟩, ?_, ?_⟩
    · rintro j d ρ3 hd3 ⟨dj, s6, hdj, rfl⟩
      have hj : j < 6 := by
        have := (List.getElem?_eq_some_iff.mp hd3).1
        simpa using this
      refine ⟨_, _, gd_name, ?_⟩
      refine ws_if (wt_not (wt_B (wd_call0 (wa_cons (wd_var rfl (wa_cons (wd_callDk rfl (wa_cons (wd_var rfl (wa_cons (wd_var rfl (wa_nil ⟨_, _, rfl, hdj, ?_, n, fs, rfl, n1, n2, hfl, ?_, by omega, fun z B3 hz hB3 dk hdk => ?_⟩))))))))))))
      · simp [noLs, noL, noL_tIs]
      · exact fun f hf => ⟨by have := hfn f hf; omega, fun x hx => by have := hfx f hf x hx; omega⟩
      · exact wa_nil ⟨as, _, rfl, hal2, hz, true, rfl, if_nt (ws_next ⟨dk, _, hdk.mono (by omega), rfl⟩)⟩
    · rintro ρ3 ⟨dj, s6, _, rfl⟩
      exact ⟨_, _, _, _, _, _, rfl⟩
  · rintro ρ2 ⟨s1, s2, s3, s4, s5, s6, rfl⟩
    refine ws_ret (wd_call0 ?_)
    walk_at "dl"
    refine ⟨false, [.tuple [.int 1, .int 2]], .tuple [.tuple [.int 0], .tuple [.int 0]], rfl, by decide, fun _ => ?_, ?_⟩
    · exact (Oz.tup (n := 1) (xs := [tI [0], tI [0]]) (fun x hx => by
        simp only [List.mem_cons, List.not_mem_nil, or_false] at hx
        rcases hx with rfl | rfl <;> exact Oz.tI (g := [0]) (fun x hx => by rw [List.mem_singleton] at hx; omega) (by decide)) (by decide)).t
    · rw [show foldP (([.tuple [.int 1, .int 2]] : List PyData).length : Int) (.tuple [.tuple [.int 0], .tuple [.int 0]]) = true from by decide +kernel]
end
end DL

set_option Elab.async false
set_option linter.all false
set_option maxRecDepth 100000
set_option maxHeartbeats 4000000
namespace DL
open PySem PySem.Spec PyProof.Rows L2
section
variable {P : Program} {w : World} {K : PySem.W.Frag} {mg : Str → Option Value} {base : Heap} {f : Addr} {fd : FuncData}
theorem ok_is_whole  (F : FnP K "is_whole" s_is_whole f fd) (z_int : mg "int" = none) (z_type : mg "type" = none)  : FnOk P w K mg base CX0 1 f fd ["thing"] (spP K TWholeA) := by
  refine F.ok sc_is_whole (fun vs H Q E h => spP_len (n := 1) (fun ds Φ ⟨_, e, _⟩ => by rw [e]; rfl) h) (fun cdv A outer s H vs Q E hr h => ⟨t_whole K, PSs.nox ?_, run_P h fun ds Φ t => ws_whole t⟩)
  exact (pss_one (ps_ret (pe_cmpR op_isTyB (pe_callTy call_type1 (by rfl) z_type (by decide +kernel) (pa_cons (pv 0) pa_nil)) (pe_bltn (by rfl) z_int (by decide +kernel) rfl) (nomark _))))
theorem ok_is_rising  (F : FnP K "is_rising" s_is_rising f fd) (z_all : mg "all" = none) (z_len : mg "len" = none) (z_range : mg "range" = none)  : FnOk P w K mg base CX0 1 f fd ["row"] (spP K TRising) := by
  refine F.ok sc_is_rising (fun vs H Q E h => spP_len (n := 1) (fun ds Φ ⟨_, e, _⟩ => by rw [e]; rfl) h) (fun cdv A outer s H vs Q E hr h => ⟨t_rising K, PSs.nox ?_, run_P h fun ds Φ t => ws_rising t⟩)
  exact (pss_one (ps_ret (pe_callB (cr_all rfl) (by rfl) z_all (by decide +kernel) (pa_cons (pe_lc (own := [("at", 1)]) (g := (gName 1)) rfl sc_is_rising.nd (pi_range1 rfl z_range (pa_cons (pe_op op_sub (pe_callB call_len_seq (by rfl) z_len PySem.boot_len (pa_cons (pv 0) pa_nil)) pe_int) pa_nil)) (blkOk_by (N := ["row", "at"]) (sc := defScope s_is_rising) (by decide +kernel)) (fun _ _ _ _ _ => (pg_name (i := 1) sc_is_rising.nd rfl (by first | exact Or.inl rfl | exact Or.inr rfl))) (fun _ _ _ _ _ => pts_nil) (fun _ _ _ _ _ => (pe_cmpR op_lt (pe_ix ix_tup (pv 0) (pv 1) (fun _ _ => rfl)) (pe_ix ix_tup (pv 0) (pe_op op_add (pv 1) pe_int) (fun _ _ => rfl)) (nomark _)))) pa_nil))))
theorem ok_is_set  (F : FnP K "_is_set" s_is_set f fd) (z_all : mg "all" = none) (z_len : mg "len" = none) (z_tuple : mg "tuple" = none) (z_type : mg "type" = none) (h_is_rising : Has P w K mg base CX0 "is_rising" 1 ["row"] (spP K TRising) []) (h_is_whole : Has P w K mg base CX0 "is_whole" 1 ["thing"] (spP K TWholeA) [])  : FnOk P w K mg base CX0 2 f fd ["many", "thing"] (spP K TIsSet) := by
  refine F.ok sc_is_set (fun vs H Q E h => spP_len (n := 2) (fun ds Φ ⟨_, _, e, _⟩ => by rw [e]; rfl) h) (fun cdv A outer s H vs Q E hr h => ⟨t_isset K, PSs.nox ?_, run_P h fun ds Φ t => ws_isset t⟩)
  exact (pss_cons (ps_if (pt_not (PW.pt (pw_and (pt_cmpR op_isTyB (pe_callTy call_type1 (by rfl) z_type (by decide +kernel) (pa_cons (pv 1) pa_nil)) (pe_bltn (by rfl) z_tuple (by decide +kernel) rfl) (nomark _)) (pw_and1 (pt_chain op_le op_le pe_int (pe_callB call_len_seq (by rfl) z_len PySem.boot_len (pa_cons (pv 1) pa_nil)) (pv 0)))))) (pss_one (ps_ret pe_bl)) pss_nil)
      (pss_one (ps_ret (pe_and (pe_callB (cr_all rfl) (by rfl) z_all (by decide +kernel) (pa_cons (pe_lc (own := [("place", 2)]) (g := (gName 2)) rfl sc_is_set.nd (pi_tup (pv 1)) (blkOk_by (N := ["many", "thing", "place"]) (sc := defScope s_is_set) (by decide +kernel)) (fun _ _ _ _ _ => (pg_name (i := 2) sc_is_set.nd rfl (by first | exact Or.inl rfl | exact Or.inr rfl))) (fun _ _ _ _ _ => pts_nil) (fun _ _ _ _ _ => (pe_and (pe_has h_is_whole (hr.mono (by decide)) pass0 (pa_cons (pv 2) pa_nil)) (pe_one (pe_chain op_le op_lt pe_int (pv 2) (pv 0)))))) pa_nil)) (pe_one (pe_has h_is_rising (hr.mono (by decide)) pass0 (pa_cons (pv 1) pa_nil)))))))
theorem ok_is_folding {t40 : Tok} (F : FnP K "is_folding" s_is_folding f fd) (z_all : mg "all" = none) (z_len : mg "len" = none) (z_sum : mg "sum" = none) (z_tuple : mg "tuple" = none) (z_type : mg "type" = none) (h__is_set : Has P w K mg base CX0 "_is_set" 2 ["many", "thing"] (spP K TIsSet) []) (c__MOST_SETS : mg "_MOST_SETS" = some (Value.int 40 t40) ∧ RelV (V.int 40) (Value.int 40 t40)) : FnOk P w K mg base CX0 3 f fd ["amounts", "thing"] (spP K TFolding) := by
  refine F.ok sc_is_folding (fun vs H Q E h => spP_len (n := 2) (fun ds Φ ⟨_, _, _, e, _⟩ => by rw [e]; rfl) h) (fun cdv A outer s H vs Q E hr h => ⟨t_folding K, PSs.nox ?_, run_P h fun ds Φ t => ws_folding t⟩)
  exact (pss_cons (ps_if (pt_not (PW.pt (pw_and (pt_cmpR op_isTyB (pe_callTy call_type1 (by rfl) z_type (by decide +kernel) (pa_cons (pv 1) pa_nil)) (pe_bltn (by rfl) z_tuple (by decide +kernel) rfl) (nomark _)) (pw_and1 (pt_cmpR op_le (pe_callB call_len_seq (by rfl) z_len PySem.boot_len (pa_cons (pv 1) pa_nil)) (pe_glob rfl c__MOST_SETS.1 c__MOST_SETS.2) (nomark _)))))) (pss_one (ps_ret pe_bl)) pss_nil)
      (pss_cons (ps_if (pt_not (pt_val (pe_callB (cr_all rfl) (by rfl) z_all (by decide +kernel) (pa_cons (pe_lc (own := [("one", 3)]) (g := (gName 3)) rfl sc_is_folding.nd (pi_tup (pv 1)) (blkOk_by (N := ["amounts", "thing", "masks", "one", "other", "place"]) (sc := defScope s_is_folding) (by decide +kernel)) (fun _ _ _ _ _ => (pg_name (i := 3) sc_is_folding.nd rfl (by first | exact Or.inl rfl | exact Or.inr rfl))) (fun _ _ _ _ _ => pts_nil) (fun _ _ _ _ _ => (pe_has h__is_set (hr.mono (by decide)) pass0 (pa_cons (pe_callB call_len_seq (by rfl) z_len PySem.boot_len (pa_cons (pv 0) pa_nil)) (pa_cons (pv 3) pa_nil))))) pa_nil)))) (pss_one (ps_ret pe_bl)) pss_nil)
      (pss_cons (ps_set (i := 2) sc_is_folding.nd rfl (by first | exact Or.inl rfl | exact Or.inr rfl) (pe_lc (own := [("one", 3)]) (g := (gName 3)) rfl sc_is_folding.nd (pi_tup (pv 1)) (blkOk_by (N := ["amounts", "thing", "masks", "one", "other", "place"]) (sc := defScope s_is_folding) (by decide +kernel)) (fun _ _ _ _ _ => (pg_name (i := 3) sc_is_folding.nd rfl (by first | exact Or.inl rfl | exact Or.inr rfl))) (fun _ _ _ _ _ => pts_nil) (fun _ _ _ _ _ => (pe_callB (cr_sum rfl) (by rfl) z_sum (by decide +kernel) (pa_cons (pe_lc (own := [("place", 5)]) (g := (gName 5)) rfl sc_is_folding.nd (pi_tup (pv 3)) (blkOk_by (N := ["amounts", "thing", "masks", "one", "other", "place"]) (sc := { kind := .function, names := [(".0", .local), ("one", .local), ("sum", .globalImplicit)], isGenerator := false, isCoroutine := false }) (by decide +kernel)) (fun _ _ _ _ _ => (pg_name (i := 5) sc_is_folding.nd rfl (by first | exact Or.inl rfl | exact Or.inr rfl))) (fun _ _ _ _ _ => pts_nil) (fun _ _ _ _ _ => (pe_op op_oneShl pe_int (pv 5)))) pa_nil)))))
      (pss_one (ps_ret (pe_callB (cr_all rfl) (by rfl) z_all (by decide +kernel) (pa_cons (pe_lc2 (own := [("one", 3), ("other", 4)]) (vs1 := [4]) (g := (gName 3)) (g1 := (gName 4)) rfl sc_is_folding.nd (pi_list (pv 2)) (blkOk_by (N := ["amounts", "thing", "masks", "one", "other", "place"]) (sc := defScope s_is_folding) (by decide +kernel)) (by decide) (fun _ _ _ _ _ => (pg_name (i := 3) sc_is_folding.nd rfl (by first | exact Or.inl rfl | exact Or.inr rfl))) (fun _ _ _ _ _ => pts_nil) (fun _ _ _ _ _ => (pi_list (pv 2))) (fun _ _ _ _ _ => (pg_name (i := 4) sc_is_folding.nd rfl (by first | exact Or.inl rfl | exact Or.inr rfl))) (fun _ _ _ _ _ => pts_nil) (fun _ _ _ _ _ => (pe_cmpR op_in_seq (pe_op op_and (pv 3) (pv 4)) (pe_tup (pa_cons pe_int (pa_cons (pv 3) (pa_cons (pv 4) pa_nil)))) (by rfl)))) pa_nil)))))))
theorem ok_law_mix  (F : FnP K "_law_mix" s_law_mix f fd)   : FnOk P w K mg base CX0 1 f fd ["_law_cell", "_law_k"] (spP K TMix) := by
  refine F.ok sc_law_mix (fun vs H Q E h => spP_len (n := 2) (fun ds Φ ⟨_, _, e, _⟩ => by rw [e]; rfl) h) (fun cdv A outer s H vs Q E hr h => ⟨t_mix K, PSs.nox ?_, run_P h fun ds Φ t => ws_mix t⟩)
  exact (pss_cons (ps_set (i := 2) sc_law_mix.nd rfl (by first | exact Or.inl rfl | exact Or.inr rfl) (pe_op op_modN (pe_op op_add (pe_op op_add (pe_op op_add (pe_op op_modN (pv 0) pe_int) (pe_op op_mulW (pe_op op_mulW pe_int (pv 1)) (pv 1))) (pe_op op_mulW pe_int (pv 1))) pe_int) pe_int))
      (pss_cons (ps_set (i := 2) sc_law_mix.nd rfl (by first | exact Or.inl rfl | exact Or.inr rfl) (pe_op op_modN (pe_op op_mulW (pv 2) (pv 2)) pe_int))
      (pss_one (ps_ret (pe_op op_add (pe_op op_mulW (pe_op op_fdivX (pe_op op_modN (pe_op op_mulW (pv 2) (pe_op op_add (pv 2) pe_int)) pe_int) pe_int) pe_int) (pe_op op_fdivX (pv 2) pe_int))))))
theorem ok_law_deck  (F : FnP K "_law_deck" s_law_deck f fd) (z_sum : mg "sum" = none)  : FnOk P w K mg base CX0 1 f fd ["_law_cells", "_law_salt"] (spDeck K) := by
  refine F.ok sc_law_deck (fun vs H Q E h => by obtain ⟨N, ns, k, _, hd, _⟩ := h; exact hd.len) (fun cdv A outer s H vs Q E hr h => ⟨t_deck K, PSs.nox ?_, deck_run h⟩)
  exact (pss_one (ps_ret (pe_lst (pa_cons (pv 0) (pa_cons pe_int (pa_cons pe_int (pa_cons pe_int (pa_cons (pe_op op_add (pe_callB (cr_sum rfl) (by rfl) z_sum (by decide +kernel) (pa_cons (pv 0) pa_nil)) (pe_op op_mulW pe_int (pv 1))) pa_nil))))))))
theorem ok_law_next  (F : FnP K "_law_next" s_law_next f fd) (z_len : mg "len" = none) (h__law_mix : Has P w K mg base CX0 "_law_mix" 1 ["_law_cell", "_law_k"] (spP K TMix) [])  : FnOk P w K mg base CX0 2 f fd ["_law_deck_here", "_law_many"] (spS K FDk TNext) := by
  refine F.ok sc_law_next (fun vs H Q E h => spS_len (n := 1) (fun B ds Φ ⟨_, e, _⟩ => by rw [e]; rfl) h) (fun cdv A outer s H vs Q E hr h => ⟨t_next K, PSs.nox ?_, next_run h⟩)
  exact (pss_cons (ps_if (PW.pt (pw_and (pt_cmpR op_eq (pe_ix ix_list (pv 0) pe_int (fun _ _ => rfl)) pe_int (nomark _)) (pw_and1 (pt_cmpR op_lt (pe_ix ix_list (pv 0) pe_int (fun _ _ => rfl)) (pe_callB call_len_seq (by rfl) z_len PySem.boot_len (pa_cons (pe_ix ix_list (pv 0) pe_int (fun _ _ => rfl)) pa_nil)) (nomark _))))) (pss_cons (ps_set (i := 2) sc_law_next.nd rfl (by first | exact Or.inl rfl | exact Or.inr rfl) (pe_ix ix_list (pe_ix ix_list (pv 0) pe_int (fun _ _ => rfl)) (pe_ix ix_list (pv 0) pe_int (fun _ _ => rfl)) (fun _ _ => rfl)))
      (pss_cons (ps_asg (pe_op op_add (pe_ix ix_list (pv 0) pe_int (fun _ _ => rfl)) pe_int) (pg_sub (pv 0) pe_int set_list))
      (pss_cons (ps_if (pt_cmpR op_lt (pv 2) (pe_op op_pow pe_int pe_int) (nomark _)) (pss_one (ps_ret (pe_op op_modN (pe_has h__law_mix (hr.mono (by decide)) pass0 (pa_cons (pv 2) (pa_cons (pe_ix ix_list (pv 0) pe_int (fun _ _ => rfl)) pa_nil))) (pv 1)))) pss_nil)
      (pss_one (ps_asg (pv 2) (pg_sub (pv 0) pe_int set_list)))))) pss_nil)
      (pss_cons (ps_if (pt_cmpR op_gt (pe_ix ix_list (pv 0) pe_int (fun _ _ => rfl)) pe_int (nomark _)) (pss_cons (ps_set (i := 3) sc_law_next.nd rfl (by first | exact Or.inl rfl | exact Or.inr rfl) (pe_op op_modN (pe_ix ix_list (pv 0) pe_int (fun _ _ => rfl)) (pv 1)))
      (pss_cons (ps_asg (pe_op op_fdivX (pe_ix ix_list (pv 0) pe_int (fun _ _ => rfl)) (pv 1)) (pg_sub (pv 0) pe_int set_list))
      (pss_one (ps_ret (pv 3))))) pss_nil)
      (pss_cons (ps_asg (pe_op op_add (pe_ix ix_list (pv 0) pe_int (fun _ _ => rfl)) pe_int) (pg_sub (pv 0) pe_int set_list))
      (pss_one (ps_ret (pe_op op_modN (pe_has h__law_mix (hr.mono (by decide)) pass0 (pa_cons (pe_ix ix_list (pv 0) pe_int (fun _ _ => rfl)) (pa_cons (pe_op op_add (pe_ix ix_list (pv 0) pe_int (fun _ _ => rfl)) pe_int) pa_nil))) (pv 1)))))))
theorem ok_law_frac  (F : FnP K "_law_frac" s_law_frac f fd) (z_abs : mg "abs" = none)  : FnOk P w K mg base CX0 1 f fd ["_law_above", "_law_below"] (spP K TFrac) := by
  refine F.ok sc_law_frac (fun vs H Q E h => spP_len (n := 2) (fun ds Φ ⟨_, _, e, _⟩ => by rw [e]; rfl) h) (fun cdv A outer s H vs Q E hr h => ⟨t_frac K, PSs.nox ?_, run_P h fun ds Φ t => ws_frac t⟩)
  exact (pss_cons (ps_par (by rfl) sc_law_frac.nd (i := 2) (j := 3) rfl rfl (by decide) rfl rfl (pa_cons (pe_callB call_abs (by rfl) z_abs (by decide +kernel) (pa_cons (pv 0) pa_nil)) (pa_cons (pv 1) pa_nil)) (by rfl))
      (pss_cons (ps_while PassesOwn.never (pt_cmpR op_gt (pv 3) pe_int (nomark _)) (pss_one (ps_par (by rfl) sc_law_frac.nd (i := 2) (j := 3) rfl rfl (by decide) rfl rfl (pa_cons (pv 3) (pa_cons (pe_op op_modN (pv 2) (pv 3)) pa_nil)) (by rfl))))
      (pss_one (ps_ret (pe_tup (pa_cons (pe_op op_fdivX (pv 0) (pv 2)) (pa_cons (pe_op op_fdivX (pv 1) (pv 2)) pa_nil)))))))
theorem ok_law_amounts  (F : FnP K "_law_amounts" s_law_amounts f fd) (z_range : mg "range" = none) (z_tuple : mg "tuple" = none) (h__law_frac : Has P w K mg base CX0 "_law_frac" 1 ["_law_above", "_law_below"] (spP K TFrac) []) (h__law_next : Has P w K mg base CX0 "_law_next" 2 ["_law_deck_here", "_law_many"] (spS K FDk TNext) [])  : FnOk P w K mg base CX0 3 f fd ["_law_deck_here", "_law_many"] (spS K FDk TAmts) := by
  refine F.ok sc_law_amounts (fun vs H Q E h => spS_len (n := 1) (fun B ds Φ ⟨_, e, _⟩ => by rw [e]; rfl) h) (fun cdv A outer s H vs Q E hr h => ⟨t_amts K, PSs.nox ?_, run_S h (fun S B ds Φ hF t => ws_amts hF t) (by decide)⟩)
  exact (pss_cons (ps_set (i := 2) sc_law_amounts.nd rfl (by first | exact Or.inl rfl | exact Or.inr rfl) (pe_has h__law_next (hr.mono (by decide)) pass0 (pa_cons (pv 0) (pa_cons pe_int pa_nil))))
      (pss_cons (ps_set (i := 3) sc_law_amounts.nd rfl (by first | exact Or.inl rfl | exact Or.inr rfl) (pe_lst pa_nil))
      (pss_cons (ps_for PassesOwn.never rfl (pi_range1 rfl z_range (pa_cons (pv 1) pa_nil)) (pg_name (i := 4) sc_law_amounts.nd rfl (by first | exact Or.inl rfl | exact Or.inr rfl)) (pss_cons (ps_set (i := 5) sc_law_amounts.nd rfl (by first | exact Or.inl rfl | exact Or.inr rfl) (pe_has h__law_next (hr.mono (by decide)) pass0 (pa_cons (pv 0) (pa_cons (pe_ix ix_list (pe_lst (pa_cons pe_int (pa_cons pe_int (pa_cons pe_int (pa_cons pe_int pa_nil))))) (pv 2) (fun _ _ => rfl)) pa_nil))))
      (pss_cons (ps_set (i := 6) sc_law_amounts.nd rfl (by first | exact Or.inl rfl | exact Or.inr rfl) (pe_ix ix_list (pe_lst (pa_cons pe_int (pa_cons pe_int (pa_cons pe_int (pa_cons pe_int (pa_cons pe_int (pa_cons pe_int (pa_cons pe_int (pa_cons pe_int (pa_cons pe_int (pa_cons pe_int (pa_cons pe_int (pa_cons pe_int (pa_cons pe_int (pa_cons pe_int (pa_cons pe_int (pa_cons pe_int pa_nil))))))))))))))))) (pv 5) (fun _ _ => rfl)))
      (pss_cons (ps_if (pt_cmpR op_eq (pv 5) pe_int (nomark _)) (pss_one (ps_set (i := 6) sc_law_amounts.nd rfl (by first | exact Or.inl rfl | exact Or.inr rfl) (pe_op op_add pe_int (pe_has h__law_next (hr.mono (by decide)) pass0 (pa_cons (pv 0) (pa_cons pe_int pa_nil)))))) pss_nil)
      (pss_cons (ps_set (i := 7) sc_law_amounts.nd rfl (by first | exact Or.inl rfl | exact Or.inr rfl) (pe_ix ix_list (pe_lst (pa_cons (pe_op op_mulW pe_int (pv 6)) (pa_cons (pe_op op_mulW pe_int (pv 6)) (pa_cons pe_int (pa_cons (pe_op op_pow pe_int pe_int) pa_nil))))) (pv 2) (fun _ _ => rfl)))
      (pss_one (ps_expr (pe_bm PySem.F.plainAttrs_list PySem.F.slot_list_append PySem.F.type_list_append mt_append (pv 3) (pa_cons (pe_has h__law_frac (hr.mono (by decide)) pass0 (pa_cons (pe_op op_sub (pe_has h__law_next (hr.mono (by decide)) pass0 (pa_cons (pv 0) (pa_cons (pe_op op_add (pe_op op_mulW pe_int (pv 7)) pe_int) pa_nil))) (pv 7)) (pa_cons (pv 6) pa_nil))) pa_nil)))))))))
      (pss_one (ps_ret (pe_callTy call_tuple_of (by rfl) z_tuple (by decide +kernel) (pa_cons (pv 3) pa_nil)))))))
theorem ok_law_folding  (F : FnP K "_law_folding" s_law_folding f fd) (z_len : mg "len" = none) (z_range : mg "range" = none) (z_sorted : mg "sorted" = none) (z_tuple : mg "tuple" = none) (h__law_next : Has P w K mg base CX0 "_law_next" 2 ["_law_deck_here", "_law_many"] (spS K FDk TNext) [])  : FnOk P w K mg base CX0 3 f fd ["_law_deck_here", "_law_many", "_law_most"] (spS K FDk TFoldL) := by
  refine F.ok sc_law_folding (fun vs H Q E h => spS_len (n := 2) (fun B ds Φ ⟨_, _, e, _⟩ => by rw [e]; rfl) h) (fun cdv A outer s H vs Q E hr h => ⟨t_fold K, PSs.nox ?_, run_S h (fun S B ds Φ hF t => ws_fold hF t) (by decide)⟩)
  exact (pss_cons (ps_setLc (i := 3) (own := [("_law_place", 9)]) (g := (gName 9)) rfl sc_law_folding.nd rfl rfl (sw_true rfl rfl rfl (by decide +kernel)) (pi_range1 rfl z_range (pa_cons (pv 1) pa_nil)) (blkOk_by (N := ["_law_deck_here", "_law_many", "_law_most", "_law_groups", "_law_found", "_law_turn", "_law_way", "_law_set", "_law_other", "_law_place"]) (sc := defScope s_law_folding) (by decide +kernel)) (fun _ _ _ _ _ => (pg_name (i := 9) sc_law_folding.nd rfl (by first | exact Or.inl rfl | exact Or.inr rfl))) (fun _ _ _ _ _ => pts_nil) (fun _ _ _ _ _ => (pe_tup (pa_cons (pv 9) pa_nil))))
      (pss_cons (ps_set (i := 4) sc_law_folding.nd rfl (by first | exact Or.inl rfl | exact Or.inr rfl) (pe_lst pa_nil))
      (pss_cons (ps_for PassesOwn.never rfl (pi_range1 rfl z_range (pa_cons (pe_has h__law_next (hr.mono (by decide)) pass0 (pa_cons (pv 0) (pa_cons (pe_op op_add (pv 2) pe_int) pa_nil))) pa_nil)) (pg_name (i := 5) sc_law_folding.nd rfl (by first | exact Or.inl rfl | exact Or.inr rfl)) (pss_cons (ps_set (i := 6) sc_law_folding.nd rfl (by first | exact Or.inl rfl | exact Or.inr rfl) (pe_has h__law_next (hr.mono (by decide)) pass0 (pa_cons (pv 0) (pa_cons pe_int pa_nil))))
      (pss_cons (ps_set (i := 7) sc_law_folding.nd rfl (by first | exact Or.inl rfl | exact Or.inr rfl) (pe_ix ix_list (pv 3) (pe_has h__law_next (hr.mono (by decide)) pass0 (pa_cons (pv 0) (pa_cons (pe_callB call_len_seq (by rfl) z_len PySem.boot_len (pa_cons (pv 3) pa_nil)) pa_nil))) (fun _ _ => rfl)))
      (pss_cons (ps_if (PW.pt (pw_and (pt_cmpR op_gt (pv 6) pe_int (nomark _)) (pw_and1 (pt_cmpR op_gt (pe_callB call_len_seq (by rfl) z_len PySem.boot_len (pa_cons (pv 3) pa_nil)) pe_int (nomark _))))) (pss_cons (ps_expr (pe_bm PySem.F.plainAttrs_list PySem.F.slot_list_remove PySem.F.type_list_remove (mt_remD (room65 hr)) (pv 3) (pa_cons (pv 7) pa_nil)))
      (pss_cons (ps_set (i := 8) sc_law_folding.nd rfl (by first | exact Or.inl rfl | exact Or.inr rfl) (pe_bm PySem.F.plainAttrs_list PySem.F.slot_list_pop PySem.F.type_list_pop mt_popAt (pv 3) (pa_cons (pe_has h__law_next (hr.mono (by decide)) pass0 (pa_cons (pv 0) (pa_cons (pe_callB call_len_seq (by rfl) z_len PySem.boot_len (pa_cons (pv 3) pa_nil)) pa_nil))) pa_nil)))
      (pss_cons (ps_set (i := 7) sc_law_folding.nd rfl (by first | exact Or.inl rfl | exact Or.inr rfl) (pe_callTy call_tuple_of (by rfl) z_tuple (by decide +kernel) (pa_cons (pe_callB cr_sortR (by rfl) z_sorted (by decide +kernel) (pa_cons (pe_op op_catA (pv 7) (pv 8)) pa_nil)) pa_nil)))
      (pss_one (ps_expr (pe_bm PySem.F.plainAttrs_list PySem.F.slot_list_append PySem.F.type_list_append mt_append (pv 3) (pa_cons (pv 7) pa_nil))))))) pss_nil)
      (pss_one (ps_if (pt_cmpR op_lt (pv 6) pe_int (nomark _)) (pss_one (ps_expr (pe_bm PySem.F.plainAttrs_list PySem.F.slot_list_insert PySem.F.type_list_insert mt_insert (pv 4) (pa_cons (pe_has h__law_next (hr.mono (by decide)) pass0 (pa_cons (pv 0) (pa_cons (pe_op op_add (pe_callB call_len_seq (by rfl) z_len PySem.boot_len (pa_cons (pv 4) pa_nil)) pe_int) pa_nil))) (pa_cons (pv 7) pa_nil))))) pss_nil))))))
      (pss_one (ps_ret (pe_callTy call_tuple_of (by rfl) z_tuple (by decide +kernel) (pa_cons (pv 4) pa_nil)))))))
theorem ok_law_whole  (F : FnP K "_law_whole" s_law_whole f fd) (z_bool : mg "bool" = none) (z_int : mg "int" = none) (z_isinstance : mg "isinstance" = none)  : FnOk P w K mg base CX0 1 f fd ["_law_found"] (spP K TWholeA) := by
  refine F.ok sc_law_whole (fun vs H Q E h => spP_len (n := 1) (fun ds Φ ⟨_, e, _⟩ => by rw [e]; rfl) h) (fun cdv A outer s H vs Q E hr h => ⟨t_wholeL K, PSs.nox ?_, run_P h fun ds Φ t => ws_wholeL t⟩)
  exact (pss_one (ps_ret (pe_and (pe_callB call_isi (by rfl) z_isinstance (by decide +kernel) (pa_cons (pv 0) (pa_cons (pe_bltn (by rfl) z_int (by decide +kernel) rfl) pa_nil))) (pe_one (pe_not (pe_callB call_isi (by rfl) z_isinstance (by decide +kernel) (pa_cons (pv 0) (pa_cons (pe_bltn (by rfl) z_bool (by decide +kernel) rfl) pa_nil))))))))
theorem ok_law_is_set  (F : FnP K "_law_is_set" s_law_is_set f fd) (z_isinstance : mg "isinstance" = none) (z_max : mg "max" = none) (z_min : mg "min" = none) (z_tuple : mg "tuple" = none) (z_zip : mg "zip" = none) (h__law_whole : Has P w K mg base CX0 "_law_whole" 1 ["_law_found"] (spP K TWholeA) [])  : FnOk P w K mg base CX0 2 f fd ["_law_many", "_law_thing"] (spP K TIsSetL) := by
  refine F.ok sc_law_is_set (fun vs H Q E h => spP_len (n := 2) (fun ds Φ ⟨_, _, e, _⟩ => by rw [e]; rfl) h) (fun cdv A outer s H vs Q E hr h => ⟨t_issetL K, PSs.nox ?_, run_P h fun ds Φ t => ws_issetL t⟩)
  exact (pss_cons (ps_if (PW.pt (pw_or (pt_not (pt_val (pe_callB call_isi (by rfl) z_isinstance (by decide +kernel) (pa_cons (pv 1) (pa_cons (pe_bltn (by rfl) z_tuple (by decide +kernel) rfl) pa_nil))))) (pw_or1 (pt_cmpR (op_eqD hr.units) (pv 1) (pe_tup pa_nil) (nomark _))))) (pss_one (ps_ret pe_bl)) pss_nil)
      (pss_cons (ps_if (pt_cmpR op_in_seq pe_bl (pe_lc (own := [("_law_place", 2)]) (g := (gName 2)) rfl sc_law_is_set.nd (pi_tup (pv 1)) (blkOk_by (N := ["_law_many", "_law_thing", "_law_place", "_law_one", "_law_other"]) (sc := defScope s_law_is_set) (by decide +kernel)) (fun _ _ _ _ _ => (pg_name (i := 2) sc_law_is_set.nd rfl (by first | exact Or.inl rfl | exact Or.inr rfl))) (fun _ _ _ _ _ => pts_nil) (fun _ _ _ _ _ => (pe_has h__law_whole (hr.mono (by decide)) pass0 (pa_cons (pv 2) pa_nil)))) (by rfl)) (pss_one (ps_ret pe_bl)) pss_nil)
      (pss_cons (ps_if (PW.pt (pw_or (pt_cmpR op_lt (pe_callB (cr_minT rfl) (by rfl) z_min (by decide +kernel) (pa_cons (pv 1) pa_nil)) pe_int (nomark _)) (pw_or1 (pt_cmpR op_ge (pe_callB (cr_maxT rfl) (by rfl) z_max (by decide +kernel) (pa_cons (pv 1) pa_nil)) (pv 0) (nomark _))))) (pss_one (ps_ret pe_bl)) pss_nil)
      (pss_one (ps_ret (pe_cmpR op_notIn_seq pe_bl (pe_lc (own := [("_law_one", 3), ("_law_other", 4)]) (g := (gTup _ 2 (gCons (gName 3) (gCons (gName 4) gNil)))) rfl sc_law_is_set.nd (RZ.pi_zipA (by rfl) z_zip (pa_cons (pv 1) (pa_cons (pe_slice sl_tupA (pv 1) (po_some pe_int) po_none) pa_nil))) (blkOk_by (N := ["_law_many", "_law_thing", "_law_place", "_law_one", "_law_other"]) (sc := defScope s_law_is_set) (by decide +kernel)) (fun _ _ _ _ _ => (pg_tup rfl (pgs_cons (pg_name (i := 3) sc_law_is_set.nd rfl (by first | exact Or.inl rfl | exact Or.inr rfl)) (pgs_cons (pg_name (i := 4) sc_law_is_set.nd rfl (by first | exact Or.inl rfl | exact Or.inr rfl)) pgs_nil)))) (fun _ _ _ _ _ => pts_nil) (fun _ _ _ _ _ => (pe_cmpR op_lt (pv 3) (pv 4) (nomark _)))) (by rfl)))))))
theorem ok_law_due  (F : FnP K "_law_due" s_law_due f fd) (z_enumerate : mg "enumerate" = none) (z_isinstance : mg "isinstance" = none) (z_len : mg "len" = none) (z_min : mg "min" = none) (z_tuple : mg "tuple" = none) (h__law_is_set : Has P w K mg base CX0 "_law_is_set" 2 ["_law_many", "_law_thing"] (spP K TIsSetL) [])  : FnOk P w K mg base CX0 3 f fd ["_law_many", "_law_thing"] (spP K TDueL) := by
  refine F.ok sc_law_due (fun vs H Q E h => spP_len (n := 2) (fun ds Φ ⟨_, _, e, _⟩ => by rw [e]; rfl) h) (fun cdv A outer s H vs Q E hr h => ⟨t_dueL K, PSs.nox ?_, run_P h fun ds Φ t => ws_dueL t⟩)
  exact (pss_cons (ps_if (PW.pt (pw_or (pt_not (pt_val (pe_callB call_isi (by rfl) z_isinstance (by decide +kernel) (pa_cons (pv 1) (pa_cons (pe_bltn (by rfl) z_tuple (by decide +kernel) rfl) pa_nil))))) (pw_or1 (pt_cmpR op_gt (pe_callB call_len_seq (by rfl) z_len PySem.boot_len (pa_cons (pv 1) pa_nil)) pe_int (nomark _))))) (pss_one (ps_ret pe_bl)) pss_nil)
      (pss_cons (ps_if (pt_cmpR op_in_seq pe_bl (pe_lc (own := [("_law_places", 6)]) (g := (gName 6)) rfl sc_law_due.nd (pi_tup (pv 1)) (blkOk_by (N := ["_law_many", "_law_thing", "_law_at", "_law_one", "_law_other", "_law_both", "_law_places", "_law_place"]) (sc := defScope s_law_due) (by decide +kernel)) (fun _ _ _ _ _ => (pg_name (i := 6) sc_law_due.nd rfl (by first | exact Or.inl rfl | exact Or.inr rfl))) (fun _ _ _ _ _ => pts_nil) (fun _ _ _ _ _ => (pe_has h__law_is_set (hr.mono (by decide)) pass0 (pa_cons (pv 0) (pa_cons (pv 6) pa_nil))))) (by rfl)) (pss_one (ps_ret pe_bl)) pss_nil)
      (pss_cons (ps_for PassesOwn.never rfl (pi_enumT (by rfl) z_enumerate (pa_cons (pv 1) pa_nil)) (pg_tup rfl (pgs_cons (pg_name (i := 2) sc_law_due.nd rfl (by first | exact Or.inl rfl | exact Or.inr rfl)) (pgs_cons (pg_name (i := 3) sc_law_due.nd rfl (by first | exact Or.inl rfl | exact Or.inr rfl)) pgs_nil))) (pss_one (ps_for PassesOwn.never rfl (pi_tup (pe_slice sl_tupA (pv 1) (po_some (pe_op op_add (pv 2) pe_int)) po_none)) (pg_name (i := 4) sc_law_due.nd rfl (by first | exact Or.inl rfl | exact Or.inr rfl)) (pss_cons (ps_setLc (i := 5) (own := [("_law_place", 7)]) (g := (gName 7)) rfl sc_law_due.nd rfl rfl (sw_true rfl rfl rfl (by decide +kernel)) (pi_tup (pv 3)) (blkOk_by (N := ["_law_many", "_law_thing", "_law_at", "_law_one", "_law_other", "_law_both", "_law_places", "_law_place"]) (sc := defScope s_law_due) (by decide +kernel)) (fun _ _ _ _ _ => (pg_name (i := 7) sc_law_due.nd rfl (by first | exact Or.inl rfl | exact Or.inr rfl))) (fun _ _ _ _ _ => (pts_one (pt_cmpR op_in_seq (pv 7) (pv 4) (by rfl)))) (fun _ _ _ _ _ => (pv 7)))
      (pss_one (ps_if (PW.pt (pw_and (pt_cmpR (op_neD hr.units) (pv 5) (pe_lst pa_nil) (nomark _)) (pw_and1 (pt_cmpR op_lt (pe_callB call_len_seq (by rfl) z_len PySem.boot_len (pa_cons (pv 5) pa_nil)) (pe_callB (call_min2 rfl) (by rfl) z_min (by decide +kernel) (pa_cons (pe_callB call_len_seq (by rfl) z_len PySem.boot_len (pa_cons (pv 3) pa_nil)) (pa_cons (pe_callB call_len_seq (by rfl) z_len PySem.boot_len (pa_cons (pv 4) pa_nil)) pa_nil))) (nomark _))))) (pss_one (ps_ret pe_bl)) pss_nil))))))
      (pss_one (ps_ret pe_bl)))))
theorem ok_law_odd_set  (F : FnP K "_law_odd_set" s_law_odd_set f fd) (z_len : mg "len" = none) (z_list : mg "list" = none) (z_range : mg "range" = none) (z_tuple : mg "tuple" = none) (h__law_next : Has P w K mg base CX0 "_law_next" 2 ["_law_deck_here", "_law_many"] (spS K FDk TNext) [])  : FnOk P w K mg base CX0 3 f fd ["_law_deck_here", "_law_many", "_law_set"] (spS K FDk TOddL) := by
  refine F.ok sc_law_odd_set (fun vs H Q E h => spS_len (n := 2) (fun B ds Φ ⟨_, _, e, _⟩ => by rw [e]; rfl) h) (fun cdv A outer s H vs Q E hr h => ⟨t_odd K, PSs.nox ?_, run_S h (fun S B ds Φ hF t => ws_odd hF t) (by decide)⟩)
  exact (pss_cons (ps_set (i := 3) sc_law_odd_set.nd rfl (by first | exact Or.inl rfl | exact Or.inr rfl) (pe_has h__law_next (hr.mono (by decide)) pass0 (pa_cons (pv 0) (pa_cons pe_int pa_nil))))
      (pss_cons (ps_set (i := 4) sc_law_odd_set.nd rfl (by first | exact Or.inl rfl | exact Or.inr rfl) (pe_has h__law_next (hr.mono (by decide)) pass0 (pa_cons (pv 0) (pa_cons (pe_op op_add (pe_callB call_len_seq (by rfl) z_len PySem.boot_len (pa_cons (pv 2) pa_nil)) pe_int) pa_nil))))
      (pss_cons (ps_set (i := 5) sc_law_odd_set.nd rfl (by first | exact Or.inl rfl | exact Or.inr rfl) (pe_op op_sub (pe_has h__law_next (hr.mono (by decide)) pass0 (pa_cons (pv 0) (pa_cons (pe_op op_add (pv 1) pe_int) pa_nil))) pe_int))
      (pss_cons (ps_set (i := 6) sc_law_odd_set.nd rfl (by first | exact Or.inl rfl | exact Or.inr rfl) (pe_ix ix_list (pe_lst (pa_cons (pv 5) (pa_cons (pv 5) (pa_cons (pv 1) (pa_cons (pe_un un_neg pe_int) (pa_cons pe_bl (pa_cons pe_str (pa_cons pe_non (pa_cons (pe_tup (pa_cons pe_int pa_nil)) (pa_cons (pe_op op_pow pe_int pe_int) pa_nil)))))))))) (pe_has h__law_next (hr.mono (by decide)) pass0 (pa_cons (pv 0) (pa_cons pe_int pa_nil))) (fun _ _ => rfl)))
      (pss_cons (ps_if (pt_cmpR op_eq (pv 3) pe_int (nomark _)) (pss_one (ps_ret (pe_op op_catA (pe_op op_catA (pe_slice sl_tupA (pv 2) po_none (po_some (pv 4))) (pe_tup (pa_cons (pv 6) pa_nil))) (pe_slice sl_tupA (pv 2) (po_some (pe_op op_add (pv 4) pe_int)) po_none)))) pss_nil)
      (pss_cons (ps_if (pt_cmpR op_eq (pv 3) pe_int (nomark _)) (pss_one (ps_ret (pe_op op_catA (pe_op op_catA (pe_slice sl_tupA (pv 2) po_none (po_some (pv 4))) (pe_tup (pa_cons (pv 6) pa_nil))) (pe_slice sl_tupA (pv 2) (po_some (pv 4)) po_none)))) pss_nil)
      (pss_cons (ps_if (pt_cmpR op_eq (pv 3) pe_int (nomark _)) (pss_one (ps_ret (pe_op op_catA (pe_op op_catA (pe_slice sl_tupA (pv 2) po_none (po_some (pv 4))) (pe_revT (pe_slice sl_tupA (pv 2) (po_some (pv 4)) (po_some (pe_op op_add (pv 4) pe_int))))) (pe_slice sl_tupA (pv 2) (po_some (pe_op op_add (pv 4) pe_int)) po_none)))) pss_nil)
      (pss_cons (ps_if (pt_cmpR op_eq (pv 3) pe_int (nomark _)) (pss_one (ps_ret (pe_op op_catA (pe_slice sl_tupA (pv 2) po_none (po_some (pv 4))) (pe_slice sl_tupA (pv 2) (po_some (pe_op op_add (pv 4) pe_int)) po_none)))) pss_nil)
      (pss_cons (ps_if (pt_cmpR op_lt (pv 3) pe_int (nomark _)) (pss_one (ps_ret (pe_callTy call_tuple_of (by rfl) z_tuple (by decide +kernel) (pa_cons (pe_lc (own := [("_law_place", 7)]) (g := (gName 7)) rfl sc_law_odd_set.nd (pi_range1 rfl z_range (pa_cons (pv 1) pa_nil)) (blkOk_by (N := ["_law_deck_here", "_law_many", "_law_set", "_law_way", "_law_at", "_law_far", "_law_odd", "_law_place"]) (sc := defScope s_law_odd_set) (by decide +kernel)) (fun _ _ _ _ _ => (pg_name (i := 7) sc_law_odd_set.nd rfl (by first | exact Or.inl rfl | exact Or.inr rfl))) (fun _ _ _ _ _ => (pts_one (pt_cmpR op_eq (pe_has h__law_next (hr.mono (by decide)) pass0 (pa_cons (pv 0) (pa_cons pe_int pa_nil))) pe_int (nomark _)))) (fun _ _ _ _ _ => (pv 7))) pa_nil)))) pss_nil)
      (pss_one (ps_ret (pe_ix ix_list (pe_lst (pa_cons (pe_callTy call_list_of (by rfl) z_list (by decide +kernel) (pa_cons (pv 2) pa_nil)) (pa_cons (pe_op op_catA (pv 2) (pe_slice sl_tupA (pv 2) (po_some (pe_un un_neg pe_int)) po_none)) (pa_cons (pv 6) pa_nil)))) (pe_has h__law_next (hr.mono (by decide)) pass0 (pa_cons (pv 0) (pa_cons pe_int pa_nil))) (fun _ _ => rfl)))))))))))))
theorem ok_law_spoilt  (F : FnP K "_law_spoilt" s_law_spoilt f fd) (z_len : mg "len" = none) (z_list : mg "list" = none) (h__law_next : Has P w K mg base CX0 "_law_next" 2 ["_law_deck_here", "_law_many"] (spS K FDk TNext) []) (h__law_odd_set : Has P w K mg base CX0 "_law_odd_set" 3 ["_law_deck_here", "_law_many", "_law_set"] (spS K FDk TOddL) [])  : FnOk P w K mg base CX0 4 f fd ["_law_deck_here", "_law_many", "_law_sets"] (spS K FDk TSpL) := by
  refine F.ok sc_law_spoilt (fun vs H Q E h => spS_len (n := 2) (fun B ds Φ ⟨_, _, e, _⟩ => by rw [e]; rfl) h) (fun cdv A outer s H vs Q E hr h => ⟨t_spl K, PSs.nox ?_, run_S h (fun S B ds Φ hF t => ws_spl hF t) (by decide)⟩)
  exact (pss_cons (ps_set (i := 3) sc_law_spoilt.nd rfl (by first | exact Or.inl rfl | exact Or.inr rfl) (pe_has h__law_next (hr.mono (by decide)) pass0 (pa_cons (pv 0) (pa_cons pe_int pa_nil))))
      (pss_cons (ps_set (i := 4) sc_law_spoilt.nd rfl (by first | exact Or.inl rfl | exact Or.inr rfl) (pe_has h__law_next (hr.mono (by decide)) pass0 (pa_cons (pv 0) (pa_cons (pe_op op_add (pe_callB call_len_seq (by rfl) z_len PySem.boot_len (pa_cons (pv 2) pa_nil)) pe_int) pa_nil))))
      (pss_cons (ps_set (i := 5) sc_law_spoilt.nd rfl (by first | exact Or.inl rfl | exact Or.inr rfl) (pe_ix ix_tup (pe_op op_catA (pv 2) (pe_tup (pa_cons (pe_tup (pa_cons pe_int pa_nil)) pa_nil))) (pv 4) (fun _ _ => rfl)))
      (pss_cons (ps_set (i := 6) sc_law_spoilt.nd rfl (by first | exact Or.inl rfl | exact Or.inr rfl) (pe_has h__law_odd_set (hr.mono (by decide)) pass0 (pa_cons (pv 0) (pa_cons (pv 1) (pa_cons (pv 5) pa_nil)))))
      (pss_cons (ps_if (pt_cmpR op_eq (pv 3) pe_int (nomark _)) (pss_one (ps_ret (pe_ix ix_list (pe_lst (pa_cons (pe_callTy call_list_of (by rfl) z_list (by decide +kernel) (pa_cons (pv 2) pa_nil)) (pa_cons pe_non (pa_cons pe_int (pa_cons pe_str (pa_cons pe_dnewK (pa_cons (pv 6) pa_nil))))))) (pe_has h__law_next (hr.mono (by decide)) pass0 (pa_cons (pv 0) (pa_cons pe_int pa_nil))) (fun _ _ => rfl)))) pss_nil)
      (pss_cons (ps_if (pt_cmpR op_eq (pv 3) pe_int (nomark _)) (pss_one (ps_ret (pe_slice sl_tupA (pe_op op_repTA (pv 2) pe_int) po_none (po_some (pe_ix ix_list (pe_lst (pa_cons pe_int (pa_cons pe_int pa_nil))) (pe_has h__law_next (hr.mono (by decide)) pass0 (pa_cons (pv 0) (pa_cons pe_int pa_nil))) (fun _ _ => rfl)))))) pss_nil)
      (pss_cons (ps_if (pt_cmpR op_eq (pv 3) pe_int (nomark _)) (pss_one (ps_ret (pe_op op_catA (pe_slice sl_tupA (pv 2) po_none (po_some (pv 4))) (pe_slice sl_tupA (pv 2) (po_some (pe_op op_add (pv 4) pe_int)) po_none)))) pss_nil)
      (pss_cons (ps_if (pt_cmpR op_lt (pv 3) pe_int (nomark _)) (pss_one (ps_ret (pe_op op_catA (pe_op op_catA (pe_slice sl_tupA (pv 2) po_none (po_some (pv 4))) (pe_tup (pa_cons (pv 6) pa_nil))) (pe_slice sl_tupA (pv 2) (po_some (pv 4)) po_none)))) pss_nil)
      (pss_one (ps_ret (pe_op op_catA (pe_op op_catA (pe_slice sl_tupA (pv 2) po_none (po_some (pv 4))) (pe_tup (pa_cons (pv 6) pa_nil))) (pe_slice sl_tupA (pv 2) (po_some (pe_op op_add (pv 4) pe_int)) po_none))))))))))))
theorem ok_law_right  (F : FnP K "_law_right" s_law_right f fd) (z_len : mg "len" = none) (z_list : mg "list" = none) (z_repr : mg "repr" = none) (h__law_due : Has P w K mg base CX0 "_law_due" 3 ["_law_many", "_law_thing"] (spP K TDueL) []) (h_is_folding : Has P w K mg base CX0 "is_folding" 3 ["amounts", "thing"] (spP K TFolding) []) (h_is_folding_k0_thing_amounts : HasK P w K mg base CX0 "is_folding" 3 ["amounts", "thing"] (spP K TFolding) 0 ["thing", "amounts"] gVrev)  : FnG P w K mg base CX0 4 f fd ["_law_some", "_law_thing"] (spP K TRightF) := by
  refine FunD_okG F sc_law_right (fun vs H Q E h => spP_len (n := 2) (fun ds Φ ⟨_, _, e, _⟩ => by rw [e]; rfl) h) (fun cdv A outer s H vs Q E hgd hr h => ⟨t_rightF K, PSs.nox ?_, run_P h fun ds Φ t => ws_rightF t⟩)
  exact (pss_cons (ps_set (i := 2) sc_law_right.nd rfl (by first | exact Or.inl rfl | exact Or.inr rfl) (pe_has h__law_due (hr.mono (by decide)) pass0 (pa_cons (pe_callB call_len_seq (by rfl) z_len PySem.boot_len (pa_cons (pv 0) pa_nil)) (pa_cons (pv 1) pa_nil))))
      (pss_cons (ps_set (i := 3) sc_law_right.nd rfl (by first | exact Or.inl rfl | exact Or.inr rfl) (pe_lst (pa_cons (pe_has h_is_folding (hr.mono (by decide)) pass0 (pa_cons (pv 0) (pa_cons (pv 1) pa_nil))) (pa_cons (pe_has h_is_folding (hr.mono (by decide)) pass0 (pa_cons (pe_callTy call_list_of (by rfl) z_list (by decide +kernel) (pa_cons (pv 0) pa_nil)) (pa_cons (pv 1) pa_nil))) pa_nil))))
      (pss_cons (ps_expr (pe_bm PySem.F.plainAttrs_list PySem.F.slot_list_append PySem.F.type_list_append mt_append (pv 3) (pa_cons (pe_hasK0 (ks := ["thing", "amounts"]) h_is_folding_k0_thing_amounts (hr.mono (by decide)) pass0 (pk_cons (pv 1) (pk_cons (pv 0) pk_nil))) pa_nil)))
      (pss_one (ps_ret (pe_cmpR op_eq (pe_callB (call_reprY hgd hr.units) (by rfl) z_repr (by decide +kernel) (pa_cons (pv 3) pa_nil)) (pe_callB (call_reprY hgd hr.units) (by rfl) z_repr (by decide +kernel) (pa_cons (pe_op op_repL (pe_lst (pa_cons (pv 2) pa_nil)) pe_int) pa_nil)) (nomark _)))))))
theorem ok_law  (F : FnP K "law" s_law f fd) (z_range : mg "range" = none) (h__law_amounts : Has P w K mg base CX0 "_law_amounts" 3 ["_law_deck_here", "_law_many"] (spS K FDk TAmts) []) (h__law_deck : Has P w K mg base CX0 "_law_deck" 1 ["_law_cells", "_law_salt"] (spDeck K) []) (h__law_folding : Has P w K mg base CX0 "_law_folding" 3 ["_law_deck_here", "_law_many", "_law_most"] (spS K FDk TFoldL) []) (h__law_next : Has P w K mg base CX0 "_law_next" 2 ["_law_deck_here", "_law_many"] (spS K FDk TNext) []) (h__law_right : HasG P w K mg base CX0 "_law_right" 4 ["_law_some", "_law_thing"] (spP K TRightF)) (h__law_spoilt : Has P w K mg base CX0 "_law_spoilt" 4 ["_law_deck_here", "_law_many", "_law_sets"] (spS K FDk TSpL) []) (h_is_folding : Has P w K mg base CX0 "is_folding" 3 ["amounts", "thing"] (spP K TFolding) [])  : FnG P w K mg base CX0 5 f fd ["_law_script"] (spLaw K) := by
  refine FunD_okG F sc_law (fun vs H Q E h => by obtain ⟨_, _, rfl, _⟩ := h; rfl) (fun cdv Ar outer s H vs Q E hgd hr h => ⟨t_law61 K, PSs.nox ?_, run_law0 (n := 6) rfl h fun ns hl => ws_law61 hl⟩)
  exact (pss_cons (ps_for PassesOwn.never rfl (pi_range1 rfl z_range (pa_cons pe_int pa_nil)) (pg_name (i := 1) sc_law.nd rfl (by first | exact Or.inl rfl | exact Or.inr rfl)) (pss_cons (ps_set (i := 2) sc_law.nd rfl (by first | exact Or.inl rfl | exact Or.inr rfl) (pe_has h__law_deck (hr.mono (by decide)) pass0 (pa_cons (pe_step (by decide) (pv 0) (pv 1)) (pa_cons (pv 1) pa_nil))))
      (pss_cons (ps_set (i := 3) sc_law.nd rfl (by first | exact Or.inl rfl | exact Or.inr rfl) (pe_ix ix_list (pe_lst (pa_cons (pe_op op_add pe_int (pe_has h__law_next (hr.mono (by decide)) pass0 (pa_cons (pv 2) (pa_cons pe_int pa_nil)))) (pa_cons (pe_op op_add pe_int (pe_has h__law_next (hr.mono (by decide)) pass0 (pa_cons (pv 2) (pa_cons pe_int pa_nil)))) pa_nil))) (pe_has h__law_next (hr.mono (by decide)) pass0 (pa_cons (pv 2) (pa_cons pe_int pa_nil))) (fun _ _ => rfl)))
      (pss_cons (ps_set (i := 4) sc_law.nd rfl (by first | exact Or.inl rfl | exact Or.inr rfl) (pe_has h__law_amounts (hr.mono (by decide)) pass0 (pa_cons (pv 2) (pa_cons (pv 3) pa_nil))))
      (pss_cons (ps_set (i := 5) sc_law.nd rfl (by first | exact Or.inl rfl | exact Or.inr rfl) (pe_has h__law_folding (hr.mono (by decide)) pass0 (pa_cons (pv 2) (pa_cons (pv 3) (pa_cons pe_int pa_nil)))))
      (pss_cons (ps_if (pt_not (pt_val (pe_hasG h__law_right hgd (hr.mono (by decide)) pass0 (pa_cons (pv 4) (pa_cons (pv 5) pa_nil))))) (pss_one (ps_ret pe_bl)) pss_nil)
      (pss_one (ps_for PassesOwn.never rfl (pi_range1 rfl z_range (pa_cons pe_int pa_nil)) (pg_name (i := 6) sc_law.nd rfl (by first | exact Or.inl rfl | exact Or.inr rfl)) (pss_one (ps_if (pt_not (pt_val (pe_hasG h__law_right hgd (hr.mono (by decide)) pass0 (pa_cons (pv 4) (pa_cons (pe_has h__law_spoilt (hr.mono (by decide)) pass0 (pa_cons (pv 2) (pa_cons (pv 3) (pa_cons (pv 5) pa_nil)))) pa_nil))))) (pss_one (ps_ret pe_bl)) pss_nil))))))))))
      (pss_one (ps_ret (pe_has h_is_folding (hr.mono (by decide)) pass0 (pa_cons (pe_tup (pa_cons (pe_tup (pa_cons pe_int (pa_cons pe_int pa_nil))) pa_nil)) (pa_cons (pe_tup (pa_cons (pe_tup (pa_cons pe_int pa_nil)) (pa_cons (pe_tup (pa_cons pe_int pa_nil)) pa_nil))) pa_nil))))))
end
end DL

set_option Elab.async false
set_option linter.all false
set_option maxRecDepth 100000
set_option maxHeartbeats 4000000
namespace DL
open PySem PySem.Spec PyProof.Rows L2
theorem facts {P : Program} {w : World} {K : PySem.W.Frag} {h : Heap} {mg : Str → Option Value} {f : Addr} (X : K.In h) (G : h.Ns mainGlobals mg) (hfa : mg ("law" : Str) = some (.ref f)) (c : He.SaysD fa fn K) (ce : ex K = true) :
    ∃ fd : FuncData, (∀ (s : Shared) (v : Value), BindsTo s fd ⟨[v], []⟩ [("_law_script", v)]) ∧ ∀ base : Heap, K.In base → base.Ns mainGlobals mg → FnG P w K mg base CX0 5 f fd ["_law_script"] (spLaw K) := by
  obtain ⟨fd_is_whole, F_is_whole⟩ := c.def_ 0 (d := d_is_whole) rfl
  have g_is_whole := He.glo_ok X G (c.fact 0 (f := .glo "is_whole") rfl)
  obtain ⟨fd_is_rising, F_is_rising⟩ := c.def_ 1 (d := d_is_rising) rfl
  have g_is_rising := He.glo_ok X G (c.fact 1 (f := .glo "is_rising") rfl)
  obtain ⟨fd_is_set, F_is_set⟩ := c.def_ 2 (d := d_is_set) rfl
  have g_is_set := He.glo_ok X G (c.fact 2 (f := .glo "_is_set") rfl)
  obtain ⟨fd_is_folding, F_is_folding⟩ := c.def_ 3 (d := d_is_folding) rfl
  have g_is_folding := He.glo_ok X G (c.fact 3 (f := .glo "is_folding") rfl)
  obtain ⟨fd_law_mix, F_law_mix⟩ := c.def_ 4 (d := d_law_mix) rfl
  have g_law_mix := He.glo_ok X G (c.fact 4 (f := .glo "_law_mix") rfl)
  obtain ⟨fd_law_deck, F_law_deck⟩ := c.def_ 5 (d := d_law_deck) rfl
  have g_law_deck := He.glo_ok X G (c.fact 5 (f := .glo "_law_deck") rfl)
  obtain ⟨fd_law_next, F_law_next⟩ := c.def_ 6 (d := d_law_next) rfl
  have g_law_next := He.glo_ok X G (c.fact 6 (f := .glo "_law_next") rfl)
  obtain ⟨fd_law_frac, F_law_frac⟩ := c.def_ 7 (d := d_law_frac) rfl
  have g_law_frac := He.glo_ok X G (c.fact 7 (f := .glo "_law_frac") rfl)
  obtain ⟨fd_law_amounts, F_law_amounts⟩ := c.def_ 8 (d := d_law_amounts) rfl
  have g_law_amounts := He.glo_ok X G (c.fact 8 (f := .glo "_law_amounts") rfl)
  obtain ⟨fd_law_folding, F_law_folding⟩ := c.def_ 9 (d := d_law_folding) rfl
  have g_law_folding := He.glo_ok X G (c.fact 9 (f := .glo "_law_folding") rfl)
  obtain ⟨fd_law_whole, F_law_whole⟩ := c.def_ 10 (d := d_law_whole) rfl
  have g_law_whole := He.glo_ok X G (c.fact 10 (f := .glo "_law_whole") rfl)
  obtain ⟨fd_law_is_set, F_law_is_set⟩ := c.def_ 11 (d := d_law_is_set) rfl
  have g_law_is_set := He.glo_ok X G (c.fact 11 (f := .glo "_law_is_set") rfl)
  obtain ⟨fd_law_due, F_law_due⟩ := c.def_ 12 (d := d_law_due) rfl
  have g_law_due := He.glo_ok X G (c.fact 12 (f := .glo "_law_due") rfl)
  obtain ⟨fd_law_odd_set, F_law_odd_set⟩ := c.def_ 13 (d := d_law_odd_set) rfl
  have g_law_odd_set := He.glo_ok X G (c.fact 13 (f := .glo "_law_odd_set") rfl)
  obtain ⟨fd_law_spoilt, F_law_spoilt⟩ := c.def_ 14 (d := d_law_spoilt) rfl
  have g_law_spoilt := He.glo_ok X G (c.fact 14 (f := .glo "_law_spoilt") rfl)
  obtain ⟨fd_law_right, F_law_right⟩ := c.def_ 15 (d := d_law_right) rfl
  have g_law_right := He.glo_ok X G (c.fact 15 (f := .glo "_law_right") rfl)
  obtain ⟨fd_law, F_law⟩ := c.def_ 16 (d := d_law) rfl
  have g_law := He.glo_ok X G (c.fact 16 (f := .glo "law") rfl)
  have z_abs := He.free_ok X G (c.fact 17 (f := .free "abs") rfl)
  have z_all := He.free_ok X G (c.fact 18 (f := .free "all") rfl)
  have z_bool := He.free_ok X G (c.fact 19 (f := .free "bool") rfl)
  have z_enumerate := He.free_ok X G (c.fact 20 (f := .free "enumerate") rfl)
  have z_int := He.free_ok X G (c.fact 21 (f := .free "int") rfl)
  have z_isinstance := He.free_ok X G (c.fact 22 (f := .free "isinstance") rfl)
  have z_len := He.free_ok X G (c.fact 23 (f := .free "len") rfl)
  have z_list := He.free_ok X G (c.fact 24 (f := .free "list") rfl)
  have z_max := He.free_ok X G (c.fact 25 (f := .free "max") rfl)
  have z_min := He.free_ok X G (c.fact 26 (f := .free "min") rfl)
  have z_range := He.free_ok X G (c.fact 27 (f := .free "range") rfl)
  have z_repr := He.free_ok X G (c.fact 28 (f := .free "repr") rfl)
  have z_sorted := He.free_ok X G (c.fact 29 (f := .free "sorted") rfl)
  have z_sum := He.free_ok X G (c.fact 30 (f := .free "sum") rfl)
  have z_tuple := He.free_ok X G (c.fact 31 (f := .free "tuple") rfl)
  have z_type := He.free_ok X G (c.fact 32 (f := .free "type") rfl)
  have z_zip := He.free_ok X G (c.fact 33 (f := .free "zip") rfl)
  obtain ⟨ti__MOST_SETS, gi__MOST_SETS⟩ := He.int_ok X G (c.fact 34 (f := .int "_MOST_SETS" 40) rfl)
  have e := hfa.symm.trans g_law
  cases e
  refine ⟨fd_law, fun s v => FunD.bindsA (ps := ["_law_script"]) F_law (fun _ _ _ _ _ _ us hl => match us, hl with | [_], _ => rfl) s [v] rfl, fun base _ _ => ?_⟩
  have o_is_whole := ok_is_whole (P := P) (w := w) (mg := mg) (base := base) F_is_whole z_int z_type 
  have h_is_whole := has_of o_is_whole g_is_whole F_is_whole.kp (F_is_whole.bindsN (ps := ["thing"]) fun _ _ _ _ _ _ us hl => match us, hl with | [_], _ => rfl)
  have o_is_rising := ok_is_rising (P := P) (w := w) (mg := mg) (base := base) F_is_rising z_all z_len z_range 
  have h_is_rising := has_of o_is_rising g_is_rising F_is_rising.kp (F_is_rising.bindsN (ps := ["row"]) fun _ _ _ _ _ _ us hl => match us, hl with | [_], _ => rfl)
  have o_is_set := ok_is_set (P := P) (w := w) (mg := mg) (base := base) F_is_set z_all z_len z_tuple z_type h_is_rising h_is_whole 
  have h__is_set := has_of o_is_set g_is_set F_is_set.kp (F_is_set.bindsN (ps := ["many", "thing"]) fun _ _ _ _ _ _ us hl => match us, hl with | [_, _], _ => rfl)
  have o_is_folding := ok_is_folding (P := P) (w := w) (mg := mg) (base := base) F_is_folding z_all z_len z_sum z_tuple z_type h__is_set ⟨gi__MOST_SETS, ⟨_, rfl⟩⟩
  have h_is_folding := has_of o_is_folding g_is_folding F_is_folding.kp (F_is_folding.bindsN (ps := ["amounts", "thing"]) fun _ _ _ _ _ _ us hl => match us, hl with | [_, _], _ => rfl)
  have h_is_folding_k0_thing_amounts : HasK P w K mg base CX0 "is_folding" 3 ["amounts", "thing"] (spP K TFolding) 0 ["thing", "amounts"] gVrev := hasK_of o_is_folding g_is_folding F_is_folding.kp (kbN (ps := ["amounts", "thing"]) F_is_folding 0 ["thing", "amounts"] (fun _ ws => ws.reverse) (fun _ r => vals_rev r) (fun _ _ _ _ _ _ us ws l1 l2 => match us, l1, ws, l2 with | [], _, [_, _], _ => rfl))
  have o_law_mix := ok_law_mix (P := P) (w := w) (mg := mg) (base := base) F_law_mix  
  have h__law_mix := has_of o_law_mix g_law_mix F_law_mix.kp (F_law_mix.bindsN (ps := ["_law_cell", "_law_k"]) fun _ _ _ _ _ _ us hl => match us, hl with | [_, _], _ => rfl)
  have o_law_deck := ok_law_deck (P := P) (w := w) (mg := mg) (base := base) F_law_deck z_sum 
  have h__law_deck := has_of o_law_deck g_law_deck F_law_deck.kp (F_law_deck.bindsN (ps := ["_law_cells", "_law_salt"]) fun _ _ _ _ _ _ us hl => match us, hl with | [_, _], _ => rfl)
  have o_law_next := ok_law_next (P := P) (w := w) (mg := mg) (base := base) F_law_next z_len h__law_mix 
  have h__law_next := has_of o_law_next g_law_next F_law_next.kp (F_law_next.bindsN (ps := ["_law_deck_here", "_law_many"]) fun _ _ _ _ _ _ us hl => match us, hl with | [_, _], _ => rfl)
  have o_law_frac := ok_law_frac (P := P) (w := w) (mg := mg) (base := base) F_law_frac z_abs 
  have h__law_frac := has_of o_law_frac g_law_frac F_law_frac.kp (F_law_frac.bindsN (ps := ["_law_above", "_law_below"]) fun _ _ _ _ _ _ us hl => match us, hl with | [_, _], _ => rfl)
  have o_law_amounts := ok_law_amounts (P := P) (w := w) (mg := mg) (base := base) F_law_amounts z_range z_tuple h__law_frac h__law_next 
  have h__law_amounts := has_of o_law_amounts g_law_amounts F_law_amounts.kp (F_law_amounts.bindsN (ps := ["_law_deck_here", "_law_many"]) fun _ _ _ _ _ _ us hl => match us, hl with | [_, _], _ => rfl)
  have o_law_folding := ok_law_folding (P := P) (w := w) (mg := mg) (base := base) F_law_folding z_len z_range z_sorted z_tuple h__law_next 
  have h__law_folding := has_of o_law_folding g_law_folding F_law_folding.kp (F_law_folding.bindsN (ps := ["_law_deck_here", "_law_many", "_law_most"]) fun _ _ _ _ _ _ us hl => match us, hl with | [_, _, _], _ => rfl)
  have o_law_whole := ok_law_whole (P := P) (w := w) (mg := mg) (base := base) F_law_whole z_bool z_int z_isinstance 
  have h__law_whole := has_of o_law_whole g_law_whole F_law_whole.kp (F_law_whole.bindsN (ps := ["_law_found"]) fun _ _ _ _ _ _ us hl => match us, hl with | [_], _ => rfl)
  have o_law_is_set := ok_law_is_set (P := P) (w := w) (mg := mg) (base := base) F_law_is_set z_isinstance z_max z_min z_tuple z_zip h__law_whole 
  have h__law_is_set := has_of o_law_is_set g_law_is_set F_law_is_set.kp (F_law_is_set.bindsN (ps := ["_law_many", "_law_thing"]) fun _ _ _ _ _ _ us hl => match us, hl with | [_, _], _ => rfl)
  have o_law_due := ok_law_due (P := P) (w := w) (mg := mg) (base := base) F_law_due z_enumerate z_isinstance z_len z_min z_tuple h__law_is_set 
  have h__law_due := has_of o_law_due g_law_due F_law_due.kp (F_law_due.bindsN (ps := ["_law_many", "_law_thing"]) fun _ _ _ _ _ _ us hl => match us, hl with | [_, _], _ => rfl)
  have o_law_odd_set := ok_law_odd_set (P := P) (w := w) (mg := mg) (base := base) F_law_odd_set z_len z_list z_range z_tuple h__law_next 
  have h__law_odd_set := has_of o_law_odd_set g_law_odd_set F_law_odd_set.kp (F_law_odd_set.bindsN (ps := ["_law_deck_here", "_law_many", "_law_set"]) fun _ _ _ _ _ _ us hl => match us, hl with | [_, _, _], _ => rfl)
  have o_law_spoilt := ok_law_spoilt (P := P) (w := w) (mg := mg) (base := base) F_law_spoilt z_len z_list h__law_next h__law_odd_set 
  have h__law_spoilt := has_of o_law_spoilt g_law_spoilt F_law_spoilt.kp (F_law_spoilt.bindsN (ps := ["_law_deck_here", "_law_many", "_law_sets"]) fun _ _ _ _ _ _ us hl => match us, hl with | [_, _, _], _ => rfl)
  have o_law_right := ok_law_right (P := P) (w := w) (mg := mg) (base := base) F_law_right z_len z_list z_repr h__law_due h_is_folding h_is_folding_k0_thing_amounts 
  have h__law_right := hasG_of o_law_right g_law_right F_law_right.kp (F_law_right.bindsN (ps := ["_law_some", "_law_thing"]) fun _ _ _ _ _ _ us hl => match us, hl with | [_, _], _ => rfl)
  exact ok_law (P := P) (w := w) (mg := mg) (base := base) F_law z_range h__law_amounts h__law_deck h__law_folding h__law_next h__law_right h__law_spoilt h_is_folding 
end DL
open PySem PySem.W PySem.Calls PyProof.Rows
set_option maxHeartbeats 0 in
theorem PySem.Challenge.cw_paymill_k61_foldings_known_holds : PySem.Challenge.rw_paymill_k61_foldings_known.Holds := by
  refine HH.look ?_
  refine HandSHeadRun.head_imp (r := OpenLaw.row PySem.Challenge.rw_paymill_k61_foldings_known) (q := view (OpenLaw.row PySem.Challenge.rw_paymill_k61_foldings_known).prog [21]) (H := DL.hk) (ob := DL.ob) (M := 20000) (loose := DL.loose) (d := HandSHeadRun.topDef (OpenLaw.row PySem.Challenge.rw_paymill_k61_foldings_known).prog 21) (kwd := []) DL.ob_eq
    DL.run (by kernel_rfl) (by kernel_rfl) (by kernel_rfl) (by rfl) (by first | assumption | decide +kernel) (by decide +kernel) ⟨rfl, rfl, rfl, rfl, rfl, by decide +kernel⟩ ?hw ?hc
  case hw => w_witness2
  case hc =>
    refine DL.walk_ofG (l := PySem.Challenge.rw_paymill_k61_foldings_known) (n := 63) (k := 5) (x := "_law_script") (CX := L2.CX0) rfl (by decide) (by kernel_rfl) ⟨rfl, by decide, by decide⟩ ?F (fun _ _ _ _ z => z)
    intro w mg fa h Y G hmg0
    obtain ⟨K, KX, c, ce⟩ := Y
    have hmg : mg ("law" : PySem.Str) = some (.ref fa) := by
      have e : (HandSHeadRun.topDef (OpenLaw.row PySem.Challenge.rw_paymill_k61_foldings_known).prog 21).name = ("law" : PySem.Str) := by kernel_rfl
      rw [← e]
      exact hmg0
    obtain ⟨fd, hb, hF⟩ := DL.facts (P := (PySem.Challenge.rw_paymill_k61_foldings_known).prog) (w := w) KX G hmg c ce
    exact ⟨K, fd, DL.spLaw K, KX, hb, fun H a ns hl _ hS => ⟨a, ns, rfl, hS, hl, fun _ => rfl⟩, hF⟩
