import PyProof.Rows.All
import Wide.All
import OpenK.AllK
import Wide.FinOn
import HandS.ForMost
import HandS.ForExc
import HandS.Wide
import HandS.Gcd
import HandS.Defaults
import HandS.Head0
import HandS.Head1
import HandS.Head2
import HandS.HeadEnd
import HandS.HeadHook1
import HandS.HeadHook2
import HandS.RaiseMore
import HandS.Iter
import HandS.More
import HandS.IsInst
import HandS.Head3
import HandS.ExcOwn
import HandS.WordsExc
import PyProof.ExcBaseAll.ZeroDivisionError
import HandS.ExcIs
import HandS.ExcInit
import PyProof.Rows.FactsExc_KeyError
import PyProof.ExcBaseAll.LookupError
import PyProof.ExcBaseAll.IndexError
import PyProof.ExcBaseAll.OverflowError
import PyProof.InstStoreFacts
import HandS.MakeKw
import HandS.ExcField
import HandS.New
import KE.GoesEnum
import HandS.TupAny
import HandS.Style
import KE.KDictZip
import HandS.GenList
import HandS.DictTup
import HandS.Flow
import HandS.CallLocal
import HandS.CallSlots
import HandS.Zip
import HandS.Codes
import PySem.Challenge.RW_paymill_k01_refusals_and_kinds
set_option Elab.async false
set_option linter.all false
set_option maxRecDepth 100000
set_option maxHeartbeats 2000000
/-! DL: readings walked over data (PyData) in the place of values and heaps -/
namespace DL
open PySem L2

abbrev Av := Addr → Bool
/-- the heap without what is avoided -/
def wo (N : Av) (H : Hp) : Hp := fun b => if N b then none else H b
theorem wo_in {N : Av} {H : Hp} {b : Addr} (h : N b = false) : wo N H b = H b := by unfold wo; rw [h]; rfl
theorem wo_out {N : Av} {H : Hp} {b : Addr} (h : N b = true) : wo N H b = none := by unfold wo; rw [h]; rfl
theorem wo_some {N : Av} {H : Hp} {b : Addr} {o : HO} (h : wo N H b = some o) : N b = false ∧ H b = some o := by
  cases e : N b with
  | true => rw [wo_out e] at h; cases h
  | false => rw [wo_in e] at h; exact ⟨rfl, h⟩
/-- all but the avoided stays -/
def Keep (N : Av) (H H' : Hp) : Prop := ∀ b o, N b = false → H b = some o → H' b = some o
theorem Keep.refl {N : Av} {H : Hp} : Keep N H H := fun _ _ _ h => h
theorem Keep.trans {N : Av} {H H1 H2 : Hp} (a : Keep N H H1) (b : Keep N H1 H2) : Keep N H H2 := fun x o n h => b x o n (a x o n h)
theorem Keep.of {N : Av} {H H' : Hp} (a : Same H H') : Keep N H H' := fun b o _ h => a b o h
theorem Keep.wo {N : Av} {H H' : Hp} (a : Keep N H H') : Same (wo N H) (wo N H') := fun b o h => by
  obtain ⟨n, h⟩ := wo_some h
  rw [wo_in n]; exact a b o n h
def Le (N N' : Av) : Prop := ∀ b, N b = true → N' b = true
theorem Le.refl {N : Av} : Le N N := fun _ h => h
theorem Le.wo {N N' : Av} {H : Hp} (a : Le N N') : Same (wo N' H) (wo N H) := fun b o h => by
  obtain ⟨n, h⟩ := wo_some h
  have : N b = false := by
    cases e : N b with
    | false => rfl
    | true => rw [a b e] at n; cases n
  rw [wo_in this]; exact h
theorem Same.wo1 {N : Av} {H : Hp} : Same (DL.wo N H) H := fun b o h => (wo_some h).2
theorem same_t {K : PySem.W.Frag} {H H' : Hp} {a : Addr} {xs : List V} (e : Same H H') (h : SqT K H a xs) : SqT K H' a xs := by
  rcases h with (h | ⟨o, h⟩) | h
  · exact .inl (.inl (e _ _ h))
  · exact .inl (.inr ⟨o, e _ _ h⟩)
  · exact .inr h
theorem same_rd {H H' : Hp} {a : Addr} {u : HO} (e : Same H H') (h : Rd H a u) : Rd H' a u := by
  rcases h with h | ⟨o, h⟩
  · exact .inl (e _ _ h)
  · exact .inr ⟨o, e _ _ h⟩
mutual
/-- a value is a datum: lists tracked (or locked), tuples tracked, locked or the written part's -/
inductive Dt (K : PySem.W.Frag) (H : Hp) : V → PyData → Prop
  | non : Dt K H .non .none
  | bl (b : Bool) : Dt K H (.bl b) (.bool b)
  | int (i : Int) : Dt K H (.int i) (.int i)
  | str (x : Str) : Dt K H (.str x) (.str x)
  | lst {a : Addr} {xs : List V} {ds : List PyData} (h : Rd H a (.lst xs)) (t : DtAll K H xs ds) : Dt K H (.ref a) (.list ds)
  | tup {a : Addr} {xs : List V} {ds : List PyData} (h : SqT K H a xs) (t : DtAll K H xs ds) : Dt K H (.ref a) (.tuple ds)
  | dct {a : Addr} (h : H a = some (.dK [])) : Dt K H (.ref a) (.dict [])
inductive DtAll (K : PySem.W.Frag) (H : Hp) : List V → List PyData → Prop
  | nil : DtAll K H [] []
  | cons {v : V} {vs : List V} {d : PyData} {ds : List PyData} (h : Dt K H v d) (t : DtAll K H vs ds) : DtAll K H (v :: vs) (d :: ds)
end
mutual
theorem dp_mono {K : PySem.W.Frag} {H H' : Hp} (e : Same H H') : ∀ (d : PyData) (v : V), Dt K H v d → Dt K H' v d
  | .none, _, h => by cases h; exact .non
  | .bool b, _, h => by cases h; exact .bl b
  | .int i, _, h => by cases h; exact .int i
  | .str x, _, h => by cases h; exact .str x
  | .list ds, _, h => by
    cases h with
    | lst hs ha => exact .lst (same_rd e hs) (dpall_mono e ds _ ha)
  | .tuple ds, _, h => by
    cases h with
    | tup hs ha => exact .tup (same_t e hs) (dpall_mono e ds _ ha)
  | .dict _, _, h => by
    cases h with
    | dct h => exact .dct (e _ _ h)
theorem dpall_mono {K : PySem.W.Frag} {H H' : Hp} (e : Same H H') : ∀ (ds : List PyData) (vs : List V), DtAll K H vs ds → DtAll K H' vs ds
  | [], _, h => by cases h; exact .nil
  | d :: ds, _, h => by
    cases h with
    | cons h1 h2 => exact .cons (dp_mono e d _ h1) (dpall_mono e ds _ h2)
end
mutual
theorem dt_dp {K : PySem.W.Frag} {H : Hp} : ∀ (d : PyData) (v : V), d.hasDict = false → Dt K H v d → Dp K H v d
  | .none, _, _, h => by cases h; exact .non
  | .bool b, _, _, h => by cases h; exact .bl b
  | .int i, _, _, h => by cases h; exact .int i
  | .str x, _, _, h => by cases h; exact .str x
  | .list ds, _, n, h => by
    cases h with
    | lst hs ha => exact .lst (.inl hs) (dtall_dp ds _ (by simpa [PyData.hasDict] using n) ha)
  | .tuple ds, _, n, h => by
    cases h with
    | tup hs ha => exact .tup hs (dtall_dp ds _ (by simpa [PyData.hasDict] using n) ha)
  | .dict _, _, n, h => by simp [PyData.hasDict] at n
theorem dtall_dp {K : PySem.W.Frag} {H : Hp} : ∀ (ds : List PyData) (vs : List V), PyData.hasDictAll ds = false → DtAll K H vs ds → DpAll K H vs ds
  | [], _, _, h => by cases h; exact .nil
  | d :: ds, _, n, h => by
    have n' : d.hasDict = false ∧ PyData.hasDictAll ds = false := by simpa [PyData.hasDictAll] using n
    cases h with
    | cons h1 h2 => exact .cons (dt_dp d _ n'.1 h1) (dtall_dp ds _ n'.2 h2)
end
mutual
theorem lay_nd : ∀ (d : PyData), d.canLay0 = true → d.hasDict = false
  | .none, _ => rfl
  | .bool _, _ => rfl
  | .int _, _ => rfl
  | .str _, _ => rfl
  | .list ds, h => by
    have := lay_nd_all ds (by simpa [PyData.canLay0] using h)
    simpa [PyData.hasDict] using this
  | .tuple ds, h => by
    have := lay_nd_all ds (by simpa [PyData.canLay0] using h)
    simpa [PyData.hasDict] using this
  | .dict _, h => by simp [PyData.canLay0] at h
theorem lay_nd_all : ∀ (ds : List PyData), PyData.canLayAll0 ds = true → PyData.hasDictAll ds = false
  | [], _ => rfl
  | d :: ds, h => by
    have h' : d.canLay0 = true ∧ PyData.canLayAll0 ds = true := by simpa [PyData.canLayAll0] using h
    simp [PyData.hasDictAll, lay_nd d h'.1, lay_nd_all ds h'.2]
end
theorem shaped_nd {d : PyData} (h : SeqAt.shaped d = true) : d.hasDict = false := lay_nd d (SeqAt.canLay_of_shaped h)
section
variable {K : PySem.W.Frag} {N N' : Av} {H H' : Hp} {v : V} {vs ws : List V} {d : PyData} {ds es : List PyData}
/-- v is the data d, none of its objects avoided -/
def Dq (K : PySem.W.Frag) (N : Av) (H : Hp) (v : V) (d : PyData) : Prop := Dt K (wo N H) v d
def DqAll (K : PySem.W.Frag) (N : Av) (H : Hp) (vs : List V) (ds : List PyData) : Prop := DtAll K (wo N H) vs ds
theorem Dq.keep (h : Dq K N H v d) (k : Keep N H H') : Dq K N H' v d := dp_mono k.wo d v h
theorem DqAll.keep (h : DqAll K N H vs ds) (k : Keep N H H') : DqAll K N H' vs ds := dpall_mono k.wo ds vs h
theorem Dq.le (h : Dq K N' H v d) (k : Le N N') : Dq K N H v d := dp_mono k.wo d v h
theorem DqAll.le (h : DqAll K N' H vs ds) (k : Le N N') : DqAll K N H vs ds := dpall_mono k.wo ds vs h
theorem Dq.dt (h : Dq K N H v d) : Dt K H v d := dp_mono Same.wo1 d v h
theorem Dq.dp (h : Dq K N H v d) (n : d.hasDict = false) : Dp K H v d := dt_dp d v n h.dt
theorem DqAll.len : ∀ {vs : List V} {ds : List PyData}, DqAll K N H vs ds → vs.length = ds.length := by
  intro vs ds h
  induction vs generalizing ds with
  | nil => cases h; rfl
  | cons v vs ih =>
    cases h with
    | cons h1 h2 => exact congrArg (· + 1) (ih h2)
theorem DqAll.nil : DqAll K N H [] [] := DtAll.nil
theorem DqAll.cons (h : Dq K N H v d) (t : DqAll K N H vs ds) : DqAll K N H (v :: vs) (d :: ds) := DtAll.cons h t
theorem DqAll.append : ∀ {vs : List V} {ds : List PyData}, DqAll K N H vs ds → DqAll K N H ws es → DqAll K N H (vs ++ ws) (ds ++ es) := by
  intro vs ds h t
  induction vs generalizing ds with
  | nil => cases h; exact t
  | cons v vs ih =>
    cases h with
    | cons h1 h2 => exact DqAll.cons h1 (ih h2)
theorem DqAll.get : ∀ {vs : List V} {ds : List PyData} {i : Nat} {d : PyData}, DqAll K N H vs ds → ds[i]? = some d → ∃ v, vs[i]? = some v ∧ Dq K N H v d := by
  intro vs ds i d h e
  induction vs generalizing ds i with
  | nil => cases h; simp at e
  | cons v vs ih =>
    cases h with
    | cons h1 h2 =>
      cases i with
      | zero => simp at e; subst e; exact ⟨v, rfl, h1⟩
      | succ i => obtain ⟨u, h3, h4⟩ := ih h2 (by simpa using e); exact ⟨u, by simpa using h3, h4⟩
theorem DqAll.ints {ns : List Int} : DqAll K N H (ns.map V.int) (ns.map PyData.int) := by
  induction ns with
  | nil => exact DqAll.nil
  | cons n ns ih => exact DqAll.cons (Dt.int n) ih
theorem DqAll.of_ints : ∀ {vs : List V} {ns : List Int}, DqAll K N H vs (ns.map PyData.int) → vs = ns.map V.int := by
  intro vs ns h
  induction ns generalizing vs with
  | nil => cases h; rfl
  | cons n ns ih =>
    cases h with
    | cons h1 h2 => cases h1; rw [ih h2]; rfl
/-- a fresh address is avoided by nobody -/
theorem fresh_av (hN : ∀ b, N b = true → H b ≠ none) {p : Addr} (hp : H p = none) : N p = false := by
  cases e : N p with
  | false => rfl
  | true => exact absurd hp (hN p e)
theorem Dq.tup {p : Addr} {xs : List V} (np : N p = false) (hp : H p = some (.tup xs)) (h : DqAll K N H xs ds) : Dq K N H (.ref p) (.tuple ds) :=
  Dt.tup (.inl (.inl (by rw [wo_in np]; exact hp))) h
theorem Dq.lst {p : Addr} {xs : List V} (np : N p = false) (hp : H p = some (.lst xs)) (h : DqAll K N H xs ds) : Dq K N H (.ref p) (.list ds) :=
  Dt.lst (.inl (by rw [wo_in np]; exact hp)) h
theorem Dq.tup_inv (h : Dq K N H v (.tuple ds)) : ∃ p xs, v = .ref p ∧ SqT K (wo N H) p xs ∧ SqT K H p xs ∧ DqAll K N H xs ds := by
  cases h with
  | tup hs ha => exact ⟨_, _, rfl, hs, same_t Same.wo1 hs, ha⟩
theorem Dq.lst_inv (h : Dq K N H v (.list ds)) : ∃ p xs, v = .ref p ∧ Rd (wo N H) p (.lst xs) ∧ Rd H p (.lst xs) ∧ DqAll K N H xs ds := by
  cases h with
  | lst hs ha => exact ⟨_, _, rfl, hs, same_rd Same.wo1 hs, ha⟩
theorem Dq.bool_inv {i : Bool} (h : Dq K N H v (.bool i)) : v = .bl i := by cases h; rfl
theorem Dq.str_inv {i : Str} (h : Dq K N H v (.str i)) : v = .str i := by cases h; rfl
theorem same_new {p : Addr} (h : H p = none) (o : HO) : Same H (upd H p o) := fun b u q => by rw [upd_ne (ne_of_none q h)]; exact q
end
end DL

set_option Elab.async false
set_option linter.all false
set_option maxRecDepth 100000
set_option maxHeartbeats 2000000
namespace DL
open PySem L2

/-- a thing that changes in its footprint alone, with a bound that a call may raise -/
structure Stt where
  a : Addr
  fp : Av
  ok : Hp → Nat → Prop
  loc : ∀ H H' B, (∀ b, fp b = true → H' b = H b) → ok H B → ok H' B
  trk : ∀ H B, ok H B → ∀ b, fp b = true → H b ≠ none
/-- none -/
def S0 : Stt := ⟨0, fun _ => false, fun _ _ => False, fun _ _ _ _ h => h, fun _ _ h => h.elim⟩

inductive Sl where
  | unk
  | dat (d : PyData)
  | own (ds : List PyData)
  | sto (B : Nat)
  | scr (ns : List Int)
abbrev Rho := List Sl
/-- what stands beside the names: a value on the way, a list that a comprehension fills -/
inductive Hd where
  | dat (v : V) (d : PyData)
  | own (p : Addr) (ds : List PyData)
def HdOk (K : PySem.W.Frag) (S : Stt) (H0 : Hp) (N0 N : Av) (H : Hp) : Hd → Prop
  | .dat v d => Dq K N H v d
  | .own p ds => ∃ xs, N p = true ∧ S.fp p = false ∧ N0 p = false ∧ H0 p = none ∧ H p = some (.lst xs) ∧ DqAll K N H xs ds

def SlOk (K : PySem.W.Frag) (S : Stt) (H0 : Hp) (N0 N : Av) (σ : L2.St) (H : Hp) (i : Nat) : Sl → Prop
  | .unk => True
  | .dat d => ∃ v, σ[i]? = some (some v) ∧ Dq K N H v d
  | .own ds => ∃ p xs, σ[i]? = some (some (.ref p)) ∧ N p = true ∧ S.fp p = false ∧ N0 p = false ∧ H0 p = none ∧ H p = some (.lst xs) ∧ DqAll K N H xs ds
  | .sto B => σ[i]? = some (some (.ref S.a)) ∧ S.ok H B
  | .scr ns => ∃ a, σ[i]? = some (some (.ref a)) ∧ SqL K (wo N H) a (ns.map V.int)

structure EnvD (K : PySem.W.Frag) (S : Stt) (H0 : Hp) (N0 : Av) (Z : List Hd) (N : Av) (σ : L2.St) (H : Hp) (ρ : Rho) : Prop where
  keep : ∀ b o, S.fp b = false → H0 b = some o → H b = some o
  base : Le N0 N
  trk : ∀ b, N b = true → H b ≠ none
  sub : Le S.fp N
  slot : ∀ (i : Nat) (s : Sl), ρ[i]? = some s → SlOk K S H0 N0 N σ H i s
  len : ρ.length = σ.length
  hid : ∀ z, z ∈ Z → HdOk K S H0 N0 N H z
  injH : ∀ (i : Nat) (di dj : List PyData) (p : Addr), ρ[i]? = some (Sl.own di) → σ[i]? = some (some (V.ref p)) → Hd.own p dj ∈ Z → False
  injZ : ∀ (i j : Nat) (di dj : List PyData) (p : Addr), Z[i]? = some (Hd.own p di) → Z[j]? = some (Hd.own p dj) → i = j
  inj : ∀ (i j : Nat) (di dj : List PyData) (p : Addr), ρ[i]? = some (Sl.own di) → ρ[j]? = some (Sl.own dj) → σ[i]? = some (some (V.ref p)) → σ[j]? = some (some (V.ref p)) → i = j

def WD (K : PySem.W.Frag) (S : Stt) (te : TE) (ρ : Rho) (Φ : PyData → Rho → Prop) : Prop :=
  ∀ H0 N0 Z N σ H, EnvD K S H0 N0 Z N σ H ρ → ∀ Q : VK, (∀ v d ρ' H', Φ d ρ' → EnvD K S H0 N0 Z N σ H' ρ' → Keep N H H' → Dq K N H' v d → Q v H') → te σ H Q
def WA (K : PySem.W.Frag) (S : Stt) (ta : TA) (ρ : Rho) (Φ : List PyData → Rho → Prop) : Prop :=
  ∀ H0 N0 Z N σ H, EnvD K S H0 N0 Z N σ H ρ → ∀ Q : List V → Hp → Prop, (∀ vs ds ρ' H', Φ ds ρ' → EnvD K S H0 N0 Z N σ H' ρ' → Keep N H H' → DqAll K N H' vs ds → Q vs H') → ta σ H Q
def WT (K : PySem.W.Frag) (S : Stt) (tt : TT) (ρ : Rho) (Φ : Bool → Rho → Prop) : Prop :=
  ∀ H0 N0 Z N σ H, EnvD K S H0 N0 Z N σ H ρ → ∀ Q : Bool → Hp → Prop, (∀ b ρ' H', Φ b ρ' → EnvD K S H0 N0 Z N σ H' ρ' → Keep N H H' → Q b H') → tt σ H Q
/-- two-place operations on data, calls on data -/
def DO (K : PySem.W.Frag) (r : R2) (x y : PyData) (Ψ : PyData → Prop) : Prop :=
  ∀ (N : Av) (H : Hp), (∀ b, N b = true → H b ≠ none) → ∀ u w, Dq K N H u x → Dq K N H w y → ∀ Q : VK, (∀ v d H', Ψ d → Same H H' → Dq K N H' v d → Q v H') → r u w H Q
def DU (K : PySem.W.Frag) (r : V → Hp → VK → Prop) (x : PyData) (Ψ : PyData → Prop) : Prop :=
  ∀ (N : Av) (H : Hp), (∀ b, N b = true → H b ≠ none) → ∀ u, Dq K N H u x → ∀ Q : VK, (∀ v d H', Ψ d → Same H H' → Dq K N H' v d → Q v H') → r u H Q
def DC (K : PySem.W.Frag) (r : List V → Hp → VK → Prop) (xs : List PyData) (Ψ : PyData → Prop) : Prop :=
  ∀ (N : Av) (H : Hp), (∀ b, N b = true → H b ≠ none) → ∀ us, DqAll K N H us xs → ∀ Q : VK, (∀ v d H', Ψ d → Same H H' → Dq K N H' v d → Q v H') → r us H Q

/-- what is wanted behind a statement -/
structure DE where
  nx : Rho → Prop
  rt : PyData → Rho → Prop
  bk : Rho → Prop := fun _ => False
  ct : Rho → Prop := fun _ => False
structure Meets (K : PySem.W.Frag) (S : Stt) (H0 : Hp) (N0 : Av) (Z : List Hd) (En : DE) (D : Ends) : Prop where
  nx : ∀ N σ H ρ, En.nx ρ → EnvD K S H0 N0 Z N σ H ρ → D.nx σ H
  rt : ∀ N σ H ρ v d, En.rt d ρ → EnvD K S H0 N0 Z N σ H ρ → Dq K N0 H v d → D.rt v H
  bk : ∀ N σ H ρ, En.bk ρ → EnvD K S H0 N0 Z N σ H ρ → D.bk σ H
  ct : ∀ N σ H ρ, En.ct ρ → EnvD K S H0 N0 Z N σ H ρ → D.ct σ H
def WS (K : PySem.W.Frag) (S : Stt) (ts : TS) (ρ : Rho) (En : DE) : Prop :=
  ∀ H0 N0 Z N σ H D, EnvD K S H0 N0 Z N σ H ρ → Meets K S H0 N0 Z En D → ts D σ H

section
variable {K : PySem.W.Frag} {S : Stt} {H0 : Hp} {N0 : Av} {Z : List Hd} {N : Av} {σ : L2.St} {H H' : Hp} {ρ : Rho} {Φ : PyData → Rho → Prop}

theorem SlOk.ext (hs : Le S.fp N) (ht : ∀ b, N b = true → H b ≠ none) (e : Same H H') : ∀ {s : Sl} {i : Nat}, SlOk K S H0 N0 N σ H i s → SlOk K S H0 N0 N σ H' i s
  | .unk, _, h => h
  | .dat d, _, ⟨v, h1, h2⟩ => ⟨v, h1, h2.keep (Keep.of e)⟩
  | .own ds, _, ⟨p, xs, h1, h2, h3, h4, h5, h6, h7⟩ => ⟨p, xs, h1, h2, h3, h4, h5, e _ _ h6, h7.keep (Keep.of e)⟩
  | .sto B, _, ⟨h1, h2⟩ => ⟨h1, S.loc H H' B (fun b hb => by
      cases q : H b with
      | none => exact absurd q (ht b (hs b hb))
      | some o => exact e b o q) h2⟩
  | .scr ns, _, ⟨a, h1, h2⟩ => ⟨a, h1, (Keep.of e).wo.seq h2⟩
theorem HdOk.ext (e : Same H H') : ∀ {z : Hd}, HdOk K S H0 N0 N H z → HdOk K S H0 N0 N H' z
  | .dat v d, h => Dq.keep h (Keep.of e)
  | .own p ds, ⟨xs, h2, h3, h4, h5, h6, h7⟩ => ⟨xs, h2, h3, h4, h5, e _ _ h6, h7.keep (Keep.of e)⟩
theorem EnvD.ext (E : EnvD K S H0 N0 Z N σ H ρ) (e : Same H H') : EnvD K S H0 N0 Z N σ H' ρ where
  keep b o n h := e b o (E.keep b o n h)
  base := E.base
  trk b h z := by
    cases q : H b with
    | none => exact E.trk b h q
    | some o => rw [e b o q] at z; cases z
  sub := E.sub
  slot i s h := (E.slot i s h).ext E.sub E.trk e
  len := E.len
  hid z h := (E.hid z h).ext e
  injH := E.injH
  injZ := E.injZ
  inj := E.inj
theorem get_set {α : Type} {l : List α} {i j : Nat} {x y : α} (h : (l.set i x)[j]? = some y) : (i = j ∧ y = x) ∨ (i ≠ j ∧ l[j]? = some y) := by
  by_cases e : i = j
  · subst e
    have hl : i < l.length := by have := (List.getElem?_eq_some_iff.mp h).1; rwa [List.length_set] at this
    rw [List.getElem?_set_self hl] at h
    cases h
    exact .inl ⟨rfl, rfl⟩
  · rw [List.getElem?_set_ne e] at h
    exact .inr ⟨e, h⟩
theorem set_ne {α : Type} {l : List α} {i j : Nat} {x : α} (h : i ≠ j) : (l.set i x)[j]? = l[j]? := List.getElem?_set_ne h
theorem set_eq {α : Type} {l : List α} {i : Nat} {x : α} (h : i < l.length) : (l.set i x)[i]? = some x := List.getElem?_set_self h
theorem SlOk.other {s : Sl} {i j : Nat} {u : Option V} (h : i ≠ j) (q : SlOk K S H0 N0 N σ H j s) : SlOk K S H0 N0 N (σ.set i u) H j s := by
  cases s with
  | unk => exact q
  | dat d => obtain ⟨u, h1, h2⟩ := q; exact ⟨u, by rw [set_ne h]; exact h1, h2⟩
  | own ds => obtain ⟨p, xs, h1, h2⟩ := q; exact ⟨p, xs, by rw [set_ne h]; exact h1, h2⟩
  | sto B => obtain ⟨h1, h2⟩ := q; exact ⟨by rw [set_ne h]; exact h1, h2⟩
  | scr ns => obtain ⟨a, h1, h2⟩ := q; exact ⟨a, by rw [set_ne h]; exact h1, h2⟩
/-- a slot gets what is no list of one's own -/
theorem EnvD.set0 (E : EnvD K S H0 N0 Z N σ H ρ) {i : Nat} {u : Option V} {s : Sl} (no : ∀ ds, s ≠ .own ds) (hs : i < σ.length → SlOk K S H0 N0 N (σ.set i u) H i s) : EnvD K S H0 N0 Z N (σ.set i u) H (ρ.set i s) where
  keep := E.keep
  base := E.base
  trk := E.trk
  sub := E.sub
  len := by rw [List.length_set, List.length_set]; exact E.len
  hid := E.hid
  injZ := E.injZ
  slot j t h := by
    rcases get_set h with ⟨e, e2⟩ | ⟨e, h⟩
    · subst e; subst e2
      refine hs ?_
      have := (List.getElem?_eq_some_iff.mp h).1
      rw [List.length_set] at this
      rw [← E.len]; exact this
    · exact (E.slot j t h).other e
  injH a da dj p ha h1 hz := by
    rcases get_set ha with ⟨e, e2⟩ | ⟨e, ha⟩
    · exact absurd e2.symm (no _)
    · rw [set_ne e] at h1
      exact E.injH a da dj p ha h1 hz
  inj a b da db p ha hb h1 h2 := by
    rcases get_set ha with ⟨e, e2⟩ | ⟨ea, ha⟩
    · exact absurd e2.symm (no _)
    · rcases get_set hb with ⟨e, e2⟩ | ⟨eb, hb⟩
      · exact absurd e2.symm (no _)
      · rw [set_ne ea] at h1
        rw [set_ne eb] at h2
        exact E.inj a b da db p ha hb h1 h2
theorem EnvD.set (E : EnvD K S H0 N0 Z N σ H ρ) {i : Nat} {v : V} {d : PyData} (hv : Dq K N H v d) : EnvD K S H0 N0 Z N (σ.set i (some v)) H (ρ.set i (.dat d)) :=
  E.set0 (fun _ h => nomatch h) fun hi => ⟨v, set_eq hi, hv⟩
theorem EnvD.unset (E : EnvD K S H0 N0 Z N σ H ρ) {i : Nat} {u : Option V} : EnvD K S H0 N0 Z N (σ.set i u) H (ρ.set i .unk) :=
  E.set0 (fun _ h => nomatch h) fun _ => trivial
/-- forget -/
def Fgt (ρ ρ' : Rho) : Prop := ρ'.length = ρ.length ∧ ∀ (i : Nat) (s : Sl), ρ'[i]? = some s → s = .unk ∨ ρ[i]? = some s
theorem Fgt.refl : Fgt ρ ρ := ⟨rfl, fun _ _ h => .inr h⟩
theorem EnvD.fgt {ρ' : Rho} (E : EnvD K S H0 N0 Z N σ H ρ) (f : Fgt ρ ρ') : EnvD K S H0 N0 Z N σ H ρ' where
  keep := E.keep
  base := E.base
  trk := E.trk
  sub := E.sub
  slot i s h := by
    rcases f.2 i s h with e | e
    · subst e; trivial
    · exact E.slot i s e
  len := f.1.trans E.len
  hid := E.hid
  injZ := E.injZ
  injH a da dj p ha h1 hz := by
    rcases f.2 a _ ha with e | ea
    · cases e
    · exact E.injH a da dj p ea h1 hz
  inj a b da db p ha hb h1 h2 := by
    rcases f.2 a _ ha with e | ea
    · cases e
    · rcases f.2 b _ hb with e | eb
      · cases e
      · exact E.inj a b da db p ea eb h1 h2

/-! ### expressions -/
theorem WD.imp {te : TE} {Φ Φ' : PyData → Rho → Prop} (h : WD K S te ρ Φ) (i : ∀ d ρ', Φ d ρ' → Φ' d ρ') : WD K S te ρ Φ' := fun H0 N0 Z N σ H E Q q => h H0 N0 Z N σ H E Q fun v d ρ' H' f => q v d ρ' H' (i d ρ' f)
theorem wd_var {i : Nat} {d : PyData} (h : ρ[i]? = some (.dat d)) (f : Φ d ρ) : WD K S (tVar i) ρ Φ := fun H0 N0 Z N σ H E Q q => by
  obtain ⟨v, h1, h2⟩ := E.slot i _ h
  exact ⟨v, h1, q v d ρ H f E Keep.refl h2⟩
theorem wd_int {i : Int} (f : Φ (.int i) ρ) : WD K S (tC (.int i)) ρ Φ := fun H0 N0 Z N σ H E Q q => q _ _ ρ H f E Keep.refl (Dt.int i)
theorem wd_bl {i : Bool} (f : Φ (.bool i) ρ) : WD K S (tC (.bl i)) ρ Φ := fun H0 N0 Z N σ H E Q q => q _ _ ρ H f E Keep.refl (Dt.bl i)
theorem wd_str {i : Str} (f : Φ (.str i) ρ) : WD K S (tC (.str i)) ρ Φ := fun H0 N0 Z N σ H E Q q => q _ _ ρ H f E Keep.refl (Dt.str i)
theorem wd_non (f : Φ .none ρ) : WD K S (tC .non) ρ Φ := fun H0 N0 Z N σ H E Q q => q _ _ ρ H f E Keep.refl Dt.non
theorem wd_op {r : R2} {ta tb : TE} (h : WD K S ta ρ fun x ρ1 => WD K S tb ρ1 fun y ρ2 => DO K r x y fun z => Φ z ρ2) : WD K S (tOp r ta tb) ρ Φ := fun H0 N0 Z N σ H E Q q =>
  h H0 N0 Z N σ H E _ fun u x ρ1 H1 h1 E1 k1 d1 => h1 H0 N0 Z N σ H1 E1 _ fun w y ρ2 H2 h2 E2 k2 d2 => h2 N H2 E2.trk u w (d1.keep k2) d2 Q fun v d H3 f e d3 =>
    q v d ρ2 H3 f (E2.ext e) ((k1.trans k2).trans (Keep.of e)) d3
theorem wd_un {r : V → Hp → VK → Prop} {ta : TE} (h : WD K S ta ρ fun x ρ1 => DU K r x fun z => Φ z ρ1) : WD K S (tUn r ta) ρ Φ := fun H0 N0 Z N σ H E Q q =>
  h H0 N0 Z N σ H E _ fun u x ρ1 H1 h1 E1 k1 d1 => h1 N H1 E1.trk u d1 Q fun v d H3 f e d3 => q v d ρ1 H3 f (E1.ext e) (k1.trans (Keep.of e)) d3
theorem wa_nil {Φ : List PyData → Rho → Prop} (f : Φ [] ρ) : WA K S tNil ρ Φ := fun H0 N0 Z N σ H E Q q => q [] [] ρ H f E Keep.refl DqAll.nil
theorem wa_cons {te : TE} {ta : TA} {Φ : List PyData → Rho → Prop} (h : WD K S te ρ fun x ρ1 => WA K S ta ρ1 fun xs ρ2 => Φ (x :: xs) ρ2) : WA K S (tCons te ta) ρ Φ := fun H0 N0 Z N σ H E Q q =>
  h H0 N0 Z N σ H E _ fun u x ρ1 H1 h1 E1 k1 d1 => h1 H0 N0 Z N σ H1 E1 _ fun us xs ρ2 H2 h2 E2 k2 d2 => q (u :: us) (x :: xs) ρ2 H2 h2 E2 (k1.trans k2) (DqAll.cons (d1.keep k2) d2)
theorem wd_cb {r : List V → Hp → VK → Prop} {ta : TA} (h : WA K S ta ρ fun xs ρ1 => DC K r xs fun z => Φ z ρ1) : WD K S (tCB r ta) ρ Φ := fun H0 N0 Z N σ H E Q q =>
  h H0 N0 Z N σ H E _ fun us xs ρ1 H1 h1 E1 k1 d1 => h1 N H1 E1.trk us d1 Q fun v d H3 f e d3 => q v d ρ1 H3 f (E1.ext e) (k1.trans (Keep.of e)) d3
theorem wd_tup {ta : TA} (h : WA K S ta ρ fun xs ρ1 => xs.length ≤ sizeLine ∧ Φ (.tuple xs) ρ1) : WD K S (tTup ta) ρ Φ := fun H0 N0 Z N σ H E Q q =>
  h H0 N0 Z N σ H E _ fun us xs ρ1 H1 h1 E1 k1 d1 => ⟨by rw [d1.len]; exact h1.1, fun p hp => by
    have s := same_new hp (.tup us)
    exact q (.ref p) (.tuple xs) ρ1 _ h1.2 (E1.ext s) (k1.trans (Keep.of s)) (Dq.tup (fresh_av E1.trk hp) upd_same (d1.keep (Keep.of s)))⟩
theorem wd_lst {ta : TA} (h : WA K S ta ρ fun xs ρ1 => xs.length ≤ sizeLine ∧ Φ (.list xs) ρ1) : WD K S (tLst ta) ρ Φ := fun H0 N0 Z N σ H E Q q =>
  h H0 N0 Z N σ H E _ fun us xs ρ1 H1 h1 E1 k1 d1 => ⟨by rw [d1.len]; exact h1.1, fun p hp => by
    have s := same_new hp (.lst us)
    exact q (.ref p) (.list xs) ρ1 _ h1.2 (E1.ext s) (k1.trans (Keep.of s)) (Dq.lst (fresh_av E1.trk hp) upd_same (d1.keep (Keep.of s)))⟩
/-- tests -/
theorem wt_test {te : TE} {Φ : Bool → Rho → Prop} (h : WD K S te ρ fun x ρ1 => ∃ b, x = .bool b ∧ Φ b ρ1) : WT K S (tTest te) ρ Φ := fun H0 N0 Z N σ H E Q q =>
  h H0 N0 Z N σ H E _ fun u x ρ1 H1 ⟨b, e, f⟩ E1 k1 d1 => by subst e; exact ⟨b, d1.bool_inv, q b ρ1 H1 f E1 k1⟩
theorem wt_or {t u : TT} {Φ : Bool → Rho → Prop} (h : WT K S t ρ fun b ρ1 => if b = true then Φ true ρ1 else WT K S u ρ1 Φ) : WT K S (tOr t u) ρ Φ := fun H0 N0 Z N σ H E Q q =>
  h H0 N0 Z N σ H E _ fun b ρ1 H1 f E1 k1 => by
    cases b with
    | false => exact f H0 N0 Z N σ H1 E1 _ fun b ρ2 H2 f2 E2 k2 => q b ρ2 H2 f2 E2 (k1.trans k2)
    | true => exact q true ρ1 H1 f E1 k1
theorem wd_ifE {t : TT} {ta tb : TE} (h : WT K S t ρ fun b ρ1 => if b = true then WD K S ta ρ1 Φ else WD K S tb ρ1 Φ) : WD K S (tIf t ta tb) ρ Φ := fun H0 N0 Z N σ H E Q q =>
  h H0 N0 Z N σ H E _ fun b ρ1 H1 f E1 k1 => by
    cases b with
    | true => exact f H0 N0 Z N σ H1 E1 _ fun v d ρ2 H2 f2 E2 k2 => q v d ρ2 H2 f2 E2 (k1.trans k2)
    | false => exact f H0 N0 Z N σ H1 E1 _ fun v d ρ2 H2 f2 E2 k2 => q v d ρ2 H2 f2 E2 (k1.trans k2)
end
end DL

set_option Elab.async false
set_option linter.all false
set_option maxRecDepth 100000
set_option maxHeartbeats 2000000
namespace DL
open PySem L2
section
variable {K : PySem.W.Frag} {S : Stt} {H0 : Hp} {N0 : Av} {Z : List Hd} {N : Av} {σ : L2.St} {H H' : Hp} {ρ : Rho} {Φ : PyData → Rho → Prop} {Ψ : PyData → Prop}

/-! ### operations on data -/
theorem do_ii {f : Int → Int → Int} {i j : Int} (h : Ψ (.int (f i j))) : DO K (rI0 fun i j => .int (f i j)) (.int i) (.int j) Ψ := fun N H _ u w hu hw Q q => by
  cases hu; cases hw
  exact ⟨i, j, rfl, rfl, q _ _ H h (Same.refl H) (Dt.int _)⟩
theorem do_ib {f : Int → Int → Bool} {i j : Int} (h : Ψ (.bool (f i j))) : DO K (rI0 fun i j => .bl (f i j)) (.int i) (.int j) Ψ := fun N H _ u w hu hw Q q => by
  cases hu; cases hw
  exact ⟨i, j, rfl, rfl, q _ _ H h (Same.refl H) (Dt.bl _)⟩
theorem do_ic {C : Int → Int → Prop} {f : Int → Int → Int} {i j : Int} (c : C i j) (h : Ψ (.int (f i j))) : DO K (rI C fun i j => .int (f i j)) (.int i) (.int j) Ψ := fun N H _ u w hu hw Q q => by
  cases hu; cases hw
  exact ⟨i, j, rfl, rfl, c, q _ _ H h (Same.refl H) (Dt.int _)⟩
theorem du_i {f : Int → Int} {i : Int} (h : Ψ (.int (f i))) : DU K (rU fun i => .int (f i)) (.int i) Ψ := fun N H _ u hu Q q => by
  cases hu
  exact ⟨i, rfl, q _ _ H h (Same.refl H) (Dt.int _)⟩
theorem do_eqi {i j : Int} (h : Ψ (.bool (decide (i = j)))) : DO K rEq (.int i) (.int j) Ψ := fun N H _ u w hu hw Q q => by
  cases hu; cases hw
  refine ⟨rfl, ?_⟩
  have e : decide (V.int i = V.int j) = decide (i = j) := by
    by_cases e : i = j
    · subst e; simp
    · rw [decide_eq_false e, decide_eq_false (fun z => e (V.int.inj z))]
  rw [e]
  exact q _ _ H h (Same.refl H) (Dt.bl _)
theorem do_neD {x y : PyData} (h1 : SeqAt.shaped x = true) (h2 : SeqAt.shaped y = true) (h : Ψ (.bool (!PyData.eqv x y))) : DO K (rNeD K) x y Ψ := fun N H _ u w hu hw Q q =>
  ⟨x, y, hu.dp (shaped_nd h1), hw.dp (shaped_nd h2), h1, h2, q _ _ H h (Same.refl H) (Dt.bl _)⟩
theorem at_dq {xs : List V} {ds : List PyData} {i : Int} {d : PyData} (h : DqAll K N H xs ds) (e : atI ds i = some d) : ∃ v, atI xs i = some v ∧ Dq K N H v d := by
  unfold atI at e ⊢
  rw [h.len]
  cases q : ixN ds.length i with
  | none => rw [q] at e; cases e
  | some j => rw [q] at e; exact h.get e
theorem do_ixL {ds : List PyData} {i : Int} {d : PyData} (e : atI ds i = some d) (h : Ψ d) : DO K (rIxL K) (.list ds) (.int i) Ψ := fun N H _ u w hu hw Q q => by
  obtain ⟨p, xs, rfl, _, h1, h2⟩ := hu.lst_inv
  cases hw
  obtain ⟨v, h3, h4⟩ := at_dq h2 e
  exact ⟨p, xs, i, v, rfl, rfl, (by first | exact h1 | exact .inl h1), h3, q v d H h (Same.refl H) h4⟩
/-- + of lists, locked too -/
def rCatL : R2 := fun x y H Q => ∃ a b xs zs, x = .ref a ∧ y = .ref b ∧ Rd H a (.lst xs) ∧ Rd H b (.lst zs) ∧ xs.length + zs.length ≤ sizeLine ∧ ∀ p, H p = none → Q (.ref p) (upd H p (.lst (xs ++ zs)))
theorem op_catL {X : Cx} : OpR X (binaryOp .Add) rCatL := by
  intro pins s τ G x y v u R I rx ry h
  obtain ⟨l, m, xs, zs, rfl, rfl, hL, hM, hz, k⟩ := h
  cases rx
  cases ry
  obtain ⟨z1, i1, n1, w1, g1⟩ := hL.ok I.hok
  obtain ⟨z2, i2, n2, w2, g2⟩ := hM.ok I.hok
  have e1 := w1.length
  have e2 := w2.length
  refine PySem.P.add_list g1 g2 ?_ (by simp only [List.size_toArray]; omega)
  rw [show i1.toArray ++ i2.toArray = (i1 ++ i2).toArray by simp]
  exact ⟨.ref _, _, I.lnew (t' := s.toks) (w1.append w2) (by simp only [List.length_append]; omega), rfl, k _ I.fresh⟩
/-! ### calls of built-ins -/
/-- a call on one int, on two, whose answer is an int -/
theorem dc_i1 {f : Int → Int} {i : Int} (h : Ψ (.int (f i))) : DC K (fun xs H Q => ∃ i, xs = [.int i] ∧ Q (.int (f i)) H) [.int i] Ψ := fun N H _ us hu Q q => by
  cases hu with
  | cons h1 h2 => cases h2; cases h1; exact ⟨i, rfl, q _ _ H h (Same.refl H) (Dt.int _)⟩
theorem dc_i2 {f : Int → Int → Int} {i j : Int} (h : Ψ (.int (f i j))) : DC K (fun xs H Q => ∃ i j, xs = [.int i, .int j] ∧ Q (.int (f i j)) H) [.int i, .int j] Ψ := fun N H _ us hu Q q => by
  cases hu with
  | cons h1 h2 =>
    cases h2 with
    | cons h2 h3 => cases h3; cases h1; cases h2; exact ⟨i, j, rfl, q _ _ H h (Same.refl H) (Dt.int _)⟩

/-! ### statements -/
theorem WS.imp {ts : TS} {En En' : DE} (h : WS K S ts ρ En) (i : ∀ ρ, En.nx ρ → En'.nx ρ) (r : ∀ d ρ, En.rt d ρ → En'.rt d ρ) (b : ∀ ρ, En.bk ρ → En'.bk ρ) (c : ∀ ρ, En.ct ρ → En'.ct ρ) : WS K S ts ρ En' :=
  fun H0 N0 Z N σ H D E M => h H0 N0 Z N σ H D E ⟨fun N σ H ρ q => M.nx N σ H ρ (i ρ q), fun N σ H ρ v d q => M.rt N σ H ρ v d (r d ρ q), fun N σ H ρ q => M.bk N σ H ρ (b ρ q), fun N σ H ρ q => M.ct N σ H ρ (c ρ q)⟩
theorem ws_seq {t u : TS} {En : DE} (h : WS K S t ρ { En with nx := fun ρ1 => WS K S u ρ1 En }) : WS K S (tSeq t u) ρ En := fun H0 N0 Z N σ H D E M =>
  h H0 N0 Z N σ H { D with nx := u D } E ⟨fun N σ H ρ q E1 => q H0 N0 Z N σ H D E1 M, M.rt, M.bk, M.ct⟩
theorem ws_next {En : DE} (h : En.nx ρ) : WS K S tNext ρ En := fun H0 N0 Z N σ H D E M => M.nx N σ H ρ h E
theorem ws_asg {te : TE} {i : Nat} {En : DE} (h : WD K S te ρ fun d ρ1 => En.nx (ρ1.set i (.dat d))) : WS K S (tAsg te (gName i)) ρ En := fun H0 N0 Z N σ H D E M =>
  h H0 N0 Z N σ H E _ fun v d ρ1 H1 f E1 k1 d1 => M.nx N _ H1 _ f (E1.set d1)
theorem ws_ret {te : TE} {En : DE} (h : WD K S te ρ En.rt) : WS K S (tRet te) ρ En := fun H0 N0 Z N σ H D E M =>
  h H0 N0 Z N σ H E _ fun v d ρ1 H1 f E1 k1 d1 => M.rt N _ H1 _ v d f E1 (d1.le E1.base)
theorem ws_if {c : TT} {t u : TS} {En : DE} (h : WT K S c ρ fun b ρ1 => if b = true then WS K S t ρ1 En else WS K S u ρ1 En) : WS K S (tIfS c t u) ρ En := fun H0 N0 Z N σ H D E M =>
  h H0 N0 Z N σ H E _ fun b ρ1 H1 f E1 k1 => by
    cases b with
    | true => exact f H0 N0 Z N σ H1 D E1 M
    | false => exact f H0 N0 Z N σ H1 D E1 M
/-! ### lists of one's own -/
theorem EnvD.new (E : EnvD K S H0 N0 Z N σ H ρ) {i : Nat} {p : Addr} {xs : List V} {ds : List PyData} (hp : H p = none) (hp0 : H0 p = none) (n0 : N0 p = false) (hd : DqAll K N H xs ds) :
    EnvD K S H0 N0 Z (fun b => N b || decide (b = p)) (σ.set i (some (.ref p))) (upd H p (.lst xs)) (ρ.set i (.own ds)) := by
  have np : N p = false := fresh_av E.trk hp
  have sp : S.fp p = false := by
    cases e : S.fp p with
    | false => rfl
    | true => rw [E.sub p e] at np; cases np
  have s := same_new hp (.lst xs)
  have kw : Same (wo N H) (wo (fun b => N b || decide (b = p)) (upd H p (.lst xs))) := fun b o h => by
    obtain ⟨n, h⟩ := wo_some h
    have hb : b ≠ p := ne_of_none h hp
    rw [wo_in (by simp [n, hb])]
    exact s b o h
  have dk : ∀ {v : V} {d : PyData}, Dq K N H v d → Dq K (fun b => N b || decide (b = p)) (upd H p (.lst xs)) v d := fun h => dp_mono kw _ _ h
  have dka : ∀ {v : List V} {d : List PyData}, DqAll K N H v d → DqAll K (fun b => N b || decide (b = p)) (upd H p (.lst xs)) v d := fun h => dpall_mono kw _ _ h
  have nq : ∀ {q : Addr} {ys : List V}, H q = some (.lst ys) → q ≠ p := fun h => ne_of_none h hp
  have le : ∀ b, N b = true → (N b || decide (b = p)) = true := fun b h => by rw [h]; rfl
  have old : ∀ {s : Sl} {j : Nat}, SlOk K S H0 N0 N σ H j s → SlOk K S H0 N0 (fun b => N b || decide (b = p)) σ (upd H p (.lst xs)) j s := fun {t j} h => by
    cases t with
    | unk => trivial
    | dat d => obtain ⟨v, h1, h2⟩ := h; exact ⟨v, h1, dk h2⟩
    | own es => obtain ⟨q, ys, h1, h2, h3, h4, h5, h6, h7⟩ := h; exact ⟨q, ys, h1, le q h2, h3, h4, h5, s _ _ h6, dka h7⟩
    | sto B =>
      obtain ⟨h1, h2⟩ := h
      exact ⟨h1, S.loc H _ B (fun b hb => upd_ne fun e => by rw [e, sp] at hb; cases hb) h2⟩
    | scr ns => obtain ⟨a, h1, h2⟩ := h; exact ⟨a, h1, kw.seq h2⟩
  refine ⟨fun b o n h => s b o (E.keep b o n h), fun b h => le b (E.base b h), fun b h => ?_, fun b h => le b (E.sub b h), fun j t h => ?_, by rw [List.length_set, List.length_set]; exact E.len, fun z h => ?_, fun a da dj q ha h1 hz => ?_, E.injZ, fun a b da db q ha hb h1 h2 => ?_⟩
  · by_cases e : b = p
    · subst e; rw [upd_same]; simp
    · have n : N b = true := by simpa [e] using h
      rw [upd_ne e]; exact E.trk b n
  · rcases get_set h with ⟨e, e2⟩ | ⟨e, h⟩
    · subst e; subst e2
      have hi : i < σ.length := by
        have := (List.getElem?_eq_some_iff.mp h).1
        rw [List.length_set] at this
        rw [← E.len]; exact this
      exact ⟨p, xs, set_eq hi, by simp, sp, n0, hp0, upd_same, dka hd⟩
    · exact (old (E.slot j t h)).other e
  · cases z with
    | dat v d => exact dk (E.hid _ h)
    | own q es =>
      obtain ⟨ys, h2, h3, h4, h5, h6, h7⟩ := E.hid _ h
      exact ⟨ys, le q h2, h3, h4, h5, s _ _ h6, dka h7⟩
  · rcases get_set ha with ⟨e, e2⟩ | ⟨e, ha⟩
    · subst e
      have hi : i < σ.length := by
        have := (List.getElem?_eq_some_iff.mp h1).1
        rwa [List.length_set] at this
      rw [set_eq hi] at h1
      cases h1
      obtain ⟨ys, h2, h3, h4, h5, h6, h7⟩ := E.hid _ hz
      exact nq h6 rfl
    · rw [set_ne e] at h1
      exact E.injH a da dj q ha h1 hz
  · have own : ∀ {c : Nat} {dc : List PyData} {q : Addr}, ρ[c]? = some (.own dc) → σ[c]? = some (some (V.ref q)) → q ≠ p := fun {c dc q} h1 h2 => by
      obtain ⟨q', ys, g1, g2, g3, g4, g5, g6, g7⟩ := E.slot c _ h1
      rw [g1] at h2; cases h2
      exact nq g6
    have fresh : ∀ {q : Addr}, (σ.set i (some (V.ref p)))[i]? = some (some (V.ref q)) → q = p := fun {q} h => by
      have hi : i < σ.length := by
        have := (List.getElem?_eq_some_iff.mp h).1
        rwa [List.length_set] at this
      rw [set_eq hi] at h; cases h; rfl
    rcases get_set ha with ⟨ea, e2⟩ | ⟨ea, ha⟩
    · rcases get_set hb with ⟨eb, e3⟩ | ⟨eb, hb⟩
      · exact ea.symm.trans eb
      · subst ea
        rw [set_ne eb] at h2
        exact absurd (fresh h1) (own hb h2)
    · rcases get_set hb with ⟨eb, e3⟩ | ⟨eb, hb⟩
      · subst eb
        rw [set_ne ea] at h1
        exact absurd (fresh h2) (own ha h1)
      · rw [set_ne ea] at h1
        rw [set_ne eb] at h2
        exact E.inj a b da db q ha hb h1 h2
end
end DL

set_option Elab.async false
set_option linter.all false
set_option maxRecDepth 100000
set_option maxHeartbeats 2000000
namespace DL
open PySem L2
section
variable {K : PySem.W.Frag} {S : Stt} {H0 : Hp} {N0 : Av} {Z : List Hd} {N : Av} {σ : L2.St} {H H' : Hp} {ρ : Rho} {Φ : PyData → Rho → Prop} {Ψ : PyData → Prop}

theorem free0 (E : EnvD K S H0 N0 Z N σ H ρ) {p : Addr} (hp : H p = none) : H0 p = none ∧ N0 p = false := by
  have np : N p = false := fresh_av E.trk hp
  have sp : S.fp p = false := by
    cases e : S.fp p with
    | false => rfl
    | true => rw [E.sub p e] at np; cases np
  constructor
  · cases e : H0 p with
    | none => rfl
    | some o => rw [E.keep p o sp e] at hp; cases hp
  · cases e : N0 p with
    | false => rfl
    | true => rw [E.base p e] at np; cases np
theorem ws_fgt {ts : TS} {ρ' : Rho} {En : DE} (f : Fgt ρ ρ') (h : WS K S ts ρ' En) : WS K S ts ρ En := fun H0 N0 Z N σ H D E M => h H0 N0 Z N σ H D (E.fgt f) M

/-! ### loops -/
theorem EnvD.push (E : EnvD K S H0 N0 Z N σ H ρ) {v : V} {d : PyData} (h : Dq K N H v d) : EnvD K S H0 N0 (.dat v d :: Z) N σ H ρ where
  keep := E.keep
  base := E.base
  trk := E.trk
  sub := E.sub
  slot := E.slot
  len := E.len
  hid z hz := by
    rcases List.mem_cons.mp hz with e | hz
    · subst e; exact h
    · exact E.hid z hz
  injH i di dj p h1 h2 hz := by
    rcases List.mem_cons.mp hz with e | hz
    · cases e
    · exact E.injH i di dj p h1 h2 hz
  injZ i j di dj p h1 h2 := by
    cases i with
    | zero => simp at h1
    | succ i =>
      cases j with
      | zero => simp at h2
      | succ j => exact congrArg (· + 1) (E.injZ i j di dj p (by simpa using h1) (by simpa using h2))
  inj := E.inj
theorem EnvD.pop {z : Hd} (E : EnvD K S H0 N0 (z :: Z) N σ H ρ) : EnvD K S H0 N0 Z N σ H ρ where
  keep := E.keep
  base := E.base
  trk := E.trk
  sub := E.sub
  slot := E.slot
  len := E.len
  hid z hz := E.hid z (List.mem_cons_of_mem _ hz)
  injH i di dj p h1 h2 hz := E.injH i di dj p h1 h2 (List.mem_cons_of_mem _ hz)
  injZ i j di dj p h1 h2 := Nat.succ.inj (E.injZ (i + 1) (j + 1) di dj p (by simpa using h1) (by simpa using h2))
  inj := E.inj
/-! ### comprehensions -/
def wipeR (ρ : Rho) : List Nat → Rho
  | [] => ρ
  | v :: vs => (wipeR ρ vs).set v .unk
theorem EnvD.wipe (E : EnvD K S H0 N0 Z N σ H ρ) : ∀ vs : List Nat, EnvD K S H0 N0 Z N (L2.wipe σ vs) H (wipeR ρ vs)
  | [] => E
  | v :: vs => (E.wipe vs).unset
/-- behind a comprehension: the names as ahead of it -/
theorem EnvD.unwipe : ∀ {vs : List Nat} {σ : L2.St} {ρ : Rho}, EnvD K S H0 N0 Z N (L2.wipe σ vs) H ρ → EnvD K S H0 N0 Z N σ H (wipeR ρ vs)
  | [], _, _, E => E
  | v :: vs, σ, ρ, E => by
    have e : EnvD K S H0 N0 Z N ((L2.wipe σ vs).set v none) H ρ := E
    by_cases hv : v < (L2.wipe σ vs).length
    · have e2 := e.unset (i := v) (u := (L2.wipe σ vs)[v])
      rw [List.set_set, List.set_getElem_self] at e2
      have e3 := EnvD.unwipe e2
      have cm : ∀ (us : List Nat) (r : Rho), wipeR (r.set v .unk) us = (wipeR r us).set v .unk := fun us => by
        induction us with
        | nil => intro r; rfl
        | cons u us ih =>
          intro r
          show (wipeR (r.set v .unk) us).set u .unk = ((wipeR r us).set u .unk).set v .unk
          rw [ih]
          by_cases huv : u = v
          · subst huv; rfl
          · exact List.set_comm _ _ (fun q => huv q.symm)
      rw [cm] at e3
      exact e3
    · rw [List.set_eq_of_length_le (by omega)] at e
      have e3 := EnvD.unwipe e
      show EnvD K S H0 N0 Z N σ H ((wipeR ρ vs).set v .unk)
      exact e3.fgt ⟨by rw [List.length_set], fun j s h => by
        rcases get_set h with ⟨_, q⟩ | ⟨_, q⟩
        · exact .inl q
        · exact .inr q⟩
end
end DL

set_option Elab.async false
set_option linter.all false
set_option maxRecDepth 100000
set_option maxHeartbeats 2000000
namespace DL
open PySem L2
/-- what a for walks, as data: hidden things Zx keep it, ds are its items -/
def Src (K : PySem.W.Frag) (J : It) (Zx : List Hd) (ds : List PyData) : Prop :=
  ∀ S H0 N0 Z N σ H ρ, EnvD K S H0 N0 (Zx ++ Z) N σ H ρ → (∀ k d, ds[k]? = some d → J.go k H ∧ ∀ x H', J.yld k H x H' → Same H H' ∧ Dq K N H' x d) ∧ J.stop ds.length H
def WI (K : PySem.W.Frag) (S : Stt) (wi : TI) (ρ : Rho) (Θ : List PyData → Rho → Prop) : Prop :=
  ∀ H0 N0 Z N σ H, EnvD K S H0 N0 Z N σ H ρ → ∀ R : It → Hp → Prop, (∀ J Zx ds ρ' H', Θ ds ρ' → Src K J Zx ds → (∀ p es, Hd.own p es ∉ Zx) → EnvD K S H0 N0 (Zx ++ Z) N σ H' ρ' → Keep N H H' → R J H') → wi σ H R
/-- a target takes a datum -/
def GD (K : PySem.W.Frag) (g : TG) (d : PyData) (ts : List Nat) (f : Rho → Rho) : Prop :=
  ∀ S H0 N0 Z N σ H ρ x, EnvD K S H0 N0 Z N σ H ρ → Dq K N H x d → ∀ Q : L2.St → Hp → Prop, (∀ σ', EnvD K S H0 N0 Z N σ' H (f ρ) → σ'.length = σ.length → (∀ j, j ∉ ts → σ'[j]? = σ[j]?) → Q σ' H) → g x σ H Q
section
variable {K : PySem.W.Frag} {S : Stt} {H0 : Hp} {N0 : Av} {Z : List Hd} {N : Av} {σ : L2.St} {H H' : Hp} {ρ : Rho} {Φ : PyData → Rho → Prop} {Ψ : PyData → Prop}

theorem EnvD.popn : ∀ {Zx : List Hd}, EnvD K S H0 N0 (Zx ++ Z) N σ H ρ → EnvD K S H0 N0 Z N σ H ρ
  | [], E => E
  | _ :: _, E => EnvD.popn E.pop
theorem src_list {a : Addr} {ds : List PyData} : Src K (Itl K a) [.dat (.ref a) (.list ds)] ds := fun S H0 N0 Z N σ H ρ E => by
  obtain ⟨p, xs, e, _, hr, ha⟩ := Dq.lst_inv (E.hid _ List.mem_cons_self)
  cases e
  refine ⟨fun k d hd => ?_, xs, .inl hr, by rw [ha.len]; exact Nat.le_refl _⟩
  obtain ⟨y, hy, hyd⟩ := ha.get hd
  refine ⟨⟨xs, y, .inl hr, hy⟩, fun x H' ⟨e1, e2⟩ => ?_⟩
  subst e1
  have ex : x = y := Option.some.inj ((e2 xs (.inl hr)).symm.trans hy)
  subst ex
  exact ⟨Same.refl _, hyd⟩
theorem src_rng {lo : Int} {n : Nat} : Src K (Itr lo n) [] ((List.range n).map fun k : Nat => PyData.int (lo + k)) := fun S H0 N0 Z N σ H ρ E => by
  refine ⟨fun k d hd => ?_, by show n ≤ _; simp⟩
  rw [List.getElem?_map] at hd
  by_cases hk : k < n
  · rw [List.getElem?_range hk] at hd
    cases hd
    refine ⟨hk, fun x H' ⟨e1, e2⟩ => ?_⟩
    subst e1; subst e2
    exact ⟨Same.refl _, Dt.int _⟩
  · rw [List.getElem?_eq_none (by simp; omega)] at hd
    cases hd
theorem src_enum {a : Addr} {ds : List PyData} : Src K (Ite K a) [.dat (.ref a) (.list ds)] (ds.mapIdx fun k d => PyData.tuple [.int k, d]) := fun S H0 N0 Z N σ H ρ E => by
  obtain ⟨p, xs, e, _, hr, ha⟩ := Dq.lst_inv (E.hid _ List.mem_cons_self)
  cases e
  refine ⟨fun k d hd => ?_, xs, .inl hr, by rw [ha.len]; simp⟩
  rw [List.getElem?_mapIdx] at hd
  obtain ⟨d0, hd0, rfl⟩ := Option.map_eq_some_iff.mp hd
  obtain ⟨y, hy, hyd⟩ := ha.get hd0
  refine ⟨⟨xs, y, .inl hr, hy⟩, fun v H' ⟨T, x, e1, e2, e3, e4⟩ => ?_⟩
  subst e1; subst e3
  have ex : x = y := Option.some.inj ((e4 xs (.inl hr)).symm.trans hy)
  subst ex
  have s := same_new e2 (.tup [.int (k : Nat), x])
  exact ⟨s, Dq.tup (fresh_av E.trk e2) upd_same (DqAll.cons (Dt.int _) (DqAll.cons (hyd.keep (Keep.of s)) DqAll.nil))⟩
theorem no_own1 {v : V} {d : PyData} : ∀ p es, Hd.own p es ∉ [Hd.dat v d] := fun p es h => by simp at h
theorem wi_list {tl : TE} {Θ : List PyData → Rho → Prop} (h : WD K S tl ρ fun d ρ1 => ∃ ds, d = .list ds ∧ Θ ds ρ1) : WI K S (iList K tl) ρ Θ := fun H0 N0 Z N σ H E R q =>
  h H0 N0 Z N σ H E _ fun v d ρ1 H1 ⟨ds, e, f⟩ E1 k1 d1 => by
    subst e
    obtain ⟨p, xs, rfl, hw, hr, ha⟩ := d1.lst_inv
    exact ⟨p, rfl, ⟨xs, .inl hr⟩, q _ _ ds ρ1 H1 f src_list no_own1 (E1.push d1) k1⟩
theorem wi_enum {ta : TA} {Θ : List PyData → Rho → Prop} (h : WA K S ta ρ fun xs ρ1 => ∃ ds, xs = [.list ds] ∧ Θ (ds.mapIdx fun k d => PyData.tuple [.int k, d]) ρ1) : WI K S (iEnum K ta) ρ Θ := fun H0 N0 Z N σ H E R q =>
  h H0 N0 Z N σ H E _ fun vs xs ρ1 H1 ⟨ds, e, f⟩ E1 k1 d1 => by
    subst e
    cases d1 with
    | cons d1 d2 =>
      cases d2
      obtain ⟨p, xs, rfl, hw, hr, ha⟩ := Dq.lst_inv d1
      exact ⟨p, xs, rfl, .inl hr, q _ _ _ ρ1 H1 f src_enum no_own1 (E1.push d1) k1⟩
theorem wi_rng1 {ta : TA} {Θ : List PyData → Rho → Prop} (h : WA K S ta ρ fun xs ρ1 => ∃ n : Int, xs = [.int n] ∧ -(2 ^ 62) ≤ n ∧ n < 2 ^ 62 ∧ Θ ((List.range n.toNat).map fun k : Nat => PyData.int (0 + k)) ρ1) : WI K S (iRng1 ta) ρ Θ := fun H0 N0 Z N σ H E R q =>
  h H0 N0 Z N σ H E _ fun vs xs ρ1 H1 ⟨n, e, b1, b2, f⟩ E1 k1 d1 => by
    subst e
    cases d1 with
    | cons d1 d2 =>
      cases d2
      cases d1
      exact ⟨n, rfl, b1, b2, q _ [] _ ρ1 H1 f src_rng (fun p es h => by simp at h) E1 k1⟩
theorem gd_name {i : Nat} {d : PyData} : GD K (gName i) d [i] (fun ρ => ρ.set i (.dat d)) := fun S H0 N0 Z N σ H ρ x E hx Q q =>
  q _ (E.set hx) (List.length_set ..) fun j hj => set_ne fun e => hj (by simp [e])
theorem gd_pair {i j : Nat} {a b : PyData} : GD K (gTup K 2 (gCons (gName i) (gCons (gName j) gNil))) (.tuple [a, b]) [i, j] (fun ρ => (ρ.set i (.dat a)).set j (.dat b)) := fun S H0 N0 Z N σ H ρ x E hx Q q => by
  obtain ⟨p, xs, rfl, _, h1, h2⟩ := hx.tup_inv
  cases h2 with
  | cons a1 a2 =>
    cases a2 with
    | cons a2 a3 =>
      cases a3
      exact ⟨p, _, rfl, h1, rfl, _, _, rfl, _, _, rfl, rfl, q _ ((E.set a1).set a2) (by rw [List.length_set, List.length_set]) fun k hk => by
        have h1 : j ≠ k := fun e => hk (by simp [e])
        have h2 : i ≠ k := fun e => hk (by simp [e])
        rw [set_ne h1, set_ne h2]⟩
/-- for TARGET in THING -/
theorem ws_for {wi : TI} {g : TG} {tb : TS} {En : DE} (h : WI K S wi ρ fun ds ρ1 => ∃ I : Nat → Rho → Prop, I 0 ρ1 ∧
      (∀ k d ρ2, ds[k]? = some d → I k ρ2 → ∃ ts f, GD K g d ts f ∧ WS K S tb (f ρ2) { nx := I (k + 1), rt := En.rt, bk := En.nx, ct := I (k + 1) }) ∧ (∀ ρ2, I ds.length ρ2 → En.nx ρ2)) :
    WS K S (tFor wi g tb) ρ En := fun H0 N0 Z N σ H D E M =>
  h H0 N0 Z N σ H E _ fun J Zx ds ρ1 H1 ⟨I, i0, step, fin⟩ src _ E1 k1 => by
    refine ⟨fun k m σ' H' => ∃ N' ρ', EnvD K S H0 N0 (Zx ++ Z) N' σ' H' ρ' ∧ I k ρ' ∧ m = ds.length - k ∧ k ≤ ds.length, ⟨_, N, ρ1, E1, i0, rfl, Nat.zero_le _⟩, ?_⟩
    rintro k m σ' H' ⟨N', ρ', E', iv, rfl, hk⟩
    obtain ⟨s1, s2⟩ := src S H0 N0 Z N' σ' H' ρ' E'
    by_cases hlt : k < ds.length
    · have hd := List.getElem?_eq_getElem hlt
      obtain ⟨go, yl⟩ := s1 k _ hd
      obtain ⟨ts, f, gd, st⟩ := step k _ ρ' hd iv
      refine .inr ⟨go, fun σ2 H2 => ∃ N2 ρ2, EnvD K S H0 N0 (Zx ++ Z) N2 σ2 H2 ρ2 ∧ I (k + 1) ρ2, fun σ2 H2 ⟨N2, ρ2, E2, iv2⟩ => ⟨ds.length - (k + 1), by omega, N2, ρ2, E2, iv2, rfl, hlt⟩, fun x H2 hy => ?_⟩
      obtain ⟨sm, dx⟩ := yl x H2 hy
      exact gd S H0 N0 (Zx ++ Z) N' σ' H2 ρ' x (E'.ext sm) dx _ fun σ3 E3 _ _ => st H0 N0 _ N' _ _ _ E3 ⟨fun N2 σ2 H2 ρ2 q E2 => ⟨N2, ρ2, E2, q⟩, fun N2 σ2 H2 ρ2 v d q E2 => M.rt N2 σ2 H2 ρ2 v d q E2.popn, fun N2 σ2 H2 ρ2 q E2 => M.nx N2 σ2 H2 ρ2 q E2.popn, fun N2 σ2 H2 ρ2 q E2 => ⟨N2, ρ2, E2, q⟩⟩
    · have ek : k = ds.length := by omega
      subst ek
      exact .inl ⟨s2, M.nx N' σ' H' ρ' (fin ρ' iv) E'.popn⟩

/-! ### a comprehension's list -/
theorem EnvD.pushOwn (E : EnvD K S H0 N0 Z N σ H ρ) {p : Addr} (hp : H p = none) : EnvD K S H0 N0 (.own p [] :: Z) (fun b => N b || decide (b = p)) σ (upd H p (.lst [])) ρ := by
  obtain ⟨hp0, n0⟩ := free0 E hp
  have e : EnvD K S H0 N0 Z N (σ ++ [none]) H (ρ ++ [.unk]) := {
    keep := E.keep, base := E.base, trk := E.trk, sub := E.sub, hid := E.hid, injZ := E.injZ,
    len := by simp [E.len],
    slot := fun i s h => by
      by_cases hi : i < ρ.length
      · rw [List.getElem?_append_left hi] at h
        have q := E.slot i s h
        have hi2 : i < σ.length := by rw [← E.len]; exact hi
        cases s with
        | unk => trivial
        | dat d => obtain ⟨v, h1, h2⟩ := q; exact ⟨v, by rw [List.getElem?_append_left hi2]; exact h1, h2⟩
        | own ds => obtain ⟨v, xs, h1, h2⟩ := q; exact ⟨v, xs, by rw [List.getElem?_append_left hi2]; exact h1, h2⟩
        | sto B => obtain ⟨h1, h2⟩ := q; exact ⟨by rw [List.getElem?_append_left hi2]; exact h1, h2⟩
        | scr ns => obtain ⟨a, h1, h2⟩ := q; exact ⟨a, by rw [List.getElem?_append_left hi2]; exact h1, h2⟩
      · rw [List.getElem?_append_right (by omega)] at h
        have : s = .unk := by
          cases hh : i - ρ.length with
          | zero => rw [hh] at h; simpa using h.symm
          | succ n => rw [hh] at h; simp at h
        subst this; trivial
    injH := fun i di dj q h1 h2 hz => by
      by_cases hi : i < ρ.length
      · rw [List.getElem?_append_left hi] at h1
        rw [List.getElem?_append_left (by rw [← E.len]; exact hi)] at h2
        exact E.injH i di dj q h1 h2 hz
      · rw [List.getElem?_append_right (by omega)] at h1
        cases hh : i - ρ.length with
        | zero => rw [hh] at h1; simp at h1
        | succ n => rw [hh] at h1; simp at h1
    inj := fun i j di dj q h1 h2 h3 h4 => by
      have lo : ∀ {c : Nat} {dc : List PyData}, (ρ ++ [Sl.unk])[c]? = some (Sl.own dc) → c < ρ.length ∧ ρ[c]? = some (Sl.own dc) := fun {c dc} h => by
        by_cases hi : c < ρ.length
        · rw [List.getElem?_append_left hi] at h; exact ⟨hi, h⟩
        · rw [List.getElem?_append_right (by omega)] at h
          cases hh : c - ρ.length with
          | zero => rw [hh] at h; simp at h
          | succ n => rw [hh] at h; simp at h
      obtain ⟨b1, h1⟩ := lo h1
      obtain ⟨b2, h2⟩ := lo h2
      rw [List.getElem?_append_left (by rw [← E.len]; exact b1)] at h3
      rw [List.getElem?_append_left (by rw [← E.len]; exact b2)] at h4
      exact E.inj i j di dj q h1 h2 h3 h4 }
  have e2 := e.new (i := ρ.length) (ds := []) hp hp0 n0 DqAll.nil
  have r1 : (ρ ++ [Sl.unk]).set ρ.length (.own []) = ρ ++ [.own []] := by simp
  have r2 : (σ ++ [none]).set ρ.length (some (V.ref p)) = σ ++ [some (V.ref p)] := by rw [E.len]; simp
  rw [r1, r2] at e2
  have lt : ∀ {i : Nat} {s : Sl}, ρ[i]? = some s → i < ρ.length ∧ i < σ.length := fun {i s} h => by
    have h1 := (List.getElem?_eq_some_iff.mp h).1
    exact ⟨h1, by rw [← E.len]; exact h1⟩
  have up : ∀ {i : Nat} {s : Sl}, ρ[i]? = some s → (ρ ++ [Sl.own []])[i]? = some s := fun h => by rw [List.getElem?_append_left (lt h).1]; exact h
  have lastR : (ρ ++ [Sl.own []])[ρ.length]? = some (.own []) := by simp
  have lastS : (σ ++ [some (V.ref p)])[ρ.length]? = some (some (V.ref p)) := by rw [E.len]; simp
  refine ⟨e2.keep, e2.base, e2.trk, e2.sub, fun i s h => ?_, E.len, fun z h => ?_, fun i di dj q h1 h2 hz => ?_, fun i j di dj q h1 h2 => ?_, E.inj⟩
  · have q := e2.slot i s (up h)
    have l2 := (lt h).2
    cases s with
    | unk => trivial
    | dat d => obtain ⟨v, h1, h2⟩ := q; exact ⟨v, by rw [List.getElem?_append_left l2] at h1; exact h1, h2⟩
    | own ds => obtain ⟨v, xs, h1, h2⟩ := q; exact ⟨v, xs, by rw [List.getElem?_append_left l2] at h1; exact h1, h2⟩
    | sto B => obtain ⟨h1, h2⟩ := q; exact ⟨by rw [List.getElem?_append_left l2] at h1; exact h1, h2⟩
    | scr ns => obtain ⟨a, h1, h2⟩ := q; exact ⟨a, by rw [List.getElem?_append_left l2] at h1; exact h1, h2⟩
  · rcases List.mem_cons.mp h with e | h
    · subst e
      obtain ⟨p', xs, h1, h2⟩ := e2.slot ρ.length _ lastR
      rw [lastS] at h1; cases h1
      exact ⟨xs, h2⟩
    · exact e2.hid z h
  · rcases List.mem_cons.mp hz with e | hz
    · cases e
      have := e2.inj i ρ.length di [] p (up h1) lastR (by rw [List.getElem?_append_left (lt h1).2]; exact h2) lastS
      exact absurd (lt h1).1 (by omega)
    · exact E.injH i di dj q h1 h2 hz
  · cases i with
    | zero =>
      cases j with
      | zero => rfl
      | succ j =>
        exfalso
        simp at h1
        obtain ⟨h1a, h1b⟩ := h1
        subst h1a
        exact e2.injH ρ.length [] dj p lastR lastS (List.mem_of_getElem? (by simpa using h2))
    | succ i =>
      cases j with
      | zero =>
        exfalso
        simp at h2
        obtain ⟨h2a, h2b⟩ := h2
        subst h2a
        exact e2.injH ρ.length [] di p lastR lastS (List.mem_of_getElem? (by simpa using h1))
      | succ j => exact congrArg (· + 1) (E.injZ i j di dj q (by simpa using h1) (by simpa using h2))
end
end DL

set_option Elab.async false
set_option linter.all false
set_option maxRecDepth 100000
set_option maxHeartbeats 2000000
namespace DL
open PySem L2
section
variable {K : PySem.W.Frag} {S : Stt} {H0 : Hp} {N0 : Av} {Z : List Hd} {N : Av} {σ : L2.St} {H H' : Hp} {ρ : Rho} {Φ : PyData → Rho → Prop} {Ψ : PyData → Prop}
theorem EnvD.chgH {p : Addr} {ys : List V} {es fs : List PyData} (E : EnvD K S H0 N0 (.own p es :: Z) N σ H ρ) (hq : DqAll K N H ys fs) : EnvD K S H0 N0 (.own p fs :: Z) N σ (upd H p (.lst ys)) ρ := by
  obtain ⟨xs, g2, g3, g4, g5, g6, g7⟩ := E.hid _ List.mem_cons_self
  have kp : ∀ b o, b ≠ p → H b = some o → upd H p (.lst ys) b = some o := fun b o hb h => by rw [upd_ne hb]; exact h
  have kn : Keep N H (upd H p (.lst ys)) := fun b o n h => kp b o (fun e => by rw [e, g2] at n; cases n) h
  refine ⟨fun b o n h => kp b o (fun e => by rw [e, g5] at h; cases h) (E.keep b o n h), E.base, fun b h => ?_, E.sub, fun j t h => ?_, E.len, fun z h => ?_, fun i di dj q h1 h2 hz => ?_, fun i j di dj q h1 h2 => ?_, E.inj⟩
  · by_cases e : b = p
    · rw [e, upd_same]; simp
    · rw [upd_ne e]; exact E.trk b h
  · have q := E.slot j t h
    cases t with
    | unk => trivial
    | dat d => obtain ⟨v, h1, h2⟩ := q; exact ⟨v, h1, h2.keep kn⟩
    | own us =>
      obtain ⟨q, zs, h1, h2, h3, h4, h5, h6, h7⟩ := q
      have hne : q ≠ p := fun e2 => by subst e2; exact E.injH j _ _ _ h h1 List.mem_cons_self
      exact ⟨q, zs, h1, h2, h3, h4, h5, kp _ _ hne h6, h7.keep kn⟩
    | sto B => obtain ⟨h1, h2⟩ := q; exact ⟨h1, S.loc H _ B (fun b hb => upd_ne fun e => by rw [e, g3] at hb; cases hb) h2⟩
    | scr ns => obtain ⟨a, h1, h2⟩ := q; exact ⟨a, h1, kn.wo.seq h2⟩
  · rcases List.mem_cons.mp h with e | hz
    · subst e
      exact ⟨ys, g2, g3, g4, g5, upd_same, hq.keep kn⟩
    · have q := E.hid z (List.mem_cons_of_mem _ hz)
      cases z with
      | dat v d => exact Dq.keep q kn
      | own q' zs =>
        obtain ⟨us, h2, h3, h4, h5, h6, h7⟩ := q
        have hne : q' ≠ p := fun e2 => by
          subst e2
          obtain ⟨n, hn⟩ := List.getElem?_of_mem hz
          have := E.injZ 0 (n + 1) es zs q' rfl (by simpa using hn)
          cases this
        exact ⟨us, h2, h3, h4, h5, kp _ _ hne h6, h7.keep kn⟩
  · rcases List.mem_cons.mp hz with e | hz
    · cases e
      exact E.injH i di es p h1 h2 List.mem_cons_self
    · exact E.injH i di dj q h1 h2 (List.mem_cons_of_mem _ hz)
  · have lo : ∀ {c : Nat} {dc : List PyData} {q : Addr}, (Hd.own p fs :: Z)[c]? = some (Hd.own q dc) → ∃ dc', (Hd.own p es :: Z)[c]? = some (Hd.own q dc') := fun {c dc q} h => by
      cases c with
      | zero => simp at h; obtain ⟨e, _⟩ := h; subst e; exact ⟨es, rfl⟩
      | succ c => exact ⟨dc, by simpa using h⟩
    obtain ⟨d1, h1⟩ := lo h1
    obtain ⟨d2, h2⟩ := lo h2
    exact E.injZ i j d1 d2 q h1 h2
theorem EnvD.popOwn {p : Addr} {es : List PyData} (np : N p = false) (E : EnvD K S H0 N0 (.own p es :: Z) (fun b => N b || decide (b = p)) σ H ρ) : EnvD K S H0 N0 Z N σ H ρ ∧ Dq K N H (.ref p) (.list es) := by
  obtain ⟨xs, g2, g3, g4, g5, g6, g7⟩ := E.hid _ List.mem_cons_self
  have le : Le N (fun b => N b || decide (b = p)) := fun b h => by simp [h]
  have ne : ∀ {q : Addr}, q ≠ p → (N q || decide (q = p)) = true → N q = true := fun h n => by simpa [h] using n
  refine ⟨⟨E.keep, fun b h => ne (fun e => by rw [e, g4] at h; cases h) (E.base b h), fun b h => E.trk b (le b h), fun b h => ne (fun e => by rw [e, g3] at h; cases h) (E.sub b h), fun j t h => ?_, E.len, fun z h => ?_, fun i di dj q h1 h2 hz => E.injH i di dj q h1 h2 (List.mem_cons_of_mem _ hz), E.pop.injZ, E.inj⟩, Dq.lst np g6 (g7.le le)⟩
  · have q := E.slot j t h
    cases t with
    | unk => trivial
    | dat d => obtain ⟨v, h1, h2⟩ := q; exact ⟨v, h1, h2.le le⟩
    | own us =>
      obtain ⟨q, zs, h1, h2, h3, h4, h5, h6, h7⟩ := q
      have hne : q ≠ p := fun e2 => by subst e2; exact E.injH j _ _ _ h h1 List.mem_cons_self
      exact ⟨q, zs, h1, ne hne h2, h3, h4, h5, h6, h7.le le⟩
    | sto B => exact q
    | scr ns => obtain ⟨a, h1, h2⟩ := q; exact ⟨a, h1, le.wo.seq h2⟩
  · have q := E.hid z (List.mem_cons_of_mem _ h)
    cases z with
    | dat v d => exact Dq.le q le
    | own q' zs =>
      obtain ⟨us, h2, h3, h4, h5, h6, h7⟩ := q
      have hne : q' ≠ p := fun e2 => by
        subst e2
        obtain ⟨n, hn⟩ := List.getElem?_of_mem h
        have := E.injZ 0 (n + 1) es zs q' rfl (by simpa using hn)
        cases this
      exact ⟨us, ne hne h2, h3, h4, h5, h6, h7.le le⟩
/-! ### wiping names -/
theorem wipe_get (σ : L2.St) : ∀ (vs : List Nat) (j : Nat), (L2.wipe σ vs)[j]? = if j ∈ vs ∧ j < σ.length then some none else σ[j]?
  | [], j => by simp [L2.wipe]
  | v :: vs, j => by
    show ((L2.wipe σ vs).set v none)[j]? = _
    by_cases e : v = j
    · subst e
      by_cases hl : v < σ.length
      · rw [List.getElem?_set_self (by rw [wipe_length]; exact hl), if_pos ⟨List.mem_cons_self, hl⟩]
      · rw [if_neg (fun q => hl q.2), List.getElem?_eq_none (by rw [List.length_set, wipe_length]; omega), List.getElem?_eq_none (by omega)]
    · rw [List.getElem?_set_ne e, wipe_get σ vs j]
      have : (j ∈ v :: vs ∧ j < σ.length) ↔ (j ∈ vs ∧ j < σ.length) := by
        simp only [List.mem_cons]
        constructor
        · rintro ⟨q | q, l⟩
          · exact absurd q.symm e
          · exact ⟨q, l⟩
        · rintro ⟨q, l⟩; exact ⟨.inr q, l⟩
      simp only [this]
theorem wipe_off {σ τ : L2.St} {vs : List Nat} (hl : τ.length = σ.length) (h : ∀ j, j ∉ vs → τ[j]? = (L2.wipe σ vs)[j]?) : L2.wipe τ vs = L2.wipe σ vs := by
  refine List.ext_getElem? fun j => ?_
  rw [wipe_get τ]
  by_cases hj : j ∈ vs
  · by_cases hl2 : j < τ.length
    · rw [if_pos ⟨hj, hl2⟩, wipe_get, if_pos ⟨hj, by rw [← hl]; exact hl2⟩]
    · rw [if_neg (fun q => hl2 q.2), List.getElem?_eq_none (by omega), List.getElem?_eq_none (by rw [wipe_length]; omega)]
  · rw [if_neg (fun q => hj q.1)]; exact h j hj
/-- back to the wiped names -/
theorem EnvD.rewipe {τ : L2.St} {vs : List Nat} (E : EnvD K S H0 N0 Z N τ H ρ) (e : L2.wipe τ vs = L2.wipe σ vs) : EnvD K S H0 N0 Z N (L2.wipe σ vs) H (wipeR ρ vs) := by
  rw [← e]; exact E.wipe vs
theorem EnvD.mid {z : Hd} {Zx : List Hd} (E : EnvD K S H0 N0 (z :: (Zx ++ Z)) N σ H ρ) : EnvD K S H0 N0 (z :: Z) N σ H ρ where
  keep := E.keep
  base := E.base
  trk := E.trk
  sub := E.sub
  slot := E.slot
  len := E.len
  hid w hw := E.hid w (by
    rcases List.mem_cons.mp hw with e | e
    · subst e; exact List.mem_cons_self
    · exact List.mem_cons_of_mem _ (List.mem_append_right _ e))
  injH i di dj p h1 h2 hz := E.injH i di dj p h1 h2 (by
    rcases List.mem_cons.mp hz with e | e
    · subst e; exact List.mem_cons_self
    · exact List.mem_cons_of_mem _ (List.mem_append_right _ e))
  injZ i j di dj p h1 h2 := by
    have up : ∀ {c : Nat} {dc : List PyData}, (z :: Z)[c]? = some (Hd.own p dc) → (z :: (Zx ++ Z))[if c = 0 then 0 else c + Zx.length]? = some (Hd.own p dc) := fun {c dc} h => by
      cases c with
      | zero => simpa using h
      | succ c =>
        have h' : Z[c]? = some (Hd.own p dc) := by simpa using h
        rw [if_neg (by omega), show c + 1 + Zx.length = (Zx.length + c) + 1 by omega, List.getElem?_cons_succ, List.getElem?_append_right (by omega)]
        simpa using h'
    have q := E.injZ _ _ di dj p (up h1) (up h2)
    by_cases hi : i = 0 <;> by_cases hj : j = 0 <;> simp [hi, hj] at q <;> omega
  inj := E.inj
/-- a hidden list goes to a name -/
theorem EnvD.toSlot {p : Addr} {es : List PyData} (E : EnvD K S H0 N0 (.own p es :: Z) N σ H ρ) {i : Nat} : EnvD K S H0 N0 Z N (σ.set i (some (.ref p))) H (ρ.set i (.own es)) := by
  obtain ⟨xs, g2, g3, g4, g5, g6, g7⟩ := E.hid _ List.mem_cons_self
  have nz : ∀ {c : Nat} {dc : List PyData}, ρ[c]? = some (.own dc) → σ[c]? = some (some (V.ref p)) → False := fun h1 h2 => E.injH _ _ _ p h1 h2 List.mem_cons_self
  have sl : ∀ {c : Nat} {q : Addr}, i = c → (σ.set i (some (V.ref p)))[c]? = some (some (V.ref q)) → q = p := fun {c q} e h => by
    subst e
    have hi : i < σ.length := by
      have := (List.getElem?_eq_some_iff.mp h).1
      rwa [List.length_set] at this
    rw [set_eq hi] at h; cases h; rfl
  refine ⟨E.keep, E.base, E.trk, E.sub, fun j t h => ?_, by rw [List.length_set, List.length_set]; exact E.len, fun z h => E.hid z (List.mem_cons_of_mem _ h), fun a da dj q ha h1 hz => ?_, E.pop.injZ, fun a b da db q ha hb h1 h2 => ?_⟩
  · rcases get_set h with ⟨e, e2⟩ | ⟨e, h⟩
    · subst e; subst e2
      have hi : i < σ.length := by
        have := (List.getElem?_eq_some_iff.mp h).1
        rw [List.length_set] at this
        rw [← E.len]; exact this
      exact ⟨p, xs, set_eq hi, g2, g3, g4, g5, g6, g7⟩
    · exact (E.slot j t h).other e
  · rcases get_set ha with ⟨e, e2⟩ | ⟨e, ha⟩
    · have := sl e h1
      subst this
      obtain ⟨n, hn⟩ := List.getElem?_of_mem hz
      have := E.injZ 0 (n + 1) es dj q rfl (by simpa using hn)
      cases this
    · rw [set_ne e] at h1
      exact E.injH a da dj q ha h1 (List.mem_cons_of_mem _ hz)
  · rcases get_set ha with ⟨ea, e2⟩ | ⟨ea, ha⟩
    · have e1 := sl ea h1
      rcases get_set hb with ⟨eb, e3⟩ | ⟨eb, hb⟩
      · exact ea.symm.trans eb
      · rw [set_ne eb] at h2
        subst e1
        exact (nz hb h2).elim
    · rcases get_set hb with ⟨eb, e3⟩ | ⟨eb, hb⟩
      · have e1 := sl eb h2
        rw [set_ne ea] at h1
        subst e1
        exact (nz ha h1).elim
      · rw [set_ne ea] at h1
        rw [set_ne eb] at h2
        exact E.inj a b da db q ha hb h1 h2
/-- [elt for TARGET in THING if TEST] -/
theorem lc_own {Θ : List PyData → Rho → Prop} {wi : TI} {g : TG} {tt : TT} {te : TE} {vs : List Nat} (h : WI K S wi ρ fun ds ρ1 => ds.length ≤ sizeLine ∧ ∃ I : Nat → List PyData → Rho → Prop, I 0 [] (wipeR ρ1 vs) ∧
      (∀ k d acc ρ2, ds[k]? = some d → I k acc ρ2 → ∃ ts f, GD K g d ts f ∧ (∀ j ∈ ts, j ∈ vs) ∧
        WT K S tt (f ρ2) fun b ρ3 => if b = true then WD K S te ρ3 fun y ρ4 => I (k + 1) (acc ++ [y]) (wipeR ρ4 vs) else I (k + 1) acc (wipeR ρ3 vs)) ∧
      (∀ acc ρ2, I ds.length acc ρ2 → Θ acc (wipeR ρ2 vs))) (E : EnvD K S H0 N0 Z N σ H ρ) {Q : VK}
    (q : ∀ D acc ρ' H', N D = false → Θ acc ρ' → EnvD K S H0 N0 (.own D acc :: Z) (fun b => N b || decide (b = D)) σ H' ρ' → Keep N H H' → Q (.ref D) H') : tLc wi g tt te vs σ H Q :=
  h H0 N0 Z N σ H E _ fun J Zx ds ρ1 H1 ⟨hz, I, i0, step, fin⟩ src nz E1 k1 D hD => by
    have nD : N D = false := fresh_av E1.trk hD
    have srcO : ∀ {acc : List PyData} {N' σ' H' ρ'}, EnvD K S H0 N0 (.own D acc :: (Zx ++ Z)) N' σ' H' ρ' → _ := fun {acc N' σ' H' ρ'} E' => src S H0 N0 Z N' σ' H' ρ' E'.pop
    refine ⟨fun k m H' => ∃ ρ' acc, EnvD K S H0 N0 (.own D acc :: (Zx ++ Z)) (fun b => N b || decide (b = D)) (L2.wipe σ vs) H' ρ' ∧ Keep N H1 H' ∧ I k acc ρ' ∧ acc.length ≤ k ∧ m = ds.length - k ∧ k ≤ ds.length,
      ⟨_, _, [], (E1.pushOwn hD).wipe vs, Keep.of (same_new hD _), i0, Nat.le_refl _, rfl, Nat.zero_le _⟩, ?_⟩
    rintro k m H' ⟨ρ', acc, E', kk, iv, hacc, rfl, hk⟩
    obtain ⟨s1, s2⟩ := srcO E'
    have kN : ∀ {Ha Hb : Hp}, Keep (fun b => N b || decide (b = D)) Ha Hb → Keep N H1 Ha → (∀ ys, Keep N H1 (upd Hb D (.lst ys))) ∧ Keep N H1 (upd Hb D (.lst [])) := fun {Ha Hb} ka kb => by
      have z : ∀ ys, Keep N H1 (upd Hb D (.lst ys)) := fun ys b o n hb => by
        have hne : b ≠ D := ne_of_none hb hD
        rw [upd_ne hne]
        exact ka b o (by simp [n, hne]) (kb b o n hb)
      exact ⟨z, z []⟩
    have kN2 : ∀ {Ha Hb : Hp}, Keep (fun b => N b || decide (b = D)) Ha Hb → Keep N H1 Ha → Keep N H1 Hb := fun {Ha Hb} ka kb b o n hb => ka b o (by simp [n, ne_of_none hb hD]) (kb b o n hb)
    by_cases hlt : k < ds.length
    · have hd := List.getElem?_eq_getElem hlt
      obtain ⟨go, yl⟩ := s1 k _ hd
      obtain ⟨ts, f, gd, hts, st⟩ := step k _ acc ρ' hd iv
      refine .inr ⟨go, fun H2 => ∃ ρ2 acc2, EnvD K S H0 N0 (.own D acc2 :: (Zx ++ Z)) (fun b => N b || decide (b = D)) (L2.wipe σ vs) H2 ρ2 ∧ Keep N H1 H2 ∧ I (k + 1) acc2 ρ2 ∧ acc2.length ≤ k + 1, fun H2 ⟨ρ2, acc2, E2, kk2, iv2, ha2⟩ => ⟨ds.length - (k + 1), by omega, ρ2, acc2, E2, kk2, iv2, ha2, rfl, hlt⟩, fun x H2 hy => ?_⟩
      obtain ⟨sm, dx⟩ := yl x H2 hy
      refine gd S H0 N0 _ _ _ H2 ρ' x (E'.ext sm) dx _ fun σ3 E3 hl3 off3 => ?_
      have ew : L2.wipe σ3 vs = L2.wipe σ vs := wipe_off (by rw [hl3, wipe_length]) fun j hj => off3 j fun q => hj (hts j q)
      refine ⟨ew, st H0 N0 _ _ σ3 H2 E3 _ fun b ρ3 H3 fb E3' k3 => ?_⟩
      have kk3 : Keep N H1 H3 := kN2 k3 (kN2 (Keep.of sm) kk)
      cases b with
      | false => exact ⟨_, acc, E3'.rewipe ew, kk3, fb, Nat.le_succ_of_le hacc⟩
      | true =>
        refine fb H0 N0 _ _ σ3 H3 E3' _ fun y d ρ4 H4 f4 E4 k4 d4 => ?_
        obtain ⟨us, g2, g3, g4, g5, g6, g7⟩ := E4.hid _ List.mem_cons_self
        refine ⟨us, g6, ?_, _, acc ++ [d], (E4.chgH (g7.append (DqAll.cons d4 DqAll.nil))).rewipe ew, (kN k4 kk3).1 _, f4, by simp; omega⟩
        rw [g7.len]; omega
    · have ek : k = ds.length := by omega
      subst ek
      exact .inl ⟨s2, q D acc _ H' nD (fin acc ρ' iv) E'.mid.unwipe (k1.trans kk)⟩
theorem wd_lc {wi : TI} {g : TG} {tt : TT} {te : TE} {vs : List Nat} (h : WI K S wi ρ fun ds ρ1 => ds.length ≤ sizeLine ∧ ∃ I : Nat → List PyData → Rho → Prop, I 0 [] (wipeR ρ1 vs) ∧
      (∀ k d acc ρ2, ds[k]? = some d → I k acc ρ2 → ∃ ts f, GD K g d ts f ∧ (∀ j ∈ ts, j ∈ vs) ∧
        WT K S tt (f ρ2) fun b ρ3 => if b = true then WD K S te ρ3 fun y ρ4 => I (k + 1) (acc ++ [y]) (wipeR ρ4 vs) else I (k + 1) acc (wipeR ρ3 vs)) ∧
      (∀ acc ρ2, I ds.length acc ρ2 → Φ (.list acc) (wipeR ρ2 vs))) : WD K S (tLc wi g tt te vs) ρ Φ := fun H0 N0 Z N σ H E Q q =>
  lc_own (Θ := fun acc ρ' => Φ (.list acc) ρ') h E fun D acc ρ' H' nD f E' k => by
    obtain ⟨E5, d5⟩ := E'.popOwn nD
    exact q _ _ ρ' H' f E5 k d5
/-- x = [.. for ..], to be filled or told on -/
theorem ws_lc {wi : TI} {g : TG} {tt : TT} {te : TE} {vs : List Nat} {i : Nat} {En : DE} (h : WI K S wi ρ fun ds ρ1 => ds.length ≤ sizeLine ∧ ∃ I : Nat → List PyData → Rho → Prop, I 0 [] (wipeR ρ1 vs) ∧
      (∀ k d acc ρ2, ds[k]? = some d → I k acc ρ2 → ∃ ts f, GD K g d ts f ∧ (∀ j ∈ ts, j ∈ vs) ∧
        WT K S tt (f ρ2) fun b ρ3 => if b = true then WD K S te ρ3 fun y ρ4 => I (k + 1) (acc ++ [y]) (wipeR ρ4 vs) else I (k + 1) acc (wipeR ρ3 vs)) ∧
      (∀ acc ρ2, I ds.length acc ρ2 → En.nx ((wipeR ρ2 vs).set i (.own acc)))) : WS K S (tAsg (tLc wi g tt te vs) (gName i)) ρ En := fun H0 N0 Z N σ H D E M =>
  lc_own (Θ := fun acc ρ' => En.nx (ρ'.set i (.own acc))) h E fun p acc ρ' H' nD f E' k => M.nx _ _ _ _ f E'.toSlot
end
end DL

set_option Elab.async false
set_option linter.all false
set_option maxRecDepth 100000
set_option maxHeartbeats 2000000
namespace DL
open PySem L2
/-! ### promises over data -/
def spP (K : PySem.W.Frag) (T : List PyData → (PyData → Prop) → Prop) : Sp := fun vs H Q _ => ∃ (N : Av) (ds : List PyData) (Φ : PyData → Prop),
  (∀ b, N b = true → H b ≠ none) ∧ DqAll K N H vs ds ∧ T ds Φ ∧ ∀ d, Φ d → ∀ v H', Same H H' → Dq K N H' v d → Q v H'
/-- the same, and what is raised: an error of the class at C without fields -/
def spX (K : PySem.W.Frag) (T : List PyData → (PyData → Prop) → (Addr → Prop) → Prop) : Sp := fun vs H Q E => ∃ (N : Av) (ds : List PyData) (Φ : PyData → Prop) (Ψ : Addr → Prop),
  (∀ b, N b = true → H b ≠ none) ∧ DqAll K N H vs ds ∧ T ds Φ Ψ ∧ (∀ d, Φ d → ∀ v H', Same H H' → Dq K N H' v d → Q v H') ∧ ∀ C, Ψ C → ∀ H', Same H H' → E (.ref C) none H'
/-- with a store in front, F: which -/
def spS (K : PySem.W.Frag) (F : Stt → Prop) (T : Nat → List PyData → (PyData → Nat → Prop) → Prop) : Sp := fun vs H Q _ => ∃ (S : Stt) (N : Av) (us : List V) (ds : List PyData) (B : Nat) (Φ : PyData → Nat → Prop),
  vs = .ref S.a :: us ∧ F S ∧ S.ok H B ∧ Le S.fp N ∧ (∀ b, N b = true → H b ≠ none) ∧ DqAll K N H us ds ∧ T B ds Φ ∧
  ∀ d B', Φ d B' → ∀ v H', (∀ b o, S.fp b = false → H b = some o → H' b = some o) → S.ok H' B' → Dq K N H' v d → Q v H'
def rhoOf (n : Nat) (ds : List PyData) : Rho := ds.map Sl.dat ++ List.replicate (n - ds.length) Sl.unk
def stoS (B : Nat) : Sl → Sl
  | .sto _ => .sto B
  | s => s
def stoAll (B : Nat) : Rho → Rho
  | [] => []
  | s :: r => stoS B s :: stoAll B r
theorem stoAll_get {B : Nat} : ∀ {ρ : Rho} {i : Nat} {s : Sl}, (stoAll B ρ)[i]? = some s → (s = .sto B ∧ ∃ B0, ρ[i]? = some (.sto B0)) ∨ ((∀ B0, s ≠ .sto B0) ∧ ρ[i]? = some s)
  | [], i, s, h => by simp [stoAll] at h
  | t :: r, 0, s, h => by
    cases t <;> simp [stoAll, stoS] at h <;> subst h
    · exact .inr ⟨fun _ => nofun, rfl⟩
    · exact .inr ⟨fun _ => nofun, rfl⟩
    · exact .inr ⟨fun _ => nofun, rfl⟩
    · exact .inl ⟨rfl, _, rfl⟩
    · exact .inr ⟨fun _ => nofun, rfl⟩
  | t :: r, i + 1, s, h => by
    have h2 : (stoAll B r)[i]? = some s := by cases t <;> simpa [stoAll, stoS] using h
    simpa using stoAll_get h2
theorem stoAll_len {B : Nat} : ∀ {ρ : Rho}, (stoAll B ρ).length = ρ.length
  | [] => rfl
  | t :: r => by simp [stoAll, stoAll_len (ρ := r)]
section
variable {K : PySem.W.Frag} {S : Stt} {H0 : Hp} {N0 : Av} {Z : List Hd} {N : Av} {σ : L2.St} {H H' : Hp} {ρ : Rho} {Φ : PyData → Rho → Prop} {Ψ : PyData → Prop}
theorem rhoOf_get {n : Nat} {ds : List PyData} {i : Nat} {s : Sl} (h : (rhoOf n ds)[i]? = some s) : s = .unk ∨ ∃ d, ds[i]? = some d ∧ s = .dat d := by
  unfold rhoOf at h
  by_cases hi : i < ds.length
  · rw [List.getElem?_append_left (by simpa using hi), List.getElem?_map, List.getElem?_eq_getElem hi] at h
    exact .inr ⟨_, List.getElem?_eq_getElem hi, by simpa using h.symm⟩
  · rw [List.getElem?_append_right (by simpa using hi), List.getElem?_replicate] at h
    split at h
    · exact .inl (Option.some.inj h).symm
    · cases h
theorem start_get {Nm : List Str} {vs : List V} {i : Nat} {v : V} (h : vs[i]? = some v) : (L2.start Nm vs)[i]? = some (some v) := by
  have hi := (List.getElem?_eq_some_iff.mp h).1
  show (vs.map some ++ List.replicate (Nm.length - vs.length) none)[i]? = _
  rw [List.getElem?_append_left (by simpa using hi), List.getElem?_map, h]; rfl
theorem env_start {Nm : List Str} {vs : List V} {ds : List PyData} (ht : ∀ b, N b = true → H b ≠ none) (hd : DqAll K N H vs ds) : EnvD K S0 H N [] N (L2.start Nm vs) H (rhoOf Nm.length ds) where
  keep _ _ _ h := h
  base := Le.refl
  trk := ht
  sub _ h := nomatch h
  len := by simp [rhoOf, L2.start, hd.len]
  hid _ h := nomatch h
  injZ i j di dj p h := by simp at h
  slot i s h := by
    rcases rhoOf_get h with e | ⟨d, e, e2⟩
    · subst e; trivial
    · subst e2
      obtain ⟨v, h1, h2⟩ := hd.get e
      exact ⟨v, start_get h1, h2⟩
  injH i di dj p h := by
    rcases rhoOf_get h with e | ⟨d, _, e2⟩
    · cases e
    · cases e2
  inj i j di dj p h := by
    rcases rhoOf_get h with e | ⟨d, _, e2⟩
    · cases e
    · cases e2
/-- a def's body keeps a promise over data -/
theorem run_P {T : List PyData → (PyData → Prop) → Prop} {Nm : List Str} {ts : TS} {vs : List V} {Q : VK} {E : XK} (h : spP K T vs H Q E)
    (b : ∀ ds Φ, T ds Φ → WS K S0 ts (rhoOf Nm.length ds) { nx := fun _ => Φ .none, rt := fun d _ => Φ d }) : ts { nx := fun _ H' => Q .non H', rt := Q } (L2.start Nm vs) H := by
  obtain ⟨N, ds, Φ, ht, hd, hT, hQ⟩ := h
  exact b ds Φ hT H N [] N _ H _ (env_start ht hd) ⟨fun N' σ' H' ρ' q E' => hQ _ q _ _ (fun b o h => E'.keep b o rfl h) Dt.non, fun N' σ' H' ρ' v d q E' dv => hQ _ q _ _ (fun b o h => E'.keep b o rfl h) dv, fun _ _ _ _ q => q.elim, fun _ _ _ _ q => q.elim⟩
/-- with a store -/
theorem run_S {F : Stt → Prop} {T : Nat → List PyData → (PyData → Nat → Prop) → Prop} {Nm : List Str} {ts : TS} {vs : List V} {Q : VK} {E : XK} (h : spS K F T vs H Q E)
    (b : ∀ S B ds Φ, F S → T B ds Φ → WS K S ts (.sto B :: rhoOf (Nm.length - 1) ds) { nx := fun _ => False, rt := fun d ρ => ∃ B', ρ[0]? = some (.sto B') ∧ Φ d B' }) (hn : 0 < Nm.length) : ts { nx := fun _ H' => Q .non H', rt := Q } (L2.start Nm vs) H := by
  obtain ⟨S, N, us, ds, B, Φ, rfl, hF, hok, hle, ht, hd, hT, hQ⟩ := h
  have E0 : EnvD K S H N [] N (L2.start Nm (V.ref S.a :: us)) H (.sto B :: rhoOf (Nm.length - 1) ds) := {
    keep := fun _ _ _ h => h, base := Le.refl, trk := ht, sub := hle, hid := fun _ h => (nomatch h), injZ := fun i j di dj p h => by simp at h
    len := by have e := hd.len; simp [rhoOf, L2.start]; omega
    slot := fun i s h => by
      cases i with
      | zero =>
        have e : s = .sto B := by simpa using h.symm
        subst e
        exact ⟨start_get rfl, hok⟩
      | succ i =>
        rcases rhoOf_get (show (rhoOf (Nm.length - 1) ds)[i]? = some s by simpa using h) with e | ⟨d, e, e2⟩
        · subst e; trivial
        · subst e2
          obtain ⟨v, h1, h2⟩ := hd.get e
          exact ⟨v, start_get (by simpa using h1), h2⟩
    injH := fun i di dj p h => by
      cases i with
      | zero => simp at h
      | succ i =>
        rcases rhoOf_get (show (rhoOf (Nm.length - 1) ds)[i]? = some (.own di) by simpa using h) with e | ⟨d, _, e2⟩
        · cases e
        · cases e2
    inj := fun i j di dj p h => by
      cases i with
      | zero => simp at h
      | succ i =>
        rcases rhoOf_get (show (rhoOf (Nm.length - 1) ds)[i]? = some (.own di) by simpa using h) with e | ⟨d, _, e2⟩
        · cases e
        · cases e2 }
  refine b S B ds Φ hF hT H N [] N _ H _ E0 ⟨fun _ _ _ _ q => q.elim, fun N' σ' H' ρ' v d ⟨B', e, q⟩ E' dv => ?_, fun _ _ _ _ q => q.elim, fun _ _ _ _ q => q.elim⟩
  exact hQ _ _ q _ _ (fun b o n h => E'.keep b o n h) (E'.slot 0 _ e).2 dv
/-- a call of such a def -/
theorem wd_call {T : List PyData → (PyData → Prop) → Prop} {dvs : List V} {dds : List PyData} {E : XK} {ta : TA} (hd : ∀ H : Hp, DtAll K H dvs dds) (h : WA K S ta ρ fun xs ρ1 => T (xs ++ dds) fun d => Φ d ρ1) :
    WD K S (tCall (spP K T) dvs E ta) ρ Φ := fun H0 N0 Z N σ H E' Q q =>
  h H0 N0 Z N σ H E' _ fun vs xs ρ1 H1 f E1 k1 d1 => ⟨N, xs ++ dds, _, E1.trk, d1.append (hd _), f, fun d fd v H2 s dv => q v d ρ1 H2 fd (E1.ext s) (k1.trans (Keep.of s)) dv⟩
theorem wd_call0 {T : List PyData → (PyData → Prop) → Prop} {E : XK} {ta : TA} (h : WA K S ta ρ fun xs ρ1 => T xs fun d => Φ d ρ1) : WD K S (tCall (spP K T) [] E ta) ρ Φ :=
  wd_call (dds := []) (fun _ => DtAll.nil) (fun H0 N0 Z N σ H E' Q q => h H0 N0 Z N σ H E' Q fun vs ds ρ' H' f => q vs ds ρ' H' (by show T (ds ++ []) _; rw [List.append_nil]; exact f))
/-- a call of a def that takes the store -/
theorem wd_callS {F : Stt → Prop} {T : Nat → List PyData → (PyData → Nat → Prop) → Prop} {E : XK} {ta : TA} {i : Nat} {B0 : Nat} (hF : F S) (hi : ρ[i]? = some (.sto B0))
    (h : WA K S ta ρ fun xs ρ1 => ∃ B, ρ1[i]? = some (.sto B) ∧ T B xs fun d B' => Φ d (stoAll B' ρ1)) : WD K S (tCall (spS K F T) [] E (tCons (tVar i) ta)) ρ Φ := fun H0 N0 Z N σ H E' Q q => by
  obtain ⟨hs, _⟩ := E'.slot i _ hi
  refine ⟨_, hs, h H0 N0 Z N σ H E' _ fun vs xs ρ1 H1 ⟨B, e, f⟩ E1 k1 d1 => ?_⟩
  obtain ⟨_, hok⟩ := E1.slot i _ e
  refine ⟨S, N, vs, xs, B, _, by simp, hF, hok, E1.sub, E1.trk, d1, f, fun d B' fd v H2 fr ok2 dv => ?_⟩
  have kk : Keep N H1 H2 := fun b o n hb => fr b o (by
    cases z : S.fp b with
    | false => rfl
    | true => rw [E1.sub b z] at n; cases n) hb
  have E2 : EnvD K S H0 N0 Z N σ H2 (stoAll B' ρ1) := {
    keep := fun b o n hb => fr b o n (E1.keep b o n hb)
    base := E1.base
    trk := fun b hb => by
      cases z : S.fp b with
      | true => exact S.trk H2 B' ok2 b z
      | false =>
        intro q2
        cases w : H1 b with
        | none => exact E1.trk b hb w
        | some o => rw [fr b o z w] at q2; cases q2
    sub := E1.sub
    len := by rw [stoAll_len]; exact E1.len
    slot := fun j s hj => by
      rcases stoAll_get hj with ⟨e1, B1, e2⟩ | ⟨e1, e2⟩
      · subst e1
        exact ⟨(E1.slot j _ e2).1, ok2⟩
      · have w := E1.slot j _ e2
        cases s with
        | unk => trivial
        | dat d => obtain ⟨u, h1, h2⟩ := w; exact ⟨u, h1, h2.keep kk⟩
        | own us => obtain ⟨p, zs, h1, h2, h3, h4, h5, h6, h7⟩ := w; exact ⟨p, zs, h1, h2, h3, h4, h5, fr _ _ h3 h6, h7.keep kk⟩
        | sto B2 => exact absurd rfl (e1 B2)
        | scr ns => obtain ⟨a, h1, h2⟩ := w; exact ⟨a, h1, kk.wo.seq h2⟩
    hid := fun z hz => by
      have w := E1.hid z hz
      cases z with
      | dat v d => exact Dq.keep w kk
      | own p us => obtain ⟨zs, h2, h3, h4, h5, h6, h7⟩ := w; exact ⟨zs, h2, h3, h4, h5, fr _ _ h3 h6, h7.keep kk⟩
    injZ := E1.injZ
    injH := fun a da dj p h1 => by
      rcases stoAll_get h1 with ⟨e1, _⟩ | ⟨_, e2⟩
      · cases e1
      · exact E1.injH a da dj p e2
    inj := fun a b da db p h1 h2 => by
      rcases stoAll_get h1 with ⟨e1, _⟩ | ⟨_, e2⟩
      · cases e1
      · rcases stoAll_get h2 with ⟨e1, _⟩ | ⟨_, e3⟩
        · cases e1
        · exact E1.inj a b da db p e2 e3 }
  exact q v d _ H2 fd E2 (k1.trans kk) dv
/-- what is asked of the script: its length -/
theorem wd_len_scr {i : Nat} {ns : List Int} (h : ρ[i]? = some (.scr ns)) (f : Φ (.int ns.length) ρ) :
    WD K S (tCB (fun xs H Q => ∃ p ys, xs = [.ref p] ∧ (SqL K H p ys ∨ SqT K H p ys) ∧ Q (.int ys.length) H) (tCons (tVar i) tNil)) ρ Φ := fun H0 N0 Z N σ H E Q q => by
  obtain ⟨a, h1, h2⟩ := E.slot i _ h
  exact ⟨_, h1, a, _, rfl, .inl ((Same.wo1).seq h2), q _ _ ρ H (by rw [List.length_map]; exact f) E Keep.refl (Dt.int _)⟩
end
end DL

set_option Elab.async false
set_option linter.all false
set_option maxRecDepth 100000
set_option maxHeartbeats 2000000
namespace DL
open PySem PySem.Spec PyProof.Rows L2
/-- a def's promise where no text of a list is being made around the call -/
structure FnG (P : Program) (w : World) (K : PySem.W.Frag) (mg : Str → Option Value) (base : Heap) (CX : CXT) (k : Nat) (f : Addr) (fd : FuncData) (ps : List Str) (sp : Sp) : Prop where
  len : ∀ vs H Q E, sp vs H Q E → vs.length = ps.length
  run : ∀ (A : Around) (outer : List Env) (s : Shared) (H : Hp) (args : Args) (us : List Value) (vs : List V) (Q : VK) (E : XK), A.guards = some [] → Room k A → Env0 P w K mg base A outer s H →
    BindsTo s fd args (ps.zip us) → Vals vs us → sp vs H Q E → codeAny (model P w) A (.call (.ref f) args) (CR CX outer P w H s Q E) s
section
variable {P : Program} {w : World} {K : PySem.W.Frag} {mg : Str → Option Value} {base : Heap}
theorem fnG_of {CX : CXT} {k : Nat} {f : Addr} {nm ql : Str} {prm : Arguments} {bd : List Stmt} {sc : Scope} {dV kV doc pm cdv ct oc : Value} {an od : Option Addr} {osl : Array (Option Value)} {Nm ps : List Str} {sp : Sp}
    (lk : K.lookup f = some ⟨oc, od, .func (PySem.W.fnOf nm ql prm bd sc dV kV doc pm an cdv ct), osl⟩) (hcd : PySem.W.codeIn K cdv ql = true) (F : FnScope Nm ps sc) (len : ∀ vs H Q E, sp vs H Q E → vs.length = ps.length)
    (hb : ∀ (A : Around) (outer : List Env) (s : Shared) (H : Hp) (vs : List V) (Q : VK) (E : XK), A.guards = some [] → Room k (A.deeper (envOfC ql sc s.heap.objs.size f cdv)) → sp vs H Q E →
      ∃ t, PSs (cxOf CX P w K mg base Nm ql sc f cdv A outer s H E) bd t ∧ t { nx := fun _ H' => Q .non H', rt := Q } (L2.start Nm vs) H) :
    FnG P w K mg base CX (k + 1) f (PySem.W.fnOf nm ql prm bd sc dV kV doc pm an cdv ct) ps sp where
  len := len
  run A outer s H args us vs Q E hg room env bnd vals hsp := by
    have el := len vs H Q E hsp
    have inK : K.In s.heap := env.mod.kin.keeps fun b o z => (env.bs b o z).1
    have noL : s.heap.NoLimit := env.mod.nolimit.keeps fun b o z => (env.bs b o z).1
    have places : ∀ y ∈ ps.zip us, sc.names.lookup y.1 = some .local ∨ (sc.names.lookup y.1 = some .cell ∧ ((cellsFrom (s.heap.objs.size + 1) sc.names []).lookup y.1).isSome = true) := by
      rintro ⟨y, u⟩ hy
      cases F.par y (List.of_mem_zip hy).1 with
      | inl q => exact .inl q
      | inr q => exact .inr ⟨q, PySem.W.cellsFrom_some _ _ _ (.inl q)⟩
    refine codeAny_call_function room.depth (inK _ _ lk) rfl F.co F.gen rfl (PySem.W.codeRec_of inK hcd) (bnd _ _ _ _ ?_)
    refine wpAny_newFunctionEnv_cells F.kind places fun env' he s1 x => ?_
    subst he
    refine ⟨noL.keeps x.toInCall.keep, codeAny_func ?_⟩
    obtain ⟨t, ht, hq⟩ := hb A outer s H vs Q E hg (room.deeper _) hsp
    have J0 := inv_start (CX := CX) (E := E) F room.hd env el vals x
    refine wpAny_mono (ht.run [] s1 (L2.start Nm vs) H _ J0 hq) (fun fl s' hs => ?_) fun _ _ z => z
    have done : ∀ {τ : L2.St} {H' : Hp} {v : V} {u : Value}, Inv (cxOf CX P w K mg base Nm ql sc f cdv A outer s H E) [] τ H' s' → RelV v u → Q v H' → CE outer P w H s Q u s' := by
      intro τ H' v u J rv q
      exact ⟨v, H', J.os, J.bare, J.base, J.hok, rv, q⟩
    match fl, hs with
    | .ret u, ⟨v, _, H', J, rv, q⟩ => exact done J rv q
    | .next, ⟨_, H', J, q⟩ => exact done (v := V.non) (u := Value.none) J rfl q
    | .brk, ⟨_, _, _, q⟩ => exact q.elim
    | .cont, ⟨_, _, _, q⟩ => exact q.elim
/-- THE RULE for such a def -/
theorem FunD_okG {x ql : Str} {prm : Arguments} {bd : List Stmt} {sc : Scope} {dvs : List V} {kws : List (Str × V)} {f : Addr} {fd : FuncData} {CX : CXT} {Nm ps : List Str} {k : Nat} {sp : Sp} (F : FunD K x ql prm bd sc dvs kws f fd) (S : FnScope Nm ps sc) (len : ∀ vs H Q E, sp vs H Q E → vs.length = ps.length)
    (hb : ∀ (cdv : Value) (A : Around) (outer : List Env) (s : Shared) (H : Hp) (vs : List V) (Q : VK) (E : XK), A.guards = some [] → Room k (A.deeper (envOfC ql sc s.heap.objs.size f cdv)) → sp vs H Q E →
      ∃ t, PSs (cxOf CX P w K mg base Nm ql sc f cdv A outer s H E) bd t ∧ t { nx := fun _ H' => Q .non H', rt := Q } (L2.start Nm vs) H) : FnG P w K mg base CX (k + 1) f fd ps sp := by
  obtain ⟨oc, od, dV, kV, doc, pm, an, cdv, ct, osl, rfl, lk, hcd, _, _⟩ := F.ex
  exact fnG_of lk hcd S len fun A outer s H vs Q E => hb cdv A outer s H vs Q E
end
/-! ### repr of data -/
def rRepr (K : PySem.W.Frag) : List V → Hp → VK → Prop := fun xs H Q => ∃ x d, xs = [x] ∧ Dp K H x d ∧ (∃ a, x = .ref a) ∧ d.showable = true ∧ d.hasDict = false ∧ d.shown.length ≤ sizeLine ∧ d.depth ≤ 50 ∧ Q (.str d.shown) H
theorem call_repr_data {X : Cx} (hgd : X.A.guards = some []) (hu : X.A.units + 64 < cLine) : CallR X (.builtin "repr") (rRepr X.K) := by
  intro pins s σ H xs us Q I r h
  obtain ⟨x, d, rfl, hd, ⟨a, rfl⟩, h1, h2, h3, h4, q⟩ := h
  obtain ⟨u, rfl, ru⟩ := vals1 r
  cases ru
  obtain ⟨as, rd⟩ := Dp.reads I d _ _ hd rfl
  refine repr_of_reads' rd h1 (fun z => by rw [h2] at z; cases z) hgd (by omega) (fun b o e => e) (fun h' u tk hk => ?_) h3
  exact ⟨.str d.shown, H, I.kept (t' := tk) hk, ⟨u, rfl⟩, q⟩
theorem dc_repr {K : PySem.W.Frag} {d : PyData} {Ψ : PyData → Prop} (hl : (∃ ds, d = .list ds) ∨ ∃ ds, d = .tuple ds) (h1 : d.showable = true) (h2 : d.hasDict = false) (h3 : d.shown.length ≤ sizeLine) (h4 : d.depth ≤ 50) (h : Ψ (.str d.shown)) : DC K (rRepr K) [d] Ψ := fun N H _ us hu Q q => by
  cases hu with
  | cons a1 a2 =>
    cases a2
    have hr : ∀ {v : V}, Dq K N H v d → ∃ a, v = .ref a := fun {v} hv => by
      rcases hl with ⟨ds, rfl⟩ | ⟨ds, rfl⟩
      · obtain ⟨p, _, e, _⟩ := hv.lst_inv; exact ⟨p, e⟩
      · obtain ⟨p, _, e, _⟩ := hv.tup_inv; exact ⟨p, e⟩
    exact ⟨_, d, rfl, Dq.dp a1 h2, hr a1, h1, h2, h3, h4, q _ _ H h (Same.refl H) (Dt.str _)⟩
/-! ### the law's own call -/
section
variable {P : Program} {w : World} {K : PySem.W.Frag} {mg mb : Str → Option Value} {CX : CXT} {k : Nat} {fa a : Addr} {fd : FuncData} {x : Str} {sp : Sp} {s₁ : Shared} {vs : List Value} {ns : List Int}
/-- from an abstract heap that tells the script alone -/
theorem lawG_core (KX : K.In s₁.heap) (hns : s₁.heap.Ns mainGlobals mg) (hb : s₁.heap.Ns builtinsNs mb) (hbb : ∀ x : Str, x ≠ "__name__" → mb x = bootBuiltins x) (hlim : s₁.heap.NoLimit) (hg : s₁.gens = #[])
    (ha : s₁.heap.get? a = some { cls := .type "list", data := .seq vs.toArray }) (hr : Room k callerA)
    (F : ∀ base : Heap, K.In base → base.Ns mainGlobals mg → FnG P w K mg base CX k fa fd [x] sp) (hbind : ∀ (s : Shared) (u : Value), BindsTo s fd ⟨[u], []⟩ [(x, u)])
    (hCX : ∀ H e s', CX [] H s₁ (fun _ _ _ => False) e s' → False) (H : Hp) (hO : Only H) (hsp : sp [.ref a] H (fun v _ => v = .bl true) fun _ _ _ => False) (hok : HOk P w H s₁.heap) (hA : ∀ b u, H b = some u → b = a) (hK : ∀ u, H a = some u → K.lookup a = none) :
    codeAny (model P w) callerA (.call (.ref fa) ⟨[.ref a], []⟩) (fun r s' => r = .ok (.ret (.bool true)) ∧ OldK s₁.heap s'.heap ∧ s'.os = s₁.os ∧ AllBare s'.gens) s₁ := by
  have dictFree : ∀ {c : Addr} {o : Obj} {es : Array DictEntry} {m : Nat}, s₁.heap.get? c = some o → o.data = .dict es m → H c = none := by
    intro c o es m hc hd
    match hq : H c with
    | none => rfl
    | some u =>
      obtain rfl := hA c u hq
      rw [ha] at hc
      cases hc
      exact absurd hd (fun z => nomatch z)
  have nsH : ∀ {c : Addr} {m : Str → Option Value}, s₁.heap.Ns c m → (hidT s₁.heap H).Ns c m := by
    rintro c m ⟨o, es, ep, e, d, r⟩
    exact ⟨o, es, ep, hidT_get e (dictFree e d), d, r⟩
  have inH : K.In (hidT s₁.heap H) := by
    intro c o hc
    refine hidT_get (KX c o hc) ?_
    match hq : H c with
    | none => rfl
    | some u =>
      obtain rfl := hA c u hq
      rw [hK u hq] at hc
      cases hc
  obtain ⟨mc, m1, m2⟩ := hlim
  have md : Mod K mg (hidT s₁.heap H) := ⟨inH, nsH hns, ⟨mb, nsH hb, hbb⟩, ⟨mc, nsH m1, m2⟩⟩
  have noF : ∀ {c : Addr}, c ∉ frs ([] : List Env) := fun z => by cases z
  have env : Env0 P w K mg (hidT s₁.heap H) callerA [] s₁ H := ⟨rfl, md, fun c o e => of_hidT e, Nat.le_of_eq (hidT_size _ _), trivial, fun c hc => absurd hc noF, hok, .of_eq hg⟩
  refine codeAny_mono ((F _ inH (nsH hns)).run callerA [] s₁ H ⟨[.ref a], []⟩ [.ref a] [.ref a] _ _ rfl hr env (hbind s₁ (.ref a)) (.cons rfl .nil) hsp) fun r s' hr' => ?_
  match r, hr' with
  | .error e, z => exact (hCX H e s' z).elim
  | .ok .next, z => exact z.elim
  | .ok .brk, z => exact z.elim
  | .ok .cont, z => exact z.elim
  | .ok (.ret u), ⟨v, H', os, bare, un, hok', rv, q⟩ =>
    have q' : v = .bl true := q
    subst q'
    obtain rfl : u = Value.bool true := rv
    refine ⟨rfl, OldK.of_keep fun c o e => ?_, os, bare⟩
    match hq : H c with
    | none => exact un.keep c o e hq noF (by simp)
    | some u =>
      rcases hO c with z | ⟨ob, xs, z⟩
      · rw [hq] at z; cases z
      · have z2 := un.frzs c ob _ z
        have e1 := (hok c _ z).1
        have e2 := (hok' c _ z2).1
        rw [e] at e1
        cases e1
        exact e2
theorem lawG_call (KX : K.In s₁.heap) (hns : s₁.heap.Ns mainGlobals mg) (hb : s₁.heap.Ns builtinsNs mb) (hbb : ∀ x : Str, x ≠ "__name__" → mb x = bootBuiltins x) (hlim : s₁.heap.NoLimit) (hg : s₁.gens = #[])
    (ha : s₁.heap.get? a = some { cls := .type "list", data := .seq vs.toArray }) (hi : IntsAre vs ns) (hl : ns.length ≤ sizeLine) (hr : Room k callerA)
    (F : ∀ base : Heap, K.In base → base.Ns mainGlobals mg → FnG P w K mg base CX k fa fd [x] sp) (hbind : ∀ (s : Shared) (u : Value), BindsTo s fd ⟨[u], []⟩ [(x, u)])
    (hsp : ∀ H : Hp, Only H → SqL K H a (ns.map V.int) → sp [.ref a] H (fun v _ => v = .bl true) fun _ _ _ => False)
    (hCX : ∀ H e s', CX [] H s₁ (fun _ _ _ => False) e s' → False) :
    codeAny (model P w) callerA (.call (.ref fa) ⟨[.ref a], []⟩) (fun r s' => r = .ok (.ret (.bool true)) ∧ OldK s₁.heap s'.heap ∧ s'.os = s₁.os ∧ AllBare s'.gens) s₁ := by
  have rv := vals_ints hi
  have hlv : vs.length ≤ sizeLine := by rw [hi.length]; exact hl
  match hk : K.lookup a with
  | some o =>
    have e := KX a o hk
    rw [ha] at e
    cases e
    have hO : Only (fun _ => none) := fun _ => .inl rfl
    refine lawG_core KX hns hb hbb hlim hg ha hr F hbind hCX (fun _ => none) hO (hsp _ hO (.inr ⟨_, vs.toArray, _, hk, rfl, rfl, rfl, by simpa using hlv, by simpa using rv⟩)) (fun _ _ z => nomatch z) (fun _ _ z => nomatch z) fun _ z => nomatch z
  | none =>
    let lst : Obj := { cls := .type "list", data := .seq vs.toArray }
    have at_a : (fun b => if b = a then some (HO.frz lst (.lst (ns.map V.int))) else none : Hp) a = some (.frz lst (.lst (ns.map V.int))) := if_pos rfl
    have only_a : ∀ b u, (fun b => if b = a then some (HO.frz lst (.lst (ns.map V.int))) else none : Hp) b = some u → b = a := fun b u z => Decidable.byContradiction fun q => by
      have z' : (none : Option HO) = some u := (if_neg q).symm.trans z
      cases z'
    have hO : Only (fun b => if b = a then some (HO.frz lst (.lst (ns.map V.int))) else none : Hp) := fun b => by
      by_cases q : b = a
      · exact .inr ⟨_, _, if_pos q⟩
      · exact .inl (if_neg q)
    refine lawG_core KX hns hb hbb hlim hg ha hr F hbind hCX _ hO (hsp _ hO (.inl (.inr ⟨lst, at_a⟩))) (fun b u z => ?_) only_a fun _ _ => hk
    obtain rfl := only_a b u z
    have z' : some (HO.frz lst (.lst (ns.map V.int))) = some u := at_a.symm.trans z
    cases z'
    exact ⟨ha, by rw [List.length_map]; exact hl, vs, _, rv, ha⟩
end
/-- the goal behind the head -/
theorem walk_ofG {l : PySem.W.OpenLaw} {n k : Nat} {q : Program} {loose : List Str} {XP : (Str → Option Value) → Heap → Prop} {YP : World → Heap → Prop} {d : DefRec} {CX : CXT} {x : Str}
    (hn : l.most = some n) (hn2 : n ≤ sizeLine) (hdf : d.params.defaults = []) (hr : Room k callerA)
    (F : ∀ (w : World) (mg : Str → Option Value) (fa : Addr) (h : Heap), YP w h → h.Ns mainGlobals mg → mg d.name = some (.ref fa) →
      ∃ (K : PySem.W.Frag) (fd : FuncData) (sp : Sp), K.In h ∧ (∀ (s : Shared) (u : Value), BindsTo s fd ⟨[u], []⟩ [(x, u)]) ∧
        (∀ (H : Hp) (a : Addr) (ns : List Int), ns.length ≤ n → Only H → SqL K H a (ns.map V.int) → sp [.ref a] H (fun v _ => v = .bl true) fun _ _ _ => False) ∧
        ∀ base : Heap, K.In base → base.Ns mainGlobals mg → FnG l.prog w K mg base CX k fa fd [x] sp)
    (hCX : ∀ (H : Hp) (s : Shared) (e : Value) (s' : Shared), CX [] H s (fun _ _ _ => False) e s' → False) : PySem.W.WalkO q loose XP YP l.row.toRowW d [] (fun f vs => PySem.call f vs) :=
  Att.attach_call hn hdf fun w s₀ s₁ mg mb fa o pm cd doc a vs ns G Y _ _ _ hmg hobj hints hlen hg =>
    let ⟨_, _, _, KX, hbd, hsp, hF⟩ := F w mg fa _ Y G.T.g hmg
    lawG_call KX G.T.g G.T.b G.T.builtins G.T.nolimit hg hobj hints (Nat.le_trans hlen hn2) hr hF hbd (fun H hO hS => hsp H a ns hlen hO hS) fun H e s' => hCX H s₁ e s'
end DL

set_option Elab.async false
set_option linter.all false
set_option maxRecDepth 100000
set_option maxHeartbeats 2000000
namespace DL
open PySem PySem.Spec PyProof.Rows L2
/-- a def of the text and its promise, as a caller wants them -/
structure Has (P : Program) (w : World) (K : PySem.W.Frag) (mg : Str → Option Value) (base : Heap) (CX : CXT) (x : Str) (k : Nat) (ps : List Str) (sp : Sp) (dvs : List V) : Prop where
  ex : ∃ (f : Addr) (fd : FuncData) (ds : List Value), FnOk P w K mg base CX k f fd ps sp ∧ mg x = some (.ref f) ∧ PySem.W.keepIn K (.ref f) = true ∧ Binds K fd ps ds ∧ Vals dvs ds
structure HasG (P : Program) (w : World) (K : PySem.W.Frag) (mg : Str → Option Value) (base : Heap) (CX : CXT) (x : Str) (k : Nat) (ps : List Str) (sp : Sp) : Prop where
  ex : ∃ (f : Addr) (fd : FuncData), FnG P w K mg base CX k f fd ps sp ∧ mg x = some (.ref f) ∧ PySem.W.keepIn K (.ref f) = true ∧ Binds K fd ps []
/-- .. by names: n places, then the names ks -/
structure HasK (P : Program) (w : World) (K : PySem.W.Frag) (mg : Str → Option Value) (base : Heap) (CX : CXT) (x : Str) (k : Nat) (ps : List Str) (sp : Sp) (n : Nat) (ks : List Str) (gV : List V → List V → List V) : Prop where
  ex : ∃ (f : Addr) (fd : FuncData) (g : List Value → List Value → List Value), FnOk P w K mg base CX k f fd ps sp ∧ mg x = some (.ref f) ∧ PySem.W.keepIn K (.ref f) = true ∧ KBn K fd ps n ks g gV
section
variable {X : Cx} {CX : CXT} {k : Nat} {ps ks : List Str} {sp : Sp} {E : XK} {x : Str} {p pos : Pos} {e : Expr} {es : List Expr} {kws : List Keyword} {t tk : TA} {dvs : List V} {n : Nat} {gV : List V → List V → List V}
theorem pe_has (h : Has X.prog X.w X.K X.mg X.base CX x k ps sp dvs) (hr : Room k X.A) (hx : Passes CX X E) (ha : PA X (e :: es) t) (hg : Gl X x := by rfl) (hdb : (x == ("__debug__" : Str)) = false := by decide)
    (he : starEach (e :: es) X.env = (false, eval e X.env) :: starEach es X.env := by rfl) (hpl : (backTo pos (starEach es X.env)).any (·.1) = false := by rfl) : PE X (.Call (.Name x p) (e :: es) [] pos) (tCall sp dvs E t) := by
  obtain ⟨f, fd, ds, F, hm, hk, hb, hd⟩ := h.ex
  exact pe_call F hr hg hm hk hb hd hx ha hdb he hpl
/-- // by any divisor but nought, below 2 ^ 9000 -/
def CDivX (_ j : Int) : Prop := j ≠ 0 ∧ j.natAbs.log2 < 9000
theorem op_fdivX {X : Cx} : OpR X (binaryOp .FloorDiv) (rI CDivX fun i j => .int (i.fdiv j)) := opI fun i j _ _ _ _ _ hc q => floordiv_int hc.1 q (.inl (PyProof.noPylong_of_log2 hc.2))
end
end DL

set_option Elab.async false
set_option linter.all false
set_option maxRecDepth 100000
set_option maxHeartbeats 2000000
/-! DLC: what the laws' own helpers do: the store of draws -/
namespace DL
open PySem PySem.Spec PyProof.Rows L2
abbrev rAddI : R2 := rI0 fun i j => .int (i + j)
abbrev rSubI : R2 := rI0 fun i j => .int (i - j)
abbrev rMulI : R2 := rI CMulW fun i j => .int (i * j)
abbrev rDivI : R2 := rI CDivX fun i j => .int (i.fdiv j)
abbrev rModI : R2 := rI (fun _ j => j ≠ 0) fun i j => .int (i.fmod j)
abbrev rPowI : R2 := rI CPow fun i j => .int (i ^ j.toNat)
abbrev rLt : R2 := rI0 fun i j => .bl (decide (i < j))
abbrev rLe : R2 := rI0 fun i j => .bl (decide (i ≤ j))
abbrev rGt : R2 := rI0 fun i j => .bl (decide (j < i))
abbrev rGe : R2 := rI0 fun i j => .bl (decide (j ≤ i))
abbrev rNegI : V → Hp → VK → Prop := rU fun i => .int (-i)
abbrev rLenX (K : PySem.W.Frag) : List V → Hp → VK → Prop := fun xs H Q => ∃ p ys, xs = [.ref p] ∧ (SqL K H p ys ∨ SqT K H p ys) ∧ Q (.int ys.length) H
abbrev rAbsX : List V → Hp → VK → Prop := fun xs H Q => ∃ i, xs = [.int i] ∧ Q (.int (if i < 0 then -i else i)) H
abbrev rMinX : List V → Hp → VK → Prop := fun xs H Q => ∃ i j, xs = [.int i, .int j] ∧ Q (.int (if j < i then j else i)) H
abbrev rMaxX : List V → Hp → VK → Prop := fun xs H Q => ∃ i j, xs = [.int i, .int j] ∧ Q (.int (if j > i then j else i)) H
abbrev rStrI : List V → Hp → VK → Prop := fun xs H Q => ∃ i, xs = [.int i] ∧ i.natAbs.log2 < 1920 ∧ Q (.str (toString i)) H
abbrev rLenS : List V → Hp → VK → Prop := fun xs H Q => ∃ z : Str, xs = [.str z] ∧ z.length ≤ sizeLine ∧ Q (.int z.length) H

/-! ### the store -/
structure StoOk (a ga la : Addr) (H : Hp) (B : Nat) : Prop where
  ne1 : a ≠ ga
  ne2 : a ≠ la
  ne3 : ga ≠ la
  ex : ∃ (g l : List Int) (b s : Int), H a = some (.lst [.ref ga, .int b, .int s, .ref la]) ∧ H ga = some (.lst (g.map V.int)) ∧ H la = some (.lst (l.map V.int)) ∧
    g.length ≤ 63 ∧ l ≠ [] ∧ l.length ≤ 64 ∧ (∀ x ∈ l, 0 ≤ x ∧ x < 10 ^ 18) ∧ 0 ≤ b ∧ b < 2147483587 ∧ 0 ≤ s ∧ s ≤ B
def mkS (a ga la : Addr) : Stt where
  a := a
  fp b := decide (b = a) || decide (b = ga) || decide (b = la)
  ok := StoOk a ga la
  loc H H' B h k := by
    obtain ⟨h1, h2, h3, g, l, b, s, ha, hg, hl, r⟩ := k
    exact ⟨h1, h2, h3, g, l, b, s, (h a (by simp)).trans ha, (h ga (by simp)).trans hg, (h la (by simp)).trans hl, r⟩
  trk H B k b hb := by
    obtain ⟨h1, h2, h3, g, l, b', s, ha, hg, hl, r⟩ := k
    simp at hb
    rcases hb with (e | e) | e
    · rw [e, ha]; simp
    · rw [e, hg]; simp
    · rw [e, hl]; simp
def FSto (S : Stt) : Prop := ∃ a ga la, S = mkS a ga la
/-- a draw below m: any -/
def TDraw (c : Nat) (M : Int) (L : Nat) : Nat → List PyData → (PyData → Nat → Prop) → Prop := fun B ds Φ => ∃ m : Int, ds = [.int m] ∧ 1 ≤ m ∧ m ≤ M ∧ B ≤ L ∧ ∀ d : Int, 0 ≤ d → d < m → Φ (.int d) (B + c)
/-- the reading of the draw, sp: its own promise one level lower -/
def t_draw (K : PySem.W.Frag) (sp : Sp) : TS :=
  (tSeq (tWhile (tAnd (tTest (tOp (rNeD K) (tOp (rIxL K) (tVar 0) (tC (.int 0))) (tLst tNil))) (tTest (tOp rEq (tOp (rIxL K) (tOp (rIxL K) (tVar 0) (tC (.int 0))) (tC (.int 0))) (tC (.int 0))))) (tDrop (tBM K "list" rPopAt (tOp (rIxL K) (tVar 0) (tC (.int 0))) (tCons (tC (.int 0)) tNil))))
    (tSeq (tIfS (tTest (tOp (rNeD K) (tOp (rIxL K) (tVar 0) (tC (.int 0))) (tLst tNil))) (tSeq (tAsg (tOp rModI (tOp (rIxL K) (tOp (rIxL K) (tVar 0) (tC (.int 0))) (tC (.int 0))) (tVar 1)) (gName 2))
    (tSeq (tAsg (tOp rDivI (tOp (rIxL K) (tOp (rIxL K) (tVar 0) (tC (.int 0))) (tC (.int 0))) (tVar 1)) (gSub (tOp (rIxL K) (tVar 0) (tC (.int 0))) (tC (.int 0)) rSetL))
    (tRet (tVar 2)))) tNext)
    (tSeq (tIfS (tTest (tOp rGt (tVar 1) (tOp rPowI (tC (.int 10)) (tC (.int 6))))) (tSeq (tAsg (tC (.int 0)) (gName 3))
    (tSeq (tFor (iRng1 (tCons (tOp rAddI (tC (.int 1)) (tOp rDivI (tCB rLenS (tCons (tCB rStrI (tCons (tVar 1) tNil)) tNil)) (tC (.int 6)))) tNil)) (gName 4) (tAsg (tOp rAddI (tOp rMulI (tVar 3) (tOp rPowI (tC (.int 10)) (tC (.int 6)))) (tCall sp [] E0 (tCons (tVar 0) (tCons (tOp rPowI (tC (.int 10)) (tC (.int 6))) tNil)))) (gName 3)))
    (tRet (tOp rModI (tVar 3) (tVar 1))))) tNext)
    (tSeq (tAsg (tOp rAddI (tOp (rIxL K) (tVar 0) (tC (.int 2))) (tC (.int 1))) (gName 5))
    (tSeq (tAsg (tVar 5) (gSub (tVar 0) (tC (.int 2)) rSetL))
    (tSeq (tAsg (tLst (tCons (tC (.int 2147483563)) (tCons (tC (.int 2147483549)) (tCons (tC (.int 2147483543)) (tCons (tC (.int 2147483497)) (tCons (tC (.int 2147483489)) tNil)))))) (gName 6))
    (tSeq (tAsg (tOp (rIxL K) (tOp (rIxL K) (tVar 0) (tC (.int 3))) (tOp rModI (tVar 5) (tCB (rLenX K) (tCons (tOp (rIxL K) (tVar 0) (tC (.int 3))) tNil)))) (gName 7))
    (tSeq (tAsg (tOp rModI (tOp rPowI (tOp rAddI (tOp rAddI (tOp rAddI (tOp (rIxL K) (tVar 0) (tC (.int 1))) (tVar 7)) (tOp rMulI (tC (.int 104729)) (tVar 5))) (tC (.int 13))) (tC (.int 3))) (tOp (rIxL K) (tVar 6) (tOp rModI (tVar 5) (tC (.int 5))))) (gName 8))
    (tSeq (tAsg (tOp rAddI (tOp rAddI (tOp rMulI (tVar 8) (tVar 8)) (tOp rModI (tOp (rIxL K) (tVar 0) (tC (.int 1))) (tC (.int 1000003)))) (tVar 5)) (gName 9))
    (tRet (tOp rModI (tOp rDivI (tOp rModI (tOp rPowI (tVar 9) (tC (.int 5))) (tOp (rIxL K) (tVar 6) (tOp rModI (tOp rAddI (tVar 5) (tC (.int 2))) (tC (.int 5))))) (tC (.int 16))) (tVar 1))))))))))))

theorem sl_ints (g : List Int) : SeqAt.shaped (.list (g.map PyData.int)) = true := by
  have h1 : ∀ g : List Int, PyData.canLayAll0 (g.map PyData.int) = true := fun g => by
    induction g with
    | nil => rfl
    | cons x g ih => simp [PyData.canLayAll0, PyData.canLay0, ih]
  have h2 : ∀ g : List Int, PyData.depthAll (g.map PyData.int) ≤ 1 := fun g => by
    induction g with
    | nil => simp [PyData.depthAll]
    | cons x g ih => simp [PyData.depthAll, PyData.depth]; omega
  simp [SeqAt.shaped, PyData.canLay0, h1, PyData.depth]
  have := h2 g
  omega
end DL

set_option Elab.async false
set_option linter.all false
set_option maxRecDepth 100000
set_option maxHeartbeats 4000000
namespace DL
open PySem PySem.Spec PyProof.Rows L2
/-- the store's three lists, told -/
structure Sto5 (a ga la : Addr) (g l : List Int) (b s : Int) (H : Hp) : Prop where
  ha : H a = some (.lst [.ref ga, .int b, .int s, .ref la])
  hg : H ga = some (.lst (g.map V.int))
  hl : H la = some (.lst (l.map V.int))
theorem Sto5.same {a ga la : Addr} {g l : List Int} {b s : Int} {H H' : Hp} (h : Sto5 a ga la g l b s H) (e : Same H H') : Sto5 a ga la g l b s H' := ⟨e _ _ h.ha, e _ _ h.hg, e _ _ h.hl⟩
def FrS (a ga la : Addr) (H H' : Hp) : Prop := ∀ x o, x ≠ a → x ≠ ga → x ≠ la → H x = some o → H' x = some o
theorem FrS.of {a ga la : Addr} {H H' : Hp} (e : Same H H') : FrS a ga la H H' := fun x o _ _ _ h => e x o h
theorem FrS.trans {a ga la : Addr} {H H1 H2 : Hp} (e : FrS a ga la H H1) (f : FrS a ga la H1 H2) : FrS a ga la H H2 := fun x o n1 n2 n3 h => f x o n1 n2 n3 (e x o n1 n2 n3 h)
theorem FrS.set {a ga la p : Addr} {H H1 : Hp} (e : FrS a ga la H H1) (hp : p = a ∨ p = ga ∨ p = la) (o : HO) : FrS a ga la H (upd H1 p o) := fun x u n1 n2 n3 h => by
  rw [upd_ne (by rcases hp with q | q | q <;> rw [q] <;> assumption)]
  exact e x u n1 n2 n3 h
section
variable {K : PySem.W.Frag} {a ga la : Addr} {g l : List Int} {b s : Int} {H : Hp} {σ : L2.St}
/-- store[0], store[3] -/
theorem rd0 {Q : VK} (h : Sto5 a ga la g l b s H) (q : Q (.ref ga) H) : rIxL K (.ref a) (.int 0) H Q := ⟨a, _, 0, _, rfl, rfl, .inl (.inl h.ha), rfl, q⟩
theorem rd1 {Q : VK} (h : Sto5 a ga la g l b s H) (q : Q (.int b) H) : rIxL K (.ref a) (.int 1) H Q := ⟨a, _, 1, _, rfl, rfl, .inl (.inl h.ha), rfl, q⟩
theorem rd2 {Q : VK} (h : Sto5 a ga la g l b s H) (q : Q (.int s) H) : rIxL K (.ref a) (.int 2) H Q := ⟨a, _, 2, _, rfl, rfl, .inl (.inl h.ha), rfl, q⟩
theorem rd3 {Q : VK} (h : Sto5 a ga la g l b s H) (q : Q (.ref la) H) : rIxL K (.ref a) (.int 3) H Q := ⟨a, _, 3, _, rfl, rfl, .inl (.inl h.ha), rfl, q⟩
theorem rdg {Q : VK} {x : Int} {r : List Int} (h : Sto5 a ga la (x :: r) l b s H) (q : Q (.int x) H) : rIxL K (.ref ga) (.int 0) H Q := ⟨ga, _, 0, _, rfl, rfl, .inl (.inl h.hg), atI_nat (j := 0) rfl, q⟩
/-- store[0] != [] -/
theorem ne_nil {Q : Bool → Hp → Prop} (h : Sto5 a ga la g l b s H) (h0 : σ[0]? = some (some (.ref a))) (q : ∀ p, H p = none → Q (!g.isEmpty) (upd H p (.lst []))) :
    tTest (tOp (rNeD K) (tOp (rIxL K) (tVar 0) (tC (.int 0))) (tLst tNil)) σ H Q := by
  refine ⟨_, h0, ?_⟩
  dsimp only [tC]
  refine rd0 (K := K) h ?_
  refine ⟨Nat.zero_le _, fun p hp => ?_⟩
  have e := same_new hp (.lst [])
  have d1 : Dp K (upd H p (.lst [])) (.ref ga) (.list (g.map PyData.int)) := dt_dp _ _ (shaped_nd (sl_ints g)) (.lst (.inl (e _ _ h.hg)) (by
    have : ∀ g : List Int, DtAll K (upd H p (.lst [])) (g.map V.int) (g.map PyData.int) := fun g => by
      induction g with
      | nil => exact .nil
      | cons x g ih => exact .cons (.int x) ih
    exact this g))
  refine ⟨_, .list [], d1, .lst (.inl (.inl upd_same)) .nil, sl_ints g, by decide, _, rfl, ?_⟩
  have : PyData.eqv (.list (g.map PyData.int)) (.list []) = g.isEmpty := by
    cases g <;> simp [PyData.eqv, PyData.eqvAll]
  rw [this]
  exact q p hp
end
theorem log2_small {m : Int} {k : Nat} (h0 : 0 ≤ m) (h : m < 2 ^ k) (hk : 0 < k) : m.natAbs.log2 < k := PySem.Flt.log2_lt_of hk (by have e : ((2 ^ k : Nat) : Int) = (2 : Int) ^ k := Int.natCast_pow 2 k; omega)
theorem fmod_nn {i j : Int} (hj : 0 < j) : 0 ≤ i.fmod j ∧ i.fmod j < j := ⟨Int.fmod_nonneg_of_pos i hj, Int.fmod_lt_of_pos i hj⟩
/-- what a draw of a small number does behind the great ones -/
theorem draw_tail {K : PySem.W.Frag} {a ga la : Addr} {l : List Int} {b s : Int} {H : Hp} {m : Int} {x2 x3 x4 x5 x6 x7 x8 x9 : Option V} {Q : VK} {nx : L2.St → Hp → Prop} {g : List Int} (n1 : a ≠ ga) (n2 : a ≠ la) (h : Sto5 a ga la g l b s H) (hl : l ≠ []) (hl64 : l.length ≤ 64) (hlx : ∀ x ∈ l, 0 ≤ x ∧ x < 10 ^ 18)
    (hb : 0 ≤ b) (hb2 : b < 2147483587) (hs : 0 ≤ s) (hs2 : s ≤ 2 ^ 42) (hm : 1 ≤ m) (q : ∀ d H', 0 ≤ d → d < m → Sto5 a ga la g l b (s + 1) H' → FrS a ga la H H' → Q (.int d) H') :
    (tSeq (tAsg (tOp rAddI (tOp (rIxL K) (tVar 0) (tC (.int 2))) (tC (.int 1))) (gName 5))
    (tSeq (tAsg (tVar 5) (gSub (tVar 0) (tC (.int 2)) rSetL))
    (tSeq (tAsg (tLst (tCons (tC (.int 2147483563)) (tCons (tC (.int 2147483549)) (tCons (tC (.int 2147483543)) (tCons (tC (.int 2147483497)) (tCons (tC (.int 2147483489)) tNil)))))) (gName 6))
    (tSeq (tAsg (tOp (rIxL K) (tOp (rIxL K) (tVar 0) (tC (.int 3))) (tOp rModI (tVar 5) (tCB (rLenX K) (tCons (tOp (rIxL K) (tVar 0) (tC (.int 3))) tNil)))) (gName 7))
    (tSeq (tAsg (tOp rModI (tOp rPowI (tOp rAddI (tOp rAddI (tOp rAddI (tOp (rIxL K) (tVar 0) (tC (.int 1))) (tVar 7)) (tOp rMulI (tC (.int 104729)) (tVar 5))) (tC (.int 13))) (tC (.int 3))) (tOp (rIxL K) (tVar 6) (tOp rModI (tVar 5) (tC (.int 5))))) (gName 8))
    (tSeq (tAsg (tOp rAddI (tOp rAddI (tOp rMulI (tVar 8) (tVar 8)) (tOp rModI (tOp (rIxL K) (tVar 0) (tC (.int 1))) (tC (.int 1000003)))) (tVar 5)) (gName 9))
    (tRet (tOp rModI (tOp rDivI (tOp rModI (tOp rPowI (tVar 9) (tC (.int 5))) (tOp (rIxL K) (tVar 6) (tOp rModI (tOp rAddI (tVar 5) (tC (.int 2))) (tC (.int 5))))) (tC (.int 16))) (tVar 1)))))))))
      { nx := nx, rt := Q } [some (.ref a), some (.int m), x2, x3, x4, x5, x6, x7, x8, x9] H := by
  -- step = store[2] + 1; store[2] = step
  refine ⟨_, rfl, ?_⟩
  dsimp only [tC]
  refine rd2 (K := K) h ?_
  refine ⟨s, 1, rfl, rfl, ?_⟩
  refine ⟨_, rfl, _, rfl, a, _, 2, 2, rfl, rfl, h.ha, rfl, ?_⟩
  have h1 : Sto5 a ga la g l b (s + 1) (upd H a (.lst ([V.ref ga, .int b, .int s, .ref la].set 2 (.int (s + 1))))) := ⟨upd_same, by rw [upd_ne n1.symm]; exact h.hg, by rw [upd_ne n2.symm]; exact h.hl⟩
  have f1 : FrS a ga la H (upd H a (.lst ([V.ref ga, .int b, .int s, .ref la].set 2 (.int (s + 1))))) := (FrS.of (Same.refl H)).set (.inl rfl) _
  generalize upd H a (.lst ([V.ref ga, .int b, .int s, .ref la].set 2 (.int (s + 1)))) = H1 at h1 f1 ⊢
  -- primes
  refine ⟨(by show 5 ≤ sizeLine; decide), fun p hp => ?_⟩
  have e2 := same_new hp (.lst [V.int 2147483563, .int 2147483549, .int 2147483543, .int 2147483497, .int 2147483489])
  have h2 := h1.same e2
  have f2 := f1.trans (FrS.of e2)
  have hp2 : (upd H1 p (.lst [V.int 2147483563, .int 2147483549, .int 2147483543, .int 2147483497, .int 2147483489])) p = some (.lst [V.int 2147483563, .int 2147483549, .int 2147483543, .int 2147483497, .int 2147483489]) := upd_same
  show tSeq _ _ _ [some (.ref a), some (.int m), x2, x3, x4, some (.int (s + 1)), some (.ref p), x7, x8, x9] (upd H1 p (.lst [V.int 2147483563, .int 2147483549, .int 2147483543, .int 2147483497, .int 2147483489]))
  generalize upd H1 p (.lst [V.int 2147483563, .int 2147483549, .int 2147483543, .int 2147483497, .int 2147483489]) = H2 at h2 f2 hp2 ⊢
  -- cell
  have hlen : 0 < l.length := List.length_pos_iff.mpr hl
  obtain ⟨m1, m2⟩ := fmod_nn (i := s + 1) (j := (l.length : Int)) (by omega)
  obtain ⟨j, hj⟩ : ∃ j : Nat, (s + 1).fmod (l.length : Int) = j := ⟨((s + 1).fmod (l.length : Int)).toNat, by omega⟩
  have hj2 : j < l.length := by omega
  obtain ⟨c0, c1⟩ := hlx l[j] (List.getElem_mem hj2)
  refine ⟨_, rfl, ?_⟩
  dsimp only [tC]
  refine rd3 (K := K) h2 ?_
  refine ⟨_, rfl, _, rfl, ?_⟩
  dsimp only [tC]
  refine rd3 (K := K) h2 ?_
  refine ⟨la, _, rfl, .inl (.inl (.inl h2.hl)), s + 1, _, rfl, rfl, by rw [List.length_map]; omega, ?_⟩
  dsimp only
  rw [List.length_map, hj]
  refine ⟨la, _, _, .int l[j], rfl, rfl, .inl (.inl h2.hl), atI_nat (by rw [List.getElem?_map, List.getElem?_eq_getElem hj2]; rfl), ?_⟩
  show tSeq _ _ _ [some (.ref a), some (.int m), x2, x3, x4, some (.int (s + 1)), some (.ref p), some (.int l[j]), x8, x9] H2
  generalize l[j] = cell at c0 c1 ⊢
  -- one of five primes
  have prime : ∀ (t : Int) (Q' : VK), (∀ pr : Int, 2000000000 < pr → pr < 2 ^ 31 → Q' (.int pr) H2) → rIxL K (.ref p) (.int (t.fmod 5)) H2 Q' := fun t Q' k => by
    obtain ⟨b1, b2⟩ := fmod_nn (i := t) (j := 5) (by decide)
    have hc : t.fmod 5 = 0 ∨ t.fmod 5 = 1 ∨ t.fmod 5 = 2 ∨ t.fmod 5 = 3 ∨ t.fmod 5 = 4 := by omega
    rcases hc with e | e | e | e | e <;> rw [e]
    · exact ⟨p, _, 0, _, rfl, rfl, .inl (.inl hp2), rfl, k _ (by decide) (by decide)⟩
    · exact ⟨p, _, 1, _, rfl, rfl, .inl (.inl hp2), rfl, k _ (by decide) (by decide)⟩
    · exact ⟨p, _, 2, _, rfl, rfl, .inl (.inl hp2), rfl, k _ (by decide) (by decide)⟩
    · exact ⟨p, _, 3, _, rfl, rfl, .inl (.inl hp2), rfl, k _ (by decide) (by decide)⟩
    · exact ⟨p, _, 4, _, rfl, rfl, .inl (.inl hp2), rfl, k _ (by decide) (by decide)⟩
  -- one
  refine ⟨_, rfl, ?_⟩
  dsimp only [tC]
  refine rd1 (K := K) h2 ?_
  refine ⟨_, rfl, b, cell, rfl, rfl, ?_⟩
  refine ⟨_, rfl, 104729, s + 1, rfl, rfl, wide_mul (a := 20) (b := 64) (by decide) (by omega) (by decide) (by decide) (by decide), b + cell, _, rfl, rfl, _, 13, rfl, rfl, _, 3, rfl, rfl, ⟨by decide, by decide, by omega⟩, _, rfl, _, rfl, s + 1, 5, rfl, rfl, (by show (5 : Int) ≠ 0; decide), ?_⟩
  refine prime _ _ fun pr p0 p1 => ?_
  refine ⟨_, pr, rfl, rfl, by omega, ?_⟩
  obtain ⟨o1, o2⟩ := fmod_nn (i := (b + cell + 104729 * (s + 1) + 13) ^ (3 : Int).toNat) (j := pr) (by omega)
  dsimp only
  generalize ((b + cell + 104729 * (s + 1) + 13) ^ (3 : Int).toNat).fmod pr = one at o1 o2 ⊢
  -- two
  refine ⟨_, rfl, _, rfl, one, one, rfl, rfl, wide_mul (a := 32) (b := 32) (by omega) (by omega) (by decide) (by decide) (by decide), ?_⟩
  refine ⟨_, rfl, ?_⟩
  dsimp only [tC]
  refine rd1 (K := K) h2 ?_
  refine ⟨b, 1000003, rfl, rfl, (by show (1000003 : Int) ≠ 0; decide), one * one, _, rfl, rfl, _, rfl, _, s + 1, rfl, rfl, ?_⟩
  obtain ⟨w1, w2⟩ := fmod_nn (i := b) (j := 1000003) (by decide)
  have sq : 0 ≤ one * one ∧ one * one < 2 ^ 62 := by
    refine ⟨Int.mul_nonneg o1 o1, ?_⟩
    have : one * one ≤ (2 ^ 31 - 1) * (2 ^ 31 - 1) := Int.mul_le_mul (by omega) (by omega) o1 (by decide)
    omega
  dsimp only
  generalize b.fmod 1000003 = r at w1 w2 ⊢
  generalize one * one = sqr at sq ⊢
  refine ⟨_, rfl, sqr + r + (s + 1), 5, rfl, rfl, ⟨by decide, by decide, by omega⟩, _, rfl, _, rfl, s + 1, 2, rfl, rfl, s + 1 + 2, 5, rfl, rfl, (by show (5 : Int) ≠ 0; decide), ?_⟩
  refine prime _ _ fun pr2 p2 p3 => ?_
  refine ⟨_, pr2, rfl, rfl, by omega, ?_⟩
  dsimp only
  generalize (sqr + r + (s + 1)) ^ (5 : Int).toNat = big
  refine ⟨big.fmod pr2, 16, rfl, rfl, ⟨by decide, by decide⟩, _, rfl, _, m, rfl, rfl, by omega, ?_⟩
  obtain ⟨z1, z2⟩ := fmod_nn (i := (big.fmod pr2).fdiv 16) (j := m) (by omega)
  exact q _ _ z1 z2 h2 f2
end DL

set_option Elab.async false
set_option linter.all false
set_option maxRecDepth 100000
set_option maxHeartbeats 4000000
namespace DL
open PySem PySem.Spec PyProof.Rows L2
theorem strlen_ofString (i : Int) (h : i.natAbs.log2 < 1900) : (Str.ofString (toString i)).length ≤ 1901 := by
  rw [PySem.ofString_length]
  exact PySem.int_text_length_le (k := 1900) (by decide) h
theorem fdiv_small {n : Int} (h0 : 0 ≤ n) (h : n ≤ 1901) : 0 ≤ n.fdiv 6 ∧ n.fdiv 6 ≤ 316 := by
  rw [Int.fdiv_eq_ediv_of_nonneg n (by decide)]
  omega
/-- the draw keeps its promise -/
theorem draw_run {K : PySem.W.Frag} {sp : Sp} {c L : Nat} {M : Int} {vs : List V} {H : Hp} {Q : VK} {E : XK} (h : spS K FSto (TDraw c M L) vs H Q E) (hM : M ≤ 2 ^ 1899) (hL : L ≤ 2 ^ 41) (hc : 1 ≤ c) (hs : M ≤ 10 ^ 6 ∨ (sp = spS K FSto (TDraw 1 (10 ^ 6) (2 ^ 41)) ∧ 400 ≤ c ∧ L ≤ 2 ^ 40)) :
    t_draw K sp { nx := fun _ H' => Q .non H', rt := Q } (L2.start ["store", "many", "digit", "found", "turn", "step", "primes", "cell", "one", "two"] vs) H := by
  obtain ⟨S, N, us, ds, B, Φ, rfl, ⟨a, ga, la, rfl⟩, hok, hle, ht, hd, ⟨m, rfl, m1, mM, hB, hT⟩, hQ⟩ := h
  obtain ⟨n1, n2, n3, g, l, b, s, ha, hg, hl, g63, lne, l64, lx, b0, b1, s0, sB⟩ := hok
  cases hd with
  | cons hd1 hd2 =>
  cases hd2
  cases hd1
  have m1900 : m.natAbs.log2 < 1900 := by
    refine log2_small (by omega) ?_ (by decide)
    have : (2 : Int) ^ 1899 < 2 ^ 1900 := by decide +kernel
    omega
  have hm64 : m.natAbs.log2 < 9000 := by omega
  have bm : B ≤ 2 ^ 41 := Nat.le_trans hB hL
  show t_draw K sp { nx := fun _ H' => Q .non H', rt := Q } [some (.ref a), some (.int m), none, none, none, none, none, none, none, none] H
  -- what is handed back
  have fin0 : ∀ (d : Int) (H' : Hp), 0 ≤ d → d < m → StoOk a ga la H' (B + c) → FrS a ga la H H' → Q (.int d) H' := by
    intro d H' d0 d1 ok' fr
    refine hQ _ _ (hT d d0 d1) _ H' (fun x o hx hy => ?_) ok' (Dt.int _)
    have hx' : x ≠ a ∧ x ≠ ga ∧ x ≠ la := by
      have : (decide (x = a) || decide (x = ga) || decide (x = la)) = false := hx
      simp at this
      exact ⟨this.1.1, this.1.2, this.2⟩
    exact fr x o hx'.1 hx'.2.1 hx'.2.2 hy
  have fin : ∀ (d : Int) (H' : Hp) (g' : List Int) (s' : Int), 0 ≤ d → d < m → Sto5 a ga la g' l b s' H' → FrS a ga la H H' → g'.length ≤ 63 → 0 ≤ s' → s' ≤ B + c → Q (.int d) H' := by
    intro d H' g' s' d0 d1 h5 fr hg' s0' s1'
    exact fin0 d H' d0 d1 ⟨n1, n2, n3, g', l, b, s', h5.ha, h5.hg, h5.hl, hg', lne, l64, lx, b0, b1, s0', by omega⟩ fr
  -- the great ones' noughts go
  refine ⟨fun n σ' H' => σ' = [some (.ref a), some (.int m), none, none, none, none, none, none, none, none] ∧ ∃ g', n = g'.length ∧ g'.length ≤ 63 ∧ Sto5 a ga la g' l b s H' ∧ FrS a ga la H H', ⟨g.length, rfl, g, rfl, g63, ⟨ha, hg, hl⟩, FrS.of (Same.refl H)⟩, ?_⟩
  rintro n σ' H' ⟨rfl, g', rfl, hg', h5, fr⟩
  refine ne_nil h5 rfl fun p hp => ?_
  have e := same_new hp (.lst [])
  have h5' := h5.same e
  have fr' := fr.trans (FrS.of e)
  generalize upd H' p (.lst []) = H1 at h5' fr' ⊢
  match g', h5', hg' with
  | x :: r, h5', hg' =>
    -- some are left: is the first nought?
    show (if true = true then _ else _)
    rw [if_pos rfl]
    refine ⟨_, rfl, ?_⟩
    (try dsimp only [tC])
    refine rd0 (K := K) h5' ?_
    (try dsimp only [tC])
    refine rdg (K := K) h5' ?_
    refine ⟨rfl, _, rfl, ?_⟩
    by_cases hx : x = 0
    · subst hx
      show (if (decide (V.int 0 = V.int 0)) = true then _ else _)
      rw [if_pos (by decide)]
      refine ⟨_, fun _ _ z => z, ?_⟩
      refine ⟨_, rfl, ?_⟩
      (try dsimp only [tC])
      refine rd0 (K := K) h5' ?_
      refine ⟨.inl ⟨rfl, _, .inl (.inl h5'.hg)⟩, ga, _, 0, 0, .int 0, rfl, rfl, h5'.hg, by decide, by decide, ?_, rfl, ?_⟩
      · exact (ixN_seq (n := ((0 :: r).map V.int).length) (i := 0) (j := 0) (by simp [ixN])).1
      · refine ⟨r.length, by show r.length < (0 :: r).length; simp, rfl, r, rfl, by simp at hg'; omega, ⟨?_, ?_, ?_⟩, fr'.set (.inr (.inl rfl)) _⟩
        · rw [upd_ne n1]; exact h5'.ha
        · rw [upd_same]; rfl
        · rw [upd_ne n3.symm]; exact h5'.hl
    · have hx' : (decide (V.int x = V.int 0)) = false := decide_eq_false fun z => hx (V.int.inj z)
      show (if (decide (V.int x = V.int 0)) = true then _ else _)
      rw [hx', if_neg (by decide)]
      -- digit
      refine ne_nil h5' rfl fun p2 hp2 => ?_
      have e2 := same_new hp2 (.lst [])
      have h6 := h5'.same e2
      have fr6 := fr'.trans (FrS.of e2)
      generalize upd H1 p2 (.lst []) = H2 at h6 fr6 ⊢
      show (if true = true then _ else _)
      rw [if_pos rfl]
      refine ⟨_, rfl, ?_⟩
      (try dsimp only [tC])
      refine rd0 (K := K) h6 ?_
      (try dsimp only [tC])
      refine rdg (K := K) h6 ?_
      refine ⟨_, rfl, x, m, rfl, rfl, by omega, ?_⟩
      refine ⟨_, rfl, ?_⟩
      (try dsimp only [tC])
      refine rd0 (K := K) h6 ?_
      (try dsimp only [tC])
      refine rdg (K := K) h6 ?_
      refine ⟨_, rfl, x, m, rfl, rfl, ⟨by omega, hm64⟩, ?_⟩
      refine ⟨_, rfl, ?_⟩
      (try dsimp only [tC])
      refine rd0 (K := K) h6 ?_
      refine ⟨ga, _, 0, 0, rfl, rfl, h6.hg, by simp [ixN], ?_⟩
      obtain ⟨z1, z2⟩ := fmod_nn (i := x) (j := m) (by omega)
      refine ⟨_, rfl, fin _ _ (x.fdiv m :: r) s z1 z2 ⟨?_, ?_, ?_⟩ (fr6.set (.inr (.inl rfl)) _) (by simpa using hg') s0 (by omega)⟩
      · rw [upd_ne n1]; exact h6.ha
      · rw [upd_same]; rfl
      · rw [upd_ne n3.symm]; exact h6.hl
  | [], h5', hg' =>
    show (if false = true then _ else _)
    rw [if_neg Bool.false_ne_true]
    show (if false = true then _ else _)
    rw [if_neg Bool.false_ne_true]
    refine ne_nil h5' rfl fun p2 hp2 => ?_
    have e2 := same_new hp2 (.lst [])
    have h6 := h5'.same e2
    have fr6 := fr'.trans (FrS.of e2)
    generalize upd H1 p2 (.lst []) = H2 at h6 fr6 ⊢
    show tNext _ _ _
    refine ⟨_, rfl, 10, 6, rfl, rfl, ⟨by decide, by decide, by decide⟩, m, _, rfl, rfl, _, rfl, ?_⟩
    by_cases hbig : (10 ^ (6 : Int).toNat : Int) < m
    · have hdec : decide ((10 ^ (6 : Int).toNat : Int) < m) = true := decide_eq_true hbig
      show (if decide ((10 ^ (6 : Int).toNat : Int) < m) = true then _ else _)
      rw [if_pos hdec]
      have hb6 : (10 : Int) ^ 6 < m := hbig
      obtain ⟨rfl, c400, L40⟩ : sp = spS K FSto (TDraw 1 (10 ^ 6) (2 ^ 41)) ∧ 400 ≤ c ∧ L ≤ 2 ^ 40 := by
        rcases hs with z | z
        · omega
        · exact z
      have hl1 := strlen_ofString m m1900
      obtain ⟨q0, q1⟩ := fdiv_small (n := ((Str.ofString (toString m)).length : Int)) (by omega) (by omega)
      refine ⟨_, rfl, m, rfl, by omega, Str.ofString (toString m), rfl, by rw [sizeLine_eq]; omega, _, 6, rfl, rfl, ⟨by decide, by decide⟩, 1, _, rfl, rfl, 1 + ((Str.ofString (toString m)).length : Int).fdiv 6, rfl, by omega, by omega, ?_⟩
      generalize ((Str.ofString (toString m)).length : Int).fdiv 6 = turns at q0 q1 ⊢
      have ok0 : StoOk a ga la H2 B := ⟨n1, n2, n3, [], l, b, s, h6.ha, h6.hg, h6.hl, by decide, lne, l64, lx, b0, b1, s0, sB⟩
      have okm : ∀ {H' : Hp} {B1 B2 : Nat}, StoOk a ga la H' B1 → B1 ≤ B2 → StoOk a ga la H' B2 := by
        rintro H' B1 B2 ⟨_, _, _, g, l, b, s, k1, k2, k3, k4, k5, k6, k7, k8, k9, k10, k11⟩ hB12
        exact ⟨n1, n2, n3, g, l, b, s, k1, k2, k3, k4, k5, k6, k7, k8, k9, k10, by omega⟩
      refine for_range (lo := 0) (n := (1 + turns).toNat) (fun k σ' H' => ∃ (f : Int) (x4 : Option V), σ' = [some (.ref a), some (.int m), none, some (.int f), x4, none, none, none, none, none] ∧ 0 ≤ f ∧ f < 10 ^ (6 * k) ∧ StoOk a ga la H' (B + k) ∧ FrS a ga la H H') ⟨0, none, rfl, by decide, by decide, ok0, fr6⟩ ?_ ?_
      · rintro k σ' H' hk ⟨f, x4, rfl, f0, f1, h7, fr7⟩
        have kb : k ≤ 316 := by omega
        refine ⟨_, rfl, 10, 6, rfl, rfl, ⟨by decide, by decide, by decide⟩, f, _, rfl, rfl, ?_, ?_⟩
        · refine wide_mul (a := 6400) (b := 20) ?_ (by decide) (by decide) (by decide) (by decide)
          have p1 : (10 : Int) ^ (6 * k) ≤ 10 ^ 1896 := by
            have := Nat.pow_le_pow_right (n := 10) (by decide) (show 6 * k ≤ 1896 by omega)
            exact_mod_cast this
          have p2 : (10 : Int) ^ 1896 < 2 ^ 6400 := by decide +kernel
          have p3 : (((2 ^ 6400 : Nat) : Int)) = (2 : Int) ^ 6400 := Int.natCast_pow 2 6400
          clear hM mM
          generalize (10 : Int) ^ (6 * k) = u1 at *
          generalize (10 : Int) ^ 1896 = u2 at *
          generalize (2 : Int) ^ 6400 = u3 at *
          generalize (2 : Nat) ^ 6400 = u4 at *
          omega
        · refine ⟨_, rfl, 10, 6, rfl, rfl, ⟨by decide, by decide, by decide⟩, ?_⟩
          refine ⟨mkS a ga la, (mkS a ga la).fp, [.int (10 ^ (6 : Int).toNat)], [.int (10 ^ (6 : Int).toNat)], B + k, fun d B' => ∃ z : Int, d = .int z ∧ 0 ≤ z ∧ z < 10 ^ 6 ∧ B' = B + k + 1, rfl, ⟨a, ga, la, rfl⟩, h7, Le.refl, (mkS a ga la).trk H' _ h7, DqAll.cons (Dt.int _) DqAll.nil, ⟨_, rfl, by decide, by decide, by omega, fun d d0 d1 => ⟨d, rfl, d0, d1, rfl⟩⟩, ?_⟩
          rintro d B' ⟨z, rfl, z0, z1, rfl⟩ v H2 fr2 ok2 dv
          cases dv
          have e10 : (10 : Int) ^ (6 * (k + 1)) = 10 ^ (6 * k) * 1000000 := by
            rw [Nat.mul_add, Int.pow_add]; rfl
          refine ⟨f * 10 ^ (6 : Int).toNat, z, rfl, rfl, f * 10 ^ (6 : Int).toNat + z, some (.int (0 + k)), rfl, ?_, ?_, ok2, fr7.trans fun x o q1 q2 q3 hx => fr2 x o (by show (decide (x = a) || decide (x = ga) || decide (x = la)) = false; simp [q1, q2, q3]) hx⟩
          · have : (10 : Int) ^ (6 : Int).toNat = 1000000 := by decide
            rw [this]; omega
          · have : (10 : Int) ^ (6 : Int).toNat = 1000000 := by decide
            rw [this, e10]
            generalize (10 : Int) ^ (6 * k) = u at f1 ⊢
            omega
      · rintro σ' H' ⟨f, x4, rfl, f0, f1, h7, fr7⟩
        refine ⟨_, rfl, _, rfl, f, m, rfl, rfl, by omega, ?_⟩
        obtain ⟨z1, z2⟩ := fmod_nn (i := f) (j := m) (by omega)
        exact fin0 _ _ z1 z2 (okm h7 (by omega)) fr7
    · have hdec : ¬ decide ((10 ^ (6 : Int).toNat : Int) < m) = true := fun z => hbig (of_decide_eq_true z)
      show (if decide ((10 ^ (6 : Int).toNat : Int) < m) = true then _ else _)
      rw [if_neg hdec]
      show tNext _ _ _
      refine draw_tail n1 n2 h6 lne l64 lx b0 b1 s0 (by omega) m1 fun d H' d0 d1 h7 fr7 => fin d H' [] (s + 1) d0 d1 h7 (fr6.trans fr7) (by decide) (by omega) (by omega)
/-! ### steps by name -/
section
variable {K : PySem.W.Frag} {S : Stt} {ρ : Rho} {Φ : PyData → Rho → Prop} {Ψ : PyData → Prop}
theorem do_mul {i j : Int} (c : CMulW i j) (h : Ψ (.int (i * j))) : DO K rMulI (.int i) (.int j) Ψ := do_ic c h
theorem do_mod {i j : Int} (c : j ≠ 0) (h : Ψ (.int (i.fmod j))) : DO K rModI (.int i) (.int j) Ψ := do_ic (C := fun _ j => j ≠ 0) c h
theorem do_pow {i j : Int} (c : CPow i j) (h : Ψ (.int (i ^ j.toNat))) : DO K rPowI (.int i) (.int j) Ψ := do_ic c h
theorem do_add {i j : Int} (h : Ψ (.int (i + j))) : DO K rAddI (.int i) (.int j) Ψ := do_ii h
theorem do_lt {i j : Int} (h : Ψ (.bool (decide (i < j)))) : DO K rLt (.int i) (.int j) Ψ := do_ib (f := fun i j => decide (i < j)) h
theorem do_gt {i j : Int} (h : Ψ (.bool (decide (j < i)))) : DO K rGt (.int i) (.int j) Ψ := do_ib (f := fun i j => decide (j < i)) h
theorem do_ge {i j : Int} (h : Ψ (.bool (decide (j ≤ i)))) : DO K rGe (.int i) (.int j) Ψ := do_ib (f := fun i j => decide (j ≤ i)) h
theorem du_neg {i : Int} (h : Ψ (.int (-i))) : DU K rNegI (.int i) Ψ := du_i (f := fun i => -i) h
theorem dc_abs {i : Int} (h : Ψ (.int (i.natAbs : Nat))) : DC K rAbsX [.int i] Ψ := dc_i1 (f := fun i => if i < 0 then -i else i) (by
  have e : (if i < 0 then -i else i) = ((i.natAbs : Nat) : Int) := by split <;> omega
  show Ψ (.int (if i < 0 then -i else i))
  rw [e]; exact h)
theorem dc_min {i j : Int} (h : Ψ (.int (if j < i then j else i))) : DC K rMinX [.int i, .int j] Ψ := dc_i2 (f := fun i j => if j < i then j else i) h
/-- the cases of an answered test -/
theorem if_b {c : Prop} [Decidable c] {A B : Prop} (h1 : c → A) (h2 : ¬ c → B) : if decide c = true then A else B := by
  by_cases h : c
  · rw [if_pos (decide_eq_true h)]; exact h1 h
  · rw [if_neg (fun z => h (of_decide_eq_true z))]; exact h2 h
theorem if_t {A B : Prop} (h : A) : if true = true then A else B := by rw [if_pos rfl]; exact h
end
end DL

set_option Elab.async false
set_option linter.all false
set_option maxRecDepth 100000
set_option maxHeartbeats 4000000
namespace DL
open PySem PySem.Spec PyProof.Rows L2
local macro_rules | `(tactic| walk_at "dl") => `(tactic| repeat' (first
  | with_reducible refine wd_op ?_ | with_reducible refine wd_cb ?_ | with_reducible refine wd_un ?_ | with_reducible refine wa_cons ?_ | with_reducible refine wa_nil ?_ | ((with_reducible show WD _ _ (tVar _) _ _); refine wd_var rfl ?_) | with_reducible refine wd_int ?_ | with_reducible refine wd_bl ?_ | with_reducible refine wd_str ?_ | with_reducible refine wd_non ?_
  | with_reducible refine do_add ?_ | with_reducible refine do_sub ?_ | ((with_reducible refine do_mod ?_ ?_); decide) | with_reducible refine do_mod ?_ ?_ | with_reducible refine do_mul ?_ ?_ | ((with_reducible refine do_div ?_ ?_); exact ⟨by decide, by decide⟩) | with_reducible refine do_div ?_ ?_ | ((with_reducible refine do_pow ?_ ?_); exact ⟨by decide, by decide, by decide⟩) | with_reducible refine do_pow ?_ ?_
  | with_reducible refine do_lt ?_ | with_reducible refine do_le ?_ | with_reducible refine do_gt ?_ | with_reducible refine do_ge ?_ | with_reducible refine du_neg ?_
  | with_reducible refine do_eqi ?_ | with_reducible refine do_nei ?_ | with_reducible refine do_eqs ?_ | with_reducible refine do_nes ?_ | with_reducible refine dc_abs ?_ | with_reducible refine dc_min ?_ | with_reducible refine dc_max ?_ | with_reducible refine dc_lenL ?_ | with_reducible refine dc_lenT ?_ | with_reducible refine dc_gcd ?_
  | ((with_reducible show DO _ (rIxT _) _ _ _); refine do_ixT rfl ?_) | ((with_reducible show DO _ (rIxL _) _ _ _); refine do_ixL rfl ?_) | with_reducible refine do_catL ?_ ?_
  | with_reducible refine wd_tup ?_ | with_reducible refine wd_lst ?_ | with_reducible refine wt_test ?_ | with_reducible refine wt_B ?_ | with_reducible refine wt_not ?_ | with_reducible refine wt_and ?_ | with_reducible refine wt_or ?_ | with_reducible refine wd_ifE ?_ | with_reducible refine wd_andV ?_ | with_reducible refine wd_orV ?_ | with_reducible refine wd_notV ?_
  | with_reducible refine ws_seq ?_ | with_reducible refine ws_next ?_ | with_reducible refine ws_asg ?_ | with_reducible refine ws_ret ?_ | with_reducible refine ws_retN ?_ | with_reducible refine ws_if ?_ | with_reducible refine ws_par ?_ | with_reducible refine ws_unp2 ?_
  | with_reducible refine if_t ?_ | with_reducible refine if_f ?_
  | ((with_reducible show Exists _); first | refine ⟨_, rfl, ?_⟩ | refine ⟨_, _, rfl, ?_⟩ | fail) | fail))
def spMk (K : PySem.W.Frag) : Sp := fun vs H Q _ => ∃ (a0 : Addr) (ns : List Int), vs = [.ref a0] ∧ SqL K H a0 (ns.map V.int) ∧ ns.length ≤ 63 ∧
  ∀ S H', FSto S → S.ok H' 0 → (∀ b, S.fp b = true → H b = none) → Same H H' → Q (.ref S.a) H'
def t_s1 (K : PySem.W.Frag) : TS := (tAsg (tC (.int 271)) (gName 1))
def t_s2 (K : PySem.W.Frag) : TS := (tFor (iEnum K (tCons (tSl (rSlL K) (tVar 0) tNoPart (tPart (tC (.int 63)))) tNil)) (gTup K 2 (gCons (gName 2) (gCons (gName 3) gNil))) (tAsg (tOp rModI (tOp rAddI (tOp rAddI (tOp rMulI (tVar 1) (tVar 1)) (tOp rModI (tVar 3) (tC (.int 2147483629)))) (tOp rMulI (tC (.int 40009)) (tVar 2))) (tC (.int 2147483587))) (gName 1)))
def t_s3 (K : PySem.W.Frag) : TS := (tAsg (tLc (iList K (tSl (rSlL K) (tVar 0) tNoPart (tPart (tC (.int 63))))) (gName 3) (tTest (tOp rGe (tCB rAbsX (tCons (tVar 3) tNil)) (tOp rPowI (tC (.int 10)) (tC (.int 18))))) (tCB rAbsX (tCons (tVar 3) tNil)) [3]) (gName 4))
def t_s4 (K : PySem.W.Frag) : TS := (tAsg (tLc (iList K (tSl (rSlL K) (tVar 0) tNoPart (tPart (tC (.int 63))))) (gName 3) (tTest (tOp rLt (tCB rAbsX (tCons (tVar 3) tNil)) (tOp rPowI (tC (.int 10)) (tC (.int 18))))) (tCB rAbsX (tCons (tVar 3) tNil)) [3]) (gName 5))
def t_s5 (K : PySem.W.Frag) : TS := (tRet (tLst (tCons (tVar 4) (tCons (tVar 1) (tCons (tC (.int 0)) (tCons (tOp rCatL (tVar 5) (tLst (tCons (tC (.int 17)) tNil))) tNil))))))
def t_store (K : PySem.W.Frag) : TS := tSeq (t_s1 K) (tSeq (t_s2 K) (tSeq (t_s3 K) (tSeq (t_s4 K) (t_s5 K))))
section
variable {K : PySem.W.Frag} {S : Stt} {H0 : Hp} {N0 : Av} {Z : List Hd} {N : Av} {σ : L2.St} {H H' : Hp} {ρ : Rho} {Φ : PyData → Rho → Prop} {Ψ : PyData → Prop}
theorem cut63 (ns : List Int) : cutV (ns.map V.int) none (some 63) = (ns.take 63).map V.int := by
  have e : HT.sIx (ns.map V.int).length (ns.map V.int).length (some 63) = min 63 (ns.map V.int).length := HT.sIx_nat _ _ 63
  have e0 : HT.sIx (ns.map V.int).length 0 none = 0 := rfl
  unfold cutV
  rw [e0, e, List.drop_zero, Nat.sub_zero, List.map_take]
  rw [List.take_eq_take_iff]
  omega
theorem wd_cut {i : Nat} {ns : List Int} (h : ρ[i]? = some (.scr ns)) (f : Φ (.list ((ns.take 63).map PyData.int)) ρ) : WD K S (tSl (rSlL K) (tVar i) tNoPart (tPart (tC (.int 63)))) ρ Φ := fun H0 N0 Z N σ H E Q q => by
  obtain ⟨a, h1, h2⟩ := E.slot i _ h
  refine ⟨_, h1, 63, rfl, a, _, rfl, (Same.wo1).seq h2, fun p hp => ?_⟩
  rw [cut63]
  have s := same_new hp (.lst ((ns.take 63).map V.int))
  exact q _ _ ρ _ f (E.ext s) (Keep.of s) (Dq.lst (fresh_av E.trk hp) upd_same DqAll.ints)
/-- 1 -/
theorem ws_s1 {ns : List Int} {P : Rho → Prop} (f : P [.scr ns, .dat (.int 271), .unk, .unk, .unk, .unk]) : WS K S (t_s1 K) [.scr ns, .unk, .unk, .unk, .unk, .unk] { nx := P, rt := fun _ _ => False } := ws_asg (wd_int f)
theorem abs_eq (i : Int) : (if i < 0 then -i else i) = ((i.natAbs : Nat) : Int) := by
  split <;> omega
theorem ws_s2 {ns : List Int} {P : Rho → Prop} (f : ∀ (z : Int) s2 s3, 0 ≤ z → z < 2147483587 → P [.scr ns, .dat (.int z), s2, s3, .unk, .unk]) :
    WS K S (t_s2 K) [.scr ns, .dat (.int 271), .unk, .unk, .unk, .unk] { nx := P, rt := fun _ _ => False } := by
  refine ws_for (wi_enum (wa_cons (wd_cut rfl (wa_nil ⟨_, rfl, fun k ρ => ∃ (z : Int) (s2 s3 : Sl), ρ = [.scr ns, .dat (.int z), s2, s3, .unk, .unk] ∧ 0 ≤ z ∧ z < 2147483587, ⟨271, _, _, rfl, by decide, by decide⟩, ?_, ?_⟩))))
  · rintro k d ρ2 hd ⟨z, s2, s3, rfl, z0, z1⟩
    rw [List.getElem?_mapIdx] at hd
    obtain ⟨d0, hd0, rfl⟩ := Option.map_eq_some_iff.mp hd
    rw [List.getElem?_map] at hd0
    obtain ⟨x, hx, rfl⟩ := Option.map_eq_some_iff.mp hd0
    have hk : k < 63 := by
      have := (List.getElem?_eq_some_iff.mp hx).1
      rw [List.length_take] at this
      omega
    refine ⟨_, _, gd_pair, ?_⟩
    walk_at "dl"
    · exact wide_mul (a := 32) (b := 32) (by omega) (by omega) (by decide) (by decide) (by decide)
    · exact wide_mul (a := 20) (b := 20) (by decide) (by omega) (by decide) (by decide) (by decide)
    obtain ⟨b0, b1⟩ := fmod_nn (i := z * z + x.fmod 2147483629 + 40009 * (k : Int)) (j := 2147483587) (by decide)
    exact ⟨_, _, _, rfl, b0, b1⟩
  · rintro ρ2 ⟨z, s2, s3, rfl, z0, z1⟩
    exact f z s2 s3 z0 z1
theorem pow18 : (10 : Int) ^ (18 : Int).toNat = 10 ^ 18 := by decide
theorem ws_s3 {ns : List Int} {z : Int} {s2 s3 : Sl} {P : Rho → Prop} (f : ∀ g : List Int, g.length ≤ 63 → P [.scr ns, .dat (.int z), s2, .unk, .own (g.map PyData.int), .unk]) :
    WS K S (t_s3 K) [.scr ns, .dat (.int z), s2, s3, .unk, .unk] { nx := P, rt := fun _ _ => False } := by
  refine ws_lc (wi_list (wd_cut rfl ⟨_, rfl, ?_, fun k acc ρ => ∃ g : List Int, acc = g.map PyData.int ∧ g.length ≤ k ∧ ρ = [.scr ns, .dat (.int z), s2, .unk, .unk, .unk], ⟨[], rfl, Nat.le_refl _, rfl⟩, ?_, ?_⟩))
  · rw [List.length_map, List.length_take, sizeLine_eq]; omega
  · rintro k d acc ρ2 hd ⟨g, rfl, hg, rfl⟩
    rw [List.getElem?_map] at hd
    obtain ⟨x, hx, rfl⟩ := Option.map_eq_some_iff.mp hd
    refine ⟨_, _, gd_name, fun j hj => hj, ?_⟩
    walk_at "dl"
    with_reducible refine if_b (fun hlt => ?_) (fun _ => ?_)
    · refine wd_cb (wa_cons (wd_var rfl (wa_nil (dc_i1 (f := fun i => if i < 0 then -i else i) ?_))))
      exact ⟨g ++ [if x < 0 then -x else x], by simp, by simp; omega, rfl⟩
    · exact ⟨g, rfl, by omega, rfl⟩
  · rintro acc ρ2 ⟨g, rfl, hg, rfl⟩
    rw [List.length_map, List.length_take] at hg
    exact f g (by omega)
theorem ws_s4 {ns : List Int} {z : Int} {s2 s3 : Sl} {g : List Int} {P : Rho → Prop} (f : ∀ l : List Int, l.length ≤ 63 → (∀ x ∈ l, 0 ≤ x ∧ x < 10 ^ 18) → P [.scr ns, .dat (.int z), s2, .unk, .own (g.map PyData.int), .own (l.map PyData.int)]) :
    WS K S (t_s4 K) [.scr ns, .dat (.int z), s2, s3, .own (g.map PyData.int), .unk] { nx := P, rt := fun _ _ => False } := by
  refine ws_lc (wi_list (wd_cut rfl ⟨_, rfl, ?_, fun k acc ρ => ∃ l : List Int, acc = l.map PyData.int ∧ l.length ≤ k ∧ (∀ x ∈ l, 0 ≤ x ∧ x < 10 ^ 18) ∧ ρ = [.scr ns, .dat (.int z), s2, .unk, .own (g.map PyData.int), .unk], ⟨[], rfl, Nat.le_refl _, by simp, rfl⟩, ?_, ?_⟩))
  · rw [List.length_map, List.length_take, sizeLine_eq]; omega
  · rintro k d acc ρ2 hd ⟨l, rfl, hl, hx18, rfl⟩
    rw [List.getElem?_map] at hd
    obtain ⟨x, hx, rfl⟩ := Option.map_eq_some_iff.mp hd
    refine ⟨_, _, gd_name, fun j hj => hj, ?_⟩
    walk_at "dl"
    with_reducible refine if_b (fun hlt => ?_) (fun _ => ?_)
    · have hlt' : ((x.natAbs : Nat) : Int) < (10 : Int) ^ (18 : Int).toNat := hlt
      rw [pow18, ← abs_eq] at hlt'
      refine wd_cb (wa_cons (wd_var rfl (wa_nil (dc_i1 (f := fun i => if i < 0 then -i else i) ?_))))
      refine ⟨l ++ [if x < 0 then -x else x], by simp, by simp; omega, fun y hy => ?_, rfl⟩
      rcases List.mem_append.mp hy with h | h
      · exact hx18 y h
      · have : y = if x < 0 then -x else x := by simpa using h
        subst this
        refine ⟨?_, hlt'⟩
        split <;> omega
    · exact ⟨l, rfl, by omega, hx18, rfl⟩
  · rintro acc ρ2 ⟨l, rfl, hl, hx18, rfl⟩
    rw [List.length_map, List.length_take] at hl
    exact f l (by omega) hx18
/-- the last row: a new store -/
theorem s5_run {ns g l : List Int} {z : Int} {s2 s3 : Sl} {Q : VK} {nx : L2.St → Hp → Prop} (z0 : 0 ≤ z) (z1 : z < 2147483587) (hg : g.length ≤ 63) (hl : l.length ≤ 63) (hx : ∀ x ∈ l, 0 ≤ x ∧ x < 10 ^ 18)
    (E : EnvD K S0 H0 N0 Z N σ H [.scr ns, .dat (.int z), s2, s3, .own (g.map PyData.int), .own (l.map PyData.int)])
    (q : ∀ S H', FSto S → S.ok H' 0 → (∀ b, S.fp b = true → H0 b = none) → Same H0 H' → Q (.ref S.a) H') : t_s5 K { nx := nx, rt := Q } σ H := by
  obtain ⟨p4, xs4, a1, a2, a3, a4, a5, a6, a7⟩ := E.slot 4 _ rfl
  obtain ⟨p5, xs5, b1, b2, b3, b4, b5, b6, b7⟩ := E.slot 5 _ rfl
  obtain ⟨v1, c1, c2⟩ := E.slot 1 _ rfl
  cases c2
  obtain rfl := a7.of_ints
  obtain rfl := b7.of_ints
  have n45 : p4 ≠ p5 := fun e => by
    subst e
    exact absurd (E.inj 4 5 _ _ p4 rfl rfl a1 b1) (by decide)
  refine ⟨_, a1, _, c1, _, b1, ?_⟩
  refine ⟨by show 1 ≤ sizeLine; decide, fun p hp => ?_⟩
  have e1 := same_new hp (.lst [V.int 17])
  refine ⟨p5, p, _, _, rfl, rfl, .inl (e1 _ _ b6), .inl upd_same, by rw [List.length_map, sizeLine_eq]; simp; omega, fun la hla => ?_⟩
  have e2 := same_new hla (.lst (l.map V.int ++ [V.int 17]))
  refine ⟨by show 4 ≤ sizeLine; decide, fun a ha => ?_⟩
  have e3 := same_new ha (.lst [V.ref p4, .int z, .int 0, .ref la])
  have hp4 : upd (upd (upd H p (.lst [V.int 17])) la (.lst (l.map V.int ++ [V.int 17]))) a (.lst [V.ref p4, .int z, .int 0, .ref la]) p4 = some (.lst (g.map V.int)) := e3 _ _ (e2 _ _ (e1 _ _ a6))
  have hla' : upd (upd (upd H p (.lst [V.int 17])) la (.lst (l.map V.int ++ [V.int 17]))) a (.lst [V.ref p4, .int z, .int 0, .ref la]) la = some (.lst (l.map V.int ++ [V.int 17])) := e3 _ _ upd_same
  have ne1 : a ≠ p4 := fun e => by
    rw [e] at ha
    rw [e2 _ _ (e1 _ _ a6)] at ha
    cases ha
  have ne2 : a ≠ la := fun e => by
    rw [e] at ha
    rw [upd_same] at ha
    cases ha
  have ne3 : p4 ≠ la := fun e => by
    rw [← e] at hla
    rw [e1 _ _ a6] at hla
    cases hla
  have e123 : Same H (upd (upd (upd H p (.lst [V.int 17])) la (.lst (l.map V.int ++ [V.int 17]))) a (.lst [V.ref p4, .int z, .int 0, .ref la])) := (e1.trans e2).trans e3
  have back : ∀ b, (upd H p (.lst [V.int 17])) b = none → H0 b = none := fun b hb => by
    cases w : H0 b with
    | none => rfl
    | some o => rw [e1 _ _ (E.keep b o rfl w)] at hb; cases hb
  have back2 : (upd (upd H p (.lst [V.int 17])) la (.lst (l.map V.int ++ [V.int 17]))) a = none → H0 a = none := fun hb => by
    cases w : H0 a with
    | none => rfl
    | some o => rw [e2 _ _ (e1 _ _ (E.keep a o rfl w))] at hb; cases hb
  refine q (mkS a p4 la) _ ⟨a, p4, la, rfl⟩ ⟨ne1, ne2, ne3, g, l ++ [17], z, 0, upd_same, hp4, by rw [List.map_append]; exact hla', hg, by simp, by simp; omega, fun x hx' => ?_, z0, z1, by decide, by decide⟩ (fun b hb => ?_) (fun b o hb => e123 _ _ (E.keep b o rfl hb))
  · rcases List.mem_append.mp hx' with h | h
    · exact hx x h
    · have : x = 17 := by simpa using h
      subst this
      decide
  · have : (decide (b = a) || decide (b = p4) || decide (b = la)) = true := hb
    simp at this
    rcases this with (e | e) | e
    · rw [e]; exact back2 ha
    · rw [e]; exact a5
    · rw [e]; exact back _ hla
end
/-- the store is made -/
theorem store_run {K : PySem.W.Frag} {vs : List V} {H : Hp} {Q : VK} {E : XK} (h : spMk K vs H Q E) : t_store K { nx := fun _ H' => Q .non H', rt := Q } (L2.start ["script", "blend", "place", "cell", "great", "small"] vs) H := by
  obtain ⟨a0, ns, rfl, hs, hl, hQ⟩ := h
  have woF : ∀ G : Hp, wo (fun _ => false) G = G := fun G => by funext b; rfl
  have E0 : EnvD K S0 H (fun _ => false) [] (fun _ => false) [some (.ref a0), none, none, none, none, none] H [.scr ns, .unk, .unk, .unk, .unk, .unk] := {
    keep := fun _ _ _ h => h, base := Le.refl, trk := fun _ h => (nomatch h), sub := fun _ h => (nomatch h), len := rfl, hid := fun _ h => (nomatch h), injZ := fun i j di dj p h => by simp at h
    slot := fun i s h => by
      match i, h with
      | 0, h => cases h; exact ⟨a0, rfl, by rw [woF]; exact hs⟩
      | 1, h => cases h; trivial
      | 2, h => cases h; trivial
      | 3, h => cases h; trivial
      | 4, h => cases h; trivial
      | 5, h => cases h; trivial
    injH := fun i di dj p h1 h2 hz => by cases hz
    inj := fun i j di dj p h1 => by
      match i, h1 with
      | 0, h => cases h
      | 1, h => cases h
      | 2, h => cases h
      | 3, h => cases h
      | 4, h => cases h
      | 5, h => cases h }
  have mt : ∀ {P : Rho → Prop} {D : Ends}, (∀ N σ H' ρ, P ρ → EnvD K S0 H (fun _ => false) [] N σ H' ρ → D.nx σ H') → Meets K S0 H (fun _ => false) [] { nx := P, rt := fun _ _ => False } D := fun h => ⟨h, fun _ _ _ _ _ _ q => q.elim, fun _ _ _ _ q => q.elim, fun _ _ _ _ q => q.elim⟩
  show t_store K _ [some (.ref a0), none, none, none, none, none] H
  refine ws_s1 (P := fun ρ => ρ = [.scr ns, .dat (.int 271), .unk, .unk, .unk, .unk]) rfl _ _ _ _ _ _ _ E0 (mt fun N1 σ1 H1 ρ1 e1 E1 => ?_)
  subst e1
  refine ws_s2 (P := fun ρ => ∃ (z : Int) (s2 s3 : Sl), 0 ≤ z ∧ z < 2147483587 ∧ ρ = [.scr ns, .dat (.int z), s2, s3, .unk, .unk]) (fun z s2 s3 a b => ⟨z, s2, s3, a, b, rfl⟩) _ _ _ _ _ _ _ E1 (mt fun N2 σ2 H2 ρ2 ⟨z, s2, s3, z0, z1, e2⟩ E2 => ?_)
  subst e2
  refine ws_s3 (P := fun ρ => ∃ g : List Int, g.length ≤ 63 ∧ ρ = [.scr ns, .dat (.int z), s2, .unk, .own (g.map PyData.int), .unk]) (fun g a => ⟨g, a, rfl⟩) _ _ _ _ _ _ _ E2 (mt fun N3 σ3 H3 ρ3 ⟨g, hg, e3⟩ E3 => ?_)
  subst e3
  refine ws_s4 (P := fun ρ => ∃ l : List Int, l.length ≤ 63 ∧ (∀ x ∈ l, 0 ≤ x ∧ x < 10 ^ 18) ∧ ρ = [.scr ns, .dat (.int z), s2, .unk, .own (g.map PyData.int), .own (l.map PyData.int)]) (fun l a b => ⟨l, a, b, rfl⟩) _ _ _ _ _ _ _ E3 (mt fun N4 σ4 H4 ρ4 ⟨l, hl4, hx, e4⟩ E4 => ?_)
  subst e4
  exact s5_run z0 z1 hg hl4 hx E4 hQ
end DL

set_option Elab.async false
set_option linter.all false
set_option maxRecDepth 100000
set_option maxHeartbeats 4000000
/-! DLT: types of data -/
namespace DL
open PySem PySem.Spec PyProof.Rows L2
def tyD : PyData → String
  | .none => "NoneType"
  | .bool _ => "bool"
  | .int _ => "int"
  | .str _ => "str"
  | .list _ => "list"
  | .tuple _ => "tuple"
  | .dict _ => "dict"
abbrev rIsTyX : R2 := fun x y H Q => ∃ a b, x = .ty a ∧ y = .ty b ∧ Q (.bl (decide (a = b))) H
section
variable {K : PySem.W.Frag} {S : Stt} {H0 : Hp} {N0 : Av} {Z : List Hd} {N : Av} {σ : L2.St} {H H' : Hp} {ρ : Rho} {Φ : PyData → Rho → Prop} {Ψ : PyData → Prop}
def tyNames : List String := ["NoneType", "bool", "int", "str", "list", "tuple", "dict"]
end
end DL

set_option Elab.async false
set_option linter.all false
set_option maxRecDepth 100000
set_option maxHeartbeats 4000000
/-! DLP: parts in the laws' own hands -/
namespace DL
open PySem PySem.Spec PyProof.Rows L2
local macro_rules | `(tactic| walk_at "dl") => `(tactic| repeat' (first
  | with_reducible refine wd_isTy ?_ | with_reducible refine wd_isi ?_ | with_reducible refine wd_op ?_ | with_reducible refine wd_cb ?_ | with_reducible refine wd_un ?_ | with_reducible refine wa_cons ?_ | with_reducible refine wa_nil ?_ | ((with_reducible show WD _ _ (tVar _) _ _); refine wd_var rfl ?_) | with_reducible refine wd_int ?_ | with_reducible refine wd_bl ?_ | with_reducible refine wd_str ?_ | with_reducible refine wd_non ?_
  | with_reducible refine do_add ?_ | with_reducible refine do_sub ?_ | ((with_reducible refine do_mod ?_ ?_); decide) | with_reducible refine do_mod ?_ ?_ | with_reducible refine do_mul ?_ ?_ | ((with_reducible refine do_div ?_ ?_); exact ⟨by decide, by decide⟩) | with_reducible refine do_div ?_ ?_ | ((with_reducible refine do_pow ?_ ?_); exact ⟨by decide, by decide, by decide⟩) | with_reducible refine do_pow ?_ ?_
  | with_reducible refine do_lt ?_ | with_reducible refine do_le ?_ | with_reducible refine do_gt ?_ | with_reducible refine do_ge ?_ | with_reducible refine du_neg ?_
  | with_reducible refine do_eqi ?_ | with_reducible refine do_nei ?_ | with_reducible refine do_eqs ?_ | with_reducible refine do_nes ?_ | with_reducible refine dc_abs ?_ | with_reducible refine dc_min ?_ | with_reducible refine dc_max ?_ | with_reducible refine dc_lenL ?_ | with_reducible refine dc_lenT ?_ | with_reducible refine dc_gcd ?_
  | ((with_reducible show DO _ (rIxT _) _ _ _); refine do_ixT rfl ?_) | ((with_reducible show DO _ (rIxL _) _ _ _); refine do_ixL rfl ?_) | with_reducible refine do_catL ?_ ?_
  | with_reducible refine wd_dnew ?_ | with_reducible refine wd_call0 ?_ | with_reducible refine dc_str ?_ ?_ | with_reducible refine wd_tup ?_ | with_reducible refine wd_lst ?_ | with_reducible refine wt_test ?_ | with_reducible refine wt_B ?_ | with_reducible refine wt_not ?_ | with_reducible refine wt_and ?_ | with_reducible refine wt_or ?_ | with_reducible refine wd_ifE ?_ | with_reducible refine wd_andV ?_ | with_reducible refine wd_orV ?_ | with_reducible refine wd_notV ?_
  | with_reducible refine ws_seq ?_ | with_reducible refine ws_next ?_ | with_reducible refine ws_asg ?_ | with_reducible refine ws_ret ?_ | with_reducible refine ws_retN ?_ | with_reducible refine ws_if ?_ | with_reducible refine ws_par ?_ | with_reducible refine ws_unp2 ?_
  | with_reducible refine if_t ?_ | with_reducible refine if_f ?_ | with_reducible refine if_nf ?_ | with_reducible refine if_nt ?_
  | ((with_reducible show Exists _); first | refine ⟨_, kitInt _, ?_⟩ | refine ⟨_, kitBool _, ?_⟩ | refine ⟨_, kitTup _, ?_⟩ | refine ⟨_, kitList _, ?_⟩ | refine ⟨_, rfl, ?_⟩ | refine ⟨_, _, rfl, ?_⟩ | fail) | fail))

/-! ### lowest terms -/
/-- a by b, b not nought, in lowest terms -/
def nrm (a b : Int) : Int × Int := ((if 0 < b then a else -a) / ((Nat.gcd a.natAbs b.natAbs : Nat) : Int), ((b.natAbs : Nat) : Int) / ((Nat.gcd a.natAbs b.natAbs : Nat) : Int))
def pr (x : Int × Int) : PyData := .tuple [.int x.1, .int x.2]
/-- the promise of a maker of parts -/
def TPart : List PyData → (PyData → Prop) → Prop := fun ds Φ => ∃ a b : Int, ds = [.int a, .int b] ∧ b ≠ 0 ∧ a.natAbs < 2 ^ 8000 ∧ b.natAbs < 2 ^ 8000 ∧ Φ (pr (nrm a b))
def t_law_part (K : PySem.W.Frag) : TS :=
  (tSeq (tPar 2 3 (tCons (tCB rAbsX (tCons (tVar 0) tNil)) (tCons (tCB rAbsX (tCons (tVar 1) tNil)) tNil)))
    (tSeq (tWhile (tTest (tOp rGt (tVar 3) (tC (.int 0)))) (tPar 2 3 (tCons (tVar 3) (tCons (tOp rModI (tVar 2) (tVar 3)) tNil))))
    (tSeq (tAsg (tIf (tTest (tOp rGt (tVar 1) (tC (.int 0)))) (tC (.int 1)) (tUn rNegI (tC (.int 1)))) (gName 4))
    (tRet (tTup (tCons (tOp rDivI (tOp rMulI (tVar 4) (tVar 0)) (tVar 2)) (tCons (tOp rDivI (tCB rAbsX (tCons (tVar 1) tNil)) (tVar 2)) tNil)))))))


theorem log2_of {i : Int} {k : Nat} (h : i.natAbs < 2 ^ k) (hk : 0 < k) : i.natAbs.log2 < k := PySem.Flt.log2_lt_of hk h
/-! ### about lowest terms -/
end DL

set_option Elab.async false
set_option linter.all false
set_option maxRecDepth 100000
set_option maxHeartbeats 4000000
/-! DLS: what the laws draw -/
namespace DL
open PySem PySem.Spec PyProof.Rows L2
local macro_rules | `(tactic| walk_at "dl") => `(tactic| repeat' (first
  | with_reducible refine wd_isTy ?_ | with_reducible refine wd_isi ?_ | with_reducible refine wd_op ?_ | with_reducible refine wd_cb ?_ | with_reducible refine wd_un ?_ | with_reducible refine wa_cons ?_ | with_reducible refine wa_nil ?_ | ((with_reducible show WD _ _ (tVar _) _ _); refine wd_var rfl ?_) | with_reducible refine wd_int ?_ | with_reducible refine wd_bl ?_ | with_reducible refine wd_str ?_ | with_reducible refine wd_non ?_
  | with_reducible refine do_add ?_ | with_reducible refine do_sub ?_ | ((with_reducible refine do_mod ?_ ?_); decide) | with_reducible refine do_mod ?_ ?_ | with_reducible refine do_mul ?_ ?_ | ((with_reducible refine do_div ?_ ?_); exact ⟨by decide, by decide⟩) | with_reducible refine do_div ?_ ?_ | ((with_reducible refine do_pow ?_ ?_); exact ⟨by decide, by decide, by decide⟩) | with_reducible refine do_pow ?_ ?_
  | with_reducible refine do_lt ?_ | with_reducible refine do_le ?_ | with_reducible refine do_gt ?_ | with_reducible refine do_ge ?_ | with_reducible refine du_neg ?_
  | with_reducible refine do_eqi ?_ | with_reducible refine do_nei ?_ | with_reducible refine do_eqs ?_ | with_reducible refine do_nes ?_ | with_reducible refine dc_abs ?_ | with_reducible refine dc_min ?_ | with_reducible refine dc_max ?_ | with_reducible refine dc_lenL ?_ | with_reducible refine dc_lenT ?_ | with_reducible refine dc_gcd ?_
  | ((with_reducible show DO _ (rIxT _) _ _ _); refine do_ixT rfl ?_) | ((with_reducible show DO _ (rIxL _) _ _ _); refine do_ixL rfl ?_) | with_reducible refine do_catL ?_ ?_
  | with_reducible refine wd_dnew ?_ | with_reducible refine wd_call0 ?_ | with_reducible refine dc_str ?_ ?_ | with_reducible refine wd_tup ?_ | with_reducible refine wd_lst ?_ | with_reducible refine wt_test ?_ | with_reducible refine wt_B ?_ | with_reducible refine wt_not ?_ | with_reducible refine wt_and ?_ | with_reducible refine wt_or ?_ | with_reducible refine wd_ifE ?_ | with_reducible refine wd_andV ?_ | with_reducible refine wd_orV ?_ | with_reducible refine wd_notV ?_
  | with_reducible refine ws_seq ?_ | with_reducible refine ws_next ?_ | with_reducible refine ws_asg ?_ | with_reducible refine ws_ret ?_ | with_reducible refine ws_retN ?_ | with_reducible refine ws_if ?_ | with_reducible refine ws_par ?_ | with_reducible refine ws_unp2 ?_
  | with_reducible refine if_t ?_ | with_reducible refine if_f ?_ | with_reducible refine if_nf ?_ | with_reducible refine if_nt ?_
  | ((with_reducible show Exists _); first | refine ⟨_, kitInt _, ?_⟩ | refine ⟨_, kitBool _, ?_⟩ | refine ⟨_, kitTup _, ?_⟩ | refine ⟨_, kitList _, ?_⟩ | refine ⟨_, rfl, ?_⟩ | refine ⟨_, _, rfl, ?_⟩ | fail) | fail))

abbrev TDr := TDraw 400 (2 ^ 1899) (2 ^ 40)
section
variable {K : PySem.W.Frag} {S : Stt} {ρ : Rho} {Φ : PyData → Rho → Prop} {Ψ : PyData → Prop}
/-- a draw below what is reckoned -/
theorem wd_draw {i : Nat} {B0 : Nat} {te : TE} (hF : FSto S) (hi : ρ[i]? = some (.sto B0)) (h : WD K S te ρ fun d ρ1 => ∃ (m : Int) (B : Nat), d = .int m ∧ ρ1[i]? = some (.sto B) ∧ 1 ≤ m ∧ m ≤ 2 ^ 1899 ∧ B ≤ 2 ^ 40 ∧ ∀ z : Int, 0 ≤ z → z < m → Φ (.int z) (stoAll (B + 400) ρ1)) :
    WD K S (tCall (spS K FSto TDr) [] E0 (tCons (tVar i) (tCons te tNil))) ρ Φ := by
  refine wd_callS hF hi (wa_cons (WD.imp h fun d ρ1 ⟨m, B, e, hB, m1, m2, b, f⟩ => wa_nil ⟨B, hB, m, by rw [e], m1, m2, b, f⟩))
/-- .. below a written number -/
theorem wd_drawc {i : Nat} {B : Nat} {m : Int} (hF : FSto S) (hi : ρ[i]? = some (.sto B)) (m1 : 1 ≤ m) (m2 : m ≤ 2 ^ 1899) (hB : B ≤ 2 ^ 40) (f : ∀ z : Int, 0 ≤ z → z < m → Φ (.int z) (stoAll (B + 400) ρ)) :
    WD K S (tCall (spS K FSto TDr) [] E0 (tCons (tVar i) (tCons (tC (.int m)) tNil))) ρ Φ := wd_draw hF hi (wd_int ⟨m, B, rfl, hi, m1, m2, hB, f⟩)
theorem atI_of {ds : List PyData} {z : Int} (h0 : 0 ≤ z) (h1 : z < ds.length) : ∃ d, atI ds z = some d ∧ d ∈ ds := by
  obtain ⟨j, rfl⟩ : ∃ j : Nat, z = j := ⟨z.toNat, by omega⟩
  have hj : j < ds.length := by omega
  exact ⟨ds[j], atI_nat (List.getElem?_eq_getElem hj), List.getElem_mem hj⟩
/-- any item of a list, by a place in it -/
theorem do_ixL_any {ds : List PyData} {z : Int} (h0 : 0 ≤ z) (h1 : z < ds.length) (h : ∀ d ∈ ds, Ψ d) : DO K (rIxL K) (.list ds) (.int z) Ψ := by
  obtain ⟨d, e, hm⟩ := atI_of h0 h1
  exact do_ixL e (h d hm)
theorem do_ixL_int {ds : List PyData} {ns : List Int} {z : Int} {P : Int → Prop} (e : ds = ns.map PyData.int) (h0 : 0 ≤ z) (h1 : z < ns.length) (hp : ∀ n ∈ ns, P n) (h : ∀ n, P n → Ψ (.int n)) : DO K (rIxL K) (.list ds) (.int z) Ψ := by
  subst e
  refine do_ixL_any h0 (by rw [List.length_map]; exact h1) fun d hd => ?_
  obtain ⟨n, hn, rfl⟩ := List.mem_map.mp hd
  exact h n (hp n hn)
end
/-- a small part -/
structure PIn (n d : Int) : Prop where
  d1 : 1 ≤ d
  d2 : d ≤ 1000
  n1 : n.natAbs ≤ 10 ^ 6
  g : Nat.gcd n.natAbs d.natAbs = 1
def TSmall : Nat → List PyData → (PyData → Nat → Prop) → Prop := fun B ds Φ => ds = [] ∧ B + 3200 ≤ 2 ^ 40 ∧ ∀ n d : Int, PIn n d → Φ (pr (n, d)) (B + 3200)
def t_law_small (K : PySem.W.Frag) : TS :=
  (tSeq (tAsg (tCall (spS K FSto TDr) [] E0 (tCons (tVar 0) (tCons (tC (.int 6)) tNil))) (gName 1))
    (tSeq (tAsg (tOp (rIxL K) (tLst (tCons (tC (.int 1)) (tCons (tC (.int 1)) (tCons (tC (.int 2)) (tCons (tC (.int 3)) (tCons (tC (.int 4)) (tCons (tC (.int 12)) (tCons (tC (.int 97)) (tCons (tC (.int 101)) (tCons (tC (.int 997)) (tCons (tC (.int 1000)) (tCons (tOp rAddI (tC (.int 1)) (tCall (spS K FSto TDr) [] E0 (tCons (tVar 0) (tCons (tC (.int 1000)) tNil)))) tNil)))))))))))) (tCall (spS K FSto TDr) [] E0 (tCons (tVar 0) (tCons (tC (.int 11)) tNil)))) (gName 2))
    (tSeq (tAsg (tLst (tCons (tC (.int 0)) (tCons (tC (.int 1)) (tCons (tOp rAddI (tC (.int 1)) (tCall (spS K FSto TDr) [] E0 (tCons (tVar 0) (tCons (tC (.int 9)) tNil)))) (tCons (tCall (spS K FSto TDr) [] E0 (tCons (tVar 0) (tCons (tC (.int 1000)) tNil))) (tCons (tOp rSubI (tOp rPowI (tC (.int 10)) (tC (.int 6))) (tCall (spS K FSto TDr) [] E0 (tCons (tVar 0) (tCons (tC (.int 3)) tNil)))) tNil)))))) (gName 3))
    (tSeq (tAsg (tOp (rIxL K) (tOp rCatL (tVar 3) (tLst (tCons (tCall (spS K FSto TDr) [] E0 (tCons (tVar 0) (tCons (tOp rPowI (tC (.int 10)) (tC (.int 6))) tNil))) tNil))) (tVar 1)) (gName 3))
    (tRet (tCall (spP K TPart) [] E0 (tCons (tOp rMulI (tVar 3) (tOp (rIxL K) (tLst (tCons (tC (.int 1)) (tCons (tUn rNegI (tC (.int 1))) tNil))) (tCall (spS K FSto TDr) [] E0 (tCons (tVar 0) (tCons (tC (.int 2)) tNil))))) (tCons (tVar 2) tNil))))))))


theorem big1899 : (1000000 : Int) ≤ 2 ^ 1899 := by decide +kernel
/-! ### the law's own run -/
def spLaw (K : PySem.W.Frag) : Sp := fun vs H Q _ => ∃ (a : Addr) (ns : List Int), vs = [.ref a] ∧ SqL K H a (ns.map V.int) ∧ ns.length ≤ 63 ∧ ∀ H', Q (.bl true) H'
theorem run_law {K : PySem.W.Frag} {n : Nat} {Nm : List Str} {rest : TS} {vs : List V} {H : Hp} {Q : VK} {E : XK} (hn : Nm.length = n + 2) (h : spLaw K vs H Q E)
    (b : ∀ S ns, FSto S → ns.length ≤ 63 → WS K S rest (.scr ns :: .sto 0 :: List.replicate n .unk) { nx := fun _ => False, rt := fun d _ => d = .bool true }) :
    tSeq (tAsg (tCall (spMk K) [] E0 (tCons (tVar 0) tNil)) (gName 1)) rest { nx := fun _ H' => Q .non H', rt := Q } (L2.start Nm vs) H := by
  obtain ⟨a, ns, rfl, hs, hl, hQ⟩ := h
  have e0 : L2.start Nm [V.ref a] = some (.ref a) :: none :: List.replicate n none := by
    show [some (V.ref a)] ++ List.replicate (Nm.length - 1) none = _
    rw [hn, show n + 2 - 1 = n + 1 by omega, List.replicate_succ]
    rfl
  rw [e0]
  refine ⟨_, rfl, ?_⟩
  refine ⟨a, ns, rfl, hs, hl, fun S H' hF hok hfp sm => ?_⟩
  have sw : Same H (wo S.fp H') := fun c o hc => by
    have : S.fp c = false := by
      cases z : S.fp c with
      | false => rfl
      | true => rw [hfp c z] at hc; cases hc
    rw [wo_in this]
    exact sm c o hc
  have rep : ∀ {i : Nat} {s : Sl}, (List.replicate n Sl.unk)[i]? = some s → s = .unk := fun {i s} h => by
    rw [List.getElem?_replicate] at h
    split at h
    · exact (Option.some.inj h).symm
    · cases h
  have E1 : EnvD K S (fun _ => none) (fun _ => false) [] S.fp (some (V.ref a) :: some (V.ref S.a) :: List.replicate n none) H' (.scr ns :: .sto 0 :: List.replicate n .unk) := {
    keep := fun _ _ _ h => (nomatch h), base := fun _ h => (nomatch h), trk := fun c hc => S.trk H' 0 hok c hc, sub := Le.refl, len := by simp, hid := fun _ h => (nomatch h), injZ := fun i j di dj p h => by simp at h
    slot := fun i s h => by
      match i, h with
      | 0, h => cases h; exact ⟨a, rfl, sw.seq hs⟩
      | 1, h => cases h; exact ⟨rfl, hok⟩
      | i + 2, h =>
        have e : s = .unk := rep (i := i) (by simpa using h)
        subst e
        trivial
    injH := fun i di dj p h1 h2 hz => by cases hz
    inj := fun i j di dj p h1 => by
      match i, h1 with
      | 0, h => cases h
      | 1, h => cases h
      | i + 2, h =>
        have e : Sl.own di = .unk := rep (i := i) (by simpa using h)
        cases e }
  refine b S ns hF hl _ _ _ _ _ _ _ E1 ⟨fun _ _ _ _ q => q.elim, fun N' σ' H2 ρ' v d q E2 dv => ?_, fun _ _ _ _ q => q.elim, fun _ _ _ _ q => q.elim⟩
  have q' : d = .bool true := q
  subst q'
  have e : v = .bl true := dv.bool_inv
  subst e
  exact hQ H2
end DL

set_option Elab.async false
set_option linter.all false
set_option maxRecDepth 100000
set_option maxHeartbeats 2000000
namespace DL
open PySem PySem.Spec PyProof.Rows L2
/-! ### the head: facts of defs, and names that stand for a function of math -/
abbrev AlG : Type := He.AlD × Bool
def bltB (K : PySem.W.Frag) (bs : List (Str × String)) : Bool := bs.all fun p => He.eqO (PySem.W.nsIn K mainGlobals p.1) (some (some (.builtin p.2)))
def obsM (n : Nat) (fa : List He.Fa) (fn : List He.DefD) (bs : List (Str × String)) (g : Addr → Option Obj) : AlG := (He.obsDG n fa fn g, bltB (He.frG g (He.asD g n)) bs)
def hookM (n : Nat) (fa : List He.Fa) (fn : List He.DefD) (bs : List (Str × String)) : PySem.W.Hook where
  α := AlG
  obs := fun s => obsM n fa fn bs s.heap.get?
  val := fun _ => (He.valD fn, true)
  says := fun _ h => ∃ K : PySem.W.Frag, K.In h ∧ He.SaysD fa fn K ∧ bltB K bs = true
  of := fun _ _ e => ⟨_, He.frG_in, congrArg Prod.fst e, congrArg Prod.snd e⟩
  keeps := fun _ _ _ ⟨K, hK, c⟩ k => ⟨K, PySem.W.Frag.In.keeps hK k, c⟩
/-- a promise of nothing: for a call that is never made -/
def spNo : Sp := fun _ _ _ _ => False
section
variable {P : Program} {w : World} {K : PySem.W.Frag} {mg : Str → Option Value} {base : Heap}
theorem fn_no {x ql : Str} {prm : Arguments} {bd : List Stmt} {sc : Scope} {dvs : List V} {kws : List (Str × V)} {f : Addr} {fd : FuncData} {Nm ps : List Str} (F : FunD K x ql prm bd sc dvs kws f fd) (S : FnScope Nm ps sc) : FnOk P w K mg base CX0 1 f fd ps spNo :=
  F.ok S (fun _ _ _ _ h => h.elim) fun _ _ _ _ _ _ _ _ _ h => h.elim
theorem has_of {x : Str} {k : Nat} {ps : List Str} {sp : Sp} {f : Addr} {fd : FuncData} (F : FnOk P w K mg base CX0 k f fd ps sp) (hm : mg x = some (.ref f)) (hk : PySem.W.keepIn K (.ref f) = true) (hb : Binds K fd ps []) : Has P w K mg base CX0 x k ps sp [] := ⟨f, fd, [], F, hm, hk, hb, .nil⟩
end
theorem spP_len {K : PySem.W.Frag} {T : List PyData → (PyData → Prop) → Prop} {n : Nat} (hT : ∀ ds Φ, T ds Φ → ds.length = n) {vs : List V} {H : Hp} {Q : VK} {E : XK} (h : spP K T vs H Q E) : vs.length = n := by
  obtain ⟨N, ds, Φ, _, hd, t, _⟩ := h
  exact hd.len.trans (hT ds Φ t)
theorem spS_len {K : PySem.W.Frag} {F : Stt → Prop} {T : Nat → List PyData → (PyData → Nat → Prop) → Prop} {n : Nat} (hT : ∀ B ds Φ, T B ds Φ → ds.length = n) {vs : List V} {H : Hp} {Q : VK} {E : XK} (h : spS K F T vs H Q E) : vs.length = n + 1 := by
  obtain ⟨S, N, us, ds, B, Φ, rfl, _, _, _, _, hd, t, _⟩ := h
  have e := hd.len.trans (hT B ds Φ t)
  simp [e]
end DL

set_option Elab.async false
set_option linter.all false
set_option maxRecDepth 100000
set_option maxHeartbeats 4000000
/-! DLA: parts reckoned -/
namespace DL
open PySem PySem.Spec PyProof.Rows L2
local macro_rules | `(tactic| walk_at "dl") => `(tactic| repeat' (first
  | with_reducible refine wd_isTy ?_ | with_reducible refine wd_isi ?_ | with_reducible refine wd_op ?_ | ((with_reducible show WD _ _ (tCB (rLenX _) (tCons (tVar _) tNil)) _ _); refine wd_len_scr rfl ?_) | with_reducible refine wd_cb ?_ | with_reducible refine wd_un ?_ | with_reducible refine wa_cons ?_ | with_reducible refine wa_nil ?_ | ((with_reducible show WD _ _ (tVar _) _ _); refine wd_var rfl ?_) | with_reducible refine wd_int ?_ | with_reducible refine wd_bl ?_ | with_reducible refine wd_str ?_ | with_reducible refine wd_non ?_
  | with_reducible refine do_add ?_ | with_reducible refine do_sub ?_ | ((with_reducible refine do_mod ?_ ?_); decide) | with_reducible refine do_mod ?_ ?_ | with_reducible refine do_mul ?_ ?_ | ((with_reducible refine do_div ?_ ?_); exact ⟨by decide, by decide⟩) | with_reducible refine do_div ?_ ?_ | ((with_reducible refine do_pow ?_ ?_); exact ⟨by decide, by decide, by decide⟩) | with_reducible refine do_pow ?_ ?_
  | with_reducible refine do_lt ?_ | with_reducible refine do_le ?_ | with_reducible refine do_gt ?_ | with_reducible refine do_ge ?_ | with_reducible refine du_neg ?_
  | with_reducible refine do_eqi ?_ | with_reducible refine do_nei ?_ | with_reducible refine do_eqs ?_ | with_reducible refine do_nes ?_ | with_reducible refine dc_abs ?_ | with_reducible refine dc_min ?_ | with_reducible refine dc_max ?_ | with_reducible refine dc_lenL ?_ | with_reducible refine dc_lenT ?_ | with_reducible refine dc_gcd ?_
  | ((with_reducible show DO _ (rIxT _) _ _ _); refine do_ixT rfl ?_) | ((with_reducible show DO _ (rIxL _) _ _ _); refine do_ixL rfl ?_) | ((with_reducible refine do_catL ?_ ?_); exact Nat.le_of_ble_eq_true rfl) | with_reducible refine do_catL ?_ ?_ | ((with_reducible show And (List.length _ ≤ sizeLine) _); refine ⟨Nat.le_of_ble_eq_true rfl, ?_⟩)
  | with_reducible refine wd_dnew ?_ | with_reducible refine wd_call0 ?_ | with_reducible refine dc_str ?_ ?_ | with_reducible refine wd_tup ?_ | with_reducible refine wd_lst ?_ | with_reducible refine wt_test ?_ | with_reducible refine wt_B ?_ | with_reducible refine wt_not ?_ | with_reducible refine wt_and ?_ | with_reducible refine wt_or ?_ | with_reducible refine wd_ifE ?_ | with_reducible refine wd_andV ?_ | with_reducible refine wd_orV ?_ | with_reducible refine wd_notV ?_
  | with_reducible refine ws_seq ?_ | with_reducible refine ws_next ?_ | with_reducible refine ws_asg ?_ | with_reducible refine ws_ret ?_ | with_reducible refine ws_retN ?_ | with_reducible refine ws_if ?_ | with_reducible refine ws_par ?_ | with_reducible refine ws_unp2 ?_
  | with_reducible refine if_t ?_ | with_reducible refine if_f ?_ | with_reducible refine if_nf ?_ | with_reducible refine if_nt ?_
  | ((with_reducible show Exists _); first | refine ⟨_, kitInt _, ?_⟩ | refine ⟨_, kitBool _, ?_⟩ | refine ⟨_, kitTup _, ?_⟩ | refine ⟨_, kitList _, ?_⟩ | refine ⟨_, rfl, ?_⟩ | refine ⟨_, _, rfl, ?_⟩ | fail) | fail))
/-! ### what is never reached -/
def tNo : TS := fun _ _ _ => False
def tNoE : TE := fun _ _ _ => False
/-! ### a maker of parts -/
def t_part (K : PySem.W.Frag) : TS :=
  (tSeq (tIfS (tTest (tOp rEq (tVar 1) (tC (.int 0)))) tNo tNext)
    (tSeq (tAsg (tCB rGcd (tCons (tVar 0) (tCons (tVar 1) tNil))) (gName 2))
    (tSeq (tIfS (tTest (tOp rLt (tVar 1) (tC (.int 0)))) (tAsg (tUn rNegI (tVar 2)) (gName 2)) tNext)
    (tRet (tTup (tCons (tOp rDivI (tVar 0) (tVar 2)) (tCons (tOp rDivI (tVar 1) (tVar 2)) tNil)))))))
section
variable {K : PySem.W.Frag} {Ψ : PyData → Prop}
end
/-! ### what is reckoned of two -/
structure Wd4 (a b c d : Int) : Prop where
  a : a.natAbs < 2 ^ 3900
  b : b.natAbs < 2 ^ 3900
  c : c.natAbs < 2 ^ 3900
  d : d.natAbs < 2 ^ 3900
def T2 (P : Int → Int → Int → Int → Prop) (f : Int → Int → Int → Int → PyData) : List PyData → (PyData → Prop) → Prop := fun ds Φ => ∃ a b c d : Int, ds = [pr (a, b), pr (c, d)] ∧ Wd4 a b c d ∧ P a b c d ∧ Φ (f a b c d)
abbrev PBD : Int → Int → Int → Int → Prop := fun _ b _ d => b ≠ 0 ∧ d ≠ 0
abbrev TPlus := T2 PBD fun a b c d => pr (nrm (a * d + c * b) (b * d))
abbrev TLess := T2 PBD fun a b c d => pr (nrm (a * d - c * b) (b * d))
abbrev TTimes := T2 PBD fun a b c d => pr (nrm (a * c) (b * d))
abbrev TOver := T2 (fun _ b c _ => b ≠ 0 ∧ c ≠ 0) fun a b c d => pr (nrm (a * d) (b * c))
abbrev TUnder := T2 (fun _ _ _ _ => True) fun a b c d => .bool (decide (a * d < c * b))
def T1 (f : Int → Int → PyData) : List PyData → (PyData → Prop) → Prop := fun ds Φ => ∃ a b : Int, ds = [pr (a, b)] ∧ b ≠ 0 ∧ b.natAbs < 2 ^ 3900 ∧ Φ (f a b)
abbrev TFloor := T1 fun a b => .int (a.fdiv b)
abbrev TCeil := T1 fun a b => .int (-((-a).fdiv b))
def t_plus (K : PySem.W.Frag) : TS :=
  (tRet (tCall (spP K TPart) [] E0 (tCons (tOp rAddI (tOp rMulI (tOp (rIxT K) (tVar 0) (tC (.int 0))) (tOp (rIxT K) (tVar 1) (tC (.int 1)))) (tOp rMulI (tOp (rIxT K) (tVar 1) (tC (.int 0))) (tOp (rIxT K) (tVar 0) (tC (.int 1))))) (tCons (tOp rMulI (tOp (rIxT K) (tVar 0) (tC (.int 1))) (tOp (rIxT K) (tVar 1) (tC (.int 1)))) tNil))))
def t_less (K : PySem.W.Frag) : TS :=
  (tRet (tCall (spP K TPart) [] E0 (tCons (tOp rSubI (tOp rMulI (tOp (rIxT K) (tVar 0) (tC (.int 0))) (tOp (rIxT K) (tVar 1) (tC (.int 1)))) (tOp rMulI (tOp (rIxT K) (tVar 1) (tC (.int 0))) (tOp (rIxT K) (tVar 0) (tC (.int 1))))) (tCons (tOp rMulI (tOp (rIxT K) (tVar 0) (tC (.int 1))) (tOp (rIxT K) (tVar 1) (tC (.int 1)))) tNil))))
def t_times (K : PySem.W.Frag) : TS :=
  (tRet (tCall (spP K TPart) [] E0 (tCons (tOp rMulI (tOp (rIxT K) (tVar 0) (tC (.int 0))) (tOp (rIxT K) (tVar 1) (tC (.int 0)))) (tCons (tOp rMulI (tOp (rIxT K) (tVar 0) (tC (.int 1))) (tOp (rIxT K) (tVar 1) (tC (.int 1)))) tNil))))
def t_over (K : PySem.W.Frag) : TS :=
  (tRet (tCall (spP K TPart) [] E0 (tCons (tOp rMulI (tOp (rIxT K) (tVar 0) (tC (.int 0))) (tOp (rIxT K) (tVar 1) (tC (.int 1)))) (tCons (tOp rMulI (tOp (rIxT K) (tVar 0) (tC (.int 1))) (tOp (rIxT K) (tVar 1) (tC (.int 0)))) tNil))))
def t_is_less (K : PySem.W.Frag) : TS :=
  (tRet (tOp rLt (tOp rMulI (tOp (rIxT K) (tVar 0) (tC (.int 0))) (tOp (rIxT K) (tVar 1) (tC (.int 1)))) (tOp rMulI (tOp (rIxT K) (tVar 1) (tC (.int 0))) (tOp (rIxT K) (tVar 0) (tC (.int 1))))))
def t_floor (K : PySem.W.Frag) : TS :=
  (tRet (tOp rDivI (tOp (rIxT K) (tVar 0) (tC (.int 0))) (tOp (rIxT K) (tVar 0) (tC (.int 1)))))
def t_ceiling (K : PySem.W.Frag) : TS :=
  (tRet (tUn rNegI (tOp rDivI (tUn rNegI (tOp (rIxT K) (tVar 0) (tC (.int 0)))) (tOp (rIxT K) (tVar 0) (tC (.int 1))))))
section
variable {K : PySem.W.Frag} {ds : List PyData} {Φ : PyData → Prop}
end
end DL

set_option Elab.async false
set_option linter.all false
set_option maxRecDepth 100000
set_option maxHeartbeats 4000000
/-! DLR: how long the texts of data are -/
namespace DL
open PySem PySem.Spec PyProof.Rows L2
theorem textFrom_le : ∀ (ts : List Str) (k : Nat) (acc : Str), (textFrom k acc ts).length ≤ acc.length + piled ts
  | [], _, acc => Nat.le_add_right _ _
  | t :: r, k, acc => by
    have ih := textFrom_le r (k + 1) (acc ++ (if k > 0 then ", " else "" : String) ++ t)
    have e : (acc ++ (if k > 0 then ", " else "" : String) ++ t).length ≤ acc.length + 2 + t.length := by
      rw [strLen_append, strLen_append]
      have : ((Str.ofString (if k > 0 then ", " else "" : String))).length ≤ 2 := by split <;> decide
      omega
    rw [piled_cons]
    exact Nat.le_trans ih (by omega)
theorem piled_le {m : Nat} : ∀ ts : List Str, (∀ t ∈ ts, t.length ≤ m) → piled ts ≤ ts.length * (m + 2)
  | [], _ => by simp [piled]
  | t :: r, h => by
    rw [piled_cons, List.length_cons, Nat.succ_mul]
    have := h t (List.mem_cons_self ..)
    have := piled_le r fun t ht => h t (List.mem_cons_of_mem _ ht)
    omega
theorem shownAll_mem : ∀ (xs : List PyData) (t : Str), t ∈ PyData.shownAll xs → ∃ x ∈ xs, t = x.shown
  | [], t, h => by simp [PyData.shownAll] at h
  | x :: xs, t, h => by
    rcases List.mem_cons.mp (show t ∈ x.shown :: PyData.shownAll xs from h) with e | h
    · exact ⟨x, List.mem_cons_self .., e⟩
    · obtain ⟨y, hy, e⟩ := shownAll_mem xs t h
      exact ⟨y, List.mem_cons_of_mem _ hy, e⟩
theorem shownAll_len : ∀ xs : List PyData, (PyData.shownAll xs).length = xs.length
  | [] => rfl
  | x :: xs => by show (PyData.shownAll xs).length + 1 = _; rw [shownAll_len xs]; rfl
/-- what may be shown within a row -/
structure Rp (d : PyData) : Prop where
  s : d.showable = true
  h : d.hasDict = false
  l : d.shown.length ≤ 5000
  d : d.depth ≤ 10
theorem showableAll_of : ∀ xs : List PyData, (∀ x ∈ xs, x.showable = true) → PyData.showableAll xs = true
  | [], _ => rfl
  | x :: xs, h => by
    show (x.showable && PyData.showableAll xs) = true
    rw [h x (List.mem_cons_self ..), showableAll_of xs fun y hy => h y (List.mem_cons_of_mem _ hy)]; rfl
theorem hasDictAll_of : ∀ xs : List PyData, (∀ x ∈ xs, x.hasDict = false) → PyData.hasDictAll xs = false
  | [], _ => rfl
  | x :: xs, h => by
    show (x.hasDict || PyData.hasDictAll xs) = false
    rw [h x (List.mem_cons_self ..), hasDictAll_of xs fun y hy => h y (List.mem_cons_of_mem _ hy)]; rfl
theorem depthAll_of {n : Nat} : ∀ xs : List PyData, (∀ x ∈ xs, x.depth ≤ n) → PyData.depthAll xs ≤ n
  | [], _ => Nat.zero_le _
  | x :: xs, h => by
    show max x.depth (PyData.depthAll xs) ≤ n
    exact Nat.max_le.mpr ⟨h x (List.mem_cons_self ..), depthAll_of xs fun y hy => h y (List.mem_cons_of_mem _ hy)⟩
theorem listText_le {m n : Nat} {xs : List PyData} (h : ∀ x ∈ xs, x.shown.length ≤ m) (hn : xs.length ≤ n) : (PyData.list xs).shown.length ≤ 2 + n * (m + 2) := by
  show (textFrom 0 "[" (PyData.shownAll xs) ++ ("]" : String) : Str).length ≤ _
  rw [strLen_append]
  have h1 := textFrom_le (PyData.shownAll xs) 0 "["
  have h2 := piled_le (m := m) (PyData.shownAll xs) fun t ht => by
    obtain ⟨x, hx, rfl⟩ := shownAll_mem xs t ht
    exact h x hx
  rw [shownAll_len] at h2
  have h3 : xs.length * (m + 2) ≤ n * (m + 2) := Nat.mul_le_mul_right _ hn
  have e1 : (Str.ofString "[").length = 1 := by decide
  have e2 : (Str.ofString "]").length = 1 := by decide
  rw [e1] at h1
  rw [e2]
  omega
section
variable {K : PySem.W.Frag} {Ψ : PyData → Prop}
end
end DL

set_option Elab.async false
set_option linter.all false
set_option maxRecDepth 100000
set_option maxHeartbeats 4000000
namespace DL
open PySem PySem.Spec PyProof.Rows L2
local macro_rules | `(tactic| walk_at "dl") => `(tactic| repeat' (first
  | with_reducible refine wd_isTy ?_ | with_reducible refine wd_isi ?_ | with_reducible refine wd_op ?_ | ((with_reducible show WD _ _ (tCB (rLenX _) (tCons (tVar _) tNil)) _ _); refine wd_len_scr rfl ?_) | with_reducible refine wd_cb ?_ | with_reducible refine wd_un ?_ | with_reducible refine wa_cons ?_ | with_reducible refine wa_nil ?_ | ((with_reducible show WD _ _ (tVar _) _ _); refine wd_var rfl ?_) | with_reducible refine wd_int ?_ | with_reducible refine wd_bl ?_ | with_reducible refine wd_str ?_ | with_reducible refine wd_non ?_
  | with_reducible refine do_add ?_ | with_reducible refine do_sub ?_ | ((with_reducible refine do_mod ?_ ?_); decide) | with_reducible refine do_mod ?_ ?_ | with_reducible refine do_mul ?_ ?_ | ((with_reducible refine do_div ?_ ?_); exact ⟨by decide, by decide⟩) | with_reducible refine do_div ?_ ?_ | ((with_reducible refine do_pow ?_ ?_); exact ⟨by decide, by decide, by decide⟩) | with_reducible refine do_pow ?_ ?_
  | with_reducible refine do_lt ?_ | with_reducible refine do_le ?_ | with_reducible refine do_gt ?_ | with_reducible refine do_ge ?_ | with_reducible refine du_neg ?_
  | with_reducible refine do_eqi ?_ | with_reducible refine do_nei ?_ | with_reducible refine do_eqs ?_ | with_reducible refine do_nes ?_ | with_reducible refine dc_abs ?_ | with_reducible refine dc_min ?_ | with_reducible refine dc_max ?_ | with_reducible refine dc_lenL ?_ | with_reducible refine dc_lenT ?_ | with_reducible refine dc_gcd ?_
  | ((with_reducible show DO _ (rIxT _) _ _ _); refine do_ixT rfl ?_) | ((with_reducible show DO _ (rIxL _) _ _ _); refine do_ixL rfl ?_) | ((with_reducible refine do_catL ?_ ?_); exact Nat.le_of_ble_eq_true rfl) | with_reducible refine do_catL ?_ ?_ | ((with_reducible show And (List.length _ ≤ sizeLine) _); refine ⟨Nat.le_of_ble_eq_true rfl, ?_⟩)
  | with_reducible refine wd_dnew ?_ | with_reducible refine wd_call0 ?_ | with_reducible refine dc_str ?_ ?_ | with_reducible refine wd_tup ?_ | with_reducible refine wd_lst ?_ | with_reducible refine wt_test ?_ | with_reducible refine wt_B ?_ | with_reducible refine wt_not ?_ | with_reducible refine wt_and ?_ | with_reducible refine wt_or ?_ | with_reducible refine wd_ifE ?_ | with_reducible refine wd_andV ?_ | with_reducible refine wd_orV ?_ | with_reducible refine wd_notV ?_
  | with_reducible refine ws_seq ?_ | with_reducible refine ws_next ?_ | with_reducible refine ws_asg ?_ | with_reducible refine ws_ret ?_ | with_reducible refine ws_retN ?_ | with_reducible refine ws_if ?_ | with_reducible refine ws_par ?_ | with_reducible refine ws_unp2 ?_
  | with_reducible refine if_t ?_ | with_reducible refine if_f ?_ | with_reducible refine if_nf ?_ | with_reducible refine if_nt ?_
  | ((with_reducible show Exists _); first | refine ⟨_, kitInt _, ?_⟩ | refine ⟨_, kitBool _, ?_⟩ | refine ⟨_, kitTup _, ?_⟩ | refine ⟨_, kitList _, ?_⟩ | refine ⟨_, rfl, ?_⟩ | refine ⟨_, _, rfl, ?_⟩ | fail) | fail))
/-! ### a list so many times, locked or not -/
def rRepL : R2 := fun x y H Q => ∃ a k xs, x = .ref a ∧ y = .int k ∧ Rd H a (.lst xs) ∧ (-(2 ^ 63) ≤ k ∧ k < 2 ^ 63) ∧ xs.length * k.toNat ≤ sizeLine ∧ ∀ p, H p = none → Q (.ref p) (upd H p (.lst (List.replicate k.toNat xs).flatten))
end DL

set_option Elab.async false
set_option linter.all false
set_option maxRecDepth 100000
set_option maxHeartbeats 4000000
/-! DLX: what is refused, and caught -/
namespace DL
open PySem PySem.Spec PyProof.Rows L2
abbrev rNotNone : R2 := fun x y H Q => y = .non ∧ Q (.bl (!decide (x = .non))) H
abbrev rIsNone : R2 := fun x y H Q => y = .non ∧ Q (.bl (decide (x = .non))) H
/-- refused with the class at C, of nought beneath -/
def TPartX (C : Addr) : List PyData → (PyData → Prop) → (Addr → Prop) → Prop := fun ds _ Ψ => ∃ a : Int, ds = [.int a, .int 0] ∧ Ψ C
def TOverX (C : Addr) : List PyData → (PyData → Prop) → (Addr → Prop) → Prop := fun ds _ Ψ => ∃ a b d : Int, ds = [pr (a, b), pr (0, d)] ∧ Wd4 a b 0 d ∧ Ψ C
def t_partX (C : Addr) (E : XK) : TS := tSeq (tIfS (tTest (tOp rEq (tVar 1) (tC (.int 0)))) (fun _ σ H => E (.ref C) none H) tNext) tNo
def t_overX (K : PySem.W.Frag) (C : Addr) (E : XK) : TS :=
  (tRet (tCall (spX K (TPartX C)) [] E (tCons (tOp rMulI (tOp (rIxT K) (tVar 0) (tC (.int 0))) (tOp (rIxT K) (tVar 1) (tC (.int 1)))) (tCons (tOp rMulI (tOp (rIxT K) (tVar 0) (tC (.int 1))) (tOp (rIxT K) (tVar 1) (tC (.int 0)))) tNil))))
local macro_rules | `(tactic| walk_at "dl") => `(tactic| repeat' (first
  | with_reducible refine wd_isTy ?_ | with_reducible refine wd_isi ?_ | with_reducible refine wd_op ?_ | ((with_reducible show WD _ _ (tCB (rLenX _) (tCons (tVar _) tNil)) _ _); refine wd_len_scr rfl ?_) | with_reducible refine wd_cb ?_ | with_reducible refine wd_un ?_ | with_reducible refine wa_cons ?_ | with_reducible refine wa_nil ?_ | ((with_reducible show WD _ _ (tVar _) _ _); refine wd_var rfl ?_) | with_reducible refine wd_int ?_ | with_reducible refine wd_bl ?_ | with_reducible refine wd_str ?_ | with_reducible refine wd_non ?_
  | with_reducible refine do_add ?_ | with_reducible refine do_sub ?_ | ((with_reducible refine do_mod ?_ ?_); decide) | with_reducible refine do_mod ?_ ?_ | with_reducible refine do_mul ?_ ?_ | ((with_reducible refine do_div ?_ ?_); exact ⟨by decide, by decide⟩) | with_reducible refine do_div ?_ ?_ | ((with_reducible refine do_pow ?_ ?_); exact ⟨by decide, by decide, by decide⟩) | with_reducible refine do_pow ?_ ?_
  | with_reducible refine do_lt ?_ | with_reducible refine do_le ?_ | with_reducible refine do_gt ?_ | with_reducible refine do_ge ?_ | with_reducible refine du_neg ?_
  | with_reducible refine do_eqi ?_ | with_reducible refine do_nei ?_ | with_reducible refine do_eqs ?_ | with_reducible refine do_nes ?_ | with_reducible refine dc_abs ?_ | with_reducible refine dc_min ?_ | with_reducible refine dc_max ?_ | with_reducible refine dc_lenL ?_ | with_reducible refine dc_lenT ?_ | with_reducible refine dc_gcd ?_
  | ((with_reducible show DO _ (rIxT _) _ _ _); refine do_ixT rfl ?_) | ((with_reducible show DO _ (rIxL _) _ _ _); refine do_ixL rfl ?_) | ((with_reducible refine do_catL ?_ ?_); exact Nat.le_of_ble_eq_true rfl) | with_reducible refine do_catL ?_ ?_ | ((with_reducible show And (List.length _ ≤ sizeLine) _); refine ⟨Nat.le_of_ble_eq_true rfl, ?_⟩)
  | with_reducible refine wd_dnew ?_ | with_reducible refine wd_call0 ?_ | with_reducible refine dc_str ?_ ?_ | with_reducible refine wd_tup ?_ | with_reducible refine wd_lst ?_ | with_reducible refine wt_test ?_ | with_reducible refine wt_B ?_ | with_reducible refine wt_not ?_ | with_reducible refine wt_and ?_ | with_reducible refine wt_or ?_ | with_reducible refine wd_ifE ?_ | with_reducible refine wd_andV ?_ | with_reducible refine wd_orV ?_ | with_reducible refine wd_notV ?_
  | with_reducible refine ws_seq ?_ | with_reducible refine ws_next ?_ | with_reducible refine ws_asg ?_ | with_reducible refine ws_ret ?_ | with_reducible refine ws_retN ?_ | with_reducible refine ws_if ?_ | with_reducible refine ws_par ?_ | with_reducible refine ws_unp2 ?_
  | with_reducible refine if_t ?_ | with_reducible refine if_f ?_ | with_reducible refine if_nf ?_ | with_reducible refine if_nt ?_
  | ((with_reducible show Exists _); first | refine ⟨_, kitInt _, ?_⟩ | refine ⟨_, kitBool _, ?_⟩ | refine ⟨_, kitTup _, ?_⟩ | refine ⟨_, kitList _, ?_⟩ | refine ⟨_, rfl, ?_⟩ | refine ⟨_, _, rfl, ?_⟩ | fail) | fail))
/-! ### the two ways of the judge of quotients -/
structure Gd (e : Nat) (a b : Int) : Prop where
  p : 1 ≤ b
  b : b.natAbs < 2 ^ e
  a : a.natAbs < 2 ^ e
def TRight2 : List PyData → (PyData → Prop) → Prop := fun ds Φ => ∃ a b c d : Int, ds = [pr (a, b), pr (c, d)] ∧ Gd 1500 a b ∧ Gd 1500 c d ∧ Φ (.bool true)
def TRight1 : List PyData → (PyData → Prop) → Prop := fun ds Φ => ∃ a b : Int, ds = [pr (a, b)] ∧ Gd 1500 a b ∧ Φ (.bool true)
def ts_or (a : Addr) (_ : Value) (_ : Option Addr) : TS := tAsg (tVar 4) (gName 2)
def tb_or (K : PySem.W.Frag) (C : Addr) (W : WX) : TS := tAsg (tLst (tCons (tCallS (spX K (TOverX C)) (WE W) (tCons (tVar 0) (tCons (tVar 1) tNil))) (tCons tNoE tNil))) (gName 3)
def t_orZ (K : PySem.W.Frag) (C : Addr) : TS :=
  (tSeq (tAsg (tC .non) (gName 2))
    (tSeq (tAsg (tC .non) (gName 3))
    (tSeq (fun D σ H => tb_or K C (wAs K (.ref C) 4 ts_or (fun _ _ _ _ => False) D) D σ H)
    (tSeq (tIfS (tTest (tOp rEq (tOp (rIxT K) (tVar 1) (tC (.int 0))) (tC (.int 0)))) (tRet (tOp rNotNone (tVar 2) (tC .non))) tNext)
    tNo))))
end DL

set_option Elab.async false
set_option linter.all false
set_option maxRecDepth 100000
set_option maxHeartbeats 4000000
namespace DL
open PySem PySem.Spec PyProof.Rows L2
/-! ### the head: facts of one's own, too -/
def obsX (n : Nat) (fa : List He.Fa) (fn : List He.DefD) (ex : PySem.W.Frag → Bool) (g : Addr → Option Obj) : AlG := (He.obsDG n fa fn g, ex (He.frG g (He.asD g n)))
def hookX (n : Nat) (fa : List He.Fa) (fn : List He.DefD) (ex : PySem.W.Frag → Bool) : PySem.W.Hook where
  α := AlG
  obs := fun s => obsX n fa fn ex s.heap.get?
  val := fun _ => (He.valD fn, true)
  says := fun _ h => ∃ K : PySem.W.Frag, K.In h ∧ He.SaysD fa fn K ∧ ex K = true
  of := fun _ _ e => ⟨_, He.frG_in, congrArg Prod.fst e, congrArg Prod.snd e⟩
  keeps := fun _ _ _ ⟨K, hK, c⟩ k => ⟨K, PySem.W.Frag.In.keeps hK k, c⟩
/-- a class of one's own right under ZeroDivisionError -/
abbrev zdBase : List Value := [.type "ZeroDivisionError", .type "ArithmeticError", .type "Exception", .type "BaseException", .type "object"]
structure ExcZ (K : PySem.W.Frag) (C : Addr) : Prop where
  q : PySem.W.excIn K C zdBase "ZeroDivisionError.__new__" = true
  k : PySem.W.keepIn K (.ref C) = true
  s : PySem.W.subIn K (.ref C) (.type "BaseException") = some true
  t : PySem.W.typeIn K (.ref C) = some (.type "type")
  m : PySem.W.exmOne K (.ref C) (.ref C) = some true
def excZB (K : PySem.W.Frag) (C : Addr) : Bool := PySem.W.excIn K C zdBase "ZeroDivisionError.__new__" && (PySem.W.keepIn K (.ref C) && (decide (PySem.W.subIn K (.ref C) (.type "BaseException") = some true) &&
  (decide (PySem.W.typeIn K (.ref C) = some (.type "type")) && decide (PySem.W.exmOne K (.ref C) (.ref C) = some true))))
theorem excZ_ok {K : PySem.W.Frag} {C : Addr} (h : excZB K C = true) : ExcZ K C := by
  obtain ⟨c1, h⟩ := He.ba h
  obtain ⟨c2, h⟩ := He.ba h
  obtain ⟨c3, h⟩ := He.ba h
  obtain ⟨c4, c5⟩ := He.ba h
  exact ⟨c1, c2, of_decide_eq_true c3, of_decide_eq_true c4, of_decide_eq_true c5⟩
/-- a call that may be refused, in a try -/
theorem pe_hasS {X : Cx} {CX : CXT} {k : Nat} {ps : List Str} {sp : Sp} {E : L2.St → XK} {x : Str} {p pos : Pos} {e : Expr} {es : List Expr} {t : TA} (h : Has X.prog X.w X.K X.mg X.base CX x k ps sp []) (hr : Room k X.A) (hx : ∀ σ, PassesAt CX X σ (E σ)) (ha : PA X (e :: es) t) (hg : Gl X x := by rfl) (hdb : (x == ("__debug__" : Str)) = false := by decide)
    (he : starEach (e :: es) X.env = (false, eval e X.env) :: starEach es X.env := by rfl) (hpl : (backTo pos (starEach es X.env)).any (·.1) = false := by rfl) : PE X (.Call (.Name x p) (e :: es) [] pos) (tCallS sp E t) := by
  obtain ⟨f, fd, ds, F, hm, hk, hb, hd⟩ := h.ex
  cases hd
  exact pe_callS F hr hg hm hk hb hx ha hdb he hpl
theorem hasC_of {P : Program} {w : World} {K : PySem.W.Frag} {mg : Str → Option Value} {base : Heap} {CX : CXT} {x : Str} {k : Nat} {ps : List Str} {sp : Sp} {f : Addr} {fd : FuncData} (F : FnOk P w K mg base CX k f fd ps sp) (hm : mg x = some (.ref f)) (hk : PySem.W.keepIn K (.ref f) = true) (hb : Binds K fd ps []) : Has P w K mg base CX x k ps sp [] := ⟨f, fd, [], F, hm, hk, hb, .nil⟩
def TRightN : List PyData → (PyData → Prop) → Prop := fun ds Φ => ∃ a b c d : Int, ds = [pr (a, b), pr (c, d)] ∧ Gd 1500 a b ∧ Gd 1500 c d ∧ c ≠ 0 ∧ Φ (.bool true)
end DL

set_option Elab.async false
set_option linter.all false
set_option maxRecDepth 100000
set_option maxHeartbeats 4000000
/-! DLE: a caught error that is looked at behind its suite -/
namespace DL
open PySem PySem.Spec PyProof.Rows L2
/-- what is known of an error: its class, no dict -/
def excAt (a : Addr) (cls : Value) : Heap → Prop := fun h => ∃ oe vs, h.get? a = some oe ∧ Zc cls none oe ∧ oe.data = .fields vs
section
variable {X : Cx} {pins : List (Addr × Obj)} {σ : L2.St} {H : Hp} {s sI : Shared}
end
/-- the clause 'except x as n' that takes what comes, and after whose suite the error is still known -/
def wKeep (K : PySem.W.Frag) (c : Value) (i : Nat) (ts : Addr → TS) (D : Ends) : WX := fun cls d σ H =>
  d = none ∧ PySem.W.exmOne K cls c = some true ∧ ∀ a, H a = none →
    ts a { nx := fun σ2 H2 => D.nx (σ2.set i none) (upd H2 a (.ext (excAt a cls))), rt := fun _ _ => False } (σ.set i (some (.ref a))) H
section
variable {X : Cx} {x n : Str} {c : Value} {i : Nat} {body suite : List Stmt} {st : Stmt} {np pos hpos : Pos} {tb : WX → TS} {ts : Addr → TS}
end
end DL

set_option Elab.async false
set_option linter.all false
set_option maxRecDepth 100000
set_option maxHeartbeats 4000000
/-! ER1: errors of one's own classes over any of Python's, with an __init__ of their own -/
namespace DL
open PySem PySem.Spec PySem.Calls PySem.HandSPX PyProof.Rows L2
open Builtin Builtin.ObjectAttr
/-- what is known of a built-in __init__ of errors -/
structure IniF (B ini : String) : Prop where
  slot : Slot B "__init__" ini
  entry : entryFor table ini = some Builtin.«BaseException.__init__»
  split : splitId ini = some (B, "__init__")
  kind : builtinKind ini = some .slot
  row : Manifest.signature? ini = some ⟨.positional, "*", B, .self, [⟨"args", .varPos, false⟩]⟩
  star : (B != "*") = true
theorem iniF_of {B n i : String} {l : List Value} (F : ExcBaseFacts B n i l) : IniF B i := ⟨F.init, F.initEntry, F.initSplit, F.initKind, F.initRow, F.noStar⟩
theorem iniF_cls {B n i : String} (F : ExcClass B n i) : IniF B i := ⟨F.init, F.initEntry, F.initSplit, F.initKind, F.initSig, F.notStar⟩
/-- the classes above -/
structure Abv (up : List Value) (N B : String) : Prop where
  n : up.contains (.type N) = true
  b : up.contains (.type B) = true
  a : up.contains (.type "AttributeError") = false
  m : up.contains (.type "NameError") = false
section
variable {M : Model} {A : Around} {E : Value → Shared → Prop} {h : Heap} {g : Array GenState} {dr : Drawn} {t : Nat} {os : OsState}
variable {nm qn : Str} {C Ns : Addr} {bs up l : List Value} {hd : Bool} {sn : List Str} {sb : List Value} {ab : Bool} {co : Option Bool} {dd : Option Addr} {k0 k1 k2 k3 k5 : Option Value} {N B new i ini : String}
theorem newOk (G : ExcBaseFacts N new i l) (u : Abv up N B) {us : List Value} {Q : Unit → Shared → Prop} (hc : h.get? C = some (excClassObj nm qn C Ns bs up hd sn sb ab co dd k0 k1 k2 k3 k5 new))
    (q : Q () ⟨h, g, dr, t, os⟩) : wpAny M A (checkBuiltinCall new ⟨.ref C :: us, []⟩) Q E ⟨h, g, dr, t, os⟩ := by
  have c1 : (Value.ref C :: up).contains (.type N) = true := by rw [List.contains_cons, u.n, Bool.or_true]
  have c2 := G.noStar
  simp only [checkBuiltinCall, G.newKind, G.newSplit, G.newRow]
  repeat (first
    | refine wpAny_loadPart_at hc ?_
    | (refine wpAny_isSubtype_exc hc ?_; rw [c1])
    | refine wpAny_staticBase_exc hc ?_
    | refine wpAny_madeBy_exc hc ?_
    | simp only [bne_self_eq_false, Bool.false_eq_true, if_false]
    | wp_step)
  exact q
theorem iniOk (G : IniF B ini) (u : Abv up N B) {e : Addr} {oe : Obj} {us : List Value} {Q : Unit → Shared → Prop} (hc : h.get? C = some (excClassObj nm qn C Ns bs up hd sn sb ab co dd k0 k1 k2 k3 k5 new))
    (he : h.get? e = some oe) (hcl : oe.cls = .ref C) (q : Q () ⟨h, g, dr, t, os⟩) : wpAny M A (checkBuiltinCall ini ⟨.ref e :: us, []⟩) Q E ⟨h, g, dr, t, os⟩ := by
  have c1 : (Value.ref C :: up).contains (.type B) = true := by rw [List.contains_cons, u.b, Bool.or_true]
  have c2 := G.star
  simp only [checkBuiltinCall, G.kind, G.split, G.row]
  repeat (first
    | (with_reducible refine wpAny_loadPart_at he ?_; rw [hcl])
    | with_reducible refine wpAny_loadPart_at hc ?_
    | (with_reducible refine wpAny_isSubtype_exc hc ?_; rw [c1])
    | wp_step)
  refine wpAny_onRaise ?_
  have cs : ∀ (x y : String) (n : Nat), Bind.check ⟨.positional, "*", B, .self, [⟨"args", .varPos, false⟩]⟩ x y n (List.map (·.fst) ({ pos := Value.ref e :: us } : Args).kw) = pure () := fun x y n => check_star_args _ _ _ _ _ _
  rw [cs]
  exact wpAny_pure q
end
section
variable {prog : Program} {w : World} {A : Around} {E : Value → Shared → Prop} {R : Result → Shared → Prop} {h : Heap} {g : Array GenState} {dr : Drawn} {t : Nat} {os : OsState}
variable {nm qn : Str} {C Ns : Addr} {bs up l : List Value} {hd : Bool} {sn : List Str} {sb : List Value} {ab : Bool} {co : Option Bool} {dd : Option Addr} {k0 k1 k2 k3 k5 : Option Value} {N B new i ini : String}
theorem newRun (G : ExcBaseFacts N new i l) (u : Abv up N B) {us : List Value} (hc : h.get? C = some (excClassObj nm qn C Ns bs up hd sn sb ab co dd k0 k1 k2 k3 k5 new)) (hus : us.length ≤ sizeLine)
    (q : R (.ok (.ret (.ref (h.objs.size + 1)))) ⟨(h.push (PySem.W.kdv_tup us)).push (excO C h.objs.size), g, dr, t, os⟩) : codeAny (model prog w) A (.builtin new ⟨.ref C :: us, []⟩) R ⟨h, g, dr, t, os⟩ := by
  have e1 := G.ends
  have c1 : (Value.ref C :: up).contains (.type N) = true := by rw [List.contains_cons, u.n, Bool.or_true]
  have c2 : (Value.ref C :: up).contains (.type "AttributeError") = false := by rw [List.contains_cons, u.a]; rfl
  have c3 : (Value.ref C :: up).contains (.type "NameError") = false := by rw [List.contains_cons, u.m]; rfl
  refine codeAny_builtinAt G.entry ?_
  unfold Builtin.«BaseException.__new__»
  refine PySem.wpAt_bind ?_
  show PySem.wpAt _ _ _ (stack >>= _) _ _ _
  refine PySem.wpAt_bind (PySem.wpAt_stack fun _ _ => PySem.wpAt_of_wpAny ?_)
  wp_walk
  refine PySem.wpAt_of_wpAny ?_
  rw [G.owner]
  repeat (first
    | with_reducible refine wpAny_madeHere_exc G.canon hc ?_
    | with_reducible refine wpAny_loadPart_at hc ?_
    | (with_reducible refine wpAny_isSubtype_exc hc ?_; first | rw [c1] | rw [c2] | rw [c3])
    | wp_step)
  show R _ _
  rw [Heap.size_push]
  exact q
theorem tcRun (G : ExcBaseFacts N new i l) (u : Abv up N B) {us : List Value} {fI : Addr} {Q : Fin → Shared → Prop} (hc : h.get? C = some (excClassObj nm qn C Ns bs up hd sn sb ab co dd k0 k1 k2 k3 k5 new))
    (hi : PySem.W.Looks (model prog w) h (typeLookup (.ref C) "__init__") (some (.ref fI))) (hb : ∀ x, PySem.W.Looks (model prog w) h (bindSpecial (.ref fI) x) (.ref fI, [x])) (hus : us.length ≤ sizeLine)
    (q : codeAny (model prog w) A (.call (.ref fI) ⟨.ref (h.objs.size + 1) :: us, []⟩)
      (fun r s1 => match r with | .ok (.ret v) => v = .none ∧ Q (.done (.ret (.ref (h.objs.size + 1)))) s1 | .ok _ => False | .error e => E e s1) ⟨(h.push (PySem.W.kdv_tup us)).push (excO C h.objs.size), g, dr, t, os⟩) :
    wpAny (model prog w) A (Builtin.«type.__call__» ⟨.ref C :: us, []⟩) Q E ⟨h, g, dr, t, os⟩ := by
  repeat (first
    | with_reducible refine wpAny_loadPart_at hc ?_
    | with_reducible refine wpAny_madeBy_exc hc ?_
    | wp_step)
  refine codeAny_call_builtin_code (Code.quiet_builtin _ G.quiet) (newOk G u hc ?_)
  refine newRun G u hc hus ?_
  show wpAny _ _ _ _ _ _
  have k : ∀ b o, h.get? b = some o → ((h.push (PySem.W.kdv_tup us)).push (excO C h.objs.size)).get? b = some o := fun b o e => Heap.get?_push_of_some _ (Heap.get?_push_of_some _ e)
  have hc2 := k _ _ hc
  have hx : ((h.push (PySem.W.kdv_tup us)).push (excO C h.objs.size)).get? (h.objs.size + 1) = some (excO C h.objs.size) := by heap_get
  have cC : (Value.ref C :: up).contains (.ref C) = true := by simp
  have i1 := hi.keeps k
  have b1 := (hb (.ref (h.objs.size + 1))).keeps k
  unfold isInstance
  repeat (first
    | with_reducible refine wpAny_loadPart_at hx ?_
    | (with_reducible refine wpAny_isSubtype_exc hc2 ?_; rw [cC])
    | wp_step)
  show wpAny _ _ (typeLookup (.ref C) _) _ _ _
  refine i1.at ?_
  refine wpAny_holding (wpAny_bind (b1.at ?_))
  refine wpAny_bind (wpAny_call (codeAny_mono q fun r s1 z => ?_))
  rcases r with e | (v | _ | _ | _) <;> first | exact z | exact z.elim | skip
  obtain ⟨rfl, z⟩ := z
  first
    | exact wpAny_pure (wpAny_pure z)
    | (wp_walk; exact z)
/-- C(..), C's own __init__ -/
theorem callRun (G : ExcBaseFacts N new i l) (u : Abv up N B) {us : List Value} {fI : Addr} (hc : h.get? C = some (excClassObj nm qn C Ns bs up hd sn sb ab co dd k0 k1 k2 k3 k5 new))
    (hi : PySem.W.Looks (model prog w) h (typeLookup (.ref C) "__init__") (some (.ref fI))) (hb : ∀ x, PySem.W.Looks (model prog w) h (bindSpecial (.ref fI) x) (.ref fI, [x])) (hus : us.length ≤ sizeLine)
    (q : codeAny (model prog w) (A.under (.builtin "type.__call__" ⟨.ref C :: us, []⟩)) (.call (.ref fI) ⟨.ref (h.objs.size + 1) :: us, []⟩) (PySem.W.InitBack (h.objs.size + 1) R) ⟨(h.push (PySem.W.kdv_tup us)).push (excO C h.objs.size), g, dr, t, os⟩) :
    codeAny (model prog w) A (.call (.ref C) ⟨us, []⟩) R ⟨h, g, dr, t, os⟩ := by
  have f1 := tc_lookup
  have f2 := tc_bind (.ref C)
  have hty : (⟨h, g, dr, t, os⟩ : Shared).TypeIs (.ref C) "type" := ⟨_, hc, rfl⟩
  refine codeAny_of_tree ?_
  show wpAny _ _ (callAny (.ref C) _) _ _ _
  repeat (any_goals (first
    | assumption
    | with_reducible refine wpAny_loadPart_at hc ?_
    | wp_step))
  refine ⟨rfl, ?_⟩
  refine codeAny_call_builtin_at (Code.quiet_builtin _ (by decide +kernel)) entry_typeCall (wpAny_check_type_call_sub hc (tcRun G u hc hi hb hus ?_))
  refine codeAny_mono q fun r s1 z => ?_
  rcases r with e | (v | _ | _ | _) <;> exact z
/-- B.__init__(e, ..) -/
theorem iniRun (G : IniF B ini) (u : Abv up N B) {e t0 : Addr} {us : List Value} (hc : h.get? C = some (excClassObj nm qn C Ns bs up hd sn sb ab co dd k0 k1 k2 k3 k5 new)) (he : h.get? e = some (excO C t0)) (hus : us.length ≤ sizeLine)
    (q : ∀ h1 t1, (∀ b o, b ≠ e → h.get? b = some o → h1.get? b = some o) → h1.get? e = some (excO C t1) → R (.ok (.ret .none)) ⟨h1, g, dr, t, os⟩) :
    codeAny (model prog w) A (.call (.builtin ini) ⟨.ref e :: us, []⟩) R ⟨h, g, dr, t, os⟩ := by
  refine codeAny_call_builtin G.slot.plain G.entry (iniOk G u hc he rfl ?_)
  wp_walk
  refine q _ h.objs.size (fun b o hb ho => ?_) ?_
  · rw [Heap.get?_update_other _ _ (Ne.symm hb)]
    exact Heap.get?_push_of_some _ ho
  · rw [Heap.get?_update_self _ (Heap.get?_push_of_some _ he) rfl]
    rfl
end
end DL

set_option Elab.async false
set_option linter.all false
set_option maxRecDepth 100000
set_option maxHeartbeats 4000000
/-! ER2: an error's first field; making it; raising it -/
namespace DL
open PySem PySem.Spec PySem.Calls PySem.HandSPX PyProof.Rows L2
open Builtin Builtin.ObjectAttr
section
variable {prog : Program} {w : World} {A : Around} {R : Result → Shared → Prop} {hp : Heap} {g : Array GenState} {dr : Drawn} {t : Nat} {os : OsState}
/-- object.__setattr__ of an error without a dict, of a class over anything that lets it by -/
theorem osaRun {K : PySem.W.Frag} {f : Str} {tk : Tok} {v : Value} {x C : Addr} {fv : Array Value} {cd : ClassData} (kin : K.In hp) (ho : hp.get? x = some { cls := .ref C, data := .fields fv }) (hcd : PySem.W.clsIn K C = some cd)
    (ps : ∀ z, refuseLoop z "__setattr__" cd.mro = pure ()) (ob : cd.mro.contains (.type "object") = true) (ne : cd.mro.isEmpty = false) (hh : cd.hasDict = true) (hf : PySem.W.findIn K (.ref C) f = some none)
    (q : ∀ h1 t1 dx, (∀ b o, b ≠ x → hp.get? b = some o → h1.get? b = some o) → hp.objs.size ≤ dx → dx ≠ x → h1.get? x = some { cls := .ref C, dict := some dx, data := .fields fv } →
      h1.Ns1 dx (fun y => if y = f then some v else none) → R (.ok (.ret .none)) ⟨h1, g, dr, t1, os⟩) :
    codeAny (model prog w) A (.call (.builtin "object.__setattr__") ⟨[.ref x, .str f tk, v], []⟩) R ⟨hp, g, dr, t, os⟩ := by
  have at0 : PySem.W.InstAt hp x { cls := .ref C, data := .fields fv } C none := ⟨ho, rfl, rfl, trivial⟩
  have SO := F.store_object
  have xn : x ≠ hp.objs.size := Nat.ne_of_lt (Heap.lt_size ho)
  have mo : PySem.W.mroIn K C (.type "object") = some true := by unfold PySem.W.mroIn; rw [hcd, Option.bind_some, if_neg (by rw [ne]; decide), ob]
  have s0 : PySem.W.Looks (model prog w) hp (isInstance (.ref x) (.type "object")) true := at0.type.andThen (PySem.W.looks_mroIn kin mo)
  refine codeAny_call_builtin SO.slot.plain SO.entry (@PySem.W.check_slot (model prog w) _ _ ⟨hp, g, dr, t, os⟩ "object.__setattr__" "object" "__setattr__" (.ref x) [.str f tk, v] [] _ SO.kind SO.split s0 (SO.args (.ref x) (.str f tk) v) ?_)
  have l1 : PySem.W.Looks (model prog w) hp (mroOf (.ref C)) cd.mro := (PySem.W.looks_clsIn kin hcd).andThen .now
  have l2 : PySem.W.Looks (model prog w) hp (storeTaker? none) none := .now
  have l3 : PySem.W.Looks (model prog w) hp (classData C) cd := PySem.W.looks_clsIn kin hcd
  rw [PySem.W.osa_eq, refuse_eq]
  refine wpAny_bind (wpAny_bind (at0.type.at (wpAny_bind (l1.at ?_))))
  rw [ps]
  refine wpAny_pure (wpAny_bind (at0.type.at (wpAny_bind ((PySem.W.looks_findIn kin hf).at (wpAny_bind (l2.at ?_))))))
  show wpAny _ _ (storeInOwnDict (.ref x) (.ref C) (.str f tk) f v false) _ _ _
  obtain ⟨c1, c2, c3, c4, c5, hd, c6, c7, c8, c9, c10⟩ := cd
  dsimp only at hh
  subst hh
  unfold storeInOwnDict ownDictForStores
  repeat (first
    | with_reducible refine store_in_new ?_ ?_
    | with_reducible refine wpAny_loadPart_at ho ?_
    | with_reducible refine l3.at ?_
    | wp_step)
  · exact ⟨_, #[], _, (Heap.get?_update_ne _ _ _ _ xn.symm).trans (Heap.get?_push_at rfl rfl), rfl, fun e he => absurd he (by simp), fun _ => rfl⟩
  · intro h1 t1 n1 sb
    have ho1 : (hp.push { cls := .type "dict", data := .dict #[] }).get? x = some { cls := .ref C, data := .fields fv } := Heap.get?_push_of_some _ ho
    refine q h1 t1 hp.objs.size (fun b o hb hbo => ?_) (Nat.le_refl _) xn.symm ?_ n1
    · exact (sb.2 b (Nat.ne_of_lt (Heap.lt_size hbo))).trans ((Heap.get?_update_ne _ _ _ _ hb).trans (Heap.get?_push_of_some _ hbo))
    · exact (sb.2 x xn).trans (Heap.get?_update_self _ ho1 rfl)
end
/-- a class of errors of one's own with an __init__: what lies above it, who makes, who begins -/
structure OwnE (K : PySem.W.Frag) (C : Addr) (N B new ini : String) (i : String) (l : List Value) : Prop where
  G : ExcBaseFacts N new i l
  J : IniF B ini
  cls : ∃ nm qn Ns bs up sn sb ab co dd k0 k1 k2 k3 k5, K.lookup C = some (excClassObj nm qn C Ns bs up true sn sb ab co dd k0 k1 k2 k3 k5 new) ∧ Abv up N B ∧ up.contains (.type "object") = true ∧ ∀ z, refuseLoop z "__setattr__" (.ref C :: up) = pure ()
  sa : PySem.W.findIn K (.ref C) "__setattr__" = some (some (.builtin "object.__setattr__"))
  ex : PySem.W.subIn K (.ref C) (.type "BaseException") = some true
  ty : PySem.W.typeIn K (.ref C) = some (.type "type")
  kp : PySem.W.keepIn K (.ref C) = true
section
variable {X : Cx} {pins : List (Addr × Obj)} {σ : L2.St} {H : Hp} {s : Shared} {a C dx : Addr} {f : Str} {y : V} {u : Value} {N B new ini i : String} {l : List Value}
/-- self.f = y of an error that has no dict yet -/
theorem stoE {Q : Unit → Shared → Prop} {E : Value → Shared → Prop} {A : Around} (T : OwnE X.K C N B new ini i l) (I : L2.Inv X pins σ H s) (e : H a = some (exo a C none)) (hno : PySem.W.findIn X.K (.ref C) f = some none) (ry : RelV y u)
    (h : ∀ dx s1, H dx = none → dx ≠ a → L2.Inv X pins σ (upd (upd H dx (exd dx [(f, y)])) a (exo a C (some dx))) s1 → Q () s1) : wpAny (model X.prog X.w) A (setAttr (.ref a) f u) Q E s := by
  obtain ⟨nm, qn, Ns, bs, up, sn, sb, ab, co, dd, k0, k1, k2, k3, k5, hC, ha, hob, hps⟩ := T.cls
  have hcl : PySem.W.clsIn X.K C = some { name := nm, bases := bs, mro := .ref C :: up, ns := Ns, qualname := qn, hasDict := true, slotNames := sn, subclasses := sb, abstract := ab, collection := co, hasDel := false } := by
    unfold PySem.W.clsIn; rw [hC] <;> rfl
  obtain ⟨t1, ho⟩ := exo_at I.hok e
  obtain ⟨hp, g, dr, t, os⟩ := s
  refine PySem.W.set_plain I.kIn (ox := { cls := .ref C, dict := none, data := .fields #[.ref t1, .none, .none, .none, .bool false, .none] }) (od := none) ⟨ho, rfl, rfl, trivial⟩ T.sa ?_
  refine osaRun I.kIn ho hcl hps (by rw [List.contains_cons, hob, Bool.or_true]) rfl rfl hno (fun h1 tk1 dx k dn dne hx hn => ?_)
  have hnd : H dx = none := I.hok.fresh dn
  have nd : ∀ {b : Addr} {o : Obj}, hp.get? b = some o → b ≠ dx := fun {b o} q => Nat.ne_of_lt (Nat.lt_of_lt_of_le (Heap.lt_size q) dn)
  have na : ∀ {b : Addr}, H b = none → b ≠ a := fun {b} n z => by
    rw [z, e] at n
    cases n
  have U : Un X.fs [] H (upd (upd H dx (exd dx [(f, y)])) a (exo a C (some dx))) hp h1 :=
    ⟨fun b o q n _ _ => k b o (na n) q, fun b o q n _ _ => ⟨o.slots, k b o (na n) q⟩, fun b o q n _ => by rw [upd_ne (na n), upd_ne (nd q)]; exact n,
      fun b o q _ => by
        by_cases hb : b = a
        · exact ⟨_, by rw [hb]; exact hx⟩
        · exact ⟨o, k b o hb q⟩,
      fun b xs q => by rw [upd_ne (at_ne e q exo_tup), upd_ne (ne_of_none q hnd)]; exact q,
      fun b o v q => by rw [upd_ne (at_ne e q exo_frz), upd_ne (ne_of_none q hnd)]; exact q,
      fun b ps q => ⟨#[], by rw [upd_ne (at_ne e q exo_tbl), upd_ne (ne_of_none q hnd), q]; simp⟩⟩
  refine h dx _ hnd dne (I.un (t' := tk1) U fun b o q => ?_)
  by_cases hb : b = a
  · subst hb
    rw [upd_same] at q
    cases q
    exact exo_ok hx
  rw [upd_ne hb] at q
  by_cases hd : b = dx
  · subst hd
    rw [upd_same] at q
    cases q
    exact exd_ok hn (relO_put (fs := []) ry fun g => True.intro)
  rw [upd_ne hd] at q
  refine (I.hok b o q).stay (fun c v hc z => k c v ?_ z) (fun c hc => ?_) (fun c xs hc => ?_)
  · rcases hc with hc | hc
    · rw [hc]; exact hb
    · exact at_ne e hc exo_own
  · rw [upd_ne (at_ne e hc exo_own), upd_ne (ne_of_none hc hnd)]; exact hc
  · rw [upd_ne (at_ne e hc exo_tup), upd_ne (ne_of_none hc hnd)]; exact hc
/-- B.__init__(self, ..): nothing of it is told -/
theorem iniE {us : List Value} {Q : Value → Shared → Prop} (T : OwnE X.K C N B new ini i l) (I : L2.Inv X pins σ H s) (e : H a = some (exo a C none)) (hl : us.length ≤ sizeLine) (h : ∀ s1, L2.Inv X pins σ H s1 → Q .none s1) :
    wpAny (model X.prog X.w) X.A (call (.builtin ini) (.ref a :: us)) Q X.xe s := by
  obtain ⟨nm, qn, Ns, bs, up, sn, sb, ab, co, dd, k0, k1, k2, k3, k5, hC, ha, hob, hps⟩ := T.cls
  obtain ⟨t1, ho⟩ := exo_at I.hok e
  obtain ⟨hp, g, dr, t, os⟩ := s
  refine wpAny_call (iniRun T.J ha (I.kIn _ _ hC) ho hl fun h1 t2 k hx => ?_)
  have J := I.write (t' := t) (x := a) (e := a) (o := exo a C none) (by rw [e]; exact True.intro) (.inl rfl) k ⟨_, hx⟩ (exo_ok hx)
  have same : upd H a (exo a C none) = H := by
    funext b
    by_cases hb : b = a
    · rw [hb, upd_same, e]
    · rw [upd_ne hb]
  rw [same] at J
  exact h _ J
end
/-- self.f = e, the one field -/
def tStoE (K : PySem.W.Frag) (ok : Addr → Prop) (f : Str) (to te : TE) : TS := fun D σ H => te σ H fun y H1 => to σ H1 fun x H2 => ∃ a C : Addr, x = .ref a ∧ ok C ∧ H2 a = some (exo a C none) ∧
  ∀ dx, H2 dx = none → dx ≠ a → D.nx σ (upd (upd H2 dx (exd dx [(f, y)])) a (exo a C (some dx)))
/-- B.__init__(self, ..) -/
def tIniE (ok : Addr → Prop) (ta : TA) : TE := fun σ H Q => ta σ H fun vs H1 => ∃ (a C : Addr) (ws : List V), vs = .ref a :: ws ∧ ws.length ≤ 1000 ∧ ok C ∧ H1 a = some (exo a C none) ∧ Q .non H1
section
variable {X : Cx} {o e : Expr} {es : List Expr} {to te : TE} {ta : TA} {f x : Str} {p p' p1 p2 pos : Pos} {N B new ini i : String} {l : List Value} {ok : Addr → Prop}
theorem ps_stoE (T : ∀ C, ok C → OwnE X.K C N B new ini i l ∧ PySem.W.findIn X.K (.ref C) f = some none) (ho : PE X o to) (he : PE X e te) (hs : swapsWith e (some (.Attribute o f p')) pos.line X.env = pure false := by rfl) :
    PS X (.Assign [.Attribute o f p'] e pos) (tStoE X.K ok f to te) := by
  refine ⟨fun pins s σ H D I h => ?_⟩
  refine plainObj_wpAny_Assign_Attribute (thn (he.run pins s σ H _ I h) fun v s1 ⟨y, H1, I1, r1, q1⟩ => thn (ho.run pins s1 σ H1 _ I1 q1) fun u s2 ⟨x, H2, I2, r2, a, C, ex, hok, ea, q⟩ => ?_) hs
  subst ex
  obtain rfl : u = Value.ref a := r2
  exact stoE (T C hok).1 I2 ea (T C hok).2 r1 fun dx s3 n ne J => ⟨σ, _, J, q dx n ne⟩
/-- B a built-in class -/
theorem pe_iniE {pl : Sem Bool} (T : ∀ C, ok C → OwnE X.K C N B new ini i l) (hg : Gl X x) (hm : X.mg x = none) (hv : bootBuiltins x = some (.type B)) (ty : typeOf (.type B) = pure (.type "type")) (st : Manifest.isStub B = false)
    (vV : PySem.W.findCls X.K (.type B) (.type "type") "__init__" = some (.val (.builtin ini))) (hdd : PySem.W.handedIn (.builtin ini) = true) (ha : PA X (e :: es) ta) (hn : x ≠ "__name__" := by decide) (hdb : (x == ("__debug__" : Str)) = false := by decide)
    (hc : eval (.Call (.Attribute (.Name x p1) "__init__" p2) (e :: es) [] pos) X.env = (do
      let ov ← eval (.Name x p1) X.env
      standAt p2.atName
      let (f, first) ← holding [ov] (getMethod ov "__init__" pl)
      callWith pos f first (backTo pos (starEach (e :: es) X.env)) (backToKw pos (keywordEach [] X.env))) := by rfl)
    (he : starEach (e :: es) X.env = (false, eval e X.env) :: starEach es X.env := by rfl) (hpl : (backTo pos (starEach es X.env)).any (·.1) = false := by rfl) :
    PE X (.Call (.Attribute (.Name x p1) "__init__" p2) (e :: es) [] pos) (tIniE ok ta) := by
  refine ⟨fun pins s σ H Q I h => ?_⟩
  refine PySem.W.methodCall_KW (ld_blt I hg hm hv ?_ hn hdb) hc
  obtain ⟨m, fr⟩ := I.fr
  refine PySem.W.method_type fr I.ok.mod.kin ty st vV hdd ?_
  show wpAny _ _ (callWith pos (Value.builtin ini) [] (backTo pos (starEach (e :: es) X.env)) []) _ _ _
  refine PyProof.Rows.callWith_method1 (thn (ha.run pos pins _ σ H _ (I.tok _) h) fun us s1 ⟨vs, H1, I1, r1, a, C, ws, ev, hl, hok, ea, q⟩ => ?_) he hpl
  subst ev
  cases r1 with
  | @cons _ u0 _ ur ra rw1 =>
    obtain rfl : u0 = Value.ref a := ra
    have hlen : ur.length ≤ sizeLine := by
      rw [← Paired.length rw1, sizeLine_eq]
      omega
    exact iniE (T C hok) I1 ea hlen fun s2 J => ⟨.non, H1, J, rfl, q⟩
/-- P a class of one's own, whose __init__ is a built-in one -/
theorem pe_iniP {pl : Sem Bool} {P : Addr} {mc : Value} (T : ∀ C, ok C → OwnE X.K C N B new ini i l) (hg : Gl X x) (hm : X.mg x = some (.ref P)) (ga : PySem.W.specialIn X.K (.ref P) "__getattribute__" = some (some (.builtin "type.__getattribute__")))
    (rd : PySem.W.readsIn X.K P mc = true) (vV : PySem.W.findCls X.K (.ref P) mc "__init__" = some (.val (.builtin ini))) (hdd : PySem.W.handedIn (.builtin ini) = true) (ha : PA X (e :: es) ta) (hdb : (x == ("__debug__" : Str)) = false := by decide)
    (hc : eval (.Call (.Attribute (.Name x p1) "__init__" p2) (e :: es) [] pos) X.env = (do
      let ov ← eval (.Name x p1) X.env
      standAt p2.atName
      let (f, first) ← holding [ov] (getMethod ov "__init__" pl)
      callWith pos f first (backTo pos (starEach (e :: es) X.env)) (backToKw pos (keywordEach [] X.env))) := by rfl)
    (he : starEach (e :: es) X.env = (false, eval e X.env) :: starEach es X.env := by rfl) (hpl : (backTo pos (starEach es X.env)).any (·.1) = false := by rfl) :
    PE X (.Call (.Attribute (.Name x p1) "__init__" p2) (e :: es) [] pos) (tIniE ok ta) := by
  refine ⟨fun pins s σ H Q I h => ?_⟩
  refine PySem.W.methodCall_KW (ld_glob I hg hm ?_ hdb) hc
  refine PySem.W.method_cls I.kIn ga (PySem.W.cls_value I.kIn rd vV hdd ?_)
  show wpAny _ _ (callWith pos (Value.builtin ini) [] (backTo pos (starEach (e :: es) X.env)) []) _ _ _
  refine PyProof.Rows.callWith_method1 (thn (ha.run pos pins _ σ H _ (I.tok _) h) fun us s1 ⟨vs, H1, I1, r1, a, C, ws, ev, hl, hok, ea, q⟩ => ?_) he hpl
  subst ev
  cases r1 with
  | @cons _ u0 _ ur ra rw1 =>
    obtain rfl : u0 = Value.ref a := ra
    have hlen : ur.length ≤ sizeLine := by
      rw [← Paired.length rw1, sizeLine_eq]
      omega
    exact iniE (T C hok) I1 ea hlen fun s2 J => ⟨.non, H1, J, rfl, q⟩
end
/-- C(e, ..), an error of one's own that keeps sp -/
def tMkE (C : Addr) (sp : Sp) (ta : TA) : L2.St → Hp → XK → Prop := fun σ H Q => ta σ H fun vs H1 => vs.length ≤ 1000 ∧ ∀ a, H1 a = none → sp (.ref a :: vs) (upd H1 a (exo a C none))
  (fun v H2 => v = .non ∧ ∃ (d : Addr) (fs : List (Str × V)), H2 a = some (exo a C (some d)) ∧ H2 d = some (exd d fs) ∧ H1 d = none ∧ Q (.ref C) (some d) (upd (L2.del H2 a) d (.xd fs))) (fun _ _ _ => False)
section
variable {X : Cx} {e : Expr} {es : List Expr} {ta : TA} {x : Str} {p pos : Pos} {N B new ini i : String} {l : List Value} {CX : CXT} {C fI : Addr} {k : Nat} {fd : FuncData} {ps : List Str} {sp : Sp}
theorem pmk_own1 (T : OwnE X.K C N B new ini i l) (iC : PySem.W.findIn X.K (.ref C) "__init__" = some (some (.ref fI))) (tI : PySem.W.typeIn X.K (.ref fI) = some (.type "function"))
    (F1 : FnOk X.prog X.w X.K X.mg X.base CX k fI fd ps sp) (hr : Room (k + 1) X.A) (hb : Binds X.K fd ps []) (hx : Passes CX X (fun _ _ _ => False)) (hg : Gl X x) (hm : X.mg x = some (.ref C)) (ha : PA X (e :: es) ta)
    (hdb : (x == ("__debug__" : Str)) = false := by decide) (he : starEach (e :: es) X.env = (false, eval e X.env) :: starEach es X.env := by rfl) (hpl : (backTo pos (starEach es X.env)).any (·.1) = false := by rfl) :
    PMk X (.Call (.Name x p) (e :: es) [] pos) (tMkE C sp ta) := by
  intro pins s σ H Q I h
  obtain ⟨nm, qn, Ns, bs, up, sn, sb, ab, co, dd, k0, k1, k2, k3, k5, hC, hab, hob, hps⟩ := T.cls
  refine wpAny_Call_Name_kw (ld_glob I hg hm ?_ hdb)
  refine PySem.W.callWith_K (h₀ := X.base) I.ok.mod.kin T.kp (thn (ha.run pos pins s σ H _ I h) fun us s1 ⟨vs, H1, I1, r1, hz, q1⟩ => ⟨I1.kIn, ?_⟩) he hpl
  show wpAny _ _ (call (.ref C) us) _ _ _
  obtain ⟨hp, g, dr, tk, os⟩ := s1
  have n1 : hp.objs.size ≤ hp.objs.size + 1 := Nat.le_succ _
  have nn : H1 (hp.objs.size + 1) = none := I1.hok.fresh n1
  have hq := q1 (hp.objs.size + 1) nn
  have kk : ∀ b o, hp.get? b = some o → ((hp.push (PySem.W.kdv_tup us)).push (excO C hp.objs.size)).get? b = some o := fun b o e => Heap.get?_push_of_some _ (Heap.get?_push_of_some _ e)
  have hx1 : ((hp.push (PySem.W.kdv_tup us)).push (excO C hp.objs.size)).get? (hp.objs.size + 1) = some (excO C hp.objs.size) := by heap_get
  have I2 := I1.laid (t' := tk) (a := hp.objs.size + 1) (o := exo (hp.objs.size + 1) C none) (h' := (hp.push (PySem.W.kdv_tup us)).push (excO C hp.objs.size)) kk n1 (exo_ok hx1)
  have r2 : Vals (V.ref (hp.objs.size + 1) :: vs) (Value.ref (hp.objs.size + 1) :: us) := .cons rfl r1
  have hl : (Value.ref (hp.objs.size + 1) :: us).length = ps.length := by
    have e := r2.length
    rw [F1.len _ _ _ _ hq] at e
    exact e.symm
  have hus : us.length ≤ sizeLine := by
    rw [← Paired.length r1, sizeLine_eq]
    omega
  have hb2 := hb _ (Value.ref (hp.objs.size + 1) :: us) I2.kIn (by rw [List.append_nil]; exact hl)
  rw [List.append_nil] at hb2
  refine wpAny_call (callRun T.G hab (I1.kIn _ _ hC) (PySem.W.looks_findIn I1.kIn iC) (fun self => PySem.W.bind_fn I1.kIn self tI) hus
    (codeAny_mono (F1.run _ X.stack _ _ ⟨Value.ref (hp.objs.size + 1) :: us, []⟩ (Value.ref (hp.objs.size + 1) :: us) _ _ (fun _ _ _ => False) (hr.make C us []) (I2.env0.make C us []) hb2 r2 hq) fun r s2 hq2 => ?_))
  cases r with
  | error er => exact hx pins σ _ _ er s2 I2 hq2
  | ok fl =>
    cases fl with
    | ret u =>
      obtain ⟨v, H2, os2, bare2, un2, hok2, rv, ev, d, fs, ea, ed, hd1, q2⟩ := hq2
      subst ev
      obtain ⟨h2, g2, d2, t2, os3⟩ := s2
      exact ⟨rv, mk_end (raises_own T.ex T.ty) I1 n1 kk un2 hok2 os2 bare2 ea ed hd1 q2⟩
    | next => exact False.elim hq2
    | brk => exact False.elim hq2
    | cont => exact False.elim hq2
end
end DL

set_option Elab.async false
set_option linter.all false
set_option maxRecDepth 100000
set_option maxHeartbeats 4000000
namespace DL
open PySem PySem.Spec PyProof.Rows L2
def gVone : List V → List V → List V := fun _ zs => zs
def gVrev : List V → List V → List V := fun _ zs => zs.reverse
def gDrev : List PyData → List PyData → List PyData := fun _ zs => zs.reverse
def t_law_over_right (K : PySem.W.Frag) : TS :=
  (tSeq (tAsg (tC .non) (gName 2))
    (tSeq (tAsg (tC .non) (gName 3))
    (tSeq (tAsg (tLst (tCons (tCall (spP K TOver) [] E0 (tCons (tVar 0) (tCons (tVar 1) tNil))) (tCons (tCallN 0 2 (spP K TOver) gVrev E0 tNil (tCons (tVar 1) (tCons (tVar 0) tNil))) tNil))) (gName 3))
    (tSeq (tIfS (tTest (tOp rEq (tOp (rIxT K) (tVar 1) (tC (.int 0))) (tC (.int 0)))) (tRet (tOp rNotNone (tVar 2) (tC .non))) tNext)
    (tRet (tAndV (tOp rIsNone (tVar 2) (tC .non)) (tOp (rEqD K) (tVar 3) (tOp rRepL (tLst (tCons (tCall (spP K TPart) [] E0 (tCons (tOp rMulI (tOp (rIxT K) (tVar 0) (tC (.int 0))) (tOp (rIxT K) (tVar 1) (tC (.int 1)))) (tCons (tOp rMulI (tOp (rIxT K) (tVar 0) (tC (.int 1))) (tOp (rIxT K) (tVar 1) (tC (.int 0)))) tNil))) tNil)) (tC (.int 2))))))))))
def t_law_whole_right (K : PySem.W.Frag) : TS :=
  (tSeq (tPar 1 2 (tCons (tCall (spP K TFloor) [] E0 (tCons (tVar 0) tNil)) (tCons (tCall (spP K TCeil) [] E0 (tCons (tVar 0) tNil)) tNil)))
    (tSeq (tIfS (tTest (tOp rNe (tCB (rRepr K) (tCons (tLst (tCons (tCallN 0 1 (spP K TFloor) gVone E0 tNil (tCons (tVar 0) tNil)) (tCons (tCallN 0 1 (spP K TCeil) gVone E0 tNil (tCons (tVar 0) tNil)) tNil))) tNil)) (tCB (rRepr K) (tCons (tLst (tCons (tVar 1) (tCons (tVar 2) tNil))) tNil)))) (tRet (tC (.bl false))) tNext)
    (tSeq (tIfS (tOr (tNot (tB (tCB (rIsi K) (tCons (tVar 1) (tCons (tC (.ty "int")) tNil))))) (tOr (tB (tCB (rIsi K) (tCons (tVar 1) (tCons (tC (.ty "bool")) tNil)))) (tOr (tNot (tB (tCB (rIsi K) (tCons (tVar 2) (tCons (tC (.ty "int")) tNil))))) (tB (tCB (rIsi K) (tCons (tVar 2) (tCons (tC (.ty "bool")) tNil))))))) (tRet (tC (.bl false))) tNext)
    (tSeq (tIfS (tOr (tTest (tOp rGt (tOp rMulI (tVar 1) (tOp (rIxT K) (tVar 0) (tC (.int 1)))) (tOp (rIxT K) (tVar 0) (tC (.int 0))))) (tTest (tOp rLe (tOp rMulI (tOp rAddI (tVar 1) (tC (.int 1))) (tOp (rIxT K) (tVar 0) (tC (.int 1)))) (tOp (rIxT K) (tVar 0) (tC (.int 0)))))) (tRet (tC (.bl false))) tNext)
    (tRet (tAndV (tOp rGe (tOp rMulI (tVar 2) (tOp (rIxT K) (tVar 0) (tC (.int 1)))) (tOp (rIxT K) (tVar 0) (tC (.int 0)))) (tOp rLt (tOp rMulI (tOp rSubI (tVar 2) (tC (.int 1))) (tOp (rIxT K) (tVar 0) (tC (.int 1)))) (tOp (rIxT K) (tVar 0) (tC (.int 0))))))))))
def t_law_right (K : PySem.W.Frag) : TS :=
  (tSeq (tIfS (tOr (tTest (tOp (rNeD K) (tCall (spP K TPlus) [] E0 (tCons (tVar 0) (tCons (tVar 1) tNil))) (tCall (spP K TPlus) [] E0 (tCons (tVar 0) (tCons (tVar 1) tNil))))) (tTest (tOp (rNeD K) (tCall (spP K TLess) [] E0 (tCons (tVar 0) (tCons (tVar 1) tNil))) (tCall (spP K TLess) [] E0 (tCons (tVar 0) (tCons (tVar 1) tNil)))))) (tRet (tC (.bl false))) tNext)
    (tSeq (tIfS (tOr (tTest (tOp (rNeD K) (tCallN 0 2 (spP K TPlus) gVrev E0 tNil (tCons (tVar 1) (tCons (tVar 0) tNil))) (tCall (spP K TPlus) [] E0 (tCons (tVar 0) (tCons (tVar 1) tNil))))) (tTest (tOp (rNeD K) (tCallN 0 2 (spP K TLess) gVrev E0 tNil (tCons (tVar 1) (tCons (tVar 0) tNil))) (tCall (spP K TLess) [] E0 (tCons (tVar 0) (tCons (tVar 1) tNil)))))) (tRet (tC (.bl false))) tNext)
    (tSeq (tIfS (tOr (tTest (tOp (rNeD K) (tCallN 0 2 (spP K TTimes) gVrev E0 tNil (tCons (tVar 1) (tCons (tVar 0) tNil))) (tCall (spP K TTimes) [] E0 (tCons (tVar 0) (tCons (tVar 1) tNil))))) (tTest (tOp rNe (tCallN 0 2 (spP K TUnder) gVrev E0 tNil (tCons (tVar 1) (tCons (tVar 0) tNil))) (tCall (spP K TUnder) [] E0 (tCons (tVar 0) (tCons (tVar 1) tNil)))))) (tRet (tC (.bl false))) tNext)
    (tSeq (tIfS (tOr (tTest (tOp (rNeD K) (tCall (spP K TTimes) [] E0 (tCons (tVar 0) (tCons (tVar 1) tNil))) (tCall (spP K TTimes) [] E0 (tCons (tVar 0) (tCons (tVar 1) tNil))))) (tNot (tB (tCall (spP K TRight2) [] E0 (tCons (tVar 0) (tCons (tVar 1) tNil)))))) (tRet (tC (.bl false))) tNext)
    (tSeq (tIfS (tTest (tOp rNe (tCB (rRepr K) (tCons (tLst (tCons (tCall (spP K TUnder) [] E0 (tCons (tVar 0) (tCons (tVar 1) tNil))) (tCons (tCall (spP K TUnder) [] E0 (tCons (tVar 1) (tCons (tVar 0) tNil))) tNil))) tNil)) (tCB (rRepr K) (tCons (tLst (tCons (tCall (spP K TUnder) [] E0 (tCons (tVar 0) (tCons (tVar 1) tNil))) (tCons (tCall (spP K TUnder) [] E0 (tCons (tVar 1) (tCons (tVar 0) tNil))) tNil))) tNil)))) (tRet (tC (.bl false))) tNext)
    (tRet (tAndV (tCall (spP K TRight1) [] E0 (tCons (tVar 0) tNil)) (tCall (spP K TRight1) [] E0 (tCons (tVar 1) tNil)))))))))

section
variable {K : PySem.W.Frag} {S : Stt} {ρ : Rho} {Φ : PyData → Rho → Prop} {Ψ : PyData → Prop}
end
local macro_rules | `(tactic| walk_at "dl") => `(tactic| repeat' (first
  | with_reducible refine wd_isTy ?_ | with_reducible refine wd_isi ?_ | with_reducible refine wd_op ?_ | ((with_reducible show WD _ _ (tCB (rLenX _) (tCons (tVar _) tNil)) _ _); refine wd_len_scr rfl ?_) | with_reducible refine wd_cb ?_ | with_reducible refine wd_un ?_ | with_reducible refine wa_cons ?_ | with_reducible refine wa_nil ?_ | ((with_reducible show WD _ _ (tVar _) _ _); refine wd_var rfl ?_) | with_reducible refine wd_int ?_ | with_reducible refine wd_bl ?_ | with_reducible refine wd_str ?_ | with_reducible refine wd_non ?_
  | with_reducible refine do_nePr ?_ | with_reducible refine do_nebS ?_ | with_reducible refine do_nesS ?_ | with_reducible refine do_isNn ?_ | with_reducible refine do_add ?_ | with_reducible refine do_sub ?_ | ((with_reducible refine do_mod ?_ ?_); decide) | with_reducible refine do_mod ?_ ?_ | with_reducible refine do_mul ?_ ?_ | ((with_reducible refine do_div ?_ ?_); exact ⟨by decide, by decide⟩) | with_reducible refine do_div ?_ ?_ | ((with_reducible refine do_pow ?_ ?_); exact ⟨by decide, by decide, by decide⟩) | with_reducible refine do_pow ?_ ?_
  | with_reducible refine do_lt ?_ | with_reducible refine do_le ?_ | with_reducible refine do_gt ?_ | with_reducible refine do_ge ?_ | with_reducible refine du_neg ?_
  | with_reducible refine do_eqi ?_ | with_reducible refine do_nei ?_ | with_reducible refine do_eqs ?_ | with_reducible refine do_nes ?_ | with_reducible refine dc_abs ?_ | with_reducible refine dc_min ?_ | with_reducible refine dc_max ?_ | with_reducible refine dc_lenL ?_ | with_reducible refine dc_lenT ?_ | with_reducible refine dc_gcd ?_
  | ((with_reducible show DO _ (rIxT _) _ _ _); refine do_ixT rfl ?_) | ((with_reducible show DO _ (rIxL _) _ _ _); refine do_ixL rfl ?_) | ((with_reducible refine do_catL ?_ ?_); exact Nat.le_of_ble_eq_true rfl) | with_reducible refine do_catL ?_ ?_ | ((with_reducible show And (List.length _ ≤ sizeLine) _); refine ⟨Nat.le_of_ble_eq_true rfl, ?_⟩)
  | with_reducible refine wd_dnew ?_ | with_reducible refine wd_c2 rfl rfl (by assumption) (by first | assumption | exact trivial) ?_ | with_reducible refine wd_n2 rfl rfl (by assumption) (by first | assumption | exact trivial) ?_ | with_reducible refine wd_c1 rfl (by assumption) (by assumption) ?_ | with_reducible refine wd_n1 rfl (by assumption) (by assumption) ?_ | with_reducible refine wd_call0 ?_ | with_reducible refine dc_str ?_ ?_ | with_reducible refine wd_tup ?_ | with_reducible refine wd_lst ?_ | with_reducible refine wt_test ?_ | with_reducible refine wt_B ?_ | with_reducible refine wt_not ?_ | with_reducible refine wt_and ?_ | with_reducible refine wt_or ?_ | with_reducible refine wd_ifE ?_ | with_reducible refine wd_andV ?_ | with_reducible refine wd_orV ?_ | with_reducible refine wd_notV ?_
  | with_reducible refine ws_seq ?_ | with_reducible refine ws_next ?_ | with_reducible refine ws_asg ?_ | with_reducible refine ws_ret ?_ | with_reducible refine ws_retN ?_ | with_reducible refine ws_if ?_ | with_reducible refine ws_par ?_ | with_reducible refine ws_unp2 ?_
  | with_reducible refine if_t ?_ | with_reducible refine if_f ?_ | with_reducible refine if_nf ?_ | with_reducible refine if_nt ?_
  | ((with_reducible show Exists _); first | refine ⟨_, kitInt _, ?_⟩ | refine ⟨_, kitBool _, ?_⟩ | refine ⟨_, kitTup _, ?_⟩ | refine ⟨_, kitList _, ?_⟩ | refine ⟨_, rfl, ?_⟩ | refine ⟨_, _, rfl, ?_⟩ | fail) | fail))
section
variable {K : PySem.W.Frag} {ds : List PyData} {Φ : PyData → Prop}
end
end DL

set_option Elab.async false
set_option linter.all false
set_option maxRecDepth 100000
set_option maxHeartbeats 4000000
namespace DL
open PySem PySem.Spec PyProof.Rows L2
local macro_rules | `(tactic| walk_at "dl") => `(tactic| repeat' (first
  | with_reducible refine wd_isTy ?_ | with_reducible refine wd_isi ?_ | with_reducible refine wd_op ?_ | ((with_reducible show WD _ _ (tCB (rLenX _) (tCons (tVar _) tNil)) _ _); refine wd_len_scr rfl ?_) | with_reducible refine wd_cb ?_ | with_reducible refine wd_un ?_ | with_reducible refine wa_cons ?_ | with_reducible refine wa_nil ?_ | ((with_reducible show WD _ _ (tVar _) _ _); refine wd_var rfl ?_) | with_reducible refine wd_int ?_ | with_reducible refine wd_bl ?_ | with_reducible refine wd_str ?_ | with_reducible refine wd_non ?_
  | with_reducible refine do_nesS ?_ | with_reducible refine do_add ?_ | with_reducible refine do_sub ?_ | ((with_reducible refine do_mod ?_ ?_); decide) | with_reducible refine do_mod ?_ ?_ | with_reducible refine do_mul ?_ ?_ | ((with_reducible refine do_div ?_ ?_); exact ⟨by decide, by decide⟩) | with_reducible refine do_div ?_ ?_ | ((with_reducible refine do_pow ?_ ?_); exact ⟨by decide, by decide, by decide⟩) | with_reducible refine do_pow ?_ ?_
  | with_reducible refine do_lt ?_ | with_reducible refine do_le ?_ | with_reducible refine do_gt ?_ | with_reducible refine do_ge ?_ | with_reducible refine du_neg ?_
  | with_reducible refine do_eqi ?_ | with_reducible refine do_nei ?_ | with_reducible refine do_eqs ?_ | with_reducible refine do_nes ?_ | with_reducible refine dc_abs ?_ | with_reducible refine dc_min ?_ | with_reducible refine dc_max ?_ | with_reducible refine dc_lenL ?_ | with_reducible refine dc_lenT ?_ | with_reducible refine dc_gcd ?_
  | ((with_reducible show DO _ (rIxT _) _ _ _); refine do_ixT rfl ?_) | ((with_reducible show DO _ (rIxL _) _ _ _); refine do_ixL rfl ?_) | ((with_reducible refine do_catL ?_ ?_); exact Nat.le_of_ble_eq_true rfl) | with_reducible refine do_catL ?_ ?_ | ((with_reducible show And (List.length _ ≤ sizeLine) _); refine ⟨Nat.le_of_ble_eq_true rfl, ?_⟩)
  | with_reducible refine wd_dnew ?_ | with_reducible refine wd_call0 ?_ | with_reducible refine dc_str ?_ ?_ | with_reducible refine wd_tup ?_ | with_reducible refine wd_lst ?_ | with_reducible refine wt_test ?_ | with_reducible refine wt_B ?_ | with_reducible refine wt_not ?_ | with_reducible refine wt_and ?_ | with_reducible refine wt_or ?_ | with_reducible refine wd_ifE ?_ | with_reducible refine wd_andV ?_ | with_reducible refine wd_orV ?_ | with_reducible refine wd_notV ?_
  | with_reducible refine ws_seq ?_ | with_reducible refine ws_next ?_ | with_reducible refine ws_asg ?_ | with_reducible refine ws_ret ?_ | with_reducible refine ws_retN ?_ | with_reducible refine ws_if ?_ | with_reducible refine ws_par ?_ | with_reducible refine ws_unp2 ?_
  | with_reducible refine if_t ?_ | with_reducible refine if_f ?_ | with_reducible refine if_nf ?_ | with_reducible refine if_nt ?_
  | ((with_reducible show Exists _); first | refine ⟨_, kitInt _, ?_⟩ | refine ⟨_, kitBool _, ?_⟩ | refine ⟨_, kitTup _, ?_⟩ | refine ⟨_, kitList _, ?_⟩ | refine ⟨_, rfl, ?_⟩ | refine ⟨_, _, rfl, ?_⟩ | fail) | fail))
def gVapp : List V → List V → List V := fun vs zs => vs ++ zs
def gDapp : List PyData → List PyData → List PyData := fun vs zs => vs ++ zs
def gVone1 : List V → List V → List V := fun _ zs => zs ++ [.int 1]
def gDone1 : List PyData → List PyData → List PyData := fun _ zs => zs ++ [.int 1]
def TNumber : Nat → List PyData → (PyData → Nat → Prop) → Prop := fun B ds Φ => ds = [] ∧ B + 2400 ≤ 2 ^ 40 ∧ ∀ n : Int, n.natAbs < 2 ^ 100 → Φ (.int n) (B + 2400)
def TRefused : List PyData → (PyData → Prop) → Prop := fun ds Φ => ∃ a w : Int, ds = [.int a, .int w] ∧ Φ (.bool true)
def t_law_number (K : PySem.W.Frag) : TS :=
  (tSeq (tAsg (tCall (spS K FSto TDr) [] E0 (tCons (tVar 0) (tCons (tC (.int 5)) tNil))) (gName 1))
    (tSeq (tAsg (tLst (tCons (tC (.int 0)) (tCons (tOp rAddI (tC (.int 1)) (tCall (spS K FSto TDr) [] E0 (tCons (tVar 0) (tCons (tC (.int 12)) tNil)))) (tCons (tCall (spS K FSto TDr) [] E0 (tCons (tVar 0) (tCons (tC (.int 1000)) tNil))) (tCons (tCall (spS K FSto TDr) [] E0 (tCons (tVar 0) (tCons (tOp rPowI (tC (.int 10)) (tC (.int 30))) tNil))) tNil))))) (gName 2))
    (tRet (tOp rMulI (tOp (rIxL K) (tOp rCatL (tVar 2) (tLst (tCons (tOp rMulI (tC (.int 360)) (tCall (spS K FSto TDr) [] E0 (tCons (tVar 0) (tCons (tC (.int 99)) tNil)))) tNil))) (tVar 1)) (tOp (rIxL K) (tLst (tCons (tC (.int 1)) (tCons (tUn rNegI (tC (.int 1))) tNil))) (tCall (spS K FSto TDr) [] E0 (tCons (tVar 0) (tCons (tC (.int 2)) tNil))))))))
section
variable {K : PySem.W.Frag} {S : Stt}
local macro_rules | `(tactic| walk_at "dl") => `(tactic| repeat' (first
  | with_reducible refine wd_isTy ?_ | with_reducible refine wd_isi ?_ | with_reducible refine wd_op ?_ | ((with_reducible show WD _ _ (tCB (rLenX _) (tCons (tVar _) tNil)) _ _); refine wd_len_scr rfl ?_) | with_reducible refine wd_cb ?_ | with_reducible refine wd_un ?_ | with_reducible refine wa_cons ?_ | with_reducible refine wa_nil ?_ | ((with_reducible show WD _ _ (tVar _) _ _); refine wd_var rfl ?_) | with_reducible refine wd_int ?_ | with_reducible refine wd_bl ?_ | with_reducible refine wd_str ?_ | with_reducible refine wd_non ?_
  | with_reducible refine do_nesS ?_ | with_reducible refine do_add ?_ | with_reducible refine do_sub ?_ | ((with_reducible refine do_mod ?_ ?_); decide) | with_reducible refine do_mod ?_ ?_ | with_reducible refine do_mul ?_ ?_ | ((with_reducible refine do_div ?_ ?_); exact ⟨by decide, by decide⟩) | with_reducible refine do_div ?_ ?_ | ((with_reducible refine do_pow ?_ ?_); exact ⟨by decide, by decide, by decide⟩) | with_reducible refine do_pow ?_ ?_
  | with_reducible refine do_lt ?_ | with_reducible refine do_le ?_ | with_reducible refine do_gt ?_ | with_reducible refine do_ge ?_ | with_reducible refine du_neg ?_
  | with_reducible refine do_eqi ?_ | with_reducible refine do_nei ?_ | with_reducible refine do_eqs ?_ | with_reducible refine do_nes ?_ | with_reducible refine dc_abs ?_ | with_reducible refine dc_min ?_ | with_reducible refine dc_max ?_ | with_reducible refine dc_lenL ?_ | with_reducible refine dc_lenT ?_ | with_reducible refine dc_gcd ?_
  | ((with_reducible show DO _ (rIxT _) _ _ _); refine do_ixT rfl ?_) | ((with_reducible show DO _ (rIxL _) _ _ _); refine do_ixL rfl ?_) | ((with_reducible refine do_catL ?_ ?_); exact Nat.le_of_ble_eq_true rfl) | with_reducible refine do_catL ?_ ?_ | ((with_reducible show And (List.length _ ≤ sizeLine) _); refine ⟨Nat.le_of_ble_eq_true rfl, ?_⟩)
  | with_reducible refine wd_dnew ?_ | with_reducible refine wd_pt rfl rfl (by assumption) (by assumption) (by assumption) ?_ | with_reducible refine wd_ptR rfl rfl (by assumption) (by assumption) (by assumption) ?_ | with_reducible refine wd_ptB rfl rfl (by assumption) (by assumption) (by assumption) ?_ | with_reducible refine wd_ptD rfl (by assumption) ?_ | with_reducible refine wd_ptA rfl (by assumption) ?_ | with_reducible refine wd_call0 ?_ | with_reducible refine dc_str ?_ ?_ | with_reducible refine wd_tup ?_ | with_reducible refine wd_lst ?_ | with_reducible refine wt_test ?_ | with_reducible refine wt_B ?_ | with_reducible refine wt_not ?_ | with_reducible refine wt_and ?_ | with_reducible refine wt_or ?_ | with_reducible refine wd_ifE ?_ | with_reducible refine wd_andV ?_ | with_reducible refine wd_orV ?_ | with_reducible refine wd_notV ?_
  | with_reducible refine ws_seq ?_ | with_reducible refine ws_next ?_ | with_reducible refine ws_asg ?_ | with_reducible refine ws_ret ?_ | with_reducible refine ws_retN ?_ | with_reducible refine ws_if ?_ | with_reducible refine ws_par ?_ | with_reducible refine ws_unp2 ?_
  | with_reducible refine if_t ?_ | with_reducible refine if_f ?_ | with_reducible refine if_nf ?_ | with_reducible refine if_nt ?_
  | ((with_reducible show Exists _); first | refine ⟨_, kitInt _, ?_⟩ | refine ⟨_, kitBool _, ?_⟩ | refine ⟨_, kitTup _, ?_⟩ | refine ⟨_, kitList _, ?_⟩ | refine ⟨_, rfl, ?_⟩ | refine ⟨_, _, rfl, ?_⟩ | fail) | fail))
def t_tail3 (K : PySem.W.Frag) : TS :=
    (tSeq (tAsg (tCall (spP K TPart) [] E0 (tCons (tVar 3) (tCons (tVar 4) tNil))) (gName 5))
    (tSeq (tIfS (tTest (tOp rNe (tCB (rRepr K) (tCons (tLst (tCons (tCall (spP K TPart) [] E0 (tCons (tVar 3) (tCons (tVar 4) tNil))) (tCons (tCallN 0 2 (spP K TPart) gVrev E0 tNil (tCons (tVar 4) (tCons (tVar 3) tNil))) (tCons (tCallN 1 1 (spP K TPart) gVapp E0 (tCons (tVar 3) tNil) (tCons (tVar 4) tNil)) tNil)))) tNil)) (tCB (rRepr K) (tCons (tLst (tCons (tVar 5) (tCons (tVar 5) (tCons (tVar 5) tNil)))) tNil)))) (tRet (tC (.bl false))) tNext)
    (tIfS (tTest (tOp rNe (tCB (rRepr K) (tCons (tLst (tCons (tCall (spP K TPart) [.int 1] E0 (tCons (tVar 3) tNil)) (tCons (tCallN 0 1 (spP K TPart) gVone1 E0 tNil (tCons (tVar 3) tNil)) tNil))) tNil)) (tCB (rRepr K) (tCons (tLst (tCons (tTup (tCons (tVar 3) (tCons (tC (.int 1)) tNil))) (tCons (tTup (tCons (tVar 3) (tCons (tC (.int 1)) tNil))) tNil))) tNil)))) (tRet (tC (.bl false))) tNext)))
def t_law_rest3 (K : PySem.W.Frag) (aN aO : Addr) : TS :=
    (tSeq (tFor (iRng1 (tCons (tOp rAddI (tC (.int 20)) (tCB rMinX (tCons (tC (.int 40)) (tCons (tCB (rLenX K) (tCons (tVar 0) tNil)) tNil)))) tNil)) (gName 2) (tSeq (tAsg (tCall (spS K FSto TNumber) [] E0 (tCons (tVar 1) tNil)) (gName 3))
    (tSeq (tAsg (tCall (spS K FSto TNumber) [] E0 (tCons (tVar 1) tNil)) (gName 4))
    (tSeq (tIfS (tTest (tOp rEq (tVar 4) (tC (.int 0)))) (tSeq (tIfS (tOr (tNot (tB (tCall (spP K TRefused) [] E0 (tCons (tVar 3) (tCons (tC (.int 0)) tNil))))) (tNot (tB (tCall (spP K TRefused) [] E0 (tCons (tVar 3) (tCons (tC (.int 1)) tNil)))))) (tRet (tC (.bl false))) tNext)
    (tAsg (tC (.int 1)) (gName 4))) tNext)
    (tSeq (tAsg (tCall (spP K TPart) [] E0 (tCons (tVar 3) (tCons (tVar 4) tNil))) (gName 5))
    (tSeq (tIfS (tTest (tOp rNe (tCB (rRepr K) (tCons (tLst (tCons (tCall (spP K TPart) [] E0 (tCons (tVar 3) (tCons (tVar 4) tNil))) (tCons (tCallN 0 2 (spP K TPart) gVrev E0 tNil (tCons (tVar 4) (tCons (tVar 3) tNil))) (tCons (tCallN 1 1 (spP K TPart) gVapp E0 (tCons (tVar 3) tNil) (tCons (tVar 4) tNil)) tNil)))) tNil)) (tCB (rRepr K) (tCons (tLst (tCons (tVar 5) (tCons (tVar 5) (tCons (tVar 5) tNil)))) tNil)))) (tRet (tC (.bl false))) tNext)
    (tIfS (tTest (tOp rNe (tCB (rRepr K) (tCons (tLst (tCons (tCall (spP K TPart) [.int 1] E0 (tCons (tVar 3) tNil)) (tCons (tCallN 0 1 (spP K TPart) gVone1 E0 tNil (tCons (tVar 3) tNil)) tNil))) tNil)) (tCB (rRepr K) (tCons (tLst (tCons (tTup (tCons (tVar 3) (tCons (tC (.int 1)) tNil))) (tCons (tTup (tCons (tVar 3) (tCons (tC (.int 1)) tNil))) tNil))) tNil)))) (tRet (tC (.bl false))) tNext)))))))
    (tRet (tAndV (tOp (rEqD K) (tCall (spP K TPart) [] E0 (tCons (tC (.int 0)) (tCons (tC (.int 7)) tNil))) (tC (.ref aN))) (tAndV (tOp (rEqD K) (tCall (spP K TPart) [] E0 (tCons (tUn rNegI (tC (.int 3))) (tCons (tUn rNegI (tC (.int 3))) tNil))) (tC (.ref aO))) (tAndV (tOp (rEqD K) (tC (.ref aN)) (tTup (tCons (tC (.int 0)) (tCons (tC (.int 1)) tNil)))) (tOp (rEqD K) (tC (.ref aO)) (tTup (tCons (tC (.int 1)) (tCons (tC (.int 1)) tNil)))))))))
end
end DL

set_option Elab.async false
set_option linter.all false
set_option maxRecDepth 100000
set_option maxHeartbeats 4000000
namespace DL
open PySem PySem.Spec PyProof.Rows L2
/-! ### isinstance of a kept error -/
def rIsiE (K : PySem.W.Frag) (D : Addr) : List V → Hp → VK → Prop := fun xs H Q => ∃ (a : Addr) (c : V) (u : Value) (b : Bool), xs = [.ref a, c] ∧ ClsV c u ∧ H a = some (.ext (excAt a (.ref D))) ∧ PySem.W.kitOne K (.ref D) u = some b ∧ Q (.bl b) H
def rIsiET (K : PySem.W.Frag) (D : Addr) : List V → Hp → VK → Prop := fun xs H Q => ∃ (a tp : Addr) (cs : List V) (us : List Value) (b : Bool), xs = [.ref a, .ref tp] ∧ H tp = some (.tup cs) ∧ Paired ClsV cs us ∧ H a = some (.ext (excAt a (.ref D))) ∧ PySem.W.kitAny K (.ref D) us = some b ∧ Q (.bl b) H
section
variable {X : Cx} {pins : List (Addr × Obj)} {σ : L2.St} {H : Hp} {s : Shared} {a D : Addr}
end
/-! ### a call by names that may be refused, in a try -/
def tCallNS (m : Nat) (sp : Sp) (gV : List V → List V → List V) (E : L2.St → XK) (tk : TA) : TE := fun σ H Q => tk σ H fun zs H2 => zs.length = m ∧ sp (gV [] zs) H2 Q (E σ)
/-! ### the judge of refusals -/
def ts_rf (a : Addr) : TS := tAsg (tVar 3) (gName 2)
def tb_rf (K : PySem.W.Frag) (C : Addr) (W : WX) : TS := tIfS (tTest (tOp rEq (tVar 1) (tC (.int 0)))) (tDrop (tCallS (spX K (TPartX C)) (WE W) (tCons (tVar 0) (tCons (tC (.int 0)) tNil))))
  (tDrop (tCallNS 2 (spX K (TPartX C)) gVrev (WE W) (tCons (tC (.int 0)) (tCons (tVar 0) tNil))))
def te_rf (K : PySem.W.Frag) (C P : Addr) : TE := tAndV (tCB (rIsiE K C) (tCons (tVar 2) (tCons (tC (.ty "ZeroDivisionError")) tNil))) (tNotV (tCB (rIsiET K C) (tCons (tVar 2) (tCons (tTup (tCons (tC (.ref P)) (tCons (tC (.ty "ValueError")) tNil))) tNil))))
def t_rf (K : PySem.W.Frag) (C P : Addr) : TS :=
  (tSeq (tAsg (tC .non) (gName 2))
    (tSeq (fun D σ H => tb_rf K C (wKeep K (.ref C) 3 ts_rf D) D σ H)
    (tRet (te_rf K C P))))
end DL
namespace DL
open PySem PySem.Spec PyProof.Rows L2
def excCB (K : PySem.W.Frag) (D : Addr) : Bool := decide (PySem.W.findIn K (.ref D) "__getattribute__" = some (some (.builtin "BaseException.__getattribute__"))) && (decide (PySem.W.findIn K (.ref D) "__getattr__" = some none) &&
  (decide (PySem.W.subIn K (.ref D) (.type "BaseException") = some true) && (PySem.W.hasDictIn K D && (decide (PySem.W.findIn K (.ref D) "__class__" = some (some (.builtin "object.__class__"))) &&
  (decide (PySem.W.specialIn K (.builtin "object.__class__") "__get__" = some (some (.builtin "getset_descriptor.__get__"))) && (decide (PySem.W.takesIn K (.builtin "object.__class__") = some true) && decide (PySem.W.mroIn K D (.type "object") = some true)))))))
theorem excC_ok {K : PySem.W.Frag} {D : Addr} (h : excCB K D = true) : ExcC K D := by
  obtain ⟨c1, h⟩ := He.ba h
  obtain ⟨c2, h⟩ := He.ba h
  obtain ⟨c3, h⟩ := He.ba h
  obtain ⟨c4, h⟩ := He.ba h
  obtain ⟨c5, h⟩ := He.ba h
  obtain ⟨c6, h⟩ := He.ba h
  obtain ⟨c7, c8⟩ := He.ba h
  exact ⟨of_decide_eq_true c1, of_decide_eq_true c2, of_decide_eq_true c3, c4, of_decide_eq_true c5, of_decide_eq_true c6, of_decide_eq_true c7, of_decide_eq_true c8⟩
end DL

set_option Elab.async false
set_option linter.all false
set_option maxRecDepth 100000
set_option maxHeartbeats 4000000
/-! ER3: an error with fields: caught by one of some classes, kept, asked what it is, read -/
namespace DL
open PySem PySem.Spec PySem.Calls PySem.HandSPX PyProof.Rows L2
/-! ### one of some classes -/
section
variable {M : Model} {h : Heap}
theorem looks_each {f : Value → PUnit → Sem (ForInStep PUnit)} : ∀ cs : List Value, (∀ c ∈ cs, ∀ u, PySem.W.Looks M h (f c u) (.yield ⟨⟩)) → PySem.W.Looks M h (forIn cs (⟨⟩ : PUnit) f) ⟨⟩
  | [], _ => fun A Q E s k q => by rw [List.forIn_nil]; exact wpAny_pure q
  | c :: r, hf => fun A Q E s k q => by
    rw [List.forIn_cons]
    refine wpAny_bind (hf c List.mem_cons_self _ A _ E s k ?_)
    exact looks_each r (fun c hc => hf c (List.mem_cons_of_mem _ hc)) A Q E s k q
theorem looks_first {β : Type} {f : Value → β → Sem (ForInStep β)} {b0 b1 : β} : ∀ cs : List Value, (∀ c ∈ cs, PySem.W.Looks M h (f c b0) (.done b1) ∨ PySem.W.Looks M h (f c b0) (.yield b0)) → (∃ c, c ∈ cs ∧ PySem.W.Looks M h (f c b0) (.done b1)) → PySem.W.Looks M h (forIn cs b0 f) b1
  | [], _, ⟨_, hc, _⟩ => by cases hc
  | c :: r, hf, hit => fun A Q E s k q => by
    rw [List.forIn_cons]
    rcases hf c List.mem_cons_self with h1 | h1
    · exact wpAny_bind (h1 A _ E s k (wpAny_pure q))
    · obtain ⟨c2, hc2, h2⟩ := hit
      rcases List.mem_cons.mp hc2 with e | hm
      · subst e
        exact wpAny_bind (h2 A _ E s k (wpAny_pure q))
      · refine wpAny_bind (h1 A _ E s k ?_)
        exact looks_first r (fun c hc => hf c (List.mem_cons_of_mem _ hc)) ⟨c2, hm, h2⟩ A Q E s k q
/-- an error is of one of some classes -/
theorem exm_tupN {K : PySem.W.Frag} {cls : Value} {cs : List Value} {tp e : Addr} (X : K.In h) (lt : PySem.W.Looks M h (typeOf (.ref e)) cls) (hp : h.get? tp = some { cls := .type "tuple", data := .seq cs.toArray })
    (hall : ∀ c ∈ cs, ∃ b, PySem.W.exmOne K cls c = some b) (hit : ∃ c, c ∈ cs ∧ PySem.W.exmOne K cls c = some true) : PySem.W.Looks M h (excMatches (.ref e) (.ref tp)) true := by
  intro A Q E s k q
  have t0 : PySem.W.Looks M h (isInstance (.ref tp) (.type "tuple")) true := ((PySem.W.Looks.ld hp).andThen .now).andThen (PySem.W.Looks.of_pure isSubtype_tuple_tuple)
  unfold excMatches
  refine wpAny_bind (t0 A _ E s k ?_)
  dsimp only
  rw [if_pos rfl]
  have hp2 := k _ _ hp
  first
    | refine wpAny_bind (wpAny_seqItems hp2 rfl ?_)
    | refine wpAny_bind (wpAny_bind (wpAny_seqItems hp2 rfl (wpAny_pure ?_)))
  dsimp only [Option.getD_some, Option.getD]
  refine wpAny_bind (wpAny_pure ?_)
  refine wpAny_bind (looks_each (M := M) (h := h) _ (fun c hc u => ?_) A _ E s k ?_)
  · obtain ⟨b, hb⟩ := hall c hc
    intro A Q E s k q
    refine wpAny_bind ((PySem.W.exm_cls (M := M) X hb).1 A _ E s k ?_)
    simp only [Bool.not_true, Bool.false_eq_true, if_false]
    exact wpAny_pure q
  refine wpAny_bind (lt A _ E s k ?_)
  have one : ∀ (c : Value) (b : Bool), PySem.W.exmOne K cls c = some b → PySem.W.Looks M h (do
      let z ← isSubtype cls c
      if z = true then pure (ForInStep.done ((some true, ()) : Option Bool × Unit)) else pure (ForInStep.yield ((none, ()) : Option Bool × Unit))) (if b = true then .done (some true, ()) else .yield (none, ())) := fun c b hb => by
    intro A Q E s k q
    refine wpAny_bind ((PySem.W.exm_cls (M := M) X hb).2 A _ E s k ?_)
    cases b <;> exact wpAny_pure q
  refine wpAny_bind (looks_first (M := M) (h := h) (b1 := (some true, ())) cs (fun c hc => ?_) ?_ A _ E s k ?_)
  · obtain ⟨b, hb⟩ := hall c hc
    cases b with
    | true => exact .inl (one c true hb)
    | false => exact .inr (one c false hb)
  · obtain ⟨c, hc, hb⟩ := hit
    exact ⟨c, hc, one c true hb⟩
  · exact wpAny_pure q
end
/-! ### caught and kept -/
/-- what is known of an error: its class, its dict -/
def excAtD (a : Addr) (cls : Value) (d : Option Addr) : Heap → Prop := fun h => ∃ oe vs, h.get? a = some oe ∧ Zc cls d oe ∧ oe.data = .fields vs
theorem excAtD_stay {a : Addr} {cls : Value} {d : Option Addr} {h1 h2 : Heap} (x : excAtD a cls d h1) (k : ∀ o, h1.get? a = some o → h2.get? a = some o) : excAtD a cls d h2 := by
  obtain ⟨oe, vs, e, z, q⟩ := x
  exact ⟨oe, vs, k _ e, z, q⟩
section
variable {X : Cx} {pins : List (Addr × Obj)} {σ : L2.St} {H : Hp} {s sI : Shared}
theorem trackD {σ2 : L2.St} {H2 : Hp} {a : Addr} {cls : Value} {d : Option Addr} (J : L2.Inv X pins σ2 H2 sI) (fr : sI.heap.get? a = none) (I : L2.Inv X pins σ H s) (na : H a = none) (nL : a ≠ X.env.locals) (q : excAtD a cls d s.heap) :
    L2.Inv X pins σ (upd H a (.ext (excAtD a cls d))) s := by
  have ne : ∀ {b : Addr} {o : Obj}, sI.heap.get? b = some o → b ≠ a := fun {b o} e z => by rw [z, fr] at e; cases e
  have old : ∀ b u, H b = some u → upd H a (.ext (excAtD a cls d)) b = some u := fun b u e => by
    rw [upd_ne fun z => by rw [z, na] at e; cases e]; exact e
  refine { ok := I.ok, os := I.os, bare := I.bare, base := ⟨I.base.keep, I.base.slot, fun b o e n x => ?_, I.base.there, fun b xs e => ?_, fun b o u e => ?_, fun b ps e => ?_⟩, loc := I.loc, cell := I.cell, free := ?_, freeC := fun x c e => ?_, pin := fun p hp => ?_, hok := fun b o e => ?_, len := I.len }
  · obtain ⟨o2, e2⟩ := J.base.there b o e x
    rw [upd_ne (ne e2)]; exact I.base.free b o e n x
  · exact old _ _ (I.base.tups b xs e)
  · exact old _ _ (I.base.frzs b o u e)
  · obtain ⟨m, em⟩ := I.base.tbls b ps e
    exact ⟨m, old _ _ em⟩
  · rw [upd_ne (Ne.symm nL)]; exact I.free
  · obtain ⟨v, o, c1⟩ := J.cell x c e
    rw [upd_ne (ne c1.1)]; exact I.freeC x c e
  · obtain ⟨e1, e2, e3, e4, e5⟩ := I.pin p hp
    have := (J.pin p hp).1
    exact ⟨e1, by rw [upd_ne (ne this)]; exact e2, e3, e4, e5⟩
  · by_cases hb : b = a
    · subst hb
      rw [upd_same] at e
      cases e
      obtain ⟨oe, vs, q1, q2⟩ := id q
      exact ⟨q, ⟨oe, q1⟩, fun h1 h2 x k => excAtD_stay x k⟩
    · rw [upd_ne hb] at e
      exact (I.hok b o e).stay (fun _ _ _ z => z) (fun _ z => old _ _ z) fun _ _ z => old _ _ z
end
/-- names of classes, and what they name -/
inductive NamesAll (X : Cx) : List Expr → List Value → Prop
  | nil : NamesAll X [] []
  | cons {x : Str} {p : Pos} {c : Value} {es : List Expr} {cs : List Value} (h : Names X x c) (t : NamesAll X es cs) : NamesAll X (.Name x p :: es) (c :: cs)
theorem FlyingZ_keeps {B h h2 : Heap} {l : List Env} {a : Addr} {Z : Obj → Prop} (k : ∀ b o, h.get? b = some o → h2.get? b = some o) (x : HandSPX.FlyingZ B l a Z h) : HandSPX.FlyingZ B l a Z h2 := by
  obtain ⟨k1, k2, k3, oe, vs, T, oT, ts, he, hz, hd, h1, hn, hTe, hT, hdT, h3⟩ := x
  exact ⟨fun b o e => k b o (k1 b o e), k2, k3.of_keeps fun b o e _ => ⟨o, k b o e, rfl⟩, oe, vs, T, oT, ts, k _ _ he, hz, hd, h1, hn, hTe, k _ _ hT, hdT, h3⟩
/-- the clause 'except (x, y, ..) as n' that takes what comes, and after whose suite the error is still known -/
def wKeepT (K : PySem.W.Frag) (cs : List Value) (i : Nat) (ts : Addr → TS) (D : Ends) : WX := fun cls d σ H =>
  (∀ c ∈ cs, ∃ b, PySem.W.exmOne K cls c = some b) ∧ (∃ c, c ∈ cs ∧ PySem.W.exmOne K cls c = some true) ∧ ∀ a, H a = none →
    ts a { nx := fun σ2 H2 => D.nx (σ2.set i none) (upd H2 a (.ext (excAtD a cls d))), rt := fun _ _ => False } (σ.set i (some (.ref a))) H
section
variable {X : Cx} {n : Str} {cs : List Value} {es : List Expr} {i tk : Nat} {body suite : List Stmt} {st : Stmt} {np pos hpos : Pos} {tb : WX → TS} {ts : Addr → TS}
theorem ps_try_keepT (hs : X.stack = X.env :: X.outer) (hf : X.env.frame = some X.env.locals) (hN : X.N.Nodup) (hi : X.N[i]? = some n) (hln : X.env.kindOf n = some .local) (hc : NamesAll X es cs) (hlen : cs.length ≤ 100)
    (hb : ∀ (W : WX) (pn : List (Addr × Obj)) (xe : Value → Shared → Prop), Takes (X.tr pn xe) W → PSs (X.tr pn xe) body (tb W))
    (hsu : ∀ (a : Addr) (oe : Obj) (pn : List (Addr × Obj)), PSs (X.suite a ((a, oe) :: pn)) (st :: suite) (ts a)) :
    PS X (.Try body [.ExceptHandler (some (.Tuple es tk np)) (some n) (st :: suite) hpos] [] [] pos) (fun D σ H => tb (wKeepT X.K cs i ts D) D σ H) := by
  refine ⟨fun pins s σ H D I h => ?_⟩
  have ok := I.ok
  have frames : X.A.frames = some (X.env :: X.outer) := ok.frames.trans (by rw [hs])
  refine wpAny_Try_except ?_
  let out : Value → Shared → Prop := fun e r1 =>
    wpAny (model X.prog X.w) X.A (noteFrame e X.env)
      (fun _ r2 => wpAny (model X.prog X.w) X.A (setFlight e none)
        (fun _ r3 => wpAny (model X.prog X.w) X.A
          (handleBy e X.env [.ExceptHandler (some (.Tuple es tk np)) (some n) (st :: suite) hpos]) (SP X pins D) X.xe r3) X.xe r2) X.xe r1
  have takes : Takes (X.tr (X.pn ++ pins) out) (wKeepT X.K cs i ts D) := by
    intro u s1 xx
    obtain ⟨a, B, sI, pinsT, σ1, H1, cls, d, rfl, JT, nb, up, sky, na, os, ag, hall, hit, hts⟩ := xx
    have J : L2.Inv X pins σ1 H1 sI := JT.ofTry ok
    have sky1 : Sky B (X.env :: X.outer) a (Zc cls d) X.env.locals s1.heap := hs ▸ sky
    show wpAny (model X.prog X.w) X.A (noteFrame (.ref a) X.env) _ _ _
    refine Sky.land Zc.steady frames hf sky1 fun h3 fl3 up3 => ?_
    have J3 : L2.Inv X pins σ1 H1 { s1 with heap := h3 } := J.landed nb fl3.1 (up.trans up3) os ag
    obtain ⟨oe3, vs3, he3, hz3, hd3⟩ := fl3.there
    have nfr : a ∉ frs (X.env :: X.outer) := fun hm => by
      obtain ⟨_, o1, e1, ne1⟩ := fl3.2.2.1.mem hm
      have e2 := he3.symm.trans e1
      cases e2
      exact ne1 _ hd3
    have nL : a ≠ X.env.locals := fun z => nfr (by
      refine List.mem_filterMap.mpr ⟨X.env, List.mem_cons_self, ?_⟩
      rw [hf, z])
    have nF : a ∉ X.fs := fun hm => by
      obtain ⟨e, he, q⟩ := List.mem_filterMap.mp hm
      exact nfr (List.mem_filterMap.mpr ⟨e, List.mem_cons_of_mem _ he, q⟩)
    have fr : sI.heap.get? a = none := by
      cases e : sI.heap.get? a with
      | none => rfl
      | some o =>
        have z := nb a o e (by rw [hs]; exact nfr)
        rw [fl3.2.1] at z
        cases z
    have S3 := J3.suite he3 hd3 na nL nF
    refine wpAny_handleBy_cons (codeAny_handlers_test ?_) (by intro q; cases q)
    have look1 : ∀ {x : Str} {p : Pos} {c : Value} {Q E : Value → Shared → Prop}, Names X x c → Q c { s1 with heap := h3 } →
        wpAny (model X.prog X.w) (X.A.mark (some (.ref a))) (eval (.Name x p) X.env) Q E { s1 with heap := h3 } := fun {x p c Q E} hc q => by
      obtain ⟨hg, hdb, g | ⟨g, hv, hnn⟩⟩ := hc
      · exact ld_glob (X := X.suite a ((a, oe3) :: (X.pn ++ pins))) S3 hg g q hdb
      · exact ld_blt (X := X.suite a ((a, oe3) :: (X.pn ++ pins))) S3 hg g hv q hnn hdb
    have lookA : ∀ {es : List Expr} {cs : List Value}, NamesAll X es cs → ∀ {Q : List Value → Shared → Prop} {E : Value → Shared → Prop}, Q cs { s1 with heap := h3 } →
        wpAny (model X.prog X.w) (X.A.mark (some (.ref a))) (spliced (backTo np (starEach es X.env))) Q E { s1 with heap := h3 } := fun {es cs} hc => by
      induction hc with
      | nil => intro Q E q; exact Calls.spliced_nil q
      | cons h t ih => intro Q E q; exact Calls.spliced_cons (look1 h (ih q))
    refine wpAny_Tuple_spliced (lookA hc ⟨by rw [sizeLine_eq]; omega, ?_⟩)
    generalize hh : (h3.push { cls := .type "tuple", data := .seq cs.toArray }) = h5
    have k5 : ∀ b o, h3.get? b = some o → h5.get? b = some o := fun b o e => by rw [← hh]; exact Heap.get?_push_of_some _ e
    have tp5 : h5.get? h3.objs.size = some { cls := .type "tuple", data := .seq cs.toArray } := by rw [← hh]; exact Heap.get?_push_size _ rfl
    have fl5 := FlyingZ_keeps k5 fl3
    have up5 : s1.heap.UpToSlots h5 := up3.trans (Heap.UpToSlots.of_keeps k5)
    have J5 : L2.Inv X pins σ1 H1 { s1 with heap := h5 } := J.landed nb fl5.1 (up.trans up5) os ag
    obtain ⟨oe5, vs5, he5, hz5, hd5⟩ := fl5.there
    have lt : PySem.W.Looks (model X.prog X.w) h5 (typeOf (.ref a)) cls :=
      fun A Q E s k q => wpAny_typeOf_ref (k _ _ he5) (by rw [hz5.1]; exact q)
    have lm := exm_tupN (M := model X.prog X.w) (J5.kIn) lt tp5 hall hit
    refine lm.here ?_
    refine codeAny_handlers_suite_as ?_
    refine HandSPX.lands_againZ fl5 fun h4 fl4 up4 => ?_
    have J4 : L2.Inv X pins σ1 H1 { s1 with heap := h4 } :=
      J.landed nb fl4.1 ((up.trans up5).trans up4) os ag
    obtain ⟨oe4, vs4, he4, hz4, hd4⟩ := fl4.there
    have S4 := J4.suite he4 hd4 na nL nF
    refine store_ok (X := X.suite a ((a, oe4) :: (X.pn ++ pins))) (v := .ref a) S4 hN hi (.inl hln) rfl (fun s5 S5 => ?_) (.inr hln)
    refine wpAny_mono ((hsu a oe4 (X.pn ++ pins)).run [] s5 _ H1 _ S5 (hts a na)) (fun f s6 hsp => ?_) (fun _ _ z => z.elim)
    match f, hsp with
    | .next, ⟨σ6, H6, S6, q6⟩ =>
      refine gone_ok (X := X.suite a ((a, oe4) :: (X.pn ++ pins))) S6 hN hi hln fun s7 S7 => ?_
      obtain ⟨p1, p2, _⟩ := S7.pin (a, oe4) (List.mem_append.mpr (.inl List.mem_cons_self))
      exact ⟨_, _, trackD J fr (S7.unsuite ok) p2 nL ⟨oe4, _, p1, hz4, hd4⟩, q6⟩
    | .ret u, ⟨_, _, _, _, _, q6⟩ => exact q6.elim
    | .brk, ⟨_, _, _, q6⟩ => exact q6.elim
    | .cont, ⟨_, _, _, q6⟩ => exact q6.elim
  refine wpAny_mono ((hb (wKeepT X.K cs i ts D) (X.pn ++ pins) out takes).run [] s σ H D (I.toTry _) h) (fun f s1 hsp => ?_) (fun e s1 he => he)
  match f, hsp with
  | .next, ⟨σ1, H1, J1, q⟩ => exact wpAny_execs_nil ⟨σ1, H1, J1.ofTry ok, q⟩
  | .brk, ⟨σ1, H1, J1, q⟩ => exact ⟨σ1, H1, J1.ofTry ok, q⟩
  | .cont, ⟨σ1, H1, J1, q⟩ => exact ⟨σ1, H1, J1.ofTry ok, q⟩
  | .ret u, ⟨v, σ1, H1, J1, r, q⟩ => exact ⟨v, σ1, H1, J1.ofTry ok, r, q⟩
end
end DL

set_option Elab.async false
set_option linter.all false
set_option maxRecDepth 100000
set_option maxHeartbeats 4000000
/-! ER4: a kept error asked what it is; its fields read -/
namespace DL
open PySem PySem.Spec PySem.Calls PyProof.Rows L2
section
variable {prog : Program} {w : World} {A : Around} {E : Value → Shared → Prop} {s : Shared} {K : PySem.W.Frag} {x D : Addr} {ox : Obj} {od : Option Obj}
/-- error.__class__ of an error with or without a dict -/
theorem clsOfE {Q : Option Value → Shared → Prop} (C : ExcC K D) (X : K.In s.heap) (I : PySem.W.InstAt s.heap x ox D od) (h : Q (some (.ref D)) { s with toks := s.toks + 1 }) : wpAny (model prog w) A (getAttr? (.ref x) "__class__") Q E s := by
  have hf : PySem.W.findObj K D od "__class__" = some (.bind (.builtin "getset_descriptor.__get__") (.builtin "object.__class__")) := by
    obtain ⟨cd, hc, _⟩ := PySem.W.any_some C.hd
    unfold PySem.W.findObj
    rw [hc, Option.bind_some, C.ha, Option.bind_some]
    simp [C.hn, C.ht]
  obtain ⟨hp, g, d, t, os⟩ := s
  have l0 := I.type (M := model prog w)
  have l1 := PySem.W.looks_findIn (M := model prog w) X C.hg
  have l2 := PySem.W.looks_findIn (M := model prog w) X C.hk
  have l3 := PySem.W.looks_find (M := model prog w) X I hf
  have sb : PySem.W.Looks (model prog w) hp (isInstance (.ref x) (.type "BaseException")) true := l0.andThen (PySem.W.looks_subIn X C.hs)
  have z2 : (Value.builtin "BaseException.__getattribute__" == Value.builtin "object.__getattribute__") = false := by decide +kernel
  have z1 : (onTheHeap (Value.ref D) && Value.builtin "BaseException.__getattribute__" == Value.builtin "object.__getattribute__") = false := by rw [z2]; rfl
  have z0 : (false && onTheHeap (Value.builtin "BaseException.__getattribute__")) = false := rfl
  unfold getAttr? getAttrBy? getAttrBy
  refine wpAny_bind (wpAny_mkText (wpAny_bind (wpAny_attempt (wpAny_holding (wpAny_bind (l0.at (wpAny_bind (l1.at ?_))))))))
  show wpAny _ _ (if (onTheHeap (Value.ref D) && Value.builtin "BaseException.__getattribute__" == Value.builtin "object.__getattribute__") = true then _ else _) _ _ _
  rw [z1, if_neg Bool.false_ne_true]
  unfold getAttrByItsOwn hookBefore
  refine wpAny_bind ?_
  rw [if_pos (show onTheHeap (Value.ref D) = true from rfl)]
  refine l2.at ?_
  refine wpAny_bind (wpAny_attempt (wpAny_holding ?_))
  unfold callGetattribute
  rw [z0, if_neg Bool.false_ne_true]
  unfold boundAndCalled
  rw [PySem.F.excAttr_ValueError.ga.bind (.ref x)]
  refine wpAny_bind (wpAny_pure ?_)
  show wpAny _ _ (call (.builtin "BaseException.__getattribute__") [.ref x, .str "__class__" t]) _ _ _
  refine wpAny_call (codeAny_call_builtin PySem.F.excAttr_ValueError.ga.plain PySem.F.entry_bexc_ga ?_)
  refine @PySem.W.check_slot (model prog w) _ _ ⟨hp, g, d, t + 1, os⟩ "BaseException.__getattribute__" "BaseException" "__getattribute__" (.ref x) [.str "__class__" t] [] _ (by decide +kernel) (by decide +kernel) sb (PySem.F.args_bexc_ga (.ref x) (.str "__class__" t)) ?_
  unfold Builtin.«object.__getattribute__»
  refine wpAny_bind (wpAny_of_eq (a := ((Value.ref x : Value), [Value.str "__class__" t])) (by first | rfl | (simp only [Builtin.slotArgs]; rfl)) ?_)
  refine wpAny_bind (wpAny_pure (wpAny_bind (l0.at (wpAny_bind (l3.at ?_)))))
  show wpAny _ _ (holding [Value.builtin "object.__class__"] (call (.builtin "getset_descriptor.__get__") [.builtin "object.__class__", .ref x, .ref D]) >>= PySem.ret) _ _ _
  refine wpAny_bind (wpAny_holding (wpAny_call (PySem.W.class_get (s := ⟨hp, g, d, t + 1, os⟩) (ox := ox) (od := od) X I C.hm ?_)))
  refine wpAny_pure ?_
  show wpAny _ _ (handedOut (.ref D)) _ _ _
  rw [PySem.W.handedOut_of (v := .ref D) rfl]
  first
    | exact wpAny_pure (wpAny_pure h)
    | exact wpAny_pure h
    | exact wpAny_pure (wpAny_bind (wpAny_pure (wpAny_pure h)))
theorem kitE (C : ExcC K D) : PySem.W.KitX K (.ref x) (.ref D) (fun h => PySem.W.InstAt h x ox D od) where
  ty := fun _ _ _ I => I.type
  it := fun _ _ X _ => by
    obtain ⟨cd, hc, _⟩ := PySem.W.any_some C.hd
    unfold PySem.W.clsIn at hc
    split at hc
    · rename_i c1 d1 cd1 sl1 ho
      intro A2 Q2 E2 s2 k q
      unfold isType loadHead
      exact wpAny_bind (wpAny_loadPart (k _ _ (X _ _ ho)) (wpAny_pure q))
    · cases hc
  ne := fun h tp dd its n sl X htp => by
    obtain ⟨cd, hc, _⟩ := PySem.W.any_some C.hd
    refine Bool.eq_false_iff.mpr fun q => ?_
    have e : D = tp := Value.ref.inj (beq_iff_eq.mp q)
    subst e
    unfold PySem.W.clsIn at hc
    split at hc
    · rename_i c1 d1 cd1 sl1 ho
      have z := (X _ _ ho).symm.trans htp
      cases z
    · cases hc
  ca := fun X I k => clsOfE C X I k
end
/-- a kept error with its fields -/
def KeptE (H : Hp) (a C : Addr) (d : Option Addr) : Prop := H a = some (.ext (excAtD a (.ref C) d)) ∧ ∀ dd, d = some dd → ∃ fs, H dd = some (.xd fs)
/-- isinstance(e, c) of a kept error -/
def rIsiD (K : PySem.W.Frag) : List V → Hp → VK → Prop := fun xs H Q => ∃ (a C : Addr) (d : Option Addr) (c : V) (u : Value) (b : Bool), xs = [.ref a, c] ∧ ClsV c u ∧ KeptE H a C d ∧ ExcC K C ∧ PySem.W.kitOne K (.ref C) u = some b ∧ Q (.bl b) H
section
variable {X : Cx} {pins : List (Addr × Obj)} {σ : L2.St} {H : Hp} {s : Shared} {a C : Addr} {d : Option Addr}
theorem inst_E (I : L2.Inv X pins σ H s) (h : KeptE H a C d) : ∃ ox od, PySem.W.InstAt s.heap a ox C od ∧ (∀ dd, d = some dd → ∃ o, od = some o ∧ s.heap.get? dd = some o) := by
  obtain ⟨h, hdd⟩ := h
  have q : ObjOk X.prog X.w H s.heap a (.ext (excAtD a (.ref C) d)) := I.hok a _ h
  obtain ⟨oe, vs, e, z, dt⟩ := q.1
  obtain ⟨oc, odi, oda, osl⟩ := oe
  obtain ⟨h1, h2⟩ := z
  dsimp only at h1 h2 dt
  subst h1 h2 dt
  cases odi with
  | none => exact ⟨_, none, ⟨e, rfl, rfl, trivial⟩, fun dd z => by cases z⟩
  | some dd =>
    obtain ⟨fs, hf⟩ := hdd dd rfl
    have q2 : ObjOk X.prog X.w H s.heap dd (.xd fs) := I.hok dd _ hf
    obtain ⟨mA, hns, hr⟩ := q2
    obtain ⟨o, es, ep, ho, hl⟩ := hns
    exact ⟨_, some o, ⟨e, rfl, rfl, ho⟩, fun dd2 z => by cases z; exact ⟨o, rfl, ho⟩⟩
theorem call_isD : CallR X (.builtin "isinstance") (rIsiD X.K) := by
  intro pins s σ H xs us Q I r h
  obtain ⟨a, C, d, c, u, b, rfl, k, ha, hC, e, q⟩ := h
  obtain ⟨u1, u2, rfl, r1, r2⟩ := vals2 r
  have e2 := k.eq r2
  subst e2
  cases (show u1 = Value.ref a from r1)
  obtain ⟨ox, od, J, _⟩ := inst_E I ha
  exact PySem.W.kia_one (kitE (x := a) (ox := ox) (od := od) hC) I.kIn J e (fun z => nomatch z) fun tk => ⟨.bl b, H, I.tok tk, rfl, q⟩
end
/-- e.f of a kept error -/
def tEf (K : PySem.W.Frag) (f : Str) (te : TE) : TE := fun σ H Q => te σ H fun x H1 => ∃ (a C dd : Addr) (fs : List (Str × V)) (v : V), x = .ref a ∧ H1 a = some (.ext (excAtD a (.ref C) (some dd))) ∧ H1 dd = some (.xd fs) ∧ XfC K C ∧ PySem.W.findIn K (.ref C) f = some none ∧
  fs.lookup f = some v ∧ Q v H1
theorem pe_ef {X : Cx} {e : Expr} {te : TE} {pos : Pos} {n : Str} (he : PE X e te) (hb : attributeBase e n X.env (eval e X.env) = eval e X.env := by rfl) : PE X (.Attribute e n pos) (tEf X.K n te) := by
  refine ⟨fun pins s σ H Q I h => ?_⟩
  refine attr_of hb (thn (he.run pins s σ H _ I h) fun u s1 hh => ?_)
  obtain ⟨x, H1, I1, rx, a, C, dd, fs, v, ex, ha, hdd, T, hno, l, q⟩ := hh
  subst ex
  obtain rfl : u = Value.ref a := rx
  have hx : ObjOk X.prog X.w H1 s1.heap dd (.xd fs) := I1.hok dd _ hdd
  obtain ⟨mA, hns, hr⟩ := hx
  obtain ⟨od, ho, hl⟩ := lookIn_ns hns
  obtain ⟨u, hu, ru⟩ := RelO.some_of (v := v) (o := mA n) (by rw [← l]; exact hr n)
  have q0 : ObjOk X.prog X.w H1 s1.heap a (.ext (excAtD a (.ref C) (some dd))) := I1.hok a _ ha
  obtain ⟨oe, vs, e0, z, dt⟩ := q0.1
  have J : PySem.W.InstAt s1.heap a oe C (some od) := ⟨e0, z.1, by unfold PySem.W.notCls; rw [dt] <;> rfl, by rw [z.2]; exact ho⟩
  exact HandSPX.exc_get I1.kIn J T.ga T.gg T.exC (PySem.W.findObj_own T.hdC hno rfl (by rw [hl, hu])) (handed_of ru) ⟨v, H1, I1.tok _, ru, q⟩
end DL

set_option Elab.async false
set_option linter.all false
set_option maxRecDepth 100000
set_option maxHeartbeats 4000000
/-! DM1: enumerate of a tuple; how many of a list are alike -/
namespace DL
open PySem PySem.Spec PyProof.Rows L2 Sem
set_option maxHeartbeats 1000000 in
section
variable {prog : Program} {w : World} {A : Around} {E : Value → Shared → Prop} {s : Shared}
end
/-- the tuple at a, each item in a new pair -/
def Iet (K : PySem.W.Frag) (a : Addr) : It :=
  ⟨fun i H => ∃ (xs : List V) (x : V), SqT K H a xs ∧ xs[i]? = some x, fun i H v H' => ∃ T x, v = .ref T ∧ H T = none ∧ H' = upd H T (.tup [.int (i : Nat), x]) ∧ ∀ xs, SqT K H a xs → xs[i]? = some x, fun i H => ∃ xs : List V, SqT K H a xs ∧ xs.length = i⟩
def iEnumT (K : PySem.W.Frag) (ta : TA) : TI := fun σ H R => ta σ H fun vs H1 => ∃ a xs, vs = [.ref a] ∧ SqT K H1 a xs ∧ R (Iet K a) H1
/-! ### how many are alike -/
def rCntF (K : PySem.W.Frag) : V → List V → Hp → VK → Prop := fun x xs H Q => ∃ (a : Addr) (ys : List V) (y : V), x = .ref a ∧ xs = [y] ∧ SqL K H a ys ∧ flatV y = true ∧ ys.all flatV = true ∧ Q (.int (ys.countP fun z => eqV z y : Nat)) H
/-! ### over data -/
section
variable {K : PySem.W.Frag} {S : Stt} {ρ : Rho} {Φ : PyData → Rho → Prop} {Ψ : PyData → Prop}
end
end DL

set_option Elab.async false
set_option linter.all false
set_option maxRecDepth 100000
set_option maxHeartbeats 4000000
/-! DLQ: rows, lists or tuples -/
namespace DL
open PySem PySem.Spec PyProof.Rows L2
abbrev tTru (K : PySem.W.Frag) (t : TE) : TT := fun σ H Q => t σ H fun x H1 => ∃ k, TruV K x H1 k ∧ Q k H1
def iRow (K : PySem.W.Frag) (t : TE) : TI := fun σ H R => iList K t σ H R ∨ iTup K t σ H R
def rIxR (K : PySem.W.Frag) : R2 := fun x y H Q => rIxL K x y H Q ∨ rIxT K x y H Q
section
variable {K : PySem.W.Frag} {S : Stt} {ρ : Rho} {Φ : Bool → Rho → Prop} {Ψ : PyData → Prop}
/-- list(row), tuple(row) -/
abbrev rListOf (K : PySem.W.Frag) : List V → Hp → VK → Prop := fun xs H Q => ∃ p ys, xs = [.ref p] ∧ (SqL K H p ys ∨ SqT K H p ys) ∧ ∀ l, H l = none → Q (.ref l) (upd H l (.lst ys))
abbrev rTupOf (K : PySem.W.Frag) : List V → Hp → VK → Prop := fun xs H Q => ∃ p ys, xs = [.ref p] ∧ ((SqL K H p ys ∧ ∀ l, H l = none → Q (.ref l) (upd H l (.tup ys))) ∨ (SqT K H p ys ∧ Q (.ref p) H))
end
end DL

set_option Elab.async false
set_option linter.all false
set_option maxRecDepth 100000
set_option maxHeartbeats 4000000
/-! DLO: a list of one's own, read and popped; sums of parts -/
namespace DL
open PySem PySem.Spec PyProof.Rows L2
section
variable {K : PySem.W.Frag} {S : Stt} {ρ : Rho} {Φ : PyData → Rho → Prop} {Ψ : PyData → Prop}
end
end DL

set_option Elab.async false
set_option linter.all false
set_option maxRecDepth 100000
set_option maxHeartbeats 4000000
/-! DM2: a pot of draws, made anew at each turn -/
namespace DL
open PySem PySem.Spec PyProof.Rows L2
structure PotL (ns : List Int) (B : Nat) : Prop where
  ex : ∃ a b c : Int, ns = [a, b, c] ∧ 0 ≤ a ∧ 0 ≤ b ∧ b < 2 ^ 62 ∧ 0 ≤ c ∧ c ≤ B
def mkP (a : Addr) : Stt where
  a := a
  fp b := decide (b = a)
  ok H B := ∃ ns, PotL ns B ∧ H a = some (.lst (ns.map V.int))
  loc H H' B h k := by
    obtain ⟨ns, h1, h2⟩ := k
    exact ⟨ns, h1, (h a (by simp)).trans h2⟩
  trk H B k b hb := by
    obtain ⟨ns, h1, h2⟩ := k
    have e : b = a := of_decide_eq_true hb
    rw [e, h2]; simp
def FPot (S : Stt) : Prop := ∃ a, S = mkP a
/-- a new list of whole numbers -/
def spN (K : PySem.W.Frag) (T : List PyData → (List Int → Prop) → Prop) : Sp := fun vs H Q _ => ∃ (N : Av) (ds : List PyData) (Φ : List Int → Prop),
  (∀ b, N b = true → H b ≠ none) ∧ DqAll K N H vs ds ∧ T ds Φ ∧ ∀ ns, Φ ns → ∀ p H', H p = none → Same H H' → H' p = some (.lst (ns.map V.int)) → Q (.ref p) H'
section
variable {K : PySem.W.Frag} {S : Stt} {ρ : Rho} {Φ : PyData → Rho → Prop} {Ψ : PyData → Prop}
end
/-! ### the draw -/
def TTake : Nat → List PyData → (PyData → Nat → Prop) → Prop := fun B ds Φ => ∃ m : Int, ds = [.int m] ∧ 1 ≤ m ∧ m ≤ 2 ^ 40 ∧ B ≤ 2 ^ 40 ∧ ∀ d : Int, 0 ≤ d → d < m → Φ (.int d) (B + 1)
def t_take (K : PySem.W.Frag) : TS :=
  (tSeq (tIfS (tTest (tOp rGe (tOp (rIxL K) (tVar 0) (tC (.int 0))) (tVar 1))) (tSeq (tAsg (tOp rModI (tOp (rIxL K) (tVar 0) (tC (.int 0))) (tVar 1)) (gName 2))
    (tSeq (tAsg (tOp rDivI (tOp (rIxL K) (tVar 0) (tC (.int 0))) (tVar 1)) (gSub (tVar 0) (tC (.int 0)) rSetL))
    (tRet (tVar 2)))) tNext)
    (tSeq (tAsg (tOp rAddI (tOp (rIxL K) (tVar 0) (tC (.int 2))) (tC (.int 1))) (gSub (tVar 0) (tC (.int 2)) rSetL))
    (tSeq (tAsg (tLst (tCons (tC (.int 2147483647)) (tCons (tC (.int 2147483629)) (tCons (tC (.int 2147483587)) (tCons (tC (.int 2147483579)) tNil))))) (gName 3))
    (tSeq (tAsg (tOp rCatL (tVar 3) (tLst (tCons (tC (.int 2147483563)) (tCons (tC (.int 2147483549)) (tCons (tC (.int 2147483543)) (tCons (tC (.int 2147483497)) tNil)))))) (gName 3))
    (tSeq (tAsg (tOp (rIxL K) (tVar 3) (tOp rModI (tOp (rIxL K) (tVar 0) (tC (.int 2))) (tC (.int 8)))) (gName 4))
    (tSeq (tAsg (tOp rModI (tOp rPowI (tOp rAddI (tOp rModI (tOp (rIxL K) (tVar 0) (tC (.int 1))) (tVar 4)) (tOp rMulI (tC (.int 104729)) (tOp (rIxL K) (tVar 0) (tC (.int 2))))) (tC (.int 3))) (tVar 4)) (gName 5))
    (tSeq (tAsg (tOp rAddI (tOp rAddI (tOp rAddI (tOp rMulI (tVar 5) (tVar 5)) (tOp rMulI (tOp rMulI (tC (.int 31)) (tOp (rIxL K) (tVar 0) (tC (.int 2)))) (tVar 5))) (tOp rModI (tOp (rIxL K) (tVar 0) (tC (.int 1))) (tC (.int 1000003)))) (tC (.int 7))) (gName 6))
    (tSeq (tAsg (tOp rModI (tVar 6) (tOp (rIxL K) (tVar 3) (tOp rModI (tOp rAddI (tOp (rIxL K) (tVar 0) (tC (.int 2))) (tC (.int 3))) (tC (.int 8))))) (gName 6))
    (tRet (tOp rModI (tOp rDivI (tOp rModI (tOp rPowI (tVar 6) (tC (.int 3))) (tOp (rIxL K) (tVar 3) (tOp rModI (tOp rAddI (tOp (rIxL K) (tVar 0) (tC (.int 2))) (tC (.int 5))) (tC (.int 8))))) (tC (.int 64))) (tVar 1)))))))))))
end DL

set_option Elab.async false
set_option linter.all false
/-! LM1: parts as rationals, their sizes -/
namespace DL
/-- the height of a part -/
def hgt (q : Rat) : Nat := q.num.natAbs + q.den
/-- the bits of a part -/
def sz (q : Rat) : Nat := (hgt q).log2 + 1
/-- a pair in lowest terms, of two whole numbers -/
def nrm' (a b : Int) : Int × Int := ((if 0 < b then a else -a) / ((Nat.gcd a.natAbs b.natAbs : Nat) : Int), ((b.natAbs : Nat) : Int) / ((Nat.gcd a.natAbs b.natAbs : Nat) : Int))
end DL

set_option Elab.async false
set_option linter.all false
/-! LM2: lines -/
namespace DL
abbrev Kn := List (Rat × Rat)
def kn (ks : Kn) (i : Nat) : Rat × Rat := ks.getD i (0, 0)
/-- the slope behind a knot -/
def slp (ks : Kn) (s : Rat) (i : Nat) : Rat := if i + 1 < ks.length then ((kn ks (i + 1)).2 - (kn ks i).2) / ((kn ks (i + 1)).1 - (kn ks i).1) else s
def Rising (ks : Kn) : Prop := ∀ i, i + 1 < ks.length → (kn ks i).1 < (kn ks (i + 1)).1
/-- the number of the last knot no greater -/
structure AtK (ks : Kn) (x : Rat) (i : Nat) : Prop where
  lt : i < ks.length
  le : (kn ks i).1 ≤ x
  nx : i + 1 < ks.length → x < (kn ks (i + 1)).1
def yOf (ks : Kn) (s : Rat) (x : Rat) (i : Nat) : Rat := (kn ks i).2 + slp ks s i * (x - (kn ks i).1)
open Classical in
/-- the line's y -/
noncomputable def yAt (ks : Kn) (s : Rat) (x : Rat) : Rat := if h : ∃ i, AtK ks x i then yOf ks s x (choose h) else 0
/-- all parts of a line within a size -/
structure KsB (B : Nat) (ks : Kn) (s : Rat) : Prop where
  x : ∀ i, i < ks.length → sz (kn ks i).1 ≤ B
  y : ∀ i, i < ks.length → sz (kn ks i).2 ≤ B
  s : sz s ≤ B
/-- a line that can be asked -/
structure Ln (B : Nat) (ks : Kn) (s : Rat) : Prop where
  b : KsB B ks s
  pos : 0 < ks.length
  fst : (kn ks 0).1 = 0
  ris : Rising ks
/-- an index loop: the last so far that is no greater -/
def lastIx (ks : Kn) (x : Rat) : Nat → Nat
  | 0 => 0
  | n + 1 => if x < (kn ks n).1 then lastIx ks x n else n
end DL

set_option Elab.async false
set_option linter.all false
set_option maxRecDepth 100000
set_option maxHeartbeats 4000000
/-! LQ1: parts reckoned, as rationals -/
namespace DL
open PySem PySem.Spec PyProof.Rows L2
def qp (q : Rat) : PyData := .tuple [.int q.num, .int (q.den : Int)]
def TLow : List PyData → (PyData → Prop) → Prop := fun ds Φ => ∃ a b : Int, ds = [.int a, .int b] ∧ b ≠ 0 ∧ a.natAbs < 2 ^ 8000 ∧ b.natAbs < 2 ^ 8000 ∧ Φ (qp (Rat.divInt a b))
def TQ2 (P : Rat → Rat → Prop) (f : Rat → Rat → PyData) : List PyData → (PyData → Prop) → Prop := fun ds Φ => ∃ q r : Rat, ds = [qp q, qp r] ∧ sz q ≤ 3800 ∧ sz r ≤ 3800 ∧ P q r ∧ Φ (f q r)
def TAdQ := TQ2 (fun _ _ => True) fun q r => qp (q + r)
def TSbQ := TQ2 (fun _ _ => True) fun q r => qp (q - r)
def TMlQ := TQ2 (fun _ _ => True) fun q r => qp (q * r)
def TDvQ := TQ2 (fun _ r => r ≠ 0) fun q r => qp (q / r)
def TLtQ := TQ2 (fun _ _ => True) fun q r => .bool (decide (q < r))
section
variable {q r : Rat} {Φ : PyData → Prop}
end
local macro_rules | `(tactic| walk_at "dl") => `(tactic| repeat' (first
  | with_reducible refine wd_isTy ?_ | with_reducible refine wd_isi ?_ | with_reducible refine wd_op ?_ | ((with_reducible show WD _ _ (tCB (rLenX _) (tCons (tVar _) tNil)) _ _); refine wd_len_scr rfl ?_) | with_reducible refine wd_cb ?_ | with_reducible refine wd_un ?_ | with_reducible refine wa_cons ?_ | with_reducible refine wa_nil ?_ | ((with_reducible show WD _ _ (tVar _) _ _); refine wd_var rfl ?_) | with_reducible refine wd_int ?_ | with_reducible refine wd_bl ?_ | with_reducible refine wd_str ?_ | with_reducible refine wd_non ?_
  | with_reducible refine do_add ?_ | with_reducible refine do_sub ?_ | ((with_reducible refine do_mod ?_ ?_); decide) | with_reducible refine do_mod ?_ ?_ | with_reducible refine do_mul ?_ ?_ | ((with_reducible refine do_div ?_ ?_); exact ⟨by decide, by decide⟩) | with_reducible refine do_div ?_ ?_ | ((with_reducible refine do_pow ?_ ?_); exact ⟨by decide, by decide, by decide⟩) | with_reducible refine do_pow ?_ ?_
  | with_reducible refine do_lt ?_ | with_reducible refine do_le ?_ | with_reducible refine do_gt ?_ | with_reducible refine do_ge ?_ | with_reducible refine du_neg ?_
  | with_reducible refine do_eqi ?_ | with_reducible refine do_nei ?_ | with_reducible refine do_eqs ?_ | with_reducible refine do_nes ?_ | with_reducible refine dc_abs ?_ | with_reducible refine dc_min ?_ | with_reducible refine dc_max ?_ | with_reducible refine dc_lenL ?_ | with_reducible refine dc_lenT ?_ | with_reducible refine dc_gcd ?_
  | ((with_reducible show DO _ (rIxT _) _ _ _); refine do_ixT rfl ?_) | ((with_reducible show DO _ (rIxL _) _ _ _); refine do_ixL rfl ?_) | ((with_reducible refine do_catL ?_ ?_); exact Nat.le_of_ble_eq_true rfl) | with_reducible refine do_catL ?_ ?_ | ((with_reducible show And (List.length _ ≤ sizeLine) _); refine ⟨Nat.le_of_ble_eq_true rfl, ?_⟩)
  | with_reducible refine wd_dnew ?_ | with_reducible refine wd_call0 ?_ | with_reducible refine tAdQ ?_ ?_ ?_ | with_reducible refine tSbQ ?_ ?_ ?_ | with_reducible refine tMlQ ?_ ?_ ?_ | with_reducible refine tDvQ ?_ ?_ ?_ ?_ | with_reducible refine tLtQ ?_ ?_ ?_ | with_reducible refine dc_str ?_ ?_ | with_reducible refine wd_tup ?_ | with_reducible refine wd_lst ?_ | with_reducible refine wt_test ?_ | with_reducible refine wt_B ?_ | with_reducible refine wt_not ?_ | with_reducible refine wt_and ?_ | with_reducible refine wt_or ?_ | with_reducible refine wd_ifE ?_ | with_reducible refine wd_andV ?_ | with_reducible refine wd_orV ?_ | with_reducible refine wd_notV ?_
  | with_reducible refine ws_seq ?_ | with_reducible refine ws_next ?_ | with_reducible refine ws_asg ?_ | with_reducible refine ws_ret ?_ | with_reducible refine ws_retN ?_ | with_reducible refine ws_if ?_ | with_reducible refine ws_par ?_ | with_reducible refine ws_unp2 ?_
  | with_reducible refine if_t ?_ | with_reducible refine if_f ?_ | with_reducible refine if_nf ?_ | with_reducible refine if_nt ?_
  | ((with_reducible show Exists _); first | refine ⟨_, kitInt _, ?_⟩ | refine ⟨_, kitBool _, ?_⟩ | refine ⟨_, kitTup _, ?_⟩ | refine ⟨_, kitList _, ?_⟩ | refine ⟨_, rfl, ?_⟩ | refine ⟨_, _, rfl, ?_⟩ | fail) | fail))
def t_lowq (K : PySem.W.Frag) : TS :=
  (tSeq (tPar 2 3 (tCons (tCB rAbsX (tCons (tVar 0) tNil)) (tCons (tCB rAbsX (tCons (tVar 1) tNil)) tNil)))
    (tSeq (tWhile (tTest (tOp rGt (tVar 3) (tC (.int 0)))) (tPar 2 3 (tCons (tVar 3) (tCons (tOp rModI (tVar 2) (tVar 3)) tNil))))
    (tSeq (tAsg (tIf (tTest (tOp rGt (tVar 1) (tC (.int 0)))) (tVar 2) (tOp rSubI (tC (.int 0)) (tVar 2))) (gName 4))
    (tRet (tTup (tCons (tOp rDivI (tVar 0) (tVar 4)) (tCons (tOp rDivI (tVar 1) (tVar 4)) tNil)))))))
def t_addq (K : PySem.W.Frag) : TS :=
  (tRet (tCall (spP K TLow) [] E0 (tCons (tOp rAddI (tOp rMulI (tOp (rIxT K) (tVar 0) (tC (.int 0))) (tOp (rIxT K) (tVar 1) (tC (.int 1)))) (tOp rMulI (tOp (rIxT K) (tVar 1) (tC (.int 0))) (tOp (rIxT K) (tVar 0) (tC (.int 1))))) (tCons (tOp rMulI (tOp (rIxT K) (tVar 0) (tC (.int 1))) (tOp (rIxT K) (tVar 1) (tC (.int 1)))) tNil))))
def t_subq (K : PySem.W.Frag) : TS :=
  (tRet (tCall (spP K TLow) [] E0 (tCons (tOp rSubI (tOp rMulI (tOp (rIxT K) (tVar 0) (tC (.int 0))) (tOp (rIxT K) (tVar 1) (tC (.int 1)))) (tOp rMulI (tOp (rIxT K) (tVar 1) (tC (.int 0))) (tOp (rIxT K) (tVar 0) (tC (.int 1))))) (tCons (tOp rMulI (tOp (rIxT K) (tVar 0) (tC (.int 1))) (tOp (rIxT K) (tVar 1) (tC (.int 1)))) tNil))))
def t_mulq (K : PySem.W.Frag) : TS :=
  (tRet (tCall (spP K TLow) [] E0 (tCons (tOp rMulI (tOp (rIxT K) (tVar 0) (tC (.int 0))) (tOp (rIxT K) (tVar 1) (tC (.int 0)))) (tCons (tOp rMulI (tOp (rIxT K) (tVar 0) (tC (.int 1))) (tOp (rIxT K) (tVar 1) (tC (.int 1)))) tNil))))
def t_divq (K : PySem.W.Frag) : TS :=
  (tRet (tCall (spP K TLow) [] E0 (tCons (tOp rMulI (tOp (rIxT K) (tVar 0) (tC (.int 0))) (tOp (rIxT K) (tVar 1) (tC (.int 1)))) (tCons (tOp rMulI (tOp (rIxT K) (tVar 0) (tC (.int 1))) (tOp (rIxT K) (tVar 1) (tC (.int 0)))) tNil))))
def t_ltq (K : PySem.W.Frag) : TS :=
  (tRet (tOp rLt (tOp rMulI (tOp (rIxT K) (tVar 0) (tC (.int 0))) (tOp (rIxT K) (tVar 1) (tC (.int 1)))) (tOp rMulI (tOp (rIxT K) (tVar 1) (tC (.int 0))) (tOp (rIxT K) (tVar 0) (tC (.int 1))))))
end DL

set_option Elab.async false
set_option linter.all false
set_option maxRecDepth 100000
set_option maxHeartbeats 4000000
/-! LQ2: slices as data; lines asked -/
namespace DL
open PySem PySem.Spec PyProof.Rows L2
def WO (K : PySem.W.Frag) (S : Stt) (to : TO) (ρ : Rho) (Θ : Option Int → Rho → Prop) : Prop :=
  ∀ H0 N0 Z N σ H, EnvD K S H0 N0 Z N σ H ρ → ∀ Q : Option Int → Hp → Prop, (∀ o ρ' H', Θ o ρ' → EnvD K S H0 N0 Z N σ H' ρ' → Keep N H H' → Q o H') → to σ H Q
def cutD (ds : List PyData) (lo hi : Option Int) : List PyData := (ds.drop (HT.sIx ds.length 0 lo)).take (HT.sIx ds.length ds.length hi - HT.sIx ds.length 0 lo)
section
variable {K : PySem.W.Frag} {S : Stt} {ρ : Rho} {Φ : PyData → Rho → Prop} {Ψ : PyData → Prop}
theorem do_ixLn {ds : List PyData} {i : Int} {k : Nat} {d : PyData} (e : i = k) (h : ds[k]? = some d) (f : Ψ d) : DO K (rIxL K) (.list ds) (.int i) Ψ := by
  subst e; exact do_ixL (atI_nat h) f
end
/-! ### lines as data -/
def kD (p : Rat × Rat) : PyData := .tuple [qp p.1, qp p.2]
abbrev knD (ks : Kn) : PyData := .tuple (ks.map kD)
def lnD (ks : Kn) (s : Rat) : PyData := .tuple [knD ks, qp s]
structure Lq (B : Nat) (ks : Kn) (s : Rat) : Prop where
  l : Ln B ks s
  len : ks.length ≤ 100000
  B0 : 0 < B
def TSlope : List PyData → (PyData → Prop) → Prop := fun ds Φ => ∃ (ks : Kn) (s : Rat) (i B : Nat), ds = [lnD ks s, .int i] ∧ Lq B ks s ∧ 2 * B ≤ 3800 ∧ i < ks.length ∧ Φ (qp (slp ks s i))
def TSlopes : List PyData → (PyData → Prop) → Prop := fun ds Φ => ∃ (ks : Kn) (s : Rat) (B : Nat), ds = [knD ks, qp s] ∧ KsB B ks s ∧ Rising ks ∧ 0 < ks.length ∧ ks.length ≤ 100000 ∧ 2 * B ≤ 3800 ∧ Φ (.list ((List.range ks.length).map fun i => qp (slp ks s i)))
def TNoLater : List PyData → (PyData → Prop) → Prop := fun ds Φ => ∃ (ks : Kn) (x : Rat), ds = [knD ks, qp x] ∧ Rising ks ∧ 0 < ks.length ∧ ks.length ≤ 100000 ∧ (kn ks 0).1 ≤ x ∧ sz x ≤ 3800 ∧ (∀ i, i < ks.length → sz (kn ks i).1 ≤ 3800) ∧ ∀ i : Nat, AtK ks x i → Φ (.int i)
def THeight : List PyData → (PyData → Prop) → Prop := fun ds Φ => ∃ (ks : Kn) (s x : Rat) (i B C : Nat), ds = [lnD ks s, .int i, qp x] ∧ Lq B ks s ∧ i < ks.length ∧ sz x ≤ C ∧ 5 * B + C ≤ 3800 ∧ Φ (qp (yOf ks s x i))
def TYat : List PyData → (PyData → Prop) → Prop := fun ds Φ => ∃ (ks : Kn) (s x : Rat) (B C : Nat), ds = [lnD ks s, qp x] ∧ Lq B ks s ∧ 0 ≤ x ∧ sz x ≤ C ∧ 5 * B + C ≤ 3800 ∧ Φ (qp (yAt ks s x))
local macro_rules | `(tactic| walk_at "dl") => `(tactic| repeat' (first
  | with_reducible refine wd_isTy ?_ | with_reducible refine wd_isi ?_ | with_reducible refine wd_op ?_ | ((with_reducible show WD _ _ (tCB (rLenX _) (tCons (tVar _) tNil)) _ _); refine wd_len_scr rfl ?_) | with_reducible refine wd_cb ?_ | with_reducible refine wd_un ?_ | with_reducible refine wa_cons ?_ | with_reducible refine wa_nil ?_ | ((with_reducible show WD _ _ (tVar _) _ _); refine wd_var rfl ?_) | with_reducible refine wd_int ?_ | with_reducible refine wd_bl ?_ | with_reducible refine wd_str ?_ | with_reducible refine wd_non ?_
  | with_reducible refine do_add ?_ | with_reducible refine do_sub ?_ | ((with_reducible refine do_mod ?_ ?_); decide) | with_reducible refine do_mod ?_ ?_ | with_reducible refine do_mul ?_ ?_ | ((with_reducible refine do_div ?_ ?_); exact ⟨by decide, by decide⟩) | with_reducible refine do_div ?_ ?_ | ((with_reducible refine do_pow ?_ ?_); exact ⟨by decide, by decide, by decide⟩) | with_reducible refine do_pow ?_ ?_
  | with_reducible refine do_lt ?_ | with_reducible refine do_le ?_ | with_reducible refine do_gt ?_ | with_reducible refine do_ge ?_ | with_reducible refine du_neg ?_
  | with_reducible refine do_eqi ?_ | with_reducible refine do_nei ?_ | with_reducible refine do_eqs ?_ | with_reducible refine do_nes ?_ | with_reducible refine dc_abs ?_ | with_reducible refine dc_min ?_ | with_reducible refine dc_max ?_ | with_reducible refine dc_lenL ?_ | with_reducible refine dc_lenT ?_ | with_reducible refine dc_gcd ?_
  | ((with_reducible show DO _ (rIxT _) _ _ _); refine do_ixT rfl ?_) | ((with_reducible show DO _ (rIxL _) _ _ _); refine do_ixL rfl ?_) | ((with_reducible refine do_catL ?_ ?_); exact Nat.le_of_ble_eq_true rfl) | with_reducible refine do_catL ?_ ?_ | ((with_reducible show And (List.length _ ≤ sizeLine) _); refine ⟨Nat.le_of_ble_eq_true rfl, ?_⟩)
  | with_reducible refine wd_dnew ?_ | with_reducible refine wd_call0 ?_ | with_reducible refine tAdQ (by omega) (by omega) ?_ | with_reducible refine tSbQ (by omega) (by omega) ?_ | with_reducible refine tMlQ (by omega) (by omega) ?_ | with_reducible refine tDvQ (by assumption) (by omega) (by omega) ?_ | with_reducible refine tLtQ (by omega) (by omega) ?_ | with_reducible refine dc_str ?_ ?_ | with_reducible refine wd_tup ?_ | with_reducible refine wd_lst ?_ | with_reducible refine wt_test ?_ | with_reducible refine wt_B ?_ | with_reducible refine wt_not ?_ | with_reducible refine wt_and ?_ | with_reducible refine wt_or ?_ | with_reducible refine wd_ifE ?_ | with_reducible refine wd_andV ?_ | with_reducible refine wd_orV ?_ | with_reducible refine wd_notV ?_
  | with_reducible refine ws_seq ?_ | with_reducible refine ws_next ?_ | with_reducible refine ws_asg ?_ | with_reducible refine ws_ret ?_ | with_reducible refine ws_retN ?_ | with_reducible refine ws_if ?_ | with_reducible refine ws_par ?_ | with_reducible refine ws_unp2 ?_
  | with_reducible refine if_t ?_ | with_reducible refine if_f ?_ | with_reducible refine if_nf ?_ | with_reducible refine if_nt ?_
  | ((with_reducible show Exists _); first | refine ⟨_, kitInt _, ?_⟩ | refine ⟨_, kitBool _, ?_⟩ | refine ⟨_, kitTup _, ?_⟩ | refine ⟨_, kitList _, ?_⟩ | refine ⟨_, rfl, ?_⟩ | refine ⟨_, _, rfl, ?_⟩ | fail) | fail))
def t_slope (K : PySem.W.Frag) : TS :=
  (tSeq (tAsg (tVar 0) (gTup K 2 (gCons (gName 2) (gCons (gName 3) gNil))))
    (tSeq (tIfS (tTest (tOp rEq (tOp rAddI (tVar 1) (tC (.int 1))) (tCB (rLenX K) (tCons (tVar 2) tNil)))) (tRet (tVar 3)) tNext)
    (tSeq (tAsg (tCall (spP K TSbQ) [] E0 (tCons (tOp (rIxT K) (tOp (rIxT K) (tVar 2) (tOp rAddI (tVar 1) (tC (.int 1)))) (tC (.int 1))) (tCons (tOp (rIxT K) (tOp (rIxT K) (tVar 2) (tVar 1)) (tC (.int 1))) tNil))) (gName 4))
    (tRet (tCall (spP K TDvQ) [] E0 (tCons (tVar 4) (tCons (tCall (spP K TSbQ) [] E0 (tCons (tOp (rIxT K) (tOp (rIxT K) (tVar 2) (tOp rAddI (tVar 1) (tC (.int 1)))) (tC (.int 0))) (tCons (tOp (rIxT K) (tOp (rIxT K) (tVar 2) (tVar 1)) (tC (.int 0))) tNil))) tNil)))))))
def t_slopes (K : PySem.W.Frag) : TS :=
  (tSeq (tAsg (tLst tNil) (gName 2))
    (tSeq (tFor (iRng1 (tCons (tOp rSubI (tCB (rLenX K) (tCons (tVar 0) tNil)) (tC (.int 1))) tNil)) (gName 3) (tSeq (tAsg (tOp (rIxT K) (tVar 0) (tVar 3)) (gTup K 2 (gCons (gName 4) (gCons (gName 5) gNil))))
    (tSeq (tAsg (tOp (rIxT K) (tVar 0) (tOp rAddI (tVar 3) (tC (.int 1)))) (gTup K 2 (gCons (gName 6) (gCons (gName 7) gNil))))
    (tDrop (tBM K "list" rAppend (tVar 2) (tCons (tCall (spP K TDvQ) [] E0 (tCons (tCall (spP K TSbQ) [] E0 (tCons (tVar 7) (tCons (tVar 5) tNil))) (tCons (tCall (spP K TSbQ) [] E0 (tCons (tVar 6) (tCons (tVar 4) tNil))) tNil))) tNil))))))
    (tRet (tOp rCatL (tVar 2) (tLst (tCons (tVar 1) tNil))))))
def t_nolater (K : PySem.W.Frag) : TS :=
  (tSeq (tPar 2 3 (tCons (tC (.int 0)) (tCons (tCB (rLenX K) (tCons (tVar 0) tNil)) tNil)))
    (tSeq (tWhile (tTest (tOp rGt (tOp rSubI (tVar 3) (tVar 2)) (tC (.int 1)))) (tSeq (tAsg (tOp rDivI (tOp rAddI (tVar 2) (tVar 3)) (tC (.int 2))) (gName 4))
    (tIfS (tB (tCall (spP K TLtQ) [] E0 (tCons (tVar 1) (tCons (tOp (rIxT K) (tOp (rIxT K) (tVar 0) (tVar 4)) (tC (.int 0))) tNil)))) (tAsg (tVar 4) (gName 3)) (tAsg (tVar 4) (gName 2)))))
    (tRet (tVar 2))))
section
variable {K : PySem.W.Frag} {ds : List PyData} {Φ : PyData → Prop}
end
end DL

set_option Elab.async false
set_option linter.all false
set_option maxRecDepth 100000
set_option maxHeartbeats 4000000
/-! LQ3: heights of lines -/
namespace DL
open PySem PySem.Spec PyProof.Rows L2
section
variable {K : PySem.W.Frag} {Ψ : PyData → Prop}
end
local macro_rules | `(tactic| walk_at "dl") => `(tactic| repeat' (first
  | with_reducible refine wd_isTy ?_ | with_reducible refine wd_isi ?_ | with_reducible refine wd_op ?_ | ((with_reducible show WD _ _ (tCB (rLenX _) (tCons (tVar _) tNil)) _ _); refine wd_len_scr rfl ?_) | with_reducible refine wd_cb ?_ | with_reducible refine wd_un ?_ | with_reducible refine wa_cons ?_ | with_reducible refine wa_nil ?_ | ((with_reducible show WD _ _ (tVar _) _ _); refine wd_var rfl ?_) | with_reducible refine wd_int ?_ | with_reducible refine wd_bl ?_ | with_reducible refine wd_str ?_ | with_reducible refine wd_non ?_
  | with_reducible refine do_add ?_ | with_reducible refine do_sub ?_ | ((with_reducible refine do_mod ?_ ?_); decide) | with_reducible refine do_mod ?_ ?_ | with_reducible refine do_mul ?_ ?_ | ((with_reducible refine do_div ?_ ?_); exact ⟨by decide, by decide⟩) | with_reducible refine do_div ?_ ?_ | ((with_reducible refine do_pow ?_ ?_); exact ⟨by decide, by decide, by decide⟩) | with_reducible refine do_pow ?_ ?_
  | with_reducible refine do_lt ?_ | with_reducible refine do_le ?_ | with_reducible refine do_gt ?_ | with_reducible refine do_ge ?_ | with_reducible refine du_neg ?_
  | with_reducible refine do_eqi ?_ | with_reducible refine do_nei ?_ | with_reducible refine do_eqs ?_ | with_reducible refine do_nes ?_ | with_reducible refine dc_abs ?_ | with_reducible refine dc_min ?_ | with_reducible refine dc_max ?_ | with_reducible refine dc_lenL ?_ | with_reducible refine dc_lenT ?_ | with_reducible refine dc_gcd ?_
  | ((with_reducible show DO _ (rIxT _) _ _ _); refine do_ixT rfl ?_) | ((with_reducible show DO _ (rIxL _) _ _ _); refine do_ixL rfl ?_) | ((with_reducible refine do_catL ?_ ?_); exact Nat.le_of_ble_eq_true rfl) | with_reducible refine do_catL ?_ ?_ | ((with_reducible show And (List.length _ ≤ sizeLine) _); refine ⟨Nat.le_of_ble_eq_true rfl, ?_⟩)
  | with_reducible refine wd_dnew ?_ | with_reducible refine wd_call0 ?_ | with_reducible refine wd_slA ?_ | with_reducible refine wo_part ?_ | with_reducible refine wo_none ?_ | with_reducible refine do_eqQ ?_ | with_reducible refine do_neQ ?_ | with_reducible refine wi_enumT ?_ | with_reducible refine tAdQ (by omega) (by omega) ?_ | with_reducible refine tSbQ (by omega) (by omega) ?_ | with_reducible refine tMlQ (by omega) (by omega) ?_ | with_reducible refine tDvQ (by assumption) (by omega) (by omega) ?_ | with_reducible refine tLtQ (by omega) (by omega) ?_ | with_reducible refine dc_str ?_ ?_ | with_reducible refine wd_tup ?_ | with_reducible refine wd_lst ?_ | with_reducible refine wt_test ?_ | with_reducible refine wt_B ?_ | with_reducible refine wt_not ?_ | with_reducible refine wt_and ?_ | with_reducible refine wt_or ?_ | with_reducible refine wd_ifE ?_ | with_reducible refine wd_andV ?_ | with_reducible refine wd_orV ?_ | with_reducible refine wd_notV ?_
  | with_reducible refine ws_seq ?_ | with_reducible refine ws_next ?_ | with_reducible refine ws_asg ?_ | with_reducible refine ws_ret ?_ | with_reducible refine ws_retN ?_ | with_reducible refine ws_if ?_ | with_reducible refine ws_par ?_ | with_reducible refine ws_unp2 ?_
  | with_reducible refine if_t ?_ | with_reducible refine if_f ?_ | with_reducible refine if_nf ?_ | with_reducible refine if_nt ?_
  | ((with_reducible show Exists _); first | refine ⟨_, kitInt _, ?_⟩ | refine ⟨_, kitBool _, ?_⟩ | refine ⟨_, kitTup _, ?_⟩ | refine ⟨_, kitList _, ?_⟩ | refine ⟨_, rfl, ?_⟩ | refine ⟨_, _, rfl, ?_⟩ | fail) | fail))
def t_lawy (K : PySem.W.Frag) : TS :=
  (tSeq (tAsg (tC (.int 0)) (gName 2))
    (tSeq (tFor (iEnumT K (tCons (tOp (rIxT K) (tVar 0) (tC (.int 0))) tNil)) (gTup K 2 (gCons (gName 3) (gCons (gName 4) gNil))) (tIfS (tNot (tB (tCall (spP K TLtQ) [] E0 (tCons (tVar 1) (tCons (tOp (rIxT K) (tVar 4) (tC (.int 0))) tNil))))) (tAsg (tVar 3) (gName 2)) tNext))
    (tSeq (tAsg (tOp (rIxT K) (tOp (rIxT K) (tVar 0) (tC (.int 0))) (tVar 2)) (gTup K 2 (gCons (gName 5) (gCons (gName 6) gNil))))
    (tRet (tCall (spP K TAdQ) [] E0 (tCons (tVar 6) (tCons (tCall (spP K TMlQ) [] E0 (tCons (tCall (spP K TSlope) [] E0 (tCons (tVar 0) (tCons (tVar 2) tNil))) (tCons (tCall (spP K TSbQ) [] E0 (tCons (tVar 1) (tCons (tVar 5) tNil))) tNil))) tNil)))))))
def t_behind (K : PySem.W.Frag) : TS :=
  (tRet (tOp (rIxL K) (tCall (spP K TSlopes) [] E0 (tCons (tSl (rSlA K) (tOp (rIxT K) (tVar 0) (tC (.int 0))) (tPart (tVar 1)) (tPart (tOp rAddI (tVar 1) (tC (.int 2))))) (tCons (tOp (rIxT K) (tVar 0) (tC (.int 1))) tNil))) (tC (.int 0))))
def t_height (K : PySem.W.Frag) : TS :=
  (tSeq (tAsg (tOp (rIxT K) (tOp (rIxT K) (tVar 0) (tC (.int 0))) (tVar 1)) (gTup K 2 (gCons (gName 3) (gCons (gName 4) gNil))))
    (tSeq (tIfS (tTest (tOp (rEqD K) (tVar 2) (tVar 3))) (tRet (tVar 4)) tNext)
    (tRet (tCall (spP K TAdQ) [] E0 (tCons (tVar 4) (tCons (tCall (spP K TMlQ) [] E0 (tCons (tCall (spP K TSlope) [] E0 (tCons (tVar 0) (tCons (tVar 1) tNil))) (tCons (tCall (spP K TSbQ) [] E0 (tCons (tVar 2) (tCons (tVar 3) tNil))) tNil))) tNil))))))
def t_yat (K : PySem.W.Frag) : TS :=
  (tSeq (tIfS (tTest (tOp rLt (tOp (rIxT K) (tVar 1) (tC (.int 0))) (tC (.int 0)))) tNo tNext)
    (tRet (tCall (spP K THeight) [] E0 (tCons (tVar 0) (tCons (tCall (spP K TNoLater) [] E0 (tCons (tOp (rIxT K) (tVar 0) (tC (.int 0))) (tCons (tVar 1) tNil))) (tCons (tVar 1) tNil))))))
section
variable {K : PySem.W.Frag} {ds : List PyData} {Φ : PyData → Prop}
def cutK (ks : Kn) (i : Nat) : Kn := (ks.drop i).take 2
end
end DL

set_option Elab.async false
set_option linter.all false
/-! LM3: lines as they are drawn: bounds by a common bottom -/
namespace DL
/-- so many D-th parts -/
def Dv (D M : Nat) (q : Rat) : Prop := ∃ n : Int, q * (D : Rat) = (n : Rat) ∧ n.natAbs ≤ M
/-- the slopes that are drawn -/
structure SlopeOk (p : Nat) (s : Rat) : Prop where
  one : p = 1 → Dv 6 42 s
  more : 1 < p → ∃ m : Int, s = ((p * m : Int) : Rat) ∧ m.natAbs ≤ 7
structure StepOk (p : Nat) (t : Rat) : Prop where
  pos : 0 < t
  one : p = 1 → Dv 4 24 t
  more : 1 < p → ∃ n : Nat, t = Rat.divInt n p ∧ n ≤ 6
/-- ahead of the k-th slope -/
structure Stg (p k : Nat) (ks : Kn) (la : Option Rat) : Prop where
  len : ks.length = k + 1
  fst : (kn ks 0).1 = 0
  ris : Rising ks
  dx : ∀ i, i < ks.length → Dv (24 * p) (144 * i) (kn ks i).1
  dy : ∀ i, i < ks.length → Dv (24 * p) ((480 + 1008 * i) * p) (kn ks i).2
  nr : ∀ i, i + 2 < ks.length → slp ks 0 i ≠ slp ks 0 (i + 1)
  la : la = if k = 0 then none else some (slp ks 0 (k - 1))
/-- it bends at each knot -/
def Nrm (ks : Kn) (s : Rat) : Prop := ∀ i, i + 1 < ks.length → slp ks s i ≠ slp ks s (i + 1)
structure GoodL (m : Nat) (ks : Kn) (s : Rat) : Prop where
  l : Ln 26 ks s
  len : ks.length ≤ m
  nrm : Nrm ks s
structure SlopeB (p : Nat) (s : Rat) : Prop where
  one : p = 1 → Dv 6 36 s
  more : 1 < p → ∃ m : Int, s = ((m * p : Int) : Rat) ∧ m.natAbs ≤ 6
/-! what is drawn -/
end DL

set_option Elab.async false
set_option linter.all false
set_option maxRecDepth 100000
set_option maxHeartbeats 4000000
/-! LQ4: a drawn line -/
namespace DL
open PySem PySem.Spec PyProof.Rows L2
section
variable {K : PySem.W.Frag} {S : Stt} {ρ : Rho} {Φ : PyData → Rho → Prop} {Ψ : PyData → Prop}
def oqD : Option Rat → PyData
  | none => .none
  | some q => qp q
end
def TLine : Nat → List PyData → (PyData → Nat → Prop) → Prop := fun B ds Φ => ∃ m : Nat, ds = [.int m] ∧ 3 ≤ m ∧ m ≤ 60 ∧ B ≤ 2 ^ 39 ∧ ∀ ks s B', B' ≤ B + 300 → GoodL m ks s → Φ (lnD ks s) B'
local macro_rules | `(tactic| walk_at "dl") => `(tactic| repeat' (first
  | with_reducible refine wd_isTy ?_ | with_reducible refine wd_isi ?_ | with_reducible refine wd_op ?_ | ((with_reducible show WD _ _ (tCB (rLenX _) (tCons (tVar _) tNil)) _ _); refine wd_len_scr rfl ?_) | with_reducible refine wd_cb ?_ | with_reducible refine wd_un ?_ | with_reducible refine wa_cons ?_ | with_reducible refine wa_nil ?_ | ((with_reducible show WD _ _ (tVar _) _ _); refine wd_var rfl ?_) | with_reducible refine wd_int ?_ | with_reducible refine wd_bl ?_ | with_reducible refine wd_str ?_ | with_reducible refine wd_non ?_
  | with_reducible refine do_add ?_ | with_reducible refine do_sub ?_ | ((with_reducible refine do_mod ?_ ?_); decide) | with_reducible refine do_mod ?_ ?_ | with_reducible refine do_mul ?_ ?_ | ((with_reducible refine do_div ?_ ?_); exact ⟨by decide, by decide⟩) | with_reducible refine do_div ?_ ?_ | ((with_reducible refine do_pow ?_ ?_); exact ⟨by decide, by decide, by decide⟩) | with_reducible refine do_pow ?_ ?_
  | with_reducible refine do_lt ?_ | with_reducible refine do_le ?_ | with_reducible refine do_gt ?_ | with_reducible refine do_ge ?_ | with_reducible refine du_neg ?_
  | with_reducible refine do_eqi ?_ | with_reducible refine do_nei ?_ | with_reducible refine do_eqs ?_ | with_reducible refine do_nes ?_ | with_reducible refine dc_abs ?_ | with_reducible refine dc_min ?_ | with_reducible refine dc_max ?_ | with_reducible refine dc_lenL ?_ | with_reducible refine dc_lenT ?_ | with_reducible refine dc_gcd ?_
  | ((with_reducible show DO _ (rIxT _) _ _ _); refine do_ixT rfl ?_) | ((with_reducible show DO _ (rIxL _) _ _ _); refine do_ixL rfl ?_) | ((with_reducible refine do_catL ?_ ?_); exact Nat.le_of_ble_eq_true rfl) | with_reducible refine do_catL ?_ ?_ | ((with_reducible show And (List.length _ ≤ sizeLine) _); refine ⟨Nat.le_of_ble_eq_true rfl, ?_⟩)
  | with_reducible refine wd_dnew ?_ | with_reducible refine wd_call0 ?_ | with_reducible refine wd_slA ?_ | with_reducible refine wo_part ?_ | with_reducible refine wo_none ?_ | with_reducible refine do_eqQ ?_ | with_reducible refine do_neQ ?_ | with_reducible refine wi_enumT ?_ | with_reducible refine tAdQ (by omega) (by omega) ?_ | with_reducible refine tSbQ (by omega) (by omega) ?_ | with_reducible refine tMlQ (by omega) (by omega) ?_ | with_reducible refine tDvQ (by assumption) (by omega) (by omega) ?_ | with_reducible refine tLtQ (by omega) (by omega) ?_ | with_reducible refine dc_str ?_ ?_ | with_reducible refine wd_tup ?_ | with_reducible refine wd_lst ?_ | with_reducible refine wt_test ?_ | with_reducible refine wt_B ?_ | with_reducible refine wt_not ?_ | with_reducible refine wt_and ?_ | with_reducible refine wt_or ?_ | with_reducible refine wd_ifE ?_ | with_reducible refine wd_andV ?_ | with_reducible refine wd_orV ?_ | with_reducible refine wd_notV ?_
  | with_reducible refine ws_seq ?_ | with_reducible refine ws_next ?_ | with_reducible refine ws_asg ?_ | with_reducible refine ws_ret ?_ | with_reducible refine ws_retN ?_ | with_reducible refine ws_if ?_ | with_reducible refine ws_par ?_ | with_reducible refine ws_unp2 ?_
  | with_reducible refine if_t ?_ | with_reducible refine if_f ?_ | with_reducible refine if_nf ?_ | with_reducible refine if_nt ?_
  | ((with_reducible show Exists _); first | refine ⟨_, kitInt _, ?_⟩ | refine ⟨_, kitBool _, ?_⟩ | refine ⟨_, kitTup _, ?_⟩ | refine ⟨_, kitList _, ?_⟩ | refine ⟨_, rfl, ?_⟩ | refine ⟨_, _, rfl, ?_⟩ | fail) | fail))
def t_line (K : PySem.W.Frag) : TS :=
  (tSeq (tAsg (tOp (rIxL K) (tLst (tCons (tOp rAddI (tC (.int 1)) (tCall (spS K FPot TTake) [] E0 (tCons (tVar 0) (tCons (tC (.int 3)) tNil)))) (tCons (tOp rAddI (tC (.int 1)) (tCall (spS K FPot TTake) [] E0 (tCons (tVar 0) (tCons (tVar 1) tNil)))) (tCons (tVar 1) tNil)))) (tCall (spS K FPot TTake) [] E0 (tCons (tVar 0) (tCons (tC (.int 3)) tNil)))) (gName 2))
    (tSeq (tAsg (tOp (rIxL K) (tLst (tCons (tC (.int 1)) (tCons (tC (.int 1)) (tCons (tC (.int 1)) (tCons (tC (.int 1)) (tCons (tC (.int 1)) (tCons (tOp (rIxL K) (tLst (tCons (tC (.int 97)) (tCons (tC (.int 101)) (tCons (tC (.int 997)) tNil)))) (tCall (spS K FPot TTake) [] E0 (tCons (tVar 0) (tCons (tC (.int 3)) tNil)))) tNil))))))) (tCall (spS K FPot TTake) [] E0 (tCons (tVar 0) (tCons (tC (.int 6)) tNil)))) (gName 3))
    (tSeq (tAsg (tLst (tCons (tTup (tCons (tTup (tCons (tC (.int 0)) (tCons (tC (.int 1)) tNil))) (tCons (tCall (spP K TLow) [] E0 (tCons (tOp rSubI (tCall (spS K FPot TTake) [] E0 (tCons (tVar 0) (tCons (tC (.int 41)) tNil))) (tC (.int 20))) (tCons (tOp (rIxL K) (tLst (tCons (tC (.int 1)) (tCons (tC (.int 2)) (tCons (tC (.int 3)) tNil)))) (tCall (spS K FPot TTake) [] E0 (tCons (tVar 0) (tCons (tC (.int 3)) tNil)))) tNil))) tNil))) tNil)) (gName 4))
    (tSeq (tAsg (tC .non) (gName 5))
    (tSeq (tFor (iRng1 (tCons (tVar 2) tNil)) (gName 6) (tSeq (tAsg (tCall (spP K TLow) [] E0 (tCons (tOp rMulI (tOp rSubI (tCall (spS K FPot TTake) [] E0 (tCons (tVar 0) (tCons (tC (.int 13)) tNil))) (tC (.int 6))) (tVar 3)) (tCons (tOp (rIxL K) (tLst (tCons (tC (.int 1)) (tCons (tC (.int 2)) (tCons (tC (.int 3)) tNil)))) (tCall (spS K FPot TTake) [] E0 (tCons (tVar 0) (tCons (tC (.int 3)) tNil)))) tNil))) (gName 7))
    (tSeq (tIfS (tTest (tOp rGt (tVar 3) (tC (.int 1)))) (tAsg (tTup (tCons (tOp rMulI (tOp rDivI (tOp rDivI (tOp (rIxT K) (tVar 7) (tC (.int 0))) (tOp (rIxT K) (tVar 7) (tC (.int 1)))) (tVar 3)) (tVar 3)) (tCons (tC (.int 1)) tNil))) (gName 7)) tNext)
    (tSeq (tIfS (tTest (tOp (rEqD K) (tVar 7) (tVar 5))) (tAsg (tCall (spP K TAdQ) [] E0 (tCons (tVar 7) (tCons (tTup (tCons (tVar 3) (tCons (tC (.int 1)) tNil))) tNil))) (gName 7)) tNext)
    (tSeq (tAsg (tVar 7) (gName 5))
    (tIfS (tTest (tOp rLt (tOp rAddI (tVar 6) (tC (.int 1))) (tVar 2))) (tSeq (tAsg (tCall (spP K TLow) [] E0 (tCons (tOp rAddI (tC (.int 1)) (tCall (spS K FPot TTake) [] E0 (tCons (tVar 0) (tCons (tC (.int 6)) tNil)))) (tCons (tOp (rIxL K) (tLst (tCons (tC (.int 1)) (tCons (tC (.int 2)) (tCons (tC (.int 4)) tNil)))) (tCall (spS K FPot TTake) [] E0 (tCons (tVar 0) (tCons (tC (.int 3)) tNil)))) tNil))) (gName 8))
    (tSeq (tIfS (tTest (tOp rGt (tVar 3) (tC (.int 1)))) (tAsg (tCall (spP K TLow) [] E0 (tCons (tOp (rIxT K) (tVar 8) (tC (.int 0))) (tCons (tVar 3) tNil))) (gName 8)) tNext)
    (tSeq (tAsg (tOp (rIxL K) (tVar 4) (tUn rNegI (tC (.int 1)))) (gTup K 2 (gCons (gName 9) (gCons (gName 10) gNil))))
    (tDrop (tBM K "list" rAppend (tVar 4) (tCons (tTup (tCons (tCall (spP K TAdQ) [] E0 (tCons (tVar 9) (tCons (tVar 8) tNil))) (tCons (tCall (spP K TAdQ) [] E0 (tCons (tVar 10) (tCons (tCall (spP K TMlQ) [] E0 (tCons (tVar 7) (tCons (tVar 8) tNil))) tNil))) tNil))) tNil)))))) tNext))))))
    (tRet (tTup (tCons (tCB (rTupOf K) (tCons (tVar 4) tNil)) (tCons (tVar 5) tNil)))))))))
section
variable {K : PySem.W.Frag} {S : Stt} {ds : List PyData} {Φ : PyData → Nat → Prop} {B : Nat}
end
end DL

set_option Elab.async false
set_option linter.all false
set_option maxRecDepth 100000
set_option maxHeartbeats 4000000
/-! LQ5: repr of lines; the pot; the cells; refusals told -/
namespace DL
open PySem PySem.Spec PyProof.Rows L2
/-! ### what may be shown -/
structure Rs (L D : Nat) (d : PyData) : Prop where
  s : d.showable = true
  h : d.hasDict = false
  l : d.shown.length ≤ L
  d : d.depth ≤ D
theorem Rs.mono {L D L' D' : Nat} {d : PyData} (h : Rs L D d) (h1 : L ≤ L') (h2 : D ≤ D') : Rs L' D' d := ⟨h.s, h.h, Nat.le_trans h.l h1, Nat.le_trans h.d h2⟩
theorem Rs.int {i : Int} {k : Nat} (hk : 0 < k) (h : i.natAbs < 2 ^ k) (h2 : k ≤ 1900) : Rs (k + 1) 0 (.int i) := by
  have hl : i.natAbs.log2 < k := log2_of (i := i) h hk
  exact ⟨decide_eq_true (show i.natAbs.log2 < 1920 by omega), rfl, by
    show (Str.ofString (toString i)).length ≤ k + 1
    rw [PySem.ofString_length]
    exact PySem.int_text_length_le (k := k) hk hl, Nat.le_refl _⟩
theorem Rs.lst {xs : List PyData} {L D n : Nat} (h : ∀ x ∈ xs, Rs L D x) (hn : xs.length ≤ n) : Rs (2 + n * (L + 2)) (D + 1) (.list xs) :=
  ⟨showableAll_of xs fun x hx => (h x hx).s, hasDictAll_of xs fun x hx => (h x hx).h, listText_le (fun x hx => (h x hx).l) hn, by
    show PyData.depthAll xs + 1 ≤ D + 1
    have := depthAll_of (n := D) xs fun x hx => (h x hx).d
    omega⟩
theorem Rs.tup {xs : List PyData} {L D n : Nat} (h : ∀ x ∈ xs, Rs L D x) (hn : xs.length ≤ n) : Rs (5 + n * (L + 2)) (D + 1) (.tuple xs) :=
  ⟨showableAll_of xs fun x hx => (h x hx).s, hasDictAll_of xs fun x hx => (h x hx).h, by
      show (tupleText (PyData.shownAll xs)).length ≤ _
      have h2 := piled_le (m := L) (PyData.shownAll xs) fun t ht => by
        obtain ⟨x, hx, rfl⟩ := shownAll_mem xs t ht
        exact (h x hx).l
      rw [shownAll_len] at h2
      have h3 : xs.length * (L + 2) ≤ n * (L + 2) := Nat.mul_le_mul_right _ hn
      have h4 : (Str.join ", " (PyData.shownAll xs)).length ≤ piled (PyData.shownAll xs) + 2 := by
        by_cases e : PyData.shownAll xs = []
        · rw [e]; decide
        · have := join_length_add _ e; omega
      unfold tupleText
      rw [strLen_append, strLen_append]
      have e1 : (Str.ofString "(").length = 1 := by decide
      have e2 : (Str.ofString (if ((PyData.shownAll xs).length == 1) = true then ",)" else ")" : String)).length ≤ 2 := by split <;> decide
      rw [e1]
      omega, by
    show PyData.depthAll xs + 1 ≤ D + 1
    have := depthAll_of (n := D) xs fun x hx => (h x hx).d
    omega⟩
section
variable {K : PySem.W.Frag} {Ψ : PyData → Prop}
theorem dc_reprS {d : PyData} {L D : Nat} (hl : (∃ ds, d = .list ds) ∨ ∃ ds, d = .tuple ds) (h : Rs L D d) (h1 : L ≤ sizeLine) (h2 : D ≤ 50) (f : Ψ (.str d.shown)) : DC K (rRepr K) [d] Ψ :=
  dc_repr hl h.s h.h (Nat.le_trans h.l h1) (Nat.le_trans h.d h2) f
end
/-! ### the pot -/
def TPot : List PyData → (List Int → Prop) → Prop := fun ds Φ => ∃ c a : Int, ds = [.int c, .int a] ∧ 0 ≤ a ∧ a ≤ 1000000 ∧ ∀ ns, PotL ns 0 → Φ ns
def t_pot (K : PySem.W.Frag) : TS :=
  (tRet (tLst (tCons (tCB rMaxX (tCons (tC (.int 0)) (tCons (tOp rSubI (tVar 0) (tOp rPowI (tC (.int 10)) (tC (.int 18)))) tNil))) (tCons (tOp rAddI (tOp rModI (tVar 0) (tC (.int 2305843009213693951))) (tOp rMulI (tC (.int 7919)) (tVar 1))) (tCons (tC (.int 0)) tNil)))))
/-! ### the cells, folded -/
def spF (K : PySem.W.Frag) : Sp := fun vs H Q _ => ∃ (a0 : Addr) (ns : List Int) (m : Int), vs = [.ref a0, .int m] ∧ SqL K H a0 (ns.map V.int) ∧ ns.length ≤ 63 ∧ 1 ≤ m ∧ m ≤ 1000 ∧
  ∀ cs : List Int, (cs.length : Int) ≤ m → cs.length ≤ 63 → ∀ p H', H p = none → Same H H' → H' p = some (.lst (cs.map V.int)) → Q (.ref p) H'
def t_folded (K : PySem.W.Frag) : TS :=
  (tSeq (tAsg (tOp rRepL (tLst (tCons (tC (.int 0)) tNil)) (tCB rMinX (tCons (tCB (rLenX K) (tCons (tVar 0) tNil)) (tCons (tVar 1) tNil)))) (gName 2))
    (tSeq (tFor (iRng1 (tCons (tCB (rLenX K) (tCons (tVar 0) tNil)) tNil)) (gName 3) (tAsg (tOp rAddI (tOp rMulI (tOp rModI (tOp (rIxL K) (tVar 2) (tOp rModI (tVar 3) (tVar 1))) (tOp rPowI (tC (.int 10)) (tC (.int 64)))) (tC (.int 1000003))) (tOp (rIxL K) (tVar 0) (tVar 3))) (gSub (tVar 2) (tOp rModI (tVar 3) (tVar 1)) rSetL)))
    (tRet (tVar 2))))
end DL

set_option Elab.async false
set_option linter.all false
set_option maxRecDepth 100000
set_option maxHeartbeats 4000000
/-! LQ6: the word of a refusal -/
namespace DL
open PySem PySem.Spec PyProof.Rows L2
/-- a class of one's own over ValueError, made with a text -/
abbrev veBase : List Value := [.type "ValueError", .type "Exception", .type "BaseException", .type "object"]
structure ExcV (K : PySem.W.Frag) (C : Addr) : Prop where
  q : PySem.W.excIn K C veBase "ValueError.__new__" = true
  k : PySem.W.keepIn K (.ref C) = true
  s : PySem.W.subIn K (.ref C) (.type "BaseException") = some true
  t : PySem.W.typeIn K (.ref C) = some (.type "type")
def excVB (K : PySem.W.Frag) (C : Addr) : Bool := PySem.W.excIn K C veBase "ValueError.__new__" && (PySem.W.keepIn K (.ref C) && (decide (PySem.W.subIn K (.ref C) (.type "BaseException") = some true) &&
  decide (PySem.W.typeIn K (.ref C) = some (.type "type"))))
theorem excV_ok {K : PySem.W.Frag} {C : Addr} (h : excVB K C = true) : ExcV K C := by
  obtain ⟨c1, h⟩ := He.ba h
  obtain ⟨c2, h⟩ := He.ba h
  obtain ⟨c3, c4⟩ := He.ba h
  exact ⟨c1, c2, of_decide_eq_true c3, of_decide_eq_true c4⟩
/-- the classes of the refusals, by name -/
structure Cls where
  amount : Addr
  line : Addr
  table : Addr
  one : List Addr
  two : List Addr
/-- the word of one that is of the class D alone -/
structure WordOk (K : PySem.W.Frag) (c : Cls) (D : Addr) (w : Str) : Prop where
  one : PySem.W.kitAny K (.ref D) (c.one.map Value.ref) = some false
  two : PySem.W.kitAny K (.ref D) (c.two.map Value.ref) = some false
  ve : PySem.W.kitOne K (.ref D) (.type "ValueError") = some true
  kinds : ∃ (b1 b2 b3 : Bool) (j : Nat), PySem.W.kitOne K (.ref D) (.ref c.amount) = some b1 ∧ PySem.W.kitOne K (.ref D) (.ref c.line) = some b2 ∧ PySem.W.kitOne K (.ref D) (.ref c.table) = some b3 ∧
    (b1, b2, b3, j, w) ∈ [(true, false, false, 0, ("amount" : Str)), (false, true, false, 1, ("line" : Str)), (false, false, true, 2, ("table" : Str))]
def spW (K : PySem.W.Frag) (D : Addr) (w : Str) : Sp := fun vs H Q _ => ∃ a : Addr, vs = [.ref a] ∧ H a = some (.ext (excAt a (.ref D))) ∧ ∀ H', Same H H' → Q (.str w) H'
def t_word (K : PySem.W.Frag) (D A_NoAmount A_NoLine A_NoTable A_NoDays A_NoDeed A_NoFold A_NoLeave A_NoPot A_NoRule A_NoStretch A_NoTelling A_NoText A_NoCut A_NoName A_NoNumber A_NoPart A_TooLong : Addr) : TS :=
  (tSeq (tAsg (tLst (tCons (tCB (rIsiE K D) (tCons (tVar 0) (tCons (tC (.ref A_NoAmount)) tNil))) (tCons (tCB (rIsiE K D) (tCons (tVar 0) (tCons (tC (.ref A_NoLine)) tNil))) (tCons (tCB (rIsiE K D) (tCons (tVar 0) (tCons (tC (.ref A_NoTable)) tNil))) tNil)))) (gName 1))
    (tSeq (tAsg (tCB (rIsiET K D) (tCons (tVar 0) (tCons (tTup (tCons (tC (.ref A_NoDays)) (tCons (tC (.ref A_NoDeed)) (tCons (tC (.ref A_NoFold)) (tCons (tC (.ref A_NoLeave)) (tCons (tC (.ref A_NoPot)) (tCons (tC (.ref A_NoRule)) (tCons (tC (.ref A_NoStretch)) (tCons (tC (.ref A_NoTelling)) (tCons (tC (.ref A_NoText)) tNil)))))))))) tNil))) (gName 2))
    (tSeq (tAsg (tOrV (tVar 2) (tCB (rIsiET K D) (tCons (tVar 0) (tCons (tTup (tCons (tC (.ref A_NoCut)) (tCons (tC (.ref A_NoName)) (tCons (tC (.ref A_NoNumber)) (tCons (tC (.ref A_NoPart)) (tCons (tC (.ref A_TooLong)) tNil)))))) tNil)))) (gName 2))
    (tSeq (tIfS (tOr (tB (tVar 2)) (tOr (tTest (tOp rNe (tBM K "list" (rCntF K) (tVar 1) (tCons (tC (.bl true)) tNil)) (tC (.int 1)))) (tNot (tB (tCB (rIsiE K D) (tCons (tVar 0) (tCons (tC (.ty "ValueError")) tNil))))))) (tRet (tC (.str "odd"))) tNext)
    (tRet (tOp (rIxL K) (tLst (tCons (tC (.str "amount")) (tCons (tC (.str "line")) (tCons (tC (.str "table")) tNil)))) (tBM K "list" (rIndex K) (tVar 1) (tCons (tC (.bl true)) tNil))))))))
/-! ### a refusal of the height below nought -/
def TYx (C : Addr) : List PyData → (PyData → Prop) → (Addr → Prop) → Prop := fun ds _ Ψ => ∃ (l : PyData) (x : Rat), ds = [l, qp x] ∧ x < 0 ∧ Ψ C
def t_yatX (K : PySem.W.Frag) (C : Addr) (E : XK) : TS := tSeq (tIfS (tTest (tOp rLt (tOp (rIxT K) (tVar 1) (tC (.int 0))) (tC (.int 0)))) (fun _ σ H => E (.ref C) none H) tNext) tNo
local macro_rules | `(tactic| walk_at "dl") => `(tactic| repeat' (first
  | with_reducible refine wd_isTy ?_ | with_reducible refine wd_isi ?_ | with_reducible refine wd_op ?_ | ((with_reducible show WD _ _ (tCB (rLenX _) (tCons (tVar _) tNil)) _ _); refine wd_len_scr rfl ?_) | with_reducible refine wd_cb ?_ | with_reducible refine wd_un ?_ | with_reducible refine wa_cons ?_ | with_reducible refine wa_nil ?_ | ((with_reducible show WD _ _ (tVar _) _ _); refine wd_var rfl ?_) | with_reducible refine wd_int ?_ | with_reducible refine wd_bl ?_ | with_reducible refine wd_str ?_ | with_reducible refine wd_non ?_
  | with_reducible refine do_add ?_ | with_reducible refine do_sub ?_ | ((with_reducible refine do_mod ?_ ?_); decide) | with_reducible refine do_mod ?_ ?_ | with_reducible refine do_mul ?_ ?_ | ((with_reducible refine do_div ?_ ?_); exact ⟨by decide, by decide⟩) | with_reducible refine do_div ?_ ?_ | ((with_reducible refine do_pow ?_ ?_); exact ⟨by decide, by decide, by decide⟩) | with_reducible refine do_pow ?_ ?_
  | with_reducible refine do_lt ?_ | with_reducible refine do_le ?_ | with_reducible refine do_gt ?_ | with_reducible refine do_ge ?_ | with_reducible refine du_neg ?_
  | with_reducible refine do_eqi ?_ | with_reducible refine do_nei ?_ | with_reducible refine do_eqs ?_ | with_reducible refine do_nes ?_ | with_reducible refine dc_abs ?_ | with_reducible refine dc_min ?_ | with_reducible refine dc_max ?_ | with_reducible refine dc_lenL ?_ | with_reducible refine dc_lenT ?_ | with_reducible refine dc_gcd ?_
  | ((with_reducible show DO _ (rIxT _) _ _ _); refine do_ixT rfl ?_) | ((with_reducible show DO _ (rIxL _) _ _ _); refine do_ixL rfl ?_) | ((with_reducible refine do_catL ?_ ?_); exact Nat.le_of_ble_eq_true rfl) | with_reducible refine do_catL ?_ ?_ | ((with_reducible show And (List.length _ ≤ sizeLine) _); refine ⟨Nat.le_of_ble_eq_true rfl, ?_⟩)
  | with_reducible refine wd_dnew ?_ | with_reducible refine wd_call0 ?_ | with_reducible refine wd_slA ?_ | with_reducible refine wo_part ?_ | with_reducible refine wo_none ?_ | with_reducible refine do_eqQ ?_ | with_reducible refine do_neQ ?_ | with_reducible refine wi_enumT ?_ | with_reducible refine tAdQ (by omega) (by omega) ?_ | with_reducible refine tSbQ (by omega) (by omega) ?_ | with_reducible refine tMlQ (by omega) (by omega) ?_ | with_reducible refine tDvQ (by assumption) (by omega) (by omega) ?_ | with_reducible refine tLtQ (by omega) (by omega) ?_ | with_reducible refine dc_str ?_ ?_ | with_reducible refine wd_tup ?_ | with_reducible refine wd_lst ?_ | with_reducible refine wt_test ?_ | with_reducible refine wt_B ?_ | with_reducible refine wt_not ?_ | with_reducible refine wt_and ?_ | with_reducible refine wt_or ?_ | with_reducible refine wd_ifE ?_ | with_reducible refine wd_andV ?_ | with_reducible refine wd_orV ?_ | with_reducible refine wd_notV ?_
  | with_reducible refine ws_seq ?_ | with_reducible refine ws_next ?_ | with_reducible refine ws_asg ?_ | with_reducible refine ws_ret ?_ | with_reducible refine ws_retN ?_ | with_reducible refine ws_if ?_ | with_reducible refine ws_par ?_ | with_reducible refine ws_unp2 ?_
  | with_reducible refine if_t ?_ | with_reducible refine if_f ?_ | with_reducible refine if_nf ?_ | with_reducible refine if_nt ?_
  | ((with_reducible show Exists _); first | refine ⟨_, kitInt _, ?_⟩ | refine ⟨_, kitBool _, ?_⟩ | refine ⟨_, kitTup _, ?_⟩ | refine ⟨_, kitList _, ?_⟩ | refine ⟨_, rfl, ?_⟩ | refine ⟨_, _, rfl, ?_⟩ | fail) | fail))
/-! ### told or refused -/
def TTold : List PyData → (PyData → Prop) → Prop := fun ds Φ => ∃ (l : PyData) (x : Rat), ds = [l, qp x] ∧ x < 0 ∧ Φ (.str "amount")
def ts_told (a : Addr) : TS := tAsg (tVar 4) (gName 2)
def tb_told (K : PySem.W.Frag) (C : Addr) (W : WX) : TS := tAsg (tCallS (spX K (TYx C)) (WE W) (tCons (tVar 0) (tCons (tVar 1) tNil))) (gName 3)
def te_told (K : PySem.W.Frag) (C : Addr) : TE := tIf (tTest (tOp rIsNone (tVar 2) (tC .non))) (tVar 3) (tCall (spW K C "amount") [] E0 (tCons (tVar 2) tNil))
def t_told (K : PySem.W.Frag) (C P : Addr) : TS :=
  (tSeq (tAsg (tC .non) (gName 2))
    (tSeq (tAsg (tC .non) (gName 3))
    (tSeq (fun D σ H => tb_told K C (wKeep K (.ref P) 4 ts_told D) D σ H)
    (tRet (te_told K C)))))
/-! ### the line of one part -/
def TFlat : List PyData → (PyData → Prop) → Prop := fun ds Φ => ∃ y : Rat, ds = [qp y] ∧ Φ (lnD [(0, y)] 0)
def t_flat (K : PySem.W.Frag) (a_NOUGHT : Addr) : TS :=
  (tRet (tTup (tCons (tTup (tCons (tTup (tCons (tC (.ref a_NOUGHT)) (tCons (tVar 0) tNil))) tNil)) (tCons (tC (.ref a_NOUGHT)) tNil))))
end DL

set_option Elab.async false
set_option linter.all false
set_option maxRecDepth 100000
set_option maxHeartbeats 4000000
/-! ER5: the seventeen refusals raised, asked what they are, read (written by gen/mkER5.py) -/
namespace DL
open PySem PySem.Spec PyProof.Rows L2
section
variable {X : Cx} {C : Addr} {bmB : List Value} {B newId initId : String}
/-- X(e), of a class without an __init__ of its own -/
theorem pmk_oneE {x : Str} {e : Expr} {ta : TE} {p pos : Pos} (F : ExcBaseFacts B newId initId bmB) (q : PySem.W.excIn X.K C bmB newId = true) (gC : X.mg x = some (.ref C)) (kC : PySem.W.keepIn X.K (.ref C) = true) (r : Raises X (.ref C)) (hg : Gl X x)
    (he : PE X e ta) (hs : starEach [e] X.env = (false, eval e X.env) :: starEach [] X.env := by rfl) (hdb : (x == ("__debug__" : Str)) = false := by decide) : PMk X (.Call (.Name x p) [e] [] pos) (fun σ H Q => ta σ H fun _ H1 => Q (.ref C) none H1) := by
  intro pins s σ H Q I h
  refine wpAny_Call_Name_kw (ld_glob I hg gC ?_ hdb)
  refine PySem.W.callWith_K (h₀ := X.base) I.ok.mod.kin kC ?_ hs (by rfl)
  rw [hs]
  show wpAny _ _ (spliced ((false, eval e X.env) :: backTo pos (starEach [] X.env))) _ _ s
  refine Calls.spliced_cons (thn (he.run pins s σ H _ I h) fun u s1 ⟨v, H1, I1, r1, q1⟩ => ?_)
  refine Calls.spliced_nil ⟨I1.kIn, ?_⟩
  show wpAny _ _ (call (.ref C) [u]) _ _ _
  obtain ⟨bm, Ns, nm, qn, bs, hd, sn, sb, ab, co, dd, k0, k1, k2, k3, k5, mN, hC, hN, hni, T⟩ := exc_obj I1.kIn q
  refine wpAny_call_exc_subT F T hC hN hni (fun h2 e hm => ?_) (by show 1 ≤ sizeLine; rw [sizeLine_eq]; omega)
  exact mk_of I1 hm r q1 (I1.hok.gone hm.new)
end
theorem KeptE.same {H H1 : Hp} {a C : Addr} {d : Option Addr} (h : KeptE H a C d) (s : Same H H1) : KeptE H1 a C d := ⟨s _ _ h.1, fun dd e => by
  obtain ⟨fs, hf⟩ := h.2 dd e
  exact ⟨fs, s _ _ hf⟩⟩
/-- what else it is -/
def undV (P : Addr) : Nat → Value
  | 0 => .ref P
  | 1 => .type "ValueError"
  | 2 => .type "ZeroDivisionError"
  | 3 => .type "KeyError"
  | 4 => .type "IndexError"
  | 5 => .type "OverflowError"
  | _ => .type "LookupError"
def undL (i : Nat) : List Bool :=
  if i < 11 ∨ i = 12 then [true, true, false, false, false, false, false]
  else if i = 11 then [false, false, true, false, false, false, false]
  else if i = 13 then [false, false, false, true, false, false, true]
  else if i = 14 then [false, false, false, false, true, false, true]
  else if i = 15 then [false, false, false, false, false, true, false]
  else [false, false, false, false, false, false, true]
def fldN : Nat → Str
  | 12 => "at"
  | 13 => "name"
  | 14 => "number"
  | 15 => "many"
  | _ => "last"
def clauseV (A : Nat → Addr) (P : Addr) : List Value := [.ref P, .ref (A 11), .ref (A 13), .ref (A 14), .ref (A 15), .ref (A 16)]
structure W01 (K : PySem.W.Frag) (A : Nat → Addr) (P : Addr) : Prop where
  kk : ∀ i, i < 17 → ∀ j, j < 17 → PySem.W.kitOne K (.ref (A i)) (.ref (A j)) = some (decide (i = j))
  ku : ∀ i, i < 17 → ∀ j, j < 7 → PySem.W.kitOne K (.ref (A i)) (undV P j) = some ((undL i).getD j false)
  ec : ∀ i, i < 17 → ExcC K (A i)
  ea : ∀ i, i < 17 → ∀ c ∈ clauseV A P, ∃ b, PySem.W.exmOne K (.ref (A i)) c = some b
  eh : ∀ i, i < 17 → ∃ c, c ∈ clauseV A P ∧ PySem.W.exmOne K (.ref (A i)) c = some true
  xf : ∀ i, 12 ≤ i → i < 17 → XfC K (A i) ∧ PySem.W.findIn K (.ref (A i)) (fldN i) = some none
def w01B (K : PySem.W.Frag) (A : Nat → Addr) (P : Addr) : Bool := (List.range 17).all fun i =>
  ((List.range 17).all fun j => decide (PySem.W.kitOne K (.ref (A i)) (.ref (A j)) = some (decide (i = j)))) && (((List.range 7).all fun j => decide (PySem.W.kitOne K (.ref (A i)) (undV P j) = some ((undL i).getD j false))) &&
  (excCB K (A i) && (((clauseV A P).all fun c => (PySem.W.exmOne K (.ref (A i)) c).isSome) && (((clauseV A P).any fun c => decide (PySem.W.exmOne K (.ref (A i)) c = some true)) &&
  (decide (i < 12) || (xfB K (A i) && decide (PySem.W.findIn K (.ref (A i)) (fldN i) = some none)))))))
theorem w01_ok {K : PySem.W.Frag} {A : Nat → Addr} {P : Addr} (h : w01B K A P = true) : W01 K A P := by
  have one := fun (i : Nat) (hi : i < 17) => List.all_eq_true.mp h i (List.mem_range.mpr hi)
  refine ⟨fun i hi j hj => ?_, fun i hi j hj => ?_, fun i hi => ?_, fun i hi c hc => ?_, fun i hi => ?_, fun i h1 hi => ?_⟩
  all_goals
    obtain ⟨c1, h⟩ := He.ba (one i hi)
    obtain ⟨c2, h⟩ := He.ba h
    obtain ⟨c3, h⟩ := He.ba h
    obtain ⟨c4, h⟩ := He.ba h
    obtain ⟨c5, c6⟩ := He.ba h
  · exact of_decide_eq_true (List.all_eq_true.mp c1 j (List.mem_range.mpr hj))
  · exact of_decide_eq_true (List.all_eq_true.mp c2 j (List.mem_range.mpr hj))
  · exact excC_ok c3
  · exact Option.isSome_iff_exists.mp (List.all_eq_true.mp c4 c hc)
  · obtain ⟨c, hc, e⟩ := List.any_eq_true.mp c5
    exact ⟨c, hc, of_decide_eq_true e⟩
  · rw [decide_eq_false (by omega), Bool.false_or] at c6
    obtain ⟨d1, d2⟩ := He.ba c6
    exact ⟨xfB_ok d1, of_decide_eq_true d2⟩
/-! ### raised -/
def spPl (A : Nat → Addr) : Sp := fun vs H _ E => ∃ (i : Nat) (v : V), vs = [.int (i : Int), v] ∧ i < 12 ∧ E (.ref (A i)) none H
def rsA (a : Addr) (E : XK) : TS := fun _ σ H => tVar 1 σ H fun _ H1 => E (.ref a) none H1
def t_plain (A : Nat → Addr) (E : XK) : TS :=
  tSeq (tIfS (tTest (tOp rEq (tVar 0) (tC (.int 0)))) (rsA (A 0) E) tNext) (
  tSeq (tIfS (tTest (tOp rEq (tVar 0) (tC (.int 1)))) (rsA (A 1) E) tNext) (
  tSeq (tIfS (tTest (tOp rEq (tVar 0) (tC (.int 2)))) (rsA (A 2) E) tNext) (
  tSeq (tIfS (tTest (tOp rEq (tVar 0) (tC (.int 3)))) (rsA (A 3) E) tNext) (
  tSeq (tIfS (tTest (tOp rEq (tVar 0) (tC (.int 4)))) (rsA (A 4) E) tNext) (
  tSeq (tIfS (tTest (tOp rEq (tVar 0) (tC (.int 5)))) (rsA (A 5) E) tNext) (
  tSeq (tIfS (tTest (tOp rEq (tVar 0) (tC (.int 6)))) (rsA (A 6) E) tNext) (
  tSeq (tIfS (tTest (tOp rEq (tVar 0) (tC (.int 7)))) (rsA (A 7) E) tNext) (
  tSeq (tIfS (tTest (tOp rEq (tVar 0) (tC (.int 8)))) (rsA (A 8) E) tNext) (
  tSeq (tIfS (tTest (tOp rEq (tVar 0) (tC (.int 9)))) (rsA (A 9) E) tNext) (
  tSeq (tIfS (tTest (tOp rEq (tVar 0) (tC (.int 10)))) (rsA (A 10) E) tNext) (
  rsA (A 11) E)))))))))))
theorem eqI {i j : Int} : decide (V.int i = V.int j) = decide (i = j) := by
  by_cases h : i = j
  · subst h; simp
  · rw [decide_eq_false h, decide_eq_false (fun e => h (by cases e; rfl))]
/-- one turn of the questions: not this one -/
theorem ask_no {i : Nat} {v : V} {j : Int} {r : TS} {t : TS} {D : Ends} {σ : L2.St} {H : Hp} (hσ : σ[0]? = some (some (V.int (i : Int)))) (h : (i : Int) ≠ j) (k : t D σ H) : tSeq (tIfS (tTest (tOp rEq (tVar 0) (tC (.int j)))) r tNext) t D σ H := by
  refine ⟨_, hσ, rfl, decide (V.int (i : Int) = V.int j), rfl, ?_⟩
  rw [eqI, decide_eq_false h]
  exact k
theorem ask_yes {i : Nat} {v : V} {j : Int} {r : TS} {t : TS} {D : Ends} {σ : L2.St} {H : Hp} (hσ : σ[0]? = some (some (V.int (i : Int)))) (h : (i : Int) = j) (k : r { D with nx := t D } σ H) : tSeq (tIfS (tTest (tOp rEq (tVar 0) (tC (.int j)))) r tNext) t D σ H := by
  refine ⟨_, hσ, rfl, decide (V.int (i : Int) = V.int j), rfl, ?_⟩
  rw [eqI, decide_eq_true h]
  exact k
theorem run_plain {A : Nat → Addr} {vs : List V} {H : Hp} {Q : VK} {E : XK} (h : spPl A vs H Q E) : t_plain A E { nx := fun _ H' => Q .non H', rt := Q } (L2.start ["which", "text"] vs) H := by
  obtain ⟨i, v, rfl, hi, hE⟩ := h
  show t_plain A E _ [some (.int (i : Int)), some v] H
  have e : ∀ j : Nat, i = j → E (.ref (A j)) none H := fun j e => by rw [← e]; exact hE
  unfold t_plain
  by_cases c0 : i = 0
  · exact ask_yes (v := v) rfl (by omega) ⟨v, rfl, e 0 c0⟩
  refine ask_no (v := v) rfl (by omega) ?_
  by_cases c1 : i = 1
  · exact ask_yes (v := v) rfl (by omega) ⟨v, rfl, e 1 c1⟩
  refine ask_no (v := v) rfl (by omega) ?_
  by_cases c2 : i = 2
  · exact ask_yes (v := v) rfl (by omega) ⟨v, rfl, e 2 c2⟩
  refine ask_no (v := v) rfl (by omega) ?_
  by_cases c3 : i = 3
  · exact ask_yes (v := v) rfl (by omega) ⟨v, rfl, e 3 c3⟩
  refine ask_no (v := v) rfl (by omega) ?_
  by_cases c4 : i = 4
  · exact ask_yes (v := v) rfl (by omega) ⟨v, rfl, e 4 c4⟩
  refine ask_no (v := v) rfl (by omega) ?_
  by_cases c5 : i = 5
  · exact ask_yes (v := v) rfl (by omega) ⟨v, rfl, e 5 c5⟩
  refine ask_no (v := v) rfl (by omega) ?_
  by_cases c6 : i = 6
  · exact ask_yes (v := v) rfl (by omega) ⟨v, rfl, e 6 c6⟩
  refine ask_no (v := v) rfl (by omega) ?_
  by_cases c7 : i = 7
  · exact ask_yes (v := v) rfl (by omega) ⟨v, rfl, e 7 c7⟩
  refine ask_no (v := v) rfl (by omega) ?_
  by_cases c8 : i = 8
  · exact ask_yes (v := v) rfl (by omega) ⟨v, rfl, e 8 c8⟩
  refine ask_no (v := v) rfl (by omega) ?_
  by_cases c9 : i = 9
  · exact ask_yes (v := v) rfl (by omega) ⟨v, rfl, e 9 c9⟩
  refine ask_no (v := v) rfl (by omega) ?_
  by_cases c10 : i = 10
  · exact ask_yes (v := v) rfl (by omega) ⟨v, rfl, e 10 c10⟩
  refine ask_no (v := v) rfl (by omega) ?_
  exact ⟨v, rfl, e 11 (by omega)⟩
/-- those that bear what they are made of -/
def spBr (A : Nat → Addr) : Sp := fun vs H _ E => ∃ (i : Nat) (v : V), vs = [.int (i : Int), v] ∧ 12 ≤ i ∧ i < 17 ∧ ∀ d H1, H d = none → Same H H1 → H1 d = some (.xd [(fldN i, v)]) → E (.ref (A i)) (some d) H1
/-- such an __init__ -/
def spIn (C : Addr) (f : Str) : Sp := fun vs H Q _ => ∃ (a : Addr) (y : V), vs = [.ref a, y] ∧ H a = some (exo a C none) ∧ ∀ dx, H dx = none → dx ≠ a → Q .non (upd (upd H dx (exd dx [(f, y)])) a (exo a C (some dx)))
def t_in (K : PySem.W.Frag) (C : Addr) (f : Str) (z : Str) : TS := tSeq (tDrop (tIniE (fun c => c = C) (tCons (tVar 0) (tCons (tC (.str z)) tNil)))) (tStoE K (fun c => c = C) f (tVar 0) (tVar 1))
theorem run_in {K : PySem.W.Frag} {C : Addr} {f z n1 n2 : Str} {vs : List V} {H : Hp} {Q : VK} {E : XK} (h : spIn C f vs H Q E) : t_in K C f z { nx := fun _ H' => Q .non H', rt := Q } (L2.start [n1, n2] vs) H := by
  obtain ⟨a, y, rfl, ha, hQ⟩ := h
  show t_in K C f z _ [some (.ref a), some y] H
  refine ⟨_, rfl, a, C, [.str z], rfl, by show 1 ≤ 1000; decide, rfl, ha, ?_⟩
  exact ⟨_, rfl, _, rfl, a, C, rfl, rfl, ha, hQ⟩
/-- raise C(thing) -/
def rsB (C : Addr) (f : Str) (E : XK) : TS := fun _ σ H => tMkE C (spIn C f) (tCons (tVar 1) tNil) σ H fun cls d H1 => E cls d H1
theorem run_rsB {C : Addr} {f : Str} {E : XK} {D : Ends} {σ : L2.St} {H : Hp} {v : V} (hσ : σ[1]? = some (some v)) (hE : ∀ d H1, H d = none → Same H H1 → H1 d = some (.xd [(f, v)]) → E (.ref C) (some d) H1) : rsB C f E D σ H := by
  refine ⟨v, hσ, by show 1 ≤ 1000; decide, fun a ha => ⟨a, v, rfl, upd_same, fun dx hdx ne => ⟨rfl, dx, [(f, v)], upd_same, ?_, ?_, ?_⟩⟩⟩
  · rw [upd_ne ne]; exact upd_same
  · rw [upd_ne ne] at hdx; exact hdx
  · have hd : H dx = none := by rw [upd_ne ne] at hdx; exact hdx
    refine hE dx _ hd (fun b o e => ?_) upd_same
    have b1 : b ≠ dx := fun z => by rw [z, hd] at e; cases e
    have b2 : b ≠ a := fun z => by rw [z, ha] at e; cases e
    rw [upd_ne b1, del_ne b2, upd_ne b2, upd_ne b1, upd_ne b2]
    exact e
def t_bear (A : Nat → Addr) (E : XK) : TS :=
  tSeq (tIfS (tTest (tOp rEq (tVar 0) (tC (.int 12)))) (rsB (A 12) "at" E) tNext) (
  tSeq (tIfS (tTest (tOp rEq (tVar 0) (tC (.int 13)))) (rsB (A 13) "name" E) tNext) (
  tSeq (tIfS (tTest (tOp rEq (tVar 0) (tC (.int 14)))) (rsB (A 14) "number" E) tNext) (
  tSeq (tIfS (tTest (tOp rEq (tVar 0) (tC (.int 15)))) (rsB (A 15) "many" E) tNext) (
  rsB (A 16) "last" E))))
theorem run_bear {A : Nat → Addr} {vs : List V} {H : Hp} {Q : VK} {E : XK} (h : spBr A vs H Q E) : t_bear A E { nx := fun _ H' => Q .non H', rt := Q } (L2.start ["which", "thing"] vs) H := by
  obtain ⟨i, v, rfl, hi, hi2, hE⟩ := h
  show t_bear A E _ [some (.int (i : Int)), some v] H
  unfold t_bear
  by_cases c12 : i = 12
  · subst c12; exact ask_yes (v := v) rfl (by omega) (run_rsB rfl hE)
  refine ask_no (v := v) rfl (by omega) ?_
  by_cases c13 : i = 13
  · subst c13; exact ask_yes (v := v) rfl (by omega) (run_rsB rfl hE)
  refine ask_no (v := v) rfl (by omega) ?_
  by_cases c14 : i = 14
  · subst c14; exact ask_yes (v := v) rfl (by omega) (run_rsB rfl hE)
  refine ask_no (v := v) rfl (by omega) ?_
  by_cases c15 : i = 15
  · subst c15; exact ask_yes (v := v) rfl (by omega) (run_rsB rfl hE)
  refine ask_no (v := v) rfl (by omega) ?_
  obtain rfl : i = 16 := by omega
  exact run_rsB rfl hE
/-! ### asked -/
def tIs (K : PySem.W.Frag) (c : V) : TE := tCB (rIsiD K) (tCons (tVar 0) (tCons (tC c) tNil))
def spKi (A : Nat → Addr) : Sp := fun vs H Q _ => ∃ (a : Addr) (d : Option Addr) (i : Nat), vs = [.ref a] ∧ i < 17 ∧ KeptE H a (A i) d ∧ ∀ p H1, H p = none → Same H H1 → H1 p = some (.lst ((List.range 17).map fun j => V.bl (decide (i = j)))) → Q (.ref p) H1
def spUn (A : Nat → Addr) : Sp := fun vs H Q _ => ∃ (a : Addr) (d : Option Addr) (i : Nat), vs = [.ref a] ∧ i < 17 ∧ KeptE H a (A i) d ∧ ∀ p H1, H p = none → Same H H1 → H1 p = some (.lst ((undL i).map V.bl)) → Q (.ref p) H1
def t_kinds (K : PySem.W.Frag) (A : Nat → Addr) (P : Addr) : TS :=
  tSeq (tAsg (tLst (tCons (tIs K (.ref (A 0))) (tCons (tIs K (.ref (A 1))) (tCons (tIs K (.ref (A 2))) tNil)))) (gName 1)) (
  tSeq (tAsg (tOp rCatL (tVar 1) (tLst (tCons (tIs K (.ref (A 3))) (tCons (tIs K (.ref (A 4))) (tCons (tIs K (.ref (A 5))) tNil))))) (gName 1)) (
  tSeq (tAsg (tOp rCatL (tVar 1) (tLst (tCons (tIs K (.ref (A 6))) (tCons (tIs K (.ref (A 7))) (tCons (tIs K (.ref (A 8))) tNil))))) (gName 1)) (
  tSeq (tAsg (tOp rCatL (tVar 1) (tLst (tCons (tIs K (.ref (A 9))) (tCons (tIs K (.ref (A 10))) (tCons (tIs K (.ref (A 11))) tNil))))) (gName 1)) (
  tSeq (tAsg (tOp rCatL (tVar 1) (tLst (tCons (tIs K (.ref (A 12))) (tCons (tIs K (.ref (A 13))) (tCons (tIs K (.ref (A 14))) tNil))))) (gName 1)) (
  tRet (tOp rCatL (tVar 1) (tLst (tCons (tIs K (.ref (A 15))) (tCons (tIs K (.ref (A 16))) tNil)))))))))
def t_under (K : PySem.W.Frag) (A : Nat → Addr) (P : Addr) : TS :=
  tSeq (tAsg (tLst (tCons (tIs K (.ref P)) (tCons (tIs K (.ty "ValueError")) (tCons (tIs K (.ty "ZeroDivisionError")) tNil)))) (gName 1)) (
  tSeq (tAsg (tOp rCatL (tVar 1) (tLst (tCons (tIs K (.ty "KeyError")) (tCons (tIs K (.ty "IndexError")) (tCons (tIs K (.ty "OverflowError")) tNil))))) (gName 1)) (
  tRet (tOp rCatL (tVar 1) (tLst (tCons (tIs K (.ty "LookupError")) tNil)))))
theorem run_kinds {K : PySem.W.Frag} {A : Nat → Addr} {P : Addr} (W : W01 K A P) {vs : List V} {H : Hp} {Q : VK} {E : XK} (h : spKi A vs H Q E) : t_kinds K A P { nx := fun _ H' => Q .non H', rt := Q } (L2.start ["error", "found"] vs) H := by
  obtain ⟨a, d, i, rfl, hi, hk, hQ⟩ := h
  show t_kinds K A P _ [some (.ref a), none] H
  have ec := W.ec i hi
  have s0 : Same H H := Same.refl H
  refine ⟨_, rfl, a, _, d, _, _, _, rfl, .own _, hk.same s0, ec, (W.kk i hi 0 (by decide)), ?_⟩
  refine ⟨_, rfl, a, _, d, _, _, _, rfl, .own _, hk.same s0, ec, (W.kk i hi 1 (by decide)), ?_⟩
  refine ⟨_, rfl, a, _, d, _, _, _, rfl, .own _, hk.same s0, ec, (W.kk i hi 2 (by decide)), ?_⟩
  refine ⟨by show 3 ≤ sizeLine; decide, fun p0 hp0 => ?_⟩
  have t0 := same_new hp0 (.lst [V.bl (decide (i = 0)), V.bl (decide (i = 1)), V.bl (decide (i = 2))])
  have v0 := s0.trans t0
  have l0 : (upd H p0 (.lst [V.bl (decide (i = 0)), V.bl (decide (i = 1)), V.bl (decide (i = 2))])) p0 = some (.lst [V.bl (decide (i = 0)), V.bl (decide (i = 1)), V.bl (decide (i = 2))]) := upd_same
  generalize (upd H p0 (.lst [V.bl (decide (i = 0)), V.bl (decide (i = 1)), V.bl (decide (i = 2))])) = H1 at v0 l0 ⊢
  have s1 : Same H H1 := v0
  refine ⟨_, rfl, ?_⟩
  refine ⟨_, rfl, a, _, d, _, _, _, rfl, .own _, hk.same s1, ec, (W.kk i hi 3 (by decide)), ?_⟩
  refine ⟨_, rfl, a, _, d, _, _, _, rfl, .own _, hk.same s1, ec, (W.kk i hi 4 (by decide)), ?_⟩
  refine ⟨_, rfl, a, _, d, _, _, _, rfl, .own _, hk.same s1, ec, (W.kk i hi 5 (by decide)), ?_⟩
  refine ⟨by show 3 ≤ sizeLine; decide, fun p1 hp1 => ?_⟩
  have t1 := same_new hp1 (.lst [V.bl (decide (i = 3)), V.bl (decide (i = 4)), V.bl (decide (i = 5))])
  have v1 := s1.trans t1
  have l1 : (upd H1 p1 (.lst [V.bl (decide (i = 3)), V.bl (decide (i = 4)), V.bl (decide (i = 5))])) p1 = some (.lst [V.bl (decide (i = 3)), V.bl (decide (i = 4)), V.bl (decide (i = 5))]) := upd_same
  have m1 := t1 _ _ l0
  generalize (upd H1 p1 (.lst [V.bl (decide (i = 3)), V.bl (decide (i = 4)), V.bl (decide (i = 5))])) = G1 at v1 l1 m1 ⊢
  refine ⟨p0, p1, _, _, rfl, rfl, .inl m1, .inl l1, by show 6 ≤ sizeLine; rw [sizeLine_eq]; decide, fun q1 hq1 => ?_⟩
  have u1 := same_new hq1 (.lst [V.bl (decide (i = 0)), V.bl (decide (i = 1)), V.bl (decide (i = 2)), V.bl (decide (i = 3)), V.bl (decide (i = 4)), V.bl (decide (i = 5))])
  have x1 : (upd G1 q1 (.lst [V.bl (decide (i = 0)), V.bl (decide (i = 1)), V.bl (decide (i = 2)), V.bl (decide (i = 3)), V.bl (decide (i = 4)), V.bl (decide (i = 5))])) q1 = some (.lst [V.bl (decide (i = 0)), V.bl (decide (i = 1)), V.bl (decide (i = 2)), V.bl (decide (i = 3)), V.bl (decide (i = 4)), V.bl (decide (i = 5))]) := upd_same
  have s2 := v1.trans u1
  skip
  generalize hG1 : (upd G1 q1 (.lst [V.bl (decide (i = 0)), V.bl (decide (i = 1)), V.bl (decide (i = 2)), V.bl (decide (i = 3)), V.bl (decide (i = 4)), V.bl (decide (i = 5))])) = H2 at s2 x1
  have hh1 : upd G1 q1 (.lst ([V.bl (decide (i = 0)), V.bl (decide (i = 1)), V.bl (decide (i = 2))] ++ [V.bl (decide (i = 3)), V.bl (decide (i = 4)), V.bl (decide (i = 5))])) = H2 := hG1
  rw [hh1]
  refine ⟨_, rfl, ?_⟩
  refine ⟨_, rfl, a, _, d, _, _, _, rfl, .own _, hk.same s2, ec, (W.kk i hi 6 (by decide)), ?_⟩
  refine ⟨_, rfl, a, _, d, _, _, _, rfl, .own _, hk.same s2, ec, (W.kk i hi 7 (by decide)), ?_⟩
  refine ⟨_, rfl, a, _, d, _, _, _, rfl, .own _, hk.same s2, ec, (W.kk i hi 8 (by decide)), ?_⟩
  refine ⟨by show 3 ≤ sizeLine; decide, fun p2 hp2 => ?_⟩
  have t2 := same_new hp2 (.lst [V.bl (decide (i = 6)), V.bl (decide (i = 7)), V.bl (decide (i = 8))])
  have v2 := s2.trans t2
  have l2 : (upd H2 p2 (.lst [V.bl (decide (i = 6)), V.bl (decide (i = 7)), V.bl (decide (i = 8))])) p2 = some (.lst [V.bl (decide (i = 6)), V.bl (decide (i = 7)), V.bl (decide (i = 8))]) := upd_same
  have m2 := t2 _ _ x1
  generalize (upd H2 p2 (.lst [V.bl (decide (i = 6)), V.bl (decide (i = 7)), V.bl (decide (i = 8))])) = G2 at v2 l2 m2 ⊢
  refine ⟨q1, p2, _, _, rfl, rfl, .inl m2, .inl l2, by show 9 ≤ sizeLine; rw [sizeLine_eq]; decide, fun q2 hq2 => ?_⟩
  have u2 := same_new hq2 (.lst [V.bl (decide (i = 0)), V.bl (decide (i = 1)), V.bl (decide (i = 2)), V.bl (decide (i = 3)), V.bl (decide (i = 4)), V.bl (decide (i = 5)), V.bl (decide (i = 6)), V.bl (decide (i = 7)), V.bl (decide (i = 8))])
  have x2 : (upd G2 q2 (.lst [V.bl (decide (i = 0)), V.bl (decide (i = 1)), V.bl (decide (i = 2)), V.bl (decide (i = 3)), V.bl (decide (i = 4)), V.bl (decide (i = 5)), V.bl (decide (i = 6)), V.bl (decide (i = 7)), V.bl (decide (i = 8))])) q2 = some (.lst [V.bl (decide (i = 0)), V.bl (decide (i = 1)), V.bl (decide (i = 2)), V.bl (decide (i = 3)), V.bl (decide (i = 4)), V.bl (decide (i = 5)), V.bl (decide (i = 6)), V.bl (decide (i = 7)), V.bl (decide (i = 8))]) := upd_same
  have s3 := v2.trans u2
  skip
  generalize hG2 : (upd G2 q2 (.lst [V.bl (decide (i = 0)), V.bl (decide (i = 1)), V.bl (decide (i = 2)), V.bl (decide (i = 3)), V.bl (decide (i = 4)), V.bl (decide (i = 5)), V.bl (decide (i = 6)), V.bl (decide (i = 7)), V.bl (decide (i = 8))])) = H3 at s3 x2
  have hh2 : upd G2 q2 (.lst ([V.bl (decide (i = 0)), V.bl (decide (i = 1)), V.bl (decide (i = 2)), V.bl (decide (i = 3)), V.bl (decide (i = 4)), V.bl (decide (i = 5))] ++ [V.bl (decide (i = 6)), V.bl (decide (i = 7)), V.bl (decide (i = 8))])) = H3 := hG2
  rw [hh2]
  refine ⟨_, rfl, ?_⟩
  refine ⟨_, rfl, a, _, d, _, _, _, rfl, .own _, hk.same s3, ec, (W.kk i hi 9 (by decide)), ?_⟩
  refine ⟨_, rfl, a, _, d, _, _, _, rfl, .own _, hk.same s3, ec, (W.kk i hi 10 (by decide)), ?_⟩
  refine ⟨_, rfl, a, _, d, _, _, _, rfl, .own _, hk.same s3, ec, (W.kk i hi 11 (by decide)), ?_⟩
  refine ⟨by show 3 ≤ sizeLine; decide, fun p3 hp3 => ?_⟩
  have t3 := same_new hp3 (.lst [V.bl (decide (i = 9)), V.bl (decide (i = 10)), V.bl (decide (i = 11))])
  have v3 := s3.trans t3
  have l3 : (upd H3 p3 (.lst [V.bl (decide (i = 9)), V.bl (decide (i = 10)), V.bl (decide (i = 11))])) p3 = some (.lst [V.bl (decide (i = 9)), V.bl (decide (i = 10)), V.bl (decide (i = 11))]) := upd_same
  have m3 := t3 _ _ x2
  generalize (upd H3 p3 (.lst [V.bl (decide (i = 9)), V.bl (decide (i = 10)), V.bl (decide (i = 11))])) = G3 at v3 l3 m3 ⊢
  refine ⟨q2, p3, _, _, rfl, rfl, .inl m3, .inl l3, by show 12 ≤ sizeLine; rw [sizeLine_eq]; decide, fun q3 hq3 => ?_⟩
  have u3 := same_new hq3 (.lst [V.bl (decide (i = 0)), V.bl (decide (i = 1)), V.bl (decide (i = 2)), V.bl (decide (i = 3)), V.bl (decide (i = 4)), V.bl (decide (i = 5)), V.bl (decide (i = 6)), V.bl (decide (i = 7)), V.bl (decide (i = 8)), V.bl (decide (i = 9)), V.bl (decide (i = 10)), V.bl (decide (i = 11))])
  have x3 : (upd G3 q3 (.lst [V.bl (decide (i = 0)), V.bl (decide (i = 1)), V.bl (decide (i = 2)), V.bl (decide (i = 3)), V.bl (decide (i = 4)), V.bl (decide (i = 5)), V.bl (decide (i = 6)), V.bl (decide (i = 7)), V.bl (decide (i = 8)), V.bl (decide (i = 9)), V.bl (decide (i = 10)), V.bl (decide (i = 11))])) q3 = some (.lst [V.bl (decide (i = 0)), V.bl (decide (i = 1)), V.bl (decide (i = 2)), V.bl (decide (i = 3)), V.bl (decide (i = 4)), V.bl (decide (i = 5)), V.bl (decide (i = 6)), V.bl (decide (i = 7)), V.bl (decide (i = 8)), V.bl (decide (i = 9)), V.bl (decide (i = 10)), V.bl (decide (i = 11))]) := upd_same
  have s4 := v3.trans u3
  skip
  generalize hG3 : (upd G3 q3 (.lst [V.bl (decide (i = 0)), V.bl (decide (i = 1)), V.bl (decide (i = 2)), V.bl (decide (i = 3)), V.bl (decide (i = 4)), V.bl (decide (i = 5)), V.bl (decide (i = 6)), V.bl (decide (i = 7)), V.bl (decide (i = 8)), V.bl (decide (i = 9)), V.bl (decide (i = 10)), V.bl (decide (i = 11))])) = H4 at s4 x3
  have hh3 : upd G3 q3 (.lst ([V.bl (decide (i = 0)), V.bl (decide (i = 1)), V.bl (decide (i = 2)), V.bl (decide (i = 3)), V.bl (decide (i = 4)), V.bl (decide (i = 5)), V.bl (decide (i = 6)), V.bl (decide (i = 7)), V.bl (decide (i = 8))] ++ [V.bl (decide (i = 9)), V.bl (decide (i = 10)), V.bl (decide (i = 11))])) = H4 := hG3
  rw [hh3]
  refine ⟨_, rfl, ?_⟩
  refine ⟨_, rfl, a, _, d, _, _, _, rfl, .own _, hk.same s4, ec, (W.kk i hi 12 (by decide)), ?_⟩
  refine ⟨_, rfl, a, _, d, _, _, _, rfl, .own _, hk.same s4, ec, (W.kk i hi 13 (by decide)), ?_⟩
  refine ⟨_, rfl, a, _, d, _, _, _, rfl, .own _, hk.same s4, ec, (W.kk i hi 14 (by decide)), ?_⟩
  refine ⟨by show 3 ≤ sizeLine; decide, fun p4 hp4 => ?_⟩
  have t4 := same_new hp4 (.lst [V.bl (decide (i = 12)), V.bl (decide (i = 13)), V.bl (decide (i = 14))])
  have v4 := s4.trans t4
  have l4 : (upd H4 p4 (.lst [V.bl (decide (i = 12)), V.bl (decide (i = 13)), V.bl (decide (i = 14))])) p4 = some (.lst [V.bl (decide (i = 12)), V.bl (decide (i = 13)), V.bl (decide (i = 14))]) := upd_same
  have m4 := t4 _ _ x3
  generalize (upd H4 p4 (.lst [V.bl (decide (i = 12)), V.bl (decide (i = 13)), V.bl (decide (i = 14))])) = G4 at v4 l4 m4 ⊢
  refine ⟨q3, p4, _, _, rfl, rfl, .inl m4, .inl l4, by show 15 ≤ sizeLine; rw [sizeLine_eq]; decide, fun q4 hq4 => ?_⟩
  have u4 := same_new hq4 (.lst [V.bl (decide (i = 0)), V.bl (decide (i = 1)), V.bl (decide (i = 2)), V.bl (decide (i = 3)), V.bl (decide (i = 4)), V.bl (decide (i = 5)), V.bl (decide (i = 6)), V.bl (decide (i = 7)), V.bl (decide (i = 8)), V.bl (decide (i = 9)), V.bl (decide (i = 10)), V.bl (decide (i = 11)), V.bl (decide (i = 12)), V.bl (decide (i = 13)), V.bl (decide (i = 14))])
  have x4 : (upd G4 q4 (.lst [V.bl (decide (i = 0)), V.bl (decide (i = 1)), V.bl (decide (i = 2)), V.bl (decide (i = 3)), V.bl (decide (i = 4)), V.bl (decide (i = 5)), V.bl (decide (i = 6)), V.bl (decide (i = 7)), V.bl (decide (i = 8)), V.bl (decide (i = 9)), V.bl (decide (i = 10)), V.bl (decide (i = 11)), V.bl (decide (i = 12)), V.bl (decide (i = 13)), V.bl (decide (i = 14))])) q4 = some (.lst [V.bl (decide (i = 0)), V.bl (decide (i = 1)), V.bl (decide (i = 2)), V.bl (decide (i = 3)), V.bl (decide (i = 4)), V.bl (decide (i = 5)), V.bl (decide (i = 6)), V.bl (decide (i = 7)), V.bl (decide (i = 8)), V.bl (decide (i = 9)), V.bl (decide (i = 10)), V.bl (decide (i = 11)), V.bl (decide (i = 12)), V.bl (decide (i = 13)), V.bl (decide (i = 14))]) := upd_same
  have s5 := v4.trans u4
  skip
  generalize hG4 : (upd G4 q4 (.lst [V.bl (decide (i = 0)), V.bl (decide (i = 1)), V.bl (decide (i = 2)), V.bl (decide (i = 3)), V.bl (decide (i = 4)), V.bl (decide (i = 5)), V.bl (decide (i = 6)), V.bl (decide (i = 7)), V.bl (decide (i = 8)), V.bl (decide (i = 9)), V.bl (decide (i = 10)), V.bl (decide (i = 11)), V.bl (decide (i = 12)), V.bl (decide (i = 13)), V.bl (decide (i = 14))])) = H5 at s5 x4
  have hh4 : upd G4 q4 (.lst ([V.bl (decide (i = 0)), V.bl (decide (i = 1)), V.bl (decide (i = 2)), V.bl (decide (i = 3)), V.bl (decide (i = 4)), V.bl (decide (i = 5)), V.bl (decide (i = 6)), V.bl (decide (i = 7)), V.bl (decide (i = 8)), V.bl (decide (i = 9)), V.bl (decide (i = 10)), V.bl (decide (i = 11))] ++ [V.bl (decide (i = 12)), V.bl (decide (i = 13)), V.bl (decide (i = 14))])) = H5 := hG4
  rw [hh4]
  refine ⟨_, rfl, ?_⟩
  refine ⟨_, rfl, a, _, d, _, _, _, rfl, .own _, hk.same s5, ec, (W.kk i hi 15 (by decide)), ?_⟩
  refine ⟨_, rfl, a, _, d, _, _, _, rfl, .own _, hk.same s5, ec, (W.kk i hi 16 (by decide)), ?_⟩
  refine ⟨by show 2 ≤ sizeLine; decide, fun p5 hp5 => ?_⟩
  have t5 := same_new hp5 (.lst [V.bl (decide (i = 15)), V.bl (decide (i = 16))])
  have v5 := s5.trans t5
  have l5 : (upd H5 p5 (.lst [V.bl (decide (i = 15)), V.bl (decide (i = 16))])) p5 = some (.lst [V.bl (decide (i = 15)), V.bl (decide (i = 16))]) := upd_same
  have m5 := t5 _ _ x4
  generalize (upd H5 p5 (.lst [V.bl (decide (i = 15)), V.bl (decide (i = 16))])) = G5 at v5 l5 m5 ⊢
  refine ⟨q4, p5, _, _, rfl, rfl, .inl m5, .inl l5, by show 17 ≤ sizeLine; rw [sizeLine_eq]; decide, fun q5 hq5 => ?_⟩
  have u5 := same_new hq5 (.lst [V.bl (decide (i = 0)), V.bl (decide (i = 1)), V.bl (decide (i = 2)), V.bl (decide (i = 3)), V.bl (decide (i = 4)), V.bl (decide (i = 5)), V.bl (decide (i = 6)), V.bl (decide (i = 7)), V.bl (decide (i = 8)), V.bl (decide (i = 9)), V.bl (decide (i = 10)), V.bl (decide (i = 11)), V.bl (decide (i = 12)), V.bl (decide (i = 13)), V.bl (decide (i = 14)), V.bl (decide (i = 15)), V.bl (decide (i = 16))])
  have x5 : (upd G5 q5 (.lst [V.bl (decide (i = 0)), V.bl (decide (i = 1)), V.bl (decide (i = 2)), V.bl (decide (i = 3)), V.bl (decide (i = 4)), V.bl (decide (i = 5)), V.bl (decide (i = 6)), V.bl (decide (i = 7)), V.bl (decide (i = 8)), V.bl (decide (i = 9)), V.bl (decide (i = 10)), V.bl (decide (i = 11)), V.bl (decide (i = 12)), V.bl (decide (i = 13)), V.bl (decide (i = 14)), V.bl (decide (i = 15)), V.bl (decide (i = 16))])) q5 = some (.lst [V.bl (decide (i = 0)), V.bl (decide (i = 1)), V.bl (decide (i = 2)), V.bl (decide (i = 3)), V.bl (decide (i = 4)), V.bl (decide (i = 5)), V.bl (decide (i = 6)), V.bl (decide (i = 7)), V.bl (decide (i = 8)), V.bl (decide (i = 9)), V.bl (decide (i = 10)), V.bl (decide (i = 11)), V.bl (decide (i = 12)), V.bl (decide (i = 13)), V.bl (decide (i = 14)), V.bl (decide (i = 15)), V.bl (decide (i = 16))]) := upd_same
  refine hQ q5 _ ?_ (v5.trans u5) ?_
  · cases e : H q5 with
    | none => rfl
    | some o => rw [v5 _ _ e] at hq5; cases hq5
  · exact x5
theorem undL_eq (i : Nat) : [V.bl ((undL i).getD 0 false), V.bl ((undL i).getD 1 false), V.bl ((undL i).getD 2 false), V.bl ((undL i).getD 3 false), V.bl ((undL i).getD 4 false), V.bl ((undL i).getD 5 false), V.bl ((undL i).getD 6 false)] = (undL i).map V.bl := by
  unfold undL
  repeat' split
  all_goals rfl
theorem run_under {K : PySem.W.Frag} {A : Nat → Addr} {P : Addr} (W : W01 K A P) {vs : List V} {H : Hp} {Q : VK} {E : XK} (h : spUn A vs H Q E) : t_under K A P { nx := fun _ H' => Q .non H', rt := Q } (L2.start ["error", "found"] vs) H := by
  obtain ⟨a, d, i, rfl, hi, hk, hQ⟩ := h
  show t_under K A P _ [some (.ref a), none] H
  have ec := W.ec i hi
  have s0 : Same H H := Same.refl H
  refine ⟨_, rfl, a, _, d, _, _, _, rfl, .own _, hk.same s0, ec, (W.ku i hi 0 (by decide)), ?_⟩
  refine ⟨_, rfl, a, _, d, _, _, _, rfl, .ty _, hk.same s0, ec, (W.ku i hi 1 (by decide)), ?_⟩
  refine ⟨_, rfl, a, _, d, _, _, _, rfl, .ty _, hk.same s0, ec, (W.ku i hi 2 (by decide)), ?_⟩
  refine ⟨by show 3 ≤ sizeLine; decide, fun p0 hp0 => ?_⟩
  have t0 := same_new hp0 (.lst [V.bl ((undL i).getD 0 false), V.bl ((undL i).getD 1 false), V.bl ((undL i).getD 2 false)])
  have v0 := s0.trans t0
  have l0 : (upd H p0 (.lst [V.bl ((undL i).getD 0 false), V.bl ((undL i).getD 1 false), V.bl ((undL i).getD 2 false)])) p0 = some (.lst [V.bl ((undL i).getD 0 false), V.bl ((undL i).getD 1 false), V.bl ((undL i).getD 2 false)]) := upd_same
  generalize (upd H p0 (.lst [V.bl ((undL i).getD 0 false), V.bl ((undL i).getD 1 false), V.bl ((undL i).getD 2 false)])) = H1 at v0 l0 ⊢
  have s1 : Same H H1 := v0
  refine ⟨_, rfl, ?_⟩
  refine ⟨_, rfl, a, _, d, _, _, _, rfl, .ty _, hk.same s1, ec, (W.ku i hi 3 (by decide)), ?_⟩
  refine ⟨_, rfl, a, _, d, _, _, _, rfl, .ty _, hk.same s1, ec, (W.ku i hi 4 (by decide)), ?_⟩
  refine ⟨_, rfl, a, _, d, _, _, _, rfl, .ty _, hk.same s1, ec, (W.ku i hi 5 (by decide)), ?_⟩
  refine ⟨by show 3 ≤ sizeLine; decide, fun p1 hp1 => ?_⟩
  have t1 := same_new hp1 (.lst [V.bl ((undL i).getD 3 false), V.bl ((undL i).getD 4 false), V.bl ((undL i).getD 5 false)])
  have v1 := s1.trans t1
  have l1 : (upd H1 p1 (.lst [V.bl ((undL i).getD 3 false), V.bl ((undL i).getD 4 false), V.bl ((undL i).getD 5 false)])) p1 = some (.lst [V.bl ((undL i).getD 3 false), V.bl ((undL i).getD 4 false), V.bl ((undL i).getD 5 false)]) := upd_same
  have m1 := t1 _ _ l0
  generalize (upd H1 p1 (.lst [V.bl ((undL i).getD 3 false), V.bl ((undL i).getD 4 false), V.bl ((undL i).getD 5 false)])) = G1 at v1 l1 m1 ⊢
  refine ⟨p0, p1, _, _, rfl, rfl, .inl m1, .inl l1, by show 6 ≤ sizeLine; rw [sizeLine_eq]; decide, fun q1 hq1 => ?_⟩
  have u1 := same_new hq1 (.lst [V.bl ((undL i).getD 0 false), V.bl ((undL i).getD 1 false), V.bl ((undL i).getD 2 false), V.bl ((undL i).getD 3 false), V.bl ((undL i).getD 4 false), V.bl ((undL i).getD 5 false)])
  have x1 : (upd G1 q1 (.lst [V.bl ((undL i).getD 0 false), V.bl ((undL i).getD 1 false), V.bl ((undL i).getD 2 false), V.bl ((undL i).getD 3 false), V.bl ((undL i).getD 4 false), V.bl ((undL i).getD 5 false)])) q1 = some (.lst [V.bl ((undL i).getD 0 false), V.bl ((undL i).getD 1 false), V.bl ((undL i).getD 2 false), V.bl ((undL i).getD 3 false), V.bl ((undL i).getD 4 false), V.bl ((undL i).getD 5 false)]) := upd_same
  have s2 := v1.trans u1
  skip
  generalize hG1 : (upd G1 q1 (.lst [V.bl ((undL i).getD 0 false), V.bl ((undL i).getD 1 false), V.bl ((undL i).getD 2 false), V.bl ((undL i).getD 3 false), V.bl ((undL i).getD 4 false), V.bl ((undL i).getD 5 false)])) = H2 at s2 x1
  have hh1 : upd G1 q1 (.lst ([V.bl ((undL i).getD 0 false), V.bl ((undL i).getD 1 false), V.bl ((undL i).getD 2 false)] ++ [V.bl ((undL i).getD 3 false), V.bl ((undL i).getD 4 false), V.bl ((undL i).getD 5 false)])) = H2 := hG1
  rw [hh1]
  refine ⟨_, rfl, ?_⟩
  refine ⟨_, rfl, a, _, d, _, _, _, rfl, .ty _, hk.same s2, ec, (W.ku i hi 6 (by decide)), ?_⟩
  refine ⟨by show 1 ≤ sizeLine; decide, fun p2 hp2 => ?_⟩
  have t2 := same_new hp2 (.lst [V.bl ((undL i).getD 6 false)])
  have v2 := s2.trans t2
  have l2 : (upd H2 p2 (.lst [V.bl ((undL i).getD 6 false)])) p2 = some (.lst [V.bl ((undL i).getD 6 false)]) := upd_same
  have m2 := t2 _ _ x1
  generalize (upd H2 p2 (.lst [V.bl ((undL i).getD 6 false)])) = G2 at v2 l2 m2 ⊢
  refine ⟨q1, p2, _, _, rfl, rfl, .inl m2, .inl l2, by show 7 ≤ sizeLine; rw [sizeLine_eq]; decide, fun q2 hq2 => ?_⟩
  have u2 := same_new hq2 (.lst [V.bl ((undL i).getD 0 false), V.bl ((undL i).getD 1 false), V.bl ((undL i).getD 2 false), V.bl ((undL i).getD 3 false), V.bl ((undL i).getD 4 false), V.bl ((undL i).getD 5 false), V.bl ((undL i).getD 6 false)])
  have x2 : (upd G2 q2 (.lst [V.bl ((undL i).getD 0 false), V.bl ((undL i).getD 1 false), V.bl ((undL i).getD 2 false), V.bl ((undL i).getD 3 false), V.bl ((undL i).getD 4 false), V.bl ((undL i).getD 5 false), V.bl ((undL i).getD 6 false)])) q2 = some (.lst [V.bl ((undL i).getD 0 false), V.bl ((undL i).getD 1 false), V.bl ((undL i).getD 2 false), V.bl ((undL i).getD 3 false), V.bl ((undL i).getD 4 false), V.bl ((undL i).getD 5 false), V.bl ((undL i).getD 6 false)]) := upd_same
  refine hQ q2 _ ?_ (v2.trans u2) ?_
  · cases e : H q2 with
    | none => rfl
    | some o => rw [v2 _ _ e] at hq2; cases hq2
  · exact x2.trans (by rw [undL_eq])
/-! ### what it bears -/
def spBo (A : Nat → Addr) : Sp := fun vs H Q _ => ∃ (a dd : Addr) (i : Nat) (w : V) (v : V), vs = [w, .ref a] ∧ 12 ≤ i ∧ i < 17 ∧ H a = some (.ext (excAtD a (.ref (A i)) (some dd))) ∧ H dd = some (.xd [(fldN i, v)]) ∧ Q v H
def tIs1 (K : PySem.W.Frag) (c : V) : TE := tCB (rIsiD K) (tCons (tVar 1) (tCons (tC c) tNil))
def t_borne (K : PySem.W.Frag) (A : Nat → Addr) : TS :=
  tSeq (tIfS (tB (tIs1 K (.ref (A 12)))) (tRet (tEf K "at" (tVar 1))) tNext) (
  tSeq (tIfS (tB (tIs1 K (.ref (A 13)))) (tRet (tEf K "name" (tVar 1))) tNext) (
  tSeq (tIfS (tB (tIs1 K (.ref (A 14)))) (tRet (tEf K "number" (tVar 1))) tNext) (
  tRet (tIf (tB (tIs1 K (.ref (A 15)))) (tEf K "many" (tVar 1)) (tEf K "last" (tVar 1))))))
theorem run_borne {K : PySem.W.Frag} {A : Nat → Addr} {P : Addr} (W : W01 K A P) {vs : List V} {H : Hp} {Q : VK} {E : XK} (h : spBo A vs H Q E) : t_borne K A { nx := fun _ H' => Q .non H', rt := Q } (L2.start ["which", "error"] vs) H := by
  obtain ⟨a, dd, i, z, v, rfl, hi, hi2, ha, hd, hQ⟩ := h
  show t_borne K A _ [some z, some (.ref a)] H
  have ec := W.ec i hi2
  obtain ⟨xf, hno⟩ := W.xf i hi hi2
  have kp : KeptE H a (A i) (some dd) := ⟨ha, fun e q => by cases q; exact ⟨_, hd⟩⟩
  have lk : [(fldN i, v)].lookup (fldN i) = some v := by simp [List.lookup]
  refine ⟨_, rfl, a, _, _, _, _, _, rfl, .own _, kp, ec, W.kk i hi2 12 (by decide), _, rfl, ?_⟩
  by_cases c12 : i = 12
  · subst c12
    exact ⟨_, rfl, a, _, dd, _, v, rfl, ha, hd, xf, hno, lk, hQ⟩
  rw [decide_eq_false c12]
  dsimp only
  rw [if_neg Bool.false_ne_true]
  refine ⟨_, rfl, a, _, _, _, _, _, rfl, .own _, kp, ec, W.kk i hi2 13 (by decide), _, rfl, ?_⟩
  by_cases c13 : i = 13
  · subst c13
    exact ⟨_, rfl, a, _, dd, _, v, rfl, ha, hd, xf, hno, lk, hQ⟩
  rw [decide_eq_false c13]
  dsimp only
  rw [if_neg Bool.false_ne_true]
  refine ⟨_, rfl, a, _, _, _, _, _, rfl, .own _, kp, ec, W.kk i hi2 14 (by decide), _, rfl, ?_⟩
  by_cases c14 : i = 14
  · subst c14
    exact ⟨_, rfl, a, _, dd, _, v, rfl, ha, hd, xf, hno, lk, hQ⟩
  rw [decide_eq_false c14]
  dsimp only
  rw [if_neg Bool.false_ne_true]
  refine ⟨_, rfl, a, _, _, _, _, _, rfl, .own _, kp, ec, W.kk i hi2 15 (by decide), _, rfl, ?_⟩
  by_cases c15 : i = 15
  · subst c15
    exact ⟨_, rfl, a, _, dd, _, v, rfl, ha, hd, xf, hno, lk, hQ⟩
  obtain rfl : i = 16 := by omega
  exact ⟨_, rfl, a, _, dd, _, v, rfl, ha, hd, xf, hno, lk, hQ⟩
end DL

set_option Elab.async false
set_option linter.all false
set_option maxRecDepth 100000
set_option maxHeartbeats 4000000
/-! LQ7: the law of heights -/
namespace DL
open PySem PySem.Spec PyProof.Rows L2
section
variable {K : PySem.W.Frag} {S : Stt} {ρ : Rho} {Φ : PyData → Rho → Prop} {Ψ : PyData → Prop}
abbrev rInt1 : List V → Hp → VK → Prop := fun xs H Q => (∃ i, xs = [.int i] ∧ Q (.int i) H) ∨ ∃ k, xs = [.bl k] ∧ Q (.int (if k then 1 else 0)) H
theorem wt_yes {Θ : Bool → Rho → Prop} (h : Θ true ρ) : WT K S tYes ρ Θ := fun H0 N0 Z N σ H E Q q => q true ρ H h E Keep.refl
end
local macro_rules | `(tactic| walk_at "dl") => `(tactic| repeat' (first
  | with_reducible refine wd_isTy ?_ | with_reducible refine wd_isi ?_ | with_reducible refine wd_op ?_ | ((with_reducible show WD _ _ (tCB (rLenX _) (tCons (tVar _) tNil)) _ _); refine wd_len_scr rfl ?_) | with_reducible refine wd_cb ?_ | with_reducible refine wd_un ?_ | with_reducible refine wa_cons ?_ | with_reducible refine wa_nil ?_ | ((with_reducible show WD _ _ (tVar _) _ _); refine wd_var rfl ?_) | with_reducible refine wd_int ?_ | with_reducible refine wd_bl ?_ | with_reducible refine wd_str ?_ | with_reducible refine wd_non ?_
  | with_reducible refine do_nesS ?_ | with_reducible refine dc_intB ?_ | with_reducible refine do_add ?_ | with_reducible refine do_sub ?_ | ((with_reducible refine do_mod ?_ ?_); decide) | with_reducible refine do_mod ?_ ?_ | with_reducible refine do_mul ?_ ?_ | ((with_reducible refine do_div ?_ ?_); exact ⟨by decide, by decide⟩) | with_reducible refine do_div ?_ ?_ | ((with_reducible refine do_pow ?_ ?_); exact ⟨by decide, by decide, by decide⟩) | with_reducible refine do_pow ?_ ?_
  | with_reducible refine do_lt ?_ | with_reducible refine do_le ?_ | with_reducible refine do_gt ?_ | with_reducible refine do_ge ?_ | with_reducible refine du_neg ?_
  | with_reducible refine do_eqi ?_ | with_reducible refine do_nei ?_ | with_reducible refine do_eqs ?_ | with_reducible refine do_nes ?_ | with_reducible refine dc_abs ?_ | with_reducible refine dc_min ?_ | with_reducible refine dc_max ?_ | with_reducible refine dc_lenL ?_ | with_reducible refine dc_lenT ?_ | with_reducible refine dc_gcd ?_
  | ((with_reducible show DO _ (rIxT _) _ _ _); refine do_ixT rfl ?_) | ((with_reducible show DO _ (rIxL _) _ _ _); refine do_ixL rfl ?_) | ((with_reducible refine do_catL ?_ ?_); exact Nat.le_of_ble_eq_true rfl) | with_reducible refine do_catL ?_ ?_ | ((with_reducible show And (List.length _ ≤ sizeLine) _); refine ⟨Nat.le_of_ble_eq_true rfl, ?_⟩)
  | with_reducible refine wd_dnew ?_ | with_reducible refine wd_call0 ?_ | with_reducible refine wd_slA ?_ | with_reducible refine wo_part ?_ | with_reducible refine wo_none ?_ | with_reducible refine do_eqQ ?_ | with_reducible refine do_neQ ?_ | with_reducible refine wi_enumT ?_ | with_reducible refine tAdQ (by omega) (by omega) ?_ | with_reducible refine tSbQ (by omega) (by omega) ?_ | with_reducible refine tMlQ (by omega) (by omega) ?_ | with_reducible refine tDvQ (by assumption) (by omega) (by omega) ?_ | with_reducible refine tLtQ (by omega) (by omega) ?_ | with_reducible refine dc_str ?_ ?_ | with_reducible refine wd_tup ?_ | with_reducible refine wd_lst ?_ | with_reducible refine wt_test ?_ | with_reducible refine wt_B ?_ | with_reducible refine wt_not ?_ | with_reducible refine wt_and ?_ | with_reducible refine wt_or ?_ | with_reducible refine wd_ifE ?_ | with_reducible refine wd_andV ?_ | with_reducible refine wd_orV ?_ | with_reducible refine wd_notV ?_
  | with_reducible refine ws_seq ?_ | with_reducible refine ws_next ?_ | with_reducible refine ws_asg ?_ | with_reducible refine ws_ret ?_ | with_reducible refine ws_retN ?_ | with_reducible refine ws_if ?_ | with_reducible refine ws_par ?_ | with_reducible refine ws_unp2 ?_
  | with_reducible refine if_t ?_ | with_reducible refine if_f ?_ | with_reducible refine if_nf ?_ | with_reducible refine if_nt ?_
  | ((with_reducible show Exists _); first | refine ⟨_, kitInt _, ?_⟩ | refine ⟨_, kitBool _, ?_⟩ | refine ⟨_, kitTup _, ?_⟩ | refine ⟨_, kitList _, ?_⟩ | refine ⟨_, rfl, ?_⟩ | refine ⟨_, _, rfl, ?_⟩ | fail) | fail))
def t_law7 (K : PySem.W.Frag) : TS :=
  (tSeq (tFor (iEnum K (tCons (tOp rCatL (tLst (tCons (tC (.int 0)) tNil)) (tCall (spF K) [] E0 (tCons (tVar 0) (tCons (tC (.int 20)) tNil)))) tNil)) (gTup K 2 (gCons (gName 1) (gCons (gName 2) gNil))) (tSeq (tAsg (tCall (spN K TPot) [] E0 (tCons (tVar 2) (tCons (tVar 1) tNil))) (gName 3))
    (tSeq (tAsg (tCall (spS K FPot TLine) [] E0 (tCons (tVar 3) (tCons (tOp (rIxL K) (tLst (tCons (tC (.int 12)) (tCons (tC (.int 60)) tNil))) (tCB rInt1 (tCons (tOp rEq (tVar 1) (tC (.int 1))) tNil))) tNil))) (gName 4))
    (tSeq (tAsg (tLc (iTup K (tOp (rIxT K) (tVar 4) (tC (.int 0)))) (gName 10) tYes (tOp (rIxT K) (tVar 10) (tC (.int 0))) [10]) (gName 5))
    (tSeq (tFor (iRng1 (tCons (tC (.int 4)) tNil)) (gName 6) (tSeq (tAsg (tOp (rIxL K) (tVar 5) (tCall (spS K FPot TTake) [] E0 (tCons (tVar 3) (tCons (tCB (rLenX K) (tCons (tOp (rIxT K) (tVar 4) (tC (.int 0))) tNil)) tNil)))) (gName 7))
    (tDrop (tBM K "list" rAppend (tVar 5) (tCons (tCall (spP K TAdQ) [] E0 (tCons (tVar 7) (tCons (tCall (spP K TLow) [] E0 (tCons (tCall (spS K FPot TTake) [] E0 (tCons (tVar 3) (tCons (tC (.int 9)) tNil))) (tCons (tOp (rIxL K) (tLst (tCons (tC (.int 1)) (tCons (tC (.int 7)) tNil))) (tCB rInt1 (tCons (tOp rLt (tOp (rIxT K) (tVar 7) (tC (.int 1))) (tC (.int 100))) tNil))) tNil))) tNil))) tNil)))))
    (tSeq (tAsg (tOp rCatL (tVar 5) (tLst (tCons (tCall (spP K TLow) [] E0 (tCons (tCall (spS K FPot TTake) [] E0 (tCons (tVar 3) (tCons (tOp rPowI (tC (.int 10)) (tC (.int 6))) tNil))) (tCons (tOp rAddI (tC (.int 1)) (tCall (spS K FPot TTake) [] E0 (tCons (tVar 3) (tCons (tC (.int 1000)) tNil)))) tNil))) (tCons (tTup (tCons (tOp rPowI (tC (.int 10)) (tC (.int 6))) (tCons (tC (.int 1)) tNil))) tNil)))) (gName 5))
    (tSeq (tFor (iList K (tVar 5)) (gName 8) (tIfS (tTest (tOp rNe (tCB (rRepr K) (tCons (tLst (tCons (tCall (spP K TYat) [] E0 (tCons (tVar 4) (tCons (tVar 8) tNil))) (tCons (tCall (spP K TYat) [] E0 (tCons (tVar 4) (tCons (tVar 8) tNil))) tNil))) tNil)) (tCB (rRepr K) (tCons (tLst (tCons (tCall (spP K TYat) [] E0 (tCons (tVar 4) (tCons (tVar 8) tNil))) (tCons (tCall (spP K TYat) [] E0 (tCons (tVar 4) (tCons (tVar 8) tNil))) tNil))) tNil)))) (tRet (tC (.bl false))) tNext))
    (tSeq (tIfS (tTest (tOp rNe (tCall (spP K TTold) [] E0 (tCons (tVar 4) (tCons (tCall (spP K TLow) [] E0 (tCons (tOp rSubI (tUn rNegI (tC (.int 1))) (tCall (spS K FPot TTake) [] E0 (tCons (tVar 3) (tCons (tC (.int 99)) tNil)))) (tCons (tOp rAddI (tC (.int 1)) (tCall (spS K FPot TTake) [] E0 (tCons (tVar 3) (tCons (tC (.int 99)) tNil)))) tNil))) tNil))) (tC (.str "amount")))) (tRet (tC (.bl false))) tNext)
    (tSeq (tAsg (tCall (spP K TLow) [] E0 (tCons (tOp rSubI (tCall (spS K FPot TTake) [] E0 (tCons (tVar 3) (tCons (tC (.int 2001)) tNil))) (tC (.int 1000))) (tCons (tOp rAddI (tC (.int 1)) (tCall (spS K FPot TTake) [] E0 (tCons (tVar 3) (tCons (tC (.int 1000)) tNil)))) tNil))) (gName 9))
    (tIfS (tOr (tTest (tOp rNe (tCB (rRepr K) (tCons (tCall (spP K TFlat) [] E0 (tCons (tVar 9) tNil)) tNil)) (tCB (rRepr K) (tCons (tTup (tCons (tTup (tCons (tTup (tCons (tTup (tCons (tC (.int 0)) (tCons (tC (.int 1)) tNil))) (tCons (tVar 9) tNil))) tNil)) (tCons (tTup (tCons (tC (.int 0)) (tCons (tC (.int 1)) tNil))) tNil))) tNil)))) (tTest (tOp (rNeD K) (tCall (spP K TYat) [] E0 (tCons (tCall (spP K TFlat) [] E0 (tCons (tVar 9) tNil)) (tCons (tTup (tCons (tOp rPowI (tC (.int 10)) (tC (.int 6))) (tCons (tC (.int 7)) tNil))) tNil))) (tVar 9)))) (tRet (tC (.bl false))) tNext))))))))))
    (tRet (tC (.bl true))))
/-- what is asked of -/
def Ask (x : Rat) : Prop := 0 ≤ x ∧ sz x ≤ 100
end DL

set_option Elab.async false
set_option linter.all false
set_option maxRecDepth 100000
set_option maxHeartbeats 4000000
namespace DL
open PySem PySem.Spec PyProof.Rows L2
end DL

set_option Elab.async false
set_option linter.all false
set_option maxRecDepth 100000
set_option maxHeartbeats 4000000
/-! K02: what is a part, what an amount -/
namespace DL
open PySem PySem.Spec PyProof.Rows L2
local macro_rules | `(tactic| walk_at "dl") => `(tactic| repeat' (first
  | with_reducible refine wd_isTy ?_ | with_reducible refine wd_isi ?_ | with_reducible refine wd_op ?_ | with_reducible refine wd_cb ?_ | with_reducible refine wd_un ?_ | with_reducible refine wa_cons ?_ | with_reducible refine wa_nil ?_ | ((with_reducible show WD _ _ (tVar _) _ _); refine wd_var rfl ?_) | with_reducible refine wd_int ?_ | with_reducible refine wd_bl ?_ | with_reducible refine wd_str ?_ | with_reducible refine wd_non ?_
  | with_reducible refine do_add ?_ | with_reducible refine do_sub ?_ | ((with_reducible refine do_mod ?_ ?_); decide) | with_reducible refine do_mod ?_ ?_ | with_reducible refine do_mul ?_ ?_ | ((with_reducible refine do_div ?_ ?_); exact ⟨by decide, by decide⟩) | with_reducible refine do_div ?_ ?_ | ((with_reducible refine do_pow ?_ ?_); exact ⟨by decide, by decide, by decide⟩) | with_reducible refine do_pow ?_ ?_
  | with_reducible refine do_lt ?_ | with_reducible refine do_le ?_ | with_reducible refine do_gt ?_ | with_reducible refine do_ge ?_ | with_reducible refine du_neg ?_
  | with_reducible refine do_eqi ?_ | with_reducible refine do_nei ?_ | with_reducible refine do_eqs ?_ | with_reducible refine do_nes ?_ | with_reducible refine dc_abs ?_ | with_reducible refine dc_min ?_ | with_reducible refine dc_max ?_ | with_reducible refine dc_lenL ?_ | with_reducible refine dc_lenT ?_ | with_reducible refine dc_gcd ?_
  | ((with_reducible show DO _ (rIxT _) _ _ _); refine do_ixT rfl ?_) | ((with_reducible show DO _ (rIxL _) _ _ _); refine do_ixL rfl ?_) | with_reducible refine do_catL ?_ ?_
  | with_reducible refine wd_dnew ?_ | with_reducible refine wd_call0 ?_ | with_reducible refine dc_str ?_ ?_ | with_reducible refine wd_tup ?_ | with_reducible refine wd_lst ?_ | with_reducible refine wt_test ?_ | with_reducible refine wt_B ?_ | with_reducible refine wt_not ?_ | with_reducible refine wt_and ?_ | with_reducible refine wt_or ?_ | with_reducible refine wd_ifE ?_ | with_reducible refine wd_andV ?_ | with_reducible refine wd_orV ?_ | with_reducible refine wd_notV ?_
  | with_reducible refine ws_seq ?_ | with_reducible refine ws_next ?_ | with_reducible refine ws_asg ?_ | with_reducible refine ws_ret ?_ | with_reducible refine ws_retN ?_ | with_reducible refine ws_if ?_ | with_reducible refine ws_par ?_ | with_reducible refine ws_unp2 ?_
  | with_reducible refine if_t ?_ | with_reducible refine if_f ?_ | with_reducible refine if_nf ?_ | with_reducible refine if_nt ?_
  | ((with_reducible show Exists _); first | refine ⟨_, kitInt _, ?_⟩ | refine ⟨_, kitBool _, ?_⟩ | refine ⟨_, kitTup _, ?_⟩ | refine ⟨_, kitList _, ?_⟩ | refine ⟨_, rfl, ?_⟩ | refine ⟨_, _, rfl, ?_⟩ | fail) | fail))

def isW (d : PyData) : Bool := tyD d == "int"
def isPartD : PyData → Bool
  | .tuple [.int a, .int b] => decide (1 ≤ b) && decide (Nat.gcd a.natAbs b.natAbs = 1)
  | _ => false
def isAmtD : PyData → Bool
  | .tuple [.int a, .int b] => decide (1 ≤ b) && decide (Nat.gcd a.natAbs b.natAbs = 1) && decide (0 ≤ a)
  | _ => false
def TWhole : List PyData → (PyData → Prop) → Prop := fun ds Φ => ∃ d, ds = [d] ∧ Φ (.bool (isW d))
def TPartB : List PyData → (PyData → Prop) → Prop := fun ds Φ => ∃ d, ds = [d] ∧ Φ (.bool (isPartD d))
def TAmountB : List PyData → (PyData → Prop) → Prop := fun ds Φ => ∃ d, ds = [d] ∧ Φ (.bool (isAmtD d))
def GoodD (d : PyData) : Prop := ∀ a b, d = .tuple [.int a, .int b] → a.natAbs < 2 ^ 8000 ∧ b.natAbs < 2 ^ 8000
def TIsPart : List PyData → (PyData → Prop) → Prop := fun ds Φ => ∃ d, ds = [d] ∧ GoodD d ∧ Φ (.bool (isPartD d))
/-- a part, told for judging -/
structure PBig (n d : Int) : Prop where
  d1 : 1 ≤ d
  d2 : d ≤ 10 ^ 30
  n1 : n.natAbs ≤ 10 ^ 30
def TSpoilt : Nat → List PyData → (PyData → Nat → Prop) → Prop := fun B ds Φ => ∃ n d, ds = [pr (n, d)] ∧ PBig n d ∧ B + 800 ≤ 2 ^ 40 ∧ ∀ z, GoodD z → Φ z (B + 800)
def TThing : Nat → List PyData → (PyData → Nat → Prop) → Prop := fun B ds Φ => ds = [] ∧ B + 6000 ≤ 2 ^ 40 ∧ ∀ z B', GoodD z → B' ≤ B + 6000 → Φ z B'
def t_law_whole (K : PySem.W.Frag) : TS :=
  (tRet (tAndV (tCB (rIsi K) (tCons (tVar 0) (tCons (tC (.ty "int")) tNil))) (tNotV (tCB (rIsi K) (tCons (tVar 0) (tCons (tC (.ty "bool")) tNil))))))

def t_law_is_part (K : PySem.W.Frag) : TS :=
  (tSeq (tIfS (tOr (tNot (tB (tCB (rIsi K) (tCons (tVar 0) (tCons (tC (.ty "tuple")) tNil))))) (tOr (tTest (tOp rNe (tCB (rLenX K) (tCons (tVar 0) tNil)) (tC (.int 2)))) (tOr (tNot (tB (tCall (spP K TWhole) [] E0 (tCons (tOp (rIxT K) (tVar 0) (tC (.int 0))) tNil)))) (tNot (tB (tCall (spP K TWhole) [] E0 (tCons (tOp (rIxT K) (tVar 0) (tC (.int 1))) tNil))))))) (tRet (tC (.bl false))) tNext)
    (tRet (tAndV (tOp rGt (tOp (rIxT K) (tVar 0) (tC (.int 1))) (tC (.int 0))) (tOp (rEqD K) (tCall (spP K TPart) [] E0 (tCons (tOp (rIxT K) (tVar 0) (tC (.int 0))) (tCons (tOp (rIxT K) (tVar 0) (tC (.int 1))) tNil))) (tVar 0)))))

def t_law_spoilt (K : PySem.W.Frag) : TS :=
  (tSeq (tAsg (tCall (spS K FSto TDr) [] E0 (tCons (tVar 0) (tCons (tC (.int 14)) tNil))) (gName 2))
    (tSeq (tAsg (tOp rAddI (tC (.int 2)) (tCall (spS K FSto TDr) [] E0 (tCons (tVar 0) (tCons (tC (.int 9)) tNil)))) (gName 3))
    (tSeq (tAsg (tVar 1) (gTup K 2 (gCons (gName 4) (gCons (gName 5) gNil))))
    (tSeq (tAsg (tLst (tCons (tVar 1) (tCons (tTup (tCons (tOp rMulI (tVar 3) (tVar 4)) (tCons (tOp rMulI (tVar 3) (tVar 5)) tNil))) (tCons (tTup (tCons (tVar 4) (tCons (tOp rSubI (tC (.int 0)) (tVar 5)) tNil))) (tCons (tTup (tCons (tVar 4) (tCons (tC (.int 0)) tNil))) (tCons (tTup (tCons (tOp rSubI (tC (.int 0)) (tVar 4)) (tCons (tVar 5) tNil))) (tCons (tTup (tCons (tVar 4) (tCons (tC (.bl true)) tNil))) tNil))))))) (gName 6))
    (tSeq (tAsg (tOp rCatL (tVar 6) (tLst (tCons (tTup (tCons (tC (.bl true)) (tCons (tVar 5) tNil))) (tCons (tTup (tCons (tCB rStrI (tCons (tVar 4) tNil)) (tCons (tVar 5) tNil))) (tCons (tTup (tCons (tVar 4) (tCons (tC .non) tNil))) (tCons (tLst (tCons (tVar 4) (tCons (tVar 5) tNil))) (tCons (tTup (tCons (tVar 4) tNil)) (tCons (tTup (tCons (tVar 4) (tCons (tVar 5) (tCons (tC (.int 1)) tNil)))) tNil)))))))) (gName 6))
    (tRet (tOp (rIxL K) (tOp rCatL (tVar 6) (tLst (tCons (tTup (tCons (tVar 1) tNil)) (tCons (tTup (tCons (tC (.int 0)) (tCons (tVar 3) tNil))) tNil)))) (tVar 2))))))))

def t_law_thing (K : PySem.W.Frag) : TS :=
  (tSeq (tAsg (tCall (spS K FSto TDr) [] E0 (tCons (tVar 0) (tCons (tC (.int 6)) tNil))) (gName 1))
    (tSeq (tAsg (tCall (spS K FSto TSmall) [] E0 (tCons (tVar 0) tNil)) (gName 2))
    (tSeq (tAsg (tCall (spP K TPart) [] E0 (tCons (tCall (spS K FSto TDr) [] E0 (tCons (tVar 0) (tCons (tOp rPowI (tC (.int 10)) (tC (.int 30))) tNil))) (tCons (tOp rAddI (tC (.int 1)) (tCall (spS K FSto TDr) [] E0 (tCons (tVar 0) (tCons (tOp rPowI (tC (.int 10)) (tC (.int 30))) tNil)))) tNil))) (gName 3))
    (tSeq (tIfS (tTest (tOp rEq (tVar 1) (tC (.int 0)))) (tRet (tOp (rIxL K) (tLst (tCons (tC .non) (tCons (tC (.int 7)) (tCons (tC (.bl true)) (tCons (tC (.str "")) (tCons (tTup tNil) (tCons (tLst tNil) (tCons tDNewK (tCons (tTup (tCons (tC (.int 0)) (tCons (tC (.int 1)) tNil))) (tCons (tTup (tCons (tC (.int 1)) (tCons (tC (.int 1)) tNil))) (tCons (tTup (tCons (tC (.int 0)) (tCons (tC (.int 0)) tNil))) (tCons (tTup (tCons (tC (.int 1)) (tCons (tUn rNegI (tC (.int 1))) tNil))) (tCons (tTup (tCons (tTup (tCons (tC (.int 0)) (tCons (tC (.int 1)) tNil))) (tCons (tTup (tCons (tC (.int 0)) (tCons (tC (.int 1)) tNil))) tNil))) tNil))))))))))))) (tCall (spS K FSto TDr) [] E0 (tCons (tVar 0) (tCons (tC (.int 12)) tNil))))) tNext)
    (tSeq (tIfS (tTest (tOp rEq (tVar 1) (tC (.int 1)))) (tRet (tVar 3)) tNext)
    (tSeq (tIfS (tTest (tOp rEq (tVar 1) (tC (.int 2)))) (tRet (tCall (spS K FSto TSpoilt) [] E0 (tCons (tVar 0) (tCons (tVar 3) tNil)))) tNext)
    (tRet (tCall (spS K FSto TSpoilt) [] E0 (tCons (tVar 0) (tCons (tVar 2) tNil))))))))))

def t_is_whole (K : PySem.W.Frag) : TS :=
  (tRet (tOp rIsTyX (tCB (rTyp K) (tCons (tVar 0) tNil)) (tC (.ty "int"))))

def t_is_part (K : PySem.W.Frag) : TS :=
  (tSeq (tIfS (tNot (tAnd (tTest (tOp rIsTyX (tCB (rTyp K) (tCons (tVar 0) tNil)) (tC (.ty "tuple")))) (tTest (tOp rEq (tCB (rLenX K) (tCons (tVar 0) tNil)) (tC (.int 2)))))) (tRet (tC (.bl false))) tNext)
    (tSeq (tAsg (tVar 0) (gTup K 2 (gCons (gName 1) (gCons (gName 2) gNil))))
    (tRet (tAndV (tCall (spP K TWhole) [] E0 (tCons (tVar 1) tNil)) (tAndV (tCall (spP K TWhole) [] E0 (tCons (tVar 2) tNil)) (tAndV (tOp rGe (tVar 2) (tC (.int 1))) (tOp rEq (tCB rGcd (tCons (tVar 1) (tCons (tVar 2) tNil))) (tC (.int 1)))))))))

def t_is_amount (K : PySem.W.Frag) : TS :=
  (tRet (tAndV (tCall (spP K TPartB) [] E0 (tCons (tVar 0) tNil)) (tOp rGe (tOp (rIxT K) (tVar 0) (tC (.int 0))) (tC (.int 0)))))



section
variable {K : PySem.W.Frag} {S : Stt}
end
end DL

set_option Elab.async false
set_option linter.all false
set_option maxRecDepth 100000
set_option maxHeartbeats 4000000
/-! DM3: reversed tuples, rows numbered, lists of one's own lengthened, repr of anything shown -/
namespace DL
open PySem PySem.Spec PyProof.Rows L2
/-! ### t[::-1] -/
section
variable {prog : Program} {w : World} {A : Around} {E : Value → Shared → Prop} {s : Shared}
end
def tRevT (K : PySem.W.Frag) (te : TE) : TE := fun σ H Q => te σ H fun x H1 => ∃ a xs, x = .ref a ∧ SqT K H1 a xs ∧ ∀ p, H1 p = none → Q (.ref p) (upd H1 p (.tup xs.reverse))
/-! ### over data -/
def iEnumR (K : PySem.W.Frag) (t : TA) : TI := fun σ H R => iEnum K t σ H R ∨ iEnumT K t σ H R
abbrev rInsert : V → List V → Hp → VK → Prop := fun x vs H Q => ∃ (l : Addr) (xs : List V) (i : Int) (y : V), x = .ref l ∧ vs = [.int i, y] ∧ H l = some (.lst xs) ∧ xs.length < sizeLine ∧ 0 ≤ i ∧ i < 2 ^ 63 ∧ Q .non (upd H l (.lst (xs.take i.toNat ++ [y] ++ xs.drop i.toNat)))
section
variable {K : PySem.W.Frag} {S : Stt} {ρ : Rho} {Φ : PyData → Rho → Prop} {Ψ : PyData → Prop}
def rReprZ (K : PySem.W.Frag) : List V → Hp → VK → Prop := fun xs H Q => rRepr K xs H Q ∨ (xs = [.non] ∧ Q (.str "None") H) ∨ (∃ b : Bool, xs = [.bl b] ∧ Q (.str (if b then "True" else "False")) H) ∨ (∃ i, xs = [.int i] ∧ i.natAbs.log2 < 1920 ∧ Q (.str (toString i)) H) ∨ ∃ z, xs = [.str z] ∧ (reprText z).length ≤ sizeLine ∧ Q (.str (reprText z)) H
theorem call_reprZ {X : Cx} (hgd : X.A.guards = some []) (hu : X.A.units + 64 < cLine) : CallR X (.builtin "repr") (rReprZ X.K) := by
  intro pins s σ H xs us Q I r h
  rcases h with h | ⟨rfl, q⟩ | ⟨b, rfl, q⟩ | ⟨i, rfl, b, q⟩ | ⟨z, rfl, b, q⟩
  · exact call_repr_data hgd hu pins s σ H xs us Q I r h
  · obtain ⟨u, rfl, ru⟩ := vals1 r
    cases (show u = Value.none from ru)
    exact PySem.P.repr_of_none ⟨.str "None", H, I.tok _, ⟨_, rfl⟩, q⟩
  · obtain ⟨u, rfl, ru⟩ := vals1 r
    cases (show u = Value.bool b from ru)
    exact PySem.P.repr_of_bool ⟨.str (if b then "True" else "False"), H, I.tok _, ⟨_, by cases b <;> rfl⟩, q⟩
  · obtain ⟨u, rfl, ru⟩ := vals1 r
    obtain ⟨t, rfl⟩ := (show ∃ t, u = Value.int i t from ru)
    exact PySem.P.repr_of_int b ⟨.str (toString i), H, I.tok _, ⟨_, rfl⟩, q⟩
  · obtain ⟨u, rfl, ru⟩ := vals1 r
    obtain ⟨t, rfl⟩ := (show ∃ t, u = Value.str z t from ru)
    exact PySem.P.repr_of_str ⟨.str (reprText z), H, I.tok _, ⟨_, rfl⟩, q⟩ b
theorem dc_reprZ {d : PyData} {L D : Nat} (h : Rs L D d) (h1 : L ≤ sizeLine) (h2 : D ≤ 50) (f : Ψ (.str d.shown)) : DC K (rReprZ K) [d] Ψ := by
  intro N H hN us hu Q q
  have one : ∃ u, us = [u] ∧ Dq K N H u d := by
    cases hu with
    | cons a1 a2 => cases a2; exact ⟨_, rfl, a1⟩
  obtain ⟨u, rfl, a1⟩ := one
  cases d
  case none => cases a1; exact .inr (.inl ⟨rfl, q _ _ H f (Same.refl H) (Dt.str _)⟩)
  case bool b =>
    cases a1
    refine .inr (.inr (.inl ⟨b, rfl, q _ _ H f (Same.refl H) ?_⟩))
    cases b <;> exact Dt.str _
  case int i => cases a1; exact .inr (.inr (.inr (.inl ⟨i, rfl, of_decide_eq_true h.s, q _ _ H f (Same.refl H) (Dt.str _)⟩)))
  case str z => cases a1; exact .inr (.inr (.inr (.inr ⟨z, rfl, Nat.le_trans h.l h1, q _ _ H f (Same.refl H) (Dt.str _)⟩)))
  case list ds => exact .inl (dc_reprS (.inl ⟨_, rfl⟩) h h1 h2 f N H hN _ hu Q q)
  case tuple ds => exact .inl (dc_reprS (.inr ⟨_, rfl⟩) h h1 h2 f N H hN _ hu Q q)
  case dict ds => exact absurd h.h (by simp [PyData.hasDict])
end
end DL

set_option Elab.async false
set_option linter.all false
set_option maxRecDepth 100000
set_option maxHeartbeats 4000000
/-! DM4: rows of either kind as data; lists of one's own shown for a while -/
namespace DL
open PySem PySem.Spec PyProof.Rows L2
section
variable {K : PySem.W.Frag} {S : Stt} {ρ : Rho} {Φ : PyData → Rho → Prop} {Ψ : PyData → Prop}
def rowD (b : Bool) (ds : List PyData) : PyData := if b then .list ds else .tuple ds
/-! ### all lists of one's own shown, while a thing is asked that tells a truth or a number -/
def frzS : Sl → Sl
  | .own ds => .dat (.list ds)
  | s => s
def fz (ρ : Rho) : Rho := ρ.map frzS
def Plain : PyData → Prop
  | .bool _ | .int _ | .str _ => True
  | _ => False
end
end DL

set_option Elab.async false
set_option linter.all false
set_option maxRecDepth 100000
set_option maxHeartbeats 4000000
/-! DM5: list(zip(xs, ys)) -/
namespace DZ
open PySem PySem.W PySem.Calls PyProof.Rows PyProof.V PySem.Spec
theorem zNoLen : typeLookup (.type "zip") "__len__" = pure none := by
  rw [typeLookup_type, builtinLookup_eq_fast]
  kernel_rfl
theorem zNoHint : typeLookup (.type "zip") "__length_hint__" = pure none := by
  rw [typeLookup_type, builtinLookup_eq_fast]
  kernel_rfl
/-- where the parts of a zip stand, all below the list S -/
structure Pl (z TI TO i1 i2 l1 l2 S : Addr) : Prop where
  D : ZipApart z TI TO i1 i2 l1 l2
  z : z < S
  TI : TI < S
  TO : TO < S
  i1 : i1 < S
  i2 : i2 < S
  l1 : l1 < S
  l2 : l2 < S
/-- a zip behind its i-th pair -/
structure St (z TI TO i1 i2 l1 l2 S : Addr) (xs ys : Array Value) (i : Nat) (h : Heap) : Prop where
  ti : IsPair h TI (.ref i1) (.ref i2)
  a1 : h.IsListIter i1 l1 i
  a2 : h.IsListIter i2 l2 i
  b1 : h.IsList l1 xs
  b2 : h.IsList l2 ys
  out : (IsZip h z TI TO .none ∧ ∃ a b, IsPair h TO a b) ∨ ∃ (T : Addr) (f : Bool) (oT : Obj), IsZipHeld h z TI TO T f ∧ h.get? T = some oT ∧ T ≠ z ∧ T ≠ i1 ∧ T ≠ i2 ∧ T ≠ S
/-- the pairs made so far -/
structure Gd (xs ys : Array Value) (S : Addr) (h : Heap) (as : List Addr) : Prop where
  up : as.Pairwise (· < ·)
  lo : ∀ a ∈ as, S < a
  at' : ∀ (j : Nat) (a : Addr), as[j]? = some a → ∃ x y, xs[j]? = some x ∧ ys[j]? = some y ∧ IsPair h a x y
section
variable {prog : Program} {w : World} {A : Around} {E : Value → Shared → Prop} {s : Shared} {z TI TO i1 i2 l1 l2 S : Addr} {xs ys : Array Value}
theorem St.mv {i : Nat} {h g : Heap} (P : Pl z TI TO i1 i2 l1 l2 S) (t : St z TI TO i1 i2 l1 l2 S xs ys i h) (k : ∀ b o, b ≠ S → h.get? b = some o → g.get? b = some o) : St z TI TO i1 i2 l1 l2 S xs ys i g := by
  have n : ∀ {b : Addr}, b < S → b ≠ S := fun h => Nat.ne_of_lt h
  refine ⟨k _ _ (n P.TI) t.ti, t.a1.at fun o e => k _ _ (n P.i1) e, t.a2.at fun o e => k _ _ (n P.i2) e, t.b1.at fun o e => k _ _ (n P.l1) e, t.b2.at fun o e => k _ _ (n P.l2) e, ?_⟩
  cases t.out with
  | inl q =>
    obtain ⟨q1, a, b, q2⟩ := q
    exact .inl ⟨k _ _ (n P.z) q1, a, b, k _ _ (n P.TO) q2⟩
  | inr q =>
    obtain ⟨T, f, oT, q1, q2, q3, q4, q5, q6⟩ := q
    exact .inr ⟨T, f, oT, k _ _ (n P.z) q1, k _ _ q6 q2, q3, q4, q5, q6⟩
theorem St.nxt {i : Nat} {x y : Value} {Q : Option Value → Shared → Prop} (P : Pl z TI TO i1 i2 l1 l2 S) (t : St z TI TO i1 i2 l1 l2 S xs ys i s.heap) (hS : S < s.heap.objs.size) (hx : xs[i]? = some x) (hy : ys[i]? = some y)
    (q : ∀ g, St z TI TO i1 i2 l1 l2 S xs ys (i + 1) g → IsPair g s.heap.objs.size x y → g.objs.size = s.heap.objs.size + 1 → (∀ c o, c ≠ z → c ≠ TO → c ≠ i1 → c ≠ i2 → s.heap.get? c = some o → g.get? c = some o) → Q (some (.ref s.heap.objs.size)) { s with heap := g }) :
    wpAny (model prog w) A (pyNext (.ref z)) Q E s := by
  have D := P.D
  have ln : ∀ {c : Addr} {o : Obj}, s.heap.get? c = some o → s.heap.objs.size ≠ c := fun e => Nat.ne_of_gt (Heap.lt_size e)
  obtain ⟨o1, p1, _⟩ := id t.a1
  obtain ⟨o2, p2, _⟩ := id t.a2
  cases t.out with
  | inl o =>
    obtain ⟨oz, a, b, oTO⟩ := o
    refine wpAny_pyNext_zip_item D oz t.ti oTO t.a1 t.a2 t.b1 t.b2 hx hy fun g g1 g2 g3 g4 g5 g6 kp => q g ?_ g5 g6 kp
    refine ⟨kp _ _ D.TIz D.TITO D.TIi1 D.TIi2 t.ti, g3, g4, t.b1.at fun o e => kp _ o D.l1z D.l1TO D.l1i1 D.l1i2 e, t.b2.at fun o e => kp _ o D.l2z D.l2TO D.l2i1 D.l2i2 e, .inr ?_⟩
    exact ⟨s.heap.objs.size, false, _, g1, g5, ln oz, ln p1, ln p2, Nat.ne_of_gt hS⟩
  | inr o =>
    obtain ⟨T, f, oT, oz, hT, r1, r2, r3, r4⟩ := o
    refine wpAny_pyNext_zip_item_held D oz hT t.ti t.a1 t.a2 t.b1 t.b2 hx hy fun g g1 g3 g4 g5 g6 kp => q g ?_ g5 g6 fun c o c1 _ c3 c4 e => kp c o c1 c3 c4 e
    refine ⟨kp _ _ D.TIz D.TIi1 D.TIi2 t.ti, g3, g4, t.b1.at fun o e => kp _ o D.l1z D.l1i1 D.l1i2 e, t.b2.at fun o e => kp _ o D.l2z D.l2i1 D.l2i2 e, .inr ?_⟩
    exact ⟨T, true, oT, g1, kp _ _ r1 r2 r3 hT, r1, r2, r3, r4⟩
theorem St.end' {i : Nat} {Q : Option Value → Shared → Prop} (hh : A.handled = none) (P : Pl z TI TO i1 i2 l1 l2 S) (t : St z TI TO i1 i2 l1 l2 S xs ys i s.heap) (he : xs[i]? = none)
    (q : ∀ g, (∀ c o, c ≠ z → c ≠ TO → c ≠ i1 → c ≠ i2 → s.heap.get? c = some o → g.get? c = some o) → Q none { s with heap := g }) :
    wpAny (model prog w) A (pyNext (.ref z)) Q E s := by
  cases t.out with
  | inl o =>
    obtain ⟨oz, a, b, oTO⟩ := o
    exact wpAny_pyNext_zip_end hh P.D oz t.ti oTO t.a1 t.a2 t.b1 t.b2 (.inl he) fun g kp => q g kp
  | inr o =>
    obtain ⟨T, f, oT, oz, hT, r1, r2, r3, r4⟩ := o
    exact wpAny_pyNext_zip_end_held hh P.D oz hT t.ti t.a1 t.a2 t.b1 t.b2 (.inl he) fun g kp => q g fun c o c1 _ c3 c4 e => kp c o c1 c3 c4 e
end
section
variable {prog : Program} {w : World} {A : Around} {s : Shared} {R : Result → Shared → Prop} {z TI TO i1 i2 l1 l2 S : Addr} {xs ys : Array Value}
theorem fill (hh : A.handled = none) (P : Pl z TI TO i1 i2 l1 l2 S) (hl : xs.size = ys.size) (hn : xs.size ≤ sizeLine) (res : Value) {g0 : Heap} (low : ∀ b o, g0.get? b = some o → b ≠ S ∧ b ≠ z ∧ b ≠ TO ∧ b ≠ i1 ∧ b ≠ i2)
    (fin : ∀ g tk acc c as, (∀ b o, g0.get? b = some o → g.get? b = some o) → g.get? S = some { cls := .type "list", dict := none, data := .seq acc c, slots := #[] } → as.length = xs.size → Gd xs ys S g as →
      acc.toList = as.map Value.ref → R (.ok (.ret res)) { s with heap := g, toks := tk }) :
    ∀ (m i : Nat) (g : Heap) (tk c : Nat) (acc : Array Value) (as : List Addr), xs.size = i + m → St z TI TO i1 i2 l1 l2 S xs ys i g → (∀ b o, g0.get? b = some o → g.get? b = some o) →
      g.get? S = some { cls := .type "list", dict := none, data := .seq acc c, slots := #[] } → acc.toList = as.map Value.ref → as.length = i → Gd xs ys S g as →
      codeAny (model prog w) A (.builtin "list.extend.loop" ⟨[.ref S, .ref z, res], []⟩) R { s with heap := g, toks := tk } := by
  intro m
  induction m with
  | zero =>
    intro i g tk c acc as e t kp hS ha al G
    ((refine codeAny_builtin PySem.F.entry_extend_loop ?_); (rw [Around.under_plainId PySem.F.plain_extend_loop _]); (show wpAny _ A.in1 (pyNext (.ref z) >>= _) _ _ _))
    refine wpAny_bind (t.end' (s := { s with heap := g, toks := tk }) (A := A.in1) hh P (Array.getElem?_eq_none (by omega)) fun g' k' => ?_)
    have nS : S ≠ z ∧ S ≠ TO ∧ S ≠ i1 ∧ S ≠ i2 := ⟨Nat.ne_of_gt P.z, Nat.ne_of_gt P.TO, Nat.ne_of_gt P.i1, Nat.ne_of_gt P.i2⟩
    refine wpAny_pure (fin g' tk acc c as (fun b o e' => ?_) (k' _ _ nS.1 nS.2.1 nS.2.2.1 nS.2.2.2 hS) (by omega) ⟨G.up, G.lo, fun j a ja => ?_⟩ ha)
    · obtain ⟨_, w1, w2, w3, w4⟩ := low b o e'
      exact k' b o w1 w2 w3 w4 (kp b o e')
    · obtain ⟨x, y, hx, hy, hp⟩ := G.at' j a ja
      have la := G.lo a (List.mem_of_getElem? ja)
      exact ⟨x, y, hx, hy, k' _ _ (Nat.ne_of_gt (Nat.lt_trans P.z la)) (Nat.ne_of_gt (Nat.lt_trans P.TO la)) (Nat.ne_of_gt (Nat.lt_trans P.i1 la)) (Nat.ne_of_gt (Nat.lt_trans P.i2 la)) hp⟩
  | succ m ih =>
    intro i g tk c acc as e t kp hS ha al G
    have hix : i < xs.size := by omega
    have hiy : i < ys.size := by omega
    have as' : acc.size = i := by rw [← Array.length_toList, ha, List.length_map, al]
    have sS : S < g.objs.size := Heap.lt_size hS
    ((refine codeAny_builtin PySem.F.entry_extend_loop ?_); (rw [Around.under_plainId PySem.F.plain_extend_loop _]); (show wpAny _ A.in1 (pyNext (.ref z) >>= _) _ _ _))
    refine wpAny_bind (t.nxt (s := { s with heap := g, toks := tk }) P sS (Array.getElem?_eq_getElem hix) (Array.getElem?_eq_getElem hiy) fun g' t' hp hz k' => ?_)
    dsimp only at t' hp hz k' ⊢
    have nS : S ≠ z ∧ S ≠ TO ∧ S ≠ i1 ∧ S ≠ i2 := ⟨Nat.ne_of_gt P.z, Nat.ne_of_gt P.TO, Nat.ne_of_gt P.i1, Nat.ne_of_gt P.i2⟩
    have hS' := k' _ _ nS.1 nS.2.1 nS.2.2.1 nS.2.2.2 hS
    have mv : ∀ b o, b ≠ S → g'.get? b = some o → (g'.update S (Obj.mapSeq (·.push (Value.ref g.objs.size)))).get? b = some o := fun b o hb e' => by
      rw [Heap.get?_update_other _ _ (Ne.symm hb)]; exact e'
    have old : ∀ a, S < a → ∀ o, g.get? a = some o → (g'.update S (Obj.mapSeq (·.push (Value.ref g.objs.size)))).get? a = some o := fun a la o e' =>
      mv a o (Nat.ne_of_gt la) (k' _ _ (Nat.ne_of_gt (Nat.lt_trans P.z la)) (Nat.ne_of_gt (Nat.lt_trans P.TO la)) (Nat.ne_of_gt (Nat.lt_trans P.i1 la)) (Nat.ne_of_gt (Nat.lt_trans P.i2 la)) e')
    show wpAny _ A.in1 (updateSeq S (·.push (Value.ref g.objs.size)) >>= _) _ _ _
    refine wpAny_bind (wpAny_updateSeq hS' rfl (wpAny_pure ⟨plainId_quiet PySem.F.plain_extend_loop _, ?_⟩) (by rw [as']; omega) (by show (acc.push (Value.ref g.objs.size)).size ≤ sizeLine + 1; rw [Array.size_push, as']; omega))
    refine ih (i + 1) _ tk _ (acc.push (Value.ref g.objs.size)) (as ++ [g.objs.size]) (by omega) (t'.mv P mv) (fun b o e' => ?_) (Heap.get?_update_self _ hS' rfl) ?_ (by rw [List.length_append, al]; rfl) ⟨?_, fun a ha' => ?_, fun j a ja => ?_⟩
    · obtain ⟨w0, w1, w2, w3, w4⟩ := low b o e'
      exact mv b o w0 (k' b o w1 w2 w3 w4 (kp b o e'))
    · rw [Array.toList_push, ha, List.map_append]; rfl
    · refine List.pairwise_append.mpr ⟨G.up, List.pairwise_singleton _ _, fun a ha' b hb => ?_⟩
      have e1 : b = g.objs.size := by simpa using hb
      subst e1
      obtain ⟨j, hj⟩ := List.mem_iff_getElem?.mp ha'
      obtain ⟨_, _, _, _, hp'⟩ := G.at' j a hj
      exact Heap.lt_size hp'
    · rcases List.mem_append.mp ha' with h | h
      · exact G.lo a h
      · have e1 : a = g.objs.size := by simpa using h
        subst e1; exact sS
    · by_cases q : j < as.length
      · rw [List.getElem?_append_left q] at ja
        obtain ⟨x, y, hx, hy, hp'⟩ := G.at' j a ja
        exact ⟨x, y, hx, hy, old a (G.lo a (List.mem_of_getElem? ja)) _ hp'⟩
      · by_cases q2 : j = as.length
        · subst q2
          have e1 : g.objs.size = a := by simpa using ja
          subst e1
          exact ⟨_, _, by rw [al]; exact Array.getElem?_eq_getElem hix, by rw [al]; exact Array.getElem?_eq_getElem hiy, mv _ _ (Nat.ne_of_gt sS) hp⟩
        · rw [List.getElem?_eq_none (by rw [List.length_append, List.length_singleton]; omega)] at ja
          cases ja
end
section
variable {prog : Program} {w : World} {A : Around} {E : Value → Shared → Prop} {s : Shared} {z TI TO i1 i2 l1 l2 : Addr} {xs ys : Array Value}
/-- list(z), z a new zip of two lists of one length -/
theorem made {Q : Value → Shared → Prop} {g0 : Heap} (hh : A.handled = none) (P : Pl z TI TO i1 i2 l1 l2 s.heap.objs.size) (hl : xs.size = ys.size) (hn : xs.size ≤ sizeLine)
    (hz : IsZip s.heap z TI TO .none) (hTI : IsPair s.heap TI (.ref i1) (.ref i2)) (hTO : ∃ a b, IsPair s.heap TO a b) (h1 : s.heap.IsListIter i1 l1 0) (h2 : s.heap.IsListIter i2 l2 0) (b1 : s.heap.IsList l1 xs) (b2 : s.heap.IsList l2 ys)
    (k0 : ∀ b o, g0.get? b = some o → s.heap.get? b = some o ∧ b ≠ z ∧ b ≠ TO ∧ b ≠ i1 ∧ b ≠ i2)
    (fin : ∀ g tk acc c as, (∀ b o, g0.get? b = some o → g.get? b = some o) → g.get? s.heap.objs.size = some { cls := .type "list", dict := none, data := .seq acc c, slots := #[] } → as.length = xs.size → Gd xs ys s.heap.objs.size g as →
      acc.toList = as.map Value.ref → Q (.ref s.heap.objs.size) { s with heap := g, toks := tk }) : wpAny (model prog w) A (call (.type "list") [.ref z]) Q E s := by
  refine callType_codes (Q₁ := fun obj t => obj = .ref s.heap.objs.size ∧ t = { s with heap := s.heap.push { cls := .type "list", data := .seq #[] } }) PySem.F.called_list (PySem.F.typeCall_list_1 _) PySem.F.entry_list_init (code_list_new _ ⟨rfl, rfl⟩) fun obj t ht => ?_
  obtain ⟨rfl, rfl⟩ := ht
  have o0 : (s.heap.push { cls := .type "list", data := .seq #[] }).get? s.heap.objs.size = some { cls := .type "list", data := .seq #[] } := Heap.get?_push_size _ rfl
  refine ⟨⟨_, o0, rfl⟩, PySem.F.args_list_init_2 _ _, ?_⟩
  have zS : s.heap.objs.size ≠ z := Nat.ne_of_gt P.z
  have kk : ∀ b o, s.heap.get? b = some o → b ≠ s.heap.objs.size := fun b o e => Nat.ne_of_lt (Heap.lt_size e)
  have st0 : St z TI TO i1 i2 l1 l2 s.heap.objs.size xs ys 0 s.heap := ⟨hTI, h1, h2, b1, b2, .inl ⟨hz, hTO⟩⟩
  generalize s.heap.objs.size = S at *
  have n0 : ∀ (g : Heap) (f : Obj → Obj), (∀ b o, b ≠ S → s.heap.get? b = some o → g.get? b = some o) → ∀ b o, b ≠ S → s.heap.get? b = some o → (g.update S f).get? b = some o := fun g f q b o hb e => by
    rw [Heap.get?_update_other _ _ (Ne.symm hb)]; exact q b o hb e
  have m1 : ∀ b o, b ≠ S → s.heap.get? b = some o → (s.heap.push { cls := .type "list", data := .seq #[] }).get? b = some o := fun b o _ e => Heap.get?_push_of_some _ e
  generalize s.heap.push { cls := .type "list", data := .seq #[] } = g1 at o0 m1 ⊢
  show wpAny _ A.in1.in1 (do let old ← Builtin.List.listItems (.ref S); Builtin.List.listUpdate (.ref S) (fun _ => #[]); letGo old.toList.reverse; Builtin.List.listExtendWith (.ref S) (.ref z) .none) _ _ _
  refine wpAny_bind ?_
  unfold Builtin.List.listItems
  refine wpAny_bind (wpAny_seqItems o0 rfl (wpAny_pure ?_))
  show wpAny _ A.in1.in1 (updateSeq S (fun _ => #[]) >>= fun _ => letGo (#[] : Array Value).toList.reverse >>= fun _ => Builtin.List.listExtendWith (.ref S) (.ref z) .none) _ _ _
  refine wpAny_bind (wpAny_updateSeq o0 rfl ?_)
  have o2 := Heap.get?_update_self (Obj.mapSeq (fun _ => (#[] : Array Value))) o0 rfl
  have m2 := n0 g1 (Obj.mapSeq (fun _ => (#[] : Array Value))) m1
  generalize g1.update S (Obj.mapSeq (fun _ => (#[] : Array Value))) = g2 at o2 m2 ⊢
  refine wpAny_bind (wpAny_letGo ?_)
  unfold Builtin.List.listExtendWith
  have tz : Shared.TypeIs { s with heap := g2 } (.ref z) "zip" := ⟨_, m2 _ _ (Ne.symm zS) hz, rfl⟩
  refine wpAny_bind (wpAny_typeOf tz ?_)
  have c1 : Builtin.List.listSameRef (.ref S) (.ref z) = false := by simp [Builtin.List.listSameRef, zS]
  have c2 : (Value.type "zip" == Value.type "list") = false := by decide
  have c3 : (Value.type "zip" == Value.type "tuple") = false := by decide
  simp only [c1, c2, c3, Bool.or_false, Bool.false_eq_true, if_false]
  refine wpAny_bind (wpAny_pyIter_zip (s := { s with heap := g2 }) (m2 _ _ (Ne.symm zS) hz) ?_)
  refine wpAny_bind (wpAny_holding ?_)
  unfold Builtin.List.listLengthHint
  refine wpAny_bind (wpAny_specialOf tz zNoLen ?_)
  show wpAny _ A.in1.in1 (specialOf (Value.ref z) (Str.ofString "__length_hint__") >>= _) _ _ _
  refine wpAny_bind (wpAny_specialOf tz zNoHint ?_)
  refine wpAny_pure ?_
  show wpAny _ A.in1.in1 (rule "list.extend.makes-room" >>= fun _ => Builtin.List.listTouch (.ref S) >>= fun _ => again (.builtin "list.extend.loop" ⟨[.ref S, .ref z, .none], []⟩)) _ _ _
  refine wpAny_bind (wpAny_rule ?_)
  refine wpAny_bind ?_
  show wpAny _ A.in1.in1 (updateSeq S (·.push .none) >>= fun _ => updateSeq S (·.pop)) _ _ _
  refine wpAny_bind (wpAny_updateSeq o2 rfl ?_)
  have o3 := Heap.get?_update_self (Obj.mapSeq (·.push Value.none)) o2 rfl
  have m3 := n0 g2 (Obj.mapSeq (·.push Value.none)) m2
  refine wpAny_updateSeq (hz := by seq_fits) o3 rfl ?_
  have o4 := Heap.get?_update_self (Obj.mapSeq (·.pop)) o3 rfl
  have m4 := n0 _ (Obj.mapSeq (·.pop)) m3
  refine wpAny_pure ⟨plainId_quiet PySem.F.plain_extend_loop _, ?_⟩
  refine fill (s := s) (xs := xs) (ys := ys) (g0 := g0) (A := A.in1) hh P hl hn .none (fun b o e => ?_) (fun g tk acc c as q1 q2 q3 q4 q5 => ⟨rfl, fin g tk acc c as q1 q2 q3 q4 q5⟩) xs.size 0 _ _ _ _ [] (by omega) (st0.mv P m4) (fun b o e => ?_) o4 ?_ rfl ⟨List.Pairwise.nil, (fun a h => by cases h), (fun j a h => by simp at h)⟩
  · obtain ⟨e1, e2⟩ := k0 b o e
    exact ⟨kk b o e1, e2⟩
  · obtain ⟨e1, _⟩ := k0 b o e
    exact m4 b o (kk b o e1) e1
  · rfl
end
end DZ

set_option Elab.async false
set_option linter.all false
set_option maxRecDepth 100000
set_option maxHeartbeats 4000000
/-! DM6: list(zip(xs, ys)) in the hand layer, over data -/
namespace DL
open PySem PySem.Spec PyProof.Rows L2
def tLZip (K : PySem.W.Frag) (ta : TA) : TE := fun σ H Q => ta σ H fun vs H1 => ∃ (a b : Addr) (xs ys : List V), vs = [.ref a, .ref b] ∧ SqL K H1 a xs ∧ SqL K H1 b ys ∧ xs.length = ys.length ∧
  ∀ (H2 : Hp) (l : Addr) (as : List Addr), Same H1 H2 → H1 l = none → H2 l = some (.lst (as.map V.ref)) → as.length = xs.length → (∀ (j : Nat) (c : Addr), as[j]? = some c → H1 c = none ∧ ∃ x y, xs[j]? = some x ∧ ys[j]? = some y ∧ H2 c = some (.tup [x, y])) → Q (.ref l) H2
section
variable {K : PySem.W.Frag} {S : Stt} {ρ : Rho} {Φ : PyData → Rho → Prop}
end
end DL

set_option Elab.async false
set_option linter.all false
set_option maxRecDepth 100000
set_option maxHeartbeats 4000000
/-! DM7: calls that tell a new list -/
namespace DL
open PySem PySem.Spec PyProof.Rows L2
/-- a new list of data -/
def spM (K : PySem.W.Frag) (T : List PyData → (List PyData → Prop) → Prop) : Sp := fun vs H Q _ => ∃ (N : Av) (ds : List PyData) (Φ : List PyData → Prop),
  (∀ b, N b = true → H b ≠ none) ∧ DqAll K N H vs ds ∧ T ds Φ ∧ ∀ es, Φ es → ∀ p us G, Same H G → G p = none → DqAll K N G us es → Q (.ref p) (upd G p (.lst us))
section
variable {K : PySem.W.Frag} {S : Stt} {ρ : Rho} {Φ : PyData → Rho → Prop}
end
end DL

set_option Elab.async false
set_option linter.all false
set_option maxRecDepth 100000
set_option maxHeartbeats 4000000
/-! DM8: a list of one's own lengthened by a comprehension -/
namespace DL
open PySem PySem.Spec PyProof.Rows L2
section
variable {K : PySem.W.Frag} {S : Stt} {ρ : Rho}
end
end DL

set_option Elab.async false
set_option linter.all false
set_option maxRecDepth 100000
set_option maxHeartbeats 4000000
/-! DM9: three names at once -/
namespace DL
open PySem PySem.Spec PyProof.Rows L2
section
variable {K : PySem.W.Frag} {S : Stt} {ρ : Rho}
end
end DL

set_option Elab.async false
set_option linter.all false
set_option maxRecDepth 100000
set_option maxHeartbeats 4000000
/-! DMA: equality of data -/
namespace DL
open PySem PySem.Spec PyProof.Rows L2
structure Sh (n : Nat) (d : PyData) : Prop where
  c : d.canLay0 = true
  d : d.depth ≤ n
theorem canAll_of : ∀ {xs : List PyData}, (∀ x ∈ xs, x.canLay0 = true) → PyData.canLayAll0 xs = true
  | [], _ => rfl
  | x :: xs, h => by
    show (x.canLay0 && PyData.canLayAll0 xs) = true
    rw [h x List.mem_cons_self, canAll_of fun y hy => h y (List.mem_cons_of_mem _ hy)]; rfl
theorem Sh.ok {n : Nat} {d : PyData} (h : Sh n d) (hn : n ≤ 64) : SeqAt.shaped d = true := by
  unfold SeqAt.shaped
  rw [h.c, decide_eq_true (Nat.le_trans h.d hn)]; rfl
theorem Sh.bool {i : Bool} : Sh 0 (.bool i) := ⟨rfl, Nat.le_refl _⟩
theorem Sh.lst {n : Nat} {xs : List PyData} (h : ∀ x ∈ xs, Sh n x) : Sh (n + 1) (.list xs) := ⟨canAll_of fun x hx => (h x hx).c, by
  show PyData.depthAll xs + 1 ≤ n + 1
  have := depthAll_of xs fun x hx => (h x hx).d
  omega⟩
mutual
theorem eqv_rfl : ∀ (d : PyData), d.canLay0 = true → PyData.eqv d d = true
  | .none, _ => rfl
  | .bool b, _ => by unfold PyData.eqv; simp
  | .int i, _ => by unfold PyData.eqv; simp
  | .str s, _ => by unfold PyData.eqv; simp
  | .list xs, h => by unfold PyData.eqv; exact eqvAll_rfl xs (by rw [PyData.canLay0] at h; exact h)
  | .tuple xs, h => by unfold PyData.eqv; exact eqvAll_rfl xs (by rw [PyData.canLay0] at h; exact h)
  | .dict _, h => by rw [PyData.canLay0] at h; cases h
theorem eqvAll_rfl : ∀ (ds : List PyData), PyData.canLayAll0 ds = true → PyData.eqvAll ds ds = true
  | [], _ => rfl
  | x :: xs, h => by
    rw [PyData.canLayAll0, Bool.and_eq_true] at h
    unfold PyData.eqvAll
    rw [eqv_rfl x h.1, eqvAll_rfl xs h.2]; rfl
end
mutual
/-- no truth within -/
def noB : PyData → Bool
  | .bool _ => false
  | .list xs => noBAll xs
  | .tuple xs => noBAll xs
  | .dict _ => false
  | _ => true
def noBAll : List PyData → Bool
  | [] => true
  | x :: xs => noB x && noBAll xs
end
mutual
theorem eqv_eq : ∀ (d e : PyData), noB d = true → noB e = true → PyData.eqv d e = true → d = e
  | .none, e, _, _, h => by cases e <;> first | rfl | (unfold PyData.eqv at h; cases h)
  | .bool b, e, h1, _, h => by rw [noB] at h1; cases h1
  | .int i, e, _, h2, h => by
    cases e <;> first | (rw [noB] at h2; cases h2; done) | (unfold PyData.eqv at h; first | cases h; done | (rw [beq_iff_eq] at h; rw [h]))
  | .str s, e, _, h2, h => by
    cases e <;> first | (rw [noB] at h2; cases h2; done) | (unfold PyData.eqv at h; first | cases h; done | (rw [beq_iff_eq] at h; rw [h]))
  | .list xs, e, h1, h2, h => by
    cases e <;> first | (unfold PyData.eqv at h; cases h; done) | skip
    rename_i ys
    unfold PyData.eqv at h
    rw [noB] at h1 h2
    rw [eqvAll_eq xs ys h1 h2 h]
  | .tuple xs, e, h1, h2, h => by
    cases e <;> first | (unfold PyData.eqv at h; cases h; done) | skip
    rename_i ys
    unfold PyData.eqv at h
    rw [noB] at h1 h2
    rw [eqvAll_eq xs ys h1 h2 h]
  | .dict _, e, h1, _, h => by rw [noB] at h1; cases h1
theorem eqvAll_eq : ∀ (ds es : List PyData), noBAll ds = true → noBAll es = true → PyData.eqvAll ds es = true → ds = es
  | [], [], _, _, _ => rfl
  | [], y :: ys, _, _, h => by unfold PyData.eqvAll at h; cases h
  | x :: xs, [], _, _, h => by unfold PyData.eqvAll at h; cases h
  | x :: xs, y :: ys, h1, h2, h => by
    unfold PyData.eqvAll at h
    rw [noBAll, Bool.and_eq_true] at h1 h2
    rw [Bool.and_eq_true] at h
    rw [eqv_eq x y h1.1 h2.1 h.1, eqvAll_eq xs ys h1.2 h2.2 h.2]
end
section
variable {K : PySem.W.Frag} {Ψ : PyData → Prop}
theorem do_neS {n : Nat} {d : PyData} (h : Sh n d) (hn : n ≤ 64) (f : Ψ (.bool false)) : DO K (rNeD K) d d Ψ := do_neD (h.ok hn) (h.ok hn) (by rw [eqv_rfl d h.c]; exact f)
end
end DL

set_option Elab.async false
set_option linter.all false
set_option maxRecDepth 100000
set_option maxHeartbeats 4000000
/-! DMB: a call with places and names that may be refused -/
namespace DL
open PySem PySem.Spec PyProof.Rows L2
def tCallNSk (n m : Nat) (sp : Sp) (gV : List V → List V → List V) (E : L2.St → XK) (t tk : TA) : TE := fun σ H Q => t σ H fun vs H1 => tk σ H1 fun zs H2 => vs.length = n ∧ zs.length = m ∧ sp (gV vs zs) H2 Q (E σ)
end DL

set_option Elab.async false
set_option linter.all false
set_option maxRecDepth 100000
set_option maxHeartbeats 4000000
/-! DMF: a call of a def that a local name holds, which may be refused; promises joined -/
namespace DL
open PySem PySem.Spec PyProof.Rows L2
section
variable {P : Program} {w : World} {K : PySem.W.Frag} {mg : Str → Option Value} {base : Heap} {CX : CXT} {k : Nat} {f : Addr} {fd : FuncData} {ps : List Str} {sp sp1 sp2 : Sp}
/-- what a local name may hold: a def, its defaults filled up -/
structure HeldS (P : Program) (w : World) (K : PySem.W.Frag) (mg : Str → Option Value) (base : Heap) (CX : CXT) (k : Nat) (f : Addr) (sp : Sp) : Prop where
  ex : ∃ (fd : FuncData) (ps : List Str) (ds : List Value) (dvs : List V) (sp0 : Sp), FnOk P w K mg base CX k f fd ps sp0 ∧ PySem.W.keepIn K (.ref f) = true ∧ Binds K fd ps ds ∧ Vals dvs ds ∧ ∀ vs H Q E, sp vs H Q E → sp0 (vs ++ dvs) H Q E
/-- the same, called by places and names -/
structure HeldK (P : Program) (w : World) (K : PySem.W.Frag) (mg : Str → Option Value) (base : Heap) (CX : CXT) (k n : Nat) (ks : List Str) (f : Addr) (sp : Sp) (gV : List V → List V → List V) : Prop where
  ex : ∃ (fd : FuncData) (ps : List Str) (g : List Value → List Value → List Value), FnOk P w K mg base CX k f fd ps sp ∧ PySem.W.keepIn K (.ref f) = true ∧ KBn K fd ps n ks g gV
end
def tCallF (i : Nat) (S : Addr → Sp → Prop) (E : L2.St → XK) (t : TA) : TE := fun σ H Q => ∃ f sp, σ[i]? = some (some (.ref f)) ∧ S f sp ∧ t σ H fun vs H1 => sp vs H1 Q (E σ)
def tCallFk (i n m : Nat) (S : Addr → Sp → Prop) (gV : List V → List V → List V) (E : L2.St → XK) (t tk : TA) : TE := fun σ H Q => ∃ f sp, σ[i]? = some (some (.ref f)) ∧ S f sp ∧ t σ H fun vs H1 => tk σ H1 fun zs H2 => vs.length = n ∧ zs.length = m ∧ sp (gV vs zs) H2 Q (E σ)
section
variable {X : Cx} {CX : CXT} {k i n : Nat} {S : Addr → Sp → Prop} {E : L2.St → XK} {x : Str} {p pos : Pos} {e : Expr} {es : List Expr} {kws : List Keyword} {ks : List Str} {t tk : TA} {gV : List V → List V → List V}
end
section
variable {K : PySem.W.Frag} {S : Stt} {ρ : Rho} {Φ : PyData → Rho → Prop}
end
end DL

set_option Elab.async false
set_option linter.all false
set_option maxRecDepth 100000
set_option maxHeartbeats 4000000
/-! DMG: the empty dict shown; a call of a def that an expression tells; zip of two tuples; tests ahead of a refusal -/
namespace DL
open PySem PySem.Spec PyProof.Rows L2
def rReprY (K : PySem.W.Frag) : List V → Hp → VK → Prop := fun xs H Q => rReprZ K xs H Q ∨ ∃ a, xs = [.ref a] ∧ H a = some (.dK []) ∧ Q (.str (PyData.dict []).shown) H
theorem call_reprY {X : Cx} (hgd : X.A.guards = some []) (hu : X.A.units + 64 < cLine) : CallR X (.builtin "repr") (rReprY X.K) := by
  intro pins s σ H xs us Q I r h
  rcases h with h | ⟨a, rfl, ha, q⟩
  · exact call_reprZ hgd hu pins s σ H xs us Q I r h
  · obtain ⟨u, rfl, ru⟩ := vals1 r
    cases ru
    obtain ⟨_, ns, vs, kv, o, es, ep, ho, ⟨hc, hd0, hs0⟩, hd, _, hp, _⟩ := dk_of I.hok ha
    cases kv
    have he : es.toList = [] := by
      cases e : es.toList with
      | nil => rfl
      | cons x r => rw [e] at hp; cases hp
    have rd : Reads s.heap (.ref a) (.dict []) (a :: [] ++ []) := Reads.dict ho hc hd (by rw [he]; exact ReadsAll.nil) (by rw [he]; exact ReadsAll.nil)
    have dep : X.A.units + ((PyData.dict []).depth + 1) < cLine := by
      have : (PyData.dict []).depth + 1 ≤ 64 := by decide +kernel
      omega
    refine repr_of_reads' rd (by decide +kernel) (fun _ z => ?_) hgd dep (fun b o e => e) (fun h' u tk hk => ?_) (by decide +kernel)
    · have : sysModules = a := by simpa using z
      rw [this] at ns
      simp at ns
    · exact ⟨.str (PyData.dict []).shown, H, I.kept (t' := tk) hk, ⟨u, rfl⟩, q⟩
section
variable {K : PySem.W.Frag} {S : Stt} {ρ : Rho} {Φ : PyData → Rho → Prop} {Ψ : PyData → Prop}
theorem dc_reprY {d : PyData} {L D : Nat} (h : Rs L D d) (h1 : L ≤ sizeLine) (h2 : D ≤ 50) (f : Ψ (.str d.shown)) : DC K (rReprY K) [d] Ψ := fun N H hN us hu Q q => .inl (dc_reprZ h h1 h2 f N H hN us hu Q q)
/-! ### zip of two tuples -/
end
/-! ### a def that an expression tells, called -/
def tCallE (S : Addr → Sp → Prop) (E : L2.St → XK) (tf : TE) (t : TA) : TE := fun σ H Q => tf σ H fun v H1 => ∃ f sp, v = .ref f ∧ S f sp ∧ t σ H1 fun vs H2 => sp vs H2 Q (E σ)
section
variable {X : Cx} {CX : CXT} {k : Nat} {S : Addr → Sp → Prop} {E : L2.St → XK} {pos : Pos} {fe e : Expr} {es : List Expr} {tf : TE} {t : TA}
end
end DL

set_option Elab.async false
set_option linter.all false
/-! LM4: lines knot by knot: what bends, and the one normal form -/
namespace DL
def yR : Kn → Rat → Rat → Rat
  | [], _, _ => 0
  | [a], s, x => a.2 + s * (x - a.1)
  | a :: b :: r, s, x => if x < b.1 then a.2 + (b.2 - a.2) / (b.1 - a.1) * (x - a.1) else yR (b :: r) s x
/-- the slope behind a, with the rest -/
def sR (a : Rat × Rat) : Kn → Rat → Rat
  | [], s => s
  | b :: _, _ => (b.2 - a.2) / (b.1 - a.1)
def go (sl : Rat) : Kn → Rat → Kn
  | [], _ => []
  | b :: r, s => if sR b r s = sl then go sl r s else b :: go (sR b r s) r s
def bR : Kn → Rat → Kn
  | [], _ => []
  | a :: r, s => a :: go (sR a r s) r s
def RisR : Kn → Prop
  | [] => True
  | [_] => True
  | a :: b :: r => a.1 < b.1 ∧ RisR (b :: r)
def NrmR : Kn → Rat → Prop
  | [], _ => True
  | [_], _ => True
  | a :: b :: r, s => sR a (b :: r) s ≠ sR b r s ∧ NrmR (b :: r) s
theorem two {a b : Rat × Rat} (h : a.1 < b.1) : b.2 = a.2 + (b.2 - a.2) / (b.1 - a.1) * (b.1 - a.1) := by grind
end DL

set_option Elab.async false
set_option linter.all false
/-! LM5: by number and knot by knot -/
namespace DL
/-- whether the line bends at a knot, the first one always -/
def pB (ks : Kn) (s : Rat) (i : Nat) : Bool := decide (i = 0) || !decide (slp ks s i = slp ks s (i - 1))
def bI (ks : Kn) (s : Rat) (k : Nat) : Kn := ((List.range k).filter (pB ks s)).map (kn ks)
end DL

set_option Elab.async false
set_option linter.all false
set_option maxRecDepth 100000
set_option maxHeartbeats 4000000
/-! LR1: lines made of rows of knots -/
namespace DL
open PySem PySem.Spec PyProof.Rows L2
noncomputable instance risDec (ks : Kn) : Decidable (Rising ks) := Classical.propDecidable _
abbrev rkD (b : Bool) (ks : Kn) : PyData := rowD b (ks.map kD)
structure Rk (B : Nat) (ks : Kn) (s : Rat) : Prop where
  b : KsB B ks s
  len : ks.length ≤ 100000
  B0 : 0 < B
  B2 : 2 * B ≤ 3800
def TSlopesR : List PyData → (PyData → Prop) → Prop := fun ds Φ => ∃ (b : Bool) (ks : Kn) (s : Rat) (B : Nat), ds = [rkD b ks, qp s] ∧ Rk B ks s ∧ Rising ks ∧ 0 < ks.length ∧ Φ (.list ((List.range ks.length).map fun i => qp (slp ks s i)))
def TRisB : List PyData → (PyData → Prop) → Prop := fun ds Φ => ∃ (b : Bool) (ks : Kn) (B : Nat), ds = [rkD b ks] ∧ (∀ i, i < ks.length → sz (kn ks i).1 ≤ B) ∧ ks.length ≤ 100000 ∧ B ≤ 3800 ∧ Φ (.bool (decide (Rising ks)))
def TBends : List PyData → (PyData → Prop) → Prop := fun ds Φ => ∃ (b : Bool) (ks : Kn) (s : Rat) (B : Nat), ds = [rkD b ks, qp s] ∧ Rk B ks s ∧ Rising ks ∧ 0 < ks.length ∧ Φ (knD (bI ks s ks.length))
def TLineOf : List PyData → (PyData → Prop) → Prop := fun ds Φ => ∃ (b : Bool) (ks : Kn) (s : Rat) (B : Nat), ds = [rkD b ks, qp s] ∧ Rk B ks s ∧ Rising ks ∧ 0 < ks.length ∧ (kn ks 0).1 = 0 ∧ Φ (lnD (bI ks s ks.length) s)
local macro_rules | `(tactic| walk_at "dl") => `(tactic| repeat' (first
  | with_reducible refine wd_isTy ?_ | with_reducible refine wd_isi ?_ | with_reducible refine wd_op ?_ | ((with_reducible show WD _ _ (tCB (rLenX _) (tCons (tVar _) tNil)) _ _); refine wd_len_scr rfl ?_) | with_reducible refine wd_cb ?_ | with_reducible refine wd_un ?_ | with_reducible refine wa_cons ?_ | with_reducible refine wa_nil ?_ | ((with_reducible show WD _ _ (tVar _) _ _); refine wd_var rfl ?_) | with_reducible refine wd_int ?_ | with_reducible refine wd_bl ?_ | with_reducible refine wd_str ?_ | with_reducible refine wd_non ?_
  | with_reducible refine do_nesS ?_ | with_reducible refine dc_intB ?_ | with_reducible refine do_add ?_ | with_reducible refine do_sub ?_ | ((with_reducible refine do_mod ?_ ?_); decide) | with_reducible refine do_mod ?_ ?_ | with_reducible refine do_mul ?_ ?_ | ((with_reducible refine do_div ?_ ?_); exact ⟨by decide, by decide⟩) | with_reducible refine do_div ?_ ?_ | ((with_reducible refine do_pow ?_ ?_); exact ⟨by decide, by decide, by decide⟩) | with_reducible refine do_pow ?_ ?_
  | with_reducible refine do_lt ?_ | with_reducible refine do_le ?_ | with_reducible refine do_gt ?_ | with_reducible refine do_ge ?_ | with_reducible refine du_neg ?_
  | with_reducible refine do_eqi ?_ | with_reducible refine do_nei ?_ | with_reducible refine do_eqs ?_ | with_reducible refine do_nes ?_ | with_reducible refine dc_abs ?_ | with_reducible refine dc_min ?_ | with_reducible refine dc_max ?_ | with_reducible refine dc_lenL ?_ | with_reducible refine dc_lenT ?_ | with_reducible refine dc_lenR ?_ | with_reducible refine dc_gcd ?_
  | ((with_reducible show DO _ (rIxT _) _ _ _); refine do_ixT rfl ?_) | ((with_reducible show DO _ (rIxL _) _ _ _); refine do_ixL rfl ?_) | ((with_reducible refine do_catL ?_ ?_); exact Nat.le_of_ble_eq_true rfl) | with_reducible refine do_catL ?_ ?_ | ((with_reducible show And (List.length _ ≤ sizeLine) _); refine ⟨Nat.le_of_ble_eq_true rfl, ?_⟩)
  | with_reducible refine wd_dnew ?_ | with_reducible refine wd_call0 ?_ | with_reducible refine wd_slA ?_ | with_reducible refine wo_part ?_ | with_reducible refine wo_none ?_ | with_reducible refine do_eqQ ?_ | with_reducible refine do_neQ ?_ | with_reducible refine wi_enumT ?_ | with_reducible refine wi_enumD ?_ | with_reducible refine tAdQ (by omega) (by omega) ?_ | with_reducible refine tSbQ (by omega) (by omega) ?_ | with_reducible refine tMlQ (by omega) (by omega) ?_ | with_reducible refine tDvQ (by assumption) (by omega) (by omega) ?_ | with_reducible refine tLtQ (by omega) (by omega) ?_ | with_reducible refine dc_str ?_ ?_ | with_reducible refine wd_tup ?_ | with_reducible refine wd_lst ?_ | with_reducible refine wt_test ?_ | with_reducible refine wt_B ?_ | with_reducible refine wt_not ?_ | with_reducible refine wt_and ?_ | with_reducible refine wt_or ?_ | with_reducible refine wd_ifE ?_ | with_reducible refine wd_andV ?_ | with_reducible refine wd_orV ?_ | with_reducible refine wd_notV ?_
  | with_reducible refine ws_seq ?_ | with_reducible refine ws_next ?_ | with_reducible refine ws_asg ?_ | with_reducible refine ws_ret ?_ | with_reducible refine ws_retN ?_ | with_reducible refine ws_if ?_ | with_reducible refine ws_par ?_ | with_reducible refine ws_unp2 ?_
  | with_reducible refine if_t ?_ | with_reducible refine if_f ?_ | with_reducible refine if_nf ?_ | with_reducible refine if_nt ?_
  | ((with_reducible show Exists _); first | refine ⟨_, kitInt _, ?_⟩ | refine ⟨_, kitBool _, ?_⟩ | refine ⟨_, kitTup _, ?_⟩ | refine ⟨_, kitList _, ?_⟩ | refine ⟨_, rfl, ?_⟩ | refine ⟨_, _, rfl, ?_⟩ | fail) | fail))
def t_slopesR (K : PySem.W.Frag) : TS :=
  (tSeq (tAsg (tLst tNil) (gName 2))
    (tSeq (tFor (iRng1 (tCons (tOp rSubI (tCB (rLenX K) (tCons (tVar 0) tNil)) (tC (.int 1))) tNil)) (gName 3) (tSeq (tAsg (tOp (rIxR K) (tVar 0) (tVar 3)) (gTup K 2 (gCons (gName 4) (gCons (gName 5) gNil))))
    (tSeq (tAsg (tOp (rIxR K) (tVar 0) (tOp rAddI (tVar 3) (tC (.int 1)))) (gTup K 2 (gCons (gName 6) (gCons (gName 7) gNil))))
    (tDrop (tBM K "list" rAppend (tVar 2) (tCons (tCall (spP K TDvQ) [] E0 (tCons (tCall (spP K TSbQ) [] E0 (tCons (tVar 7) (tCons (tVar 5) tNil))) (tCons (tCall (spP K TSbQ) [] E0 (tCons (tVar 6) (tCons (tVar 4) tNil))) tNil))) tNil))))))
    (tRet (tOp rCatL (tVar 2) (tLst (tCons (tVar 1) tNil))))))
def t_risB (K : PySem.W.Frag) : TS :=
  (tRet (tCB (rAll K) (tCons (tLc (iRng1 (tCons (tOp rSubI (tCB (rLenX K) (tCons (tVar 0) tNil)) (tC (.int 1))) tNil)) (gName 1) tYes (tCall (spP K TLtQ) [] E0 (tCons (tOp (rIxT K) (tOp (rIxR K) (tVar 0) (tVar 1)) (tC (.int 0))) (tCons (tOp (rIxT K) (tOp (rIxR K) (tVar 0) (tOp rAddI (tVar 1) (tC (.int 1)))) (tC (.int 0))) tNil))) [1]) tNil)))
def t_bends (K : PySem.W.Frag) : TS :=
  (tSeq (tAsg (tCall (spP K TSlopesR) [] E0 (tCons (tVar 0) (tCons (tVar 1) tNil))) (gName 2))
    (tSeq (tAsg (tLst tNil) (gName 3))
    (tSeq (tFor (iEnumR K (tCons (tVar 0) tNil)) (gTup K 2 (gCons (gName 4) (gCons (gTup K 2 (gCons (gName 5) (gCons (gName 6) gNil))) gNil))) (tIfS (tOr (tTest (tOp rEq (tVar 4) (tC (.int 0)))) (tTest (tOp (rNeD K) (tOp (rIxL K) (tVar 2) (tVar 4)) (tOp (rIxL K) (tVar 2) (tOp rSubI (tVar 4) (tC (.int 1))))))) (tDrop (tBM K "list" rAppend (tVar 3) (tCons (tTup (tCons (tVar 5) (tCons (tVar 6) tNil))) tNil))) tNext))
    (tRet (tCB (rTupOf K) (tCons (tVar 3) tNil))))))
def t_lineof (K : PySem.W.Frag) (a_NOUGHT : Addr) : TS :=
  (tSeq (tIfS (tTest (tOp rEq (tCB (rLenX K) (tCons (tVar 0) tNil)) (tC (.int 0)))) tNo tNext)
    (tSeq (tIfS (tTest (tOp (rNeD K) (tOp (rIxT K) (tOp (rIxR K) (tVar 0) (tC (.int 0))) (tC (.int 0))) (tC (.ref a_NOUGHT)))) tNo tNext)
    (tSeq (tIfS (tNot (tB (tCall (spP K TRisB) [] E0 (tCons (tVar 0) tNil)))) tNo tNext)
    (tRet (tTup (tCons (tCall (spP K TBends) [] E0 (tCons (tVar 0) (tCons (tVar 1) tNil))) (tCons (tVar 1) tNil)))))))
section
variable {K : PySem.W.Frag} {ds : List PyData} {Φ : PyData → Prop}
end
end DL

set_option Elab.async false
set_option linter.all false
set_option maxRecDepth 100000
set_option maxHeartbeats 4000000
/-! LR2: what is a line, of anything -/
namespace DL
open PySem PySem.Spec PyProof.Rows L2
/-- of no great numbers -/
inductive Tm : PyData → Prop
  | non : Tm .none
  | bool {b : Bool} : Tm (.bool b)
  | int {i : Int} : i.natAbs < 2 ^ 1700 → Tm (.int i)
  | str {z : Str} : Tm (.str z)
  | tup {ds : List PyData} : ds.length ≤ 1000 → (∀ d ∈ ds, Tm d) → Tm (.tuple ds)
  | lst {ds : List PyData} : ds.length ≤ 1000 → (∀ d ∈ ds, Tm d) → Tm (.list ds)
def isPairD : PyData → Bool
  | .tuple xs => decide ((xs.length : Int) = 2)
  | _ => false
def isKnotD : PyData → Bool
  | .tuple [a, b] => isPartD a && isPartD b
  | _ => false
def IsLn (d : PyData) : Prop := ∃ ks s, d = lnD ks s ∧ 0 < ks.length ∧ (kn ks 0).1 = 0 ∧ Rising ks ∧ Nrm ks s
noncomputable def isLnB (d : PyData) : Bool := @decide (IsLn d) (Classical.propDecidable _)
def TPairB : List PyData → (PyData → Prop) → Prop := fun ds Φ => ∃ d, ds = [d] ∧ Φ (.bool (isPairD d))
def TKnotB : List PyData → (PyData → Prop) → Prop := fun ds Φ => ∃ d, ds = [d] ∧ Φ (.bool (isKnotD d))
def TIsPartL : List PyData → (PyData → Prop) → Prop := fun ds Φ => ∃ d, ds = [d] ∧ GoodD d ∧ Φ (.bool (isPartD d))
def TIsLine : List PyData → (PyData → Prop) → Prop := fun ds Φ => ∃ d, ds = [d] ∧ Tm d ∧ SeqAt.shaped d = true ∧ Φ (.bool (isLnB d))
local macro_rules | `(tactic| walk_at "dl") => `(tactic| repeat' (first
  | with_reducible refine wd_isTy ?_ | with_reducible refine wd_isi ?_ | with_reducible refine wd_op ?_ | ((with_reducible show WD _ _ (tCB (rLenX _) (tCons (tVar _) tNil)) _ _); refine wd_len_scr rfl ?_) | with_reducible refine wd_cb ?_ | with_reducible refine wd_un ?_ | with_reducible refine wa_cons ?_ | with_reducible refine wa_nil ?_ | ((with_reducible show WD _ _ (tVar _) _ _); refine wd_var rfl ?_) | with_reducible refine wd_int ?_ | with_reducible refine wd_bl ?_ | with_reducible refine wd_str ?_ | with_reducible refine wd_non ?_
  | with_reducible refine do_nesS ?_ | with_reducible refine dc_intB ?_ | with_reducible refine do_add ?_ | with_reducible refine do_sub ?_ | ((with_reducible refine do_mod ?_ ?_); decide) | with_reducible refine do_mod ?_ ?_ | with_reducible refine do_mul ?_ ?_ | ((with_reducible refine do_div ?_ ?_); exact ⟨by decide, by decide⟩) | with_reducible refine do_div ?_ ?_ | ((with_reducible refine do_pow ?_ ?_); exact ⟨by decide, by decide, by decide⟩) | with_reducible refine do_pow ?_ ?_
  | with_reducible refine do_lt ?_ | with_reducible refine do_le ?_ | with_reducible refine do_gt ?_ | with_reducible refine do_ge ?_ | with_reducible refine du_neg ?_
  | with_reducible refine do_eqi ?_ | with_reducible refine do_nei ?_ | with_reducible refine do_eqs ?_ | with_reducible refine do_nes ?_ | with_reducible refine dc_abs ?_ | with_reducible refine dc_min ?_ | with_reducible refine dc_max ?_ | with_reducible refine dc_lenL ?_ | with_reducible refine dc_lenT ?_ | with_reducible refine dc_lenR ?_ | with_reducible refine dc_gcd ?_
  | ((with_reducible show DO _ (rIxT _) _ _ _); refine do_ixT rfl ?_) | ((with_reducible show DO _ (rIxL _) _ _ _); refine do_ixL rfl ?_) | ((with_reducible refine do_catL ?_ ?_); exact Nat.le_of_ble_eq_true rfl) | with_reducible refine do_catL ?_ ?_ | ((with_reducible show And (List.length _ ≤ sizeLine) _); refine ⟨Nat.le_of_ble_eq_true rfl, ?_⟩)
  | with_reducible refine wd_dnew ?_ | with_reducible refine wd_call0 ?_ | with_reducible refine wd_slA ?_ | with_reducible refine wo_part ?_ | with_reducible refine wo_none ?_ | with_reducible refine do_eqQ ?_ | with_reducible refine do_neQ ?_ | with_reducible refine wi_enumT ?_ | with_reducible refine wi_enumD ?_ | with_reducible refine tAdQ (by omega) (by omega) ?_ | with_reducible refine tSbQ (by omega) (by omega) ?_ | with_reducible refine tMlQ (by omega) (by omega) ?_ | with_reducible refine tDvQ (by assumption) (by omega) (by omega) ?_ | with_reducible refine tLtQ (by omega) (by omega) ?_ | with_reducible refine dc_str ?_ ?_ | with_reducible refine wd_tup ?_ | with_reducible refine wd_lst ?_ | with_reducible refine wt_test ?_ | with_reducible refine wt_B ?_ | with_reducible refine wt_not ?_ | with_reducible refine wt_and ?_ | with_reducible refine wt_or ?_ | with_reducible refine wd_ifE ?_ | with_reducible refine wd_andV ?_ | with_reducible refine wd_orV ?_ | with_reducible refine wd_notV ?_
  | with_reducible refine ws_seq ?_ | with_reducible refine ws_next ?_ | with_reducible refine ws_asg ?_ | with_reducible refine ws_ret ?_ | with_reducible refine ws_retN ?_ | with_reducible refine ws_if ?_ | with_reducible refine ws_par ?_ | with_reducible refine ws_unp2 ?_
  | with_reducible refine if_t ?_ | with_reducible refine if_f ?_ | with_reducible refine if_nf ?_ | with_reducible refine if_nt ?_
  | ((with_reducible show Exists _); first | refine ⟨_, kitInt _, ?_⟩ | refine ⟨_, kitBool _, ?_⟩ | refine ⟨_, kitTup _, ?_⟩ | refine ⟨_, kitList _, ?_⟩ | refine ⟨_, rfl, ?_⟩ | refine ⟨_, _, rfl, ?_⟩ | fail) | fail))
def t_pairb (K : PySem.W.Frag) : TS :=
  (tRet (tAndV (tOp rIsTyX (tCB (rTyp K) (tCons (tVar 0) tNil)) (tC (.ty "tuple"))) (tOp rEq (tCB (rLenX K) (tCons (tVar 0) tNil)) (tC (.int 2)))))
def t_knotb (K : PySem.W.Frag) : TS :=
  (tRet (tAndV (tCall (spP K TPairB) [] E0 (tCons (tVar 0) tNil)) (tAndV (tCall (spP K TPartB) [] E0 (tCons (tOp (rIxT K) (tVar 0) (tC (.int 0))) tNil)) (tCall (spP K TPartB) [] E0 (tCons (tOp (rIxT K) (tVar 0) (tC (.int 1))) tNil)))))
def t_isline (K : PySem.W.Frag) (a_NOUGHT : Addr) : TS :=
  (tSeq (tIfS (tNot (tB (tCall (spP K TPairB) [] E0 (tCons (tVar 0) tNil)))) (tRet (tC (.bl false))) tNext)
    (tSeq (tAsg (tVar 0) (gTup K 2 (gCons (gName 1) (gCons (gName 2) gNil))))
    (tSeq (tIfS (tNot (tAnd (tTest (tOp rIsTyX (tCB (rTyp K) (tCons (tVar 1) tNil)) (tC (.ty "tuple")))) (tAnd (tTest (tOp rGe (tCB (rLenX K) (tCons (tVar 1) tNil)) (tC (.int 1)))) (tB (tCall (spP K TPartB) [] E0 (tCons (tVar 2) tNil)))))) (tRet (tC (.bl false))) tNext)
    (tSeq (tIfS (tNot (tB (tCB (rAll K) (tCons (tLc (iTup K (tVar 1)) (gName 3) tYes (tCall (spP K TKnotB) [] E0 (tCons (tVar 3) tNil)) [3]) tNil)))) (tRet (tC (.bl false))) tNext)
    (tSeq (tIfS (tOr (tTest (tOp (rNeD K) (tOp (rIxT K) (tOp (rIxT K) (tVar 1) (tC (.int 0))) (tC (.int 0))) (tC (.ref a_NOUGHT)))) (tNot (tB (tCall (spP K TRisB) [] E0 (tCons (tVar 1) tNil))))) (tRet (tC (.bl false))) tNext)
    (tRet (tOp rEq (tCB (rLenX K) (tCons (tCall (spP K TBends) [] E0 (tCons (tVar 1) (tCons (tVar 2) tNil))) tNil)) (tCB (rLenX K) (tCons (tVar 1) tNil)))))))))
def t_lispart (K : PySem.W.Frag) : TS :=
  (tSeq (tIfS (tOr (tNot (tB (tCB (rIsi K) (tCons (tVar 0) (tCons (tC (.ty "tuple")) tNil))))) (tTest (tOp rNe (tCB (rLenX K) (tCons (tVar 0) tNil)) (tC (.int 2))))) (tRet (tC (.bl false))) tNext)
    (tSeq (tFor (iTup K (tVar 0)) (gName 1) (tIfS (tOr (tNot (tB (tCB (rIsi K) (tCons (tVar 1) (tCons (tC (.ty "int")) tNil))))) (tB (tCB (rIsi K) (tCons (tVar 1) (tCons (tC (.ty "bool")) tNil))))) (tRet (tC (.bl false))) tNext))
    (tRet (tAndV (tOp rGt (tOp (rIxT K) (tVar 0) (tC (.int 1))) (tC (.int 0))) (tOp (rEqD K) (tCall (spP K TLow) [] E0 (tCons (tOp (rIxT K) (tVar 0) (tC (.int 0))) (tCons (tOp (rIxT K) (tVar 0) (tC (.int 1))) tNil))) (tVar 0))))))
def t_lisline (K : PySem.W.Frag) : TS :=
  (tSeq (tIfS (tOr (tNot (tB (tCB (rIsi K) (tCons (tVar 0) (tCons (tC (.ty "tuple")) tNil))))) (tOr (tTest (tOp rNe (tCB (rLenX K) (tCons (tVar 0) tNil)) (tC (.int 2)))) (tOr (tNot (tB (tCB (rIsi K) (tCons (tOp (rIxT K) (tVar 0) (tC (.int 0))) (tCons (tC (.ty "tuple")) tNil))))) (tTest (tOp (rEqD K) (tOp (rIxT K) (tVar 0) (tC (.int 0))) (tTup tNil)))))) (tRet (tC (.bl false))) tNext)
    (tSeq (tFor (iTup K (tOp (rIxT K) (tVar 0) (tC (.int 0)))) (gName 1) (tIfS (tOr (tNot (tB (tCB (rIsi K) (tCons (tVar 1) (tCons (tC (.ty "tuple")) tNil))))) (tOr (tTest (tOp rNe (tCB (rLenX K) (tCons (tVar 1) tNil)) (tC (.int 2)))) (tOr (tNot (tB (tCall (spP K TIsPartL) [] E0 (tCons (tOp (rIxT K) (tVar 1) (tC (.int 0))) tNil)))) (tNot (tB (tCall (spP K TIsPartL) [] E0 (tCons (tOp (rIxT K) (tVar 1) (tC (.int 1))) tNil))))))) (tRet (tC (.bl false))) tNext))
    (tSeq (tIfS (tOr (tNot (tB (tCall (spP K TIsPartL) [] E0 (tCons (tOp (rIxT K) (tVar 0) (tC (.int 1))) tNil)))) (tTest (tOp (rNeD K) (tOp (rIxT K) (tOp (rIxT K) (tOp (rIxT K) (tVar 0) (tC (.int 0))) (tC (.int 0))) (tC (.int 0))) (tTup (tCons (tC (.int 0)) (tCons (tC (.int 1)) tNil)))))) (tRet (tC (.bl false))) tNext)
    (tSeq (tFor (iRng2 (tCons (tC (.int 1)) (tCons (tCB (rLenX K) (tCons (tOp (rIxT K) (tVar 0) (tC (.int 0))) tNil)) tNil))) (gName 2) (tIfS (tNot (tB (tCall (spP K TLtQ) [] E0 (tCons (tOp (rIxT K) (tOp (rIxT K) (tOp (rIxT K) (tVar 0) (tC (.int 0))) (tOp rSubI (tVar 2) (tC (.int 1)))) (tC (.int 0))) (tCons (tOp (rIxT K) (tOp (rIxT K) (tOp (rIxT K) (tVar 0) (tC (.int 0))) (tVar 2)) (tC (.int 0))) tNil))))) (tRet (tC (.bl false))) tNext))
    (tRet (tOp (rEqD K) (tLc (iRng2 (tCons (tC (.int 1)) (tCons (tCB (rLenX K) (tCons (tOp (rIxT K) (tVar 0) (tC (.int 0))) tNil)) tNil))) (gName 2) (tTest (tOp (rEqD K) (tCall (spP K TSlope) [] E0 (tCons (tVar 0) (tCons (tOp rSubI (tVar 2) (tC (.int 1))) tNil))) (tCall (spP K TSlope) [] E0 (tCons (tVar 0) (tCons (tVar 2) tNil))))) (tC (.int 1)) [2]) (tLst tNil)))))))
section
variable {K : PySem.W.Frag} {ds : List PyData} {Φ : PyData → Prop}
end
end DL

set_option Elab.async false
set_option linter.all false
set_option maxRecDepth 100000
set_option maxHeartbeats 1000000
/-! LM6: a knot put in where the line goes straight on -/
namespace DL
def insK (ks : Kn) (k : Nat) (p : Rat × Rat) : Kn := ks.take k ++ [p] ++ ks.drop k
end DL

set_option Elab.async false
set_option linter.all false
set_option maxRecDepth 100000
set_option maxHeartbeats 4000000
/-! LR3: knots put in where a line goes straight on; rows that don't rise -/
namespace DL
open PySem PySem.Spec PyProof.Rows L2
def bx : Nat → Nat
  | 0 => 26
  | t + 1 => 2 * bx t + 3
/-- a row of points of the line, at least its knots -/
structure MoreK (t : Nat) (ks : Kn) (s : Rat) (ms : Kn) : Prop where
  ris : Rising ms
  fst : (kn ms 0).1 = 0
  pos : 0 < ms.length
  len : ms.length ≤ ks.length + t
  x : ∀ i, i < ms.length → sz (kn ms i).1 ≤ bx t
  y : ∀ i, i < ms.length → sz (kn ms i).2 ≤ 156 + bx t
  sl : sz s ≤ 26
  on : ∀ x, 0 ≤ x → yAt ms s x = yAt ks s x
def TMore : Nat → List PyData → (PyData → Nat → Prop) → Prop := fun B ds Φ => ∃ (ks : Kn) (s : Rat), ds = [lnD ks s] ∧ Lq 26 ks s ∧ ks.length ≤ 60 ∧ B ≤ 2 ^ 39 ∧ ∀ ms B', B' ≤ B + 10 → MoreK 4 ks s ms → Φ (.list (ms.map kD)) B'
/-- a row of which no line can be made -/
def BadK (ms : Kn) : Prop := ms.length = 0 ∨ (kn ms 0).1 ≠ 0 ∨ ¬ Rising ms
structure NoK (ks ms : Kn) : Prop where
  bad : BadK ms
  len : ms.length ≤ 2 * ks.length + 2
  x : ∀ i, i < ms.length → sz (kn ms i).1 ≤ 60
  y : ∀ i, i < ms.length → sz (kn ms i).2 ≤ 60
def TNoRow : Nat → List PyData → (PyData → Nat → Prop) → Prop := fun B ds Φ => ∃ (ks : Kn) (s : Rat), ds = [lnD ks s] ∧ Lq 26 ks s ∧ ks.length ≤ 60 ∧ B ≤ 2 ^ 39 ∧ ∀ ms B', B' ≤ B + 10 → NoK ks ms → Φ (.list (ms.map kD)) B'
local macro_rules | `(tactic| walk_at "dl") => `(tactic| repeat' (first
  | with_reducible refine wd_isTy ?_ | with_reducible refine wd_isi ?_ | ((with_reducible show WD _ _ (tOp (rIxL _) (tVar _) _) _ _); refine wd_ix_own rfl ?_) | with_reducible refine wd_op ?_ | ((with_reducible show WD _ _ (tCB (rLenX _) (tCons (tVar _) tNil)) _ _); refine wd_len_scr rfl ?_) | ((with_reducible show WD _ _ (tCB (rLenX _) (tCons (tVar _) tNil)) _ _); refine wd_len_own rfl ?_) | with_reducible refine wd_cb ?_ | with_reducible refine wd_un ?_ | with_reducible refine wa_cons ?_ | with_reducible refine wa_nil ?_ | ((with_reducible show WD _ _ (tVar _) _ _); refine wd_var rfl ?_) | with_reducible refine wd_int ?_ | with_reducible refine wd_bl ?_ | with_reducible refine wd_str ?_ | with_reducible refine wd_non ?_
  | with_reducible refine do_nesS ?_ | with_reducible refine dc_intB ?_ | with_reducible refine do_add ?_ | with_reducible refine do_sub ?_ | ((with_reducible refine do_mod ?_ ?_); decide) | with_reducible refine do_mod ?_ ?_ | with_reducible refine do_mul ?_ ?_ | ((with_reducible refine do_div ?_ ?_); exact ⟨by decide, by decide⟩) | with_reducible refine do_div ?_ ?_ | ((with_reducible refine do_pow ?_ ?_); exact ⟨by decide, by decide, by decide⟩) | with_reducible refine do_pow ?_ ?_
  | with_reducible refine do_lt ?_ | with_reducible refine do_le ?_ | with_reducible refine do_gt ?_ | with_reducible refine do_ge ?_ | with_reducible refine du_neg ?_
  | with_reducible refine do_eqi ?_ | with_reducible refine do_nei ?_ | with_reducible refine do_eqs ?_ | with_reducible refine do_nes ?_ | with_reducible refine dc_abs ?_ | with_reducible refine dc_min ?_ | with_reducible refine dc_max ?_ | with_reducible refine dc_lenL ?_ | with_reducible refine dc_lenT ?_ | with_reducible refine dc_lenR ?_ | with_reducible refine dc_listT ?_ | with_reducible refine dc_listL ?_ | with_reducible refine dc_tupL ?_ | with_reducible refine dc_gcd ?_
  | ((with_reducible show DO _ (rIxT _) _ _ _); refine do_ixT rfl ?_) | ((with_reducible show DO _ (rIxL _) _ _ _); refine do_ixL rfl ?_) | ((with_reducible refine do_catL ?_ ?_); exact Nat.le_of_ble_eq_true rfl) | with_reducible refine do_catL ?_ ?_ | ((with_reducible show And (List.length _ ≤ sizeLine) _); refine ⟨Nat.le_of_ble_eq_true rfl, ?_⟩)
  | with_reducible refine wd_dnew ?_ | with_reducible refine wd_call0 ?_ | with_reducible refine wd_slA ?_ | with_reducible refine wd_slL ?_ | with_reducible refine wd_revT ?_ | with_reducible refine do_catA ?_ ?_ | with_reducible refine wo_part ?_ | with_reducible refine wo_none ?_ | with_reducible refine do_eqQ ?_ | with_reducible refine do_neQ ?_ | with_reducible refine wi_enumT ?_ | with_reducible refine wi_enumD ?_ | with_reducible refine tAdQ (by omega) (by omega) ?_ | with_reducible refine tSbQ (by omega) (by omega) ?_ | with_reducible refine tMlQ (by omega) (by omega) ?_ | with_reducible refine tDvQ (by assumption) (by omega) (by omega) ?_ | with_reducible refine tLtQ (by omega) (by omega) ?_ | with_reducible refine dc_str ?_ ?_ | with_reducible refine wd_tup ?_ | with_reducible refine wd_lst ?_ | with_reducible refine wt_test ?_ | with_reducible refine wt_B ?_ | with_reducible refine wt_not ?_ | with_reducible refine wt_and ?_ | with_reducible refine wt_or ?_ | with_reducible refine wd_ifE ?_ | with_reducible refine wd_andV ?_ | with_reducible refine wd_orV ?_ | with_reducible refine wd_notV ?_
  | with_reducible refine ws_seq ?_ | with_reducible refine ws_next ?_ | with_reducible refine ws_asg ?_ | with_reducible refine ws_ret ?_ | with_reducible refine ws_retN ?_ | with_reducible refine ws_if ?_ | with_reducible refine ws_par ?_ | with_reducible refine ws_unp2 ?_
  | with_reducible refine if_t ?_ | with_reducible refine if_f ?_ | with_reducible refine if_nf ?_ | with_reducible refine if_nt ?_
  | ((with_reducible show Exists _); first | refine ⟨_, kitInt _, ?_⟩ | refine ⟨_, kitBool _, ?_⟩ | refine ⟨_, kitTup _, ?_⟩ | refine ⟨_, kitList _, ?_⟩ | refine ⟨_, rfl, ?_⟩ | refine ⟨_, _, rfl, ?_⟩ | fail) | fail))
def t_more (K : PySem.W.Frag) : TS :=
  (tSeq (tAsg (tCB (rListOf K) (tCons (tOp (rIxT K) (tVar 1) (tC (.int 0))) tNil)) (gName 2))
    (tSeq (tFor (iRng1 (tCons (tOp rAddI (tC (.int 1)) (tCall (spS K FPot TTake) [] E0 (tCons (tVar 0) (tCons (tC (.int 4)) tNil)))) tNil)) (gName 3) (tSeq (tAsg (tCall (spS K FPot TTake) [] E0 (tCons (tVar 0) (tCons (tCB (rLenX K) (tCons (tVar 2) tNil)) tNil))) (gName 4))
    (tSeq (tAsg (tTup (tCons (tC (.int 0)) (tCons (tC (.int 1001)) tNil))) (gName 5))
    (tSeq (tIfS (tTest (tOp rLt (tOp rAddI (tVar 4) (tC (.int 1))) (tCB (rLenX K) (tCons (tVar 2) tNil)))) (tAsg (tCall (spP K TMlQ) [] E0 (tCons (tCall (spP K TAdQ) [] E0 (tCons (tOp (rIxT K) (tOp (rIxL K) (tVar 2) (tVar 4)) (tC (.int 0))) (tCons (tOp (rIxT K) (tOp (rIxL K) (tVar 2) (tOp rAddI (tVar 4) (tC (.int 1)))) (tC (.int 0))) tNil))) (tCons (tTup (tCons (tC (.int 1)) (tCons (tC (.int 2)) tNil))) tNil))) (gName 5)) tNext)
    (tSeq (tIfS (tTest (tOp rGt (tOp (rIxT K) (tVar 5) (tC (.int 1))) (tC (.int 1000)))) (tSeq (tAsg (tOp rSubI (tCB (rLenX K) (tCons (tVar 2) tNil)) (tC (.int 1))) (gName 4))
    (tAsg (tCall (spP K TAdQ) [] E0 (tCons (tOp (rIxT K) (tOp (rIxL K) (tVar 2) (tVar 4)) (tC (.int 0))) (tCons (tTup (tCons (tOp rAddI (tC (.int 1)) (tCall (spS K FPot TTake) [] E0 (tCons (tVar 0) (tCons (tC (.int 3)) tNil)))) (tCons (tC (.int 1)) tNil))) tNil))) (gName 5))) tNext)
    (tDrop (tBM K "list" rInsert (tVar 2) (tCons (tOp rAddI (tVar 4) (tC (.int 1))) (tCons (tTup (tCons (tVar 5) (tCons (tCall (spP K TYat) [] E0 (tCons (tVar 1) (tCons (tVar 5) tNil))) tNil))) tNil)))))))))
    (tRet (tVar 2))))
def t_norow (K : PySem.W.Frag) : TS :=
  (tSeq (tAsg (tCB (rListOf K) (tCons (tOp (rIxT K) (tVar 1) (tC (.int 0))) tNil)) (gName 2))
    (tSeq (tAsg (tCall (spS K FPot TTake) [] E0 (tCons (tVar 0) (tCons (tC (.int 4)) tNil))) (gName 3))
    (tSeq (tAsg (tCall (spS K FPot TTake) [] E0 (tCons (tVar 0) (tCons (tCB (rLenX K) (tCons (tVar 2) tNil)) tNil))) (gName 4))
    (tSeq (tIfS (tTest (tOp rEq (tVar 3) (tC (.int 0)))) (tRet (tLst tNil)) tNext)
    (tSeq (tIfS (tTest (tOp rEq (tVar 3) (tC (.int 1)))) (tSeq (tAsg (tTup (tCons (tOp (rIxL K) (tLst (tCons (tTup (tCons (tC (.int 1)) (tCons (tC (.int 2)) tNil))) (tCons (tTup (tCons (tUn rNegI (tC (.int 1))) (tCons (tC (.int 3)) tNil))) (tCons (tTup (tCons (tC (.int 1)) (tCons (tC (.int 997)) tNil))) tNil)))) (tCall (spS K FPot TTake) [] E0 (tCons (tVar 0) (tCons (tC (.int 3)) tNil)))) (tCons (tOp (rIxT K) (tOp (rIxL K) (tVar 2) (tC (.int 0))) (tC (.int 1))) tNil))) (gSub (tVar 2) (tC (.int 0)) rSetL))
    (tRet (tVar 2))) tNext)
    (tSeq (tIfS (tTest (tOp rEq (tVar 3) (tC (.int 2)))) (tRet (tOp rCatL (tSl (rSlL K) (tVar 2) tNoPart (tPart (tOp rAddI (tVar 4) (tC (.int 1))))) (tSl (rSlL K) (tVar 2) (tPart (tVar 4)) tNoPart))) tNext)
    (tSeq (tAsg (tCall (spP K TLow) [] E0 (tCons (tOp rAddI (tC (.int 1)) (tCall (spS K FPot TTake) [] E0 (tCons (tVar 0) (tCons (tC (.int 5)) tNil)))) (tCons (tIf (tTest (tOp rLt (tOp (rIxT K) (tOp (rIxT K) (tOp (rIxL K) (tVar 2) (tVar 4)) (tC (.int 0))) (tC (.int 1))) (tC (.int 97)))) (tC (.int 3)) (tC (.int 1))) tNil))) (gName 5))
    (tSeq (tDrop (tBM K "list" rInsert (tVar 2) (tCons (tOp rAddI (tVar 4) (tC (.int 1))) (tCons (tTup (tCons (tCall (spP K TSbQ) [] E0 (tCons (tOp (rIxT K) (tOp (rIxL K) (tVar 2) (tVar 4)) (tC (.int 0))) (tCons (tVar 5) tNil))) (tCons (tTup (tCons (tC (.int 1)) (tCons (tC (.int 1)) tNil))) tNil))) tNil))))
    (tRet (tVar 2))))))))))
section
variable {K : PySem.W.Frag} {S : Stt} {ds : List PyData} {Φ : PyData → Nat → Prop} {B : Nat}
end
end DL

set_option Elab.async false
set_option linter.all false
set_option maxRecDepth 100000
set_option maxHeartbeats 4000000
/-! LR4: a line bent -/
namespace DL
open PySem PySem.Spec PyProof.Rows L2
structure Th (L D : Nat) (d : PyData) : Prop where
  r : Rs L D d
  t : Tm d
  c : d.canLay0 = true
/-- a thing to be judged -/
abbrev Thg (d : PyData) : Prop := Th 1700000 6 d
def TBent : Nat → List PyData → (PyData → Nat → Prop) → Prop := fun B ds Φ => ∃ (ks : Kn) (s : Rat), ds = [lnD ks s] ∧ Lq 26 ks s ∧ ks.length ≤ 60 ∧ B ≤ 2 ^ 38 ∧ ∀ z B', B' ≤ B + 20 → Thg z → Φ z B'
/-- a small thing -/
abbrev Odd (d : PyData) : Prop := Th 400 1 d
theorem odd_bool {b : Bool} : Th 110 0 (.bool b) := ⟨⟨by cases b <;> rfl, rfl, by cases b <;> decide, by cases b <;> decide⟩, .bool, rfl⟩
theorem odd_non : Th 110 0 .none := ⟨⟨rfl, rfl, by decide, by decide⟩, .non, rfl⟩
theorem ixAll {ds : List PyData} {P : PyData → Prop} {i : Int} {Ψ : PyData → Prop} {K : PySem.W.Frag} (h0 : 0 ≤ i) (h1 : i < ds.length) (h : ∀ x ∈ ds, P x) (f : ∀ z, P z → Ψ z) : DO K (rIxL K) (.list ds) (.int i) Ψ := by
  obtain ⟨n, rfl⟩ : ∃ n : Nat, i = n := ⟨i.toNat, by omega⟩
  have hn : n < ds.length := by omega
  exact do_ixLn (k := n) rfl (List.getElem?_eq_getElem hn) (f _ (h _ (List.getElem_mem hn)))
local macro_rules | `(tactic| walk_at "dl") => `(tactic| repeat' (first
  | with_reducible refine wd_isTy ?_ | with_reducible refine wd_isi ?_ | ((with_reducible show WD _ _ (tOp (rIxL _) (tVar _) _) _ _); refine wd_ix_own rfl ?_) | with_reducible refine wd_op ?_ | ((with_reducible show WD _ _ (tCB (rLenX _) (tCons (tVar _) tNil)) _ _); refine wd_len_scr rfl ?_) | ((with_reducible show WD _ _ (tCB (rLenX _) (tCons (tVar _) tNil)) _ _); refine wd_len_own rfl ?_) | with_reducible refine wd_cb ?_ | with_reducible refine wd_un ?_ | with_reducible refine wa_cons ?_ | with_reducible refine wa_nil ?_ | ((with_reducible show WD _ _ (tVar _) _ _); refine wd_var rfl ?_) | with_reducible refine wd_int ?_ | with_reducible refine wd_bl ?_ | with_reducible refine wd_str ?_ | with_reducible refine wd_non ?_
  | with_reducible refine do_nesS ?_ | with_reducible refine dc_intB ?_ | with_reducible refine do_add ?_ | with_reducible refine do_sub ?_ | ((with_reducible refine do_mod ?_ ?_); decide) | with_reducible refine do_mod ?_ ?_ | with_reducible refine do_mul ?_ ?_ | ((with_reducible refine do_div ?_ ?_); exact ⟨by decide, by decide⟩) | with_reducible refine do_div ?_ ?_ | ((with_reducible refine do_pow ?_ ?_); exact ⟨by decide, by decide, by decide⟩) | with_reducible refine do_pow ?_ ?_
  | with_reducible refine do_lt ?_ | with_reducible refine do_le ?_ | with_reducible refine do_gt ?_ | with_reducible refine do_ge ?_ | with_reducible refine du_neg ?_
  | with_reducible refine do_eqi ?_ | with_reducible refine do_nei ?_ | with_reducible refine do_eqs ?_ | with_reducible refine do_nes ?_ | with_reducible refine dc_abs ?_ | with_reducible refine dc_min ?_ | with_reducible refine dc_max ?_ | with_reducible refine dc_lenL ?_ | with_reducible refine dc_lenT ?_ | with_reducible refine dc_lenR ?_ | with_reducible refine dc_listT ?_ | with_reducible refine dc_listL ?_ | with_reducible refine dc_tupL ?_ | with_reducible refine dc_gcd ?_
  | ((with_reducible show DO _ (rIxT _) _ _ _); refine do_ixT rfl ?_) | ((with_reducible show DO _ (rIxL _) _ _ _); refine do_ixL rfl ?_) | ((with_reducible refine do_catL ?_ ?_); exact Nat.le_of_ble_eq_true rfl) | with_reducible refine do_catL ?_ ?_ | ((with_reducible show And (List.length _ ≤ sizeLine) _); refine ⟨Nat.le_of_ble_eq_true rfl, ?_⟩)
  | with_reducible refine wd_dnew ?_ | with_reducible refine wd_call0 ?_ | with_reducible refine wd_slA ?_ | with_reducible refine wd_slL ?_ | with_reducible refine wd_revT ?_ | with_reducible refine do_catA ?_ ?_ | with_reducible refine wo_part ?_ | with_reducible refine wo_none ?_ | with_reducible refine do_eqQ ?_ | with_reducible refine do_neQ ?_ | with_reducible refine wi_enumT ?_ | with_reducible refine wi_enumD ?_ | with_reducible refine tAdQ (by omega) (by omega) ?_ | with_reducible refine tSbQ (by omega) (by omega) ?_ | with_reducible refine tMlQ (by omega) (by omega) ?_ | with_reducible refine tDvQ (by assumption) (by omega) (by omega) ?_ | with_reducible refine tLtQ (by omega) (by omega) ?_ | with_reducible refine dc_str ?_ ?_ | with_reducible refine wd_tup ?_ | with_reducible refine wd_lst ?_ | with_reducible refine wt_test ?_ | with_reducible refine wt_B ?_ | with_reducible refine wt_not ?_ | with_reducible refine wt_and ?_ | with_reducible refine wt_or ?_ | with_reducible refine wd_ifE ?_ | with_reducible refine wd_andV ?_ | with_reducible refine wd_orV ?_ | with_reducible refine wd_notV ?_
  | with_reducible refine ws_seq ?_ | with_reducible refine ws_next ?_ | with_reducible refine ws_asg ?_ | with_reducible refine ws_ret ?_ | with_reducible refine ws_retN ?_ | with_reducible refine ws_if ?_ | with_reducible refine ws_par ?_ | with_reducible refine ws_unp2 ?_
  | with_reducible refine if_t ?_ | with_reducible refine if_f ?_ | with_reducible refine if_nf ?_ | with_reducible refine if_nt ?_
  | ((with_reducible show Exists _); first | refine ⟨_, kitInt _, ?_⟩ | refine ⟨_, kitBool _, ?_⟩ | refine ⟨_, kitTup _, ?_⟩ | refine ⟨_, kitList _, ?_⟩ | refine ⟨_, rfl, ?_⟩ | refine ⟨_, _, rfl, ?_⟩ | fail) | fail))
def t_bent (K : PySem.W.Frag) : TS :=
  (tSeq (tAsg (tCall (spS K FPot TTake) [] E0 (tCons (tVar 0) (tCons (tC (.int 10)) tNil))) (gName 2))
    (tSeq (tAsg (tVar 1) (gTup K 2 (gCons (gName 3) (gCons (gName 4) gNil))))
    (tSeq (tAsg (tCall (spS K FPot TTake) [] E0 (tCons (tVar 0) (tCons (tCB (rLenX K) (tCons (tVar 3) tNil)) tNil))) (gName 5))
    (tSeq (tAsg (tLst (tCons (tTup (tCons (tC (.int 2)) (tCons (tC (.int 4)) tNil))) (tCons (tTup (tCons (tC (.int 0)) (tCons (tC (.int 2)) tNil))) (tCons (tTup (tCons (tC (.int 1)) (tCons (tC (.int 0)) tNil))) (tCons (tTup (tCons (tC (.int 1)) (tCons (tUn rNegI (tC (.int 1))) tNil))) (tCons (tTup (tCons (tC (.bl true)) (tCons (tC (.int 1)) tNil))) (tCons (tTup (tCons (tC (.int 1)) (tCons (tC (.bl true)) tNil))) (tCons (tC (.int 1)) (tCons (tC .non) (tCons (tC (.str "1")) (tCons (tLst (tCons (tC (.int 1)) (tCons (tC (.int 1)) tNil))) (tCons (tTup (tCons (tC (.int 1)) tNil)) (tCons (tTup (tCons (tC (.int 1)) (tCons (tC (.int 1)) (tCons (tC (.int 1)) tNil)))) tNil))))))))))))) (gName 6))
    (tSeq (tAsg (tOp (rIxL K) (tOp rCatL (tVar 6) (tLst (tCons (tTup (tCons (tOp rAddI (tOp rPowI (tC (.int 10)) (tC (.int 30))) (tC (.int 1))) (tCons (tC (.int 7)) tNil))) (tCons (tTup (tCons (tC (.int 0)) (tCons (tC (.int 1)) tNil))) (tCons (tTup (tCons (tUn rNegI (tC (.int 1))) (tCons (tC (.int 2)) tNil))) (tCons (tTup (tCons (tC (.int 3)) (tCons (tC (.int 2)) tNil))) tNil)))))) (tCall (spS K FPot TTake) [] E0 (tCons (tVar 0) (tCons (tC (.int 16)) tNil)))) (gName 7))
    (tSeq (tAsg (tOp (rIxT K) (tVar 3) (tVar 5)) (gTup K 2 (gCons (gName 8) (gCons (gName 9) gNil))))
    (tSeq (tIfS (tTest (tOp rLt (tVar 2) (tC (.int 3)))) (tRet (tTup (tCons (tOp (rCatA K) (tOp (rCatA K) (tSl (rSlA K) (tVar 3) tNoPart (tPart (tVar 5))) (tTup (tCons (tOp (rIxL K) (tLst (tCons (tTup (tCons (tVar 7) (tCons (tVar 9) tNil))) (tCons (tTup (tCons (tVar 8) (tCons (tVar 7) tNil))) (tCons (tVar 7) tNil)))) (tVar 2)) tNil))) (tSl (rSlA K) (tVar 3) (tPart (tOp rAddI (tVar 5) (tC (.int 1)))) tNoPart)) (tCons (tVar 4) tNil)))) tNext)
    (tSeq (tIfS (tTest (tOp rEq (tVar 2) (tC (.int 3)))) (tRet (tTup (tCons (tVar 3) (tCons (tVar 7) tNil)))) tNext)
    (tSeq (tIfS (tTest (tOp rEq (tVar 2) (tC (.int 4)))) (tRet (tTup (tCons (tOp (rCatA K) (tOp (rCatA K) (tSl (rSlA K) (tVar 3) tNoPart (tPart (tVar 5))) (tRevT K (tSl (rSlA K) (tVar 3) (tPart (tVar 5)) (tPart (tOp rAddI (tVar 5) (tC (.int 2))))))) (tSl (rSlA K) (tVar 3) (tPart (tOp rAddI (tVar 5) (tC (.int 2)))) tNoPart)) (tCons (tVar 4) tNil)))) tNext)
    (tSeq (tIfS (tTest (tOp rEq (tVar 2) (tC (.int 5)))) (tRet (tTup (tCons (tOp (rCatA K) (tSl (rSlA K) (tVar 3) tNoPart (tPart (tOp rAddI (tVar 5) (tC (.int 1))))) (tSl (rSlA K) (tVar 3) (tPart (tVar 5)) tNoPart)) (tCons (tVar 4) tNil)))) tNext)
    (tSeq (tIfS (tTest (tOp rEq (tVar 2) (tC (.int 6)))) (tRet (tTup (tCons (tOp (rCatA K) (tSl (rSlA K) (tVar 3) tNoPart (tPart (tVar 5))) (tSl (rSlA K) (tVar 3) (tPart (tOp rAddI (tVar 5) (tC (.int 1)))) tNoPart)) (tCons (tVar 4) tNil)))) tNext)
    (tSeq (tIfS (tTest (tOp rEq (tVar 2) (tC (.int 7)))) (tRet (tTup (tCons (tCB (rTupOf K) (tCons (tCall (spS K FPot TMore) [] E0 (tCons (tVar 0) (tCons (tVar 1) tNil))) tNil)) (tCons (tVar 4) tNil)))) tNext)
    (tSeq (tIfS (tTest (tOp rEq (tVar 2) (tC (.int 8)))) (tRet (tTup (tCons (tOp (rCatA K) (tOp (rCatA K) (tSl (rSlA K) (tVar 3) tNoPart (tPart (tVar 5))) (tTup (tCons (tLst (tCons (tVar 8) (tCons (tVar 9) tNil))) tNil))) (tSl (rSlA K) (tVar 3) (tPart (tOp rAddI (tVar 5) (tC (.int 1)))) tNoPart)) (tCons (tVar 4) tNil)))) tNext)
    (tRet (tOp (rIxL K) (tLst (tCons (tCB (rListOf K) (tCons (tVar 1) tNil)) (tCons (tTup (tCons (tCB (rListOf K) (tCons (tVar 3) tNil)) (tCons (tVar 4) tNil))) (tCons (tTup (tCons (tVar 3) (tCons (tVar 4) (tCons (tVar 4) tNil)))) (tCons (tTup (tCons (tVar 3) tNil)) (tCons (tVar 7) (tCons (tTup (tCons (tTup tNil) (tCons (tVar 4) tNil))) tNil))))))) (tCall (spS K FPot TTake) [] E0 (tCons (tVar 0) (tCons (tC (.int 6)) tNil))))))))))))))))))
section
variable {K : PySem.W.Frag} {S : Stt} {ds : List PyData} {Φ : PyData → Nat → Prop} {B : Nat}
theorem b4 : bx 4 = 461 := rfl
end
end DL

set_option Elab.async false
set_option linter.all false
set_option maxRecDepth 100000
set_option maxHeartbeats 4000000
/-! ER6: what is borne is drawn; refused, caught -/
namespace DL
open PySem PySem.Spec PyProof.Rows L2
/-! ### words of letters -/
abbrev rJoin (K : PySem.W.Frag) : V → List V → Hp → VK → Prop := fun x xs H Q => ∃ a p, ∃ ys : List Str, x = .str a ∧ xs = [.ref p] ∧ (SqL K H p (ys.map V.str) ∨ SqT K H p (ys.map V.str)) ∧ (ys.map (·.length)).sum + ys.length * a.length ≤ 16777216 ∧ Q (.str (Txt.join a ys)) H
def Ltr (c : Nat) : Prop := 97 ≤ c ∧ c ≤ 122
abbrev alph : Str := "abcdefghijklmnopqrstuvwxyz"
theorem alph_at {z : Int} (h0 : 0 ≤ z) (h1 : z < 26) : ∃ c, atI alph.cps.toList z = some c ∧ Ltr c := by
  obtain ⟨k, rfl⟩ : ∃ k : Nat, z = k := ⟨z.toNat, by omega⟩
  have hk : k < 26 := by omega
  have all : ∀ j : Fin 26, (atI alph.cps.toList (((j : Nat)) : Int)).any (fun c => decide (97 ≤ c) && decide (c ≤ 122)) = true := by decide +kernel
  have := all ⟨k, hk⟩
  cases e : atI alph.cps.toList (k : Int) with
  | none => rw [show (((⟨k, hk⟩ : Fin 26) : Nat) : Int) = (k : Int) from rfl, e] at this; cases this
  | some c =>
    rw [show (((⟨k, hk⟩ : Fin 26) : Nat) : Int) = (k : Int) from rfl, e] at this
    have h2 : (decide (97 ≤ c) && decide (c ≤ 122)) = true := this
    rw [Bool.and_eq_true] at h2
    exact ⟨c, rfl, of_decide_eq_true h2.1, of_decide_eq_true h2.2⟩
theorem rchar {c q : Nat} (h : Ltr c) (hq : q = 34 ∨ q = 39) : (Builtin.Str.reprChar q c).length = 1 := by
  obtain ⟨k, rfl⟩ : ∃ k : Nat, c = 97 + k := ⟨c - 97, by have := h.1; omega⟩
  have hk : k < 26 := by have := h.2; omega
  have all : ∀ j : Fin 26, (Builtin.Str.reprChar 34 (97 + (j : Nat))).length = 1 ∧ (Builtin.Str.reprChar 39 (97 + (j : Nat))).length = 1 := by decide +kernel
  rcases hq with rfl | rfl
  · exact (all ⟨k, hk⟩).1
  · exact (all ⟨k, hk⟩).2
theorem rfold {q : Nat} (hq : q = 34 ∨ q = 39) : ∀ (l : List Nat) (n : Nat), (∀ c ∈ l, Ltr c) → l.foldl (fun n c => n + (Builtin.Str.reprChar q c).length) n = n + l.length
  | [], n, _ => rfl
  | c :: r, n, h => by
    rw [List.foldl_cons, rfold hq r _ fun d hd => h d (List.mem_cons_of_mem _ hd), rchar (h c List.mem_cons_self) hq, List.length_cons]
    omega
theorem word_len {l : List Nat} (h : ∀ c ∈ l, Ltr c) : (reprText (SX.S l)).length = 2 + l.length := by
  rw [← reprLen_eq, ← Array.foldl_toList]
  refine (rfold ?_ _ _ fun c hc => h c (by simpa using hc)).trans (by simp)
  unfold reprQuote
  split
  · exact .inl rfl
  · exact .inr rfl
theorem joinL_one : ∀ l : List Nat, TL.joinL [] (l.map fun c => [c]) = l
  | [] => rfl
  | [c] => rfl
  | c :: d :: r => by
    have ih := joinL_one (d :: r)
    show [c] ++ ([] ++ TL.joinL [] ((d :: r).map fun c => [c])) = _
    rw [ih]; rfl
theorem word_of (l : List Nat) : Txt.join ("" : Str) ((l.map fun c => ([c] : List Nat)).map SX.S) = SX.S l := by
  have := SX.join_S [] (l.map fun c => [c])
  rw [joinL_one] at this
  exact this
theorem rs_word {l : List Nat} (h : ∀ c ∈ l, Ltr c) (hl : l.length ≤ 9) : Rs 20 1 (.str (SX.S l)) := ⟨rfl, rfl, by
  show (reprText (SX.S l)).length ≤ 20
  rw [word_len h]; omega, by show 0 ≤ 1; decide⟩
section
variable {K : PySem.W.Frag} {S : Stt} {ρ : Rho} {Φ : PyData → Rho → Prop} {Ψ : PyData → Prop}
theorem DqAll.of_strs {N : Av} {H : Hp} : ∀ {vs : List V} {ns : List Str}, DqAll K N H vs (ns.map PyData.str) → vs = ns.map V.str := by
  intro vs ns h
  induction ns generalizing vs with
  | nil => cases h; rfl
  | cons n ns ih =>
    cases h with
    | cons h1 h2 => cases h1; rw [ih h2]; rfl
theorem wd_join {te : TE} {z : Str} (h : WD K S te ρ fun d ρ1 => ∃ ys : List Str, d = .list (ys.map PyData.str) ∧ (ys.map (·.length)).sum + ys.length * z.length ≤ 16777216 ∧ Φ (.str (Txt.join z ys)) ρ1) : WD K S (tM1 (rJoin K) (tC (.str z)) te) ρ Φ := fun H0 N0 Z N σ H E Q q =>
  ⟨⟨z, rfl⟩, h H0 N0 Z N σ H E _ fun v d ρ1 H1 ⟨ys, e, hb, f⟩ E1 k1 d1 => by
    subst e
    obtain ⟨p, xs, rfl, _, h1, h2⟩ := d1.lst_inv
    rw [h2.of_strs] at h1
    exact ⟨z, p, ys, rfl, rfl, .inl (.inl h1), hb, q _ _ ρ1 H1 f E1 k1 (Dt.str _)⟩⟩
theorem do_ixS {w : Str} {i : Int} {c : Nat} (hw : w.length ≤ sizeLine) (h : atI w.cps.toList i = some c) (f : Ψ (.str ⟨#[c]⟩)) : DO K rIxS (.str w) (.int i) Ψ := fun N H _ u v hu hv Q q => by
  cases hu
  cases hv
  exact ⟨w, i, c, rfl, rfl, hw, h, q _ _ H f (Same.refl H) (Dt.str _)⟩
end
theorem do_inI {K : PySem.W.Frag} {Ψ : PyData → Prop} {i : Int} {ns : List Int} (f : ∀ b, Ψ (.bool b)) : DO K (rIn K false) (.int i) (.tuple (ns.map PyData.int)) Ψ := fun N H _ u w hu hw Q q => by
  cases hu
  obtain ⟨p, xs, rfl, _, h1, h2⟩ := hw.tup_inv
  obtain rfl := h2.of_ints
  have fl : (ns.map V.int).all flatV = true := by rw [List.all_eq_true]; intro x hx; obtain ⟨k, _, rfl⟩ := List.mem_map.mp hx; rfl
  exact ⟨p, _, rfl, .inr h1, rfl, fl, q _ _ H (f _) (Same.refl H) (Dt.bl _)⟩
def TBorn : Nat → List PyData → (PyData → Nat → Prop) → Prop := fun B ds Φ => ∃ w : Int, ds = [.int w] ∧ B + 6400 ≤ 2 ^ 40 ∧ ∀ d B', B' ≤ B + 6400 → Rs 200 3 d → Φ d B'
def TDue : List PyData → (PyData → Prop) → Prop := fun ds Φ => ∃ i : Nat, ds = [.int (i : Int)] ∧ i < 17 ∧ Φ (.list ((undL i).map PyData.bool))
local macro_rules | `(tactic| walk_at "dl") => `(tactic| repeat' (first
  | with_reducible refine wd_isTy ?_ | with_reducible refine wd_isi ?_ | ((with_reducible show WD _ _ (tOp (rIxL _) (tVar _) _) _ _); refine wd_ix_own rfl ?_) | with_reducible refine wd_op ?_ | ((with_reducible show WD _ _ (tCB (rLenX _) (tCons (tVar _) tNil)) _ _); refine wd_len_scr rfl ?_) | ((with_reducible show WD _ _ (tCB (rLenX _) (tCons (tVar _) tNil)) _ _); refine wd_len_own rfl ?_) | with_reducible refine wd_cb ?_ | with_reducible refine wd_un ?_ | with_reducible refine wa_cons ?_ | with_reducible refine wa_nil ?_ | ((with_reducible show WD _ _ (tVar _) _ _); refine wd_var rfl ?_) | with_reducible refine wd_int ?_ | with_reducible refine wd_bl ?_ | with_reducible refine wd_str ?_ | with_reducible refine wd_non ?_
  | with_reducible refine do_nesS ?_ | with_reducible refine dc_intB ?_ | with_reducible refine do_add ?_ | with_reducible refine do_sub ?_ | ((with_reducible refine do_mod ?_ ?_); decide) | with_reducible refine do_mod ?_ ?_ | with_reducible refine do_mul ?_ ?_ | ((with_reducible refine do_div ?_ ?_); exact ⟨by decide, by decide⟩) | with_reducible refine do_div ?_ ?_ | ((with_reducible refine do_pow ?_ ?_); exact ⟨by decide, by decide, by decide⟩) | with_reducible refine do_pow ?_ ?_
  | with_reducible refine do_lt ?_ | with_reducible refine do_le ?_ | with_reducible refine do_gt ?_ | with_reducible refine do_ge ?_ | with_reducible refine du_neg ?_
  | with_reducible refine do_eqi ?_ | with_reducible refine do_nei ?_ | with_reducible refine do_eqs ?_ | with_reducible refine do_nes ?_ | with_reducible refine dc_abs ?_ | with_reducible refine dc_min ?_ | with_reducible refine dc_max ?_ | with_reducible refine dc_lenL ?_ | with_reducible refine dc_lenT ?_ | with_reducible refine dc_lenR ?_ | with_reducible refine dc_listT ?_ | with_reducible refine dc_listL ?_ | with_reducible refine dc_tupL ?_ | with_reducible refine dc_gcd ?_
  | ((with_reducible show DO _ (rIxT _) _ _ _); refine do_ixT rfl ?_) | ((with_reducible show DO _ (rIxL _) _ _ _); refine do_ixL rfl ?_) | ((with_reducible refine do_catL ?_ ?_); exact Nat.le_of_ble_eq_true rfl) | with_reducible refine do_catL ?_ ?_ | ((with_reducible show And (List.length _ ≤ sizeLine) _); refine ⟨Nat.le_of_ble_eq_true rfl, ?_⟩)
  | with_reducible refine wd_dnew ?_ | with_reducible refine wd_call0 ?_ | with_reducible refine wd_slA ?_ | with_reducible refine wd_slL ?_ | with_reducible refine wd_revT ?_ | with_reducible refine do_catA ?_ ?_ | with_reducible refine wo_part ?_ | with_reducible refine wo_none ?_ | with_reducible refine do_eqQ ?_ | with_reducible refine do_neQ ?_ | with_reducible refine wi_enumT ?_ | with_reducible refine wi_enumD ?_ | with_reducible refine tAdQ (by omega) (by omega) ?_ | with_reducible refine tSbQ (by omega) (by omega) ?_ | with_reducible refine tMlQ (by omega) (by omega) ?_ | with_reducible refine tDvQ (by assumption) (by omega) (by omega) ?_ | with_reducible refine tLtQ (by omega) (by omega) ?_ | with_reducible refine dc_str ?_ ?_ | with_reducible refine wd_tup ?_ | with_reducible refine wd_lst ?_ | with_reducible refine wt_test ?_ | with_reducible refine wt_B ?_ | with_reducible refine wt_not ?_ | with_reducible refine wt_and ?_ | with_reducible refine wt_or ?_ | with_reducible refine wd_ifE ?_ | with_reducible refine wd_andV ?_ | with_reducible refine wd_orV ?_ | with_reducible refine wd_notV ?_
  | with_reducible refine ws_seq ?_ | with_reducible refine ws_next ?_ | with_reducible refine ws_asg ?_ | with_reducible refine ws_ret ?_ | with_reducible refine ws_retN ?_ | with_reducible refine ws_if ?_ | with_reducible refine ws_par ?_ | with_reducible refine ws_unp2 ?_
  | with_reducible refine if_t ?_ | with_reducible refine if_f ?_ | with_reducible refine if_nf ?_ | with_reducible refine if_nt ?_
  | ((with_reducible show Exists _); first | refine ⟨_, kitInt _, ?_⟩ | refine ⟨_, kitBool _, ?_⟩ | refine ⟨_, kitTup _, ?_⟩ | refine ⟨_, kitList _, ?_⟩ | refine ⟨_, rfl, ?_⟩ | refine ⟨_, _, rfl, ?_⟩ | fail) | fail))
def t_born (K : PySem.W.Frag) : TS :=
  (tSeq (tAsg (tIf (tTest (tOp (rIn K false) (tVar 1) (tTup (tCons (tC (.int 13)) (tCons (tC (.int 14)) tNil))))) (tCall (spS K FSto TDr) [] E0 (tCons (tVar 0) (tCons (tC (.int 6)) tNil))) (tC (.int 5))) (gName 2))
    (tSeq (tAsg (tC (.str "abcdefghijklmnopqrstuvwxyz")) (gName 3))
    (tSeq (tAsg (tM1 (rJoin K) (tC (.str "")) (tLc (iRng1 (tCons (tCall (spS K FSto TDr) [] E0 (tCons (tVar 0) (tCons (tC (.int 9)) tNil))) tNil)) (gName 6) tYes (tOp rIxS (tVar 3) (tCall (spS K FSto TDr) [] E0 (tCons (tVar 0) (tCons (tC (.int 26)) tNil)))) [6])) (gName 4))
    (tSeq (tAsg (tOp rMulI (tCall (spS K FSto TDr) [] E0 (tCons (tVar 0) (tCons (tOp (rIxL K) (tLst (tCons (tC (.int 9)) (tCons (tOp rPowI (tC (.int 10)) (tC (.int 6))) (tCons (tOp rPowI (tC (.int 10)) (tC (.int 18))) tNil)))) (tCall (spS K FSto TDr) [] E0 (tCons (tVar 0) (tCons (tC (.int 3)) tNil)))) tNil))) (tOp (rIxL K) (tLst (tCons (tC (.int 1)) (tCons (tUn rNegI (tC (.int 1))) tNil))) (tCall (spS K FSto TDr) [] E0 (tCons (tVar 0) (tCons (tC (.int 2)) tNil))))) (gName 5))
    (tRet (tOp (rIxL K) (tLst (tCons (tLst (tCons (tVar 5) tNil)) (tCons (tVar 4) (tCons (tC .non) (tCons (tC (.bl true)) (tCons (tTup (tCons (tVar 5) (tCons (tVar 4) tNil))) (tCons (tVar 5) tNil))))))) (tVar 2)))))))
def t_due (K : PySem.W.Frag) : TS :=
  (tSeq (tIfS (tOr (tTest (tOp rLt (tVar 0) (tC (.int 11)))) (tTest (tOp rEq (tVar 0) (tC (.int 12))))) (tRet (tLst (tCons (tC (.bl true)) (tCons (tC (.bl true)) (tCons (tC (.bl false)) (tCons (tC (.bl false)) (tCons (tC (.bl false)) (tCons (tC (.bl false)) (tCons (tC (.bl false)) tNil))))))))) tNext)
    (tSeq (tIfS (tTest (tOp rEq (tVar 0) (tC (.int 11)))) (tRet (tLst (tCons (tC (.bl false)) (tCons (tC (.bl false)) (tCons (tC (.bl true)) (tCons (tC (.bl false)) (tCons (tC (.bl false)) (tCons (tC (.bl false)) (tCons (tC (.bl false)) tNil))))))))) tNext)
    (tSeq (tIfS (tTest (tOp rEq (tVar 0) (tC (.int 13)))) (tRet (tLst (tCons (tC (.bl false)) (tCons (tC (.bl false)) (tCons (tC (.bl false)) (tCons (tC (.bl true)) (tCons (tC (.bl false)) (tCons (tC (.bl false)) (tCons (tC (.bl true)) tNil))))))))) tNext)
    (tSeq (tIfS (tTest (tOp rEq (tVar 0) (tC (.int 14)))) (tRet (tLst (tCons (tC (.bl false)) (tCons (tC (.bl false)) (tCons (tC (.bl false)) (tCons (tC (.bl false)) (tCons (tC (.bl true)) (tCons (tC (.bl false)) (tCons (tC (.bl true)) tNil))))))))) tNext)
    (tSeq (tIfS (tTest (tOp rEq (tVar 0) (tC (.int 15)))) (tRet (tLst (tCons (tC (.bl false)) (tCons (tC (.bl false)) (tCons (tC (.bl false)) (tCons (tC (.bl false)) (tCons (tC (.bl false)) (tCons (tC (.bl true)) (tCons (tC (.bl false)) tNil))))))))) tNext)
    (tRet (tLst (tCons (tC (.bl false)) (tCons (tC (.bl false)) (tCons (tC (.bl false)) (tCons (tC (.bl false)) (tCons (tC (.bl false)) (tCons (tC (.bl false)) (tCons (tC (.bl true)) tNil))))))))))))))
section
variable {K : PySem.W.Frag} {S : Stt} {B : Nat} {ds : List PyData}
theorem ws_due {Φ : PyData → Prop} (h : TDue ds Φ) : WS K S0 (t_due K) (rhoOf 1 ds) { nx := fun _ => Φ .none, rt := fun d _ => Φ d } := by
  obtain ⟨i, rfl, hi, h⟩ := h
  show WS K S0 (t_due K) [.dat (.int (i : Int))] _
  unfold t_due
  unfold undL at h
  walk_at "dl"
  refine if_b (fun c => ?_) (fun c => ?_)
  · walk_at "dl"
    have c2 : i < 11 := by omega
    rw [if_pos (.inl c2)] at h; exact h
  walk_at "dl"
  refine if_b (fun d => ?_) (fun d => ?_)
  · walk_at "dl"
    have d2 : i = 12 := by omega
    rw [if_pos (.inr d2)] at h; exact h
  have cd : ¬ (i < 11 ∨ i = 12) := by omega
  rw [if_neg cd] at h
  walk_at "dl"
  refine if_b (fun e => ?_) (fun e => ?_)
  · walk_at "dl"
    have e2 : i = 11 := by omega
    rw [if_pos e2] at h; exact h
  have e2 : ¬ i = 11 := by omega
  rw [if_neg e2] at h
  walk_at "dl"
  refine if_b (fun e => ?_) (fun e => ?_)
  · walk_at "dl"
    have e3 : i = 13 := by omega
    rw [if_pos e3] at h; exact h
  have e3 : ¬ i = 13 := by omega
  rw [if_neg e3] at h
  walk_at "dl"
  refine if_b (fun e => ?_) (fun e => ?_)
  · walk_at "dl"
    have e4 : i = 14 := by omega
    rw [if_pos e4] at h; exact h
  have e4 : ¬ i = 14 := by omega
  rw [if_neg e4] at h
  walk_at "dl"
  refine if_b (fun e => ?_) (fun e => ?_)
  · walk_at "dl"
    have e5 : i = 15 := by omega
    rw [if_pos e5] at h; exact h
  have e5 : ¬ i = 15 := by omega
  rw [if_neg e5] at h
  walk_at "dl"
  exact h
theorem ws_born {Φ : PyData → Nat → Prop} (hF : FSto S) (h : TBorn B ds Φ) : WS K S (t_born K) (.sto B :: rhoOf 6 ds) { nx := fun _ => False, rt := fun d ρ => ∃ B', ρ[0]? = some (.sto B') ∧ Φ d B' } := by
  obtain ⟨w, rfl, hB, hΦ⟩ := h
  show WS K S (t_born K) [.sto B, .dat (.int w), .unk, .unk, .unk, .unk, .unk] _
  unfold t_born
  have L : ∀ m : Int, m ≤ 1000000 → m ≤ 2 ^ 1899 := fun m hm => Int.le_trans hm big1899
  have rest : ∀ (B1 : Nat) (y : Int), B1 ≤ B + 400 → 0 ≤ y → y < 6 → WS K S (tSeq (tAsg (tC (.str "abcdefghijklmnopqrstuvwxyz")) (gName 3)) (
  (tSeq (tAsg (tM1 (rJoin K) (tC (.str "")) (tLc (iRng1 (tCons (tCall (spS K FSto TDr) [] E0 (tCons (tVar 0) (tCons (tC (.int 9)) tNil))) tNil)) (gName 6) tYes (tOp rIxS (tVar 3) (tCall (spS K FSto TDr) [] E0 (tCons (tVar 0) (tCons (tC (.int 26)) tNil)))) [6])) (gName 4))
    (tSeq (tAsg (tOp rMulI (tCall (spS K FSto TDr) [] E0 (tCons (tVar 0) (tCons (tOp (rIxL K) (tLst (tCons (tC (.int 9)) (tCons (tOp rPowI (tC (.int 10)) (tC (.int 6))) (tCons (tOp rPowI (tC (.int 10)) (tC (.int 18))) tNil)))) (tCall (spS K FSto TDr) [] E0 (tCons (tVar 0) (tCons (tC (.int 3)) tNil)))) tNil))) (tOp (rIxL K) (tLst (tCons (tC (.int 1)) (tCons (tUn rNegI (tC (.int 1))) tNil))) (tCall (spS K FSto TDr) [] E0 (tCons (tVar 0) (tCons (tC (.int 2)) tNil))))) (gName 5))
    (tRet (tOp (rIxL K) (tLst (tCons (tLst (tCons (tVar 5) tNil)) (tCons (tVar 4) (tCons (tC .non) (tCons (tC (.bl true)) (tCons (tTup (tCons (tVar 5) (tCons (tVar 4) tNil))) (tCons (tVar 5) tNil))))))) (tVar 2)))))
    )) [.sto B1, .dat (.int w), .dat (.int y), .unk, .unk, .unk, .unk] { nx := fun _ => False, rt := fun d ρ => ∃ B', ρ[0]? = some (.sto B') ∧ Φ d B' } := by
    intro B1 y hB1 y0 y1
    refine ws_seq (ws_asg (wd_str ?_))
    refine ws_seq (ws_asg (wd_join (wd_lc (wi_rng1 (wa_cons (wd_drawc hF rfl (by decide) (L _ (by decide)) (by omega) fun m m0 m1 => wa_nil ⟨m, rfl, by omega, by omega, ?_⟩))))))
    refine ⟨by rw [List.length_map, List.length_range, sizeLine_eq]; omega, fun j acc ρ => ∃ l : List Nat, acc = ((l.map fun c => ([c] : List Nat)).map SX.S).map PyData.str ∧ (∀ c ∈ l, Ltr c) ∧ l.length = j ∧ ρ = [.sto (B1 + 400 + 400 * j), .dat (.int w), .dat (.int y), .dat (.str "abcdefghijklmnopqrstuvwxyz"), .unk, .unk, .unk], ⟨[], rfl, by simp, rfl, rfl⟩, ?_, ?_⟩
    · rintro j d acc ρ2 hd ⟨l, rfl, hl, rfl, rfl⟩
      have hj : l.length < m.toNat := by
        have := (List.getElem?_eq_some_iff.mp hd).1
        simpa using this
      refine ⟨_, _, gd_name, fun j hj => hj, ?_⟩
      refine wt_yes ?_
      refine wd_op (wd_var rfl (wd_drawc hF rfl (by decide) (L _ (by decide)) (by omega) fun z z0 z1 => ?_))
      obtain ⟨c, hc, hL⟩ := alph_at z0 z1
      refine do_ixS (by decide +kernel) hc ?_
      refine ⟨l ++ [c], by simp, fun e he => ?_, by simp, ?_⟩
      · rcases List.mem_append.mp he with h | h
        · exact hl e h
        · have : e = c := by simpa using h
          rw [this]; exact hL
      · show _ = [Sl.sto _, _, _, _, _, _, _]
        have : B1 + 400 + 400 * l.length + 400 = B1 + 400 + 400 * (l.length + 1) := by omega
        rw [← this]; rfl
    · rintro acc ρ2 ⟨l, rfl, hl, hm, rfl⟩
      rw [List.length_map, List.length_range] at hm
      refine ⟨_, rfl, ?_, ?_⟩
      · have z0 : ("" : Str).length = 0 := by decide
        rw [z0, Nat.mul_zero, Nat.add_zero, SX.lens]
        have : ∀ l : List Nat, ((l.map fun c => ([c] : List Nat)).map (·.length)).sum = l.length := fun l => by
          induction l with
          | nil => rfl
          | cons a r ih => simp at ih ⊢; omega
        rw [this]; omega
      rw [word_of]
      have rw_ := rs_word hl (by omega)
      generalize SX.S l = z at rw_ ⊢
      generalize hB2 : B1 + 400 + 400 * ((List.range m.toNat).map fun k : Nat => PyData.int (0 + k)).length = B2
      have b2 : B2 ≤ B1 + 4000 := by
        rw [← hB2, List.length_map, List.length_range]; omega
      show WS K S _ [.sto B2, .dat (.int w), .dat (.int y), .dat (.str "abcdefghijklmnopqrstuvwxyz"), .dat (.str z), .unk, .unk] _
      walk_at "dl"
      refine wd_draw hF rfl ?_
      walk_at "dl"
      refine wd_drawc hF rfl (by decide) (L _ (by decide)) (by omega) fun a a0 a1 => ?_
      refine do_ixL_int (ns := [9, 10 ^ (6 : Int).toNat, 10 ^ (18 : Int).toNat]) (P := fun n => 1 ≤ n ∧ n ≤ 10 ^ 18) rfl a0 a1 (by decide) fun n hn => ?_
      refine ⟨n, _, rfl, rfl, hn.1, Int.le_trans hn.2 (by decide +kernel), by omega, fun b b0 b1 => ?_⟩
      walk_at "dl"
      refine wd_drawc hF rfl (by decide) (L _ (by decide)) (by omega) fun s s0 s1 => ?_
      refine do_ixL_int (ns := [1, -1]) (P := fun n => n = 1 ∨ n = -1) rfl s0 s1 (by simp) fun sg hs => ?_
      have hb : b.natAbs < 2 ^ 60 := by have := hn.2; have e : (10 : Int) ^ 18 < 2 ^ 60 := by decide
                                        omega
      walk_at "dl"
      · exact wide_mul (a := 60) (b := 2) hb (by omega) (by decide) (by decide) (by decide)
      have hn2 : (b * sg).natAbs < 2 ^ 60 := by rcases hs with rfl | rfl <;> omega
      generalize b * sg = num at hn2 ⊢
      have rn : Rs 100 1 (.int num) := (Rs.int (k := 60) (by decide) hn2 (by decide)).mono (by decide) (by decide)
      walk_at "dl"
      refine ixAll (P := Rs 200 3) y0 (by simp; omega) (fun x hx => ?_) fun z1 hz => ⟨_, rfl, hΦ _ _ (by omega) hz⟩
      have both : ∀ x ∈ [PyData.int num, .str z], Rs 90 1 x := fun x hx => by
        simp only [List.mem_cons, List.not_mem_nil, or_false] at hx
        rcases hx with rfl | rfl
        · exact (Rs.int (k := 60) (by decide) hn2 (by decide)).mono (by decide) (by decide)
        · exact rw_.mono (by decide) (by decide)
      simp only [List.mem_cons, List.not_mem_nil, or_false] at hx
      rcases hx with rfl | rfl | rfl | rfl | rfl | rfl
      · exact (Rs.lst (xs := [PyData.int num]) (n := 1) (fun x hx => both x (by rw [List.mem_singleton] at hx; rw [hx]; exact List.mem_cons_self)) (Nat.le_refl 1)).mono (by decide) (by decide)
      · exact rw_.mono (by decide) (by decide)
      · exact odd_non.r.mono (by decide) (by decide)
      · exact odd_bool.r.mono (by decide) (by decide)
      · exact (Rs.tup (n := 2) both (Nat.le_refl 2)).mono (by decide) (by decide)
      · exact rn.mono (by decide) (by decide)
  refine ws_seq (ws_asg (wd_ifE (wt_test (wd_op (wd_var rfl (wd_tup (wa_cons (wd_int (wa_cons (wd_int (wa_nil ⟨Nat.le_of_ble_eq_true rfl, do_inI (ns := [13, 14]) fun b => ⟨b, rfl, ?_⟩⟩)))))))))))
  cases b with
  | true => exact wd_drawc hF rfl (by decide) (L _ (by decide)) (by omega) fun y y0 y1 => rest _ y (by omega) y0 y1
  | false => exact wd_int (rest B 5 (by omega) (by decide) (by decide))
end
end DL

set_option Elab.async false
set_option linter.all false
/-! PM1: payments of totals, as rationals, and their sizes -/
namespace DL
abbrev P3 := Rat × Rat × Rat
def keptR (sh n d : Rat) : Rat := if n ≤ 0 then n else if sh * n < d then sh * n else d
def pstep (sh : Rat) (s : P3) (t : Rat) : P3 := (t, s.2.1 + (t - s.1 - keptR sh (t - s.1) s.2.2), s.2.2 - keptR sh (t - s.1) s.2.2)
def prow (sh : Rat) (s : P3) (t : Rat) : P3 := (t - s.1 - keptR sh (t - s.1) s.2.2, s.2.1 + (t - s.1 - keptR sh (t - s.1) s.2.2), s.2.2 - keptR sh (t - s.1) s.2.2)
def pS (sh : Rat) (ts : List Rat) : P3 := ts.foldl (pstep sh) (0, 0, 0)
def pRwF (sh : Rat) : P3 → List Rat → List P3
  | _, [] => []
  | s, t :: r => prow sh s t :: pRwF sh (pstep sh s t) r
def pRw (sh : Rat) (ts : List Rat) : List P3 := pRwF sh (0, 0, 0) ts
/-! sizes -/
/-- the common bottom of all totals -/
def dd : Nat := (List.range 1000).foldl (fun a k => Nat.lcm a (k + 1)) 1 * 988027000 ^ 4
def mm : Nat := dd * 2 ^ 21
end DL

set_option Elab.async false
set_option linter.all false
/-! PM2: what holds behind each payday; sizes -/
namespace DL
structure ShOk (R : Nat) (sh : Rat) : Prop where
  pos : 0 < sh
  le : sh ≤ 1
  r1 : 1 ≤ R
  r2 : R ≤ 1000
  dv : Dv R R sh
def Tot (t : Rat) : Prop := Dv dd mm t
structure PI (R k : Nat) (s : P3) : Prop where
  last : Tot s.1
  debt : Dv (dd * R) (2 * k * (mm * R)) s.2.2
  d0 : 0 ≤ s.2.2
  sum : s.2.1 = s.1 + s.2.2
/-- the sizes of all that a payday reckons with -/
structure PZ (sh : Rat) (s : P3) (t : Rat) : Prop where
  last : sz s.1 ≤ 1640
  all : sz s.2.1 ≤ 1640
  debt : sz s.2.2 ≤ 1640
  tot : sz t ≤ 1640
  new : sz (t - s.1) ≤ 1640
  shn : sz (sh * (t - s.1)) ≤ 1640
  now1 : sz (t - s.1 - s.2.2) ≤ 1640
  now2 : sz (t - s.1 - sh * (t - s.1)) ≤ 1640
  kept : sz (keptR sh (t - s.1) s.2.2) ≤ 1640
  now : sz (t - s.1 - keptR sh (t - s.1) s.2.2) ≤ 1640
  all2 : sz (pstep sh s t).2.1 ≤ 1640
  debt2 : sz (pstep sh s t).2.2 ≤ 1640
end DL

set_option Elab.async false
set_option linter.all false
/-! PM3: the totals that are drawn -/
namespace DL
/-- a hair -/
def Hair (q : Rat) : Prop := Dv (988027000 ^ 4) (988027000 ^ 4) q
def hair0 : Rat := Rat.divInt 1 997 * Rat.divInt 1 1000 * Rat.divInt 1 991
def hairs : Nat → Rat
  | 0 => hair0
  | j + 1 => hairs j * hairs j
end DL

set_option Elab.async false
set_option linter.all false
set_option maxRecDepth 100000
set_option maxHeartbeats 4000000
/-! PQ1: small parts, shares, totals drawn -/
namespace DL
open PySem PySem.Spec PyProof.Rows L2
def SmQ (q : Rat) : Prop := ∃ (n : Int) (d : Nat), q = Rat.divInt n d ∧ 1 ≤ d ∧ d ≤ 1000 ∧ n.natAbs ≤ 1000000
def TSmallQ : Nat → List PyData → (PyData → Nat → Prop) → Prop := fun B ds Φ => ds = [] ∧ B + 3200 ≤ 2 ^ 40 ∧ ∀ q, SmQ q → Φ (qp q) (B + 3200)
def TShareQ : Nat → List PyData → (PyData → Nat → Prop) → Prop := fun B ds Φ => ds = [] ∧ B + 1600 ≤ 2 ^ 40 ∧ ∀ R q, ShOk R q → Φ (qp q) (B + 1600)
def TTotals : Nat → List PyData → (PyData → Nat → Prop) → Prop := fun B ds Φ => ∃ most : Int, ds = [.int most] ∧ 1 ≤ most ∧ most ≤ 120 ∧ B + 1000000 ≤ 2 ^ 40 ∧ ∀ (ts : List Rat) (B' : Nat), (ts.length : Int) ≤ 120 → (∀ t ∈ ts, Tot t) → B' ≤ B + 1000000 → Φ (.list (ts.map qp)) B'
def negA (q : Rat) : Rat := if 0 ≤ q.num then -q else q
theorem fgt_set {ρ : Rho} {i : Nat} : Fgt ρ (ρ.set i .unk) := ⟨List.length_set, fun j s h => by
  rcases get_set h with ⟨_, e⟩ | ⟨_, e⟩
  · exact .inl e
  · exact .inr e⟩
theorem fgt_wipe {ρ : Rho} : ∀ vs : List Nat, Fgt ρ (wipeR ρ vs)
  | [] => Fgt.refl
  | v :: vs => by
    obtain ⟨l, f⟩ := fgt_wipe (ρ := ρ) vs
    obtain ⟨l2, f2⟩ := fgt_set (ρ := wipeR ρ vs) (i := v)
    refine ⟨l2.trans l, fun i s h => ?_⟩
    rcases f2 i s h with e | e
    · exact .inl e
    · exact f i s e
theorem ws_wipe {K : PySem.W.Frag} {S : Stt} {ρ : Rho} {ts : TS} {En : DE} (vs : List Nat) (h : WS K S ts (wipeR ρ vs) En) : WS K S ts ρ En := ws_fgt (fgt_wipe vs) h
local macro_rules | `(tactic| walk_at "dl") => `(tactic| repeat' (first
  | with_reducible refine wd_isTy ?_ | with_reducible refine wd_isi ?_ | ((with_reducible show WD _ _ (tOp (rIxL _) (tVar _) _) _ _); refine wd_ix_own rfl ?_) | with_reducible refine wd_op ?_ | ((with_reducible show WD _ _ (tCB (rLenX _) (tCons (tVar _) tNil)) _ _); refine wd_len_scr rfl ?_) | ((with_reducible show WD _ _ (tCB (rLenX _) (tCons (tVar _) tNil)) _ _); refine wd_len_own rfl ?_) | with_reducible refine wd_cb ?_ | with_reducible refine wd_un ?_ | with_reducible refine wa_cons ?_ | with_reducible refine wa_nil ?_ | ((with_reducible show WD _ _ (tVar _) _ _); refine wd_var rfl ?_) | with_reducible refine wd_int ?_ | with_reducible refine wd_bl ?_ | with_reducible refine wd_str ?_ | with_reducible refine wd_non ?_
  | with_reducible refine do_nesS ?_ | with_reducible refine dc_intB ?_ | with_reducible refine do_add ?_ | with_reducible refine do_sub ?_ | ((with_reducible refine do_mod ?_ ?_); decide) | with_reducible refine do_mod ?_ ?_ | with_reducible refine do_mul ?_ ?_ | ((with_reducible refine do_div ?_ ?_); exact ⟨by decide, by decide⟩) | with_reducible refine do_div ?_ ?_ | ((with_reducible refine do_pow ?_ ?_); exact ⟨by decide, by decide, by decide⟩) | with_reducible refine do_pow ?_ ?_
  | with_reducible refine do_lt ?_ | with_reducible refine do_le ?_ | with_reducible refine do_gt ?_ | with_reducible refine do_ge ?_ | with_reducible refine du_neg ?_
  | with_reducible refine do_eqi ?_ | with_reducible refine do_nei ?_ | with_reducible refine do_eqs ?_ | with_reducible refine do_nes ?_ | with_reducible refine dc_abs ?_ | with_reducible refine dc_min ?_ | with_reducible refine dc_max ?_ | with_reducible refine dc_lenL ?_ | with_reducible refine dc_lenT ?_ | with_reducible refine dc_lenR ?_ | with_reducible refine dc_listT ?_ | with_reducible refine dc_listL ?_ | with_reducible refine dc_tupL ?_ | with_reducible refine dc_gcd ?_
  | ((with_reducible show DO _ (rIxT _) _ _ _); refine do_ixT rfl ?_) | ((with_reducible show DO _ (rIxL _) _ _ _); refine do_ixL rfl ?_) | ((with_reducible refine do_catL ?_ ?_); exact Nat.le_of_ble_eq_true rfl) | with_reducible refine do_catL ?_ ?_ | ((with_reducible show And (List.length _ ≤ sizeLine) _); refine ⟨Nat.le_of_ble_eq_true rfl, ?_⟩)
  | with_reducible refine wd_dnew ?_ | with_reducible refine wd_call0 ?_ | with_reducible refine wd_slA ?_ | with_reducible refine wd_slL ?_ | with_reducible refine wd_revT ?_ | with_reducible refine do_catA ?_ ?_ | with_reducible refine wo_part ?_ | with_reducible refine wo_none ?_ | with_reducible refine do_eqQ ?_ | with_reducible refine do_neQ ?_ | with_reducible refine wi_enumT ?_ | with_reducible refine wi_enumD ?_ | with_reducible refine tAdQ (by omega) (by omega) ?_ | with_reducible refine tSbQ (by omega) (by omega) ?_ | with_reducible refine tMlQ (by omega) (by omega) ?_ | with_reducible refine tDvQ (by assumption) (by omega) (by omega) ?_ | with_reducible refine tLtQ (by omega) (by omega) ?_ | with_reducible refine dc_str ?_ ?_ | with_reducible refine wd_tup ?_ | with_reducible refine wd_lst ?_ | with_reducible refine wt_test ?_ | with_reducible refine wt_B ?_ | with_reducible refine wt_not ?_ | with_reducible refine wt_and ?_ | with_reducible refine wt_or ?_ | with_reducible refine wd_ifE ?_ | with_reducible refine wd_andV ?_ | with_reducible refine wd_orV ?_ | with_reducible refine wd_notV ?_
  | with_reducible refine ws_seq ?_ | with_reducible refine ws_next ?_ | with_reducible refine ws_asg ?_ | with_reducible refine ws_ret ?_ | with_reducible refine ws_retN ?_ | with_reducible refine ws_if ?_ | with_reducible refine ws_par ?_ | with_reducible refine ws_unp2 ?_
  | with_reducible refine if_t ?_ | with_reducible refine if_f ?_ | with_reducible refine if_nf ?_ | with_reducible refine if_nt ?_
  | ((with_reducible show Exists _); first | refine ⟨_, kitInt _, ?_⟩ | refine ⟨_, kitBool _, ?_⟩ | refine ⟨_, kitTup _, ?_⟩ | refine ⟨_, kitList _, ?_⟩ | refine ⟨_, rfl, ?_⟩ | refine ⟨_, _, rfl, ?_⟩ | fail) | fail))
def t_smallq (K : PySem.W.Frag) : TS :=
  (tSeq (tAsg (tCall (spS K FSto TDr) [] E0 (tCons (tVar 0) (tCons (tC (.int 6)) tNil))) (gName 1))
    (tSeq (tAsg (tOp (rIxL K) (tLst (tCons (tC (.int 1)) (tCons (tC (.int 1)) (tCons (tC (.int 2)) (tCons (tC (.int 3)) (tCons (tC (.int 4)) (tCons (tC (.int 12)) (tCons (tC (.int 97)) (tCons (tC (.int 101)) (tCons (tC (.int 997)) (tCons (tC (.int 1000)) (tCons (tOp rAddI (tC (.int 1)) (tCall (spS K FSto TDr) [] E0 (tCons (tVar 0) (tCons (tC (.int 1000)) tNil)))) tNil)))))))))))) (tCall (spS K FSto TDr) [] E0 (tCons (tVar 0) (tCons (tC (.int 11)) tNil)))) (gName 2))
    (tSeq (tAsg (tLst (tCons (tC (.int 0)) (tCons (tC (.int 1)) (tCons (tOp rAddI (tC (.int 1)) (tCall (spS K FSto TDr) [] E0 (tCons (tVar 0) (tCons (tC (.int 9)) tNil)))) (tCons (tCall (spS K FSto TDr) [] E0 (tCons (tVar 0) (tCons (tC (.int 1000)) tNil))) (tCons (tOp rSubI (tOp rPowI (tC (.int 10)) (tC (.int 6))) (tCall (spS K FSto TDr) [] E0 (tCons (tVar 0) (tCons (tC (.int 3)) tNil)))) tNil)))))) (gName 3))
    (tSeq (tAsg (tOp (rIxL K) (tOp rCatL (tVar 3) (tLst (tCons (tCall (spS K FSto TDr) [] E0 (tCons (tVar 0) (tCons (tOp rPowI (tC (.int 10)) (tC (.int 6))) tNil))) tNil))) (tVar 1)) (gName 3))
    (tRet (tCall (spP K TLow) [] E0 (tCons (tOp rMulI (tVar 3) (tOp (rIxL K) (tLst (tCons (tC (.int 1)) (tCons (tUn rNegI (tC (.int 1))) tNil))) (tCall (spS K FSto TDr) [] E0 (tCons (tVar 0) (tCons (tC (.int 2)) tNil))))) (tCons (tVar 2) tNil))))))))
def t_shareq (K : PySem.W.Frag) : TS :=
  (tSeq (tAsg (tOp (rIxL K) (tLst (tCons (tC (.int 1)) (tCons (tC (.int 2)) (tCons (tC (.int 3)) (tCons (tC (.int 10)) (tCons (tC (.int 97)) (tCons (tC (.int 997)) (tCons (tOp rAddI (tC (.int 1)) (tCall (spS K FSto TDr) [] E0 (tCons (tVar 0) (tCons (tC (.int 1000)) tNil)))) tNil)))))))) (tCall (spS K FSto TDr) [] E0 (tCons (tVar 0) (tCons (tC (.int 7)) tNil)))) (gName 1))
    (tRet (tCall (spP K TLow) [] E0 (tCons (tOp rSubI (tVar 1) (tOp rMulI (tCall (spS K FSto TDr) [] E0 (tCons (tVar 0) (tCons (tVar 1) tNil))) (tCall (spS K FSto TDr) [] E0 (tCons (tVar 0) (tCons (tC (.int 2)) tNil))))) (tCons (tVar 1) tNil)))))
def t_totals (K : PySem.W.Frag) : TS :=
  (tSeq (tAsg (tCall (spS K FSto TDr) [] E0 (tCons (tVar 0) (tCons (tC (.int 6)) tNil))) (gName 2))
    (tSeq (tAsg (tOp (rIxL K) (tLst (tCons (tC (.int 3)) (tCons (tC (.int 8)) (tCons (tVar 1) tNil)))) (tCall (spS K FSto TDr) [] E0 (tCons (tVar 0) (tCons (tC (.int 3)) tNil)))) (gName 3))
    (tSeq (tAsg (tCall (spP K TMlQ) [] E0 (tCons (tCall (spP K TMlQ) [] E0 (tCons (tTup (tCons (tC (.int 1)) (tCons (tC (.int 997)) tNil))) (tCons (tTup (tCons (tC (.int 1)) (tCons (tC (.int 1000)) tNil))) tNil))) (tCons (tTup (tCons (tC (.int 1)) (tCons (tC (.int 991)) tNil))) tNil))) (gName 4))
    (tSeq (tFor (iRng1 (tCons (tCall (spS K FSto TDr) [] E0 (tCons (tVar 0) (tCons (tC (.int 3)) tNil))) tNil)) (gName 5) (tAsg (tCall (spP K TMlQ) [] E0 (tCons (tVar 4) (tCons (tVar 4) tNil))) (gName 4)))
    (tSeq (tAsg (tOp (rIxL K) (tLst (tCons (tC (.int 1)) (tCons (tC (.int 1)) (tCons (tC (.int 2)) (tCons (tC (.int 3)) (tCons (tC (.int 12)) (tCons (tC (.int 97)) (tCons (tC (.int 1000)) tNil)))))))) (tCall (spS K FSto TDr) [] E0 (tCons (tVar 0) (tCons (tC (.int 7)) tNil)))) (gName 6))
    (tSeq (tAsg (tLst tNil) (gName 7))
    (tSeq (tAsg (tOp rSubI (tCall (spS K FSto TDr) [] E0 (tCons (tVar 0) (tCons (tC (.int 2000)) tNil))) (tC (.int 1000))) (gName 8))
    (tSeq (tFor (iRng1 (tCons (tCall (spS K FSto TDr) [] E0 (tCons (tVar 0) (tCons (tOp rAddI (tVar 3) (tC (.int 1))) tNil))) tNil)) (gName 9) (tSeq (tAsg (tCall (spS K FSto TDr) [] E0 (tCons (tVar 0) (tCons (tOp (rIxL K) (tLst (tCons (tC (.int 3)) (tCons (tC (.int 50)) (tCons (tC (.int 20000)) tNil)))) (tCall (spS K FSto TDr) [] E0 (tCons (tVar 0) (tCons (tC (.int 3)) tNil)))) tNil))) (gName 10))
    (tSeq (tAsg (tOp rAddI (tVar 8) (tOp (rIxL K) (tLst (tCons (tOp rSubI (tVar 10) (tC (.int 10))) (tCons (tVar 10) (tCons (tOp rSubI (tC (.int 0)) (tVar 10)) (tCons (tOp rMulI (tVar 10) (tOp rSubI (tC (.int 1)) (tOp rMulI (tC (.int 2)) (tOp rModI (tVar 9) (tC (.int 2)))))) (tCons (tC (.int 0)) (tCons (tVar 10) tNil))))))) (tVar 2))) (gName 8))
    (tSeq (tAsg (tCB rMaxX (tCons (tUn rNegI (tOp rPowI (tC (.int 10)) (tC (.int 6)))) (tCons (tCB rMinX (tCons (tOp rPowI (tC (.int 10)) (tC (.int 6))) (tCons (tVar 8) tNil))) tNil))) (gName 8))
    (tSeq (tAsg (tCall (spP K TLow) [] E0 (tCons (tVar 8) (tCons (tVar 6) tNil))) (gName 11))
    (tSeq (tIfS (tAnd (tTest (tOp rEq (tVar 2) (tC (.int 0)))) (tTest (tOp rEq (tCall (spS K FSto TDr) [] E0 (tCons (tVar 0) (tCons (tC (.int 3)) tNil))) (tC (.int 0))))) (tAsg (tCall (spS K FSto TSmallQ) [] E0 (tCons (tVar 0) tNil)) (gName 11)) tNext)
    (tSeq (tIfS (tTest (tOp rEq (tVar 2) (tC (.int 5)))) (tAsg (tTup (tCons (tOp rSubI (tC (.int 0)) (tCB rAbsX (tCons (tOp (rIxT K) (tVar 11) (tC (.int 0))) tNil))) (tCons (tOp (rIxT K) (tVar 11) (tC (.int 1))) tNil))) (gName 11)) tNext)
    (tSeq (tIfS (tTest (tOp rEq (tCall (spS K FSto TDr) [] E0 (tCons (tVar 0) (tCons (tC (.int 4)) tNil))) (tC (.int 0)))) (tAsg (tCall (spP K TAdQ) [] E0 (tCons (tVar 11) (tCons (tCall (spP K TMlQ) [] E0 (tCons (tVar 4) (tCons (tTup (tCons (tOp rSubI (tCall (spS K FSto TDr) [] E0 (tCons (tVar 0) (tCons (tC (.int 9)) tNil))) (tC (.int 4))) (tCons (tC (.int 1)) tNil))) tNil))) tNil))) (gName 11)) tNext)
    (tDrop (tBM K "list" rAppend (tVar 7) (tCons (tVar 11) tNil)))))))))))
    (tRet (tVar 7))))))))))
def t_tot3 (K : PySem.W.Frag) : TS :=
  (tSeq (tIfS (tTest (tOp rEq (tCall (spS K FSto TDr) [] E0 (tCons (tVar 0) (tCons (tC (.int 4)) tNil))) (tC (.int 0)))) (tAsg (tCall (spP K TAdQ) [] E0 (tCons (tVar 11) (tCons (tCall (spP K TMlQ) [] E0 (tCons (tVar 4) (tCons (tTup (tCons (tOp rSubI (tCall (spS K FSto TDr) [] E0 (tCons (tVar 0) (tCons (tC (.int 9)) tNil))) (tC (.int 4))) (tCons (tC (.int 1)) tNil))) tNil))) tNil))) (gName 11)) tNext)
    (tDrop (tBM K "list" rAppend (tVar 7) (tCons (tVar 11) tNil))))
def t_tot2 (K : PySem.W.Frag) : TS :=
  (tSeq (tIfS (tTest (tOp rEq (tVar 2) (tC (.int 5)))) (tAsg (tTup (tCons (tOp rSubI (tC (.int 0)) (tCB rAbsX (tCons (tOp (rIxT K) (tVar 11) (tC (.int 0))) tNil))) (tCons (tOp (rIxT K) (tVar 11) (tC (.int 1))) tNil))) (gName 11)) tNext)
    (tSeq (tIfS (tTest (tOp rEq (tCall (spS K FSto TDr) [] E0 (tCons (tVar 0) (tCons (tC (.int 4)) tNil))) (tC (.int 0)))) (tAsg (tCall (spP K TAdQ) [] E0 (tCons (tVar 11) (tCons (tCall (spP K TMlQ) [] E0 (tCons (tVar 4) (tCons (tTup (tCons (tOp rSubI (tCall (spS K FSto TDr) [] E0 (tCons (tVar 0) (tCons (tC (.int 9)) tNil))) (tC (.int 4))) (tCons (tC (.int 1)) tNil))) tNil))) tNil))) (gName 11)) tNext)
    (tDrop (tBM K "list" rAppend (tVar 7) (tCons (tVar 11) tNil)))))
def t_tot1 (K : PySem.W.Frag) : TS :=
  (tSeq (tIfS (tAnd (tTest (tOp rEq (tVar 2) (tC (.int 0)))) (tTest (tOp rEq (tCall (spS K FSto TDr) [] E0 (tCons (tVar 0) (tCons (tC (.int 3)) tNil))) (tC (.int 0))))) (tAsg (tCall (spS K FSto TSmallQ) [] E0 (tCons (tVar 0) tNil)) (gName 11)) tNext)
    (tSeq (tIfS (tTest (tOp rEq (tVar 2) (tC (.int 5)))) (tAsg (tTup (tCons (tOp rSubI (tC (.int 0)) (tCB rAbsX (tCons (tOp (rIxT K) (tVar 11) (tC (.int 0))) tNil))) (tCons (tOp (rIxT K) (tVar 11) (tC (.int 1))) tNil))) (gName 11)) tNext)
    (tSeq (tIfS (tTest (tOp rEq (tCall (spS K FSto TDr) [] E0 (tCons (tVar 0) (tCons (tC (.int 4)) tNil))) (tC (.int 0)))) (tAsg (tCall (spP K TAdQ) [] E0 (tCons (tVar 11) (tCons (tCall (spP K TMlQ) [] E0 (tCons (tVar 4) (tCons (tTup (tCons (tOp rSubI (tCall (spS K FSto TDr) [] E0 (tCons (tVar 0) (tCons (tC (.int 9)) tNil))) (tC (.int 4))) (tCons (tC (.int 1)) tNil))) tNil))) tNil))) (gName 11)) tNext)
    (tDrop (tBM K "list" rAppend (tVar 7) (tCons (tVar 11) tNil))))))
section
variable {K : PySem.W.Frag} {S : Stt}
end
end DL

set_option Elab.async false
set_option linter.all false
set_option maxRecDepth 100000
set_option maxHeartbeats 4000000
/-! ER7: refused and caught; law k01 -/
namespace DL
open PySem PySem.Spec PyProof.Rows L2
/-- refused, caught, told on -/
def spCa (A : Nat → Addr) : Sp := fun vs H Q _ => ∃ (i : Nat) (v : V), vs = [.int (i : Int), v] ∧ i < 17 ∧
  ∀ a d H1, H a = none → Same H H1 → KeptE H1 a (A i) d → (∀ dd, d = some dd → H dd = none) → (12 ≤ i → ∃ dd, d = some dd ∧ H dd = none ∧ H1 dd = some (.xd [(fldN i, v)])) → Q (.ref a) H1
def ts_ca (a : Addr) : TS := tAsg (tVar 3) (gName 2)
def tb_ca (A : Nat → Addr) (W : WX) : TS := tIfS (tTest (tOp rLt (tVar 0) (tC (.int 12)))) (tDrop (tCallS (spPl A) (WE W) (tCons (tVar 0) (tCons (tVar 1) tNil)))) (tDrop (tCallS (spBr A) (WE W) (tCons (tVar 0) (tCons (tVar 1) tNil))))
def t_ca (K : PySem.W.Frag) (A : Nat → Addr) (P : Addr) : TS :=
  (tSeq (tAsg (tC .non) (gName 2))
    (tSeq (fun D σ H => tb_ca A (wKeepT K (clauseV A P) 3 ts_ca D) D σ H)
    (tRet (tVar 2))))
theorem run_ca {K : PySem.W.Frag} {A : Nat → Addr} {P : Addr} (W : W01 K A P) {vs : List V} {H : Hp} {Q : VK} {E : XK} (h : spCa A vs H Q E) : t_ca K A P { nx := fun _ H' => Q .non H', rt := Q } (L2.start ["which", "thing", "caught", "error"] vs) H := by
  obtain ⟨i, v, rfl, hi, hQ⟩ := h
  refine ⟨_, rfl, (i : Int), 12, rfl, rfl, decide ((i : Int) < 12), rfl, ?_⟩
  by_cases c : (i : Int) < 12
  · rw [decide_eq_true c]
    refine ⟨_, rfl, _, rfl, i, v, rfl, by omega, W.ea i hi, W.eh i hi, fun a hn => ⟨_, rfl, ?_⟩⟩
    refine ⟨_, rfl, hQ a none _ hn (same_new hn _) ⟨upd_same, fun dd e => ?_⟩ (fun dd e => ?_) (fun h => ?_)⟩
    · cases e
    · cases e
    · omega
  · rw [decide_eq_false c]
    refine ⟨_, rfl, _, rfl, i, v, rfl, by omega, hi, fun d H1 hd sm hx => ⟨W.ea i hi, W.eh i hi, fun a hn => ⟨_, rfl, ?_⟩⟩⟩
    have hn0 : H a = none := by
      cases e : H a with
      | none => rfl
      | some o => rw [sm _ _ e] at hn; cases hn
    have ne : d ≠ a := fun z => by rw [z, hn] at hx; cases hx
    refine ⟨_, rfl, hQ a (some d) _ hn0 (sm.trans (same_new hn _)) ⟨upd_same, fun dd e => ?_⟩ (fun dd e => ?_) (fun _ => ⟨d, rfl, hd, ?_⟩)⟩
    · cases e
      exact ⟨_, by rw [upd_ne ne]; exact hx⟩
    · cases e; exact hd
    · rw [upd_ne ne]; exact hx
local macro_rules | `(tactic| walk_at "dl") => `(tactic| repeat' (first
  | with_reducible refine wd_isTy ?_ | with_reducible refine wd_isi ?_ | ((with_reducible show WD _ _ (tOp (rIxL _) (tVar _) _) _ _); refine wd_ix_own rfl ?_) | with_reducible refine wd_op ?_ | ((with_reducible show WD _ _ (tCB (rLenX _) (tCons (tVar _) tNil)) _ _); refine wd_len_scr rfl ?_) | ((with_reducible show WD _ _ (tCB (rLenX _) (tCons (tVar _) tNil)) _ _); refine wd_len_own rfl ?_) | with_reducible refine wd_cb ?_ | with_reducible refine wd_un ?_ | with_reducible refine wa_cons ?_ | with_reducible refine wa_nil ?_ | ((with_reducible show WD _ _ (tVar _) _ _); refine wd_var rfl ?_) | with_reducible refine wd_int ?_ | with_reducible refine wd_bl ?_ | with_reducible refine wd_str ?_ | with_reducible refine wd_non ?_
  | with_reducible refine do_nesS ?_ | with_reducible refine dc_intB ?_ | with_reducible refine do_add ?_ | with_reducible refine do_sub ?_ | ((with_reducible refine do_mod ?_ ?_); decide) | with_reducible refine do_mod ?_ ?_ | with_reducible refine do_mul ?_ ?_ | ((with_reducible refine do_div ?_ ?_); exact ⟨by decide, by decide⟩) | with_reducible refine do_div ?_ ?_ | ((with_reducible refine do_pow ?_ ?_); exact ⟨by decide, by decide, by decide⟩) | with_reducible refine do_pow ?_ ?_
  | with_reducible refine do_lt ?_ | with_reducible refine do_le ?_ | with_reducible refine do_gt ?_ | with_reducible refine do_ge ?_ | with_reducible refine du_neg ?_
  | with_reducible refine do_eqi ?_ | with_reducible refine do_nei ?_ | with_reducible refine do_eqs ?_ | with_reducible refine do_nes ?_ | with_reducible refine dc_abs ?_ | with_reducible refine dc_min ?_ | with_reducible refine dc_max ?_ | with_reducible refine dc_lenL ?_ | with_reducible refine dc_lenT ?_ | with_reducible refine dc_lenR ?_ | with_reducible refine dc_listT ?_ | with_reducible refine dc_listL ?_ | with_reducible refine dc_tupL ?_ | with_reducible refine dc_gcd ?_
  | ((with_reducible show DO _ (rIxT _) _ _ _); refine do_ixT rfl ?_) | ((with_reducible show DO _ (rIxL _) _ _ _); refine do_ixL rfl ?_) | ((with_reducible refine do_catL ?_ ?_); exact Nat.le_of_ble_eq_true rfl) | with_reducible refine do_catL ?_ ?_ | ((with_reducible show And (List.length _ ≤ sizeLine) _); refine ⟨Nat.le_of_ble_eq_true rfl, ?_⟩)
  | with_reducible refine wd_dnew ?_ | with_reducible refine wd_call0 ?_ | with_reducible refine wd_slA ?_ | with_reducible refine wd_slL ?_ | with_reducible refine wd_revT ?_ | with_reducible refine do_catA ?_ ?_ | with_reducible refine wo_part ?_ | with_reducible refine wo_none ?_ | with_reducible refine do_eqQ ?_ | with_reducible refine do_neQ ?_ | with_reducible refine wi_enumT ?_ | with_reducible refine wi_enumD ?_ | with_reducible refine tAdQ (by omega) (by omega) ?_ | with_reducible refine tSbQ (by omega) (by omega) ?_ | with_reducible refine tMlQ (by omega) (by omega) ?_ | with_reducible refine tDvQ (by assumption) (by omega) (by omega) ?_ | with_reducible refine tLtQ (by omega) (by omega) ?_ | with_reducible refine dc_str ?_ ?_ | with_reducible refine wd_tup ?_ | with_reducible refine wd_lst ?_ | with_reducible refine wt_test ?_ | with_reducible refine wt_B ?_ | with_reducible refine wt_not ?_ | with_reducible refine wt_and ?_ | with_reducible refine wt_or ?_ | with_reducible refine wd_ifE ?_ | with_reducible refine wd_andV ?_ | with_reducible refine wd_orV ?_ | with_reducible refine wd_notV ?_
  | with_reducible refine ws_seq ?_ | with_reducible refine ws_next ?_ | with_reducible refine ws_asg ?_ | with_reducible refine ws_ret ?_ | with_reducible refine ws_retN ?_ | with_reducible refine ws_if ?_ | with_reducible refine ws_par ?_ | with_reducible refine ws_unp2 ?_
  | with_reducible refine if_t ?_ | with_reducible refine if_f ?_ | with_reducible refine if_nf ?_ | with_reducible refine if_nt ?_
  | ((with_reducible show Exists _); first | refine ⟨_, kitInt _, ?_⟩ | refine ⟨_, kitBool _, ?_⟩ | refine ⟨_, kitTup _, ?_⟩ | refine ⟨_, kitList _, ?_⟩ | refine ⟨_, rfl, ?_⟩ | refine ⟨_, _, rfl, ?_⟩ | fail) | fail))
/-- the body of the law's loop, behind what is drawn -/
def t_look (K : PySem.W.Frag) (A : Nat → Addr) : TS :=
  (tSeq (tAsg (tCall (spCa A) [] E0 (tCons (tVar 3) (tCons (tIf (tTest (tOp rLt (tVar 3) (tC (.int 12)))) (tVar 5) (tVar 4)) tNil))) (gName 6))
    (tSeq (tIfS (tOr (tTest (tOp (rNeD K) (tCall (spKi A) [] E0 (tCons (tVar 6) tNil)) (tLc (iRng1 (tCons (tC (.int 17)) tNil)) (gName 7) tYes (tOp rEq (tVar 7) (tVar 3)) [7]))) (tTest (tOp (rNeD K) (tCall (spUn A) [] E0 (tCons (tVar 6) tNil)) (tCall (spP K TDue) [] E0 (tCons (tVar 3) tNil))))) (tRet (tC (.bl false))) tNext)
    (tIfS (tAnd (tTest (tOp rGt (tVar 3) (tC (.int 11)))) (tTest (tOp rNe (tCB (rReprY K) (tCons (tCall (spBo A) [] E0 (tCons (tVar 3) (tCons (tVar 6) tNil))) tNil)) (tCB (rReprY K) (tCons (tVar 4) tNil))))) (tRet (tC (.bl false))) tNext)))
def t_look2 (K : PySem.W.Frag) (A : Nat → Addr) : TS :=
  (tSeq (tIfS (tOr (tTest (tOp (rNeD K) (tCall (spKi A) [] E0 (tCons (tVar 6) tNil)) (tLc (iRng1 (tCons (tC (.int 17)) tNil)) (gName 7) tYes (tOp rEq (tVar 7) (tVar 3)) [7]))) (tTest (tOp (rNeD K) (tCall (spUn A) [] E0 (tCons (tVar 6) tNil)) (tCall (spP K TDue) [] E0 (tCons (tVar 3) tNil))))) (tRet (tC (.bl false))) tNext)
    (tIfS (tAnd (tTest (tOp rGt (tVar 3) (tC (.int 11)))) (tTest (tOp rNe (tCB (rReprY K) (tCons (tCall (spBo A) [] E0 (tCons (tVar 3) (tCons (tVar 6) tNil))) tNil)) (tCB (rReprY K) (tCons (tVar 4) tNil))))) (tRet (tC (.bl false))) tNext))
section
variable {K : PySem.W.Frag} {S : Stt} {A : Nat → Addr} {P : Addr}
theorem bools_dq {N : Av} {H : Hp} {ls : List Bool} : DqAll K N H (ls.map V.bl) (ls.map PyData.bool) := by
  induction ls with
  | nil => exact .nil
  | cons a r ih => exact .cons (Dt.bl a) ih
theorem sh_bools (ls : List Bool) : Sh 1 (.list (ls.map PyData.bool)) := Sh.lst fun x hx => by
  obtain ⟨b, _, rfl⟩ := List.mem_map.mp hx
  exact Sh.bool
theorem ws_look (W : W01 K A P) {s0 s1 s2 s6 s7 : Sl} {i : Nat} {d : PyData} {z : Str} {Rt : PyData → Rho → Prop} (hi : i < 17) (hd : Rs 200 3 d) :
    WS K S (t_look K A) [s0, s1, s2, .dat (.int (i : Int)), .dat d, .dat (.str z), s6, s7] { nx := fun ρ => ρ = [s0, s1, s2, .dat (.int (i : Int)), .dat d, .dat (.str z), .unk, .unk], rt := Rt } := by
  intro H0 N0 Z N σ H D E M
  obtain ⟨v3, e3, q3⟩ := E.slot 3 _ rfl
  obtain ⟨v4, e4, q4⟩ := E.slot 4 _ rfl
  obtain ⟨v5, e5, q5⟩ := E.slot 5 _ rfl
  cases q3
  have len : σ.length = 8 := by rw [← E.len]; rfl
  have go : ∀ v : V, (12 ≤ i → v = v4) → ∀ a dd H1, H a = none → Same H H1 → KeptE H1 a (A i) dd → (∀ x, dd = some x → H x = none) → (12 ≤ i → ∃ x, dd = some x ∧ H x = none ∧ H1 x = some (.xd [(fldN i, v)])) → t_look2 K A D (σ.set 6 (some (.ref a))) H1 := by
    intro v hv a dd H1 na sm kp fd bear
    have n0 : ∀ b, H b = none → N b = false := fun b hb => by
      cases e : N b with
      | false => rfl
      | true => exact absurd hb (E.trk b e)
    have E1 : EnvD K S H0 N0 Z N (σ.set 6 (some (.ref a))) H1 [s0, s1, s2, .dat (.int (i : Int)), .dat d, .dat (.str z), .unk, s7] := (E.ext sm).unset (i := 6) (u := some (.ref a))
    have h6 : (σ.set 6 (some (V.ref a)))[6]? = some (some (V.ref a)) := set_eq (by omega)
    have h3 : (σ.set 6 (some (V.ref a)))[3]? = some (some (V.int (i : Int))) := (set_ne (by decide)).trans e3
    have h4 : (σ.set 6 (some (V.ref a)))[4]? = some (some v4) := (set_ne (by decide)).trans e4
    have kpK : ∀ {G G' : Hp}, KeptE G a (A i) dd → Keep N G G' → KeptE G' a (A i) dd := fun kp k => ⟨k _ _ (n0 a na) kp.1, fun x e => by
      obtain ⟨fs, hf⟩ := kp.2 x e
      exact ⟨fs, k _ _ (n0 x (fd x e)) hf⟩⟩
    generalize hσ : σ.set 6 (some (V.ref a)) = σ1 at E1 h6 h3 h4 ⊢
    have d4 : Dq K N H1 v4 d := q4.keep (Keep.of sm)
    unfold t_look2
    -- its kind
    refine ⟨_, h6, a, dd, i, rfl, hi, kp, fun p H2 hp sm2 hp2 => ?_⟩
    have np : N p = false := by
      cases e : N p with
      | false => rfl
      | true => exact absurd hp (E1.trk p e)
    have wl : WD K S (tLc (iRng1 (tCons (tC (.int 17)) tNil)) (gName 7) tYes (tOp rEq (tVar 7) (tVar 3)) [7]) [s0, s1, s2, .dat (.int (i : Int)), .dat d, .dat (.str z), .unk, s7]
        fun y ρ2 => y = .list (((List.range 17).map fun j => decide (i = j)).map PyData.bool) ∧ ρ2 = [s0, s1, s2, .dat (.int (i : Int)), .dat d, .dat (.str z), .unk, .unk] := by
      refine wd_lc (wi_rng1 (wa_cons (wd_int (wa_nil ⟨17, rfl, by decide, by decide, ?_⟩))))
      refine ⟨by rw [List.length_map, List.length_range, sizeLine_eq]; decide, fun j acc ρ => acc = (((List.range j).map fun j => decide (i = j)).map PyData.bool) ∧ ρ = [s0, s1, s2, .dat (.int (i : Int)), .dat d, .dat (.str z), .unk, .unk], ⟨rfl, rfl⟩, ?_, ?_⟩
      · rintro j y acc ρ2 hy ⟨rfl, rfl⟩
        have hy2 : y = .int (0 + (j : Int)) := by
          rw [List.getElem?_map] at hy
          obtain ⟨k, hk, rfl⟩ := Option.map_eq_some_iff.mp hy
          have hj := (List.getElem?_eq_some_iff.mp hk).1
          have e := (List.getElem?_eq_some_iff.mp hk).2
          rw [List.getElem_range] at e
          rw [← e]
        subst hy2
        refine ⟨_, _, gd_name, fun j hj => hj, ?_⟩
        refine wt_yes ?_
        refine wd_op (wd_var rfl (wd_var rfl (do_eqi ⟨?_, rfl⟩)))
        rw [List.range_succ, List.map_append, List.map_append]
        congr 1
        have : decide ((0 : Int) + (j : Int) = (i : Int)) = decide (i = j) := by
          by_cases c : i = j
          · rw [decide_eq_true c, decide_eq_true (by omega)]
          · rw [decide_eq_false c, decide_eq_false (by omega)]
        rw [this]; rfl
      · rintro acc ρ2 ⟨rfl, rfl⟩
        rw [List.length_map, List.length_range]
        exact ⟨rfl, rfl⟩
    refine wl H0 N0 Z N σ1 H2 (E1.ext sm2) _ fun y yd ρ2 H3 ⟨ed, eρ⟩ E3 k3 d3 => ?_
    subst ed eρ
    have dp : Dq K N H3 (.ref p) (.list (((List.range 17).map fun j => decide (i = j)).map PyData.bool)) := by
      refine Dq.lst np (k3 _ _ np hp2) ?_
      have := bools_dq (K := K) (N := N) (H := H3) (ls := (List.range 17).map fun j => decide (i = j))
      rw [List.map_map] at this
      exact this
    refine do_neS (Ψ := fun x => x = .bool false) (sh_bools _) (by decide) rfl N H3 E3.trk _ _ dp d3 _ fun r rd H4 er sm4 dr => ?_
    subst er
    cases dr.bool_inv
    refine ⟨false, rfl, ?_⟩
    show (if false = true then _ else _)
    rw [if_neg Bool.false_ne_true]
    have E4 := E3.ext sm4
    have k14 : Keep N H1 H4 := ((Keep.of sm2).trans k3).trans (Keep.of sm4)
    -- what it is under
    refine ⟨_, h6, a, dd, i, rfl, hi, kpK kp k14, fun p5 H5 hp5 sm5 hp52 => ?_⟩
    have np5 : N p5 = false := by
      cases e : N p5 with
      | false => rfl
      | true => exact absurd hp5 (E4.trk p5 e)
    have wd : WD K S (tCall (spP K TDue) [] E0 (tCons (tVar 3) tNil)) [s0, s1, s2, .dat (.int (i : Int)), .dat d, .dat (.str z), .unk, .unk]
        fun y ρ2 => y = .list ((undL i).map PyData.bool) ∧ ρ2 = [s0, s1, s2, .dat (.int (i : Int)), .dat d, .dat (.str z), .unk, .unk] :=
      wd_call0 (wa_cons (wd_var rfl (wa_nil ⟨i, rfl, hi, rfl, rfl⟩)))
    refine wd H0 N0 Z N σ1 H5 (E4.ext sm5) _ fun y yd ρ2 H6 ⟨ed, eρ⟩ E6 k6 d6 => ?_
    subst ed eρ
    have dp6 : Dq K N H6 (.ref p5) (.list ((undL i).map PyData.bool)) := Dq.lst np5 (k6 _ _ np5 hp52) bools_dq
    refine do_neS (Ψ := fun x => x = .bool false) (sh_bools _) (by decide) rfl N H6 E6.trk _ _ dp6 d6 _ fun r rd H7 er sm7 dr => ?_
    subst er
    cases dr.bool_inv
    refine ⟨false, rfl, ?_⟩
    show (if false = true then _ else _)
    rw [if_neg Bool.false_ne_true]
    have E7 := E6.ext sm7
    have k17 : Keep N H1 H7 := ((k14.trans (Keep.of sm5)).trans k6).trans (Keep.of sm7)
    -- what it bears
    refine ⟨_, h3, (i : Int), 11, rfl, rfl, decide ((11 : Int) < (i : Int)), rfl, ?_⟩
    show (if decide ((11 : Int) < (i : Int)) = true then _ else _)
    by_cases c : i ≤ 11
    · rw [decide_eq_false (show ¬ ((11 : Int) < (i : Int)) by omega)]
      exact M.nx _ _ _ _ rfl E7
    rw [decide_eq_true (show (11 : Int) < (i : Int) by omega), if_pos rfl]
    obtain ⟨x, ex, nx, hx⟩ := bear (by omega)
    subst ex
    obtain rfl := hv (by omega)
    have kp7 := kpK kp k17
    have d7 : Dq K N H7 v d := d4.keep k17
    refine ⟨_, h3, _, h6, a, x, i, _, v, rfl, by omega, hi, kp7.1, k17 _ _ (n0 x nx) hx, ?_⟩
    refine dc_reprY (Ψ := fun y => y = .str d.shown) hd (by rw [sizeLine_eq]; decide) (by decide) rfl N H7 E7.trk [v] (.cons d7 .nil) _ fun r rd H8 er sm8 dr => ?_
    subst er
    cases dr.str_inv
    have E8 := E7.ext sm8
    refine ⟨_, h4, ?_⟩
    refine dc_reprY (Ψ := fun y => y = .str d.shown) hd (by rw [sizeLine_eq]; decide) (by decide) rfl N H8 E8.trk [v] (.cons (d7.keep (Keep.of sm8)) .nil) _ fun r rd H9 er sm9 dr => ?_
    subst er
    cases dr.str_inv
    have E9 := E8.ext sm9
    refine ⟨rfl, _, rfl, ?_⟩
    rw [decide_eq_true rfl]
    exact M.nx _ _ _ _ rfl E9
  unfold t_look
  refine ⟨_, e3, _, e3, (i : Int), 12, rfl, rfl, decide ((i : Int) < 12), rfl, ?_⟩
  show (if decide ((i : Int) < 12) = true then _ else _)
  by_cases c : (i : Int) < 12
  · rw [decide_eq_true c, if_pos rfl]
    exact ⟨_, e5, i, _, rfl, hi, go v5 (fun h => by omega)⟩
  · rw [decide_eq_false c, if_neg Bool.false_ne_true]
    exact ⟨_, e4, i, _, rfl, hi, go v4 (fun h => rfl)⟩
def t_law01 (K : PySem.W.Frag) (A : Nat → Addr) : TS :=
  (tSeq (tFor (iRng1 (tCons (tOp rAddI (tC (.int 17)) (tCB rMinX (tCons (tC (.int 20)) (tCons (tCB (rLenX K) (tCons (tVar 0) tNil)) tNil)))) tNil)) (gName 2) (tSeq (tAsg (tIf (tTest (tOp rGt (tVar 2) (tC (.int 16)))) (tCall (spS K FSto TDr) [] E0 (tCons (tVar 1) (tCons (tC (.int 17)) tNil))) (tVar 2)) (gName 3))
    (tSeq (tAsg (tCall (spS K FSto TBorn) [] E0 (tCons (tVar 1) (tCons (tVar 3) tNil))) (gName 4))
    (tSeq (tAsg (tIf (tTest (tOp rEq (tCall (spS K FSto TDr) [] E0 (tCons (tVar 1) (tCons (tC (.int 2)) tNil))) (tC (.int 0)))) (tC (.str "a text of its own")) (tC (.str ""))) (gName 5))
    (tSeq (tAsg (tCall (spCa A) [] E0 (tCons (tVar 3) (tCons (tIf (tTest (tOp rLt (tVar 3) (tC (.int 12)))) (tVar 5) (tVar 4)) tNil))) (gName 6))
    (tSeq (tIfS (tOr (tTest (tOp (rNeD K) (tCall (spKi A) [] E0 (tCons (tVar 6) tNil)) (tLc (iRng1 (tCons (tC (.int 17)) tNil)) (gName 7) tYes (tOp rEq (tVar 7) (tVar 3)) [7]))) (tTest (tOp (rNeD K) (tCall (spUn A) [] E0 (tCons (tVar 6) tNil)) (tCall (spP K TDue) [] E0 (tCons (tVar 3) tNil))))) (tRet (tC (.bl false))) tNext)
    (tIfS (tAnd (tTest (tOp rGt (tVar 3) (tC (.int 11)))) (tTest (tOp rNe (tCB (rReprY K) (tCons (tCall (spBo A) [] E0 (tCons (tVar 3) (tCons (tVar 6) tNil))) tNil)) (tCB (rReprY K) (tCons (tVar 4) tNil))))) (tRet (tC (.bl false))) tNext)))))))
    (tRet (tC (.bl true))))
theorem ws_law01 {ns : List Int} (W : W01 K A P) (hF : FSto S) (hl : ns.length ≤ 63) : WS K S (t_law01 K A) (.scr ns :: .sto 0 :: List.replicate 6 .unk) { nx := fun _ => False, rt := fun d _ => d = .bool true } := by
  show WS K S (t_law01 K A) [.scr ns, .sto 0, .unk, .unk, .unk, .unk, .unk, .unk] _
  unfold t_law01
  have L : ∀ m : Int, m ≤ 1000000 → m ≤ 2 ^ 1899 := fun m hm => Int.le_trans hm big1899
  refine ws_seq (ws_for (wi_rng1 ?_))
  walk_at "dl"
  generalize hm : (17 + if (ns.length : Int) < 20 then (ns.length : Int) else 20) = many
  have hm2 : 0 ≤ many ∧ many ≤ 37 := by
    rw [← hm]; split <;> omega
  refine ⟨by omega, by omega, fun k ρ => ∃ (B : Nat) (s2 s3 s4 s5 : Sl), ρ = [.scr ns, .sto B, s2, s3, s4, s5, .unk, .unk] ∧ B ≤ 10000 * k, ⟨0, _, _, _, _, rfl, Nat.le_refl _⟩, ?_, ?_⟩
  · rintro k d ρ2 hd ⟨B, s2, s3, s4, s5, rfl, hB⟩
    have hk : k < 37 := by
      have := (List.getElem?_eq_some_iff.mp hd).1
      simp at this; omega
    have hkd : d = .int (0 + (k : Int)) := by
      rw [List.getElem?_map] at hd
      obtain ⟨j, hj, rfl⟩ := Option.map_eq_some_iff.mp hd
      have hj2 := (List.getElem?_eq_some_iff.mp hj).1
      have e := (List.getElem?_eq_some_iff.mp hj).2
      rw [List.getElem_range] at e
      rw [← e]
    subst hkd
    refine ⟨_, _, gd_name, ws_wipe [3, 4, 5] ?_⟩
    show WS K S _ [.scr ns, .sto B, .dat (.int (0 + (k : Int))), .unk, .unk, .unk, .unk, .unk] _
    have rest : ∀ (B1 : Nat) (i : Nat) (t2 : Int), B1 ≤ B + 400 → i < 17 → WS K S (
  (tSeq (tAsg (tCall (spS K FSto TBorn) [] E0 (tCons (tVar 1) (tCons (tVar 3) tNil))) (gName 4))
    (tSeq (tAsg (tIf (tTest (tOp rEq (tCall (spS K FSto TDr) [] E0 (tCons (tVar 1) (tCons (tC (.int 2)) tNil))) (tC (.int 0)))) (tC (.str "a text of its own")) (tC (.str ""))) (gName 5))
    (tSeq (tAsg (tCall (spCa A) [] E0 (tCons (tVar 3) (tCons (tIf (tTest (tOp rLt (tVar 3) (tC (.int 12)))) (tVar 5) (tVar 4)) tNil))) (gName 6))
    (tSeq (tIfS (tOr (tTest (tOp (rNeD K) (tCall (spKi A) [] E0 (tCons (tVar 6) tNil)) (tLc (iRng1 (tCons (tC (.int 17)) tNil)) (gName 7) tYes (tOp rEq (tVar 7) (tVar 3)) [7]))) (tTest (tOp (rNeD K) (tCall (spUn A) [] E0 (tCons (tVar 6) tNil)) (tCall (spP K TDue) [] E0 (tCons (tVar 3) tNil))))) (tRet (tC (.bl false))) tNext)
    (tIfS (tAnd (tTest (tOp rGt (tVar 3) (tC (.int 11)))) (tTest (tOp rNe (tCB (rReprY K) (tCons (tCall (spBo A) [] E0 (tCons (tVar 3) (tCons (tVar 6) tNil))) tNil)) (tCB (rReprY K) (tCons (tVar 4) tNil))))) (tRet (tC (.bl false))) tNext)))))
      ) [.scr ns, .sto B1, .dat (.int t2), .dat (.int (i : Int)), .unk, .unk, .unk, .unk] { nx := fun ρ => ∃ (B : Nat) (s2 s3 s4 s5 : Sl), ρ = [.scr ns, .sto B, s2, s3, s4, s5, .unk, .unk] ∧ B ≤ 10000 * (k + 1), rt := fun d _ => d = .bool true } := by
      intro B1 i t2 hB1 hi
      refine ws_seq (ws_asg (wd_callS hF rfl (wa_cons (wd_var rfl (wa_nil ⟨B1, rfl, (i : Int), rfl, by omega, fun x B2 hB2 hx => ?_⟩)))))
      have text : ∀ z : Str, WS K S (t_look K A) [.scr ns, .sto (B2 + 400), .dat (.int t2), .dat (.int (i : Int)), .dat x, .dat (.str z), .unk, .unk] { nx := fun ρ => ∃ (B : Nat) (s2 s3 s4 s5 : Sl), ρ = [.scr ns, .sto B, s2, s3, s4, s5, .unk, .unk] ∧ B ≤ 10000 * (k + 1), rt := fun d _ => d = .bool true } := fun z => by
        exact WS.imp (ws_look (Rt := fun d _ => d = .bool true) W hi hx) (fun ρ e => ⟨B2 + 400, _, _, _, _, e, by omega⟩) (fun _ _ h => h) (fun _ h => h) (fun _ h => h)
      refine ws_seq (ws_asg (wd_ifE (wt_test (wd_op (wd_drawc hF rfl (by decide) (L _ (by decide)) (by omega) fun z z0 z1 => wd_int (do_eqi ⟨_, rfl, ?_⟩))))))
      refine if_b (fun _ => ?_) (fun _ => ?_)
      · exact wd_str (text _)
      · exact wd_str (text _)
    refine ws_seq (ws_asg (wd_ifE (wt_test (wd_op (wd_var rfl (wd_int (do_gt ⟨_, rfl, ?_⟩)))))))
    refine if_b (fun c => ?_) (fun c => ?_)
    · refine wd_drawc hF rfl (by decide) (L _ (by decide)) (by omega) fun z z0 z1 => ?_
      obtain ⟨i, rfl⟩ : ∃ i : Nat, z = i := ⟨z.toNat, by omega⟩
      exact WS.imp (rest (B + 400) i _ (by omega) (by omega)) (fun _ h => h) (fun _ _ h => h) (fun _ h => h.elim) (fun _ h => h.elim)
    · refine wd_var rfl ?_
      rw [show (0 + (k : Int)) = ((k : Nat) : Int) by omega]
      exact WS.imp (rest B k _ (by omega) (by omega)) (fun _ h => h) (fun _ _ h => h) (fun _ h => h.elim) (fun _ h => h.elim)
  · rintro ρ2 ⟨B, s2, s3, s4, s5, rfl, hB⟩
    exact ws_ret (wd_bl rfl)
end
end DL

set_option Elab.async false
set_option linter.all false
set_option maxRecDepth 100000
set_option maxHeartbeats 4000000
/-! ER8: the five classes with an __init__ of their own -/
namespace DL
open PySem PySem.Spec PyProof.Rows L2
abbrev upTail : List Value := [.type "Exception", .type "BaseException", .type "object"]
def upP (P : Addr) : List Value := .ref P :: .type "ValueError" :: upTail
def upK : List Value := .type "KeyError" :: .type "LookupError" :: upTail
def upI : List Value := .type "IndexError" :: .type "LookupError" :: upTail
def upO : List Value := .type "OverflowError" :: .type "ArithmeticError" :: upTail
def upL : List Value := .type "LookupError" :: upTail
def ownCB (K : PySem.W.Frag) (C : Addr) (up : List Value) (new : String) : Bool := match K.lookup C with
  | some ⟨.type "type", _, .cls cd, sl⟩ => (match sl.toList with
    | [_, _, _, _, some (.builtin n), _] => n == new && !cd.hasDel && cd.mro == (.ref C :: up) && cd.hasDict
    | _ => false)
  | _ => false
def ownEB (K : PySem.W.Frag) (C : Addr) (up : List Value) (new : String) (f : Str) : Bool := ownCB K C up new && (decide (PySem.W.findIn K (.ref C) "__setattr__" = some (some (.builtin "object.__setattr__"))) &&
  (decide (PySem.W.subIn K (.ref C) (.type "BaseException") = some true) && (decide (PySem.W.typeIn K (.ref C) = some (.type "type")) && (PySem.W.keepIn K (.ref C) && decide (PySem.W.findIn K (.ref C) f = some none)))))
theorem ownC_ok {K : PySem.W.Frag} {C : Addr} {up : List Value} {new : String} (q : ownCB K C up new = true) : ∃ nm qn Ns bs sn sb ab co dd k0 k1 k2 k3 k5, K.lookup C = some (excClassObj nm qn C Ns bs up true sn sb ab co dd k0 k1 k2 k3 k5 new) := by
  unfold ownCB at q
  split at q
  · rename_i dd cd sl ho
    split at q
    · rename_i k0 k1 k2 k3 n k5 hs
      simp only [Bool.and_eq_true, beq_iff_eq, Bool.not_eq_true'] at q
      obtain ⟨⟨⟨rfl, hdel⟩, hm⟩, hh⟩ := q
      obtain ⟨nm, bs, mro, ns, qn, hd, sn, sb, ab, co, del⟩ := cd
      dsimp only at hm hdel hh
      subst hm hdel hh
      have hsl : sl = #[k0, k1, k2, k3, some (.builtin n), k5] := by
        obtain ⟨l⟩ := sl
        simp only at hs
        rw [hs]
      subst hsl
      exact ⟨nm, qn, ns, bs, sn, sb, ab, co, dd, k0, k1, k2, k3, k5, ho⟩
    · cases q
  · cases q
theorem ownE_ok {K : PySem.W.Frag} {C : Addr} {up : List Value} {f : Str} {N B new ini i : String} {l : List Value} (G : ExcBaseFacts N new i l) (J : IniF B ini) (a : Abv up N B) (ob : up.contains (.type "object") = true) (ps : ∀ z, refuseLoop z "__setattr__" (.ref C :: up) = pure ())
    (h : ownEB K C up new f = true) : OwnE K C N B new ini i l ∧ PySem.W.findIn K (.ref C) f = some none := by
  obtain ⟨c1, h⟩ := He.ba h
  obtain ⟨c2, h⟩ := He.ba h
  obtain ⟨c3, h⟩ := He.ba h
  obtain ⟨c4, h⟩ := He.ba h
  obtain ⟨c5, c6⟩ := He.ba h
  obtain ⟨nm, qn, Ns, bs, sn, sb, ab, co, dd, k0, k1, k2, k3, k5, e⟩ := ownC_ok c1
  exact ⟨⟨G, J, ⟨nm, qn, Ns, bs, up, sn, sb, ab, co, dd, k0, k1, k2, k3, k5, e, a, ob, ps⟩, of_decide_eq_true c2, of_decide_eq_true c3, of_decide_eq_true c4, c5⟩, of_decide_eq_true c6⟩
abbrev OwnT (K : PySem.W.Frag) (C P : Addr) : Prop := OwnE K C "ValueError" "ValueError" "ValueError.__new__" "ValueError.__init__" "ValueError.__init__" [.type "ValueError", .type "Exception", .type "BaseException", .type "object"]
abbrev OwnK (K : PySem.W.Frag) (C : Addr) : Prop := OwnE K C "LookupError" "KeyError" "LookupError.__new__" "KeyError.__init__" "LookupError.__init__" [.type "LookupError", .type "Exception", .type "BaseException", .type "object"]
abbrev OwnI (K : PySem.W.Frag) (C : Addr) : Prop := OwnE K C "IndexError" "IndexError" "IndexError.__new__" "IndexError.__init__" "IndexError.__init__" [.type "IndexError", .type "LookupError", .type "Exception", .type "BaseException", .type "object"]
abbrev OwnO (K : PySem.W.Frag) (C : Addr) : Prop := OwnE K C "OverflowError" "OverflowError" "OverflowError.__new__" "OverflowError.__init__" "OverflowError.__init__" [.type "OverflowError", .type "ArithmeticError", .type "Exception", .type "BaseException", .type "object"]
abbrev OwnL (K : PySem.W.Frag) (C : Addr) : Prop := OwnE K C "LookupError" "LookupError" "LookupError.__new__" "LookupError.__init__" "LookupError.__init__" [.type "LookupError", .type "Exception", .type "BaseException", .type "object"]
theorem pas_K (z : Value) : refuseLoop z "__setattr__" upK = pure () := by kernel_rfl
theorem pas_I (z : Value) : refuseLoop z "__setattr__" upI = pure () := by kernel_rfl
theorem pas_O (z : Value) : refuseLoop z "__setattr__" upO = pure () := by kernel_rfl
theorem pas_L (z : Value) : refuseLoop z "__setattr__" upL = pure () := by kernel_rfl
section
variable {K : PySem.W.Frag} {C P : Addr} {f : Str}
theorem ownT_ok (h : ownEB K C (upP P) "ValueError.__new__" f = true) : OwnT K C P ∧ PySem.W.findIn K (.ref C) f = some none :=
  ownE_ok PySem.F.excBase_ValueError (iniF_of PySem.F.excBase_ValueError) ⟨rfl, rfl, rfl, rfl⟩ rfl (fun z => PySem.HandSPX.refsVE_pass z _ rfl) h
theorem ownK_ok (h : ownEB K C upK "LookupError.__new__" f = true) : OwnK K C ∧ PySem.W.findIn K (.ref C) f = some none :=
  ownE_ok PySem.F.excBase_LookupError (iniF_cls excClass_KeyError) ⟨by decide, by decide, by decide, by decide⟩ (by decide) (fun z => by rw [refuseLoop_ref]; exact pas_K z) h
theorem ownI_ok (h : ownEB K C upI "IndexError.__new__" f = true) : OwnI K C ∧ PySem.W.findIn K (.ref C) f = some none :=
  ownE_ok PySem.F.excBase_IndexError (iniF_of PySem.F.excBase_IndexError) ⟨by decide, by decide, by decide, by decide⟩ (by decide) (fun z => by rw [refuseLoop_ref]; exact pas_I z) h
theorem ownO_ok (h : ownEB K C upO "OverflowError.__new__" f = true) : OwnO K C ∧ PySem.W.findIn K (.ref C) f = some none :=
  ownE_ok PySem.F.excBase_OverflowError (iniF_of PySem.F.excBase_OverflowError) ⟨by decide, by decide, by decide, by decide⟩ (by decide) (fun z => by rw [refuseLoop_ref]; exact pas_O z) h
theorem ownL_ok (h : ownEB K C upL "LookupError.__new__" f = true) : OwnL K C ∧ PySem.W.findIn K (.ref C) f = some none :=
  ownE_ok PySem.F.excBase_LookupError (iniF_of PySem.F.excBase_LookupError) ⟨by decide, by decide, by decide, by decide⟩ (by decide) (fun z => by rw [refuseLoop_ref]; exact pas_L z) h
end
/-- the def within a class -/
def inner : Stmt → Stmt
  | .ClassDef _ _ _ b _ _ _ _ _ _ _ => b.getD 0 (.Pass ⟨0, 0, 0, 0⟩)
  | s => s
/-- the seventeen, in their order -/
def aN (K : PySem.W.Frag) : Nat → Addr
  | 0 => He.ga K "NoAmount"
  | 1 => He.ga K "NoLine"
  | 2 => He.ga K "NoDays"
  | 3 => He.ga K "NoRule"
  | 4 => He.ga K "NoTelling"
  | 5 => He.ga K "NoStretch"
  | 6 => He.ga K "NoTable"
  | 7 => He.ga K "NoPot"
  | 8 => He.ga K "NoFold"
  | 9 => He.ga K "NoLeave"
  | 10 => He.ga K "NoDeed"
  | 11 => He.ga K "NoPart"
  | 12 => He.ga K "NoText"
  | 13 => He.ga K "NoName"
  | 14 => He.ga K "NoNumber"
  | 15 => He.ga K "TooLong"
  | _ => He.ga K "NoCut"
/-- what a class says where its __init__ is asked for -/
def iniB (K : PySem.W.Frag) (c : Value) (ini : String) : Bool := match PySem.W.findCls K c (.type "type") "__init__" with
  | some (.val (.builtin n)) => n == ini
  | _ => false
theorem iniB_ok {K : PySem.W.Frag} {c : Value} {ini : String} (h : iniB K c ini = true) : PySem.W.findCls K c (.type "type") "__init__" = some (.val (.builtin ini)) := by
  unfold iniB at h
  split at h
  · rename_i n e
    rw [e, beq_iff_eq.mp h]
  · cases h
def readPB (K : PySem.W.Frag) (P : Addr) : Bool := decide (PySem.W.specialIn K (.ref P) "__getattribute__" = some (some (.builtin "type.__getattribute__"))) && PySem.W.readsIn K P (.type "type")
/-! ### the head: the interpreter's own statics, too -/
def obsY (n : Nat) (fa : List He.Fa) (fn : List He.DefD) (ex : PySem.W.Frag → Bool) (g : Addr → Option Obj) : AlG := (He.obsD fa fn (He.frG g (cStatics :: He.asD g n)), ex (He.frG g (cStatics :: He.asD g n)))
def hookY (n : Nat) (fa : List He.Fa) (fn : List He.DefD) (ex : PySem.W.Frag → Bool) : PySem.W.Hook where
  α := AlG
  obs := fun s => obsY n fa fn ex s.heap.get?
  val := fun _ => (He.valD fn, true)
  says := fun _ h => ∃ K : PySem.W.Frag, K.In h ∧ He.SaysD fa fn K ∧ ex K = true
  of := fun _ _ e => ⟨_, He.frG_in, congrArg Prod.fst e, congrArg Prod.snd e⟩
  keeps := fun _ _ _ ⟨K, hK, c⟩ k => ⟨K, PySem.W.Frag.In.keeps hK k, c⟩
theorem obsY_eq {n : Nat} {fa : List He.Fa} {fn : List He.DefD} {ex : PySem.W.Frag → Bool} {g : Addr → Option Obj} {s : Shared} (h : ∀ a, g a = s.heap.get? a) : obsY n fa fn ex g = (hookY n fa fn ex).obs s := by
  have e : g = s.heap.get? := funext h
  rw [e] <;> rfl
end DL

set_option Elab.async false
set_option linter.all false
set_option maxRecDepth 100000
set_option maxHeartbeats 4000000
namespace DL
open PySem PySem.Spec PyProof.Rows L2
def top (i : Nat) : Stmt := PySem.Challenge.pw_paymill_k01_refusals_and_kinds.main.body.getD i (.Pass ⟨0, 0, 0, 0⟩)
abbrev FnP (K : PySem.W.Frag) (x : Str) (st : Stmt) (f : Addr) (fd : FuncData) : Prop := FunD K x x (defArgs st) (defBody st) (defScope st) [] [] f fd
abbrev FnD (K : PySem.W.Frag) (x : Str) (st : Stmt) (dvs : List V) (f : Addr) (fd : FuncData) : Prop := FunD K x x (defArgs st) (defBody st) (defScope st) dvs [] f fd
abbrev FnKw (K : PySem.W.Frag) (x : Str) (st : Stmt) (kws : List (Str × V)) (f : Addr) (fd : FuncData) : Prop := FunD K x x (defArgs st) (defBody st) (defScope st) [] kws f fd
abbrev s_law_draw : Stmt := top 21
theorem sc_law_draw : FnScope ["store", "many", "digit", "found", "turn", "step", "primes", "cell", "one", "two"] ["store", "many"] (defScope s_law_draw) := ⟨rfl, rfl, rfl, by decide +kernel, rfl, by decide +kernel, by decide +kernel⟩

abbrev s_in_NoText : Stmt := inner (top 13)
theorem sc_in_NoText : FnScope ["self", "at"] ["self", "at"] (defScope s_in_NoText) := ⟨rfl, rfl, rfl, by decide +kernel, rfl, by decide +kernel, by decide +kernel⟩

abbrev s_in_NoName : Stmt := inner (top 15)
theorem sc_in_NoName : FnScope ["self", "name"] ["self", "name"] (defScope s_in_NoName) := ⟨rfl, rfl, rfl, by decide +kernel, rfl, by decide +kernel, by decide +kernel⟩

abbrev s_in_NoNumber : Stmt := inner (top 16)
theorem sc_in_NoNumber : FnScope ["self", "number"] ["self", "number"] (defScope s_in_NoNumber) := ⟨rfl, rfl, rfl, by decide +kernel, rfl, by decide +kernel, by decide +kernel⟩

abbrev s_in_TooLong : Stmt := inner (top 17)
theorem sc_in_TooLong : FnScope ["self", "many"] ["self", "many"] (defScope s_in_TooLong) := ⟨rfl, rfl, rfl, by decide +kernel, rfl, by decide +kernel, by decide +kernel⟩

abbrev s_in_NoCut : Stmt := inner (top 18)
theorem sc_in_NoCut : FnScope ["self", "last"] ["self", "last"] (defScope s_in_NoCut) := ⟨rfl, rfl, rfl, by decide +kernel, rfl, by decide +kernel, by decide +kernel⟩

abbrev s_law_store : Stmt := top 20
theorem sc_law_store : FnScope ["script", "blend", "place", "cell", "great", "small"] ["script"] (defScope s_law_store) := ⟨rfl, rfl, rfl, by decide +kernel, rfl, by decide +kernel, by decide +kernel⟩

abbrev s_law_plain_raised : Stmt := top 22
theorem sc_law_plain_raised : FnScope ["which", "text"] ["which", "text"] (defScope s_law_plain_raised) := ⟨rfl, rfl, rfl, by decide +kernel, rfl, by decide +kernel, by decide +kernel⟩

abbrev s_law_bearing_raised : Stmt := top 23
theorem sc_law_bearing_raised : FnScope ["which", "thing"] ["which", "thing"] (defScope s_law_bearing_raised) := ⟨rfl, rfl, rfl, by decide +kernel, rfl, by decide +kernel, by decide +kernel⟩

abbrev s_law_kinds : Stmt := top 24
theorem sc_law_kinds : FnScope ["error", "found"] ["error"] (defScope s_law_kinds) := ⟨rfl, rfl, rfl, by decide +kernel, rfl, by decide +kernel, by decide +kernel⟩

abbrev s_law_under : Stmt := top 25
theorem sc_law_under : FnScope ["error", "found"] ["error"] (defScope s_law_under) := ⟨rfl, rfl, rfl, by decide +kernel, rfl, by decide +kernel, by decide +kernel⟩

abbrev s_law_under_due : Stmt := top 26
theorem sc_law_under_due : FnScope ["which"] ["which"] (defScope s_law_under_due) := ⟨rfl, rfl, rfl, by decide +kernel, rfl, by decide +kernel, by decide +kernel⟩

abbrev s_law_caught : Stmt := top 27
theorem sc_law_caught : FnScope ["which", "thing", "caught", "error"] ["which", "thing"] (defScope s_law_caught) := ⟨rfl, rfl, rfl, by decide +kernel, rfl, by decide +kernel, by decide +kernel⟩

abbrev s_law_borne : Stmt := top 28
theorem sc_law_borne : FnScope ["which", "error"] ["which", "error"] (defScope s_law_borne) := ⟨rfl, rfl, rfl, by decide +kernel, rfl, by decide +kernel, by decide +kernel⟩

abbrev s_law_thing : Stmt := top 29
theorem sc_law_thing : FnScope ["store", "which", "way", "letters", "word", "number", "k"] ["store", "which"] (defScope s_law_thing) := ⟨rfl, rfl, rfl, by decide +kernel, rfl, by decide +kernel, by decide +kernel⟩

abbrev s_law : Stmt := top 30
theorem sc_law : FnScope ["script", "store", "turn", "which", "thing", "text", "caught", "at"] ["script"] (defScope s_law) := ⟨rfl, rfl, rfl, by decide +kernel, rfl, by decide +kernel, by decide +kernel⟩

def d_law_draw : He.DefD := ⟨("_law_draw", none), "_law_draw", "_law_draw", defArgs s_law_draw, defBody s_law_draw, defScope s_law_draw, [], []⟩
def d_law_store : He.DefD := ⟨("_law_store", none), "_law_store", "_law_store", defArgs s_law_store, defBody s_law_store, defScope s_law_store, [], []⟩
def d_law_plain_raised : He.DefD := ⟨("_law_plain_raised", none), "_law_plain_raised", "_law_plain_raised", defArgs s_law_plain_raised, defBody s_law_plain_raised, defScope s_law_plain_raised, [], []⟩
def d_law_bearing_raised : He.DefD := ⟨("_law_bearing_raised", none), "_law_bearing_raised", "_law_bearing_raised", defArgs s_law_bearing_raised, defBody s_law_bearing_raised, defScope s_law_bearing_raised, [], []⟩
def d_law_kinds : He.DefD := ⟨("_law_kinds", none), "_law_kinds", "_law_kinds", defArgs s_law_kinds, defBody s_law_kinds, defScope s_law_kinds, [], []⟩
def d_law_under : He.DefD := ⟨("_law_under", none), "_law_under", "_law_under", defArgs s_law_under, defBody s_law_under, defScope s_law_under, [], []⟩
def d_law_under_due : He.DefD := ⟨("_law_under_due", none), "_law_under_due", "_law_under_due", defArgs s_law_under_due, defBody s_law_under_due, defScope s_law_under_due, [], []⟩
def d_law_caught : He.DefD := ⟨("_law_caught", none), "_law_caught", "_law_caught", defArgs s_law_caught, defBody s_law_caught, defScope s_law_caught, [], []⟩
def d_law_borne : He.DefD := ⟨("_law_borne", none), "_law_borne", "_law_borne", defArgs s_law_borne, defBody s_law_borne, defScope s_law_borne, [], []⟩
def d_law_thing : He.DefD := ⟨("_law_thing", none), "_law_thing", "_law_thing", defArgs s_law_thing, defBody s_law_thing, defScope s_law_thing, [], []⟩
def d_law : He.DefD := ⟨("law", none), "law", "law", defArgs s_law, defBody s_law, defScope s_law, [], []⟩
def d_in_NoText : He.DefD := ⟨("NoText", some "__init__"), "__init__", "NoText.__init__", defArgs s_in_NoText, defBody s_in_NoText, defScope s_in_NoText, [], []⟩
def d_in_NoName : He.DefD := ⟨("NoName", some "__init__"), "__init__", "NoName.__init__", defArgs s_in_NoName, defBody s_in_NoName, defScope s_in_NoName, [], []⟩
def d_in_NoNumber : He.DefD := ⟨("NoNumber", some "__init__"), "__init__", "NoNumber.__init__", defArgs s_in_NoNumber, defBody s_in_NoNumber, defScope s_in_NoNumber, [], []⟩
def d_in_TooLong : He.DefD := ⟨("TooLong", some "__init__"), "__init__", "TooLong.__init__", defArgs s_in_TooLong, defBody s_in_TooLong, defScope s_in_TooLong, [], []⟩
def d_in_NoCut : He.DefD := ⟨("NoCut", some "__init__"), "__init__", "NoCut.__init__", defArgs s_in_NoCut, defBody s_in_NoCut, defScope s_in_NoCut, [], []⟩
def fn : List He.DefD := [d_law_draw, d_law_store, d_law_plain_raised, d_law_bearing_raised, d_law_kinds, d_law_under, d_law_under_due, d_law_caught, d_law_borne, d_law_thing, d_law, d_in_NoText, d_in_NoName, d_in_NoNumber, d_in_TooLong, d_in_NoCut]
def fa : List He.Fa := [.glo "_law_draw", .glo "_law_store", .glo "_law_plain_raised", .glo "_law_bearing_raised", .glo "_law_kinds", .glo "_law_under", .glo "_law_under_due", .glo "_law_caught", .glo "_law_borne", .glo "_law_thing", .glo "law", .glo "NoAmount", .glo "NoLine", .glo "NoDays", .glo "NoRule", .glo "NoTelling", .glo "NoStretch", .glo "NoTable", .glo "NoPot", .glo "NoFold", .glo "NoLeave", .glo "NoDeed", .glo "NoPart", .glo "NoText", .glo "NoName", .glo "NoNumber", .glo "TooLong", .glo "NoCut", .glo "PayError", .free "IndexError", .free "KeyError", .free "LookupError", .free "OverflowError", .free "ValueError", .free "ZeroDivisionError", .free "abs", .free "enumerate", .free "isinstance", .free "len", .free "min", .free "range", .free "repr", .free "str"]
def bs : List (Str × String) := []
def ex (K : PySem.W.Frag) : Bool := bltB K bs && w01B K (aN K) (He.ga K "PayError") && ((List.range 11).all fun i => excVB K (aN K i)) && excZB K (aN K 11) && readPB K (He.ga K "PayError") && iniB K (.ref (He.ga K "PayError")) "ValueError.__init__" && ownEB K (aN K 12) (upP (He.ga K "PayError")) "ValueError.__new__" "at" && decide (PySem.W.findIn K (.ref (aN K 12)) "__init__" = some (some (.ref (He.fAd K ("NoText", some "__init__"))))) && decide (PySem.W.typeIn K (.ref (He.fAd K ("NoText", some "__init__"))) = some (.type "function")) && ownEB K (aN K 13) (upK) "LookupError.__new__" "name" && decide (PySem.W.findIn K (.ref (aN K 13)) "__init__" = some (some (.ref (He.fAd K ("NoName", some "__init__"))))) && decide (PySem.W.typeIn K (.ref (He.fAd K ("NoName", some "__init__"))) = some (.type "function")) && iniB K (.type "KeyError") "KeyError.__init__" && ownEB K (aN K 14) (upI) "IndexError.__new__" "number" && decide (PySem.W.findIn K (.ref (aN K 14)) "__init__" = some (some (.ref (He.fAd K ("NoNumber", some "__init__"))))) && decide (PySem.W.typeIn K (.ref (He.fAd K ("NoNumber", some "__init__"))) = some (.type "function")) && iniB K (.type "IndexError") "IndexError.__init__" && ownEB K (aN K 15) (upO) "OverflowError.__new__" "many" && decide (PySem.W.findIn K (.ref (aN K 15)) "__init__" = some (some (.ref (He.fAd K ("TooLong", some "__init__"))))) && decide (PySem.W.typeIn K (.ref (He.fAd K ("TooLong", some "__init__"))) = some (.type "function")) && iniB K (.type "OverflowError") "OverflowError.__init__" && ownEB K (aN K 16) (upL) "LookupError.__new__" "last" && decide (PySem.W.findIn K (.ref (aN K 16)) "__init__" = some (some (.ref (He.fAd K ("NoCut", some "__init__"))))) && decide (PySem.W.typeIn K (.ref (He.fAd K ("NoCut", some "__init__"))) = some (.type "function")) && iniB K (.type "LookupError") "LookupError.__init__"
abbrev R : PySem.W.OpenRow := PySem.W.OpenLaw.row PySem.Challenge.rw_paymill_k01_refusals_and_kinds
abbrev hk : PySem.W.Hook := hookY 4 fa fn ex
def ob (s : PySem.W.SharedT) : AlG := obsY 4 fa fn ex (HandSHeadRun.getT s)
theorem ob_eq (s : PySem.W.SharedT) : ob s = hk.obs s.abs := obsY_eq (HandSHeadRun.getT_eq s)
def loose : List Str := (["__name__", "PayError", "NoAmount", "NoLine", "NoDays", "NoRule", "NoTelling", "NoStretch", "NoTable", "NoPot", "NoFold", "NoLeave", "NoDeed", "NoText", "NoPart", "NoName", "NoNumber", "TooLong", "NoCut", "_law_store", "_law_draw", "_law_plain_raised", "_law_bearing_raised", "_law_kinds", "_law_under", "_law_under_due", "_law_caught", "_law_borne", "_law_thing"] : List Str)
theorem run (w : World) : HandSHeadRun.RunEqI R (PySem.W.view R.prog [0, 19, 30]) hk ob 20000 loose w := by
  unfold HandSHeadRun.RunEqI
  kernel_rfl
end DL

set_option Elab.async false
set_option linter.all false
set_option maxRecDepth 100000
set_option maxHeartbeats 4000000
namespace DL
open PySem PySem.Spec PyProof.Rows L2
section
variable {P : Program} {w : World} {K : PySem.W.Frag} {mg : Str → Option Value} {base : Heap} {f : Addr} {fd : FuncData}
theorem ok_draw1 (F : FnP K "_law_draw" s_law_draw f fd) (h__law_draw : Has P w K mg base CX0 "_law_draw" 1 ["store", "many"] spNo []) (z_len : mg "len" = none) (z_range : mg "range" = none) (z_str : mg "str" = none) : FnOk P w K mg base CX0 2 f fd ["store", "many"] (spS K FSto (TDraw 1 (10 ^ 6) (2 ^ 41))) := by
  refine F.ok sc_law_draw (fun vs H Q E h => spS_len (n := 1) (fun B ds Φ ⟨_, e, _⟩ => by rw [e]; rfl) h) (fun cdv A outer s H vs Q E hr h => ⟨t_draw K spNo, PSs.nox ?_, draw_run h (by decide) (by decide) (by decide) (.inl (by decide))⟩)
  exact (pss_cons (ps_while PassesOwn.never (PW.pt (pw_and (pt_cmpR (op_neD hr.units) (pe_ix ix_list (pv 0) pe_int (fun _ _ => rfl)) (pe_lst pa_nil) (nomark _)) (pw_and1 (pt_cmpR op_eq (pe_ix ix_list (pe_ix ix_list (pv 0) pe_int (fun _ _ => rfl)) pe_int (fun _ _ => rfl)) pe_int (nomark _))))) (pss_one (ps_expr (pe_bm PySem.F.plainAttrs_list PySem.F.slot_list_pop PySem.F.type_list_pop mt_popAt (pe_ix ix_list (pv 0) pe_int (fun _ _ => rfl)) (pa_cons pe_int pa_nil)))))
      (pss_cons (ps_if (pt_cmpR (op_neD hr.units) (pe_ix ix_list (pv 0) pe_int (fun _ _ => rfl)) (pe_lst pa_nil) (nomark _)) (pss_cons (ps_set (i := 2) sc_law_draw.nd rfl (by first | exact Or.inl rfl | exact Or.inr rfl) (pe_op op_modN (pe_ix ix_list (pe_ix ix_list (pv 0) pe_int (fun _ _ => rfl)) pe_int (fun _ _ => rfl)) (pv 1)))
      (pss_cons (ps_asg (pe_op op_fdivX (pe_ix ix_list (pe_ix ix_list (pv 0) pe_int (fun _ _ => rfl)) pe_int (fun _ _ => rfl)) (pv 1)) (pg_sub (pe_ix ix_list (pv 0) pe_int (fun _ _ => rfl)) pe_int set_list))
      (pss_one (ps_ret (pv 2))))) pss_nil)
      (pss_cons (ps_if (pt_cmpR op_gt (pv 1) (pe_op op_pow pe_int pe_int) (nomark _)) (pss_cons (ps_set (i := 3) sc_law_draw.nd rfl (by first | exact Or.inl rfl | exact Or.inr rfl) pe_int)
      (pss_cons (ps_for PassesOwn.never rfl (pi_range1 rfl z_range (pa_cons (pe_op op_add pe_int (pe_op op_fdivX (pe_callB call_len_str (by rfl) z_len PySem.boot_len (pa_cons (pe_callTy call_str_int (by rfl) z_str (by decide +kernel) (pa_cons (pv 1) pa_nil)) pa_nil)) pe_int)) pa_nil)) (pg_name (i := 4) sc_law_draw.nd rfl (by first | exact Or.inl rfl | exact Or.inr rfl)) (pss_one (ps_set (i := 3) sc_law_draw.nd rfl (by first | exact Or.inl rfl | exact Or.inr rfl) (pe_op op_add (pe_op op_mulW (pv 3) (pe_op op_pow pe_int pe_int)) (pe_has h__law_draw (hr.mono (by decide)) pass0 (pa_cons (pv 0) (pa_cons (pe_op op_pow pe_int pe_int) pa_nil)))))))
      (pss_one (ps_ret (pe_op op_modN (pv 3) (pv 1)))))) pss_nil)
      (pss_cons (ps_set (i := 5) sc_law_draw.nd rfl (by first | exact Or.inl rfl | exact Or.inr rfl) (pe_op op_add (pe_ix ix_list (pv 0) pe_int (fun _ _ => rfl)) pe_int))
      (pss_cons (ps_asg (pv 5) (pg_sub (pv 0) pe_int set_list))
      (pss_cons (ps_set (i := 6) sc_law_draw.nd rfl (by first | exact Or.inl rfl | exact Or.inr rfl) (pe_lst (pa_cons pe_int (pa_cons pe_int (pa_cons pe_int (pa_cons pe_int (pa_cons pe_int pa_nil)))))))
      (pss_cons (ps_set (i := 7) sc_law_draw.nd rfl (by first | exact Or.inl rfl | exact Or.inr rfl) (pe_ix ix_list (pe_ix ix_list (pv 0) pe_int (fun _ _ => rfl)) (pe_op op_modN (pv 5) (pe_callB call_len_seq (by rfl) z_len PySem.boot_len (pa_cons (pe_ix ix_list (pv 0) pe_int (fun _ _ => rfl)) pa_nil))) (fun _ _ => rfl)))
      (pss_cons (ps_set (i := 8) sc_law_draw.nd rfl (by first | exact Or.inl rfl | exact Or.inr rfl) (pe_op op_modN (pe_op op_pow (pe_op op_add (pe_op op_add (pe_op op_add (pe_ix ix_list (pv 0) pe_int (fun _ _ => rfl)) (pv 7)) (pe_op op_mulW pe_int (pv 5))) pe_int) pe_int) (pe_ix ix_list (pv 6) (pe_op op_modN (pv 5) pe_int) (fun _ _ => rfl))))
      (pss_cons (ps_set (i := 9) sc_law_draw.nd rfl (by first | exact Or.inl rfl | exact Or.inr rfl) (pe_op op_add (pe_op op_add (pe_op op_mulW (pv 8) (pv 8)) (pe_op op_modN (pe_ix ix_list (pv 0) pe_int (fun _ _ => rfl)) pe_int)) (pv 5)))
      (pss_one (ps_ret (pe_op op_modN (pe_op op_fdivX (pe_op op_modN (pe_op op_pow (pv 9) pe_int) (pe_ix ix_list (pv 6) (pe_op op_modN (pe_op op_add (pv 5) pe_int) pe_int) (fun _ _ => rfl))) pe_int) (pv 1)))))))))))))
theorem ok_draw2 (F : FnP K "_law_draw" s_law_draw f fd) (h__law_draw : Has P w K mg base CX0 "_law_draw" 2 ["store", "many"] (spS K FSto (TDraw 1 (10 ^ 6) (2 ^ 41))) []) (z_len : mg "len" = none) (z_range : mg "range" = none) (z_str : mg "str" = none) : FnOk P w K mg base CX0 3 f fd ["store", "many"] (spS K FSto TDr) := by
  refine F.ok sc_law_draw (fun vs H Q E h => spS_len (n := 1) (fun B ds Φ ⟨_, e, _⟩ => by rw [e]; rfl) h) (fun cdv A outer s H vs Q E hr h => ⟨t_draw K (spS K FSto (TDraw 1 (10 ^ 6) (2 ^ 41))), PSs.nox ?_, draw_run h (by decide +kernel) (by decide) (by decide) (.inr ⟨rfl, by decide, by decide⟩)⟩)
  exact (pss_cons (ps_while PassesOwn.never (PW.pt (pw_and (pt_cmpR (op_neD hr.units) (pe_ix ix_list (pv 0) pe_int (fun _ _ => rfl)) (pe_lst pa_nil) (nomark _)) (pw_and1 (pt_cmpR op_eq (pe_ix ix_list (pe_ix ix_list (pv 0) pe_int (fun _ _ => rfl)) pe_int (fun _ _ => rfl)) pe_int (nomark _))))) (pss_one (ps_expr (pe_bm PySem.F.plainAttrs_list PySem.F.slot_list_pop PySem.F.type_list_pop mt_popAt (pe_ix ix_list (pv 0) pe_int (fun _ _ => rfl)) (pa_cons pe_int pa_nil)))))
      (pss_cons (ps_if (pt_cmpR (op_neD hr.units) (pe_ix ix_list (pv 0) pe_int (fun _ _ => rfl)) (pe_lst pa_nil) (nomark _)) (pss_cons (ps_set (i := 2) sc_law_draw.nd rfl (by first | exact Or.inl rfl | exact Or.inr rfl) (pe_op op_modN (pe_ix ix_list (pe_ix ix_list (pv 0) pe_int (fun _ _ => rfl)) pe_int (fun _ _ => rfl)) (pv 1)))
      (pss_cons (ps_asg (pe_op op_fdivX (pe_ix ix_list (pe_ix ix_list (pv 0) pe_int (fun _ _ => rfl)) pe_int (fun _ _ => rfl)) (pv 1)) (pg_sub (pe_ix ix_list (pv 0) pe_int (fun _ _ => rfl)) pe_int set_list))
      (pss_one (ps_ret (pv 2))))) pss_nil)
      (pss_cons (ps_if (pt_cmpR op_gt (pv 1) (pe_op op_pow pe_int pe_int) (nomark _)) (pss_cons (ps_set (i := 3) sc_law_draw.nd rfl (by first | exact Or.inl rfl | exact Or.inr rfl) pe_int)
      (pss_cons (ps_for PassesOwn.never rfl (pi_range1 rfl z_range (pa_cons (pe_op op_add pe_int (pe_op op_fdivX (pe_callB call_len_str (by rfl) z_len PySem.boot_len (pa_cons (pe_callTy call_str_int (by rfl) z_str (by decide +kernel) (pa_cons (pv 1) pa_nil)) pa_nil)) pe_int)) pa_nil)) (pg_name (i := 4) sc_law_draw.nd rfl (by first | exact Or.inl rfl | exact Or.inr rfl)) (pss_one (ps_set (i := 3) sc_law_draw.nd rfl (by first | exact Or.inl rfl | exact Or.inr rfl) (pe_op op_add (pe_op op_mulW (pv 3) (pe_op op_pow pe_int pe_int)) (pe_has h__law_draw (hr.mono (by decide)) pass0 (pa_cons (pv 0) (pa_cons (pe_op op_pow pe_int pe_int) pa_nil)))))))
      (pss_one (ps_ret (pe_op op_modN (pv 3) (pv 1)))))) pss_nil)
      (pss_cons (ps_set (i := 5) sc_law_draw.nd rfl (by first | exact Or.inl rfl | exact Or.inr rfl) (pe_op op_add (pe_ix ix_list (pv 0) pe_int (fun _ _ => rfl)) pe_int))
      (pss_cons (ps_asg (pv 5) (pg_sub (pv 0) pe_int set_list))
      (pss_cons (ps_set (i := 6) sc_law_draw.nd rfl (by first | exact Or.inl rfl | exact Or.inr rfl) (pe_lst (pa_cons pe_int (pa_cons pe_int (pa_cons pe_int (pa_cons pe_int (pa_cons pe_int pa_nil)))))))
      (pss_cons (ps_set (i := 7) sc_law_draw.nd rfl (by first | exact Or.inl rfl | exact Or.inr rfl) (pe_ix ix_list (pe_ix ix_list (pv 0) pe_int (fun _ _ => rfl)) (pe_op op_modN (pv 5) (pe_callB call_len_seq (by rfl) z_len PySem.boot_len (pa_cons (pe_ix ix_list (pv 0) pe_int (fun _ _ => rfl)) pa_nil))) (fun _ _ => rfl)))
      (pss_cons (ps_set (i := 8) sc_law_draw.nd rfl (by first | exact Or.inl rfl | exact Or.inr rfl) (pe_op op_modN (pe_op op_pow (pe_op op_add (pe_op op_add (pe_op op_add (pe_ix ix_list (pv 0) pe_int (fun _ _ => rfl)) (pv 7)) (pe_op op_mulW pe_int (pv 5))) pe_int) pe_int) (pe_ix ix_list (pv 6) (pe_op op_modN (pv 5) pe_int) (fun _ _ => rfl))))
      (pss_cons (ps_set (i := 9) sc_law_draw.nd rfl (by first | exact Or.inl rfl | exact Or.inr rfl) (pe_op op_add (pe_op op_add (pe_op op_mulW (pv 8) (pv 8)) (pe_op op_modN (pe_ix ix_list (pv 0) pe_int (fun _ _ => rfl)) pe_int)) (pv 5)))
      (pss_one (ps_ret (pe_op op_modN (pe_op op_fdivX (pe_op op_modN (pe_op op_pow (pv 9) pe_int) (pe_ix ix_list (pv 6) (pe_op op_modN (pe_op op_add (pv 5) pe_int) pe_int) (fun _ _ => rfl))) pe_int) (pv 1)))))))))))))
theorem ok_law_store  (F : FnP K "_law_store" s_law_store f fd) (z_abs : mg "abs" = none) (z_enumerate : mg "enumerate" = none)  : FnOk P w K mg base CX0 1 f fd ["script"] (spMk K) := by
  refine F.ok sc_law_store (fun vs H Q E h => by obtain ⟨_, _, rfl, _⟩ := h; rfl) (fun cdv A outer s H vs Q E hr h => ⟨t_store K, PSs.nox ?_, store_run h⟩)
  exact (pss_cons (ps_set (i := 1) sc_law_store.nd rfl (by first | exact Or.inl rfl | exact Or.inr rfl) pe_int)
      (pss_cons (ps_for PassesOwn.never rfl (pi_enum (by rfl) z_enumerate (pa_cons (pe_slice sl_list (pv 0) po_none (po_some pe_int)) pa_nil)) (pg_tup rfl (pgs_cons (pg_name (i := 2) sc_law_store.nd rfl (by first | exact Or.inl rfl | exact Or.inr rfl)) (pgs_cons (pg_name (i := 3) sc_law_store.nd rfl (by first | exact Or.inl rfl | exact Or.inr rfl)) pgs_nil))) (pss_one (ps_set (i := 1) sc_law_store.nd rfl (by first | exact Or.inl rfl | exact Or.inr rfl) (pe_op op_modN (pe_op op_add (pe_op op_add (pe_op op_mulW (pv 1) (pv 1)) (pe_op op_modN (pv 3) pe_int)) (pe_op op_mulW pe_int (pv 2))) pe_int))))
      (pss_cons (ps_setLc (i := 4) (own := [("cell", 3)]) (g := (gName 3)) rfl sc_law_store.nd rfl rfl (sw_true rfl rfl rfl (by decide +kernel)) (pi_list (pe_slice sl_list (pv 0) po_none (po_some pe_int))) (blkOk_by (N := ["script", "blend", "place", "cell", "great", "small"]) (sc := defScope s_law_store) (by decide +kernel)) (fun _ _ _ _ _ => (pg_name (i := 3) sc_law_store.nd rfl (by first | exact Or.inl rfl | exact Or.inr rfl))) (fun _ _ _ _ _ => (pts_one (pt_cmpR op_ge (pe_callB call_abs (by rfl) z_abs (by decide +kernel) (pa_cons (pv 3) pa_nil)) (pe_op op_pow pe_int pe_int) (nomark _)))) (fun _ _ _ _ _ => (pe_callB call_abs (by rfl) z_abs (by decide +kernel) (pa_cons (pv 3) pa_nil))))
      (pss_cons (ps_setLc (i := 5) (own := [("cell", 3)]) (g := (gName 3)) rfl sc_law_store.nd rfl rfl (sw_true rfl rfl rfl (by decide +kernel)) (pi_list (pe_slice sl_list (pv 0) po_none (po_some pe_int))) (blkOk_by (N := ["script", "blend", "place", "cell", "great", "small"]) (sc := defScope s_law_store) (by decide +kernel)) (fun _ _ _ _ _ => (pg_name (i := 3) sc_law_store.nd rfl (by first | exact Or.inl rfl | exact Or.inr rfl))) (fun _ _ _ _ _ => (pts_one (pt_cmpR op_lt (pe_callB call_abs (by rfl) z_abs (by decide +kernel) (pa_cons (pv 3) pa_nil)) (pe_op op_pow pe_int pe_int) (nomark _)))) (fun _ _ _ _ _ => (pe_callB call_abs (by rfl) z_abs (by decide +kernel) (pa_cons (pv 3) pa_nil))))
      (pss_one (ps_ret (pe_lst (pa_cons (pv 4) (pa_cons (pv 1) (pa_cons pe_int (pa_cons (pe_op op_catL (pv 5) (pe_lst (pa_cons pe_int pa_nil))) pa_nil)))))))))))
theorem ok_law_plain_raised {A : Nat → Addr} (F : FnP K "_law_plain_raised" s_law_plain_raised f fd) (V : ∀ i, i < 11 → ExcV K (A i)) (Z : ExcZ K (A 11)) (g_NoAmount : mg "NoAmount" = some (.ref (A 0))) (g_NoLine : mg "NoLine" = some (.ref (A 1))) (g_NoDays : mg "NoDays" = some (.ref (A 2))) (g_NoRule : mg "NoRule" = some (.ref (A 3))) (g_NoTelling : mg "NoTelling" = some (.ref (A 4))) (g_NoStretch : mg "NoStretch" = some (.ref (A 5))) (g_NoTable : mg "NoTable" = some (.ref (A 6))) (g_NoPot : mg "NoPot" = some (.ref (A 7))) (g_NoFold : mg "NoFold" = some (.ref (A 8))) (g_NoLeave : mg "NoLeave" = some (.ref (A 9))) (g_NoDeed : mg "NoDeed" = some (.ref (A 10))) (g_NoPart : mg "NoPart" = some (.ref (A 11))) : FnOk P w K mg base (L2.CX P w) 1 f fd ["which", "text"] (spPl A) := by
  refine F.ok sc_law_plain_raised (fun vs H Q E h => by obtain ⟨_, _, rfl, _⟩ := h; rfl) (fun cdv A' outer s H vs Q E hr h => ⟨t_plain A E, ?_, run_plain h⟩)
  exact (pss_cons (ps_if (pt_cmpR op_eq (pv 0) pe_int (nomark _)) (pss_one (ps_raise rfl (takes_of rfl rfl rfl rfl) (pmk_oneE PySem.F.excBase_ValueError (V 0 (by decide)).q g_NoAmount (V 0 (by decide)).k (raises_own (V 0 (by decide)).s (V 0 (by decide)).t) (by exact rfl) (pv 1)))) pss_nil)
    (pss_cons (ps_if (pt_cmpR op_eq (pv 0) pe_int (nomark _)) (pss_one (ps_raise rfl (takes_of rfl rfl rfl rfl) (pmk_oneE PySem.F.excBase_ValueError (V 1 (by decide)).q g_NoLine (V 1 (by decide)).k (raises_own (V 1 (by decide)).s (V 1 (by decide)).t) (by exact rfl) (pv 1)))) pss_nil)
    (pss_cons (ps_if (pt_cmpR op_eq (pv 0) pe_int (nomark _)) (pss_one (ps_raise rfl (takes_of rfl rfl rfl rfl) (pmk_oneE PySem.F.excBase_ValueError (V 2 (by decide)).q g_NoDays (V 2 (by decide)).k (raises_own (V 2 (by decide)).s (V 2 (by decide)).t) (by exact rfl) (pv 1)))) pss_nil)
    (pss_cons (ps_if (pt_cmpR op_eq (pv 0) pe_int (nomark _)) (pss_one (ps_raise rfl (takes_of rfl rfl rfl rfl) (pmk_oneE PySem.F.excBase_ValueError (V 3 (by decide)).q g_NoRule (V 3 (by decide)).k (raises_own (V 3 (by decide)).s (V 3 (by decide)).t) (by exact rfl) (pv 1)))) pss_nil)
    (pss_cons (ps_if (pt_cmpR op_eq (pv 0) pe_int (nomark _)) (pss_one (ps_raise rfl (takes_of rfl rfl rfl rfl) (pmk_oneE PySem.F.excBase_ValueError (V 4 (by decide)).q g_NoTelling (V 4 (by decide)).k (raises_own (V 4 (by decide)).s (V 4 (by decide)).t) (by exact rfl) (pv 1)))) pss_nil)
    (pss_cons (ps_if (pt_cmpR op_eq (pv 0) pe_int (nomark _)) (pss_one (ps_raise rfl (takes_of rfl rfl rfl rfl) (pmk_oneE PySem.F.excBase_ValueError (V 5 (by decide)).q g_NoStretch (V 5 (by decide)).k (raises_own (V 5 (by decide)).s (V 5 (by decide)).t) (by exact rfl) (pv 1)))) pss_nil)
    (pss_cons (ps_if (pt_cmpR op_eq (pv 0) pe_int (nomark _)) (pss_one (ps_raise rfl (takes_of rfl rfl rfl rfl) (pmk_oneE PySem.F.excBase_ValueError (V 6 (by decide)).q g_NoTable (V 6 (by decide)).k (raises_own (V 6 (by decide)).s (V 6 (by decide)).t) (by exact rfl) (pv 1)))) pss_nil)
    (pss_cons (ps_if (pt_cmpR op_eq (pv 0) pe_int (nomark _)) (pss_one (ps_raise rfl (takes_of rfl rfl rfl rfl) (pmk_oneE PySem.F.excBase_ValueError (V 7 (by decide)).q g_NoPot (V 7 (by decide)).k (raises_own (V 7 (by decide)).s (V 7 (by decide)).t) (by exact rfl) (pv 1)))) pss_nil)
    (pss_cons (ps_if (pt_cmpR op_eq (pv 0) pe_int (nomark _)) (pss_one (ps_raise rfl (takes_of rfl rfl rfl rfl) (pmk_oneE PySem.F.excBase_ValueError (V 8 (by decide)).q g_NoFold (V 8 (by decide)).k (raises_own (V 8 (by decide)).s (V 8 (by decide)).t) (by exact rfl) (pv 1)))) pss_nil)
    (pss_cons (ps_if (pt_cmpR op_eq (pv 0) pe_int (nomark _)) (pss_one (ps_raise rfl (takes_of rfl rfl rfl rfl) (pmk_oneE PySem.F.excBase_ValueError (V 9 (by decide)).q g_NoLeave (V 9 (by decide)).k (raises_own (V 9 (by decide)).s (V 9 (by decide)).t) (by exact rfl) (pv 1)))) pss_nil)
    (pss_cons (ps_if (pt_cmpR op_eq (pv 0) pe_int (nomark _)) (pss_one (ps_raise rfl (takes_of rfl rfl rfl rfl) (pmk_oneE PySem.F.excBase_ValueError (V 10 (by decide)).q g_NoDeed (V 10 (by decide)).k (raises_own (V 10 (by decide)).s (V 10 (by decide)).t) (by exact rfl) (pv 1)))) pss_nil)
    (pss_one (ps_raise rfl (takes_of rfl rfl rfl rfl) (pmk_oneE PySem.F.excBase_ZeroDivisionError Z.q g_NoPart Z.k (raises_own Z.s Z.t) (by exact rfl) (pv 1)))))))))))))))
theorem ok_in_NoText {C : Addr} {Pa : Addr} (g_PayError : mg "PayError" = some (.ref Pa)) (ga : PySem.W.specialIn K (.ref Pa) "__getattribute__" = some (some (.builtin "type.__getattribute__"))) (rd : PySem.W.readsIn K Pa (.type "type") = true) (vV : PySem.W.findCls K (.ref Pa) (.type "type") "__init__" = some (.val (.builtin "ValueError.__init__"))) (T : OwnT K C Pa ∧ PySem.W.findIn K (.ref C) "at" = some none) (F : FunD K "__init__" "NoText.__init__" (defArgs s_in_NoText) (defBody s_in_NoText) (defScope s_in_NoText) [] [] f fd) : FnOk P w K mg base CX0 1 f fd ["self", "at"] (spIn C "at") := by
  refine F.ok sc_in_NoText (fun vs H Q E h => by obtain ⟨_, _, rfl, _⟩ := h; rfl) (fun cdv A outer s H vs Q E hr h => ⟨t_in K C "at" "a word can't stand where it does, or lacks", PSs.nox ?_, run_in h⟩)
  exact pss_cons (ps_expr (pe_iniP (fun c e => by subst e; exact T.1) (by rfl) g_PayError ga rd vV (by decide +kernel) (pa_cons (pv 0) (pa_cons pe_str pa_nil)))) (pss_one (ps_stoE (fun c e => by subst e; exact T) (pv 0) (pv 1)))
theorem ok_in_NoName {C : Addr} (z_KeyError : mg "KeyError" = none) (vV : PySem.W.findCls K (.type "KeyError") (.type "type") "__init__" = some (.val (.builtin "KeyError.__init__"))) (T : OwnK K C ∧ PySem.W.findIn K (.ref C) "name" = some none) (F : FunD K "__init__" "NoName.__init__" (defArgs s_in_NoName) (defBody s_in_NoName) (defScope s_in_NoName) [] [] f fd) : FnOk P w K mg base CX0 1 f fd ["self", "name"] (spIn C "name") := by
  refine F.ok sc_in_NoName (fun vs H Q E h => by obtain ⟨_, _, rfl, _⟩ := h; rfl) (fun cdv A outer s H vs Q E hr h => ⟨t_in K C "name" "this is no name, or nobody has it", PSs.nox ?_, run_in h⟩)
  exact pss_cons (ps_expr (pe_iniE (fun c e => by subst e; exact T.1) (by rfl) z_KeyError (by decide +kernel) (by kernel_rfl) (by decide +kernel) vV (by decide +kernel) (pa_cons (pv 0) (pa_cons pe_str pa_nil)))) (pss_one (ps_stoE (fun c e => by subst e; exact T) (pv 0) (pv 1)))
theorem ok_in_NoNumber {C : Addr} (z_IndexError : mg "IndexError" = none) (vV : PySem.W.findCls K (.type "IndexError") (.type "type") "__init__" = some (.val (.builtin "IndexError.__init__"))) (T : OwnI K C ∧ PySem.W.findIn K (.ref C) "number" = some none) (F : FunD K "__init__" "NoNumber.__init__" (defArgs s_in_NoNumber) (defBody s_in_NoNumber) (defScope s_in_NoNumber) [] [] f fd) : FnOk P w K mg base CX0 1 f fd ["self", "number"] (spIn C "number") := by
  refine F.ok sc_in_NoNumber (fun vs H Q E h => by obtain ⟨_, _, rfl, _⟩ := h; rfl) (fun cdv A outer s H vs Q E hr h => ⟨t_in K C "number" "nothing here has this number", PSs.nox ?_, run_in h⟩)
  exact pss_cons (ps_expr (pe_iniE (fun c e => by subst e; exact T.1) (by rfl) z_IndexError (by decide +kernel) (by kernel_rfl) (by decide +kernel) vV (by decide +kernel) (pa_cons (pv 0) (pa_cons pe_str pa_nil)))) (pss_one (ps_stoE (fun c e => by subst e; exact T) (pv 0) (pv 1)))
theorem ok_in_TooLong {C : Addr} (z_OverflowError : mg "OverflowError" = none) (vV : PySem.W.findCls K (.type "OverflowError") (.type "type") "__init__" = some (.val (.builtin "OverflowError.__init__"))) (T : OwnO K C ∧ PySem.W.findIn K (.ref C) "many" = some none) (F : FunD K "__init__" "TooLong.__init__" (defArgs s_in_TooLong) (defBody s_in_TooLong) (defScope s_in_TooLong) [] [] f fd) : FnOk P w K mg base CX0 1 f fd ["self", "many"] (spIn C "many") := by
  refine F.ok sc_in_TooLong (fun vs H Q E h => by obtain ⟨_, _, rfl, _⟩ := h; rfl) (fun cdv A outer s H vs Q E hr h => ⟨t_in K C "many" "the common period is too long", PSs.nox ?_, run_in h⟩)
  exact pss_cons (ps_expr (pe_iniE (fun c e => by subst e; exact T.1) (by rfl) z_OverflowError (by decide +kernel) (by kernel_rfl) (by decide +kernel) vV (by decide +kernel) (pa_cons (pv 0) (pa_cons pe_str pa_nil)))) (pss_one (ps_stoE (fun c e => by subst e; exact T) (pv 0) (pv 1)))
theorem ok_in_NoCut {C : Addr} (z_LookupError : mg "LookupError" = none) (vV : PySem.W.findCls K (.type "LookupError") (.type "type") "__init__" = some (.val (.builtin "LookupError.__init__"))) (T : OwnL K C ∧ PySem.W.findIn K (.ref C) "last" = some none) (F : FunD K "__init__" "NoCut.__init__" (defArgs s_in_NoCut) (defBody s_in_NoCut) (defScope s_in_NoCut) [] [] f fd) : FnOk P w K mg base CX0 1 f fd ["self", "last"] (spIn C "last") := by
  refine F.ok sc_in_NoCut (fun vs H Q E h => by obtain ⟨_, _, rfl, _⟩ := h; rfl) (fun cdv A outer s H vs Q E hr h => ⟨t_in K C "last" "this is no day, or too early", PSs.nox ?_, run_in h⟩)
  exact pss_cons (ps_expr (pe_iniE (fun c e => by subst e; exact T.1) (by rfl) z_LookupError (by decide +kernel) (by kernel_rfl) (by decide +kernel) vV (by decide +kernel) (pa_cons (pv 0) (pa_cons pe_str pa_nil)))) (pss_one (ps_stoE (fun c e => by subst e; exact T) (pv 0) (pv 1)))
theorem ok_law_bearing_raised {A : Nat → Addr} {Pa : Addr} (F : FnP K "_law_bearing_raised" s_law_bearing_raised f fd) {f12 : Addr} {fd12 : FuncData} (T12 : OwnT K (A 12) Pa ∧ PySem.W.findIn K (.ref (A 12)) "at" = some none) (i12 : PySem.W.findIn K (.ref (A 12)) "__init__" = some (some (.ref f12))) (t12 : PySem.W.typeIn K (.ref f12) = some (.type "function")) (F12 : FnOk P w K mg base CX0 1 f12 fd12 ["self", "at"] (spIn (A 12) "at")) (b12 : Binds K fd12 ["self", "at"] []) {f13 : Addr} {fd13 : FuncData} (T13 : OwnK K (A 13) ∧ PySem.W.findIn K (.ref (A 13)) "name" = some none) (i13 : PySem.W.findIn K (.ref (A 13)) "__init__" = some (some (.ref f13))) (t13 : PySem.W.typeIn K (.ref f13) = some (.type "function")) (F13 : FnOk P w K mg base CX0 1 f13 fd13 ["self", "name"] (spIn (A 13) "name")) (b13 : Binds K fd13 ["self", "name"] []) {f14 : Addr} {fd14 : FuncData} (T14 : OwnI K (A 14) ∧ PySem.W.findIn K (.ref (A 14)) "number" = some none) (i14 : PySem.W.findIn K (.ref (A 14)) "__init__" = some (some (.ref f14))) (t14 : PySem.W.typeIn K (.ref f14) = some (.type "function")) (F14 : FnOk P w K mg base CX0 1 f14 fd14 ["self", "number"] (spIn (A 14) "number")) (b14 : Binds K fd14 ["self", "number"] []) {f15 : Addr} {fd15 : FuncData} (T15 : OwnO K (A 15) ∧ PySem.W.findIn K (.ref (A 15)) "many" = some none) (i15 : PySem.W.findIn K (.ref (A 15)) "__init__" = some (some (.ref f15))) (t15 : PySem.W.typeIn K (.ref f15) = some (.type "function")) (F15 : FnOk P w K mg base CX0 1 f15 fd15 ["self", "many"] (spIn (A 15) "many")) (b15 : Binds K fd15 ["self", "many"] []) {f16 : Addr} {fd16 : FuncData} (T16 : OwnL K (A 16) ∧ PySem.W.findIn K (.ref (A 16)) "last" = some none) (i16 : PySem.W.findIn K (.ref (A 16)) "__init__" = some (some (.ref f16))) (t16 : PySem.W.typeIn K (.ref f16) = some (.type "function")) (F16 : FnOk P w K mg base CX0 1 f16 fd16 ["self", "last"] (spIn (A 16) "last")) (b16 : Binds K fd16 ["self", "last"] []) (g_NoText : mg "NoText" = some (.ref (A 12))) (g_NoName : mg "NoName" = some (.ref (A 13))) (g_NoNumber : mg "NoNumber" = some (.ref (A 14))) (g_TooLong : mg "TooLong" = some (.ref (A 15))) (g_NoCut : mg "NoCut" = some (.ref (A 16))) : FnOk P w K mg base (L2.CX P w) 3 f fd ["which", "thing"] (spBr A) := by
  refine F.ok sc_law_bearing_raised (fun vs H Q E h => by obtain ⟨_, _, rfl, _⟩ := h; rfl) (fun cdv A' outer s H vs Q E hr h => ⟨t_bear A E, ?_, run_bear h⟩)
  exact (pss_cons (ps_if (pt_cmpR op_eq (pv 0) pe_int (nomark _)) (pss_one (ps_raise rfl (takes_of rfl rfl rfl rfl) (pmk_own1 T12.1 i12 t12 F12 (hr.mono (by decide)) b12 pass0 (by rfl) g_NoText (pa_cons (pv 1) pa_nil)))) pss_nil)
    (pss_cons (ps_if (pt_cmpR op_eq (pv 0) pe_int (nomark _)) (pss_one (ps_raise rfl (takes_of rfl rfl rfl rfl) (pmk_own1 T13.1 i13 t13 F13 (hr.mono (by decide)) b13 pass0 (by rfl) g_NoName (pa_cons (pv 1) pa_nil)))) pss_nil)
    (pss_cons (ps_if (pt_cmpR op_eq (pv 0) pe_int (nomark _)) (pss_one (ps_raise rfl (takes_of rfl rfl rfl rfl) (pmk_own1 T14.1 i14 t14 F14 (hr.mono (by decide)) b14 pass0 (by rfl) g_NoNumber (pa_cons (pv 1) pa_nil)))) pss_nil)
    (pss_cons (ps_if (pt_cmpR op_eq (pv 0) pe_int (nomark _)) (pss_one (ps_raise rfl (takes_of rfl rfl rfl rfl) (pmk_own1 T15.1 i15 t15 F15 (hr.mono (by decide)) b15 pass0 (by rfl) g_TooLong (pa_cons (pv 1) pa_nil)))) pss_nil)
    (pss_one (ps_raise rfl (takes_of rfl rfl rfl rfl) (pmk_own1 T16.1 i16 t16 F16 (hr.mono (by decide)) b16 pass0 (by rfl) g_NoCut (pa_cons (pv 1) pa_nil))))))))
theorem ok_law_kinds {A : Nat → Addr} {Pa : Addr} (F : FnP K "_law_kinds" s_law_kinds f fd) (z_isinstance : mg "isinstance" = none) (W : W01 K A Pa) (g_NoAmount : mg "NoAmount" = some (.ref (A 0))) (g_NoLine : mg "NoLine" = some (.ref (A 1))) (g_NoDays : mg "NoDays" = some (.ref (A 2))) (g_NoRule : mg "NoRule" = some (.ref (A 3))) (g_NoTelling : mg "NoTelling" = some (.ref (A 4))) (g_NoStretch : mg "NoStretch" = some (.ref (A 5))) (g_NoTable : mg "NoTable" = some (.ref (A 6))) (g_NoPot : mg "NoPot" = some (.ref (A 7))) (g_NoFold : mg "NoFold" = some (.ref (A 8))) (g_NoLeave : mg "NoLeave" = some (.ref (A 9))) (g_NoDeed : mg "NoDeed" = some (.ref (A 10))) (g_NoPart : mg "NoPart" = some (.ref (A 11))) (g_NoText : mg "NoText" = some (.ref (A 12))) (g_NoName : mg "NoName" = some (.ref (A 13))) (g_NoNumber : mg "NoNumber" = some (.ref (A 14))) (g_TooLong : mg "TooLong" = some (.ref (A 15))) (g_NoCut : mg "NoCut" = some (.ref (A 16))) : FnOk P w K mg base CX0 1 f fd ["error"] (spKi A) := by
  refine F.ok sc_law_kinds (fun vs H Q E h => by obtain ⟨_, _, _, rfl, _⟩ := h; rfl) (fun cdv A' outer s H vs Q E hr h => ⟨t_kinds K A Pa, PSs.nox ?_, run_kinds W h⟩)
  exact (pss_cons (ps_set (i := 1) sc_law_kinds.nd rfl (by first | exact Or.inl rfl | exact Or.inr rfl) (pe_lst (pa_cons (pe_callB call_isD (by rfl) z_isinstance (by decide +kernel) (pa_cons (pv 0) (pa_cons (pe_glob (by rfl) g_NoAmount rfl) pa_nil))) (pa_cons (pe_callB call_isD (by rfl) z_isinstance (by decide +kernel) (pa_cons (pv 0) (pa_cons (pe_glob (by rfl) g_NoLine rfl) pa_nil))) (pa_cons (pe_callB call_isD (by rfl) z_isinstance (by decide +kernel) (pa_cons (pv 0) (pa_cons (pe_glob (by rfl) g_NoDays rfl) pa_nil))) pa_nil)))))
    (pss_cons (ps_set (i := 1) sc_law_kinds.nd rfl (by first | exact Or.inl rfl | exact Or.inr rfl) (pe_op op_catL (pv 1) (pe_lst (pa_cons (pe_callB call_isD (by rfl) z_isinstance (by decide +kernel) (pa_cons (pv 0) (pa_cons (pe_glob (by rfl) g_NoRule rfl) pa_nil))) (pa_cons (pe_callB call_isD (by rfl) z_isinstance (by decide +kernel) (pa_cons (pv 0) (pa_cons (pe_glob (by rfl) g_NoTelling rfl) pa_nil))) (pa_cons (pe_callB call_isD (by rfl) z_isinstance (by decide +kernel) (pa_cons (pv 0) (pa_cons (pe_glob (by rfl) g_NoStretch rfl) pa_nil))) pa_nil))))))
    (pss_cons (ps_set (i := 1) sc_law_kinds.nd rfl (by first | exact Or.inl rfl | exact Or.inr rfl) (pe_op op_catL (pv 1) (pe_lst (pa_cons (pe_callB call_isD (by rfl) z_isinstance (by decide +kernel) (pa_cons (pv 0) (pa_cons (pe_glob (by rfl) g_NoTable rfl) pa_nil))) (pa_cons (pe_callB call_isD (by rfl) z_isinstance (by decide +kernel) (pa_cons (pv 0) (pa_cons (pe_glob (by rfl) g_NoPot rfl) pa_nil))) (pa_cons (pe_callB call_isD (by rfl) z_isinstance (by decide +kernel) (pa_cons (pv 0) (pa_cons (pe_glob (by rfl) g_NoFold rfl) pa_nil))) pa_nil))))))
    (pss_cons (ps_set (i := 1) sc_law_kinds.nd rfl (by first | exact Or.inl rfl | exact Or.inr rfl) (pe_op op_catL (pv 1) (pe_lst (pa_cons (pe_callB call_isD (by rfl) z_isinstance (by decide +kernel) (pa_cons (pv 0) (pa_cons (pe_glob (by rfl) g_NoLeave rfl) pa_nil))) (pa_cons (pe_callB call_isD (by rfl) z_isinstance (by decide +kernel) (pa_cons (pv 0) (pa_cons (pe_glob (by rfl) g_NoDeed rfl) pa_nil))) (pa_cons (pe_callB call_isD (by rfl) z_isinstance (by decide +kernel) (pa_cons (pv 0) (pa_cons (pe_glob (by rfl) g_NoPart rfl) pa_nil))) pa_nil))))))
    (pss_cons (ps_set (i := 1) sc_law_kinds.nd rfl (by first | exact Or.inl rfl | exact Or.inr rfl) (pe_op op_catL (pv 1) (pe_lst (pa_cons (pe_callB call_isD (by rfl) z_isinstance (by decide +kernel) (pa_cons (pv 0) (pa_cons (pe_glob (by rfl) g_NoText rfl) pa_nil))) (pa_cons (pe_callB call_isD (by rfl) z_isinstance (by decide +kernel) (pa_cons (pv 0) (pa_cons (pe_glob (by rfl) g_NoName rfl) pa_nil))) (pa_cons (pe_callB call_isD (by rfl) z_isinstance (by decide +kernel) (pa_cons (pv 0) (pa_cons (pe_glob (by rfl) g_NoNumber rfl) pa_nil))) pa_nil))))))
    (pss_one (ps_ret (pe_op op_catL (pv 1) (pe_lst (pa_cons (pe_callB call_isD (by rfl) z_isinstance (by decide +kernel) (pa_cons (pv 0) (pa_cons (pe_glob (by rfl) g_TooLong rfl) pa_nil))) (pa_cons (pe_callB call_isD (by rfl) z_isinstance (by decide +kernel) (pa_cons (pv 0) (pa_cons (pe_glob (by rfl) g_NoCut rfl) pa_nil))) pa_nil)))))))))))
theorem ok_law_under {A : Nat → Addr} {Pa : Addr} (F : FnP K "_law_under" s_law_under f fd) (z_isinstance : mg "isinstance" = none) (W : W01 K A Pa) (g_PayError : mg "PayError" = some (.ref Pa)) (z_ValueError : mg "ValueError" = none) (z_ZeroDivisionError : mg "ZeroDivisionError" = none) (z_KeyError : mg "KeyError" = none) (z_IndexError : mg "IndexError" = none) (z_OverflowError : mg "OverflowError" = none) (z_LookupError : mg "LookupError" = none) : FnOk P w K mg base CX0 1 f fd ["error"] (spUn A) := by
  refine F.ok sc_law_under (fun vs H Q E h => by obtain ⟨_, _, _, rfl, _⟩ := h; rfl) (fun cdv A' outer s H vs Q E hr h => ⟨t_under K A Pa, PSs.nox ?_, run_under W h⟩)
  exact (pss_cons (ps_set (i := 1) sc_law_under.nd rfl (by first | exact Or.inl rfl | exact Or.inr rfl) (pe_lst (pa_cons (pe_callB call_isD (by rfl) z_isinstance (by decide +kernel) (pa_cons (pv 0) (pa_cons (pe_glob (by rfl) g_PayError rfl) pa_nil))) (pa_cons (pe_callB call_isD (by rfl) z_isinstance (by decide +kernel) (pa_cons (pv 0) (pa_cons (pe_bltn (by rfl) z_ValueError (by decide +kernel) rfl) pa_nil))) (pa_cons (pe_callB call_isD (by rfl) z_isinstance (by decide +kernel) (pa_cons (pv 0) (pa_cons (pe_bltn (by rfl) z_ZeroDivisionError (by decide +kernel) rfl) pa_nil))) pa_nil)))))
    (pss_cons (ps_set (i := 1) sc_law_under.nd rfl (by first | exact Or.inl rfl | exact Or.inr rfl) (pe_op op_catL (pv 1) (pe_lst (pa_cons (pe_callB call_isD (by rfl) z_isinstance (by decide +kernel) (pa_cons (pv 0) (pa_cons (pe_bltn (by rfl) z_KeyError (by decide +kernel) rfl) pa_nil))) (pa_cons (pe_callB call_isD (by rfl) z_isinstance (by decide +kernel) (pa_cons (pv 0) (pa_cons (pe_bltn (by rfl) z_IndexError (by decide +kernel) rfl) pa_nil))) (pa_cons (pe_callB call_isD (by rfl) z_isinstance (by decide +kernel) (pa_cons (pv 0) (pa_cons (pe_bltn (by rfl) z_OverflowError (by decide +kernel) rfl) pa_nil))) pa_nil))))))
    (pss_one (ps_ret (pe_op op_catL (pv 1) (pe_lst (pa_cons (pe_callB call_isD (by rfl) z_isinstance (by decide +kernel) (pa_cons (pv 0) (pa_cons (pe_bltn (by rfl) z_LookupError (by decide +kernel) rfl) pa_nil))) pa_nil)))))))
theorem ok_law_under_due  (F : FnP K "_law_under_due" s_law_under_due f fd)   : FnOk P w K mg base CX0 1 f fd ["which"] (spP K TDue) := by
  refine F.ok sc_law_under_due (fun vs H Q E h => spP_len (n := 1) (fun ds Φ ⟨_, e, _⟩ => by rw [e]; rfl) h) (fun cdv A outer s H vs Q E hr h => ⟨t_due K, PSs.nox ?_, run_P h fun ds Φ t => ws_due t⟩)
  exact (pss_cons (ps_if (PW.pt (pw_or (pt_cmpR op_lt (pv 0) pe_int (nomark _)) (pw_or1 (pt_cmpR op_eq (pv 0) pe_int (nomark _))))) (pss_one (ps_ret (pe_lst (pa_cons pe_bl (pa_cons pe_bl (pa_cons pe_bl (pa_cons pe_bl (pa_cons pe_bl (pa_cons pe_bl (pa_cons pe_bl pa_nil)))))))))) pss_nil)
      (pss_cons (ps_if (pt_cmpR op_eq (pv 0) pe_int (nomark _)) (pss_one (ps_ret (pe_lst (pa_cons pe_bl (pa_cons pe_bl (pa_cons pe_bl (pa_cons pe_bl (pa_cons pe_bl (pa_cons pe_bl (pa_cons pe_bl pa_nil)))))))))) pss_nil)
      (pss_cons (ps_if (pt_cmpR op_eq (pv 0) pe_int (nomark _)) (pss_one (ps_ret (pe_lst (pa_cons pe_bl (pa_cons pe_bl (pa_cons pe_bl (pa_cons pe_bl (pa_cons pe_bl (pa_cons pe_bl (pa_cons pe_bl pa_nil)))))))))) pss_nil)
      (pss_cons (ps_if (pt_cmpR op_eq (pv 0) pe_int (nomark _)) (pss_one (ps_ret (pe_lst (pa_cons pe_bl (pa_cons pe_bl (pa_cons pe_bl (pa_cons pe_bl (pa_cons pe_bl (pa_cons pe_bl (pa_cons pe_bl pa_nil)))))))))) pss_nil)
      (pss_cons (ps_if (pt_cmpR op_eq (pv 0) pe_int (nomark _)) (pss_one (ps_ret (pe_lst (pa_cons pe_bl (pa_cons pe_bl (pa_cons pe_bl (pa_cons pe_bl (pa_cons pe_bl (pa_cons pe_bl (pa_cons pe_bl pa_nil)))))))))) pss_nil)
      (pss_one (ps_ret (pe_lst (pa_cons pe_bl (pa_cons pe_bl (pa_cons pe_bl (pa_cons pe_bl (pa_cons pe_bl (pa_cons pe_bl (pa_cons pe_bl pa_nil)))))))))))))))
theorem ok_law_caught {A : Nat → Addr} {Pa : Addr} (F : FnP K "_law_caught" s_law_caught f fd) (W : W01 K A Pa) (hP : Has P w K mg base (L2.CX P w) "_law_plain_raised" 1 ["which", "text"] (spPl A) []) (hB : Has P w K mg base (L2.CX P w) "_law_bearing_raised" 3 ["which", "thing"] (spBr A) []) (g_PayError : mg "PayError" = some (.ref Pa)) (g_NoPart : mg "NoPart" = some (.ref (A 11))) (g_NoName : mg "NoName" = some (.ref (A 13))) (g_NoNumber : mg "NoNumber" = some (.ref (A 14))) (g_TooLong : mg "TooLong" = some (.ref (A 15))) (g_NoCut : mg "NoCut" = some (.ref (A 16))) : FnOk P w K mg base CX0 4 f fd ["which", "thing"] (spCa A) := by
  refine F.ok sc_law_caught (fun vs H Q E h => by obtain ⟨_, _, rfl, _⟩ := h; rfl) (fun cdv A' outer s H vs Q E hr h => ⟨t_ca K A Pa, PSs.nox ?_, run_ca W h⟩)
  exact pss_cons (ps_set (i := 2) sc_law_caught.nd rfl (by first | exact Or.inl rfl | exact Or.inr rfl) pe_non)
    (pss_cons (ps_try_keepT (i := 3) (tb := tb_ca A) (ts := ts_ca) rfl rfl sc_law_caught.nd rfl rfl (.cons ⟨rfl, by decide, .inl g_PayError⟩ (.cons ⟨rfl, by decide, .inl g_NoPart⟩ (.cons ⟨rfl, by decide, .inl g_NoName⟩ (.cons ⟨rfl, by decide, .inl g_NoNumber⟩ (.cons ⟨rfl, by decide, .inl g_TooLong⟩ (.cons ⟨rfl, by decide, .inl g_NoCut⟩ .nil)))))) (by show 6 ≤ 100; decide)
      (fun W pn xe tk => pss_one (ps_if (pt_cmpR op_lt (pv 0) pe_int (nomark _))
        (pss_one (ps_expr (pe_hasS hP (hr.mono (by decide)) (fun σ => passAt tk σ) (pa_cons (pv 0) (pa_cons (pv 1) pa_nil)))))
        (pss_one (ps_expr (pe_hasS hB (hr.mono (by decide)) (fun σ => passAt tk σ) (pa_cons (pv 0) (pa_cons (pv 1) pa_nil)))))))
      (fun a oe pn => pss_one (ps_set (i := 2) sc_law_caught.nd rfl (by first | exact Or.inl rfl | exact Or.inr rfl) (pv 3))))
    (pss_one (ps_ret (pv 2))))
theorem ok_law_borne {A : Nat → Addr} {Pa : Addr} (F : FnP K "_law_borne" s_law_borne f fd) (z_isinstance : mg "isinstance" = none) (W : W01 K A Pa) (g_NoText : mg "NoText" = some (.ref (A 12))) (g_NoName : mg "NoName" = some (.ref (A 13))) (g_NoNumber : mg "NoNumber" = some (.ref (A 14))) (g_TooLong : mg "TooLong" = some (.ref (A 15))) : FnOk P w K mg base CX0 1 f fd ["which", "error"] (spBo A) := by
  refine F.ok sc_law_borne (fun vs H Q E h => by obtain ⟨_, _, _, _, _, rfl, _⟩ := h; rfl) (fun cdv A' outer s H vs Q E hr h => ⟨t_borne K A, PSs.nox ?_, run_borne W h⟩)
  exact (pss_cons (ps_if (pt_val (pe_callB call_isD (by rfl) z_isinstance (by decide +kernel) (pa_cons (pv 1) (pa_cons (pe_glob (by rfl) g_NoText rfl) pa_nil)))) (pss_one (ps_ret (pe_ef (pv 1)))) pss_nil)
    (pss_cons (ps_if (pt_val (pe_callB call_isD (by rfl) z_isinstance (by decide +kernel) (pa_cons (pv 1) (pa_cons (pe_glob (by rfl) g_NoName rfl) pa_nil)))) (pss_one (ps_ret (pe_ef (pv 1)))) pss_nil)
    (pss_cons (ps_if (pt_val (pe_callB call_isD (by rfl) z_isinstance (by decide +kernel) (pa_cons (pv 1) (pa_cons (pe_glob (by rfl) g_NoNumber rfl) pa_nil)))) (pss_one (ps_ret (pe_ef (pv 1)))) pss_nil)
    (pss_one (ps_ret (pe_ifExp (pt_val (pe_callB call_isD (by rfl) z_isinstance (by decide +kernel) (pa_cons (pv 1) (pa_cons (pe_glob (by rfl) g_TooLong rfl) pa_nil)))) (pe_ef (pv 1)) (pe_ef (pv 1))))))))
theorem ok_law_thing  (F : FnP K "_law_thing" s_law_thing f fd) (z_range : mg "range" = none) (h__law_draw : Has P w K mg base CX0 "_law_draw" 3 ["store", "many"] (spS K FSto TDr) [])  : FnOk P w K mg base CX0 4 f fd ["store", "which"] (spS K FSto TBorn) := by
  refine F.ok sc_law_thing (fun vs H Q E h => spS_len (n := 1) (fun B ds Φ ⟨_, e, _⟩ => by rw [e]; rfl) h) (fun cdv A outer s H vs Q E hr h => ⟨t_born K, PSs.nox ?_, run_S h (fun S B ds Φ hF t => ws_born hF t) (by decide)⟩)
  exact (pss_cons (ps_set (i := 2) sc_law_thing.nd rfl (by first | exact Or.inl rfl | exact Or.inr rfl) (pe_ifExp (pt_cmpR op_in_seq (pv 1) (pe_tup (pa_cons pe_int (pa_cons pe_int pa_nil))) (by rfl)) (pe_has h__law_draw (hr.mono (by decide)) pass0 (pa_cons (pv 0) (pa_cons pe_int pa_nil))) pe_int))
      (pss_cons (ps_set (i := 3) sc_law_thing.nd rfl (by first | exact Or.inl rfl | exact Or.inr rfl) pe_str)
      (pss_cons (ps_set (i := 4) sc_law_thing.nd rfl (by first | exact Or.inl rfl | exact Or.inr rfl) (pe_join pe_str (pe_lc (own := [("k", 6)]) (g := (gName 6)) rfl sc_law_thing.nd (pi_range1 rfl z_range (pa_cons (pe_has h__law_draw (hr.mono (by decide)) pass0 (pa_cons (pv 0) (pa_cons pe_int pa_nil))) pa_nil)) (blkOk_by (N := ["store", "which", "way", "letters", "word", "number", "k"]) (sc := defScope s_law_thing) (by decide +kernel)) (fun _ _ _ _ _ => (pg_name (i := 6) sc_law_thing.nd rfl (by first | exact Or.inl rfl | exact Or.inr rfl))) (fun _ _ _ _ _ => pts_nil) (fun _ _ _ _ _ => (pe_ix ix_str (pv 3) (pe_has h__law_draw (hr.mono (by decide)) pass0 (pa_cons (pv 0) (pa_cons pe_int pa_nil))) (fun _ _ => rfl))))))
      (pss_cons (ps_set (i := 5) sc_law_thing.nd rfl (by first | exact Or.inl rfl | exact Or.inr rfl) (pe_op op_mulW (pe_has h__law_draw (hr.mono (by decide)) pass0 (pa_cons (pv 0) (pa_cons (pe_ix ix_list (pe_lst (pa_cons pe_int (pa_cons (pe_op op_pow pe_int pe_int) (pa_cons (pe_op op_pow pe_int pe_int) pa_nil)))) (pe_has h__law_draw (hr.mono (by decide)) pass0 (pa_cons (pv 0) (pa_cons pe_int pa_nil))) (fun _ _ => rfl)) pa_nil))) (pe_ix ix_list (pe_lst (pa_cons pe_int (pa_cons (pe_un un_neg pe_int) pa_nil))) (pe_has h__law_draw (hr.mono (by decide)) pass0 (pa_cons (pv 0) (pa_cons pe_int pa_nil))) (fun _ _ => rfl))))
      (pss_one (ps_ret (pe_ix ix_list (pe_lst (pa_cons (pe_lst (pa_cons (pv 5) pa_nil)) (pa_cons (pv 4) (pa_cons pe_non (pa_cons pe_bl (pa_cons (pe_tup (pa_cons (pv 5) (pa_cons (pv 4) pa_nil))) (pa_cons (pv 5) pa_nil))))))) (pv 2) (fun _ _ => rfl))))))))
theorem ok_law {A : Nat → Addr} {Pa : Addr} (F : FnP K "law" s_law f fd) (z_len : mg "len" = none) (z_min : mg "min" = none) (z_range : mg "range" = none) (z_repr : mg "repr" = none) (h__law_borne : Has P w K mg base CX0 "_law_borne" 1 ["which", "error"] (spBo A) []) (h__law_caught : Has P w K mg base CX0 "_law_caught" 4 ["which", "thing"] (spCa A) []) (h__law_draw : Has P w K mg base CX0 "_law_draw" 3 ["store", "many"] (spS K FSto TDr) []) (h__law_kinds : Has P w K mg base CX0 "_law_kinds" 1 ["error"] (spKi A) []) (h__law_store : Has P w K mg base CX0 "_law_store" 1 ["script"] (spMk K) []) (h__law_thing : Has P w K mg base CX0 "_law_thing" 4 ["store", "which"] (spS K FSto TBorn) []) (h__law_under : Has P w K mg base CX0 "_law_under" 1 ["error"] (spUn A) []) (h__law_under_due : Has P w K mg base CX0 "_law_under_due" 1 ["which"] (spP K TDue) []) (W : W01 K A Pa) : FnG P w K mg base CX0 5 f fd ["script"] (spLaw K) := by
  refine FunD_okG F sc_law (fun vs H Q E h => by obtain ⟨_, _, rfl, _⟩ := h; rfl) (fun cdv Ar outer s H vs Q E hgd hr h => ⟨tSeq (tAsg (tCall (spMk K) [] E0 (tCons (tVar 0) tNil)) (gName 1)) (t_law01 K A), PSs.nox ?_, run_law (n := 6) rfl h fun S ns hF hl => ws_law01 W hF hl⟩)
  exact (pss_cons (ps_set (i := 1) sc_law.nd rfl (by first | exact Or.inl rfl | exact Or.inr rfl) (pe_has h__law_store (hr.mono (by decide)) pass0 (pa_cons (pv 0) pa_nil)))
      (pss_cons (ps_for PassesOwn.never rfl (pi_range1 rfl z_range (pa_cons (pe_op op_add pe_int (pe_callB (call_min2 rfl) (by rfl) z_min (by decide +kernel) (pa_cons pe_int (pa_cons (pe_callB call_len_seq (by rfl) z_len PySem.boot_len (pa_cons (pv 0) pa_nil)) pa_nil)))) pa_nil)) (pg_name (i := 2) sc_law.nd rfl (by first | exact Or.inl rfl | exact Or.inr rfl)) (pss_cons (ps_set (i := 3) sc_law.nd rfl (by first | exact Or.inl rfl | exact Or.inr rfl) (pe_ifExp (pt_cmpR op_gt (pv 2) pe_int (nomark _)) (pe_has h__law_draw (hr.mono (by decide)) pass0 (pa_cons (pv 1) (pa_cons pe_int pa_nil))) (pv 2)))
      (pss_cons (ps_set (i := 4) sc_law.nd rfl (by first | exact Or.inl rfl | exact Or.inr rfl) (pe_has h__law_thing (hr.mono (by decide)) pass0 (pa_cons (pv 1) (pa_cons (pv 3) pa_nil))))
      (pss_cons (ps_set (i := 5) sc_law.nd rfl (by first | exact Or.inl rfl | exact Or.inr rfl) (pe_ifExp (pt_cmpR op_eq (pe_has h__law_draw (hr.mono (by decide)) pass0 (pa_cons (pv 1) (pa_cons pe_int pa_nil))) pe_int (nomark _)) pe_str pe_str))
      (pss_cons (ps_set (i := 6) sc_law.nd rfl (by first | exact Or.inl rfl | exact Or.inr rfl) (pe_has h__law_caught (hr.mono (by decide)) pass0 (pa_cons (pv 3) (pa_cons (pe_ifExp (pt_cmpR op_lt (pv 3) pe_int (nomark _)) (pv 5) (pv 4)) pa_nil))))
      (pss_cons (ps_if (PW.pt (pw_or (pt_cmpR (op_neD hr.units) (pe_has h__law_kinds (hr.mono (by decide)) pass0 (pa_cons (pv 6) pa_nil)) (pe_lc (own := [("at", 7)]) (g := (gName 7)) rfl sc_law.nd (pi_range1 rfl z_range (pa_cons pe_int pa_nil)) (blkOk_by (N := ["script", "store", "turn", "which", "thing", "text", "caught", "at"]) (sc := defScope s_law) (by decide +kernel)) (fun _ _ _ _ _ => (pg_name (i := 7) sc_law.nd rfl (by first | exact Or.inl rfl | exact Or.inr rfl))) (fun _ _ _ _ _ => pts_nil) (fun _ _ _ _ _ => (pe_cmpR op_eq (pv 7) (pv 3) (nomark _)))) (nomark _)) (pw_or1 (pt_cmpR (op_neD hr.units) (pe_has h__law_under (hr.mono (by decide)) pass0 (pa_cons (pv 6) pa_nil)) (pe_has h__law_under_due (hr.mono (by decide)) pass0 (pa_cons (pv 3) pa_nil)) (nomark _))))) (pss_one (ps_ret pe_bl)) pss_nil)
      (pss_one (ps_if (PW.pt (pw_and (pt_cmpR op_gt (pv 3) pe_int (nomark _)) (pw_and1 (pt_cmpR op_ne (pe_callB (call_reprY hgd hr.units) (by rfl) z_repr (by decide +kernel) (pa_cons (pe_has h__law_borne (hr.mono (by decide)) pass0 (pa_cons (pv 3) (pa_cons (pv 6) pa_nil))) pa_nil)) (pe_callB (call_reprY hgd hr.units) (by rfl) z_repr (by decide +kernel) (pa_cons (pv 4) pa_nil)) (nomark _))))) (pss_one (ps_ret pe_bl)) pss_nil))))))))
      (pss_one (ps_ret pe_bl))))
end
end DL

set_option Elab.async false
set_option linter.all false
set_option maxRecDepth 100000
set_option maxHeartbeats 4000000
namespace DL
open PySem PySem.Spec PyProof.Rows L2
theorem facts {P : Program} {w : World} {K : PySem.W.Frag} {h : Heap} {mg : Str → Option Value} {f : Addr} (X : K.In h) (G : h.Ns mainGlobals mg) (hfa : mg ("law" : Str) = some (.ref f)) (c : He.SaysD fa fn K) (ce : ex K = true) :
    ∃ fd : FuncData, (∀ (s : Shared) (v : Value), BindsTo s fd ⟨[v], []⟩ [("script", v)]) ∧ ∀ base : Heap, K.In base → base.Ns mainGlobals mg → FnG P w K mg base CX0 5 f fd ["script"] (spLaw K) := by
  obtain ⟨ce, x23⟩ := He.ba ce
  obtain ⟨ce, x22⟩ := He.ba ce
  obtain ⟨ce, x21⟩ := He.ba ce
  obtain ⟨ce, x20⟩ := He.ba ce
  obtain ⟨ce, x19⟩ := He.ba ce
  obtain ⟨ce, x18⟩ := He.ba ce
  obtain ⟨ce, x17⟩ := He.ba ce
  obtain ⟨ce, x16⟩ := He.ba ce
  obtain ⟨ce, x15⟩ := He.ba ce
  obtain ⟨ce, x14⟩ := He.ba ce
  obtain ⟨ce, x13⟩ := He.ba ce
  obtain ⟨ce, x12⟩ := He.ba ce
  obtain ⟨ce, x11⟩ := He.ba ce
  obtain ⟨ce, x10⟩ := He.ba ce
  obtain ⟨ce, x9⟩ := He.ba ce
  obtain ⟨ce, x8⟩ := He.ba ce
  obtain ⟨ce, x7⟩ := He.ba ce
  obtain ⟨ce, x6⟩ := He.ba ce
  obtain ⟨ce, x5⟩ := He.ba ce
  obtain ⟨ce, x4⟩ := He.ba ce
  obtain ⟨ce, x3⟩ := He.ba ce
  obtain ⟨ce, x2⟩ := He.ba ce
  obtain ⟨ce, x1⟩ := He.ba ce
  obtain ⟨ce, x0⟩ := He.ba ce
  obtain ⟨fd_law_draw, F_law_draw⟩ := c.def_ 0 (d := d_law_draw) rfl
  have g_law_draw := He.glo_ok X G (c.fact 0 (f := .glo "_law_draw") rfl)
  obtain ⟨fd_law_store, F_law_store⟩ := c.def_ 1 (d := d_law_store) rfl
  have g_law_store := He.glo_ok X G (c.fact 1 (f := .glo "_law_store") rfl)
  obtain ⟨fd_law_plain_raised, F_law_plain_raised⟩ := c.def_ 2 (d := d_law_plain_raised) rfl
  have g_law_plain_raised := He.glo_ok X G (c.fact 2 (f := .glo "_law_plain_raised") rfl)
  obtain ⟨fd_law_bearing_raised, F_law_bearing_raised⟩ := c.def_ 3 (d := d_law_bearing_raised) rfl
  have g_law_bearing_raised := He.glo_ok X G (c.fact 3 (f := .glo "_law_bearing_raised") rfl)
  obtain ⟨fd_law_kinds, F_law_kinds⟩ := c.def_ 4 (d := d_law_kinds) rfl
  have g_law_kinds := He.glo_ok X G (c.fact 4 (f := .glo "_law_kinds") rfl)
  obtain ⟨fd_law_under, F_law_under⟩ := c.def_ 5 (d := d_law_under) rfl
  have g_law_under := He.glo_ok X G (c.fact 5 (f := .glo "_law_under") rfl)
  obtain ⟨fd_law_under_due, F_law_under_due⟩ := c.def_ 6 (d := d_law_under_due) rfl
  have g_law_under_due := He.glo_ok X G (c.fact 6 (f := .glo "_law_under_due") rfl)
  obtain ⟨fd_law_caught, F_law_caught⟩ := c.def_ 7 (d := d_law_caught) rfl
  have g_law_caught := He.glo_ok X G (c.fact 7 (f := .glo "_law_caught") rfl)
  obtain ⟨fd_law_borne, F_law_borne⟩ := c.def_ 8 (d := d_law_borne) rfl
  have g_law_borne := He.glo_ok X G (c.fact 8 (f := .glo "_law_borne") rfl)
  obtain ⟨fd_law_thing, F_law_thing⟩ := c.def_ 9 (d := d_law_thing) rfl
  have g_law_thing := He.glo_ok X G (c.fact 9 (f := .glo "_law_thing") rfl)
  obtain ⟨fd_law, F_law⟩ := c.def_ 10 (d := d_law) rfl
  have g_law := He.glo_ok X G (c.fact 10 (f := .glo "law") rfl)
  obtain ⟨fd_in_NoText, F_in_NoText⟩ := c.def_ 11 (d := d_in_NoText) rfl
  obtain ⟨fd_in_NoName, F_in_NoName⟩ := c.def_ 12 (d := d_in_NoName) rfl
  obtain ⟨fd_in_NoNumber, F_in_NoNumber⟩ := c.def_ 13 (d := d_in_NoNumber) rfl
  obtain ⟨fd_in_TooLong, F_in_TooLong⟩ := c.def_ 14 (d := d_in_TooLong) rfl
  obtain ⟨fd_in_NoCut, F_in_NoCut⟩ := c.def_ 15 (d := d_in_NoCut) rfl
  have g_NoAmount := He.glo_ok X G (c.fact 11 (f := .glo "NoAmount") rfl)
  have g_NoLine := He.glo_ok X G (c.fact 12 (f := .glo "NoLine") rfl)
  have g_NoDays := He.glo_ok X G (c.fact 13 (f := .glo "NoDays") rfl)
  have g_NoRule := He.glo_ok X G (c.fact 14 (f := .glo "NoRule") rfl)
  have g_NoTelling := He.glo_ok X G (c.fact 15 (f := .glo "NoTelling") rfl)
  have g_NoStretch := He.glo_ok X G (c.fact 16 (f := .glo "NoStretch") rfl)
  have g_NoTable := He.glo_ok X G (c.fact 17 (f := .glo "NoTable") rfl)
  have g_NoPot := He.glo_ok X G (c.fact 18 (f := .glo "NoPot") rfl)
  have g_NoFold := He.glo_ok X G (c.fact 19 (f := .glo "NoFold") rfl)
  have g_NoLeave := He.glo_ok X G (c.fact 20 (f := .glo "NoLeave") rfl)
  have g_NoDeed := He.glo_ok X G (c.fact 21 (f := .glo "NoDeed") rfl)
  have g_NoPart := He.glo_ok X G (c.fact 22 (f := .glo "NoPart") rfl)
  have g_NoText := He.glo_ok X G (c.fact 23 (f := .glo "NoText") rfl)
  have g_NoName := He.glo_ok X G (c.fact 24 (f := .glo "NoName") rfl)
  have g_NoNumber := He.glo_ok X G (c.fact 25 (f := .glo "NoNumber") rfl)
  have g_TooLong := He.glo_ok X G (c.fact 26 (f := .glo "TooLong") rfl)
  have g_NoCut := He.glo_ok X G (c.fact 27 (f := .glo "NoCut") rfl)
  have g_PayError := He.glo_ok X G (c.fact 28 (f := .glo "PayError") rfl)
  have z_IndexError := He.free_ok X G (c.fact 29 (f := .free "IndexError") rfl)
  have z_KeyError := He.free_ok X G (c.fact 30 (f := .free "KeyError") rfl)
  have z_LookupError := He.free_ok X G (c.fact 31 (f := .free "LookupError") rfl)
  have z_OverflowError := He.free_ok X G (c.fact 32 (f := .free "OverflowError") rfl)
  have z_ValueError := He.free_ok X G (c.fact 33 (f := .free "ValueError") rfl)
  have z_ZeroDivisionError := He.free_ok X G (c.fact 34 (f := .free "ZeroDivisionError") rfl)
  have z_abs := He.free_ok X G (c.fact 35 (f := .free "abs") rfl)
  have z_enumerate := He.free_ok X G (c.fact 36 (f := .free "enumerate") rfl)
  have z_isinstance := He.free_ok X G (c.fact 37 (f := .free "isinstance") rfl)
  have z_len := He.free_ok X G (c.fact 38 (f := .free "len") rfl)
  have z_min := He.free_ok X G (c.fact 39 (f := .free "min") rfl)
  have z_range := He.free_ok X G (c.fact 40 (f := .free "range") rfl)
  have z_repr := He.free_ok X G (c.fact 41 (f := .free "repr") rfl)
  have z_str := He.free_ok X G (c.fact 42 (f := .free "str") rfl)
  have W01_ := w01_ok x0
  have V : ∀ i, i < 11 → ExcV K (aN K i) := fun i hi => excV_ok (List.all_eq_true.mp x1 i (List.mem_range.mpr hi))
  have Z := excZ_ok x2
  obtain ⟨r1, r2⟩ := He.ba x3
  replace r1 := of_decide_eq_true r1
  have vT := iniB_ok x4
  have T12 := ownT_ok x5
  have i12 := of_decide_eq_true x6
  have t12 := of_decide_eq_true x7
  have T13 := ownK_ok x8
  have i13 := of_decide_eq_true x9
  have t13 := of_decide_eq_true x10
  have v13 := iniB_ok x11
  have T14 := ownI_ok x12
  have i14 := of_decide_eq_true x13
  have t14 := of_decide_eq_true x14
  have v14 := iniB_ok x15
  have T15 := ownO_ok x16
  have i15 := of_decide_eq_true x17
  have t15 := of_decide_eq_true x18
  have v15 := iniB_ok x19
  have T16 := ownL_ok x20
  have i16 := of_decide_eq_true x21
  have t16 := of_decide_eq_true x22
  have v16 := iniB_ok x23
  have e := hfa.symm.trans g_law
  cases e
  refine ⟨fd_law, fun s v => FunD.bindsA (ps := ["script"]) F_law (fun _ _ _ _ _ _ us hl => match us, hl with | [_], _ => rfl) s [v] rfl, fun base _ _ => ?_⟩
  have h__law_draw : Has P w K mg base CX0 "_law_draw" 1 ["store", "many"] spNo [] := has_of (fn_no F_law_draw sc_law_draw) g_law_draw F_law_draw.kp (F_law_draw.bindsN (ps := ["store", "many"]) fun _ _ _ _ _ _ us hl => match us, hl with | [_, _], _ => rfl)
  replace h__law_draw : Has P w K mg base CX0 "_law_draw" 2 ["store", "many"] (spS K FSto (TDraw 1 (10 ^ 6) (2 ^ 41))) [] := has_of (ok_draw1 F_law_draw h__law_draw z_len z_range z_str) g_law_draw F_law_draw.kp (F_law_draw.bindsN (ps := ["store", "many"]) fun _ _ _ _ _ _ us hl => match us, hl with | [_, _], _ => rfl)
  replace h__law_draw : Has P w K mg base CX0 "_law_draw" 3 ["store", "many"] (spS K FSto TDr) [] := has_of (ok_draw2 F_law_draw h__law_draw z_len z_range z_str) g_law_draw F_law_draw.kp (F_law_draw.bindsN (ps := ["store", "many"]) fun _ _ _ _ _ _ us hl => match us, hl with | [_, _], _ => rfl)
  have o_law_store := ok_law_store (P := P) (w := w) (mg := mg) (base := base) F_law_store z_abs z_enumerate 
  have h__law_store := has_of o_law_store g_law_store F_law_store.kp (F_law_store.bindsN (ps := ["script"]) fun _ _ _ _ _ _ us hl => match us, hl with | [_], _ => rfl)
  have hX_law_plain_raised : Has P w K mg base (L2.CX P w) "_law_plain_raised" 1 ["which", "text"] (spPl (aN K)) [] := hasC_of (ok_law_plain_raised F_law_plain_raised V Z g_NoAmount g_NoLine g_NoDays g_NoRule g_NoTelling g_NoStretch g_NoTable g_NoPot g_NoFold g_NoLeave g_NoDeed g_NoPart) g_law_plain_raised F_law_plain_raised.kp (F_law_plain_raised.bindsN (ps := ["which", "text"]) fun _ _ _ _ _ _ us hl => match us, hl with | [_, _], _ => rfl)
  have o_in_NoText := ok_in_NoText (P := P) (w := w) (mg := mg) (base := base) (C := aN K 12) g_PayError r1 r2 vT T12 F_in_NoText
  have b_in_NoText : Binds K fd_in_NoText ["self", "at"] [] := (F_in_NoText.bindsN (ps := ["self", "at"]) fun _ _ _ _ _ _ us hl => match us, hl with | [_, _], _ => rfl)
  have o_in_NoName := ok_in_NoName (P := P) (w := w) (mg := mg) (base := base) (C := aN K 13) z_KeyError v13 T13 F_in_NoName
  have b_in_NoName : Binds K fd_in_NoName ["self", "name"] [] := (F_in_NoName.bindsN (ps := ["self", "name"]) fun _ _ _ _ _ _ us hl => match us, hl with | [_, _], _ => rfl)
  have o_in_NoNumber := ok_in_NoNumber (P := P) (w := w) (mg := mg) (base := base) (C := aN K 14) z_IndexError v14 T14 F_in_NoNumber
  have b_in_NoNumber : Binds K fd_in_NoNumber ["self", "number"] [] := (F_in_NoNumber.bindsN (ps := ["self", "number"]) fun _ _ _ _ _ _ us hl => match us, hl with | [_, _], _ => rfl)
  have o_in_TooLong := ok_in_TooLong (P := P) (w := w) (mg := mg) (base := base) (C := aN K 15) z_OverflowError v15 T15 F_in_TooLong
  have b_in_TooLong : Binds K fd_in_TooLong ["self", "many"] [] := (F_in_TooLong.bindsN (ps := ["self", "many"]) fun _ _ _ _ _ _ us hl => match us, hl with | [_, _], _ => rfl)
  have o_in_NoCut := ok_in_NoCut (P := P) (w := w) (mg := mg) (base := base) (C := aN K 16) z_LookupError v16 T16 F_in_NoCut
  have b_in_NoCut : Binds K fd_in_NoCut ["self", "last"] [] := (F_in_NoCut.bindsN (ps := ["self", "last"]) fun _ _ _ _ _ _ us hl => match us, hl with | [_, _], _ => rfl)
  have hX_law_bearing_raised : Has P w K mg base (L2.CX P w) "_law_bearing_raised" 3 ["which", "thing"] (spBr (aN K)) [] := hasC_of (ok_law_bearing_raised F_law_bearing_raised T12 i12 t12 o_in_NoText b_in_NoText T13 i13 t13 o_in_NoName b_in_NoName T14 i14 t14 o_in_NoNumber b_in_NoNumber T15 i15 t15 o_in_TooLong b_in_TooLong T16 i16 t16 o_in_NoCut b_in_NoCut g_NoText g_NoName g_NoNumber g_TooLong g_NoCut) g_law_bearing_raised F_law_bearing_raised.kp (F_law_bearing_raised.bindsN (ps := ["which", "thing"]) fun _ _ _ _ _ _ us hl => match us, hl with | [_, _], _ => rfl)
  have o_law_kinds := ok_law_kinds (P := P) (w := w) (mg := mg) (base := base) F_law_kinds  z_isinstance W01_ g_NoAmount g_NoLine g_NoDays g_NoRule g_NoTelling g_NoStretch g_NoTable g_NoPot g_NoFold g_NoLeave g_NoDeed g_NoPart g_NoText g_NoName g_NoNumber g_TooLong g_NoCut
  have h__law_kinds := has_of o_law_kinds g_law_kinds F_law_kinds.kp (F_law_kinds.bindsN (ps := ["error"]) fun _ _ _ _ _ _ us hl => match us, hl with | [_], _ => rfl)
  have o_law_under := ok_law_under (P := P) (w := w) (mg := mg) (base := base) F_law_under  z_isinstance W01_ g_PayError z_ValueError z_ZeroDivisionError z_KeyError z_IndexError z_OverflowError z_LookupError
  have h__law_under := has_of o_law_under g_law_under F_law_under.kp (F_law_under.bindsN (ps := ["error"]) fun _ _ _ _ _ _ us hl => match us, hl with | [_], _ => rfl)
  have o_law_under_due := ok_law_under_due (P := P) (w := w) (mg := mg) (base := base) F_law_under_due  
  have h__law_under_due := has_of o_law_under_due g_law_under_due F_law_under_due.kp (F_law_under_due.bindsN (ps := ["which"]) fun _ _ _ _ _ _ us hl => match us, hl with | [_], _ => rfl)
  have o_law_caught := ok_law_caught (P := P) (w := w) (mg := mg) (base := base) F_law_caught  W01_ hX_law_plain_raised hX_law_bearing_raised g_PayError g_NoPart g_NoName g_NoNumber g_TooLong g_NoCut
  have h__law_caught := has_of o_law_caught g_law_caught F_law_caught.kp (F_law_caught.bindsN (ps := ["which", "thing"]) fun _ _ _ _ _ _ us hl => match us, hl with | [_, _], _ => rfl)
  have o_law_borne := ok_law_borne (P := P) (w := w) (mg := mg) (base := base) F_law_borne  z_isinstance W01_ g_NoText g_NoName g_NoNumber g_TooLong
  have h__law_borne := has_of o_law_borne g_law_borne F_law_borne.kp (F_law_borne.bindsN (ps := ["which", "error"]) fun _ _ _ _ _ _ us hl => match us, hl with | [_, _], _ => rfl)
  have o_law_thing := ok_law_thing (P := P) (w := w) (mg := mg) (base := base) F_law_thing z_range h__law_draw 
  have h__law_thing := has_of o_law_thing g_law_thing F_law_thing.kp (F_law_thing.bindsN (ps := ["store", "which"]) fun _ _ _ _ _ _ us hl => match us, hl with | [_, _], _ => rfl)
  exact ok_law (P := P) (w := w) (mg := mg) (base := base) F_law z_len z_min z_range z_repr h__law_borne h__law_caught h__law_draw h__law_kinds h__law_store h__law_thing h__law_under h__law_under_due W01_
end DL
open PySem PySem.W PySem.Calls PyProof.Rows
set_option maxHeartbeats 0 in
theorem PySem.Challenge.cw_paymill_k01_refusals_and_kinds_holds : PySem.Challenge.rw_paymill_k01_refusals_and_kinds.Holds := by
  w_on; o_law
  refine HandSHeadRun.head_imp (r := OpenLaw.row PySem.Challenge.rw_paymill_k01_refusals_and_kinds) (q := view (OpenLaw.row PySem.Challenge.rw_paymill_k01_refusals_and_kinds).prog [0, 19, 30]) (H := DL.hk) (ob := DL.ob) (M := 20000) (loose := DL.loose) (d := HandSHeadRun.topDef (OpenLaw.row PySem.Challenge.rw_paymill_k01_refusals_and_kinds).prog 30) (kwd := []) DL.ob_eq
    DL.run (by kernel_rfl) (by kernel_rfl) (by kernel_rfl) (by rfl) (by first | assumption | decide +kernel) (by decide +kernel) ⟨rfl, rfl, rfl, rfl, rfl, by decide +kernel⟩ ?hw ?hc
  case hw => w_witness2
  case hc =>
    refine DL.walk_ofG (l := PySem.Challenge.rw_paymill_k01_refusals_and_kinds) (n := 63) (k := 5) (x := "script") (CX := L2.CX0) rfl (by decide) (by kernel_rfl) ⟨rfl, by decide, by decide⟩ ?F (fun _ _ _ _ z => z)
    intro w mg fa h Y G hmg0
    obtain ⟨K, KX, c, ce⟩ := Y
    have hmg : mg ("law" : PySem.Str) = some (.ref fa) := by
      have e : (HandSHeadRun.topDef (OpenLaw.row PySem.Challenge.rw_paymill_k01_refusals_and_kinds).prog 30).name = ("law" : PySem.Str) := by kernel_rfl
      rw [← e]
      exact hmg0
    obtain ⟨fd, hb, hF⟩ := DL.facts (P := (PySem.Challenge.rw_paymill_k01_refusals_and_kinds).prog) (w := w) KX G hmg c ce
    exact ⟨K, fd, DL.spLaw K, KX, hb, fun H a ns hl _ hS => ⟨a, ns, rfl, hS, hl, fun _ => rfl⟩, hF⟩
