import PyProof.Rows.All
import Wide.All
import OpenK.AllK
import Wide.FinOn
import HandS.ForMost
import HandS.ForExc
import HandS.Wide
import HandS.Gcd
import HandS.Defaults
import HandS.Head0
import HandS.Head1
import HandS.Head2
import HandS.HeadEnd
import HandS.HeadHook1
import HandS.HeadHook2
import HandS.RaiseMore
import HandS.Iter
import HandS.More
import HandS.IsInst
import HandS.Head3
import HandS.ExcOwn
import HandS.WordsExc
import PyProof.ExcBaseAll.ZeroDivisionError
import HandS.ExcIs
import HandS.MakeKw
import HandS.MakeKwOnly
import KE.GoesEnum
import HandS.TupAny
import HandS.Style
import KE.KDictZip
import HandS.GenList
import HandS.DictTup
import HandS.Flow
import HandS.CallLocal
import HandS.CallSlots
import HandS.Zip
import PySem.Challenge.RW_paymill_k47_payments_judged
set_option Elab.async false
set_option linter.all false
set_option maxRecDepth 100000
set_option maxHeartbeats 2000000
/-! DL: readings walked over data (PyData) in the place of values and heaps -/
namespace DL
open PySem L2

abbrev Av := Addr → Bool
/-- the heap without what is avoided -/
def wo (N : Av) (H : Hp) : Hp := fun b => if N b then none else H b
theorem wo_in {N : Av} {H : Hp} {b : Addr} (h : N b = false) : wo N H b = H b := by unfold wo; rw [h]; rfl
theorem wo_out {N : Av} {H : Hp} {b : Addr} (h : N b = true) : wo N H b = none := by unfold wo; rw [h]; rfl
theorem wo_some {N : Av} {H : Hp} {b : Addr} {o : HO} (h : wo N H b = some o) : N b = false ∧ H b = some o := by
  cases e : N b with
  | true => rw [wo_out e] at h; cases h
  | false => rw [wo_in e] at h; exact ⟨rfl, h⟩
/-- all but the avoided stays -/
def Keep (N : Av) (H H' : Hp) : Prop := ∀ b o, N b = false → H b = some o → H' b = some o
theorem Keep.refl {N : Av} {H : Hp} : Keep N H H := fun _ _ _ h => h
theorem Keep.trans {N : Av} {H H1 H2 : Hp} (a : Keep N H H1) (b : Keep N H1 H2) : Keep N H H2 := fun x o n h => b x o n (a x o n h)
theorem Keep.of {N : Av} {H H' : Hp} (a : Same H H') : Keep N H H' := fun b o _ h => a b o h
theorem Keep.wo {N : Av} {H H' : Hp} (a : Keep N H H') : Same (wo N H) (wo N H') := fun b o h => by
  obtain ⟨n, h⟩ := wo_some h
  rw [wo_in n]; exact a b o n h
def Le (N N' : Av) : Prop := ∀ b, N b = true → N' b = true
theorem Le.refl {N : Av} : Le N N := fun _ h => h
theorem Le.wo {N N' : Av} {H : Hp} (a : Le N N') : Same (wo N' H) (wo N H) := fun b o h => by
  obtain ⟨n, h⟩ := wo_some h
  have : N b = false := by
    cases e : N b with
    | false => rfl
    | true => rw [a b e] at n; cases n
  rw [wo_in this]; exact h
theorem Same.wo1 {N : Av} {H : Hp} : Same (DL.wo N H) H := fun b o h => (wo_some h).2
theorem same_t {K : PySem.W.Frag} {H H' : Hp} {a : Addr} {xs : List V} (e : Same H H') (h : SqT K H a xs) : SqT K H' a xs := by
  rcases h with (h | ⟨o, h⟩) | h
  · exact .inl (.inl (e _ _ h))
  · exact .inl (.inr ⟨o, e _ _ h⟩)
  · exact .inr h
theorem same_rd {H H' : Hp} {a : Addr} {u : HO} (e : Same H H') (h : Rd H a u) : Rd H' a u := by
  rcases h with h | ⟨o, h⟩
  · exact .inl (e _ _ h)
  · exact .inr ⟨o, e _ _ h⟩
mutual
/-- a value is a datum: lists tracked (or locked), tuples tracked, locked or the written part's -/
inductive Dt (K : PySem.W.Frag) (H : Hp) : V → PyData → Prop
  | non : Dt K H .non .none
  | bl (b : Bool) : Dt K H (.bl b) (.bool b)
  | int (i : Int) : Dt K H (.int i) (.int i)
  | str (x : Str) : Dt K H (.str x) (.str x)
  | lst {a : Addr} {xs : List V} {ds : List PyData} (h : Rd H a (.lst xs)) (t : DtAll K H xs ds) : Dt K H (.ref a) (.list ds)
  | tup {a : Addr} {xs : List V} {ds : List PyData} (h : SqT K H a xs) (t : DtAll K H xs ds) : Dt K H (.ref a) (.tuple ds)
  | dct {a : Addr} (h : H a = some (.dK [])) : Dt K H (.ref a) (.dict [])
inductive DtAll (K : PySem.W.Frag) (H : Hp) : List V → List PyData → Prop
  | nil : DtAll K H [] []
  | cons {v : V} {vs : List V} {d : PyData} {ds : List PyData} (h : Dt K H v d) (t : DtAll K H vs ds) : DtAll K H (v :: vs) (d :: ds)
end
mutual
theorem dp_mono {K : PySem.W.Frag} {H H' : Hp} (e : Same H H') : ∀ (d : PyData) (v : V), Dt K H v d → Dt K H' v d
  | .none, _, h => by cases h; exact .non
  | .bool b, _, h => by cases h; exact .bl b
  | .int i, _, h => by cases h; exact .int i
  | .str x, _, h => by cases h; exact .str x
  | .list ds, _, h => by
    cases h with
    | lst hs ha => exact .lst (same_rd e hs) (dpall_mono e ds _ ha)
  | .tuple ds, _, h => by
    cases h with
    | tup hs ha => exact .tup (same_t e hs) (dpall_mono e ds _ ha)
  | .dict _, _, h => by
    cases h with
    | dct h => exact .dct (e _ _ h)
theorem dpall_mono {K : PySem.W.Frag} {H H' : Hp} (e : Same H H') : ∀ (ds : List PyData) (vs : List V), DtAll K H vs ds → DtAll K H' vs ds
  | [], _, h => by cases h; exact .nil
  | d :: ds, _, h => by
    cases h with
    | cons h1 h2 => exact .cons (dp_mono e d _ h1) (dpall_mono e ds _ h2)
end
mutual
theorem dt_dp {K : PySem.W.Frag} {H : Hp} : ∀ (d : PyData) (v : V), d.hasDict = false → Dt K H v d → Dp K H v d
  | .none, _, _, h => by cases h; exact .non
  | .bool b, _, _, h => by cases h; exact .bl b
  | .int i, _, _, h => by cases h; exact .int i
  | .str x, _, _, h => by cases h; exact .str x
  | .list ds, _, n, h => by
    cases h with
    | lst hs ha => exact .lst (.inl hs) (dtall_dp ds _ (by simpa [PyData.hasDict] using n) ha)
  | .tuple ds, _, n, h => by
    cases h with
    | tup hs ha => exact .tup hs (dtall_dp ds _ (by simpa [PyData.hasDict] using n) ha)
  | .dict _, _, n, h => by simp [PyData.hasDict] at n
theorem dtall_dp {K : PySem.W.Frag} {H : Hp} : ∀ (ds : List PyData) (vs : List V), PyData.hasDictAll ds = false → DtAll K H vs ds → DpAll K H vs ds
  | [], _, _, h => by cases h; exact .nil
  | d :: ds, _, n, h => by
    have n' : d.hasDict = false ∧ PyData.hasDictAll ds = false := by simpa [PyData.hasDictAll] using n
    cases h with
    | cons h1 h2 => exact .cons (dt_dp d _ n'.1 h1) (dtall_dp ds _ n'.2 h2)
end
mutual
theorem lay_nd : ∀ (d : PyData), d.canLay0 = true → d.hasDict = false
  | .none, _ => rfl
  | .bool _, _ => rfl
  | .int _, _ => rfl
  | .str _, _ => rfl
  | .list ds, h => by
    have := lay_nd_all ds (by simpa [PyData.canLay0] using h)
    simpa [PyData.hasDict] using this
  | .tuple ds, h => by
    have := lay_nd_all ds (by simpa [PyData.canLay0] using h)
    simpa [PyData.hasDict] using this
  | .dict _, h => by simp [PyData.canLay0] at h
theorem lay_nd_all : ∀ (ds : List PyData), PyData.canLayAll0 ds = true → PyData.hasDictAll ds = false
  | [], _ => rfl
  | d :: ds, h => by
    have h' : d.canLay0 = true ∧ PyData.canLayAll0 ds = true := by simpa [PyData.canLayAll0] using h
    simp [PyData.hasDictAll, lay_nd d h'.1, lay_nd_all ds h'.2]
end
theorem shaped_nd {d : PyData} (h : SeqAt.shaped d = true) : d.hasDict = false := lay_nd d (SeqAt.canLay_of_shaped h)
section
variable {K : PySem.W.Frag} {N N' : Av} {H H' : Hp} {v : V} {vs ws : List V} {d : PyData} {ds es : List PyData}
/-- v is the data d, none of its objects avoided -/
def Dq (K : PySem.W.Frag) (N : Av) (H : Hp) (v : V) (d : PyData) : Prop := Dt K (wo N H) v d
def DqAll (K : PySem.W.Frag) (N : Av) (H : Hp) (vs : List V) (ds : List PyData) : Prop := DtAll K (wo N H) vs ds
theorem Dq.keep (h : Dq K N H v d) (k : Keep N H H') : Dq K N H' v d := dp_mono k.wo d v h
theorem DqAll.keep (h : DqAll K N H vs ds) (k : Keep N H H') : DqAll K N H' vs ds := dpall_mono k.wo ds vs h
theorem Dq.le (h : Dq K N' H v d) (k : Le N N') : Dq K N H v d := dp_mono k.wo d v h
theorem DqAll.le (h : DqAll K N' H vs ds) (k : Le N N') : DqAll K N H vs ds := dpall_mono k.wo ds vs h
theorem Dq.dt (h : Dq K N H v d) : Dt K H v d := dp_mono Same.wo1 d v h
theorem Dq.dp (h : Dq K N H v d) (n : d.hasDict = false) : Dp K H v d := dt_dp d v n h.dt
theorem DqAll.len : ∀ {vs : List V} {ds : List PyData}, DqAll K N H vs ds → vs.length = ds.length := by
  intro vs ds h
  induction vs generalizing ds with
  | nil => cases h; rfl
  | cons v vs ih =>
    cases h with
    | cons h1 h2 => exact congrArg (· + 1) (ih h2)
theorem DqAll.nil : DqAll K N H [] [] := DtAll.nil
theorem DqAll.cons (h : Dq K N H v d) (t : DqAll K N H vs ds) : DqAll K N H (v :: vs) (d :: ds) := DtAll.cons h t
theorem DqAll.append : ∀ {vs : List V} {ds : List PyData}, DqAll K N H vs ds → DqAll K N H ws es → DqAll K N H (vs ++ ws) (ds ++ es) := by
  intro vs ds h t
  induction vs generalizing ds with
  | nil => cases h; exact t
  | cons v vs ih =>
    cases h with
    | cons h1 h2 => exact DqAll.cons h1 (ih h2)
theorem DqAll.get : ∀ {vs : List V} {ds : List PyData} {i : Nat} {d : PyData}, DqAll K N H vs ds → ds[i]? = some d → ∃ v, vs[i]? = some v ∧ Dq K N H v d := by
  intro vs ds i d h e
  induction vs generalizing ds i with
  | nil => cases h; simp at e
  | cons v vs ih =>
    cases h with
    | cons h1 h2 =>
      cases i with
      | zero => simp at e; subst e; exact ⟨v, rfl, h1⟩
      | succ i => obtain ⟨u, h3, h4⟩ := ih h2 (by simpa using e); exact ⟨u, by simpa using h3, h4⟩
theorem DqAll.take : ∀ {vs : List V} {ds : List PyData} (n : Nat), DqAll K N H vs ds → DqAll K N H (vs.take n) (ds.take n) := by
  intro vs ds n h
  induction vs generalizing ds n with
  | nil => cases h; simp; exact DqAll.nil
  | cons v vs ih =>
    cases h with
    | cons h1 h2 =>
      cases n with
      | zero => exact DqAll.nil
      | succ n => exact DqAll.cons h1 (ih n h2)
theorem DqAll.drop : ∀ {vs : List V} {ds : List PyData} (n : Nat), DqAll K N H vs ds → DqAll K N H (vs.drop n) (ds.drop n) := by
  intro vs ds n h
  induction vs generalizing ds n with
  | nil => cases h; simp; exact DqAll.nil
  | cons v vs ih =>
    cases h with
    | cons h1 h2 =>
      cases n with
      | zero => exact DqAll.cons h1 h2
      | succ n => exact ih n h2
theorem DqAll.ints {ns : List Int} : DqAll K N H (ns.map V.int) (ns.map PyData.int) := by
  induction ns with
  | nil => exact DqAll.nil
  | cons n ns ih => exact DqAll.cons (Dt.int n) ih
theorem DqAll.of_ints : ∀ {vs : List V} {ns : List Int}, DqAll K N H vs (ns.map PyData.int) → vs = ns.map V.int := by
  intro vs ns h
  induction ns generalizing vs with
  | nil => cases h; rfl
  | cons n ns ih =>
    cases h with
    | cons h1 h2 => cases h1; rw [ih h2]; rfl
/-- a fresh address is avoided by nobody -/
theorem fresh_av (hN : ∀ b, N b = true → H b ≠ none) {p : Addr} (hp : H p = none) : N p = false := by
  cases e : N p with
  | false => rfl
  | true => exact absurd hp (hN p e)
theorem Dq.tup {p : Addr} {xs : List V} (np : N p = false) (hp : H p = some (.tup xs)) (h : DqAll K N H xs ds) : Dq K N H (.ref p) (.tuple ds) :=
  Dt.tup (.inl (.inl (by rw [wo_in np]; exact hp))) h
theorem Dq.lst {p : Addr} {xs : List V} (np : N p = false) (hp : H p = some (.lst xs)) (h : DqAll K N H xs ds) : Dq K N H (.ref p) (.list ds) :=
  Dt.lst (.inl (by rw [wo_in np]; exact hp)) h
theorem Dq.tup_inv (h : Dq K N H v (.tuple ds)) : ∃ p xs, v = .ref p ∧ SqT K (wo N H) p xs ∧ SqT K H p xs ∧ DqAll K N H xs ds := by
  cases h with
  | tup hs ha => exact ⟨_, _, rfl, hs, same_t Same.wo1 hs, ha⟩
theorem Dq.lst_inv (h : Dq K N H v (.list ds)) : ∃ p xs, v = .ref p ∧ Rd (wo N H) p (.lst xs) ∧ Rd H p (.lst xs) ∧ DqAll K N H xs ds := by
  cases h with
  | lst hs ha => exact ⟨_, _, rfl, hs, same_rd Same.wo1 hs, ha⟩
theorem Dq.int_inv {i : Int} (h : Dq K N H v (.int i)) : v = .int i := by cases h; rfl
theorem Dq.bool_inv {i : Bool} (h : Dq K N H v (.bool i)) : v = .bl i := by cases h; rfl
theorem same_new {p : Addr} (h : H p = none) (o : HO) : Same H (upd H p o) := fun b u q => by rw [upd_ne (ne_of_none q h)]; exact q
end
end DL

set_option Elab.async false
set_option linter.all false
set_option maxRecDepth 100000
set_option maxHeartbeats 2000000
namespace DL
open PySem L2

/-- a thing that changes in its footprint alone, with a bound that a call may raise -/
structure Stt where
  a : Addr
  fp : Av
  ok : Hp → Nat → Prop
  loc : ∀ H H' B, (∀ b, fp b = true → H' b = H b) → ok H B → ok H' B
  trk : ∀ H B, ok H B → ∀ b, fp b = true → H b ≠ none
/-- none -/
def S0 : Stt := ⟨0, fun _ => false, fun _ _ => False, fun _ _ _ _ h => h, fun _ _ h => h.elim⟩

inductive Sl where
  | unk
  | dat (d : PyData)
  | own (ds : List PyData)
  | sto (B : Nat)
  | scr (ns : List Int)
abbrev Rho := List Sl
/-- what stands beside the names: a value on the way, a list that a comprehension fills -/
inductive Hd where
  | dat (v : V) (d : PyData)
  | own (p : Addr) (ds : List PyData)
def HdOk (K : PySem.W.Frag) (S : Stt) (H0 : Hp) (N0 N : Av) (H : Hp) : Hd → Prop
  | .dat v d => Dq K N H v d
  | .own p ds => ∃ xs, N p = true ∧ S.fp p = false ∧ N0 p = false ∧ H0 p = none ∧ H p = some (.lst xs) ∧ DqAll K N H xs ds

def SlOk (K : PySem.W.Frag) (S : Stt) (H0 : Hp) (N0 N : Av) (σ : L2.St) (H : Hp) (i : Nat) : Sl → Prop
  | .unk => True
  | .dat d => ∃ v, σ[i]? = some (some v) ∧ Dq K N H v d
  | .own ds => ∃ p xs, σ[i]? = some (some (.ref p)) ∧ N p = true ∧ S.fp p = false ∧ N0 p = false ∧ H0 p = none ∧ H p = some (.lst xs) ∧ DqAll K N H xs ds
  | .sto B => σ[i]? = some (some (.ref S.a)) ∧ S.ok H B
  | .scr ns => ∃ a, σ[i]? = some (some (.ref a)) ∧ SqL K (wo N H) a (ns.map V.int)

structure EnvD (K : PySem.W.Frag) (S : Stt) (H0 : Hp) (N0 : Av) (Z : List Hd) (N : Av) (σ : L2.St) (H : Hp) (ρ : Rho) : Prop where
  keep : ∀ b o, S.fp b = false → H0 b = some o → H b = some o
  base : Le N0 N
  trk : ∀ b, N b = true → H b ≠ none
  sub : Le S.fp N
  slot : ∀ (i : Nat) (s : Sl), ρ[i]? = some s → SlOk K S H0 N0 N σ H i s
  len : ρ.length = σ.length
  hid : ∀ z, z ∈ Z → HdOk K S H0 N0 N H z
  injH : ∀ (i : Nat) (di dj : List PyData) (p : Addr), ρ[i]? = some (Sl.own di) → σ[i]? = some (some (V.ref p)) → Hd.own p dj ∈ Z → False
  injZ : ∀ (i j : Nat) (di dj : List PyData) (p : Addr), Z[i]? = some (Hd.own p di) → Z[j]? = some (Hd.own p dj) → i = j
  inj : ∀ (i j : Nat) (di dj : List PyData) (p : Addr), ρ[i]? = some (Sl.own di) → ρ[j]? = some (Sl.own dj) → σ[i]? = some (some (V.ref p)) → σ[j]? = some (some (V.ref p)) → i = j

def WD (K : PySem.W.Frag) (S : Stt) (te : TE) (ρ : Rho) (Φ : PyData → Rho → Prop) : Prop :=
  ∀ H0 N0 Z N σ H, EnvD K S H0 N0 Z N σ H ρ → ∀ Q : VK, (∀ v d ρ' H', Φ d ρ' → EnvD K S H0 N0 Z N σ H' ρ' → Keep N H H' → Dq K N H' v d → Q v H') → te σ H Q
def WA (K : PySem.W.Frag) (S : Stt) (ta : TA) (ρ : Rho) (Φ : List PyData → Rho → Prop) : Prop :=
  ∀ H0 N0 Z N σ H, EnvD K S H0 N0 Z N σ H ρ → ∀ Q : List V → Hp → Prop, (∀ vs ds ρ' H', Φ ds ρ' → EnvD K S H0 N0 Z N σ H' ρ' → Keep N H H' → DqAll K N H' vs ds → Q vs H') → ta σ H Q
def WT (K : PySem.W.Frag) (S : Stt) (tt : TT) (ρ : Rho) (Φ : Bool → Rho → Prop) : Prop :=
  ∀ H0 N0 Z N σ H, EnvD K S H0 N0 Z N σ H ρ → ∀ Q : Bool → Hp → Prop, (∀ b ρ' H', Φ b ρ' → EnvD K S H0 N0 Z N σ H' ρ' → Keep N H H' → Q b H') → tt σ H Q
/-- two-place operations on data, calls on data -/
def DO (K : PySem.W.Frag) (r : R2) (x y : PyData) (Ψ : PyData → Prop) : Prop :=
  ∀ (N : Av) (H : Hp), (∀ b, N b = true → H b ≠ none) → ∀ u w, Dq K N H u x → Dq K N H w y → ∀ Q : VK, (∀ v d H', Ψ d → Same H H' → Dq K N H' v d → Q v H') → r u w H Q
def DU (K : PySem.W.Frag) (r : V → Hp → VK → Prop) (x : PyData) (Ψ : PyData → Prop) : Prop :=
  ∀ (N : Av) (H : Hp), (∀ b, N b = true → H b ≠ none) → ∀ u, Dq K N H u x → ∀ Q : VK, (∀ v d H', Ψ d → Same H H' → Dq K N H' v d → Q v H') → r u H Q
def DC (K : PySem.W.Frag) (r : List V → Hp → VK → Prop) (xs : List PyData) (Ψ : PyData → Prop) : Prop :=
  ∀ (N : Av) (H : Hp), (∀ b, N b = true → H b ≠ none) → ∀ us, DqAll K N H us xs → ∀ Q : VK, (∀ v d H', Ψ d → Same H H' → Dq K N H' v d → Q v H') → r us H Q

/-- what is wanted behind a statement -/
structure DE where
  nx : Rho → Prop
  rt : PyData → Rho → Prop
  bk : Rho → Prop := fun _ => False
  ct : Rho → Prop := fun _ => False
structure Meets (K : PySem.W.Frag) (S : Stt) (H0 : Hp) (N0 : Av) (Z : List Hd) (En : DE) (D : Ends) : Prop where
  nx : ∀ N σ H ρ, En.nx ρ → EnvD K S H0 N0 Z N σ H ρ → D.nx σ H
  rt : ∀ N σ H ρ v d, En.rt d ρ → EnvD K S H0 N0 Z N σ H ρ → Dq K N0 H v d → D.rt v H
  bk : ∀ N σ H ρ, En.bk ρ → EnvD K S H0 N0 Z N σ H ρ → D.bk σ H
  ct : ∀ N σ H ρ, En.ct ρ → EnvD K S H0 N0 Z N σ H ρ → D.ct σ H
def WS (K : PySem.W.Frag) (S : Stt) (ts : TS) (ρ : Rho) (En : DE) : Prop :=
  ∀ H0 N0 Z N σ H D, EnvD K S H0 N0 Z N σ H ρ → Meets K S H0 N0 Z En D → ts D σ H

section
variable {K : PySem.W.Frag} {S : Stt} {H0 : Hp} {N0 : Av} {Z : List Hd} {N : Av} {σ : L2.St} {H H' : Hp} {ρ : Rho} {Φ : PyData → Rho → Prop}

theorem SlOk.ext (hs : Le S.fp N) (ht : ∀ b, N b = true → H b ≠ none) (e : Same H H') : ∀ {s : Sl} {i : Nat}, SlOk K S H0 N0 N σ H i s → SlOk K S H0 N0 N σ H' i s
  | .unk, _, h => h
  | .dat d, _, ⟨v, h1, h2⟩ => ⟨v, h1, h2.keep (Keep.of e)⟩
  | .own ds, _, ⟨p, xs, h1, h2, h3, h4, h5, h6, h7⟩ => ⟨p, xs, h1, h2, h3, h4, h5, e _ _ h6, h7.keep (Keep.of e)⟩
  | .sto B, _, ⟨h1, h2⟩ => ⟨h1, S.loc H H' B (fun b hb => by
      cases q : H b with
      | none => exact absurd q (ht b (hs b hb))
      | some o => exact e b o q) h2⟩
  | .scr ns, _, ⟨a, h1, h2⟩ => ⟨a, h1, (Keep.of e).wo.seq h2⟩
theorem HdOk.ext (e : Same H H') : ∀ {z : Hd}, HdOk K S H0 N0 N H z → HdOk K S H0 N0 N H' z
  | .dat v d, h => Dq.keep h (Keep.of e)
  | .own p ds, ⟨xs, h2, h3, h4, h5, h6, h7⟩ => ⟨xs, h2, h3, h4, h5, e _ _ h6, h7.keep (Keep.of e)⟩
theorem EnvD.ext (E : EnvD K S H0 N0 Z N σ H ρ) (e : Same H H') : EnvD K S H0 N0 Z N σ H' ρ where
  keep b o n h := e b o (E.keep b o n h)
  base := E.base
  trk b h z := by
    cases q : H b with
    | none => exact E.trk b h q
    | some o => rw [e b o q] at z; cases z
  sub := E.sub
  slot i s h := (E.slot i s h).ext E.sub E.trk e
  len := E.len
  hid z h := (E.hid z h).ext e
  injH := E.injH
  injZ := E.injZ
  inj := E.inj
theorem get_set {α : Type} {l : List α} {i j : Nat} {x y : α} (h : (l.set i x)[j]? = some y) : (i = j ∧ y = x) ∨ (i ≠ j ∧ l[j]? = some y) := by
  by_cases e : i = j
  · subst e
    have hl : i < l.length := by have := (List.getElem?_eq_some_iff.mp h).1; rwa [List.length_set] at this
    rw [List.getElem?_set_self hl] at h
    cases h
    exact .inl ⟨rfl, rfl⟩
  · rw [List.getElem?_set_ne e] at h
    exact .inr ⟨e, h⟩
theorem set_ne {α : Type} {l : List α} {i j : Nat} {x : α} (h : i ≠ j) : (l.set i x)[j]? = l[j]? := List.getElem?_set_ne h
theorem set_eq {α : Type} {l : List α} {i : Nat} {x : α} (h : i < l.length) : (l.set i x)[i]? = some x := List.getElem?_set_self h
theorem SlOk.other {s : Sl} {i j : Nat} {u : Option V} (h : i ≠ j) (q : SlOk K S H0 N0 N σ H j s) : SlOk K S H0 N0 N (σ.set i u) H j s := by
  cases s with
  | unk => exact q
  | dat d => obtain ⟨u, h1, h2⟩ := q; exact ⟨u, by rw [set_ne h]; exact h1, h2⟩
  | own ds => obtain ⟨p, xs, h1, h2⟩ := q; exact ⟨p, xs, by rw [set_ne h]; exact h1, h2⟩
  | sto B => obtain ⟨h1, h2⟩ := q; exact ⟨by rw [set_ne h]; exact h1, h2⟩
  | scr ns => obtain ⟨a, h1, h2⟩ := q; exact ⟨a, by rw [set_ne h]; exact h1, h2⟩
/-- a slot gets what is no list of one's own -/
theorem EnvD.set0 (E : EnvD K S H0 N0 Z N σ H ρ) {i : Nat} {u : Option V} {s : Sl} (no : ∀ ds, s ≠ .own ds) (hs : i < σ.length → SlOk K S H0 N0 N (σ.set i u) H i s) : EnvD K S H0 N0 Z N (σ.set i u) H (ρ.set i s) where
  keep := E.keep
  base := E.base
  trk := E.trk
  sub := E.sub
  len := by rw [List.length_set, List.length_set]; exact E.len
  hid := E.hid
  injZ := E.injZ
  slot j t h := by
    rcases get_set h with ⟨e, e2⟩ | ⟨e, h⟩
    · subst e; subst e2
      refine hs ?_
      have := (List.getElem?_eq_some_iff.mp h).1
      rw [List.length_set] at this
      rw [← E.len]; exact this
    · exact (E.slot j t h).other e
  injH a da dj p ha h1 hz := by
    rcases get_set ha with ⟨e, e2⟩ | ⟨e, ha⟩
    · exact absurd e2.symm (no _)
    · rw [set_ne e] at h1
      exact E.injH a da dj p ha h1 hz
  inj a b da db p ha hb h1 h2 := by
    rcases get_set ha with ⟨e, e2⟩ | ⟨ea, ha⟩
    · exact absurd e2.symm (no _)
    · rcases get_set hb with ⟨e, e2⟩ | ⟨eb, hb⟩
      · exact absurd e2.symm (no _)
      · rw [set_ne ea] at h1
        rw [set_ne eb] at h2
        exact E.inj a b da db p ha hb h1 h2
theorem EnvD.set (E : EnvD K S H0 N0 Z N σ H ρ) {i : Nat} {v : V} {d : PyData} (hv : Dq K N H v d) : EnvD K S H0 N0 Z N (σ.set i (some v)) H (ρ.set i (.dat d)) :=
  E.set0 (fun _ h => nomatch h) fun hi => ⟨v, set_eq hi, hv⟩
theorem EnvD.unset (E : EnvD K S H0 N0 Z N σ H ρ) {i : Nat} {u : Option V} : EnvD K S H0 N0 Z N (σ.set i u) H (ρ.set i .unk) :=
  E.set0 (fun _ h => nomatch h) fun _ => trivial
/-- forget -/
def Fgt (ρ ρ' : Rho) : Prop := ρ'.length = ρ.length ∧ ∀ (i : Nat) (s : Sl), ρ'[i]? = some s → s = .unk ∨ ρ[i]? = some s
theorem Fgt.refl : Fgt ρ ρ := ⟨rfl, fun _ _ h => .inr h⟩
theorem EnvD.fgt {ρ' : Rho} (E : EnvD K S H0 N0 Z N σ H ρ) (f : Fgt ρ ρ') : EnvD K S H0 N0 Z N σ H ρ' where
  keep := E.keep
  base := E.base
  trk := E.trk
  sub := E.sub
  slot i s h := by
    rcases f.2 i s h with e | e
    · subst e; trivial
    · exact E.slot i s e
  len := f.1.trans E.len
  hid := E.hid
  injZ := E.injZ
  injH a da dj p ha h1 hz := by
    rcases f.2 a _ ha with e | ea
    · cases e
    · exact E.injH a da dj p ea h1 hz
  inj a b da db p ha hb h1 h2 := by
    rcases f.2 a _ ha with e | ea
    · cases e
    · rcases f.2 b _ hb with e | eb
      · cases e
      · exact E.inj a b da db p ea eb h1 h2

/-! ### expressions -/
theorem WD.imp {te : TE} {Φ Φ' : PyData → Rho → Prop} (h : WD K S te ρ Φ) (i : ∀ d ρ', Φ d ρ' → Φ' d ρ') : WD K S te ρ Φ' := fun H0 N0 Z N σ H E Q q => h H0 N0 Z N σ H E Q fun v d ρ' H' f => q v d ρ' H' (i d ρ' f)
theorem wd_var {i : Nat} {d : PyData} (h : ρ[i]? = some (.dat d)) (f : Φ d ρ) : WD K S (tVar i) ρ Φ := fun H0 N0 Z N σ H E Q q => by
  obtain ⟨v, h1, h2⟩ := E.slot i _ h
  exact ⟨v, h1, q v d ρ H f E Keep.refl h2⟩
theorem wd_int {i : Int} (f : Φ (.int i) ρ) : WD K S (tC (.int i)) ρ Φ := fun H0 N0 Z N σ H E Q q => q _ _ ρ H f E Keep.refl (Dt.int i)
theorem wd_bl {i : Bool} (f : Φ (.bool i) ρ) : WD K S (tC (.bl i)) ρ Φ := fun H0 N0 Z N σ H E Q q => q _ _ ρ H f E Keep.refl (Dt.bl i)
theorem wd_str {i : Str} (f : Φ (.str i) ρ) : WD K S (tC (.str i)) ρ Φ := fun H0 N0 Z N σ H E Q q => q _ _ ρ H f E Keep.refl (Dt.str i)
theorem wd_non (f : Φ .none ρ) : WD K S (tC .non) ρ Φ := fun H0 N0 Z N σ H E Q q => q _ _ ρ H f E Keep.refl Dt.non
theorem wd_op {r : R2} {ta tb : TE} (h : WD K S ta ρ fun x ρ1 => WD K S tb ρ1 fun y ρ2 => DO K r x y fun z => Φ z ρ2) : WD K S (tOp r ta tb) ρ Φ := fun H0 N0 Z N σ H E Q q =>
  h H0 N0 Z N σ H E _ fun u x ρ1 H1 h1 E1 k1 d1 => h1 H0 N0 Z N σ H1 E1 _ fun w y ρ2 H2 h2 E2 k2 d2 => h2 N H2 E2.trk u w (d1.keep k2) d2 Q fun v d H3 f e d3 =>
    q v d ρ2 H3 f (E2.ext e) ((k1.trans k2).trans (Keep.of e)) d3
theorem wd_un {r : V → Hp → VK → Prop} {ta : TE} (h : WD K S ta ρ fun x ρ1 => DU K r x fun z => Φ z ρ1) : WD K S (tUn r ta) ρ Φ := fun H0 N0 Z N σ H E Q q =>
  h H0 N0 Z N σ H E _ fun u x ρ1 H1 h1 E1 k1 d1 => h1 N H1 E1.trk u d1 Q fun v d H3 f e d3 => q v d ρ1 H3 f (E1.ext e) (k1.trans (Keep.of e)) d3
theorem wa_nil {Φ : List PyData → Rho → Prop} (f : Φ [] ρ) : WA K S tNil ρ Φ := fun H0 N0 Z N σ H E Q q => q [] [] ρ H f E Keep.refl DqAll.nil
theorem wa_cons {te : TE} {ta : TA} {Φ : List PyData → Rho → Prop} (h : WD K S te ρ fun x ρ1 => WA K S ta ρ1 fun xs ρ2 => Φ (x :: xs) ρ2) : WA K S (tCons te ta) ρ Φ := fun H0 N0 Z N σ H E Q q =>
  h H0 N0 Z N σ H E _ fun u x ρ1 H1 h1 E1 k1 d1 => h1 H0 N0 Z N σ H1 E1 _ fun us xs ρ2 H2 h2 E2 k2 d2 => q (u :: us) (x :: xs) ρ2 H2 h2 E2 (k1.trans k2) (DqAll.cons (d1.keep k2) d2)
theorem wd_cb {r : List V → Hp → VK → Prop} {ta : TA} (h : WA K S ta ρ fun xs ρ1 => DC K r xs fun z => Φ z ρ1) : WD K S (tCB r ta) ρ Φ := fun H0 N0 Z N σ H E Q q =>
  h H0 N0 Z N σ H E _ fun us xs ρ1 H1 h1 E1 k1 d1 => h1 N H1 E1.trk us d1 Q fun v d H3 f e d3 => q v d ρ1 H3 f (E1.ext e) (k1.trans (Keep.of e)) d3
theorem wd_tup {ta : TA} (h : WA K S ta ρ fun xs ρ1 => xs.length ≤ sizeLine ∧ Φ (.tuple xs) ρ1) : WD K S (tTup ta) ρ Φ := fun H0 N0 Z N σ H E Q q =>
  h H0 N0 Z N σ H E _ fun us xs ρ1 H1 h1 E1 k1 d1 => ⟨by rw [d1.len]; exact h1.1, fun p hp => by
    have s := same_new hp (.tup us)
    exact q (.ref p) (.tuple xs) ρ1 _ h1.2 (E1.ext s) (k1.trans (Keep.of s)) (Dq.tup (fresh_av E1.trk hp) upd_same (d1.keep (Keep.of s)))⟩
theorem wd_lst {ta : TA} (h : WA K S ta ρ fun xs ρ1 => xs.length ≤ sizeLine ∧ Φ (.list xs) ρ1) : WD K S (tLst ta) ρ Φ := fun H0 N0 Z N σ H E Q q =>
  h H0 N0 Z N σ H E _ fun us xs ρ1 H1 h1 E1 k1 d1 => ⟨by rw [d1.len]; exact h1.1, fun p hp => by
    have s := same_new hp (.lst us)
    exact q (.ref p) (.list xs) ρ1 _ h1.2 (E1.ext s) (k1.trans (Keep.of s)) (Dq.lst (fresh_av E1.trk hp) upd_same (d1.keep (Keep.of s)))⟩
/-- tests -/
theorem wt_test {te : TE} {Φ : Bool → Rho → Prop} (h : WD K S te ρ fun x ρ1 => ∃ b, x = .bool b ∧ Φ b ρ1) : WT K S (tTest te) ρ Φ := fun H0 N0 Z N σ H E Q q =>
  h H0 N0 Z N σ H E _ fun u x ρ1 H1 ⟨b, e, f⟩ E1 k1 d1 => by subst e; exact ⟨b, d1.bool_inv, q b ρ1 H1 f E1 k1⟩
theorem wt_B {te : TE} {Φ : Bool → Rho → Prop} (h : WD K S te ρ fun x ρ1 => ∃ b, x = .bool b ∧ Φ b ρ1) : WT K S (tB te) ρ Φ := fun H0 N0 Z N σ H E Q q =>
  h H0 N0 Z N σ H E _ fun u x ρ1 H1 ⟨b, e, f⟩ E1 k1 d1 => by subst e; exact ⟨b, d1.bool_inv, q b ρ1 H1 f E1 k1⟩
theorem wt_not {t : TT} {Φ : Bool → Rho → Prop} (h : WT K S t ρ fun b ρ1 => Φ (!b) ρ1) : WT K S (tNot t) ρ Φ := fun H0 N0 Z N σ H E Q q =>
  h H0 N0 Z N σ H E _ fun b ρ1 H1 f E1 k1 => q (!b) ρ1 H1 f E1 k1
theorem wt_and {t u : TT} {Φ : Bool → Rho → Prop} (h : WT K S t ρ fun b ρ1 => if b = true then WT K S u ρ1 Φ else Φ false ρ1) : WT K S (tAnd t u) ρ Φ := fun H0 N0 Z N σ H E Q q =>
  h H0 N0 Z N σ H E _ fun b ρ1 H1 f E1 k1 => by
    cases b with
    | true => exact f H0 N0 Z N σ H1 E1 _ fun b ρ2 H2 f2 E2 k2 => q b ρ2 H2 f2 E2 (k1.trans k2)
    | false => exact q false ρ1 H1 f E1 k1
theorem wt_or {t u : TT} {Φ : Bool → Rho → Prop} (h : WT K S t ρ fun b ρ1 => if b = true then Φ true ρ1 else WT K S u ρ1 Φ) : WT K S (tOr t u) ρ Φ := fun H0 N0 Z N σ H E Q q =>
  h H0 N0 Z N σ H E _ fun b ρ1 H1 f E1 k1 => by
    cases b with
    | false => exact f H0 N0 Z N σ H1 E1 _ fun b ρ2 H2 f2 E2 k2 => q b ρ2 H2 f2 E2 (k1.trans k2)
    | true => exact q true ρ1 H1 f E1 k1
theorem wd_ifE {t : TT} {ta tb : TE} (h : WT K S t ρ fun b ρ1 => if b = true then WD K S ta ρ1 Φ else WD K S tb ρ1 Φ) : WD K S (tIf t ta tb) ρ Φ := fun H0 N0 Z N σ H E Q q =>
  h H0 N0 Z N σ H E _ fun b ρ1 H1 f E1 k1 => by
    cases b with
    | true => exact f H0 N0 Z N σ H1 E1 _ fun v d ρ2 H2 f2 E2 k2 => q v d ρ2 H2 f2 E2 (k1.trans k2)
    | false => exact f H0 N0 Z N σ H1 E1 _ fun v d ρ2 H2 f2 E2 k2 => q v d ρ2 H2 f2 E2 (k1.trans k2)
/-- and, or, not of truths as values -/
theorem wd_andV {ta tb : TE} (h : WD K S ta ρ fun x ρ1 => ∃ b, x = .bool b ∧ if b = true then WD K S tb ρ1 Φ else Φ (.bool false) ρ1) : WD K S (tAndV ta tb) ρ Φ := fun H0 N0 Z N σ H E Q q =>
  h H0 N0 Z N σ H E _ fun u x ρ1 H1 ⟨b, e, f⟩ E1 k1 d1 => by
    subst e
    refine ⟨b, d1.bool_inv, ?_⟩
    cases b with
    | true => exact f H0 N0 Z N σ H1 E1 _ fun v d ρ2 H2 f2 E2 k2 => q v d ρ2 H2 f2 E2 (k1.trans k2)
    | false => exact q _ _ ρ1 H1 f E1 k1 (Dt.bl false)
end
end DL

set_option Elab.async false
set_option linter.all false
set_option maxRecDepth 100000
set_option maxHeartbeats 2000000
namespace DL
open PySem L2
section
variable {K : PySem.W.Frag} {S : Stt} {H0 : Hp} {N0 : Av} {Z : List Hd} {N : Av} {σ : L2.St} {H H' : Hp} {ρ : Rho} {Φ : PyData → Rho → Prop} {Ψ : PyData → Prop}

/-! ### operations on data -/
theorem do_ii {f : Int → Int → Int} {i j : Int} (h : Ψ (.int (f i j))) : DO K (rI0 fun i j => .int (f i j)) (.int i) (.int j) Ψ := fun N H _ u w hu hw Q q => by
  cases hu; cases hw
  exact ⟨i, j, rfl, rfl, q _ _ H h (Same.refl H) (Dt.int _)⟩
theorem do_ib {f : Int → Int → Bool} {i j : Int} (h : Ψ (.bool (f i j))) : DO K (rI0 fun i j => .bl (f i j)) (.int i) (.int j) Ψ := fun N H _ u w hu hw Q q => by
  cases hu; cases hw
  exact ⟨i, j, rfl, rfl, q _ _ H h (Same.refl H) (Dt.bl _)⟩
theorem do_ic {C : Int → Int → Prop} {f : Int → Int → Int} {i j : Int} (c : C i j) (h : Ψ (.int (f i j))) : DO K (rI C fun i j => .int (f i j)) (.int i) (.int j) Ψ := fun N H _ u w hu hw Q q => by
  cases hu; cases hw
  exact ⟨i, j, rfl, rfl, c, q _ _ H h (Same.refl H) (Dt.int _)⟩
theorem du_i {f : Int → Int} {i : Int} (h : Ψ (.int (f i))) : DU K (rU fun i => .int (f i)) (.int i) Ψ := fun N H _ u hu Q q => by
  cases hu
  exact ⟨i, rfl, q _ _ H h (Same.refl H) (Dt.int _)⟩
theorem do_eqi {i j : Int} (h : Ψ (.bool (decide (i = j)))) : DO K rEq (.int i) (.int j) Ψ := fun N H _ u w hu hw Q q => by
  cases hu; cases hw
  refine ⟨rfl, ?_⟩
  have e : decide (V.int i = V.int j) = decide (i = j) := by
    by_cases e : i = j
    · subst e; simp
    · rw [decide_eq_false e, decide_eq_false (fun z => e (V.int.inj z))]
  rw [e]
  exact q _ _ H h (Same.refl H) (Dt.bl _)
theorem do_eqs {i j : Str} (h : Ψ (.bool (decide (i = j)))) : DO K rEq (.str i) (.str j) Ψ := fun N H _ u w hu hw Q q => by
  cases hu; cases hw
  refine ⟨rfl, ?_⟩
  have e : decide (V.str i = V.str j) = decide (i = j) := by
    by_cases e : i = j
    · subst e; simp
    · rw [decide_eq_false e, decide_eq_false (fun z => e (V.str.inj z))]
  rw [e]
  exact q _ _ H h (Same.refl H) (Dt.bl _)
theorem do_nes {i j : Str} (h : Ψ (.bool (!decide (i = j)))) : DO K rNe (.str i) (.str j) Ψ := fun N H _ u w hu hw Q q => by
  cases hu; cases hw
  refine ⟨rfl, ?_⟩
  have e : decide (V.str i = V.str j) = decide (i = j) := by
    by_cases e : i = j
    · subst e; simp
    · rw [decide_eq_false e, decide_eq_false (fun z => e (V.str.inj z))]
  rw [e]
  exact q _ _ H h (Same.refl H) (Dt.bl _)
theorem do_eqD {x y : PyData} (h1 : SeqAt.shaped x = true) (h2 : SeqAt.shaped y = true) (h : Ψ (.bool (PyData.eqv x y))) : DO K (rEqD K) x y Ψ := fun N H _ u w hu hw Q q =>
  ⟨x, y, hu.dp (shaped_nd h1), hw.dp (shaped_nd h2), h1, h2, q _ _ H h (Same.refl H) (Dt.bl _)⟩
theorem at_dq {xs : List V} {ds : List PyData} {i : Int} {d : PyData} (h : DqAll K N H xs ds) (e : atI ds i = some d) : ∃ v, atI xs i = some v ∧ Dq K N H v d := by
  unfold atI at e ⊢
  rw [h.len]
  cases q : ixN ds.length i with
  | none => rw [q] at e; cases e
  | some j => rw [q] at e; exact h.get e
theorem do_ixT {ds : List PyData} {i : Int} {d : PyData} (e : atI ds i = some d) (h : Ψ d) : DO K (rIxT K) (.tuple ds) (.int i) Ψ := fun N H _ u w hu hw Q q => by
  obtain ⟨p, xs, rfl, _, h1, h2⟩ := hu.tup_inv
  cases hw
  obtain ⟨v, h3, h4⟩ := at_dq h2 e
  exact ⟨p, xs, i, v, rfl, rfl, (by first | exact h1 | exact .inl h1), h3, q v d H h (Same.refl H) h4⟩
theorem do_ixL {ds : List PyData} {i : Int} {d : PyData} (e : atI ds i = some d) (h : Ψ d) : DO K (rIxL K) (.list ds) (.int i) Ψ := fun N H _ u w hu hw Q q => by
  obtain ⟨p, xs, rfl, _, h1, h2⟩ := hu.lst_inv
  cases hw
  obtain ⟨v, h3, h4⟩ := at_dq h2 e
  exact ⟨p, xs, i, v, rfl, rfl, (by first | exact h1 | exact .inl h1), h3, q v d H h (Same.refl H) h4⟩
/-- + of lists, locked too -/
def rCatL : R2 := fun x y H Q => ∃ a b xs zs, x = .ref a ∧ y = .ref b ∧ Rd H a (.lst xs) ∧ Rd H b (.lst zs) ∧ xs.length + zs.length ≤ sizeLine ∧ ∀ p, H p = none → Q (.ref p) (upd H p (.lst (xs ++ zs)))
theorem op_catL {X : Cx} : OpR X (binaryOp .Add) rCatL := by
  intro pins s τ G x y v u R I rx ry h
  obtain ⟨l, m, xs, zs, rfl, rfl, hL, hM, hz, k⟩ := h
  cases rx
  cases ry
  obtain ⟨z1, i1, n1, w1, g1⟩ := hL.ok I.hok
  obtain ⟨z2, i2, n2, w2, g2⟩ := hM.ok I.hok
  have e1 := w1.length
  have e2 := w2.length
  refine PySem.P.add_list g1 g2 ?_ (by simp only [List.size_toArray]; omega)
  rw [show i1.toArray ++ i2.toArray = (i1 ++ i2).toArray by simp]
  exact ⟨.ref _, _, I.lnew (t' := s.toks) (w1.append w2) (by simp only [List.length_append]; omega), rfl, k _ I.fresh⟩
theorem do_catL {xs ys : List PyData} (hz : xs.length + ys.length ≤ sizeLine) (h : Ψ (.list (xs ++ ys))) : DO K rCatL (.list xs) (.list ys) Ψ := fun N H hN u w hu hw Q q => by
  obtain ⟨p, us, rfl, _, h1, h2⟩ := hu.lst_inv
  obtain ⟨p2, ws, rfl, _, h3, h4⟩ := hw.lst_inv
  refine ⟨p, p2, us, ws, rfl, rfl, h1, h3, by rw [h2.len, h4.len]; exact hz, fun z hz => ?_⟩
  have s := same_new hz (.lst (us ++ ws))
  exact q _ _ _ h s (Dq.lst (fresh_av hN hz) upd_same ((h2.append h4).keep (Keep.of s)))

/-! ### calls of built-ins -/
theorem dc_len_t {ds : List PyData} (h : Ψ (.int ds.length)) : DC K (fun xs H Q => ∃ p ys, xs = [.ref p] ∧ (SqL K H p ys ∨ SqT K H p ys) ∧ Q (.int ys.length) H) [.tuple ds] Ψ := fun N H _ us hu Q q => by
  cases hu with
  | cons h1 h2 =>
    cases h2
    obtain ⟨p, xs, rfl, _, h3, h4⟩ := Dq.tup_inv h1
    exact ⟨p, xs, rfl, .inr h3, q _ _ H h (Same.refl H) (by rw [h4.len]; exact Dt.int _)⟩
theorem dc_gcd {a b : Int} (h : Ψ (.int (Nat.gcd a.natAbs b.natAbs : Nat))) : DC K rGcd [.int a, .int b] Ψ := fun N H _ us hu Q q => by
  cases hu with
  | cons h1 h2 =>
    cases h2 with
    | cons h2 h3 => cases h3; cases h1; cases h2; exact ⟨a, b, rfl, q _ _ H h (Same.refl H) (Dt.int _)⟩
/-- a call on one int, on two, whose answer is an int -/
theorem dc_i1 {f : Int → Int} {i : Int} (h : Ψ (.int (f i))) : DC K (fun xs H Q => ∃ i, xs = [.int i] ∧ Q (.int (f i)) H) [.int i] Ψ := fun N H _ us hu Q q => by
  cases hu with
  | cons h1 h2 => cases h2; cases h1; exact ⟨i, rfl, q _ _ H h (Same.refl H) (Dt.int _)⟩
theorem dc_i2 {f : Int → Int → Int} {i j : Int} (h : Ψ (.int (f i j))) : DC K (fun xs H Q => ∃ i j, xs = [.int i, .int j] ∧ Q (.int (f i j)) H) [.int i, .int j] Ψ := fun N H _ us hu Q q => by
  cases hu with
  | cons h1 h2 =>
    cases h2 with
    | cons h2 h3 => cases h3; cases h1; cases h2; exact ⟨i, j, rfl, q _ _ H h (Same.refl H) (Dt.int _)⟩

/-! ### statements -/
theorem ws_seq {t u : TS} {En : DE} (h : WS K S t ρ { En with nx := fun ρ1 => WS K S u ρ1 En }) : WS K S (tSeq t u) ρ En := fun H0 N0 Z N σ H D E M =>
  h H0 N0 Z N σ H { D with nx := u D } E ⟨fun N σ H ρ q E1 => q H0 N0 Z N σ H D E1 M, M.rt, M.bk, M.ct⟩
theorem ws_next {En : DE} (h : En.nx ρ) : WS K S tNext ρ En := fun H0 N0 Z N σ H D E M => M.nx N σ H ρ h E
theorem ws_asg {te : TE} {i : Nat} {En : DE} (h : WD K S te ρ fun d ρ1 => En.nx (ρ1.set i (.dat d))) : WS K S (tAsg te (gName i)) ρ En := fun H0 N0 Z N σ H D E M =>
  h H0 N0 Z N σ H E _ fun v d ρ1 H1 f E1 k1 d1 => M.nx N _ H1 _ f (E1.set d1)
theorem ws_ret {te : TE} {En : DE} (h : WD K S te ρ En.rt) : WS K S (tRet te) ρ En := fun H0 N0 Z N σ H D E M =>
  h H0 N0 Z N σ H E _ fun v d ρ1 H1 f E1 k1 d1 => M.rt N _ H1 _ v d f E1 (d1.le E1.base)
theorem ws_if {c : TT} {t u : TS} {En : DE} (h : WT K S c ρ fun b ρ1 => if b = true then WS K S t ρ1 En else WS K S u ρ1 En) : WS K S (tIfS c t u) ρ En := fun H0 N0 Z N σ H D E M =>
  h H0 N0 Z N σ H E _ fun b ρ1 H1 f E1 k1 => by
    cases b with
    | true => exact f H0 N0 Z N σ H1 D E1 M
    | false => exact f H0 N0 Z N σ H1 D E1 M
/-- a, b = e1, e2 -/
theorem ws_par {i j : Nat} {ta : TA} {En : DE} (h : WA K S ta ρ fun ds ρ1 => ∃ x y, ds = [x, y] ∧ En.nx ((ρ1.set i (.dat x)).set j (.dat y))) : WS K S (tPar i j ta) ρ En := fun H0 N0 Z N σ H D E M =>
  h H0 N0 Z N σ H E _ fun vs ds ρ1 H1 ⟨x, y, e, f⟩ E1 k1 d1 => by
    subst e
    cases d1 with
    | cons d1 d2 =>
      cases d2 with
      | cons d2 d3 =>
        cases d3
        exact ⟨_, _, rfl, M.nx N _ H1 _ f ((E1.set d1).set d2)⟩
/-- a, b = a pair -/
theorem ws_unp2 {te : TE} {i j : Nat} {En : DE} (h : WD K S te ρ fun d ρ1 => ∃ x y, d = .tuple [x, y] ∧ En.nx ((ρ1.set i (.dat x)).set j (.dat y))) : WS K S (tAsg te (gTup K 2 (gCons (gName i) (gCons (gName j) gNil)))) ρ En := fun H0 N0 Z N σ H D E M =>
  h H0 N0 Z N σ H E _ fun v d ρ1 H1 ⟨x, y, e, f⟩ E1 k1 d1 => by
    subst e
    obtain ⟨p, xs, rfl, _, h1, h2⟩ := d1.tup_inv
    cases h2 with
    | cons a1 a2 =>
      cases a2 with
      | cons a2 a3 =>
        cases a3
        exact ⟨p, _, rfl, h1, rfl, _, _, rfl, _, _, rfl, rfl, M.nx N _ H1 _ f ((E1.set a1).set a2)⟩

/-! ### lists of one's own -/
theorem EnvD.new (E : EnvD K S H0 N0 Z N σ H ρ) {i : Nat} {p : Addr} {xs : List V} {ds : List PyData} (hp : H p = none) (hp0 : H0 p = none) (n0 : N0 p = false) (hd : DqAll K N H xs ds) :
    EnvD K S H0 N0 Z (fun b => N b || decide (b = p)) (σ.set i (some (.ref p))) (upd H p (.lst xs)) (ρ.set i (.own ds)) := by
  have np : N p = false := fresh_av E.trk hp
  have sp : S.fp p = false := by
    cases e : S.fp p with
    | false => rfl
    | true => rw [E.sub p e] at np; cases np
  have s := same_new hp (.lst xs)
  have kw : Same (wo N H) (wo (fun b => N b || decide (b = p)) (upd H p (.lst xs))) := fun b o h => by
    obtain ⟨n, h⟩ := wo_some h
    have hb : b ≠ p := ne_of_none h hp
    rw [wo_in (by simp [n, hb])]
    exact s b o h
  have dk : ∀ {v : V} {d : PyData}, Dq K N H v d → Dq K (fun b => N b || decide (b = p)) (upd H p (.lst xs)) v d := fun h => dp_mono kw _ _ h
  have dka : ∀ {v : List V} {d : List PyData}, DqAll K N H v d → DqAll K (fun b => N b || decide (b = p)) (upd H p (.lst xs)) v d := fun h => dpall_mono kw _ _ h
  have nq : ∀ {q : Addr} {ys : List V}, H q = some (.lst ys) → q ≠ p := fun h => ne_of_none h hp
  have le : ∀ b, N b = true → (N b || decide (b = p)) = true := fun b h => by rw [h]; rfl
  have old : ∀ {s : Sl} {j : Nat}, SlOk K S H0 N0 N σ H j s → SlOk K S H0 N0 (fun b => N b || decide (b = p)) σ (upd H p (.lst xs)) j s := fun {t j} h => by
    cases t with
    | unk => trivial
    | dat d => obtain ⟨v, h1, h2⟩ := h; exact ⟨v, h1, dk h2⟩
    | own es => obtain ⟨q, ys, h1, h2, h3, h4, h5, h6, h7⟩ := h; exact ⟨q, ys, h1, le q h2, h3, h4, h5, s _ _ h6, dka h7⟩
    | sto B =>
      obtain ⟨h1, h2⟩ := h
      exact ⟨h1, S.loc H _ B (fun b hb => upd_ne fun e => by rw [e, sp] at hb; cases hb) h2⟩
    | scr ns => obtain ⟨a, h1, h2⟩ := h; exact ⟨a, h1, kw.seq h2⟩
  refine ⟨fun b o n h => s b o (E.keep b o n h), fun b h => le b (E.base b h), fun b h => ?_, fun b h => le b (E.sub b h), fun j t h => ?_, by rw [List.length_set, List.length_set]; exact E.len, fun z h => ?_, fun a da dj q ha h1 hz => ?_, E.injZ, fun a b da db q ha hb h1 h2 => ?_⟩
  · by_cases e : b = p
    · subst e; rw [upd_same]; simp
    · have n : N b = true := by simpa [e] using h
      rw [upd_ne e]; exact E.trk b n
  · rcases get_set h with ⟨e, e2⟩ | ⟨e, h⟩
    · subst e; subst e2
      have hi : i < σ.length := by
        have := (List.getElem?_eq_some_iff.mp h).1
        rw [List.length_set] at this
        rw [← E.len]; exact this
      exact ⟨p, xs, set_eq hi, by simp, sp, n0, hp0, upd_same, dka hd⟩
    · exact (old (E.slot j t h)).other e
  · cases z with
    | dat v d => exact dk (E.hid _ h)
    | own q es =>
      obtain ⟨ys, h2, h3, h4, h5, h6, h7⟩ := E.hid _ h
      exact ⟨ys, le q h2, h3, h4, h5, s _ _ h6, dka h7⟩
  · rcases get_set ha with ⟨e, e2⟩ | ⟨e, ha⟩
    · subst e
      have hi : i < σ.length := by
        have := (List.getElem?_eq_some_iff.mp h1).1
        rwa [List.length_set] at this
      rw [set_eq hi] at h1
      cases h1
      obtain ⟨ys, h2, h3, h4, h5, h6, h7⟩ := E.hid _ hz
      exact nq h6 rfl
    · rw [set_ne e] at h1
      exact E.injH a da dj q ha h1 hz
  · have own : ∀ {c : Nat} {dc : List PyData} {q : Addr}, ρ[c]? = some (.own dc) → σ[c]? = some (some (V.ref q)) → q ≠ p := fun {c dc q} h1 h2 => by
      obtain ⟨q', ys, g1, g2, g3, g4, g5, g6, g7⟩ := E.slot c _ h1
      rw [g1] at h2; cases h2
      exact nq g6
    have fresh : ∀ {q : Addr}, (σ.set i (some (V.ref p)))[i]? = some (some (V.ref q)) → q = p := fun {q} h => by
      have hi : i < σ.length := by
        have := (List.getElem?_eq_some_iff.mp h).1
        rwa [List.length_set] at this
      rw [set_eq hi] at h; cases h; rfl
    rcases get_set ha with ⟨ea, e2⟩ | ⟨ea, ha⟩
    · rcases get_set hb with ⟨eb, e3⟩ | ⟨eb, hb⟩
      · exact ea.symm.trans eb
      · subst ea
        rw [set_ne eb] at h2
        exact absurd (fresh h1) (own hb h2)
    · rcases get_set hb with ⟨eb, e3⟩ | ⟨eb, hb⟩
      · subst eb
        rw [set_ne ea] at h1
        exact absurd (fresh h2) (own ha h1)
      · rw [set_ne ea] at h1
        rw [set_ne eb] at h2
        exact E.inj a b da db q ha hb h1 h2
end
end DL

set_option Elab.async false
set_option linter.all false
set_option maxRecDepth 100000
set_option maxHeartbeats 2000000
namespace DL
open PySem L2
section
variable {K : PySem.W.Frag} {S : Stt} {H0 : Hp} {N0 : Av} {Z : List Hd} {N : Av} {σ : L2.St} {H H' : Hp} {ρ : Rho} {Φ : PyData → Rho → Prop} {Ψ : PyData → Prop}

theorem free0 (E : EnvD K S H0 N0 Z N σ H ρ) {p : Addr} (hp : H p = none) : H0 p = none ∧ N0 p = false := by
  have np : N p = false := fresh_av E.trk hp
  have sp : S.fp p = false := by
    cases e : S.fp p with
    | false => rfl
    | true => rw [E.sub p e] at np; cases np
  constructor
  · cases e : H0 p with
    | none => rfl
    | some o => rw [E.keep p o sp e] at hp; cases hp
  · cases e : N0 p with
    | false => rfl
    | true => rw [E.base p e] at np; cases np
/-- x = [..], a list that will be filled -/
theorem ws_own {ta : TA} {i : Nat} {En : DE} (h : WA K S ta ρ fun ds ρ1 => ds.length ≤ sizeLine ∧ En.nx (ρ1.set i (.own ds))) : WS K S (tAsg (tLst ta) (gName i)) ρ En := fun H0 N0 Z N σ H D E M =>
  h H0 N0 Z N σ H E _ fun vs ds ρ1 H1 f E1 k1 d1 => ⟨by rw [d1.len]; exact f.1, fun p hp => by
    obtain ⟨z1, z2⟩ := free0 E1 hp
    exact M.nx _ _ _ _ f.2 (E1.new hp z1 z2 d1)⟩
/-- an own list's content changes, at p -/
theorem EnvD.chg (E : EnvD K S H0 N0 Z N σ H ρ) {p : Addr} {xs ys : List V} {i : Nat} {ds es : List PyData} (hi : ρ[i]? = some (.own ds)) (hs : σ[i]? = some (some (.ref p))) (hq : DqAll K N H ys es) :
    EnvD K S H0 N0 Z N σ (upd H p (.lst ys)) (ρ.set i (.own es)) := by
  obtain ⟨p', xs', g1, g2, g3, g4, g5, g6, g7⟩ := E.slot i _ hi
  rw [g1] at hs; cases hs
  have kp : ∀ b o, b ≠ p → H b = some o → upd H p (.lst ys) b = some o := fun b o hb h => by rw [upd_ne hb]; exact h
  have kn : Keep N H (upd H p (.lst ys)) := fun b o n h => kp b o (fun e => by rw [e, g2] at n; cases n) h
  have il : i < ρ.length := (List.getElem?_eq_some_iff.mp hi).1
  refine ⟨fun b o n h => kp b o (fun e => by rw [e, g5] at h; cases h) (E.keep b o n h), E.base, fun b h => ?_, E.sub, fun j t h => ?_, by rw [List.length_set]; exact E.len, fun z h => ?_, fun a da dj q ha h1 hz => ?_, E.injZ, fun a b da db q ha hb h1 h2 => ?_⟩
  · by_cases e : b = p
    · rw [e, upd_same]; simp
    · rw [upd_ne e]; exact E.trk b h
  · rcases get_set h with ⟨e, e2⟩ | ⟨e, h⟩
    · subst e; subst e2
      exact ⟨p, ys, g1, g2, g3, g4, g5, upd_same, hq.keep kn⟩
    · have q := E.slot j t h
      cases t with
      | unk => trivial
      | dat d => obtain ⟨v, h1, h2⟩ := q; exact ⟨v, h1, h2.keep kn⟩
      | own us =>
        obtain ⟨q, zs, h1, h2, h3, h4, h5, h6, h7⟩ := q
        have hne : q ≠ p := fun e2 => by subst e2; exact e (E.inj i j _ _ _ hi h g1 h1)
        exact ⟨q, zs, h1, h2, h3, h4, h5, kp _ _ hne h6, h7.keep kn⟩
      | sto B => obtain ⟨h1, h2⟩ := q; exact ⟨h1, S.loc H _ B (fun b hb => upd_ne fun e => by rw [e, g3] at hb; cases hb) h2⟩
      | scr ns => obtain ⟨a, h1, h2⟩ := q; exact ⟨a, h1, kn.wo.seq h2⟩
  · have q := E.hid z h
    cases z with
    | dat v d => exact Dq.keep q kn
    | own q' zs =>
      obtain ⟨us, h2, h3, h4, h5, h6, h7⟩ := q
      have hne : q' ≠ p := fun e2 => by subst e2; exact E.injH i _ _ _ hi g1 h
      exact ⟨us, h2, h3, h4, h5, kp _ _ hne h6, h7.keep kn⟩
  · rcases get_set ha with ⟨e, e2⟩ | ⟨e, ha⟩
    · subst e
      exact E.injH i _ dj q hi h1 hz
    · exact E.injH a da dj q ha h1 hz
  · have low : ∀ {c : Nat} {dc : List PyData}, (ρ.set i (.own es))[c]? = some (Sl.own dc) → ∃ dc', ρ[c]? = some (Sl.own dc') := fun {c dc} hc => by
      rcases get_set hc with ⟨e, _⟩ | ⟨_, hc⟩
      · subst e; exact ⟨_, hi⟩
      · exact ⟨_, hc⟩
    obtain ⟨da', ha'⟩ := low ha
    obtain ⟨db', hb'⟩ := low hb
    exact E.inj a b _ _ q ha' hb' h1 h2
/-- x.append(e), x a list of one's own -/
theorem ws_append {te : TE} {i : Nat} {es : List PyData} {En : DE} (h0 : ρ[i]? = some (.own es))
    (h : WD K S te ρ fun d ρ1 => ∃ ds, ρ1[i]? = some (.own ds) ∧ ds.length < sizeLine ∧ En.nx (ρ1.set i (.own (ds ++ [d])))) : WS K S (tDrop (tBM K "list" rAppend (tVar i) (tCons te tNil))) ρ En := fun H0 N0 Z N σ H D E M => by
  obtain ⟨p, xs, g1, g2, g3, g4, g5, g6, g7⟩ := E.slot i _ h0
  refine ⟨.ref p, g1, .inl ⟨rfl, _, .inl (.inl g6)⟩, h H0 N0 Z N σ H E _ fun v d ρ1 H1 ⟨ds, f1, f2, f3⟩ E1 k1 d1 => ?_⟩
  obtain ⟨p', xs', e1, e2, e3, e4, e5, e6, e7⟩ := E1.slot i _ f1
  rw [g1] at e1; cases e1
  exact ⟨p, xs', v, rfl, rfl, e6, by rw [e7.len]; exact f2, M.nx N _ _ _ f3 (E1.chg (xs := xs') f1 g1 (e7.append (DqAll.cons d1 DqAll.nil)))⟩
/-- a list of one's own, filled, is data -/
theorem EnvD.frz (E : EnvD K S H0 N0 Z N σ H ρ) {i : Nat} {ds : List PyData} (hi : ρ[i]? = some (.own ds)) : ∃ N', EnvD K S H0 N0 Z N' σ H (ρ.set i (.dat (.list ds))) := by
  obtain ⟨p, xs, g1, g2, g3, g4, g5, g6, g7⟩ := E.slot i _ hi
  have le : Le (fun b => N b && !decide (b = p)) N := fun b h => by simp at h; exact h.1
  have ne : ∀ {q : Addr}, q ≠ p → N q = true → (N q && !decide (q = p)) = true := fun h n => by simp [h, n]
  have il : i < ρ.length := (List.getElem?_eq_some_iff.mp hi).1
  refine ⟨fun b => N b && !decide (b = p), E.keep, fun b h => ne (fun e => by rw [e, g4] at h; cases h) (E.base b h), fun b h => E.trk b (le b h), fun b h => ne (fun e => by rw [e, g3] at h; cases h) (E.sub b h), fun j t h => ?_, by rw [List.length_set]; exact E.len, fun z h => ?_, fun a da dj q ha h1 hz => ?_, E.injZ, fun a b da db q ha hb h1 h2 => ?_⟩
  · rcases get_set h with ⟨e, e2⟩ | ⟨e, h⟩
    · subst e; subst e2
      exact ⟨.ref p, g1, Dq.lst (by simp) g6 (g7.le le)⟩
    · have q := E.slot j t h
      cases t with
      | unk => trivial
      | dat d => obtain ⟨v, h1, h2⟩ := q; exact ⟨v, h1, h2.le le⟩
      | own us =>
        obtain ⟨q, zs, h1, h2, h3, h4, h5, h6, h7⟩ := q
        have hne : q ≠ p := fun e2 => by subst e2; exact e (E.inj i j _ _ _ hi h g1 h1)
        exact ⟨q, zs, h1, ne hne h2, h3, h4, h5, h6, h7.le le⟩
      | sto B => exact q
      | scr ns => obtain ⟨a, h1, h2⟩ := q; exact ⟨a, h1, le.wo.seq h2⟩
  · have q := E.hid z h
    cases z with
    | dat v d => exact Dq.le q le
    | own q' zs =>
      obtain ⟨us, h2, h3, h4, h5, h6, h7⟩ := q
      have hne : q' ≠ p := fun e2 => by subst e2; exact E.injH i _ _ _ hi g1 h
      exact ⟨us, ne hne h2, h3, h4, h5, h6, h7.le le⟩
  · rcases get_set ha with ⟨e, e2⟩ | ⟨e, ha⟩
    · cases e2
    · exact E.injH a da dj q ha h1 hz
  · rcases get_set ha with ⟨e, e2⟩ | ⟨ea, ha⟩
    · cases e2
    · rcases get_set hb with ⟨e, e2⟩ | ⟨eb, hb⟩
      · cases e2
      · exact E.inj a b da db q ha hb h1 h2
theorem ws_frz {ts : TS} {i : Nat} {ds : List PyData} {En : DE} (hi : ρ[i]? = some (.own ds)) (h : WS K S ts (ρ.set i (.dat (.list ds))) En) : WS K S ts ρ En := fun H0 N0 Z N σ H D E M => by
  obtain ⟨N', E'⟩ := E.frz hi
  exact h H0 N0 Z N' σ H D E' M
theorem ws_fgt {ts : TS} {ρ' : Rho} {En : DE} (f : Fgt ρ ρ') (h : WS K S ts ρ' En) : WS K S ts ρ En := fun H0 N0 Z N σ H D E M => h H0 N0 Z N σ H D (E.fgt f) M

/-! ### loops -/
theorem EnvD.push (E : EnvD K S H0 N0 Z N σ H ρ) {v : V} {d : PyData} (h : Dq K N H v d) : EnvD K S H0 N0 (.dat v d :: Z) N σ H ρ where
  keep := E.keep
  base := E.base
  trk := E.trk
  sub := E.sub
  slot := E.slot
  len := E.len
  hid z hz := by
    rcases List.mem_cons.mp hz with e | hz
    · subst e; exact h
    · exact E.hid z hz
  injH i di dj p h1 h2 hz := by
    rcases List.mem_cons.mp hz with e | hz
    · cases e
    · exact E.injH i di dj p h1 h2 hz
  injZ i j di dj p h1 h2 := by
    cases i with
    | zero => simp at h1
    | succ i =>
      cases j with
      | zero => simp at h2
      | succ j => exact congrArg (· + 1) (E.injZ i j di dj p (by simpa using h1) (by simpa using h2))
  inj := E.inj
theorem EnvD.pop {z : Hd} (E : EnvD K S H0 N0 (z :: Z) N σ H ρ) : EnvD K S H0 N0 Z N σ H ρ where
  keep := E.keep
  base := E.base
  trk := E.trk
  sub := E.sub
  slot := E.slot
  len := E.len
  hid z hz := E.hid z (List.mem_cons_of_mem _ hz)
  injH i di dj p h1 h2 hz := E.injH i di dj p h1 h2 (List.mem_cons_of_mem _ hz)
  injZ i j di dj p h1 h2 := Nat.succ.inj (E.injZ (i + 1) (j + 1) di dj p (by simpa using h1) (by simpa using h2))
  inj := E.inj
/-- while, by a word with a measure -/
theorem ws_while {c : TT} {tb : TS} {En : DE} (I : Nat → Rho → Prop) (m0 : Nat) (i0 : I m0 ρ)
    (turn : ∀ m ρ1, I m ρ1 → WT K S c ρ1 fun b ρ2 => if b = true then WS K S tb ρ2 { nx := fun ρ3 => ∃ m', m' < m ∧ I m' ρ3, rt := En.rt, bk := En.nx, ct := fun ρ3 => ∃ m', m' < m ∧ I m' ρ3 } else En.nx ρ2) :
    WS K S (tWhile c tb) ρ En := fun H0 N0 Z N σ H D E M => by
  refine ⟨fun m σ' H' => ∃ N' ρ', EnvD K S H0 N0 Z N' σ' H' ρ' ∧ I m ρ', ⟨m0, N, ρ, E, i0⟩, ?_⟩
  rintro m σ' H' ⟨N', ρ', E', iv⟩
  refine turn m ρ' iv H0 N0 Z N' σ' H' E' _ fun b ρ2 H2 f E2 k2 => ?_
  cases b with
  | true => exact ⟨fun σ3 H3 => ∃ m', m' < m ∧ ∃ N3 ρ3, EnvD K S H0 N0 Z N3 σ3 H3 ρ3 ∧ I m' ρ3, fun σ3 H3 ⟨m', l, w⟩ => ⟨m', l, w⟩, f H0 N0 Z N' σ' H2 _ E2 ⟨fun N3 σ3 H3 ρ3 ⟨m', l, w⟩ E3 => ⟨m', l, N3, ρ3, E3, w⟩, M.rt, M.nx, fun N3 σ3 H3 ρ3 ⟨m', l, w⟩ E3 => ⟨m', l, N3, ρ3, E3, w⟩⟩⟩
  | false => exact M.nx N' σ' H2 ρ2 f E2

/-! ### comprehensions -/
def wipeR (ρ : Rho) : List Nat → Rho
  | [] => ρ
  | v :: vs => (wipeR ρ vs).set v .unk
theorem EnvD.wipe (E : EnvD K S H0 N0 Z N σ H ρ) : ∀ vs : List Nat, EnvD K S H0 N0 Z N (L2.wipe σ vs) H (wipeR ρ vs)
  | [] => E
  | v :: vs => (E.wipe vs).unset
/-- behind a comprehension: the names as ahead of it -/
theorem EnvD.unwipe : ∀ {vs : List Nat} {σ : L2.St} {ρ : Rho}, EnvD K S H0 N0 Z N (L2.wipe σ vs) H ρ → EnvD K S H0 N0 Z N σ H (wipeR ρ vs)
  | [], _, _, E => E
  | v :: vs, σ, ρ, E => by
    have e : EnvD K S H0 N0 Z N ((L2.wipe σ vs).set v none) H ρ := E
    by_cases hv : v < (L2.wipe σ vs).length
    · have e2 := e.unset (i := v) (u := (L2.wipe σ vs)[v])
      rw [List.set_set, List.set_getElem_self] at e2
      have e3 := EnvD.unwipe e2
      have cm : ∀ (us : List Nat) (r : Rho), wipeR (r.set v .unk) us = (wipeR r us).set v .unk := fun us => by
        induction us with
        | nil => intro r; rfl
        | cons u us ih =>
          intro r
          show (wipeR (r.set v .unk) us).set u .unk = ((wipeR r us).set u .unk).set v .unk
          rw [ih]
          by_cases huv : u = v
          · subst huv; rfl
          · exact List.set_comm _ _ (fun q => huv q.symm)
      rw [cm] at e3
      exact e3
    · rw [List.set_eq_of_length_le (by omega)] at e
      have e3 := EnvD.unwipe e
      show EnvD K S H0 N0 Z N σ H ((wipeR ρ vs).set v .unk)
      exact e3.fgt ⟨by rw [List.length_set], fun j s h => by
        rcases get_set h with ⟨_, q⟩ | ⟨_, q⟩
        · exact .inl q
        · exact .inr q⟩
end
end DL

set_option Elab.async false
set_option linter.all false
set_option maxRecDepth 100000
set_option maxHeartbeats 2000000
namespace DL
open PySem L2
/-- what a for walks, as data: hidden things Zx keep it, ds are its items -/
def Src (K : PySem.W.Frag) (J : It) (Zx : List Hd) (ds : List PyData) : Prop :=
  ∀ S H0 N0 Z N σ H ρ, EnvD K S H0 N0 (Zx ++ Z) N σ H ρ → (∀ k d, ds[k]? = some d → J.go k H ∧ ∀ x H', J.yld k H x H' → Same H H' ∧ Dq K N H' x d) ∧ J.stop ds.length H
def WI (K : PySem.W.Frag) (S : Stt) (wi : TI) (ρ : Rho) (Θ : List PyData → Rho → Prop) : Prop :=
  ∀ H0 N0 Z N σ H, EnvD K S H0 N0 Z N σ H ρ → ∀ R : It → Hp → Prop, (∀ J Zx ds ρ' H', Θ ds ρ' → Src K J Zx ds → (∀ p es, Hd.own p es ∉ Zx) → EnvD K S H0 N0 (Zx ++ Z) N σ H' ρ' → Keep N H H' → R J H') → wi σ H R
/-- a target takes a datum -/
def GD (K : PySem.W.Frag) (g : TG) (d : PyData) (ts : List Nat) (f : Rho → Rho) : Prop :=
  ∀ S H0 N0 Z N σ H ρ x, EnvD K S H0 N0 Z N σ H ρ → Dq K N H x d → ∀ Q : L2.St → Hp → Prop, (∀ σ', EnvD K S H0 N0 Z N σ' H (f ρ) → σ'.length = σ.length → (∀ j, j ∉ ts → σ'[j]? = σ[j]?) → Q σ' H) → g x σ H Q
section
variable {K : PySem.W.Frag} {S : Stt} {H0 : Hp} {N0 : Av} {Z : List Hd} {N : Av} {σ : L2.St} {H H' : Hp} {ρ : Rho} {Φ : PyData → Rho → Prop} {Ψ : PyData → Prop}

theorem EnvD.popn : ∀ {Zx : List Hd}, EnvD K S H0 N0 (Zx ++ Z) N σ H ρ → EnvD K S H0 N0 Z N σ H ρ
  | [], E => E
  | _ :: _, E => EnvD.popn E.pop
theorem src_list {a : Addr} {ds : List PyData} : Src K (Itl K a) [.dat (.ref a) (.list ds)] ds := fun S H0 N0 Z N σ H ρ E => by
  obtain ⟨p, xs, e, _, hr, ha⟩ := Dq.lst_inv (E.hid _ List.mem_cons_self)
  cases e
  refine ⟨fun k d hd => ?_, xs, .inl hr, by rw [ha.len]; exact Nat.le_refl _⟩
  obtain ⟨y, hy, hyd⟩ := ha.get hd
  refine ⟨⟨xs, y, .inl hr, hy⟩, fun x H' ⟨e1, e2⟩ => ?_⟩
  subst e1
  have ex : x = y := Option.some.inj ((e2 xs (.inl hr)).symm.trans hy)
  subst ex
  exact ⟨Same.refl _, hyd⟩
theorem src_tup {a : Addr} {ds : List PyData} : Src K (Itt K a) [.dat (.ref a) (.tuple ds)] ds := fun S H0 N0 Z N σ H ρ E => by
  obtain ⟨p, xs, e, _, hr, ha⟩ := Dq.tup_inv (E.hid _ List.mem_cons_self)
  cases e
  refine ⟨fun k d hd => ?_, xs, hr, by rw [ha.len]; exact Nat.le_refl _⟩
  obtain ⟨y, hy, hyd⟩ := ha.get hd
  refine ⟨⟨xs, y, hr, hy⟩, fun x H' ⟨e1, e2⟩ => ?_⟩
  subst e1
  have ex : x = y := Option.some.inj ((e2 xs hr).symm.trans hy)
  subst ex
  exact ⟨Same.refl _, hyd⟩
theorem src_rng {lo : Int} {n : Nat} : Src K (Itr lo n) [] ((List.range n).map fun k : Nat => PyData.int (lo + k)) := fun S H0 N0 Z N σ H ρ E => by
  refine ⟨fun k d hd => ?_, by show n ≤ _; simp⟩
  rw [List.getElem?_map] at hd
  by_cases hk : k < n
  · rw [List.getElem?_range hk] at hd
    cases hd
    refine ⟨hk, fun x H' ⟨e1, e2⟩ => ?_⟩
    subst e1; subst e2
    exact ⟨Same.refl _, Dt.int _⟩
  · rw [List.getElem?_eq_none (by simp; omega)] at hd
    cases hd
theorem src_enum {a : Addr} {ds : List PyData} : Src K (Ite K a) [.dat (.ref a) (.list ds)] (ds.mapIdx fun k d => PyData.tuple [.int k, d]) := fun S H0 N0 Z N σ H ρ E => by
  obtain ⟨p, xs, e, _, hr, ha⟩ := Dq.lst_inv (E.hid _ List.mem_cons_self)
  cases e
  refine ⟨fun k d hd => ?_, xs, .inl hr, by rw [ha.len]; simp⟩
  rw [List.getElem?_mapIdx] at hd
  obtain ⟨d0, hd0, rfl⟩ := Option.map_eq_some_iff.mp hd
  obtain ⟨y, hy, hyd⟩ := ha.get hd0
  refine ⟨⟨xs, y, .inl hr, hy⟩, fun v H' ⟨T, x, e1, e2, e3, e4⟩ => ?_⟩
  subst e1; subst e3
  have ex : x = y := Option.some.inj ((e4 xs (.inl hr)).symm.trans hy)
  subst ex
  have s := same_new e2 (.tup [.int (k : Nat), x])
  exact ⟨s, Dq.tup (fresh_av E.trk e2) upd_same (DqAll.cons (Dt.int _) (DqAll.cons (hyd.keep (Keep.of s)) DqAll.nil))⟩
theorem no_own1 {v : V} {d : PyData} : ∀ p es, Hd.own p es ∉ [Hd.dat v d] := fun p es h => by simp at h
theorem wi_list {tl : TE} {Θ : List PyData → Rho → Prop} (h : WD K S tl ρ fun d ρ1 => ∃ ds, d = .list ds ∧ Θ ds ρ1) : WI K S (iList K tl) ρ Θ := fun H0 N0 Z N σ H E R q =>
  h H0 N0 Z N σ H E _ fun v d ρ1 H1 ⟨ds, e, f⟩ E1 k1 d1 => by
    subst e
    obtain ⟨p, xs, rfl, hw, hr, ha⟩ := d1.lst_inv
    exact ⟨p, rfl, ⟨xs, .inl hr⟩, q _ _ ds ρ1 H1 f src_list no_own1 (E1.push d1) k1⟩
theorem wi_tup {tl : TE} {Θ : List PyData → Rho → Prop} (h : WD K S tl ρ fun d ρ1 => ∃ ds, d = .tuple ds ∧ Θ ds ρ1) : WI K S (iTup K tl) ρ Θ := fun H0 N0 Z N σ H E R q =>
  h H0 N0 Z N σ H E _ fun v d ρ1 H1 ⟨ds, e, f⟩ E1 k1 d1 => by
    subst e
    obtain ⟨p, xs, rfl, hw, hr, ha⟩ := d1.tup_inv
    exact ⟨p, rfl, ⟨xs, hr⟩, q _ _ ds ρ1 H1 f src_tup no_own1 (E1.push d1) k1⟩
theorem wi_enum {ta : TA} {Θ : List PyData → Rho → Prop} (h : WA K S ta ρ fun xs ρ1 => ∃ ds, xs = [.list ds] ∧ Θ (ds.mapIdx fun k d => PyData.tuple [.int k, d]) ρ1) : WI K S (iEnum K ta) ρ Θ := fun H0 N0 Z N σ H E R q =>
  h H0 N0 Z N σ H E _ fun vs xs ρ1 H1 ⟨ds, e, f⟩ E1 k1 d1 => by
    subst e
    cases d1 with
    | cons d1 d2 =>
      cases d2
      obtain ⟨p, xs, rfl, hw, hr, ha⟩ := Dq.lst_inv d1
      exact ⟨p, xs, rfl, .inl hr, q _ _ _ ρ1 H1 f src_enum no_own1 (E1.push d1) k1⟩
theorem wi_rng1 {ta : TA} {Θ : List PyData → Rho → Prop} (h : WA K S ta ρ fun xs ρ1 => ∃ n : Int, xs = [.int n] ∧ -(2 ^ 62) ≤ n ∧ n < 2 ^ 62 ∧ Θ ((List.range n.toNat).map fun k : Nat => PyData.int (0 + k)) ρ1) : WI K S (iRng1 ta) ρ Θ := fun H0 N0 Z N σ H E R q =>
  h H0 N0 Z N σ H E _ fun vs xs ρ1 H1 ⟨n, e, b1, b2, f⟩ E1 k1 d1 => by
    subst e
    cases d1 with
    | cons d1 d2 =>
      cases d2
      cases d1
      exact ⟨n, rfl, b1, b2, q _ [] _ ρ1 H1 f src_rng (fun p es h => by simp at h) E1 k1⟩
theorem gd_name {i : Nat} {d : PyData} : GD K (gName i) d [i] (fun ρ => ρ.set i (.dat d)) := fun S H0 N0 Z N σ H ρ x E hx Q q =>
  q _ (E.set hx) (List.length_set ..) fun j hj => set_ne fun e => hj (by simp [e])
theorem gd_pair {i j : Nat} {a b : PyData} : GD K (gTup K 2 (gCons (gName i) (gCons (gName j) gNil))) (.tuple [a, b]) [i, j] (fun ρ => (ρ.set i (.dat a)).set j (.dat b)) := fun S H0 N0 Z N σ H ρ x E hx Q q => by
  obtain ⟨p, xs, rfl, _, h1, h2⟩ := hx.tup_inv
  cases h2 with
  | cons a1 a2 =>
    cases a2 with
    | cons a2 a3 =>
      cases a3
      exact ⟨p, _, rfl, h1, rfl, _, _, rfl, _, _, rfl, rfl, q _ ((E.set a1).set a2) (by rw [List.length_set, List.length_set]) fun k hk => by
        have h1 : j ≠ k := fun e => hk (by simp [e])
        have h2 : i ≠ k := fun e => hk (by simp [e])
        rw [set_ne h1, set_ne h2]⟩
/-- for TARGET in THING -/
theorem ws_for {wi : TI} {g : TG} {tb : TS} {En : DE} (h : WI K S wi ρ fun ds ρ1 => ∃ I : Nat → Rho → Prop, I 0 ρ1 ∧
      (∀ k d ρ2, ds[k]? = some d → I k ρ2 → ∃ ts f, GD K g d ts f ∧ WS K S tb (f ρ2) { nx := I (k + 1), rt := En.rt, bk := En.nx, ct := I (k + 1) }) ∧ (∀ ρ2, I ds.length ρ2 → En.nx ρ2)) :
    WS K S (tFor wi g tb) ρ En := fun H0 N0 Z N σ H D E M =>
  h H0 N0 Z N σ H E _ fun J Zx ds ρ1 H1 ⟨I, i0, step, fin⟩ src _ E1 k1 => by
    refine ⟨fun k m σ' H' => ∃ N' ρ', EnvD K S H0 N0 (Zx ++ Z) N' σ' H' ρ' ∧ I k ρ' ∧ m = ds.length - k ∧ k ≤ ds.length, ⟨_, N, ρ1, E1, i0, rfl, Nat.zero_le _⟩, ?_⟩
    rintro k m σ' H' ⟨N', ρ', E', iv, rfl, hk⟩
    obtain ⟨s1, s2⟩ := src S H0 N0 Z N' σ' H' ρ' E'
    by_cases hlt : k < ds.length
    · have hd := List.getElem?_eq_getElem hlt
      obtain ⟨go, yl⟩ := s1 k _ hd
      obtain ⟨ts, f, gd, st⟩ := step k _ ρ' hd iv
      refine .inr ⟨go, fun σ2 H2 => ∃ N2 ρ2, EnvD K S H0 N0 (Zx ++ Z) N2 σ2 H2 ρ2 ∧ I (k + 1) ρ2, fun σ2 H2 ⟨N2, ρ2, E2, iv2⟩ => ⟨ds.length - (k + 1), by omega, N2, ρ2, E2, iv2, rfl, hlt⟩, fun x H2 hy => ?_⟩
      obtain ⟨sm, dx⟩ := yl x H2 hy
      exact gd S H0 N0 (Zx ++ Z) N' σ' H2 ρ' x (E'.ext sm) dx _ fun σ3 E3 _ _ => st H0 N0 _ N' _ _ _ E3 ⟨fun N2 σ2 H2 ρ2 q E2 => ⟨N2, ρ2, E2, q⟩, fun N2 σ2 H2 ρ2 v d q E2 => M.rt N2 σ2 H2 ρ2 v d q E2.popn, fun N2 σ2 H2 ρ2 q E2 => M.nx N2 σ2 H2 ρ2 q E2.popn, fun N2 σ2 H2 ρ2 q E2 => ⟨N2, ρ2, E2, q⟩⟩
    · have ek : k = ds.length := by omega
      subst ek
      exact .inl ⟨s2, M.nx N' σ' H' ρ' (fin ρ' iv) E'.popn⟩

/-! ### a comprehension's list -/
theorem EnvD.pushOwn (E : EnvD K S H0 N0 Z N σ H ρ) {p : Addr} (hp : H p = none) : EnvD K S H0 N0 (.own p [] :: Z) (fun b => N b || decide (b = p)) σ (upd H p (.lst [])) ρ := by
  obtain ⟨hp0, n0⟩ := free0 E hp
  have e : EnvD K S H0 N0 Z N (σ ++ [none]) H (ρ ++ [.unk]) := {
    keep := E.keep, base := E.base, trk := E.trk, sub := E.sub, hid := E.hid, injZ := E.injZ,
    len := by simp [E.len],
    slot := fun i s h => by
      by_cases hi : i < ρ.length
      · rw [List.getElem?_append_left hi] at h
        have q := E.slot i s h
        have hi2 : i < σ.length := by rw [← E.len]; exact hi
        cases s with
        | unk => trivial
        | dat d => obtain ⟨v, h1, h2⟩ := q; exact ⟨v, by rw [List.getElem?_append_left hi2]; exact h1, h2⟩
        | own ds => obtain ⟨v, xs, h1, h2⟩ := q; exact ⟨v, xs, by rw [List.getElem?_append_left hi2]; exact h1, h2⟩
        | sto B => obtain ⟨h1, h2⟩ := q; exact ⟨by rw [List.getElem?_append_left hi2]; exact h1, h2⟩
        | scr ns => obtain ⟨a, h1, h2⟩ := q; exact ⟨a, by rw [List.getElem?_append_left hi2]; exact h1, h2⟩
      · rw [List.getElem?_append_right (by omega)] at h
        have : s = .unk := by
          cases hh : i - ρ.length with
          | zero => rw [hh] at h; simpa using h.symm
          | succ n => rw [hh] at h; simp at h
        subst this; trivial
    injH := fun i di dj q h1 h2 hz => by
      by_cases hi : i < ρ.length
      · rw [List.getElem?_append_left hi] at h1
        rw [List.getElem?_append_left (by rw [← E.len]; exact hi)] at h2
        exact E.injH i di dj q h1 h2 hz
      · rw [List.getElem?_append_right (by omega)] at h1
        cases hh : i - ρ.length with
        | zero => rw [hh] at h1; simp at h1
        | succ n => rw [hh] at h1; simp at h1
    inj := fun i j di dj q h1 h2 h3 h4 => by
      have lo : ∀ {c : Nat} {dc : List PyData}, (ρ ++ [Sl.unk])[c]? = some (Sl.own dc) → c < ρ.length ∧ ρ[c]? = some (Sl.own dc) := fun {c dc} h => by
        by_cases hi : c < ρ.length
        · rw [List.getElem?_append_left hi] at h; exact ⟨hi, h⟩
        · rw [List.getElem?_append_right (by omega)] at h
          cases hh : c - ρ.length with
          | zero => rw [hh] at h; simp at h
          | succ n => rw [hh] at h; simp at h
      obtain ⟨b1, h1⟩ := lo h1
      obtain ⟨b2, h2⟩ := lo h2
      rw [List.getElem?_append_left (by rw [← E.len]; exact b1)] at h3
      rw [List.getElem?_append_left (by rw [← E.len]; exact b2)] at h4
      exact E.inj i j di dj q h1 h2 h3 h4 }
  have e2 := e.new (i := ρ.length) (ds := []) hp hp0 n0 DqAll.nil
  have r1 : (ρ ++ [Sl.unk]).set ρ.length (.own []) = ρ ++ [.own []] := by simp
  have r2 : (σ ++ [none]).set ρ.length (some (V.ref p)) = σ ++ [some (V.ref p)] := by rw [E.len]; simp
  rw [r1, r2] at e2
  have lt : ∀ {i : Nat} {s : Sl}, ρ[i]? = some s → i < ρ.length ∧ i < σ.length := fun {i s} h => by
    have h1 := (List.getElem?_eq_some_iff.mp h).1
    exact ⟨h1, by rw [← E.len]; exact h1⟩
  have up : ∀ {i : Nat} {s : Sl}, ρ[i]? = some s → (ρ ++ [Sl.own []])[i]? = some s := fun h => by rw [List.getElem?_append_left (lt h).1]; exact h
  have lastR : (ρ ++ [Sl.own []])[ρ.length]? = some (.own []) := by simp
  have lastS : (σ ++ [some (V.ref p)])[ρ.length]? = some (some (V.ref p)) := by rw [E.len]; simp
  refine ⟨e2.keep, e2.base, e2.trk, e2.sub, fun i s h => ?_, E.len, fun z h => ?_, fun i di dj q h1 h2 hz => ?_, fun i j di dj q h1 h2 => ?_, E.inj⟩
  · have q := e2.slot i s (up h)
    have l2 := (lt h).2
    cases s with
    | unk => trivial
    | dat d => obtain ⟨v, h1, h2⟩ := q; exact ⟨v, by rw [List.getElem?_append_left l2] at h1; exact h1, h2⟩
    | own ds => obtain ⟨v, xs, h1, h2⟩ := q; exact ⟨v, xs, by rw [List.getElem?_append_left l2] at h1; exact h1, h2⟩
    | sto B => obtain ⟨h1, h2⟩ := q; exact ⟨by rw [List.getElem?_append_left l2] at h1; exact h1, h2⟩
    | scr ns => obtain ⟨a, h1, h2⟩ := q; exact ⟨a, by rw [List.getElem?_append_left l2] at h1; exact h1, h2⟩
  · rcases List.mem_cons.mp h with e | h
    · subst e
      obtain ⟨p', xs, h1, h2⟩ := e2.slot ρ.length _ lastR
      rw [lastS] at h1; cases h1
      exact ⟨xs, h2⟩
    · exact e2.hid z h
  · rcases List.mem_cons.mp hz with e | hz
    · cases e
      have := e2.inj i ρ.length di [] p (up h1) lastR (by rw [List.getElem?_append_left (lt h1).2]; exact h2) lastS
      exact absurd (lt h1).1 (by omega)
    · exact E.injH i di dj q h1 h2 hz
  · cases i with
    | zero =>
      cases j with
      | zero => rfl
      | succ j =>
        exfalso
        simp at h1
        obtain ⟨h1a, h1b⟩ := h1
        subst h1a
        exact e2.injH ρ.length [] dj p lastR lastS (List.mem_of_getElem? (by simpa using h2))
    | succ i =>
      cases j with
      | zero =>
        exfalso
        simp at h2
        obtain ⟨h2a, h2b⟩ := h2
        subst h2a
        exact e2.injH ρ.length [] di p lastR lastS (List.mem_of_getElem? (by simpa using h1))
      | succ j => exact congrArg (· + 1) (E.injZ i j di dj q (by simpa using h1) (by simpa using h2))
end
end DL

set_option Elab.async false
set_option linter.all false
set_option maxRecDepth 100000
set_option maxHeartbeats 2000000
namespace DL
open PySem L2
section
variable {K : PySem.W.Frag} {S : Stt} {H0 : Hp} {N0 : Av} {Z : List Hd} {N : Av} {σ : L2.St} {H H' : Hp} {ρ : Rho} {Φ : PyData → Rho → Prop} {Ψ : PyData → Prop}
theorem EnvD.chgH {p : Addr} {ys : List V} {es fs : List PyData} (E : EnvD K S H0 N0 (.own p es :: Z) N σ H ρ) (hq : DqAll K N H ys fs) : EnvD K S H0 N0 (.own p fs :: Z) N σ (upd H p (.lst ys)) ρ := by
  obtain ⟨xs, g2, g3, g4, g5, g6, g7⟩ := E.hid _ List.mem_cons_self
  have kp : ∀ b o, b ≠ p → H b = some o → upd H p (.lst ys) b = some o := fun b o hb h => by rw [upd_ne hb]; exact h
  have kn : Keep N H (upd H p (.lst ys)) := fun b o n h => kp b o (fun e => by rw [e, g2] at n; cases n) h
  refine ⟨fun b o n h => kp b o (fun e => by rw [e, g5] at h; cases h) (E.keep b o n h), E.base, fun b h => ?_, E.sub, fun j t h => ?_, E.len, fun z h => ?_, fun i di dj q h1 h2 hz => ?_, fun i j di dj q h1 h2 => ?_, E.inj⟩
  · by_cases e : b = p
    · rw [e, upd_same]; simp
    · rw [upd_ne e]; exact E.trk b h
  · have q := E.slot j t h
    cases t with
    | unk => trivial
    | dat d => obtain ⟨v, h1, h2⟩ := q; exact ⟨v, h1, h2.keep kn⟩
    | own us =>
      obtain ⟨q, zs, h1, h2, h3, h4, h5, h6, h7⟩ := q
      have hne : q ≠ p := fun e2 => by subst e2; exact E.injH j _ _ _ h h1 List.mem_cons_self
      exact ⟨q, zs, h1, h2, h3, h4, h5, kp _ _ hne h6, h7.keep kn⟩
    | sto B => obtain ⟨h1, h2⟩ := q; exact ⟨h1, S.loc H _ B (fun b hb => upd_ne fun e => by rw [e, g3] at hb; cases hb) h2⟩
    | scr ns => obtain ⟨a, h1, h2⟩ := q; exact ⟨a, h1, kn.wo.seq h2⟩
  · rcases List.mem_cons.mp h with e | hz
    · subst e
      exact ⟨ys, g2, g3, g4, g5, upd_same, hq.keep kn⟩
    · have q := E.hid z (List.mem_cons_of_mem _ hz)
      cases z with
      | dat v d => exact Dq.keep q kn
      | own q' zs =>
        obtain ⟨us, h2, h3, h4, h5, h6, h7⟩ := q
        have hne : q' ≠ p := fun e2 => by
          subst e2
          obtain ⟨n, hn⟩ := List.getElem?_of_mem hz
          have := E.injZ 0 (n + 1) es zs q' rfl (by simpa using hn)
          cases this
        exact ⟨us, h2, h3, h4, h5, kp _ _ hne h6, h7.keep kn⟩
  · rcases List.mem_cons.mp hz with e | hz
    · cases e
      exact E.injH i di es p h1 h2 List.mem_cons_self
    · exact E.injH i di dj q h1 h2 (List.mem_cons_of_mem _ hz)
  · have lo : ∀ {c : Nat} {dc : List PyData} {q : Addr}, (Hd.own p fs :: Z)[c]? = some (Hd.own q dc) → ∃ dc', (Hd.own p es :: Z)[c]? = some (Hd.own q dc') := fun {c dc q} h => by
      cases c with
      | zero => simp at h; obtain ⟨e, _⟩ := h; subst e; exact ⟨es, rfl⟩
      | succ c => exact ⟨dc, by simpa using h⟩
    obtain ⟨d1, h1⟩ := lo h1
    obtain ⟨d2, h2⟩ := lo h2
    exact E.injZ i j d1 d2 q h1 h2
theorem EnvD.popOwn {p : Addr} {es : List PyData} (np : N p = false) (E : EnvD K S H0 N0 (.own p es :: Z) (fun b => N b || decide (b = p)) σ H ρ) : EnvD K S H0 N0 Z N σ H ρ ∧ Dq K N H (.ref p) (.list es) := by
  obtain ⟨xs, g2, g3, g4, g5, g6, g7⟩ := E.hid _ List.mem_cons_self
  have le : Le N (fun b => N b || decide (b = p)) := fun b h => by simp [h]
  have ne : ∀ {q : Addr}, q ≠ p → (N q || decide (q = p)) = true → N q = true := fun h n => by simpa [h] using n
  refine ⟨⟨E.keep, fun b h => ne (fun e => by rw [e, g4] at h; cases h) (E.base b h), fun b h => E.trk b (le b h), fun b h => ne (fun e => by rw [e, g3] at h; cases h) (E.sub b h), fun j t h => ?_, E.len, fun z h => ?_, fun i di dj q h1 h2 hz => E.injH i di dj q h1 h2 (List.mem_cons_of_mem _ hz), E.pop.injZ, E.inj⟩, Dq.lst np g6 (g7.le le)⟩
  · have q := E.slot j t h
    cases t with
    | unk => trivial
    | dat d => obtain ⟨v, h1, h2⟩ := q; exact ⟨v, h1, h2.le le⟩
    | own us =>
      obtain ⟨q, zs, h1, h2, h3, h4, h5, h6, h7⟩ := q
      have hne : q ≠ p := fun e2 => by subst e2; exact E.injH j _ _ _ h h1 List.mem_cons_self
      exact ⟨q, zs, h1, ne hne h2, h3, h4, h5, h6, h7.le le⟩
    | sto B => exact q
    | scr ns => obtain ⟨a, h1, h2⟩ := q; exact ⟨a, h1, le.wo.seq h2⟩
  · have q := E.hid z (List.mem_cons_of_mem _ h)
    cases z with
    | dat v d => exact Dq.le q le
    | own q' zs =>
      obtain ⟨us, h2, h3, h4, h5, h6, h7⟩ := q
      have hne : q' ≠ p := fun e2 => by
        subst e2
        obtain ⟨n, hn⟩ := List.getElem?_of_mem h
        have := E.injZ 0 (n + 1) es zs q' rfl (by simpa using hn)
        cases this
      exact ⟨us, ne hne h2, h3, h4, h5, h6, h7.le le⟩
/-! ### wiping names -/
theorem wipe_get (σ : L2.St) : ∀ (vs : List Nat) (j : Nat), (L2.wipe σ vs)[j]? = if j ∈ vs ∧ j < σ.length then some none else σ[j]?
  | [], j => by simp [L2.wipe]
  | v :: vs, j => by
    show ((L2.wipe σ vs).set v none)[j]? = _
    by_cases e : v = j
    · subst e
      by_cases hl : v < σ.length
      · rw [List.getElem?_set_self (by rw [wipe_length]; exact hl), if_pos ⟨List.mem_cons_self, hl⟩]
      · rw [if_neg (fun q => hl q.2), List.getElem?_eq_none (by rw [List.length_set, wipe_length]; omega), List.getElem?_eq_none (by omega)]
    · rw [List.getElem?_set_ne e, wipe_get σ vs j]
      have : (j ∈ v :: vs ∧ j < σ.length) ↔ (j ∈ vs ∧ j < σ.length) := by
        simp only [List.mem_cons]
        constructor
        · rintro ⟨q | q, l⟩
          · exact absurd q.symm e
          · exact ⟨q, l⟩
        · rintro ⟨q, l⟩; exact ⟨.inr q, l⟩
      simp only [this]
theorem wipe_off {σ τ : L2.St} {vs : List Nat} (hl : τ.length = σ.length) (h : ∀ j, j ∉ vs → τ[j]? = (L2.wipe σ vs)[j]?) : L2.wipe τ vs = L2.wipe σ vs := by
  refine List.ext_getElem? fun j => ?_
  rw [wipe_get τ]
  by_cases hj : j ∈ vs
  · by_cases hl2 : j < τ.length
    · rw [if_pos ⟨hj, hl2⟩, wipe_get, if_pos ⟨hj, by rw [← hl]; exact hl2⟩]
    · rw [if_neg (fun q => hl2 q.2), List.getElem?_eq_none (by omega), List.getElem?_eq_none (by rw [wipe_length]; omega)]
  · rw [if_neg (fun q => hj q.1)]; exact h j hj
/-- back to the wiped names -/
theorem EnvD.rewipe {τ : L2.St} {vs : List Nat} (E : EnvD K S H0 N0 Z N τ H ρ) (e : L2.wipe τ vs = L2.wipe σ vs) : EnvD K S H0 N0 Z N (L2.wipe σ vs) H (wipeR ρ vs) := by
  rw [← e]; exact E.wipe vs
theorem EnvD.mid {z : Hd} {Zx : List Hd} (E : EnvD K S H0 N0 (z :: (Zx ++ Z)) N σ H ρ) : EnvD K S H0 N0 (z :: Z) N σ H ρ where
  keep := E.keep
  base := E.base
  trk := E.trk
  sub := E.sub
  slot := E.slot
  len := E.len
  hid w hw := E.hid w (by
    rcases List.mem_cons.mp hw with e | e
    · subst e; exact List.mem_cons_self
    · exact List.mem_cons_of_mem _ (List.mem_append_right _ e))
  injH i di dj p h1 h2 hz := E.injH i di dj p h1 h2 (by
    rcases List.mem_cons.mp hz with e | e
    · subst e; exact List.mem_cons_self
    · exact List.mem_cons_of_mem _ (List.mem_append_right _ e))
  injZ i j di dj p h1 h2 := by
    have up : ∀ {c : Nat} {dc : List PyData}, (z :: Z)[c]? = some (Hd.own p dc) → (z :: (Zx ++ Z))[if c = 0 then 0 else c + Zx.length]? = some (Hd.own p dc) := fun {c dc} h => by
      cases c with
      | zero => simpa using h
      | succ c =>
        have h' : Z[c]? = some (Hd.own p dc) := by simpa using h
        rw [if_neg (by omega), show c + 1 + Zx.length = (Zx.length + c) + 1 by omega, List.getElem?_cons_succ, List.getElem?_append_right (by omega)]
        simpa using h'
    have q := E.injZ _ _ di dj p (up h1) (up h2)
    by_cases hi : i = 0 <;> by_cases hj : j = 0 <;> simp [hi, hj] at q <;> omega
  inj := E.inj
/-- a hidden list goes to a name -/
theorem EnvD.toSlot {p : Addr} {es : List PyData} (E : EnvD K S H0 N0 (.own p es :: Z) N σ H ρ) {i : Nat} : EnvD K S H0 N0 Z N (σ.set i (some (.ref p))) H (ρ.set i (.own es)) := by
  obtain ⟨xs, g2, g3, g4, g5, g6, g7⟩ := E.hid _ List.mem_cons_self
  have nz : ∀ {c : Nat} {dc : List PyData}, ρ[c]? = some (.own dc) → σ[c]? = some (some (V.ref p)) → False := fun h1 h2 => E.injH _ _ _ p h1 h2 List.mem_cons_self
  have sl : ∀ {c : Nat} {q : Addr}, i = c → (σ.set i (some (V.ref p)))[c]? = some (some (V.ref q)) → q = p := fun {c q} e h => by
    subst e
    have hi : i < σ.length := by
      have := (List.getElem?_eq_some_iff.mp h).1
      rwa [List.length_set] at this
    rw [set_eq hi] at h; cases h; rfl
  refine ⟨E.keep, E.base, E.trk, E.sub, fun j t h => ?_, by rw [List.length_set, List.length_set]; exact E.len, fun z h => E.hid z (List.mem_cons_of_mem _ h), fun a da dj q ha h1 hz => ?_, E.pop.injZ, fun a b da db q ha hb h1 h2 => ?_⟩
  · rcases get_set h with ⟨e, e2⟩ | ⟨e, h⟩
    · subst e; subst e2
      have hi : i < σ.length := by
        have := (List.getElem?_eq_some_iff.mp h).1
        rw [List.length_set] at this
        rw [← E.len]; exact this
      exact ⟨p, xs, set_eq hi, g2, g3, g4, g5, g6, g7⟩
    · exact (E.slot j t h).other e
  · rcases get_set ha with ⟨e, e2⟩ | ⟨e, ha⟩
    · have := sl e h1
      subst this
      obtain ⟨n, hn⟩ := List.getElem?_of_mem hz
      have := E.injZ 0 (n + 1) es dj q rfl (by simpa using hn)
      cases this
    · rw [set_ne e] at h1
      exact E.injH a da dj q ha h1 (List.mem_cons_of_mem _ hz)
  · rcases get_set ha with ⟨ea, e2⟩ | ⟨ea, ha⟩
    · have e1 := sl ea h1
      rcases get_set hb with ⟨eb, e3⟩ | ⟨eb, hb⟩
      · exact ea.symm.trans eb
      · rw [set_ne eb] at h2
        subst e1
        exact (nz hb h2).elim
    · rcases get_set hb with ⟨eb, e3⟩ | ⟨eb, hb⟩
      · have e1 := sl eb h2
        rw [set_ne ea] at h1
        subst e1
        exact (nz ha h1).elim
      · rw [set_ne ea] at h1
        rw [set_ne eb] at h2
        exact E.inj a b da db q ha hb h1 h2
/-- [elt for TARGET in THING if TEST] -/
theorem lc_own {Θ : List PyData → Rho → Prop} {wi : TI} {g : TG} {tt : TT} {te : TE} {vs : List Nat} (h : WI K S wi ρ fun ds ρ1 => ds.length ≤ sizeLine ∧ ∃ I : Nat → List PyData → Rho → Prop, I 0 [] (wipeR ρ1 vs) ∧
      (∀ k d acc ρ2, ds[k]? = some d → I k acc ρ2 → ∃ ts f, GD K g d ts f ∧ (∀ j ∈ ts, j ∈ vs) ∧
        WT K S tt (f ρ2) fun b ρ3 => if b = true then WD K S te ρ3 fun y ρ4 => I (k + 1) (acc ++ [y]) (wipeR ρ4 vs) else I (k + 1) acc (wipeR ρ3 vs)) ∧
      (∀ acc ρ2, I ds.length acc ρ2 → Θ acc (wipeR ρ2 vs))) (E : EnvD K S H0 N0 Z N σ H ρ) {Q : VK}
    (q : ∀ D acc ρ' H', N D = false → Θ acc ρ' → EnvD K S H0 N0 (.own D acc :: Z) (fun b => N b || decide (b = D)) σ H' ρ' → Keep N H H' → Q (.ref D) H') : tLc wi g tt te vs σ H Q :=
  h H0 N0 Z N σ H E _ fun J Zx ds ρ1 H1 ⟨hz, I, i0, step, fin⟩ src nz E1 k1 D hD => by
    have nD : N D = false := fresh_av E1.trk hD
    have srcO : ∀ {acc : List PyData} {N' σ' H' ρ'}, EnvD K S H0 N0 (.own D acc :: (Zx ++ Z)) N' σ' H' ρ' → _ := fun {acc N' σ' H' ρ'} E' => src S H0 N0 Z N' σ' H' ρ' E'.pop
    refine ⟨fun k m H' => ∃ ρ' acc, EnvD K S H0 N0 (.own D acc :: (Zx ++ Z)) (fun b => N b || decide (b = D)) (L2.wipe σ vs) H' ρ' ∧ Keep N H1 H' ∧ I k acc ρ' ∧ acc.length ≤ k ∧ m = ds.length - k ∧ k ≤ ds.length,
      ⟨_, _, [], (E1.pushOwn hD).wipe vs, Keep.of (same_new hD _), i0, Nat.le_refl _, rfl, Nat.zero_le _⟩, ?_⟩
    rintro k m H' ⟨ρ', acc, E', kk, iv, hacc, rfl, hk⟩
    obtain ⟨s1, s2⟩ := srcO E'
    have kN : ∀ {Ha Hb : Hp}, Keep (fun b => N b || decide (b = D)) Ha Hb → Keep N H1 Ha → (∀ ys, Keep N H1 (upd Hb D (.lst ys))) ∧ Keep N H1 (upd Hb D (.lst [])) := fun {Ha Hb} ka kb => by
      have z : ∀ ys, Keep N H1 (upd Hb D (.lst ys)) := fun ys b o n hb => by
        have hne : b ≠ D := ne_of_none hb hD
        rw [upd_ne hne]
        exact ka b o (by simp [n, hne]) (kb b o n hb)
      exact ⟨z, z []⟩
    have kN2 : ∀ {Ha Hb : Hp}, Keep (fun b => N b || decide (b = D)) Ha Hb → Keep N H1 Ha → Keep N H1 Hb := fun {Ha Hb} ka kb b o n hb => ka b o (by simp [n, ne_of_none hb hD]) (kb b o n hb)
    by_cases hlt : k < ds.length
    · have hd := List.getElem?_eq_getElem hlt
      obtain ⟨go, yl⟩ := s1 k _ hd
      obtain ⟨ts, f, gd, hts, st⟩ := step k _ acc ρ' hd iv
      refine .inr ⟨go, fun H2 => ∃ ρ2 acc2, EnvD K S H0 N0 (.own D acc2 :: (Zx ++ Z)) (fun b => N b || decide (b = D)) (L2.wipe σ vs) H2 ρ2 ∧ Keep N H1 H2 ∧ I (k + 1) acc2 ρ2 ∧ acc2.length ≤ k + 1, fun H2 ⟨ρ2, acc2, E2, kk2, iv2, ha2⟩ => ⟨ds.length - (k + 1), by omega, ρ2, acc2, E2, kk2, iv2, ha2, rfl, hlt⟩, fun x H2 hy => ?_⟩
      obtain ⟨sm, dx⟩ := yl x H2 hy
      refine gd S H0 N0 _ _ _ H2 ρ' x (E'.ext sm) dx _ fun σ3 E3 hl3 off3 => ?_
      have ew : L2.wipe σ3 vs = L2.wipe σ vs := wipe_off (by rw [hl3, wipe_length]) fun j hj => off3 j fun q => hj (hts j q)
      refine ⟨ew, st H0 N0 _ _ σ3 H2 E3 _ fun b ρ3 H3 fb E3' k3 => ?_⟩
      have kk3 : Keep N H1 H3 := kN2 k3 (kN2 (Keep.of sm) kk)
      cases b with
      | false => exact ⟨_, acc, E3'.rewipe ew, kk3, fb, Nat.le_succ_of_le hacc⟩
      | true =>
        refine fb H0 N0 _ _ σ3 H3 E3' _ fun y d ρ4 H4 f4 E4 k4 d4 => ?_
        obtain ⟨us, g2, g3, g4, g5, g6, g7⟩ := E4.hid _ List.mem_cons_self
        refine ⟨us, g6, ?_, _, acc ++ [d], (E4.chgH (g7.append (DqAll.cons d4 DqAll.nil))).rewipe ew, (kN k4 kk3).1 _, f4, by simp; omega⟩
        rw [g7.len]; omega
    · have ek : k = ds.length := by omega
      subst ek
      exact .inl ⟨s2, q D acc _ H' nD (fin acc ρ' iv) E'.mid.unwipe (k1.trans kk)⟩
theorem wd_lc {wi : TI} {g : TG} {tt : TT} {te : TE} {vs : List Nat} (h : WI K S wi ρ fun ds ρ1 => ds.length ≤ sizeLine ∧ ∃ I : Nat → List PyData → Rho → Prop, I 0 [] (wipeR ρ1 vs) ∧
      (∀ k d acc ρ2, ds[k]? = some d → I k acc ρ2 → ∃ ts f, GD K g d ts f ∧ (∀ j ∈ ts, j ∈ vs) ∧
        WT K S tt (f ρ2) fun b ρ3 => if b = true then WD K S te ρ3 fun y ρ4 => I (k + 1) (acc ++ [y]) (wipeR ρ4 vs) else I (k + 1) acc (wipeR ρ3 vs)) ∧
      (∀ acc ρ2, I ds.length acc ρ2 → Φ (.list acc) (wipeR ρ2 vs))) : WD K S (tLc wi g tt te vs) ρ Φ := fun H0 N0 Z N σ H E Q q =>
  lc_own (Θ := fun acc ρ' => Φ (.list acc) ρ') h E fun D acc ρ' H' nD f E' k => by
    obtain ⟨E5, d5⟩ := E'.popOwn nD
    exact q _ _ ρ' H' f E5 k d5
/-- x = [.. for ..], to be filled or told on -/
theorem ws_lc {wi : TI} {g : TG} {tt : TT} {te : TE} {vs : List Nat} {i : Nat} {En : DE} (h : WI K S wi ρ fun ds ρ1 => ds.length ≤ sizeLine ∧ ∃ I : Nat → List PyData → Rho → Prop, I 0 [] (wipeR ρ1 vs) ∧
      (∀ k d acc ρ2, ds[k]? = some d → I k acc ρ2 → ∃ ts f, GD K g d ts f ∧ (∀ j ∈ ts, j ∈ vs) ∧
        WT K S tt (f ρ2) fun b ρ3 => if b = true then WD K S te ρ3 fun y ρ4 => I (k + 1) (acc ++ [y]) (wipeR ρ4 vs) else I (k + 1) acc (wipeR ρ3 vs)) ∧
      (∀ acc ρ2, I ds.length acc ρ2 → En.nx ((wipeR ρ2 vs).set i (.own acc)))) : WS K S (tAsg (tLc wi g tt te vs) (gName i)) ρ En := fun H0 N0 Z N σ H D E M =>
  lc_own (Θ := fun acc ρ' => En.nx (ρ'.set i (.own acc))) h E fun p acc ρ' H' nD f E' k => M.nx _ _ _ _ f E'.toSlot
end
end DL

set_option Elab.async false
set_option linter.all false
set_option maxRecDepth 100000
set_option maxHeartbeats 2000000
namespace DL
open PySem L2
/-! ### promises over data -/
def spP (K : PySem.W.Frag) (T : List PyData → (PyData → Prop) → Prop) : Sp := fun vs H Q _ => ∃ (N : Av) (ds : List PyData) (Φ : PyData → Prop),
  (∀ b, N b = true → H b ≠ none) ∧ DqAll K N H vs ds ∧ T ds Φ ∧ ∀ d, Φ d → ∀ v H', Same H H' → Dq K N H' v d → Q v H'
/-- the same, and what is raised: an error of the class at C without fields -/
def spX (K : PySem.W.Frag) (T : List PyData → (PyData → Prop) → (Addr → Prop) → Prop) : Sp := fun vs H Q E => ∃ (N : Av) (ds : List PyData) (Φ : PyData → Prop) (Ψ : Addr → Prop),
  (∀ b, N b = true → H b ≠ none) ∧ DqAll K N H vs ds ∧ T ds Φ Ψ ∧ (∀ d, Φ d → ∀ v H', Same H H' → Dq K N H' v d → Q v H') ∧ ∀ C, Ψ C → ∀ H', Same H H' → E (.ref C) none H'
/-- with a store in front, F: which -/
def spS (K : PySem.W.Frag) (F : Stt → Prop) (T : Nat → List PyData → (PyData → Nat → Prop) → Prop) : Sp := fun vs H Q _ => ∃ (S : Stt) (N : Av) (us : List V) (ds : List PyData) (B : Nat) (Φ : PyData → Nat → Prop),
  vs = .ref S.a :: us ∧ F S ∧ S.ok H B ∧ Le S.fp N ∧ (∀ b, N b = true → H b ≠ none) ∧ DqAll K N H us ds ∧ T B ds Φ ∧
  ∀ d B', Φ d B' → ∀ v H', (∀ b o, S.fp b = false → H b = some o → H' b = some o) → S.ok H' B' → Dq K N H' v d → Q v H'
def rhoOf (n : Nat) (ds : List PyData) : Rho := ds.map Sl.dat ++ List.replicate (n - ds.length) Sl.unk
def stoS (B : Nat) : Sl → Sl
  | .sto _ => .sto B
  | s => s
def stoAll (B : Nat) : Rho → Rho
  | [] => []
  | s :: r => stoS B s :: stoAll B r
theorem stoAll_get {B : Nat} : ∀ {ρ : Rho} {i : Nat} {s : Sl}, (stoAll B ρ)[i]? = some s → (s = .sto B ∧ ∃ B0, ρ[i]? = some (.sto B0)) ∨ ((∀ B0, s ≠ .sto B0) ∧ ρ[i]? = some s)
  | [], i, s, h => by simp [stoAll] at h
  | t :: r, 0, s, h => by
    cases t <;> simp [stoAll, stoS] at h <;> subst h
    · exact .inr ⟨fun _ => nofun, rfl⟩
    · exact .inr ⟨fun _ => nofun, rfl⟩
    · exact .inr ⟨fun _ => nofun, rfl⟩
    · exact .inl ⟨rfl, _, rfl⟩
    · exact .inr ⟨fun _ => nofun, rfl⟩
  | t :: r, i + 1, s, h => by
    have h2 : (stoAll B r)[i]? = some s := by cases t <;> simpa [stoAll, stoS] using h
    simpa using stoAll_get h2
theorem stoAll_len {B : Nat} : ∀ {ρ : Rho}, (stoAll B ρ).length = ρ.length
  | [] => rfl
  | t :: r => by simp [stoAll, stoAll_len (ρ := r)]
section
variable {K : PySem.W.Frag} {S : Stt} {H0 : Hp} {N0 : Av} {Z : List Hd} {N : Av} {σ : L2.St} {H H' : Hp} {ρ : Rho} {Φ : PyData → Rho → Prop} {Ψ : PyData → Prop}
theorem rhoOf_get {n : Nat} {ds : List PyData} {i : Nat} {s : Sl} (h : (rhoOf n ds)[i]? = some s) : s = .unk ∨ ∃ d, ds[i]? = some d ∧ s = .dat d := by
  unfold rhoOf at h
  by_cases hi : i < ds.length
  · rw [List.getElem?_append_left (by simpa using hi), List.getElem?_map, List.getElem?_eq_getElem hi] at h
    exact .inr ⟨_, List.getElem?_eq_getElem hi, by simpa using h.symm⟩
  · rw [List.getElem?_append_right (by simpa using hi), List.getElem?_replicate] at h
    split at h
    · exact .inl (Option.some.inj h).symm
    · cases h
theorem start_get {Nm : List Str} {vs : List V} {i : Nat} {v : V} (h : vs[i]? = some v) : (L2.start Nm vs)[i]? = some (some v) := by
  have hi := (List.getElem?_eq_some_iff.mp h).1
  show (vs.map some ++ List.replicate (Nm.length - vs.length) none)[i]? = _
  rw [List.getElem?_append_left (by simpa using hi), List.getElem?_map, h]; rfl
theorem env_start {Nm : List Str} {vs : List V} {ds : List PyData} (ht : ∀ b, N b = true → H b ≠ none) (hd : DqAll K N H vs ds) : EnvD K S0 H N [] N (L2.start Nm vs) H (rhoOf Nm.length ds) where
  keep _ _ _ h := h
  base := Le.refl
  trk := ht
  sub _ h := nomatch h
  len := by simp [rhoOf, L2.start, hd.len]
  hid _ h := nomatch h
  injZ i j di dj p h := by simp at h
  slot i s h := by
    rcases rhoOf_get h with e | ⟨d, e, e2⟩
    · subst e; trivial
    · subst e2
      obtain ⟨v, h1, h2⟩ := hd.get e
      exact ⟨v, start_get h1, h2⟩
  injH i di dj p h := by
    rcases rhoOf_get h with e | ⟨d, _, e2⟩
    · cases e
    · cases e2
  inj i j di dj p h := by
    rcases rhoOf_get h with e | ⟨d, _, e2⟩
    · cases e
    · cases e2
/-- a def's body keeps a promise over data -/
theorem run_P {T : List PyData → (PyData → Prop) → Prop} {Nm : List Str} {ts : TS} {vs : List V} {Q : VK} {E : XK} (h : spP K T vs H Q E)
    (b : ∀ ds Φ, T ds Φ → WS K S0 ts (rhoOf Nm.length ds) { nx := fun _ => Φ .none, rt := fun d _ => Φ d }) : ts { nx := fun _ H' => Q .non H', rt := Q } (L2.start Nm vs) H := by
  obtain ⟨N, ds, Φ, ht, hd, hT, hQ⟩ := h
  exact b ds Φ hT H N [] N _ H _ (env_start ht hd) ⟨fun N' σ' H' ρ' q E' => hQ _ q _ _ (fun b o h => E'.keep b o rfl h) Dt.non, fun N' σ' H' ρ' v d q E' dv => hQ _ q _ _ (fun b o h => E'.keep b o rfl h) dv, fun _ _ _ _ q => q.elim, fun _ _ _ _ q => q.elim⟩
/-- with a store -/
theorem run_S {F : Stt → Prop} {T : Nat → List PyData → (PyData → Nat → Prop) → Prop} {Nm : List Str} {ts : TS} {vs : List V} {Q : VK} {E : XK} (h : spS K F T vs H Q E)
    (b : ∀ S B ds Φ, F S → T B ds Φ → WS K S ts (.sto B :: rhoOf (Nm.length - 1) ds) { nx := fun _ => False, rt := fun d ρ => ∃ B', ρ[0]? = some (.sto B') ∧ Φ d B' }) (hn : 0 < Nm.length) : ts { nx := fun _ H' => Q .non H', rt := Q } (L2.start Nm vs) H := by
  obtain ⟨S, N, us, ds, B, Φ, rfl, hF, hok, hle, ht, hd, hT, hQ⟩ := h
  have E0 : EnvD K S H N [] N (L2.start Nm (V.ref S.a :: us)) H (.sto B :: rhoOf (Nm.length - 1) ds) := {
    keep := fun _ _ _ h => h, base := Le.refl, trk := ht, sub := hle, hid := fun _ h => (nomatch h), injZ := fun i j di dj p h => by simp at h
    len := by have e := hd.len; simp [rhoOf, L2.start]; omega
    slot := fun i s h => by
      cases i with
      | zero =>
        have e : s = .sto B := by simpa using h.symm
        subst e
        exact ⟨start_get rfl, hok⟩
      | succ i =>
        rcases rhoOf_get (show (rhoOf (Nm.length - 1) ds)[i]? = some s by simpa using h) with e | ⟨d, e, e2⟩
        · subst e; trivial
        · subst e2
          obtain ⟨v, h1, h2⟩ := hd.get e
          exact ⟨v, start_get (by simpa using h1), h2⟩
    injH := fun i di dj p h => by
      cases i with
      | zero => simp at h
      | succ i =>
        rcases rhoOf_get (show (rhoOf (Nm.length - 1) ds)[i]? = some (.own di) by simpa using h) with e | ⟨d, _, e2⟩
        · cases e
        · cases e2
    inj := fun i j di dj p h => by
      cases i with
      | zero => simp at h
      | succ i =>
        rcases rhoOf_get (show (rhoOf (Nm.length - 1) ds)[i]? = some (.own di) by simpa using h) with e | ⟨d, _, e2⟩
        · cases e
        · cases e2 }
  refine b S B ds Φ hF hT H N [] N _ H _ E0 ⟨fun _ _ _ _ q => q.elim, fun N' σ' H' ρ' v d ⟨B', e, q⟩ E' dv => ?_, fun _ _ _ _ q => q.elim, fun _ _ _ _ q => q.elim⟩
  exact hQ _ _ q _ _ (fun b o n h => E'.keep b o n h) (E'.slot 0 _ e).2 dv
/-- a call of such a def -/
theorem wd_call {T : List PyData → (PyData → Prop) → Prop} {dvs : List V} {dds : List PyData} {E : XK} {ta : TA} (hd : ∀ H : Hp, DtAll K H dvs dds) (h : WA K S ta ρ fun xs ρ1 => T (xs ++ dds) fun d => Φ d ρ1) :
    WD K S (tCall (spP K T) dvs E ta) ρ Φ := fun H0 N0 Z N σ H E' Q q =>
  h H0 N0 Z N σ H E' _ fun vs xs ρ1 H1 f E1 k1 d1 => ⟨N, xs ++ dds, _, E1.trk, d1.append (hd _), f, fun d fd v H2 s dv => q v d ρ1 H2 fd (E1.ext s) (k1.trans (Keep.of s)) dv⟩
theorem wd_call0 {T : List PyData → (PyData → Prop) → Prop} {E : XK} {ta : TA} (h : WA K S ta ρ fun xs ρ1 => T xs fun d => Φ d ρ1) : WD K S (tCall (spP K T) [] E ta) ρ Φ :=
  wd_call (dds := []) (fun _ => DtAll.nil) (fun H0 N0 Z N σ H E' Q q => h H0 N0 Z N σ H E' Q fun vs ds ρ' H' f => q vs ds ρ' H' (by show T (ds ++ []) _; rw [List.append_nil]; exact f))
/-- by names -/
theorem wd_callN {T : List PyData → (PyData → Prop) → Prop} {n m : Nat} {gV : List V → List V → List V} {gD : List PyData → List PyData → List PyData} {E : XK} {ta tk : TA}
    (hg : ∀ (N : Av) (H : Hp) vs zs ds es, DqAll K N H vs ds → DqAll K N H zs es → DqAll K N H (gV vs zs) (gD ds es))
    (h : WA K S ta ρ fun xs ρ1 => WA K S tk ρ1 fun ys ρ2 => xs.length = n ∧ ys.length = m ∧ T (gD xs ys) fun d => Φ d ρ2) : WD K S (tCallN n m (spP K T) gV E ta tk) ρ Φ := fun H0 N0 Z N σ H E' Q q =>
  h H0 N0 Z N σ H E' _ fun vs xs ρ1 H1 f E1 k1 d1 => f H0 N0 Z N σ H1 E1 _ fun zs ys ρ2 H2 ⟨l1, l2, f2⟩ E2 k2 d2 =>
    ⟨by rw [d1.len]; exact l1, by rw [d2.len]; exact l2, N, _, _, E2.trk, hg N H2 vs zs xs ys (d1.keep k2) d2, f2, fun d fd v H3 s dv => q v d ρ2 H3 fd (E2.ext s) ((k1.trans k2).trans (Keep.of s)) dv⟩
/-- a call of a def that takes the store -/
theorem wd_callS {F : Stt → Prop} {T : Nat → List PyData → (PyData → Nat → Prop) → Prop} {E : XK} {ta : TA} {i : Nat} {B0 : Nat} (hF : F S) (hi : ρ[i]? = some (.sto B0))
    (h : WA K S ta ρ fun xs ρ1 => ∃ B, ρ1[i]? = some (.sto B) ∧ T B xs fun d B' => Φ d (stoAll B' ρ1)) : WD K S (tCall (spS K F T) [] E (tCons (tVar i) ta)) ρ Φ := fun H0 N0 Z N σ H E' Q q => by
  obtain ⟨hs, _⟩ := E'.slot i _ hi
  refine ⟨_, hs, h H0 N0 Z N σ H E' _ fun vs xs ρ1 H1 ⟨B, e, f⟩ E1 k1 d1 => ?_⟩
  obtain ⟨_, hok⟩ := E1.slot i _ e
  refine ⟨S, N, vs, xs, B, _, by simp, hF, hok, E1.sub, E1.trk, d1, f, fun d B' fd v H2 fr ok2 dv => ?_⟩
  have kk : Keep N H1 H2 := fun b o n hb => fr b o (by
    cases z : S.fp b with
    | false => rfl
    | true => rw [E1.sub b z] at n; cases n) hb
  have E2 : EnvD K S H0 N0 Z N σ H2 (stoAll B' ρ1) := {
    keep := fun b o n hb => fr b o n (E1.keep b o n hb)
    base := E1.base
    trk := fun b hb => by
      cases z : S.fp b with
      | true => exact S.trk H2 B' ok2 b z
      | false =>
        intro q2
        cases w : H1 b with
        | none => exact E1.trk b hb w
        | some o => rw [fr b o z w] at q2; cases q2
    sub := E1.sub
    len := by rw [stoAll_len]; exact E1.len
    slot := fun j s hj => by
      rcases stoAll_get hj with ⟨e1, B1, e2⟩ | ⟨e1, e2⟩
      · subst e1
        exact ⟨(E1.slot j _ e2).1, ok2⟩
      · have w := E1.slot j _ e2
        cases s with
        | unk => trivial
        | dat d => obtain ⟨u, h1, h2⟩ := w; exact ⟨u, h1, h2.keep kk⟩
        | own us => obtain ⟨p, zs, h1, h2, h3, h4, h5, h6, h7⟩ := w; exact ⟨p, zs, h1, h2, h3, h4, h5, fr _ _ h3 h6, h7.keep kk⟩
        | sto B2 => exact absurd rfl (e1 B2)
        | scr ns => obtain ⟨a, h1, h2⟩ := w; exact ⟨a, h1, kk.wo.seq h2⟩
    hid := fun z hz => by
      have w := E1.hid z hz
      cases z with
      | dat v d => exact Dq.keep w kk
      | own p us => obtain ⟨zs, h2, h3, h4, h5, h6, h7⟩ := w; exact ⟨zs, h2, h3, h4, h5, fr _ _ h3 h6, h7.keep kk⟩
    injZ := E1.injZ
    injH := fun a da dj p h1 => by
      rcases stoAll_get h1 with ⟨e1, _⟩ | ⟨_, e2⟩
      · cases e1
      · exact E1.injH a da dj p e2
    inj := fun a b da db p h1 h2 => by
      rcases stoAll_get h1 with ⟨e1, _⟩ | ⟨_, e2⟩
      · cases e1
      · rcases stoAll_get h2 with ⟨e1, _⟩ | ⟨_, e3⟩
        · cases e1
        · exact E1.inj a b da db p e2 e3 }
  exact q v d _ H2 fd E2 (k1.trans kk) dv
/-- what is asked of the script: its length -/
theorem wd_len_scr {i : Nat} {ns : List Int} (h : ρ[i]? = some (.scr ns)) (f : Φ (.int ns.length) ρ) :
    WD K S (tCB (fun xs H Q => ∃ p ys, xs = [.ref p] ∧ (SqL K H p ys ∨ SqT K H p ys) ∧ Q (.int ys.length) H) (tCons (tVar i) tNil)) ρ Φ := fun H0 N0 Z N σ H E Q q => by
  obtain ⟨a, h1, h2⟩ := E.slot i _ h
  exact ⟨_, h1, a, _, rfl, .inl ((Same.wo1).seq h2), q _ _ ρ H (by rw [List.length_map]; exact f) E Keep.refl (Dt.int _)⟩
end
end DL

set_option Elab.async false
set_option linter.all false
set_option maxRecDepth 100000
set_option maxHeartbeats 2000000
namespace DL
open PySem PySem.Spec PyProof.Rows L2
/-- a def's promise where no text of a list is being made around the call -/
structure FnG (P : Program) (w : World) (K : PySem.W.Frag) (mg : Str → Option Value) (base : Heap) (CX : CXT) (k : Nat) (f : Addr) (fd : FuncData) (ps : List Str) (sp : Sp) : Prop where
  len : ∀ vs H Q E, sp vs H Q E → vs.length = ps.length
  run : ∀ (A : Around) (outer : List Env) (s : Shared) (H : Hp) (args : Args) (us : List Value) (vs : List V) (Q : VK) (E : XK), A.guards = some [] → Room k A → Env0 P w K mg base A outer s H →
    BindsTo s fd args (ps.zip us) → Vals vs us → sp vs H Q E → codeAny (model P w) A (.call (.ref f) args) (CR CX outer P w H s Q E) s
section
variable {P : Program} {w : World} {K : PySem.W.Frag} {mg : Str → Option Value} {base : Heap}
theorem fnG_of {CX : CXT} {k : Nat} {f : Addr} {nm ql : Str} {prm : Arguments} {bd : List Stmt} {sc : Scope} {dV kV doc pm cdv ct oc : Value} {an od : Option Addr} {osl : Array (Option Value)} {Nm ps : List Str} {sp : Sp}
    (lk : K.lookup f = some ⟨oc, od, .func (PySem.W.fnOf nm ql prm bd sc dV kV doc pm an cdv ct), osl⟩) (hcd : PySem.W.codeIn K cdv ql = true) (F : FnScope Nm ps sc) (len : ∀ vs H Q E, sp vs H Q E → vs.length = ps.length)
    (hb : ∀ (A : Around) (outer : List Env) (s : Shared) (H : Hp) (vs : List V) (Q : VK) (E : XK), A.guards = some [] → Room k (A.deeper (envOfC ql sc s.heap.objs.size f cdv)) → sp vs H Q E →
      ∃ t, PSs (cxOf CX P w K mg base Nm ql sc f cdv A outer s H E) bd t ∧ t { nx := fun _ H' => Q .non H', rt := Q } (L2.start Nm vs) H) :
    FnG P w K mg base CX (k + 1) f (PySem.W.fnOf nm ql prm bd sc dV kV doc pm an cdv ct) ps sp where
  len := len
  run A outer s H args us vs Q E hg room env bnd vals hsp := by
    have el := len vs H Q E hsp
    have inK : K.In s.heap := env.mod.kin.keeps fun b o z => (env.bs b o z).1
    have noL : s.heap.NoLimit := env.mod.nolimit.keeps fun b o z => (env.bs b o z).1
    have places : ∀ y ∈ ps.zip us, sc.names.lookup y.1 = some .local ∨ (sc.names.lookup y.1 = some .cell ∧ ((cellsFrom (s.heap.objs.size + 1) sc.names []).lookup y.1).isSome = true) := by
      rintro ⟨y, u⟩ hy
      cases F.par y (List.of_mem_zip hy).1 with
      | inl q => exact .inl q
      | inr q => exact .inr ⟨q, PySem.W.cellsFrom_some _ _ _ (.inl q)⟩
    refine codeAny_call_function room.depth (inK _ _ lk) rfl F.co F.gen rfl (PySem.W.codeRec_of inK hcd) (bnd _ _ _ _ ?_)
    refine wpAny_newFunctionEnv_cells F.kind places fun env' he s1 x => ?_
    subst he
    refine ⟨noL.keeps x.toInCall.keep, codeAny_func ?_⟩
    obtain ⟨t, ht, hq⟩ := hb A outer s H vs Q E hg (room.deeper _) hsp
    have J0 := inv_start (CX := CX) (E := E) F room.hd env el vals x
    refine wpAny_mono (ht.run [] s1 (L2.start Nm vs) H _ J0 hq) (fun fl s' hs => ?_) fun _ _ z => z
    have done : ∀ {τ : L2.St} {H' : Hp} {v : V} {u : Value}, Inv (cxOf CX P w K mg base Nm ql sc f cdv A outer s H E) [] τ H' s' → RelV v u → Q v H' → CE outer P w H s Q u s' := by
      intro τ H' v u J rv q
      exact ⟨v, H', J.os, J.bare, J.base, J.hok, rv, q⟩
    match fl, hs with
    | .ret u, ⟨v, _, H', J, rv, q⟩ => exact done J rv q
    | .next, ⟨_, H', J, q⟩ => exact done (v := V.non) (u := Value.none) J rfl q
    | .brk, ⟨_, _, _, q⟩ => exact q.elim
    | .cont, ⟨_, _, _, q⟩ => exact q.elim
/-- THE RULE for such a def -/
theorem FunD_okG {x ql : Str} {prm : Arguments} {bd : List Stmt} {sc : Scope} {dvs : List V} {kws : List (Str × V)} {f : Addr} {fd : FuncData} {CX : CXT} {Nm ps : List Str} {k : Nat} {sp : Sp} (F : FunD K x ql prm bd sc dvs kws f fd) (S : FnScope Nm ps sc) (len : ∀ vs H Q E, sp vs H Q E → vs.length = ps.length)
    (hb : ∀ (cdv : Value) (A : Around) (outer : List Env) (s : Shared) (H : Hp) (vs : List V) (Q : VK) (E : XK), A.guards = some [] → Room k (A.deeper (envOfC ql sc s.heap.objs.size f cdv)) → sp vs H Q E →
      ∃ t, PSs (cxOf CX P w K mg base Nm ql sc f cdv A outer s H E) bd t ∧ t { nx := fun _ H' => Q .non H', rt := Q } (L2.start Nm vs) H) : FnG P w K mg base CX (k + 1) f fd ps sp := by
  obtain ⟨oc, od, dV, kV, doc, pm, an, cdv, ct, osl, rfl, lk, hcd, _, _⟩ := F.ex
  exact fnG_of lk hcd S len fun A outer s H vs Q E => hb cdv A outer s H vs Q E
end
/-! ### repr of data -/
def rRepr (K : PySem.W.Frag) : List V → Hp → VK → Prop := fun xs H Q => ∃ x d, xs = [x] ∧ Dp K H x d ∧ (∃ a, x = .ref a) ∧ d.showable = true ∧ d.hasDict = false ∧ d.shown.length ≤ sizeLine ∧ d.depth ≤ 50 ∧ Q (.str d.shown) H
theorem call_repr_data {X : Cx} (hgd : X.A.guards = some []) (hu : X.A.units + 64 < cLine) : CallR X (.builtin "repr") (rRepr X.K) := by
  intro pins s σ H xs us Q I r h
  obtain ⟨x, d, rfl, hd, ⟨a, rfl⟩, h1, h2, h3, h4, q⟩ := h
  obtain ⟨u, rfl, ru⟩ := vals1 r
  cases ru
  obtain ⟨as, rd⟩ := Dp.reads I d _ _ hd rfl
  refine repr_of_reads' rd h1 (fun z => by rw [h2] at z; cases z) hgd (by omega) (fun b o e => e) (fun h' u tk hk => ?_) h3
  exact ⟨.str d.shown, H, I.kept (t' := tk) hk, ⟨u, rfl⟩, q⟩
theorem dc_repr {K : PySem.W.Frag} {d : PyData} {Ψ : PyData → Prop} (hl : (∃ ds, d = .list ds) ∨ ∃ ds, d = .tuple ds) (h1 : d.showable = true) (h2 : d.hasDict = false) (h3 : d.shown.length ≤ sizeLine) (h4 : d.depth ≤ 50) (h : Ψ (.str d.shown)) : DC K (rRepr K) [d] Ψ := fun N H _ us hu Q q => by
  cases hu with
  | cons a1 a2 =>
    cases a2
    have hr : ∀ {v : V}, Dq K N H v d → ∃ a, v = .ref a := fun {v} hv => by
      rcases hl with ⟨ds, rfl⟩ | ⟨ds, rfl⟩
      · obtain ⟨p, _, e, _⟩ := hv.lst_inv; exact ⟨p, e⟩
      · obtain ⟨p, _, e, _⟩ := hv.tup_inv; exact ⟨p, e⟩
    exact ⟨_, d, rfl, Dq.dp a1 h2, hr a1, h1, h2, h3, h4, q _ _ H h (Same.refl H) (Dt.str _)⟩
/-! ### the law's own call -/
section
variable {P : Program} {w : World} {K : PySem.W.Frag} {mg mb : Str → Option Value} {CX : CXT} {k : Nat} {fa a : Addr} {fd : FuncData} {x : Str} {sp : Sp} {s₁ : Shared} {vs : List Value} {ns : List Int}
/-- from an abstract heap that tells the script alone -/
theorem lawG_core (KX : K.In s₁.heap) (hns : s₁.heap.Ns mainGlobals mg) (hb : s₁.heap.Ns builtinsNs mb) (hbb : ∀ x : Str, x ≠ "__name__" → mb x = bootBuiltins x) (hlim : s₁.heap.NoLimit) (hg : s₁.gens = #[])
    (ha : s₁.heap.get? a = some { cls := .type "list", data := .seq vs.toArray }) (hr : Room k callerA)
    (F : ∀ base : Heap, K.In base → base.Ns mainGlobals mg → FnG P w K mg base CX k fa fd [x] sp) (hbind : ∀ (s : Shared) (u : Value), BindsTo s fd ⟨[u], []⟩ [(x, u)])
    (hCX : ∀ H e s', CX [] H s₁ (fun _ _ _ => False) e s' → False) (H : Hp) (hO : Only H) (hsp : sp [.ref a] H (fun v _ => v = .bl true) fun _ _ _ => False) (hok : HOk P w H s₁.heap) (hA : ∀ b u, H b = some u → b = a) (hK : ∀ u, H a = some u → K.lookup a = none) :
    codeAny (model P w) callerA (.call (.ref fa) ⟨[.ref a], []⟩) (fun r s' => r = .ok (.ret (.bool true)) ∧ OldK s₁.heap s'.heap ∧ s'.os = s₁.os ∧ AllBare s'.gens) s₁ := by
  have dictFree : ∀ {c : Addr} {o : Obj} {es : Array DictEntry} {m : Nat}, s₁.heap.get? c = some o → o.data = .dict es m → H c = none := by
    intro c o es m hc hd
    match hq : H c with
    | none => rfl
    | some u =>
      obtain rfl := hA c u hq
      rw [ha] at hc
      cases hc
      exact absurd hd (fun z => nomatch z)
  have nsH : ∀ {c : Addr} {m : Str → Option Value}, s₁.heap.Ns c m → (hidT s₁.heap H).Ns c m := by
    rintro c m ⟨o, es, ep, e, d, r⟩
    exact ⟨o, es, ep, hidT_get e (dictFree e d), d, r⟩
  have inH : K.In (hidT s₁.heap H) := by
    intro c o hc
    refine hidT_get (KX c o hc) ?_
    match hq : H c with
    | none => rfl
    | some u =>
      obtain rfl := hA c u hq
      rw [hK u hq] at hc
      cases hc
  obtain ⟨mc, m1, m2⟩ := hlim
  have md : Mod K mg (hidT s₁.heap H) := ⟨inH, nsH hns, ⟨mb, nsH hb, hbb⟩, ⟨mc, nsH m1, m2⟩⟩
  have noF : ∀ {c : Addr}, c ∉ frs ([] : List Env) := fun z => by cases z
  have env : Env0 P w K mg (hidT s₁.heap H) callerA [] s₁ H := ⟨rfl, md, fun c o e => of_hidT e, Nat.le_of_eq (hidT_size _ _), trivial, fun c hc => absurd hc noF, hok, .of_eq hg⟩
  refine codeAny_mono ((F _ inH (nsH hns)).run callerA [] s₁ H ⟨[.ref a], []⟩ [.ref a] [.ref a] _ _ rfl hr env (hbind s₁ (.ref a)) (.cons rfl .nil) hsp) fun r s' hr' => ?_
  match r, hr' with
  | .error e, z => exact (hCX H e s' z).elim
  | .ok .next, z => exact z.elim
  | .ok .brk, z => exact z.elim
  | .ok .cont, z => exact z.elim
  | .ok (.ret u), ⟨v, H', os, bare, un, hok', rv, q⟩ =>
    have q' : v = .bl true := q
    subst q'
    obtain rfl : u = Value.bool true := rv
    refine ⟨rfl, OldK.of_keep fun c o e => ?_, os, bare⟩
    match hq : H c with
    | none => exact un.keep c o e hq noF (by simp)
    | some u =>
      rcases hO c with z | ⟨ob, xs, z⟩
      · rw [hq] at z; cases z
      · have z2 := un.frzs c ob _ z
        have e1 := (hok c _ z).1
        have e2 := (hok' c _ z2).1
        rw [e] at e1
        cases e1
        exact e2
theorem lawG_call (KX : K.In s₁.heap) (hns : s₁.heap.Ns mainGlobals mg) (hb : s₁.heap.Ns builtinsNs mb) (hbb : ∀ x : Str, x ≠ "__name__" → mb x = bootBuiltins x) (hlim : s₁.heap.NoLimit) (hg : s₁.gens = #[])
    (ha : s₁.heap.get? a = some { cls := .type "list", data := .seq vs.toArray }) (hi : IntsAre vs ns) (hl : ns.length ≤ sizeLine) (hr : Room k callerA)
    (F : ∀ base : Heap, K.In base → base.Ns mainGlobals mg → FnG P w K mg base CX k fa fd [x] sp) (hbind : ∀ (s : Shared) (u : Value), BindsTo s fd ⟨[u], []⟩ [(x, u)])
    (hsp : ∀ H : Hp, Only H → SqL K H a (ns.map V.int) → sp [.ref a] H (fun v _ => v = .bl true) fun _ _ _ => False)
    (hCX : ∀ H e s', CX [] H s₁ (fun _ _ _ => False) e s' → False) :
    codeAny (model P w) callerA (.call (.ref fa) ⟨[.ref a], []⟩) (fun r s' => r = .ok (.ret (.bool true)) ∧ OldK s₁.heap s'.heap ∧ s'.os = s₁.os ∧ AllBare s'.gens) s₁ := by
  have rv := vals_ints hi
  have hlv : vs.length ≤ sizeLine := by rw [hi.length]; exact hl
  match hk : K.lookup a with
  | some o =>
    have e := KX a o hk
    rw [ha] at e
    cases e
    have hO : Only (fun _ => none) := fun _ => .inl rfl
    refine lawG_core KX hns hb hbb hlim hg ha hr F hbind hCX (fun _ => none) hO (hsp _ hO (.inr ⟨_, vs.toArray, _, hk, rfl, rfl, rfl, by simpa using hlv, by simpa using rv⟩)) (fun _ _ z => nomatch z) (fun _ _ z => nomatch z) fun _ z => nomatch z
  | none =>
    let lst : Obj := { cls := .type "list", data := .seq vs.toArray }
    have at_a : (fun b => if b = a then some (HO.frz lst (.lst (ns.map V.int))) else none : Hp) a = some (.frz lst (.lst (ns.map V.int))) := if_pos rfl
    have only_a : ∀ b u, (fun b => if b = a then some (HO.frz lst (.lst (ns.map V.int))) else none : Hp) b = some u → b = a := fun b u z => Decidable.byContradiction fun q => by
      have z' : (none : Option HO) = some u := (if_neg q).symm.trans z
      cases z'
    have hO : Only (fun b => if b = a then some (HO.frz lst (.lst (ns.map V.int))) else none : Hp) := fun b => by
      by_cases q : b = a
      · exact .inr ⟨_, _, if_pos q⟩
      · exact .inl (if_neg q)
    refine lawG_core KX hns hb hbb hlim hg ha hr F hbind hCX _ hO (hsp _ hO (.inl (.inr ⟨lst, at_a⟩))) (fun b u z => ?_) only_a fun _ _ => hk
    obtain rfl := only_a b u z
    have z' : some (HO.frz lst (.lst (ns.map V.int))) = some u := at_a.symm.trans z
    cases z'
    exact ⟨ha, by rw [List.length_map]; exact hl, vs, _, rv, ha⟩
end
/-- the goal behind the head -/
theorem walk_ofG {l : PySem.W.OpenLaw} {n k : Nat} {q : Program} {loose : List Str} {XP : (Str → Option Value) → Heap → Prop} {YP : World → Heap → Prop} {d : DefRec} {CX : CXT} {x : Str}
    (hn : l.most = some n) (hn2 : n ≤ sizeLine) (hdf : d.params.defaults = []) (hr : Room k callerA)
    (F : ∀ (w : World) (mg : Str → Option Value) (fa : Addr) (h : Heap), YP w h → h.Ns mainGlobals mg → mg d.name = some (.ref fa) →
      ∃ (K : PySem.W.Frag) (fd : FuncData) (sp : Sp), K.In h ∧ (∀ (s : Shared) (u : Value), BindsTo s fd ⟨[u], []⟩ [(x, u)]) ∧
        (∀ (H : Hp) (a : Addr) (ns : List Int), ns.length ≤ n → Only H → SqL K H a (ns.map V.int) → sp [.ref a] H (fun v _ => v = .bl true) fun _ _ _ => False) ∧
        ∀ base : Heap, K.In base → base.Ns mainGlobals mg → FnG l.prog w K mg base CX k fa fd [x] sp)
    (hCX : ∀ (H : Hp) (s : Shared) (e : Value) (s' : Shared), CX [] H s (fun _ _ _ => False) e s' → False) : PySem.W.WalkO q loose XP YP l.row.toRowW d [] (fun f vs => PySem.call f vs) :=
  Att.attach_call hn hdf fun w s₀ s₁ mg mb fa o pm cd doc a vs ns G Y _ _ _ hmg hobj hints hlen hg =>
    let ⟨_, _, _, KX, hbd, hsp, hF⟩ := F w mg fa _ Y G.T.g hmg
    lawG_call KX G.T.g G.T.b G.T.builtins G.T.nolimit hg hobj hints (Nat.le_trans hlen hn2) hr hF hbd (fun H hO hS => hsp H a ns hlen hO hS) fun H e s' => hCX H s₁ e s'
end DL

set_option Elab.async false
set_option linter.all false
set_option maxRecDepth 100000
set_option maxHeartbeats 2000000
namespace DL
open PySem PySem.Spec PyProof.Rows L2
/-- a def of the text and its promise, as a caller wants them -/
structure Has (P : Program) (w : World) (K : PySem.W.Frag) (mg : Str → Option Value) (base : Heap) (CX : CXT) (x : Str) (k : Nat) (ps : List Str) (sp : Sp) (dvs : List V) : Prop where
  ex : ∃ (f : Addr) (fd : FuncData) (ds : List Value), FnOk P w K mg base CX k f fd ps sp ∧ mg x = some (.ref f) ∧ PySem.W.keepIn K (.ref f) = true ∧ Binds K fd ps ds ∧ Vals dvs ds
structure HasG (P : Program) (w : World) (K : PySem.W.Frag) (mg : Str → Option Value) (base : Heap) (CX : CXT) (x : Str) (k : Nat) (ps : List Str) (sp : Sp) : Prop where
  ex : ∃ (f : Addr) (fd : FuncData), FnG P w K mg base CX k f fd ps sp ∧ mg x = some (.ref f) ∧ PySem.W.keepIn K (.ref f) = true ∧ Binds K fd ps []
/-- .. by names: n places, then the names ks -/
structure HasK (P : Program) (w : World) (K : PySem.W.Frag) (mg : Str → Option Value) (base : Heap) (CX : CXT) (x : Str) (k : Nat) (ps : List Str) (sp : Sp) (n : Nat) (ks : List Str) (gV : List V → List V → List V) : Prop where
  ex : ∃ (f : Addr) (fd : FuncData) (g : List Value → List Value → List Value), FnOk P w K mg base CX k f fd ps sp ∧ mg x = some (.ref f) ∧ PySem.W.keepIn K (.ref f) = true ∧ KBn K fd ps n ks g gV
section
variable {X : Cx} {CX : CXT} {k : Nat} {ps ks : List Str} {sp : Sp} {E : XK} {x : Str} {p pos : Pos} {e : Expr} {es : List Expr} {kws : List Keyword} {t tk : TA} {dvs : List V} {n : Nat} {gV : List V → List V → List V}
theorem pe_has (h : Has X.prog X.w X.K X.mg X.base CX x k ps sp dvs) (hr : Room k X.A) (hx : Passes CX X E) (ha : PA X (e :: es) t) (hg : Gl X x := by rfl) (hdb : (x == ("__debug__" : Str)) = false := by decide)
    (he : starEach (e :: es) X.env = (false, eval e X.env) :: starEach es X.env := by rfl) (hpl : (backTo pos (starEach es X.env)).any (·.1) = false := by rfl) : PE X (.Call (.Name x p) (e :: es) [] pos) (tCall sp dvs E t) := by
  obtain ⟨f, fd, ds, F, hm, hk, hb, hd⟩ := h.ex
  exact pe_call F hr hg hm hk hb hd hx ha hdb he hpl
theorem pe_hasK (h : HasK X.prog X.w X.K X.mg X.base CX x k ps sp n ks gV) (hr : Room k X.A) (hx : Passes CX X E) (ha : PA X (e :: es) t) (hkw : PK X kws tk) (hg : Gl X x := by rfl) (hall : (backToKw pos (keywordEach kws X.env)).all (·.1.isSome) = true := by rfl)
    (hks : (backToKw pos (keywordEach kws X.env)).filterMap (·.1) = ks := by rfl) (hdb : (x == ("__debug__" : Str)) = false := by decide) (he : starEach (e :: es) X.env = (false, eval e X.env) :: starEach es X.env := by rfl)
    (hpl : ((backTo pos (starEach (e :: es) X.env)).any (·.1) || (backToKw pos (keywordEach kws X.env)).any (·.1.isNone)) = false := by rfl) : PE X (.Call (.Name x p) (e :: es) kws pos) (tCallN n ks.length sp gV E t tk) := by
  obtain ⟨f, fd, g, F, hm, hk, hb⟩ := h.ex
  exact pe_callN F hr hg hm hk hb hx ha hkw hall hks hdb he hpl
theorem pe_hasK0 (h : HasK X.prog X.w X.K X.mg X.base CX x k ps sp 0 ks gV) (hr : Room k X.A) (hx : Passes CX X E) (hkw : PK X kws tk) (hg : Gl X x := by rfl) (hall : (backToKw pos (keywordEach kws X.env)).all (·.1.isSome) = true := by rfl)
    (hks : (backToKw pos (keywordEach kws X.env)).filterMap (·.1) = ks := by rfl) (hdb : (x == ("__debug__" : Str)) = false := by decide)
    (hpl : ((backTo pos (starEach [] X.env)).any (·.1) || (backToKw pos (keywordEach kws X.env)).any (·.1.isNone)) = false := by rfl) : PE X (.Call (.Name x p) [] kws pos) (tCallN 0 ks.length sp gV E tNil tk) := by
  obtain ⟨f, fd, g, F, hm, hk, hb⟩ := h.ex
  refine ⟨fun pins s σ H Q I h => ?_⟩
  refine wpAny_Call_Name_kw (ld_glob I hg hm ?_ hdb)
  refine PySem.W.callWith_KW0 (h₀ := X.base) I.ok.mod.kin hk hall (thn (hkw.run pos pins s σ H _ I h) fun ws s2 ⟨zs, H2, I2, rz, _, l2, q2⟩ => ⟨I2.kIn, ?_⟩) hpl
  rw [hks]
  exact run_fnN (us := []) F hr hb hx I2 .nil rz rfl l2 q2
/-- // by any divisor but nought, below 2 ^ 9000 -/
def CDivX (_ j : Int) : Prop := j ≠ 0 ∧ j.natAbs.log2 < 9000
theorem op_fdivX {X : Cx} : OpR X (binaryOp .FloorDiv) (rI CDivX fun i j => .int (i.fdiv j)) := opI fun i j _ _ _ _ _ hc q => floordiv_int hc.1 q (.inl (PyProof.noPylong_of_log2 hc.2))
end
end DL

set_option Elab.async false
set_option linter.all false
set_option maxRecDepth 100000
set_option maxHeartbeats 2000000
/-! DLC: what the laws' own helpers do: the store of draws -/
namespace DL
open PySem PySem.Spec PyProof.Rows L2
abbrev rAddI : R2 := rI0 fun i j => .int (i + j)
abbrev rSubI : R2 := rI0 fun i j => .int (i - j)
abbrev rMulI : R2 := rI CMulW fun i j => .int (i * j)
abbrev rDivI : R2 := rI CDivX fun i j => .int (i.fdiv j)
abbrev rModI : R2 := rI (fun _ j => j ≠ 0) fun i j => .int (i.fmod j)
abbrev rPowI : R2 := rI CPow fun i j => .int (i ^ j.toNat)
abbrev rLt : R2 := rI0 fun i j => .bl (decide (i < j))
abbrev rLe : R2 := rI0 fun i j => .bl (decide (i ≤ j))
abbrev rGt : R2 := rI0 fun i j => .bl (decide (j < i))
abbrev rGe : R2 := rI0 fun i j => .bl (decide (j ≤ i))
abbrev rNegI : V → Hp → VK → Prop := rU fun i => .int (-i)
abbrev rLenX (K : PySem.W.Frag) : List V → Hp → VK → Prop := fun xs H Q => ∃ p ys, xs = [.ref p] ∧ (SqL K H p ys ∨ SqT K H p ys) ∧ Q (.int ys.length) H
abbrev rAbsX : List V → Hp → VK → Prop := fun xs H Q => ∃ i, xs = [.int i] ∧ Q (.int (if i < 0 then -i else i)) H
abbrev rMinX : List V → Hp → VK → Prop := fun xs H Q => ∃ i j, xs = [.int i, .int j] ∧ Q (.int (if j < i then j else i)) H
abbrev rMaxX : List V → Hp → VK → Prop := fun xs H Q => ∃ i j, xs = [.int i, .int j] ∧ Q (.int (if j > i then j else i)) H
abbrev rStrI : List V → Hp → VK → Prop := fun xs H Q => ∃ i, xs = [.int i] ∧ i.natAbs.log2 < 1920 ∧ Q (.str (toString i)) H
abbrev rLenS : List V → Hp → VK → Prop := fun xs H Q => ∃ z : Str, xs = [.str z] ∧ z.length ≤ sizeLine ∧ Q (.int z.length) H

/-! ### the store -/
structure StoOk (a ga la : Addr) (H : Hp) (B : Nat) : Prop where
  ne1 : a ≠ ga
  ne2 : a ≠ la
  ne3 : ga ≠ la
  ex : ∃ (g l : List Int) (b s : Int), H a = some (.lst [.ref ga, .int b, .int s, .ref la]) ∧ H ga = some (.lst (g.map V.int)) ∧ H la = some (.lst (l.map V.int)) ∧
    g.length ≤ 63 ∧ l ≠ [] ∧ l.length ≤ 64 ∧ (∀ x ∈ l, 0 ≤ x ∧ x < 10 ^ 18) ∧ 0 ≤ b ∧ b < 2147483587 ∧ 0 ≤ s ∧ s ≤ B
def mkS (a ga la : Addr) : Stt where
  a := a
  fp b := decide (b = a) || decide (b = ga) || decide (b = la)
  ok := StoOk a ga la
  loc H H' B h k := by
    obtain ⟨h1, h2, h3, g, l, b, s, ha, hg, hl, r⟩ := k
    exact ⟨h1, h2, h3, g, l, b, s, (h a (by simp)).trans ha, (h ga (by simp)).trans hg, (h la (by simp)).trans hl, r⟩
  trk H B k b hb := by
    obtain ⟨h1, h2, h3, g, l, b', s, ha, hg, hl, r⟩ := k
    simp at hb
    rcases hb with (e | e) | e
    · rw [e, ha]; simp
    · rw [e, hg]; simp
    · rw [e, hl]; simp
def FSto (S : Stt) : Prop := ∃ a ga la, S = mkS a ga la
/-- a draw below m: any -/
def TDraw (c : Nat) (M : Int) (L : Nat) : Nat → List PyData → (PyData → Nat → Prop) → Prop := fun B ds Φ => ∃ m : Int, ds = [.int m] ∧ 1 ≤ m ∧ m ≤ M ∧ B ≤ L ∧ ∀ d : Int, 0 ≤ d → d < m → Φ (.int d) (B + c)
/-- the reading of the draw, sp: its own promise one level lower -/
def t_draw (K : PySem.W.Frag) (sp : Sp) : TS :=
  (tSeq (tWhile (tAnd (tTest (tOp (rNeD K) (tOp (rIxL K) (tVar 0) (tC (.int 0))) (tLst tNil))) (tTest (tOp rEq (tOp (rIxL K) (tOp (rIxL K) (tVar 0) (tC (.int 0))) (tC (.int 0))) (tC (.int 0))))) (tDrop (tBM K "list" rPopAt (tOp (rIxL K) (tVar 0) (tC (.int 0))) (tCons (tC (.int 0)) tNil))))
    (tSeq (tIfS (tTest (tOp (rNeD K) (tOp (rIxL K) (tVar 0) (tC (.int 0))) (tLst tNil))) (tSeq (tAsg (tOp rModI (tOp (rIxL K) (tOp (rIxL K) (tVar 0) (tC (.int 0))) (tC (.int 0))) (tVar 1)) (gName 2))
    (tSeq (tAsg (tOp rDivI (tOp (rIxL K) (tOp (rIxL K) (tVar 0) (tC (.int 0))) (tC (.int 0))) (tVar 1)) (gSub (tOp (rIxL K) (tVar 0) (tC (.int 0))) (tC (.int 0)) rSetL))
    (tRet (tVar 2)))) tNext)
    (tSeq (tIfS (tTest (tOp rGt (tVar 1) (tOp rPowI (tC (.int 10)) (tC (.int 6))))) (tSeq (tAsg (tC (.int 0)) (gName 3))
    (tSeq (tFor (iRng1 (tCons (tOp rAddI (tC (.int 1)) (tOp rDivI (tCB rLenS (tCons (tCB rStrI (tCons (tVar 1) tNil)) tNil)) (tC (.int 6)))) tNil)) (gName 4) (tAsg (tOp rAddI (tOp rMulI (tVar 3) (tOp rPowI (tC (.int 10)) (tC (.int 6)))) (tCall sp [] E0 (tCons (tVar 0) (tCons (tOp rPowI (tC (.int 10)) (tC (.int 6))) tNil)))) (gName 3)))
    (tRet (tOp rModI (tVar 3) (tVar 1))))) tNext)
    (tSeq (tAsg (tOp rAddI (tOp (rIxL K) (tVar 0) (tC (.int 2))) (tC (.int 1))) (gName 5))
    (tSeq (tAsg (tVar 5) (gSub (tVar 0) (tC (.int 2)) rSetL))
    (tSeq (tAsg (tLst (tCons (tC (.int 2147483563)) (tCons (tC (.int 2147483549)) (tCons (tC (.int 2147483543)) (tCons (tC (.int 2147483497)) (tCons (tC (.int 2147483489)) tNil)))))) (gName 6))
    (tSeq (tAsg (tOp (rIxL K) (tOp (rIxL K) (tVar 0) (tC (.int 3))) (tOp rModI (tVar 5) (tCB (rLenX K) (tCons (tOp (rIxL K) (tVar 0) (tC (.int 3))) tNil)))) (gName 7))
    (tSeq (tAsg (tOp rModI (tOp rPowI (tOp rAddI (tOp rAddI (tOp rAddI (tOp (rIxL K) (tVar 0) (tC (.int 1))) (tVar 7)) (tOp rMulI (tC (.int 104729)) (tVar 5))) (tC (.int 13))) (tC (.int 3))) (tOp (rIxL K) (tVar 6) (tOp rModI (tVar 5) (tC (.int 5))))) (gName 8))
    (tSeq (tAsg (tOp rAddI (tOp rAddI (tOp rMulI (tVar 8) (tVar 8)) (tOp rModI (tOp (rIxL K) (tVar 0) (tC (.int 1))) (tC (.int 1000003)))) (tVar 5)) (gName 9))
    (tRet (tOp rModI (tOp rDivI (tOp rModI (tOp rPowI (tVar 9) (tC (.int 5))) (tOp (rIxL K) (tVar 6) (tOp rModI (tOp rAddI (tVar 5) (tC (.int 2))) (tC (.int 5))))) (tC (.int 16))) (tVar 1))))))))))))

theorem sl_ints (g : List Int) : SeqAt.shaped (.list (g.map PyData.int)) = true := by
  have h1 : ∀ g : List Int, PyData.canLayAll0 (g.map PyData.int) = true := fun g => by
    induction g with
    | nil => rfl
    | cons x g ih => simp [PyData.canLayAll0, PyData.canLay0, ih]
  have h2 : ∀ g : List Int, PyData.depthAll (g.map PyData.int) ≤ 1 := fun g => by
    induction g with
    | nil => simp [PyData.depthAll]
    | cons x g ih => simp [PyData.depthAll, PyData.depth]; omega
  simp [SeqAt.shaped, PyData.canLay0, h1, PyData.depth]
  have := h2 g
  omega
end DL

set_option Elab.async false
set_option linter.all false
set_option maxRecDepth 100000
set_option maxHeartbeats 4000000
namespace DL
open PySem PySem.Spec PyProof.Rows L2
/-- the store's three lists, told -/
structure Sto5 (a ga la : Addr) (g l : List Int) (b s : Int) (H : Hp) : Prop where
  ha : H a = some (.lst [.ref ga, .int b, .int s, .ref la])
  hg : H ga = some (.lst (g.map V.int))
  hl : H la = some (.lst (l.map V.int))
theorem Sto5.same {a ga la : Addr} {g l : List Int} {b s : Int} {H H' : Hp} (h : Sto5 a ga la g l b s H) (e : Same H H') : Sto5 a ga la g l b s H' := ⟨e _ _ h.ha, e _ _ h.hg, e _ _ h.hl⟩
def FrS (a ga la : Addr) (H H' : Hp) : Prop := ∀ x o, x ≠ a → x ≠ ga → x ≠ la → H x = some o → H' x = some o
theorem FrS.of {a ga la : Addr} {H H' : Hp} (e : Same H H') : FrS a ga la H H' := fun x o _ _ _ h => e x o h
theorem FrS.trans {a ga la : Addr} {H H1 H2 : Hp} (e : FrS a ga la H H1) (f : FrS a ga la H1 H2) : FrS a ga la H H2 := fun x o n1 n2 n3 h => f x o n1 n2 n3 (e x o n1 n2 n3 h)
theorem FrS.set {a ga la p : Addr} {H H1 : Hp} (e : FrS a ga la H H1) (hp : p = a ∨ p = ga ∨ p = la) (o : HO) : FrS a ga la H (upd H1 p o) := fun x u n1 n2 n3 h => by
  rw [upd_ne (by rcases hp with q | q | q <;> rw [q] <;> assumption)]
  exact e x u n1 n2 n3 h
section
variable {K : PySem.W.Frag} {a ga la : Addr} {g l : List Int} {b s : Int} {H : Hp} {σ : L2.St}
/-- store[0], store[3] -/
theorem rd0 {Q : VK} (h : Sto5 a ga la g l b s H) (q : Q (.ref ga) H) : rIxL K (.ref a) (.int 0) H Q := ⟨a, _, 0, _, rfl, rfl, .inl (.inl h.ha), rfl, q⟩
theorem rd1 {Q : VK} (h : Sto5 a ga la g l b s H) (q : Q (.int b) H) : rIxL K (.ref a) (.int 1) H Q := ⟨a, _, 1, _, rfl, rfl, .inl (.inl h.ha), rfl, q⟩
theorem rd2 {Q : VK} (h : Sto5 a ga la g l b s H) (q : Q (.int s) H) : rIxL K (.ref a) (.int 2) H Q := ⟨a, _, 2, _, rfl, rfl, .inl (.inl h.ha), rfl, q⟩
theorem rd3 {Q : VK} (h : Sto5 a ga la g l b s H) (q : Q (.ref la) H) : rIxL K (.ref a) (.int 3) H Q := ⟨a, _, 3, _, rfl, rfl, .inl (.inl h.ha), rfl, q⟩
theorem rdg {Q : VK} {x : Int} {r : List Int} (h : Sto5 a ga la (x :: r) l b s H) (q : Q (.int x) H) : rIxL K (.ref ga) (.int 0) H Q := ⟨ga, _, 0, _, rfl, rfl, .inl (.inl h.hg), atI_nat (j := 0) rfl, q⟩
/-- store[0] != [] -/
theorem ne_nil {Q : Bool → Hp → Prop} (h : Sto5 a ga la g l b s H) (h0 : σ[0]? = some (some (.ref a))) (q : ∀ p, H p = none → Q (!g.isEmpty) (upd H p (.lst []))) :
    tTest (tOp (rNeD K) (tOp (rIxL K) (tVar 0) (tC (.int 0))) (tLst tNil)) σ H Q := by
  refine ⟨_, h0, ?_⟩
  dsimp only [tC]
  refine rd0 (K := K) h ?_
  refine ⟨Nat.zero_le _, fun p hp => ?_⟩
  have e := same_new hp (.lst [])
  have d1 : Dp K (upd H p (.lst [])) (.ref ga) (.list (g.map PyData.int)) := dt_dp _ _ (shaped_nd (sl_ints g)) (.lst (.inl (e _ _ h.hg)) (by
    have : ∀ g : List Int, DtAll K (upd H p (.lst [])) (g.map V.int) (g.map PyData.int) := fun g => by
      induction g with
      | nil => exact .nil
      | cons x g ih => exact .cons (.int x) ih
    exact this g))
  refine ⟨_, .list [], d1, .lst (.inl (.inl upd_same)) .nil, sl_ints g, by decide, _, rfl, ?_⟩
  have : PyData.eqv (.list (g.map PyData.int)) (.list []) = g.isEmpty := by
    cases g <;> simp [PyData.eqv, PyData.eqvAll]
  rw [this]
  exact q p hp
end
theorem log2_small {m : Int} {k : Nat} (h0 : 0 ≤ m) (h : m < 2 ^ k) (hk : 0 < k) : m.natAbs.log2 < k := PySem.Flt.log2_lt_of hk (by have e : ((2 ^ k : Nat) : Int) = (2 : Int) ^ k := Int.natCast_pow 2 k; omega)
theorem fmod_nn {i j : Int} (hj : 0 < j) : 0 ≤ i.fmod j ∧ i.fmod j < j := ⟨Int.fmod_nonneg_of_pos i hj, Int.fmod_lt_of_pos i hj⟩
/-- what a draw of a small number does behind the great ones -/
theorem draw_tail {K : PySem.W.Frag} {a ga la : Addr} {l : List Int} {b s : Int} {H : Hp} {m : Int} {x2 x3 x4 x5 x6 x7 x8 x9 : Option V} {Q : VK} {nx : L2.St → Hp → Prop} {g : List Int} (n1 : a ≠ ga) (n2 : a ≠ la) (h : Sto5 a ga la g l b s H) (hl : l ≠ []) (hl64 : l.length ≤ 64) (hlx : ∀ x ∈ l, 0 ≤ x ∧ x < 10 ^ 18)
    (hb : 0 ≤ b) (hb2 : b < 2147483587) (hs : 0 ≤ s) (hs2 : s ≤ 2 ^ 42) (hm : 1 ≤ m) (q : ∀ d H', 0 ≤ d → d < m → Sto5 a ga la g l b (s + 1) H' → FrS a ga la H H' → Q (.int d) H') :
    (tSeq (tAsg (tOp rAddI (tOp (rIxL K) (tVar 0) (tC (.int 2))) (tC (.int 1))) (gName 5))
    (tSeq (tAsg (tVar 5) (gSub (tVar 0) (tC (.int 2)) rSetL))
    (tSeq (tAsg (tLst (tCons (tC (.int 2147483563)) (tCons (tC (.int 2147483549)) (tCons (tC (.int 2147483543)) (tCons (tC (.int 2147483497)) (tCons (tC (.int 2147483489)) tNil)))))) (gName 6))
    (tSeq (tAsg (tOp (rIxL K) (tOp (rIxL K) (tVar 0) (tC (.int 3))) (tOp rModI (tVar 5) (tCB (rLenX K) (tCons (tOp (rIxL K) (tVar 0) (tC (.int 3))) tNil)))) (gName 7))
    (tSeq (tAsg (tOp rModI (tOp rPowI (tOp rAddI (tOp rAddI (tOp rAddI (tOp (rIxL K) (tVar 0) (tC (.int 1))) (tVar 7)) (tOp rMulI (tC (.int 104729)) (tVar 5))) (tC (.int 13))) (tC (.int 3))) (tOp (rIxL K) (tVar 6) (tOp rModI (tVar 5) (tC (.int 5))))) (gName 8))
    (tSeq (tAsg (tOp rAddI (tOp rAddI (tOp rMulI (tVar 8) (tVar 8)) (tOp rModI (tOp (rIxL K) (tVar 0) (tC (.int 1))) (tC (.int 1000003)))) (tVar 5)) (gName 9))
    (tRet (tOp rModI (tOp rDivI (tOp rModI (tOp rPowI (tVar 9) (tC (.int 5))) (tOp (rIxL K) (tVar 6) (tOp rModI (tOp rAddI (tVar 5) (tC (.int 2))) (tC (.int 5))))) (tC (.int 16))) (tVar 1)))))))))
      { nx := nx, rt := Q } [some (.ref a), some (.int m), x2, x3, x4, x5, x6, x7, x8, x9] H := by
  -- step = store[2] + 1; store[2] = step
  refine ⟨_, rfl, ?_⟩
  dsimp only [tC]
  refine rd2 (K := K) h ?_
  refine ⟨s, 1, rfl, rfl, ?_⟩
  refine ⟨_, rfl, _, rfl, a, _, 2, 2, rfl, rfl, h.ha, rfl, ?_⟩
  have h1 : Sto5 a ga la g l b (s + 1) (upd H a (.lst ([V.ref ga, .int b, .int s, .ref la].set 2 (.int (s + 1))))) := ⟨upd_same, by rw [upd_ne n1.symm]; exact h.hg, by rw [upd_ne n2.symm]; exact h.hl⟩
  have f1 : FrS a ga la H (upd H a (.lst ([V.ref ga, .int b, .int s, .ref la].set 2 (.int (s + 1))))) := (FrS.of (Same.refl H)).set (.inl rfl) _
  generalize upd H a (.lst ([V.ref ga, .int b, .int s, .ref la].set 2 (.int (s + 1)))) = H1 at h1 f1 ⊢
  -- primes
  refine ⟨(by show 5 ≤ sizeLine; decide), fun p hp => ?_⟩
  have e2 := same_new hp (.lst [V.int 2147483563, .int 2147483549, .int 2147483543, .int 2147483497, .int 2147483489])
  have h2 := h1.same e2
  have f2 := f1.trans (FrS.of e2)
  have hp2 : (upd H1 p (.lst [V.int 2147483563, .int 2147483549, .int 2147483543, .int 2147483497, .int 2147483489])) p = some (.lst [V.int 2147483563, .int 2147483549, .int 2147483543, .int 2147483497, .int 2147483489]) := upd_same
  show tSeq _ _ _ [some (.ref a), some (.int m), x2, x3, x4, some (.int (s + 1)), some (.ref p), x7, x8, x9] (upd H1 p (.lst [V.int 2147483563, .int 2147483549, .int 2147483543, .int 2147483497, .int 2147483489]))
  generalize upd H1 p (.lst [V.int 2147483563, .int 2147483549, .int 2147483543, .int 2147483497, .int 2147483489]) = H2 at h2 f2 hp2 ⊢
  -- cell
  have hlen : 0 < l.length := List.length_pos_iff.mpr hl
  obtain ⟨m1, m2⟩ := fmod_nn (i := s + 1) (j := (l.length : Int)) (by omega)
  obtain ⟨j, hj⟩ : ∃ j : Nat, (s + 1).fmod (l.length : Int) = j := ⟨((s + 1).fmod (l.length : Int)).toNat, by omega⟩
  have hj2 : j < l.length := by omega
  obtain ⟨c0, c1⟩ := hlx l[j] (List.getElem_mem hj2)
  refine ⟨_, rfl, ?_⟩
  dsimp only [tC]
  refine rd3 (K := K) h2 ?_
  refine ⟨_, rfl, _, rfl, ?_⟩
  dsimp only [tC]
  refine rd3 (K := K) h2 ?_
  refine ⟨la, _, rfl, .inl (.inl (.inl h2.hl)), s + 1, _, rfl, rfl, by rw [List.length_map]; omega, ?_⟩
  dsimp only
  rw [List.length_map, hj]
  refine ⟨la, _, _, .int l[j], rfl, rfl, .inl (.inl h2.hl), atI_nat (by rw [List.getElem?_map, List.getElem?_eq_getElem hj2]; rfl), ?_⟩
  show tSeq _ _ _ [some (.ref a), some (.int m), x2, x3, x4, some (.int (s + 1)), some (.ref p), some (.int l[j]), x8, x9] H2
  generalize l[j] = cell at c0 c1 ⊢
  -- one of five primes
  have prime : ∀ (t : Int) (Q' : VK), (∀ pr : Int, 2000000000 < pr → pr < 2 ^ 31 → Q' (.int pr) H2) → rIxL K (.ref p) (.int (t.fmod 5)) H2 Q' := fun t Q' k => by
    obtain ⟨b1, b2⟩ := fmod_nn (i := t) (j := 5) (by decide)
    have hc : t.fmod 5 = 0 ∨ t.fmod 5 = 1 ∨ t.fmod 5 = 2 ∨ t.fmod 5 = 3 ∨ t.fmod 5 = 4 := by omega
    rcases hc with e | e | e | e | e <;> rw [e]
    · exact ⟨p, _, 0, _, rfl, rfl, .inl (.inl hp2), rfl, k _ (by decide) (by decide)⟩
    · exact ⟨p, _, 1, _, rfl, rfl, .inl (.inl hp2), rfl, k _ (by decide) (by decide)⟩
    · exact ⟨p, _, 2, _, rfl, rfl, .inl (.inl hp2), rfl, k _ (by decide) (by decide)⟩
    · exact ⟨p, _, 3, _, rfl, rfl, .inl (.inl hp2), rfl, k _ (by decide) (by decide)⟩
    · exact ⟨p, _, 4, _, rfl, rfl, .inl (.inl hp2), rfl, k _ (by decide) (by decide)⟩
  -- one
  refine ⟨_, rfl, ?_⟩
  dsimp only [tC]
  refine rd1 (K := K) h2 ?_
  refine ⟨_, rfl, b, cell, rfl, rfl, ?_⟩
  refine ⟨_, rfl, 104729, s + 1, rfl, rfl, wide_mul (a := 20) (b := 64) (by decide) (by omega) (by decide) (by decide) (by decide), b + cell, _, rfl, rfl, _, 13, rfl, rfl, _, 3, rfl, rfl, ⟨by decide, by decide, by omega⟩, _, rfl, _, rfl, s + 1, 5, rfl, rfl, (by show (5 : Int) ≠ 0; decide), ?_⟩
  refine prime _ _ fun pr p0 p1 => ?_
  refine ⟨_, pr, rfl, rfl, by omega, ?_⟩
  obtain ⟨o1, o2⟩ := fmod_nn (i := (b + cell + 104729 * (s + 1) + 13) ^ (3 : Int).toNat) (j := pr) (by omega)
  dsimp only
  generalize ((b + cell + 104729 * (s + 1) + 13) ^ (3 : Int).toNat).fmod pr = one at o1 o2 ⊢
  -- two
  refine ⟨_, rfl, _, rfl, one, one, rfl, rfl, wide_mul (a := 32) (b := 32) (by omega) (by omega) (by decide) (by decide) (by decide), ?_⟩
  refine ⟨_, rfl, ?_⟩
  dsimp only [tC]
  refine rd1 (K := K) h2 ?_
  refine ⟨b, 1000003, rfl, rfl, (by show (1000003 : Int) ≠ 0; decide), one * one, _, rfl, rfl, _, rfl, _, s + 1, rfl, rfl, ?_⟩
  obtain ⟨w1, w2⟩ := fmod_nn (i := b) (j := 1000003) (by decide)
  have sq : 0 ≤ one * one ∧ one * one < 2 ^ 62 := by
    refine ⟨Int.mul_nonneg o1 o1, ?_⟩
    have : one * one ≤ (2 ^ 31 - 1) * (2 ^ 31 - 1) := Int.mul_le_mul (by omega) (by omega) o1 (by decide)
    omega
  dsimp only
  generalize b.fmod 1000003 = r at w1 w2 ⊢
  generalize one * one = sqr at sq ⊢
  refine ⟨_, rfl, sqr + r + (s + 1), 5, rfl, rfl, ⟨by decide, by decide, by omega⟩, _, rfl, _, rfl, s + 1, 2, rfl, rfl, s + 1 + 2, 5, rfl, rfl, (by show (5 : Int) ≠ 0; decide), ?_⟩
  refine prime _ _ fun pr2 p2 p3 => ?_
  refine ⟨_, pr2, rfl, rfl, by omega, ?_⟩
  dsimp only
  generalize (sqr + r + (s + 1)) ^ (5 : Int).toNat = big
  refine ⟨big.fmod pr2, 16, rfl, rfl, ⟨by decide, by decide⟩, _, rfl, _, m, rfl, rfl, by omega, ?_⟩
  obtain ⟨z1, z2⟩ := fmod_nn (i := (big.fmod pr2).fdiv 16) (j := m) (by omega)
  exact q _ _ z1 z2 h2 f2
end DL

set_option Elab.async false
set_option linter.all false
set_option maxRecDepth 100000
set_option maxHeartbeats 4000000
namespace DL
open PySem PySem.Spec PyProof.Rows L2
theorem strlen_ofString (i : Int) (h : i.natAbs.log2 < 1900) : (Str.ofString (toString i)).length ≤ 1901 := by
  rw [PySem.ofString_length]
  exact PySem.int_text_length_le (k := 1900) (by decide) h
theorem fdiv_small {n : Int} (h0 : 0 ≤ n) (h : n ≤ 1901) : 0 ≤ n.fdiv 6 ∧ n.fdiv 6 ≤ 316 := by
  rw [Int.fdiv_eq_ediv_of_nonneg n (by decide)]
  omega
/-- the draw keeps its promise -/
theorem draw_run {K : PySem.W.Frag} {sp : Sp} {c L : Nat} {M : Int} {vs : List V} {H : Hp} {Q : VK} {E : XK} (h : spS K FSto (TDraw c M L) vs H Q E) (hM : M ≤ 2 ^ 1899) (hL : L ≤ 2 ^ 41) (hc : 1 ≤ c) (hs : M ≤ 10 ^ 6 ∨ (sp = spS K FSto (TDraw 1 (10 ^ 6) (2 ^ 41)) ∧ 400 ≤ c ∧ L ≤ 2 ^ 40)) :
    t_draw K sp { nx := fun _ H' => Q .non H', rt := Q } (L2.start ["store", "many", "digit", "found", "turn", "step", "primes", "cell", "one", "two"] vs) H := by
  obtain ⟨S, N, us, ds, B, Φ, rfl, ⟨a, ga, la, rfl⟩, hok, hle, ht, hd, ⟨m, rfl, m1, mM, hB, hT⟩, hQ⟩ := h
  obtain ⟨n1, n2, n3, g, l, b, s, ha, hg, hl, g63, lne, l64, lx, b0, b1, s0, sB⟩ := hok
  cases hd with
  | cons hd1 hd2 =>
  cases hd2
  cases hd1
  have m1900 : m.natAbs.log2 < 1900 := by
    refine log2_small (by omega) ?_ (by decide)
    have : (2 : Int) ^ 1899 < 2 ^ 1900 := by decide +kernel
    omega
  have hm64 : m.natAbs.log2 < 9000 := by omega
  have bm : B ≤ 2 ^ 41 := Nat.le_trans hB hL
  show t_draw K sp { nx := fun _ H' => Q .non H', rt := Q } [some (.ref a), some (.int m), none, none, none, none, none, none, none, none] H
  -- what is handed back
  have fin0 : ∀ (d : Int) (H' : Hp), 0 ≤ d → d < m → StoOk a ga la H' (B + c) → FrS a ga la H H' → Q (.int d) H' := by
    intro d H' d0 d1 ok' fr
    refine hQ _ _ (hT d d0 d1) _ H' (fun x o hx hy => ?_) ok' (Dt.int _)
    have hx' : x ≠ a ∧ x ≠ ga ∧ x ≠ la := by
      have : (decide (x = a) || decide (x = ga) || decide (x = la)) = false := hx
      simp at this
      exact ⟨this.1.1, this.1.2, this.2⟩
    exact fr x o hx'.1 hx'.2.1 hx'.2.2 hy
  have fin : ∀ (d : Int) (H' : Hp) (g' : List Int) (s' : Int), 0 ≤ d → d < m → Sto5 a ga la g' l b s' H' → FrS a ga la H H' → g'.length ≤ 63 → 0 ≤ s' → s' ≤ B + c → Q (.int d) H' := by
    intro d H' g' s' d0 d1 h5 fr hg' s0' s1'
    exact fin0 d H' d0 d1 ⟨n1, n2, n3, g', l, b, s', h5.ha, h5.hg, h5.hl, hg', lne, l64, lx, b0, b1, s0', by omega⟩ fr
  -- the great ones' noughts go
  refine ⟨fun n σ' H' => σ' = [some (.ref a), some (.int m), none, none, none, none, none, none, none, none] ∧ ∃ g', n = g'.length ∧ g'.length ≤ 63 ∧ Sto5 a ga la g' l b s H' ∧ FrS a ga la H H', ⟨g.length, rfl, g, rfl, g63, ⟨ha, hg, hl⟩, FrS.of (Same.refl H)⟩, ?_⟩
  rintro n σ' H' ⟨rfl, g', rfl, hg', h5, fr⟩
  refine ne_nil h5 rfl fun p hp => ?_
  have e := same_new hp (.lst [])
  have h5' := h5.same e
  have fr' := fr.trans (FrS.of e)
  generalize upd H' p (.lst []) = H1 at h5' fr' ⊢
  match g', h5', hg' with
  | x :: r, h5', hg' =>
    -- some are left: is the first nought?
    show (if true = true then _ else _)
    rw [if_pos rfl]
    refine ⟨_, rfl, ?_⟩
    (try dsimp only [tC])
    refine rd0 (K := K) h5' ?_
    (try dsimp only [tC])
    refine rdg (K := K) h5' ?_
    refine ⟨rfl, _, rfl, ?_⟩
    by_cases hx : x = 0
    · subst hx
      show (if (decide (V.int 0 = V.int 0)) = true then _ else _)
      rw [if_pos (by decide)]
      refine ⟨_, fun _ _ z => z, ?_⟩
      refine ⟨_, rfl, ?_⟩
      (try dsimp only [tC])
      refine rd0 (K := K) h5' ?_
      refine ⟨.inl ⟨rfl, _, .inl (.inl h5'.hg)⟩, ga, _, 0, 0, .int 0, rfl, rfl, h5'.hg, by decide, by decide, ?_, rfl, ?_⟩
      · exact (ixN_seq (n := ((0 :: r).map V.int).length) (i := 0) (j := 0) (by simp [ixN])).1
      · refine ⟨r.length, by show r.length < (0 :: r).length; simp, rfl, r, rfl, by simp at hg'; omega, ⟨?_, ?_, ?_⟩, fr'.set (.inr (.inl rfl)) _⟩
        · rw [upd_ne n1]; exact h5'.ha
        · rw [upd_same]; rfl
        · rw [upd_ne n3.symm]; exact h5'.hl
    · have hx' : (decide (V.int x = V.int 0)) = false := decide_eq_false fun z => hx (V.int.inj z)
      show (if (decide (V.int x = V.int 0)) = true then _ else _)
      rw [hx', if_neg (by decide)]
      -- digit
      refine ne_nil h5' rfl fun p2 hp2 => ?_
      have e2 := same_new hp2 (.lst [])
      have h6 := h5'.same e2
      have fr6 := fr'.trans (FrS.of e2)
      generalize upd H1 p2 (.lst []) = H2 at h6 fr6 ⊢
      show (if true = true then _ else _)
      rw [if_pos rfl]
      refine ⟨_, rfl, ?_⟩
      (try dsimp only [tC])
      refine rd0 (K := K) h6 ?_
      (try dsimp only [tC])
      refine rdg (K := K) h6 ?_
      refine ⟨_, rfl, x, m, rfl, rfl, by omega, ?_⟩
      refine ⟨_, rfl, ?_⟩
      (try dsimp only [tC])
      refine rd0 (K := K) h6 ?_
      (try dsimp only [tC])
      refine rdg (K := K) h6 ?_
      refine ⟨_, rfl, x, m, rfl, rfl, ⟨by omega, hm64⟩, ?_⟩
      refine ⟨_, rfl, ?_⟩
      (try dsimp only [tC])
      refine rd0 (K := K) h6 ?_
      refine ⟨ga, _, 0, 0, rfl, rfl, h6.hg, by simp [ixN], ?_⟩
      obtain ⟨z1, z2⟩ := fmod_nn (i := x) (j := m) (by omega)
      refine ⟨_, rfl, fin _ _ (x.fdiv m :: r) s z1 z2 ⟨?_, ?_, ?_⟩ (fr6.set (.inr (.inl rfl)) _) (by simpa using hg') s0 (by omega)⟩
      · rw [upd_ne n1]; exact h6.ha
      · rw [upd_same]; rfl
      · rw [upd_ne n3.symm]; exact h6.hl
  | [], h5', hg' =>
    show (if false = true then _ else _)
    rw [if_neg Bool.false_ne_true]
    show (if false = true then _ else _)
    rw [if_neg Bool.false_ne_true]
    refine ne_nil h5' rfl fun p2 hp2 => ?_
    have e2 := same_new hp2 (.lst [])
    have h6 := h5'.same e2
    have fr6 := fr'.trans (FrS.of e2)
    generalize upd H1 p2 (.lst []) = H2 at h6 fr6 ⊢
    show tNext _ _ _
    refine ⟨_, rfl, 10, 6, rfl, rfl, ⟨by decide, by decide, by decide⟩, m, _, rfl, rfl, _, rfl, ?_⟩
    by_cases hbig : (10 ^ (6 : Int).toNat : Int) < m
    · have hdec : decide ((10 ^ (6 : Int).toNat : Int) < m) = true := decide_eq_true hbig
      show (if decide ((10 ^ (6 : Int).toNat : Int) < m) = true then _ else _)
      rw [if_pos hdec]
      have hb6 : (10 : Int) ^ 6 < m := hbig
      obtain ⟨rfl, c400, L40⟩ : sp = spS K FSto (TDraw 1 (10 ^ 6) (2 ^ 41)) ∧ 400 ≤ c ∧ L ≤ 2 ^ 40 := by
        rcases hs with z | z
        · omega
        · exact z
      have hl1 := strlen_ofString m m1900
      obtain ⟨q0, q1⟩ := fdiv_small (n := ((Str.ofString (toString m)).length : Int)) (by omega) (by omega)
      refine ⟨_, rfl, m, rfl, by omega, Str.ofString (toString m), rfl, by rw [sizeLine_eq]; omega, _, 6, rfl, rfl, ⟨by decide, by decide⟩, 1, _, rfl, rfl, 1 + ((Str.ofString (toString m)).length : Int).fdiv 6, rfl, by omega, by omega, ?_⟩
      generalize ((Str.ofString (toString m)).length : Int).fdiv 6 = turns at q0 q1 ⊢
      have ok0 : StoOk a ga la H2 B := ⟨n1, n2, n3, [], l, b, s, h6.ha, h6.hg, h6.hl, by decide, lne, l64, lx, b0, b1, s0, sB⟩
      have okm : ∀ {H' : Hp} {B1 B2 : Nat}, StoOk a ga la H' B1 → B1 ≤ B2 → StoOk a ga la H' B2 := by
        rintro H' B1 B2 ⟨_, _, _, g, l, b, s, k1, k2, k3, k4, k5, k6, k7, k8, k9, k10, k11⟩ hB12
        exact ⟨n1, n2, n3, g, l, b, s, k1, k2, k3, k4, k5, k6, k7, k8, k9, k10, by omega⟩
      refine for_range (lo := 0) (n := (1 + turns).toNat) (fun k σ' H' => ∃ (f : Int) (x4 : Option V), σ' = [some (.ref a), some (.int m), none, some (.int f), x4, none, none, none, none, none] ∧ 0 ≤ f ∧ f < 10 ^ (6 * k) ∧ StoOk a ga la H' (B + k) ∧ FrS a ga la H H') ⟨0, none, rfl, by decide, by decide, ok0, fr6⟩ ?_ ?_
      · rintro k σ' H' hk ⟨f, x4, rfl, f0, f1, h7, fr7⟩
        have kb : k ≤ 316 := by omega
        refine ⟨_, rfl, 10, 6, rfl, rfl, ⟨by decide, by decide, by decide⟩, f, _, rfl, rfl, ?_, ?_⟩
        · refine wide_mul (a := 6400) (b := 20) ?_ (by decide) (by decide) (by decide) (by decide)
          have p1 : (10 : Int) ^ (6 * k) ≤ 10 ^ 1896 := by
            have := Nat.pow_le_pow_right (n := 10) (by decide) (show 6 * k ≤ 1896 by omega)
            exact_mod_cast this
          have p2 : (10 : Int) ^ 1896 < 2 ^ 6400 := by decide +kernel
          have p3 : (((2 ^ 6400 : Nat) : Int)) = (2 : Int) ^ 6400 := Int.natCast_pow 2 6400
          clear hM mM
          generalize (10 : Int) ^ (6 * k) = u1 at *
          generalize (10 : Int) ^ 1896 = u2 at *
          generalize (2 : Int) ^ 6400 = u3 at *
          generalize (2 : Nat) ^ 6400 = u4 at *
          omega
        · refine ⟨_, rfl, 10, 6, rfl, rfl, ⟨by decide, by decide, by decide⟩, ?_⟩
          refine ⟨mkS a ga la, (mkS a ga la).fp, [.int (10 ^ (6 : Int).toNat)], [.int (10 ^ (6 : Int).toNat)], B + k, fun d B' => ∃ z : Int, d = .int z ∧ 0 ≤ z ∧ z < 10 ^ 6 ∧ B' = B + k + 1, rfl, ⟨a, ga, la, rfl⟩, h7, Le.refl, (mkS a ga la).trk H' _ h7, DqAll.cons (Dt.int _) DqAll.nil, ⟨_, rfl, by decide, by decide, by omega, fun d d0 d1 => ⟨d, rfl, d0, d1, rfl⟩⟩, ?_⟩
          rintro d B' ⟨z, rfl, z0, z1, rfl⟩ v H2 fr2 ok2 dv
          cases dv
          have e10 : (10 : Int) ^ (6 * (k + 1)) = 10 ^ (6 * k) * 1000000 := by
            rw [Nat.mul_add, Int.pow_add]; rfl
          refine ⟨f * 10 ^ (6 : Int).toNat, z, rfl, rfl, f * 10 ^ (6 : Int).toNat + z, some (.int (0 + k)), rfl, ?_, ?_, ok2, fr7.trans fun x o q1 q2 q3 hx => fr2 x o (by show (decide (x = a) || decide (x = ga) || decide (x = la)) = false; simp [q1, q2, q3]) hx⟩
          · have : (10 : Int) ^ (6 : Int).toNat = 1000000 := by decide
            rw [this]; omega
          · have : (10 : Int) ^ (6 : Int).toNat = 1000000 := by decide
            rw [this, e10]
            generalize (10 : Int) ^ (6 * k) = u at f1 ⊢
            omega
      · rintro σ' H' ⟨f, x4, rfl, f0, f1, h7, fr7⟩
        refine ⟨_, rfl, _, rfl, f, m, rfl, rfl, by omega, ?_⟩
        obtain ⟨z1, z2⟩ := fmod_nn (i := f) (j := m) (by omega)
        exact fin0 _ _ z1 z2 (okm h7 (by omega)) fr7
    · have hdec : ¬ decide ((10 ^ (6 : Int).toNat : Int) < m) = true := fun z => hbig (of_decide_eq_true z)
      show (if decide ((10 ^ (6 : Int).toNat : Int) < m) = true then _ else _)
      rw [if_neg hdec]
      show tNext _ _ _
      refine draw_tail n1 n2 h6 lne l64 lx b0 b1 s0 (by omega) m1 fun d H' d0 d1 h7 fr7 => fin d H' [] (s + 1) d0 d1 h7 (fr6.trans fr7) (by decide) (by omega) (by omega)
/-! ### steps by name -/
section
variable {K : PySem.W.Frag} {S : Stt} {ρ : Rho} {Φ : PyData → Rho → Prop} {Ψ : PyData → Prop}
theorem do_mul {i j : Int} (c : CMulW i j) (h : Ψ (.int (i * j))) : DO K rMulI (.int i) (.int j) Ψ := do_ic c h
theorem do_mod {i j : Int} (c : j ≠ 0) (h : Ψ (.int (i.fmod j))) : DO K rModI (.int i) (.int j) Ψ := do_ic (C := fun _ j => j ≠ 0) c h
theorem do_div {i j : Int} (c : CDivX i j) (h : Ψ (.int (i.fdiv j))) : DO K rDivI (.int i) (.int j) Ψ := do_ic c h
theorem do_pow {i j : Int} (c : CPow i j) (h : Ψ (.int (i ^ j.toNat))) : DO K rPowI (.int i) (.int j) Ψ := do_ic c h
theorem do_add {i j : Int} (h : Ψ (.int (i + j))) : DO K rAddI (.int i) (.int j) Ψ := do_ii h
theorem do_sub {i j : Int} (h : Ψ (.int (i - j))) : DO K rSubI (.int i) (.int j) Ψ := do_ii h
theorem do_lt {i j : Int} (h : Ψ (.bool (decide (i < j)))) : DO K rLt (.int i) (.int j) Ψ := do_ib (f := fun i j => decide (i < j)) h
theorem do_le {i j : Int} (h : Ψ (.bool (decide (i ≤ j)))) : DO K rLe (.int i) (.int j) Ψ := do_ib (f := fun i j => decide (i ≤ j)) h
theorem do_gt {i j : Int} (h : Ψ (.bool (decide (j < i)))) : DO K rGt (.int i) (.int j) Ψ := do_ib (f := fun i j => decide (j < i)) h
theorem do_ge {i j : Int} (h : Ψ (.bool (decide (j ≤ i)))) : DO K rGe (.int i) (.int j) Ψ := do_ib (f := fun i j => decide (j ≤ i)) h
theorem du_neg {i : Int} (h : Ψ (.int (-i))) : DU K rNegI (.int i) Ψ := du_i (f := fun i => -i) h
theorem dc_abs {i : Int} (h : Ψ (.int (i.natAbs : Nat))) : DC K rAbsX [.int i] Ψ := dc_i1 (f := fun i => if i < 0 then -i else i) (by
  have e : (if i < 0 then -i else i) = ((i.natAbs : Nat) : Int) := by split <;> omega
  show Ψ (.int (if i < 0 then -i else i))
  rw [e]; exact h)
theorem dc_min {i j : Int} (h : Ψ (.int (if j < i then j else i))) : DC K rMinX [.int i, .int j] Ψ := dc_i2 (f := fun i j => if j < i then j else i) h
theorem dc_max {i j : Int} (h : Ψ (.int (if j > i then j else i))) : DC K rMaxX [.int i, .int j] Ψ := dc_i2 (f := fun i j => if j > i then j else i) h
theorem dc_lenT {ds : List PyData} (h : Ψ (.int ds.length)) : DC K (rLenX K) [.tuple ds] Ψ := dc_len_t h
/-- the cases of an answered test -/
theorem if_b {c : Prop} [Decidable c] {A B : Prop} (h1 : c → A) (h2 : ¬ c → B) : if decide c = true then A else B := by
  by_cases h : c
  · rw [if_pos (decide_eq_true h)]; exact h1 h
  · rw [if_neg (fun z => h (of_decide_eq_true z))]; exact h2 h
theorem if_t {A B : Prop} (h : A) : if true = true then A else B := by rw [if_pos rfl]; exact h
theorem if_f {A B : Prop} (h : B) : if false = true then A else B := by rw [if_neg Bool.false_ne_true]; exact h
theorem if_nf {A B : Prop} (h : A) : if (!false) = true then A else B := if_t h
theorem if_nt {A B : Prop} (h : B) : if (!true) = true then A else B := if_f h
end
end DL

set_option Elab.async false
set_option linter.all false
set_option maxRecDepth 100000
set_option maxHeartbeats 4000000
namespace DL
open PySem PySem.Spec PyProof.Rows L2
local macro_rules | `(tactic| walk_at "dl") => `(tactic| repeat' (first
  | with_reducible refine wd_op ?_ | with_reducible refine wd_cb ?_ | with_reducible refine wd_un ?_ | with_reducible refine wa_cons ?_ | with_reducible refine wa_nil ?_ | ((with_reducible show WD _ _ (tVar _) _ _); refine wd_var rfl ?_) | with_reducible refine wd_int ?_ | with_reducible refine wd_bl ?_ | with_reducible refine wd_str ?_ | with_reducible refine wd_non ?_
  | with_reducible refine do_add ?_ | with_reducible refine do_sub ?_ | ((with_reducible refine do_mod ?_ ?_); decide) | with_reducible refine do_mod ?_ ?_ | with_reducible refine do_mul ?_ ?_ | ((with_reducible refine do_div ?_ ?_); exact ⟨by decide, by decide⟩) | with_reducible refine do_div ?_ ?_ | ((with_reducible refine do_pow ?_ ?_); exact ⟨by decide, by decide, by decide⟩) | with_reducible refine do_pow ?_ ?_
  | with_reducible refine do_lt ?_ | with_reducible refine do_le ?_ | with_reducible refine do_gt ?_ | with_reducible refine do_ge ?_ | with_reducible refine du_neg ?_
  | with_reducible refine do_eqi ?_ | with_reducible refine do_nei ?_ | with_reducible refine do_eqs ?_ | with_reducible refine do_nes ?_ | with_reducible refine dc_abs ?_ | with_reducible refine dc_min ?_ | with_reducible refine dc_max ?_ | with_reducible refine dc_lenL ?_ | with_reducible refine dc_lenT ?_ | with_reducible refine dc_gcd ?_
  | ((with_reducible show DO _ (rIxT _) _ _ _); refine do_ixT rfl ?_) | ((with_reducible show DO _ (rIxL _) _ _ _); refine do_ixL rfl ?_) | with_reducible refine do_catL ?_ ?_
  | with_reducible refine wd_tup ?_ | with_reducible refine wd_lst ?_ | with_reducible refine wt_test ?_ | with_reducible refine wt_B ?_ | with_reducible refine wt_not ?_ | with_reducible refine wt_and ?_ | with_reducible refine wt_or ?_ | with_reducible refine wd_ifE ?_ | with_reducible refine wd_andV ?_ | with_reducible refine wd_orV ?_ | with_reducible refine wd_notV ?_
  | with_reducible refine ws_seq ?_ | with_reducible refine ws_next ?_ | with_reducible refine ws_asg ?_ | with_reducible refine ws_ret ?_ | with_reducible refine ws_retN ?_ | with_reducible refine ws_if ?_ | with_reducible refine ws_par ?_ | with_reducible refine ws_unp2 ?_
  | with_reducible refine if_t ?_ | with_reducible refine if_f ?_
  | ((with_reducible show Exists _); first | refine ⟨_, rfl, ?_⟩ | refine ⟨_, _, rfl, ?_⟩ | fail) | fail))
def spMk (K : PySem.W.Frag) : Sp := fun vs H Q _ => ∃ (a0 : Addr) (ns : List Int), vs = [.ref a0] ∧ SqL K H a0 (ns.map V.int) ∧ ns.length ≤ 63 ∧
  ∀ S H', FSto S → S.ok H' 0 → (∀ b, S.fp b = true → H b = none) → Same H H' → Q (.ref S.a) H'
def t_s1 (K : PySem.W.Frag) : TS := (tAsg (tC (.int 271)) (gName 1))
def t_s2 (K : PySem.W.Frag) : TS := (tFor (iEnum K (tCons (tSl (rSlL K) (tVar 0) tNoPart (tPart (tC (.int 63)))) tNil)) (gTup K 2 (gCons (gName 2) (gCons (gName 3) gNil))) (tAsg (tOp rModI (tOp rAddI (tOp rAddI (tOp rMulI (tVar 1) (tVar 1)) (tOp rModI (tVar 3) (tC (.int 2147483629)))) (tOp rMulI (tC (.int 40009)) (tVar 2))) (tC (.int 2147483587))) (gName 1)))
def t_s3 (K : PySem.W.Frag) : TS := (tAsg (tLc (iList K (tSl (rSlL K) (tVar 0) tNoPart (tPart (tC (.int 63))))) (gName 3) (tTest (tOp rGe (tCB rAbsX (tCons (tVar 3) tNil)) (tOp rPowI (tC (.int 10)) (tC (.int 18))))) (tCB rAbsX (tCons (tVar 3) tNil)) [3]) (gName 4))
def t_s4 (K : PySem.W.Frag) : TS := (tAsg (tLc (iList K (tSl (rSlL K) (tVar 0) tNoPart (tPart (tC (.int 63))))) (gName 3) (tTest (tOp rLt (tCB rAbsX (tCons (tVar 3) tNil)) (tOp rPowI (tC (.int 10)) (tC (.int 18))))) (tCB rAbsX (tCons (tVar 3) tNil)) [3]) (gName 5))
def t_s5 (K : PySem.W.Frag) : TS := (tRet (tLst (tCons (tVar 4) (tCons (tVar 1) (tCons (tC (.int 0)) (tCons (tOp rCatL (tVar 5) (tLst (tCons (tC (.int 17)) tNil))) tNil))))))
def t_store (K : PySem.W.Frag) : TS := tSeq (t_s1 K) (tSeq (t_s2 K) (tSeq (t_s3 K) (tSeq (t_s4 K) (t_s5 K))))
section
variable {K : PySem.W.Frag} {S : Stt} {H0 : Hp} {N0 : Av} {Z : List Hd} {N : Av} {σ : L2.St} {H H' : Hp} {ρ : Rho} {Φ : PyData → Rho → Prop} {Ψ : PyData → Prop}
theorem cut63 (ns : List Int) : cutV (ns.map V.int) none (some 63) = (ns.take 63).map V.int := by
  have e : HT.sIx (ns.map V.int).length (ns.map V.int).length (some 63) = min 63 (ns.map V.int).length := HT.sIx_nat _ _ 63
  have e0 : HT.sIx (ns.map V.int).length 0 none = 0 := rfl
  unfold cutV
  rw [e0, e, List.drop_zero, Nat.sub_zero, List.map_take]
  rw [List.take_eq_take_iff]
  omega
theorem wd_cut {i : Nat} {ns : List Int} (h : ρ[i]? = some (.scr ns)) (f : Φ (.list ((ns.take 63).map PyData.int)) ρ) : WD K S (tSl (rSlL K) (tVar i) tNoPart (tPart (tC (.int 63)))) ρ Φ := fun H0 N0 Z N σ H E Q q => by
  obtain ⟨a, h1, h2⟩ := E.slot i _ h
  refine ⟨_, h1, 63, rfl, a, _, rfl, (Same.wo1).seq h2, fun p hp => ?_⟩
  rw [cut63]
  have s := same_new hp (.lst ((ns.take 63).map V.int))
  exact q _ _ ρ _ f (E.ext s) (Keep.of s) (Dq.lst (fresh_av E.trk hp) upd_same DqAll.ints)
/-- 1 -/
theorem ws_s1 {ns : List Int} {P : Rho → Prop} (f : P [.scr ns, .dat (.int 271), .unk, .unk, .unk, .unk]) : WS K S (t_s1 K) [.scr ns, .unk, .unk, .unk, .unk, .unk] { nx := P, rt := fun _ _ => False } := ws_asg (wd_int f)
theorem abs_eq (i : Int) : (if i < 0 then -i else i) = ((i.natAbs : Nat) : Int) := by
  split <;> omega
theorem ws_s2 {ns : List Int} {P : Rho → Prop} (f : ∀ (z : Int) s2 s3, 0 ≤ z → z < 2147483587 → P [.scr ns, .dat (.int z), s2, s3, .unk, .unk]) :
    WS K S (t_s2 K) [.scr ns, .dat (.int 271), .unk, .unk, .unk, .unk] { nx := P, rt := fun _ _ => False } := by
  refine ws_for (wi_enum (wa_cons (wd_cut rfl (wa_nil ⟨_, rfl, fun k ρ => ∃ (z : Int) (s2 s3 : Sl), ρ = [.scr ns, .dat (.int z), s2, s3, .unk, .unk] ∧ 0 ≤ z ∧ z < 2147483587, ⟨271, _, _, rfl, by decide, by decide⟩, ?_, ?_⟩))))
  · rintro k d ρ2 hd ⟨z, s2, s3, rfl, z0, z1⟩
    rw [List.getElem?_mapIdx] at hd
    obtain ⟨d0, hd0, rfl⟩ := Option.map_eq_some_iff.mp hd
    rw [List.getElem?_map] at hd0
    obtain ⟨x, hx, rfl⟩ := Option.map_eq_some_iff.mp hd0
    have hk : k < 63 := by
      have := (List.getElem?_eq_some_iff.mp hx).1
      rw [List.length_take] at this
      omega
    refine ⟨_, _, gd_pair, ?_⟩
    walk_at "dl"
    · exact wide_mul (a := 32) (b := 32) (by omega) (by omega) (by decide) (by decide) (by decide)
    · exact wide_mul (a := 20) (b := 20) (by decide) (by omega) (by decide) (by decide) (by decide)
    obtain ⟨b0, b1⟩ := fmod_nn (i := z * z + x.fmod 2147483629 + 40009 * (k : Int)) (j := 2147483587) (by decide)
    exact ⟨_, _, _, rfl, b0, b1⟩
  · rintro ρ2 ⟨z, s2, s3, rfl, z0, z1⟩
    exact f z s2 s3 z0 z1
theorem pow18 : (10 : Int) ^ (18 : Int).toNat = 10 ^ 18 := by decide
theorem ws_s3 {ns : List Int} {z : Int} {s2 s3 : Sl} {P : Rho → Prop} (f : ∀ g : List Int, g.length ≤ 63 → P [.scr ns, .dat (.int z), s2, .unk, .own (g.map PyData.int), .unk]) :
    WS K S (t_s3 K) [.scr ns, .dat (.int z), s2, s3, .unk, .unk] { nx := P, rt := fun _ _ => False } := by
  refine ws_lc (wi_list (wd_cut rfl ⟨_, rfl, ?_, fun k acc ρ => ∃ g : List Int, acc = g.map PyData.int ∧ g.length ≤ k ∧ ρ = [.scr ns, .dat (.int z), s2, .unk, .unk, .unk], ⟨[], rfl, Nat.le_refl _, rfl⟩, ?_, ?_⟩))
  · rw [List.length_map, List.length_take, sizeLine_eq]; omega
  · rintro k d acc ρ2 hd ⟨g, rfl, hg, rfl⟩
    rw [List.getElem?_map] at hd
    obtain ⟨x, hx, rfl⟩ := Option.map_eq_some_iff.mp hd
    refine ⟨_, _, gd_name, fun j hj => hj, ?_⟩
    walk_at "dl"
    with_reducible refine if_b (fun hlt => ?_) (fun _ => ?_)
    · refine wd_cb (wa_cons (wd_var rfl (wa_nil (dc_i1 (f := fun i => if i < 0 then -i else i) ?_))))
      exact ⟨g ++ [if x < 0 then -x else x], by simp, by simp; omega, rfl⟩
    · exact ⟨g, rfl, by omega, rfl⟩
  · rintro acc ρ2 ⟨g, rfl, hg, rfl⟩
    rw [List.length_map, List.length_take] at hg
    exact f g (by omega)
theorem ws_s4 {ns : List Int} {z : Int} {s2 s3 : Sl} {g : List Int} {P : Rho → Prop} (f : ∀ l : List Int, l.length ≤ 63 → (∀ x ∈ l, 0 ≤ x ∧ x < 10 ^ 18) → P [.scr ns, .dat (.int z), s2, .unk, .own (g.map PyData.int), .own (l.map PyData.int)]) :
    WS K S (t_s4 K) [.scr ns, .dat (.int z), s2, s3, .own (g.map PyData.int), .unk] { nx := P, rt := fun _ _ => False } := by
  refine ws_lc (wi_list (wd_cut rfl ⟨_, rfl, ?_, fun k acc ρ => ∃ l : List Int, acc = l.map PyData.int ∧ l.length ≤ k ∧ (∀ x ∈ l, 0 ≤ x ∧ x < 10 ^ 18) ∧ ρ = [.scr ns, .dat (.int z), s2, .unk, .own (g.map PyData.int), .unk], ⟨[], rfl, Nat.le_refl _, by simp, rfl⟩, ?_, ?_⟩))
  · rw [List.length_map, List.length_take, sizeLine_eq]; omega
  · rintro k d acc ρ2 hd ⟨l, rfl, hl, hx18, rfl⟩
    rw [List.getElem?_map] at hd
    obtain ⟨x, hx, rfl⟩ := Option.map_eq_some_iff.mp hd
    refine ⟨_, _, gd_name, fun j hj => hj, ?_⟩
    walk_at "dl"
    with_reducible refine if_b (fun hlt => ?_) (fun _ => ?_)
    · have hlt' : ((x.natAbs : Nat) : Int) < (10 : Int) ^ (18 : Int).toNat := hlt
      rw [pow18, ← abs_eq] at hlt'
      refine wd_cb (wa_cons (wd_var rfl (wa_nil (dc_i1 (f := fun i => if i < 0 then -i else i) ?_))))
      refine ⟨l ++ [if x < 0 then -x else x], by simp, by simp; omega, fun y hy => ?_, rfl⟩
      rcases List.mem_append.mp hy with h | h
      · exact hx18 y h
      · have : y = if x < 0 then -x else x := by simpa using h
        subst this
        refine ⟨?_, hlt'⟩
        split <;> omega
    · exact ⟨l, rfl, by omega, hx18, rfl⟩
  · rintro acc ρ2 ⟨l, rfl, hl, hx18, rfl⟩
    rw [List.length_map, List.length_take] at hl
    exact f l (by omega) hx18
/-- the last row: a new store -/
theorem s5_run {ns g l : List Int} {z : Int} {s2 s3 : Sl} {Q : VK} {nx : L2.St → Hp → Prop} (z0 : 0 ≤ z) (z1 : z < 2147483587) (hg : g.length ≤ 63) (hl : l.length ≤ 63) (hx : ∀ x ∈ l, 0 ≤ x ∧ x < 10 ^ 18)
    (E : EnvD K S0 H0 N0 Z N σ H [.scr ns, .dat (.int z), s2, s3, .own (g.map PyData.int), .own (l.map PyData.int)])
    (q : ∀ S H', FSto S → S.ok H' 0 → (∀ b, S.fp b = true → H0 b = none) → Same H0 H' → Q (.ref S.a) H') : t_s5 K { nx := nx, rt := Q } σ H := by
  obtain ⟨p4, xs4, a1, a2, a3, a4, a5, a6, a7⟩ := E.slot 4 _ rfl
  obtain ⟨p5, xs5, b1, b2, b3, b4, b5, b6, b7⟩ := E.slot 5 _ rfl
  obtain ⟨v1, c1, c2⟩ := E.slot 1 _ rfl
  cases c2
  obtain rfl := a7.of_ints
  obtain rfl := b7.of_ints
  have n45 : p4 ≠ p5 := fun e => by
    subst e
    exact absurd (E.inj 4 5 _ _ p4 rfl rfl a1 b1) (by decide)
  refine ⟨_, a1, _, c1, _, b1, ?_⟩
  refine ⟨by show 1 ≤ sizeLine; decide, fun p hp => ?_⟩
  have e1 := same_new hp (.lst [V.int 17])
  refine ⟨p5, p, _, _, rfl, rfl, .inl (e1 _ _ b6), .inl upd_same, by rw [List.length_map, sizeLine_eq]; simp; omega, fun la hla => ?_⟩
  have e2 := same_new hla (.lst (l.map V.int ++ [V.int 17]))
  refine ⟨by show 4 ≤ sizeLine; decide, fun a ha => ?_⟩
  have e3 := same_new ha (.lst [V.ref p4, .int z, .int 0, .ref la])
  have hp4 : upd (upd (upd H p (.lst [V.int 17])) la (.lst (l.map V.int ++ [V.int 17]))) a (.lst [V.ref p4, .int z, .int 0, .ref la]) p4 = some (.lst (g.map V.int)) := e3 _ _ (e2 _ _ (e1 _ _ a6))
  have hla' : upd (upd (upd H p (.lst [V.int 17])) la (.lst (l.map V.int ++ [V.int 17]))) a (.lst [V.ref p4, .int z, .int 0, .ref la]) la = some (.lst (l.map V.int ++ [V.int 17])) := e3 _ _ upd_same
  have ne1 : a ≠ p4 := fun e => by
    rw [e] at ha
    rw [e2 _ _ (e1 _ _ a6)] at ha
    cases ha
  have ne2 : a ≠ la := fun e => by
    rw [e] at ha
    rw [upd_same] at ha
    cases ha
  have ne3 : p4 ≠ la := fun e => by
    rw [← e] at hla
    rw [e1 _ _ a6] at hla
    cases hla
  have e123 : Same H (upd (upd (upd H p (.lst [V.int 17])) la (.lst (l.map V.int ++ [V.int 17]))) a (.lst [V.ref p4, .int z, .int 0, .ref la])) := (e1.trans e2).trans e3
  have back : ∀ b, (upd H p (.lst [V.int 17])) b = none → H0 b = none := fun b hb => by
    cases w : H0 b with
    | none => rfl
    | some o => rw [e1 _ _ (E.keep b o rfl w)] at hb; cases hb
  have back2 : (upd (upd H p (.lst [V.int 17])) la (.lst (l.map V.int ++ [V.int 17]))) a = none → H0 a = none := fun hb => by
    cases w : H0 a with
    | none => rfl
    | some o => rw [e2 _ _ (e1 _ _ (E.keep a o rfl w))] at hb; cases hb
  refine q (mkS a p4 la) _ ⟨a, p4, la, rfl⟩ ⟨ne1, ne2, ne3, g, l ++ [17], z, 0, upd_same, hp4, by rw [List.map_append]; exact hla', hg, by simp, by simp; omega, fun x hx' => ?_, z0, z1, by decide, by decide⟩ (fun b hb => ?_) (fun b o hb => e123 _ _ (E.keep b o rfl hb))
  · rcases List.mem_append.mp hx' with h | h
    · exact hx x h
    · have : x = 17 := by simpa using h
      subst this
      decide
  · have : (decide (b = a) || decide (b = p4) || decide (b = la)) = true := hb
    simp at this
    rcases this with (e | e) | e
    · rw [e]; exact back2 ha
    · rw [e]; exact a5
    · rw [e]; exact back _ hla
end
/-- the store is made -/
theorem store_run {K : PySem.W.Frag} {vs : List V} {H : Hp} {Q : VK} {E : XK} (h : spMk K vs H Q E) : t_store K { nx := fun _ H' => Q .non H', rt := Q } (L2.start ["script", "blend", "place", "cell", "great", "small"] vs) H := by
  obtain ⟨a0, ns, rfl, hs, hl, hQ⟩ := h
  have woF : ∀ G : Hp, wo (fun _ => false) G = G := fun G => by funext b; rfl
  have E0 : EnvD K S0 H (fun _ => false) [] (fun _ => false) [some (.ref a0), none, none, none, none, none] H [.scr ns, .unk, .unk, .unk, .unk, .unk] := {
    keep := fun _ _ _ h => h, base := Le.refl, trk := fun _ h => (nomatch h), sub := fun _ h => (nomatch h), len := rfl, hid := fun _ h => (nomatch h), injZ := fun i j di dj p h => by simp at h
    slot := fun i s h => by
      match i, h with
      | 0, h => cases h; exact ⟨a0, rfl, by rw [woF]; exact hs⟩
      | 1, h => cases h; trivial
      | 2, h => cases h; trivial
      | 3, h => cases h; trivial
      | 4, h => cases h; trivial
      | 5, h => cases h; trivial
    injH := fun i di dj p h1 h2 hz => by cases hz
    inj := fun i j di dj p h1 => by
      match i, h1 with
      | 0, h => cases h
      | 1, h => cases h
      | 2, h => cases h
      | 3, h => cases h
      | 4, h => cases h
      | 5, h => cases h }
  have mt : ∀ {P : Rho → Prop} {D : Ends}, (∀ N σ H' ρ, P ρ → EnvD K S0 H (fun _ => false) [] N σ H' ρ → D.nx σ H') → Meets K S0 H (fun _ => false) [] { nx := P, rt := fun _ _ => False } D := fun h => ⟨h, fun _ _ _ _ _ _ q => q.elim, fun _ _ _ _ q => q.elim, fun _ _ _ _ q => q.elim⟩
  show t_store K _ [some (.ref a0), none, none, none, none, none] H
  refine ws_s1 (P := fun ρ => ρ = [.scr ns, .dat (.int 271), .unk, .unk, .unk, .unk]) rfl _ _ _ _ _ _ _ E0 (mt fun N1 σ1 H1 ρ1 e1 E1 => ?_)
  subst e1
  refine ws_s2 (P := fun ρ => ∃ (z : Int) (s2 s3 : Sl), 0 ≤ z ∧ z < 2147483587 ∧ ρ = [.scr ns, .dat (.int z), s2, s3, .unk, .unk]) (fun z s2 s3 a b => ⟨z, s2, s3, a, b, rfl⟩) _ _ _ _ _ _ _ E1 (mt fun N2 σ2 H2 ρ2 ⟨z, s2, s3, z0, z1, e2⟩ E2 => ?_)
  subst e2
  refine ws_s3 (P := fun ρ => ∃ g : List Int, g.length ≤ 63 ∧ ρ = [.scr ns, .dat (.int z), s2, .unk, .own (g.map PyData.int), .unk]) (fun g a => ⟨g, a, rfl⟩) _ _ _ _ _ _ _ E2 (mt fun N3 σ3 H3 ρ3 ⟨g, hg, e3⟩ E3 => ?_)
  subst e3
  refine ws_s4 (P := fun ρ => ∃ l : List Int, l.length ≤ 63 ∧ (∀ x ∈ l, 0 ≤ x ∧ x < 10 ^ 18) ∧ ρ = [.scr ns, .dat (.int z), s2, .unk, .own (g.map PyData.int), .own (l.map PyData.int)]) (fun l a b => ⟨l, a, b, rfl⟩) _ _ _ _ _ _ _ E3 (mt fun N4 σ4 H4 ρ4 ⟨l, hl4, hx, e4⟩ E4 => ?_)
  subst e4
  exact s5_run z0 z1 hg hl4 hx E4 hQ
end DL

set_option Elab.async false
set_option linter.all false
set_option maxRecDepth 100000
set_option maxHeartbeats 4000000
/-! DLT: types of data -/
namespace DL
open PySem PySem.Spec PyProof.Rows L2
def tyD : PyData → String
  | .none => "NoneType"
  | .bool _ => "bool"
  | .int _ => "int"
  | .str _ => "str"
  | .list _ => "list"
  | .tuple _ => "tuple"
  | .dict _ => "dict"
abbrev rIsTyX : R2 := fun x y H Q => ∃ a b, x = .ty a ∧ y = .ty b ∧ Q (.bl (decide (a = b))) H
section
variable {K : PySem.W.Frag} {S : Stt} {H0 : Hp} {N0 : Av} {Z : List Hd} {N : Av} {σ : L2.St} {H H' : Hp} {ρ : Rho} {Φ : PyData → Rho → Prop} {Ψ : PyData → Prop}
theorem dt_tyX {v : V} {d : PyData} (h : Dt K H v d) : TyX K H v (.type (tyD d)) := by
  cases h with
  | non => exact .base .non
  | bl b => exact .base (.bl b)
  | int i => exact .base (.int i)
  | str x => exact .base (.str x)
  | lst h t =>
    rcases h with h | ⟨o, h⟩
    · exact .base (.lst h)
    · exact .base (.frz h)
  | tup h t =>
    rcases h with (h | ⟨o, h⟩) | ⟨o, its, n, hk, hc, _⟩
    · exact .base (.tup h)
    · exact .fTuple h
    · exact .kTuple hk hc
  | dct h => exact .base (.dK h)
theorem dt_tyB {v : V} {d : PyData} (h : Dt K H v d) : TyB K H v (tyD d) := by
  cases h with
  | non => exact .non
  | bl b => exact .bl b
  | int i => exact .int i
  | str x => exact .str x
  | lst h t => exact .lst (.inl h)
  | tup h t => exact .tup h
  | dct h => exact .dK h
/-- isinstance(x, T) -/
theorem wd_isi {te : TE} {T : String} (h : WD K S te ρ fun d ρ1 => ∃ b, kitB (tyD d) T = some b ∧ Φ (.bool b) ρ1) : WD K S (tCB (rIsi K) (tCons te (tCons (tC (.ty T)) tNil))) ρ Φ := fun H0 N0 Z N σ H E Q q =>
  h H0 N0 Z N σ H E _ fun v d ρ1 H1 ⟨b, e, f⟩ E1 k1 d1 => ⟨v, .ty T, .type (tyD d), .type T, b, rfl, .ty T, dt_tyX d1.dt, kit_ty e, q _ _ ρ1 H1 f E1 k1 (Dt.bl b)⟩
/-- type(x) is T -/
theorem wd_isTy {te : TE} {T : String} (h : WD K S te ρ fun d ρ1 => Φ (.bool (decide (tyD d = T))) ρ1) : WD K S (tOp rIsTyX (tCB (rTyp K) (tCons te tNil)) (tC (.ty T))) ρ Φ := fun H0 N0 Z N σ H E Q q =>
  h H0 N0 Z N σ H E _ fun v d ρ1 H1 f E1 k1 d1 => ⟨v, tyD d, rfl, dt_tyB d1.dt, _, _, rfl, rfl, q _ _ ρ1 H1 f E1 k1 (Dt.bl _)⟩
def tyNames : List String := ["NoneType", "bool", "int", "str", "list", "tuple", "dict"]
end
end DL

set_option Elab.async false
set_option linter.all false
set_option maxRecDepth 100000
set_option maxHeartbeats 4000000
/-! DLP: parts in the laws' own hands -/
namespace DL
open PySem PySem.Spec PyProof.Rows L2
local macro_rules | `(tactic| walk_at "dl") => `(tactic| repeat' (first
  | with_reducible refine wd_isTy ?_ | with_reducible refine wd_isi ?_ | with_reducible refine wd_op ?_ | with_reducible refine wd_cb ?_ | with_reducible refine wd_un ?_ | with_reducible refine wa_cons ?_ | with_reducible refine wa_nil ?_ | ((with_reducible show WD _ _ (tVar _) _ _); refine wd_var rfl ?_) | with_reducible refine wd_int ?_ | with_reducible refine wd_bl ?_ | with_reducible refine wd_str ?_ | with_reducible refine wd_non ?_
  | with_reducible refine do_add ?_ | with_reducible refine do_sub ?_ | ((with_reducible refine do_mod ?_ ?_); decide) | with_reducible refine do_mod ?_ ?_ | with_reducible refine do_mul ?_ ?_ | ((with_reducible refine do_div ?_ ?_); exact ⟨by decide, by decide⟩) | with_reducible refine do_div ?_ ?_ | ((with_reducible refine do_pow ?_ ?_); exact ⟨by decide, by decide, by decide⟩) | with_reducible refine do_pow ?_ ?_
  | with_reducible refine do_lt ?_ | with_reducible refine do_le ?_ | with_reducible refine do_gt ?_ | with_reducible refine do_ge ?_ | with_reducible refine du_neg ?_
  | with_reducible refine do_eqi ?_ | with_reducible refine do_nei ?_ | with_reducible refine do_eqs ?_ | with_reducible refine do_nes ?_ | with_reducible refine dc_abs ?_ | with_reducible refine dc_min ?_ | with_reducible refine dc_max ?_ | with_reducible refine dc_lenL ?_ | with_reducible refine dc_lenT ?_ | with_reducible refine dc_gcd ?_
  | ((with_reducible show DO _ (rIxT _) _ _ _); refine do_ixT rfl ?_) | ((with_reducible show DO _ (rIxL _) _ _ _); refine do_ixL rfl ?_) | with_reducible refine do_catL ?_ ?_
  | with_reducible refine wd_dnew ?_ | with_reducible refine wd_call0 ?_ | with_reducible refine dc_str ?_ ?_ | with_reducible refine wd_tup ?_ | with_reducible refine wd_lst ?_ | with_reducible refine wt_test ?_ | with_reducible refine wt_B ?_ | with_reducible refine wt_not ?_ | with_reducible refine wt_and ?_ | with_reducible refine wt_or ?_ | with_reducible refine wd_ifE ?_ | with_reducible refine wd_andV ?_ | with_reducible refine wd_orV ?_ | with_reducible refine wd_notV ?_
  | with_reducible refine ws_seq ?_ | with_reducible refine ws_next ?_ | with_reducible refine ws_asg ?_ | with_reducible refine ws_ret ?_ | with_reducible refine ws_retN ?_ | with_reducible refine ws_if ?_ | with_reducible refine ws_par ?_ | with_reducible refine ws_unp2 ?_
  | with_reducible refine if_t ?_ | with_reducible refine if_f ?_ | with_reducible refine if_nf ?_ | with_reducible refine if_nt ?_
  | ((with_reducible show Exists _); first | refine ⟨_, kitInt _, ?_⟩ | refine ⟨_, kitBool _, ?_⟩ | refine ⟨_, kitTup _, ?_⟩ | refine ⟨_, kitList _, ?_⟩ | refine ⟨_, rfl, ?_⟩ | refine ⟨_, _, rfl, ?_⟩ | fail) | fail))

/-! ### lowest terms -/
/-- a by b, b not nought, in lowest terms -/
def nrm (a b : Int) : Int × Int := ((if 0 < b then a else -a) / ((Nat.gcd a.natAbs b.natAbs : Nat) : Int), ((b.natAbs : Nat) : Int) / ((Nat.gcd a.natAbs b.natAbs : Nat) : Int))
def pr (x : Int × Int) : PyData := .tuple [.int x.1, .int x.2]
theorem gcd_pos {a b : Int} (h : b ≠ 0) : 0 < Nat.gcd a.natAbs b.natAbs := Nat.gcd_pos_of_pos_right _ (by omega)
/-- the promise of a maker of parts -/
def TPart : List PyData → (PyData → Prop) → Prop := fun ds Φ => ∃ a b : Int, ds = [.int a, .int b] ∧ b ≠ 0 ∧ a.natAbs < 2 ^ 8000 ∧ b.natAbs < 2 ^ 8000 ∧ Φ (pr (nrm a b))
def t_law_part (K : PySem.W.Frag) : TS :=
  (tSeq (tPar 2 3 (tCons (tCB rAbsX (tCons (tVar 0) tNil)) (tCons (tCB rAbsX (tCons (tVar 1) tNil)) tNil)))
    (tSeq (tWhile (tTest (tOp rGt (tVar 3) (tC (.int 0)))) (tPar 2 3 (tCons (tVar 3) (tCons (tOp rModI (tVar 2) (tVar 3)) tNil))))
    (tSeq (tAsg (tIf (tTest (tOp rGt (tVar 1) (tC (.int 0)))) (tC (.int 1)) (tUn rNegI (tC (.int 1)))) (gName 4))
    (tRet (tTup (tCons (tOp rDivI (tOp rMulI (tVar 4) (tVar 0)) (tVar 2)) (tCons (tOp rDivI (tCB rAbsX (tCons (tVar 1) tNil)) (tVar 2)) tNil)))))))


theorem log2_of {i : Int} {k : Nat} (h : i.natAbs < 2 ^ k) (hk : 0 < k) : i.natAbs.log2 < k := PySem.Flt.log2_lt_of hk h
theorem natAbs_gcd_le (a b : Int) (h : b ≠ 0) : Nat.gcd a.natAbs b.natAbs ≤ b.natAbs := Nat.gcd_le_right _ (by omega)
theorem euclid_step (x y : Int) (hx : 0 ≤ x) (hy : 0 < y) : Nat.gcd y.natAbs (x.fmod y).natAbs = Nat.gcd x.natAbs y.natAbs := by
  have e : (x.fmod y).natAbs = x.natAbs % y.natAbs := by
    rw [Int.fmod_eq_emod_of_nonneg x (by omega)]
    have : ((x % y).natAbs : Int) = ((x.natAbs % y.natAbs : Nat) : Int) := by
      rw [Int.natCast_emod]
      have h1 : ((x.natAbs : Nat) : Int) = x := by omega
      have h2 : ((y.natAbs : Nat) : Int) = y := by omega
      rw [h1, h2]
      have := Int.emod_nonneg x (show y ≠ 0 by omega)
      omega
    exact_mod_cast this
  rw [e, Nat.gcd_comm y.natAbs (x.natAbs % y.natAbs), ← Nat.gcd_rec y.natAbs x.natAbs, Nat.gcd_comm]
theorem ws_lpart {K : PySem.W.Frag} {ds : List PyData} {Φ : PyData → Prop} (h : TPart ds Φ) : WS K S0 (t_law_part K) (rhoOf 5 ds) { nx := fun _ => Φ .none, rt := fun d _ => Φ d } := by
  obtain ⟨a, b, rfl, hb, ha8, hb8, hΦ⟩ := h
  show WS K S0 (t_law_part K) [.dat (.int a), .dat (.int b), .unk, .unk, .unk] _
  unfold t_law_part
  walk_at "dl"
  refine ws_while (fun m ρ => ∃ x y : Int, ρ = [.dat (.int a), .dat (.int b), .dat (.int x), .dat (.int y), .unk] ∧ 0 ≤ x ∧ 0 ≤ y ∧ m = y.natAbs ∧ Nat.gcd x.natAbs y.natAbs = Nat.gcd a.natAbs b.natAbs) b.natAbs ⟨_, _, rfl, by omega, by omega, by omega, by simp⟩ ?_
  rintro m ρ1 ⟨x, y, rfl, hx, hy, rfl, hg⟩
  walk_at "dl"
  refine if_b (fun hpos => ?_) (fun hz => ?_)
  · walk_at "dl"
    · omega
    · obtain ⟨z1, z2⟩ := fmod_nn (i := x) (j := y) hpos
      exact ⟨(x.fmod y).natAbs, by omega, _, _, rfl, by omega, z1, rfl, (euclid_step x y hx hpos).trans hg⟩
  · have y0 : y = 0 := by omega
    subst y0
    have gx : x.natAbs = Nat.gcd a.natAbs b.natAbs := by simpa using hg
    have gp := gcd_pos (a := a) hb
    have gl := natAbs_gcd_le a b hb
    have ex : x = ((Nat.gcd a.natAbs b.natAbs : Nat) : Int) := by omega
    have x8 : x.natAbs.log2 < 9000 := by
      have := log2_of (i := x) (k := 8000) (by omega) (by decide)
      omega
    have fin : ∀ s : Int, s * a = (if 0 < b then a else -a) → Φ (.tuple [.int ((s * a).fdiv x), .int (((b.natAbs : Nat) : Int).fdiv x)]) := by
      intro s hs
      have e1 : (s * a).fdiv x = (nrm a b).1 := by
        rw [hs, Int.fdiv_eq_ediv_of_nonneg _ (by omega), ex]; rfl
      have e2 : ((b.natAbs : Nat) : Int).fdiv x = (nrm a b).2 := by
        rw [Int.fdiv_eq_ediv_of_nonneg _ (by omega), ex]; rfl
      rw [e1, e2]
      exact hΦ
    have xd : ∀ i : Int, CDivX i x := fun i => ⟨by omega, x8⟩
    walk_at "dl"
    with_reducible refine if_b (fun hp => ?_) (fun hn => ?_)
    · walk_at "dl"
      · exact wide_mul (a := 2) (b := 8000) (by decide) ha8 (by decide) (by decide) (by decide)
      · exact xd _
      · exact xd _
      · exact ⟨by show 2 ≤ sizeLine; decide, fin 1 (by rw [if_pos hp]; omega)⟩
    · walk_at "dl"
      · exact wide_mul (a := 2) (b := 8000) (by decide) ha8 (by decide) (by decide) (by decide)
      · exact xd _
      · exact xd _
      · exact ⟨by show 2 ≤ sizeLine; decide, fin (-1) (by rw [if_neg hn]; omega)⟩
/-! ### about lowest terms -/
/-- what is in lowest terms stays -/
theorem nrm_self {a b : Int} (hb : 1 ≤ b) (hg : Nat.gcd a.natAbs b.natAbs = 1) : nrm a b = (a, b) := by
  unfold nrm
  rw [hg, if_pos (by omega)]
  have : ((b.natAbs : Nat) : Int) = b := by omega
  simp [this]
end DL

set_option Elab.async false
set_option linter.all false
set_option maxRecDepth 100000
set_option maxHeartbeats 4000000
/-! DLS: what the laws draw -/
namespace DL
open PySem PySem.Spec PyProof.Rows L2
local macro_rules | `(tactic| walk_at "dl") => `(tactic| repeat' (first
  | with_reducible refine wd_isTy ?_ | with_reducible refine wd_isi ?_ | with_reducible refine wd_op ?_ | with_reducible refine wd_cb ?_ | with_reducible refine wd_un ?_ | with_reducible refine wa_cons ?_ | with_reducible refine wa_nil ?_ | ((with_reducible show WD _ _ (tVar _) _ _); refine wd_var rfl ?_) | with_reducible refine wd_int ?_ | with_reducible refine wd_bl ?_ | with_reducible refine wd_str ?_ | with_reducible refine wd_non ?_
  | with_reducible refine do_add ?_ | with_reducible refine do_sub ?_ | ((with_reducible refine do_mod ?_ ?_); decide) | with_reducible refine do_mod ?_ ?_ | with_reducible refine do_mul ?_ ?_ | ((with_reducible refine do_div ?_ ?_); exact ⟨by decide, by decide⟩) | with_reducible refine do_div ?_ ?_ | ((with_reducible refine do_pow ?_ ?_); exact ⟨by decide, by decide, by decide⟩) | with_reducible refine do_pow ?_ ?_
  | with_reducible refine do_lt ?_ | with_reducible refine do_le ?_ | with_reducible refine do_gt ?_ | with_reducible refine do_ge ?_ | with_reducible refine du_neg ?_
  | with_reducible refine do_eqi ?_ | with_reducible refine do_nei ?_ | with_reducible refine do_eqs ?_ | with_reducible refine do_nes ?_ | with_reducible refine dc_abs ?_ | with_reducible refine dc_min ?_ | with_reducible refine dc_max ?_ | with_reducible refine dc_lenL ?_ | with_reducible refine dc_lenT ?_ | with_reducible refine dc_gcd ?_
  | ((with_reducible show DO _ (rIxT _) _ _ _); refine do_ixT rfl ?_) | ((with_reducible show DO _ (rIxL _) _ _ _); refine do_ixL rfl ?_) | with_reducible refine do_catL ?_ ?_
  | with_reducible refine wd_dnew ?_ | with_reducible refine wd_call0 ?_ | with_reducible refine dc_str ?_ ?_ | with_reducible refine wd_tup ?_ | with_reducible refine wd_lst ?_ | with_reducible refine wt_test ?_ | with_reducible refine wt_B ?_ | with_reducible refine wt_not ?_ | with_reducible refine wt_and ?_ | with_reducible refine wt_or ?_ | with_reducible refine wd_ifE ?_ | with_reducible refine wd_andV ?_ | with_reducible refine wd_orV ?_ | with_reducible refine wd_notV ?_
  | with_reducible refine ws_seq ?_ | with_reducible refine ws_next ?_ | with_reducible refine ws_asg ?_ | with_reducible refine ws_ret ?_ | with_reducible refine ws_retN ?_ | with_reducible refine ws_if ?_ | with_reducible refine ws_par ?_ | with_reducible refine ws_unp2 ?_
  | with_reducible refine if_t ?_ | with_reducible refine if_f ?_ | with_reducible refine if_nf ?_ | with_reducible refine if_nt ?_
  | ((with_reducible show Exists _); first | refine ⟨_, kitInt _, ?_⟩ | refine ⟨_, kitBool _, ?_⟩ | refine ⟨_, kitTup _, ?_⟩ | refine ⟨_, kitList _, ?_⟩ | refine ⟨_, rfl, ?_⟩ | refine ⟨_, _, rfl, ?_⟩ | fail) | fail))

abbrev TDr := TDraw 400 (2 ^ 1899) (2 ^ 40)
section
variable {K : PySem.W.Frag} {S : Stt} {ρ : Rho} {Φ : PyData → Rho → Prop} {Ψ : PyData → Prop}
/-- a draw below what is reckoned -/
theorem wd_draw {i : Nat} {B0 : Nat} {te : TE} (hF : FSto S) (hi : ρ[i]? = some (.sto B0)) (h : WD K S te ρ fun d ρ1 => ∃ (m : Int) (B : Nat), d = .int m ∧ ρ1[i]? = some (.sto B) ∧ 1 ≤ m ∧ m ≤ 2 ^ 1899 ∧ B ≤ 2 ^ 40 ∧ ∀ z : Int, 0 ≤ z → z < m → Φ (.int z) (stoAll (B + 400) ρ1)) :
    WD K S (tCall (spS K FSto TDr) [] E0 (tCons (tVar i) (tCons te tNil))) ρ Φ := by
  refine wd_callS hF hi (wa_cons (WD.imp h fun d ρ1 ⟨m, B, e, hB, m1, m2, b, f⟩ => wa_nil ⟨B, hB, m, by rw [e], m1, m2, b, f⟩))
/-- .. below a written number -/
theorem wd_drawc {i : Nat} {B : Nat} {m : Int} (hF : FSto S) (hi : ρ[i]? = some (.sto B)) (m1 : 1 ≤ m) (m2 : m ≤ 2 ^ 1899) (hB : B ≤ 2 ^ 40) (f : ∀ z : Int, 0 ≤ z → z < m → Φ (.int z) (stoAll (B + 400) ρ)) :
    WD K S (tCall (spS K FSto TDr) [] E0 (tCons (tVar i) (tCons (tC (.int m)) tNil))) ρ Φ := wd_draw hF hi (wd_int ⟨m, B, rfl, hi, m1, m2, hB, f⟩)
theorem atI_of {ds : List PyData} {z : Int} (h0 : 0 ≤ z) (h1 : z < ds.length) : ∃ d, atI ds z = some d ∧ d ∈ ds := by
  obtain ⟨j, rfl⟩ : ∃ j : Nat, z = j := ⟨z.toNat, by omega⟩
  have hj : j < ds.length := by omega
  exact ⟨ds[j], atI_nat (List.getElem?_eq_getElem hj), List.getElem_mem hj⟩
/-- any item of a list, by a place in it -/
theorem do_ixL_any {ds : List PyData} {z : Int} (h0 : 0 ≤ z) (h1 : z < ds.length) (h : ∀ d ∈ ds, Ψ d) : DO K (rIxL K) (.list ds) (.int z) Ψ := by
  obtain ⟨d, e, hm⟩ := atI_of h0 h1
  exact do_ixL e (h d hm)
theorem do_ixL_int {ds : List PyData} {ns : List Int} {z : Int} {P : Int → Prop} (e : ds = ns.map PyData.int) (h0 : 0 ≤ z) (h1 : z < ns.length) (hp : ∀ n ∈ ns, P n) (h : ∀ n, P n → Ψ (.int n)) : DO K (rIxL K) (.list ds) (.int z) Ψ := by
  subst e
  refine do_ixL_any h0 (by rw [List.length_map]; exact h1) fun d hd => ?_
  obtain ⟨n, hn, rfl⟩ := List.mem_map.mp hd
  exact h n (hp n hn)
end
/-- a small part -/
structure PIn (n d : Int) : Prop where
  d1 : 1 ≤ d
  d2 : d ≤ 1000
  n1 : n.natAbs ≤ 10 ^ 6
  g : Nat.gcd n.natAbs d.natAbs = 1
def TSmall : Nat → List PyData → (PyData → Nat → Prop) → Prop := fun B ds Φ => ds = [] ∧ B + 3200 ≤ 2 ^ 40 ∧ ∀ n d : Int, PIn n d → Φ (pr (n, d)) (B + 3200)
def t_law_small (K : PySem.W.Frag) : TS :=
  (tSeq (tAsg (tCall (spS K FSto TDr) [] E0 (tCons (tVar 0) (tCons (tC (.int 6)) tNil))) (gName 1))
    (tSeq (tAsg (tOp (rIxL K) (tLst (tCons (tC (.int 1)) (tCons (tC (.int 1)) (tCons (tC (.int 2)) (tCons (tC (.int 3)) (tCons (tC (.int 4)) (tCons (tC (.int 12)) (tCons (tC (.int 97)) (tCons (tC (.int 101)) (tCons (tC (.int 997)) (tCons (tC (.int 1000)) (tCons (tOp rAddI (tC (.int 1)) (tCall (spS K FSto TDr) [] E0 (tCons (tVar 0) (tCons (tC (.int 1000)) tNil)))) tNil)))))))))))) (tCall (spS K FSto TDr) [] E0 (tCons (tVar 0) (tCons (tC (.int 11)) tNil)))) (gName 2))
    (tSeq (tAsg (tLst (tCons (tC (.int 0)) (tCons (tC (.int 1)) (tCons (tOp rAddI (tC (.int 1)) (tCall (spS K FSto TDr) [] E0 (tCons (tVar 0) (tCons (tC (.int 9)) tNil)))) (tCons (tCall (spS K FSto TDr) [] E0 (tCons (tVar 0) (tCons (tC (.int 1000)) tNil))) (tCons (tOp rSubI (tOp rPowI (tC (.int 10)) (tC (.int 6))) (tCall (spS K FSto TDr) [] E0 (tCons (tVar 0) (tCons (tC (.int 3)) tNil)))) tNil)))))) (gName 3))
    (tSeq (tAsg (tOp (rIxL K) (tOp rCatL (tVar 3) (tLst (tCons (tCall (spS K FSto TDr) [] E0 (tCons (tVar 0) (tCons (tOp rPowI (tC (.int 10)) (tC (.int 6))) tNil))) tNil))) (tVar 1)) (gName 3))
    (tRet (tCall (spP K TPart) [] E0 (tCons (tOp rMulI (tVar 3) (tOp (rIxL K) (tLst (tCons (tC (.int 1)) (tCons (tUn rNegI (tC (.int 1))) tNil))) (tCall (spS K FSto TDr) [] E0 (tCons (tVar 0) (tCons (tC (.int 2)) tNil))))) (tCons (tVar 2) tNil))))))))


theorem pow6 : (10 : Int) ^ (6 : Int).toNat = 1000000 := by decide +kernel
theorem big1899 : (1000000 : Int) ≤ 2 ^ 1899 := by decide +kernel
/-! ### the law's own run -/
def spLaw (K : PySem.W.Frag) : Sp := fun vs H Q _ => ∃ (a : Addr) (ns : List Int), vs = [.ref a] ∧ SqL K H a (ns.map V.int) ∧ ns.length ≤ 63 ∧ ∀ H', Q (.bl true) H'
theorem run_law {K : PySem.W.Frag} {n : Nat} {Nm : List Str} {rest : TS} {vs : List V} {H : Hp} {Q : VK} {E : XK} (hn : Nm.length = n + 2) (h : spLaw K vs H Q E)
    (b : ∀ S ns, FSto S → ns.length ≤ 63 → WS K S rest (.scr ns :: .sto 0 :: List.replicate n .unk) { nx := fun _ => False, rt := fun d _ => d = .bool true }) :
    tSeq (tAsg (tCall (spMk K) [] E0 (tCons (tVar 0) tNil)) (gName 1)) rest { nx := fun _ H' => Q .non H', rt := Q } (L2.start Nm vs) H := by
  obtain ⟨a, ns, rfl, hs, hl, hQ⟩ := h
  have e0 : L2.start Nm [V.ref a] = some (.ref a) :: none :: List.replicate n none := by
    show [some (V.ref a)] ++ List.replicate (Nm.length - 1) none = _
    rw [hn, show n + 2 - 1 = n + 1 by omega, List.replicate_succ]
    rfl
  rw [e0]
  refine ⟨_, rfl, ?_⟩
  refine ⟨a, ns, rfl, hs, hl, fun S H' hF hok hfp sm => ?_⟩
  have sw : Same H (wo S.fp H') := fun c o hc => by
    have : S.fp c = false := by
      cases z : S.fp c with
      | false => rfl
      | true => rw [hfp c z] at hc; cases hc
    rw [wo_in this]
    exact sm c o hc
  have rep : ∀ {i : Nat} {s : Sl}, (List.replicate n Sl.unk)[i]? = some s → s = .unk := fun {i s} h => by
    rw [List.getElem?_replicate] at h
    split at h
    · exact (Option.some.inj h).symm
    · cases h
  have E1 : EnvD K S (fun _ => none) (fun _ => false) [] S.fp (some (V.ref a) :: some (V.ref S.a) :: List.replicate n none) H' (.scr ns :: .sto 0 :: List.replicate n .unk) := {
    keep := fun _ _ _ h => (nomatch h), base := fun _ h => (nomatch h), trk := fun c hc => S.trk H' 0 hok c hc, sub := Le.refl, len := by simp, hid := fun _ h => (nomatch h), injZ := fun i j di dj p h => by simp at h
    slot := fun i s h => by
      match i, h with
      | 0, h => cases h; exact ⟨a, rfl, sw.seq hs⟩
      | 1, h => cases h; exact ⟨rfl, hok⟩
      | i + 2, h =>
        have e : s = .unk := rep (i := i) (by simpa using h)
        subst e
        trivial
    injH := fun i di dj p h1 h2 hz => by cases hz
    inj := fun i j di dj p h1 => by
      match i, h1 with
      | 0, h => cases h
      | 1, h => cases h
      | i + 2, h =>
        have e : Sl.own di = .unk := rep (i := i) (by simpa using h)
        cases e }
  refine b S ns hF hl _ _ _ _ _ _ _ E1 ⟨fun _ _ _ _ q => q.elim, fun N' σ' H2 ρ' v d q E2 dv => ?_, fun _ _ _ _ q => q.elim, fun _ _ _ _ q => q.elim⟩
  have q' : d = .bool true := q
  subst q'
  have e : v = .bl true := dv.bool_inv
  subst e
  exact hQ H2
theorem wd_dnew {K : PySem.W.Frag} {S : Stt} {ρ : Rho} {Φ : PyData → Rho → Prop} (f : Φ (.dict []) ρ) : WD K S tDNewK ρ Φ := fun H0 N0 Z N σ H E Q q p hp => by
  have s := same_new hp (.dK [])
  refine q (.ref p) _ ρ _ f (E.ext s) (Keep.of s) (Dt.dct ?_)
  rw [wo_in (fresh_av E.trk hp)]
  exact upd_same
end DL

set_option Elab.async false
set_option linter.all false
set_option maxRecDepth 100000
set_option maxHeartbeats 2000000
namespace DL
open PySem PySem.Spec PyProof.Rows L2
/-! ### the head: facts of defs, and names that stand for a function of math -/
abbrev AlG : Type := He.AlD × Bool
def bltB (K : PySem.W.Frag) (bs : List (Str × String)) : Bool := bs.all fun p => He.eqO (PySem.W.nsIn K mainGlobals p.1) (some (some (.builtin p.2)))
def obsM (n : Nat) (fa : List He.Fa) (fn : List He.DefD) (bs : List (Str × String)) (g : Addr → Option Obj) : AlG := (He.obsDG n fa fn g, bltB (He.frG g (He.asD g n)) bs)
def hookM (n : Nat) (fa : List He.Fa) (fn : List He.DefD) (bs : List (Str × String)) : PySem.W.Hook where
  α := AlG
  obs := fun s => obsM n fa fn bs s.heap.get?
  val := fun _ => (He.valD fn, true)
  says := fun _ h => ∃ K : PySem.W.Frag, K.In h ∧ He.SaysD fa fn K ∧ bltB K bs = true
  of := fun _ _ e => ⟨_, He.frG_in, congrArg Prod.fst e, congrArg Prod.snd e⟩
  keeps := fun _ _ _ ⟨K, hK, c⟩ k => ⟨K, PySem.W.Frag.In.keeps hK k, c⟩
theorem blt_ok {K : PySem.W.Frag} {h : Heap} {mg : Str → Option Value} {bs : List (Str × String)} (X : K.In h) (G : h.Ns mainGlobals mg) (c : bltB K bs = true) {x : Str} {b : String} (hm : (x, b) ∈ bs) : mg x = some (.builtin b) :=
  PySem.W.mg_of X G (He.eqO_ok (List.all_eq_true.mp c _ hm))
/-- by names, of a def without defaults -/
theorem kbN {K : PySem.W.Frag} {x qual : Str} {params : Arguments} {body : List Stmt} {scope : Scope} {kws : List (Str × V)} {f : Addr} {fd : FuncData} {ps : List Str} (F : FunD K x qual params body scope [] kws f fd) (n : Nat) (ks : List Str) (g : {α : Type} → List α → List α → List α)
    (hrel : ∀ {vs zs : List V} {us ws : List Value}, Vals vs us → Vals zs ws → Vals (g vs zs) (g us ws))
    (h : ∀ (kV doc pm : Value) (an : Option Addr) (cdv ct : Value) (us ws : List Value), us.length = n → ws.length = ks.length → bindArgs (PySem.W.fnOf x qual params body scope .none kV doc pm an cdv ct) ⟨us, ks.zip ws⟩ = pure (ps.zip (g us ws))) :
    KBn K fd ps n ks (fun us ws => g us ws) (fun vs zs => g vs zs) := by
  obtain ⟨oc, od, dV, kV, doc, pm, an, cdv, ct, osl, rfl, lk, hcd, hD, hK⟩ := F.ex
  rcases hD with ⟨_, rfl⟩ | ⟨e, _⟩
  · exact ⟨fun s us ws _ l1 l2 => .of_eq (h kV doc pm an cdv ct us ws l1 l2), fun r1 r2 => hrel r1 r2⟩
  · exact absurd rfl e
/-- a promise of nothing: for a call that is never made -/
def spNo : Sp := fun _ _ _ _ => False
section
variable {P : Program} {w : World} {K : PySem.W.Frag} {mg : Str → Option Value} {base : Heap}
theorem fn_no {x ql : Str} {prm : Arguments} {bd : List Stmt} {sc : Scope} {dvs : List V} {kws : List (Str × V)} {f : Addr} {fd : FuncData} {Nm ps : List Str} (F : FunD K x ql prm bd sc dvs kws f fd) (S : FnScope Nm ps sc) : FnOk P w K mg base CX0 1 f fd ps spNo :=
  F.ok S (fun _ _ _ _ h => h.elim) fun _ _ _ _ _ _ _ _ _ h => h.elim
theorem has_of {x : Str} {k : Nat} {ps : List Str} {sp : Sp} {f : Addr} {fd : FuncData} (F : FnOk P w K mg base CX0 k f fd ps sp) (hm : mg x = some (.ref f)) (hk : PySem.W.keepIn K (.ref f) = true) (hb : Binds K fd ps []) : Has P w K mg base CX0 x k ps sp [] := ⟨f, fd, [], F, hm, hk, hb, .nil⟩
theorem hasK_of {x : Str} {k n : Nat} {ps ks : List Str} {sp : Sp} {gV : List V → List V → List V} {g : List Value → List Value → List Value} {f : Addr} {fd : FuncData} (F : FnOk P w K mg base CX0 k f fd ps sp) (hm : mg x = some (.ref f)) (hk : PySem.W.keepIn K (.ref f) = true) (hb : KBn K fd ps n ks g gV) : HasK P w K mg base CX0 x k ps sp n ks gV := ⟨f, fd, g, F, hm, hk, hb⟩
end
theorem spP_len {K : PySem.W.Frag} {T : List PyData → (PyData → Prop) → Prop} {n : Nat} (hT : ∀ ds Φ, T ds Φ → ds.length = n) {vs : List V} {H : Hp} {Q : VK} {E : XK} (h : spP K T vs H Q E) : vs.length = n := by
  obtain ⟨N, ds, Φ, _, hd, t, _⟩ := h
  exact hd.len.trans (hT ds Φ t)
theorem spS_len {K : PySem.W.Frag} {F : Stt → Prop} {T : Nat → List PyData → (PyData → Nat → Prop) → Prop} {n : Nat} (hT : ∀ B ds Φ, T B ds Φ → ds.length = n) {vs : List V} {H : Hp} {Q : VK} {E : XK} (h : spS K F T vs H Q E) : vs.length = n + 1 := by
  obtain ⟨S, N, us, ds, B, Φ, rfl, _, _, _, _, hd, t, _⟩ := h
  have e := hd.len.trans (hT B ds Φ t)
  simp [e]
end DL

set_option Elab.async false
set_option linter.all false
set_option maxRecDepth 100000
set_option maxHeartbeats 4000000
/-! DLA: parts reckoned -/
namespace DL
open PySem PySem.Spec PyProof.Rows L2
local macro_rules | `(tactic| walk_at "dl") => `(tactic| repeat' (first
  | with_reducible refine wd_isTy ?_ | with_reducible refine wd_isi ?_ | with_reducible refine wd_op ?_ | ((with_reducible show WD _ _ (tCB (rLenX _) (tCons (tVar _) tNil)) _ _); refine wd_len_scr rfl ?_) | with_reducible refine wd_cb ?_ | with_reducible refine wd_un ?_ | with_reducible refine wa_cons ?_ | with_reducible refine wa_nil ?_ | ((with_reducible show WD _ _ (tVar _) _ _); refine wd_var rfl ?_) | with_reducible refine wd_int ?_ | with_reducible refine wd_bl ?_ | with_reducible refine wd_str ?_ | with_reducible refine wd_non ?_
  | with_reducible refine do_add ?_ | with_reducible refine do_sub ?_ | ((with_reducible refine do_mod ?_ ?_); decide) | with_reducible refine do_mod ?_ ?_ | with_reducible refine do_mul ?_ ?_ | ((with_reducible refine do_div ?_ ?_); exact ⟨by decide, by decide⟩) | with_reducible refine do_div ?_ ?_ | ((with_reducible refine do_pow ?_ ?_); exact ⟨by decide, by decide, by decide⟩) | with_reducible refine do_pow ?_ ?_
  | with_reducible refine do_lt ?_ | with_reducible refine do_le ?_ | with_reducible refine do_gt ?_ | with_reducible refine do_ge ?_ | with_reducible refine du_neg ?_
  | with_reducible refine do_eqi ?_ | with_reducible refine do_nei ?_ | with_reducible refine do_eqs ?_ | with_reducible refine do_nes ?_ | with_reducible refine dc_abs ?_ | with_reducible refine dc_min ?_ | with_reducible refine dc_max ?_ | with_reducible refine dc_lenL ?_ | with_reducible refine dc_lenT ?_ | with_reducible refine dc_gcd ?_
  | ((with_reducible show DO _ (rIxT _) _ _ _); refine do_ixT rfl ?_) | ((with_reducible show DO _ (rIxL _) _ _ _); refine do_ixL rfl ?_) | ((with_reducible refine do_catL ?_ ?_); exact Nat.le_of_ble_eq_true rfl) | with_reducible refine do_catL ?_ ?_ | ((with_reducible show And (List.length _ ≤ sizeLine) _); refine ⟨Nat.le_of_ble_eq_true rfl, ?_⟩)
  | with_reducible refine wd_dnew ?_ | with_reducible refine wd_call0 ?_ | with_reducible refine dc_str ?_ ?_ | with_reducible refine wd_tup ?_ | with_reducible refine wd_lst ?_ | with_reducible refine wt_test ?_ | with_reducible refine wt_B ?_ | with_reducible refine wt_not ?_ | with_reducible refine wt_and ?_ | with_reducible refine wt_or ?_ | with_reducible refine wd_ifE ?_ | with_reducible refine wd_andV ?_ | with_reducible refine wd_orV ?_ | with_reducible refine wd_notV ?_
  | with_reducible refine ws_seq ?_ | with_reducible refine ws_next ?_ | with_reducible refine ws_asg ?_ | with_reducible refine ws_ret ?_ | with_reducible refine ws_retN ?_ | with_reducible refine ws_if ?_ | with_reducible refine ws_par ?_ | with_reducible refine ws_unp2 ?_
  | with_reducible refine if_t ?_ | with_reducible refine if_f ?_ | with_reducible refine if_nf ?_ | with_reducible refine if_nt ?_
  | ((with_reducible show Exists _); first | refine ⟨_, kitInt _, ?_⟩ | refine ⟨_, kitBool _, ?_⟩ | refine ⟨_, kitTup _, ?_⟩ | refine ⟨_, kitList _, ?_⟩ | refine ⟨_, rfl, ?_⟩ | refine ⟨_, _, rfl, ?_⟩ | fail) | fail))
/-! ### what is never reached -/
def tNo : TS := fun _ _ _ => False
def tNoE : TE := fun _ _ _ => False
theorem ps_no {X : Cx} {st : Stmt} : PS X st tNo := ⟨fun _ _ _ _ _ _ h => h.elim⟩
/-! ### a maker of parts -/
def t_part (K : PySem.W.Frag) : TS :=
  (tSeq (tIfS (tTest (tOp rEq (tVar 1) (tC (.int 0)))) tNo tNext)
    (tSeq (tAsg (tCB rGcd (tCons (tVar 0) (tCons (tVar 1) tNil))) (gName 2))
    (tSeq (tIfS (tTest (tOp rLt (tVar 1) (tC (.int 0)))) (tAsg (tUn rNegI (tVar 2)) (gName 2)) tNext)
    (tRet (tTup (tCons (tOp rDivI (tVar 0) (tVar 2)) (tCons (tOp rDivI (tVar 1) (tVar 2)) tNil)))))))
theorem nrm_pos {a b : Int} (hb : 0 < b) : (nrm a b) = (a.fdiv (Nat.gcd a.natAbs b.natAbs : Nat), b.fdiv (Nat.gcd a.natAbs b.natAbs : Nat)) := by
  unfold nrm
  have : ((b.natAbs : Nat) : Int) = b := by omega
  rw [if_pos hb, this, Int.fdiv_eq_ediv_of_nonneg _ (by omega), Int.fdiv_eq_ediv_of_nonneg _ (by omega)]
theorem fdiv_neg_dvd {x g : Int} (hg : g ≠ 0) (h : g ∣ x) : x.fdiv (-g) = (-x) / g := by
  obtain ⟨k, rfl⟩ := h
  have e1 : g * k = (-g) * (-k) := by rw [Int.neg_mul_neg]
  have e2 : -(g * k) = g * (-k) := by rw [Int.mul_neg]
  rw [e2, Int.mul_ediv_cancel_left _ hg, e1, Int.mul_fdiv_cancel_left _ (by omega)]
theorem nrm_neg {a b : Int} (hb : b < 0) : (nrm a b) = (a.fdiv (-(Nat.gcd a.natAbs b.natAbs : Nat)), b.fdiv (-(Nat.gcd a.natAbs b.natAbs : Nat))) := by
  have gp := gcd_pos (a := a) (b := b) (by omega)
  have d1 : ((Nat.gcd a.natAbs b.natAbs : Nat) : Int) ∣ a := Int.ofNat_dvd_left.mpr (Nat.gcd_dvd_left _ _)
  have d2 : ((Nat.gcd a.natAbs b.natAbs : Nat) : Int) ∣ b := Int.ofNat_dvd_left.mpr (Nat.gcd_dvd_right _ _)
  unfold nrm
  have : ((b.natAbs : Nat) : Int) = -b := by omega
  rw [if_neg (by omega), this, fdiv_neg_dvd (by omega) d1, fdiv_neg_dvd (by omega) d2]
theorem ws_part {K : PySem.W.Frag} {ds : List PyData} {Φ : PyData → Prop} (h : TPart ds Φ) : WS K S0 (t_part K) (rhoOf 3 ds) { nx := fun _ => Φ .none, rt := fun d _ => Φ d } := by
  obtain ⟨a, b, rfl, hb, ha8, hb8, hΦ⟩ := h
  show WS K S0 (t_part K) [.dat (.int a), .dat (.int b), .unk] _
  unfold t_part
  walk_at "dl"
  refine if_b (fun h => absurd h hb) (fun _ => ?_)
  have gp := gcd_pos (a := a) hb
  have gl := natAbs_gcd_le a b hb
  have x8 : (((Nat.gcd a.natAbs b.natAbs : Nat) : Int)).natAbs.log2 < 9000 := by
    have := log2_of (i := ((Nat.gcd a.natAbs b.natAbs : Nat) : Int)) (k := 8000) (by omega) (by decide)
    omega
  have y8 : (-((Nat.gcd a.natAbs b.natAbs : Nat) : Int)).natAbs.log2 < 9000 := by
    rw [Int.natAbs_neg]; exact x8
  walk_at "dl"
  refine if_b (fun hn => ?_) (fun hp => ?_)
  · walk_at "dl"
    · exact ⟨by omega, y8⟩
    · exact ⟨by omega, y8⟩
    · have e := nrm_neg (a := a) hn
      rw [e] at hΦ
      exact hΦ
  · walk_at "dl"
    · exact ⟨by omega, x8⟩
    · exact ⟨by omega, x8⟩
    · have e := nrm_pos (a := a) (b := b) (by omega)
      rw [e] at hΦ
      exact hΦ
theorem eqv_pr2 (a b c d : Int) : PyData.eqv (pr (a, b)) (pr (c, d)) = (decide (a = c) && decide (b = d)) := by
  show ((a == c) && ((b == d) && true)) = _
  rw [Bool.and_true]
  by_cases h1 : a = c <;> by_cases h2 : b = d <;> simp [h1, h2]
theorem sh_pr2 (x : Int × Int) : SeqAt.shaped (pr x) = true := by
  simp [pr, SeqAt.shaped, PyData.canLay0, PyData.canLayAll0, PyData.depth, PyData.depthAll]
section
variable {K : PySem.W.Frag} {Ψ : PyData → Prop}
theorem do_neb {i j : Bool} (h : Ψ (.bool (!decide (i = j)))) : DO K rNe (.bool i) (.bool j) Ψ := fun N H _ u w hu hw Q q => by
  cases hu; cases hw
  refine ⟨rfl, ?_⟩
  have e : decide (V.bl i = V.bl j) = decide (i = j) := by
    by_cases e : i = j
    · subst e; simp
    · rw [decide_eq_false e, decide_eq_false (fun z => e (V.bl.inj z))]
  rw [e]
  exact q _ _ H h (Same.refl H) (Dt.bl _)
end
/-! ### what is reckoned of two -/
structure Wd4 (a b c d : Int) : Prop where
  a : a.natAbs < 2 ^ 3900
  b : b.natAbs < 2 ^ 3900
  c : c.natAbs < 2 ^ 3900
  d : d.natAbs < 2 ^ 3900
theorem Wd4.mul {i j : Int} (hi : i.natAbs < 2 ^ 3900) (hj : j.natAbs < 2 ^ 3900) : CMulW i j := wide_mul hi hj (by decide) (by decide) (by decide)
theorem lt78 {i j : Int} (hi : i.natAbs < 2 ^ 3900) (hj : j.natAbs < 2 ^ 3900) : (i * j).natAbs < 2 ^ 7800 := wide_lt (a := 3900) (b := 3900) hi hj
theorem le80 : (2 : Nat) ^ 7800 + 2 ^ 7800 ≤ 2 ^ 8000 := by decide +kernel
theorem lt80 {i j : Int} (hi : i.natAbs < 2 ^ 3900) (hj : j.natAbs < 2 ^ 3900) : (i * j).natAbs < 2 ^ 8000 := by
  have := lt78 hi hj; have := le80; omega
theorem add80 {x y : Int} (hx : x.natAbs < 2 ^ 7800) (hy : y.natAbs < 2 ^ 7800) : (x + y).natAbs < 2 ^ 8000 := by
  have := le80; omega
theorem sub80 {x y : Int} (hx : x.natAbs < 2 ^ 7800) (hy : y.natAbs < 2 ^ 7800) : (x - y).natAbs < 2 ^ 8000 := by
  have := le80; omega
def T2 (P : Int → Int → Int → Int → Prop) (f : Int → Int → Int → Int → PyData) : List PyData → (PyData → Prop) → Prop := fun ds Φ => ∃ a b c d : Int, ds = [pr (a, b), pr (c, d)] ∧ Wd4 a b c d ∧ P a b c d ∧ Φ (f a b c d)
abbrev PBD : Int → Int → Int → Int → Prop := fun _ b _ d => b ≠ 0 ∧ d ≠ 0
abbrev TPlus := T2 PBD fun a b c d => pr (nrm (a * d + c * b) (b * d))
abbrev TLess := T2 PBD fun a b c d => pr (nrm (a * d - c * b) (b * d))
abbrev TTimes := T2 PBD fun a b c d => pr (nrm (a * c) (b * d))
abbrev TOver := T2 (fun _ b c _ => b ≠ 0 ∧ c ≠ 0) fun a b c d => pr (nrm (a * d) (b * c))
abbrev TUnder := T2 (fun _ _ _ _ => True) fun a b c d => .bool (decide (a * d < c * b))
def T1 (f : Int → Int → PyData) : List PyData → (PyData → Prop) → Prop := fun ds Φ => ∃ a b : Int, ds = [pr (a, b)] ∧ b ≠ 0 ∧ b.natAbs < 2 ^ 3900 ∧ Φ (f a b)
abbrev TFloor := T1 fun a b => .int (a.fdiv b)
abbrev TCeil := T1 fun a b => .int (-((-a).fdiv b))
def t_plus (K : PySem.W.Frag) : TS :=
  (tRet (tCall (spP K TPart) [] E0 (tCons (tOp rAddI (tOp rMulI (tOp (rIxT K) (tVar 0) (tC (.int 0))) (tOp (rIxT K) (tVar 1) (tC (.int 1)))) (tOp rMulI (tOp (rIxT K) (tVar 1) (tC (.int 0))) (tOp (rIxT K) (tVar 0) (tC (.int 1))))) (tCons (tOp rMulI (tOp (rIxT K) (tVar 0) (tC (.int 1))) (tOp (rIxT K) (tVar 1) (tC (.int 1)))) tNil))))
def t_less (K : PySem.W.Frag) : TS :=
  (tRet (tCall (spP K TPart) [] E0 (tCons (tOp rSubI (tOp rMulI (tOp (rIxT K) (tVar 0) (tC (.int 0))) (tOp (rIxT K) (tVar 1) (tC (.int 1)))) (tOp rMulI (tOp (rIxT K) (tVar 1) (tC (.int 0))) (tOp (rIxT K) (tVar 0) (tC (.int 1))))) (tCons (tOp rMulI (tOp (rIxT K) (tVar 0) (tC (.int 1))) (tOp (rIxT K) (tVar 1) (tC (.int 1)))) tNil))))
def t_times (K : PySem.W.Frag) : TS :=
  (tRet (tCall (spP K TPart) [] E0 (tCons (tOp rMulI (tOp (rIxT K) (tVar 0) (tC (.int 0))) (tOp (rIxT K) (tVar 1) (tC (.int 0)))) (tCons (tOp rMulI (tOp (rIxT K) (tVar 0) (tC (.int 1))) (tOp (rIxT K) (tVar 1) (tC (.int 1)))) tNil))))
def t_over (K : PySem.W.Frag) : TS :=
  (tRet (tCall (spP K TPart) [] E0 (tCons (tOp rMulI (tOp (rIxT K) (tVar 0) (tC (.int 0))) (tOp (rIxT K) (tVar 1) (tC (.int 1)))) (tCons (tOp rMulI (tOp (rIxT K) (tVar 0) (tC (.int 1))) (tOp (rIxT K) (tVar 1) (tC (.int 0)))) tNil))))
def t_is_less (K : PySem.W.Frag) : TS :=
  (tRet (tOp rLt (tOp rMulI (tOp (rIxT K) (tVar 0) (tC (.int 0))) (tOp (rIxT K) (tVar 1) (tC (.int 1)))) (tOp rMulI (tOp (rIxT K) (tVar 1) (tC (.int 0))) (tOp (rIxT K) (tVar 0) (tC (.int 1))))))
def t_floor (K : PySem.W.Frag) : TS :=
  (tRet (tOp rDivI (tOp (rIxT K) (tVar 0) (tC (.int 0))) (tOp (rIxT K) (tVar 0) (tC (.int 1)))))
def t_ceiling (K : PySem.W.Frag) : TS :=
  (tRet (tUn rNegI (tOp rDivI (tUn rNegI (tOp (rIxT K) (tVar 0) (tC (.int 0)))) (tOp (rIxT K) (tVar 0) (tC (.int 1))))))
section
variable {K : PySem.W.Frag} {ds : List PyData} {Φ : PyData → Prop}
theorem cdiv39 {x b : Int} (h0 : b ≠ 0) (h : b.natAbs < 2 ^ 3900) : CDivX x b := ⟨h0, by have := log2_of (i := b) (k := 3900) h (by decide); omega⟩
end
end DL

set_option Elab.async false
set_option linter.all false
set_option maxRecDepth 100000
set_option maxHeartbeats 4000000
/-! DLR: how long the texts of data are -/
namespace DL
open PySem PySem.Spec PyProof.Rows L2
theorem textFrom_le : ∀ (ts : List Str) (k : Nat) (acc : Str), (textFrom k acc ts).length ≤ acc.length + piled ts
  | [], _, acc => Nat.le_add_right _ _
  | t :: r, k, acc => by
    have ih := textFrom_le r (k + 1) (acc ++ (if k > 0 then ", " else "" : String) ++ t)
    have e : (acc ++ (if k > 0 then ", " else "" : String) ++ t).length ≤ acc.length + 2 + t.length := by
      rw [strLen_append, strLen_append]
      have : ((Str.ofString (if k > 0 then ", " else "" : String))).length ≤ 2 := by split <;> decide
      omega
    rw [piled_cons]
    exact Nat.le_trans ih (by omega)
theorem piled_le {m : Nat} : ∀ ts : List Str, (∀ t ∈ ts, t.length ≤ m) → piled ts ≤ ts.length * (m + 2)
  | [], _ => by simp [piled]
  | t :: r, h => by
    rw [piled_cons, List.length_cons, Nat.succ_mul]
    have := h t (List.mem_cons_self ..)
    have := piled_le r fun t ht => h t (List.mem_cons_of_mem _ ht)
    omega
theorem shownAll_mem : ∀ (xs : List PyData) (t : Str), t ∈ PyData.shownAll xs → ∃ x ∈ xs, t = x.shown
  | [], t, h => by simp [PyData.shownAll] at h
  | x :: xs, t, h => by
    rcases List.mem_cons.mp (show t ∈ x.shown :: PyData.shownAll xs from h) with e | h
    · exact ⟨x, List.mem_cons_self .., e⟩
    · obtain ⟨y, hy, e⟩ := shownAll_mem xs t h
      exact ⟨y, List.mem_cons_of_mem _ hy, e⟩
theorem shownAll_len : ∀ xs : List PyData, (PyData.shownAll xs).length = xs.length
  | [] => rfl
  | x :: xs => by show (PyData.shownAll xs).length + 1 = _; rw [shownAll_len xs]; rfl
/-- what may be shown within a row -/
structure Rp (d : PyData) : Prop where
  s : d.showable = true
  h : d.hasDict = false
  l : d.shown.length ≤ 5000
  d : d.depth ≤ 10
theorem showableAll_of : ∀ xs : List PyData, (∀ x ∈ xs, x.showable = true) → PyData.showableAll xs = true
  | [], _ => rfl
  | x :: xs, h => by
    show (x.showable && PyData.showableAll xs) = true
    rw [h x (List.mem_cons_self ..), showableAll_of xs fun y hy => h y (List.mem_cons_of_mem _ hy)]; rfl
theorem hasDictAll_of : ∀ xs : List PyData, (∀ x ∈ xs, x.hasDict = false) → PyData.hasDictAll xs = false
  | [], _ => rfl
  | x :: xs, h => by
    show (x.hasDict || PyData.hasDictAll xs) = false
    rw [h x (List.mem_cons_self ..), hasDictAll_of xs fun y hy => h y (List.mem_cons_of_mem _ hy)]; rfl
theorem depthAll_of {n : Nat} : ∀ xs : List PyData, (∀ x ∈ xs, x.depth ≤ n) → PyData.depthAll xs ≤ n
  | [], _ => Nat.zero_le _
  | x :: xs, h => by
    show max x.depth (PyData.depthAll xs) ≤ n
    exact Nat.max_le.mpr ⟨h x (List.mem_cons_self ..), depthAll_of xs fun y hy => h y (List.mem_cons_of_mem _ hy)⟩
theorem listText_le {m n : Nat} {xs : List PyData} (h : ∀ x ∈ xs, x.shown.length ≤ m) (hn : xs.length ≤ n) : (PyData.list xs).shown.length ≤ 2 + n * (m + 2) := by
  show (textFrom 0 "[" (PyData.shownAll xs) ++ ("]" : String) : Str).length ≤ _
  rw [strLen_append]
  have h1 := textFrom_le (PyData.shownAll xs) 0 "["
  have h2 := piled_le (m := m) (PyData.shownAll xs) fun t ht => by
    obtain ⟨x, hx, rfl⟩ := shownAll_mem xs t ht
    exact h x hx
  rw [shownAll_len] at h2
  have h3 : xs.length * (m + 2) ≤ n * (m + 2) := Nat.mul_le_mul_right _ hn
  have e1 : (Str.ofString "[").length = 1 := by decide
  have e2 : (Str.ofString "]").length = 1 := by decide
  rw [e1] at h1
  rw [e2]
  omega
section
variable {K : PySem.W.Frag} {Ψ : PyData → Prop}
end
end DL

set_option Elab.async false
set_option linter.all false
set_option maxRecDepth 100000
set_option maxHeartbeats 4000000
namespace DL
open PySem PySem.Spec PyProof.Rows L2
local macro_rules | `(tactic| walk_at "dl") => `(tactic| repeat' (first
  | with_reducible refine wd_isTy ?_ | with_reducible refine wd_isi ?_ | with_reducible refine wd_op ?_ | ((with_reducible show WD _ _ (tCB (rLenX _) (tCons (tVar _) tNil)) _ _); refine wd_len_scr rfl ?_) | with_reducible refine wd_cb ?_ | with_reducible refine wd_un ?_ | with_reducible refine wa_cons ?_ | with_reducible refine wa_nil ?_ | ((with_reducible show WD _ _ (tVar _) _ _); refine wd_var rfl ?_) | with_reducible refine wd_int ?_ | with_reducible refine wd_bl ?_ | with_reducible refine wd_str ?_ | with_reducible refine wd_non ?_
  | with_reducible refine do_add ?_ | with_reducible refine do_sub ?_ | ((with_reducible refine do_mod ?_ ?_); decide) | with_reducible refine do_mod ?_ ?_ | with_reducible refine do_mul ?_ ?_ | ((with_reducible refine do_div ?_ ?_); exact ⟨by decide, by decide⟩) | with_reducible refine do_div ?_ ?_ | ((with_reducible refine do_pow ?_ ?_); exact ⟨by decide, by decide, by decide⟩) | with_reducible refine do_pow ?_ ?_
  | with_reducible refine do_lt ?_ | with_reducible refine do_le ?_ | with_reducible refine do_gt ?_ | with_reducible refine do_ge ?_ | with_reducible refine du_neg ?_
  | with_reducible refine do_eqi ?_ | with_reducible refine do_nei ?_ | with_reducible refine do_eqs ?_ | with_reducible refine do_nes ?_ | with_reducible refine dc_abs ?_ | with_reducible refine dc_min ?_ | with_reducible refine dc_max ?_ | with_reducible refine dc_lenL ?_ | with_reducible refine dc_lenT ?_ | with_reducible refine dc_gcd ?_
  | ((with_reducible show DO _ (rIxT _) _ _ _); refine do_ixT rfl ?_) | ((with_reducible show DO _ (rIxL _) _ _ _); refine do_ixL rfl ?_) | ((with_reducible refine do_catL ?_ ?_); exact Nat.le_of_ble_eq_true rfl) | with_reducible refine do_catL ?_ ?_ | ((with_reducible show And (List.length _ ≤ sizeLine) _); refine ⟨Nat.le_of_ble_eq_true rfl, ?_⟩)
  | with_reducible refine wd_dnew ?_ | with_reducible refine wd_call0 ?_ | with_reducible refine dc_str ?_ ?_ | with_reducible refine wd_tup ?_ | with_reducible refine wd_lst ?_ | with_reducible refine wt_test ?_ | with_reducible refine wt_B ?_ | with_reducible refine wt_not ?_ | with_reducible refine wt_and ?_ | with_reducible refine wt_or ?_ | with_reducible refine wd_ifE ?_ | with_reducible refine wd_andV ?_ | with_reducible refine wd_orV ?_ | with_reducible refine wd_notV ?_
  | with_reducible refine ws_seq ?_ | with_reducible refine ws_next ?_ | with_reducible refine ws_asg ?_ | with_reducible refine ws_ret ?_ | with_reducible refine ws_retN ?_ | with_reducible refine ws_if ?_ | with_reducible refine ws_par ?_ | with_reducible refine ws_unp2 ?_
  | with_reducible refine if_t ?_ | with_reducible refine if_f ?_ | with_reducible refine if_nf ?_ | with_reducible refine if_nt ?_
  | ((with_reducible show Exists _); first | refine ⟨_, kitInt _, ?_⟩ | refine ⟨_, kitBool _, ?_⟩ | refine ⟨_, kitTup _, ?_⟩ | refine ⟨_, kitList _, ?_⟩ | refine ⟨_, rfl, ?_⟩ | refine ⟨_, _, rfl, ?_⟩ | fail) | fail))
/-! ### a list so many times, locked or not -/
def rRepL : R2 := fun x y H Q => ∃ a k xs, x = .ref a ∧ y = .int k ∧ Rd H a (.lst xs) ∧ (-(2 ^ 63) ≤ k ∧ k < 2 ^ 63) ∧ xs.length * k.toNat ≤ sizeLine ∧ ∀ p, H p = none → Q (.ref p) (upd H p (.lst (List.replicate k.toNat xs).flatten))
end DL

set_option Elab.async false
set_option linter.all false
set_option maxRecDepth 100000
set_option maxHeartbeats 4000000
/-! DLX: what is refused, and caught -/
namespace DL
open PySem PySem.Spec PyProof.Rows L2
abbrev rNotNone : R2 := fun x y H Q => y = .non ∧ Q (.bl (!decide (x = .non))) H
abbrev rIsNone : R2 := fun x y H Q => y = .non ∧ Q (.bl (decide (x = .non))) H
/-- refused with the class at C, of nought beneath -/
def TPartX (C : Addr) : List PyData → (PyData → Prop) → (Addr → Prop) → Prop := fun ds _ Ψ => ∃ a : Int, ds = [.int a, .int 0] ∧ Ψ C
def TOverX (C : Addr) : List PyData → (PyData → Prop) → (Addr → Prop) → Prop := fun ds _ Ψ => ∃ a b d : Int, ds = [pr (a, b), pr (0, d)] ∧ Wd4 a b 0 d ∧ Ψ C
def t_partX (C : Addr) (E : XK) : TS := tSeq (tIfS (tTest (tOp rEq (tVar 1) (tC (.int 0)))) (fun _ σ H => E (.ref C) none H) tNext) tNo
def t_overX (K : PySem.W.Frag) (C : Addr) (E : XK) : TS :=
  (tRet (tCall (spX K (TPartX C)) [] E (tCons (tOp rMulI (tOp (rIxT K) (tVar 0) (tC (.int 0))) (tOp (rIxT K) (tVar 1) (tC (.int 1)))) (tCons (tOp rMulI (tOp (rIxT K) (tVar 0) (tC (.int 1))) (tOp (rIxT K) (tVar 1) (tC (.int 0)))) tNil))))
local macro_rules | `(tactic| walk_at "dl") => `(tactic| repeat' (first
  | with_reducible refine wd_isTy ?_ | with_reducible refine wd_isi ?_ | with_reducible refine wd_op ?_ | ((with_reducible show WD _ _ (tCB (rLenX _) (tCons (tVar _) tNil)) _ _); refine wd_len_scr rfl ?_) | with_reducible refine wd_cb ?_ | with_reducible refine wd_un ?_ | with_reducible refine wa_cons ?_ | with_reducible refine wa_nil ?_ | ((with_reducible show WD _ _ (tVar _) _ _); refine wd_var rfl ?_) | with_reducible refine wd_int ?_ | with_reducible refine wd_bl ?_ | with_reducible refine wd_str ?_ | with_reducible refine wd_non ?_
  | with_reducible refine do_add ?_ | with_reducible refine do_sub ?_ | ((with_reducible refine do_mod ?_ ?_); decide) | with_reducible refine do_mod ?_ ?_ | with_reducible refine do_mul ?_ ?_ | ((with_reducible refine do_div ?_ ?_); exact ⟨by decide, by decide⟩) | with_reducible refine do_div ?_ ?_ | ((with_reducible refine do_pow ?_ ?_); exact ⟨by decide, by decide, by decide⟩) | with_reducible refine do_pow ?_ ?_
  | with_reducible refine do_lt ?_ | with_reducible refine do_le ?_ | with_reducible refine do_gt ?_ | with_reducible refine do_ge ?_ | with_reducible refine du_neg ?_
  | with_reducible refine do_eqi ?_ | with_reducible refine do_nei ?_ | with_reducible refine do_eqs ?_ | with_reducible refine do_nes ?_ | with_reducible refine dc_abs ?_ | with_reducible refine dc_min ?_ | with_reducible refine dc_max ?_ | with_reducible refine dc_lenL ?_ | with_reducible refine dc_lenT ?_ | with_reducible refine dc_gcd ?_
  | ((with_reducible show DO _ (rIxT _) _ _ _); refine do_ixT rfl ?_) | ((with_reducible show DO _ (rIxL _) _ _ _); refine do_ixL rfl ?_) | ((with_reducible refine do_catL ?_ ?_); exact Nat.le_of_ble_eq_true rfl) | with_reducible refine do_catL ?_ ?_ | ((with_reducible show And (List.length _ ≤ sizeLine) _); refine ⟨Nat.le_of_ble_eq_true rfl, ?_⟩)
  | with_reducible refine wd_dnew ?_ | with_reducible refine wd_call0 ?_ | with_reducible refine dc_str ?_ ?_ | with_reducible refine wd_tup ?_ | with_reducible refine wd_lst ?_ | with_reducible refine wt_test ?_ | with_reducible refine wt_B ?_ | with_reducible refine wt_not ?_ | with_reducible refine wt_and ?_ | with_reducible refine wt_or ?_ | with_reducible refine wd_ifE ?_ | with_reducible refine wd_andV ?_ | with_reducible refine wd_orV ?_ | with_reducible refine wd_notV ?_
  | with_reducible refine ws_seq ?_ | with_reducible refine ws_next ?_ | with_reducible refine ws_asg ?_ | with_reducible refine ws_ret ?_ | with_reducible refine ws_retN ?_ | with_reducible refine ws_if ?_ | with_reducible refine ws_par ?_ | with_reducible refine ws_unp2 ?_
  | with_reducible refine if_t ?_ | with_reducible refine if_f ?_ | with_reducible refine if_nf ?_ | with_reducible refine if_nt ?_
  | ((with_reducible show Exists _); first | refine ⟨_, kitInt _, ?_⟩ | refine ⟨_, kitBool _, ?_⟩ | refine ⟨_, kitTup _, ?_⟩ | refine ⟨_, kitList _, ?_⟩ | refine ⟨_, rfl, ?_⟩ | refine ⟨_, _, rfl, ?_⟩ | fail) | fail))
/-! ### the two ways of the judge of quotients -/
structure Gd (e : Nat) (a b : Int) : Prop where
  p : 1 ≤ b
  b : b.natAbs < 2 ^ e
  a : a.natAbs < 2 ^ e
def TRight2 : List PyData → (PyData → Prop) → Prop := fun ds Φ => ∃ a b c d : Int, ds = [pr (a, b), pr (c, d)] ∧ Gd 1500 a b ∧ Gd 1500 c d ∧ Φ (.bool true)
def TRight1 : List PyData → (PyData → Prop) → Prop := fun ds Φ => ∃ a b : Int, ds = [pr (a, b)] ∧ Gd 1500 a b ∧ Φ (.bool true)
def ts_or (a : Addr) (_ : Value) (_ : Option Addr) : TS := tAsg (tVar 4) (gName 2)
def tb_or (K : PySem.W.Frag) (C : Addr) (W : WX) : TS := tAsg (tLst (tCons (tCallS (spX K (TOverX C)) (WE W) (tCons (tVar 0) (tCons (tVar 1) tNil))) (tCons tNoE tNil))) (gName 3)
def t_orZ (K : PySem.W.Frag) (C : Addr) : TS :=
  (tSeq (tAsg (tC .non) (gName 2))
    (tSeq (tAsg (tC .non) (gName 3))
    (tSeq (fun D σ H => tb_or K C (wAs K (.ref C) 4 ts_or (fun _ _ _ _ => False) D) D σ H)
    (tSeq (tIfS (tTest (tOp rEq (tOp (rIxT K) (tVar 1) (tC (.int 0))) (tC (.int 0)))) (tRet (tOp rNotNone (tVar 2) (tC .non))) tNext)
    tNo))))
end DL

set_option Elab.async false
set_option linter.all false
set_option maxRecDepth 100000
set_option maxHeartbeats 4000000
namespace DL
open PySem PySem.Spec PyProof.Rows L2
/-! ### the head: facts of one's own, too -/
def obsX (n : Nat) (fa : List He.Fa) (fn : List He.DefD) (ex : PySem.W.Frag → Bool) (g : Addr → Option Obj) : AlG := (He.obsDG n fa fn g, ex (He.frG g (He.asD g n)))
def hookX (n : Nat) (fa : List He.Fa) (fn : List He.DefD) (ex : PySem.W.Frag → Bool) : PySem.W.Hook where
  α := AlG
  obs := fun s => obsX n fa fn ex s.heap.get?
  val := fun _ => (He.valD fn, true)
  says := fun _ h => ∃ K : PySem.W.Frag, K.In h ∧ He.SaysD fa fn K ∧ ex K = true
  of := fun _ _ e => ⟨_, He.frG_in, congrArg Prod.fst e, congrArg Prod.snd e⟩
  keeps := fun _ _ _ ⟨K, hK, c⟩ k => ⟨K, PySem.W.Frag.In.keeps hK k, c⟩
theorem obsX_eq {n : Nat} {fa : List He.Fa} {fn : List He.DefD} {ex : PySem.W.Frag → Bool} {g : Addr → Option Obj} {s : Shared} (h : ∀ a, g a = s.heap.get? a) : obsX n fa fn ex g = (hookX n fa fn ex).obs s := by
  have e : g = s.heap.get? := funext h
  rw [e] <;> rfl
/-- a class of one's own right under ZeroDivisionError -/
abbrev zdBase : List Value := [.type "ZeroDivisionError", .type "ArithmeticError", .type "Exception", .type "BaseException", .type "object"]
structure ExcZ (K : PySem.W.Frag) (C : Addr) : Prop where
  q : PySem.W.excIn K C zdBase "ZeroDivisionError.__new__" = true
  k : PySem.W.keepIn K (.ref C) = true
  s : PySem.W.subIn K (.ref C) (.type "BaseException") = some true
  t : PySem.W.typeIn K (.ref C) = some (.type "type")
  m : PySem.W.exmOne K (.ref C) (.ref C) = some true
def excZB (K : PySem.W.Frag) (C : Addr) : Bool := PySem.W.excIn K C zdBase "ZeroDivisionError.__new__" && (PySem.W.keepIn K (.ref C) && (decide (PySem.W.subIn K (.ref C) (.type "BaseException") = some true) &&
  (decide (PySem.W.typeIn K (.ref C) = some (.type "type")) && decide (PySem.W.exmOne K (.ref C) (.ref C) = some true))))
def TRightN : List PyData → (PyData → Prop) → Prop := fun ds Φ => ∃ a b c d : Int, ds = [pr (a, b), pr (c, d)] ∧ Gd 1500 a b ∧ Gd 1500 c d ∧ c ≠ 0 ∧ Φ (.bool true)
end DL

set_option Elab.async false
set_option linter.all false
set_option maxRecDepth 100000
set_option maxHeartbeats 4000000
/-! DLE: a caught error that is looked at behind its suite -/
namespace DL
open PySem PySem.Spec PyProof.Rows L2
/-- what is known of an error: its class, no dict -/
def excAt (a : Addr) (cls : Value) : Heap → Prop := fun h => ∃ oe vs, h.get? a = some oe ∧ Zc cls none oe ∧ oe.data = .fields vs
section
variable {X : Cx} {pins : List (Addr × Obj)} {σ : L2.St} {H : Hp} {s sI : Shared}
end
/-- the clause 'except x as n' that takes what comes, and after whose suite the error is still known -/
def wKeep (K : PySem.W.Frag) (c : Value) (i : Nat) (ts : Addr → TS) (D : Ends) : WX := fun cls d σ H =>
  d = none ∧ PySem.W.exmOne K cls c = some true ∧ ∀ a, H a = none →
    ts a { nx := fun σ2 H2 => D.nx (σ2.set i none) (upd H2 a (.ext (excAt a cls))), rt := fun _ _ => False } (σ.set i (some (.ref a))) H
section
variable {X : Cx} {x n : Str} {c : Value} {i : Nat} {body suite : List Stmt} {st : Stmt} {np pos hpos : Pos} {tb : WX → TS} {ts : Addr → TS}
end
end DL

set_option Elab.async false
set_option linter.all false
set_option maxRecDepth 100000
set_option maxHeartbeats 4000000
namespace DL
open PySem PySem.Spec PyProof.Rows L2
def gVone : List V → List V → List V := fun _ zs => zs
def gVrev : List V → List V → List V := fun _ zs => zs.reverse
theorem vals_rev : ∀ {vs : List V} {us : List Value}, Vals vs us → Vals vs.reverse us.reverse
  | [], _, h => by cases h; exact .nil
  | v :: vs, _, h => by
    cases h with
    | cons h1 h2 =>
      rw [List.reverse_cons, List.reverse_cons]
      exact (vals_rev h2).append (.cons h1 .nil)
def gDrev : List PyData → List PyData → List PyData := fun _ zs => zs.reverse
def t_law_over_right (K : PySem.W.Frag) : TS :=
  (tSeq (tAsg (tC .non) (gName 2))
    (tSeq (tAsg (tC .non) (gName 3))
    (tSeq (tAsg (tLst (tCons (tCall (spP K TOver) [] E0 (tCons (tVar 0) (tCons (tVar 1) tNil))) (tCons (tCallN 0 2 (spP K TOver) gVrev E0 tNil (tCons (tVar 1) (tCons (tVar 0) tNil))) tNil))) (gName 3))
    (tSeq (tIfS (tTest (tOp rEq (tOp (rIxT K) (tVar 1) (tC (.int 0))) (tC (.int 0)))) (tRet (tOp rNotNone (tVar 2) (tC .non))) tNext)
    (tRet (tAndV (tOp rIsNone (tVar 2) (tC .non)) (tOp (rEqD K) (tVar 3) (tOp rRepL (tLst (tCons (tCall (spP K TPart) [] E0 (tCons (tOp rMulI (tOp (rIxT K) (tVar 0) (tC (.int 0))) (tOp (rIxT K) (tVar 1) (tC (.int 1)))) (tCons (tOp rMulI (tOp (rIxT K) (tVar 0) (tC (.int 1))) (tOp (rIxT K) (tVar 1) (tC (.int 0)))) tNil))) tNil)) (tC (.int 2))))))))))
def t_law_whole_right (K : PySem.W.Frag) : TS :=
  (tSeq (tPar 1 2 (tCons (tCall (spP K TFloor) [] E0 (tCons (tVar 0) tNil)) (tCons (tCall (spP K TCeil) [] E0 (tCons (tVar 0) tNil)) tNil)))
    (tSeq (tIfS (tTest (tOp rNe (tCB (rRepr K) (tCons (tLst (tCons (tCallN 0 1 (spP K TFloor) gVone E0 tNil (tCons (tVar 0) tNil)) (tCons (tCallN 0 1 (spP K TCeil) gVone E0 tNil (tCons (tVar 0) tNil)) tNil))) tNil)) (tCB (rRepr K) (tCons (tLst (tCons (tVar 1) (tCons (tVar 2) tNil))) tNil)))) (tRet (tC (.bl false))) tNext)
    (tSeq (tIfS (tOr (tNot (tB (tCB (rIsi K) (tCons (tVar 1) (tCons (tC (.ty "int")) tNil))))) (tOr (tB (tCB (rIsi K) (tCons (tVar 1) (tCons (tC (.ty "bool")) tNil)))) (tOr (tNot (tB (tCB (rIsi K) (tCons (tVar 2) (tCons (tC (.ty "int")) tNil))))) (tB (tCB (rIsi K) (tCons (tVar 2) (tCons (tC (.ty "bool")) tNil))))))) (tRet (tC (.bl false))) tNext)
    (tSeq (tIfS (tOr (tTest (tOp rGt (tOp rMulI (tVar 1) (tOp (rIxT K) (tVar 0) (tC (.int 1)))) (tOp (rIxT K) (tVar 0) (tC (.int 0))))) (tTest (tOp rLe (tOp rMulI (tOp rAddI (tVar 1) (tC (.int 1))) (tOp (rIxT K) (tVar 0) (tC (.int 1)))) (tOp (rIxT K) (tVar 0) (tC (.int 0)))))) (tRet (tC (.bl false))) tNext)
    (tRet (tAndV (tOp rGe (tOp rMulI (tVar 2) (tOp (rIxT K) (tVar 0) (tC (.int 1)))) (tOp (rIxT K) (tVar 0) (tC (.int 0)))) (tOp rLt (tOp rMulI (tOp rSubI (tVar 2) (tC (.int 1))) (tOp (rIxT K) (tVar 0) (tC (.int 1)))) (tOp (rIxT K) (tVar 0) (tC (.int 0))))))))))
def t_law_right (K : PySem.W.Frag) : TS :=
  (tSeq (tIfS (tOr (tTest (tOp (rNeD K) (tCall (spP K TPlus) [] E0 (tCons (tVar 0) (tCons (tVar 1) tNil))) (tCall (spP K TPlus) [] E0 (tCons (tVar 0) (tCons (tVar 1) tNil))))) (tTest (tOp (rNeD K) (tCall (spP K TLess) [] E0 (tCons (tVar 0) (tCons (tVar 1) tNil))) (tCall (spP K TLess) [] E0 (tCons (tVar 0) (tCons (tVar 1) tNil)))))) (tRet (tC (.bl false))) tNext)
    (tSeq (tIfS (tOr (tTest (tOp (rNeD K) (tCallN 0 2 (spP K TPlus) gVrev E0 tNil (tCons (tVar 1) (tCons (tVar 0) tNil))) (tCall (spP K TPlus) [] E0 (tCons (tVar 0) (tCons (tVar 1) tNil))))) (tTest (tOp (rNeD K) (tCallN 0 2 (spP K TLess) gVrev E0 tNil (tCons (tVar 1) (tCons (tVar 0) tNil))) (tCall (spP K TLess) [] E0 (tCons (tVar 0) (tCons (tVar 1) tNil)))))) (tRet (tC (.bl false))) tNext)
    (tSeq (tIfS (tOr (tTest (tOp (rNeD K) (tCallN 0 2 (spP K TTimes) gVrev E0 tNil (tCons (tVar 1) (tCons (tVar 0) tNil))) (tCall (spP K TTimes) [] E0 (tCons (tVar 0) (tCons (tVar 1) tNil))))) (tTest (tOp rNe (tCallN 0 2 (spP K TUnder) gVrev E0 tNil (tCons (tVar 1) (tCons (tVar 0) tNil))) (tCall (spP K TUnder) [] E0 (tCons (tVar 0) (tCons (tVar 1) tNil)))))) (tRet (tC (.bl false))) tNext)
    (tSeq (tIfS (tOr (tTest (tOp (rNeD K) (tCall (spP K TTimes) [] E0 (tCons (tVar 0) (tCons (tVar 1) tNil))) (tCall (spP K TTimes) [] E0 (tCons (tVar 0) (tCons (tVar 1) tNil))))) (tNot (tB (tCall (spP K TRight2) [] E0 (tCons (tVar 0) (tCons (tVar 1) tNil)))))) (tRet (tC (.bl false))) tNext)
    (tSeq (tIfS (tTest (tOp rNe (tCB (rRepr K) (tCons (tLst (tCons (tCall (spP K TUnder) [] E0 (tCons (tVar 0) (tCons (tVar 1) tNil))) (tCons (tCall (spP K TUnder) [] E0 (tCons (tVar 1) (tCons (tVar 0) tNil))) tNil))) tNil)) (tCB (rRepr K) (tCons (tLst (tCons (tCall (spP K TUnder) [] E0 (tCons (tVar 0) (tCons (tVar 1) tNil))) (tCons (tCall (spP K TUnder) [] E0 (tCons (tVar 1) (tCons (tVar 0) tNil))) tNil))) tNil)))) (tRet (tC (.bl false))) tNext)
    (tRet (tAndV (tCall (spP K TRight1) [] E0 (tCons (tVar 0) tNil)) (tCall (spP K TRight1) [] E0 (tCons (tVar 1) tNil)))))))))

theorem dq_rev {K : PySem.W.Frag} {N : Av} {H : Hp} : ∀ {vs : List V} {ds : List PyData}, DqAll K N H vs ds → DqAll K N H vs.reverse ds.reverse
  | [], _, h => by cases h; exact .nil
  | v :: vs, _, h => by
    cases h with
    | cons h1 h2 =>
      rw [List.reverse_cons, List.reverse_cons]
      exact (dq_rev h2).append (.cons h1 .nil)
section
variable {K : PySem.W.Frag} {S : Stt} {ρ : Rho} {Φ : PyData → Rho → Prop} {Ψ : PyData → Prop}
theorem do_nebS {i : Bool} (h : Ψ (.bool false)) : DO K rNe (.bool i) (.bool i) Ψ := do_neb (by simpa using h)
theorem do_nesS {i : Str} (h : Ψ (.bool false)) : DO K rNe (.str i) (.str i) Ψ := do_nes (by simpa using h)
end
local macro_rules | `(tactic| walk_at "dl") => `(tactic| repeat' (first
  | with_reducible refine wd_isTy ?_ | with_reducible refine wd_isi ?_ | with_reducible refine wd_op ?_ | ((with_reducible show WD _ _ (tCB (rLenX _) (tCons (tVar _) tNil)) _ _); refine wd_len_scr rfl ?_) | with_reducible refine wd_cb ?_ | with_reducible refine wd_un ?_ | with_reducible refine wa_cons ?_ | with_reducible refine wa_nil ?_ | ((with_reducible show WD _ _ (tVar _) _ _); refine wd_var rfl ?_) | with_reducible refine wd_int ?_ | with_reducible refine wd_bl ?_ | with_reducible refine wd_str ?_ | with_reducible refine wd_non ?_
  | with_reducible refine do_nePr ?_ | with_reducible refine do_nebS ?_ | with_reducible refine do_nesS ?_ | with_reducible refine do_isNn ?_ | with_reducible refine do_add ?_ | with_reducible refine do_sub ?_ | ((with_reducible refine do_mod ?_ ?_); decide) | with_reducible refine do_mod ?_ ?_ | with_reducible refine do_mul ?_ ?_ | ((with_reducible refine do_div ?_ ?_); exact ⟨by decide, by decide⟩) | with_reducible refine do_div ?_ ?_ | ((with_reducible refine do_pow ?_ ?_); exact ⟨by decide, by decide, by decide⟩) | with_reducible refine do_pow ?_ ?_
  | with_reducible refine do_lt ?_ | with_reducible refine do_le ?_ | with_reducible refine do_gt ?_ | with_reducible refine do_ge ?_ | with_reducible refine du_neg ?_
  | with_reducible refine do_eqi ?_ | with_reducible refine do_nei ?_ | with_reducible refine do_eqs ?_ | with_reducible refine do_nes ?_ | with_reducible refine dc_abs ?_ | with_reducible refine dc_min ?_ | with_reducible refine dc_max ?_ | with_reducible refine dc_lenL ?_ | with_reducible refine dc_lenT ?_ | with_reducible refine dc_gcd ?_
  | ((with_reducible show DO _ (rIxT _) _ _ _); refine do_ixT rfl ?_) | ((with_reducible show DO _ (rIxL _) _ _ _); refine do_ixL rfl ?_) | ((with_reducible refine do_catL ?_ ?_); exact Nat.le_of_ble_eq_true rfl) | with_reducible refine do_catL ?_ ?_ | ((with_reducible show And (List.length _ ≤ sizeLine) _); refine ⟨Nat.le_of_ble_eq_true rfl, ?_⟩)
  | with_reducible refine wd_dnew ?_ | with_reducible refine wd_c2 rfl rfl (by assumption) (by first | assumption | exact trivial) ?_ | with_reducible refine wd_n2 rfl rfl (by assumption) (by first | assumption | exact trivial) ?_ | with_reducible refine wd_c1 rfl (by assumption) (by assumption) ?_ | with_reducible refine wd_n1 rfl (by assumption) (by assumption) ?_ | with_reducible refine wd_call0 ?_ | with_reducible refine dc_str ?_ ?_ | with_reducible refine wd_tup ?_ | with_reducible refine wd_lst ?_ | with_reducible refine wt_test ?_ | with_reducible refine wt_B ?_ | with_reducible refine wt_not ?_ | with_reducible refine wt_and ?_ | with_reducible refine wt_or ?_ | with_reducible refine wd_ifE ?_ | with_reducible refine wd_andV ?_ | with_reducible refine wd_orV ?_ | with_reducible refine wd_notV ?_
  | with_reducible refine ws_seq ?_ | with_reducible refine ws_next ?_ | with_reducible refine ws_asg ?_ | with_reducible refine ws_ret ?_ | with_reducible refine ws_retN ?_ | with_reducible refine ws_if ?_ | with_reducible refine ws_par ?_ | with_reducible refine ws_unp2 ?_
  | with_reducible refine if_t ?_ | with_reducible refine if_f ?_ | with_reducible refine if_nf ?_ | with_reducible refine if_nt ?_
  | ((with_reducible show Exists _); first | refine ⟨_, kitInt _, ?_⟩ | refine ⟨_, kitBool _, ?_⟩ | refine ⟨_, kitTup _, ?_⟩ | refine ⟨_, kitList _, ?_⟩ | refine ⟨_, rfl, ?_⟩ | refine ⟨_, _, rfl, ?_⟩ | fail) | fail))
section
variable {K : PySem.W.Frag} {ds : List PyData} {Φ : PyData → Prop}
end
end DL

set_option Elab.async false
set_option linter.all false
set_option maxRecDepth 100000
set_option maxHeartbeats 4000000
namespace DL
open PySem PySem.Spec PyProof.Rows L2
local macro_rules | `(tactic| walk_at "dl") => `(tactic| repeat' (first
  | with_reducible refine wd_isTy ?_ | with_reducible refine wd_isi ?_ | with_reducible refine wd_op ?_ | ((with_reducible show WD _ _ (tCB (rLenX _) (tCons (tVar _) tNil)) _ _); refine wd_len_scr rfl ?_) | with_reducible refine wd_cb ?_ | with_reducible refine wd_un ?_ | with_reducible refine wa_cons ?_ | with_reducible refine wa_nil ?_ | ((with_reducible show WD _ _ (tVar _) _ _); refine wd_var rfl ?_) | with_reducible refine wd_int ?_ | with_reducible refine wd_bl ?_ | with_reducible refine wd_str ?_ | with_reducible refine wd_non ?_
  | with_reducible refine do_nesS ?_ | with_reducible refine do_add ?_ | with_reducible refine do_sub ?_ | ((with_reducible refine do_mod ?_ ?_); decide) | with_reducible refine do_mod ?_ ?_ | with_reducible refine do_mul ?_ ?_ | ((with_reducible refine do_div ?_ ?_); exact ⟨by decide, by decide⟩) | with_reducible refine do_div ?_ ?_ | ((with_reducible refine do_pow ?_ ?_); exact ⟨by decide, by decide, by decide⟩) | with_reducible refine do_pow ?_ ?_
  | with_reducible refine do_lt ?_ | with_reducible refine do_le ?_ | with_reducible refine do_gt ?_ | with_reducible refine do_ge ?_ | with_reducible refine du_neg ?_
  | with_reducible refine do_eqi ?_ | with_reducible refine do_nei ?_ | with_reducible refine do_eqs ?_ | with_reducible refine do_nes ?_ | with_reducible refine dc_abs ?_ | with_reducible refine dc_min ?_ | with_reducible refine dc_max ?_ | with_reducible refine dc_lenL ?_ | with_reducible refine dc_lenT ?_ | with_reducible refine dc_gcd ?_
  | ((with_reducible show DO _ (rIxT _) _ _ _); refine do_ixT rfl ?_) | ((with_reducible show DO _ (rIxL _) _ _ _); refine do_ixL rfl ?_) | ((with_reducible refine do_catL ?_ ?_); exact Nat.le_of_ble_eq_true rfl) | with_reducible refine do_catL ?_ ?_ | ((with_reducible show And (List.length _ ≤ sizeLine) _); refine ⟨Nat.le_of_ble_eq_true rfl, ?_⟩)
  | with_reducible refine wd_dnew ?_ | with_reducible refine wd_call0 ?_ | with_reducible refine dc_str ?_ ?_ | with_reducible refine wd_tup ?_ | with_reducible refine wd_lst ?_ | with_reducible refine wt_test ?_ | with_reducible refine wt_B ?_ | with_reducible refine wt_not ?_ | with_reducible refine wt_and ?_ | with_reducible refine wt_or ?_ | with_reducible refine wd_ifE ?_ | with_reducible refine wd_andV ?_ | with_reducible refine wd_orV ?_ | with_reducible refine wd_notV ?_
  | with_reducible refine ws_seq ?_ | with_reducible refine ws_next ?_ | with_reducible refine ws_asg ?_ | with_reducible refine ws_ret ?_ | with_reducible refine ws_retN ?_ | with_reducible refine ws_if ?_ | with_reducible refine ws_par ?_ | with_reducible refine ws_unp2 ?_
  | with_reducible refine if_t ?_ | with_reducible refine if_f ?_ | with_reducible refine if_nf ?_ | with_reducible refine if_nt ?_
  | ((with_reducible show Exists _); first | refine ⟨_, kitInt _, ?_⟩ | refine ⟨_, kitBool _, ?_⟩ | refine ⟨_, kitTup _, ?_⟩ | refine ⟨_, kitList _, ?_⟩ | refine ⟨_, rfl, ?_⟩ | refine ⟨_, _, rfl, ?_⟩ | fail) | fail))
def gVapp : List V → List V → List V := fun vs zs => vs ++ zs
def gDapp : List PyData → List PyData → List PyData := fun vs zs => vs ++ zs
def gVone1 : List V → List V → List V := fun _ zs => zs ++ [.int 1]
def gDone1 : List PyData → List PyData → List PyData := fun _ zs => zs ++ [.int 1]
theorem wd_konst {K : PySem.W.Frag} {S : Stt} {ρ : Rho} {Φ : PyData → Rho → Prop} {a : Addr} {d : PyData} (h : ∀ H : Hp, Dt K H (.ref a) d) (f : Φ d ρ) : WD K S (tC (.ref a)) ρ Φ := fun H0 N0 Z N σ H E Q q => q _ d ρ H f E (fun _ _ _ z => z) (h _)
theorem Dt.part2 {K : PySem.W.Frag} {H : Hp} {a : Addr} {x y : Int} (h : SqT K H a [.int x, .int y]) : Dt K H (.ref a) (DL.pr (x, y)) := .tup h (.cons (.int x) (.cons (.int y) .nil))
def TNumber : Nat → List PyData → (PyData → Nat → Prop) → Prop := fun B ds Φ => ds = [] ∧ B + 2400 ≤ 2 ^ 40 ∧ ∀ n : Int, n.natAbs < 2 ^ 100 → Φ (.int n) (B + 2400)
def TRefused : List PyData → (PyData → Prop) → Prop := fun ds Φ => ∃ a w : Int, ds = [.int a, .int w] ∧ Φ (.bool true)
def t_law_number (K : PySem.W.Frag) : TS :=
  (tSeq (tAsg (tCall (spS K FSto TDr) [] E0 (tCons (tVar 0) (tCons (tC (.int 5)) tNil))) (gName 1))
    (tSeq (tAsg (tLst (tCons (tC (.int 0)) (tCons (tOp rAddI (tC (.int 1)) (tCall (spS K FSto TDr) [] E0 (tCons (tVar 0) (tCons (tC (.int 12)) tNil)))) (tCons (tCall (spS K FSto TDr) [] E0 (tCons (tVar 0) (tCons (tC (.int 1000)) tNil))) (tCons (tCall (spS K FSto TDr) [] E0 (tCons (tVar 0) (tCons (tOp rPowI (tC (.int 10)) (tC (.int 30))) tNil))) tNil))))) (gName 2))
    (tRet (tOp rMulI (tOp (rIxL K) (tOp rCatL (tVar 2) (tLst (tCons (tOp rMulI (tC (.int 360)) (tCall (spS K FSto TDr) [] E0 (tCons (tVar 0) (tCons (tC (.int 99)) tNil)))) tNil))) (tVar 1)) (tOp (rIxL K) (tLst (tCons (tC (.int 1)) (tCons (tUn rNegI (tC (.int 1))) tNil))) (tCall (spS K FSto TDr) [] E0 (tCons (tVar 0) (tCons (tC (.int 2)) tNil))))))))
section
variable {K : PySem.W.Frag} {S : Stt}
local macro_rules | `(tactic| walk_at "dl") => `(tactic| repeat' (first
  | with_reducible refine wd_isTy ?_ | with_reducible refine wd_isi ?_ | with_reducible refine wd_op ?_ | ((with_reducible show WD _ _ (tCB (rLenX _) (tCons (tVar _) tNil)) _ _); refine wd_len_scr rfl ?_) | with_reducible refine wd_cb ?_ | with_reducible refine wd_un ?_ | with_reducible refine wa_cons ?_ | with_reducible refine wa_nil ?_ | ((with_reducible show WD _ _ (tVar _) _ _); refine wd_var rfl ?_) | with_reducible refine wd_int ?_ | with_reducible refine wd_bl ?_ | with_reducible refine wd_str ?_ | with_reducible refine wd_non ?_
  | with_reducible refine do_nesS ?_ | with_reducible refine do_add ?_ | with_reducible refine do_sub ?_ | ((with_reducible refine do_mod ?_ ?_); decide) | with_reducible refine do_mod ?_ ?_ | with_reducible refine do_mul ?_ ?_ | ((with_reducible refine do_div ?_ ?_); exact ⟨by decide, by decide⟩) | with_reducible refine do_div ?_ ?_ | ((with_reducible refine do_pow ?_ ?_); exact ⟨by decide, by decide, by decide⟩) | with_reducible refine do_pow ?_ ?_
  | with_reducible refine do_lt ?_ | with_reducible refine do_le ?_ | with_reducible refine do_gt ?_ | with_reducible refine do_ge ?_ | with_reducible refine du_neg ?_
  | with_reducible refine do_eqi ?_ | with_reducible refine do_nei ?_ | with_reducible refine do_eqs ?_ | with_reducible refine do_nes ?_ | with_reducible refine dc_abs ?_ | with_reducible refine dc_min ?_ | with_reducible refine dc_max ?_ | with_reducible refine dc_lenL ?_ | with_reducible refine dc_lenT ?_ | with_reducible refine dc_gcd ?_
  | ((with_reducible show DO _ (rIxT _) _ _ _); refine do_ixT rfl ?_) | ((with_reducible show DO _ (rIxL _) _ _ _); refine do_ixL rfl ?_) | ((with_reducible refine do_catL ?_ ?_); exact Nat.le_of_ble_eq_true rfl) | with_reducible refine do_catL ?_ ?_ | ((with_reducible show And (List.length _ ≤ sizeLine) _); refine ⟨Nat.le_of_ble_eq_true rfl, ?_⟩)
  | with_reducible refine wd_dnew ?_ | with_reducible refine wd_pt rfl rfl (by assumption) (by assumption) (by assumption) ?_ | with_reducible refine wd_ptR rfl rfl (by assumption) (by assumption) (by assumption) ?_ | with_reducible refine wd_ptB rfl rfl (by assumption) (by assumption) (by assumption) ?_ | with_reducible refine wd_ptD rfl (by assumption) ?_ | with_reducible refine wd_ptA rfl (by assumption) ?_ | with_reducible refine wd_call0 ?_ | with_reducible refine dc_str ?_ ?_ | with_reducible refine wd_tup ?_ | with_reducible refine wd_lst ?_ | with_reducible refine wt_test ?_ | with_reducible refine wt_B ?_ | with_reducible refine wt_not ?_ | with_reducible refine wt_and ?_ | with_reducible refine wt_or ?_ | with_reducible refine wd_ifE ?_ | with_reducible refine wd_andV ?_ | with_reducible refine wd_orV ?_ | with_reducible refine wd_notV ?_
  | with_reducible refine ws_seq ?_ | with_reducible refine ws_next ?_ | with_reducible refine ws_asg ?_ | with_reducible refine ws_ret ?_ | with_reducible refine ws_retN ?_ | with_reducible refine ws_if ?_ | with_reducible refine ws_par ?_ | with_reducible refine ws_unp2 ?_
  | with_reducible refine if_t ?_ | with_reducible refine if_f ?_ | with_reducible refine if_nf ?_ | with_reducible refine if_nt ?_
  | ((with_reducible show Exists _); first | refine ⟨_, kitInt _, ?_⟩ | refine ⟨_, kitBool _, ?_⟩ | refine ⟨_, kitTup _, ?_⟩ | refine ⟨_, kitList _, ?_⟩ | refine ⟨_, rfl, ?_⟩ | refine ⟨_, _, rfl, ?_⟩ | fail) | fail))
def t_tail3 (K : PySem.W.Frag) : TS :=
    (tSeq (tAsg (tCall (spP K TPart) [] E0 (tCons (tVar 3) (tCons (tVar 4) tNil))) (gName 5))
    (tSeq (tIfS (tTest (tOp rNe (tCB (rRepr K) (tCons (tLst (tCons (tCall (spP K TPart) [] E0 (tCons (tVar 3) (tCons (tVar 4) tNil))) (tCons (tCallN 0 2 (spP K TPart) gVrev E0 tNil (tCons (tVar 4) (tCons (tVar 3) tNil))) (tCons (tCallN 1 1 (spP K TPart) gVapp E0 (tCons (tVar 3) tNil) (tCons (tVar 4) tNil)) tNil)))) tNil)) (tCB (rRepr K) (tCons (tLst (tCons (tVar 5) (tCons (tVar 5) (tCons (tVar 5) tNil)))) tNil)))) (tRet (tC (.bl false))) tNext)
    (tIfS (tTest (tOp rNe (tCB (rRepr K) (tCons (tLst (tCons (tCall (spP K TPart) [.int 1] E0 (tCons (tVar 3) tNil)) (tCons (tCallN 0 1 (spP K TPart) gVone1 E0 tNil (tCons (tVar 3) tNil)) tNil))) tNil)) (tCB (rRepr K) (tCons (tLst (tCons (tTup (tCons (tVar 3) (tCons (tC (.int 1)) tNil))) (tCons (tTup (tCons (tVar 3) (tCons (tC (.int 1)) tNil))) tNil))) tNil)))) (tRet (tC (.bl false))) tNext)))
def t_law_rest3 (K : PySem.W.Frag) (aN aO : Addr) : TS :=
    (tSeq (tFor (iRng1 (tCons (tOp rAddI (tC (.int 20)) (tCB rMinX (tCons (tC (.int 40)) (tCons (tCB (rLenX K) (tCons (tVar 0) tNil)) tNil)))) tNil)) (gName 2) (tSeq (tAsg (tCall (spS K FSto TNumber) [] E0 (tCons (tVar 1) tNil)) (gName 3))
    (tSeq (tAsg (tCall (spS K FSto TNumber) [] E0 (tCons (tVar 1) tNil)) (gName 4))
    (tSeq (tIfS (tTest (tOp rEq (tVar 4) (tC (.int 0)))) (tSeq (tIfS (tOr (tNot (tB (tCall (spP K TRefused) [] E0 (tCons (tVar 3) (tCons (tC (.int 0)) tNil))))) (tNot (tB (tCall (spP K TRefused) [] E0 (tCons (tVar 3) (tCons (tC (.int 1)) tNil)))))) (tRet (tC (.bl false))) tNext)
    (tAsg (tC (.int 1)) (gName 4))) tNext)
    (tSeq (tAsg (tCall (spP K TPart) [] E0 (tCons (tVar 3) (tCons (tVar 4) tNil))) (gName 5))
    (tSeq (tIfS (tTest (tOp rNe (tCB (rRepr K) (tCons (tLst (tCons (tCall (spP K TPart) [] E0 (tCons (tVar 3) (tCons (tVar 4) tNil))) (tCons (tCallN 0 2 (spP K TPart) gVrev E0 tNil (tCons (tVar 4) (tCons (tVar 3) tNil))) (tCons (tCallN 1 1 (spP K TPart) gVapp E0 (tCons (tVar 3) tNil) (tCons (tVar 4) tNil)) tNil)))) tNil)) (tCB (rRepr K) (tCons (tLst (tCons (tVar 5) (tCons (tVar 5) (tCons (tVar 5) tNil)))) tNil)))) (tRet (tC (.bl false))) tNext)
    (tIfS (tTest (tOp rNe (tCB (rRepr K) (tCons (tLst (tCons (tCall (spP K TPart) [.int 1] E0 (tCons (tVar 3) tNil)) (tCons (tCallN 0 1 (spP K TPart) gVone1 E0 tNil (tCons (tVar 3) tNil)) tNil))) tNil)) (tCB (rRepr K) (tCons (tLst (tCons (tTup (tCons (tVar 3) (tCons (tC (.int 1)) tNil))) (tCons (tTup (tCons (tVar 3) (tCons (tC (.int 1)) tNil))) tNil))) tNil)))) (tRet (tC (.bl false))) tNext)))))))
    (tRet (tAndV (tOp (rEqD K) (tCall (spP K TPart) [] E0 (tCons (tC (.int 0)) (tCons (tC (.int 7)) tNil))) (tC (.ref aN))) (tAndV (tOp (rEqD K) (tCall (spP K TPart) [] E0 (tCons (tUn rNegI (tC (.int 3))) (tCons (tUn rNegI (tC (.int 3))) tNil))) (tC (.ref aO))) (tAndV (tOp (rEqD K) (tC (.ref aN)) (tTup (tCons (tC (.int 0)) (tCons (tC (.int 1)) tNil)))) (tOp (rEqD K) (tC (.ref aO)) (tTup (tCons (tC (.int 1)) (tCons (tC (.int 1)) tNil)))))))))
end
end DL

set_option Elab.async false
set_option linter.all false
set_option maxRecDepth 100000
set_option maxHeartbeats 4000000
namespace DL
open PySem PySem.Spec PyProof.Rows L2
/-! ### isinstance of a kept error -/
def rIsiE (K : PySem.W.Frag) (D : Addr) : List V → Hp → VK → Prop := fun xs H Q => ∃ (a : Addr) (c : V) (u : Value) (b : Bool), xs = [.ref a, c] ∧ ClsV c u ∧ H a = some (.ext (excAt a (.ref D))) ∧ PySem.W.kitOne K (.ref D) u = some b ∧ Q (.bl b) H
def rIsiET (K : PySem.W.Frag) (D : Addr) : List V → Hp → VK → Prop := fun xs H Q => ∃ (a tp : Addr) (cs : List V) (us : List Value) (b : Bool), xs = [.ref a, .ref tp] ∧ H tp = some (.tup cs) ∧ Paired ClsV cs us ∧ H a = some (.ext (excAt a (.ref D))) ∧ PySem.W.kitAny K (.ref D) us = some b ∧ Q (.bl b) H
section
variable {X : Cx} {pins : List (Addr × Obj)} {σ : L2.St} {H : Hp} {s : Shared} {a D : Addr}
end
/-! ### a call by names that may be refused, in a try -/
def tCallNS (m : Nat) (sp : Sp) (gV : List V → List V → List V) (E : L2.St → XK) (tk : TA) : TE := fun σ H Q => tk σ H fun zs H2 => zs.length = m ∧ sp (gV [] zs) H2 Q (E σ)
/-! ### the judge of refusals -/
def ts_rf (a : Addr) : TS := tAsg (tVar 3) (gName 2)
def tb_rf (K : PySem.W.Frag) (C : Addr) (W : WX) : TS := tIfS (tTest (tOp rEq (tVar 1) (tC (.int 0)))) (tDrop (tCallS (spX K (TPartX C)) (WE W) (tCons (tVar 0) (tCons (tC (.int 0)) tNil))))
  (tDrop (tCallNS 2 (spX K (TPartX C)) gVrev (WE W) (tCons (tC (.int 0)) (tCons (tVar 0) tNil))))
def te_rf (K : PySem.W.Frag) (C P : Addr) : TE := tAndV (tCB (rIsiE K C) (tCons (tVar 2) (tCons (tC (.ty "ZeroDivisionError")) tNil))) (tNotV (tCB (rIsiET K C) (tCons (tVar 2) (tCons (tTup (tCons (tC (.ref P)) (tCons (tC (.ty "ValueError")) tNil))) tNil))))
def t_rf (K : PySem.W.Frag) (C P : Addr) : TS :=
  (tSeq (tAsg (tC .non) (gName 2))
    (tSeq (fun D σ H => tb_rf K C (wKeep K (.ref C) 3 ts_rf D) D σ H)
    (tRet (te_rf K C P))))
end DL
namespace DL
open PySem PySem.Spec PyProof.Rows L2
def excCB (K : PySem.W.Frag) (D : Addr) : Bool := decide (PySem.W.findIn K (.ref D) "__getattribute__" = some (some (.builtin "BaseException.__getattribute__"))) && (decide (PySem.W.findIn K (.ref D) "__getattr__" = some none) &&
  (decide (PySem.W.subIn K (.ref D) (.type "BaseException") = some true) && (PySem.W.hasDictIn K D && (decide (PySem.W.findIn K (.ref D) "__class__" = some (some (.builtin "object.__class__"))) &&
  (decide (PySem.W.specialIn K (.builtin "object.__class__") "__get__" = some (some (.builtin "getset_descriptor.__get__"))) && (decide (PySem.W.takesIn K (.builtin "object.__class__") = some true) && decide (PySem.W.mroIn K D (.type "object") = some true)))))))
end DL

set_option Elab.async false
set_option linter.all false
set_option maxRecDepth 100000
set_option maxHeartbeats 4000000
namespace DL
open PySem PySem.Spec PyProof.Rows L2
def top (i : Nat) : Stmt := PySem.Challenge.pw_paymill_k47_payments_judged.main.body.getD i (.Pass ⟨0, 0, 0, 0⟩)
abbrev FnP (K : PySem.W.Frag) (x : Str) (st : Stmt) (f : Addr) (fd : FuncData) : Prop := FunD K x x (defArgs st) (defBody st) (defScope st) [] [] f fd
abbrev FnD (K : PySem.W.Frag) (x : Str) (st : Stmt) (dvs : List V) (f : Addr) (fd : FuncData) : Prop := FunD K x x (defArgs st) (defBody st) (defScope st) dvs [] f fd
abbrev FnKw (K : PySem.W.Frag) (x : Str) (st : Stmt) (kws : List (Str × V)) (f : Addr) (fd : FuncData) : Prop := FunD K x x (defArgs st) (defBody st) (defScope st) [] kws f fd
abbrev s_law_draw : Stmt := top 24
theorem sc_law_draw : FnScope ["store", "many", "digit", "found", "turn", "step", "primes", "cell", "one", "two"] ["store", "many"] (defScope s_law_draw) := ⟨rfl, rfl, rfl, by decide +kernel, rfl, by decide +kernel, by decide +kernel⟩

abbrev s_law_store : Stmt := top 23
theorem sc_law_store : FnScope ["script", "blend", "place", "cell", "great", "small"] ["script"] (defScope s_law_store) := ⟨rfl, rfl, rfl, by decide +kernel, rfl, by decide +kernel, by decide +kernel⟩

abbrev s_law_part : Stmt := top 25
theorem sc_law_part : FnScope ["above", "below", "one", "other", "sign"] ["above", "below"] (defScope s_law_part) := ⟨rfl, rfl, rfl, by decide +kernel, rfl, by decide +kernel, by decide +kernel⟩

abbrev s_part : Stmt := top 10
theorem sc_part : FnScope ["a", "b", "common"] ["a", "b"] (defScope s_part) := ⟨rfl, rfl, rfl, by decide +kernel, rfl, by decide +kernel, by decide +kernel⟩

abbrev s_plus : Stmt := top 11
theorem sc_plus : FnScope ["one", "other"] ["one", "other"] (defScope s_plus) := ⟨rfl, rfl, rfl, by decide +kernel, rfl, by decide +kernel, by decide +kernel⟩

abbrev s_less : Stmt := top 12
theorem sc_less : FnScope ["one", "other"] ["one", "other"] (defScope s_less) := ⟨rfl, rfl, rfl, by decide +kernel, rfl, by decide +kernel, by decide +kernel⟩

abbrev s_times : Stmt := top 13
theorem sc_times : FnScope ["one", "other"] ["one", "other"] (defScope s_times) := ⟨rfl, rfl, rfl, by decide +kernel, rfl, by decide +kernel, by decide +kernel⟩

abbrev s_is_less : Stmt := top 14
theorem sc_is_less : FnScope ["one", "other"] ["one", "other"] (defScope s_is_less) := ⟨rfl, rfl, rfl, by decide +kernel, rfl, by decide +kernel, by decide +kernel⟩

abbrev s_law_sum : Stmt := top 26
theorem sc_law_sum : FnScope ["one", "other"] ["one", "other"] (defScope s_law_sum) := ⟨rfl, rfl, rfl, by decide +kernel, rfl, by decide +kernel, by decide +kernel⟩

abbrev s_law_rest : Stmt := top 27
theorem sc_law_rest : FnScope ["one", "other"] ["one", "other"] (defScope s_law_rest) := ⟨rfl, rfl, rfl, by decide +kernel, rfl, by decide +kernel, by decide +kernel⟩

abbrev s_law_fold : Stmt := top 28
theorem sc_law_fold : FnScope ["one", "other"] ["one", "other"] (defScope s_law_fold) := ⟨rfl, rfl, rfl, by decide +kernel, rfl, by decide +kernel, by decide +kernel⟩

abbrev s_law_under : Stmt := top 29
theorem sc_law_under : FnScope ["one", "other"] ["one", "other"] (defScope s_law_under) := ⟨rfl, rfl, rfl, by decide +kernel, rfl, by decide +kernel, by decide +kernel⟩

abbrev s_law_small : Stmt := top 30
theorem sc_law_small : FnScope ["store", "size", "below", "above"] ["store"] (defScope s_law_small) := ⟨rfl, rfl, rfl, by decide +kernel, rfl, by decide +kernel, by decide +kernel⟩

abbrev s_law_share : Stmt := top 32
theorem sc_law_share : FnScope ["store", "below"] ["store"] (defScope s_law_share) := ⟨rfl, rfl, rfl, by decide +kernel, rfl, by decide +kernel, by decide +kernel⟩

abbrev s_law_totals : Stmt := top 33
theorem sc_law_totals : FnScope ["store", "most", "kind", "size", "hair", "power", "below", "found", "here", "k", "step", "one"] ["store", "most"] (defScope s_law_totals) := ⟨rfl, rfl, rfl, by decide +kernel, rfl, by decide +kernel, by decide +kernel⟩

abbrev s_is_whole : Stmt := top 8
theorem sc_is_whole : FnScope ["thing"] ["thing"] (defScope s_is_whole) := ⟨rfl, rfl, rfl, by decide +kernel, rfl, by decide +kernel, by decide +kernel⟩

abbrev s_is_part : Stmt := top 9
theorem sc_is_part : FnScope ["thing", "a", "b"] ["thing"] (defScope s_is_part) := ⟨rfl, rfl, rfl, by decide +kernel, rfl, by decide +kernel, by decide +kernel⟩

abbrev s_floor : Stmt := top 15
theorem sc_floor : FnScope ["one"] ["one"] (defScope s_floor) := ⟨rfl, rfl, rfl, by decide +kernel, rfl, by decide +kernel, by decide +kernel⟩

abbrev s_least : Stmt := top 16
theorem sc_least : FnScope ["some", "none", "found", "one"] ["some", "none"] (defScope s_least) := ⟨rfl, rfl, rfl, by decide +kernel, rfl, by decide +kernel, by decide +kernel⟩

abbrev s_kept_of : Stmt := top 20
theorem sc_kept_of : FnScope ["new", "debt", "share"] ["new", "debt", "share"] (defScope s_kept_of) := ⟨rfl, rfl, rfl, by decide +kernel, rfl, by decide +kernel, by decide +kernel⟩

abbrev s_payments : Stmt := top 18
theorem sc_payments : FnScope ["totals", "share", "whole", "found", "ahead", "in_all", "debt", "total", "new", "kept", "now", "paid"] ["totals", "share", "whole"] (defScope s_payments) := ⟨rfl, rfl, rfl, by decide +kernel, rfl, by decide +kernel, by decide +kernel⟩

abbrev s_law_rows : Stmt := top 34
theorem sc_law_rows : FnScope ["dues", "ratio", "found", "last", "in_all", "debt", "total", "new", "now", "kept"] ["dues", "ratio"] (defScope s_law_rows) := ⟨rfl, rfl, rfl, by decide +kernel, rfl, by decide +kernel, by decide +kernel⟩

abbrev s_is_triple : Stmt := top 21
theorem sc_is_triple : FnScope ["thing", "one"] ["thing"] (defScope s_is_triple) := ⟨rfl, rfl, rfl, by decide +kernel, rfl, by decide +kernel, by decide +kernel⟩

abbrev s_payments_right : Stmt := top 19
theorem sc_payments_right : FnScope ["totals", "thing", "share", "right", "one"] ["totals", "thing", "share"] (defScope s_payments_right) := ⟨rfl, rfl, rfl, by decide +kernel, rfl, by decide +kernel, by decide +kernel⟩

abbrev s_law_otherwise : Stmt := top 35
theorem sc_law_otherwise : FnScope ["store", "one", "way", "step", "some"] ["store", "one"] (defScope s_law_otherwise) := ⟨rfl, rfl, rfl, by decide +kernel, rfl, by decide +kernel, by decide +kernel⟩

abbrev s_law_row_otherwise : Stmt := top 36
theorem sc_law_row_otherwise : FnScope ["store", "row", "way", "at"] ["store", "row"] (defScope s_law_row_otherwise) := ⟨rfl, rfl, rfl, by decide +kernel, rfl, by decide +kernel, by decide +kernel⟩

abbrev s_law_spoilt : Stmt := top 37
theorem sc_law_spoilt : FnScope ["store", "rows", "way", "at"] ["store", "rows"] (defScope s_law_spoilt) := ⟨rfl, rfl, rfl, by decide +kernel, rfl, by decide +kernel, by decide +kernel⟩

abbrev s_law_thing : Stmt := top 38
theorem sc_law_thing : FnScope ["store", "dues", "ratio", "elder", "way", "told"] ["store", "dues", "ratio", "elder"] (defScope s_law_thing) := ⟨rfl, rfl, rfl, by decide +kernel, rfl, by decide +kernel, by decide +kernel⟩

abbrev s_law : Stmt := top 39
theorem sc_law : FnScope ["script", "store", "elder", "turn", "dues", "ratio", "due", "k", "paper", "kept", "right", "told"] ["script"] (defScope s_law) := ⟨rfl, rfl, rfl, by decide +kernel, rfl, by decide +kernel, by decide +kernel⟩

def d_law_draw : He.DefD := ⟨("_law_draw", none), "_law_draw", "_law_draw", defArgs s_law_draw, defBody s_law_draw, defScope s_law_draw, [], []⟩
def d_law_store : He.DefD := ⟨("_law_store", none), "_law_store", "_law_store", defArgs s_law_store, defBody s_law_store, defScope s_law_store, [], []⟩
def d_law_part : He.DefD := ⟨("_law_part", none), "_law_part", "_law_part", defArgs s_law_part, defBody s_law_part, defScope s_law_part, [], []⟩
def d_part : He.DefD := ⟨("part", none), "part", "part", defArgs s_part, defBody s_part, defScope s_part, [.int 1], []⟩
def d_plus : He.DefD := ⟨("plus", none), "plus", "plus", defArgs s_plus, defBody s_plus, defScope s_plus, [], []⟩
def d_less : He.DefD := ⟨("less", none), "less", "less", defArgs s_less, defBody s_less, defScope s_less, [], []⟩
def d_times : He.DefD := ⟨("times", none), "times", "times", defArgs s_times, defBody s_times, defScope s_times, [], []⟩
def d_is_less : He.DefD := ⟨("is_less", none), "is_less", "is_less", defArgs s_is_less, defBody s_is_less, defScope s_is_less, [], []⟩
def d_law_sum : He.DefD := ⟨("_law_sum", none), "_law_sum", "_law_sum", defArgs s_law_sum, defBody s_law_sum, defScope s_law_sum, [], []⟩
def d_law_rest : He.DefD := ⟨("_law_rest", none), "_law_rest", "_law_rest", defArgs s_law_rest, defBody s_law_rest, defScope s_law_rest, [], []⟩
def d_law_fold : He.DefD := ⟨("_law_fold", none), "_law_fold", "_law_fold", defArgs s_law_fold, defBody s_law_fold, defScope s_law_fold, [], []⟩
def d_law_under : He.DefD := ⟨("_law_under", none), "_law_under", "_law_under", defArgs s_law_under, defBody s_law_under, defScope s_law_under, [], []⟩
def d_law_small : He.DefD := ⟨("_law_small", none), "_law_small", "_law_small", defArgs s_law_small, defBody s_law_small, defScope s_law_small, [], []⟩
def d_law_share : He.DefD := ⟨("_law_share", none), "_law_share", "_law_share", defArgs s_law_share, defBody s_law_share, defScope s_law_share, [], []⟩
def d_law_totals : He.DefD := ⟨("_law_totals", none), "_law_totals", "_law_totals", defArgs s_law_totals, defBody s_law_totals, defScope s_law_totals, [], []⟩
def d_is_whole : He.DefD := ⟨("is_whole", none), "is_whole", "is_whole", defArgs s_is_whole, defBody s_is_whole, defScope s_is_whole, [], []⟩
def d_is_part : He.DefD := ⟨("is_part", none), "is_part", "is_part", defArgs s_is_part, defBody s_is_part, defScope s_is_part, [], []⟩
def d_floor : He.DefD := ⟨("floor", none), "floor", "floor", defArgs s_floor, defBody s_floor, defScope s_floor, [], []⟩
def d_least : He.DefD := ⟨("least", none), "least", "least", defArgs s_least, defBody s_least, defScope s_least, [], [("none", .non)]⟩
def d_kept_of : He.DefD := ⟨("_kept_of", none), "_kept_of", "_kept_of", defArgs s_kept_of, defBody s_kept_of, defScope s_kept_of, [], []⟩
def d_payments : He.DefD := ⟨("payments", none), "payments", "payments", defArgs s_payments, defBody s_payments, defScope s_payments, [], [("share", .glo "ONE"), ("whole", .bl false)]⟩
def d_law_rows : He.DefD := ⟨("_law_rows", none), "_law_rows", "_law_rows", defArgs s_law_rows, defBody s_law_rows, defScope s_law_rows, [], []⟩
def d_is_triple : He.DefD := ⟨("_is_triple", none), "_is_triple", "_is_triple", defArgs s_is_triple, defBody s_is_triple, defScope s_is_triple, [], []⟩
def d_payments_right : He.DefD := ⟨("payments_right", none), "payments_right", "payments_right", defArgs s_payments_right, defBody s_payments_right, defScope s_payments_right, [], [("share", .glo "ONE")]⟩
def d_law_otherwise : He.DefD := ⟨("_law_otherwise", none), "_law_otherwise", "_law_otherwise", defArgs s_law_otherwise, defBody s_law_otherwise, defScope s_law_otherwise, [], []⟩
def d_law_row_otherwise : He.DefD := ⟨("_law_row_otherwise", none), "_law_row_otherwise", "_law_row_otherwise", defArgs s_law_row_otherwise, defBody s_law_row_otherwise, defScope s_law_row_otherwise, [], []⟩
def d_law_spoilt : He.DefD := ⟨("_law_spoilt", none), "_law_spoilt", "_law_spoilt", defArgs s_law_spoilt, defBody s_law_spoilt, defScope s_law_spoilt, [], []⟩
def d_law_thing : He.DefD := ⟨("_law_thing", none), "_law_thing", "_law_thing", defArgs s_law_thing, defBody s_law_thing, defScope s_law_thing, [], []⟩
def d_law : He.DefD := ⟨("law", none), "law", "law", defArgs s_law, defBody s_law, defScope s_law, [], []⟩
def fn : List He.DefD := [d_law_draw, d_law_store, d_law_part, d_part, d_plus, d_less, d_times, d_is_less, d_law_sum, d_law_rest, d_law_fold, d_law_under, d_law_small, d_law_share, d_law_totals, d_is_whole, d_is_part, d_floor, d_least, d_kept_of, d_payments, d_law_rows, d_is_triple, d_payments_right, d_law_otherwise, d_law_row_otherwise, d_law_spoilt, d_law_thing, d_law]
def fa : List He.Fa := [.glo "_law_draw", .glo "_law_store", .glo "_law_part", .glo "part", .glo "plus", .glo "less", .glo "times", .glo "is_less", .glo "_law_sum", .glo "_law_rest", .glo "_law_fold", .glo "_law_under", .glo "_law_small", .glo "_law_share", .glo "_law_totals", .glo "is_whole", .glo "is_part", .glo "floor", .glo "least", .glo "_kept_of", .glo "payments", .glo "_law_rows", .glo "_is_triple", .glo "payments_right", .glo "_law_otherwise", .glo "_law_row_otherwise", .glo "_law_spoilt", .glo "_law_thing", .glo "law", .glo "NOUGHT", .glo "ONE", .free "abs", .free "all", .free "enumerate", .free "int", .free "isinstance", .free "len", .free "list", .free "max", .free "min", .free "range", .free "repr", .free "str", .free "tuple", .free "type"]
def bs : List (Str × String) := [("gcd", "math.gcd")]
def ex (K : PySem.W.Frag) : Bool := bltB K bs && He.tupB K "NOUGHT" [.int 0, .int 1] && He.tupB K "ONE" [.int 1, .int 1]
abbrev R : PySem.W.OpenRow := PySem.W.OpenLaw.row PySem.Challenge.rw_paymill_k47_payments_judged
abbrev hk : PySem.W.Hook := hookX 4 fa fn ex
def ob (s : PySem.W.SharedT) : AlG := obsX 4 fa fn ex (HandSHeadRun.getT s)
theorem ob_eq (s : PySem.W.SharedT) : ob s = hk.obs s.abs := obsX_eq (HandSHeadRun.getT_eq s)
def loose : List Str := (["__name__", "NOUGHT", "ONE", "PayError", "NoAmount", "NoPart", "is_whole", "is_part", "part", "plus", "less", "times", "is_less", "floor", "least", "payments", "payments_right", "_kept_of", "_is_triple", "_law_store", "_law_draw", "_law_part", "_law_sum", "_law_rest", "_law_fold", "_law_under", "_law_small", "_law_amount", "_law_share", "_law_totals"] : List Str) ++ (["_law_rows", "_law_otherwise", "_law_row_otherwise", "_law_spoilt", "_law_thing"] : List Str)
theorem run (w : World) : HandSHeadRun.RunEqI R (PySem.W.view R.prog [0, 39]) hk ob 20000 loose w := by
  unfold HandSHeadRun.RunEqI
  kernel_rfl
end DL

set_option Elab.async false
set_option linter.all false
set_option maxRecDepth 100000
set_option maxHeartbeats 4000000
/-! DM1: enumerate of a tuple; how many of a list are alike -/
namespace DL
open PySem PySem.Spec PyProof.Rows L2 Sem
set_option maxHeartbeats 1000000 in
section
variable {prog : Program} {w : World} {A : Around} {E : Value → Shared → Prop} {s : Shared}
end
/-- the tuple at a, each item in a new pair -/
def Iet (K : PySem.W.Frag) (a : Addr) : It :=
  ⟨fun i H => ∃ (xs : List V) (x : V), SqT K H a xs ∧ xs[i]? = some x, fun i H v H' => ∃ T x, v = .ref T ∧ H T = none ∧ H' = upd H T (.tup [.int (i : Nat), x]) ∧ ∀ xs, SqT K H a xs → xs[i]? = some x, fun i H => ∃ xs : List V, SqT K H a xs ∧ xs.length = i⟩
def iEnumT (K : PySem.W.Frag) (ta : TA) : TI := fun σ H R => ta σ H fun vs H1 => ∃ a xs, vs = [.ref a] ∧ SqT K H1 a xs ∧ R (Iet K a) H1
/-! ### how many are alike -/
def rCntF (K : PySem.W.Frag) : V → List V → Hp → VK → Prop := fun x xs H Q => ∃ (a : Addr) (ys : List V) (y : V), x = .ref a ∧ xs = [y] ∧ SqL K H a ys ∧ flatV y = true ∧ ys.all flatV = true ∧ Q (.int (ys.countP fun z => eqV z y : Nat)) H
/-! ### over data -/
section
variable {K : PySem.W.Frag} {S : Stt} {ρ : Rho} {Φ : PyData → Rho → Prop} {Ψ : PyData → Prop}
end
end DL

set_option Elab.async false
set_option linter.all false
set_option maxRecDepth 100000
set_option maxHeartbeats 4000000
/-! DLQ: rows, lists or tuples -/
namespace DL
open PySem PySem.Spec PyProof.Rows L2
abbrev tTru (K : PySem.W.Frag) (t : TE) : TT := fun σ H Q => t σ H fun x H1 => ∃ k, TruV K x H1 k ∧ Q k H1
def iRow (K : PySem.W.Frag) (t : TE) : TI := fun σ H R => iList K t σ H R ∨ iTup K t σ H R
theorem pi_row {X : Cx} {tg l : Expr} {t : TE} (h : PE X l t) : PI X tg l (iRow X.K t) := ⟨fun pins s σ H R I q => q.elim (fun q => (pi_list h).run pins s σ H R I q) fun q => (pi_tup h).run pins s σ H R I q⟩
def rIxR (K : PySem.W.Frag) : R2 := fun x y H Q => rIxL K x y H Q ∨ rIxT K x y H Q
section
variable {K : PySem.W.Frag} {S : Stt} {ρ : Rho} {Φ : Bool → Rho → Prop} {Ψ : PyData → Prop}
/-- the truth of a row -/
theorem wt_tru {ta : TE} (h : WD K S ta ρ fun d ρ1 => ∃ ds, (d = .list ds ∨ d = .tuple ds) ∧ Φ (!ds.isEmpty) ρ1) : WT K S (tTru K ta) ρ Φ := fun H0 N0 Z N σ H E Q q =>
  h H0 N0 Z N σ H E _ fun v d ρ1 H1 ⟨ds, e, f⟩ E1 k1 d1 => by
    rcases e with rfl | rfl
    · obtain ⟨p, xs, rfl, _, h3, h4⟩ := Dq.lst_inv d1
      refine ⟨!xs.isEmpty, .inl ⟨xs, .inl h3, rfl⟩, ?_⟩
      have e : xs.isEmpty = ds.isEmpty := by
        have := h4.len
        cases xs <;> cases ds <;> simp_all
      rw [e]
      exact q _ ρ1 H1 f E1 k1
    · obtain ⟨p, xs, rfl, _, h3, h4⟩ := Dq.tup_inv d1
      refine ⟨!xs.isEmpty, .inr (.inl ⟨xs, h3, rfl⟩), ?_⟩
      have e : xs.isEmpty = ds.isEmpty := by
        have := h4.len
        cases xs <;> cases ds <;> simp_all
      rw [e]
      exact q _ ρ1 H1 f E1 k1
theorem wi_rowL {t : TE} {Θ : List PyData → Rho → Prop} (h : WI K S (iList K t) ρ Θ) : WI K S (iRow K t) ρ Θ := fun H0 N0 Z N σ H E R q => .inl (h H0 N0 Z N σ H E R q)
theorem wi_rowT {t : TE} {Θ : List PyData → Rho → Prop} (h : WI K S (iTup K t) ρ Θ) : WI K S (iRow K t) ρ Θ := fun H0 N0 Z N σ H E R q => .inr (h H0 N0 Z N σ H E R q)
/-- list(row), tuple(row) -/
abbrev rListOf (K : PySem.W.Frag) : List V → Hp → VK → Prop := fun xs H Q => ∃ p ys, xs = [.ref p] ∧ (SqL K H p ys ∨ SqT K H p ys) ∧ ∀ l, H l = none → Q (.ref l) (upd H l (.lst ys))
abbrev rTupOf (K : PySem.W.Frag) : List V → Hp → VK → Prop := fun xs H Q => ∃ p ys, xs = [.ref p] ∧ ((SqL K H p ys ∧ ∀ l, H l = none → Q (.ref l) (upd H l (.tup ys))) ∨ (SqT K H p ys ∧ Q (.ref p) H))
theorem dc_tupL {ds : List PyData} (h : Ψ (.tuple ds)) : DC K (rTupOf K) [.list ds] Ψ := fun N H hN us hu Q q => by
  cases hu with
  | cons h1 h2 =>
    cases h2
    obtain ⟨p, xs, rfl, _, h3, h4⟩ := Dq.lst_inv h1
    refine ⟨p, xs, rfl, .inl ⟨.inl h3, fun z hz => ?_⟩⟩
    have s := same_new hz (.tup xs)
    exact q _ _ _ h s (Dq.tup (fresh_av hN hz) upd_same (h4.keep (Keep.of s)))
end
end DL

set_option Elab.async false
set_option linter.all false
set_option maxRecDepth 100000
set_option maxHeartbeats 4000000
/-! DLO: a list of one's own, read and popped; sums of parts -/
namespace DL
open PySem PySem.Spec PyProof.Rows L2
section
variable {K : PySem.W.Frag} {S : Stt} {ρ : Rho} {Φ : PyData → Rho → Prop} {Ψ : PyData → Prop}
end
end DL

set_option Elab.async false
set_option linter.all false
set_option maxRecDepth 100000
set_option maxHeartbeats 4000000
/-! DM2: a pot of draws, made anew at each turn -/
namespace DL
open PySem PySem.Spec PyProof.Rows L2
structure PotL (ns : List Int) (B : Nat) : Prop where
  ex : ∃ a b c : Int, ns = [a, b, c] ∧ 0 ≤ a ∧ 0 ≤ b ∧ b < 2 ^ 62 ∧ 0 ≤ c ∧ c ≤ B
def mkP (a : Addr) : Stt where
  a := a
  fp b := decide (b = a)
  ok H B := ∃ ns, PotL ns B ∧ H a = some (.lst (ns.map V.int))
  loc H H' B h k := by
    obtain ⟨ns, h1, h2⟩ := k
    exact ⟨ns, h1, (h a (by simp)).trans h2⟩
  trk H B k b hb := by
    obtain ⟨ns, h1, h2⟩ := k
    have e : b = a := of_decide_eq_true hb
    rw [e, h2]; simp
def FPot (S : Stt) : Prop := ∃ a, S = mkP a
/-- a new list of whole numbers -/
def spN (K : PySem.W.Frag) (T : List PyData → (List Int → Prop) → Prop) : Sp := fun vs H Q _ => ∃ (N : Av) (ds : List PyData) (Φ : List Int → Prop),
  (∀ b, N b = true → H b ≠ none) ∧ DqAll K N H vs ds ∧ T ds Φ ∧ ∀ ns, Φ ns → ∀ p H', H p = none → Same H H' → H' p = some (.lst (ns.map V.int)) → Q (.ref p) H'
section
variable {K : PySem.W.Frag} {S : Stt} {ρ : Rho} {Φ : PyData → Rho → Prop} {Ψ : PyData → Prop}
end
/-! ### the draw -/
def TTake : Nat → List PyData → (PyData → Nat → Prop) → Prop := fun B ds Φ => ∃ m : Int, ds = [.int m] ∧ 1 ≤ m ∧ m ≤ 2 ^ 40 ∧ B ≤ 2 ^ 40 ∧ ∀ d : Int, 0 ≤ d → d < m → Φ (.int d) (B + 1)
def t_take (K : PySem.W.Frag) : TS :=
  (tSeq (tIfS (tTest (tOp rGe (tOp (rIxL K) (tVar 0) (tC (.int 0))) (tVar 1))) (tSeq (tAsg (tOp rModI (tOp (rIxL K) (tVar 0) (tC (.int 0))) (tVar 1)) (gName 2))
    (tSeq (tAsg (tOp rDivI (tOp (rIxL K) (tVar 0) (tC (.int 0))) (tVar 1)) (gSub (tVar 0) (tC (.int 0)) rSetL))
    (tRet (tVar 2)))) tNext)
    (tSeq (tAsg (tOp rAddI (tOp (rIxL K) (tVar 0) (tC (.int 2))) (tC (.int 1))) (gSub (tVar 0) (tC (.int 2)) rSetL))
    (tSeq (tAsg (tLst (tCons (tC (.int 2147483647)) (tCons (tC (.int 2147483629)) (tCons (tC (.int 2147483587)) (tCons (tC (.int 2147483579)) tNil))))) (gName 3))
    (tSeq (tAsg (tOp rCatL (tVar 3) (tLst (tCons (tC (.int 2147483563)) (tCons (tC (.int 2147483549)) (tCons (tC (.int 2147483543)) (tCons (tC (.int 2147483497)) tNil)))))) (gName 3))
    (tSeq (tAsg (tOp (rIxL K) (tVar 3) (tOp rModI (tOp (rIxL K) (tVar 0) (tC (.int 2))) (tC (.int 8)))) (gName 4))
    (tSeq (tAsg (tOp rModI (tOp rPowI (tOp rAddI (tOp rModI (tOp (rIxL K) (tVar 0) (tC (.int 1))) (tVar 4)) (tOp rMulI (tC (.int 104729)) (tOp (rIxL K) (tVar 0) (tC (.int 2))))) (tC (.int 3))) (tVar 4)) (gName 5))
    (tSeq (tAsg (tOp rAddI (tOp rAddI (tOp rAddI (tOp rMulI (tVar 5) (tVar 5)) (tOp rMulI (tOp rMulI (tC (.int 31)) (tOp (rIxL K) (tVar 0) (tC (.int 2)))) (tVar 5))) (tOp rModI (tOp (rIxL K) (tVar 0) (tC (.int 1))) (tC (.int 1000003)))) (tC (.int 7))) (gName 6))
    (tSeq (tAsg (tOp rModI (tVar 6) (tOp (rIxL K) (tVar 3) (tOp rModI (tOp rAddI (tOp (rIxL K) (tVar 0) (tC (.int 2))) (tC (.int 3))) (tC (.int 8))))) (gName 6))
    (tRet (tOp rModI (tOp rDivI (tOp rModI (tOp rPowI (tVar 6) (tC (.int 3))) (tOp (rIxL K) (tVar 3) (tOp rModI (tOp rAddI (tOp (rIxL K) (tVar 0) (tC (.int 2))) (tC (.int 5))) (tC (.int 8))))) (tC (.int 64))) (tVar 1)))))))))))
end DL

set_option Elab.async false
set_option linter.all false
/-! LM1: parts as rationals, their sizes -/
namespace DL
/-- the height of a part -/
def hgt (q : Rat) : Nat := q.num.natAbs + q.den
theorem hgt_pos (q : Rat) : 0 < hgt q := by have := q.den_pos; unfold hgt; omega
/-- the bits of a part -/
def sz (q : Rat) : Nat := (hgt q).log2 + 1
theorem hgt_lt (q : Rat) : hgt q < 2 ^ sz q := by unfold sz; exact Nat.lt_log2_self
theorem num_lt {q : Rat} {k : Nat} (h : sz q ≤ k) : q.num.natAbs < 2 ^ k := by
  have h1 := hgt_lt q
  have h2 : (2 : Nat) ^ sz q ≤ 2 ^ k := Nat.pow_le_pow_right (by decide) h
  have := q.den_pos
  unfold hgt at h1; omega
theorem den_lt {q : Rat} {k : Nat} (h : sz q ≤ k) : q.den < 2 ^ k := by
  have h1 := hgt_lt q
  have h2 : (2 : Nat) ^ sz q ≤ 2 ^ k := Nat.pow_le_pow_right (by decide) h
  unfold hgt at h1; omega
theorem sz_of {q : Rat} {k : Nat} (h : hgt q < 2 ^ k) (hk : 0 < k) : sz q ≤ k := by
  have := hgt_pos q
  have h2 := (Nat.log2_lt (by omega)).mpr h
  unfold sz; omega
theorem sz_pos (q : Rat) : 0 < sz q := Nat.succ_pos _
theorem sz_op {q r t : Rat} (h : hgt t ≤ hgt q * hgt r) : sz t ≤ sz q + sz r := by
  refine sz_of (Nat.lt_of_le_of_lt h ?_) (by have := sz_pos q; omega)
  rw [Nat.pow_add]
  exact Nat.mul_lt_mul_of_lt_of_lt (hgt_lt q) (hgt_lt r)
theorem hgt_divInt (a b : Int) (h : b ≠ 0) : hgt (Rat.divInt a b) ≤ a.natAbs + b.natAbs := by
  unfold hgt
  rw [Rat.num_divInt, Rat.den_divInt, if_neg h]
  have h1 : (b.sign * a / ((b.gcd a : Nat) : Int)).natAbs ≤ a.natAbs := by
    refine Nat.le_trans (Int.natAbs_ediv_le_natAbs _ _) ?_
    rw [Int.natAbs_mul, Int.natAbs_sign_of_ne_zero h]
    omega
  have h2 : b.natAbs / b.gcd a ≤ b.natAbs := Nat.div_le_self _ _
  omega
theorem hgt_mk (a : Int) (b : Nat) (h : b ≠ 0) : hgt (mkRat a b) ≤ a.natAbs + b := by
  have := hgt_divInt a b (by omega)
  rwa [Rat.divInt_ofNat, Int.natAbs_natCast] at this
theorem hgt_mul2 (a c : Int) (b d : Nat) (x : Int) (h : x.natAbs ≤ a.natAbs * d + c.natAbs * b) : x.natAbs + b * d ≤ (a.natAbs + b) * (c.natAbs + d) := by
  have e : (a.natAbs + b) * (c.natAbs + d) = a.natAbs * c.natAbs + a.natAbs * d + (b * c.natAbs + b * d) := by rw [Nat.add_mul, Nat.mul_add, Nat.mul_add]
  rw [e, Nat.mul_comm b c.natAbs]; omega
theorem sz_add (q r : Rat) : sz (q + r) ≤ sz q + sz r := by
  refine sz_op ?_
  rw [Rat.add_def']
  refine Nat.le_trans (hgt_mk _ _ (Nat.mul_ne_zero q.den_nz r.den_nz)) ?_
  refine hgt_mul2 q.num r.num q.den r.den _ (Nat.le_trans (Int.natAbs_add_le _ _) ?_)
  rw [Int.natAbs_mul, Int.natAbs_mul]; simp
theorem sz_sub (q r : Rat) : sz (q - r) ≤ sz q + sz r := by
  refine sz_op ?_
  rw [Rat.sub_def']
  refine Nat.le_trans (hgt_mk _ _ (Nat.mul_ne_zero q.den_nz r.den_nz)) ?_
  refine hgt_mul2 q.num r.num q.den r.den _ (Nat.le_trans (Int.natAbs_sub_le _ _) ?_)
  rw [Int.natAbs_mul, Int.natAbs_mul]; simp
theorem sz_mul (q r : Rat) : sz (q * r) ≤ sz q + sz r := by
  refine sz_op ?_
  rw [Rat.mul_def']
  refine Nat.le_trans (hgt_mk _ _ (Nat.mul_ne_zero q.den_nz r.den_nz)) ?_
  rw [Int.natAbs_mul]
  show _ ≤ (q.num.natAbs + q.den) * (r.num.natAbs + r.den)
  rw [Nat.add_mul, Nat.mul_add, Nat.mul_add]; omega
theorem sz_int {i : Int} {k : Nat} (h : i.natAbs + 1 < 2 ^ k) : sz (i : Rat) ≤ k := by
  refine sz_of ?_ ?_
  · unfold hgt; rw [Rat.num_intCast, Rat.den_intCast]; exact h
  · cases k with
    | zero => simp at h
    | succ k => omega
theorem sz_di {a b : Int} {k : Nat} (hb : b ≠ 0) (h : a.natAbs + b.natAbs < 2 ^ k) : sz (Rat.divInt a b) ≤ k := by
  refine sz_of (Nat.lt_of_le_of_lt (hgt_divInt a b hb) h) ?_
  cases k with
  | zero => simp at h; omega
  | succ k => omega
theorem sz_zero : sz 0 = 1 := by decide +kernel
theorem sz_one : sz 1 = 2 := by decide +kernel
/-- a pair in lowest terms, of two whole numbers -/
def nrm' (a b : Int) : Int × Int := ((if 0 < b then a else -a) / ((Nat.gcd a.natAbs b.natAbs : Nat) : Int), ((b.natAbs : Nat) : Int) / ((Nat.gcd a.natAbs b.natAbs : Nat) : Int))
theorem nrm_di {a b : Int} (h : b ≠ 0) : nrm' a b = ((Rat.divInt a b).num, ((Rat.divInt a b).den : Int)) := by
  unfold nrm'
  rw [Rat.num_divInt, Rat.den_divInt, if_neg h]
  have e : Int.gcd b a = Nat.gcd a.natAbs b.natAbs := by rw [Int.gcd_comm]; rfl
  rw [e]
  congr 1
  by_cases hb : 0 < b
  · rw [if_pos hb, Int.sign_eq_one_of_pos hb, Int.one_mul]
  · rw [if_neg hb, Int.sign_eq_neg_one_of_neg (by omega), Int.neg_mul, Int.one_mul]
theorem di_add (q r : Rat) : Rat.divInt (q.num * r.den + r.num * q.den) (q.den * r.den) = q + r := by
  rw [Rat.add_def', ← Rat.divInt_ofNat]; simp
theorem di_sub (q r : Rat) : Rat.divInt (q.num * r.den - r.num * q.den) (q.den * r.den) = q - r := by
  rw [Rat.sub_def', ← Rat.divInt_ofNat]; simp
theorem di_mul (q r : Rat) : Rat.divInt (q.num * r.num) (q.den * r.den) = q * r := by
  rw [Rat.mul_def', ← Rat.divInt_ofNat]; simp
theorem lt_q (q r : Rat) : (q.num * (r.den : Int) < r.num * (q.den : Int)) ↔ q < r := (Rat.lt_iff q r).symm
theorem den0 (q : Rat) : (q.den : Int) ≠ 0 := by have := q.den_pos; omega
theorem num0 {q : Rat} (h : q ≠ 0) : q.num ≠ 0 := fun z => h (Rat.num_eq_zero.mp z)
end DL

set_option Elab.async false
set_option linter.all false
/-! LM2: lines -/
namespace DL
abbrev Kn := List (Rat × Rat)
def kn (ks : Kn) (i : Nat) : Rat × Rat := ks.getD i (0, 0)
/-- the slope behind a knot -/
def slp (ks : Kn) (s : Rat) (i : Nat) : Rat := if i + 1 < ks.length then ((kn ks (i + 1)).2 - (kn ks i).2) / ((kn ks (i + 1)).1 - (kn ks i).1) else s
def Rising (ks : Kn) : Prop := ∀ i, i + 1 < ks.length → (kn ks i).1 < (kn ks (i + 1)).1
/-- the number of the last knot no greater -/
structure AtK (ks : Kn) (x : Rat) (i : Nat) : Prop where
  lt : i < ks.length
  le : (kn ks i).1 ≤ x
  nx : i + 1 < ks.length → x < (kn ks (i + 1)).1
def yOf (ks : Kn) (s : Rat) (x : Rat) (i : Nat) : Rat := (kn ks i).2 + slp ks s i * (x - (kn ks i).1)
open Classical in
/-- the line's y -/
noncomputable def yAt (ks : Kn) (s : Rat) (x : Rat) : Rat := if h : ∃ i, AtK ks x i then yOf ks s x (choose h) else 0
/-- all parts of a line within a size -/
structure KsB (B : Nat) (ks : Kn) (s : Rat) : Prop where
  x : ∀ i, i < ks.length → sz (kn ks i).1 ≤ B
  y : ∀ i, i < ks.length → sz (kn ks i).2 ≤ B
  s : sz s ≤ B
/-- a line that can be asked -/
structure Ln (B : Nat) (ks : Kn) (s : Rat) : Prop where
  b : KsB B ks s
  pos : 0 < ks.length
  fst : (kn ks 0).1 = 0
  ris : Rising ks
/-- an index loop: the last so far that is no greater -/
def lastIx (ks : Kn) (x : Rat) : Nat → Nat
  | 0 => 0
  | n + 1 => if x < (kn ks n).1 then lastIx ks x n else n
end DL

set_option Elab.async false
set_option linter.all false
set_option maxRecDepth 100000
set_option maxHeartbeats 4000000
/-! LQ1: parts reckoned, as rationals -/
namespace DL
open PySem PySem.Spec PyProof.Rows L2
def qp (q : Rat) : PyData := .tuple [.int q.num, .int (q.den : Int)]
theorem nrm_eq (a b : Int) : nrm a b = nrm' a b := rfl
theorem qp_di {a b : Int} (h : b ≠ 0) : pr (nrm a b) = qp (Rat.divInt a b) := by rw [nrm_eq, nrm_di h]; rfl
def TLow : List PyData → (PyData → Prop) → Prop := fun ds Φ => ∃ a b : Int, ds = [.int a, .int b] ∧ b ≠ 0 ∧ a.natAbs < 2 ^ 8000 ∧ b.natAbs < 2 ^ 8000 ∧ Φ (qp (Rat.divInt a b))
theorem TLow.part {ds : List PyData} {Φ : PyData → Prop} (h : TLow ds Φ) : TPart ds Φ := by
  obtain ⟨a, b, e, h1, h2, h3, h4⟩ := h
  exact ⟨a, b, e, h1, h2, h3, by rw [qp_di h1]; exact h4⟩
def TQ2 (P : Rat → Rat → Prop) (f : Rat → Rat → PyData) : List PyData → (PyData → Prop) → Prop := fun ds Φ => ∃ q r : Rat, ds = [qp q, qp r] ∧ sz q ≤ 3800 ∧ sz r ≤ 3800 ∧ P q r ∧ Φ (f q r)
def TAdQ := TQ2 (fun _ _ => True) fun q r => qp (q + r)
def TSbQ := TQ2 (fun _ _ => True) fun q r => qp (q - r)
def TMlQ := TQ2 (fun _ _ => True) fun q r => qp (q * r)
def TDvQ := TQ2 (fun _ r => r ≠ 0) fun q r => qp (q / r)
def TLtQ := TQ2 (fun _ _ => True) fun q r => .bool (decide (q < r))
section
variable {q r : Rat} {Φ : PyData → Prop}
theorem tAdQ (h1 : sz q ≤ 3800) (h2 : sz r ≤ 3800) (h : Φ (qp (q + r))) : TAdQ [qp q, qp r] Φ := ⟨q, r, rfl, h1, h2, trivial, h⟩
theorem tSbQ (h1 : sz q ≤ 3800) (h2 : sz r ≤ 3800) (h : Φ (qp (q - r))) : TSbQ [qp q, qp r] Φ := ⟨q, r, rfl, h1, h2, trivial, h⟩
theorem tMlQ (h1 : sz q ≤ 3800) (h2 : sz r ≤ 3800) (h : Φ (qp (q * r))) : TMlQ [qp q, qp r] Φ := ⟨q, r, rfl, h1, h2, trivial, h⟩
theorem tLtQ (h1 : sz q ≤ 3800) (h2 : sz r ≤ 3800) (h : Φ (.bool (decide (q < r)))) : TLtQ [qp q, qp r] Φ := ⟨q, r, rfl, h1, h2, trivial, h⟩
end
local macro_rules | `(tactic| walk_at "dl") => `(tactic| repeat' (first
  | with_reducible refine wd_isTy ?_ | with_reducible refine wd_isi ?_ | with_reducible refine wd_op ?_ | ((with_reducible show WD _ _ (tCB (rLenX _) (tCons (tVar _) tNil)) _ _); refine wd_len_scr rfl ?_) | with_reducible refine wd_cb ?_ | with_reducible refine wd_un ?_ | with_reducible refine wa_cons ?_ | with_reducible refine wa_nil ?_ | ((with_reducible show WD _ _ (tVar _) _ _); refine wd_var rfl ?_) | with_reducible refine wd_int ?_ | with_reducible refine wd_bl ?_ | with_reducible refine wd_str ?_ | with_reducible refine wd_non ?_
  | with_reducible refine do_add ?_ | with_reducible refine do_sub ?_ | ((with_reducible refine do_mod ?_ ?_); decide) | with_reducible refine do_mod ?_ ?_ | with_reducible refine do_mul ?_ ?_ | ((with_reducible refine do_div ?_ ?_); exact ⟨by decide, by decide⟩) | with_reducible refine do_div ?_ ?_ | ((with_reducible refine do_pow ?_ ?_); exact ⟨by decide, by decide, by decide⟩) | with_reducible refine do_pow ?_ ?_
  | with_reducible refine do_lt ?_ | with_reducible refine do_le ?_ | with_reducible refine do_gt ?_ | with_reducible refine do_ge ?_ | with_reducible refine du_neg ?_
  | with_reducible refine do_eqi ?_ | with_reducible refine do_nei ?_ | with_reducible refine do_eqs ?_ | with_reducible refine do_nes ?_ | with_reducible refine dc_abs ?_ | with_reducible refine dc_min ?_ | with_reducible refine dc_max ?_ | with_reducible refine dc_lenL ?_ | with_reducible refine dc_lenT ?_ | with_reducible refine dc_gcd ?_
  | ((with_reducible show DO _ (rIxT _) _ _ _); refine do_ixT rfl ?_) | ((with_reducible show DO _ (rIxL _) _ _ _); refine do_ixL rfl ?_) | ((with_reducible refine do_catL ?_ ?_); exact Nat.le_of_ble_eq_true rfl) | with_reducible refine do_catL ?_ ?_ | ((with_reducible show And (List.length _ ≤ sizeLine) _); refine ⟨Nat.le_of_ble_eq_true rfl, ?_⟩)
  | with_reducible refine wd_dnew ?_ | with_reducible refine wd_call0 ?_ | with_reducible refine tAdQ ?_ ?_ ?_ | with_reducible refine tSbQ ?_ ?_ ?_ | with_reducible refine tMlQ ?_ ?_ ?_ | with_reducible refine tDvQ ?_ ?_ ?_ ?_ | with_reducible refine tLtQ ?_ ?_ ?_ | with_reducible refine dc_str ?_ ?_ | with_reducible refine wd_tup ?_ | with_reducible refine wd_lst ?_ | with_reducible refine wt_test ?_ | with_reducible refine wt_B ?_ | with_reducible refine wt_not ?_ | with_reducible refine wt_and ?_ | with_reducible refine wt_or ?_ | with_reducible refine wd_ifE ?_ | with_reducible refine wd_andV ?_ | with_reducible refine wd_orV ?_ | with_reducible refine wd_notV ?_
  | with_reducible refine ws_seq ?_ | with_reducible refine ws_next ?_ | with_reducible refine ws_asg ?_ | with_reducible refine ws_ret ?_ | with_reducible refine ws_retN ?_ | with_reducible refine ws_if ?_ | with_reducible refine ws_par ?_ | with_reducible refine ws_unp2 ?_
  | with_reducible refine if_t ?_ | with_reducible refine if_f ?_ | with_reducible refine if_nf ?_ | with_reducible refine if_nt ?_
  | ((with_reducible show Exists _); first | refine ⟨_, kitInt _, ?_⟩ | refine ⟨_, kitBool _, ?_⟩ | refine ⟨_, kitTup _, ?_⟩ | refine ⟨_, kitList _, ?_⟩ | refine ⟨_, rfl, ?_⟩ | refine ⟨_, _, rfl, ?_⟩ | fail) | fail))
def t_lowq (K : PySem.W.Frag) : TS :=
  (tSeq (tPar 2 3 (tCons (tCB rAbsX (tCons (tVar 0) tNil)) (tCons (tCB rAbsX (tCons (tVar 1) tNil)) tNil)))
    (tSeq (tWhile (tTest (tOp rGt (tVar 3) (tC (.int 0)))) (tPar 2 3 (tCons (tVar 3) (tCons (tOp rModI (tVar 2) (tVar 3)) tNil))))
    (tSeq (tAsg (tIf (tTest (tOp rGt (tVar 1) (tC (.int 0)))) (tVar 2) (tOp rSubI (tC (.int 0)) (tVar 2))) (gName 4))
    (tRet (tTup (tCons (tOp rDivI (tVar 0) (tVar 4)) (tCons (tOp rDivI (tVar 1) (tVar 4)) tNil)))))))
def t_addq (K : PySem.W.Frag) : TS :=
  (tRet (tCall (spP K TLow) [] E0 (tCons (tOp rAddI (tOp rMulI (tOp (rIxT K) (tVar 0) (tC (.int 0))) (tOp (rIxT K) (tVar 1) (tC (.int 1)))) (tOp rMulI (tOp (rIxT K) (tVar 1) (tC (.int 0))) (tOp (rIxT K) (tVar 0) (tC (.int 1))))) (tCons (tOp rMulI (tOp (rIxT K) (tVar 0) (tC (.int 1))) (tOp (rIxT K) (tVar 1) (tC (.int 1)))) tNil))))
def t_subq (K : PySem.W.Frag) : TS :=
  (tRet (tCall (spP K TLow) [] E0 (tCons (tOp rSubI (tOp rMulI (tOp (rIxT K) (tVar 0) (tC (.int 0))) (tOp (rIxT K) (tVar 1) (tC (.int 1)))) (tOp rMulI (tOp (rIxT K) (tVar 1) (tC (.int 0))) (tOp (rIxT K) (tVar 0) (tC (.int 1))))) (tCons (tOp rMulI (tOp (rIxT K) (tVar 0) (tC (.int 1))) (tOp (rIxT K) (tVar 1) (tC (.int 1)))) tNil))))
def t_mulq (K : PySem.W.Frag) : TS :=
  (tRet (tCall (spP K TLow) [] E0 (tCons (tOp rMulI (tOp (rIxT K) (tVar 0) (tC (.int 0))) (tOp (rIxT K) (tVar 1) (tC (.int 0)))) (tCons (tOp rMulI (tOp (rIxT K) (tVar 0) (tC (.int 1))) (tOp (rIxT K) (tVar 1) (tC (.int 1)))) tNil))))
def t_divq (K : PySem.W.Frag) : TS :=
  (tRet (tCall (spP K TLow) [] E0 (tCons (tOp rMulI (tOp (rIxT K) (tVar 0) (tC (.int 0))) (tOp (rIxT K) (tVar 1) (tC (.int 1)))) (tCons (tOp rMulI (tOp (rIxT K) (tVar 0) (tC (.int 1))) (tOp (rIxT K) (tVar 1) (tC (.int 0)))) tNil))))
def t_ltq (K : PySem.W.Frag) : TS :=
  (tRet (tOp rLt (tOp rMulI (tOp (rIxT K) (tVar 0) (tC (.int 0))) (tOp (rIxT K) (tVar 1) (tC (.int 1)))) (tOp rMulI (tOp (rIxT K) (tVar 1) (tC (.int 0))) (tOp (rIxT K) (tVar 0) (tC (.int 1))))))
theorem q39 {q : Rat} (h : sz q ≤ 3800) : q.num.natAbs < 2 ^ 3900 := Nat.lt_of_lt_of_le (num_lt h) (Nat.pow_le_pow_right (by decide) (by decide))
theorem d39 {q : Rat} (h : sz q ≤ 3800) : ((q.den : Int)).natAbs < 2 ^ 3900 := Nat.lt_of_lt_of_le (den_lt h) (Nat.pow_le_pow_right (by decide) (by decide))
theorem ws_addq {K : PySem.W.Frag} {ds : List PyData} {Φ : PyData → Prop} (h : TAdQ ds Φ) : WS K S0 (t_addq K) (rhoOf 2 ds) { nx := fun _ => Φ .none, rt := fun d _ => Φ d } := by
  obtain ⟨q, r, rfl, h1, h2, _, hΦ⟩ := h
  show WS K S0 (t_addq K) [.dat (.tuple [.int q.num, .int (q.den : Int)]), .dat (.tuple [.int r.num, .int (r.den : Int)])] _
  unfold t_addq
  walk_at "dl"
  · exact Wd4.mul (q39 h1) (d39 h2)
  · exact Wd4.mul (q39 h2) (d39 h1)
  · exact Wd4.mul (d39 h1) (d39 h2)
  · exact ⟨_, _, rfl, Int.mul_ne_zero (den0 q) (den0 r), add80 (lt78 (q39 h1) (d39 h2)) (lt78 (q39 h2) (d39 h1)), lt80 (d39 h1) (d39 h2), by rw [di_add]; exact hΦ⟩
theorem ws_subq {K : PySem.W.Frag} {ds : List PyData} {Φ : PyData → Prop} (h : TSbQ ds Φ) : WS K S0 (t_subq K) (rhoOf 2 ds) { nx := fun _ => Φ .none, rt := fun d _ => Φ d } := by
  obtain ⟨q, r, rfl, h1, h2, _, hΦ⟩ := h
  show WS K S0 (t_subq K) [.dat (.tuple [.int q.num, .int (q.den : Int)]), .dat (.tuple [.int r.num, .int (r.den : Int)])] _
  unfold t_subq
  walk_at "dl"
  · exact Wd4.mul (q39 h1) (d39 h2)
  · exact Wd4.mul (q39 h2) (d39 h1)
  · exact Wd4.mul (d39 h1) (d39 h2)
  · exact ⟨_, _, rfl, Int.mul_ne_zero (den0 q) (den0 r), sub80 (lt78 (q39 h1) (d39 h2)) (lt78 (q39 h2) (d39 h1)), lt80 (d39 h1) (d39 h2), by rw [di_sub]; exact hΦ⟩
theorem ws_mulq {K : PySem.W.Frag} {ds : List PyData} {Φ : PyData → Prop} (h : TMlQ ds Φ) : WS K S0 (t_mulq K) (rhoOf 2 ds) { nx := fun _ => Φ .none, rt := fun d _ => Φ d } := by
  obtain ⟨q, r, rfl, h1, h2, _, hΦ⟩ := h
  show WS K S0 (t_mulq K) [.dat (.tuple [.int q.num, .int (q.den : Int)]), .dat (.tuple [.int r.num, .int (r.den : Int)])] _
  unfold t_mulq
  walk_at "dl"
  · exact Wd4.mul (q39 h1) (q39 h2)
  · exact Wd4.mul (d39 h1) (d39 h2)
  · exact ⟨_, _, rfl, Int.mul_ne_zero (den0 q) (den0 r), lt80 (q39 h1) (q39 h2), lt80 (d39 h1) (d39 h2), by rw [di_mul]; exact hΦ⟩
theorem ws_ltq {K : PySem.W.Frag} {ds : List PyData} {Φ : PyData → Prop} (h : TLtQ ds Φ) : WS K S0 (t_ltq K) (rhoOf 2 ds) { nx := fun _ => Φ .none, rt := fun d _ => Φ d } := by
  obtain ⟨q, r, rfl, h1, h2, h0, hΦ⟩ := h
  show WS K S0 (t_ltq K) [.dat (.tuple [.int q.num, .int (q.den : Int)]), .dat (.tuple [.int r.num, .int (r.den : Int)])] _
  unfold t_ltq
  walk_at "dl"
  · exact Wd4.mul (q39 h1) (d39 h2)
  · exact Wd4.mul (q39 h2) (d39 h1)
  · have e : decide (q.num * (r.den : Int) < r.num * (q.den : Int)) = decide (q < r) := decide_eq_decide.mpr (lt_q q r)
    rw [e]; exact hΦ
end DL

set_option Elab.async false
set_option linter.all false
set_option maxRecDepth 100000
set_option maxHeartbeats 4000000
/-! LQ2: slices as data; lines asked -/
namespace DL
open PySem PySem.Spec PyProof.Rows L2
def WO (K : PySem.W.Frag) (S : Stt) (to : TO) (ρ : Rho) (Θ : Option Int → Rho → Prop) : Prop :=
  ∀ H0 N0 Z N σ H, EnvD K S H0 N0 Z N σ H ρ → ∀ Q : Option Int → Hp → Prop, (∀ o ρ' H', Θ o ρ' → EnvD K S H0 N0 Z N σ H' ρ' → Keep N H H' → Q o H') → to σ H Q
def cutD (ds : List PyData) (lo hi : Option Int) : List PyData := (ds.drop (HT.sIx ds.length 0 lo)).take (HT.sIx ds.length ds.length hi - HT.sIx ds.length 0 lo)
section
variable {K : PySem.W.Frag} {S : Stt} {ρ : Rho} {Φ : PyData → Rho → Prop} {Ψ : PyData → Prop}
theorem wo_none {Θ : Option Int → Rho → Prop} (h : Θ none ρ) : WO K S tNoPart ρ Θ := fun H0 N0 Z N σ H E Q q => q none ρ H h E Keep.refl
theorem wo_part {te : TE} {Θ : Option Int → Rho → Prop} (h : WD K S te ρ fun d ρ1 => ∃ i, d = .int i ∧ Θ (some i) ρ1) : WO K S (tPart te) ρ Θ := fun H0 N0 Z N σ H E Q q =>
  h H0 N0 Z N σ H E _ fun v d ρ1 H1 ⟨i, e, f⟩ E1 k1 d1 => by
    subst e
    exact ⟨i, d1.int_inv, q (some i) ρ1 H1 f E1 k1⟩
theorem DqAll.cut {N : Av} {H : Hp} {xs : List V} {ds : List PyData} {lo hi : Option Int} (h : DqAll K N H xs ds) : DqAll K N H (cutV xs lo hi) (cutD ds lo hi) := by
  unfold cutV cutD
  rw [h.len]
  exact (h.drop _).take _
theorem wd_slA {ta : TE} {tl th : TO} (h : WD K S ta ρ fun x ρ1 => ∃ ds, x = .tuple ds ∧ WO K S tl ρ1 fun lo ρ2 => WO K S th ρ2 fun hi ρ3 => Φ (.tuple (cutD ds lo hi)) ρ3) : WD K S (tSl (rSlA K) ta tl th) ρ Φ := fun H0 N0 Z N σ H E Q q =>
  h H0 N0 Z N σ H E _ fun v x ρ1 H1 ⟨ds, e, f⟩ E1 k1 d1 => f H0 N0 Z N σ H1 E1 _ fun lo ρ2 H2 g E2 k2 => g H0 N0 Z N σ H2 E2 _ fun hi ρ3 H3 z E3 k3 => by
    subst e
    have d3 := (d1.keep k2).keep k3
    obtain ⟨p, xs, rfl, _, h1, h2⟩ := Dq.tup_inv d3
    refine ⟨p, xs, rfl, h1, fun w => ?_, fun w r hr => ?_⟩
    · have e : cutD ds lo hi = ds := by
        unfold cutD
        have hl := h2.len
        rw [← hl, w.1, w.2, List.drop_zero, Nat.sub_zero]
        exact List.take_of_length_le (by omega)
      have z' : Φ (.tuple (cutD ds lo hi)) ρ3 := z
      rw [e] at z'
      exact q _ _ ρ3 H3 z' E3 ((k1.trans k2).trans k3) d3
    · have s := same_new hr (.tup (cutV xs lo hi))
      exact q _ _ ρ3 _ z (E3.ext s) (((k1.trans k2).trans k3).trans (Keep.of s)) (Dq.tup (fresh_av E3.trk hr) upd_same ((h2.cut).keep (Keep.of s)))
theorem do_ixTn {ds : List PyData} {i : Int} {k : Nat} {d : PyData} (e : i = k) (h : ds[k]? = some d) (f : Ψ d) : DO K (rIxT K) (.tuple ds) (.int i) Ψ := by
  subst e; exact do_ixT (atI_nat h) f
theorem do_ixLn {ds : List PyData} {i : Int} {k : Nat} {d : PyData} (e : i = k) (h : ds[k]? = some d) (f : Ψ d) : DO K (rIxL K) (.list ds) (.int i) Ψ := by
  subst e; exact do_ixL (atI_nat h) f
end
/-! ### lines as data -/
def kD (p : Rat × Rat) : PyData := .tuple [qp p.1, qp p.2]
abbrev knD (ks : Kn) : PyData := .tuple (ks.map kD)
def lnD (ks : Kn) (s : Rat) : PyData := .tuple [knD ks, qp s]
structure Lq (B : Nat) (ks : Kn) (s : Rat) : Prop where
  l : Ln B ks s
  len : ks.length ≤ 100000
  B0 : 0 < B
def TSlope : List PyData → (PyData → Prop) → Prop := fun ds Φ => ∃ (ks : Kn) (s : Rat) (i B : Nat), ds = [lnD ks s, .int i] ∧ Lq B ks s ∧ 2 * B ≤ 3800 ∧ i < ks.length ∧ Φ (qp (slp ks s i))
def TSlopes : List PyData → (PyData → Prop) → Prop := fun ds Φ => ∃ (ks : Kn) (s : Rat) (B : Nat), ds = [knD ks, qp s] ∧ KsB B ks s ∧ Rising ks ∧ 0 < ks.length ∧ ks.length ≤ 100000 ∧ 2 * B ≤ 3800 ∧ Φ (.list ((List.range ks.length).map fun i => qp (slp ks s i)))
def TNoLater : List PyData → (PyData → Prop) → Prop := fun ds Φ => ∃ (ks : Kn) (x : Rat), ds = [knD ks, qp x] ∧ Rising ks ∧ 0 < ks.length ∧ ks.length ≤ 100000 ∧ (kn ks 0).1 ≤ x ∧ sz x ≤ 3800 ∧ (∀ i, i < ks.length → sz (kn ks i).1 ≤ 3800) ∧ ∀ i : Nat, AtK ks x i → Φ (.int i)
def THeight : List PyData → (PyData → Prop) → Prop := fun ds Φ => ∃ (ks : Kn) (s x : Rat) (i B C : Nat), ds = [lnD ks s, .int i, qp x] ∧ Lq B ks s ∧ i < ks.length ∧ sz x ≤ C ∧ 5 * B + C ≤ 3800 ∧ Φ (qp (yOf ks s x i))
def TYat : List PyData → (PyData → Prop) → Prop := fun ds Φ => ∃ (ks : Kn) (s x : Rat) (B C : Nat), ds = [lnD ks s, qp x] ∧ Lq B ks s ∧ 0 ≤ x ∧ sz x ≤ C ∧ 5 * B + C ≤ 3800 ∧ Φ (qp (yAt ks s x))
local macro_rules | `(tactic| walk_at "dl") => `(tactic| repeat' (first
  | with_reducible refine wd_isTy ?_ | with_reducible refine wd_isi ?_ | with_reducible refine wd_op ?_ | ((with_reducible show WD _ _ (tCB (rLenX _) (tCons (tVar _) tNil)) _ _); refine wd_len_scr rfl ?_) | with_reducible refine wd_cb ?_ | with_reducible refine wd_un ?_ | with_reducible refine wa_cons ?_ | with_reducible refine wa_nil ?_ | ((with_reducible show WD _ _ (tVar _) _ _); refine wd_var rfl ?_) | with_reducible refine wd_int ?_ | with_reducible refine wd_bl ?_ | with_reducible refine wd_str ?_ | with_reducible refine wd_non ?_
  | with_reducible refine do_add ?_ | with_reducible refine do_sub ?_ | ((with_reducible refine do_mod ?_ ?_); decide) | with_reducible refine do_mod ?_ ?_ | with_reducible refine do_mul ?_ ?_ | ((with_reducible refine do_div ?_ ?_); exact ⟨by decide, by decide⟩) | with_reducible refine do_div ?_ ?_ | ((with_reducible refine do_pow ?_ ?_); exact ⟨by decide, by decide, by decide⟩) | with_reducible refine do_pow ?_ ?_
  | with_reducible refine do_lt ?_ | with_reducible refine do_le ?_ | with_reducible refine do_gt ?_ | with_reducible refine do_ge ?_ | with_reducible refine du_neg ?_
  | with_reducible refine do_eqi ?_ | with_reducible refine do_nei ?_ | with_reducible refine do_eqs ?_ | with_reducible refine do_nes ?_ | with_reducible refine dc_abs ?_ | with_reducible refine dc_min ?_ | with_reducible refine dc_max ?_ | with_reducible refine dc_lenL ?_ | with_reducible refine dc_lenT ?_ | with_reducible refine dc_gcd ?_
  | ((with_reducible show DO _ (rIxT _) _ _ _); refine do_ixT rfl ?_) | ((with_reducible show DO _ (rIxL _) _ _ _); refine do_ixL rfl ?_) | ((with_reducible refine do_catL ?_ ?_); exact Nat.le_of_ble_eq_true rfl) | with_reducible refine do_catL ?_ ?_ | ((with_reducible show And (List.length _ ≤ sizeLine) _); refine ⟨Nat.le_of_ble_eq_true rfl, ?_⟩)
  | with_reducible refine wd_dnew ?_ | with_reducible refine wd_call0 ?_ | with_reducible refine tAdQ (by omega) (by omega) ?_ | with_reducible refine tSbQ (by omega) (by omega) ?_ | with_reducible refine tMlQ (by omega) (by omega) ?_ | with_reducible refine tDvQ (by assumption) (by omega) (by omega) ?_ | with_reducible refine tLtQ (by omega) (by omega) ?_ | with_reducible refine dc_str ?_ ?_ | with_reducible refine wd_tup ?_ | with_reducible refine wd_lst ?_ | with_reducible refine wt_test ?_ | with_reducible refine wt_B ?_ | with_reducible refine wt_not ?_ | with_reducible refine wt_and ?_ | with_reducible refine wt_or ?_ | with_reducible refine wd_ifE ?_ | with_reducible refine wd_andV ?_ | with_reducible refine wd_orV ?_ | with_reducible refine wd_notV ?_
  | with_reducible refine ws_seq ?_ | with_reducible refine ws_next ?_ | with_reducible refine ws_asg ?_ | with_reducible refine ws_ret ?_ | with_reducible refine ws_retN ?_ | with_reducible refine ws_if ?_ | with_reducible refine ws_par ?_ | with_reducible refine ws_unp2 ?_
  | with_reducible refine if_t ?_ | with_reducible refine if_f ?_ | with_reducible refine if_nf ?_ | with_reducible refine if_nt ?_
  | ((with_reducible show Exists _); first | refine ⟨_, kitInt _, ?_⟩ | refine ⟨_, kitBool _, ?_⟩ | refine ⟨_, kitTup _, ?_⟩ | refine ⟨_, kitList _, ?_⟩ | refine ⟨_, rfl, ?_⟩ | refine ⟨_, _, rfl, ?_⟩ | fail) | fail))
def t_slope (K : PySem.W.Frag) : TS :=
  (tSeq (tAsg (tVar 0) (gTup K 2 (gCons (gName 2) (gCons (gName 3) gNil))))
    (tSeq (tIfS (tTest (tOp rEq (tOp rAddI (tVar 1) (tC (.int 1))) (tCB (rLenX K) (tCons (tVar 2) tNil)))) (tRet (tVar 3)) tNext)
    (tSeq (tAsg (tCall (spP K TSbQ) [] E0 (tCons (tOp (rIxT K) (tOp (rIxT K) (tVar 2) (tOp rAddI (tVar 1) (tC (.int 1)))) (tC (.int 1))) (tCons (tOp (rIxT K) (tOp (rIxT K) (tVar 2) (tVar 1)) (tC (.int 1))) tNil))) (gName 4))
    (tRet (tCall (spP K TDvQ) [] E0 (tCons (tVar 4) (tCons (tCall (spP K TSbQ) [] E0 (tCons (tOp (rIxT K) (tOp (rIxT K) (tVar 2) (tOp rAddI (tVar 1) (tC (.int 1)))) (tC (.int 0))) (tCons (tOp (rIxT K) (tOp (rIxT K) (tVar 2) (tVar 1)) (tC (.int 0))) tNil))) tNil)))))))
def t_slopes (K : PySem.W.Frag) : TS :=
  (tSeq (tAsg (tLst tNil) (gName 2))
    (tSeq (tFor (iRng1 (tCons (tOp rSubI (tCB (rLenX K) (tCons (tVar 0) tNil)) (tC (.int 1))) tNil)) (gName 3) (tSeq (tAsg (tOp (rIxT K) (tVar 0) (tVar 3)) (gTup K 2 (gCons (gName 4) (gCons (gName 5) gNil))))
    (tSeq (tAsg (tOp (rIxT K) (tVar 0) (tOp rAddI (tVar 3) (tC (.int 1)))) (gTup K 2 (gCons (gName 6) (gCons (gName 7) gNil))))
    (tDrop (tBM K "list" rAppend (tVar 2) (tCons (tCall (spP K TDvQ) [] E0 (tCons (tCall (spP K TSbQ) [] E0 (tCons (tVar 7) (tCons (tVar 5) tNil))) (tCons (tCall (spP K TSbQ) [] E0 (tCons (tVar 6) (tCons (tVar 4) tNil))) tNil))) tNil))))))
    (tRet (tOp rCatL (tVar 2) (tLst (tCons (tVar 1) tNil))))))
def t_nolater (K : PySem.W.Frag) : TS :=
  (tSeq (tPar 2 3 (tCons (tC (.int 0)) (tCons (tCB (rLenX K) (tCons (tVar 0) tNil)) tNil)))
    (tSeq (tWhile (tTest (tOp rGt (tOp rSubI (tVar 3) (tVar 2)) (tC (.int 1)))) (tSeq (tAsg (tOp rDivI (tOp rAddI (tVar 2) (tVar 3)) (tC (.int 2))) (gName 4))
    (tIfS (tB (tCall (spP K TLtQ) [] E0 (tCons (tVar 1) (tCons (tOp (rIxT K) (tOp (rIxT K) (tVar 0) (tVar 4)) (tC (.int 0))) tNil)))) (tAsg (tVar 4) (gName 3)) (tAsg (tVar 4) (gName 2)))))
    (tRet (tVar 2))))
section
variable {K : PySem.W.Frag} {ds : List PyData} {Φ : PyData → Prop}
end
end DL

set_option Elab.async false
set_option linter.all false
set_option maxRecDepth 100000
set_option maxHeartbeats 4000000
/-! LQ3: heights of lines -/
namespace DL
open PySem PySem.Spec PyProof.Rows L2
section
variable {K : PySem.W.Frag} {Ψ : PyData → Prop}
theorem eqv_qp (q r : Rat) : PyData.eqv (qp q) (qp r) = decide (q = r) := by
  have e : PyData.eqv (qp q) (qp r) = (decide (q.num = r.num) && decide ((q.den : Int) = (r.den : Int))) := eqv_pr2 q.num q.den r.num r.den
  rw [e]
  by_cases h : q = r
  · subst h; simp
  · rw [decide_eq_false h]
    by_cases h1 : q.num = r.num
    · have h2 : ¬ ((q.den : Int) = (r.den : Int)) := fun z => h (Rat.ext h1 (by omega))
      simp [h1, h2]
    · simp [h1]
theorem sh_qp (q : Rat) : SeqAt.shaped (qp q) = true := sh_pr2 (q.num, (q.den : Int))
theorem do_eqQ {q r : Rat} (h : Ψ (.bool (decide (q = r)))) : DO K (rEqD K) (qp q) (qp r) Ψ := do_eqD (sh_qp q) (sh_qp r) (by rw [eqv_qp]; exact h)
end
local macro_rules | `(tactic| walk_at "dl") => `(tactic| repeat' (first
  | with_reducible refine wd_isTy ?_ | with_reducible refine wd_isi ?_ | with_reducible refine wd_op ?_ | ((with_reducible show WD _ _ (tCB (rLenX _) (tCons (tVar _) tNil)) _ _); refine wd_len_scr rfl ?_) | with_reducible refine wd_cb ?_ | with_reducible refine wd_un ?_ | with_reducible refine wa_cons ?_ | with_reducible refine wa_nil ?_ | ((with_reducible show WD _ _ (tVar _) _ _); refine wd_var rfl ?_) | with_reducible refine wd_int ?_ | with_reducible refine wd_bl ?_ | with_reducible refine wd_str ?_ | with_reducible refine wd_non ?_
  | with_reducible refine do_add ?_ | with_reducible refine do_sub ?_ | ((with_reducible refine do_mod ?_ ?_); decide) | with_reducible refine do_mod ?_ ?_ | with_reducible refine do_mul ?_ ?_ | ((with_reducible refine do_div ?_ ?_); exact ⟨by decide, by decide⟩) | with_reducible refine do_div ?_ ?_ | ((with_reducible refine do_pow ?_ ?_); exact ⟨by decide, by decide, by decide⟩) | with_reducible refine do_pow ?_ ?_
  | with_reducible refine do_lt ?_ | with_reducible refine do_le ?_ | with_reducible refine do_gt ?_ | with_reducible refine do_ge ?_ | with_reducible refine du_neg ?_
  | with_reducible refine do_eqi ?_ | with_reducible refine do_nei ?_ | with_reducible refine do_eqs ?_ | with_reducible refine do_nes ?_ | with_reducible refine dc_abs ?_ | with_reducible refine dc_min ?_ | with_reducible refine dc_max ?_ | with_reducible refine dc_lenL ?_ | with_reducible refine dc_lenT ?_ | with_reducible refine dc_gcd ?_
  | ((with_reducible show DO _ (rIxT _) _ _ _); refine do_ixT rfl ?_) | ((with_reducible show DO _ (rIxL _) _ _ _); refine do_ixL rfl ?_) | ((with_reducible refine do_catL ?_ ?_); exact Nat.le_of_ble_eq_true rfl) | with_reducible refine do_catL ?_ ?_ | ((with_reducible show And (List.length _ ≤ sizeLine) _); refine ⟨Nat.le_of_ble_eq_true rfl, ?_⟩)
  | with_reducible refine wd_dnew ?_ | with_reducible refine wd_call0 ?_ | with_reducible refine wd_slA ?_ | with_reducible refine wo_part ?_ | with_reducible refine wo_none ?_ | with_reducible refine do_eqQ ?_ | with_reducible refine do_neQ ?_ | with_reducible refine wi_enumT ?_ | with_reducible refine tAdQ (by omega) (by omega) ?_ | with_reducible refine tSbQ (by omega) (by omega) ?_ | with_reducible refine tMlQ (by omega) (by omega) ?_ | with_reducible refine tDvQ (by assumption) (by omega) (by omega) ?_ | with_reducible refine tLtQ (by omega) (by omega) ?_ | with_reducible refine dc_str ?_ ?_ | with_reducible refine wd_tup ?_ | with_reducible refine wd_lst ?_ | with_reducible refine wt_test ?_ | with_reducible refine wt_B ?_ | with_reducible refine wt_not ?_ | with_reducible refine wt_and ?_ | with_reducible refine wt_or ?_ | with_reducible refine wd_ifE ?_ | with_reducible refine wd_andV ?_ | with_reducible refine wd_orV ?_ | with_reducible refine wd_notV ?_
  | with_reducible refine ws_seq ?_ | with_reducible refine ws_next ?_ | with_reducible refine ws_asg ?_ | with_reducible refine ws_ret ?_ | with_reducible refine ws_retN ?_ | with_reducible refine ws_if ?_ | with_reducible refine ws_par ?_ | with_reducible refine ws_unp2 ?_
  | with_reducible refine if_t ?_ | with_reducible refine if_f ?_ | with_reducible refine if_nf ?_ | with_reducible refine if_nt ?_
  | ((with_reducible show Exists _); first | refine ⟨_, kitInt _, ?_⟩ | refine ⟨_, kitBool _, ?_⟩ | refine ⟨_, kitTup _, ?_⟩ | refine ⟨_, kitList _, ?_⟩ | refine ⟨_, rfl, ?_⟩ | refine ⟨_, _, rfl, ?_⟩ | fail) | fail))
def t_lawy (K : PySem.W.Frag) : TS :=
  (tSeq (tAsg (tC (.int 0)) (gName 2))
    (tSeq (tFor (iEnumT K (tCons (tOp (rIxT K) (tVar 0) (tC (.int 0))) tNil)) (gTup K 2 (gCons (gName 3) (gCons (gName 4) gNil))) (tIfS (tNot (tB (tCall (spP K TLtQ) [] E0 (tCons (tVar 1) (tCons (tOp (rIxT K) (tVar 4) (tC (.int 0))) tNil))))) (tAsg (tVar 3) (gName 2)) tNext))
    (tSeq (tAsg (tOp (rIxT K) (tOp (rIxT K) (tVar 0) (tC (.int 0))) (tVar 2)) (gTup K 2 (gCons (gName 5) (gCons (gName 6) gNil))))
    (tRet (tCall (spP K TAdQ) [] E0 (tCons (tVar 6) (tCons (tCall (spP K TMlQ) [] E0 (tCons (tCall (spP K TSlope) [] E0 (tCons (tVar 0) (tCons (tVar 2) tNil))) (tCons (tCall (spP K TSbQ) [] E0 (tCons (tVar 1) (tCons (tVar 5) tNil))) tNil))) tNil)))))))
def t_behind (K : PySem.W.Frag) : TS :=
  (tRet (tOp (rIxL K) (tCall (spP K TSlopes) [] E0 (tCons (tSl (rSlA K) (tOp (rIxT K) (tVar 0) (tC (.int 0))) (tPart (tVar 1)) (tPart (tOp rAddI (tVar 1) (tC (.int 2))))) (tCons (tOp (rIxT K) (tVar 0) (tC (.int 1))) tNil))) (tC (.int 0))))
def t_height (K : PySem.W.Frag) : TS :=
  (tSeq (tAsg (tOp (rIxT K) (tOp (rIxT K) (tVar 0) (tC (.int 0))) (tVar 1)) (gTup K 2 (gCons (gName 3) (gCons (gName 4) gNil))))
    (tSeq (tIfS (tTest (tOp (rEqD K) (tVar 2) (tVar 3))) (tRet (tVar 4)) tNext)
    (tRet (tCall (spP K TAdQ) [] E0 (tCons (tVar 4) (tCons (tCall (spP K TMlQ) [] E0 (tCons (tCall (spP K TSlope) [] E0 (tCons (tVar 0) (tCons (tVar 1) tNil))) (tCons (tCall (spP K TSbQ) [] E0 (tCons (tVar 2) (tCons (tVar 3) tNil))) tNil))) tNil))))))
def t_yat (K : PySem.W.Frag) : TS :=
  (tSeq (tIfS (tTest (tOp rLt (tOp (rIxT K) (tVar 1) (tC (.int 0))) (tC (.int 0)))) tNo tNext)
    (tRet (tCall (spP K THeight) [] E0 (tCons (tVar 0) (tCons (tCall (spP K TNoLater) [] E0 (tCons (tOp (rIxT K) (tVar 0) (tC (.int 0))) (tCons (tVar 1) tNil))) (tCons (tVar 1) tNil))))))
section
variable {K : PySem.W.Frag} {ds : List PyData} {Φ : PyData → Prop}
def cutK (ks : Kn) (i : Nat) : Kn := (ks.drop i).take 2
end
end DL

set_option Elab.async false
set_option linter.all false
/-! LM3: lines as they are drawn: bounds by a common bottom -/
namespace DL
/-- so many D-th parts -/
def Dv (D M : Nat) (q : Rat) : Prop := ∃ n : Int, q * (D : Rat) = (n : Rat) ∧ n.natAbs ≤ M
theorem Dv.mono {D M M' : Nat} {q : Rat} (h : Dv D M q) (k : M ≤ M') : Dv D M' q := let ⟨n, e, b⟩ := h; ⟨n, e, by omega⟩
theorem Dv.add {D M M' : Nat} {q r : Rat} (h : Dv D M q) (g : Dv D M' r) : Dv D (M + M') (q + r) := by
  obtain ⟨n, e, b⟩ := h
  obtain ⟨m, f, c⟩ := g
  exact ⟨n + m, by rw [Rat.add_mul, e, f, Rat.intCast_add], by omega⟩
theorem Dv.scale {D M : Nat} (c : Nat) {q : Rat} (h : Dv D M q) : Dv (D * c) (M * c) q := by
  obtain ⟨n, e, b⟩ := h
  refine ⟨n * c, ?_, by rw [Int.natAbs_mul]; simp; exact Nat.mul_le_mul_right c b⟩
  rw [Rat.natCast_mul, ← Rat.mul_assoc, e, Rat.intCast_mul]; rfl
theorem Dv.mul {D1 D2 M1 M2 : Nat} {q r : Rat} (h : Dv D1 M1 q) (g : Dv D2 M2 r) : Dv (D1 * D2) (M1 * M2) (q * r) := by
  obtain ⟨n, e, b⟩ := h
  obtain ⟨m, f, c⟩ := g
  refine ⟨n * m, ?_, by rw [Int.natAbs_mul]; exact Nat.mul_le_mul b c⟩
  rw [Rat.natCast_mul, Rat.intCast_mul, ← e, ← f]; grind
theorem Dv.di {a : Int} {b c : Nat} (hb : b ≠ 0) : Dv (b * c) (a.natAbs * c) (Rat.divInt a b) := by
  refine ⟨a * c, ?_, by rw [Int.natAbs_mul]; simp⟩
  have hb' : ((b : Nat) : Rat) ≠ 0 := by simpa using hb
  rw [Rat.divInt_eq_div, Rat.natCast_mul, Rat.intCast_mul, Rat.intCast_natCast, Rat.intCast_natCast, ← Rat.mul_assoc, Rat.div_mul_cancel hb']
theorem Dv.sz {D M k : Nat} {q : Rat} (h : Dv D M q) (hD : D ≠ 0) (hk : M + D < 2 ^ k) : sz q ≤ k := by
  obtain ⟨n, e, b⟩ := h
  have hD' : ((D : Nat) : Rat) ≠ 0 := by simpa using hD
  have eq : q = Rat.divInt n (D : Int) := by
    rw [Rat.divInt_eq_div, ← e, Rat.intCast_natCast, Rat.mul_div_cancel hD']
  rw [eq]
  refine sz_di (by omega) ?_
  simp; omega
theorem Dv.zero {D : Nat} : Dv D 0 0 := ⟨0, by rw [Rat.zero_mul]; rfl, by decide⟩
theorem Dv.int {n : Int} {D : Nat} : Dv D (n.natAbs * D) (n : Rat) := ⟨n * D, by rw [Rat.intCast_mul]; rfl, by rw [Int.natAbs_mul]; simp⟩
/-- the slopes that are drawn -/
structure SlopeOk (p : Nat) (s : Rat) : Prop where
  one : p = 1 → Dv 6 42 s
  more : 1 < p → ∃ m : Int, s = ((p * m : Int) : Rat) ∧ m.natAbs ≤ 7
structure StepOk (p : Nat) (t : Rat) : Prop where
  pos : 0 < t
  one : p = 1 → Dv 4 24 t
  more : 1 < p → ∃ n : Nat, t = Rat.divInt n p ∧ n ≤ 6
/-- ahead of the k-th slope -/
structure Stg (p k : Nat) (ks : Kn) (la : Option Rat) : Prop where
  len : ks.length = k + 1
  fst : (kn ks 0).1 = 0
  ris : Rising ks
  dx : ∀ i, i < ks.length → Dv (24 * p) (144 * i) (kn ks i).1
  dy : ∀ i, i < ks.length → Dv (24 * p) ((480 + 1008 * i) * p) (kn ks i).2
  nr : ∀ i, i + 2 < ks.length → slp ks 0 i ≠ slp ks 0 (i + 1)
  la : la = if k = 0 then none else some (slp ks 0 (k - 1))
/-- it bends at each knot -/
def Nrm (ks : Kn) (s : Rat) : Prop := ∀ i, i + 1 < ks.length → slp ks s i ≠ slp ks s (i + 1)
structure GoodL (m : Nat) (ks : Kn) (s : Rat) : Prop where
  l : Ln 26 ks s
  len : ks.length ≤ m
  nrm : Nrm ks s
structure SlopeB (p : Nat) (s : Rat) : Prop where
  one : p = 1 → Dv 6 36 s
  more : 1 < p → ∃ m : Int, s = ((m * p : Int) : Rat) ∧ m.natAbs ≤ 6
/-! what is drawn -/
end DL

set_option Elab.async false
set_option linter.all false
set_option maxRecDepth 100000
set_option maxHeartbeats 4000000
/-! LQ4: a drawn line -/
namespace DL
open PySem PySem.Spec PyProof.Rows L2
section
variable {K : PySem.W.Frag} {S : Stt} {ρ : Rho} {Φ : PyData → Rho → Prop} {Ψ : PyData → Prop}
def oqD : Option Rat → PyData
  | none => .none
  | some q => qp q
end
def TLine : Nat → List PyData → (PyData → Nat → Prop) → Prop := fun B ds Φ => ∃ m : Nat, ds = [.int m] ∧ 3 ≤ m ∧ m ≤ 60 ∧ B ≤ 2 ^ 39 ∧ ∀ ks s B', B' ≤ B + 300 → GoodL m ks s → Φ (lnD ks s) B'
local macro_rules | `(tactic| walk_at "dl") => `(tactic| repeat' (first
  | with_reducible refine wd_isTy ?_ | with_reducible refine wd_isi ?_ | with_reducible refine wd_op ?_ | ((with_reducible show WD _ _ (tCB (rLenX _) (tCons (tVar _) tNil)) _ _); refine wd_len_scr rfl ?_) | with_reducible refine wd_cb ?_ | with_reducible refine wd_un ?_ | with_reducible refine wa_cons ?_ | with_reducible refine wa_nil ?_ | ((with_reducible show WD _ _ (tVar _) _ _); refine wd_var rfl ?_) | with_reducible refine wd_int ?_ | with_reducible refine wd_bl ?_ | with_reducible refine wd_str ?_ | with_reducible refine wd_non ?_
  | with_reducible refine do_add ?_ | with_reducible refine do_sub ?_ | ((with_reducible refine do_mod ?_ ?_); decide) | with_reducible refine do_mod ?_ ?_ | with_reducible refine do_mul ?_ ?_ | ((with_reducible refine do_div ?_ ?_); exact ⟨by decide, by decide⟩) | with_reducible refine do_div ?_ ?_ | ((with_reducible refine do_pow ?_ ?_); exact ⟨by decide, by decide, by decide⟩) | with_reducible refine do_pow ?_ ?_
  | with_reducible refine do_lt ?_ | with_reducible refine do_le ?_ | with_reducible refine do_gt ?_ | with_reducible refine do_ge ?_ | with_reducible refine du_neg ?_
  | with_reducible refine do_eqi ?_ | with_reducible refine do_nei ?_ | with_reducible refine do_eqs ?_ | with_reducible refine do_nes ?_ | with_reducible refine dc_abs ?_ | with_reducible refine dc_min ?_ | with_reducible refine dc_max ?_ | with_reducible refine dc_lenL ?_ | with_reducible refine dc_lenT ?_ | with_reducible refine dc_gcd ?_
  | ((with_reducible show DO _ (rIxT _) _ _ _); refine do_ixT rfl ?_) | ((with_reducible show DO _ (rIxL _) _ _ _); refine do_ixL rfl ?_) | ((with_reducible refine do_catL ?_ ?_); exact Nat.le_of_ble_eq_true rfl) | with_reducible refine do_catL ?_ ?_ | ((with_reducible show And (List.length _ ≤ sizeLine) _); refine ⟨Nat.le_of_ble_eq_true rfl, ?_⟩)
  | with_reducible refine wd_dnew ?_ | with_reducible refine wd_call0 ?_ | with_reducible refine wd_slA ?_ | with_reducible refine wo_part ?_ | with_reducible refine wo_none ?_ | with_reducible refine do_eqQ ?_ | with_reducible refine do_neQ ?_ | with_reducible refine wi_enumT ?_ | with_reducible refine tAdQ (by omega) (by omega) ?_ | with_reducible refine tSbQ (by omega) (by omega) ?_ | with_reducible refine tMlQ (by omega) (by omega) ?_ | with_reducible refine tDvQ (by assumption) (by omega) (by omega) ?_ | with_reducible refine tLtQ (by omega) (by omega) ?_ | with_reducible refine dc_str ?_ ?_ | with_reducible refine wd_tup ?_ | with_reducible refine wd_lst ?_ | with_reducible refine wt_test ?_ | with_reducible refine wt_B ?_ | with_reducible refine wt_not ?_ | with_reducible refine wt_and ?_ | with_reducible refine wt_or ?_ | with_reducible refine wd_ifE ?_ | with_reducible refine wd_andV ?_ | with_reducible refine wd_orV ?_ | with_reducible refine wd_notV ?_
  | with_reducible refine ws_seq ?_ | with_reducible refine ws_next ?_ | with_reducible refine ws_asg ?_ | with_reducible refine ws_ret ?_ | with_reducible refine ws_retN ?_ | with_reducible refine ws_if ?_ | with_reducible refine ws_par ?_ | with_reducible refine ws_unp2 ?_
  | with_reducible refine if_t ?_ | with_reducible refine if_f ?_ | with_reducible refine if_nf ?_ | with_reducible refine if_nt ?_
  | ((with_reducible show Exists _); first | refine ⟨_, kitInt _, ?_⟩ | refine ⟨_, kitBool _, ?_⟩ | refine ⟨_, kitTup _, ?_⟩ | refine ⟨_, kitList _, ?_⟩ | refine ⟨_, rfl, ?_⟩ | refine ⟨_, _, rfl, ?_⟩ | fail) | fail))
def t_line (K : PySem.W.Frag) : TS :=
  (tSeq (tAsg (tOp (rIxL K) (tLst (tCons (tOp rAddI (tC (.int 1)) (tCall (spS K FPot TTake) [] E0 (tCons (tVar 0) (tCons (tC (.int 3)) tNil)))) (tCons (tOp rAddI (tC (.int 1)) (tCall (spS K FPot TTake) [] E0 (tCons (tVar 0) (tCons (tVar 1) tNil)))) (tCons (tVar 1) tNil)))) (tCall (spS K FPot TTake) [] E0 (tCons (tVar 0) (tCons (tC (.int 3)) tNil)))) (gName 2))
    (tSeq (tAsg (tOp (rIxL K) (tLst (tCons (tC (.int 1)) (tCons (tC (.int 1)) (tCons (tC (.int 1)) (tCons (tC (.int 1)) (tCons (tC (.int 1)) (tCons (tOp (rIxL K) (tLst (tCons (tC (.int 97)) (tCons (tC (.int 101)) (tCons (tC (.int 997)) tNil)))) (tCall (spS K FPot TTake) [] E0 (tCons (tVar 0) (tCons (tC (.int 3)) tNil)))) tNil))))))) (tCall (spS K FPot TTake) [] E0 (tCons (tVar 0) (tCons (tC (.int 6)) tNil)))) (gName 3))
    (tSeq (tAsg (tLst (tCons (tTup (tCons (tTup (tCons (tC (.int 0)) (tCons (tC (.int 1)) tNil))) (tCons (tCall (spP K TLow) [] E0 (tCons (tOp rSubI (tCall (spS K FPot TTake) [] E0 (tCons (tVar 0) (tCons (tC (.int 41)) tNil))) (tC (.int 20))) (tCons (tOp (rIxL K) (tLst (tCons (tC (.int 1)) (tCons (tC (.int 2)) (tCons (tC (.int 3)) tNil)))) (tCall (spS K FPot TTake) [] E0 (tCons (tVar 0) (tCons (tC (.int 3)) tNil)))) tNil))) tNil))) tNil)) (gName 4))
    (tSeq (tAsg (tC .non) (gName 5))
    (tSeq (tFor (iRng1 (tCons (tVar 2) tNil)) (gName 6) (tSeq (tAsg (tCall (spP K TLow) [] E0 (tCons (tOp rMulI (tOp rSubI (tCall (spS K FPot TTake) [] E0 (tCons (tVar 0) (tCons (tC (.int 13)) tNil))) (tC (.int 6))) (tVar 3)) (tCons (tOp (rIxL K) (tLst (tCons (tC (.int 1)) (tCons (tC (.int 2)) (tCons (tC (.int 3)) tNil)))) (tCall (spS K FPot TTake) [] E0 (tCons (tVar 0) (tCons (tC (.int 3)) tNil)))) tNil))) (gName 7))
    (tSeq (tIfS (tTest (tOp rGt (tVar 3) (tC (.int 1)))) (tAsg (tTup (tCons (tOp rMulI (tOp rDivI (tOp rDivI (tOp (rIxT K) (tVar 7) (tC (.int 0))) (tOp (rIxT K) (tVar 7) (tC (.int 1)))) (tVar 3)) (tVar 3)) (tCons (tC (.int 1)) tNil))) (gName 7)) tNext)
    (tSeq (tIfS (tTest (tOp (rEqD K) (tVar 7) (tVar 5))) (tAsg (tCall (spP K TAdQ) [] E0 (tCons (tVar 7) (tCons (tTup (tCons (tVar 3) (tCons (tC (.int 1)) tNil))) tNil))) (gName 7)) tNext)
    (tSeq (tAsg (tVar 7) (gName 5))
    (tIfS (tTest (tOp rLt (tOp rAddI (tVar 6) (tC (.int 1))) (tVar 2))) (tSeq (tAsg (tCall (spP K TLow) [] E0 (tCons (tOp rAddI (tC (.int 1)) (tCall (spS K FPot TTake) [] E0 (tCons (tVar 0) (tCons (tC (.int 6)) tNil)))) (tCons (tOp (rIxL K) (tLst (tCons (tC (.int 1)) (tCons (tC (.int 2)) (tCons (tC (.int 4)) tNil)))) (tCall (spS K FPot TTake) [] E0 (tCons (tVar 0) (tCons (tC (.int 3)) tNil)))) tNil))) (gName 8))
    (tSeq (tIfS (tTest (tOp rGt (tVar 3) (tC (.int 1)))) (tAsg (tCall (spP K TLow) [] E0 (tCons (tOp (rIxT K) (tVar 8) (tC (.int 0))) (tCons (tVar 3) tNil))) (gName 8)) tNext)
    (tSeq (tAsg (tOp (rIxL K) (tVar 4) (tUn rNegI (tC (.int 1)))) (gTup K 2 (gCons (gName 9) (gCons (gName 10) gNil))))
    (tDrop (tBM K "list" rAppend (tVar 4) (tCons (tTup (tCons (tCall (spP K TAdQ) [] E0 (tCons (tVar 9) (tCons (tVar 8) tNil))) (tCons (tCall (spP K TAdQ) [] E0 (tCons (tVar 10) (tCons (tCall (spP K TMlQ) [] E0 (tCons (tVar 7) (tCons (tVar 8) tNil))) tNil))) tNil))) tNil)))))) tNext))))))
    (tRet (tTup (tCons (tCB (rTupOf K) (tCons (tVar 4) tNil)) (tCons (tVar 5) tNil)))))))))
section
variable {K : PySem.W.Frag} {S : Stt} {ds : List PyData} {Φ : PyData → Nat → Prop} {B : Nat}
end
end DL

set_option Elab.async false
set_option linter.all false
set_option maxRecDepth 100000
set_option maxHeartbeats 4000000
/-! LQ5: repr of lines; the pot; the cells; refusals told -/
namespace DL
open PySem PySem.Spec PyProof.Rows L2
/-! ### what may be shown -/
structure Rs (L D : Nat) (d : PyData) : Prop where
  s : d.showable = true
  h : d.hasDict = false
  l : d.shown.length ≤ L
  d : d.depth ≤ D
theorem Rs.mono {L D L' D' : Nat} {d : PyData} (h : Rs L D d) (h1 : L ≤ L') (h2 : D ≤ D') : Rs L' D' d := ⟨h.s, h.h, Nat.le_trans h.l h1, Nat.le_trans h.d h2⟩
theorem Rs.int {i : Int} {k : Nat} (hk : 0 < k) (h : i.natAbs < 2 ^ k) (h2 : k ≤ 1900) : Rs (k + 1) 0 (.int i) := by
  have hl : i.natAbs.log2 < k := log2_of (i := i) h hk
  exact ⟨decide_eq_true (show i.natAbs.log2 < 1920 by omega), rfl, by
    show (Str.ofString (toString i)).length ≤ k + 1
    rw [PySem.ofString_length]
    exact PySem.int_text_length_le (k := k) hk hl, Nat.le_refl _⟩
theorem Rs.lst {xs : List PyData} {L D n : Nat} (h : ∀ x ∈ xs, Rs L D x) (hn : xs.length ≤ n) : Rs (2 + n * (L + 2)) (D + 1) (.list xs) :=
  ⟨showableAll_of xs fun x hx => (h x hx).s, hasDictAll_of xs fun x hx => (h x hx).h, listText_le (fun x hx => (h x hx).l) hn, by
    show PyData.depthAll xs + 1 ≤ D + 1
    have := depthAll_of (n := D) xs fun x hx => (h x hx).d
    omega⟩
theorem Rs.tup {xs : List PyData} {L D n : Nat} (h : ∀ x ∈ xs, Rs L D x) (hn : xs.length ≤ n) : Rs (5 + n * (L + 2)) (D + 1) (.tuple xs) :=
  ⟨showableAll_of xs fun x hx => (h x hx).s, hasDictAll_of xs fun x hx => (h x hx).h, by
      show (tupleText (PyData.shownAll xs)).length ≤ _
      have h2 := piled_le (m := L) (PyData.shownAll xs) fun t ht => by
        obtain ⟨x, hx, rfl⟩ := shownAll_mem xs t ht
        exact (h x hx).l
      rw [shownAll_len] at h2
      have h3 : xs.length * (L + 2) ≤ n * (L + 2) := Nat.mul_le_mul_right _ hn
      have h4 : (Str.join ", " (PyData.shownAll xs)).length ≤ piled (PyData.shownAll xs) + 2 := by
        by_cases e : PyData.shownAll xs = []
        · rw [e]; decide
        · have := join_length_add _ e; omega
      unfold tupleText
      rw [strLen_append, strLen_append]
      have e1 : (Str.ofString "(").length = 1 := by decide
      have e2 : (Str.ofString (if ((PyData.shownAll xs).length == 1) = true then ",)" else ")" : String)).length ≤ 2 := by split <;> decide
      rw [e1]
      omega, by
    show PyData.depthAll xs + 1 ≤ D + 1
    have := depthAll_of (n := D) xs fun x hx => (h x hx).d
    omega⟩
theorem Rs.qp {q : Rat} {k : Nat} (hk : sz q ≤ k) (h2 : k ≤ 1900) : Rs (11 + 2 * k) 1 (DL.qp q) := by
  have k0 : 0 < k := Nat.lt_of_lt_of_le (sz_pos q) hk
  refine (Rs.tup (xs := [.int q.num, .int (q.den : Int)]) (L := k + 1) (D := 0) (n := 2) (fun x hx => ?_) (Nat.le_refl 2)).mono (by omega) (Nat.le_refl _)
  simp only [List.mem_cons, List.not_mem_nil, or_false] at hx
  rcases hx with rfl | rfl
  · exact Rs.int k0 (num_lt hk) h2
  · exact Rs.int k0 (by have := den_lt hk; simpa using this) h2
section
variable {K : PySem.W.Frag} {Ψ : PyData → Prop}
theorem dc_reprS {d : PyData} {L D : Nat} (hl : (∃ ds, d = .list ds) ∨ ∃ ds, d = .tuple ds) (h : Rs L D d) (h1 : L ≤ sizeLine) (h2 : D ≤ 50) (f : Ψ (.str d.shown)) : DC K (rRepr K) [d] Ψ :=
  dc_repr hl h.s h.h (Nat.le_trans h.l h1) (Nat.le_trans h.d h2) f
end
/-! ### the pot -/
def TPot : List PyData → (List Int → Prop) → Prop := fun ds Φ => ∃ c a : Int, ds = [.int c, .int a] ∧ 0 ≤ a ∧ a ≤ 1000000 ∧ ∀ ns, PotL ns 0 → Φ ns
def t_pot (K : PySem.W.Frag) : TS :=
  (tRet (tLst (tCons (tCB rMaxX (tCons (tC (.int 0)) (tCons (tOp rSubI (tVar 0) (tOp rPowI (tC (.int 10)) (tC (.int 18)))) tNil))) (tCons (tOp rAddI (tOp rModI (tVar 0) (tC (.int 2305843009213693951))) (tOp rMulI (tC (.int 7919)) (tVar 1))) (tCons (tC (.int 0)) tNil)))))
/-! ### the cells, folded -/
def spF (K : PySem.W.Frag) : Sp := fun vs H Q _ => ∃ (a0 : Addr) (ns : List Int) (m : Int), vs = [.ref a0, .int m] ∧ SqL K H a0 (ns.map V.int) ∧ ns.length ≤ 63 ∧ 1 ≤ m ∧ m ≤ 1000 ∧
  ∀ cs : List Int, (cs.length : Int) ≤ m → cs.length ≤ 63 → ∀ p H', H p = none → Same H H' → H' p = some (.lst (cs.map V.int)) → Q (.ref p) H'
def t_folded (K : PySem.W.Frag) : TS :=
  (tSeq (tAsg (tOp rRepL (tLst (tCons (tC (.int 0)) tNil)) (tCB rMinX (tCons (tCB (rLenX K) (tCons (tVar 0) tNil)) (tCons (tVar 1) tNil)))) (gName 2))
    (tSeq (tFor (iRng1 (tCons (tCB (rLenX K) (tCons (tVar 0) tNil)) tNil)) (gName 3) (tAsg (tOp rAddI (tOp rMulI (tOp rModI (tOp (rIxL K) (tVar 2) (tOp rModI (tVar 3) (tVar 1))) (tOp rPowI (tC (.int 10)) (tC (.int 64)))) (tC (.int 1000003))) (tOp (rIxL K) (tVar 0) (tVar 3))) (gSub (tVar 2) (tOp rModI (tVar 3) (tVar 1)) rSetL)))
    (tRet (tVar 2))))
end DL

set_option Elab.async false
set_option linter.all false
set_option maxRecDepth 100000
set_option maxHeartbeats 4000000
/-! LQ6: the word of a refusal -/
namespace DL
open PySem PySem.Spec PyProof.Rows L2
/-- a class of one's own over ValueError, made with a text -/
abbrev veBase : List Value := [.type "ValueError", .type "Exception", .type "BaseException", .type "object"]
structure ExcV (K : PySem.W.Frag) (C : Addr) : Prop where
  q : PySem.W.excIn K C veBase "ValueError.__new__" = true
  k : PySem.W.keepIn K (.ref C) = true
  s : PySem.W.subIn K (.ref C) (.type "BaseException") = some true
  t : PySem.W.typeIn K (.ref C) = some (.type "type")
def excVB (K : PySem.W.Frag) (C : Addr) : Bool := PySem.W.excIn K C veBase "ValueError.__new__" && (PySem.W.keepIn K (.ref C) && (decide (PySem.W.subIn K (.ref C) (.type "BaseException") = some true) &&
  decide (PySem.W.typeIn K (.ref C) = some (.type "type"))))
/-- the classes of the refusals, by name -/
structure Cls where
  amount : Addr
  line : Addr
  table : Addr
  one : List Addr
  two : List Addr
/-- the word of one that is of the class D alone -/
structure WordOk (K : PySem.W.Frag) (c : Cls) (D : Addr) (w : Str) : Prop where
  one : PySem.W.kitAny K (.ref D) (c.one.map Value.ref) = some false
  two : PySem.W.kitAny K (.ref D) (c.two.map Value.ref) = some false
  ve : PySem.W.kitOne K (.ref D) (.type "ValueError") = some true
  kinds : ∃ (b1 b2 b3 : Bool) (j : Nat), PySem.W.kitOne K (.ref D) (.ref c.amount) = some b1 ∧ PySem.W.kitOne K (.ref D) (.ref c.line) = some b2 ∧ PySem.W.kitOne K (.ref D) (.ref c.table) = some b3 ∧
    (b1, b2, b3, j, w) ∈ [(true, false, false, 0, ("amount" : Str)), (false, true, false, 1, ("line" : Str)), (false, false, true, 2, ("table" : Str))]
def spW (K : PySem.W.Frag) (D : Addr) (w : Str) : Sp := fun vs H Q _ => ∃ a : Addr, vs = [.ref a] ∧ H a = some (.ext (excAt a (.ref D))) ∧ ∀ H', Same H H' → Q (.str w) H'
def t_word (K : PySem.W.Frag) (D A_NoAmount A_NoLine A_NoTable A_NoDays A_NoDeed A_NoFold A_NoLeave A_NoPot A_NoRule A_NoStretch A_NoTelling A_NoText A_NoCut A_NoName A_NoNumber A_NoPart A_TooLong : Addr) : TS :=
  (tSeq (tAsg (tLst (tCons (tCB (rIsiE K D) (tCons (tVar 0) (tCons (tC (.ref A_NoAmount)) tNil))) (tCons (tCB (rIsiE K D) (tCons (tVar 0) (tCons (tC (.ref A_NoLine)) tNil))) (tCons (tCB (rIsiE K D) (tCons (tVar 0) (tCons (tC (.ref A_NoTable)) tNil))) tNil)))) (gName 1))
    (tSeq (tAsg (tCB (rIsiET K D) (tCons (tVar 0) (tCons (tTup (tCons (tC (.ref A_NoDays)) (tCons (tC (.ref A_NoDeed)) (tCons (tC (.ref A_NoFold)) (tCons (tC (.ref A_NoLeave)) (tCons (tC (.ref A_NoPot)) (tCons (tC (.ref A_NoRule)) (tCons (tC (.ref A_NoStretch)) (tCons (tC (.ref A_NoTelling)) (tCons (tC (.ref A_NoText)) tNil)))))))))) tNil))) (gName 2))
    (tSeq (tAsg (tOrV (tVar 2) (tCB (rIsiET K D) (tCons (tVar 0) (tCons (tTup (tCons (tC (.ref A_NoCut)) (tCons (tC (.ref A_NoName)) (tCons (tC (.ref A_NoNumber)) (tCons (tC (.ref A_NoPart)) (tCons (tC (.ref A_TooLong)) tNil)))))) tNil)))) (gName 2))
    (tSeq (tIfS (tOr (tB (tVar 2)) (tOr (tTest (tOp rNe (tBM K "list" (rCntF K) (tVar 1) (tCons (tC (.bl true)) tNil)) (tC (.int 1)))) (tNot (tB (tCB (rIsiE K D) (tCons (tVar 0) (tCons (tC (.ty "ValueError")) tNil))))))) (tRet (tC (.str "odd"))) tNext)
    (tRet (tOp (rIxL K) (tLst (tCons (tC (.str "amount")) (tCons (tC (.str "line")) (tCons (tC (.str "table")) tNil)))) (tBM K "list" (rIndex K) (tVar 1) (tCons (tC (.bl true)) tNil))))))))
/-! ### a refusal of the height below nought -/
def TYx (C : Addr) : List PyData → (PyData → Prop) → (Addr → Prop) → Prop := fun ds _ Ψ => ∃ (l : PyData) (x : Rat), ds = [l, qp x] ∧ x < 0 ∧ Ψ C
def t_yatX (K : PySem.W.Frag) (C : Addr) (E : XK) : TS := tSeq (tIfS (tTest (tOp rLt (tOp (rIxT K) (tVar 1) (tC (.int 0))) (tC (.int 0)))) (fun _ σ H => E (.ref C) none H) tNext) tNo
local macro_rules | `(tactic| walk_at "dl") => `(tactic| repeat' (first
  | with_reducible refine wd_isTy ?_ | with_reducible refine wd_isi ?_ | with_reducible refine wd_op ?_ | ((with_reducible show WD _ _ (tCB (rLenX _) (tCons (tVar _) tNil)) _ _); refine wd_len_scr rfl ?_) | with_reducible refine wd_cb ?_ | with_reducible refine wd_un ?_ | with_reducible refine wa_cons ?_ | with_reducible refine wa_nil ?_ | ((with_reducible show WD _ _ (tVar _) _ _); refine wd_var rfl ?_) | with_reducible refine wd_int ?_ | with_reducible refine wd_bl ?_ | with_reducible refine wd_str ?_ | with_reducible refine wd_non ?_
  | with_reducible refine do_add ?_ | with_reducible refine do_sub ?_ | ((with_reducible refine do_mod ?_ ?_); decide) | with_reducible refine do_mod ?_ ?_ | with_reducible refine do_mul ?_ ?_ | ((with_reducible refine do_div ?_ ?_); exact ⟨by decide, by decide⟩) | with_reducible refine do_div ?_ ?_ | ((with_reducible refine do_pow ?_ ?_); exact ⟨by decide, by decide, by decide⟩) | with_reducible refine do_pow ?_ ?_
  | with_reducible refine do_lt ?_ | with_reducible refine do_le ?_ | with_reducible refine do_gt ?_ | with_reducible refine do_ge ?_ | with_reducible refine du_neg ?_
  | with_reducible refine do_eqi ?_ | with_reducible refine do_nei ?_ | with_reducible refine do_eqs ?_ | with_reducible refine do_nes ?_ | with_reducible refine dc_abs ?_ | with_reducible refine dc_min ?_ | with_reducible refine dc_max ?_ | with_reducible refine dc_lenL ?_ | with_reducible refine dc_lenT ?_ | with_reducible refine dc_gcd ?_
  | ((with_reducible show DO _ (rIxT _) _ _ _); refine do_ixT rfl ?_) | ((with_reducible show DO _ (rIxL _) _ _ _); refine do_ixL rfl ?_) | ((with_reducible refine do_catL ?_ ?_); exact Nat.le_of_ble_eq_true rfl) | with_reducible refine do_catL ?_ ?_ | ((with_reducible show And (List.length _ ≤ sizeLine) _); refine ⟨Nat.le_of_ble_eq_true rfl, ?_⟩)
  | with_reducible refine wd_dnew ?_ | with_reducible refine wd_call0 ?_ | with_reducible refine wd_slA ?_ | with_reducible refine wo_part ?_ | with_reducible refine wo_none ?_ | with_reducible refine do_eqQ ?_ | with_reducible refine do_neQ ?_ | with_reducible refine wi_enumT ?_ | with_reducible refine tAdQ (by omega) (by omega) ?_ | with_reducible refine tSbQ (by omega) (by omega) ?_ | with_reducible refine tMlQ (by omega) (by omega) ?_ | with_reducible refine tDvQ (by assumption) (by omega) (by omega) ?_ | with_reducible refine tLtQ (by omega) (by omega) ?_ | with_reducible refine dc_str ?_ ?_ | with_reducible refine wd_tup ?_ | with_reducible refine wd_lst ?_ | with_reducible refine wt_test ?_ | with_reducible refine wt_B ?_ | with_reducible refine wt_not ?_ | with_reducible refine wt_and ?_ | with_reducible refine wt_or ?_ | with_reducible refine wd_ifE ?_ | with_reducible refine wd_andV ?_ | with_reducible refine wd_orV ?_ | with_reducible refine wd_notV ?_
  | with_reducible refine ws_seq ?_ | with_reducible refine ws_next ?_ | with_reducible refine ws_asg ?_ | with_reducible refine ws_ret ?_ | with_reducible refine ws_retN ?_ | with_reducible refine ws_if ?_ | with_reducible refine ws_par ?_ | with_reducible refine ws_unp2 ?_
  | with_reducible refine if_t ?_ | with_reducible refine if_f ?_ | with_reducible refine if_nf ?_ | with_reducible refine if_nt ?_
  | ((with_reducible show Exists _); first | refine ⟨_, kitInt _, ?_⟩ | refine ⟨_, kitBool _, ?_⟩ | refine ⟨_, kitTup _, ?_⟩ | refine ⟨_, kitList _, ?_⟩ | refine ⟨_, rfl, ?_⟩ | refine ⟨_, _, rfl, ?_⟩ | fail) | fail))
/-! ### told or refused -/
def TTold : List PyData → (PyData → Prop) → Prop := fun ds Φ => ∃ (l : PyData) (x : Rat), ds = [l, qp x] ∧ x < 0 ∧ Φ (.str "amount")
def ts_told (a : Addr) : TS := tAsg (tVar 4) (gName 2)
def tb_told (K : PySem.W.Frag) (C : Addr) (W : WX) : TS := tAsg (tCallS (spX K (TYx C)) (WE W) (tCons (tVar 0) (tCons (tVar 1) tNil))) (gName 3)
def te_told (K : PySem.W.Frag) (C : Addr) : TE := tIf (tTest (tOp rIsNone (tVar 2) (tC .non))) (tVar 3) (tCall (spW K C "amount") [] E0 (tCons (tVar 2) tNil))
def t_told (K : PySem.W.Frag) (C P : Addr) : TS :=
  (tSeq (tAsg (tC .non) (gName 2))
    (tSeq (tAsg (tC .non) (gName 3))
    (tSeq (fun D σ H => tb_told K C (wKeep K (.ref P) 4 ts_told D) D σ H)
    (tRet (te_told K C)))))
/-! ### the line of one part -/
def TFlat : List PyData → (PyData → Prop) → Prop := fun ds Φ => ∃ y : Rat, ds = [qp y] ∧ Φ (lnD [(0, y)] 0)
def t_flat (K : PySem.W.Frag) (a_NOUGHT : Addr) : TS :=
  (tRet (tTup (tCons (tTup (tCons (tTup (tCons (tC (.ref a_NOUGHT)) (tCons (tVar 0) tNil))) tNil)) (tCons (tC (.ref a_NOUGHT)) tNil))))
end DL

set_option Elab.async false
set_option linter.all false
set_option maxRecDepth 100000
set_option maxHeartbeats 4000000
/-! LQ7: the law of heights -/
namespace DL
open PySem PySem.Spec PyProof.Rows L2
section
variable {K : PySem.W.Frag} {S : Stt} {ρ : Rho} {Φ : PyData → Rho → Prop} {Ψ : PyData → Prop}
abbrev rInt1 : List V → Hp → VK → Prop := fun xs H Q => (∃ i, xs = [.int i] ∧ Q (.int i) H) ∨ ∃ k, xs = [.bl k] ∧ Q (.int (if k then 1 else 0)) H
theorem wt_yes {Θ : Bool → Rho → Prop} (h : Θ true ρ) : WT K S tYes ρ Θ := fun H0 N0 Z N σ H E Q q => q true ρ H h E Keep.refl
end
local macro_rules | `(tactic| walk_at "dl") => `(tactic| repeat' (first
  | with_reducible refine wd_isTy ?_ | with_reducible refine wd_isi ?_ | with_reducible refine wd_op ?_ | ((with_reducible show WD _ _ (tCB (rLenX _) (tCons (tVar _) tNil)) _ _); refine wd_len_scr rfl ?_) | with_reducible refine wd_cb ?_ | with_reducible refine wd_un ?_ | with_reducible refine wa_cons ?_ | with_reducible refine wa_nil ?_ | ((with_reducible show WD _ _ (tVar _) _ _); refine wd_var rfl ?_) | with_reducible refine wd_int ?_ | with_reducible refine wd_bl ?_ | with_reducible refine wd_str ?_ | with_reducible refine wd_non ?_
  | with_reducible refine do_nesS ?_ | with_reducible refine dc_intB ?_ | with_reducible refine do_add ?_ | with_reducible refine do_sub ?_ | ((with_reducible refine do_mod ?_ ?_); decide) | with_reducible refine do_mod ?_ ?_ | with_reducible refine do_mul ?_ ?_ | ((with_reducible refine do_div ?_ ?_); exact ⟨by decide, by decide⟩) | with_reducible refine do_div ?_ ?_ | ((with_reducible refine do_pow ?_ ?_); exact ⟨by decide, by decide, by decide⟩) | with_reducible refine do_pow ?_ ?_
  | with_reducible refine do_lt ?_ | with_reducible refine do_le ?_ | with_reducible refine do_gt ?_ | with_reducible refine do_ge ?_ | with_reducible refine du_neg ?_
  | with_reducible refine do_eqi ?_ | with_reducible refine do_nei ?_ | with_reducible refine do_eqs ?_ | with_reducible refine do_nes ?_ | with_reducible refine dc_abs ?_ | with_reducible refine dc_min ?_ | with_reducible refine dc_max ?_ | with_reducible refine dc_lenL ?_ | with_reducible refine dc_lenT ?_ | with_reducible refine dc_gcd ?_
  | ((with_reducible show DO _ (rIxT _) _ _ _); refine do_ixT rfl ?_) | ((with_reducible show DO _ (rIxL _) _ _ _); refine do_ixL rfl ?_) | ((with_reducible refine do_catL ?_ ?_); exact Nat.le_of_ble_eq_true rfl) | with_reducible refine do_catL ?_ ?_ | ((with_reducible show And (List.length _ ≤ sizeLine) _); refine ⟨Nat.le_of_ble_eq_true rfl, ?_⟩)
  | with_reducible refine wd_dnew ?_ | with_reducible refine wd_call0 ?_ | with_reducible refine wd_slA ?_ | with_reducible refine wo_part ?_ | with_reducible refine wo_none ?_ | with_reducible refine do_eqQ ?_ | with_reducible refine do_neQ ?_ | with_reducible refine wi_enumT ?_ | with_reducible refine tAdQ (by omega) (by omega) ?_ | with_reducible refine tSbQ (by omega) (by omega) ?_ | with_reducible refine tMlQ (by omega) (by omega) ?_ | with_reducible refine tDvQ (by assumption) (by omega) (by omega) ?_ | with_reducible refine tLtQ (by omega) (by omega) ?_ | with_reducible refine dc_str ?_ ?_ | with_reducible refine wd_tup ?_ | with_reducible refine wd_lst ?_ | with_reducible refine wt_test ?_ | with_reducible refine wt_B ?_ | with_reducible refine wt_not ?_ | with_reducible refine wt_and ?_ | with_reducible refine wt_or ?_ | with_reducible refine wd_ifE ?_ | with_reducible refine wd_andV ?_ | with_reducible refine wd_orV ?_ | with_reducible refine wd_notV ?_
  | with_reducible refine ws_seq ?_ | with_reducible refine ws_next ?_ | with_reducible refine ws_asg ?_ | with_reducible refine ws_ret ?_ | with_reducible refine ws_retN ?_ | with_reducible refine ws_if ?_ | with_reducible refine ws_par ?_ | with_reducible refine ws_unp2 ?_
  | with_reducible refine if_t ?_ | with_reducible refine if_f ?_ | with_reducible refine if_nf ?_ | with_reducible refine if_nt ?_
  | ((with_reducible show Exists _); first | refine ⟨_, kitInt _, ?_⟩ | refine ⟨_, kitBool _, ?_⟩ | refine ⟨_, kitTup _, ?_⟩ | refine ⟨_, kitList _, ?_⟩ | refine ⟨_, rfl, ?_⟩ | refine ⟨_, _, rfl, ?_⟩ | fail) | fail))
def t_law7 (K : PySem.W.Frag) : TS :=
  (tSeq (tFor (iEnum K (tCons (tOp rCatL (tLst (tCons (tC (.int 0)) tNil)) (tCall (spF K) [] E0 (tCons (tVar 0) (tCons (tC (.int 20)) tNil)))) tNil)) (gTup K 2 (gCons (gName 1) (gCons (gName 2) gNil))) (tSeq (tAsg (tCall (spN K TPot) [] E0 (tCons (tVar 2) (tCons (tVar 1) tNil))) (gName 3))
    (tSeq (tAsg (tCall (spS K FPot TLine) [] E0 (tCons (tVar 3) (tCons (tOp (rIxL K) (tLst (tCons (tC (.int 12)) (tCons (tC (.int 60)) tNil))) (tCB rInt1 (tCons (tOp rEq (tVar 1) (tC (.int 1))) tNil))) tNil))) (gName 4))
    (tSeq (tAsg (tLc (iTup K (tOp (rIxT K) (tVar 4) (tC (.int 0)))) (gName 10) tYes (tOp (rIxT K) (tVar 10) (tC (.int 0))) [10]) (gName 5))
    (tSeq (tFor (iRng1 (tCons (tC (.int 4)) tNil)) (gName 6) (tSeq (tAsg (tOp (rIxL K) (tVar 5) (tCall (spS K FPot TTake) [] E0 (tCons (tVar 3) (tCons (tCB (rLenX K) (tCons (tOp (rIxT K) (tVar 4) (tC (.int 0))) tNil)) tNil)))) (gName 7))
    (tDrop (tBM K "list" rAppend (tVar 5) (tCons (tCall (spP K TAdQ) [] E0 (tCons (tVar 7) (tCons (tCall (spP K TLow) [] E0 (tCons (tCall (spS K FPot TTake) [] E0 (tCons (tVar 3) (tCons (tC (.int 9)) tNil))) (tCons (tOp (rIxL K) (tLst (tCons (tC (.int 1)) (tCons (tC (.int 7)) tNil))) (tCB rInt1 (tCons (tOp rLt (tOp (rIxT K) (tVar 7) (tC (.int 1))) (tC (.int 100))) tNil))) tNil))) tNil))) tNil)))))
    (tSeq (tAsg (tOp rCatL (tVar 5) (tLst (tCons (tCall (spP K TLow) [] E0 (tCons (tCall (spS K FPot TTake) [] E0 (tCons (tVar 3) (tCons (tOp rPowI (tC (.int 10)) (tC (.int 6))) tNil))) (tCons (tOp rAddI (tC (.int 1)) (tCall (spS K FPot TTake) [] E0 (tCons (tVar 3) (tCons (tC (.int 1000)) tNil)))) tNil))) (tCons (tTup (tCons (tOp rPowI (tC (.int 10)) (tC (.int 6))) (tCons (tC (.int 1)) tNil))) tNil)))) (gName 5))
    (tSeq (tFor (iList K (tVar 5)) (gName 8) (tIfS (tTest (tOp rNe (tCB (rRepr K) (tCons (tLst (tCons (tCall (spP K TYat) [] E0 (tCons (tVar 4) (tCons (tVar 8) tNil))) (tCons (tCall (spP K TYat) [] E0 (tCons (tVar 4) (tCons (tVar 8) tNil))) tNil))) tNil)) (tCB (rRepr K) (tCons (tLst (tCons (tCall (spP K TYat) [] E0 (tCons (tVar 4) (tCons (tVar 8) tNil))) (tCons (tCall (spP K TYat) [] E0 (tCons (tVar 4) (tCons (tVar 8) tNil))) tNil))) tNil)))) (tRet (tC (.bl false))) tNext))
    (tSeq (tIfS (tTest (tOp rNe (tCall (spP K TTold) [] E0 (tCons (tVar 4) (tCons (tCall (spP K TLow) [] E0 (tCons (tOp rSubI (tUn rNegI (tC (.int 1))) (tCall (spS K FPot TTake) [] E0 (tCons (tVar 3) (tCons (tC (.int 99)) tNil)))) (tCons (tOp rAddI (tC (.int 1)) (tCall (spS K FPot TTake) [] E0 (tCons (tVar 3) (tCons (tC (.int 99)) tNil)))) tNil))) tNil))) (tC (.str "amount")))) (tRet (tC (.bl false))) tNext)
    (tSeq (tAsg (tCall (spP K TLow) [] E0 (tCons (tOp rSubI (tCall (spS K FPot TTake) [] E0 (tCons (tVar 3) (tCons (tC (.int 2001)) tNil))) (tC (.int 1000))) (tCons (tOp rAddI (tC (.int 1)) (tCall (spS K FPot TTake) [] E0 (tCons (tVar 3) (tCons (tC (.int 1000)) tNil)))) tNil))) (gName 9))
    (tIfS (tOr (tTest (tOp rNe (tCB (rRepr K) (tCons (tCall (spP K TFlat) [] E0 (tCons (tVar 9) tNil)) tNil)) (tCB (rRepr K) (tCons (tTup (tCons (tTup (tCons (tTup (tCons (tTup (tCons (tC (.int 0)) (tCons (tC (.int 1)) tNil))) (tCons (tVar 9) tNil))) tNil)) (tCons (tTup (tCons (tC (.int 0)) (tCons (tC (.int 1)) tNil))) tNil))) tNil)))) (tTest (tOp (rNeD K) (tCall (spP K TYat) [] E0 (tCons (tCall (spP K TFlat) [] E0 (tCons (tVar 9) tNil)) (tCons (tTup (tCons (tOp rPowI (tC (.int 10)) (tC (.int 6))) (tCons (tC (.int 7)) tNil))) tNil))) (tVar 9)))) (tRet (tC (.bl false))) tNext))))))))))
    (tRet (tC (.bl true))))
/-- what is asked of -/
def Ask (x : Rat) : Prop := 0 ≤ x ∧ sz x ≤ 100
end DL

set_option Elab.async false
set_option linter.all false
set_option maxRecDepth 100000
set_option maxHeartbeats 4000000
namespace DL
open PySem PySem.Spec PyProof.Rows L2
end DL

set_option Elab.async false
set_option linter.all false
set_option maxRecDepth 100000
set_option maxHeartbeats 4000000
/-! K02: what is a part, what an amount -/
namespace DL
open PySem PySem.Spec PyProof.Rows L2
local macro_rules | `(tactic| walk_at "dl") => `(tactic| repeat' (first
  | with_reducible refine wd_isTy ?_ | with_reducible refine wd_isi ?_ | with_reducible refine wd_op ?_ | with_reducible refine wd_cb ?_ | with_reducible refine wd_un ?_ | with_reducible refine wa_cons ?_ | with_reducible refine wa_nil ?_ | ((with_reducible show WD _ _ (tVar _) _ _); refine wd_var rfl ?_) | with_reducible refine wd_int ?_ | with_reducible refine wd_bl ?_ | with_reducible refine wd_str ?_ | with_reducible refine wd_non ?_
  | with_reducible refine do_add ?_ | with_reducible refine do_sub ?_ | ((with_reducible refine do_mod ?_ ?_); decide) | with_reducible refine do_mod ?_ ?_ | with_reducible refine do_mul ?_ ?_ | ((with_reducible refine do_div ?_ ?_); exact ⟨by decide, by decide⟩) | with_reducible refine do_div ?_ ?_ | ((with_reducible refine do_pow ?_ ?_); exact ⟨by decide, by decide, by decide⟩) | with_reducible refine do_pow ?_ ?_
  | with_reducible refine do_lt ?_ | with_reducible refine do_le ?_ | with_reducible refine do_gt ?_ | with_reducible refine do_ge ?_ | with_reducible refine du_neg ?_
  | with_reducible refine do_eqi ?_ | with_reducible refine do_nei ?_ | with_reducible refine do_eqs ?_ | with_reducible refine do_nes ?_ | with_reducible refine dc_abs ?_ | with_reducible refine dc_min ?_ | with_reducible refine dc_max ?_ | with_reducible refine dc_lenL ?_ | with_reducible refine dc_lenT ?_ | with_reducible refine dc_gcd ?_
  | ((with_reducible show DO _ (rIxT _) _ _ _); refine do_ixT rfl ?_) | ((with_reducible show DO _ (rIxL _) _ _ _); refine do_ixL rfl ?_) | with_reducible refine do_catL ?_ ?_
  | with_reducible refine wd_dnew ?_ | with_reducible refine wd_call0 ?_ | with_reducible refine dc_str ?_ ?_ | with_reducible refine wd_tup ?_ | with_reducible refine wd_lst ?_ | with_reducible refine wt_test ?_ | with_reducible refine wt_B ?_ | with_reducible refine wt_not ?_ | with_reducible refine wt_and ?_ | with_reducible refine wt_or ?_ | with_reducible refine wd_ifE ?_ | with_reducible refine wd_andV ?_ | with_reducible refine wd_orV ?_ | with_reducible refine wd_notV ?_
  | with_reducible refine ws_seq ?_ | with_reducible refine ws_next ?_ | with_reducible refine ws_asg ?_ | with_reducible refine ws_ret ?_ | with_reducible refine ws_retN ?_ | with_reducible refine ws_if ?_ | with_reducible refine ws_par ?_ | with_reducible refine ws_unp2 ?_
  | with_reducible refine if_t ?_ | with_reducible refine if_f ?_ | with_reducible refine if_nf ?_ | with_reducible refine if_nt ?_
  | ((with_reducible show Exists _); first | refine ⟨_, kitInt _, ?_⟩ | refine ⟨_, kitBool _, ?_⟩ | refine ⟨_, kitTup _, ?_⟩ | refine ⟨_, kitList _, ?_⟩ | refine ⟨_, rfl, ?_⟩ | refine ⟨_, _, rfl, ?_⟩ | fail) | fail))

def isW (d : PyData) : Bool := tyD d == "int"
def isPartD : PyData → Bool
  | .tuple [.int a, .int b] => decide (1 ≤ b) && decide (Nat.gcd a.natAbs b.natAbs = 1)
  | _ => false
def isAmtD : PyData → Bool
  | .tuple [.int a, .int b] => decide (1 ≤ b) && decide (Nat.gcd a.natAbs b.natAbs = 1) && decide (0 ≤ a)
  | _ => false
theorem isW_int {d : PyData} (h : isW d = true) : ∃ i, d = .int i := by
  cases d <;> first | exact ⟨_, rfl⟩ | (simp [isW, tyD] at h)
def TWhole : List PyData → (PyData → Prop) → Prop := fun ds Φ => ∃ d, ds = [d] ∧ Φ (.bool (isW d))
def TPartB : List PyData → (PyData → Prop) → Prop := fun ds Φ => ∃ d, ds = [d] ∧ Φ (.bool (isPartD d))
def TAmountB : List PyData → (PyData → Prop) → Prop := fun ds Φ => ∃ d, ds = [d] ∧ Φ (.bool (isAmtD d))
def GoodD (d : PyData) : Prop := ∀ a b, d = .tuple [.int a, .int b] → a.natAbs < 2 ^ 8000 ∧ b.natAbs < 2 ^ 8000
def TIsPart : List PyData → (PyData → Prop) → Prop := fun ds Φ => ∃ d, ds = [d] ∧ GoodD d ∧ Φ (.bool (isPartD d))
/-- a part, told for judging -/
structure PBig (n d : Int) : Prop where
  d1 : 1 ≤ d
  d2 : d ≤ 10 ^ 30
  n1 : n.natAbs ≤ 10 ^ 30
def TSpoilt : Nat → List PyData → (PyData → Nat → Prop) → Prop := fun B ds Φ => ∃ n d, ds = [pr (n, d)] ∧ PBig n d ∧ B + 800 ≤ 2 ^ 40 ∧ ∀ z, GoodD z → Φ z (B + 800)
def TThing : Nat → List PyData → (PyData → Nat → Prop) → Prop := fun B ds Φ => ds = [] ∧ B + 6000 ≤ 2 ^ 40 ∧ ∀ z B', GoodD z → B' ≤ B + 6000 → Φ z B'
def t_law_whole (K : PySem.W.Frag) : TS :=
  (tRet (tAndV (tCB (rIsi K) (tCons (tVar 0) (tCons (tC (.ty "int")) tNil))) (tNotV (tCB (rIsi K) (tCons (tVar 0) (tCons (tC (.ty "bool")) tNil))))))

def t_law_is_part (K : PySem.W.Frag) : TS :=
  (tSeq (tIfS (tOr (tNot (tB (tCB (rIsi K) (tCons (tVar 0) (tCons (tC (.ty "tuple")) tNil))))) (tOr (tTest (tOp rNe (tCB (rLenX K) (tCons (tVar 0) tNil)) (tC (.int 2)))) (tOr (tNot (tB (tCall (spP K TWhole) [] E0 (tCons (tOp (rIxT K) (tVar 0) (tC (.int 0))) tNil)))) (tNot (tB (tCall (spP K TWhole) [] E0 (tCons (tOp (rIxT K) (tVar 0) (tC (.int 1))) tNil))))))) (tRet (tC (.bl false))) tNext)
    (tRet (tAndV (tOp rGt (tOp (rIxT K) (tVar 0) (tC (.int 1))) (tC (.int 0))) (tOp (rEqD K) (tCall (spP K TPart) [] E0 (tCons (tOp (rIxT K) (tVar 0) (tC (.int 0))) (tCons (tOp (rIxT K) (tVar 0) (tC (.int 1))) tNil))) (tVar 0)))))

def t_law_spoilt (K : PySem.W.Frag) : TS :=
  (tSeq (tAsg (tCall (spS K FSto TDr) [] E0 (tCons (tVar 0) (tCons (tC (.int 14)) tNil))) (gName 2))
    (tSeq (tAsg (tOp rAddI (tC (.int 2)) (tCall (spS K FSto TDr) [] E0 (tCons (tVar 0) (tCons (tC (.int 9)) tNil)))) (gName 3))
    (tSeq (tAsg (tVar 1) (gTup K 2 (gCons (gName 4) (gCons (gName 5) gNil))))
    (tSeq (tAsg (tLst (tCons (tVar 1) (tCons (tTup (tCons (tOp rMulI (tVar 3) (tVar 4)) (tCons (tOp rMulI (tVar 3) (tVar 5)) tNil))) (tCons (tTup (tCons (tVar 4) (tCons (tOp rSubI (tC (.int 0)) (tVar 5)) tNil))) (tCons (tTup (tCons (tVar 4) (tCons (tC (.int 0)) tNil))) (tCons (tTup (tCons (tOp rSubI (tC (.int 0)) (tVar 4)) (tCons (tVar 5) tNil))) (tCons (tTup (tCons (tVar 4) (tCons (tC (.bl true)) tNil))) tNil))))))) (gName 6))
    (tSeq (tAsg (tOp rCatL (tVar 6) (tLst (tCons (tTup (tCons (tC (.bl true)) (tCons (tVar 5) tNil))) (tCons (tTup (tCons (tCB rStrI (tCons (tVar 4) tNil)) (tCons (tVar 5) tNil))) (tCons (tTup (tCons (tVar 4) (tCons (tC .non) tNil))) (tCons (tLst (tCons (tVar 4) (tCons (tVar 5) tNil))) (tCons (tTup (tCons (tVar 4) tNil)) (tCons (tTup (tCons (tVar 4) (tCons (tVar 5) (tCons (tC (.int 1)) tNil)))) tNil)))))))) (gName 6))
    (tRet (tOp (rIxL K) (tOp rCatL (tVar 6) (tLst (tCons (tTup (tCons (tVar 1) tNil)) (tCons (tTup (tCons (tC (.int 0)) (tCons (tVar 3) tNil))) tNil)))) (tVar 2))))))))

def t_law_thing (K : PySem.W.Frag) : TS :=
  (tSeq (tAsg (tCall (spS K FSto TDr) [] E0 (tCons (tVar 0) (tCons (tC (.int 6)) tNil))) (gName 1))
    (tSeq (tAsg (tCall (spS K FSto TSmall) [] E0 (tCons (tVar 0) tNil)) (gName 2))
    (tSeq (tAsg (tCall (spP K TPart) [] E0 (tCons (tCall (spS K FSto TDr) [] E0 (tCons (tVar 0) (tCons (tOp rPowI (tC (.int 10)) (tC (.int 30))) tNil))) (tCons (tOp rAddI (tC (.int 1)) (tCall (spS K FSto TDr) [] E0 (tCons (tVar 0) (tCons (tOp rPowI (tC (.int 10)) (tC (.int 30))) tNil)))) tNil))) (gName 3))
    (tSeq (tIfS (tTest (tOp rEq (tVar 1) (tC (.int 0)))) (tRet (tOp (rIxL K) (tLst (tCons (tC .non) (tCons (tC (.int 7)) (tCons (tC (.bl true)) (tCons (tC (.str "")) (tCons (tTup tNil) (tCons (tLst tNil) (tCons tDNewK (tCons (tTup (tCons (tC (.int 0)) (tCons (tC (.int 1)) tNil))) (tCons (tTup (tCons (tC (.int 1)) (tCons (tC (.int 1)) tNil))) (tCons (tTup (tCons (tC (.int 0)) (tCons (tC (.int 0)) tNil))) (tCons (tTup (tCons (tC (.int 1)) (tCons (tUn rNegI (tC (.int 1))) tNil))) (tCons (tTup (tCons (tTup (tCons (tC (.int 0)) (tCons (tC (.int 1)) tNil))) (tCons (tTup (tCons (tC (.int 0)) (tCons (tC (.int 1)) tNil))) tNil))) tNil))))))))))))) (tCall (spS K FSto TDr) [] E0 (tCons (tVar 0) (tCons (tC (.int 12)) tNil))))) tNext)
    (tSeq (tIfS (tTest (tOp rEq (tVar 1) (tC (.int 1)))) (tRet (tVar 3)) tNext)
    (tSeq (tIfS (tTest (tOp rEq (tVar 1) (tC (.int 2)))) (tRet (tCall (spS K FSto TSpoilt) [] E0 (tCons (tVar 0) (tCons (tVar 3) tNil)))) tNext)
    (tRet (tCall (spS K FSto TSpoilt) [] E0 (tCons (tVar 0) (tCons (tVar 2) tNil))))))))))

def t_is_whole (K : PySem.W.Frag) : TS :=
  (tRet (tOp rIsTyX (tCB (rTyp K) (tCons (tVar 0) tNil)) (tC (.ty "int"))))

def t_is_part (K : PySem.W.Frag) : TS :=
  (tSeq (tIfS (tNot (tAnd (tTest (tOp rIsTyX (tCB (rTyp K) (tCons (tVar 0) tNil)) (tC (.ty "tuple")))) (tTest (tOp rEq (tCB (rLenX K) (tCons (tVar 0) tNil)) (tC (.int 2)))))) (tRet (tC (.bl false))) tNext)
    (tSeq (tAsg (tVar 0) (gTup K 2 (gCons (gName 1) (gCons (gName 2) gNil))))
    (tRet (tAndV (tCall (spP K TWhole) [] E0 (tCons (tVar 1) tNil)) (tAndV (tCall (spP K TWhole) [] E0 (tCons (tVar 2) tNil)) (tAndV (tOp rGe (tVar 2) (tC (.int 1))) (tOp rEq (tCB rGcd (tCons (tVar 1) (tCons (tVar 2) tNil))) (tC (.int 1)))))))))

def t_is_amount (K : PySem.W.Frag) : TS :=
  (tRet (tAndV (tCall (spP K TPartB) [] E0 (tCons (tVar 0) tNil)) (tOp rGe (tOp (rIxT K) (tVar 0) (tC (.int 0))) (tC (.int 0)))))



theorem isW_dec (d : PyData) : decide (tyD d = "int") = isW d := by
  unfold isW
  by_cases h : tyD d = "int"
  · rw [decide_eq_true h, h]; rfl
  · rw [decide_eq_false h]; exact (beq_eq_false_iff_ne.mpr h).symm
section
variable {K : PySem.W.Frag} {S : Stt}
theorem ws_is_whole {ds : List PyData} {Φ : PyData → Prop} (h : TWhole ds Φ) : WS K S0 (t_is_whole K) (rhoOf 1 ds) { nx := fun _ => Φ .none, rt := fun d _ => Φ d } := by
  obtain ⟨d, rfl, h⟩ := h
  show WS K S0 (t_is_whole K) [.dat d] _
  unfold t_is_whole
  walk_at "dl"
  rw [isW_dec]; exact h
theorem tuple2 {ds : List PyData} (h : (ds.length : Int) = 2) : ∃ x y, ds = [x, y] := by
  match ds, h with
  | [x, y], _ => exact ⟨x, y, rfl⟩
  | [], h => simp at h
  | [_], h => simp at h
  | _ :: _ :: _ :: r, h => simp at h; omega
theorem isPart_no {ds : List PyData} (h : ¬ (ds.length : Int) = 2) : isPartD (.tuple ds) = false := by
  match ds, h with
  | [x, y], h => exact absurd rfl h
  | [], h => rfl
  | [x], h => cases x <;> rfl
  | x :: y :: _ :: r, h => cases x <;> first | rfl | (cases y <;> rfl)
theorem isPart_l {x y : PyData} (h : isW x = false) : isPartD (.tuple [x, y]) = false := by
  cases x <;> first | rfl | (simp [isW, tyD] at h)
theorem isPart_r {x : Int} {y : PyData} (h : isW y = false) : isPartD (.tuple [.int x, y]) = false := by
  cases y <;> first | rfl | (simp [isW, tyD] at h)
theorem ws_is_part {ds : List PyData} {Φ : PyData → Prop} (h : TPartB ds Φ) : WS K S0 (t_is_part K) (rhoOf 3 ds) { nx := fun _ => Φ .none, rt := fun d _ => Φ d } := by
  obtain ⟨d, rfl, h⟩ := h
  show WS K S0 (t_is_part K) [.dat d, .unk, .unk] _
  unfold t_is_part
  walk_at "dl"
  with_reducible refine if_b (fun ht => ?_) (fun ht => ?_)
  · cases d with
    | tuple xs =>
      walk_at "dl"
      by_cases h2 : (xs.length : Int) = 2
      · obtain ⟨x, y, rfl⟩ := tuple2 h2
        walk_at "dl"
        refine if_f ?_
        walk_at "dl"
        refine ⟨_, rfl, _, rfl, ?_⟩
        cases hx : isW x with
        | false => rw [isPart_l hx] at h; exact h
        | true =>
          obtain ⟨i, rfl⟩ := isW_int hx
          refine if_t ?_
          walk_at "dl"
          refine ⟨_, rfl, _, rfl, ?_⟩
          cases hy : isW y with
          | false => rw [isPart_r hy] at h; exact h
          | true =>
            obtain ⟨j, rfl⟩ := isW_int hy
            refine if_t ?_
            walk_at "dl"
            with_reducible refine if_b (fun h1 => ?_) (fun h1 => ?_)
            · walk_at "dl"
              have e : isPartD (.tuple [.int i, .int j]) = decide (((Nat.gcd i.natAbs j.natAbs : Nat) : Int) = 1) := by
                show (decide (1 ≤ j) && decide (Nat.gcd i.natAbs j.natAbs = 1)) = _
                rw [decide_eq_true h1, Bool.true_and]
                by_cases hg : Nat.gcd i.natAbs j.natAbs = 1
                · rw [decide_eq_true hg, decide_eq_true (by omega)]
                · rw [decide_eq_false hg, decide_eq_false (by omega)]
              rw [e] at h
              exact h
            · have e : isPartD (.tuple [.int i, .int j]) = false := by
                show (decide (1 ≤ j) && decide (Nat.gcd i.natAbs j.natAbs = 1)) = _
                rw [decide_eq_false h1, Bool.false_and]
              rw [e] at h
              exact h
      · rw [decide_eq_false h2]
        refine if_t ?_
        walk_at "dl"
        rw [isPart_no h2] at h; exact h
    | none => exact absurd ht (by decide)
    | bool b => exact absurd ht (by simp [tyD])
    | int b => exact absurd ht (by simp [tyD])
    | str b => exact absurd ht (by simp [tyD])
    | list b => exact absurd ht (by simp [tyD])
    | dict b => exact absurd ht (by simp [tyD])
  · walk_at "dl"
    cases d with
    | tuple xs => exact absurd rfl ht
    | none => exact h
    | bool b => exact h
    | int b => exact h
    | str b => exact h
    | list b => exact h
    | dict b => exact h
end
end DL

set_option Elab.async false
set_option linter.all false
set_option maxRecDepth 100000
set_option maxHeartbeats 4000000
/-! DM3: reversed tuples, rows numbered, lists of one's own lengthened, repr of anything shown -/
namespace DL
open PySem PySem.Spec PyProof.Rows L2
/-! ### t[::-1] -/
section
variable {prog : Program} {w : World} {A : Around} {E : Value → Shared → Prop} {s : Shared}
theorem adjust_rev (n : Nat) : Builtin.Slice.sliceAdjust none none (-1) (n : Int) = ((n : Int) - 1, -1) := by
  unfold Builtin.Slice.sliceAdjust
  simp
theorem places_rev (n : Nat) : Builtin.Slice.slicePlaces ((n : Int) - 1) (-1) (-1) = n := by
  unfold Builtin.Slice.slicePlaces
  simp
  split <;> omega
theorem pick_rev (xs : Array Value) : ((List.range xs.size).filterMap fun (m : Nat) => xs[((xs.size : Int) - 1 + (m : Int) * (-1)).toNat]?).toArray = xs.toList.reverse.toArray := by
  congr 1
  have h1 : ∀ m ∈ List.range xs.size, xs[((xs.size : Int) - 1 + (m : Int) * (-1)).toNat]? = xs.toList.reverse[m]? := fun m hm => by
    rw [List.mem_range] at hm
    have e : ((xs.size : Int) - 1 + (m : Int) * (-1)).toNat = xs.size - 1 - m := by omega
    rw [e, List.getElem?_reverse (by rw [Array.length_toList]; exact hm), Array.length_toList, Array.getElem?_toList]
  have h0 : ∀ {f g : Nat → Option Value} (l : List Nat), (∀ m ∈ l, f m = g m) → l.filterMap f = l.filterMap g := by
    intro f g l
    induction l with
    | nil => intro _; rfl
    | cons a r ih =>
      intro h
      rw [List.filterMap_cons, List.filterMap_cons, h a List.mem_cons_self, ih fun m hm => h m (List.mem_cons_of_mem _ hm)]
  rw [h0 _ h1]
  have h2 : xs.size = xs.toList.reverse.length := by rw [List.length_reverse, Array.length_toList]
  rw [h2]
  generalize xs.toList.reverse = l
  have h3 : ∀ l : List Value, (List.range l.length).filterMap (fun m => l[m]?) = l := by
    intro l
    induction l with
    | nil => rfl
    | cons a r ih =>
      rw [List.length_cons, List.range_succ_eq_map, List.filterMap_cons, List.filterMap_map]
      simp only [List.getElem?_cons_zero]
      congr 1
  exact h3 l
theorem sliceApplied_rev {sl : Addr} {t : Tok} {n : Nat} {Q : Int × Int × Nat → Shared → Prop} (hs : s.heap.IsSliceOf sl .none .none (.int (-1) t))
    (h : Q ((n : Int) - 1, -1, n) s) : wpAny (model prog w) A (Builtin.Slice.sliceApplied (.ref sl) (pure (n : Int))) Q E s := by
  obtain ⟨os, hos, hcs, hds⟩ := id hs
  unfold Builtin.Slice.sliceApplied Builtin.Slice.sliceFields
  refine wpAny_bind (wpAny_bind (wpAny_field hos hds (x := .none) rfl (wpAny_bind (wpAny_field hos hds (x := .none) rfl (wpAny_bind (wpAny_field hos hds (x := .int (-1) t) rfl (wpAny_pure ?_)))))))
  refine wpAny_bind (HT.slicePart_ (.int (-1) t) ?_)
  show wpAny _ _ (if ((-1 : Int) == 0) = true then _ else _) _ _ s
  rw [if_neg (by decide)]
  refine wpAny_bind (HT.slicePart_ .none (wpAny_bind (HT.slicePart_ .none (wpAny_bind (wpAny_pure ?_)))))
  show wpAny _ _ (match Builtin.Slice.sliceAdjust none none (-1) (n : Int) with | (lo, hi) => pure (lo, (-1 : Int), Builtin.Slice.slicePlaces lo hi (-1))) _ _ s
  rw [adjust_rev]
  show wpAny _ _ (pure ((n : Int) - 1, (-1 : Int), Builtin.Slice.slicePlaces ((n : Int) - 1) (-1) (-1))) _ _ s
  rw [places_rev]
  exact wpAny_pure h
theorem getItem_tuple_rev {t sl : Addr} {items : Array Value} {tk : Tok} {Q : Value → Shared → Prop} (ht : IsTup s.heap t items) (hs : s.heap.IsSliceOf sl .none .none (.int (-1) tk))
    (h : Q (.ref s.heap.objs.size) { s with heap := s.heap.push { cls := .type "tuple", data := .seq items.toList.reverse.toArray } })
    (hsz : items.size ≤ sizeLine) : wpAny (model prog w) A (getItem (.ref t) (.ref sl)) Q E s := by
  have htake : sizeOk (.seq items.toList.reverse.toArray) := by
    show items.toList.reverse.toArray.size ≤ sizeLine
    rw [List.size_toArray, List.length_reverse, Array.length_toList]
    exact hsz
  obtain ⟨os, hos, hcs, hds⟩ := id hs
  have hTs : s.TypeIs (.ref sl) "slice" := ⟨os, hos, hcs⟩
  unfold getItem
  try with_reducible refine wpAny_holding ?_
  first | refine wpAny_bind (wpAny_pure ?_) | skip
  refine wpAny_bind (wpAny_sequenceKey ht.typeIs (by decide) ?_)
  refine wpAny_bind (wpAny_callSpecial?_slot (name := Str.ofString "__getitem__") ht.typeIs PyProof.Rows.slot_tuple_getitem
    (wpAny_call_entry PyProof.Rows.slot_tuple_getitem ht.typeIs PyProof.Rows.entry_tuple_getitem ?_ (PyProof.Rows.args_tuple_getitem _ _)))
  show wpAny _ _ (Builtin.Tuple.tupleItemsOf (.ref t) >>= _) _ _ s
  refine wpAny_bind (tupleItemsOf_ ht ?_)
  refine wpAny_bind (wpAny_typeOf hTs ?_)
  rw [if_pos (by decide)]
  refine wpAny_bind (sliceApplied_rev hs ?_)
  have hno : ¬ ((((items.size : Int) - 1) == 0 && (-1 : Int) == 1 && items.size == items.size) = true) := by
    intro q
    rw [Bool.and_eq_true, Bool.and_eq_true] at q
    exact absurd q.1.2 (by decide)
  show wpAny _ _ (if (((items.size : Int) - 1) == 0 && (-1 : Int) == 1 && items.size == items.size) = true then _ else _) _ _ s
  rw [if_neg hno, pick_rev]
  first
    | exact wpAny_bind (m := Builtin.Tuple.tupleExact _) (wpAny_newObj_type (wpAny_pure ⟨_, rfl, wpAny_pure h⟩) htake)
    | exact wpAny_bind (m := Builtin.Tuple.tupleExact _) (wpAny_newObj_type (wpAny_bind (wpAny_pure (wpAny_pure ⟨_, rfl, wpAny_pure h⟩))) htake)
    | exact wpAny_bind (wpAny_bind (m := Builtin.Tuple.tupleExact _) (wpAny_newObj_type (wpAny_pure (wpAny_pure ⟨_, rfl, wpAny_pure h⟩)) htake))
    | exact wpAny_bind (wpAny_bind (m := Builtin.Tuple.tupleExact _) (wpAny_newObj_type (wpAny_pure ⟨_, rfl, wpAny_pure h⟩) htake))
end
def tRevT (K : PySem.W.Frag) (te : TE) : TE := fun σ H Q => te σ H fun x H1 => ∃ a xs, x = .ref a ∧ SqT K H1 a xs ∧ ∀ p, H1 p = none → Q (.ref p) (upd H1 p (.tup xs.reverse))
theorem pe_revT {X : Cx} {te : TE} {e : Expr} {k : Nat} {p1 p2 p3 pos : Pos} (he : PE X e te) : PE X (.Subscript e (.Slice none none (some (.UnaryOp .USub (.Constant (.int 1) k p1) p2)) p3) pos) (tRevT X.K te) := by
  refine ⟨fun pins s σ H Q I h => ?_⟩
  refine Subscript_ (thn (he.run pins s σ H _ I h) fun v s1 ⟨x, H1, I1, r1, q1⟩ => ?_)
  obtain ⟨a, xs, ex, hx, q⟩ := q1
  subst ex
  cases r1
  have hst : PO X (some (.UnaryOp .USub (.Constant (.int 1) k p1) p2)) (tPart (tUn (rU fun i => .int (-i)) (tC (.int 1)))) := po_some (pe_un un_neg pe_int)
  refine wpAny_Slice (thn (po_none.run pins s1 σ H1 (fun o H2 => o = none ∧ H2 = H1) I1 ⟨rfl, rfl⟩) fun vl s2 ⟨l, H2, I2, pl, el, e2⟩ => ?_)
  subst el e2
  refine thn (po_none.run pins s2 σ H2 (fun o H3 => o = none ∧ H3 = H2) I2 ⟨rfl, rfl⟩) fun vu s3 ⟨u, H3, I3, pu, eu, e3⟩ => ?_
  subst eu e3
  refine thn (hst.run pins s3 σ H3 (fun o H4 => o = some (-1) ∧ H4 = H3) I3 ⟨1, rfl, -1, rfl, rfl, rfl⟩) fun vs s4 ⟨o, H4, I4, ps, eo, e4⟩ => ?_
  subst eo e4
  cases pl
  cases pu
  cases ps
  rename_i tk _
  have I5 : L2.Inv X pins σ H4 { s4 with heap := s4.heap.push { cls := .type "slice", data := .fields #[.none, .none, .int (-1) tk] } } := I4.kept (t' := s4.toks) fun b ob q => Heap.get?_push_of_some _ q
  obtain ⟨its, r, ht, hz⟩ := I5.tuple hx
  have hlen := r.length
  show wpAny (model X.prog X.w) X.A (subscriptTail e (.Slice none none (some (.UnaryOp .USub (.Constant (.int 1) k p1) p2)) p3) (.ref a) (.ref s4.heap.objs.size)) (EP X pins σ Q) X.xe { s4 with heap := s4.heap.push { cls := .type "slice", data := .fields #[.none, .none, .int (-1) tk] } }
  refine tail_any (ops := [.ref a, .ref s4.heap.objs.size]) ht.typeIs (PyProof.Rows.slot_tuple_getitem.lookup) ?_ (by with_unfolding_all rfl)
  refine getItem_tuple_rev ht (Heap.IsSliceOf.new _ .none .none (.int (-1) tk)) ?_ (by rw [List.size_toArray]; omega)
  refine ⟨.ref _, _, I5.laid (t' := s4.toks) (o := .tup xs.reverse) (fun b ob q => Heap.get?_push_of_some _ q) (Nat.le_refl _) ?_, rfl, q _ (I5.hok.fresh (Nat.le_refl _))⟩
  exact ⟨by rw [List.length_reverse]; exact hz, _, r.reverse, IsTup.new _ _⟩
/-! ### over data -/
def iEnumR (K : PySem.W.Frag) (t : TA) : TI := fun σ H R => iEnum K t σ H R ∨ iEnumT K t σ H R
abbrev rInsert : V → List V → Hp → VK → Prop := fun x vs H Q => ∃ (l : Addr) (xs : List V) (i : Int) (y : V), x = .ref l ∧ vs = [.int i, y] ∧ H l = some (.lst xs) ∧ xs.length < sizeLine ∧ 0 ≤ i ∧ i < 2 ^ 63 ∧ Q .non (upd H l (.lst (xs.take i.toNat ++ [y] ++ xs.drop i.toNat)))
section
variable {K : PySem.W.Frag} {S : Stt} {ρ : Rho} {Φ : PyData → Rho → Prop} {Ψ : PyData → Prop}
theorem DqAll.reverse {N : Av} {H : Hp} : ∀ {vs : List V} {ds : List PyData}, DqAll K N H vs ds → DqAll K N H vs.reverse ds.reverse := dq_rev
theorem wd_revT {te : TE} (h : WD K S te ρ fun x ρ1 => ∃ ds, x = .tuple ds ∧ Φ (.tuple ds.reverse) ρ1) : WD K S (tRevT K te) ρ Φ := fun H0 N0 Z N σ H E Q q =>
  h H0 N0 Z N σ H E _ fun v x ρ1 H1 ⟨ds, e, f⟩ E1 k1 d1 => by
    subst e
    obtain ⟨p, xs, rfl, _, h1, h2⟩ := Dq.tup_inv d1
    refine ⟨p, xs, rfl, h1, fun r hr => ?_⟩
    have s := same_new hr (.tup xs.reverse)
    exact q _ _ ρ1 _ f (E1.ext s) (k1.trans (Keep.of s)) (Dq.tup (fresh_av E1.trk hr) upd_same (h2.reverse.keep (Keep.of s)))
theorem dc_all {bs : List Bool} (h : Ψ (.bool (bs.all id))) : DC K (rAll K) [.list (bs.map PyData.bool)] Ψ := fun N H _ us hu Q q => by
  cases hu with
  | cons d1 d2 =>
    cases d2
    obtain ⟨p, xs, rfl, _, h1, h2⟩ := Dq.lst_inv d1
    have e : xs = bs.map V.bl := by
      have : ∀ {bs : List Bool} {xs : List V}, DqAll K N H xs (bs.map PyData.bool) → xs = bs.map V.bl := by
        intro bs
        induction bs with
        | nil => intro xs h; cases h; rfl
        | cons b r ih =>
          intro xs h
          cases h with
          | cons h1 h2 => cases h1; rw [ih h2]; rfl
      exact this h2
    subst e
    exact ⟨p, bs, rfl, .inl h1, q _ _ H h (Same.refl H) (Dt.bl _)⟩
def rReprZ (K : PySem.W.Frag) : List V → Hp → VK → Prop := fun xs H Q => rRepr K xs H Q ∨ (xs = [.non] ∧ Q (.str "None") H) ∨ (∃ b : Bool, xs = [.bl b] ∧ Q (.str (if b then "True" else "False")) H) ∨ (∃ i, xs = [.int i] ∧ i.natAbs.log2 < 1920 ∧ Q (.str (toString i)) H) ∨ ∃ z, xs = [.str z] ∧ (reprText z).length ≤ sizeLine ∧ Q (.str (reprText z)) H
theorem call_reprZ {X : Cx} (hgd : X.A.guards = some []) (hu : X.A.units + 64 < cLine) : CallR X (.builtin "repr") (rReprZ X.K) := by
  intro pins s σ H xs us Q I r h
  rcases h with h | ⟨rfl, q⟩ | ⟨b, rfl, q⟩ | ⟨i, rfl, b, q⟩ | ⟨z, rfl, b, q⟩
  · exact call_repr_data hgd hu pins s σ H xs us Q I r h
  · obtain ⟨u, rfl, ru⟩ := vals1 r
    cases (show u = Value.none from ru)
    exact PySem.P.repr_of_none ⟨.str "None", H, I.tok _, ⟨_, rfl⟩, q⟩
  · obtain ⟨u, rfl, ru⟩ := vals1 r
    cases (show u = Value.bool b from ru)
    exact PySem.P.repr_of_bool ⟨.str (if b then "True" else "False"), H, I.tok _, ⟨_, by cases b <;> rfl⟩, q⟩
  · obtain ⟨u, rfl, ru⟩ := vals1 r
    obtain ⟨t, rfl⟩ := (show ∃ t, u = Value.int i t from ru)
    exact PySem.P.repr_of_int b ⟨.str (toString i), H, I.tok _, ⟨_, rfl⟩, q⟩
  · obtain ⟨u, rfl, ru⟩ := vals1 r
    obtain ⟨t, rfl⟩ := (show ∃ t, u = Value.str z t from ru)
    exact PySem.P.repr_of_str ⟨.str (reprText z), H, I.tok _, ⟨_, rfl⟩, q⟩ b
theorem dc_reprZ {d : PyData} {L D : Nat} (h : Rs L D d) (h1 : L ≤ sizeLine) (h2 : D ≤ 50) (f : Ψ (.str d.shown)) : DC K (rReprZ K) [d] Ψ := by
  intro N H hN us hu Q q
  have one : ∃ u, us = [u] ∧ Dq K N H u d := by
    cases hu with
    | cons a1 a2 => cases a2; exact ⟨_, rfl, a1⟩
  obtain ⟨u, rfl, a1⟩ := one
  cases d
  case none => cases a1; exact .inr (.inl ⟨rfl, q _ _ H f (Same.refl H) (Dt.str _)⟩)
  case bool b =>
    cases a1
    refine .inr (.inr (.inl ⟨b, rfl, q _ _ H f (Same.refl H) ?_⟩))
    cases b <;> exact Dt.str _
  case int i => cases a1; exact .inr (.inr (.inr (.inl ⟨i, rfl, of_decide_eq_true h.s, q _ _ H f (Same.refl H) (Dt.str _)⟩)))
  case str z => cases a1; exact .inr (.inr (.inr (.inr ⟨z, rfl, Nat.le_trans h.l h1, q _ _ H f (Same.refl H) (Dt.str _)⟩)))
  case list ds => exact .inl (dc_reprS (.inl ⟨_, rfl⟩) h h1 h2 f N H hN _ hu Q q)
  case tuple ds => exact .inl (dc_reprS (.inr ⟨_, rfl⟩) h h1 h2 f N H hN _ hu Q q)
  case dict ds => exact absurd h.h (by simp [PyData.hasDict])
end
end DL

set_option Elab.async false
set_option linter.all false
set_option maxRecDepth 100000
set_option maxHeartbeats 4000000
/-! DM4: rows of either kind as data; lists of one's own shown for a while -/
namespace DL
open PySem PySem.Spec PyProof.Rows L2
section
variable {K : PySem.W.Frag} {S : Stt} {ρ : Rho} {Φ : PyData → Rho → Prop} {Ψ : PyData → Prop}
def rowD (b : Bool) (ds : List PyData) : PyData := if b then .list ds else .tuple ds
theorem do_catA {xs ys : List PyData} (hz : xs.length + ys.length ≤ sizeLine) (h : Ψ (.tuple (xs ++ ys))) : DO K (rCatA K) (.tuple xs) (.tuple ys) Ψ := fun N H hN u w hu hw Q q => by
  obtain ⟨p, us, rfl, _, h1, h2⟩ := hu.tup_inv
  obtain ⟨p2, ws, rfl, _, h3, h4⟩ := hw.tup_inv
  refine ⟨p, p2, us, ws, rfl, rfl, h1, h3, by rw [h2.len, h4.len]; exact hz, fun e => ?_, fun _ e => ?_, fun _ _ z hz => ?_⟩
  · subst e
    have e2 : xs = [] := List.length_eq_zero_iff.mp (by rw [← h2.len]; rfl)
    subst e2
    exact q _ _ H h (Same.refl H) hw
  · subst e
    have e2 : ys = [] := List.length_eq_zero_iff.mp (by rw [← h4.len]; rfl)
    subst e2
    rw [List.append_nil] at h
    exact q _ _ H h (Same.refl H) hu
  · have s := same_new hz (.tup (us ++ ws))
    exact q _ _ _ h s (Dq.tup (fresh_av hN hz) upd_same ((h2.append h4).keep (Keep.of s)))
theorem dc_listT {ds : List PyData} (h : Ψ (.list ds)) : DC K (rListOf K) [.tuple ds] Ψ := fun N H hN us hu Q q => by
  cases hu with
  | cons h1 h2 =>
    cases h2
    obtain ⟨p, xs, rfl, _, h3, h4⟩ := Dq.tup_inv h1
    refine ⟨p, xs, rfl, .inr h3, fun l hl => ?_⟩
    have s := same_new hl (.lst xs)
    exact q _ _ _ h s (Dq.lst (fresh_av hN hl) upd_same (h4.keep (Keep.of s)))
/-! ### all lists of one's own shown, while a thing is asked that tells a truth or a number -/
def frzS : Sl → Sl
  | .own ds => .dat (.list ds)
  | s => s
def fz (ρ : Rho) : Rho := ρ.map frzS
def Plain : PyData → Prop
  | .bool _ | .int _ | .str _ => True
  | _ => False
end
end DL

set_option Elab.async false
set_option linter.all false
/-! LM4: lines knot by knot: what bends, and the one normal form -/
namespace DL
def yR : Kn → Rat → Rat → Rat
  | [], _, _ => 0
  | [a], s, x => a.2 + s * (x - a.1)
  | a :: b :: r, s, x => if x < b.1 then a.2 + (b.2 - a.2) / (b.1 - a.1) * (x - a.1) else yR (b :: r) s x
/-- the slope behind a, with the rest -/
def sR (a : Rat × Rat) : Kn → Rat → Rat
  | [], s => s
  | b :: _, _ => (b.2 - a.2) / (b.1 - a.1)
def go (sl : Rat) : Kn → Rat → Kn
  | [], _ => []
  | b :: r, s => if sR b r s = sl then go sl r s else b :: go (sR b r s) r s
def bR : Kn → Rat → Kn
  | [], _ => []
  | a :: r, s => a :: go (sR a r s) r s
def RisR : Kn → Prop
  | [] => True
  | [_] => True
  | a :: b :: r => a.1 < b.1 ∧ RisR (b :: r)
def NrmR : Kn → Rat → Prop
  | [], _ => True
  | [_], _ => True
  | a :: b :: r, s => sR a (b :: r) s ≠ sR b r s ∧ NrmR (b :: r) s
theorem two {a b : Rat × Rat} (h : a.1 < b.1) : b.2 = a.2 + (b.2 - a.2) / (b.1 - a.1) * (b.1 - a.1) := by grind
end DL

set_option Elab.async false
set_option linter.all false
/-! LM5: by number and knot by knot -/
namespace DL
/-- whether the line bends at a knot, the first one always -/
def pB (ks : Kn) (s : Rat) (i : Nat) : Bool := decide (i = 0) || !decide (slp ks s i = slp ks s (i - 1))
def bI (ks : Kn) (s : Rat) (k : Nat) : Kn := ((List.range k).filter (pB ks s)).map (kn ks)
end DL

set_option Elab.async false
set_option linter.all false
set_option maxRecDepth 100000
set_option maxHeartbeats 4000000
/-! LR1: lines made of rows of knots -/
namespace DL
open PySem PySem.Spec PyProof.Rows L2
noncomputable instance risDec (ks : Kn) : Decidable (Rising ks) := Classical.propDecidable _
abbrev rkD (b : Bool) (ks : Kn) : PyData := rowD b (ks.map kD)
structure Rk (B : Nat) (ks : Kn) (s : Rat) : Prop where
  b : KsB B ks s
  len : ks.length ≤ 100000
  B0 : 0 < B
  B2 : 2 * B ≤ 3800
def TSlopesR : List PyData → (PyData → Prop) → Prop := fun ds Φ => ∃ (b : Bool) (ks : Kn) (s : Rat) (B : Nat), ds = [rkD b ks, qp s] ∧ Rk B ks s ∧ Rising ks ∧ 0 < ks.length ∧ Φ (.list ((List.range ks.length).map fun i => qp (slp ks s i)))
def TRisB : List PyData → (PyData → Prop) → Prop := fun ds Φ => ∃ (b : Bool) (ks : Kn) (B : Nat), ds = [rkD b ks] ∧ (∀ i, i < ks.length → sz (kn ks i).1 ≤ B) ∧ ks.length ≤ 100000 ∧ B ≤ 3800 ∧ Φ (.bool (decide (Rising ks)))
def TBends : List PyData → (PyData → Prop) → Prop := fun ds Φ => ∃ (b : Bool) (ks : Kn) (s : Rat) (B : Nat), ds = [rkD b ks, qp s] ∧ Rk B ks s ∧ Rising ks ∧ 0 < ks.length ∧ Φ (knD (bI ks s ks.length))
def TLineOf : List PyData → (PyData → Prop) → Prop := fun ds Φ => ∃ (b : Bool) (ks : Kn) (s : Rat) (B : Nat), ds = [rkD b ks, qp s] ∧ Rk B ks s ∧ Rising ks ∧ 0 < ks.length ∧ (kn ks 0).1 = 0 ∧ Φ (lnD (bI ks s ks.length) s)
local macro_rules | `(tactic| walk_at "dl") => `(tactic| repeat' (first
  | with_reducible refine wd_isTy ?_ | with_reducible refine wd_isi ?_ | with_reducible refine wd_op ?_ | ((with_reducible show WD _ _ (tCB (rLenX _) (tCons (tVar _) tNil)) _ _); refine wd_len_scr rfl ?_) | with_reducible refine wd_cb ?_ | with_reducible refine wd_un ?_ | with_reducible refine wa_cons ?_ | with_reducible refine wa_nil ?_ | ((with_reducible show WD _ _ (tVar _) _ _); refine wd_var rfl ?_) | with_reducible refine wd_int ?_ | with_reducible refine wd_bl ?_ | with_reducible refine wd_str ?_ | with_reducible refine wd_non ?_
  | with_reducible refine do_nesS ?_ | with_reducible refine dc_intB ?_ | with_reducible refine do_add ?_ | with_reducible refine do_sub ?_ | ((with_reducible refine do_mod ?_ ?_); decide) | with_reducible refine do_mod ?_ ?_ | with_reducible refine do_mul ?_ ?_ | ((with_reducible refine do_div ?_ ?_); exact ⟨by decide, by decide⟩) | with_reducible refine do_div ?_ ?_ | ((with_reducible refine do_pow ?_ ?_); exact ⟨by decide, by decide, by decide⟩) | with_reducible refine do_pow ?_ ?_
  | with_reducible refine do_lt ?_ | with_reducible refine do_le ?_ | with_reducible refine do_gt ?_ | with_reducible refine do_ge ?_ | with_reducible refine du_neg ?_
  | with_reducible refine do_eqi ?_ | with_reducible refine do_nei ?_ | with_reducible refine do_eqs ?_ | with_reducible refine do_nes ?_ | with_reducible refine dc_abs ?_ | with_reducible refine dc_min ?_ | with_reducible refine dc_max ?_ | with_reducible refine dc_lenL ?_ | with_reducible refine dc_lenT ?_ | with_reducible refine dc_lenR ?_ | with_reducible refine dc_gcd ?_
  | ((with_reducible show DO _ (rIxT _) _ _ _); refine do_ixT rfl ?_) | ((with_reducible show DO _ (rIxL _) _ _ _); refine do_ixL rfl ?_) | ((with_reducible refine do_catL ?_ ?_); exact Nat.le_of_ble_eq_true rfl) | with_reducible refine do_catL ?_ ?_ | ((with_reducible show And (List.length _ ≤ sizeLine) _); refine ⟨Nat.le_of_ble_eq_true rfl, ?_⟩)
  | with_reducible refine wd_dnew ?_ | with_reducible refine wd_call0 ?_ | with_reducible refine wd_slA ?_ | with_reducible refine wo_part ?_ | with_reducible refine wo_none ?_ | with_reducible refine do_eqQ ?_ | with_reducible refine do_neQ ?_ | with_reducible refine wi_enumT ?_ | with_reducible refine wi_enumD ?_ | with_reducible refine tAdQ (by omega) (by omega) ?_ | with_reducible refine tSbQ (by omega) (by omega) ?_ | with_reducible refine tMlQ (by omega) (by omega) ?_ | with_reducible refine tDvQ (by assumption) (by omega) (by omega) ?_ | with_reducible refine tLtQ (by omega) (by omega) ?_ | with_reducible refine dc_str ?_ ?_ | with_reducible refine wd_tup ?_ | with_reducible refine wd_lst ?_ | with_reducible refine wt_test ?_ | with_reducible refine wt_B ?_ | with_reducible refine wt_not ?_ | with_reducible refine wt_and ?_ | with_reducible refine wt_or ?_ | with_reducible refine wd_ifE ?_ | with_reducible refine wd_andV ?_ | with_reducible refine wd_orV ?_ | with_reducible refine wd_notV ?_
  | with_reducible refine ws_seq ?_ | with_reducible refine ws_next ?_ | with_reducible refine ws_asg ?_ | with_reducible refine ws_ret ?_ | with_reducible refine ws_retN ?_ | with_reducible refine ws_if ?_ | with_reducible refine ws_par ?_ | with_reducible refine ws_unp2 ?_
  | with_reducible refine if_t ?_ | with_reducible refine if_f ?_ | with_reducible refine if_nf ?_ | with_reducible refine if_nt ?_
  | ((with_reducible show Exists _); first | refine ⟨_, kitInt _, ?_⟩ | refine ⟨_, kitBool _, ?_⟩ | refine ⟨_, kitTup _, ?_⟩ | refine ⟨_, kitList _, ?_⟩ | refine ⟨_, rfl, ?_⟩ | refine ⟨_, _, rfl, ?_⟩ | fail) | fail))
def t_slopesR (K : PySem.W.Frag) : TS :=
  (tSeq (tAsg (tLst tNil) (gName 2))
    (tSeq (tFor (iRng1 (tCons (tOp rSubI (tCB (rLenX K) (tCons (tVar 0) tNil)) (tC (.int 1))) tNil)) (gName 3) (tSeq (tAsg (tOp (rIxR K) (tVar 0) (tVar 3)) (gTup K 2 (gCons (gName 4) (gCons (gName 5) gNil))))
    (tSeq (tAsg (tOp (rIxR K) (tVar 0) (tOp rAddI (tVar 3) (tC (.int 1)))) (gTup K 2 (gCons (gName 6) (gCons (gName 7) gNil))))
    (tDrop (tBM K "list" rAppend (tVar 2) (tCons (tCall (spP K TDvQ) [] E0 (tCons (tCall (spP K TSbQ) [] E0 (tCons (tVar 7) (tCons (tVar 5) tNil))) (tCons (tCall (spP K TSbQ) [] E0 (tCons (tVar 6) (tCons (tVar 4) tNil))) tNil))) tNil))))))
    (tRet (tOp rCatL (tVar 2) (tLst (tCons (tVar 1) tNil))))))
def t_risB (K : PySem.W.Frag) : TS :=
  (tRet (tCB (rAll K) (tCons (tLc (iRng1 (tCons (tOp rSubI (tCB (rLenX K) (tCons (tVar 0) tNil)) (tC (.int 1))) tNil)) (gName 1) tYes (tCall (spP K TLtQ) [] E0 (tCons (tOp (rIxT K) (tOp (rIxR K) (tVar 0) (tVar 1)) (tC (.int 0))) (tCons (tOp (rIxT K) (tOp (rIxR K) (tVar 0) (tOp rAddI (tVar 1) (tC (.int 1)))) (tC (.int 0))) tNil))) [1]) tNil)))
def t_bends (K : PySem.W.Frag) : TS :=
  (tSeq (tAsg (tCall (spP K TSlopesR) [] E0 (tCons (tVar 0) (tCons (tVar 1) tNil))) (gName 2))
    (tSeq (tAsg (tLst tNil) (gName 3))
    (tSeq (tFor (iEnumR K (tCons (tVar 0) tNil)) (gTup K 2 (gCons (gName 4) (gCons (gTup K 2 (gCons (gName 5) (gCons (gName 6) gNil))) gNil))) (tIfS (tOr (tTest (tOp rEq (tVar 4) (tC (.int 0)))) (tTest (tOp (rNeD K) (tOp (rIxL K) (tVar 2) (tVar 4)) (tOp (rIxL K) (tVar 2) (tOp rSubI (tVar 4) (tC (.int 1))))))) (tDrop (tBM K "list" rAppend (tVar 3) (tCons (tTup (tCons (tVar 5) (tCons (tVar 6) tNil))) tNil))) tNext))
    (tRet (tCB (rTupOf K) (tCons (tVar 3) tNil))))))
def t_lineof (K : PySem.W.Frag) (a_NOUGHT : Addr) : TS :=
  (tSeq (tIfS (tTest (tOp rEq (tCB (rLenX K) (tCons (tVar 0) tNil)) (tC (.int 0)))) tNo tNext)
    (tSeq (tIfS (tTest (tOp (rNeD K) (tOp (rIxT K) (tOp (rIxR K) (tVar 0) (tC (.int 0))) (tC (.int 0))) (tC (.ref a_NOUGHT)))) tNo tNext)
    (tSeq (tIfS (tNot (tB (tCall (spP K TRisB) [] E0 (tCons (tVar 0) tNil)))) tNo tNext)
    (tRet (tTup (tCons (tCall (spP K TBends) [] E0 (tCons (tVar 0) (tCons (tVar 1) tNil))) (tCons (tVar 1) tNil)))))))
section
variable {K : PySem.W.Frag} {ds : List PyData} {Φ : PyData → Prop}
end
end DL

set_option Elab.async false
set_option linter.all false
set_option maxRecDepth 100000
set_option maxHeartbeats 4000000
/-! LR2: what is a line, of anything -/
namespace DL
open PySem PySem.Spec PyProof.Rows L2
/-- of no great numbers -/
inductive Tm : PyData → Prop
  | non : Tm .none
  | bool {b : Bool} : Tm (.bool b)
  | int {i : Int} : i.natAbs < 2 ^ 1700 → Tm (.int i)
  | str {z : Str} : Tm (.str z)
  | tup {ds : List PyData} : ds.length ≤ 1000 → (∀ d ∈ ds, Tm d) → Tm (.tuple ds)
  | lst {ds : List PyData} : ds.length ≤ 1000 → (∀ d ∈ ds, Tm d) → Tm (.list ds)
theorem Tm.mem {ds : List PyData} (h : Tm (.tuple ds)) {d : PyData} (m : d ∈ ds) : Tm d := by cases h with | tup _ g => exact g d m
theorem Tm.len {ds : List PyData} (h : Tm (.tuple ds)) : ds.length ≤ 1000 := by cases h with | tup g _ => exact g
theorem isPartD_q {d : PyData} (h : isPartD d = true) : ∃ q, d = qp q := by
  unfold isPartD at h
  split at h
  · rename_i a b
    rw [Bool.and_eq_true] at h
    have h1 := of_decide_eq_true h.1
    have h2 := of_decide_eq_true h.2
    have e : (b.toNat : Int) = b := by omega
    refine ⟨⟨a, b.toNat, by omega, by show Nat.gcd a.natAbs b.toNat = 1; rw [show b.toNat = b.natAbs by omega]; exact h2⟩, ?_⟩
    show _ = PyData.tuple [.int a, .int ((b.toNat : Nat) : Int)]
    rw [e]
  · cases h
theorem isPartD_qp (q : Rat) : isPartD (qp q) = true := by
  show (decide (1 ≤ (q.den : Int)) && decide (Nat.gcd q.num.natAbs (q.den : Int).natAbs = 1)) = true
  have h := q.den_pos
  rw [decide_eq_true (by omega), Bool.true_and]
  exact decide_eq_true q.reduced
def isPairD : PyData → Bool
  | .tuple xs => decide ((xs.length : Int) = 2)
  | _ => false
def isKnotD : PyData → Bool
  | .tuple [a, b] => isPartD a && isPartD b
  | _ => false
def IsLn (d : PyData) : Prop := ∃ ks s, d = lnD ks s ∧ 0 < ks.length ∧ (kn ks 0).1 = 0 ∧ Rising ks ∧ Nrm ks s
noncomputable def isLnB (d : PyData) : Bool := @decide (IsLn d) (Classical.propDecidable _)
theorem tuple_of {d : PyData} (h : tyD d = "tuple") : ∃ xs, d = .tuple xs := by
  cases d <;> first | exact ⟨_, rfl⟩ | (simp [tyD] at h)
def TPairB : List PyData → (PyData → Prop) → Prop := fun ds Φ => ∃ d, ds = [d] ∧ Φ (.bool (isPairD d))
def TKnotB : List PyData → (PyData → Prop) → Prop := fun ds Φ => ∃ d, ds = [d] ∧ Φ (.bool (isKnotD d))
def TIsPartL : List PyData → (PyData → Prop) → Prop := fun ds Φ => ∃ d, ds = [d] ∧ GoodD d ∧ Φ (.bool (isPartD d))
def TIsLine : List PyData → (PyData → Prop) → Prop := fun ds Φ => ∃ d, ds = [d] ∧ Tm d ∧ SeqAt.shaped d = true ∧ Φ (.bool (isLnB d))
local macro_rules | `(tactic| walk_at "dl") => `(tactic| repeat' (first
  | with_reducible refine wd_isTy ?_ | with_reducible refine wd_isi ?_ | with_reducible refine wd_op ?_ | ((with_reducible show WD _ _ (tCB (rLenX _) (tCons (tVar _) tNil)) _ _); refine wd_len_scr rfl ?_) | with_reducible refine wd_cb ?_ | with_reducible refine wd_un ?_ | with_reducible refine wa_cons ?_ | with_reducible refine wa_nil ?_ | ((with_reducible show WD _ _ (tVar _) _ _); refine wd_var rfl ?_) | with_reducible refine wd_int ?_ | with_reducible refine wd_bl ?_ | with_reducible refine wd_str ?_ | with_reducible refine wd_non ?_
  | with_reducible refine do_nesS ?_ | with_reducible refine dc_intB ?_ | with_reducible refine do_add ?_ | with_reducible refine do_sub ?_ | ((with_reducible refine do_mod ?_ ?_); decide) | with_reducible refine do_mod ?_ ?_ | with_reducible refine do_mul ?_ ?_ | ((with_reducible refine do_div ?_ ?_); exact ⟨by decide, by decide⟩) | with_reducible refine do_div ?_ ?_ | ((with_reducible refine do_pow ?_ ?_); exact ⟨by decide, by decide, by decide⟩) | with_reducible refine do_pow ?_ ?_
  | with_reducible refine do_lt ?_ | with_reducible refine do_le ?_ | with_reducible refine do_gt ?_ | with_reducible refine do_ge ?_ | with_reducible refine du_neg ?_
  | with_reducible refine do_eqi ?_ | with_reducible refine do_nei ?_ | with_reducible refine do_eqs ?_ | with_reducible refine do_nes ?_ | with_reducible refine dc_abs ?_ | with_reducible refine dc_min ?_ | with_reducible refine dc_max ?_ | with_reducible refine dc_lenL ?_ | with_reducible refine dc_lenT ?_ | with_reducible refine dc_lenR ?_ | with_reducible refine dc_gcd ?_
  | ((with_reducible show DO _ (rIxT _) _ _ _); refine do_ixT rfl ?_) | ((with_reducible show DO _ (rIxL _) _ _ _); refine do_ixL rfl ?_) | ((with_reducible refine do_catL ?_ ?_); exact Nat.le_of_ble_eq_true rfl) | with_reducible refine do_catL ?_ ?_ | ((with_reducible show And (List.length _ ≤ sizeLine) _); refine ⟨Nat.le_of_ble_eq_true rfl, ?_⟩)
  | with_reducible refine wd_dnew ?_ | with_reducible refine wd_call0 ?_ | with_reducible refine wd_slA ?_ | with_reducible refine wo_part ?_ | with_reducible refine wo_none ?_ | with_reducible refine do_eqQ ?_ | with_reducible refine do_neQ ?_ | with_reducible refine wi_enumT ?_ | with_reducible refine wi_enumD ?_ | with_reducible refine tAdQ (by omega) (by omega) ?_ | with_reducible refine tSbQ (by omega) (by omega) ?_ | with_reducible refine tMlQ (by omega) (by omega) ?_ | with_reducible refine tDvQ (by assumption) (by omega) (by omega) ?_ | with_reducible refine tLtQ (by omega) (by omega) ?_ | with_reducible refine dc_str ?_ ?_ | with_reducible refine wd_tup ?_ | with_reducible refine wd_lst ?_ | with_reducible refine wt_test ?_ | with_reducible refine wt_B ?_ | with_reducible refine wt_not ?_ | with_reducible refine wt_and ?_ | with_reducible refine wt_or ?_ | with_reducible refine wd_ifE ?_ | with_reducible refine wd_andV ?_ | with_reducible refine wd_orV ?_ | with_reducible refine wd_notV ?_
  | with_reducible refine ws_seq ?_ | with_reducible refine ws_next ?_ | with_reducible refine ws_asg ?_ | with_reducible refine ws_ret ?_ | with_reducible refine ws_retN ?_ | with_reducible refine ws_if ?_ | with_reducible refine ws_par ?_ | with_reducible refine ws_unp2 ?_
  | with_reducible refine if_t ?_ | with_reducible refine if_f ?_ | with_reducible refine if_nf ?_ | with_reducible refine if_nt ?_
  | ((with_reducible show Exists _); first | refine ⟨_, kitInt _, ?_⟩ | refine ⟨_, kitBool _, ?_⟩ | refine ⟨_, kitTup _, ?_⟩ | refine ⟨_, kitList _, ?_⟩ | refine ⟨_, rfl, ?_⟩ | refine ⟨_, _, rfl, ?_⟩ | fail) | fail))
def t_pairb (K : PySem.W.Frag) : TS :=
  (tRet (tAndV (tOp rIsTyX (tCB (rTyp K) (tCons (tVar 0) tNil)) (tC (.ty "tuple"))) (tOp rEq (tCB (rLenX K) (tCons (tVar 0) tNil)) (tC (.int 2)))))
def t_knotb (K : PySem.W.Frag) : TS :=
  (tRet (tAndV (tCall (spP K TPairB) [] E0 (tCons (tVar 0) tNil)) (tAndV (tCall (spP K TPartB) [] E0 (tCons (tOp (rIxT K) (tVar 0) (tC (.int 0))) tNil)) (tCall (spP K TPartB) [] E0 (tCons (tOp (rIxT K) (tVar 0) (tC (.int 1))) tNil)))))
def t_isline (K : PySem.W.Frag) (a_NOUGHT : Addr) : TS :=
  (tSeq (tIfS (tNot (tB (tCall (spP K TPairB) [] E0 (tCons (tVar 0) tNil)))) (tRet (tC (.bl false))) tNext)
    (tSeq (tAsg (tVar 0) (gTup K 2 (gCons (gName 1) (gCons (gName 2) gNil))))
    (tSeq (tIfS (tNot (tAnd (tTest (tOp rIsTyX (tCB (rTyp K) (tCons (tVar 1) tNil)) (tC (.ty "tuple")))) (tAnd (tTest (tOp rGe (tCB (rLenX K) (tCons (tVar 1) tNil)) (tC (.int 1)))) (tB (tCall (spP K TPartB) [] E0 (tCons (tVar 2) tNil)))))) (tRet (tC (.bl false))) tNext)
    (tSeq (tIfS (tNot (tB (tCB (rAll K) (tCons (tLc (iTup K (tVar 1)) (gName 3) tYes (tCall (spP K TKnotB) [] E0 (tCons (tVar 3) tNil)) [3]) tNil)))) (tRet (tC (.bl false))) tNext)
    (tSeq (tIfS (tOr (tTest (tOp (rNeD K) (tOp (rIxT K) (tOp (rIxT K) (tVar 1) (tC (.int 0))) (tC (.int 0))) (tC (.ref a_NOUGHT)))) (tNot (tB (tCall (spP K TRisB) [] E0 (tCons (tVar 1) tNil))))) (tRet (tC (.bl false))) tNext)
    (tRet (tOp rEq (tCB (rLenX K) (tCons (tCall (spP K TBends) [] E0 (tCons (tVar 1) (tCons (tVar 2) tNil))) tNil)) (tCB (rLenX K) (tCons (tVar 1) tNil)))))))))
def t_lispart (K : PySem.W.Frag) : TS :=
  (tSeq (tIfS (tOr (tNot (tB (tCB (rIsi K) (tCons (tVar 0) (tCons (tC (.ty "tuple")) tNil))))) (tTest (tOp rNe (tCB (rLenX K) (tCons (tVar 0) tNil)) (tC (.int 2))))) (tRet (tC (.bl false))) tNext)
    (tSeq (tFor (iTup K (tVar 0)) (gName 1) (tIfS (tOr (tNot (tB (tCB (rIsi K) (tCons (tVar 1) (tCons (tC (.ty "int")) tNil))))) (tB (tCB (rIsi K) (tCons (tVar 1) (tCons (tC (.ty "bool")) tNil))))) (tRet (tC (.bl false))) tNext))
    (tRet (tAndV (tOp rGt (tOp (rIxT K) (tVar 0) (tC (.int 1))) (tC (.int 0))) (tOp (rEqD K) (tCall (spP K TLow) [] E0 (tCons (tOp (rIxT K) (tVar 0) (tC (.int 0))) (tCons (tOp (rIxT K) (tVar 0) (tC (.int 1))) tNil))) (tVar 0))))))
def t_lisline (K : PySem.W.Frag) : TS :=
  (tSeq (tIfS (tOr (tNot (tB (tCB (rIsi K) (tCons (tVar 0) (tCons (tC (.ty "tuple")) tNil))))) (tOr (tTest (tOp rNe (tCB (rLenX K) (tCons (tVar 0) tNil)) (tC (.int 2)))) (tOr (tNot (tB (tCB (rIsi K) (tCons (tOp (rIxT K) (tVar 0) (tC (.int 0))) (tCons (tC (.ty "tuple")) tNil))))) (tTest (tOp (rEqD K) (tOp (rIxT K) (tVar 0) (tC (.int 0))) (tTup tNil)))))) (tRet (tC (.bl false))) tNext)
    (tSeq (tFor (iTup K (tOp (rIxT K) (tVar 0) (tC (.int 0)))) (gName 1) (tIfS (tOr (tNot (tB (tCB (rIsi K) (tCons (tVar 1) (tCons (tC (.ty "tuple")) tNil))))) (tOr (tTest (tOp rNe (tCB (rLenX K) (tCons (tVar 1) tNil)) (tC (.int 2)))) (tOr (tNot (tB (tCall (spP K TIsPartL) [] E0 (tCons (tOp (rIxT K) (tVar 1) (tC (.int 0))) tNil)))) (tNot (tB (tCall (spP K TIsPartL) [] E0 (tCons (tOp (rIxT K) (tVar 1) (tC (.int 1))) tNil))))))) (tRet (tC (.bl false))) tNext))
    (tSeq (tIfS (tOr (tNot (tB (tCall (spP K TIsPartL) [] E0 (tCons (tOp (rIxT K) (tVar 0) (tC (.int 1))) tNil)))) (tTest (tOp (rNeD K) (tOp (rIxT K) (tOp (rIxT K) (tOp (rIxT K) (tVar 0) (tC (.int 0))) (tC (.int 0))) (tC (.int 0))) (tTup (tCons (tC (.int 0)) (tCons (tC (.int 1)) tNil)))))) (tRet (tC (.bl false))) tNext)
    (tSeq (tFor (iRng2 (tCons (tC (.int 1)) (tCons (tCB (rLenX K) (tCons (tOp (rIxT K) (tVar 0) (tC (.int 0))) tNil)) tNil))) (gName 2) (tIfS (tNot (tB (tCall (spP K TLtQ) [] E0 (tCons (tOp (rIxT K) (tOp (rIxT K) (tOp (rIxT K) (tVar 0) (tC (.int 0))) (tOp rSubI (tVar 2) (tC (.int 1)))) (tC (.int 0))) (tCons (tOp (rIxT K) (tOp (rIxT K) (tOp (rIxT K) (tVar 0) (tC (.int 0))) (tVar 2)) (tC (.int 0))) tNil))))) (tRet (tC (.bl false))) tNext))
    (tRet (tOp (rEqD K) (tLc (iRng2 (tCons (tC (.int 1)) (tCons (tCB (rLenX K) (tCons (tOp (rIxT K) (tVar 0) (tC (.int 0))) tNil)) tNil))) (gName 2) (tTest (tOp (rEqD K) (tCall (spP K TSlope) [] E0 (tCons (tVar 0) (tCons (tOp rSubI (tVar 2) (tC (.int 1))) tNil))) (tCall (spP K TSlope) [] E0 (tCons (tVar 0) (tCons (tVar 2) tNil))))) (tC (.int 1)) [2]) (tLst tNil)))))))
section
variable {K : PySem.W.Frag} {ds : List PyData} {Φ : PyData → Prop}
end
end DL

set_option Elab.async false
set_option linter.all false
set_option maxRecDepth 100000
set_option maxHeartbeats 4000000
/-! DM5: list(zip(xs, ys)) -/
namespace DZ
open PySem PySem.W PySem.Calls PyProof.Rows PyProof.V PySem.Spec
theorem zNoLen : typeLookup (.type "zip") "__len__" = pure none := by
  rw [typeLookup_type, builtinLookup_eq_fast]
  kernel_rfl
theorem zNoHint : typeLookup (.type "zip") "__length_hint__" = pure none := by
  rw [typeLookup_type, builtinLookup_eq_fast]
  kernel_rfl
/-- where the parts of a zip stand, all below the list S -/
structure Pl (z TI TO i1 i2 l1 l2 S : Addr) : Prop where
  D : ZipApart z TI TO i1 i2 l1 l2
  z : z < S
  TI : TI < S
  TO : TO < S
  i1 : i1 < S
  i2 : i2 < S
  l1 : l1 < S
  l2 : l2 < S
/-- a zip behind its i-th pair -/
structure St (z TI TO i1 i2 l1 l2 S : Addr) (xs ys : Array Value) (i : Nat) (h : Heap) : Prop where
  ti : IsPair h TI (.ref i1) (.ref i2)
  a1 : h.IsListIter i1 l1 i
  a2 : h.IsListIter i2 l2 i
  b1 : h.IsList l1 xs
  b2 : h.IsList l2 ys
  out : (IsZip h z TI TO .none ∧ ∃ a b, IsPair h TO a b) ∨ ∃ (T : Addr) (f : Bool) (oT : Obj), IsZipHeld h z TI TO T f ∧ h.get? T = some oT ∧ T ≠ z ∧ T ≠ i1 ∧ T ≠ i2 ∧ T ≠ S
/-- the pairs made so far -/
structure Gd (xs ys : Array Value) (S : Addr) (h : Heap) (as : List Addr) : Prop where
  up : as.Pairwise (· < ·)
  lo : ∀ a ∈ as, S < a
  at' : ∀ (j : Nat) (a : Addr), as[j]? = some a → ∃ x y, xs[j]? = some x ∧ ys[j]? = some y ∧ IsPair h a x y
section
variable {prog : Program} {w : World} {A : Around} {E : Value → Shared → Prop} {s : Shared} {z TI TO i1 i2 l1 l2 S : Addr} {xs ys : Array Value}
theorem St.mv {i : Nat} {h g : Heap} (P : Pl z TI TO i1 i2 l1 l2 S) (t : St z TI TO i1 i2 l1 l2 S xs ys i h) (k : ∀ b o, b ≠ S → h.get? b = some o → g.get? b = some o) : St z TI TO i1 i2 l1 l2 S xs ys i g := by
  have n : ∀ {b : Addr}, b < S → b ≠ S := fun h => Nat.ne_of_lt h
  refine ⟨k _ _ (n P.TI) t.ti, t.a1.at fun o e => k _ _ (n P.i1) e, t.a2.at fun o e => k _ _ (n P.i2) e, t.b1.at fun o e => k _ _ (n P.l1) e, t.b2.at fun o e => k _ _ (n P.l2) e, ?_⟩
  cases t.out with
  | inl q =>
    obtain ⟨q1, a, b, q2⟩ := q
    exact .inl ⟨k _ _ (n P.z) q1, a, b, k _ _ (n P.TO) q2⟩
  | inr q =>
    obtain ⟨T, f, oT, q1, q2, q3, q4, q5, q6⟩ := q
    exact .inr ⟨T, f, oT, k _ _ (n P.z) q1, k _ _ q6 q2, q3, q4, q5, q6⟩
theorem St.nxt {i : Nat} {x y : Value} {Q : Option Value → Shared → Prop} (P : Pl z TI TO i1 i2 l1 l2 S) (t : St z TI TO i1 i2 l1 l2 S xs ys i s.heap) (hS : S < s.heap.objs.size) (hx : xs[i]? = some x) (hy : ys[i]? = some y)
    (q : ∀ g, St z TI TO i1 i2 l1 l2 S xs ys (i + 1) g → IsPair g s.heap.objs.size x y → g.objs.size = s.heap.objs.size + 1 → (∀ c o, c ≠ z → c ≠ TO → c ≠ i1 → c ≠ i2 → s.heap.get? c = some o → g.get? c = some o) → Q (some (.ref s.heap.objs.size)) { s with heap := g }) :
    wpAny (model prog w) A (pyNext (.ref z)) Q E s := by
  have D := P.D
  have ln : ∀ {c : Addr} {o : Obj}, s.heap.get? c = some o → s.heap.objs.size ≠ c := fun e => Nat.ne_of_gt (Heap.lt_size e)
  obtain ⟨o1, p1, _⟩ := id t.a1
  obtain ⟨o2, p2, _⟩ := id t.a2
  cases t.out with
  | inl o =>
    obtain ⟨oz, a, b, oTO⟩ := o
    refine wpAny_pyNext_zip_item D oz t.ti oTO t.a1 t.a2 t.b1 t.b2 hx hy fun g g1 g2 g3 g4 g5 g6 kp => q g ?_ g5 g6 kp
    refine ⟨kp _ _ D.TIz D.TITO D.TIi1 D.TIi2 t.ti, g3, g4, t.b1.at fun o e => kp _ o D.l1z D.l1TO D.l1i1 D.l1i2 e, t.b2.at fun o e => kp _ o D.l2z D.l2TO D.l2i1 D.l2i2 e, .inr ?_⟩
    exact ⟨s.heap.objs.size, false, _, g1, g5, ln oz, ln p1, ln p2, Nat.ne_of_gt hS⟩
  | inr o =>
    obtain ⟨T, f, oT, oz, hT, r1, r2, r3, r4⟩ := o
    refine wpAny_pyNext_zip_item_held D oz hT t.ti t.a1 t.a2 t.b1 t.b2 hx hy fun g g1 g3 g4 g5 g6 kp => q g ?_ g5 g6 fun c o c1 _ c3 c4 e => kp c o c1 c3 c4 e
    refine ⟨kp _ _ D.TIz D.TIi1 D.TIi2 t.ti, g3, g4, t.b1.at fun o e => kp _ o D.l1z D.l1i1 D.l1i2 e, t.b2.at fun o e => kp _ o D.l2z D.l2i1 D.l2i2 e, .inr ?_⟩
    exact ⟨T, true, oT, g1, kp _ _ r1 r2 r3 hT, r1, r2, r3, r4⟩
theorem St.end' {i : Nat} {Q : Option Value → Shared → Prop} (hh : A.handled = none) (P : Pl z TI TO i1 i2 l1 l2 S) (t : St z TI TO i1 i2 l1 l2 S xs ys i s.heap) (he : xs[i]? = none)
    (q : ∀ g, (∀ c o, c ≠ z → c ≠ TO → c ≠ i1 → c ≠ i2 → s.heap.get? c = some o → g.get? c = some o) → Q none { s with heap := g }) :
    wpAny (model prog w) A (pyNext (.ref z)) Q E s := by
  cases t.out with
  | inl o =>
    obtain ⟨oz, a, b, oTO⟩ := o
    exact wpAny_pyNext_zip_end hh P.D oz t.ti oTO t.a1 t.a2 t.b1 t.b2 (.inl he) fun g kp => q g kp
  | inr o =>
    obtain ⟨T, f, oT, oz, hT, r1, r2, r3, r4⟩ := o
    exact wpAny_pyNext_zip_end_held hh P.D oz hT t.ti t.a1 t.a2 t.b1 t.b2 (.inl he) fun g kp => q g fun c o c1 _ c3 c4 e => kp c o c1 c3 c4 e
end
section
variable {prog : Program} {w : World} {A : Around} {s : Shared} {R : Result → Shared → Prop} {z TI TO i1 i2 l1 l2 S : Addr} {xs ys : Array Value}
theorem fill (hh : A.handled = none) (P : Pl z TI TO i1 i2 l1 l2 S) (hl : xs.size = ys.size) (hn : xs.size ≤ sizeLine) (res : Value) {g0 : Heap} (low : ∀ b o, g0.get? b = some o → b ≠ S ∧ b ≠ z ∧ b ≠ TO ∧ b ≠ i1 ∧ b ≠ i2)
    (fin : ∀ g tk acc c as, (∀ b o, g0.get? b = some o → g.get? b = some o) → g.get? S = some { cls := .type "list", dict := none, data := .seq acc c, slots := #[] } → as.length = xs.size → Gd xs ys S g as →
      acc.toList = as.map Value.ref → R (.ok (.ret res)) { s with heap := g, toks := tk }) :
    ∀ (m i : Nat) (g : Heap) (tk c : Nat) (acc : Array Value) (as : List Addr), xs.size = i + m → St z TI TO i1 i2 l1 l2 S xs ys i g → (∀ b o, g0.get? b = some o → g.get? b = some o) →
      g.get? S = some { cls := .type "list", dict := none, data := .seq acc c, slots := #[] } → acc.toList = as.map Value.ref → as.length = i → Gd xs ys S g as →
      codeAny (model prog w) A (.builtin "list.extend.loop" ⟨[.ref S, .ref z, res], []⟩) R { s with heap := g, toks := tk } := by
  intro m
  induction m with
  | zero =>
    intro i g tk c acc as e t kp hS ha al G
    ((refine codeAny_builtin PySem.F.entry_extend_loop ?_); (rw [Around.under_plainId PySem.F.plain_extend_loop _]); (show wpAny _ A.in1 (pyNext (.ref z) >>= _) _ _ _))
    refine wpAny_bind (t.end' (s := { s with heap := g, toks := tk }) (A := A.in1) hh P (Array.getElem?_eq_none (by omega)) fun g' k' => ?_)
    have nS : S ≠ z ∧ S ≠ TO ∧ S ≠ i1 ∧ S ≠ i2 := ⟨Nat.ne_of_gt P.z, Nat.ne_of_gt P.TO, Nat.ne_of_gt P.i1, Nat.ne_of_gt P.i2⟩
    refine wpAny_pure (fin g' tk acc c as (fun b o e' => ?_) (k' _ _ nS.1 nS.2.1 nS.2.2.1 nS.2.2.2 hS) (by omega) ⟨G.up, G.lo, fun j a ja => ?_⟩ ha)
    · obtain ⟨_, w1, w2, w3, w4⟩ := low b o e'
      exact k' b o w1 w2 w3 w4 (kp b o e')
    · obtain ⟨x, y, hx, hy, hp⟩ := G.at' j a ja
      have la := G.lo a (List.mem_of_getElem? ja)
      exact ⟨x, y, hx, hy, k' _ _ (Nat.ne_of_gt (Nat.lt_trans P.z la)) (Nat.ne_of_gt (Nat.lt_trans P.TO la)) (Nat.ne_of_gt (Nat.lt_trans P.i1 la)) (Nat.ne_of_gt (Nat.lt_trans P.i2 la)) hp⟩
  | succ m ih =>
    intro i g tk c acc as e t kp hS ha al G
    have hix : i < xs.size := by omega
    have hiy : i < ys.size := by omega
    have as' : acc.size = i := by rw [← Array.length_toList, ha, List.length_map, al]
    have sS : S < g.objs.size := Heap.lt_size hS
    ((refine codeAny_builtin PySem.F.entry_extend_loop ?_); (rw [Around.under_plainId PySem.F.plain_extend_loop _]); (show wpAny _ A.in1 (pyNext (.ref z) >>= _) _ _ _))
    refine wpAny_bind (t.nxt (s := { s with heap := g, toks := tk }) P sS (Array.getElem?_eq_getElem hix) (Array.getElem?_eq_getElem hiy) fun g' t' hp hz k' => ?_)
    dsimp only at t' hp hz k' ⊢
    have nS : S ≠ z ∧ S ≠ TO ∧ S ≠ i1 ∧ S ≠ i2 := ⟨Nat.ne_of_gt P.z, Nat.ne_of_gt P.TO, Nat.ne_of_gt P.i1, Nat.ne_of_gt P.i2⟩
    have hS' := k' _ _ nS.1 nS.2.1 nS.2.2.1 nS.2.2.2 hS
    have mv : ∀ b o, b ≠ S → g'.get? b = some o → (g'.update S (Obj.mapSeq (·.push (Value.ref g.objs.size)))).get? b = some o := fun b o hb e' => by
      rw [Heap.get?_update_other _ _ (Ne.symm hb)]; exact e'
    have old : ∀ a, S < a → ∀ o, g.get? a = some o → (g'.update S (Obj.mapSeq (·.push (Value.ref g.objs.size)))).get? a = some o := fun a la o e' =>
      mv a o (Nat.ne_of_gt la) (k' _ _ (Nat.ne_of_gt (Nat.lt_trans P.z la)) (Nat.ne_of_gt (Nat.lt_trans P.TO la)) (Nat.ne_of_gt (Nat.lt_trans P.i1 la)) (Nat.ne_of_gt (Nat.lt_trans P.i2 la)) e')
    show wpAny _ A.in1 (updateSeq S (·.push (Value.ref g.objs.size)) >>= _) _ _ _
    refine wpAny_bind (wpAny_updateSeq hS' rfl (wpAny_pure ⟨plainId_quiet PySem.F.plain_extend_loop _, ?_⟩) (by rw [as']; omega) (by show (acc.push (Value.ref g.objs.size)).size ≤ sizeLine + 1; rw [Array.size_push, as']; omega))
    refine ih (i + 1) _ tk _ (acc.push (Value.ref g.objs.size)) (as ++ [g.objs.size]) (by omega) (t'.mv P mv) (fun b o e' => ?_) (Heap.get?_update_self _ hS' rfl) ?_ (by rw [List.length_append, al]; rfl) ⟨?_, fun a ha' => ?_, fun j a ja => ?_⟩
    · obtain ⟨w0, w1, w2, w3, w4⟩ := low b o e'
      exact mv b o w0 (k' b o w1 w2 w3 w4 (kp b o e'))
    · rw [Array.toList_push, ha, List.map_append]; rfl
    · refine List.pairwise_append.mpr ⟨G.up, List.pairwise_singleton _ _, fun a ha' b hb => ?_⟩
      have e1 : b = g.objs.size := by simpa using hb
      subst e1
      obtain ⟨j, hj⟩ := List.mem_iff_getElem?.mp ha'
      obtain ⟨_, _, _, _, hp'⟩ := G.at' j a hj
      exact Heap.lt_size hp'
    · rcases List.mem_append.mp ha' with h | h
      · exact G.lo a h
      · have e1 : a = g.objs.size := by simpa using h
        subst e1; exact sS
    · by_cases q : j < as.length
      · rw [List.getElem?_append_left q] at ja
        obtain ⟨x, y, hx, hy, hp'⟩ := G.at' j a ja
        exact ⟨x, y, hx, hy, old a (G.lo a (List.mem_of_getElem? ja)) _ hp'⟩
      · by_cases q2 : j = as.length
        · subst q2
          have e1 : g.objs.size = a := by simpa using ja
          subst e1
          exact ⟨_, _, by rw [al]; exact Array.getElem?_eq_getElem hix, by rw [al]; exact Array.getElem?_eq_getElem hiy, mv _ _ (Nat.ne_of_gt sS) hp⟩
        · rw [List.getElem?_eq_none (by rw [List.length_append, List.length_singleton]; omega)] at ja
          cases ja
end
section
variable {prog : Program} {w : World} {A : Around} {E : Value → Shared → Prop} {s : Shared} {z TI TO i1 i2 l1 l2 : Addr} {xs ys : Array Value}
/-- list(z), z a new zip of two lists of one length -/
theorem made {Q : Value → Shared → Prop} {g0 : Heap} (hh : A.handled = none) (P : Pl z TI TO i1 i2 l1 l2 s.heap.objs.size) (hl : xs.size = ys.size) (hn : xs.size ≤ sizeLine)
    (hz : IsZip s.heap z TI TO .none) (hTI : IsPair s.heap TI (.ref i1) (.ref i2)) (hTO : ∃ a b, IsPair s.heap TO a b) (h1 : s.heap.IsListIter i1 l1 0) (h2 : s.heap.IsListIter i2 l2 0) (b1 : s.heap.IsList l1 xs) (b2 : s.heap.IsList l2 ys)
    (k0 : ∀ b o, g0.get? b = some o → s.heap.get? b = some o ∧ b ≠ z ∧ b ≠ TO ∧ b ≠ i1 ∧ b ≠ i2)
    (fin : ∀ g tk acc c as, (∀ b o, g0.get? b = some o → g.get? b = some o) → g.get? s.heap.objs.size = some { cls := .type "list", dict := none, data := .seq acc c, slots := #[] } → as.length = xs.size → Gd xs ys s.heap.objs.size g as →
      acc.toList = as.map Value.ref → Q (.ref s.heap.objs.size) { s with heap := g, toks := tk }) : wpAny (model prog w) A (call (.type "list") [.ref z]) Q E s := by
  refine callType_codes (Q₁ := fun obj t => obj = .ref s.heap.objs.size ∧ t = { s with heap := s.heap.push { cls := .type "list", data := .seq #[] } }) PySem.F.called_list (PySem.F.typeCall_list_1 _) PySem.F.entry_list_init (code_list_new _ ⟨rfl, rfl⟩) fun obj t ht => ?_
  obtain ⟨rfl, rfl⟩ := ht
  have o0 : (s.heap.push { cls := .type "list", data := .seq #[] }).get? s.heap.objs.size = some { cls := .type "list", data := .seq #[] } := Heap.get?_push_size _ rfl
  refine ⟨⟨_, o0, rfl⟩, PySem.F.args_list_init_2 _ _, ?_⟩
  have zS : s.heap.objs.size ≠ z := Nat.ne_of_gt P.z
  have kk : ∀ b o, s.heap.get? b = some o → b ≠ s.heap.objs.size := fun b o e => Nat.ne_of_lt (Heap.lt_size e)
  have st0 : St z TI TO i1 i2 l1 l2 s.heap.objs.size xs ys 0 s.heap := ⟨hTI, h1, h2, b1, b2, .inl ⟨hz, hTO⟩⟩
  generalize s.heap.objs.size = S at *
  have n0 : ∀ (g : Heap) (f : Obj → Obj), (∀ b o, b ≠ S → s.heap.get? b = some o → g.get? b = some o) → ∀ b o, b ≠ S → s.heap.get? b = some o → (g.update S f).get? b = some o := fun g f q b o hb e => by
    rw [Heap.get?_update_other _ _ (Ne.symm hb)]; exact q b o hb e
  have m1 : ∀ b o, b ≠ S → s.heap.get? b = some o → (s.heap.push { cls := .type "list", data := .seq #[] }).get? b = some o := fun b o _ e => Heap.get?_push_of_some _ e
  generalize s.heap.push { cls := .type "list", data := .seq #[] } = g1 at o0 m1 ⊢
  show wpAny _ A.in1.in1 (do let old ← Builtin.List.listItems (.ref S); Builtin.List.listUpdate (.ref S) (fun _ => #[]); letGo old.toList.reverse; Builtin.List.listExtendWith (.ref S) (.ref z) .none) _ _ _
  refine wpAny_bind ?_
  unfold Builtin.List.listItems
  refine wpAny_bind (wpAny_seqItems o0 rfl (wpAny_pure ?_))
  show wpAny _ A.in1.in1 (updateSeq S (fun _ => #[]) >>= fun _ => letGo (#[] : Array Value).toList.reverse >>= fun _ => Builtin.List.listExtendWith (.ref S) (.ref z) .none) _ _ _
  refine wpAny_bind (wpAny_updateSeq o0 rfl ?_)
  have o2 := Heap.get?_update_self (Obj.mapSeq (fun _ => (#[] : Array Value))) o0 rfl
  have m2 := n0 g1 (Obj.mapSeq (fun _ => (#[] : Array Value))) m1
  generalize g1.update S (Obj.mapSeq (fun _ => (#[] : Array Value))) = g2 at o2 m2 ⊢
  refine wpAny_bind (wpAny_letGo ?_)
  unfold Builtin.List.listExtendWith
  have tz : Shared.TypeIs { s with heap := g2 } (.ref z) "zip" := ⟨_, m2 _ _ (Ne.symm zS) hz, rfl⟩
  refine wpAny_bind (wpAny_typeOf tz ?_)
  have c1 : Builtin.List.listSameRef (.ref S) (.ref z) = false := by simp [Builtin.List.listSameRef, zS]
  have c2 : (Value.type "zip" == Value.type "list") = false := by decide
  have c3 : (Value.type "zip" == Value.type "tuple") = false := by decide
  simp only [c1, c2, c3, Bool.or_false, Bool.false_eq_true, if_false]
  refine wpAny_bind (wpAny_pyIter_zip (s := { s with heap := g2 }) (m2 _ _ (Ne.symm zS) hz) ?_)
  refine wpAny_bind (wpAny_holding ?_)
  unfold Builtin.List.listLengthHint
  refine wpAny_bind (wpAny_specialOf tz zNoLen ?_)
  show wpAny _ A.in1.in1 (specialOf (Value.ref z) (Str.ofString "__length_hint__") >>= _) _ _ _
  refine wpAny_bind (wpAny_specialOf tz zNoHint ?_)
  refine wpAny_pure ?_
  show wpAny _ A.in1.in1 (rule "list.extend.makes-room" >>= fun _ => Builtin.List.listTouch (.ref S) >>= fun _ => again (.builtin "list.extend.loop" ⟨[.ref S, .ref z, .none], []⟩)) _ _ _
  refine wpAny_bind (wpAny_rule ?_)
  refine wpAny_bind ?_
  show wpAny _ A.in1.in1 (updateSeq S (·.push .none) >>= fun _ => updateSeq S (·.pop)) _ _ _
  refine wpAny_bind (wpAny_updateSeq o2 rfl ?_)
  have o3 := Heap.get?_update_self (Obj.mapSeq (·.push Value.none)) o2 rfl
  have m3 := n0 g2 (Obj.mapSeq (·.push Value.none)) m2
  refine wpAny_updateSeq (hz := by seq_fits) o3 rfl ?_
  have o4 := Heap.get?_update_self (Obj.mapSeq (·.pop)) o3 rfl
  have m4 := n0 _ (Obj.mapSeq (·.pop)) m3
  refine wpAny_pure ⟨plainId_quiet PySem.F.plain_extend_loop _, ?_⟩
  refine fill (s := s) (xs := xs) (ys := ys) (g0 := g0) (A := A.in1) hh P hl hn .none (fun b o e => ?_) (fun g tk acc c as q1 q2 q3 q4 q5 => ⟨rfl, fin g tk acc c as q1 q2 q3 q4 q5⟩) xs.size 0 _ _ _ _ [] (by omega) (st0.mv P m4) (fun b o e => ?_) o4 ?_ rfl ⟨List.Pairwise.nil, (fun a h => by cases h), (fun j a h => by simp at h)⟩
  · obtain ⟨e1, e2⟩ := k0 b o e
    exact ⟨kk b o e1, e2⟩
  · obtain ⟨e1, _⟩ := k0 b o e
    exact m4 b o (kk b o e1) e1
  · rfl
end
end DZ

set_option Elab.async false
set_option linter.all false
set_option maxRecDepth 100000
set_option maxHeartbeats 4000000
/-! DM6: list(zip(xs, ys)) in the hand layer, over data -/
namespace DL
open PySem PySem.Spec PyProof.Rows L2
def tLZip (K : PySem.W.Frag) (ta : TA) : TE := fun σ H Q => ta σ H fun vs H1 => ∃ (a b : Addr) (xs ys : List V), vs = [.ref a, .ref b] ∧ SqL K H1 a xs ∧ SqL K H1 b ys ∧ xs.length = ys.length ∧
  ∀ (H2 : Hp) (l : Addr) (as : List Addr), Same H1 H2 → H1 l = none → H2 l = some (.lst (as.map V.ref)) → as.length = xs.length → (∀ (j : Nat) (c : Addr), as[j]? = some c → H1 c = none ∧ ∃ x y, xs[j]? = some x ∧ ys[j]? = some y ∧ H2 c = some (.tup [x, y])) → Q (.ref l) H2
section
variable {K : PySem.W.Frag} {S : Stt} {ρ : Rho} {Φ : PyData → Rho → Prop}
end
end DL

set_option Elab.async false
set_option linter.all false
set_option maxRecDepth 100000
set_option maxHeartbeats 4000000
/-! DM7: calls that tell a new list -/
namespace DL
open PySem PySem.Spec PyProof.Rows L2
/-- a new list of data -/
def spM (K : PySem.W.Frag) (T : List PyData → (List PyData → Prop) → Prop) : Sp := fun vs H Q _ => ∃ (N : Av) (ds : List PyData) (Φ : List PyData → Prop),
  (∀ b, N b = true → H b ≠ none) ∧ DqAll K N H vs ds ∧ T ds Φ ∧ ∀ es, Φ es → ∀ p us G, Same H G → G p = none → DqAll K N G us es → Q (.ref p) (upd G p (.lst us))
section
variable {K : PySem.W.Frag} {S : Stt} {ρ : Rho} {Φ : PyData → Rho → Prop}
end
end DL

set_option Elab.async false
set_option linter.all false
set_option maxRecDepth 100000
set_option maxHeartbeats 4000000
/-! DM8: a list of one's own lengthened by a comprehension -/
namespace DL
open PySem PySem.Spec PyProof.Rows L2
section
variable {K : PySem.W.Frag} {S : Stt} {ρ : Rho}
end
end DL

set_option Elab.async false
set_option linter.all false
set_option maxRecDepth 100000
set_option maxHeartbeats 4000000
/-! DM9: three names at once -/
namespace DL
open PySem PySem.Spec PyProof.Rows L2
section
variable {K : PySem.W.Frag} {S : Stt} {ρ : Rho}
theorem ws_par3 {i j l : Nat} {ta : TA} {En : DE} (h : WA K S ta ρ fun ds ρ1 => ∃ x y z, ds = [x, y, z] ∧ En.nx (((ρ1.set i (.dat x)).set j (.dat y)).set l (.dat z))) : WS K S (tPar3 i j l ta) ρ En := fun H0 N0 Z N σ H D E M =>
  h H0 N0 Z N σ H E _ fun vs ds ρ1 H1 ⟨x, y, z, e, f⟩ E1 k1 d1 => by
    subst e
    cases d1 with
    | cons d1 d2 =>
      cases d2 with
      | cons d2 d3 =>
        cases d3 with
        | cons d3 d4 =>
          cases d4
          exact ⟨_, _, _, rfl, M.nx N _ H1 _ f (((E1.set d1).set d2).set d3)⟩
theorem ws_asg3 {te : TE} {i j l : Nat} {En : DE} (h : WD K S te ρ fun d ρ1 => En.nx (((ρ1.set i (.dat d)).set j (.dat d)).set l (.dat d))) : WS K S (tAsg3 te (gName i) (gName j) (gName l)) ρ En := fun H0 N0 Z N σ H D E M =>
  h H0 N0 Z N σ H E _ fun v d ρ1 H1 f E1 k1 d1 => M.nx N _ H1 _ f (((E1.set d1).set d1).set d1)
theorem ws_unp3 {te : TE} {i j l : Nat} {En : DE} (h : WD K S te ρ fun d ρ1 => ∃ x y z, d = .tuple [x, y, z] ∧ En.nx (((ρ1.set i (.dat x)).set j (.dat y)).set l (.dat z))) : WS K S (tAsg te (gTup K 3 (gCons (gName i) (gCons (gName j) (gCons (gName l) gNil))))) ρ En := fun H0 N0 Z N σ H D E M =>
  h H0 N0 Z N σ H E _ fun v d ρ1 H1 ⟨x, y, z, e, f⟩ E1 k1 d1 => by
    subst e
    obtain ⟨p, xs, rfl, _, h1, h2⟩ := d1.tup_inv
    cases h2 with
    | cons a1 a2 =>
      cases a2 with
      | cons a2 a3 =>
        cases a3 with
        | cons a3 a4 =>
          cases a4
          exact ⟨p, _, rfl, h1, rfl, _, _, rfl, _, _, rfl, _, _, rfl, rfl, M.nx N _ H1 _ f (((E1.set a1).set a2).set a3)⟩
end
end DL

set_option Elab.async false
set_option linter.all false
/-! PM1: payments of totals, as rationals, and their sizes -/
namespace DL
abbrev P3 := Rat × Rat × Rat
def keptR (sh n d : Rat) : Rat := if n ≤ 0 then n else if sh * n < d then sh * n else d
def pstep (sh : Rat) (s : P3) (t : Rat) : P3 := (t, s.2.1 + (t - s.1 - keptR sh (t - s.1) s.2.2), s.2.2 - keptR sh (t - s.1) s.2.2)
def prow (sh : Rat) (s : P3) (t : Rat) : P3 := (t - s.1 - keptR sh (t - s.1) s.2.2, s.2.1 + (t - s.1 - keptR sh (t - s.1) s.2.2), s.2.2 - keptR sh (t - s.1) s.2.2)
def pS (sh : Rat) (ts : List Rat) : P3 := ts.foldl (pstep sh) (0, 0, 0)
def pRwF (sh : Rat) : P3 → List Rat → List P3
  | _, [] => []
  | s, t :: r => prow sh s t :: pRwF sh (pstep sh s t) r
def pRw (sh : Rat) (ts : List Rat) : List P3 := pRwF sh (0, 0, 0) ts
theorem pS_snoc {sh : Rat} {ts : List Rat} {t : Rat} : pS sh (ts ++ [t]) = pstep sh (pS sh ts) t := by
  unfold pS; rw [List.foldl_append]; rfl
theorem pRwF_snoc {sh t : Rat} : ∀ {ts : List Rat} {s : P3}, pRwF sh s (ts ++ [t]) = pRwF sh s ts ++ [prow sh (ts.foldl (pstep sh) s) t]
  | [], s => rfl
  | u :: r, s => by
    show prow sh s u :: pRwF sh (pstep sh s u) (r ++ [t]) = _
    rw [pRwF_snoc]; rfl
theorem pRw_snoc {sh t : Rat} {ts : List Rat} : pRw sh (ts ++ [t]) = pRw sh ts ++ [prow sh (pS sh ts) t] := pRwF_snoc
theorem pRwF_len {sh : Rat} : ∀ {ts : List Rat} {s : P3}, (pRwF sh s ts).length = ts.length
  | [], s => rfl
  | u :: r, s => by show (pRwF sh _ r).length + 1 = r.length + 1; rw [pRwF_len]
theorem pRw_len {sh : Rat} {ts : List Rat} : (pRw sh ts).length = ts.length := pRwF_len
theorem take_snoc {α : Type} {ts : List α} {k : Nat} {t : α} (h : ts[k]? = some t) : ts.take (k + 1) = ts.take k ++ [t] := by
  rw [List.take_add_one, h]; rfl
theorem pRw_take {sh t : Rat} {ts : List Rat} {k : Nat} (h : ts[k]? = some t) : pRw sh (ts.take (k + 1)) = pRw sh (ts.take k) ++ [prow sh (pS sh (ts.take k)) t] := by rw [take_snoc h, pRw_snoc]
theorem pS_take {sh t : Rat} {ts : List Rat} {k : Nat} (h : ts[k]? = some t) : pS sh (ts.take (k + 1)) = pstep sh (pS sh (ts.take k)) t := by rw [take_snoc h, pS_snoc]
/-! sizes -/
theorem Dv.neg {D M : Nat} {q : Rat} (h : Dv D M q) : Dv D M (-q) := by
  obtain ⟨n, e, b⟩ := h
  exact ⟨-n, by rw [Rat.neg_mul, e, Rat.intCast_neg], by omega⟩
theorem Dv.sub {D M M' : Nat} {q r : Rat} (h : Dv D M q) (g : Dv D M' r) : Dv D (M + M') (q - r) := by
  rw [Rat.sub_eq_add_neg]; exact h.add g.neg
theorem Dv.le {D M X : Nat} {q r : Rat} (h : Dv D M q) (g : Dv D X r) (r0 : 0 ≤ r) (rq : r ≤ q) : Dv D M r := by
  obtain ⟨n, e, b⟩ := h
  obtain ⟨m, f, c⟩ := g
  refine ⟨m, f, ?_⟩
  have D0 : (0 : Rat) ≤ (D : Rat) := Rat.natCast_nonneg
  have m0 : (0 : Rat) ≤ (m : Rat) := by rw [← f]; exact Rat.mul_nonneg r0 D0
  have mn : (m : Rat) ≤ (n : Rat) := by rw [← f, ← e]; exact Rat.mul_le_mul_of_nonneg_right rq D0
  have m0' : 0 ≤ m := by exact_mod_cast m0
  have mn' : m ≤ n := by exact_mod_cast mn
  omega
/-- the common bottom of all totals -/
def dd : Nat := (List.range 1000).foldl (fun a k => Nat.lcm a (k + 1)) 1 * 988027000 ^ 4
def mm : Nat := dd * 2 ^ 21
theorem dd_pos : 0 < dd := by decide +kernel
theorem dd_dvd : ((List.range 1000).all fun k => dd % ((k + 1) * 988027000 ^ 4) == 0) = true := by decide +kernel
end DL

set_option Elab.async false
set_option linter.all false
/-! PM2: what holds behind each payday; sizes -/
namespace DL
structure ShOk (R : Nat) (sh : Rat) : Prop where
  pos : 0 < sh
  le : sh ≤ 1
  r1 : 1 ≤ R
  r2 : R ≤ 1000
  dv : Dv R R sh
def Tot (t : Rat) : Prop := Dv dd mm t
structure PI (R k : Nat) (s : P3) : Prop where
  last : Tot s.1
  debt : Dv (dd * R) (2 * k * (mm * R)) s.2.2
  d0 : 0 ≤ s.2.2
  sum : s.2.1 = s.1 + s.2.2
theorem dv_sz {R c : Nat} {q : Rat} (h : Dv (dd * R) (c * (mm * R)) q) (hc : c ≤ 1000) (h1 : 1 ≤ R) (h2 : R ≤ 1000) : sz q ≤ 1640 := by
  have d0 := dd_pos
  refine h.sz (Nat.mul_ne_zero (by omega) (by omega)) ?_
  have e1 : mm * R ≤ mm * 1000 := Nat.mul_le_mul_left _ h2
  have e2 : c * (mm * R) ≤ 1000 * (mm * 1000) := Nat.mul_le_mul hc e1
  have e3 : dd * R ≤ dd * 1000 := Nat.mul_le_mul_left _ h2
  refine Nat.lt_of_le_of_lt (Nat.add_le_add e2 e3) ?_
  decide +kernel
theorem tot_sz {t : Rat} (h : Tot t) : sz t ≤ 1640 := by
  refine dv_sz (R := 1) (c := 1) ?_ (by decide) (by decide) (by decide)
  rw [Nat.mul_one, Nat.mul_one, Nat.one_mul]; exact h
theorem Tot.up {t : Rat} (h : Tot t) (R : Nat) : Dv (dd * R) (1 * (mm * R)) t := by
  rw [Nat.one_mul]; exact h.scale R
theorem Tot.sub {t u : Rat} (h : Tot t) (g : Tot u) : Dv dd (2 * mm) (t - u) := by
  have := Dv.sub h g
  rwa [← Nat.two_mul] at this
theorem PI.zero {R : Nat} : PI R 0 (0, 0, 0) := ⟨Dv.zero.mono (Nat.zero_le _), Dv.zero.mono (Nat.zero_le _), Rat.le_refl, by decide +kernel⟩
theorem sh_new {R : Nat} {sh t u : Rat} (g : ShOk R sh) (ht : Tot t) (hu : Tot u) : Dv (dd * R) (2 * (mm * R)) (sh * (t - u)) := by
  have := g.dv.mul (ht.sub hu)
  rw [Nat.mul_comm R dd, show R * (2 * mm) = 2 * (mm * R) by rw [Nat.mul_comm mm R, Nat.mul_left_comm]] at this
  exact this
/-- the sizes of all that a payday reckons with -/
structure PZ (sh : Rat) (s : P3) (t : Rat) : Prop where
  last : sz s.1 ≤ 1640
  all : sz s.2.1 ≤ 1640
  debt : sz s.2.2 ≤ 1640
  tot : sz t ≤ 1640
  new : sz (t - s.1) ≤ 1640
  shn : sz (sh * (t - s.1)) ≤ 1640
  now1 : sz (t - s.1 - s.2.2) ≤ 1640
  now2 : sz (t - s.1 - sh * (t - s.1)) ≤ 1640
  kept : sz (keptR sh (t - s.1) s.2.2) ≤ 1640
  now : sz (t - s.1 - keptR sh (t - s.1) s.2.2) ≤ 1640
  all2 : sz (pstep sh s t).2.1 ≤ 1640
  debt2 : sz (pstep sh s t).2.2 ≤ 1640
theorem new_pos {sh n d : Rat} (h : 0 < sh) (hn : ¬ n ≤ 0) : 0 < sh * n := Rat.mul_pos h (by grind)
theorem PI.next {R k : Nat} {sh t : Rat} {s : P3} (h : PI R k s) (g : ShOk R sh) (ht : Tot t) : PI R (k + 1) (pstep sh s t) := by
  have nv : Dv (dd * R) (2 * (mm * R)) (t - s.1) := by
    have := (ht.sub h.last).scale R
    rwa [Nat.mul_assoc] at this
  have sv := sh_new g ht h.last
  have e : 2 * (k + 1) * (mm * R) = 2 * k * (mm * R) + 2 * (mm * R) := by rw [Nat.mul_add, Nat.add_mul]
  have d0 := h.d0
  refine ⟨ht, ?_, ?_, ?_⟩
  · show Dv _ _ (s.2.2 - keptR sh (t - s.1) s.2.2)
    rw [e]
    unfold keptR
    split
    · exact h.debt.sub nv
    · rename_i hn
      have p := new_pos (d := s.2.2) g.pos hn
      split
      · rename_i hl
        exact (h.debt.le (h.debt.sub sv) (by grind) (by grind)).mono (by omega)
      · rw [show s.2.2 - s.2.2 = (0 : Rat) by grind]
        exact Dv.zero.mono (Nat.zero_le _)
  · show 0 ≤ s.2.2 - keptR sh (t - s.1) s.2.2
    unfold keptR
    split
    · grind
    · split <;> grind
  · show s.2.1 + (t - s.1 - keptR sh (t - s.1) s.2.2) = t + (s.2.2 - keptR sh (t - s.1) s.2.2)
    rw [h.sum]; grind
theorem PI.all {R k : Nat} {s : P3} (h : PI R k s) : Dv (dd * R) ((2 * k + 1) * (mm * R)) s.2.1 := by
  rw [h.sum]
  have := (h.last.up R).add h.debt
  rw [← Nat.add_mul] at this
  rwa [Nat.add_comm]
theorem PI.sizes {R k : Nat} {sh t : Rat} {s : P3} (h : PI R k s) (g : ShOk R sh) (ht : Tot t) (hk : k ≤ 200) : PZ sh s t := by
  have nx := h.next g ht
  have nv : Dv (dd * R) (2 * (mm * R)) (t - s.1) := by
    have := (ht.sub h.last).scale R
    rwa [Nat.mul_assoc] at this
  have sv := sh_new g ht h.last
  have kv : Dv (dd * R) ((2 * k + 2) * (mm * R)) (keptR sh (t - s.1) s.2.2) := by
    unfold keptR
    split
    · exact nv.mono (Nat.mul_le_mul_right _ (by omega))
    · split
      · exact sv.mono (Nat.mul_le_mul_right _ (by omega))
      · exact h.debt.mono (Nat.mul_le_mul_right _ (by omega))
  have wv := nv.sub kv
  have n1 := nv.sub h.debt
  have n2 := nv.sub sv
  rw [← Nat.add_mul] at wv n1 n2
  exact { last := tot_sz h.last, all := dv_sz h.all (by omega) g.r1 g.r2, debt := dv_sz h.debt (by omega) g.r1 g.r2, tot := tot_sz ht,
          new := dv_sz nv (by decide) g.r1 g.r2, shn := dv_sz sv (by decide) g.r1 g.r2, kept := dv_sz kv (by omega) g.r1 g.r2, now := dv_sz wv (by omega) g.r1 g.r2,
          now1 := dv_sz n1 (by omega) g.r1 g.r2, now2 := dv_sz n2 (by omega) g.r1 g.r2,
          all2 := dv_sz nx.all (by omega) g.r1 g.r2, debt2 := dv_sz nx.debt (by omega) g.r1 g.r2 }
theorem PI.run {R : Nat} {sh : Rat} (g : ShOk R sh) {ts : List Rat} (ht : ∀ t ∈ ts, Tot t) : ∀ k, k ≤ ts.length → PI R k (pS sh (ts.take k))
  | 0, _ => by rw [List.take_zero]; exact PI.zero
  | k + 1, hk => by
    have hk' : k < ts.length := hk
    rw [pS_take (List.getElem?_eq_getElem hk')]
    exact (PI.run g ht k (by omega)).next g (ht _ (List.getElem_mem hk'))
theorem ShOk.one : ShOk 1 1 := ⟨by decide +kernel, Rat.le_refl, Nat.le_refl _, by decide, ⟨1, by decide +kernel, by decide⟩⟩
end DL

set_option Elab.async false
set_option linter.all false
/-! PM3: the totals that are drawn -/
namespace DL
theorem dd_dvd2 {d : Nat} (h1 : 1 ≤ d) (h2 : d ≤ 1000) : d * 988027000 ^ 4 ∣ dd := by
  have := dd_dvd
  rw [List.all_eq_true] at this
  have h := this (d - 1) (List.mem_range.mpr (by omega))
  rw [show d - 1 + 1 = d by omega] at h
  exact Nat.dvd_of_mod_eq_zero (by simpa using h)
theorem Dv.di1 {a : Int} {b : Nat} (hb : b ≠ 0) : Dv b a.natAbs (Rat.divInt a b) := by
  have := Dv.di (a := a) (c := 1) hb
  rwa [Nat.mul_one, Nat.mul_one] at this
theorem Dv.dvd {b D M N : Nat} {q : Rat} (h : Dv b M q) (g : b ∣ D) (hb : 1 ≤ b) (k : M ≤ N * b) : Dv D (N * D) q := by
  obtain ⟨c, rfl⟩ := g
  refine (h.scale c).mono ?_
  rw [← Nat.mul_assoc]
  exact Nat.mul_le_mul_right c k
theorem dv_part {n : Int} {d : Nat} (h1 : 1 ≤ d) (h2 : d ≤ 1000) (hn : n.natAbs ≤ 1000000) : Dv dd (1000000 * dd) (Rat.divInt n d) := by
  refine (Dv.di1 (by omega)).dvd (Nat.dvd_trans ⟨_, rfl⟩ (dd_dvd2 h1 h2)) h1 ?_
  refine Nat.le_trans hn ?_
  exact Nat.le_mul_of_pos_right _ h1
/-- a hair -/
def Hair (q : Rat) : Prop := Dv (988027000 ^ 4) (988027000 ^ 4) q
def hair0 : Rat := Rat.divInt 1 997 * Rat.divInt 1 1000 * Rat.divInt 1 991
def hairs : Nat → Rat
  | 0 => hair0
  | j + 1 => hairs j * hairs j
theorem hair0_eq : hair0 = Rat.divInt 1 988027000 := by decide +kernel
theorem hair_ok : ∀ j, j ≤ 2 → Hair (hairs j)
  | 0, _ => ⟨988027000 ^ 3, by show hair0 * _ = _; rw [hair0_eq]; decide +kernel, by decide +kernel⟩
  | 1, _ => ⟨988027000 ^ 2, by show hair0 * hair0 * _ = _; rw [hair0_eq]; decide +kernel, by decide +kernel⟩
  | 2, _ => ⟨1, by show hair0 * hair0 * (hair0 * hair0) * _ = _; rw [hair0_eq]; decide +kernel, by decide +kernel⟩
theorem hair_sz {j : Nat} (h : j ≤ 2) : sz (hairs j) ≤ 130 := (hair_ok j h).sz (by decide) (by decide +kernel)
theorem dv_hair {j : Nat} {c : Int} (h : j ≤ 2) (hc : c.natAbs ≤ 4) : Dv dd (4 * dd) (hairs j * (c : Rat)) := by
  have := (hair_ok j h).mul (Dv.int (n := c) (D := 1))
  rw [Nat.mul_one, Nat.mul_one] at this
  refine this.dvd (Nat.dvd_trans ⟨1, by simp⟩ (dd_dvd2 (Nat.le_refl 1) (by decide))) (by decide +kernel) ?_
  rw [Nat.mul_comm]; exact Nat.mul_le_mul_right _ hc
theorem mm_eq : mm = 2097152 * dd := by unfold mm; rw [Nat.mul_comm]
theorem Tot.hair {q : Rat} {j : Nat} {c : Int} (hq : Dv dd (1000000 * dd) q) (h : j ≤ 2) (hc : c.natAbs ≤ 4) : Tot (q + hairs j * (c : Rat)) :=
  (hq.add (dv_hair h hc)).mono (by rw [← Nat.add_mul, mm_eq]; exact Nat.mul_le_mul_right _ (by decide))
theorem Tot.of {q : Rat} (hq : Dv dd (1000000 * dd) q) : Tot q := hq.mono (by rw [mm_eq]; exact Nat.mul_le_mul_right _ (by decide))
end DL

set_option Elab.async false
set_option linter.all false
set_option maxRecDepth 100000
set_option maxHeartbeats 4000000
/-! PQ1: small parts, shares, totals drawn -/
namespace DL
open PySem PySem.Spec PyProof.Rows L2
def SmQ (q : Rat) : Prop := ∃ (n : Int) (d : Nat), q = Rat.divInt n d ∧ 1 ≤ d ∧ d ≤ 1000 ∧ n.natAbs ≤ 1000000
def TSmallQ : Nat → List PyData → (PyData → Nat → Prop) → Prop := fun B ds Φ => ds = [] ∧ B + 3200 ≤ 2 ^ 40 ∧ ∀ q, SmQ q → Φ (qp q) (B + 3200)
def TShareQ : Nat → List PyData → (PyData → Nat → Prop) → Prop := fun B ds Φ => ds = [] ∧ B + 1600 ≤ 2 ^ 40 ∧ ∀ R q, ShOk R q → Φ (qp q) (B + 1600)
def TTotals : Nat → List PyData → (PyData → Nat → Prop) → Prop := fun B ds Φ => ∃ most : Int, ds = [.int most] ∧ 1 ≤ most ∧ most ≤ 120 ∧ B + 1000000 ≤ 2 ^ 40 ∧ ∀ (ts : List Rat) (B' : Nat), (ts.length : Int) ≤ 120 → (∀ t ∈ ts, Tot t) → B' ≤ B + 1000000 → Φ (.list (ts.map qp)) B'
theorem SmQ.dv {q : Rat} (h : SmQ q) : Dv dd (1000000 * dd) q := by obtain ⟨n, d, rfl, h1, h2, h3⟩ := h; exact dv_part h1 h2 h3
theorem qp_of {n d : Int} (hd : 1 ≤ d) (hg : Nat.gcd n.natAbs d.natAbs = 1) : PyData.tuple [.int n, .int d] = qp (Rat.divInt n d) := by
  rw [← qp_di (by omega), nrm_self hd hg]; rfl
theorem qp_int {n : Int} : PyData.tuple [.int n, .int 1] = qp (n : Rat) := by
  unfold qp; rw [Rat.num_intCast, Rat.den_intCast]; rfl
theorem qp01 : PyData.tuple [.int 0, .int 1] = qp 0 := rfl
def negA (q : Rat) : Rat := if 0 ≤ q.num then -q else q
theorem qp_negA {q : Rat} : PyData.tuple [.int (0 - ((q.num.natAbs : Nat) : Int)), .int (q.den : Int)] = qp (negA q) := by
  unfold negA qp
  split
  · rw [Rat.neg_num, Rat.neg_den]; rename_i h
    rw [show (0 - ((q.num.natAbs : Nat) : Int)) = -q.num by omega]
  · rw [show (0 - ((q.num.natAbs : Nat) : Int)) = q.num by omega]
theorem negA_dv {q : Rat} {D M : Nat} (h : Dv D M q) : Dv D M (negA q) := by
  unfold negA; split
  · exact h.neg
  · exact h
theorem fgt_set {ρ : Rho} {i : Nat} : Fgt ρ (ρ.set i .unk) := ⟨List.length_set, fun j s h => by
  rcases get_set h with ⟨_, e⟩ | ⟨_, e⟩
  · exact .inl e
  · exact .inr e⟩
theorem fgt_wipe {ρ : Rho} : ∀ vs : List Nat, Fgt ρ (wipeR ρ vs)
  | [] => Fgt.refl
  | v :: vs => by
    obtain ⟨l, f⟩ := fgt_wipe (ρ := ρ) vs
    obtain ⟨l2, f2⟩ := fgt_set (ρ := wipeR ρ vs) (i := v)
    refine ⟨l2.trans l, fun i s h => ?_⟩
    rcases f2 i s h with e | e
    · exact .inl e
    · exact f i s e
theorem ws_wipe {K : PySem.W.Frag} {S : Stt} {ρ : Rho} {ts : TS} {En : DE} (vs : List Nat) (h : WS K S ts (wipeR ρ vs) En) : WS K S ts ρ En := ws_fgt (fgt_wipe vs) h
local macro_rules | `(tactic| walk_at "dl") => `(tactic| repeat' (first
  | with_reducible refine wd_isTy ?_ | with_reducible refine wd_isi ?_ | ((with_reducible show WD _ _ (tOp (rIxL _) (tVar _) _) _ _); refine wd_ix_own rfl ?_) | with_reducible refine wd_op ?_ | ((with_reducible show WD _ _ (tCB (rLenX _) (tCons (tVar _) tNil)) _ _); refine wd_len_scr rfl ?_) | ((with_reducible show WD _ _ (tCB (rLenX _) (tCons (tVar _) tNil)) _ _); refine wd_len_own rfl ?_) | with_reducible refine wd_cb ?_ | with_reducible refine wd_un ?_ | with_reducible refine wa_cons ?_ | with_reducible refine wa_nil ?_ | ((with_reducible show WD _ _ (tVar _) _ _); refine wd_var rfl ?_) | with_reducible refine wd_int ?_ | with_reducible refine wd_bl ?_ | with_reducible refine wd_str ?_ | with_reducible refine wd_non ?_
  | with_reducible refine do_nesS ?_ | with_reducible refine dc_intB ?_ | with_reducible refine do_add ?_ | with_reducible refine do_sub ?_ | ((with_reducible refine do_mod ?_ ?_); decide) | with_reducible refine do_mod ?_ ?_ | with_reducible refine do_mul ?_ ?_ | ((with_reducible refine do_div ?_ ?_); exact ⟨by decide, by decide⟩) | with_reducible refine do_div ?_ ?_ | ((with_reducible refine do_pow ?_ ?_); exact ⟨by decide, by decide, by decide⟩) | with_reducible refine do_pow ?_ ?_
  | with_reducible refine do_lt ?_ | with_reducible refine do_le ?_ | with_reducible refine do_gt ?_ | with_reducible refine do_ge ?_ | with_reducible refine du_neg ?_
  | with_reducible refine do_eqi ?_ | with_reducible refine do_nei ?_ | with_reducible refine do_eqs ?_ | with_reducible refine do_nes ?_ | with_reducible refine dc_abs ?_ | with_reducible refine dc_min ?_ | with_reducible refine dc_max ?_ | with_reducible refine dc_lenL ?_ | with_reducible refine dc_lenT ?_ | with_reducible refine dc_lenR ?_ | with_reducible refine dc_listT ?_ | with_reducible refine dc_listL ?_ | with_reducible refine dc_tupL ?_ | with_reducible refine dc_gcd ?_
  | ((with_reducible show DO _ (rIxT _) _ _ _); refine do_ixT rfl ?_) | ((with_reducible show DO _ (rIxL _) _ _ _); refine do_ixL rfl ?_) | ((with_reducible refine do_catL ?_ ?_); exact Nat.le_of_ble_eq_true rfl) | with_reducible refine do_catL ?_ ?_ | ((with_reducible show And (List.length _ ≤ sizeLine) _); refine ⟨Nat.le_of_ble_eq_true rfl, ?_⟩)
  | with_reducible refine wd_dnew ?_ | with_reducible refine wd_call0 ?_ | with_reducible refine wd_slA ?_ | with_reducible refine wd_slL ?_ | with_reducible refine wd_revT ?_ | with_reducible refine do_catA ?_ ?_ | with_reducible refine wo_part ?_ | with_reducible refine wo_none ?_ | with_reducible refine do_eqQ ?_ | with_reducible refine do_neQ ?_ | with_reducible refine wi_enumT ?_ | with_reducible refine wi_enumD ?_ | with_reducible refine tAdQ (by omega) (by omega) ?_ | with_reducible refine tSbQ (by omega) (by omega) ?_ | with_reducible refine tMlQ (by omega) (by omega) ?_ | with_reducible refine tDvQ (by assumption) (by omega) (by omega) ?_ | with_reducible refine tLtQ (by omega) (by omega) ?_ | with_reducible refine dc_str ?_ ?_ | with_reducible refine wd_tup ?_ | with_reducible refine wd_lst ?_ | with_reducible refine wt_test ?_ | with_reducible refine wt_B ?_ | with_reducible refine wt_not ?_ | with_reducible refine wt_and ?_ | with_reducible refine wt_or ?_ | with_reducible refine wd_ifE ?_ | with_reducible refine wd_andV ?_ | with_reducible refine wd_orV ?_ | with_reducible refine wd_notV ?_
  | with_reducible refine ws_seq ?_ | with_reducible refine ws_next ?_ | with_reducible refine ws_asg ?_ | with_reducible refine ws_ret ?_ | with_reducible refine ws_retN ?_ | with_reducible refine ws_if ?_ | with_reducible refine ws_par ?_ | with_reducible refine ws_unp2 ?_
  | with_reducible refine if_t ?_ | with_reducible refine if_f ?_ | with_reducible refine if_nf ?_ | with_reducible refine if_nt ?_
  | ((with_reducible show Exists _); first | refine ⟨_, kitInt _, ?_⟩ | refine ⟨_, kitBool _, ?_⟩ | refine ⟨_, kitTup _, ?_⟩ | refine ⟨_, kitList _, ?_⟩ | refine ⟨_, rfl, ?_⟩ | refine ⟨_, _, rfl, ?_⟩ | fail) | fail))
def t_smallq (K : PySem.W.Frag) : TS :=
  (tSeq (tAsg (tCall (spS K FSto TDr) [] E0 (tCons (tVar 0) (tCons (tC (.int 6)) tNil))) (gName 1))
    (tSeq (tAsg (tOp (rIxL K) (tLst (tCons (tC (.int 1)) (tCons (tC (.int 1)) (tCons (tC (.int 2)) (tCons (tC (.int 3)) (tCons (tC (.int 4)) (tCons (tC (.int 12)) (tCons (tC (.int 97)) (tCons (tC (.int 101)) (tCons (tC (.int 997)) (tCons (tC (.int 1000)) (tCons (tOp rAddI (tC (.int 1)) (tCall (spS K FSto TDr) [] E0 (tCons (tVar 0) (tCons (tC (.int 1000)) tNil)))) tNil)))))))))))) (tCall (spS K FSto TDr) [] E0 (tCons (tVar 0) (tCons (tC (.int 11)) tNil)))) (gName 2))
    (tSeq (tAsg (tLst (tCons (tC (.int 0)) (tCons (tC (.int 1)) (tCons (tOp rAddI (tC (.int 1)) (tCall (spS K FSto TDr) [] E0 (tCons (tVar 0) (tCons (tC (.int 9)) tNil)))) (tCons (tCall (spS K FSto TDr) [] E0 (tCons (tVar 0) (tCons (tC (.int 1000)) tNil))) (tCons (tOp rSubI (tOp rPowI (tC (.int 10)) (tC (.int 6))) (tCall (spS K FSto TDr) [] E0 (tCons (tVar 0) (tCons (tC (.int 3)) tNil)))) tNil)))))) (gName 3))
    (tSeq (tAsg (tOp (rIxL K) (tOp rCatL (tVar 3) (tLst (tCons (tCall (spS K FSto TDr) [] E0 (tCons (tVar 0) (tCons (tOp rPowI (tC (.int 10)) (tC (.int 6))) tNil))) tNil))) (tVar 1)) (gName 3))
    (tRet (tCall (spP K TLow) [] E0 (tCons (tOp rMulI (tVar 3) (tOp (rIxL K) (tLst (tCons (tC (.int 1)) (tCons (tUn rNegI (tC (.int 1))) tNil))) (tCall (spS K FSto TDr) [] E0 (tCons (tVar 0) (tCons (tC (.int 2)) tNil))))) (tCons (tVar 2) tNil))))))))
def t_shareq (K : PySem.W.Frag) : TS :=
  (tSeq (tAsg (tOp (rIxL K) (tLst (tCons (tC (.int 1)) (tCons (tC (.int 2)) (tCons (tC (.int 3)) (tCons (tC (.int 10)) (tCons (tC (.int 97)) (tCons (tC (.int 997)) (tCons (tOp rAddI (tC (.int 1)) (tCall (spS K FSto TDr) [] E0 (tCons (tVar 0) (tCons (tC (.int 1000)) tNil)))) tNil)))))))) (tCall (spS K FSto TDr) [] E0 (tCons (tVar 0) (tCons (tC (.int 7)) tNil)))) (gName 1))
    (tRet (tCall (spP K TLow) [] E0 (tCons (tOp rSubI (tVar 1) (tOp rMulI (tCall (spS K FSto TDr) [] E0 (tCons (tVar 0) (tCons (tVar 1) tNil))) (tCall (spS K FSto TDr) [] E0 (tCons (tVar 0) (tCons (tC (.int 2)) tNil))))) (tCons (tVar 1) tNil)))))
def t_totals (K : PySem.W.Frag) : TS :=
  (tSeq (tAsg (tCall (spS K FSto TDr) [] E0 (tCons (tVar 0) (tCons (tC (.int 6)) tNil))) (gName 2))
    (tSeq (tAsg (tOp (rIxL K) (tLst (tCons (tC (.int 3)) (tCons (tC (.int 8)) (tCons (tVar 1) tNil)))) (tCall (spS K FSto TDr) [] E0 (tCons (tVar 0) (tCons (tC (.int 3)) tNil)))) (gName 3))
    (tSeq (tAsg (tCall (spP K TMlQ) [] E0 (tCons (tCall (spP K TMlQ) [] E0 (tCons (tTup (tCons (tC (.int 1)) (tCons (tC (.int 997)) tNil))) (tCons (tTup (tCons (tC (.int 1)) (tCons (tC (.int 1000)) tNil))) tNil))) (tCons (tTup (tCons (tC (.int 1)) (tCons (tC (.int 991)) tNil))) tNil))) (gName 4))
    (tSeq (tFor (iRng1 (tCons (tCall (spS K FSto TDr) [] E0 (tCons (tVar 0) (tCons (tC (.int 3)) tNil))) tNil)) (gName 5) (tAsg (tCall (spP K TMlQ) [] E0 (tCons (tVar 4) (tCons (tVar 4) tNil))) (gName 4)))
    (tSeq (tAsg (tOp (rIxL K) (tLst (tCons (tC (.int 1)) (tCons (tC (.int 1)) (tCons (tC (.int 2)) (tCons (tC (.int 3)) (tCons (tC (.int 12)) (tCons (tC (.int 97)) (tCons (tC (.int 1000)) tNil)))))))) (tCall (spS K FSto TDr) [] E0 (tCons (tVar 0) (tCons (tC (.int 7)) tNil)))) (gName 6))
    (tSeq (tAsg (tLst tNil) (gName 7))
    (tSeq (tAsg (tOp rSubI (tCall (spS K FSto TDr) [] E0 (tCons (tVar 0) (tCons (tC (.int 2000)) tNil))) (tC (.int 1000))) (gName 8))
    (tSeq (tFor (iRng1 (tCons (tCall (spS K FSto TDr) [] E0 (tCons (tVar 0) (tCons (tOp rAddI (tVar 3) (tC (.int 1))) tNil))) tNil)) (gName 9) (tSeq (tAsg (tCall (spS K FSto TDr) [] E0 (tCons (tVar 0) (tCons (tOp (rIxL K) (tLst (tCons (tC (.int 3)) (tCons (tC (.int 50)) (tCons (tC (.int 20000)) tNil)))) (tCall (spS K FSto TDr) [] E0 (tCons (tVar 0) (tCons (tC (.int 3)) tNil)))) tNil))) (gName 10))
    (tSeq (tAsg (tOp rAddI (tVar 8) (tOp (rIxL K) (tLst (tCons (tOp rSubI (tVar 10) (tC (.int 10))) (tCons (tVar 10) (tCons (tOp rSubI (tC (.int 0)) (tVar 10)) (tCons (tOp rMulI (tVar 10) (tOp rSubI (tC (.int 1)) (tOp rMulI (tC (.int 2)) (tOp rModI (tVar 9) (tC (.int 2)))))) (tCons (tC (.int 0)) (tCons (tVar 10) tNil))))))) (tVar 2))) (gName 8))
    (tSeq (tAsg (tCB rMaxX (tCons (tUn rNegI (tOp rPowI (tC (.int 10)) (tC (.int 6)))) (tCons (tCB rMinX (tCons (tOp rPowI (tC (.int 10)) (tC (.int 6))) (tCons (tVar 8) tNil))) tNil))) (gName 8))
    (tSeq (tAsg (tCall (spP K TLow) [] E0 (tCons (tVar 8) (tCons (tVar 6) tNil))) (gName 11))
    (tSeq (tIfS (tAnd (tTest (tOp rEq (tVar 2) (tC (.int 0)))) (tTest (tOp rEq (tCall (spS K FSto TDr) [] E0 (tCons (tVar 0) (tCons (tC (.int 3)) tNil))) (tC (.int 0))))) (tAsg (tCall (spS K FSto TSmallQ) [] E0 (tCons (tVar 0) tNil)) (gName 11)) tNext)
    (tSeq (tIfS (tTest (tOp rEq (tVar 2) (tC (.int 5)))) (tAsg (tTup (tCons (tOp rSubI (tC (.int 0)) (tCB rAbsX (tCons (tOp (rIxT K) (tVar 11) (tC (.int 0))) tNil))) (tCons (tOp (rIxT K) (tVar 11) (tC (.int 1))) tNil))) (gName 11)) tNext)
    (tSeq (tIfS (tTest (tOp rEq (tCall (spS K FSto TDr) [] E0 (tCons (tVar 0) (tCons (tC (.int 4)) tNil))) (tC (.int 0)))) (tAsg (tCall (spP K TAdQ) [] E0 (tCons (tVar 11) (tCons (tCall (spP K TMlQ) [] E0 (tCons (tVar 4) (tCons (tTup (tCons (tOp rSubI (tCall (spS K FSto TDr) [] E0 (tCons (tVar 0) (tCons (tC (.int 9)) tNil))) (tC (.int 4))) (tCons (tC (.int 1)) tNil))) tNil))) tNil))) (gName 11)) tNext)
    (tDrop (tBM K "list" rAppend (tVar 7) (tCons (tVar 11) tNil)))))))))))
    (tRet (tVar 7))))))))))
def t_tot3 (K : PySem.W.Frag) : TS :=
  (tSeq (tIfS (tTest (tOp rEq (tCall (spS K FSto TDr) [] E0 (tCons (tVar 0) (tCons (tC (.int 4)) tNil))) (tC (.int 0)))) (tAsg (tCall (spP K TAdQ) [] E0 (tCons (tVar 11) (tCons (tCall (spP K TMlQ) [] E0 (tCons (tVar 4) (tCons (tTup (tCons (tOp rSubI (tCall (spS K FSto TDr) [] E0 (tCons (tVar 0) (tCons (tC (.int 9)) tNil))) (tC (.int 4))) (tCons (tC (.int 1)) tNil))) tNil))) tNil))) (gName 11)) tNext)
    (tDrop (tBM K "list" rAppend (tVar 7) (tCons (tVar 11) tNil))))
def t_tot2 (K : PySem.W.Frag) : TS :=
  (tSeq (tIfS (tTest (tOp rEq (tVar 2) (tC (.int 5)))) (tAsg (tTup (tCons (tOp rSubI (tC (.int 0)) (tCB rAbsX (tCons (tOp (rIxT K) (tVar 11) (tC (.int 0))) tNil))) (tCons (tOp (rIxT K) (tVar 11) (tC (.int 1))) tNil))) (gName 11)) tNext)
    (tSeq (tIfS (tTest (tOp rEq (tCall (spS K FSto TDr) [] E0 (tCons (tVar 0) (tCons (tC (.int 4)) tNil))) (tC (.int 0)))) (tAsg (tCall (spP K TAdQ) [] E0 (tCons (tVar 11) (tCons (tCall (spP K TMlQ) [] E0 (tCons (tVar 4) (tCons (tTup (tCons (tOp rSubI (tCall (spS K FSto TDr) [] E0 (tCons (tVar 0) (tCons (tC (.int 9)) tNil))) (tC (.int 4))) (tCons (tC (.int 1)) tNil))) tNil))) tNil))) (gName 11)) tNext)
    (tDrop (tBM K "list" rAppend (tVar 7) (tCons (tVar 11) tNil)))))
def t_tot1 (K : PySem.W.Frag) : TS :=
  (tSeq (tIfS (tAnd (tTest (tOp rEq (tVar 2) (tC (.int 0)))) (tTest (tOp rEq (tCall (spS K FSto TDr) [] E0 (tCons (tVar 0) (tCons (tC (.int 3)) tNil))) (tC (.int 0))))) (tAsg (tCall (spS K FSto TSmallQ) [] E0 (tCons (tVar 0) tNil)) (gName 11)) tNext)
    (tSeq (tIfS (tTest (tOp rEq (tVar 2) (tC (.int 5)))) (tAsg (tTup (tCons (tOp rSubI (tC (.int 0)) (tCB rAbsX (tCons (tOp (rIxT K) (tVar 11) (tC (.int 0))) tNil))) (tCons (tOp (rIxT K) (tVar 11) (tC (.int 1))) tNil))) (gName 11)) tNext)
    (tSeq (tIfS (tTest (tOp rEq (tCall (spS K FSto TDr) [] E0 (tCons (tVar 0) (tCons (tC (.int 4)) tNil))) (tC (.int 0)))) (tAsg (tCall (spP K TAdQ) [] E0 (tCons (tVar 11) (tCons (tCall (spP K TMlQ) [] E0 (tCons (tVar 4) (tCons (tTup (tCons (tOp rSubI (tCall (spS K FSto TDr) [] E0 (tCons (tVar 0) (tCons (tC (.int 9)) tNil))) (tC (.int 4))) (tCons (tC (.int 1)) tNil))) tNil))) tNil))) (gName 11)) tNext)
    (tDrop (tBM K "list" rAppend (tVar 7) (tCons (tVar 11) tNil))))))
section
variable {K : PySem.W.Frag} {S : Stt}
theorem ws_smallq {B : Nat} {ds : List PyData} {Φ : PyData → Nat → Prop} (hF : FSto S) (h : TSmallQ B ds Φ) : WS K S (t_smallq K) (.sto B :: rhoOf 3 ds) { nx := fun _ => False, rt := fun d ρ => ∃ B', ρ[0]? = some (.sto B') ∧ Φ d B' } := by
  obtain ⟨rfl, hB, hΦ⟩ := h
  show WS K S (t_smallq K) [.sto B, .unk, .unk, .unk] _
  unfold t_smallq
  have L : ∀ m : Int, m ≤ 1000000 → m ≤ 2 ^ 1899 := fun m hm => Int.le_trans hm big1899
  walk_at "dl"
  refine wd_drawc hF rfl (by decide) (L _ (by decide)) (by omega) fun size s0 s1 => ?_
  walk_at "dl"
  refine wd_drawc hF rfl (by decide) (L _ (by decide)) (by omega) fun z1 z10 z11 => ?_
  walk_at "dl"
  refine wd_drawc hF rfl (by decide) (L _ (by decide)) (by omega) fun z2 z20 z21 => ?_
  refine do_ixL_int (ns := [1, 1, 2, 3, 4, 12, 97, 101, 997, 1000, 1 + z1]) (P := fun n => 1 ≤ n ∧ n ≤ 1000) rfl z20 z21 (by simp; omega) fun below hb => ?_
  walk_at "dl"
  refine wd_drawc hF rfl (by decide) (L _ (by decide)) (by omega) fun z3 z30 z31 => ?_
  walk_at "dl"
  refine wd_drawc hF rfl (by decide) (L _ (by decide)) (by omega) fun z4 z40 z41 => ?_
  walk_at "dl"
  refine wd_drawc hF rfl (by decide) (L _ (by decide)) (by omega) fun z5 z50 z51 => ?_
  walk_at "dl"
  refine wd_draw hF rfl ?_
  walk_at "dl"
  refine ⟨_, _, rfl, rfl, by decide, L _ (by rw [pow6]; decide), by omega, fun z6 z60 z61 => ?_⟩
  walk_at "dl"
  rw [pow6] at z61
  refine do_ixL_int (ns := [0, 1, 1 + z3, z4, 10 ^ (6 : Int).toNat - z5, z6]) (P := fun n => 0 ≤ n ∧ n ≤ 1000000) rfl s0 s1 (by rw [pow6]; simp; omega) fun above ha => ?_
  walk_at "dl"
  refine wd_drawc hF rfl (by decide) (L _ (by decide)) (by omega) fun z7 z70 z71 => ?_
  refine do_ixL_int (ns := [1, -1]) (P := fun n => n = 1 ∨ n = -1) rfl z70 z71 (by simp) fun sg hs => ?_
  walk_at "dl"
  · exact wide_mul (a := 20) (b := 2) (by omega) (by omega) (by decide) (by decide) (by decide)
  walk_at "dl"
  have h1 : (above * sg).natAbs ≤ 1000000 := by rcases hs with rfl | rfl <;> omega
  have big : (1000001 : Nat) ≤ 2 ^ 8000 := by decide +kernel
  refine ⟨_, _, rfl, by omega, Nat.lt_of_lt_of_le (by omega) big, Nat.lt_of_lt_of_le (by omega) big, _, rfl, ?_⟩
  exact hΦ _ ⟨above * sg, below.toNat, by rw [show ((below.toNat : Nat) : Int) = below by omega], by omega, by omega, h1⟩
theorem ws_shareq {B : Nat} {ds : List PyData} {Φ : PyData → Nat → Prop} (hF : FSto S) (h : TShareQ B ds Φ) : WS K S (t_shareq K) (.sto B :: rhoOf 1 ds) { nx := fun _ => False, rt := fun d ρ => ∃ B', ρ[0]? = some (.sto B') ∧ Φ d B' } := by
  obtain ⟨rfl, hB, hΦ⟩ := h
  show WS K S (t_shareq K) [.sto B, .unk] _
  unfold t_shareq
  have L : ∀ m : Int, m ≤ 1000000 → m ≤ 2 ^ 1899 := fun m hm => Int.le_trans hm big1899
  walk_at "dl"
  refine wd_drawc hF rfl (by decide) (L _ (by decide)) (by omega) fun z1 z10 z11 => ?_
  walk_at "dl"
  refine wd_drawc hF rfl (by decide) (L _ (by decide)) (by omega) fun z2 z20 z21 => ?_
  refine do_ixL_int (ns := [1, 2, 3, 10, 97, 997, 1 + z1]) (P := fun n => 1 ≤ n ∧ n ≤ 1000) rfl z20 z21 (by simp; omega) fun below hb => ?_
  walk_at "dl"
  refine wd_draw hF rfl ?_
  walk_at "dl"
  refine ⟨_, _, rfl, rfl, by omega, L _ (by omega), by omega, fun z3 z30 z31 => ?_⟩
  refine wd_drawc hF rfl (by decide) (L _ (by decide)) (by omega) fun z4 z40 z41 => ?_
  walk_at "dl"
  · exact wide_mul (a := 20) (b := 2) (by omega) (by omega) (by decide) (by decide) (by decide)
  walk_at "dl"
  have hz : z4 = 0 ∨ z4 = 1 := by omega
  have h1 : 1 ≤ below - z3 * z4 ∧ below - z3 * z4 ≤ below := by rcases hz with rfl | rfl <;> omega
  generalize below - z3 * z4 = a at h1
  have big : (1000001 : Nat) ≤ 2 ^ 8000 := by decide +kernel
  refine ⟨_, _, rfl, by omega, Nat.lt_of_lt_of_le (by omega) big, Nat.lt_of_lt_of_le (by omega) big, _, rfl, ?_⟩
  obtain ⟨R, rfl⟩ : ∃ R : Nat, below = R := ⟨below.toNat, by omega⟩
  have eq : Rat.divInt a (R : Int) = (a : Rat) / (R : Rat) := by rw [Rat.divInt_eq_div, Rat.intCast_natCast]
  have R0 : (0 : Rat) < (R : Rat) := by exact_mod_cast (by omega : 0 < R)
  have a0 : (0 : Rat) < (a : Rat) := by exact_mod_cast (by omega : 0 < a)
  have aR : (a : Rat) ≤ (R : Rat) := by rw [← Rat.intCast_natCast]; exact_mod_cast h1.2
  refine hΦ R _ ⟨?_, ?_, by omega, by omega, ?_⟩
  · rw [eq, Rat.div_def]; exact Rat.mul_pos a0 (Rat.inv_pos.mpr R0)
  · rw [eq]; exact Rat.not_lt.mp fun z => Rat.not_lt.mpr aR (by rw [Rat.lt_div_iff R0, Rat.one_mul] at z; exact z)
  · exact (Dv.di1 (by omega)).mono (by omega)
theorem ws_tot3 {B hj : Nat} {most kind size below here : Int} {s9 s10 : Sl} {ts : List Rat} {one : Rat} {En : DE} (hF : FSto S) (hB : B + 800 ≤ 2 ^ 40) (hj2 : hj ≤ 2) (hl : ts.length ≤ 1000) (ho : Dv dd (1000000 * dd) one)
    (hn : ∀ (t : Rat) (B' : Nat), Tot t → B' ≤ B + 800 → En.nx [.sto B', .dat (.int most), .dat (.int kind), .dat (.int size), .dat (qp (hairs hj)), .unk, .dat (.int below), .own ((ts ++ [t]).map qp), .dat (.int here), s9, s10, .dat (qp t)]) (h9 : ∃ d, s9 = .dat d) (h10 : ∃ d, s10 = .dat d) :
    WS K S (t_tot3 K) [.sto B, .dat (.int most), .dat (.int kind), .dat (.int size), .dat (qp (hairs hj)), .unk, .dat (.int below), .own (ts.map qp), .dat (.int here), s9, s10, .dat (qp one)] En := by
  obtain ⟨d9, rfl⟩ := h9
  obtain ⟨d10, rfl⟩ := h10
  unfold t_tot3
  have L : ∀ m : Int, m ≤ 1000000 → m ≤ 2 ^ 1899 := fun m hm => Int.le_trans hm big1899
  have hz := hair_sz hj2
  have oz := tot_sz (Tot.of ho)
  have em : ∀ t : Rat, ts.map qp ++ [qp t] = (ts ++ [t]).map qp := fun t => by rw [List.map_append]; rfl
  have lm : (ts.map qp).length < sizeLine := by rw [List.length_map, sizeLine_eq]; omega
  walk_at "dl"
  refine wd_drawc hF rfl (by decide) (L _ (by decide)) (by omega) fun z1 z10 z11 => ?_
  walk_at "dl"
  refine if_b (fun h => ?_) (fun h => ?_)
  · walk_at "dl"
    refine wd_drawc hF rfl (by decide) (L _ (by decide)) (by omega) fun z2 z20 z21 => ?_
    walk_at "dl"
    rw [qp_int]
    have cz : sz ((z2 - 4 : Int) : Rat) ≤ 4 := sz_int (by omega)
    have pz := sz_mul (hairs hj) ((z2 - 4 : Int) : Rat)
    walk_at "dl"
    exact ws_append rfl (wd_var rfl ⟨_, rfl, lm, by rw [em]; exact hn _ _ (Tot.hair ho hj2 (by omega)) (by omega)⟩)
  · walk_at "dl"
    exact ws_append rfl (wd_var rfl ⟨_, rfl, lm, by rw [em]; exact hn _ _ (Tot.of ho) (by omega)⟩)
theorem ws_tot2 {B hj : Nat} {most kind size below here : Int} {s9 s10 : Sl} {ts : List Rat} {one : Rat} {En : DE} (hF : FSto S) (hB : B + 800 ≤ 2 ^ 40) (hj2 : hj ≤ 2) (hl : ts.length ≤ 1000) (ho : Dv dd (1000000 * dd) one)
    (hn : ∀ (t : Rat) (B' : Nat), Tot t → B' ≤ B + 800 → En.nx [.sto B', .dat (.int most), .dat (.int kind), .dat (.int size), .dat (qp (hairs hj)), .unk, .dat (.int below), .own ((ts ++ [t]).map qp), .dat (.int here), s9, s10, .dat (qp t)]) (h9 : ∃ d, s9 = .dat d) (h10 : ∃ d, s10 = .dat d) :
    WS K S (t_tot2 K) [.sto B, .dat (.int most), .dat (.int kind), .dat (.int size), .dat (qp (hairs hj)), .unk, .dat (.int below), .own (ts.map qp), .dat (.int here), s9, s10, .dat (qp one)] En := by
  unfold t_tot2
  show WS K S (tSeq _ (t_tot3 K)) _ _
  walk_at "dl"
  refine if_b (fun h => ?_) (fun h => ?_)
  · walk_at "dl"
    rw [qp_negA]
    exact ws_tot3 hF hB hj2 hl (negA_dv ho) hn h9 h10
  · walk_at "dl"
    exact ws_tot3 hF hB hj2 hl ho hn h9 h10
theorem ws_tot1 {B hj : Nat} {most kind size below here : Int} {s9 s10 : Sl} {ts : List Rat} {one : Rat} {En : DE} (hF : FSto S) (hB : B + 5000 ≤ 2 ^ 40) (hj2 : hj ≤ 2) (hl : ts.length ≤ 1000) (ho : Dv dd (1000000 * dd) one)
    (hn : ∀ (t : Rat) (B' : Nat), Tot t → B' ≤ B + 5000 → En.nx [.sto B', .dat (.int most), .dat (.int kind), .dat (.int size), .dat (qp (hairs hj)), .unk, .dat (.int below), .own ((ts ++ [t]).map qp), .dat (.int here), s9, s10, .dat (qp t)]) (h9 : ∃ d, s9 = .dat d) (h10 : ∃ d, s10 = .dat d) :
    WS K S (t_tot1 K) [.sto B, .dat (.int most), .dat (.int kind), .dat (.int size), .dat (qp (hairs hj)), .unk, .dat (.int below), .own (ts.map qp), .dat (.int here), s9, s10, .dat (qp one)] En := by
  obtain ⟨d9, rfl⟩ := h9
  obtain ⟨d10, rfl⟩ := h10
  unfold t_tot1
  show WS K S (tSeq _ (t_tot2 K)) _ _
  have L : ∀ m : Int, m ≤ 1000000 → m ≤ 2 ^ 1899 := fun m hm => Int.le_trans hm big1899
  walk_at "dl"
  refine if_b (fun h => ?_) (fun h => ?_)
  · walk_at "dl"
    refine wd_drawc hF rfl (by decide) (L _ (by decide)) (by omega) fun z1 z10 z11 => ?_
    walk_at "dl"
    refine if_b (fun h => ?_) (fun h => ?_)
    · refine ws_asg (wd_callS hF rfl (wa_nil ⟨_, rfl, rfl, by omega, fun q hq => ?_⟩))
      exact ws_tot2 hF (by omega) hj2 hl hq.dv (fun t B' h1 h2 => hn t B' h1 (by omega)) ⟨_, rfl⟩ ⟨_, rfl⟩
    · refine ws_next ?_
      exact ws_tot2 hF (by omega) hj2 hl ho (fun t B' h1 h2 => hn t B' h1 (by omega)) ⟨_, rfl⟩ ⟨_, rfl⟩
  · rw [if_neg (by decide)]
    refine ws_next ?_
    exact ws_tot2 hF (by omega) hj2 hl ho (fun t B' h1 h2 => hn t B' h1 (by omega)) ⟨_, rfl⟩ ⟨_, rfl⟩
theorem ws_totals {B : Nat} {ds : List PyData} {Φ : PyData → Nat → Prop} (hF : FSto S) (h : TTotals B ds Φ) : WS K S (t_totals K) (.sto B :: rhoOf 11 ds) { nx := fun _ => False, rt := fun d ρ => ∃ B', ρ[0]? = some (.sto B') ∧ Φ d B' } := by
  obtain ⟨most, rfl, m1, m2, hB, hΦ⟩ := h
  show WS K S (t_totals K) [.sto B, .dat (.int most), .unk, .unk, .unk, .unk, .unk, .unk, .unk, .unk, .unk, .unk] _
  unfold t_totals
  have L : ∀ m : Int, m ≤ 1000000 → m ≤ 2 ^ 1899 := fun m hm => Int.le_trans hm big1899
  walk_at "dl"
  refine wd_drawc hF rfl (by decide) (L _ (by decide)) (by omega) fun kind k0 k1 => ?_
  walk_at "dl"
  refine wd_drawc hF rfl (by decide) (L _ (by decide)) (by omega) fun z2 z20 z21 => ?_
  refine do_ixL_int (ns := [3, 8, most]) (P := fun n => 1 ≤ n ∧ n ≤ 120) rfl z20 z21 (by simp; omega) fun size hs => ?_
  walk_at "dl"
  have e1 : PyData.tuple [.int 1, .int 997] = qp (Rat.divInt 1 997) := qp_of (by decide) (by decide)
  have e2 : PyData.tuple [.int 1, .int 1000] = qp (Rat.divInt 1 1000) := qp_of (by decide) (by decide)
  have e3 : PyData.tuple [.int 1, .int 991] = qp (Rat.divInt 1 991) := qp_of (by decide) (by decide)
  have s1 : sz (Rat.divInt 1 997) ≤ 11 := by decide +kernel
  have s2 : sz (Rat.divInt 1 1000) ≤ 11 := by decide +kernel
  have s3 : sz (Rat.divInt 1 991) ≤ 11 := by decide +kernel
  have s4 := sz_mul (Rat.divInt 1 997) (Rat.divInt 1 1000)
  rw [e1, e2]
  walk_at "dl"
  rw [e3]
  walk_at "dl"
  refine ws_for (wi_rng1 (wa_cons ?_))
  refine wd_drawc hF rfl (by decide) (L _ (by decide)) (by omega) fun z3 z30 z31 => ?_
  walk_at "dl"
  refine ⟨by omega, by omega, fun j ρ => ∃ (s5 : Sl), ρ = [.sto (B + 400 + 400 + 400), .dat (.int most), .dat (.int kind), .dat (.int size), .dat (qp (hairs j)), s5, .unk, .unk, .unk, .unk, .unk, .unk], ⟨_, rfl⟩, ?_, ?_⟩
  · rintro j d ρ2 hd ⟨s5, rfl⟩
    have hj : j < 2 := by
      have := (List.getElem?_eq_some_iff.mp hd).1
      simp at this; omega
    have := hair_sz (j := j) (by omega)
    refine ⟨_, _, gd_name, ?_⟩
    walk_at "dl"
    exact ⟨_, rfl⟩
  · rintro ρ2 ⟨s5, rfl⟩
    obtain ⟨hj, ehj⟩ : ∃ hj : Nat, z3.toNat = hj := ⟨_, rfl⟩
    have hj2 : hj ≤ 2 := by omega
    simp only [List.length_map, List.length_range, ehj]
    have hz := hair_sz hj2
    refine ws_fgt (fgt_set (i := 5)) ?_
    show WS K S _ [.sto (B + 400 + 400 + 400), .dat (.int most), .dat (.int kind), .dat (.int size), .dat (qp (hairs hj)), .unk, .unk, .unk, .unk, .unk, .unk, .unk] _
    walk_at "dl"
    refine wd_drawc hF rfl (by decide) (L _ (by decide)) (by omega) fun z4 z40 z41 => ?_
    refine do_ixL_int (ns := [1, 1, 2, 3, 12, 97, 1000]) (P := fun n => 1 ≤ n ∧ n ≤ 1000) rfl z40 z41 (by simp) fun below hb => ?_
    refine ws_seq (ws_own (wa_nil ⟨Nat.zero_le _, ?_⟩))
    walk_at "dl"
    refine wd_drawc hF rfl (by decide) (L _ (by decide)) (by omega) fun z5 z50 z51 => ?_
    walk_at "dl"
    refine ws_for (wi_rng1 (wa_cons (wd_draw hF rfl ?_)))
    walk_at "dl"
    refine ⟨_, _, rfl, rfl, by omega, L _ (by omega), by omega, fun many y0 y1 => ?_⟩
    refine wa_nil ⟨many, rfl, by omega, by omega, fun k ρ => ∃ (ts : List Rat) (here : Int) (B2 : Nat) (t9 t10 t11 : Sl), ρ = [.sto B2, .dat (.int most), .dat (.int kind), .dat (.int size), .dat (qp (hairs hj)), .unk, .dat (.int below), .own (ts.map qp), .dat (.int here), t9, t10, t11] ∧ ts.length = k ∧ (∀ t ∈ ts, Tot t) ∧ here.natAbs ≤ 1000000 ∧ B2 ≤ B + 4000 + 8000 * k, ⟨[], z5 - 1000, B + 400 + 400 + 400 + 400 + 400 + 400, _, _, _, rfl, rfl, fun x hx => by simp at hx, by omega, by omega⟩, ?_, ?_⟩
    · rintro k d ρ2 hd ⟨ts, here, B2, t9, t10, t11, rfl, hk, hT, hh, hB2⟩
      have hk2 : k < 120 := by
        have := (List.getElem?_eq_some_iff.mp hd).1
        simp at this; omega
      refine ⟨_, _, gd_name, ?_⟩
      refine ws_fgt (fgt_set (i := 10)) (ws_fgt (fgt_set (i := 11)) ?_)
      have hkd : ∃ kk : Int, d = .int kk := by
        obtain ⟨x, _, rfl⟩ := List.mem_map.mp (List.mem_of_getElem? hd)
        exact ⟨_, rfl⟩
      obtain ⟨kk, rfl⟩ := hkd
      show WS K S _ [.sto B2, .dat (.int most), .dat (.int kind), .dat (.int size), .dat (qp (hairs hj)), .unk, .dat (.int below), .own (ts.map qp), .dat (.int here), .dat (.int kk), .unk, .unk] _
      refine ws_seq (ws_asg (wd_draw hF rfl ?_))
      walk_at "dl"
      refine wd_drawc hF rfl (by decide) (L _ (by decide)) (by omega) fun z6 z60 z61 => ?_
      refine do_ixL_int (ns := [3, 50, 20000]) (P := fun n => 1 ≤ n ∧ n ≤ 20000) rfl z60 z61 (by simp) fun bd hbd => ?_
      refine ⟨_, _, rfl, rfl, by omega, L _ (by omega), by omega, fun step st0 st1 => ?_⟩
      walk_at "dl"
      · exact wide_mul (a := 3) (b := 3) (by decide) (by obtain ⟨f0, f1⟩ := fmod_nn (i := kk) (j := 2) (by decide); omega) (by decide) (by decide) (by decide)
      · exact wide_mul (a := 16) (b := 3) (by omega) (by obtain ⟨f0, f1⟩ := fmod_nn (i := kk) (j := 2) (by decide); omega) (by decide) (by decide) (by decide)
      refine do_ixL_any k0 (by simp; omega) fun o ho => ?_
      obtain ⟨ov, rfl⟩ : ∃ ov : Int, o = .int ov := by
        simp only [List.mem_cons, List.not_mem_nil, or_false] at ho
        rcases ho with rfl | rfl | rfl | rfl | rfl | rfl <;> exact ⟨_, rfl⟩
      refine do_add ?_
      show WS K S (tSeq _ (tSeq _ (t_tot1 K))) _ _
      walk_at "dl"
      rw [pow6]
      generalize here + ov = w
      obtain ⟨cl, ecl, hcl⟩ : ∃ cl : Int, (if (if w < 1000000 then w else 1000000) > -1000000 then (if w < 1000000 then w else 1000000) else -1000000) = cl ∧ cl.natAbs ≤ 1000000 := ⟨_, rfl, by split <;> split <;> omega⟩
      rw [ecl]
      obtain ⟨bl, rfl⟩ : ∃ bl : Nat, below = bl := ⟨below.toNat, by omega⟩
      have big : (1000001 : Nat) ≤ 2 ^ 8000 := by decide +kernel
      refine ⟨_, _, rfl, by omega, Nat.lt_of_lt_of_le (by omega) big, Nat.lt_of_lt_of_le (by omega) big, ?_⟩
      refine ws_tot1 hF (by omega) hj2 (by omega) (dv_part (by omega) (by omega) hcl) (fun t B' h1 h2 => ⟨ts ++ [t], cl, B', _, _, _, rfl, by rw [List.length_append, hk]; rfl, fun u hu => ?_, hcl, by omega⟩) ⟨_, rfl⟩ ⟨_, rfl⟩
      rcases List.mem_append.mp hu with q | q
      · exact hT u q
      · rw [List.mem_singleton.mp q]; exact h1
    · rintro ρ2 ⟨ts, here, B2, t9, t10, t11, rfl, hk, hT, hh, hB2⟩
      rw [List.length_map, List.length_range] at hk hB2
      refine ws_frz (i := 7) rfl ?_
      walk_at "dl"
      exact hΦ ts _ (by omega) hT (by omega)
end
end DL

set_option Elab.async false
set_option linter.all false
set_option maxRecDepth 100000
set_option maxHeartbeats 4000000
/-! PQ2: payments -/
namespace DL
open PySem PySem.Spec PyProof.Rows L2
def p3D (x : P3) : PyData := .tuple [qp x.1, qp x.2.1, qp x.2.2]
/-- paid in whole pence -/
def w3D (x : P3) (paid : Rat) : PyData := .tuple [.int (x.2.1.floor - paid.floor), .int x.2.1.floor, qp x.2.2]
def wRwF (sh : Rat) : P3 → List Rat → List PyData
  | _, [] => []
  | s, t :: r => w3D (prow sh s t) s.2.1 :: wRwF sh (pstep sh s t) r
def wRw (sh : Rat) (ts : List Rat) : List PyData := wRwF sh (0, 0, 0) ts
theorem wRwF_snoc {sh t : Rat} : ∀ {ts : List Rat} {s : P3}, wRwF sh s (ts ++ [t]) = wRwF sh s ts ++ [w3D (prow sh (ts.foldl (pstep sh) s) t) (ts.foldl (pstep sh) s).2.1]
  | [], s => rfl
  | u :: r, s => by
    show _ :: wRwF sh (pstep sh s u) (r ++ [t]) = _
    rw [wRwF_snoc]; rfl
theorem wRw_snoc {sh t : Rat} {ts : List Rat} : wRw sh (ts ++ [t]) = wRw sh ts ++ [w3D (prow sh (pS sh ts) t) (pS sh ts).2.1] := wRwF_snoc
theorem wRw_take {sh t : Rat} {ts : List Rat} {k : Nat} (h : ts[k]? = some t) : wRw sh (ts.take (k + 1)) = wRw sh (ts.take k) ++ [w3D (prow sh (pS sh (ts.take k)) t) (pS sh (ts.take k)).2.1] := by rw [take_snoc h, wRw_snoc]
theorem wRwF_len {sh : Rat} : ∀ {ts : List Rat} {s : P3}, (wRwF sh s ts).length = ts.length
  | [], s => rfl
  | u :: r, s => by show (wRwF sh _ r).length + 1 = r.length + 1; rw [wRwF_len]
def payD (w : Bool) (sh : Rat) (ts : List Rat) : List PyData := if w then wRw sh ts else (pRw sh ts).map p3D
theorem payD_len {w : Bool} {sh : Rat} {ts : List Rat} : (payD w sh ts).length = ts.length := by
  unfold payD; split
  · exact wRwF_len
  · rw [List.length_map, pRw_len]
theorem le0 {q : Rat} : q.num ≤ 0 ↔ q ≤ 0 := by
  rw [Rat.le_iff]
  show q.num ≤ 0 ↔ q.num * 1 ≤ 0 * _
  omega
theorem kept_law {sh n d : Rat} (h : ¬ n ≤ 0) : keptR sh n d = if d < sh * n then d else sh * n := by
  unfold keptR; rw [if_neg h]
  split <;> split <;> grind
def TRows : List PyData → (PyData → Prop) → Prop := fun ds Φ => ∃ (ts : List Rat) (sh : Rat) (R : Nat), ds = [.list (ts.map qp), qp sh] ∧ ShOk R sh ∧ ts.length ≤ 130 ∧ (∀ t ∈ ts, Tot t) ∧ Φ (.tuple ((pRw sh ts).map p3D))
def TLeastQ : List PyData → (PyData → Prop) → Prop := fun ds Φ => ∃ (p q : Rat), ds = [.tuple [qp p, qp q], .none] ∧ sz p ≤ 3800 ∧ sz q ≤ 3800 ∧ Φ (qp (if q < p then q else p))
def TFloorQ : List PyData → (PyData → Prop) → Prop := fun ds Φ => ∃ (p : Rat), ds = [qp p] ∧ sz p ≤ 3800 ∧ Φ (.int p.floor)
def TKept : List PyData → (PyData → Prop) → Prop := fun ds Φ => ∃ (n d sh : Rat), ds = [qp n, qp d, qp sh] ∧ sz sh ≤ 3800 ∧ sz n ≤ 3800 ∧ sz d ≤ 3800 ∧ sz (sh * n) ≤ 3800 ∧ Φ (qp (keptR sh n d))
def TPays : List PyData → (PyData → Prop) → Prop := fun ds Φ => ∃ (b w : Bool) (ts : List Rat) (sh : Rat) (R : Nat), ds = [rowD b (ts.map qp), qp sh, .bool w] ∧ ShOk R sh ∧ ts.length ≤ 130 ∧ (∀ t ∈ ts, Tot t) ∧ Φ (.tuple (payD w sh ts))
local macro_rules | `(tactic| walk_at "dl") => `(tactic| repeat' (first
  | with_reducible refine wd_isTy ?_ | with_reducible refine wd_isi ?_ | ((with_reducible show WD _ _ (tOp (rIxL _) (tVar _) _) _ _); refine wd_ix_own rfl ?_) | with_reducible refine wd_op ?_ | ((with_reducible show WD _ _ (tCB (rLenX _) (tCons (tVar _) tNil)) _ _); refine wd_len_scr rfl ?_) | ((with_reducible show WD _ _ (tCB (rLenX _) (tCons (tVar _) tNil)) _ _); refine wd_len_own rfl ?_) | with_reducible refine wd_cb ?_ | with_reducible refine wd_un ?_ | with_reducible refine wa_cons ?_ | with_reducible refine wa_nil ?_ | ((with_reducible show WD _ _ (tVar _) _ _); refine wd_var rfl ?_) | with_reducible refine wd_int ?_ | with_reducible refine wd_bl ?_ | with_reducible refine wd_str ?_ | with_reducible refine wd_non ?_
  | with_reducible refine do_nesS ?_ | with_reducible refine dc_intB ?_ | with_reducible refine do_add ?_ | with_reducible refine do_sub ?_ | ((with_reducible refine do_mod ?_ ?_); decide) | with_reducible refine do_mod ?_ ?_ | with_reducible refine do_mul ?_ ?_ | ((with_reducible refine do_div ?_ ?_); exact ⟨by decide, by decide⟩) | with_reducible refine do_div ?_ ?_ | ((with_reducible refine do_pow ?_ ?_); exact ⟨by decide, by decide, by decide⟩) | with_reducible refine do_pow ?_ ?_
  | with_reducible refine do_lt ?_ | with_reducible refine do_le ?_ | with_reducible refine do_gt ?_ | with_reducible refine do_ge ?_ | with_reducible refine du_neg ?_
  | with_reducible refine do_eqi ?_ | with_reducible refine do_nei ?_ | with_reducible refine do_eqs ?_ | with_reducible refine do_nes ?_ | with_reducible refine dc_abs ?_ | with_reducible refine dc_min ?_ | with_reducible refine dc_max ?_ | with_reducible refine dc_lenL ?_ | with_reducible refine dc_lenT ?_ | with_reducible refine dc_lenR ?_ | with_reducible refine dc_listT ?_ | with_reducible refine dc_listL ?_ | with_reducible refine dc_tupL ?_ | with_reducible refine dc_gcd ?_
  | ((with_reducible show DO _ (rIxT _) _ _ _); refine do_ixT rfl ?_) | ((with_reducible show DO _ (rIxL _) _ _ _); refine do_ixL rfl ?_) | ((with_reducible refine do_catL ?_ ?_); exact Nat.le_of_ble_eq_true rfl) | with_reducible refine do_catL ?_ ?_ | ((with_reducible show And (List.length _ ≤ sizeLine) _); refine ⟨Nat.le_of_ble_eq_true rfl, ?_⟩)
  | with_reducible refine wd_dnew ?_ | with_reducible refine wd_call0 ?_ | with_reducible refine wd_slA ?_ | with_reducible refine wd_slL ?_ | with_reducible refine wd_revT ?_ | with_reducible refine do_catA ?_ ?_ | with_reducible refine wo_part ?_ | with_reducible refine wo_none ?_ | with_reducible refine do_eqQ ?_ | with_reducible refine do_neQ ?_ | with_reducible refine wi_enumT ?_ | with_reducible refine wi_enumD ?_ | with_reducible refine tAdQ (by omega) (by omega) ?_ | with_reducible refine tSbQ (by omega) (by omega) ?_ | with_reducible refine tMlQ (by omega) (by omega) ?_ | with_reducible refine tDvQ (by assumption) (by omega) (by omega) ?_ | with_reducible refine tLtQ (by omega) (by omega) ?_ | with_reducible refine dc_str ?_ ?_ | with_reducible refine wd_tup ?_ | with_reducible refine wd_lst ?_ | with_reducible refine wt_test ?_ | with_reducible refine wt_B ?_ | with_reducible refine wt_not ?_ | with_reducible refine wt_and ?_ | with_reducible refine wt_or ?_ | with_reducible refine wd_ifE ?_ | with_reducible refine wd_andV ?_ | with_reducible refine wd_orV ?_ | with_reducible refine wd_notV ?_
  | with_reducible refine ws_seq ?_ | with_reducible refine ws_next ?_ | with_reducible refine ws_asg ?_ | with_reducible refine ws_ret ?_ | with_reducible refine ws_retN ?_ | with_reducible refine ws_if ?_ | with_reducible refine ws_par ?_ | with_reducible refine ws_unp2 ?_
  | with_reducible refine if_t ?_ | with_reducible refine if_f ?_ | with_reducible refine if_nf ?_ | with_reducible refine if_nt ?_
  | ((with_reducible show Exists _); first | refine ⟨_, kitInt _, ?_⟩ | refine ⟨_, kitBool _, ?_⟩ | refine ⟨_, kitTup _, ?_⟩ | refine ⟨_, kitList _, ?_⟩ | refine ⟨_, rfl, ?_⟩ | refine ⟨_, _, rfl, ?_⟩ | fail) | fail))
def t_rows (K : PySem.W.Frag) : TS :=
  (tSeq (tAsg (tLst tNil) (gName 2))
    (tSeq (tAsg (tTup (tCons (tTup (tCons (tC (.int 0)) (tCons (tC (.int 1)) tNil))) (tCons (tTup (tCons (tC (.int 0)) (tCons (tC (.int 1)) tNil))) (tCons (tTup (tCons (tC (.int 0)) (tCons (tC (.int 1)) tNil))) tNil)))) (gTup K 3 (gCons (gName 3) (gCons (gName 4) (gCons (gName 5) gNil)))))
    (tSeq (tFor (iList K (tVar 0)) (gName 6) (tSeq (tAsg (tCall (spP K TSbQ) [] E0 (tCons (tVar 6) (tCons (tVar 3) tNil))) (gName 7))
    (tSeq (tAsg (tTup (tCons (tC (.int 0)) (tCons (tC (.int 1)) tNil))) (gName 8))
    (tSeq (tIfS (tTest (tOp rLe (tOp (rIxT K) (tVar 7) (tC (.int 0))) (tC (.int 0)))) (tAsg (tCall (spP K TSbQ) [] E0 (tCons (tVar 5) (tCons (tVar 7) tNil))) (gName 5)) (tSeq (tAsg (tCall (spP K TMlQ) [] E0 (tCons (tVar 1) (tCons (tVar 7) tNil))) (gName 9))
    (tSeq (tAsg (tIf (tB (tCall (spP K TLtQ) [] E0 (tCons (tVar 5) (tCons (tVar 9) tNil)))) (tVar 5) (tVar 9)) (gName 9))
    (tSeq (tAsg (tCall (spP K TSbQ) [] E0 (tCons (tVar 7) (tCons (tVar 9) tNil))) (gName 8))
    (tAsg (tCall (spP K TSbQ) [] E0 (tCons (tVar 5) (tCons (tVar 9) tNil))) (gName 5))))))
    (tSeq (tAsg (tCall (spP K TAdQ) [] E0 (tCons (tVar 4) (tCons (tVar 8) tNil))) (gName 4))
    (tSeq (tAsg (tVar 6) (gName 3))
    (tDrop (tBM K "list" rAppend (tVar 2) (tCons (tTup (tCons (tVar 8) (tCons (tVar 4) (tCons (tVar 5) tNil)))) tNil)))))))))
    (tRet (tCB (rTupOf K) (tCons (tVar 2) tNil))))))
def t_rowsT (K : PySem.W.Frag) : TS :=
  (tSeq (tAsg (tCall (spP K TAdQ) [] E0 (tCons (tVar 4) (tCons (tVar 8) tNil))) (gName 4))
    (tSeq (tAsg (tVar 6) (gName 3))
    (tDrop (tBM K "list" rAppend (tVar 2) (tCons (tTup (tCons (tVar 8) (tCons (tVar 4) (tCons (tVar 5) tNil)))) tNil)))))
def t_paysT (K : PySem.W.Frag) : TS :=
  (tIfS (tB (tVar 2)) (tDrop (tBM K "list" rAppend (tVar 3) (tCons (tTup (tCons (tOp rSubI (tCall (spP K TFloorQ) [] E0 (tCons (tVar 5) tNil)) (tCall (spP K TFloorQ) [] E0 (tCons (tVar 11) tNil))) (tCons (tCall (spP K TFloorQ) [] E0 (tCons (tVar 5) tNil)) (tCons (tVar 6) tNil)))) tNil))) (tDrop (tBM K "list" rAppend (tVar 3) (tCons (tTup (tCons (tVar 10) (tCons (tVar 5) (tCons (tVar 6) tNil)))) tNil))))
def t_leastq (K : PySem.W.Frag) : TS :=
  (tSeq (tIfS (tNot (tTru K (tVar 0))) (tRet (tVar 1)) tNext)
    (tSeq (tAsg (tOp (rIxT K) (tVar 0) (tC (.int 0))) (gName 2))
    (tSeq (tFor (iTup K (tVar 0)) (gName 3) (tIfS (tB (tCall (spP K TLtQ) [] E0 (tCons (tVar 3) (tCons (tVar 2) tNil)))) (tAsg (tVar 3) (gName 2)) tNext))
    (tRet (tVar 2)))))
def t_floorq (K : PySem.W.Frag) : TS :=
  (tRet (tOp rDivI (tOp (rIxT K) (tVar 0) (tC (.int 0))) (tOp (rIxT K) (tVar 0) (tC (.int 1)))))
def t_kept (K : PySem.W.Frag) : TS :=
  (tSeq (tIfS (tTest (tOp rLe (tOp (rIxT K) (tVar 0) (tC (.int 0))) (tC (.int 0)))) (tRet (tVar 0)) tNext)
    (tRet (tCall (spP K TLeastQ) [.non] E0 (tCons (tTup (tCons (tVar 1) (tCons (tCall (spP K TMlQ) [] E0 (tCons (tVar 2) (tCons (tVar 0) tNil))) tNil))) tNil))))
def t_pays (K : PySem.W.Frag) (a_ONE a_NOUGHT : Addr) : TS :=
  (tSeq (tIfS (tNot (tAnd (tB (tCall (spP K TPartB) [] E0 (tCons (tVar 1) tNil))) (tAnd (tTest (tOp rGt (tOp (rIxT K) (tVar 1) (tC (.int 0))) (tC (.int 0)))) (tNot (tB (tCall (spP K TLtQ) [] E0 (tCons (tC (.ref a_ONE)) (tCons (tVar 1) tNil)))))))) tNo tNext)
    (tSeq (tAsg (tLst tNil) (gName 3))
    (tSeq (tAsg3 (tC (.ref a_NOUGHT)) (gName 4) (gName 5) (gName 6))
    (tSeq (tFor (iRow K (tVar 0)) (gName 7) (tSeq (tAsg (tCall (spP K TSbQ) [] E0 (tCons (tVar 7) (tCons (tVar 4) tNil))) (gName 8))
    (tSeq (tAsg (tCall (spP K TKept) [] E0 (tCons (tVar 8) (tCons (tVar 6) (tCons (tVar 1) tNil)))) (gName 9))
    (tSeq (tAsg (tCall (spP K TSbQ) [] E0 (tCons (tVar 8) (tCons (tVar 9) tNil))) (gName 10))
    (tSeq (tAsg (tVar 5) (gName 11))
    (tSeq (tPar3 4 5 6 (tCons (tVar 7) (tCons (tCall (spP K TAdQ) [] E0 (tCons (tVar 5) (tCons (tVar 10) tNil))) (tCons (tCall (spP K TSbQ) [] E0 (tCons (tVar 6) (tCons (tVar 9) tNil))) tNil))))
    (tIfS (tB (tVar 2)) (tDrop (tBM K "list" rAppend (tVar 3) (tCons (tTup (tCons (tOp rSubI (tCall (spP K TFloorQ) [] E0 (tCons (tVar 5) tNil)) (tCall (spP K TFloorQ) [] E0 (tCons (tVar 11) tNil))) (tCons (tCall (spP K TFloorQ) [] E0 (tCons (tVar 5) tNil)) (tCons (tVar 6) tNil)))) tNil))) (tDrop (tBM K "list" rAppend (tVar 3) (tCons (tTup (tCons (tVar 10) (tCons (tVar 5) (tCons (tVar 6) tNil)))) tNil))))))))))
    (tRet (tCB (rTupOf K) (tCons (tVar 3) tNil)))))))
theorem ShOk.sz {R : Nat} {sh : Rat} (h : ShOk R sh) : sz sh ≤ 12 := h.dv.sz (by have := h.r1; omega) (by have := h.r2; omega)
section
variable {K : PySem.W.Frag} {S : Stt} {ρ : Rho} {ds : List PyData} {Φ : PyData → Prop}
theorem wi_rowD {t : TE} {Θ : List PyData → Rho → Prop} (h : ∃ b, WD K S t ρ fun d ρ1 => ∃ ds, d = rowD b ds ∧ Θ ds ρ1) : WI K S (iRow K t) ρ Θ := by
  obtain ⟨b, h⟩ := h
  cases b
  · exact wi_rowT (wi_tup h)
  · exact wi_rowL (wi_list h)
theorem ws_leastq (h : TLeastQ ds Φ) : WS K S0 (t_leastq K) (rhoOf 4 ds) { nx := fun _ => Φ .none, rt := fun d _ => Φ d } := by
  obtain ⟨p, q, rfl, hp, hq, hΦ⟩ := h
  show WS K S0 (t_leastq K) [.dat (.tuple [qp p, qp q]), .dat .none, .unk, .unk] _
  unfold t_leastq
  walk_at "dl"
  refine wt_tru (wd_var rfl ⟨_, .inr rfl, ?_⟩)
  refine if_f ?_
  walk_at "dl"
  refine ws_for (wi_tup (wd_var rfl ⟨_, rfl, fun k ρ => ∃ (f : Rat) (s3 : Sl), ρ = [.dat (.tuple [qp p, qp q]), .dat .none, .dat (qp f), s3] ∧ sz f ≤ 3800 ∧ (k ≤ 1 → f = p) ∧ (2 ≤ k → f = if q < p then q else p), ⟨p, _, rfl, hp, fun _ => rfl, fun h => absurd h (by decide)⟩, ?_, ?_⟩))
  · rintro k x ρ2 hd ⟨f, s3, rfl, hf, e1, e2⟩
    refine ⟨_, _, gd_name, ?_⟩
    match k, hd with
    | 0, hd =>
      cases hd
      have ef := e1 (by decide)
      subst ef
      walk_at "dl"
      refine if_b (fun h => absurd h (by grind)) (fun h => ?_)
      walk_at "dl"
      exact ⟨hp, fun _ => rfl, fun h => absurd h (by decide)⟩
    | 1, hd =>
      cases hd
      have ef := e1 (by decide)
      subst ef
      walk_at "dl"
      refine if_b (fun h => ?_) (fun h => ?_)
      · walk_at "dl"
        exact ⟨hq, fun h => absurd h (by decide), fun _ => by rw [if_pos h]⟩
      · walk_at "dl"
        exact ⟨hp, fun h => absurd h (by decide), fun _ => by rw [if_neg h]⟩
    | k + 2, hd => cases hd
  · rintro ρ2 ⟨f, s3, rfl, hf, e1, e2⟩
    walk_at "dl"
    rw [e2 (Nat.le_refl 2)]
    exact hΦ
theorem ws_floorq (h : TFloorQ ds Φ) : WS K S0 (t_floorq K) (rhoOf 1 ds) { nx := fun _ => Φ .none, rt := fun d _ => Φ d } := by
  obtain ⟨p, rfl, hp, hΦ⟩ := h
  show WS K S0 (t_floorq K) [.dat (.tuple [.int p.num, .int (p.den : Int)])] _
  unfold t_floorq
  walk_at "dl"
  · exact cdiv39 (den0 p) (d39 hp)
  · rw [Rat.floor_def] at hΦ
    show Φ _
    rw [Int.fdiv_eq_ediv_of_nonneg _ (by omega)]
    exact hΦ
theorem ws_kept (h : TKept ds Φ) : WS K S0 (t_kept K) (rhoOf 3 ds) { nx := fun _ => Φ .none, rt := fun d _ => Φ d } := by
  obtain ⟨n, d, sh, rfl, hs, hn, hd, hm, hΦ⟩ := h
  show WS K S0 (t_kept K) [.dat (qp n), .dat (qp d), .dat (qp sh)] _
  unfold t_kept
  walk_at "dl"
  refine if_b (fun h => ?_) (fun h => ?_)
  · walk_at "dl"
    have e : keptR sh n d = n := if_pos (le0.mp h)
    rw [e] at hΦ; exact hΦ
  · refine ws_next ?_
    refine ws_ret (wd_call (dds := [.none]) (fun H => .cons .non .nil) ?_)
    walk_at "dl"
    have e : keptR sh n d = if sh * n < d then sh * n else d := if_neg fun z => h (le0.mpr z)
    rw [e] at hΦ
    exact ⟨d, sh * n, rfl, hd, hm, hΦ⟩
theorem ws_rowsT {s0 s1 : Sl} {fs : List PyData} {a n d t : Rat} {u3 u7 u9 : Sl} {En : DE} (hA : sz a ≤ 1640) (hN : sz n ≤ 1640) (hl : fs.length < sizeLine) (hn : En.nx [s0, s1, .own (fs ++ [p3D (n, a + n, d)]), .dat (qp t), .dat (qp (a + n)), .dat (qp d), .dat (qp t), u7, .dat (qp n), u9]) :
    WS K S0 (t_rowsT K) [s0, s1, .own fs, u3, .dat (qp a), .dat (qp d), .dat (qp t), u7, .dat (qp n), u9] En := by
  unfold t_rowsT
  walk_at "dl"
  exact ws_append rfl (wd_tup (wa_cons (wd_var rfl (wa_cons (wd_var rfl (wa_cons (wd_var rfl (wa_nil ⟨Nat.le_of_ble_eq_true rfl, _, rfl, hl, hn⟩))))))))
theorem ws_rows (h : TRows ds Φ) : WS K S0 (t_rows K) (rhoOf 10 ds) { nx := fun _ => Φ .none, rt := fun d _ => Φ d } := by
  obtain ⟨ts, sh, R, rfl, hs, hl, ht, hΦ⟩ := h
  show WS K S0 (t_rows K) [.dat (.list (ts.map qp)), .dat (qp sh), .unk, .unk, .unk, .unk, .unk, .unk, .unk, .unk] _
  unfold t_rows
  have hz := hs.sz
  refine ws_seq (ws_own (wa_nil ⟨Nat.zero_le _, ?_⟩))
  refine ws_seq (ws_unp3 ?_)
  walk_at "dl"
  rw [qp01]
  refine ⟨_, _, _, rfl, ?_⟩
  refine ws_seq (ws_for (wi_list (wd_var rfl ⟨_, rfl, fun k ρ => ∃ (s : P3) (s6 s7 s8 s9 : Sl), ρ = [.dat (.list (ts.map qp)), .dat (qp sh), .own ((pRw sh (ts.take k)).map p3D), .dat (qp s.1), .dat (qp s.2.1), .dat (qp s.2.2), s6, s7, s8, s9] ∧ s = pS sh (ts.take k), ⟨(0, 0, 0), _, _, _, _, rfl, rfl⟩, ?_, ?_⟩)))
  · rintro k x ρ2 hd ⟨s, s6, s7, s8, s9, rfl, hsk⟩
    rw [List.getElem?_map] at hd
    obtain ⟨t, htk, rfl⟩ := Option.map_eq_some_iff.mp hd
    have hk : k < ts.length := (List.getElem?_eq_some_iff.mp htk).1
    have tT := ht t (List.mem_of_getElem? htk)
    have pi := PI.run hs ht k (by omega)
    have Z := pi.sizes hs tT (by omega)
    have e1 := pRw_take (sh := sh) htk
    have e2 := pS_take (sh := sh) htk
    rw [← hsk] at Z e1 e2
    obtain ⟨z1, z2, z3, z4, z5, z6, z7, z8, z9, z10, z11, z12⟩ := Z
    refine ⟨_, _, gd_name, ?_⟩
    have lm : ((pRw sh (ts.take k)).map p3D).length < sizeLine := by rw [List.length_map, pRw_len, List.length_take, sizeLine_eq]; omega
    show WS K S0 (tSeq _ (tSeq _ (tSeq _ (t_rowsT K)))) [.dat (.list (ts.map qp)), .dat (qp sh), .own ((pRw sh (ts.take k)).map p3D), .dat (qp s.1), .dat (qp s.2.1), .dat (qp s.2.2), .dat (qp t), s7, s8, s9] _
    have emp : (pRw sh (ts.take k)).map p3D ++ [p3D (prow sh s t)] = (pRw sh (ts.take (k + 1))).map p3D := by rw [e1, List.map_append]; rfl
    have en : ∀ (u7 u8 u9 : Sl), (fun k ρ => ∃ (s : P3) (s6 s7 s8 s9 : Sl), ρ = [Sl.dat (.list (ts.map qp)), .dat (qp sh), .own ((pRw sh (ts.take k)).map p3D), .dat (qp s.1), .dat (qp s.2.1), .dat (qp s.2.2), s6, s7, s8, s9] ∧ s = pS sh (ts.take k)) (k + 1) [Sl.dat (.list (ts.map qp)), .dat (qp sh), .own ((pRw sh (ts.take k)).map p3D ++ [p3D (prow sh s t)]), .dat (qp t), .dat (qp (s.2.1 + (t - s.1 - keptR sh (t - s.1) s.2.2))), .dat (qp (s.2.2 - keptR sh (t - s.1) s.2.2)), .dat (qp t), u7, u8, u9] := fun u7 u8 u9 =>
      ⟨pstep sh s t, _, _, _, _, by rw [emp]; rfl, e2.symm⟩
    walk_at "dl"
    refine if_b (fun h => ?_) (fun h => ?_)
    · have h' := le0.mp h
      have kp : keptR sh (t - s.1) s.2.2 = t - s.1 := if_pos h'
      walk_at "dl"
      rw [qp01]
      have e0 : (0 : Rat) = t - s.1 - keptR sh (t - s.1) s.2.2 := by rw [kp]; grind
      have e3 : s.2.2 - (t - s.1) = s.2.2 - keptR sh (t - s.1) s.2.2 := by rw [kp]
      rw [e0, e3]
      exact ws_rowsT z2 z10 lm (en _ _ _)
    · have h' : ¬ (t - s.1 ≤ 0) := fun z => h (le0.mpr z)
      have kp := kept_law (sh := sh) (d := s.2.2) h'
      walk_at "dl"
      by_cases q : s.2.2 < sh * (t - s.1)
      · rw [if_pos q] at kp
        rw [decide_eq_true q]
        walk_at "dl"
        have e4 : t - s.1 - s.2.2 = t - s.1 - keptR sh (t - s.1) s.2.2 := by rw [kp]
        have e5 : s.2.2 - s.2.2 = s.2.2 - keptR sh (t - s.1) s.2.2 := by rw [kp]
        rw [e4, e5]
        exact ws_rowsT z2 z10 lm (en _ _ _)
      · rw [if_neg q] at kp
        rw [decide_eq_false q]
        walk_at "dl"
        have e4 : t - s.1 - sh * (t - s.1) = t - s.1 - keptR sh (t - s.1) s.2.2 := by rw [kp]
        have e5 : s.2.2 - sh * (t - s.1) = s.2.2 - keptR sh (t - s.1) s.2.2 := by rw [kp]
        rw [e4, e5]
        exact ws_rowsT z2 z10 lm (en _ _ _)
  · rintro ρ2 ⟨s, s6, s7, s8, s9, rfl, hsk⟩
    rw [List.length_map, List.take_length]
    refine ws_frz (i := 2) rfl ?_
    walk_at "dl"
    exact hΦ
theorem ws_paysT {s0 s1 : Sl} {w : Bool} {fs : List PyData} {x s : P3} {u4 u7 u8 u9 : Sl} {En : DE} (hA : sz x.2.1 ≤ 1640) (hN : sz s.2.1 ≤ 1640) (hl : fs.length < sizeLine) (hn : En.nx [s0, s1, .dat (.bool w), .own (fs ++ [if w then w3D x s.2.1 else p3D x]), u4, .dat (qp x.2.1), .dat (qp x.2.2), u7, u8, u9, .dat (qp x.1), .dat (qp s.2.1)]) :
    WS K S0 (t_paysT K) [s0, s1, .dat (.bool w), .own fs, u4, .dat (qp x.2.1), .dat (qp x.2.2), u7, u8, u9, .dat (qp x.1), .dat (qp s.2.1)] En := by
  unfold t_paysT
  have wf : ∀ {ρ : Rho} {i : Nat} {q : Rat} {Φ : PyData → Rho → Prop}, ρ[i]? = some (.dat (qp q)) → sz q ≤ 1640 → Φ (.int q.floor) ρ → WD K S0 (tCall (spP K TFloorQ) [] E0 (tCons (tVar i) tNil)) ρ Φ := fun h1 h2 f => wd_call0 (wa_cons (wd_var h1 (wa_nil ⟨_, rfl, by omega, f⟩)))
  refine ws_if (wt_B (wd_var rfl ⟨_, rfl, ?_⟩))
  cases w
  · refine if_f ?_
    exact ws_append rfl (wd_tup (wa_cons (wd_var rfl (wa_cons (wd_var rfl (wa_cons (wd_var rfl (wa_nil ⟨Nat.le_of_ble_eq_true rfl, _, rfl, hl, hn⟩))))))))
  · refine if_t ?_
    exact ws_append rfl (wd_tup (wa_cons (wd_op (wf rfl hA (wf rfl hN (do_sub (wa_cons (wf rfl hA (wa_cons (wd_var rfl (wa_nil ⟨Nat.le_of_ble_eq_true rfl, _, rfl, hl, hn⟩)))))))))))
theorem ws_pays {a_ONE a_NOUGHT : Addr} (hO : ∀ H : Hp, SqT K H a_ONE [.int 1, .int 1]) (hN : ∀ H : Hp, SqT K H a_NOUGHT [.int 0, .int 1]) (h : TPays ds Φ) : WS K S0 (t_pays K a_ONE a_NOUGHT) (rhoOf 12 ds) { nx := fun _ => Φ .none, rt := fun d _ => Φ d } := by
  obtain ⟨b, w, ts, sh, R, rfl, hs, hl, ht, hΦ⟩ := h
  show WS K S0 (t_pays K a_ONE a_NOUGHT) [.dat (rowD b (ts.map qp)), .dat (qp sh), .dat (.bool w), .unk, .unk, .unk, .unk, .unk, .unk, .unk, .unk, .unk] _
  unfold t_pays
  have hz := hs.sz
  have n0 : 0 < sh.num := by
    have := Rat.num_nonneg.mpr (Rat.le_of_lt hs.pos)
    have := num0 (q := sh) (by have := hs.pos; grind)
    omega
  have wO : ∀ {ρ : Rho} {Φ : PyData → Rho → Prop}, Φ (qp 1) ρ → WD K S0 (tC (.ref a_ONE)) ρ Φ := fun f => wd_konst (fun H => Dt.part2 (hO H)) f
  have wN : ∀ {ρ : Rho} {Φ : PyData → Rho → Prop}, Φ (qp 0) ρ → WD K S0 (tC (.ref a_NOUGHT)) ρ Φ := fun f => wd_konst (fun H => Dt.part2 (hN H)) f
  have o1 : sz (1 : Rat) ≤ 2 := by rw [sz_one]; decide
  walk_at "dl"
  refine ⟨_, rfl, ?_⟩
  rw [isPartD_qp]
  walk_at "dl"
  refine if_b (fun _ => ?_) (fun h => absurd n0 h)
  walk_at "dl"
  refine wO ?_
  walk_at "dl"
  rw [decide_eq_false (Rat.not_lt.mpr hs.le)]
  walk_at "dl"
  refine ws_next ?_
  refine ws_seq (ws_own (wa_nil ⟨Nat.zero_le _, ?_⟩))
  refine ws_seq (ws_asg3 (wN ?_))
  refine ws_seq (ws_for (wi_rowD ⟨b, wd_var rfl ⟨_, rfl, fun k ρ => ∃ (s : P3) (s7 s8 s9 s10 s11 : Sl), ρ = [.dat (rowD b (ts.map qp)), .dat (qp sh), .dat (.bool w), .own (payD w sh (ts.take k)), .dat (qp s.1), .dat (qp s.2.1), .dat (qp s.2.2), s7, s8, s9, s10, s11] ∧ s = pS sh (ts.take k), ⟨(0, 0, 0), _, _, _, _, _, by unfold payD; cases w <;> rfl, rfl⟩, ?_, ?_⟩⟩))
  · rintro k x ρ2 hd ⟨s, s7, s8, s9, s10, s11, rfl, hsk⟩
    rw [List.getElem?_map] at hd
    obtain ⟨t, htk, rfl⟩ := Option.map_eq_some_iff.mp hd
    have hk : k < ts.length := (List.getElem?_eq_some_iff.mp htk).1
    have tT := ht t (List.mem_of_getElem? htk)
    have pi := PI.run hs ht k (by omega)
    have Z := pi.sizes hs tT (by omega)
    have e1 := pRw_take (sh := sh) htk
    have e1w := wRw_take (sh := sh) htk
    have e2 := pS_take (sh := sh) htk
    rw [← hsk] at Z e1 e1w e2
    obtain ⟨z1, z2, z3, z4, z5, z6, z7, z8, z9, z10, z11, z12⟩ := Z
    refine ⟨_, _, gd_name, ?_⟩
    show WS K S0 (tSeq _ (tSeq _ (tSeq _ (tSeq _ (tSeq _ (t_paysT K)))))) [.dat (rowD b (ts.map qp)), .dat (qp sh), .dat (.bool w), .own (payD w sh (ts.take k)), .dat (qp s.1), .dat (qp s.2.1), .dat (qp s.2.2), .dat (qp t), s8, s9, s10, s11] _
    have lm : (payD w sh (ts.take k)).length < sizeLine := by rw [payD_len, List.length_take, sizeLine_eq]; omega
    walk_at "dl"
    refine ⟨t - s.1, s.2.2, sh, rfl, by omega, by omega, by omega, by omega, ?_⟩
    walk_at "dl"
    refine ws_par3 ?_
    walk_at "dl"
    refine ⟨_, _, _, rfl, ?_⟩
    refine ws_paysT (s0 := .dat (rowD b (ts.map qp))) (s1 := .dat (qp sh)) (x := prow sh s t) (s := s) (fs := payD w sh (ts.take k)) (by exact z11) z2 lm ?_
    have ep : payD w sh (ts.take (k + 1)) = payD w sh (ts.take k) ++ [if w then w3D (prow sh s t) s.2.1 else p3D (prow sh s t)] := by
      unfold payD
      cases w
      · show (pRw sh _).map p3D = (pRw sh _).map p3D ++ [p3D _]
        rw [e1, List.map_append]; rfl
      · show wRw sh _ = wRw sh _ ++ [w3D _ _]
        rw [e1w]
    exact ⟨pstep sh s t, _, _, _, _, _, by rw [ep]; rfl, e2.symm⟩
  · rintro ρ2 ⟨s, s7, s8, s9, s10, s11, rfl, hsk⟩
    rw [List.length_map, List.take_length]
    refine ws_frz (i := 3) rfl ?_
    walk_at "dl"
    exact hΦ
end
end DL

set_option Elab.async false
set_option linter.all false
set_option maxRecDepth 100000
set_option maxHeartbeats 4000000
/-! DMA: equality of data -/
namespace DL
open PySem PySem.Spec PyProof.Rows L2
structure Sh (n : Nat) (d : PyData) : Prop where
  c : d.canLay0 = true
  d : d.depth ≤ n
theorem canAll_of : ∀ {xs : List PyData}, (∀ x ∈ xs, x.canLay0 = true) → PyData.canLayAll0 xs = true
  | [], _ => rfl
  | x :: xs, h => by
    show (x.canLay0 && PyData.canLayAll0 xs) = true
    rw [h x List.mem_cons_self, canAll_of fun y hy => h y (List.mem_cons_of_mem _ hy)]; rfl
theorem Sh.ok {n : Nat} {d : PyData} (h : Sh n d) (hn : n ≤ 64) : SeqAt.shaped d = true := by
  unfold SeqAt.shaped
  rw [h.c, decide_eq_true (Nat.le_trans h.d hn)]; rfl
theorem Sh.int {i : Int} : Sh 0 (.int i) := ⟨rfl, Nat.le_refl _⟩
theorem Sh.tup {n : Nat} {xs : List PyData} (h : ∀ x ∈ xs, Sh n x) : Sh (n + 1) (.tuple xs) := ⟨canAll_of fun x hx => (h x hx).c, by
  show PyData.depthAll xs + 1 ≤ n + 1
  have := depthAll_of xs fun x hx => (h x hx).d
  omega⟩
mutual
theorem eqv_rfl : ∀ (d : PyData), d.canLay0 = true → PyData.eqv d d = true
  | .none, _ => rfl
  | .bool b, _ => by unfold PyData.eqv; simp
  | .int i, _ => by unfold PyData.eqv; simp
  | .str s, _ => by unfold PyData.eqv; simp
  | .list xs, h => by unfold PyData.eqv; exact eqvAll_rfl xs (by rw [PyData.canLay0] at h; exact h)
  | .tuple xs, h => by unfold PyData.eqv; exact eqvAll_rfl xs (by rw [PyData.canLay0] at h; exact h)
  | .dict _, h => by rw [PyData.canLay0] at h; cases h
theorem eqvAll_rfl : ∀ (ds : List PyData), PyData.canLayAll0 ds = true → PyData.eqvAll ds ds = true
  | [], _ => rfl
  | x :: xs, h => by
    rw [PyData.canLayAll0, Bool.and_eq_true] at h
    unfold PyData.eqvAll
    rw [eqv_rfl x h.1, eqvAll_rfl xs h.2]; rfl
end
mutual
/-- no truth within -/
def noB : PyData → Bool
  | .bool _ => false
  | .list xs => noBAll xs
  | .tuple xs => noBAll xs
  | .dict _ => false
  | _ => true
def noBAll : List PyData → Bool
  | [] => true
  | x :: xs => noB x && noBAll xs
end
mutual
theorem eqv_eq : ∀ (d e : PyData), noB d = true → noB e = true → PyData.eqv d e = true → d = e
  | .none, e, _, _, h => by cases e <;> first | rfl | (unfold PyData.eqv at h; cases h)
  | .bool b, e, h1, _, h => by rw [noB] at h1; cases h1
  | .int i, e, _, h2, h => by
    cases e <;> first | (rw [noB] at h2; cases h2; done) | (unfold PyData.eqv at h; first | cases h; done | (rw [beq_iff_eq] at h; rw [h]))
  | .str s, e, _, h2, h => by
    cases e <;> first | (rw [noB] at h2; cases h2; done) | (unfold PyData.eqv at h; first | cases h; done | (rw [beq_iff_eq] at h; rw [h]))
  | .list xs, e, h1, h2, h => by
    cases e <;> first | (unfold PyData.eqv at h; cases h; done) | skip
    rename_i ys
    unfold PyData.eqv at h
    rw [noB] at h1 h2
    rw [eqvAll_eq xs ys h1 h2 h]
  | .tuple xs, e, h1, h2, h => by
    cases e <;> first | (unfold PyData.eqv at h; cases h; done) | skip
    rename_i ys
    unfold PyData.eqv at h
    rw [noB] at h1 h2
    rw [eqvAll_eq xs ys h1 h2 h]
  | .dict _, e, h1, _, h => by rw [noB] at h1; cases h1
theorem eqvAll_eq : ∀ (ds es : List PyData), noBAll ds = true → noBAll es = true → PyData.eqvAll ds es = true → ds = es
  | [], [], _, _, _ => rfl
  | [], y :: ys, _, _, h => by unfold PyData.eqvAll at h; cases h
  | x :: xs, [], _, _, h => by unfold PyData.eqvAll at h; cases h
  | x :: xs, y :: ys, h1, h2, h => by
    unfold PyData.eqvAll at h
    rw [noBAll, Bool.and_eq_true] at h1 h2
    rw [Bool.and_eq_true] at h
    rw [eqv_eq x y h1.1 h2.1 h.1, eqvAll_eq xs ys h1.2 h2.2 h.2]
end
section
variable {K : PySem.W.Frag} {Ψ : PyData → Prop}
/-- unlike data without truths -/
theorem do_eqU {n m : Nat} {d e : PyData} (h : Sh n d) (g : Sh m e) (hn : n ≤ 64) (hm : m ≤ 64) (h1 : noB d = true) (h2 : noB e = true) (f : ∀ b : Bool, (b = true ↔ d = e) → Ψ (.bool b)) : DO K (rEqD K) d e Ψ :=
  do_eqD (h.ok hn) (g.ok hm) (f _ ⟨eqv_eq d e h1 h2, fun z => by subst z; exact eqv_rfl d h.c⟩)
end
end DL

set_option Elab.async false
set_option linter.all false
set_option maxRecDepth 100000
set_option maxHeartbeats 4000000
/-! PQ3: law k43 -/
namespace DL
open PySem PySem.Spec PyProof.Rows L2
def gVps : List V → List V → List V := fun us ws => us ++ ws ++ [.bl false]
def gVws : List V → List V → List V := fun us ws => us ++ ws.reverse
def gVt (aO : Addr) : List V → List V → List V := fun us ws => ws ++ [.ref aO, .bl false]
def gDps : List PyData → List PyData → List PyData := fun us ws => us ++ ws ++ [.bool false]
def gDws : List PyData → List PyData → List PyData := fun us ws => us ++ ws.reverse
def gDt : List PyData → List PyData → List PyData := fun us ws => ws ++ [qp 1, .bool false]
/-! ### sizes of rows -/
theorem pRwF_get {sh : Rat} : ∀ {ts : List Rat} {s : P3} {k : Nat}, (pRwF sh s ts)[k]? = ts[k]?.map fun t => prow sh ((ts.take k).foldl (pstep sh) s) t
  | [], s, k => rfl
  | u :: r, s, 0 => rfl
  | u :: r, s, k + 1 => by
    show (pRwF sh (pstep sh s u) r)[k]? = r[k]?.map _
    rw [pRwF_get]; rfl
theorem pRw_get {sh : Rat} {ts : List Rat} {k : Nat} : (pRw sh ts)[k]? = ts[k]?.map fun t => prow sh (pS sh (ts.take k)) t := pRwF_get
structure P3S (x : P3) : Prop where
  a : sz x.1 ≤ 1640
  b : sz x.2.1 ≤ 1640
  c : sz x.2.2 ≤ 1640
theorem pRw_sz {R : Nat} {sh : Rat} (g : ShOk R sh) {ts : List Rat} (ht : ∀ t ∈ ts, Tot t) (hl : ts.length ≤ 200) {x : P3} (h : x ∈ pRw sh ts) : P3S x := by
  obtain ⟨k, hk⟩ := List.mem_iff_getElem?.mp h
  rw [pRw_get] at hk
  obtain ⟨t, htk, rfl⟩ := Option.map_eq_some_iff.mp hk
  have hk' : k < ts.length := (List.getElem?_eq_some_iff.mp htk).1
  have Z := (PI.run g ht k (by omega)).sizes g (ht t (List.mem_of_getElem? htk)) (by omega)
  exact ⟨Z.now, Z.all2, Z.debt2⟩
theorem Rs.p3 {x : P3} (h : P3S x) : Rs (5 + 3 * 3293) 2 (p3D x) := by
  refine Rs.tup (xs := [DL.qp x.1, DL.qp x.2.1, DL.qp x.2.2]) (L := 3291) (D := 1) (n := 3) (fun y hy => ?_) (Nat.le_refl 3)
  simp only [List.mem_cons, List.not_mem_nil, or_false] at hy
  rcases hy with rfl | rfl | rfl
  · exact Rs.qp (k := 1640) h.a (by decide)
  · exact Rs.qp (k := 1640) h.b (by decide)
  · exact Rs.qp (k := 1640) h.c (by decide)
def rwD (sh : Rat) (ts : List Rat) : PyData := .tuple ((pRw sh ts).map p3D)
theorem Rs.rw {R : Nat} {sh : Rat} (g : ShOk R sh) {ts : List Rat} (ht : ∀ t ∈ ts, Tot t) (hl : ts.length ≤ 130) : Rs 1300000 3 (rwD sh ts) := by
  refine (Rs.tup (L := 5 + 3 * 3293) (D := 2) (n := 130) (fun y hy => ?_) (by rw [List.length_map, pRw_len]; exact hl)).mono (by decide) (Nat.le_refl _)
  obtain ⟨x, hx, rfl⟩ := List.mem_map.mp hy
  exact Rs.p3 (pRw_sz g ht (by omega) hx)
theorem Sh.qp {q : Rat} : Sh 1 (qp q) := Sh.tup fun x hx => by
  simp only [List.mem_cons, List.not_mem_nil, or_false] at hx
  rcases hx with rfl | rfl <;> exact Sh.int
theorem Sh.p3 {x : P3} : Sh 2 (p3D x) := Sh.tup fun y hy => by
  simp only [List.mem_cons, List.not_mem_nil, or_false] at hy
  rcases hy with rfl | rfl | rfl <;> exact Sh.qp
theorem Sh.rw {sh : Rat} {ts : List Rat} : Sh 3 (rwD sh ts) := Sh.tup fun x hx => by
  obtain ⟨q, _, rfl⟩ := List.mem_map.mp hx
  exact Sh.p3
def EldOk (e : PyData) : Prop := e = .list [] ∨ ∃ (ts : List Rat) (sh : Rat) (R : Nat), e = .list [.list (ts.map qp), qp sh, rwD sh ts] ∧ ShOk R sh ∧ ts.length ≤ 130 ∧ ∀ t ∈ ts, Tot t
local macro_rules | `(tactic| walk_at "dl") => `(tactic| repeat' (first
  | with_reducible refine wd_isTy ?_ | with_reducible refine wd_isi ?_ | ((with_reducible show WD _ _ (tOp (rIxL _) (tVar _) _) _ _); refine wd_ix_own rfl ?_) | with_reducible refine wd_op ?_ | ((with_reducible show WD _ _ (tCB (rLenX _) (tCons (tVar _) tNil)) _ _); refine wd_len_scr rfl ?_) | ((with_reducible show WD _ _ (tCB (rLenX _) (tCons (tVar _) tNil)) _ _); refine wd_len_own rfl ?_) | with_reducible refine wd_cb ?_ | with_reducible refine wd_un ?_ | with_reducible refine wa_cons ?_ | with_reducible refine wa_nil ?_ | ((with_reducible show WD _ _ (tVar _) _ _); refine wd_var rfl ?_) | with_reducible refine wd_int ?_ | with_reducible refine wd_bl ?_ | with_reducible refine wd_str ?_ | with_reducible refine wd_non ?_
  | with_reducible refine do_nesS ?_ | with_reducible refine dc_intB ?_ | with_reducible refine do_add ?_ | with_reducible refine do_sub ?_ | ((with_reducible refine do_mod ?_ ?_); decide) | with_reducible refine do_mod ?_ ?_ | with_reducible refine do_mul ?_ ?_ | ((with_reducible refine do_div ?_ ?_); exact ⟨by decide, by decide⟩) | with_reducible refine do_div ?_ ?_ | ((with_reducible refine do_pow ?_ ?_); exact ⟨by decide, by decide, by decide⟩) | with_reducible refine do_pow ?_ ?_
  | with_reducible refine do_lt ?_ | with_reducible refine do_le ?_ | with_reducible refine do_gt ?_ | with_reducible refine do_ge ?_ | with_reducible refine du_neg ?_
  | with_reducible refine do_eqi ?_ | with_reducible refine do_nei ?_ | with_reducible refine do_eqs ?_ | with_reducible refine do_nes ?_ | with_reducible refine dc_abs ?_ | with_reducible refine dc_min ?_ | with_reducible refine dc_max ?_ | with_reducible refine dc_lenL ?_ | with_reducible refine dc_lenT ?_ | with_reducible refine dc_lenR ?_ | with_reducible refine dc_listT ?_ | with_reducible refine dc_listL ?_ | with_reducible refine dc_tupL ?_ | with_reducible refine dc_gcd ?_
  | ((with_reducible show DO _ (rIxT _) _ _ _); refine do_ixT rfl ?_) | ((with_reducible show DO _ (rIxL _) _ _ _); refine do_ixL rfl ?_) | ((with_reducible refine do_catL ?_ ?_); exact Nat.le_of_ble_eq_true rfl) | with_reducible refine do_catL ?_ ?_ | ((with_reducible show And (List.length _ ≤ sizeLine) _); refine ⟨Nat.le_of_ble_eq_true rfl, ?_⟩)
  | with_reducible refine wd_dnew ?_ | with_reducible refine wd_call0 ?_ | with_reducible refine wd_slA ?_ | with_reducible refine wd_slL ?_ | with_reducible refine wd_revT ?_ | with_reducible refine do_catA ?_ ?_ | with_reducible refine wo_part ?_ | with_reducible refine wo_none ?_ | with_reducible refine do_eqQ ?_ | with_reducible refine do_neQ ?_ | with_reducible refine wi_enumT ?_ | with_reducible refine wi_enumD ?_ | with_reducible refine tAdQ (by omega) (by omega) ?_ | with_reducible refine tSbQ (by omega) (by omega) ?_ | with_reducible refine tMlQ (by omega) (by omega) ?_ | with_reducible refine tDvQ (by assumption) (by omega) (by omega) ?_ | with_reducible refine tLtQ (by omega) (by omega) ?_ | with_reducible refine dc_str ?_ ?_ | with_reducible refine wd_tup ?_ | with_reducible refine wd_lst ?_ | with_reducible refine wt_test ?_ | with_reducible refine wt_B ?_ | with_reducible refine wt_not ?_ | with_reducible refine wt_and ?_ | with_reducible refine wt_or ?_ | with_reducible refine wd_ifE ?_ | with_reducible refine wd_andV ?_ | with_reducible refine wd_orV ?_ | with_reducible refine wd_notV ?_
  | with_reducible refine ws_seq ?_ | with_reducible refine ws_next ?_ | with_reducible refine ws_asg ?_ | with_reducible refine ws_ret ?_ | with_reducible refine ws_retN ?_ | with_reducible refine ws_if ?_ | with_reducible refine ws_par ?_ | with_reducible refine ws_unp2 ?_
  | with_reducible refine if_t ?_ | with_reducible refine if_f ?_ | with_reducible refine if_nf ?_ | with_reducible refine if_nt ?_
  | ((with_reducible show Exists _); first | refine ⟨_, kitInt _, ?_⟩ | refine ⟨_, kitBool _, ?_⟩ | refine ⟨_, kitTup _, ?_⟩ | refine ⟨_, kitList _, ?_⟩ | refine ⟨_, rfl, ?_⟩ | refine ⟨_, _, rfl, ?_⟩ | fail) | fail))
def t_b43 (K : PySem.W.Frag) (aO : Addr) : TS :=
  (tSeq (tAsg (tCall (spS K FSto TShareQ) [] E0 (tCons (tVar 1) tNil)) (gName 5))
    (tSeq (tAsg (tOp (rIxL K) (tLst (tCons (tVar 4) (tCons (tCB (rTupOf K) (tCons (tVar 4) tNil)) tNil))) (tCall (spS K FSto TDr) [] E0 (tCons (tVar 1) (tCons (tC (.int 2)) tNil)))) (gName 6))
    (tSeq (tAsg (tCall (spP K TRows) [] E0 (tCons (tVar 4) (tCons (tVar 5) tNil))) (gName 7))
    (tSeq (tAsg (tCall (spP K TRows) [] E0 (tCons (tVar 4) (tCons (tTup (tCons (tC (.int 1)) (tCons (tC (.int 1)) tNil))) tNil))) (gName 8))
    (tSeq (tAsg (tLst (tCons (tCallN 1 1 (spP K TPays) gVps E0 (tCons (tVar 6) tNil) (tCons (tVar 5) tNil)) (tCons (tCallN 1 2 (spP K TPays) gVws E0 (tCons (tVar 6) tNil) (tCons (tC (.bl false)) (tCons (tVar 5) tNil))) (tCons (tCall (spP K TPays) [.ref aO, .bl false] E0 (tCons (tVar 6) tNil)) tNil)))) (gName 9))
    (tSeq (tIfS (tOr (tTest (tOp rNe (tCB (rReprZ K) (tCons (tVar 9) tNil)) (tCB (rReprZ K) (tCons (tLst (tCons (tVar 7) (tCons (tVar 7) (tCons (tVar 8) tNil)))) tNil)))) (tTest (tOp (rNeD K) (tCB (rListOf K) (tCons (tVar 6) tNil)) (tVar 4)))) (tRet (tC (.bl false))) tNext)
    (tSeq (tIfS (tTest (tOp rNe (tCB (rReprZ K) (tCons (tLst (tCons (tCallN 1 1 (spP K TPays) gVps E0 (tCons (tVar 4) tNil) (tCons (tTup (tCons (tC (.int 1)) (tCons (tC (.int 1)) tNil))) tNil)) (tCons (tCallN 0 1 (spP K TPays) (gVt aO) E0 tNil (tCons (tVar 6) tNil)) tNil))) tNil)) (tCB (rReprZ K) (tCons (tLst (tCons (tVar 8) (tCons (tVar 8) tNil))) tNil)))) (tRet (tC (.bl false))) tNext)
    (tSeq (tIfS (tAnd (tTest (tOp (rNeD K) (tVar 2) (tLst tNil))) (tTest (tOp (rNeD K) (tCallN 1 1 (spP K TPays) gVps E0 (tCons (tOp (rIxL K) (tVar 2) (tC (.int 0))) tNil) (tCons (tOp (rIxL K) (tVar 2) (tC (.int 1))) tNil)) (tOp (rIxL K) (tVar 2) (tC (.int 2)))))) (tRet (tC (.bl false))) tNext)
    (tAsg (tLst (tCons (tVar 4) (tCons (tVar 5) (tCons (tVar 7) tNil)))) (gName 2))))))))))
def t_law43 (K : PySem.W.Frag) (aO : Addr) : TS :=
  (tSeq (tAsg (tLst tNil) (gName 2))
    (tSeq (tFor (iRng1 (tCons (tOp rAddI (tC (.int 6)) (tCB rMinX (tCons (tC (.int 14)) (tCons (tCB (rLenX K) (tCons (tVar 0) tNil)) tNil)))) tNil)) (gName 3) (tSeq (tAsg (tCall (spS K FSto TTotals) [] E0 (tCons (tVar 1) (tCons (tIf (tTest (tOp rEq (tVar 3) (tC (.int 0)))) (tC (.int 120)) (tC (.int 40))) tNil))) (gName 4))
    (tSeq (tAsg (tCall (spS K FSto TShareQ) [] E0 (tCons (tVar 1) tNil)) (gName 5))
    (tSeq (tAsg (tOp (rIxL K) (tLst (tCons (tVar 4) (tCons (tCB (rTupOf K) (tCons (tVar 4) tNil)) tNil))) (tCall (spS K FSto TDr) [] E0 (tCons (tVar 1) (tCons (tC (.int 2)) tNil)))) (gName 6))
    (tSeq (tAsg (tCall (spP K TRows) [] E0 (tCons (tVar 4) (tCons (tVar 5) tNil))) (gName 7))
    (tSeq (tAsg (tCall (spP K TRows) [] E0 (tCons (tVar 4) (tCons (tTup (tCons (tC (.int 1)) (tCons (tC (.int 1)) tNil))) tNil))) (gName 8))
    (tSeq (tAsg (tLst (tCons (tCallN 1 1 (spP K TPays) gVps E0 (tCons (tVar 6) tNil) (tCons (tVar 5) tNil)) (tCons (tCallN 1 2 (spP K TPays) gVws E0 (tCons (tVar 6) tNil) (tCons (tC (.bl false)) (tCons (tVar 5) tNil))) (tCons (tCall (spP K TPays) [.ref aO, .bl false] E0 (tCons (tVar 6) tNil)) tNil)))) (gName 9))
    (tSeq (tIfS (tOr (tTest (tOp rNe (tCB (rReprZ K) (tCons (tVar 9) tNil)) (tCB (rReprZ K) (tCons (tLst (tCons (tVar 7) (tCons (tVar 7) (tCons (tVar 8) tNil)))) tNil)))) (tTest (tOp (rNeD K) (tCB (rListOf K) (tCons (tVar 6) tNil)) (tVar 4)))) (tRet (tC (.bl false))) tNext)
    (tSeq (tIfS (tTest (tOp rNe (tCB (rReprZ K) (tCons (tLst (tCons (tCallN 1 1 (spP K TPays) gVps E0 (tCons (tVar 4) tNil) (tCons (tTup (tCons (tC (.int 1)) (tCons (tC (.int 1)) tNil))) tNil)) (tCons (tCallN 0 1 (spP K TPays) (gVt aO) E0 tNil (tCons (tVar 6) tNil)) tNil))) tNil)) (tCB (rReprZ K) (tCons (tLst (tCons (tVar 8) (tCons (tVar 8) tNil))) tNil)))) (tRet (tC (.bl false))) tNext)
    (tSeq (tIfS (tAnd (tTest (tOp (rNeD K) (tVar 2) (tLst tNil))) (tTest (tOp (rNeD K) (tCallN 1 1 (spP K TPays) gVps E0 (tCons (tOp (rIxL K) (tVar 2) (tC (.int 0))) tNil) (tCons (tOp (rIxL K) (tVar 2) (tC (.int 1))) tNil)) (tOp (rIxL K) (tVar 2) (tC (.int 2)))))) (tRet (tC (.bl false))) tNext)
    (tAsg (tLst (tCons (tVar 4) (tCons (tVar 5) (tCons (tVar 7) tNil)))) (gName 2))))))))))))
    (tRet (tOp (rEqD K) (tCall (spP K TPays) [.ref aO, .bl false] E0 (tCons (tLst tNil) tNil)) (tTup tNil)))))
section
variable {K : PySem.W.Frag} {S : Stt} {ρ : Rho} {Φ : PyData → Rho → Prop}
theorem dt1 {aO : Addr} (hO : ∀ H : Hp, SqT K H aO [.int 1, .int 1]) (H : Hp) : DtAll K H [V.ref aO, V.bl false] [qp 1, .bool false] := .cons (Dt.part2 (hO H)) (.cons (.bl false) .nil)
theorem wd_payS {te tk : TE} (h : WD K S te ρ fun r ρ1 => WD K S tk ρ1 fun s ρ2 => ∃ (b : Bool) (ts : List Rat) (sh : Rat) (R : Nat), r = rowD b (ts.map qp) ∧ s = qp sh ∧ ShOk R sh ∧ ts.length ≤ 130 ∧ (∀ t ∈ ts, Tot t) ∧ Φ (rwD sh ts) ρ2) : WD K S (tCallN 1 1 (spP K TPays) gVps E0 (tCons te tNil) (tCons tk tNil)) ρ Φ :=
  wd_callN (gD := gDps) (fun _ _ _ _ _ _ h1 h2 => (h1.append h2).append (.cons (.bl false) .nil)) (wa_cons (h.imp fun r ρ1 h => wa_nil (wa_cons (h.imp fun s ρ2 ⟨b, ts, sh, R, e1, e2, g, hl, ht, f⟩ => wa_nil ⟨rfl, rfl, b, false, ts, sh, R, by rw [e1, e2]; rfl, g, hl, ht, f⟩))))
theorem wd_pay0 {aO : Addr} (hO : ∀ H : Hp, SqT K H aO [.int 1, .int 1]) {te : TE} (h : WD K S te ρ fun r ρ1 => ∃ (b : Bool) (ts : List Rat), r = rowD b (ts.map qp) ∧ ts.length ≤ 130 ∧ (∀ t ∈ ts, Tot t) ∧ Φ (rwD 1 ts) ρ1) : WD K S (tCall (spP K TPays) [.ref aO, .bl false] E0 (tCons te tNil)) ρ Φ :=
  wd_call (dds := [qp 1, .bool false]) (dt1 hO) (wa_cons (h.imp fun r ρ1 ⟨b, ts, e1, hl, ht, f⟩ => wa_nil ⟨b, false, ts, 1, 1, by rw [e1]; rfl, ShOk.one, hl, ht, f⟩))
theorem wd_rows {te tk : TE} (h : WD K S te ρ fun r ρ1 => WD K S tk ρ1 fun s ρ2 => ∃ (ts : List Rat) (sh : Rat) (R : Nat), r = .list (ts.map qp) ∧ s = qp sh ∧ ShOk R sh ∧ ts.length ≤ 130 ∧ (∀ t ∈ ts, Tot t) ∧ Φ (rwD sh ts) ρ2) : WD K S (tCall (spP K TRows) [] E0 (tCons te (tCons tk tNil))) ρ Φ :=
  wd_call0 (wa_cons (h.imp fun r ρ1 h => wa_cons (h.imp fun s ρ2 ⟨ts, sh, R, e1, e2, g, hl, ht, f⟩ => wa_nil ⟨ts, sh, R, by rw [e1, e2], g, hl, ht, f⟩)))
end
end DL

set_option Elab.async false
set_option linter.all false
set_option maxRecDepth 100000
set_option maxHeartbeats 4000000
/-! PQ4: law k45 -/
namespace DL
open PySem PySem.Spec PyProof.Rows L2
def gVsw (aO : Addr) : List V → List V → List V := fun us ws => us ++ [.ref aO] ++ ws
def gDsw : List PyData → List PyData → List PyData := fun us ws => us ++ [qp 1] ++ ws
theorem wRwF_get {sh : Rat} : ∀ {ts : List Rat} {s : P3} {k : Nat}, (wRwF sh s ts)[k]? = ts[k]?.map fun t => w3D (prow sh ((ts.take k).foldl (pstep sh) s) t) ((ts.take k).foldl (pstep sh) s).2.1
  | [], s, k => rfl
  | u :: r, s, 0 => rfl
  | u :: r, s, k + 1 => by
    show (wRwF sh (pstep sh s u) r)[k]? = r[k]?.map _
    rw [wRwF_get]; rfl
theorem wRw_get {sh : Rat} {ts : List Rat} {k : Nat} : (wRw sh ts)[k]? = ts[k]?.map fun t => w3D (prow sh (pS sh (ts.take k)) t) (pS sh (ts.take k)).2.1 := wRwF_get
/-- so many pence paid in all behind k totals -/
def pF (sh : Rat) (ts : List Rat) (k : Nat) : Int := (pS sh (ts.take k)).2.1.floor
def wwD (sh : Rat) (ts : List Rat) : PyData := .tuple (wRw sh ts)
def TDue : List PyData → (PyData → Prop) → Prop := fun ds Φ => ∃ (ts : List Rat) (sh : Rat) (R : Nat), ds = [rwD sh ts] ∧ ShOk R sh ∧ ts.length ≤ 130 ∧ (∀ t ∈ ts, Tot t) ∧ Φ (wwD sh ts)
local macro_rules | `(tactic| walk_at "dl") => `(tactic| repeat' (first
  | with_reducible refine wd_isTy ?_ | with_reducible refine wd_isi ?_ | ((with_reducible show WD _ _ (tOp (rIxL _) (tVar _) _) _ _); refine wd_ix_own rfl ?_) | with_reducible refine wd_op ?_ | ((with_reducible show WD _ _ (tCB (rLenX _) (tCons (tVar _) tNil)) _ _); refine wd_len_scr rfl ?_) | ((with_reducible show WD _ _ (tCB (rLenX _) (tCons (tVar _) tNil)) _ _); refine wd_len_own rfl ?_) | with_reducible refine wd_cb ?_ | with_reducible refine wd_un ?_ | with_reducible refine wa_cons ?_ | with_reducible refine wa_nil ?_ | ((with_reducible show WD _ _ (tVar _) _ _); refine wd_var rfl ?_) | with_reducible refine wd_int ?_ | with_reducible refine wd_bl ?_ | with_reducible refine wd_str ?_ | with_reducible refine wd_non ?_
  | with_reducible refine do_nesS ?_ | with_reducible refine dc_intB ?_ | with_reducible refine do_add ?_ | with_reducible refine do_sub ?_ | ((with_reducible refine do_mod ?_ ?_); decide) | with_reducible refine do_mod ?_ ?_ | with_reducible refine do_mul ?_ ?_ | ((with_reducible refine do_div ?_ ?_); exact ⟨by decide, by decide⟩) | with_reducible refine do_div ?_ ?_ | ((with_reducible refine do_pow ?_ ?_); exact ⟨by decide, by decide, by decide⟩) | with_reducible refine do_pow ?_ ?_
  | with_reducible refine do_lt ?_ | with_reducible refine do_le ?_ | with_reducible refine do_gt ?_ | with_reducible refine do_ge ?_ | with_reducible refine du_neg ?_
  | with_reducible refine do_eqi ?_ | with_reducible refine do_nei ?_ | with_reducible refine do_eqs ?_ | with_reducible refine do_nes ?_ | with_reducible refine dc_abs ?_ | with_reducible refine dc_min ?_ | with_reducible refine dc_max ?_ | with_reducible refine dc_lenL ?_ | with_reducible refine dc_lenT ?_ | with_reducible refine dc_lenR ?_ | with_reducible refine dc_listT ?_ | with_reducible refine dc_listL ?_ | with_reducible refine dc_tupL ?_ | with_reducible refine dc_gcd ?_
  | ((with_reducible show DO _ (rIxT _) _ _ _); refine do_ixT rfl ?_) | ((with_reducible show DO _ (rIxL _) _ _ _); refine do_ixL rfl ?_) | ((with_reducible refine do_catL ?_ ?_); exact Nat.le_of_ble_eq_true rfl) | with_reducible refine do_catL ?_ ?_ | ((with_reducible show And (List.length _ ≤ sizeLine) _); refine ⟨Nat.le_of_ble_eq_true rfl, ?_⟩)
  | with_reducible refine wd_dnew ?_ | with_reducible refine wd_call0 ?_ | with_reducible refine wd_slA ?_ | with_reducible refine wd_slL ?_ | with_reducible refine wd_revT ?_ | with_reducible refine do_catA ?_ ?_ | with_reducible refine wo_part ?_ | with_reducible refine wo_none ?_ | with_reducible refine do_eqQ ?_ | with_reducible refine do_neQ ?_ | with_reducible refine wi_enumT ?_ | with_reducible refine wi_enumD ?_ | with_reducible refine tAdQ (by omega) (by omega) ?_ | with_reducible refine tSbQ (by omega) (by omega) ?_ | with_reducible refine tMlQ (by omega) (by omega) ?_ | with_reducible refine tDvQ (by assumption) (by omega) (by omega) ?_ | with_reducible refine tLtQ (by omega) (by omega) ?_ | with_reducible refine dc_str ?_ ?_ | with_reducible refine wd_tup ?_ | with_reducible refine wd_lst ?_ | with_reducible refine wt_test ?_ | with_reducible refine wt_B ?_ | with_reducible refine wt_not ?_ | with_reducible refine wt_and ?_ | with_reducible refine wt_or ?_ | with_reducible refine wd_ifE ?_ | with_reducible refine wd_andV ?_ | with_reducible refine wd_orV ?_ | with_reducible refine wd_notV ?_
  | with_reducible refine ws_seq ?_ | with_reducible refine ws_next ?_ | with_reducible refine ws_asg ?_ | with_reducible refine ws_ret ?_ | with_reducible refine ws_retN ?_ | with_reducible refine ws_if ?_ | with_reducible refine ws_par ?_ | with_reducible refine ws_unp2 ?_
  | with_reducible refine if_t ?_ | with_reducible refine if_f ?_ | with_reducible refine if_nf ?_ | with_reducible refine if_nt ?_
  | ((with_reducible show Exists _); first | refine ⟨_, kitInt _, ?_⟩ | refine ⟨_, kitBool _, ?_⟩ | refine ⟨_, kitTup _, ?_⟩ | refine ⟨_, kitList _, ?_⟩ | refine ⟨_, rfl, ?_⟩ | refine ⟨_, _, rfl, ?_⟩ | fail) | fail))
def t_due (K : PySem.W.Frag) : TS :=
  (tSeq (tAsg (tLst tNil) (gName 1))
    (tSeq (tAsg (tC (.int 0)) (gName 2))
    (tSeq (tFor (iTup K (tVar 0)) (gTup K 3 (gCons (gName 3) (gCons (gName 4) (gCons (gName 5) gNil)))) (tSeq (tAsg (tOp rDivI (tOp (rIxT K) (tVar 4) (tC (.int 0))) (tOp (rIxT K) (tVar 4) (tC (.int 1)))) (gName 6))
    (tSeq (tDrop (tBM K "list" rAppend (tVar 1) (tCons (tTup (tCons (tOp rSubI (tVar 6) (tVar 2)) (tCons (tVar 6) (tCons (tVar 5) tNil)))) tNil)))
    (tAsg (tVar 6) (gName 2)))))
    (tRet (tCB (rTupOf K) (tCons (tVar 1) tNil))))))
def t_b45 (K : PySem.W.Frag) (aO : Addr) : TS :=
  (tSeq (tAsg (tLst (tCons (tCallN 1 2 (spP K TPays) gVapp E0 (tCons (tVar 3) tNil) (tCons (tVar 4) (tCons (tC (.bl true)) tNil))) (tCons (tCallN 1 2 (spP K TPays) gVws E0 (tCons (tVar 3) tNil) (tCons (tC (.bl true)) (tCons (tVar 4) tNil))) tNil))) (gName 7))
    (tSeq (tDrop (tBM K "list" rAppend (tVar 7) (tCons (tCallN 1 1 (spP K TPays) (gVsw aO) E0 (tCons (tVar 3) tNil) (tCons (tC (.bl true)) tNil)) tNil)))
    (tSeq (tIfS (tTest (tOp rNe (tCB (rReprZ K) (tCons (tVar 7) tNil)) (tCB (rReprZ K) (tCons (tLst (tCons (tVar 5) (tCons (tVar 5) (tCons (tVar 6) tNil)))) tNil)))) (tRet (tC (.bl false))) tNext)
    (tSeq (tIfS (tTest (tOp (rNeD K) (tLc (iTup K (tOp (rIxL K) (tVar 7) (tC (.int 0)))) (gName 8) (tTest (tOp rLt (tOp (rIxT K) (tVar 8) (tC (.int 0))) (tC (.int 0)))) (tVar 8) [8]) (tLst tNil))) (tRet (tC (.bl false))) tNext)
    (tIfS (tTest (tOp rNe (tCB (rSum K) (tCons (tLc (iTup K (tOp (rIxL K) (tVar 7) (tC (.int 0)))) (gName 8) tYes (tOp (rIxT K) (tVar 8) (tC (.int 0))) [8]) tNil)) (tOp (rIxL K) (tOp rCatL (tLst (tCons (tC (.int 0)) tNil)) (tLc (iTup K (tOp (rIxL K) (tVar 7) (tC (.int 0)))) (gName 8) tYes (tOp (rIxT K) (tVar 8) (tC (.int 1))) [8])) (tUn rNegI (tC (.int 1)))))) (tRet (tC (.bl false))) tNext)))))
def t_law45 (K : PySem.W.Frag) (aO : Addr) : TS :=
  (tSeq (tFor (iRng1 (tCons (tOp rAddI (tC (.int 6)) (tCB rMinX (tCons (tC (.int 14)) (tCons (tCB (rLenX K) (tCons (tVar 0) tNil)) tNil)))) tNil)) (gName 2) (tSeq (tAsg (tCall (spS K FSto TTotals) [] E0 (tCons (tVar 1) (tCons (tC (.int 40)) tNil))) (gName 3))
    (tSeq (tAsg (tCall (spS K FSto TShareQ) [] E0 (tCons (tVar 1) tNil)) (gName 4))
    (tSeq (tAsg (tCall (spP K TDue) [] E0 (tCons (tCall (spP K TRows) [] E0 (tCons (tVar 3) (tCons (tVar 4) tNil))) tNil)) (gName 5))
    (tSeq (tAsg (tCall (spP K TDue) [] E0 (tCons (tCall (spP K TRows) [] E0 (tCons (tVar 3) (tCons (tTup (tCons (tC (.int 1)) (tCons (tC (.int 1)) tNil))) tNil))) tNil)) (gName 6))
    (tSeq (tAsg (tLst (tCons (tCallN 1 2 (spP K TPays) gVapp E0 (tCons (tVar 3) tNil) (tCons (tVar 4) (tCons (tC (.bl true)) tNil))) (tCons (tCallN 1 2 (spP K TPays) gVws E0 (tCons (tVar 3) tNil) (tCons (tC (.bl true)) (tCons (tVar 4) tNil))) tNil))) (gName 7))
    (tSeq (tDrop (tBM K "list" rAppend (tVar 7) (tCons (tCallN 1 1 (spP K TPays) (gVsw aO) E0 (tCons (tVar 3) tNil) (tCons (tC (.bl true)) tNil)) tNil)))
    (tSeq (tIfS (tTest (tOp rNe (tCB (rReprZ K) (tCons (tVar 7) tNil)) (tCB (rReprZ K) (tCons (tLst (tCons (tVar 5) (tCons (tVar 5) (tCons (tVar 6) tNil)))) tNil)))) (tRet (tC (.bl false))) tNext)
    (tSeq (tIfS (tTest (tOp (rNeD K) (tLc (iTup K (tOp (rIxL K) (tVar 7) (tC (.int 0)))) (gName 8) (tTest (tOp rLt (tOp (rIxT K) (tVar 8) (tC (.int 0))) (tC (.int 0)))) (tVar 8) [8]) (tLst tNil))) (tRet (tC (.bl false))) tNext)
    (tIfS (tTest (tOp rNe (tCB (rSum K) (tCons (tLc (iTup K (tOp (rIxL K) (tVar 7) (tC (.int 0)))) (gName 8) tYes (tOp (rIxT K) (tVar 8) (tC (.int 0))) [8]) tNil)) (tOp (rIxL K) (tOp rCatL (tLst (tCons (tC (.int 0)) tNil)) (tLc (iTup K (tOp (rIxL K) (tVar 7) (tC (.int 0)))) (gName 8) tYes (tOp (rIxT K) (tVar 8) (tC (.int 1))) [8])) (tUn rNegI (tC (.int 1)))))) (tRet (tC (.bl false))) tNext))))))))))
    (tRet (tOp (rEqD K) (tCallN 1 1 (spP K TPays) (gVsw aO) E0 (tCons (tTup tNil) tNil) (tCons (tC (.bl true)) tNil)) (tTup tNil))))
section
variable {K : PySem.W.Frag} {S : Stt} {ρ : Rho}
theorem wd_paySW {te tk : TE} {Φ : PyData → Rho → Prop} (h : WD K S te ρ fun r ρ1 => WD K S tk ρ1 fun s ρ2 => ∃ (b : Bool) (ts : List Rat) (sh : Rat) (R : Nat), r = rowD b (ts.map qp) ∧ s = qp sh ∧ ShOk R sh ∧ ts.length ≤ 130 ∧ (∀ t ∈ ts, Tot t) ∧ Φ (wwD sh ts) ρ2) : WD K S (tCallN 1 2 (spP K TPays) gVapp E0 (tCons te tNil) (tCons tk (tCons (tC (.bl true)) tNil))) ρ Φ :=
  wd_callN (gD := gDapp) (fun _ _ _ _ _ _ h1 h2 => h1.append h2) (wa_cons (h.imp fun r ρ1 h => wa_nil (wa_cons (h.imp fun s ρ2 ⟨b, ts, sh, R, e1, e2, g, hl, ht, f⟩ => wa_cons (wd_bl (wa_nil ⟨rfl, rfl, b, true, ts, sh, R, by rw [e1, e2]; rfl, g, hl, ht, f⟩))))))
end
end DL

set_option Elab.async false
set_option linter.all false
set_option maxRecDepth 100000
set_option maxHeartbeats 4000000
/-! PQ8: alike texts are of alike things -/
namespace DL
open PySem
/-- the codes of a text -/
def cl (s : Str) : List Nat := s.cps.toList
theorem cl_app (a b : Str) : cl (a ++ b) = cl a ++ cl b := by
  show (a.cps ++ b.cps).toList = _
  rw [Array.toList_append]; rfl
theorem cl_of (s : String) : cl (Str.ofString s) = s.toList.map Char.toNat := by rw [Str.ofString_eq_toList]; rfl
/-- what ends a thing's text within a row's -/
def Stop (r : List Nat) : Prop := ∀ c, r.head? = some c → c = 44 ∨ c = 41
theorem Stop.nil : Stop [] := fun c h => by cases h
theorem Stop.com {r : List Nat} : Stop (44 :: r) := fun c h => by cases h; exact .inl rfl
theorem Stop.cls {r : List Nat} : Stop (41 :: r) := fun c h => by cases h; exact .inr rfl
/-- a figure or the sign -/
def Fig (c : Nat) : Prop := c = 45 ∨ (48 ≤ c ∧ c ≤ 57)
theorem dig_fig {c : Char} (h : c.isDigit = true) : Fig c.toNat := by
  unfold Char.isDigit at h
  rw [Bool.and_eq_true, decide_eq_true_eq, decide_eq_true_eq] at h
  refine .inr ⟨?_, ?_⟩
  · exact h.1
  · exact h.2
theorem int_text (i : Int) : cl (PyData.int i).shown = (Int.repr i).toList.map Char.toNat := cl_of _
theorem int_fig (i : Int) : ∀ c ∈ cl (PyData.int i).shown, Fig c := by
  intro c hc
  rw [int_text] at hc
  obtain ⟨x, hx, rfl⟩ := List.mem_map.mp hc
  rw [Int.repr_eq_if] at hx
  split at hx
  · rw [Nat.toList_repr] at hx
    exact dig_fig (Nat.isDigit_of_mem_toDigits (by decide) (by decide) hx)
  · rw [String.toList_append, Nat.toList_repr] at hx
    rcases List.mem_append.mp hx with h | h
    · have : x = '-' := by simpa using h
      subst this; exact .inl rfl
    · exact dig_fig (Nat.isDigit_of_mem_toDigits (by decide) (by decide) h)
theorem int_ne (i : Int) : cl (PyData.int i).shown ≠ [] := by
  rw [int_text]
  intro h
  have h := List.map_eq_nil_iff.mp h
  rw [Int.repr_eq_if] at h
  split at h
  · rw [Nat.toList_repr] at h
    exact Nat.toDigits_ne_nil h
  · rw [String.toList_append] at h
    exact absurd (List.append_eq_nil_iff.mp h).1 (by decide)
theorem char_inj {a b : List Char} (h : a.map Char.toNat = b.map Char.toNat) : a = b := by
  induction a generalizing b with
  | nil => cases b with | nil => rfl | cons _ _ => cases h
  | cons x r ih =>
    cases b with
    | nil => cases h
    | cons y s =>
      injection h with h1 h2
      rw [ih h2, Char.toNat_inj.mp h1]
theorem int_inj {i j : Int} (h : cl (PyData.int i).shown = cl (PyData.int j).shown) : i = j := by
  rw [int_text, int_text] at h
  exact Int.repr_inj.mp (String.toList_inj.mp (char_inj h))
theorem stop_fig {r : List Nat} (h : Stop r) {c : Nat} (hc : r.head? = some c) : ¬ Fig c := by
  rcases h c hc with rfl | rfl <;> unfold Fig <;> omega
theorem figs_inj : ∀ {a b r s : List Nat}, (∀ c ∈ a, Fig c) → (∀ c ∈ b, Fig c) → Stop r → Stop s → a ++ r = b ++ s → a = b ∧ r = s
  | [], [], r, s, _, _, _, _, h => ⟨rfl, h⟩
  | [], y :: b, r, s, _, hb, hr, _, h => by
    rw [List.nil_append] at h
    exact absurd (hb y List.mem_cons_self) (stop_fig hr (by rw [h]; rfl))
  | x :: a, [], r, s, ha, _, _, hs, h => by
    rw [List.nil_append] at h
    exact absurd (ha x List.mem_cons_self) (stop_fig hs (by rw [← h]; rfl))
  | x :: a, y :: b, r, s, ha, hb, hr, hs, h => by
    injection h with h1 h2
    obtain ⟨g1, g2⟩ := figs_inj (fun c hc => ha c (List.mem_cons_of_mem _ hc)) (fun c hc => hb c (List.mem_cons_of_mem _ hc)) hr hs h2
    exact ⟨by rw [h1, g1], g2⟩
/-- the text of a tuple's items, from the second on -/
def jT : List (List Nat) → List Nat
  | [] => [41]
  | a :: r => 44 :: 32 :: (a ++ jT r)
def tT : List (List Nat) → List Nat
  | [] => [41]
  | [a] => a ++ [44, 41]
  | a :: b :: r => a ++ jT (b :: r)
theorem jT_join : ∀ (ts : List Str) (a : Str), cl (Str.join ", " (a :: ts)) ++ [41] = cl a ++ jT (ts.map cl)
  | [], a => rfl
  | b :: r, a => by
    show cl (a ++ ", " ++ Str.join ", " (b :: r)) ++ [41] = _
    rw [cl_app, cl_app, List.append_assoc, List.append_assoc, jT_join r b]
    rfl
theorem tup_text (xs : List PyData) : cl (PyData.tuple xs).shown = 40 :: tT ((PyData.shownAll xs).map cl) := by
  show cl (tupleText (PyData.shownAll xs)) = _
  generalize PyData.shownAll xs = ts
  unfold tupleText
  rw [cl_app, cl_app]
  match ts with
  | [] => rfl
  | [a] => rfl
  | a :: b :: r =>
    have := jT_join (b :: r) a
    show cl (Str.ofString "(") ++ cl (Str.join ", " (a :: b :: r)) ++ [41] = _
    rw [List.append_assoc, this]; rfl
theorem all_map : ∀ (xs : List PyData), (PyData.shownAll xs).map cl = xs.map fun x => cl x.shown
  | [] => rfl
  | x :: xs => by show cl x.shown :: (PyData.shownAll xs).map cl = _; rw [all_map xs]; rfl
theorem jT_stop (ts : List (List Nat)) (r : List Nat) : Stop (jT ts ++ r) := by
  cases ts with
  | nil => exact Stop.cls
  | cons a ts => exact Stop.com
/-- a thing of these kinds -/
inductive Pp : PyData → Prop
  | non : Pp .none
  | bool {b : Bool} : Pp (.bool b)
  | int {i : Int} : Pp (.int i)
  | str : Pp (.str (Str.ofString ""))
  | tup {ds : List PyData} : (∀ d ∈ ds, Pp d) → Pp (.tuple ds)
  | lst {ds : List PyData} : Pp (.list ds)
  | dic : Pp (.dict [])
theorem lst_head (ds : List PyData) : ∃ r, cl (PyData.list ds).shown = 91 :: r := by
  have key : ∀ (ts : List Str) (k : Nat) (acc : Str), (∃ r, cl acc = 91 :: r) → ∃ r, cl (textFrom k acc ts) = 91 :: r := by
    intro ts
    induction ts with
    | nil => intro k acc h; exact h
    | cons t ts ih =>
      intro k acc ⟨r, h⟩
      refine ih (k + 1) _ ?_
      rw [cl_app, cl_app, h]
      exact ⟨_, rfl⟩
  show ∃ r, cl (textFrom 0 "[" (PyData.shownAll ds) ++ (("]" : String) : Str)) = _
  obtain ⟨r, h⟩ := key (PyData.shownAll ds) 0 "[" ⟨[], rfl⟩
  rw [cl_app, h]
  exact ⟨_, rfl⟩
theorem Pp.head {d : PyData} (h : Pp d) : ∃ c r, cl d.shown = c :: r ∧ c ≠ 41 ∧ c ≠ 44 := by
  cases h with
  | non => exact ⟨78, _, rfl, by decide, by decide⟩
  | @bool b => cases b <;> exact ⟨_, _, rfl, by decide, by decide⟩
  | @int i =>
    have h1 := int_ne i
    have h2 := int_fig i
    cases e : cl (PyData.int i).shown with
    | nil => exact absurd e h1
    | cons c r =>
      have := h2 c (by rw [e]; exact List.mem_cons_self)
      unfold Fig at this
      exact ⟨c, r, rfl, by omega, by omega⟩
  | str => exact ⟨39, [39], by decide +kernel, by decide, by decide⟩
  | tup _ => exact ⟨40, _, tup_text _, by decide, by decide⟩
  | lst => obtain ⟨r, h⟩ := lst_head _; exact ⟨91, r, h, by decide, by decide⟩
  | dic => exact ⟨123, [125], by decide +kernel, by decide, by decide⟩
/-- told apart by its text from all other things -/
def Uq (e : PyData) : Prop := ∀ d r s, Pp d → Stop r → Stop s → cl d.shown ++ r = cl e.shown ++ s → d = e ∧ r = s
theorem Uq.int {i : Int} : Uq (.int i) := by
  intro d r s hd hr hs h
  have hf := int_fig i
  have hn := int_ne i
  have hh : ∀ {c : Nat} {u : List Nat}, cl d.shown = c :: u → Fig c := fun {c u} e => by
    rw [e] at h
    cases e2 : cl (PyData.int i).shown with
    | nil => exact absurd e2 hn
    | cons c2 u2 =>
      rw [e2] at h
      injection h with h1 _
      rw [h1]
      exact hf c2 (by rw [e2]; exact List.mem_cons_self)
  cases hd with
  | non => have := hh (c := 78) rfl; unfold Fig at this; omega
  | @bool b =>
    cases b
    · have := hh (c := 70) rfl; unfold Fig at this; omega
    · have := hh (c := 84) rfl; unfold Fig at this; omega
  | @int j =>
    obtain ⟨g1, g2⟩ := figs_inj (int_fig j) hf hr hs h
    exact ⟨by rw [int_inj g1], g2⟩
  | str => have := hh (c := 39) (u := [39]) (by decide +kernel); unfold Fig at this; omega
  | tup _ => have := hh (tup_text _); unfold Fig at this; omega
  | lst => obtain ⟨u, e⟩ := lst_head _; have := hh e; unfold Fig at this; omega
  | dic => have := hh (c := 123) (u := [125]) (by decide +kernel); unfold Fig at this; omega
theorem jT_inj : ∀ (xs ys : List PyData) (r s : List Nat), (∀ x ∈ xs, Pp x) → (∀ y ∈ ys, Uq y) → jT (xs.map fun x => cl x.shown) ++ r = jT (ys.map fun x => cl x.shown) ++ s → xs = ys ∧ r = s
  | [], [], r, s, _, _, h => ⟨rfl, by injection h with _ h⟩
  | [], y :: ys, r, s, _, _, h => by injection h with h _; cases h
  | x :: xs, [], r, s, _, _, h => by injection h with h _; cases h
  | x :: xs, y :: ys, r, s, hx, hy, h => by
    injection h with _ h
    injection h with _ h
    have h : (cl x.shown ++ jT (xs.map fun x => cl x.shown)) ++ r = (cl y.shown ++ jT (ys.map fun x => cl x.shown)) ++ s := h
    rw [List.append_assoc, List.append_assoc] at h
    obtain ⟨g1, g2⟩ := hy y List.mem_cons_self x _ _ (hx x List.mem_cons_self) (jT_stop _ _) (jT_stop _ _) h
    obtain ⟨g3, g4⟩ := jT_inj xs ys r s (fun z hz => hx z (List.mem_cons_of_mem _ hz)) (fun z hz => hy z (List.mem_cons_of_mem _ hz)) g2
    exact ⟨by rw [g1, g3], g4⟩
theorem Uq.tup {ys : List PyData} (hy : ∀ y ∈ ys, Uq y) (hp : ∀ y ∈ ys, Pp y) : Uq (.tuple ys) := by
  intro d r s hd hr hs h
  rw [tup_text] at h
  have hh : ∀ {c : Nat} {u : List Nat}, cl d.shown = c :: u → c = 40 := fun {c u} e => by
    rw [e] at h
    injection h with h1 _
  cases hd with
  | non => have := hh (c := 78) rfl; omega
  | @bool b =>
    cases b
    · have := hh (c := 70) rfl; omega
    · have := hh (c := 84) rfl; omega
  | @int j =>
    obtain ⟨c, u, e, _⟩ := (Pp.int (i := j)).head
    have := hh e
    have h2 := int_fig j c (by rw [e]; exact List.mem_cons_self)
    unfold Fig at h2; omega
  | str => have := hh (c := 39) (u := [39]) (by decide +kernel); omega
  | lst => obtain ⟨u, e⟩ := lst_head _; have := hh e; omega
  | dic => have := hh (c := 123) (u := [125]) (by decide +kernel); omega
  | @tup xs hx =>
    rw [tup_text] at h
    injection h with _ h
    rw [all_map, all_map] at h
    have no : ∀ (z : PyData), Pp z → ∀ (u v : List Nat), 41 :: u = cl z.shown ++ v → False := fun z hz u v e => by
      obtain ⟨c, w, e2, h1, _⟩ := hz.head
      rw [e2] at e
      injection e with e _
      exact h1 e.symm
    match xs, ys, hx, hy, hp, h with
    | [], [], _, _, _, h => exact ⟨rfl, by injection h with _ h⟩
    | [], [y], _, hy, hp, h =>
      have h : 41 :: r = (cl y.shown ++ [44, 41]) ++ s := h
      rw [List.append_assoc] at h
      exact (no y (hp y List.mem_cons_self) _ _ h).elim
    | [], y :: z :: ys, _, hy, hp, h =>
      have h : 41 :: r = (cl y.shown ++ jT ((z :: ys).map fun x => cl x.shown)) ++ s := h
      rw [List.append_assoc] at h
      exact (no y (hp y List.mem_cons_self) _ _ h).elim
    | [x], [], hx, _, _, h =>
      have h : (cl x.shown ++ [44, 41]) ++ r = 41 :: s := h
      rw [List.append_assoc] at h
      exact (no x (hx x List.mem_cons_self) _ _ h.symm).elim
    | x :: z :: xs, [], hx, _, _, h =>
      have h : (cl x.shown ++ jT ((z :: xs).map fun x => cl x.shown)) ++ r = 41 :: s := h
      rw [List.append_assoc] at h
      exact (no x (hx x List.mem_cons_self) _ _ h.symm).elim
    | [x], [y], hx, hy, _, h =>
      have h : (cl x.shown ++ [44, 41]) ++ r = (cl y.shown ++ [44, 41]) ++ s := h
      rw [List.append_assoc, List.append_assoc] at h
      obtain ⟨g1, g2⟩ := hy y List.mem_cons_self x _ _ (hx x List.mem_cons_self) Stop.com Stop.com h
      exact ⟨by rw [g1], by simpa using g2⟩
    | [x], y :: z :: ys, hx, hy, _, h =>
      have h : (cl x.shown ++ [44, 41]) ++ r = (cl y.shown ++ jT ((z :: ys).map fun x => cl x.shown)) ++ s := h
      rw [List.append_assoc, List.append_assoc] at h
      obtain ⟨g1, g2⟩ := hy y List.mem_cons_self x _ _ (hx x List.mem_cons_self) Stop.com (jT_stop _ _) h
      injection g2 with _ g2
      injection g2 with g2 _
      cases g2
    | x :: z :: xs, [y], hx, hy, _, h =>
      have h : (cl x.shown ++ jT ((z :: xs).map fun x => cl x.shown)) ++ r = (cl y.shown ++ [44, 41]) ++ s := h
      rw [List.append_assoc, List.append_assoc] at h
      obtain ⟨g1, g2⟩ := hy y List.mem_cons_self x _ _ (hx x List.mem_cons_self) (jT_stop _ _) Stop.com h
      injection g2 with _ g2
      injection g2 with g2 _
      cases g2
    | x :: x2 :: xs, y :: y2 :: ys, hx, hy, _, h =>
      have h : (cl x.shown ++ jT ((x2 :: xs).map fun x => cl x.shown)) ++ r = (cl y.shown ++ jT ((y2 :: ys).map fun x => cl x.shown)) ++ s := h
      rw [List.append_assoc, List.append_assoc] at h
      obtain ⟨g1, g2⟩ := hy y List.mem_cons_self x _ _ (hx x List.mem_cons_self) (jT_stop _ _) (jT_stop _ _) h
      obtain ⟨g3, g4⟩ := jT_inj (x2 :: xs) (y2 :: ys) r s (fun w hw => hx w (List.mem_cons_of_mem _ hw)) (fun w hw => hy w (List.mem_cons_of_mem _ hw)) g2
      exact ⟨by rw [g1, g3], g4⟩
theorem Uq.eq {e d : PyData} (h : Uq e) (hd : Pp d) (ht : d.shown = e.shown) : d = e := (h d [] [] hd Stop.nil Stop.nil (by rw [ht])).1
end DL

set_option Elab.async false
set_option linter.all false
set_option maxRecDepth 100000
set_option maxHeartbeats 4000000
/-! DMB: a call with places and names that may be refused -/
namespace DL
open PySem PySem.Spec PyProof.Rows L2
def tCallNSk (n m : Nat) (sp : Sp) (gV : List V → List V → List V) (E : L2.St → XK) (t tk : TA) : TE := fun σ H Q => t σ H fun vs H1 => tk σ H1 fun zs H2 => vs.length = n ∧ zs.length = m ∧ sp (gV vs zs) H2 Q (E σ)
end DL

set_option Elab.async false
set_option linter.all false
set_option maxRecDepth 100000
set_option maxHeartbeats 4000000
/-! DMF: a call of a def that a local name holds, which may be refused; promises joined -/
namespace DL
open PySem PySem.Spec PyProof.Rows L2
section
variable {P : Program} {w : World} {K : PySem.W.Frag} {mg : Str → Option Value} {base : Heap} {CX : CXT} {k : Nat} {f : Addr} {fd : FuncData} {ps : List Str} {sp sp1 sp2 : Sp}
/-- what a local name may hold: a def, its defaults filled up -/
structure HeldS (P : Program) (w : World) (K : PySem.W.Frag) (mg : Str → Option Value) (base : Heap) (CX : CXT) (k : Nat) (f : Addr) (sp : Sp) : Prop where
  ex : ∃ (fd : FuncData) (ps : List Str) (ds : List Value) (dvs : List V) (sp0 : Sp), FnOk P w K mg base CX k f fd ps sp0 ∧ PySem.W.keepIn K (.ref f) = true ∧ Binds K fd ps ds ∧ Vals dvs ds ∧ ∀ vs H Q E, sp vs H Q E → sp0 (vs ++ dvs) H Q E
/-- the same, called by places and names -/
structure HeldK (P : Program) (w : World) (K : PySem.W.Frag) (mg : Str → Option Value) (base : Heap) (CX : CXT) (k n : Nat) (ks : List Str) (f : Addr) (sp : Sp) (gV : List V → List V → List V) : Prop where
  ex : ∃ (fd : FuncData) (ps : List Str) (g : List Value → List Value → List Value), FnOk P w K mg base CX k f fd ps sp ∧ PySem.W.keepIn K (.ref f) = true ∧ KBn K fd ps n ks g gV
end
def tCallF (i : Nat) (S : Addr → Sp → Prop) (E : L2.St → XK) (t : TA) : TE := fun σ H Q => ∃ f sp, σ[i]? = some (some (.ref f)) ∧ S f sp ∧ t σ H fun vs H1 => sp vs H1 Q (E σ)
def tCallFk (i n m : Nat) (S : Addr → Sp → Prop) (gV : List V → List V → List V) (E : L2.St → XK) (t tk : TA) : TE := fun σ H Q => ∃ f sp, σ[i]? = some (some (.ref f)) ∧ S f sp ∧ t σ H fun vs H1 => tk σ H1 fun zs H2 => vs.length = n ∧ zs.length = m ∧ sp (gV vs zs) H2 Q (E σ)
section
variable {X : Cx} {CX : CXT} {k i n : Nat} {S : Addr → Sp → Prop} {E : L2.St → XK} {x : Str} {p pos : Pos} {e : Expr} {es : List Expr} {kws : List Keyword} {ks : List Str} {t tk : TA} {gV : List V → List V → List V}
end
section
variable {K : PySem.W.Frag} {S : Stt} {ρ : Rho} {Φ : PyData → Rho → Prop}
end
end DL

set_option Elab.async false
set_option linter.all false
set_option maxRecDepth 100000
set_option maxHeartbeats 4000000
/-! DMG: the empty dict shown; a call of a def that an expression tells; zip of two tuples; tests ahead of a refusal -/
namespace DL
open PySem PySem.Spec PyProof.Rows L2
def rReprY (K : PySem.W.Frag) : List V → Hp → VK → Prop := fun xs H Q => rReprZ K xs H Q ∨ ∃ a, xs = [.ref a] ∧ H a = some (.dK []) ∧ Q (.str (PyData.dict []).shown) H
theorem call_reprY {X : Cx} (hgd : X.A.guards = some []) (hu : X.A.units + 64 < cLine) : CallR X (.builtin "repr") (rReprY X.K) := by
  intro pins s σ H xs us Q I r h
  rcases h with h | ⟨a, rfl, ha, q⟩
  · exact call_reprZ hgd hu pins s σ H xs us Q I r h
  · obtain ⟨u, rfl, ru⟩ := vals1 r
    cases ru
    obtain ⟨_, ns, vs, kv, o, es, ep, ho, ⟨hc, hd0, hs0⟩, hd, _, hp, _⟩ := dk_of I.hok ha
    cases kv
    have he : es.toList = [] := by
      cases e : es.toList with
      | nil => rfl
      | cons x r => rw [e] at hp; cases hp
    have rd : Reads s.heap (.ref a) (.dict []) (a :: [] ++ []) := Reads.dict ho hc hd (by rw [he]; exact ReadsAll.nil) (by rw [he]; exact ReadsAll.nil)
    have dep : X.A.units + ((PyData.dict []).depth + 1) < cLine := by
      have : (PyData.dict []).depth + 1 ≤ 64 := by decide +kernel
      omega
    refine repr_of_reads' rd (by decide +kernel) (fun _ z => ?_) hgd dep (fun b o e => e) (fun h' u tk hk => ?_) (by decide +kernel)
    · have : sysModules = a := by simpa using z
      rw [this] at ns
      simp at ns
    · exact ⟨.str (PyData.dict []).shown, H, I.kept (t' := tk) hk, ⟨u, rfl⟩, q⟩
section
variable {K : PySem.W.Frag} {S : Stt} {ρ : Rho} {Φ : PyData → Rho → Prop} {Ψ : PyData → Prop}
theorem dc_reprY {d : PyData} {L D : Nat} (h : Rs L D d) (h1 : L ≤ sizeLine) (h2 : D ≤ 50) (f : Ψ (.str d.shown)) : DC K (rReprY K) [d] Ψ := fun N H hN us hu Q q => .inl (dc_reprZ h h1 h2 f N H hN us hu Q q)
theorem dc_reprE (f : Ψ (.str (PyData.dict []).shown)) : DC K (rReprY K) [.dict []] Ψ := fun N H hN us hu Q q => by
  cases hu with
  | cons a1 a2 =>
    cases a2
    have h2 := a1
    cases a1 with
    | dct h => exact .inr ⟨_, rfl, (wo_some h).2, q _ _ H f (Same.refl H) (Dt.str _)⟩
/-! ### zip of two tuples -/
end
/-! ### a def that an expression tells, called -/
def tCallE (S : Addr → Sp → Prop) (E : L2.St → XK) (tf : TE) (t : TA) : TE := fun σ H Q => tf σ H fun v H1 => ∃ f sp, v = .ref f ∧ S f sp ∧ t σ H1 fun vs H2 => sp vs H2 Q (E σ)
section
variable {X : Cx} {CX : CXT} {k : Nat} {S : Addr → Sp → Prop} {E : L2.St → XK} {pos : Pos} {fe e : Expr} {es : List Expr} {tf : TE} {t : TA}
end
end DL

set_option Elab.async false
set_option linter.all false
set_option maxRecDepth 100000
set_option maxHeartbeats 1000000
/-! LM6: a knot put in where the line goes straight on -/
namespace DL
def insK (ks : Kn) (k : Nat) (p : Rat × Rat) : Kn := ks.take k ++ [p] ++ ks.drop k
end DL

set_option Elab.async false
set_option linter.all false
set_option maxRecDepth 100000
set_option maxHeartbeats 4000000
/-! LR3: knots put in where a line goes straight on; rows that don't rise -/
namespace DL
open PySem PySem.Spec PyProof.Rows L2
def bx : Nat → Nat
  | 0 => 26
  | t + 1 => 2 * bx t + 3
/-- a row of points of the line, at least its knots -/
structure MoreK (t : Nat) (ks : Kn) (s : Rat) (ms : Kn) : Prop where
  ris : Rising ms
  fst : (kn ms 0).1 = 0
  pos : 0 < ms.length
  len : ms.length ≤ ks.length + t
  x : ∀ i, i < ms.length → sz (kn ms i).1 ≤ bx t
  y : ∀ i, i < ms.length → sz (kn ms i).2 ≤ 156 + bx t
  sl : sz s ≤ 26
  on : ∀ x, 0 ≤ x → yAt ms s x = yAt ks s x
def TMore : Nat → List PyData → (PyData → Nat → Prop) → Prop := fun B ds Φ => ∃ (ks : Kn) (s : Rat), ds = [lnD ks s] ∧ Lq 26 ks s ∧ ks.length ≤ 60 ∧ B ≤ 2 ^ 39 ∧ ∀ ms B', B' ≤ B + 10 → MoreK 4 ks s ms → Φ (.list (ms.map kD)) B'
/-- a row of which no line can be made -/
def BadK (ms : Kn) : Prop := ms.length = 0 ∨ (kn ms 0).1 ≠ 0 ∨ ¬ Rising ms
structure NoK (ks ms : Kn) : Prop where
  bad : BadK ms
  len : ms.length ≤ 2 * ks.length + 2
  x : ∀ i, i < ms.length → sz (kn ms i).1 ≤ 60
  y : ∀ i, i < ms.length → sz (kn ms i).2 ≤ 60
def TNoRow : Nat → List PyData → (PyData → Nat → Prop) → Prop := fun B ds Φ => ∃ (ks : Kn) (s : Rat), ds = [lnD ks s] ∧ Lq 26 ks s ∧ ks.length ≤ 60 ∧ B ≤ 2 ^ 39 ∧ ∀ ms B', B' ≤ B + 10 → NoK ks ms → Φ (.list (ms.map kD)) B'
local macro_rules | `(tactic| walk_at "dl") => `(tactic| repeat' (first
  | with_reducible refine wd_isTy ?_ | with_reducible refine wd_isi ?_ | ((with_reducible show WD _ _ (tOp (rIxL _) (tVar _) _) _ _); refine wd_ix_own rfl ?_) | with_reducible refine wd_op ?_ | ((with_reducible show WD _ _ (tCB (rLenX _) (tCons (tVar _) tNil)) _ _); refine wd_len_scr rfl ?_) | ((with_reducible show WD _ _ (tCB (rLenX _) (tCons (tVar _) tNil)) _ _); refine wd_len_own rfl ?_) | with_reducible refine wd_cb ?_ | with_reducible refine wd_un ?_ | with_reducible refine wa_cons ?_ | with_reducible refine wa_nil ?_ | ((with_reducible show WD _ _ (tVar _) _ _); refine wd_var rfl ?_) | with_reducible refine wd_int ?_ | with_reducible refine wd_bl ?_ | with_reducible refine wd_str ?_ | with_reducible refine wd_non ?_
  | with_reducible refine do_nesS ?_ | with_reducible refine dc_intB ?_ | with_reducible refine do_add ?_ | with_reducible refine do_sub ?_ | ((with_reducible refine do_mod ?_ ?_); decide) | with_reducible refine do_mod ?_ ?_ | with_reducible refine do_mul ?_ ?_ | ((with_reducible refine do_div ?_ ?_); exact ⟨by decide, by decide⟩) | with_reducible refine do_div ?_ ?_ | ((with_reducible refine do_pow ?_ ?_); exact ⟨by decide, by decide, by decide⟩) | with_reducible refine do_pow ?_ ?_
  | with_reducible refine do_lt ?_ | with_reducible refine do_le ?_ | with_reducible refine do_gt ?_ | with_reducible refine do_ge ?_ | with_reducible refine du_neg ?_
  | with_reducible refine do_eqi ?_ | with_reducible refine do_nei ?_ | with_reducible refine do_eqs ?_ | with_reducible refine do_nes ?_ | with_reducible refine dc_abs ?_ | with_reducible refine dc_min ?_ | with_reducible refine dc_max ?_ | with_reducible refine dc_lenL ?_ | with_reducible refine dc_lenT ?_ | with_reducible refine dc_lenR ?_ | with_reducible refine dc_listT ?_ | with_reducible refine dc_listL ?_ | with_reducible refine dc_tupL ?_ | with_reducible refine dc_gcd ?_
  | ((with_reducible show DO _ (rIxT _) _ _ _); refine do_ixT rfl ?_) | ((with_reducible show DO _ (rIxL _) _ _ _); refine do_ixL rfl ?_) | ((with_reducible refine do_catL ?_ ?_); exact Nat.le_of_ble_eq_true rfl) | with_reducible refine do_catL ?_ ?_ | ((with_reducible show And (List.length _ ≤ sizeLine) _); refine ⟨Nat.le_of_ble_eq_true rfl, ?_⟩)
  | with_reducible refine wd_dnew ?_ | with_reducible refine wd_call0 ?_ | with_reducible refine wd_slA ?_ | with_reducible refine wd_slL ?_ | with_reducible refine wd_revT ?_ | with_reducible refine do_catA ?_ ?_ | with_reducible refine wo_part ?_ | with_reducible refine wo_none ?_ | with_reducible refine do_eqQ ?_ | with_reducible refine do_neQ ?_ | with_reducible refine wi_enumT ?_ | with_reducible refine wi_enumD ?_ | with_reducible refine tAdQ (by omega) (by omega) ?_ | with_reducible refine tSbQ (by omega) (by omega) ?_ | with_reducible refine tMlQ (by omega) (by omega) ?_ | with_reducible refine tDvQ (by assumption) (by omega) (by omega) ?_ | with_reducible refine tLtQ (by omega) (by omega) ?_ | with_reducible refine dc_str ?_ ?_ | with_reducible refine wd_tup ?_ | with_reducible refine wd_lst ?_ | with_reducible refine wt_test ?_ | with_reducible refine wt_B ?_ | with_reducible refine wt_not ?_ | with_reducible refine wt_and ?_ | with_reducible refine wt_or ?_ | with_reducible refine wd_ifE ?_ | with_reducible refine wd_andV ?_ | with_reducible refine wd_orV ?_ | with_reducible refine wd_notV ?_
  | with_reducible refine ws_seq ?_ | with_reducible refine ws_next ?_ | with_reducible refine ws_asg ?_ | with_reducible refine ws_ret ?_ | with_reducible refine ws_retN ?_ | with_reducible refine ws_if ?_ | with_reducible refine ws_par ?_ | with_reducible refine ws_unp2 ?_
  | with_reducible refine if_t ?_ | with_reducible refine if_f ?_ | with_reducible refine if_nf ?_ | with_reducible refine if_nt ?_
  | ((with_reducible show Exists _); first | refine ⟨_, kitInt _, ?_⟩ | refine ⟨_, kitBool _, ?_⟩ | refine ⟨_, kitTup _, ?_⟩ | refine ⟨_, kitList _, ?_⟩ | refine ⟨_, rfl, ?_⟩ | refine ⟨_, _, rfl, ?_⟩ | fail) | fail))
def t_more (K : PySem.W.Frag) : TS :=
  (tSeq (tAsg (tCB (rListOf K) (tCons (tOp (rIxT K) (tVar 1) (tC (.int 0))) tNil)) (gName 2))
    (tSeq (tFor (iRng1 (tCons (tOp rAddI (tC (.int 1)) (tCall (spS K FPot TTake) [] E0 (tCons (tVar 0) (tCons (tC (.int 4)) tNil)))) tNil)) (gName 3) (tSeq (tAsg (tCall (spS K FPot TTake) [] E0 (tCons (tVar 0) (tCons (tCB (rLenX K) (tCons (tVar 2) tNil)) tNil))) (gName 4))
    (tSeq (tAsg (tTup (tCons (tC (.int 0)) (tCons (tC (.int 1001)) tNil))) (gName 5))
    (tSeq (tIfS (tTest (tOp rLt (tOp rAddI (tVar 4) (tC (.int 1))) (tCB (rLenX K) (tCons (tVar 2) tNil)))) (tAsg (tCall (spP K TMlQ) [] E0 (tCons (tCall (spP K TAdQ) [] E0 (tCons (tOp (rIxT K) (tOp (rIxL K) (tVar 2) (tVar 4)) (tC (.int 0))) (tCons (tOp (rIxT K) (tOp (rIxL K) (tVar 2) (tOp rAddI (tVar 4) (tC (.int 1)))) (tC (.int 0))) tNil))) (tCons (tTup (tCons (tC (.int 1)) (tCons (tC (.int 2)) tNil))) tNil))) (gName 5)) tNext)
    (tSeq (tIfS (tTest (tOp rGt (tOp (rIxT K) (tVar 5) (tC (.int 1))) (tC (.int 1000)))) (tSeq (tAsg (tOp rSubI (tCB (rLenX K) (tCons (tVar 2) tNil)) (tC (.int 1))) (gName 4))
    (tAsg (tCall (spP K TAdQ) [] E0 (tCons (tOp (rIxT K) (tOp (rIxL K) (tVar 2) (tVar 4)) (tC (.int 0))) (tCons (tTup (tCons (tOp rAddI (tC (.int 1)) (tCall (spS K FPot TTake) [] E0 (tCons (tVar 0) (tCons (tC (.int 3)) tNil)))) (tCons (tC (.int 1)) tNil))) tNil))) (gName 5))) tNext)
    (tDrop (tBM K "list" rInsert (tVar 2) (tCons (tOp rAddI (tVar 4) (tC (.int 1))) (tCons (tTup (tCons (tVar 5) (tCons (tCall (spP K TYat) [] E0 (tCons (tVar 1) (tCons (tVar 5) tNil))) tNil))) tNil)))))))))
    (tRet (tVar 2))))
def t_norow (K : PySem.W.Frag) : TS :=
  (tSeq (tAsg (tCB (rListOf K) (tCons (tOp (rIxT K) (tVar 1) (tC (.int 0))) tNil)) (gName 2))
    (tSeq (tAsg (tCall (spS K FPot TTake) [] E0 (tCons (tVar 0) (tCons (tC (.int 4)) tNil))) (gName 3))
    (tSeq (tAsg (tCall (spS K FPot TTake) [] E0 (tCons (tVar 0) (tCons (tCB (rLenX K) (tCons (tVar 2) tNil)) tNil))) (gName 4))
    (tSeq (tIfS (tTest (tOp rEq (tVar 3) (tC (.int 0)))) (tRet (tLst tNil)) tNext)
    (tSeq (tIfS (tTest (tOp rEq (tVar 3) (tC (.int 1)))) (tSeq (tAsg (tTup (tCons (tOp (rIxL K) (tLst (tCons (tTup (tCons (tC (.int 1)) (tCons (tC (.int 2)) tNil))) (tCons (tTup (tCons (tUn rNegI (tC (.int 1))) (tCons (tC (.int 3)) tNil))) (tCons (tTup (tCons (tC (.int 1)) (tCons (tC (.int 997)) tNil))) tNil)))) (tCall (spS K FPot TTake) [] E0 (tCons (tVar 0) (tCons (tC (.int 3)) tNil)))) (tCons (tOp (rIxT K) (tOp (rIxL K) (tVar 2) (tC (.int 0))) (tC (.int 1))) tNil))) (gSub (tVar 2) (tC (.int 0)) rSetL))
    (tRet (tVar 2))) tNext)
    (tSeq (tIfS (tTest (tOp rEq (tVar 3) (tC (.int 2)))) (tRet (tOp rCatL (tSl (rSlL K) (tVar 2) tNoPart (tPart (tOp rAddI (tVar 4) (tC (.int 1))))) (tSl (rSlL K) (tVar 2) (tPart (tVar 4)) tNoPart))) tNext)
    (tSeq (tAsg (tCall (spP K TLow) [] E0 (tCons (tOp rAddI (tC (.int 1)) (tCall (spS K FPot TTake) [] E0 (tCons (tVar 0) (tCons (tC (.int 5)) tNil)))) (tCons (tIf (tTest (tOp rLt (tOp (rIxT K) (tOp (rIxT K) (tOp (rIxL K) (tVar 2) (tVar 4)) (tC (.int 0))) (tC (.int 1))) (tC (.int 97)))) (tC (.int 3)) (tC (.int 1))) tNil))) (gName 5))
    (tSeq (tDrop (tBM K "list" rInsert (tVar 2) (tCons (tOp rAddI (tVar 4) (tC (.int 1))) (tCons (tTup (tCons (tCall (spP K TSbQ) [] E0 (tCons (tOp (rIxT K) (tOp (rIxL K) (tVar 2) (tVar 4)) (tC (.int 0))) (tCons (tVar 5) tNil))) (tCons (tTup (tCons (tC (.int 1)) (tCons (tC (.int 1)) tNil))) tNil))) tNil))))
    (tRet (tVar 2))))))))))
section
variable {K : PySem.W.Frag} {S : Stt} {ds : List PyData} {Φ : PyData → Nat → Prop} {B : Nat}
end
end DL

set_option Elab.async false
set_option linter.all false
set_option maxRecDepth 100000
set_option maxHeartbeats 4000000
/-! LR4: a line bent -/
namespace DL
open PySem PySem.Spec PyProof.Rows L2
structure Th (L D : Nat) (d : PyData) : Prop where
  r : Rs L D d
  t : Tm d
  c : d.canLay0 = true
theorem Th.mono {L D L' D' : Nat} {d : PyData} (h : Th L D d) (h1 : L ≤ L') (h2 : D ≤ D') : Th L' D' d := ⟨h.r.mono h1 h2, h.t, h.c⟩
theorem canAll : ∀ {xs : List PyData}, (∀ x ∈ xs, x.canLay0 = true) → PyData.canLayAll0 xs = true
  | [], _ => rfl
  | x :: xs, h => by
    show (x.canLay0 && PyData.canLayAll0 xs) = true
    rw [h x List.mem_cons_self, canAll fun y hy => h y (List.mem_cons_of_mem _ hy)]; rfl
theorem Th.tup {xs : List PyData} {L D n : Nat} (h : ∀ x ∈ xs, Th L D x) (hn : xs.length ≤ n) (hn2 : n ≤ 1000) : Th (5 + n * (L + 2)) (D + 1) (.tuple xs) :=
  ⟨Rs.tup (fun x hx => (h x hx).r) hn, .tup (Nat.le_trans hn hn2) fun x hx => (h x hx).t, canAll fun x hx => (h x hx).c⟩
theorem Th.lst {xs : List PyData} {L D n : Nat} (h : ∀ x ∈ xs, Th L D x) (hn : xs.length ≤ n) (hn2 : n ≤ 1000) : Th (2 + n * (L + 2)) (D + 1) (.list xs) :=
  ⟨Rs.lst (fun x hx => (h x hx).r) hn, .lst (Nat.le_trans hn hn2) fun x hx => (h x hx).t, canAll fun x hx => (h x hx).c⟩
theorem Th.int {i : Int} {k : Nat} (hk : 0 < k) (h : i.natAbs < 2 ^ k) (h2 : k ≤ 1700) : Th (k + 1) 0 (.int i) :=
  ⟨Rs.int hk h (by omega), .int (Nat.lt_of_lt_of_le h (Nat.pow_le_pow_right (by decide) h2)), rfl⟩
theorem Th.qp {q : Rat} {k : Nat} (hk : sz q ≤ k) (h2 : k ≤ 1700) : Th (11 + 2 * k) 1 (DL.qp q) := by
  have k0 : 0 < k := Nat.lt_of_lt_of_le (sz_pos q) hk
  refine ⟨Rs.qp hk (by omega), .tup (by show 2 ≤ 1000; decide) fun x hx => ?_, rfl⟩
  simp only [List.mem_cons, List.not_mem_nil, or_false] at hx
  rcases hx with rfl | rfl
  · exact (Th.int k0 (num_lt hk) h2).t
  · exact (Th.int k0 (by have := den_lt hk; simpa using this) h2).t
/-- a thing to be judged -/
abbrev Thg (d : PyData) : Prop := Th 1700000 6 d
def TBent : Nat → List PyData → (PyData → Nat → Prop) → Prop := fun B ds Φ => ∃ (ks : Kn) (s : Rat), ds = [lnD ks s] ∧ Lq 26 ks s ∧ ks.length ≤ 60 ∧ B ≤ 2 ^ 38 ∧ ∀ z B', B' ≤ B + 20 → Thg z → Φ z B'
/-- a small thing -/
abbrev Odd (d : PyData) : Prop := Th 400 1 d
theorem odd_int {i : Int} (h : i.natAbs < 2 ^ 100) : Th 110 0 (.int i) := (Th.int (k := 100) (by decide) h (by decide)).mono (by decide) (Nat.le_refl _)
theorem odd_bool {b : Bool} : Th 110 0 (.bool b) := ⟨⟨by cases b <;> rfl, rfl, by cases b <;> decide, by cases b <;> decide⟩, .bool, rfl⟩
theorem odd_non : Th 110 0 .none := ⟨⟨rfl, rfl, by decide, by decide⟩, .non, rfl⟩
theorem ixAll {ds : List PyData} {P : PyData → Prop} {i : Int} {Ψ : PyData → Prop} {K : PySem.W.Frag} (h0 : 0 ≤ i) (h1 : i < ds.length) (h : ∀ x ∈ ds, P x) (f : ∀ z, P z → Ψ z) : DO K (rIxL K) (.list ds) (.int i) Ψ := by
  obtain ⟨n, rfl⟩ : ∃ n : Nat, i = n := ⟨i.toNat, by omega⟩
  have hn : n < ds.length := by omega
  exact do_ixLn (k := n) rfl (List.getElem?_eq_getElem hn) (f _ (h _ (List.getElem_mem hn)))
theorem cutD_sub {l : List PyData} {lo hi : Option Int} {x : PyData} (h : x ∈ cutD l lo hi) : x ∈ l := by
  unfold cutD at h
  exact List.mem_of_mem_drop (List.mem_of_mem_take h)
theorem cutD_le {l : List PyData} {lo hi : Option Int} : (cutD l lo hi).length ≤ l.length := by
  unfold cutD
  rw [List.length_take, List.length_drop]; omega
local macro_rules | `(tactic| walk_at "dl") => `(tactic| repeat' (first
  | with_reducible refine wd_isTy ?_ | with_reducible refine wd_isi ?_ | ((with_reducible show WD _ _ (tOp (rIxL _) (tVar _) _) _ _); refine wd_ix_own rfl ?_) | with_reducible refine wd_op ?_ | ((with_reducible show WD _ _ (tCB (rLenX _) (tCons (tVar _) tNil)) _ _); refine wd_len_scr rfl ?_) | ((with_reducible show WD _ _ (tCB (rLenX _) (tCons (tVar _) tNil)) _ _); refine wd_len_own rfl ?_) | with_reducible refine wd_cb ?_ | with_reducible refine wd_un ?_ | with_reducible refine wa_cons ?_ | with_reducible refine wa_nil ?_ | ((with_reducible show WD _ _ (tVar _) _ _); refine wd_var rfl ?_) | with_reducible refine wd_int ?_ | with_reducible refine wd_bl ?_ | with_reducible refine wd_str ?_ | with_reducible refine wd_non ?_
  | with_reducible refine do_nesS ?_ | with_reducible refine dc_intB ?_ | with_reducible refine do_add ?_ | with_reducible refine do_sub ?_ | ((with_reducible refine do_mod ?_ ?_); decide) | with_reducible refine do_mod ?_ ?_ | with_reducible refine do_mul ?_ ?_ | ((with_reducible refine do_div ?_ ?_); exact ⟨by decide, by decide⟩) | with_reducible refine do_div ?_ ?_ | ((with_reducible refine do_pow ?_ ?_); exact ⟨by decide, by decide, by decide⟩) | with_reducible refine do_pow ?_ ?_
  | with_reducible refine do_lt ?_ | with_reducible refine do_le ?_ | with_reducible refine do_gt ?_ | with_reducible refine do_ge ?_ | with_reducible refine du_neg ?_
  | with_reducible refine do_eqi ?_ | with_reducible refine do_nei ?_ | with_reducible refine do_eqs ?_ | with_reducible refine do_nes ?_ | with_reducible refine dc_abs ?_ | with_reducible refine dc_min ?_ | with_reducible refine dc_max ?_ | with_reducible refine dc_lenL ?_ | with_reducible refine dc_lenT ?_ | with_reducible refine dc_lenR ?_ | with_reducible refine dc_listT ?_ | with_reducible refine dc_listL ?_ | with_reducible refine dc_tupL ?_ | with_reducible refine dc_gcd ?_
  | ((with_reducible show DO _ (rIxT _) _ _ _); refine do_ixT rfl ?_) | ((with_reducible show DO _ (rIxL _) _ _ _); refine do_ixL rfl ?_) | ((with_reducible refine do_catL ?_ ?_); exact Nat.le_of_ble_eq_true rfl) | with_reducible refine do_catL ?_ ?_ | ((with_reducible show And (List.length _ ≤ sizeLine) _); refine ⟨Nat.le_of_ble_eq_true rfl, ?_⟩)
  | with_reducible refine wd_dnew ?_ | with_reducible refine wd_call0 ?_ | with_reducible refine wd_slA ?_ | with_reducible refine wd_slL ?_ | with_reducible refine wd_revT ?_ | with_reducible refine do_catA ?_ ?_ | with_reducible refine wo_part ?_ | with_reducible refine wo_none ?_ | with_reducible refine do_eqQ ?_ | with_reducible refine do_neQ ?_ | with_reducible refine wi_enumT ?_ | with_reducible refine wi_enumD ?_ | with_reducible refine tAdQ (by omega) (by omega) ?_ | with_reducible refine tSbQ (by omega) (by omega) ?_ | with_reducible refine tMlQ (by omega) (by omega) ?_ | with_reducible refine tDvQ (by assumption) (by omega) (by omega) ?_ | with_reducible refine tLtQ (by omega) (by omega) ?_ | with_reducible refine dc_str ?_ ?_ | with_reducible refine wd_tup ?_ | with_reducible refine wd_lst ?_ | with_reducible refine wt_test ?_ | with_reducible refine wt_B ?_ | with_reducible refine wt_not ?_ | with_reducible refine wt_and ?_ | with_reducible refine wt_or ?_ | with_reducible refine wd_ifE ?_ | with_reducible refine wd_andV ?_ | with_reducible refine wd_orV ?_ | with_reducible refine wd_notV ?_
  | with_reducible refine ws_seq ?_ | with_reducible refine ws_next ?_ | with_reducible refine ws_asg ?_ | with_reducible refine ws_ret ?_ | with_reducible refine ws_retN ?_ | with_reducible refine ws_if ?_ | with_reducible refine ws_par ?_ | with_reducible refine ws_unp2 ?_
  | with_reducible refine if_t ?_ | with_reducible refine if_f ?_ | with_reducible refine if_nf ?_ | with_reducible refine if_nt ?_
  | ((with_reducible show Exists _); first | refine ⟨_, kitInt _, ?_⟩ | refine ⟨_, kitBool _, ?_⟩ | refine ⟨_, kitTup _, ?_⟩ | refine ⟨_, kitList _, ?_⟩ | refine ⟨_, rfl, ?_⟩ | refine ⟨_, _, rfl, ?_⟩ | fail) | fail))
def t_bent (K : PySem.W.Frag) : TS :=
  (tSeq (tAsg (tCall (spS K FPot TTake) [] E0 (tCons (tVar 0) (tCons (tC (.int 10)) tNil))) (gName 2))
    (tSeq (tAsg (tVar 1) (gTup K 2 (gCons (gName 3) (gCons (gName 4) gNil))))
    (tSeq (tAsg (tCall (spS K FPot TTake) [] E0 (tCons (tVar 0) (tCons (tCB (rLenX K) (tCons (tVar 3) tNil)) tNil))) (gName 5))
    (tSeq (tAsg (tLst (tCons (tTup (tCons (tC (.int 2)) (tCons (tC (.int 4)) tNil))) (tCons (tTup (tCons (tC (.int 0)) (tCons (tC (.int 2)) tNil))) (tCons (tTup (tCons (tC (.int 1)) (tCons (tC (.int 0)) tNil))) (tCons (tTup (tCons (tC (.int 1)) (tCons (tUn rNegI (tC (.int 1))) tNil))) (tCons (tTup (tCons (tC (.bl true)) (tCons (tC (.int 1)) tNil))) (tCons (tTup (tCons (tC (.int 1)) (tCons (tC (.bl true)) tNil))) (tCons (tC (.int 1)) (tCons (tC .non) (tCons (tC (.str "1")) (tCons (tLst (tCons (tC (.int 1)) (tCons (tC (.int 1)) tNil))) (tCons (tTup (tCons (tC (.int 1)) tNil)) (tCons (tTup (tCons (tC (.int 1)) (tCons (tC (.int 1)) (tCons (tC (.int 1)) tNil)))) tNil))))))))))))) (gName 6))
    (tSeq (tAsg (tOp (rIxL K) (tOp rCatL (tVar 6) (tLst (tCons (tTup (tCons (tOp rAddI (tOp rPowI (tC (.int 10)) (tC (.int 30))) (tC (.int 1))) (tCons (tC (.int 7)) tNil))) (tCons (tTup (tCons (tC (.int 0)) (tCons (tC (.int 1)) tNil))) (tCons (tTup (tCons (tUn rNegI (tC (.int 1))) (tCons (tC (.int 2)) tNil))) (tCons (tTup (tCons (tC (.int 3)) (tCons (tC (.int 2)) tNil))) tNil)))))) (tCall (spS K FPot TTake) [] E0 (tCons (tVar 0) (tCons (tC (.int 16)) tNil)))) (gName 7))
    (tSeq (tAsg (tOp (rIxT K) (tVar 3) (tVar 5)) (gTup K 2 (gCons (gName 8) (gCons (gName 9) gNil))))
    (tSeq (tIfS (tTest (tOp rLt (tVar 2) (tC (.int 3)))) (tRet (tTup (tCons (tOp (rCatA K) (tOp (rCatA K) (tSl (rSlA K) (tVar 3) tNoPart (tPart (tVar 5))) (tTup (tCons (tOp (rIxL K) (tLst (tCons (tTup (tCons (tVar 7) (tCons (tVar 9) tNil))) (tCons (tTup (tCons (tVar 8) (tCons (tVar 7) tNil))) (tCons (tVar 7) tNil)))) (tVar 2)) tNil))) (tSl (rSlA K) (tVar 3) (tPart (tOp rAddI (tVar 5) (tC (.int 1)))) tNoPart)) (tCons (tVar 4) tNil)))) tNext)
    (tSeq (tIfS (tTest (tOp rEq (tVar 2) (tC (.int 3)))) (tRet (tTup (tCons (tVar 3) (tCons (tVar 7) tNil)))) tNext)
    (tSeq (tIfS (tTest (tOp rEq (tVar 2) (tC (.int 4)))) (tRet (tTup (tCons (tOp (rCatA K) (tOp (rCatA K) (tSl (rSlA K) (tVar 3) tNoPart (tPart (tVar 5))) (tRevT K (tSl (rSlA K) (tVar 3) (tPart (tVar 5)) (tPart (tOp rAddI (tVar 5) (tC (.int 2))))))) (tSl (rSlA K) (tVar 3) (tPart (tOp rAddI (tVar 5) (tC (.int 2)))) tNoPart)) (tCons (tVar 4) tNil)))) tNext)
    (tSeq (tIfS (tTest (tOp rEq (tVar 2) (tC (.int 5)))) (tRet (tTup (tCons (tOp (rCatA K) (tSl (rSlA K) (tVar 3) tNoPart (tPart (tOp rAddI (tVar 5) (tC (.int 1))))) (tSl (rSlA K) (tVar 3) (tPart (tVar 5)) tNoPart)) (tCons (tVar 4) tNil)))) tNext)
    (tSeq (tIfS (tTest (tOp rEq (tVar 2) (tC (.int 6)))) (tRet (tTup (tCons (tOp (rCatA K) (tSl (rSlA K) (tVar 3) tNoPart (tPart (tVar 5))) (tSl (rSlA K) (tVar 3) (tPart (tOp rAddI (tVar 5) (tC (.int 1)))) tNoPart)) (tCons (tVar 4) tNil)))) tNext)
    (tSeq (tIfS (tTest (tOp rEq (tVar 2) (tC (.int 7)))) (tRet (tTup (tCons (tCB (rTupOf K) (tCons (tCall (spS K FPot TMore) [] E0 (tCons (tVar 0) (tCons (tVar 1) tNil))) tNil)) (tCons (tVar 4) tNil)))) tNext)
    (tSeq (tIfS (tTest (tOp rEq (tVar 2) (tC (.int 8)))) (tRet (tTup (tCons (tOp (rCatA K) (tOp (rCatA K) (tSl (rSlA K) (tVar 3) tNoPart (tPart (tVar 5))) (tTup (tCons (tLst (tCons (tVar 8) (tCons (tVar 9) tNil))) tNil))) (tSl (rSlA K) (tVar 3) (tPart (tOp rAddI (tVar 5) (tC (.int 1)))) tNoPart)) (tCons (tVar 4) tNil)))) tNext)
    (tRet (tOp (rIxL K) (tLst (tCons (tCB (rListOf K) (tCons (tVar 1) tNil)) (tCons (tTup (tCons (tCB (rListOf K) (tCons (tVar 3) tNil)) (tCons (tVar 4) tNil))) (tCons (tTup (tCons (tVar 3) (tCons (tVar 4) (tCons (tVar 4) tNil)))) (tCons (tTup (tCons (tVar 3) tNil)) (tCons (tVar 7) (tCons (tTup (tCons (tTup tNil) (tCons (tVar 4) tNil))) tNil))))))) (tCall (spS K FPot TTake) [] E0 (tCons (tVar 0) (tCons (tC (.int 6)) tNil))))))))))))))))))
section
variable {K : PySem.W.Frag} {S : Stt} {ds : List PyData} {Φ : PyData → Nat → Prop} {B : Nat}
theorem b4 : bx 4 = 461 := rfl
end
end DL

set_option Elab.async false
set_option linter.all false
set_option maxRecDepth 100000
set_option maxHeartbeats 4000000
/-! PQ9: payments judged, of anything -/
namespace DL
open PySem PySem.Spec PyProof.Rows L2
/-! ### sizes of mixed rows -/
theorem shownAll_app : ∀ (xs ys : List PyData), PyData.shownAll (xs ++ ys) = PyData.shownAll xs ++ PyData.shownAll ys
  | [], ys => rfl
  | x :: xs, ys => by show x.shown :: PyData.shownAll (xs ++ ys) = _; rw [shownAll_app xs ys]; rfl
theorem piled_app (a b : List Str) : piled (a ++ b) = piled a + piled b := by unfold piled; rw [List.map_append, List.sum_append]
theorem piled_of {L n : Nat} {xs : List PyData} (h : ∀ x ∈ xs, x.shown.length ≤ L) (hn : xs.length ≤ n) : piled (PyData.shownAll xs) ≤ n * (L + 2) := by
  have h2 := piled_le (m := L) (PyData.shownAll xs) fun t ht => by
    obtain ⟨x, hx, rfl⟩ := shownAll_mem xs t ht
    exact h x hx
  rw [shownAll_len] at h2
  exact Nat.le_trans h2 (Nat.mul_le_mul_right _ hn)
theorem tupText_le (xs : List PyData) : (PyData.tuple xs).shown.length ≤ 5 + piled (PyData.shownAll xs) := by
  show (tupleText (PyData.shownAll xs)).length ≤ _
  have h4 : (Str.join ", " (PyData.shownAll xs)).length ≤ piled (PyData.shownAll xs) + 2 := by
    by_cases e : PyData.shownAll xs = []
    · rw [e]; decide
    · have := join_length_add _ e; omega
  unfold tupleText
  rw [strLen_append, strLen_append]
  have e1 : (Str.ofString "(").length = 1 := by decide
  have e2 : (Str.ofString (if ((PyData.shownAll xs).length == 1) = true then ",)" else ")" : String)).length ≤ 2 := by split <;> decide
  rw [e1]
  omega
/-- a thing that is shown, judged, told apart -/
structure Pz (L D : Nat) (d : PyData) : Prop where
  t : Th L D d
  p : Pp d
theorem Pz.mono {L D L' D' : Nat} {d : PyData} (h : Pz L D d) (h1 : L ≤ L') (h2 : D ≤ D') : Pz L' D' d := ⟨h.t.mono h1 h2, h.p⟩
theorem Pz.tup {xs : List PyData} {L D n : Nat} (h : ∀ x ∈ xs, Pz L D x) (hn : xs.length ≤ n) (hn2 : n ≤ 1000) : Pz (5 + n * (L + 2)) (D + 1) (.tuple xs) :=
  ⟨Th.tup (fun x hx => (h x hx).t) hn hn2, .tup fun x hx => (h x hx).p⟩
theorem Pz.lst {xs : List PyData} {L D n : Nat} (h : ∀ x ∈ xs, Pz L D x) (hn : xs.length ≤ n) (hn2 : n ≤ 1000) : Pz (2 + n * (L + 2)) (D + 1) (.list xs) :=
  ⟨Th.lst (fun x hx => (h x hx).t) hn hn2, .lst⟩
theorem Pz.int {i : Int} {k : Nat} (hk : 0 < k) (h : i.natAbs < 2 ^ k) (h2 : k ≤ 1700) : Pz (k + 1) 0 (.int i) := ⟨Th.int hk h h2, .int⟩
theorem pp_qp (q : Rat) : Pp (qp q) := .tup fun x hx => by
  simp only [List.mem_cons, List.not_mem_nil, or_false] at hx
  rcases hx with rfl | rfl <;> exact .int
theorem Pz.qp {q : Rat} {k : Nat} (hk : sz q ≤ k) (h2 : k ≤ 1700) : Pz (11 + 2 * k) 1 (DL.qp q) := ⟨Th.qp hk h2, pp_qp q⟩
theorem pz_bool {b : Bool} : Pz 110 0 (.bool b) := ⟨odd_bool, .bool⟩
theorem pz_non : Pz 110 0 .none := ⟨odd_non, .non⟩
theorem pz_str : Pz 110 0 (.str "") := ⟨⟨⟨by decide +kernel, rfl, by decide +kernel, by decide⟩, .str, by decide +kernel⟩, .str⟩
theorem pz_int {i : Int} (h : i.natAbs < 2 ^ 100) : Pz 110 0 (.int i) := ⟨odd_int h, .int⟩
/-- things of one size about a greater one -/
theorem Pz.mix {as bs : List PyData} {z : PyData} {L M D n : Nat} (ha : ∀ x ∈ as, Pz L D x) (hb : ∀ x ∈ bs, Pz L D x) (hz : Pz M D z) (hn : as.length + bs.length ≤ n) (hn2 : n < 1000) : Pz (5 + (n * (L + 2) + (M + 2))) (D + 1) (.tuple (as ++ [z] ++ bs)) := by
  have all : ∀ x ∈ as ++ [z] ++ bs, Pz (L + M) D x := fun x hx => by
    simp only [List.mem_append, List.mem_cons, List.not_mem_nil, or_false] at hx
    rcases hx with (hx | hx) | hx
    · exact (ha x hx).mono (by omega) (Nat.le_refl _)
    · rw [hx]; exact hz.mono (by omega) (Nat.le_refl _)
    · exact (hb x hx).mono (by omega) (Nat.le_refl _)
  have base := Pz.tup (n := n + 1) all (by simp only [List.length_append, List.length_cons, List.length_nil]; omega) (by omega)
  refine ⟨⟨⟨base.t.r.s, base.t.r.h, ?_, base.t.r.d⟩, base.t.t, base.t.c⟩, base.p⟩
  have h1 := tupText_le (as ++ [z] ++ bs)
  rw [shownAll_app, shownAll_app, piled_app, piled_app] at h1
  have h2 := piled_of (L := L) (n := as.length) (fun x hx => (ha x hx).t.r.l) (Nat.le_refl _)
  have h3 := piled_of (L := L) (n := bs.length) (fun x hx => (hb x hx).t.r.l) (Nat.le_refl _)
  have h4 : piled (PyData.shownAll [z]) ≤ M + 2 := by
    have := piled_of (L := M) (n := 1) (xs := [z]) (fun x hx => by
      have : x = z := by simpa using hx
      rw [this]; exact hz.t.r.l) (Nat.le_refl _)
    omega
  have h5 : as.length * (L + 2) + bs.length * (L + 2) ≤ n * (L + 2) := by rw [← Nat.add_mul]; exact Nat.mul_le_mul_right _ hn
  omega
/-- an item of a row of rows -/
abbrev It (d : PyData) : Prop := Pz 13700 2 d
/-- a paper -/
def PzE (d : PyData) : Prop := Pz 8000000 6 d ∨ d = .dict []
theorem it_p3 {x : P3} (h : P3S x) : It (p3D x) := by
  refine (Pz.tup (xs := [DL.qp x.1, DL.qp x.2.1, DL.qp x.2.2]) (L := 3291) (D := 1) (n := 3) (fun y hy => ?_) (Nat.le_refl 3) (by decide)).mono (by decide) (by decide)
  simp only [List.mem_cons, List.not_mem_nil, or_false] at hy
  rcases hy with rfl | rfl | rfl
  · exact Pz.qp (k := 1640) h.a (by decide)
  · exact Pz.qp (k := 1640) h.b (by decide)
  · exact Pz.qp (k := 1640) h.c (by decide)
theorem it_rw {R : Nat} {sh : Rat} (g : ShOk R sh) {ts : List Rat} (ht : ∀ t ∈ ts, Tot t) (hl : ts.length ≤ 130) : ∀ x ∈ (pRw sh ts).map p3D, It x := fun y hy => by
  obtain ⟨x, hx, rfl⟩ := List.mem_map.mp hy
  exact it_p3 (pRw_sz g ht (by omega) hx)
theorem pz_row {xs : List PyData} (h : ∀ x ∈ xs, It x) (hl : xs.length ≤ 400) : Pz 5500000 3 (.tuple xs) := (Pz.tup (n := 400) h hl (by decide)).mono (by decide) (by decide)
theorem pz_rowL {xs : List PyData} (h : ∀ x ∈ xs, It x) (hl : xs.length ≤ 400) : Pz 5500000 3 (.list xs) := (Pz.lst (n := 400) h hl (by decide)).mono (by decide) (by decide)
theorem floor_sz {q : Rat} {k : Nat} (h : sz q ≤ k) : q.floor.natAbs < 2 ^ (k + 1) := by
  have h1 := num_lt h
  have h2 := q.den_pos
  have p : (2 : Nat) ^ (k + 1) = 2 ^ k + 2 ^ k := by rw [Nat.pow_succ]; omega
  rw [p, Rat.floor_def]
  have d0 : (0 : Int) < (q.den : Int) := by omega
  have e1 := Int.ediv_mul_le q.num (b := (q.den : Int)) (by omega)
  have e2 := Int.lt_ediv_add_one_mul_self q.num d0
  generalize q.num / (q.den : Int) = f at e1 e2 ⊢
  have e3 : f ≤ q.num.natAbs := by
    by_cases c : f ≤ 0
    · omega
    · have := Int.mul_le_mul_of_nonneg_left (show (1 : Int) ≤ (q.den : Int) by omega) (show 0 ≤ f by omega)
      omega
  have e4 : -(q.num.natAbs : Int) - 1 ≤ f := by
    by_cases c : f + 1 ≤ 0
    · have := Int.mul_le_mul_of_nonneg_left (show (1 : Int) ≤ (q.den : Int) by omega) (show 0 ≤ -(f + 1) by omega)
      rw [Int.neg_mul, Int.neg_mul] at this
      omega
    · omega
  omega
theorem it_wr {R : Nat} {sh : Rat} (g : ShOk R sh) {ts : List Rat} (ht : ∀ t ∈ ts, Tot t) (hl : ts.length ≤ 130) : ∀ x ∈ wRw sh ts, It x := fun y hy => by
  obtain ⟨k, hk⟩ := List.mem_iff_getElem?.mp hy
  rw [wRw_get] at hk
  obtain ⟨t, htk, rfl⟩ := Option.map_eq_some_iff.mp hk
  have hk' : k < ts.length := (List.getElem?_eq_some_iff.mp htk).1
  have I := PI.run g ht k (by omega)
  have Z := I.sizes g (ht t (List.mem_of_getElem? htk)) (by omega)
  have Z2 : sz (pS sh (ts.take k)).2.1 ≤ 1640 := by
    cases k with
    | zero => rw [List.take_zero]; show sz (0 : Rat) ≤ 1640; rw [sz_zero]; decide
    | succ j =>
      have hj : j < ts.length := by omega
      rw [pS_take (List.getElem?_eq_getElem hj)]
      exact ((PI.run g ht j (by omega)).sizes g (ht _ (List.getElem_mem hj)) (by omega)).all2
  have f1 : (prow sh (pS sh (ts.take k)) t).2.1.floor.natAbs < 2 ^ 1641 := floor_sz Z.all2
  have f2 := floor_sz Z2
  have p2 : (2 : Nat) ^ 1642 = 2 ^ 1641 + 2 ^ 1641 := by rw [show (1642 : Nat) = 1641 + 1 from rfl, Nat.pow_succ]; omega
  refine (Pz.tup (xs := [.int _, .int _, DL.qp _]) (L := 3291) (D := 1) (n := 3) (fun y hy => ?_) (Nat.le_refl 3) (by decide)).mono (by decide) (by decide)
  simp only [List.mem_cons, List.not_mem_nil, or_false] at hy
  rcases hy with rfl | rfl | rfl
  · exact (Pz.int (k := 1642) (by decide) (by rw [p2]; omega) (by decide)).mono (by decide) (by decide)
  · exact (Pz.int (k := 1642) (by decide) (by rw [p2]; omega) (by decide)).mono (by decide) (by decide)
  · exact Pz.qp (k := 1640) Z.debt2 (by decide)
theorem dc_rP {K : PySem.W.Frag} {Ψ : PyData → Prop} {d : PyData} (h : PzE d) (f : Ψ (.str d.shown)) : DC K (rReprY K) [d] Ψ := by
  rcases h with h | rfl
  · exact dc_reprY h.t.r (by rw [sizeLine_eq]; decide) (by decide) f
  · exact dc_reprE f
theorem PzE.pp {d : PyData} (h : PzE d) : Pp d := by
  rcases h with h | rfl
  · exact h.p
  · exact .dic
/-! ### rows told apart by their texts -/
theorem uq_qp (q : Rat) : Uq (qp q) := Uq.tup (fun y hy => by
  simp only [List.mem_cons, List.not_mem_nil, or_false] at hy
  rcases hy with rfl | rfl <;> exact Uq.int) fun y hy => by
  simp only [List.mem_cons, List.not_mem_nil, or_false] at hy
  rcases hy with rfl | rfl <;> exact .int
theorem pp_p3 (x : P3) : Pp (p3D x) := .tup fun y hy => by
  simp only [List.mem_cons, List.not_mem_nil, or_false] at hy
  rcases hy with rfl | rfl | rfl <;> exact pp_qp _
theorem uq_p3 (x : P3) : Uq (p3D x) := Uq.tup (fun y hy => by
  simp only [List.mem_cons, List.not_mem_nil, or_false] at hy
  rcases hy with rfl | rfl | rfl <;> exact uq_qp _) fun y hy => by
  simp only [List.mem_cons, List.not_mem_nil, or_false] at hy
  rcases hy with rfl | rfl | rfl <;> exact pp_qp _
theorem uq_rw (sh : Rat) (ts : List Rat) : Uq (rwD sh ts) := Uq.tup (fun y hy => by
  obtain ⟨x, _, rfl⟩ := List.mem_map.mp hy
  exact uq_p3 x) fun y hy => by
  obtain ⟨x, _, rfl⟩ := List.mem_map.mp hy
  exact pp_p3 x
/-- so it is -/
noncomputable def tb (p : Prop) : Bool := @decide p (Classical.propDecidable _)
theorem tb_of {p : Prop} {b : Bool} (h : p ↔ b = true) : tb p = b := by
  unfold tb
  cases b
  · exact @decide_eq_false _ (Classical.propDecidable _) fun z => by have := h.mp z; cases this
  · exact @decide_eq_true _ (Classical.propDecidable _) (h.mpr rfl)
theorem shown_eq {d e : PyData} (hd : Pp d) (he : Uq e) : decide (d.shown = e.shown) = tb (d = e) := (tb_of ⟨fun h => by subst h; exact decide_eq_true rfl, fun h => he.eq hd (of_decide_eq_true h)⟩).symm
/-! ### triples of parts -/
def isTripD : PyData → Bool
  | .tuple [a, b, c] => isPartD a && (isPartD b && isPartD c)
  | _ => false
theorem isTripD_p3 (x : P3) : isTripD (p3D x) = true := by
  show (isPartD (qp x.1) && (isPartD (qp x.2.1) && isPartD (qp x.2.2))) = true
  rw [isPartD_qp, isPartD_qp, isPartD_qp]; rfl
theorem isTripD_x {d : PyData} (h : isTripD d = true) : ∃ x : P3, d = p3D x := by
  unfold isTripD at h
  split at h
  · rename_i a b c
    rw [Bool.and_eq_true, Bool.and_eq_true] at h
    obtain ⟨q, rfl⟩ := isPartD_q h.1
    obtain ⟨r, rfl⟩ := isPartD_q h.2.1
    obtain ⟨s, rfl⟩ := isPartD_q h.2.2
    exact ⟨(q, r, s), rfl⟩
  · cases h
theorem trips_of : ∀ {xs : List PyData}, (∀ d ∈ xs, isTripD d = true) → ∃ ps : List P3, xs = ps.map p3D
  | [], _ => ⟨[], rfl⟩
  | x :: xs, h => by
    obtain ⟨p, rfl⟩ := isTripD_x (h x List.mem_cons_self)
    obtain ⟨ks, rfl⟩ := trips_of (xs := xs) fun d hd => h d (List.mem_cons_of_mem _ hd)
    exact ⟨p :: ks, rfl⟩
theorem tuple3 {xs : List PyData} (h : (xs.length : Int) = 3) : ∃ a b c, xs = [a, b, c] := by
  match xs, h with
  | [a, b, c], _ => exact ⟨a, b, c, rfl⟩
def TTripB : List PyData → (PyData → Prop) → Prop := fun ds Φ => ∃ d, ds = [d] ∧ Tm d ∧ Φ (.bool (isTripD d))
def TPRight : List PyData → (PyData → Prop) → Prop := fun ds Φ => ∃ (b : Bool) (ts : List Rat) (sh : Rat) (R : Nat) (z : PyData), ds = [rowD b (ts.map qp), z, qp sh] ∧ ShOk R sh ∧ ts.length ≤ 130 ∧ (∀ t ∈ ts, Tot t) ∧ PzE z ∧ Φ (.bool (tb (z = rwD sh ts)))
local macro_rules | `(tactic| walk_at "dl") => `(tactic| repeat' (first
  | with_reducible refine wd_isTy ?_ | with_reducible refine wd_isi ?_ | ((with_reducible show WD _ _ (tOp (rIxL _) (tVar _) _) _ _); refine wd_ix_own rfl ?_) | with_reducible refine wd_op ?_ | ((with_reducible show WD _ _ (tCB (rLenX _) (tCons (tVar _) tNil)) _ _); refine wd_len_scr rfl ?_) | ((with_reducible show WD _ _ (tCB (rLenX _) (tCons (tVar _) tNil)) _ _); refine wd_len_own rfl ?_) | with_reducible refine wd_cb ?_ | with_reducible refine wd_un ?_ | with_reducible refine wa_cons ?_ | with_reducible refine wa_nil ?_ | ((with_reducible show WD _ _ (tVar _) _ _); refine wd_var rfl ?_) | with_reducible refine wd_int ?_ | with_reducible refine wd_bl ?_ | with_reducible refine wd_str ?_ | with_reducible refine wd_non ?_
  | with_reducible refine do_nesS ?_ | with_reducible refine dc_intB ?_ | with_reducible refine do_add ?_ | with_reducible refine do_sub ?_ | ((with_reducible refine do_mod ?_ ?_); decide) | with_reducible refine do_mod ?_ ?_ | with_reducible refine do_mul ?_ ?_ | ((with_reducible refine do_div ?_ ?_); exact ⟨by decide, by decide⟩) | with_reducible refine do_div ?_ ?_ | ((with_reducible refine do_pow ?_ ?_); exact ⟨by decide, by decide, by decide⟩) | with_reducible refine do_pow ?_ ?_
  | with_reducible refine do_lt ?_ | with_reducible refine do_le ?_ | with_reducible refine do_gt ?_ | with_reducible refine do_ge ?_ | with_reducible refine du_neg ?_
  | with_reducible refine do_eqi ?_ | with_reducible refine do_nei ?_ | with_reducible refine do_eqs ?_ | with_reducible refine do_nes ?_ | with_reducible refine dc_abs ?_ | with_reducible refine dc_min ?_ | with_reducible refine dc_max ?_ | with_reducible refine dc_lenL ?_ | with_reducible refine dc_lenT ?_ | with_reducible refine dc_lenR ?_ | with_reducible refine dc_listT ?_ | with_reducible refine dc_listL ?_ | with_reducible refine dc_tupL ?_ | with_reducible refine dc_gcd ?_
  | ((with_reducible show DO _ (rIxT _) _ _ _); refine do_ixT rfl ?_) | ((with_reducible show DO _ (rIxL _) _ _ _); refine do_ixL rfl ?_) | ((with_reducible refine do_catL ?_ ?_); exact Nat.le_of_ble_eq_true rfl) | with_reducible refine do_catL ?_ ?_ | ((with_reducible show And (List.length _ ≤ sizeLine) _); refine ⟨Nat.le_of_ble_eq_true rfl, ?_⟩)
  | with_reducible refine wd_dnew ?_ | with_reducible refine wd_call0 ?_ | with_reducible refine wd_slA ?_ | with_reducible refine wd_slL ?_ | with_reducible refine wd_revT ?_ | with_reducible refine do_catA ?_ ?_ | with_reducible refine wo_part ?_ | with_reducible refine wo_none ?_ | with_reducible refine do_eqQ ?_ | with_reducible refine do_neQ ?_ | with_reducible refine wi_enumT ?_ | with_reducible refine wi_enumD ?_ | with_reducible refine tAdQ (by omega) (by omega) ?_ | with_reducible refine tSbQ (by omega) (by omega) ?_ | with_reducible refine tMlQ (by omega) (by omega) ?_ | with_reducible refine tDvQ (by assumption) (by omega) (by omega) ?_ | with_reducible refine tLtQ (by omega) (by omega) ?_ | with_reducible refine dc_str ?_ ?_ | with_reducible refine wd_tup ?_ | with_reducible refine wd_lst ?_ | with_reducible refine wt_test ?_ | with_reducible refine wt_B ?_ | with_reducible refine wt_not ?_ | with_reducible refine wt_and ?_ | with_reducible refine wt_or ?_ | with_reducible refine wd_ifE ?_ | with_reducible refine wd_andV ?_ | with_reducible refine wd_orV ?_ | with_reducible refine wd_notV ?_
  | with_reducible refine ws_seq ?_ | with_reducible refine ws_next ?_ | with_reducible refine ws_asg ?_ | with_reducible refine ws_ret ?_ | with_reducible refine ws_retN ?_ | with_reducible refine ws_if ?_ | with_reducible refine ws_par ?_ | with_reducible refine ws_unp2 ?_
  | with_reducible refine if_t ?_ | with_reducible refine if_f ?_ | with_reducible refine if_nf ?_ | with_reducible refine if_nt ?_
  | ((with_reducible show Exists _); first | refine ⟨_, kitInt _, ?_⟩ | refine ⟨_, kitBool _, ?_⟩ | refine ⟨_, kitTup _, ?_⟩ | refine ⟨_, kitList _, ?_⟩ | refine ⟨_, rfl, ?_⟩ | refine ⟨_, _, rfl, ?_⟩ | fail) | fail))
def t_tripb (K : PySem.W.Frag) : TS :=
  (tRet (tAndV (tOp rIsTyX (tCB (rTyp K) (tCons (tVar 0) tNil)) (tC (.ty "tuple"))) (tAndV (tOp rEq (tCB (rLenX K) (tCons (tVar 0) tNil)) (tC (.int 3))) (tCB (rAll K) (tCons (tLc (iTup K (tVar 0)) (gName 1) tYes (tCall (spP K TPartB) [] E0 (tCons (tVar 1) tNil)) [1]) tNil)))))
def t_pright (K : PySem.W.Frag) : TS :=
  (tSeq (tAsg (tCallN 1 1 (spP K TPays) gVps E0 (tCons (tVar 0) tNil) (tCons (tVar 2) tNil)) (gName 3))
    (tSeq (tIfS (tNot (tAnd (tTest (tOp rIsTyX (tCB (rTyp K) (tCons (tVar 1) tNil)) (tC (.ty "tuple")))) (tB (tCB (rAll K) (tCons (tLc (iTup K (tVar 1)) (gName 4) tYes (tCall (spP K TTripB) [] E0 (tCons (tVar 4) tNil)) [4]) tNil))))) (tRet (tC (.bl false))) tNext)
    (tRet (tOp (rEqD K) (tVar 1) (tVar 3)))))
section
variable {K : PySem.W.Frag} {ds : List PyData} {Φ : PyData → Prop}
theorem ws_tripb (h : TTripB ds Φ) : WS K S0 (t_tripb K) (rhoOf 2 ds) { nx := fun _ => Φ .none, rt := fun d _ => Φ d } := by
  obtain ⟨d, rfl, tm, h⟩ := h
  show WS K S0 (t_tripb K) [.dat d, .unk] _
  unfold t_tripb
  have no : isTripD d = false → Φ (.bool false) := fun z => by rw [z] at h; exact h
  walk_at "dl"
  refine if_b (fun ht => ?_) (fun ht => ?_)
  · obtain ⟨xs, rfl⟩ := tuple_of ht
    walk_at "dl"
    refine if_b (fun hl => ?_) (fun hl => ?_)
    · obtain ⟨a, b, c, rfl⟩ := tuple3 hl
      walk_at "dl"
      refine wd_lc (wi_tup ?_)
      walk_at "dl"
      refine ⟨fun j acc ρ => acc = (([a, b, c].take j).map isPartD).map PyData.bool ∧ ∃ s1 : Sl, ρ = [.dat (.tuple [a, b, c]), s1], ⟨rfl, _, rfl⟩, ?_, ?_⟩
      · rintro j d acc ρ2 hd ⟨rfl, s1, rfl⟩
        refine ⟨_, _, gd_name, fun j hj => hj, ?_⟩
        refine wt_yes ?_
        walk_at "dl"
        refine ⟨d, rfl, ?_, _, rfl⟩
        rw [List.take_add_one, hd, Option.toList_some, List.map_append, List.map_append]; rfl
      · rintro acc ρ2 ⟨rfl, s1, rfl⟩
        rw [List.take_length]
        walk_at "dl"
        refine dc_all ?_
        have e : isTripD (.tuple [a, b, c]) = ([a, b, c].map isPartD).all id := by
          show (isPartD a && (isPartD b && isPartD c)) = (isPartD a && (isPartD b && (isPartD c && true)))
          rw [Bool.and_true]
        rw [e] at h; exact h
    · refine no ?_
      cases hk : isTripD (.tuple xs) with
      | false => rfl
      | true =>
        obtain ⟨x, e⟩ := isTripD_x hk
        injection e with e
        exact absurd (by rw [e]; rfl) hl
  · refine no ?_
    cases d <;> first | rfl | exact absurd rfl ht
theorem ws_pright (h : TPRight ds Φ) : WS K S0 (t_pright K) (rhoOf 5 ds) { nx := fun _ => Φ .none, rt := fun d _ => Φ d } := by
  obtain ⟨b, ts, sh, R, z, rfl, hs, hl, hT, hz, h⟩ := h
  show WS K S0 (t_pright K) [.dat (rowD b (ts.map qp)), .dat z, .dat (qp sh), .unk, .unk] _
  unfold t_pright
  have no : z ≠ rwD sh ts → Φ (.bool false) := fun c => by rw [tb_of (b := false) ⟨fun e => absurd e c, fun e => by cases e⟩] at h; exact h
  refine ws_seq (ws_asg (wd_payS (wd_var rfl (wd_var rfl ⟨b, ts, sh, R, rfl, rfl, hs, hl, hT, ?_⟩))))
  walk_at "dl"
  refine if_b (fun ht => ?_) (fun ht => ?_)
  · obtain ⟨xs, rfl⟩ := tuple_of ht
    have tm : Tm (.tuple xs) := by
      rcases hz with hz | hz
      · exact hz.t.t
      · cases hz
    have xl := tm.len
    walk_at "dl"
    refine wd_lc (wi_tup ?_)
    walk_at "dl"
    refine ⟨by rw [sizeLine_eq]; omega, fun j acc ρ => acc = ((xs.take j).map isTripD).map PyData.bool ∧ ∃ s1 : Sl, ρ = [.dat (rowD b (ts.map qp)), .dat (.tuple xs), .dat (qp sh), .dat (rwD sh ts), s1], ⟨rfl, _, rfl⟩, ?_, ?_⟩
    · rintro j d acc ρ2 hd ⟨rfl, s1, rfl⟩
      refine ⟨_, _, gd_name, fun j hj => hj, ?_⟩
      refine wt_yes ?_
      walk_at "dl"
      refine ⟨d, rfl, tm.mem (List.mem_of_getElem? hd), ?_, _, rfl⟩
      rw [List.take_add_one, hd, Option.toList_some, List.map_append, List.map_append]; rfl
    · rintro acc ρ2 ⟨rfl, s1, rfl⟩
      rw [List.take_length]
      walk_at "dl"
      refine dc_all ?_
      refine ⟨_, rfl, ?_⟩
      cases ha : (xs.map isTripD).all id with
      | false =>
        walk_at "dl"
        refine no fun e => ?_
        injection e with e
        have : (xs.map isTripD).all id = true := by
          rw [e, List.all_eq_true]
          intro x hx
          obtain ⟨y, hy, rfl⟩ := List.mem_map.mp hx
          obtain ⟨p, _, rfl⟩ := List.mem_map.mp hy
          exact isTripD_p3 p
        rw [this] at ha; cases ha
      | true =>
        obtain ⟨ps, rfl⟩ := trips_of (xs := xs) fun d hd => List.all_eq_true.mp ha _ (List.mem_map.mpr ⟨d, hd, rfl⟩)
        walk_at "dl"
        have nbq : ∀ q : Rat, noB (qp q) = true := fun q => rfl
        have nb3 : ∀ x : P3, noB (p3D x) = true := fun x => rfl
        have nbA : ∀ l : List P3, noBAll (l.map p3D) = true := fun l => by
          induction l with
          | nil => rfl
          | cons a r ih => show (noB (p3D a) && noBAll (r.map p3D)) = true; rw [nb3, ih]; rfl
        refine do_eqU (Sh.tup (n := 2) fun x hx => ?_) Sh.rw (by decide) (by decide) (nbA ps) (nbA _) fun b hb => ?_
        · obtain ⟨q, _, rfl⟩ := List.mem_map.mp hx
          exact Sh.p3
        · rw [tb_of hb.symm] at h; exact h
  · walk_at "dl"
    exact no fun e => ht (by rw [e]; rfl)
end
end DL

set_option Elab.async false
set_option linter.all false
set_option maxRecDepth 100000
set_option maxHeartbeats 4000000
/-! PQA: papers drawn -/
namespace DL
open PySem PySem.Spec PyProof.Rows L2
abbrev Ot (d : PyData) : Prop := Pz 3400 1 d
theorem ot_q {q : Rat} (h : sz q ≤ 1660) : Ot (qp q) := (Pz.qp h (by decide)).mono (by decide) (by decide)
theorem ot_pr {i j : Int} (h1 : i.natAbs < 2 ^ 1660) (h2 : j.natAbs < 2 ^ 1660) : Ot (.tuple [.int i, .int j]) := by
  refine (Pz.tup (xs := [.int i, .int j]) (L := 1661) (D := 0) (n := 2) (fun x hx => ?_) (Nat.le_refl 2) (by decide)).mono (by decide) (by decide)
  simp only [List.mem_cons, List.not_mem_nil, or_false] at hx
  rcases hx with rfl | rfl
  · exact Pz.int (by decide) h1 (by decide)
  · exact Pz.int (by decide) h2 (by decide)
theorem ot_lst {i j : Int} (h1 : i.natAbs < 2 ^ 1660) (h2 : j.natAbs < 2 ^ 1660) : Ot (.list [.int i, .int j]) := by
  refine (Pz.lst (xs := [.int i, .int j]) (L := 1661) (D := 0) (n := 2) (fun x hx => ?_) (Nat.le_refl 2) (by decide)).mono (by decide) (by decide)
  simp only [List.mem_cons, List.not_mem_nil, or_false] at hx
  rcases hx with rfl | rfl
  · exact Pz.int (by decide) h1 (by decide)
  · exact Pz.int (by decide) h2 (by decide)
theorem ot_prb {i : Int} {b : Bool} (h1 : i.natAbs < 2 ^ 1660) : Ot (.tuple [.int i, .bool b]) := by
  refine (Pz.tup (xs := [.int i, .bool b]) (L := 1661) (D := 0) (n := 2) (fun x hx => ?_) (Nat.le_refl 2) (by decide)).mono (by decide) (by decide)
  simp only [List.mem_cons, List.not_mem_nil, or_false] at hx
  rcases hx with rfl | rfl
  · exact Pz.int (by decide) h1 (by decide)
  · exact pz_bool.mono (by decide) (by decide)
def TOther : Nat → List PyData → (PyData → Nat → Prop) → Prop := fun B ds Φ => ∃ q : Rat, ds = [qp q] ∧ sz q ≤ 1640 ∧ B + 800 ≤ 2 ^ 40 ∧ ∀ z, Ot z → Φ z (B + 800)
def TRowO : Nat → List PyData → (PyData → Nat → Prop) → Prop := fun B ds Φ => ∃ x : P3, ds = [p3D x] ∧ P3S x ∧ B + 1600 ≤ 2 ^ 40 ∧ ∀ z B', B' ≤ B + 1600 → It z → Φ z B'
def TSpoil : Nat → List PyData → (PyData → Nat → Prop) → Prop := fun B ds Φ => ∃ (ts : List Rat) (sh : Rat) (R : Nat), ds = [rwD sh ts] ∧ ShOk R sh ∧ ts.length ≤ 130 ∧ (∀ t ∈ ts, Tot t) ∧ B + 3000 ≤ 2 ^ 40 ∧ ∀ z B', B' ≤ B + 3000 → PzE z → Φ z B'
def TPaper : Nat → List PyData → (PyData → Nat → Prop) → Prop := fun B ds Φ => ∃ (ts us : List Rat) (sh : Rat) (R : Nat), ds = [.list (ts.map qp), qp sh, .list (us.map qp)] ∧ ShOk R sh ∧ ts.length ≤ 130 ∧ (∀ t ∈ ts, Tot t) ∧ us.length ≤ 130 ∧ (∀ t ∈ us, Tot t) ∧ B + 4000 ≤ 2 ^ 40 ∧ ∀ z B', B' ≤ B + 4000 → PzE z → Φ z B'
local macro_rules | `(tactic| walk_at "dl") => `(tactic| repeat' (first
  | with_reducible refine wd_isTy ?_ | with_reducible refine wd_isi ?_ | ((with_reducible show WD _ _ (tOp (rIxL _) (tVar _) _) _ _); refine wd_ix_own rfl ?_) | with_reducible refine wd_op ?_ | ((with_reducible show WD _ _ (tCB (rLenX _) (tCons (tVar _) tNil)) _ _); refine wd_len_scr rfl ?_) | ((with_reducible show WD _ _ (tCB (rLenX _) (tCons (tVar _) tNil)) _ _); refine wd_len_own rfl ?_) | with_reducible refine wd_cb ?_ | with_reducible refine wd_un ?_ | with_reducible refine wa_cons ?_ | with_reducible refine wa_nil ?_ | ((with_reducible show WD _ _ (tVar _) _ _); refine wd_var rfl ?_) | with_reducible refine wd_int ?_ | with_reducible refine wd_bl ?_ | with_reducible refine wd_str ?_ | with_reducible refine wd_non ?_
  | with_reducible refine do_nesS ?_ | with_reducible refine dc_intB ?_ | with_reducible refine do_add ?_ | with_reducible refine do_sub ?_ | ((with_reducible refine do_mod ?_ ?_); decide) | with_reducible refine do_mod ?_ ?_ | with_reducible refine do_mul ?_ ?_ | ((with_reducible refine do_div ?_ ?_); exact ⟨by decide, by decide⟩) | with_reducible refine do_div ?_ ?_ | ((with_reducible refine do_pow ?_ ?_); exact ⟨by decide, by decide, by decide⟩) | with_reducible refine do_pow ?_ ?_
  | with_reducible refine do_lt ?_ | with_reducible refine do_le ?_ | with_reducible refine do_gt ?_ | with_reducible refine do_ge ?_ | with_reducible refine du_neg ?_
  | with_reducible refine do_eqi ?_ | with_reducible refine do_nei ?_ | with_reducible refine do_eqs ?_ | with_reducible refine do_nes ?_ | with_reducible refine dc_abs ?_ | with_reducible refine dc_min ?_ | with_reducible refine dc_max ?_ | with_reducible refine dc_lenL ?_ | with_reducible refine dc_lenT ?_ | with_reducible refine dc_lenR ?_ | with_reducible refine dc_listT ?_ | with_reducible refine dc_listL ?_ | with_reducible refine dc_tupL ?_ | with_reducible refine dc_gcd ?_
  | ((with_reducible show DO _ (rIxT _) _ _ _); refine do_ixT rfl ?_) | ((with_reducible show DO _ (rIxL _) _ _ _); refine do_ixL rfl ?_) | ((with_reducible refine do_catL ?_ ?_); exact Nat.le_of_ble_eq_true rfl) | with_reducible refine do_catL ?_ ?_ | ((with_reducible show And (List.length _ ≤ sizeLine) _); refine ⟨Nat.le_of_ble_eq_true rfl, ?_⟩)
  | with_reducible refine wd_dnew ?_ | with_reducible refine wd_call0 ?_ | with_reducible refine wd_slA ?_ | with_reducible refine wd_slL ?_ | with_reducible refine wd_revT ?_ | with_reducible refine do_catA ?_ ?_ | with_reducible refine wo_part ?_ | with_reducible refine wo_none ?_ | with_reducible refine do_eqQ ?_ | with_reducible refine do_neQ ?_ | with_reducible refine wi_enumT ?_ | with_reducible refine wi_enumD ?_ | with_reducible refine tAdQ (by omega) (by omega) ?_ | with_reducible refine tSbQ (by omega) (by omega) ?_ | with_reducible refine tMlQ (by omega) (by omega) ?_ | with_reducible refine tDvQ (by assumption) (by omega) (by omega) ?_ | with_reducible refine tLtQ (by omega) (by omega) ?_ | with_reducible refine dc_str ?_ ?_ | with_reducible refine wd_tup ?_ | with_reducible refine wd_lst ?_ | with_reducible refine wt_test ?_ | with_reducible refine wt_B ?_ | with_reducible refine wt_not ?_ | with_reducible refine wt_and ?_ | with_reducible refine wt_or ?_ | with_reducible refine wd_ifE ?_ | with_reducible refine wd_andV ?_ | with_reducible refine wd_orV ?_ | with_reducible refine wd_notV ?_
  | with_reducible refine ws_seq ?_ | with_reducible refine ws_next ?_ | with_reducible refine ws_asg ?_ | with_reducible refine ws_ret ?_ | with_reducible refine ws_retN ?_ | with_reducible refine ws_if ?_ | with_reducible refine ws_par ?_ | with_reducible refine ws_unp2 ?_
  | with_reducible refine if_t ?_ | with_reducible refine if_f ?_ | with_reducible refine if_nf ?_ | with_reducible refine if_nt ?_
  | ((with_reducible show Exists _); first | refine ⟨_, kitInt _, ?_⟩ | refine ⟨_, kitBool _, ?_⟩ | refine ⟨_, kitTup _, ?_⟩ | refine ⟨_, kitList _, ?_⟩ | refine ⟨_, rfl, ?_⟩ | refine ⟨_, _, rfl, ?_⟩ | fail) | fail))
def t_other (K : PySem.W.Frag) : TS :=
  (tSeq (tAsg (tCall (spS K FSto TDr) [] E0 (tCons (tVar 0) (tCons (tC (.int 9)) tNil))) (gName 2))
    (tSeq (tAsg (tCall (spP K TLow) [] E0 (tCons (tC (.int 1)) (tCons (tOp rAddI (tC (.int 1)) (tCall (spS K FSto TDr) [] E0 (tCons (tVar 0) (tCons (tC (.int 1000)) tNil)))) tNil))) (gName 3))
    (tSeq (tIfS (tNot (tB (tCB (rIsi K) (tCons (tVar 1) (tCons (tC (.ty "tuple")) tNil))))) (tRet (tOp (rIxL K) (tLst (tCons (tOp (rCatA K) (tVar 1) (tC (.int 1))) (tCons (tOp rSubI (tVar 1) (tC (.int 1))) (tCons (tC .non) tNil)))) (tOp rModI (tVar 2) (tC (.int 3))))) tNext)
    (tSeq (tAsg (tLst (tCons (tCall (spP K TAdQ) [] E0 (tCons (tVar 1) (tCons (tVar 3) tNil))) (tCons (tCall (spP K TSbQ) [] E0 (tCons (tVar 1) (tCons (tVar 3) tNil))) (tCons (tTup (tCons (tOp rSubI (tC (.int 0)) (tOp (rIxT K) (tVar 1) (tC (.int 0)))) (tCons (tOp (rIxT K) (tVar 1) (tC (.int 1))) tNil))) (tCons (tTup (tCons (tC (.int 0)) (tCons (tC (.int 1)) tNil))) (tCons (tTup (tCons (tOp rMulI (tC (.int 2)) (tOp (rIxT K) (tVar 1) (tC (.int 0)))) (tCons (tOp rMulI (tC (.int 2)) (tOp (rIxT K) (tVar 1) (tC (.int 1)))) tNil))) tNil)))))) (gName 4))
    (tRet (tOp (rIxL K) (tOp rCatL (tVar 4) (tLst (tCons (tTup (tCons (tOp (rIxT K) (tVar 1) (tC (.int 0))) (tCons (tC (.bl true)) tNil))) (tCons (tC .non) (tCons (tCB (rListOf K) (tCons (tVar 1) tNil)) (tCons (tOp (rIxT K) (tVar 1) (tC (.int 0))) tNil)))))) (tVar 2)))))))
def t_rowo (K : PySem.W.Frag) : TS :=
  (tSeq (tAsg (tCall (spS K FSto TDr) [] E0 (tCons (tVar 0) (tCons (tC (.int 7)) tNil))) (gName 2))
    (tSeq (tAsg (tCall (spS K FSto TDr) [] E0 (tCons (tVar 0) (tCons (tC (.int 3)) tNil))) (gName 3))
    (tSeq (tIfS (tTest (tOp rLt (tVar 2) (tC (.int 4)))) (tRet (tOp (rCatA K) (tOp (rCatA K) (tSl (rSlA K) (tVar 1) tNoPart (tPart (tVar 3))) (tTup (tCons (tCall (spS K FSto TOther) [] E0 (tCons (tVar 0) (tCons (tOp (rIxT K) (tVar 1) (tVar 3)) tNil))) tNil))) (tSl (rSlA K) (tVar 1) (tPart (tOp rAddI (tVar 3) (tC (.int 1)))) tNoPart))) tNext)
    (tRet (tOp (rIxL K) (tLst (tCons (tCB (rListOf K) (tCons (tVar 1) tNil)) (tCons (tSl (rSlA K) (tVar 1) tNoPart (tPart (tC (.int 2)))) (tCons (tOp (rCatA K) (tVar 1) (tTup (tCons (tTup (tCons (tC (.int 0)) (tCons (tC (.int 1)) tNil))) tNil))) tNil)))) (tOp rSubI (tVar 2) (tC (.int 4))))))))
def t_spoil (K : PySem.W.Frag) : TS :=
  (tSeq (tAsg (tCall (spS K FSto TDr) [] E0 (tCons (tVar 0) (tCons (tC (.int 8)) tNil))) (gName 2))
    (tSeq (tAsg (tCall (spS K FSto TDr) [] E0 (tCons (tVar 0) (tCons (tOp rAddI (tCB (rLenX K) (tCons (tVar 1) tNil)) (tC (.int 1))) tNil))) (gName 3))
    (tSeq (tIfS (tOr (tTest (tOp rEq (tVar 2) (tC (.int 0)))) (tTest (tOp rEq (tVar 3) (tCB (rLenX K) (tCons (tVar 1) tNil))))) (tRet (tOp (rIxL K) (tLst (tCons (tOp (rCatA K) (tSl (rSlA K) (tVar 1) tNoPart (tPart (tVar 3))) (tSl (rSlA K) (tVar 1) (tPart (tOp rAddI (tVar 3) (tC (.int 1)))) tNoPart)) (tCons (tOp (rCatA K) (tVar 1) (tTup (tCons (tTup (tCons (tTup (tCons (tC (.int 0)) (tCons (tC (.int 1)) tNil))) (tCons (tTup (tCons (tC (.int 0)) (tCons (tC (.int 1)) tNil))) (tCons (tTup (tCons (tC (.int 0)) (tCons (tC (.int 1)) tNil))) tNil)))) tNil))) (tCons (tCB (rListOf K) (tCons (tVar 1) tNil)) (tCons (tC .non) (tCons (tC (.int 7)) (tCons (tC (.str "")) (tCons tDNewK tNil)))))))) (tCall (spS K FSto TDr) [] E0 (tCons (tVar 0) (tCons (tC (.int 7)) tNil))))) tNext)
    (tSeq (tIfS (tTest (tOp rEq (tVar 2) (tC (.int 1)))) (tRet (tOp (rCatA K) (tOp (rCatA K) (tSl (rSlA K) (tVar 1) tNoPart (tPart (tVar 3))) (tSl (rSlA K) (tVar 1) (tPart (tVar 3)) (tPart (tOp rAddI (tVar 3) (tC (.int 1)))))) (tSl (rSlA K) (tVar 1) (tPart (tVar 3)) tNoPart))) tNext)
    (tSeq (tIfS (tTest (tOp rEq (tVar 2) (tC (.int 2)))) (tRet (tOp (rCatA K) (tOp (rCatA K) (tSl (rSlA K) (tVar 1) tNoPart (tPart (tVar 3))) (tRevT K (tSl (rSlA K) (tVar 1) (tPart (tVar 3)) (tPart (tOp rAddI (tVar 3) (tC (.int 2))))))) (tSl (rSlA K) (tVar 1) (tPart (tOp rAddI (tVar 3) (tC (.int 2)))) tNoPart))) tNext)
    (tSeq (tIfS (tTest (tOp rEq (tVar 2) (tC (.int 3)))) (tRet (tOp (rCatA K) (tOp (rCatA K) (tSl (rSlA K) (tVar 1) tNoPart (tPart (tVar 3))) (tTup (tCons (tOp (rIxL K) (tLst (tCons (tC .non) (tCons (tC (.int 7)) (tCons (tC (.str "")) (tCons (tTup tNil) (tCons (tVar 1) tNil)))))) (tCall (spS K FSto TDr) [] E0 (tCons (tVar 0) (tCons (tC (.int 5)) tNil)))) tNil))) (tSl (rSlA K) (tVar 1) (tPart (tOp rAddI (tVar 3) (tC (.int 1)))) tNoPart))) tNext)
    (tRet (tOp (rCatA K) (tOp (rCatA K) (tSl (rSlA K) (tVar 1) tNoPart (tPart (tVar 3))) (tTup (tCons (tCall (spS K FSto TRowO) [] E0 (tCons (tVar 0) (tCons (tOp (rIxT K) (tVar 1) (tVar 3)) tNil))) tNil))) (tSl (rSlA K) (tVar 1) (tPart (tOp rAddI (tVar 3) (tC (.int 1)))) tNoPart)))))))))
def t_paper (K : PySem.W.Frag) (aO : Addr) : TS :=
  (tSeq (tAsg (tCall (spS K FSto TDr) [] E0 (tCons (tVar 0) (tCons (tC (.int 10)) tNil))) (gName 4))
    (tSeq (tAsg (tCallN 1 1 (spP K TPays) gVps E0 (tCons (tVar 1) tNil) (tCons (tVar 2) tNil)) (gName 5))
    (tSeq (tIfS (tTest (tOp rLt (tVar 4) (tC (.int 2)))) (tRet (tVar 5)) tNext)
    (tSeq (tIfS (tTest (tOp rEq (tVar 4) (tC (.int 2)))) (tRet (tOp (rIxL K) (tLst (tCons (tCall (spP K TPays) [.ref aO, .bl false] E0 (tCons (tVar 1) tNil)) (tCons (tCallN 1 2 (spP K TPays) gVapp E0 (tCons (tVar 1) tNil) (tCons (tVar 2) (tCons (tC (.bl true)) tNil))) (tCons (tCall (spP K TPays) [.ref aO, .bl false] E0 (tCons (tVar 3) tNil)) tNil)))) (tCall (spS K FSto TDr) [] E0 (tCons (tVar 0) (tCons (tC (.int 3)) tNil))))) tNext)
    (tRet (tCall (spS K FSto TSpoil) [] E0 (tCons (tVar 0) (tCons (tVar 5) tNil))))))))
section
variable {K : PySem.W.Frag} {S : Stt} {B : Nat} {ds : List PyData} {Φ : PyData → Nat → Prop}
theorem ws_other (hF : FSto S) (h : TOther B ds Φ) : WS K S (t_other K) (.sto B :: rhoOf 4 ds) { nx := fun _ => False, rt := fun d ρ => ∃ B', ρ[0]? = some (.sto B') ∧ Φ d B' } := by
  obtain ⟨q, rfl, hq, hB, hΦ⟩ := h
  show WS K S (t_other K) [.sto B, .dat (qp q), .unk, .unk, .unk] _
  unfold t_other
  have L : ∀ m : Int, m ≤ 1000000 → m ≤ 2 ^ 1899 := fun m hm => Int.le_trans hm big1899
  have n1 : q.num.natAbs < 2 ^ 1640 := num_lt hq
  have n2 : (q.den : Int).natAbs < 2 ^ 1640 := den_lt hq
  have p1 : (2 : Nat) ^ 1660 = 2 ^ 20 * 2 ^ 1640 := by rw [← Nat.pow_add]
  refine ws_seq (ws_asg (wd_drawc hF rfl (by decide) (L _ (by decide)) (by omega) fun w w0 w1 => ?_))
  refine ws_seq (ws_asg (wd_call0 (wa_cons (wd_int (wa_cons (wd_op (wd_int (wd_drawc hF rfl (by decide) (L _ (by decide)) (by omega) fun z z0 z1 => do_add (wa_nil ?_)))))))))
  have big : (2 ^ 14 : Nat) ≤ 2 ^ 8000 := Nat.pow_le_pow_right (by decide) (by decide)
  refine ⟨1, 1 + z, rfl, by omega, Nat.lt_of_lt_of_le (by decide) big, Nat.lt_of_lt_of_le (by omega) big, ?_⟩
  have hs : sz (Rat.divInt 1 (1 + z)) ≤ 10 := sz_di (by omega) (by omega)
  generalize Rat.divInt 1 (1 + z) = st at hs ⊢
  have s1 := sz_add q st
  have s2 := sz_sub q st
  refine ws_seq (ws_if (wt_not (wt_B (wd_isi (wd_var rfl ⟨true, rfl, ⟨true, rfl, ?_⟩⟩)))))
  refine if_nt (ws_next ?_)
  walk_at "dl"
  · exact wide_mul (a := 3) (b := 1640) (by decide) n1 (by decide) (by decide) (by decide)
  · exact wide_mul (a := 3) (b := 1640) (by decide) n2 (by decide) (by decide) (by decide)
  walk_at "dl"
  refine dc_listT (ds := [.int q.num, .int (q.den : Int)]) ?_
  walk_at "dl"
  refine ixAll (P := Ot) w0 (by simp; omega) (fun x hx => ?_) fun z hz => ⟨_, rfl, hΦ z hz⟩
  simp only [List.cons_append, List.nil_append, List.mem_cons, List.not_mem_nil, or_false] at hx
  rcases hx with rfl | rfl | rfl | rfl | rfl | rfl | rfl | rfl | rfl
  · exact ot_q (by omega)
  · exact ot_q (by omega)
  · exact ot_pr (by rw [p1]; omega) (by rw [p1]; omega)
  · exact ot_pr (by decide) (by decide)
  · exact ot_pr (by rw [p1]; omega) (by rw [p1]; omega)
  · exact ot_prb (by rw [p1]; omega)
  · exact pz_non.mono (by decide) (by decide)
  · exact ot_lst (by rw [p1]; omega) (by rw [p1]; omega)
  · exact (Pz.int (k := 1640) (by decide) n1 (by decide)).mono (by decide) (by decide)
theorem it_row {xs : List PyData} (h : ∀ x ∈ xs, Ot x) (hl : xs.length ≤ 4) : It (.tuple xs) := (Pz.tup (n := 4) h hl (by decide)).mono (by decide) (by decide)
theorem it_rowL {xs : List PyData} (h : ∀ x ∈ xs, Ot x) (hl : xs.length ≤ 4) : It (.list xs) := (Pz.lst (n := 4) h hl (by decide)).mono (by decide) (by decide)
theorem ws_rowo (hF : FSto S) (h : TRowO B ds Φ) : WS K S (t_rowo K) (.sto B :: rhoOf 3 ds) { nx := fun _ => False, rt := fun d ρ => ∃ B', ρ[0]? = some (.sto B') ∧ Φ d B' } := by
  obtain ⟨x, rfl, hx, hB, hΦ⟩ := h
  have hx' := hx
  show WS K S (t_rowo K) [.sto B, .dat (.tuple [qp x.1, qp x.2.1, qp x.2.2]), .unk, .unk] _
  unfold t_rowo
  have L : ∀ m : Int, m ≤ 1000000 → m ≤ 2 ^ 1899 := fun m hm => Int.le_trans hm big1899
  have oq : ∀ q : Rat, sz q ≤ 1640 → Ot (qp q) := fun q h => ot_q (by omega)
  have o3 : ∀ y ∈ [qp x.1, qp x.2.1, qp x.2.2], Ot y := fun y hy => by
    simp only [List.mem_cons, List.not_mem_nil, or_false] at hy
    rcases hy with rfl | rfl | rfl
    · exact oq _ hx.a
    · exact oq _ hx.b
    · exact oq _ hx.c
  refine ws_seq (ws_asg (wd_drawc hF rfl (by decide) (L _ (by decide)) (by omega) fun w w0 w1 => ?_))
  refine ws_seq (ws_asg (wd_drawc hF rfl (by decide) (L _ (by decide)) (by omega) fun z z0 z1 => ?_))
  obtain ⟨k, rfl⟩ : ∃ k : Nat, z = k := ⟨z.toNat, by omega⟩
  have hk : k < 3 := by omega
  obtain ⟨q, hq, zq⟩ : ∃ q : Rat, [qp x.1, qp x.2.1, qp x.2.2][k]? = some (qp q) ∧ sz q ≤ 1640 := by
    match k, hk with
    | 0, _ => exact ⟨_, rfl, hx.a⟩
    | 1, _ => exact ⟨_, rfl, hx.b⟩
    | 2, _ => exact ⟨_, rfl, hx.c⟩
  have cl : ∀ lo hi, (cutD [qp x.1, qp x.2.1, qp x.2.2] lo hi).length ≤ 3 := fun lo hi => cutD_le
  have fin : ∀ (xs : List PyData) (b' : Nat), b' ≤ B + 1600 → xs.length ≤ 4 → (∀ x ∈ xs, Ot x) → Φ (.tuple xs) b' := fun xs b' hb hl hx => hΦ _ _ hb (it_row hx hl)
  have c1 := cutD_le (l := [qp x.1, qp x.2.1, qp x.2.2]) (lo := none) (hi := some (k : Int))
  have c3 : (cutD [qp x.1, qp x.2.1, qp x.2.2] none (some (k : Int))).length + (cutD [qp x.1, qp x.2.1, qp x.2.2] (some ((k : Int) + 1)) none).length ≤ 2 := by
    match k, hk with
    | 0, _ => exact (by decide : (0 : Nat) + 2 ≤ 2)
    | 1, _ => exact (by decide : (1 : Nat) + 1 ≤ 2)
    | 2, _ => exact (by decide : (2 : Nat) + 0 ≤ 2)
  have sz16 : sizeLine = 16777216 := sizeLine_eq
  walk_at "dl"
  refine if_b (fun c => ?_) (fun c => ?_)
  · refine ws_ret ?_
    walk_at "dl"
    refine wd_callS hF rfl (wa_cons (wd_op (wd_var rfl (wd_var rfl (do_ixTn (k := k) rfl hq (wa_nil ⟨_, rfl, q, rfl, zq, by omega, fun o ho => ?_⟩))))))
    walk_at "dl"
    all_goals first | omega | (simp only [List.length_append, List.length_cons, List.length_nil]; omega) | skip
    refine fin _ _ (by omega) (by simp only [List.length_append, List.length_cons, List.length_nil]; omega) (fun x hx => ?_)
    simp only [List.mem_append, List.mem_cons, List.not_mem_nil, or_false] at hx
    rcases hx with (hx | hx) | hx
    · exact o3 _ (cutD_sub hx)
    · rw [hx]; exact ho
    · exact o3 _ (cutD_sub hx)
  · walk_at "dl"
    all_goals first | omega | (simp only [List.length_append, List.length_cons, List.length_nil]; omega) | skip
    refine ixAll (P := It) (by omega) (by simp; omega) (fun y hy => ?_) fun z hz => ⟨_, rfl, hΦ z _ (by omega) hz⟩
    simp only [List.mem_cons, List.not_mem_nil, or_false] at hy
    rcases hy with rfl | rfl | rfl
    · exact it_rowL o3 (by show 3 ≤ 4; decide)
    · exact it_row (fun x hx => o3 x (cutD_sub hx)) (Nat.le_trans cutD_le (by show 3 ≤ 4; decide))
    · refine it_row (fun x hx => ?_) (by show 4 ≤ 4; decide)
      simp only [List.cons_append, List.nil_append, List.mem_cons, List.not_mem_nil, or_false] at hx
      rcases hx with rfl | rfl | rfl | rfl
      · exact oq _ hx'.a
      · exact oq _ hx'.b
      · exact oq _ hx'.c
      · exact ot_pr (by decide) (by decide)
theorem ws_spoil (hF : FSto S) (h : TSpoil B ds Φ) : WS K S (t_spoil K) (.sto B :: rhoOf 3 ds) { nx := fun _ => False, rt := fun d ρ => ∃ B', ρ[0]? = some (.sto B') ∧ Φ d B' } := by
  obtain ⟨ts, sh, R, rfl, hs, hl, hT, hB, hΦ⟩ := h
  show WS K S (t_spoil K) [.sto B, .dat (.tuple ((pRw sh ts).map p3D)), .unk, .unk] _
  unfold t_spoil
  have L : ∀ m : Int, m ≤ 1000000 → m ≤ 2 ^ 1899 := fun m hm => Int.le_trans hm big1899
  have it := it_rw hs hT hl
  have sz16 : sizeLine = 16777216 := sizeLine_eq
  have rl : ((pRw sh ts).map p3D).length ≤ 130 := by rw [List.length_map, pRw_len]; exact hl
  have p3 : ∀ k, k < ((pRw sh ts).map p3D).length → ∃ x : P3, ((pRw sh ts).map p3D)[k]? = some (p3D x) ∧ P3S x := fun k hk => by
    rw [List.length_map] at hk
    exact ⟨(pRw sh ts)[k], by rw [List.getElem?_map, List.getElem?_eq_getElem hk]; rfl, pRw_sz hs hT (by omega) (List.getElem_mem hk)⟩
  generalize (pRw sh ts).map p3D = rows at it rl p3 ⊢
  have fin : ∀ (xs : List PyData) (b' : Nat), b' ≤ B + 3000 → xs.length ≤ 400 → (∀ x ∈ xs, It x) → Φ (.tuple xs) b' := fun xs b' hb hl hx => hΦ _ _ hb (.inl ((pz_row hx hl).mono (by decide) (by decide)))
  refine ws_seq (ws_asg (wd_drawc hF rfl (by decide) (L _ (by decide)) (by omega) fun w w0 w1 => ?_))
  refine ws_seq (ws_asg (wd_draw hF rfl ?_))
  walk_at "dl"
  refine ⟨_, _, rfl, rfl, by omega, L _ (by omega), by omega, fun z z0 z1 => ?_⟩
  obtain ⟨k, rfl⟩ : ∃ k : Nat, z = k := ⟨z.toNat, by omega⟩
  have c1 : (cutD rows none (some (k : Int))).length ≤ 130 := Nat.le_trans cutD_le rl
  have c2 : (cutD rows (some ((k : Int) + 1)) none).length ≤ 130 := Nat.le_trans cutD_le rl
  have c3 : (cutD rows (some (k : Int)) (some ((k : Int) + 1))).length ≤ 130 := Nat.le_trans cutD_le rl
  have c4 : (cutD rows (some (k : Int)) none).length ≤ 130 := Nat.le_trans cutD_le rl
  have c5 : (cutD rows (some (k : Int)) (some ((k : Int) + 2))).length ≤ 130 := Nat.le_trans cutD_le rl
  have c6 : (cutD rows (some ((k : Int) + 2)) none).length ≤ 130 := Nat.le_trans cutD_le rl
  have n3 : It (.tuple [.tuple [.int 0, .int 1], .tuple [.int 0, .int 1], .tuple [.int 0, .int 1]]) := it_row (fun x hx => by
    simp only [List.mem_cons, List.not_mem_nil, or_false, or_self] at hx
    rw [hx]; exact ot_pr (by decide) (by decide)) (by decide)
  have own : Pz 1800000 3 (.tuple rows) := (Pz.tup (n := 130) it rl (by decide)).mono (by decide) (by decide)
  walk_at "dl"
  have rowE : ∀ {xs : List PyData}, xs.length ≤ 400 → (∀ x ∈ xs, It x) → PzE (.tuple xs) := fun hl hx => .inl ((pz_row hx hl).mono (by decide) (by decide))
  refine if_b (fun c => ?_) (fun c => ?_)
  · refine if_t ?_
    refine ws_ret ?_
    walk_at "dl"
    all_goals first | omega | (simp only [List.length_append, List.length_cons, List.length_nil]; omega) | skip

    refine wd_drawc hF rfl (by decide) (L _ (by decide)) (by omega) fun v v0 v1 => ?_
    refine ixAll (P := PzE) v0 (by simp; omega) (fun y hy => ?_) fun o ho => ⟨_, rfl, hΦ o _ (by omega) ho⟩
    simp only [List.mem_cons, List.not_mem_nil, or_false] at hy
    rcases hy with rfl | rfl | rfl | rfl | rfl | rfl | rfl
    · refine rowE (by simp only [List.length_append]; omega) (fun x hx => ?_)
      rcases List.mem_append.mp hx with hx | hx <;> exact it _ (cutD_sub hx)
    · refine rowE (by simp only [List.length_append, List.length_cons, List.length_nil]; omega) (fun x hx => ?_)
      rcases List.mem_append.mp hx with hx | hx
      · exact it _ hx
      · have : x = _ := List.mem_singleton.mp hx
        rw [this]; exact n3
    · exact .inl ((pz_rowL it (by omega)).mono (by decide) (by decide))
    · exact .inl (pz_non.mono (by decide) (by decide))
    · exact .inl ((pz_int (by decide)).mono (by decide) (by decide))
    · exact .inl (pz_str.mono (by decide) (by decide))
    · exact .inr rfl
  walk_at "dl"
  refine if_b (fun cz => ?_) (fun cz => ?_)
  · refine ws_ret ?_
    walk_at "dl"
    all_goals first | omega | (simp only [List.length_append, List.length_cons, List.length_nil]; omega) | skip
    refine wd_drawc hF rfl (by decide) (L _ (by decide)) (by omega) fun v v0 v1 => ?_
    refine ixAll (P := PzE) v0 (by simp; omega) (fun y hy => ?_) fun o ho => ⟨_, rfl, hΦ o _ (by omega) ho⟩
    simp only [List.mem_cons, List.not_mem_nil, or_false] at hy
    rcases hy with rfl | rfl | rfl | rfl | rfl | rfl | rfl
    · refine rowE (by simp only [List.length_append]; omega) (fun x hx => ?_)
      rcases List.mem_append.mp hx with hx | hx <;> exact it _ (cutD_sub hx)
    · refine rowE (by simp only [List.length_append, List.length_cons, List.length_nil]; omega) (fun x hx => ?_)
      rcases List.mem_append.mp hx with hx | hx
      · exact it _ hx
      · have : x = _ := List.mem_singleton.mp hx
        rw [this]; exact n3
    · exact .inl ((pz_rowL it (by omega)).mono (by decide) (by decide))
    · exact .inl (pz_non.mono (by decide) (by decide))
    · exact .inl ((pz_int (by decide)).mono (by decide) (by decide))
    · exact .inl (pz_str.mono (by decide) (by decide))
    · exact .inr rfl
  have hk : k < rows.length := by omega
  obtain ⟨x, hx, zx⟩ := p3 k hk
  walk_at "dl"
  refine if_b (fun c1' => ?_) (fun c1' => ?_)
  · walk_at "dl"
    all_goals first | omega | (simp only [List.length_append, List.length_cons, List.length_nil, List.length_reverse]; omega) | skip
    refine fin _ _ (by omega) (by simp only [List.length_append, List.length_reverse]; omega) (fun x hx => ?_)
    simp only [List.mem_append, List.mem_reverse] at hx
    rcases hx with (hx | hx) | hx <;> exact it _ (cutD_sub hx)
  walk_at "dl"
  refine if_b (fun c2' => ?_) (fun c2' => ?_)
  · walk_at "dl"
    all_goals first | omega | (simp only [List.length_append, List.length_cons, List.length_nil, List.length_reverse]; omega) | skip
    refine fin _ _ (by omega) (by simp only [List.length_append, List.length_reverse]; omega) (fun x hx => ?_)
    simp only [List.mem_append, List.mem_reverse] at hx
    rcases hx with (hx | hx) | hx <;> exact it _ (cutD_sub hx)
  walk_at "dl"
  refine if_b (fun c3' => ?_) (fun c3' => ?_)
  · walk_at "dl"
    refine wd_drawc hF rfl (by decide) (L _ (by decide)) (by omega) fun v v0 v1 => ?_
    refine ixAll (P := Pz 1800000 3) v0 (by simp; omega) (fun y hy => ?_) fun o ho => ?_
    · simp only [List.mem_cons, List.not_mem_nil, or_false] at hy
      rcases hy with rfl | rfl | rfl | rfl | rfl
      · exact pz_non.mono (by decide) (by decide)
      · exact (pz_int (by decide)).mono (by decide) (by decide)
      · exact pz_str.mono (by decide) (by decide)
      · exact (it_row (xs := []) (fun x hx => nomatch hx) (by decide)).mono (by decide) (by decide)
      · exact own
    · walk_at "dl"
      all_goals first | omega | (simp only [List.length_append, List.length_cons, List.length_nil]; omega) | skip

      refine hΦ _ _ (by omega) (.inl ((Pz.mix (L := 13700) (M := 1800000) (D := 3) (n := 260) (fun x hx => (it _ (cutD_sub hx)).mono (by decide) (by decide)) (fun x hx => (it _ (cutD_sub hx)).mono (by decide) (by decide)) ho (by omega) (by decide)).mono (by decide) (by decide)))
  walk_at "dl"
  refine wd_callS hF rfl (wa_cons (wd_op (wd_var rfl (wd_var rfl (do_ixTn (k := k) rfl hx (wa_nil ⟨_, rfl, x, rfl, zx, by omega, fun o b' hb' ho => ?_⟩))))))
  walk_at "dl"
  all_goals first | omega | (simp only [List.length_append, List.length_cons, List.length_nil]; omega) | skip
  refine fin _ _ (by omega) (by simp only [List.length_append, List.length_cons, List.length_nil]; omega) (fun y hy => ?_)
  simp only [List.mem_append, List.mem_cons, List.not_mem_nil, or_false] at hy
  rcases hy with (hy | hy) | hy
  · exact it _ (cutD_sub hy)
  · rw [hy]; exact ho
  · exact it _ (cutD_sub hy)
theorem ws_paper {aO : Addr} (hO : ∀ H : Hp, SqT K H aO [.int 1, .int 1]) (hF : FSto S) (h : TPaper B ds Φ) : WS K S (t_paper K aO) (.sto B :: rhoOf 5 ds) { nx := fun _ => False, rt := fun d ρ => ∃ B', ρ[0]? = some (.sto B') ∧ Φ d B' } := by
  obtain ⟨ts, us, sh, R, rfl, hs, hl, hT, hl2, hT2, hB, hΦ⟩ := h
  show WS K S (t_paper K aO) [.sto B, .dat (.list (ts.map qp)), .dat (qp sh), .dat (.list (us.map qp)), .unk, .unk] _
  unfold t_paper
  have L : ∀ m : Int, m ≤ 1000000 → m ≤ 2 ^ 1899 := fun m hm => Int.le_trans hm big1899
  have rl : ∀ {sh : Rat} {ts : List Rat}, ts.length ≤ 130 → ((pRw sh ts).map p3D).length ≤ 400 := fun {sh ts} h => by rw [List.length_map, pRw_len]; omega
  have pz : ∀ {sh : Rat} {R : Nat} {ts : List Rat}, ShOk R sh → ts.length ≤ 130 → (∀ t ∈ ts, Tot t) → PzE (rwD sh ts) := fun g h t => .inl ((pz_row (it_rw g t h) (rl h)).mono (by decide) (by decide))
  have pw : PzE (wwD sh ts) := .inl ((pz_row (it_wr hs hT hl) (by unfold wRw; rw [wRwF_len]; omega)).mono (by decide) (by decide))
  refine ws_seq (ws_asg (wd_drawc hF rfl (by decide) (L _ (by decide)) (by omega) fun w w0 w1 => ?_))
  refine ws_seq (ws_asg (wd_payS (wd_var rfl (wd_var rfl ⟨true, ts, sh, R, rfl, rfl, hs, hl, hT, ?_⟩))))
  walk_at "dl"
  refine if_b (fun c => ?_) (fun c => ?_)
  · walk_at "dl"
    exact hΦ _ _ (by omega) (pz hs hl hT)
  walk_at "dl"
  refine if_b (fun c => ?_) (fun c => ?_)
  · refine ws_ret (wd_op (wd_lst (wa_cons (wd_pay0 hO (wd_var rfl ⟨true, ts, rfl, hl, hT, ?_⟩)))))
    refine wa_cons (wd_paySW (wd_var rfl (wd_var rfl ⟨true, ts, sh, R, rfl, rfl, hs, hl, hT, ?_⟩)))
    refine wa_cons (wd_pay0 hO (wd_var rfl ⟨true, us, rfl, hl2, hT2, wa_nil ⟨Nat.le_of_ble_eq_true rfl, ?_⟩⟩))
    refine wd_drawc hF rfl (by decide) (L _ (by decide)) (by omega) fun v v0 v1 => ?_
    refine ixAll (P := PzE) v0 (by simp; omega) (fun y hy => ?_) fun o ho => ⟨_, rfl, hΦ o _ (by omega) ho⟩
    simp only [List.mem_cons, List.not_mem_nil, or_false] at hy
    rcases hy with rfl | rfl | rfl
    · exact pz ShOk.one hl hT
    · exact pw
    · exact pz ShOk.one hl2 hT2
  walk_at "dl"
  refine wd_callS hF rfl (wa_cons (wd_var rfl (wa_nil ⟨_, rfl, ts, sh, R, rfl, hs, hl, hT, by omega, fun o b' hb' ho => ⟨_, rfl, hΦ o _ (by omega) ho⟩⟩)))
end
end DL

set_option Elab.async false
set_option linter.all false
set_option maxRecDepth 100000
set_option maxHeartbeats 4000000
/-! PQB: law k47 -/
namespace DL
open PySem PySem.Spec PyProof.Rows L2
def gVrot : List V → List V → List V := fun _ ws => ws.drop 2 ++ ws.take 2
def gDrot : List PyData → List PyData → List PyData := fun _ ws => ws.drop 2 ++ ws.take 2
theorem dq_rot {K : PySem.W.Frag} {N : Av} {H : Hp} {vs : List V} {ds : List PyData} (h : DqAll K N H vs ds) : DqAll K N H (vs.drop 2 ++ vs.take 2) (ds.drop 2 ++ ds.take 2) := by
  cases h with
  | nil => exact .nil
  | cons h1 h2 =>
    cases h2 with
    | nil => exact .cons h1 .nil
    | cons h2 h3 => exact DqAll.append h3 (DtAll.cons h1 (DtAll.cons h2 DtAll.nil))
theorem vals_rot {vs : List V} {us : List Value} (h : Vals vs us) : Vals (vs.drop 2 ++ vs.take 2) (us.drop 2 ++ us.take 2) := by
  cases h with
  | nil => exact .nil
  | cons h1 h2 =>
    cases h2 with
    | nil => exact .cons h1 .nil
    | cons h2 h3 => exact Vals.append h3 (.cons h1 (.cons h2 .nil))
local macro_rules | `(tactic| walk_at "dl") => `(tactic| repeat' (first
  | with_reducible refine wd_isTy ?_ | with_reducible refine wd_isi ?_ | ((with_reducible show WD _ _ (tOp (rIxL _) (tVar _) _) _ _); refine wd_ix_own rfl ?_) | with_reducible refine wd_op ?_ | ((with_reducible show WD _ _ (tCB (rLenX _) (tCons (tVar _) tNil)) _ _); refine wd_len_scr rfl ?_) | ((with_reducible show WD _ _ (tCB (rLenX _) (tCons (tVar _) tNil)) _ _); refine wd_len_own rfl ?_) | with_reducible refine wd_cb ?_ | with_reducible refine wd_un ?_ | with_reducible refine wa_cons ?_ | with_reducible refine wa_nil ?_ | ((with_reducible show WD _ _ (tVar _) _ _); refine wd_var rfl ?_) | with_reducible refine wd_int ?_ | with_reducible refine wd_bl ?_ | with_reducible refine wd_str ?_ | with_reducible refine wd_non ?_
  | with_reducible refine do_nesS ?_ | with_reducible refine dc_intB ?_ | with_reducible refine do_add ?_ | with_reducible refine do_sub ?_ | ((with_reducible refine do_mod ?_ ?_); decide) | with_reducible refine do_mod ?_ ?_ | with_reducible refine do_mul ?_ ?_ | ((with_reducible refine do_div ?_ ?_); exact ⟨by decide, by decide⟩) | with_reducible refine do_div ?_ ?_ | ((with_reducible refine do_pow ?_ ?_); exact ⟨by decide, by decide, by decide⟩) | with_reducible refine do_pow ?_ ?_
  | with_reducible refine do_lt ?_ | with_reducible refine do_le ?_ | with_reducible refine do_gt ?_ | with_reducible refine do_ge ?_ | with_reducible refine du_neg ?_
  | with_reducible refine do_eqi ?_ | with_reducible refine do_nei ?_ | with_reducible refine do_eqs ?_ | with_reducible refine do_nes ?_ | with_reducible refine dc_abs ?_ | with_reducible refine dc_min ?_ | with_reducible refine dc_max ?_ | with_reducible refine dc_lenL ?_ | with_reducible refine dc_lenT ?_ | with_reducible refine dc_lenR ?_ | with_reducible refine dc_listT ?_ | with_reducible refine dc_listL ?_ | with_reducible refine dc_tupL ?_ | with_reducible refine dc_gcd ?_
  | ((with_reducible show DO _ (rIxT _) _ _ _); refine do_ixT rfl ?_) | ((with_reducible show DO _ (rIxL _) _ _ _); refine do_ixL rfl ?_) | ((with_reducible refine do_catL ?_ ?_); exact Nat.le_of_ble_eq_true rfl) | with_reducible refine do_catL ?_ ?_ | ((with_reducible show And (List.length _ ≤ sizeLine) _); refine ⟨Nat.le_of_ble_eq_true rfl, ?_⟩)
  | with_reducible refine wd_dnew ?_ | with_reducible refine wd_call0 ?_ | with_reducible refine wd_slA ?_ | with_reducible refine wd_slL ?_ | with_reducible refine wd_revT ?_ | with_reducible refine do_catA ?_ ?_ | with_reducible refine wo_part ?_ | with_reducible refine wo_none ?_ | with_reducible refine do_eqQ ?_ | with_reducible refine do_neQ ?_ | with_reducible refine wi_enumT ?_ | with_reducible refine wi_enumD ?_ | with_reducible refine tAdQ (by omega) (by omega) ?_ | with_reducible refine tSbQ (by omega) (by omega) ?_ | with_reducible refine tMlQ (by omega) (by omega) ?_ | with_reducible refine tDvQ (by assumption) (by omega) (by omega) ?_ | with_reducible refine tLtQ (by omega) (by omega) ?_ | with_reducible refine dc_str ?_ ?_ | with_reducible refine wd_tup ?_ | with_reducible refine wd_lst ?_ | with_reducible refine wt_test ?_ | with_reducible refine wt_B ?_ | with_reducible refine wt_not ?_ | with_reducible refine wt_and ?_ | with_reducible refine wt_or ?_ | with_reducible refine wd_ifE ?_ | with_reducible refine wd_andV ?_ | with_reducible refine wd_orV ?_ | with_reducible refine wd_notV ?_
  | with_reducible refine ws_seq ?_ | with_reducible refine ws_next ?_ | with_reducible refine ws_asg ?_ | with_reducible refine ws_ret ?_ | with_reducible refine ws_retN ?_ | with_reducible refine ws_if ?_ | with_reducible refine ws_par ?_ | with_reducible refine ws_unp2 ?_
  | with_reducible refine if_t ?_ | with_reducible refine if_f ?_ | with_reducible refine if_nf ?_ | with_reducible refine if_nt ?_
  | ((with_reducible show Exists _); first | refine ⟨_, kitInt _, ?_⟩ | refine ⟨_, kitBool _, ?_⟩ | refine ⟨_, kitTup _, ?_⟩ | refine ⟨_, kitList _, ?_⟩ | refine ⟨_, rfl, ?_⟩ | refine ⟨_, _, rfl, ?_⟩ | fail) | fail))
def t_b47 (K : PySem.W.Frag) (aO : Addr) : TS :=
  (tSeq (tAsg (tCall (spS K FSto TPaper) [] E0 (tCons (tVar 1) (tCons (tVar 4) (tCons (tVar 5) (tCons (tVar 2) tNil))))) (gName 8))
    (tSeq (tAsg (tCB (rReprY K) (tCons (tVar 8) tNil)) (gName 9))
    (tSeq (tAsg (tOp rEq (tVar 9) (tCB (rReprY K) (tCons (tVar 6) tNil))) (gName 10))
    (tSeq (tAsg (tLst (tCons (tCallN 2 1 (spP K TPRight) gVapp E0 (tCons (tCB (rTupOf K) (tCons (tVar 4) tNil)) (tCons (tVar 8) tNil)) (tCons (tVar 5) tNil)) (tCons (tCallN 1 2 (spP K TPRight) gVws E0 (tCons (tVar 4) tNil) (tCons (tVar 5) (tCons (tVar 8) tNil))) tNil))) (gName 11))
    (tSeq (tDrop (tBM K "list" rAppend (tVar 11) (tCons (tCallN 0 3 (spP K TPRight) gVrot E0 tNil (tCons (tVar 8) (tCons (tVar 5) (tCons (tVar 4) tNil)))) tNil)))
    (tSeq (tIfS (tOr (tTest (tOp rNe (tCB (rReprY K) (tCons (tVar 11) tNil)) (tCB (rReprY K) (tCons (tLst (tCons (tVar 10) (tCons (tVar 10) (tCons (tVar 10) tNil)))) tNil)))) (tTest (tOp rNe (tCB (rReprY K) (tCons (tVar 8) tNil)) (tVar 9)))) (tRet (tC (.bl false))) tNext)
    (tIfS (tAnd (tTest (tOp (rEqD K) (tVar 5) (tTup (tCons (tC (.int 1)) (tCons (tC (.int 1)) tNil))))) (tTest (tOp rNe (tCall (spP K TPRight) [.ref aO] E0 (tCons (tVar 4) (tCons (tVar 8) tNil))) (tVar 10)))) (tRet (tC (.bl false))) tNext)))))))
def t_law47 (K : PySem.W.Frag) (aO : Addr) : TS :=
  (tSeq (tAsg (tLst (tCons (tTup (tCons (tC (.int 1)) (tCons (tC (.int 2)) tNil))) tNil)) (gName 2))
    (tSeq (tFor (iRng1 (tCons (tOp rAddI (tC (.int 5)) (tCB rMinX (tCons (tC (.int 12)) (tCons (tCB (rLenX K) (tCons (tVar 0) tNil)) tNil)))) tNil)) (gName 3) (tSeq (tAsg (tCall (spS K FSto TTotals) [] E0 (tCons (tVar 1) (tCons (tC (.int 40)) tNil))) (gName 4))
    (tSeq (tAsg (tOp (rIxL K) (tLst (tCons (tTup (tCons (tC (.int 1)) (tCons (tC (.int 1)) tNil))) (tCons (tCall (spS K FSto TShareQ) [] E0 (tCons (tVar 1) tNil)) tNil))) (tCall (spS K FSto TDr) [] E0 (tCons (tVar 1) (tCons (tC (.int 2)) tNil)))) (gName 5))
    (tSeq (tAsg (tCall (spP K TRows) [] E0 (tCons (tVar 4) (tCons (tVar 5) tNil))) (gName 6))
    (tSeq (tFor (iRng1 (tCons (tC (.int 6)) tNil)) (gName 7) (tSeq (tAsg (tCall (spS K FSto TPaper) [] E0 (tCons (tVar 1) (tCons (tVar 4) (tCons (tVar 5) (tCons (tVar 2) tNil))))) (gName 8))
    (tSeq (tAsg (tCB (rReprY K) (tCons (tVar 8) tNil)) (gName 9))
    (tSeq (tAsg (tOp rEq (tVar 9) (tCB (rReprY K) (tCons (tVar 6) tNil))) (gName 10))
    (tSeq (tAsg (tLst (tCons (tCallN 2 1 (spP K TPRight) gVapp E0 (tCons (tCB (rTupOf K) (tCons (tVar 4) tNil)) (tCons (tVar 8) tNil)) (tCons (tVar 5) tNil)) (tCons (tCallN 1 2 (spP K TPRight) gVws E0 (tCons (tVar 4) tNil) (tCons (tVar 5) (tCons (tVar 8) tNil))) tNil))) (gName 11))
    (tSeq (tDrop (tBM K "list" rAppend (tVar 11) (tCons (tCallN 0 3 (spP K TPRight) gVrot E0 tNil (tCons (tVar 8) (tCons (tVar 5) (tCons (tVar 4) tNil)))) tNil)))
    (tSeq (tIfS (tOr (tTest (tOp rNe (tCB (rReprY K) (tCons (tVar 11) tNil)) (tCB (rReprY K) (tCons (tLst (tCons (tVar 10) (tCons (tVar 10) (tCons (tVar 10) tNil)))) tNil)))) (tTest (tOp rNe (tCB (rReprY K) (tCons (tVar 8) tNil)) (tVar 9)))) (tRet (tC (.bl false))) tNext)
    (tIfS (tAnd (tTest (tOp (rEqD K) (tVar 5) (tTup (tCons (tC (.int 1)) (tCons (tC (.int 1)) tNil))))) (tTest (tOp rNe (tCall (spP K TPRight) [.ref aO] E0 (tCons (tVar 4) (tCons (tVar 8) tNil))) (tVar 10)))) (tRet (tC (.bl false))) tNext))))))))
    (tAsg (tVar 4) (gName 2)))))))
    (tRet (tC (.bl true)))))
section
variable {K : PySem.W.Frag} {S : Stt} {ρ : Rho} {Φ : PyData → Rho → Prop}
/-- what is asked of payments_right -/
abbrev PrQ (r z s : PyData) (Ψ : PyData → Prop) : Prop := ∃ (b : Bool) (ts : List Rat) (sh : Rat) (R : Nat), r = rowD b (ts.map qp) ∧ s = qp sh ∧ ShOk R sh ∧ ts.length ≤ 130 ∧ (∀ t ∈ ts, Tot t) ∧ PzE z ∧ Ψ (.bool (tb (z = rwD sh ts)))
theorem PrQ.t {r z s : PyData} {Ψ : PyData → Prop} (h : PrQ r z s Ψ) : TPRight [r, z, s] Ψ := by
  obtain ⟨b, ts, sh, R, e1, e2, g, hl, ht, hz, f⟩ := h
  exact ⟨b, ts, sh, R, z, by rw [e1, e2], g, hl, ht, hz, f⟩
theorem wd_prA {te tz tk : TE} (h : WD K S te ρ fun r ρ1 => WD K S tz ρ1 fun z ρ2 => WD K S tk ρ2 fun s ρ3 => PrQ r z s fun d => Φ d ρ3) : WD K S (tCallN 2 1 (spP K TPRight) gVapp E0 (tCons te (tCons tz tNil)) (tCons tk tNil)) ρ Φ :=
  wd_callN (gD := gDapp) (fun _ _ _ _ _ _ h1 h2 => h1.append h2) (wa_cons (h.imp fun r ρ1 h => wa_cons (h.imp fun z ρ2 h => wa_nil (wa_cons (h.imp fun s ρ3 h => wa_nil ⟨rfl, rfl, h.t⟩)))))
theorem wd_prB {te tz tk : TE} (h : WD K S te ρ fun r ρ1 => WD K S tk ρ1 fun s ρ2 => WD K S tz ρ2 fun z ρ3 => PrQ r z s fun d => Φ d ρ3) : WD K S (tCallN 1 2 (spP K TPRight) gVws E0 (tCons te tNil) (tCons tk (tCons tz tNil))) ρ Φ :=
  wd_callN (gD := gDws) (fun _ _ _ _ _ _ h1 h2 => h1.append (dq_rev h2)) (wa_cons (h.imp fun r ρ1 h => wa_nil (wa_cons (h.imp fun s ρ2 h => wa_cons (h.imp fun z ρ3 h => wa_nil ⟨rfl, rfl, h.t⟩)))))
theorem wd_prC {te tz tk : TE} (h : WD K S tz ρ fun z ρ1 => WD K S tk ρ1 fun s ρ2 => WD K S te ρ2 fun r ρ3 => PrQ r z s fun d => Φ d ρ3) : WD K S (tCallN 0 3 (spP K TPRight) gVrot E0 tNil (tCons tz (tCons tk (tCons te tNil)))) ρ Φ :=
  wd_callN (gD := gDrot) (fun _ _ _ _ _ _ _ h2 => dq_rot h2) (wa_nil (wa_cons (h.imp fun z ρ1 h => wa_cons (h.imp fun s ρ2 h => wa_cons (h.imp fun r ρ3 h => wa_nil ⟨rfl, rfl, h.t⟩)))))
theorem wd_pr0 {aO : Addr} (hO : ∀ H : Hp, SqT K H aO [.int 1, .int 1]) {te tz : TE} (h : WD K S te ρ fun r ρ1 => WD K S tz ρ1 fun z ρ2 => PrQ r z (qp 1) fun d => Φ d ρ2) : WD K S (tCall (spP K TPRight) [.ref aO] E0 (tCons te (tCons tz tNil))) ρ Φ :=
  wd_call (dds := [qp 1]) (fun H => .cons (Dt.part2 (hO H)) .nil) (wa_cons (h.imp fun r ρ1 h => wa_cons (h.imp fun z ρ2 h => wa_nil h.t)))
theorem ws_b47 {ns : List Int} {aO : Addr} {B : Nat} {sh : Rat} {R : Nat} {ts us : List Rat} {kk k2 : Int} {En : DE} (hO : ∀ H : Hp, SqT K H aO [.int 1, .int 1]) (hF : FSto S) (hB : B + 4000 ≤ 2 ^ 40) (hs : ShOk R sh) (hl : ts.length ≤ 130) (hT : ∀ t ∈ ts, Tot t) (hl2 : us.length ≤ 130) (hT2 : ∀ t ∈ us, Tot t)
    (hn : ∀ B' s8 s9 s10 s11, B' ≤ B + 4000 → En.nx [.scr ns, .sto B', .dat (.list (us.map qp)), .dat (.int kk), .dat (.list (ts.map qp)), .dat (qp sh), .dat (rwD sh ts), .dat (.int k2), s8, s9, s10, s11]) :
    WS K S (t_b47 K aO) [.scr ns, .sto B, .dat (.list (us.map qp)), .dat (.int kk), .dat (.list (ts.map qp)), .dat (qp sh), .dat (rwD sh ts), .dat (.int k2), .unk, .unk, .unk, .unk] En := by
  unfold t_b47
  refine ws_seq (ws_asg (wd_callS hF rfl (wa_cons (wd_var rfl (wa_cons (wd_var rfl (wa_cons (wd_var rfl (wa_nil ⟨B, rfl, ts, us, sh, R, rfl, hs, hl, hT, hl2, hT2, by omega, fun z B' hB' hz => ?_⟩)))))))))
  refine ws_seq (ws_asg (wd_cb (wa_cons (wd_var rfl (wa_nil (dc_rP hz ?_))))))
  refine ws_seq (ws_asg (wd_op (wd_var rfl (wd_cb (wa_cons (wd_var rfl (wa_nil (dc_reprY (Rs.rw hs hT hl) (by rw [sizeLine_eq]; decide) (by decide) (do_eqs ?_)))))))))
  rw [shown_eq hz.pp (uq_rw sh ts)]
  have pr : PrQ (.list (ts.map qp)) z (qp sh) fun d => d = .bool (tb (z = rwD sh ts)) := ⟨true, ts, sh, R, rfl, rfl, hs, hl, hT, hz, rfl⟩
  have pt : PrQ (.tuple (ts.map qp)) z (qp sh) fun d => d = .bool (tb (z = rwD sh ts)) := ⟨false, ts, sh, R, rfl, rfl, hs, hl, hT, hz, rfl⟩
  have up : ∀ {r s : PyData} {x : Bool} {Ψ : PyData → Prop}, PrQ r z s (fun d => d = .bool x) → Ψ (.bool x) → PrQ r z s Ψ := fun h f => by
    obtain ⟨b, ts, sh, R, e1, e2, g, hl, ht, hz, e⟩ := h
    exact ⟨b, ts, sh, R, e1, e2, g, hl, ht, hz, by rw [e]; exact f⟩
  have p1 : sh = 1 → PrQ (.list (ts.map qp)) z (qp 1) fun d => d = .bool (tb (z = rwD sh ts)) := fun e => by rw [e] at pr ⊢; exact pr
  generalize tb (z = rwD sh ts) = rb at pr pt p1 ⊢
  have r3 : Rs (2 + 3 * 112) 1 (.list [.bool rb, .bool rb, .bool rb]) := Rs.lst (n := 3) (L := 110) (D := 0) (fun d hd => by
    simp only [List.mem_cons, List.not_mem_nil, or_false, or_self] at hd
    rw [hd]; exact odd_bool.r) (Nat.le_refl 3)
  refine ws_seq (ws_own (wa_cons (wd_prA (wd_cb (wa_cons (wd_var rfl (wa_nil (dc_tupL (wd_var rfl (wd_var rfl (up pt ?_)))))))))))
  refine wa_cons (wd_prB (wd_var rfl (wd_var rfl (wd_var rfl (up pr (wa_nil ⟨Nat.le_of_ble_eq_true rfl, ?_⟩))))))
  refine ws_seq (ws_append rfl (wd_prC (wd_var rfl (wd_var rfl (wd_var rfl (up pr ⟨_, rfl, Nat.lt_of_lt_of_le (show 2 < 3 by decide) (by rw [sizeLine_eq]; decide), ?_⟩))))))
  refine ws_frz (i := 11) rfl ?_
  show WS K S _ [.scr ns, .sto B', .dat (.list (us.map qp)), .dat (.int kk), .dat (.list (ts.map qp)), .dat (qp sh), .dat (rwD sh ts), .dat (.int k2), .dat z, .dat (.str z.shown), .dat (.bool rb), .dat (.list [.bool rb, .bool rb, .bool rb])] _
  refine ws_seq (ws_if (wt_or (wt_test (wd_op (wd_cb (wa_cons (wd_var rfl (wa_nil (dc_reprY r3 (by rw [sizeLine_eq]; decide) (by decide) ?_)))))))))
  refine wd_cb (wa_cons (wd_lst (wa_cons (wd_var rfl (wa_cons (wd_var rfl (wa_cons (wd_var rfl (wa_nil ⟨Nat.le_of_ble_eq_true rfl, wa_nil (dc_reprY r3 (by rw [sizeLine_eq]; decide) (by decide) (do_nesS ⟨false, rfl, ?_⟩))⟩)))))))))
  refine if_f (wt_test (wd_op (wd_cb (wa_cons (wd_var rfl (wa_nil (dc_rP hz (wd_var rfl (do_nesS ⟨false, rfl, ?_⟩)))))))))
  refine if_f (ws_next ?_)
  refine ws_if (wt_and (wt_test (wd_op (wd_var rfl (wd_tup (wa_cons (wd_int (wa_cons (wd_int (wa_nil ⟨Nat.le_of_ble_eq_true rfl, ?_⟩))))))))))
  refine do_eqQ (q := sh) (r := 1) ⟨_, rfl, ?_⟩
  refine if_b (fun h1 => ?_) (fun h1 => ?_)
  · refine wt_test (wd_op (wd_pr0 hO (wd_var rfl (wd_var rfl (up (p1 h1) (wd_var rfl (do_nebS ⟨false, rfl, if_f (ws_next (hn _ _ _ _ _ hB'))⟩)))))))
  · exact ws_next (hn _ _ _ _ _ hB')
theorem ws_law47 {ns : List Int} {aO : Addr} (hO : ∀ H : Hp, SqT K H aO [.int 1, .int 1]) (hF : FSto S) (hl : ns.length ≤ 63) : WS K S (t_law47 K aO) (.scr ns :: .sto 0 :: List.replicate 10 .unk) { nx := fun _ => False, rt := fun d _ => d = .bool true } := by
  show WS K S (t_law47 K aO) [.scr ns, .sto 0, .unk, .unk, .unk, .unk, .unk, .unk, .unk, .unk, .unk, .unk] _
  unfold t_law47
  have L : ∀ m : Int, m ≤ 1000000 → m ≤ 2 ^ 1899 := fun m hm => Int.le_trans hm big1899
  refine ws_seq (ws_asg ?_)
  walk_at "dl"
  refine ws_for (wi_rng1 ?_)
  walk_at "dl"
  generalize hm : (5 + if (ns.length : Int) < 12 then (ns.length : Int) else 12) = many
  have hm2 : 0 ≤ many ∧ many ≤ 17 := by
    rw [← hm]; split <;> omega
  have e0 : PyData.list [.tuple [.int 1, .int 2]] = .list (([Rat.divInt 1 2] : List Rat).map qp) := by
    show _ = PyData.list [qp (Rat.divInt 1 2)]
    rw [← qp_of (n := 1) (d := 2) (by decide) (by decide)]
  have t0 : ∀ t ∈ ([Rat.divInt 1 2] : List Rat), Tot t := fun t h => by
    have : t = Rat.divInt 1 2 := by simpa using h
    rw [this]
    exact Tot.of (dv_part (by decide) (by decide) (by decide))
  rw [e0]
  refine ⟨by omega, by omega, fun k ρ => ∃ (B : Nat) (us : List Rat) (s3 s4 s5 s6 s7 s8 s9 s10 s11 : Sl), ρ = [.scr ns, .sto B, .dat (.list (us.map qp)), s3, s4, s5, s6, s7, s8, s9, s10, s11] ∧ us.length ≤ 130 ∧ (∀ t ∈ us, Tot t) ∧ B ≤ 2000000 * k, ⟨0, _, _, _, _, _, _, _, _, _, _, rfl, by show 1 ≤ 130; decide, t0, by omega⟩, ?_, ?_⟩
  · rintro k d ρ2 hd ⟨B, us, s3, s4, s5, s6, s7, s8, s9, s10, s11, rfl, hl2, hT2, hB⟩
    have hk : k < 18 := by
      have := (List.getElem?_eq_some_iff.mp hd).1
      simp at this; omega
    have hkd : ∃ kk : Int, d = .int kk := by
      obtain ⟨x, _, rfl⟩ := List.mem_map.mp (List.mem_of_getElem? hd)
      exact ⟨_, rfl⟩
    obtain ⟨kk, rfl⟩ := hkd
    refine ⟨_, _, gd_name, ws_wipe [4, 5, 6, 7, 8, 9, 10, 11] ?_⟩
    show WS K S _ [.scr ns, .sto B, .dat (.list (us.map qp)), .dat (.int kk), .unk, .unk, .unk, .unk, .unk, .unk, .unk, .unk] _
    refine ws_seq (ws_asg (wd_callS hF rfl (wa_cons (wd_int (wa_nil ⟨B, rfl, _, rfl, by decide, by decide, by omega, fun ts B2 hts hT hB2 => ?_⟩)))))
    refine ws_seq (ws_asg (wd_op (wd_lst (wa_cons (wd_tup (wa_cons (wd_int (wa_cons (wd_int (wa_nil ⟨Nat.le_of_ble_eq_true rfl, ?_⟩))))))))))
    refine wa_cons (wd_callS hF rfl (wa_nil ⟨B2, rfl, rfl, by omega, fun R sh hs => wa_nil ⟨Nat.le_of_ble_eq_true rfl, ?_⟩⟩))
    refine wd_drawc hF rfl (by decide) (L _ (by decide)) (by omega) fun z z0 z1 => ?_
    refine ixAll (P := fun d => ∃ (q : Rat) (R : Nat), d = qp q ∧ ShOk R q) z0 (by simp; omega) (fun y hy => ?_) fun o ⟨q, R, eo, hq⟩ => ?_
    · simp only [List.mem_cons, List.not_mem_nil, or_false] at hy
      rcases hy with rfl | rfl
      · exact ⟨1, 1, rfl, ShOk.one⟩
      · exact ⟨sh, R, rfl, hs⟩
    subst eo
    refine ws_seq (ws_asg (wd_rows (wd_var rfl (wd_var rfl ⟨ts, q, R, rfl, rfl, hq, by omega, hT, ?_⟩))))
    refine ws_seq (ws_for (wi_rng1 ?_))
    walk_at "dl"
    refine ⟨by decide, by decide, fun j ρ => ∃ (B3 : Nat) (s7 s8 s9 s10 s11 : Sl), ρ = [.scr ns, .sto B3, .dat (.list (us.map qp)), .dat (.int kk), .dat (.list (ts.map qp)), .dat (qp q), .dat (rwD q ts), s7, s8, s9, s10, s11] ∧ B3 ≤ B2 + 1600 + 400 + 4000 * j, ⟨_, _, _, _, _, _, rfl, by omega⟩, ?_, ?_⟩
    · rintro j d ρ3 hd ⟨B3, s7, s8, s9, s10, s11, rfl, hB3⟩
      have hj : j < 6 := by
        have := (List.getElem?_eq_some_iff.mp hd).1
        rw [List.length_map, List.length_range] at this
        exact this
      have hkd : ∃ kk : Int, d = .int kk := by
        obtain ⟨x, _, rfl⟩ := List.mem_map.mp (List.mem_of_getElem? hd)
        exact ⟨_, rfl⟩
      obtain ⟨k2, rfl⟩ := hkd
      refine ⟨_, _, gd_name, ws_wipe [8, 9, 10, 11] ?_⟩
      show WS K S (t_b47 K aO) [.scr ns, .sto B3, .dat (.list (us.map qp)), .dat (.int kk), .dat (.list (ts.map qp)), .dat (qp q), .dat (rwD q ts), .dat (.int k2), .unk, .unk, .unk, .unk] _
      exact ws_b47 hO hF (by omega) hq (by omega) hT hl2 hT2 fun B' s8 s9 s10 s11 hB' => ⟨B', _, _, _, _, _, rfl, by omega⟩
    · rintro ρ3 ⟨B3, s7, s8, s9, s10, s11, rfl, hB3⟩
      have e6 : (List.map (fun k : Nat => PyData.int (0 + k)) (List.range (6 : Int).toNat)).length = 6 := rfl
      rw [e6] at hB3
      refine ws_asg (wd_var rfl ⟨B3, ts, _, _, _, _, _, _, _, _, _, rfl, by omega, hT, by omega⟩)
  · rintro ρ2 ⟨B, us, s3, s4, s5, s6, s7, s8, s9, s10, s11, rfl, hl2, hT2, hB⟩
    exact ws_ret (wd_bl rfl)
end
end DL

set_option Elab.async false
set_option linter.all false
set_option maxRecDepth 100000
set_option maxHeartbeats 4000000
namespace DL
open PySem PySem.Spec PyProof.Rows L2
section
variable {P : Program} {w : World} {K : PySem.W.Frag} {mg : Str → Option Value} {base : Heap} {f : Addr} {fd : FuncData}
theorem ok_draw1 (F : FnP K "_law_draw" s_law_draw f fd) (h__law_draw : Has P w K mg base CX0 "_law_draw" 1 ["store", "many"] spNo []) (z_len : mg "len" = none) (z_range : mg "range" = none) (z_str : mg "str" = none) : FnOk P w K mg base CX0 2 f fd ["store", "many"] (spS K FSto (TDraw 1 (10 ^ 6) (2 ^ 41))) := by
  refine F.ok sc_law_draw (fun vs H Q E h => spS_len (n := 1) (fun B ds Φ ⟨_, e, _⟩ => by rw [e]; rfl) h) (fun cdv A outer s H vs Q E hr h => ⟨t_draw K spNo, PSs.nox ?_, draw_run h (by decide) (by decide) (by decide) (.inl (by decide))⟩)
  exact (pss_cons (ps_while PassesOwn.never (PW.pt (pw_and (pt_cmpR (op_neD hr.units) (pe_ix ix_list (pv 0) pe_int (fun _ _ => rfl)) (pe_lst pa_nil) (nomark _)) (pw_and1 (pt_cmpR op_eq (pe_ix ix_list (pe_ix ix_list (pv 0) pe_int (fun _ _ => rfl)) pe_int (fun _ _ => rfl)) pe_int (nomark _))))) (pss_one (ps_expr (pe_bm PySem.F.plainAttrs_list PySem.F.slot_list_pop PySem.F.type_list_pop mt_popAt (pe_ix ix_list (pv 0) pe_int (fun _ _ => rfl)) (pa_cons pe_int pa_nil)))))
      (pss_cons (ps_if (pt_cmpR (op_neD hr.units) (pe_ix ix_list (pv 0) pe_int (fun _ _ => rfl)) (pe_lst pa_nil) (nomark _)) (pss_cons (ps_set (i := 2) sc_law_draw.nd rfl (by first | exact Or.inl rfl | exact Or.inr rfl) (pe_op op_modN (pe_ix ix_list (pe_ix ix_list (pv 0) pe_int (fun _ _ => rfl)) pe_int (fun _ _ => rfl)) (pv 1)))
      (pss_cons (ps_asg (pe_op op_fdivX (pe_ix ix_list (pe_ix ix_list (pv 0) pe_int (fun _ _ => rfl)) pe_int (fun _ _ => rfl)) (pv 1)) (pg_sub (pe_ix ix_list (pv 0) pe_int (fun _ _ => rfl)) pe_int set_list))
      (pss_one (ps_ret (pv 2))))) pss_nil)
      (pss_cons (ps_if (pt_cmpR op_gt (pv 1) (pe_op op_pow pe_int pe_int) (nomark _)) (pss_cons (ps_set (i := 3) sc_law_draw.nd rfl (by first | exact Or.inl rfl | exact Or.inr rfl) pe_int)
      (pss_cons (ps_for PassesOwn.never rfl (pi_range1 rfl z_range (pa_cons (pe_op op_add pe_int (pe_op op_fdivX (pe_callB call_len_str (by rfl) z_len PySem.boot_len (pa_cons (pe_callTy call_str_int (by rfl) z_str (by decide +kernel) (pa_cons (pv 1) pa_nil)) pa_nil)) pe_int)) pa_nil)) (pg_name (i := 4) sc_law_draw.nd rfl (by first | exact Or.inl rfl | exact Or.inr rfl)) (pss_one (ps_set (i := 3) sc_law_draw.nd rfl (by first | exact Or.inl rfl | exact Or.inr rfl) (pe_op op_add (pe_op op_mulW (pv 3) (pe_op op_pow pe_int pe_int)) (pe_has h__law_draw (hr.mono (by decide)) pass0 (pa_cons (pv 0) (pa_cons (pe_op op_pow pe_int pe_int) pa_nil)))))))
      (pss_one (ps_ret (pe_op op_modN (pv 3) (pv 1)))))) pss_nil)
      (pss_cons (ps_set (i := 5) sc_law_draw.nd rfl (by first | exact Or.inl rfl | exact Or.inr rfl) (pe_op op_add (pe_ix ix_list (pv 0) pe_int (fun _ _ => rfl)) pe_int))
      (pss_cons (ps_asg (pv 5) (pg_sub (pv 0) pe_int set_list))
      (pss_cons (ps_set (i := 6) sc_law_draw.nd rfl (by first | exact Or.inl rfl | exact Or.inr rfl) (pe_lst (pa_cons pe_int (pa_cons pe_int (pa_cons pe_int (pa_cons pe_int (pa_cons pe_int pa_nil)))))))
      (pss_cons (ps_set (i := 7) sc_law_draw.nd rfl (by first | exact Or.inl rfl | exact Or.inr rfl) (pe_ix ix_list (pe_ix ix_list (pv 0) pe_int (fun _ _ => rfl)) (pe_op op_modN (pv 5) (pe_callB call_len_seq (by rfl) z_len PySem.boot_len (pa_cons (pe_ix ix_list (pv 0) pe_int (fun _ _ => rfl)) pa_nil))) (fun _ _ => rfl)))
      (pss_cons (ps_set (i := 8) sc_law_draw.nd rfl (by first | exact Or.inl rfl | exact Or.inr rfl) (pe_op op_modN (pe_op op_pow (pe_op op_add (pe_op op_add (pe_op op_add (pe_ix ix_list (pv 0) pe_int (fun _ _ => rfl)) (pv 7)) (pe_op op_mulW pe_int (pv 5))) pe_int) pe_int) (pe_ix ix_list (pv 6) (pe_op op_modN (pv 5) pe_int) (fun _ _ => rfl))))
      (pss_cons (ps_set (i := 9) sc_law_draw.nd rfl (by first | exact Or.inl rfl | exact Or.inr rfl) (pe_op op_add (pe_op op_add (pe_op op_mulW (pv 8) (pv 8)) (pe_op op_modN (pe_ix ix_list (pv 0) pe_int (fun _ _ => rfl)) pe_int)) (pv 5)))
      (pss_one (ps_ret (pe_op op_modN (pe_op op_fdivX (pe_op op_modN (pe_op op_pow (pv 9) pe_int) (pe_ix ix_list (pv 6) (pe_op op_modN (pe_op op_add (pv 5) pe_int) pe_int) (fun _ _ => rfl))) pe_int) (pv 1)))))))))))))
theorem ok_draw2 (F : FnP K "_law_draw" s_law_draw f fd) (h__law_draw : Has P w K mg base CX0 "_law_draw" 2 ["store", "many"] (spS K FSto (TDraw 1 (10 ^ 6) (2 ^ 41))) []) (z_len : mg "len" = none) (z_range : mg "range" = none) (z_str : mg "str" = none) : FnOk P w K mg base CX0 3 f fd ["store", "many"] (spS K FSto TDr) := by
  refine F.ok sc_law_draw (fun vs H Q E h => spS_len (n := 1) (fun B ds Φ ⟨_, e, _⟩ => by rw [e]; rfl) h) (fun cdv A outer s H vs Q E hr h => ⟨t_draw K (spS K FSto (TDraw 1 (10 ^ 6) (2 ^ 41))), PSs.nox ?_, draw_run h (by decide +kernel) (by decide) (by decide) (.inr ⟨rfl, by decide, by decide⟩)⟩)
  exact (pss_cons (ps_while PassesOwn.never (PW.pt (pw_and (pt_cmpR (op_neD hr.units) (pe_ix ix_list (pv 0) pe_int (fun _ _ => rfl)) (pe_lst pa_nil) (nomark _)) (pw_and1 (pt_cmpR op_eq (pe_ix ix_list (pe_ix ix_list (pv 0) pe_int (fun _ _ => rfl)) pe_int (fun _ _ => rfl)) pe_int (nomark _))))) (pss_one (ps_expr (pe_bm PySem.F.plainAttrs_list PySem.F.slot_list_pop PySem.F.type_list_pop mt_popAt (pe_ix ix_list (pv 0) pe_int (fun _ _ => rfl)) (pa_cons pe_int pa_nil)))))
      (pss_cons (ps_if (pt_cmpR (op_neD hr.units) (pe_ix ix_list (pv 0) pe_int (fun _ _ => rfl)) (pe_lst pa_nil) (nomark _)) (pss_cons (ps_set (i := 2) sc_law_draw.nd rfl (by first | exact Or.inl rfl | exact Or.inr rfl) (pe_op op_modN (pe_ix ix_list (pe_ix ix_list (pv 0) pe_int (fun _ _ => rfl)) pe_int (fun _ _ => rfl)) (pv 1)))
      (pss_cons (ps_asg (pe_op op_fdivX (pe_ix ix_list (pe_ix ix_list (pv 0) pe_int (fun _ _ => rfl)) pe_int (fun _ _ => rfl)) (pv 1)) (pg_sub (pe_ix ix_list (pv 0) pe_int (fun _ _ => rfl)) pe_int set_list))
      (pss_one (ps_ret (pv 2))))) pss_nil)
      (pss_cons (ps_if (pt_cmpR op_gt (pv 1) (pe_op op_pow pe_int pe_int) (nomark _)) (pss_cons (ps_set (i := 3) sc_law_draw.nd rfl (by first | exact Or.inl rfl | exact Or.inr rfl) pe_int)
      (pss_cons (ps_for PassesOwn.never rfl (pi_range1 rfl z_range (pa_cons (pe_op op_add pe_int (pe_op op_fdivX (pe_callB call_len_str (by rfl) z_len PySem.boot_len (pa_cons (pe_callTy call_str_int (by rfl) z_str (by decide +kernel) (pa_cons (pv 1) pa_nil)) pa_nil)) pe_int)) pa_nil)) (pg_name (i := 4) sc_law_draw.nd rfl (by first | exact Or.inl rfl | exact Or.inr rfl)) (pss_one (ps_set (i := 3) sc_law_draw.nd rfl (by first | exact Or.inl rfl | exact Or.inr rfl) (pe_op op_add (pe_op op_mulW (pv 3) (pe_op op_pow pe_int pe_int)) (pe_has h__law_draw (hr.mono (by decide)) pass0 (pa_cons (pv 0) (pa_cons (pe_op op_pow pe_int pe_int) pa_nil)))))))
      (pss_one (ps_ret (pe_op op_modN (pv 3) (pv 1)))))) pss_nil)
      (pss_cons (ps_set (i := 5) sc_law_draw.nd rfl (by first | exact Or.inl rfl | exact Or.inr rfl) (pe_op op_add (pe_ix ix_list (pv 0) pe_int (fun _ _ => rfl)) pe_int))
      (pss_cons (ps_asg (pv 5) (pg_sub (pv 0) pe_int set_list))
      (pss_cons (ps_set (i := 6) sc_law_draw.nd rfl (by first | exact Or.inl rfl | exact Or.inr rfl) (pe_lst (pa_cons pe_int (pa_cons pe_int (pa_cons pe_int (pa_cons pe_int (pa_cons pe_int pa_nil)))))))
      (pss_cons (ps_set (i := 7) sc_law_draw.nd rfl (by first | exact Or.inl rfl | exact Or.inr rfl) (pe_ix ix_list (pe_ix ix_list (pv 0) pe_int (fun _ _ => rfl)) (pe_op op_modN (pv 5) (pe_callB call_len_seq (by rfl) z_len PySem.boot_len (pa_cons (pe_ix ix_list (pv 0) pe_int (fun _ _ => rfl)) pa_nil))) (fun _ _ => rfl)))
      (pss_cons (ps_set (i := 8) sc_law_draw.nd rfl (by first | exact Or.inl rfl | exact Or.inr rfl) (pe_op op_modN (pe_op op_pow (pe_op op_add (pe_op op_add (pe_op op_add (pe_ix ix_list (pv 0) pe_int (fun _ _ => rfl)) (pv 7)) (pe_op op_mulW pe_int (pv 5))) pe_int) pe_int) (pe_ix ix_list (pv 6) (pe_op op_modN (pv 5) pe_int) (fun _ _ => rfl))))
      (pss_cons (ps_set (i := 9) sc_law_draw.nd rfl (by first | exact Or.inl rfl | exact Or.inr rfl) (pe_op op_add (pe_op op_add (pe_op op_mulW (pv 8) (pv 8)) (pe_op op_modN (pe_ix ix_list (pv 0) pe_int (fun _ _ => rfl)) pe_int)) (pv 5)))
      (pss_one (ps_ret (pe_op op_modN (pe_op op_fdivX (pe_op op_modN (pe_op op_pow (pv 9) pe_int) (pe_ix ix_list (pv 6) (pe_op op_modN (pe_op op_add (pv 5) pe_int) pe_int) (fun _ _ => rfl))) pe_int) (pv 1)))))))))))))
theorem ok_law_store  (F : FnP K "_law_store" s_law_store f fd) (z_abs : mg "abs" = none) (z_enumerate : mg "enumerate" = none)  : FnOk P w K mg base CX0 1 f fd ["script"] (spMk K) := by
  refine F.ok sc_law_store (fun vs H Q E h => by obtain ⟨_, _, rfl, _⟩ := h; rfl) (fun cdv A outer s H vs Q E hr h => ⟨t_store K, PSs.nox ?_, store_run h⟩)
  exact (pss_cons (ps_set (i := 1) sc_law_store.nd rfl (by first | exact Or.inl rfl | exact Or.inr rfl) pe_int)
      (pss_cons (ps_for PassesOwn.never rfl (pi_enum (by rfl) z_enumerate (pa_cons (pe_slice sl_list (pv 0) po_none (po_some pe_int)) pa_nil)) (pg_tup rfl (pgs_cons (pg_name (i := 2) sc_law_store.nd rfl (by first | exact Or.inl rfl | exact Or.inr rfl)) (pgs_cons (pg_name (i := 3) sc_law_store.nd rfl (by first | exact Or.inl rfl | exact Or.inr rfl)) pgs_nil))) (pss_one (ps_set (i := 1) sc_law_store.nd rfl (by first | exact Or.inl rfl | exact Or.inr rfl) (pe_op op_modN (pe_op op_add (pe_op op_add (pe_op op_mulW (pv 1) (pv 1)) (pe_op op_modN (pv 3) pe_int)) (pe_op op_mulW pe_int (pv 2))) pe_int))))
      (pss_cons (ps_setLc (i := 4) (own := [("cell", 3)]) (g := (gName 3)) rfl sc_law_store.nd rfl rfl (sw_true rfl rfl rfl (by decide +kernel)) (pi_list (pe_slice sl_list (pv 0) po_none (po_some pe_int))) (blkOk_by (N := ["script", "blend", "place", "cell", "great", "small"]) (sc := defScope s_law_store) (by decide +kernel)) (fun _ _ _ _ _ => (pg_name (i := 3) sc_law_store.nd rfl (by first | exact Or.inl rfl | exact Or.inr rfl))) (fun _ _ _ _ _ => (pts_one (pt_cmpR op_ge (pe_callB call_abs (by rfl) z_abs (by decide +kernel) (pa_cons (pv 3) pa_nil)) (pe_op op_pow pe_int pe_int) (nomark _)))) (fun _ _ _ _ _ => (pe_callB call_abs (by rfl) z_abs (by decide +kernel) (pa_cons (pv 3) pa_nil))))
      (pss_cons (ps_setLc (i := 5) (own := [("cell", 3)]) (g := (gName 3)) rfl sc_law_store.nd rfl rfl (sw_true rfl rfl rfl (by decide +kernel)) (pi_list (pe_slice sl_list (pv 0) po_none (po_some pe_int))) (blkOk_by (N := ["script", "blend", "place", "cell", "great", "small"]) (sc := defScope s_law_store) (by decide +kernel)) (fun _ _ _ _ _ => (pg_name (i := 3) sc_law_store.nd rfl (by first | exact Or.inl rfl | exact Or.inr rfl))) (fun _ _ _ _ _ => (pts_one (pt_cmpR op_lt (pe_callB call_abs (by rfl) z_abs (by decide +kernel) (pa_cons (pv 3) pa_nil)) (pe_op op_pow pe_int pe_int) (nomark _)))) (fun _ _ _ _ _ => (pe_callB call_abs (by rfl) z_abs (by decide +kernel) (pa_cons (pv 3) pa_nil))))
      (pss_one (ps_ret (pe_lst (pa_cons (pv 4) (pa_cons (pv 1) (pa_cons pe_int (pa_cons (pe_op op_catL (pv 5) (pe_lst (pa_cons pe_int pa_nil))) pa_nil)))))))))))
theorem ok_law_part  (F : FnP K "_law_part" s_law_part f fd) (z_abs : mg "abs" = none)  : FnOk P w K mg base CX0 1 f fd ["above", "below"] (spP K TLow) := by
  refine F.ok sc_law_part (fun vs H Q E h => spP_len (n := 2) (fun ds Φ ⟨_, _, e, _⟩ => by rw [e]; rfl) h) (fun cdv A outer s H vs Q E hr h => ⟨t_law_part K, PSs.nox ?_, run_P h fun ds Φ t => ws_lpart t.part⟩)
  exact (pss_cons (ps_par (by rfl) sc_law_part.nd (i := 2) (j := 3) rfl rfl (by decide) rfl rfl (pa_cons (pe_callB call_abs (by rfl) z_abs (by decide +kernel) (pa_cons (pv 0) pa_nil)) (pa_cons (pe_callB call_abs (by rfl) z_abs (by decide +kernel) (pa_cons (pv 1) pa_nil)) pa_nil)) (by rfl))
      (pss_cons (ps_while PassesOwn.never (pt_cmpR op_gt (pv 3) pe_int (nomark _)) (pss_one (ps_par (by rfl) sc_law_part.nd (i := 2) (j := 3) rfl rfl (by decide) rfl rfl (pa_cons (pv 3) (pa_cons (pe_op op_modN (pv 2) (pv 3)) pa_nil)) (by rfl))))
      (pss_cons (ps_set (i := 4) sc_law_part.nd rfl (by first | exact Or.inl rfl | exact Or.inr rfl) (pe_ifExp (pt_cmpR op_gt (pv 1) pe_int (nomark _)) pe_int (pe_un un_neg pe_int)))
      (pss_one (ps_ret (pe_tup (pa_cons (pe_op op_fdivX (pe_op op_mulW (pv 4) (pv 0)) (pv 2)) (pa_cons (pe_op op_fdivX (pe_callB call_abs (by rfl) z_abs (by decide +kernel) (pa_cons (pv 1) pa_nil)) (pv 2)) pa_nil))))))))
theorem ok_part  (F : FnD K "part" s_part [.int 1] f fd) (m_gcd : mg "gcd" = some (.builtin "math.gcd"))  : FnOk P w K mg base CX0 1 f fd ["a", "b"] (spP K TLow) := by
  refine F.ok sc_part (fun vs H Q E h => spP_len (n := 2) (fun ds Φ ⟨_, _, e, _⟩ => by rw [e]; rfl) h) (fun cdv A outer s H vs Q E hr h => ⟨t_part K, PSs.nox ?_, run_P h fun ds Φ t => ws_part t.part⟩)
  exact (pss_cons (ps_if (pt_cmpR op_eq (pv 1) pe_int (nomark _)) (pss_one ps_no) pss_nil)
      (pss_cons (ps_set (i := 2) sc_part.nd rfl (by first | exact Or.inl rfl | exact Or.inr rfl) (pe_callBfun cr_gcd (by rfl) m_gcd (pa_cons (pv 0) (pa_cons (pv 1) pa_nil))))
      (pss_cons (ps_if (pt_cmpR op_lt (pv 1) pe_int (nomark _)) (pss_one (ps_set (i := 2) sc_part.nd rfl (by first | exact Or.inl rfl | exact Or.inr rfl) (pe_un un_neg (pv 2)))) pss_nil)
      (pss_one (ps_ret (pe_tup (pa_cons (pe_op op_fdivX (pv 0) (pv 2)) (pa_cons (pe_op op_fdivX (pv 1) (pv 2)) pa_nil))))))))
theorem ok_plus  (F : FnP K "plus" s_plus f fd) (h_part : Has P w K mg base CX0 "part" 1 ["a", "b"] (spP K TLow) [])  : FnOk P w K mg base CX0 2 f fd ["one", "other"] (spP K TAdQ) := by
  refine F.ok sc_plus (fun vs H Q E h => spP_len (n := 2) (fun ds Φ ⟨_, _, e, _⟩ => by rw [e]; rfl) h) (fun cdv A outer s H vs Q E hr h => ⟨t_addq K, PSs.nox ?_, run_P h fun ds Φ t => ws_addq t⟩)
  exact (pss_one (ps_ret (pe_has h_part (hr.mono (by decide)) pass0 (pa_cons (pe_op op_add (pe_op op_mulW (pe_ix ix_tup (pv 0) pe_int (fun _ _ => rfl)) (pe_ix ix_tup (pv 1) pe_int (fun _ _ => rfl))) (pe_op op_mulW (pe_ix ix_tup (pv 1) pe_int (fun _ _ => rfl)) (pe_ix ix_tup (pv 0) pe_int (fun _ _ => rfl)))) (pa_cons (pe_op op_mulW (pe_ix ix_tup (pv 0) pe_int (fun _ _ => rfl)) (pe_ix ix_tup (pv 1) pe_int (fun _ _ => rfl))) pa_nil)))))
theorem ok_less  (F : FnP K "less" s_less f fd) (h_part : Has P w K mg base CX0 "part" 1 ["a", "b"] (spP K TLow) [])  : FnOk P w K mg base CX0 2 f fd ["one", "other"] (spP K TSbQ) := by
  refine F.ok sc_less (fun vs H Q E h => spP_len (n := 2) (fun ds Φ ⟨_, _, e, _⟩ => by rw [e]; rfl) h) (fun cdv A outer s H vs Q E hr h => ⟨t_subq K, PSs.nox ?_, run_P h fun ds Φ t => ws_subq t⟩)
  exact (pss_one (ps_ret (pe_has h_part (hr.mono (by decide)) pass0 (pa_cons (pe_op op_sub (pe_op op_mulW (pe_ix ix_tup (pv 0) pe_int (fun _ _ => rfl)) (pe_ix ix_tup (pv 1) pe_int (fun _ _ => rfl))) (pe_op op_mulW (pe_ix ix_tup (pv 1) pe_int (fun _ _ => rfl)) (pe_ix ix_tup (pv 0) pe_int (fun _ _ => rfl)))) (pa_cons (pe_op op_mulW (pe_ix ix_tup (pv 0) pe_int (fun _ _ => rfl)) (pe_ix ix_tup (pv 1) pe_int (fun _ _ => rfl))) pa_nil)))))
theorem ok_times  (F : FnP K "times" s_times f fd) (h_part : Has P w K mg base CX0 "part" 1 ["a", "b"] (spP K TLow) [])  : FnOk P w K mg base CX0 2 f fd ["one", "other"] (spP K TMlQ) := by
  refine F.ok sc_times (fun vs H Q E h => spP_len (n := 2) (fun ds Φ ⟨_, _, e, _⟩ => by rw [e]; rfl) h) (fun cdv A outer s H vs Q E hr h => ⟨t_mulq K, PSs.nox ?_, run_P h fun ds Φ t => ws_mulq t⟩)
  exact (pss_one (ps_ret (pe_has h_part (hr.mono (by decide)) pass0 (pa_cons (pe_op op_mulW (pe_ix ix_tup (pv 0) pe_int (fun _ _ => rfl)) (pe_ix ix_tup (pv 1) pe_int (fun _ _ => rfl))) (pa_cons (pe_op op_mulW (pe_ix ix_tup (pv 0) pe_int (fun _ _ => rfl)) (pe_ix ix_tup (pv 1) pe_int (fun _ _ => rfl))) pa_nil)))))
theorem ok_is_less  (F : FnP K "is_less" s_is_less f fd)   : FnOk P w K mg base CX0 1 f fd ["one", "other"] (spP K TLtQ) := by
  refine F.ok sc_is_less (fun vs H Q E h => spP_len (n := 2) (fun ds Φ ⟨_, _, e, _⟩ => by rw [e]; rfl) h) (fun cdv A outer s H vs Q E hr h => ⟨t_ltq K, PSs.nox ?_, run_P h fun ds Φ t => ws_ltq t⟩)
  exact (pss_one (ps_ret (pe_cmpR op_lt (pe_op op_mulW (pe_ix ix_tup (pv 0) pe_int (fun _ _ => rfl)) (pe_ix ix_tup (pv 1) pe_int (fun _ _ => rfl))) (pe_op op_mulW (pe_ix ix_tup (pv 1) pe_int (fun _ _ => rfl)) (pe_ix ix_tup (pv 0) pe_int (fun _ _ => rfl))) (nomark _))))
theorem ok_law_sum  (F : FnP K "_law_sum" s_law_sum f fd) (h__law_part : Has P w K mg base CX0 "_law_part" 1 ["above", "below"] (spP K TLow) [])  : FnOk P w K mg base CX0 2 f fd ["one", "other"] (spP K TAdQ) := by
  refine F.ok sc_law_sum (fun vs H Q E h => spP_len (n := 2) (fun ds Φ ⟨_, _, e, _⟩ => by rw [e]; rfl) h) (fun cdv A outer s H vs Q E hr h => ⟨t_addq K, PSs.nox ?_, run_P h fun ds Φ t => ws_addq t⟩)
  exact (pss_one (ps_ret (pe_has h__law_part (hr.mono (by decide)) pass0 (pa_cons (pe_op op_add (pe_op op_mulW (pe_ix ix_tup (pv 0) pe_int (fun _ _ => rfl)) (pe_ix ix_tup (pv 1) pe_int (fun _ _ => rfl))) (pe_op op_mulW (pe_ix ix_tup (pv 1) pe_int (fun _ _ => rfl)) (pe_ix ix_tup (pv 0) pe_int (fun _ _ => rfl)))) (pa_cons (pe_op op_mulW (pe_ix ix_tup (pv 0) pe_int (fun _ _ => rfl)) (pe_ix ix_tup (pv 1) pe_int (fun _ _ => rfl))) pa_nil)))))
theorem ok_law_rest  (F : FnP K "_law_rest" s_law_rest f fd) (h__law_part : Has P w K mg base CX0 "_law_part" 1 ["above", "below"] (spP K TLow) [])  : FnOk P w K mg base CX0 2 f fd ["one", "other"] (spP K TSbQ) := by
  refine F.ok sc_law_rest (fun vs H Q E h => spP_len (n := 2) (fun ds Φ ⟨_, _, e, _⟩ => by rw [e]; rfl) h) (fun cdv A outer s H vs Q E hr h => ⟨t_subq K, PSs.nox ?_, run_P h fun ds Φ t => ws_subq t⟩)
  exact (pss_one (ps_ret (pe_has h__law_part (hr.mono (by decide)) pass0 (pa_cons (pe_op op_sub (pe_op op_mulW (pe_ix ix_tup (pv 0) pe_int (fun _ _ => rfl)) (pe_ix ix_tup (pv 1) pe_int (fun _ _ => rfl))) (pe_op op_mulW (pe_ix ix_tup (pv 1) pe_int (fun _ _ => rfl)) (pe_ix ix_tup (pv 0) pe_int (fun _ _ => rfl)))) (pa_cons (pe_op op_mulW (pe_ix ix_tup (pv 0) pe_int (fun _ _ => rfl)) (pe_ix ix_tup (pv 1) pe_int (fun _ _ => rfl))) pa_nil)))))
theorem ok_law_fold  (F : FnP K "_law_fold" s_law_fold f fd) (h__law_part : Has P w K mg base CX0 "_law_part" 1 ["above", "below"] (spP K TLow) [])  : FnOk P w K mg base CX0 2 f fd ["one", "other"] (spP K TMlQ) := by
  refine F.ok sc_law_fold (fun vs H Q E h => spP_len (n := 2) (fun ds Φ ⟨_, _, e, _⟩ => by rw [e]; rfl) h) (fun cdv A outer s H vs Q E hr h => ⟨t_mulq K, PSs.nox ?_, run_P h fun ds Φ t => ws_mulq t⟩)
  exact (pss_one (ps_ret (pe_has h__law_part (hr.mono (by decide)) pass0 (pa_cons (pe_op op_mulW (pe_ix ix_tup (pv 0) pe_int (fun _ _ => rfl)) (pe_ix ix_tup (pv 1) pe_int (fun _ _ => rfl))) (pa_cons (pe_op op_mulW (pe_ix ix_tup (pv 0) pe_int (fun _ _ => rfl)) (pe_ix ix_tup (pv 1) pe_int (fun _ _ => rfl))) pa_nil)))))
theorem ok_law_under  (F : FnP K "_law_under" s_law_under f fd)   : FnOk P w K mg base CX0 1 f fd ["one", "other"] (spP K TLtQ) := by
  refine F.ok sc_law_under (fun vs H Q E h => spP_len (n := 2) (fun ds Φ ⟨_, _, e, _⟩ => by rw [e]; rfl) h) (fun cdv A outer s H vs Q E hr h => ⟨t_ltq K, PSs.nox ?_, run_P h fun ds Φ t => ws_ltq t⟩)
  exact (pss_one (ps_ret (pe_cmpR op_lt (pe_op op_mulW (pe_ix ix_tup (pv 0) pe_int (fun _ _ => rfl)) (pe_ix ix_tup (pv 1) pe_int (fun _ _ => rfl))) (pe_op op_mulW (pe_ix ix_tup (pv 1) pe_int (fun _ _ => rfl)) (pe_ix ix_tup (pv 0) pe_int (fun _ _ => rfl))) (nomark _))))
theorem ok_law_small  (F : FnP K "_law_small" s_law_small f fd) (h__law_draw : Has P w K mg base CX0 "_law_draw" 3 ["store", "many"] (spS K FSto TDr) []) (h__law_part : Has P w K mg base CX0 "_law_part" 1 ["above", "below"] (spP K TLow) [])  : FnOk P w K mg base CX0 4 f fd ["store"] (spS K FSto TSmallQ) := by
  refine F.ok sc_law_small (fun vs H Q E h => spS_len (n := 0) (fun B ds Φ ⟨e, _⟩ => by rw [e]; rfl) h) (fun cdv A outer s H vs Q E hr h => ⟨t_smallq K, PSs.nox ?_, run_S h (fun S B ds Φ hF t => ws_smallq hF t) (by decide)⟩)
  exact (pss_cons (ps_set (i := 1) sc_law_small.nd rfl (by first | exact Or.inl rfl | exact Or.inr rfl) (pe_has h__law_draw (hr.mono (by decide)) pass0 (pa_cons (pv 0) (pa_cons pe_int pa_nil))))
      (pss_cons (ps_set (i := 2) sc_law_small.nd rfl (by first | exact Or.inl rfl | exact Or.inr rfl) (pe_ix ix_list (pe_lst (pa_cons pe_int (pa_cons pe_int (pa_cons pe_int (pa_cons pe_int (pa_cons pe_int (pa_cons pe_int (pa_cons pe_int (pa_cons pe_int (pa_cons pe_int (pa_cons pe_int (pa_cons (pe_op op_add pe_int (pe_has h__law_draw (hr.mono (by decide)) pass0 (pa_cons (pv 0) (pa_cons pe_int pa_nil)))) pa_nil)))))))))))) (pe_has h__law_draw (hr.mono (by decide)) pass0 (pa_cons (pv 0) (pa_cons pe_int pa_nil))) (fun _ _ => rfl)))
      (pss_cons (ps_set (i := 3) sc_law_small.nd rfl (by first | exact Or.inl rfl | exact Or.inr rfl) (pe_lst (pa_cons pe_int (pa_cons pe_int (pa_cons (pe_op op_add pe_int (pe_has h__law_draw (hr.mono (by decide)) pass0 (pa_cons (pv 0) (pa_cons pe_int pa_nil)))) (pa_cons (pe_has h__law_draw (hr.mono (by decide)) pass0 (pa_cons (pv 0) (pa_cons pe_int pa_nil))) (pa_cons (pe_op op_sub (pe_op op_pow pe_int pe_int) (pe_has h__law_draw (hr.mono (by decide)) pass0 (pa_cons (pv 0) (pa_cons pe_int pa_nil)))) pa_nil)))))))
      (pss_cons (ps_set (i := 3) sc_law_small.nd rfl (by first | exact Or.inl rfl | exact Or.inr rfl) (pe_ix ix_list (pe_op op_catL (pv 3) (pe_lst (pa_cons (pe_has h__law_draw (hr.mono (by decide)) pass0 (pa_cons (pv 0) (pa_cons (pe_op op_pow pe_int pe_int) pa_nil))) pa_nil))) (pv 1) (fun _ _ => rfl)))
      (pss_one (ps_ret (pe_has h__law_part (hr.mono (by decide)) pass0 (pa_cons (pe_op op_mulW (pv 3) (pe_ix ix_list (pe_lst (pa_cons pe_int (pa_cons (pe_un un_neg pe_int) pa_nil))) (pe_has h__law_draw (hr.mono (by decide)) pass0 (pa_cons (pv 0) (pa_cons pe_int pa_nil))) (fun _ _ => rfl))) (pa_cons (pv 2) pa_nil)))))))))
theorem ok_law_share  (F : FnP K "_law_share" s_law_share f fd) (h__law_draw : Has P w K mg base CX0 "_law_draw" 3 ["store", "many"] (spS K FSto TDr) []) (h__law_part : Has P w K mg base CX0 "_law_part" 1 ["above", "below"] (spP K TLow) [])  : FnOk P w K mg base CX0 4 f fd ["store"] (spS K FSto TShareQ) := by
  refine F.ok sc_law_share (fun vs H Q E h => spS_len (n := 0) (fun B ds Φ ⟨e, _⟩ => by rw [e]; rfl) h) (fun cdv A outer s H vs Q E hr h => ⟨t_shareq K, PSs.nox ?_, run_S h (fun S B ds Φ hF t => ws_shareq hF t) (by decide)⟩)
  exact (pss_cons (ps_set (i := 1) sc_law_share.nd rfl (by first | exact Or.inl rfl | exact Or.inr rfl) (pe_ix ix_list (pe_lst (pa_cons pe_int (pa_cons pe_int (pa_cons pe_int (pa_cons pe_int (pa_cons pe_int (pa_cons pe_int (pa_cons (pe_op op_add pe_int (pe_has h__law_draw (hr.mono (by decide)) pass0 (pa_cons (pv 0) (pa_cons pe_int pa_nil)))) pa_nil)))))))) (pe_has h__law_draw (hr.mono (by decide)) pass0 (pa_cons (pv 0) (pa_cons pe_int pa_nil))) (fun _ _ => rfl)))
      (pss_one (ps_ret (pe_has h__law_part (hr.mono (by decide)) pass0 (pa_cons (pe_op op_sub (pv 1) (pe_op op_mulW (pe_has h__law_draw (hr.mono (by decide)) pass0 (pa_cons (pv 0) (pa_cons (pv 1) pa_nil))) (pe_has h__law_draw (hr.mono (by decide)) pass0 (pa_cons (pv 0) (pa_cons pe_int pa_nil))))) (pa_cons (pv 1) pa_nil))))))
theorem ok_law_totals  (F : FnP K "_law_totals" s_law_totals f fd) (z_abs : mg "abs" = none) (z_max : mg "max" = none) (z_min : mg "min" = none) (z_range : mg "range" = none) (h__law_draw : Has P w K mg base CX0 "_law_draw" 3 ["store", "many"] (spS K FSto TDr) []) (h__law_part : Has P w K mg base CX0 "_law_part" 1 ["above", "below"] (spP K TLow) []) (h__law_small : Has P w K mg base CX0 "_law_small" 4 ["store"] (spS K FSto TSmallQ) []) (h_plus : Has P w K mg base CX0 "plus" 2 ["one", "other"] (spP K TAdQ) []) (h_times : Has P w K mg base CX0 "times" 2 ["one", "other"] (spP K TMlQ) [])  : FnOk P w K mg base CX0 5 f fd ["store", "most"] (spS K FSto TTotals) := by
  refine F.ok sc_law_totals (fun vs H Q E h => spS_len (n := 1) (fun B ds Φ ⟨_, e, _⟩ => by rw [e]; rfl) h) (fun cdv A outer s H vs Q E hr h => ⟨t_totals K, PSs.nox ?_, run_S h (fun S B ds Φ hF t => ws_totals hF t) (by decide)⟩)
  exact (pss_cons (ps_set (i := 2) sc_law_totals.nd rfl (by first | exact Or.inl rfl | exact Or.inr rfl) (pe_has h__law_draw (hr.mono (by decide)) pass0 (pa_cons (pv 0) (pa_cons pe_int pa_nil))))
      (pss_cons (ps_set (i := 3) sc_law_totals.nd rfl (by first | exact Or.inl rfl | exact Or.inr rfl) (pe_ix ix_list (pe_lst (pa_cons pe_int (pa_cons pe_int (pa_cons (pv 1) pa_nil)))) (pe_has h__law_draw (hr.mono (by decide)) pass0 (pa_cons (pv 0) (pa_cons pe_int pa_nil))) (fun _ _ => rfl)))
      (pss_cons (ps_set (i := 4) sc_law_totals.nd rfl (by first | exact Or.inl rfl | exact Or.inr rfl) (pe_has h_times (hr.mono (by decide)) pass0 (pa_cons (pe_has h_times (hr.mono (by decide)) pass0 (pa_cons (pe_tup (pa_cons pe_int (pa_cons pe_int pa_nil))) (pa_cons (pe_tup (pa_cons pe_int (pa_cons pe_int pa_nil))) pa_nil))) (pa_cons (pe_tup (pa_cons pe_int (pa_cons pe_int pa_nil))) pa_nil))))
      (pss_cons (ps_for PassesOwn.never rfl (pi_range1 rfl z_range (pa_cons (pe_has h__law_draw (hr.mono (by decide)) pass0 (pa_cons (pv 0) (pa_cons pe_int pa_nil))) pa_nil)) (pg_name (i := 5) sc_law_totals.nd rfl (by first | exact Or.inl rfl | exact Or.inr rfl)) (pss_one (ps_set (i := 4) sc_law_totals.nd rfl (by first | exact Or.inl rfl | exact Or.inr rfl) (pe_has h_times (hr.mono (by decide)) pass0 (pa_cons (pv 4) (pa_cons (pv 4) pa_nil))))))
      (pss_cons (ps_set (i := 6) sc_law_totals.nd rfl (by first | exact Or.inl rfl | exact Or.inr rfl) (pe_ix ix_list (pe_lst (pa_cons pe_int (pa_cons pe_int (pa_cons pe_int (pa_cons pe_int (pa_cons pe_int (pa_cons pe_int (pa_cons pe_int pa_nil)))))))) (pe_has h__law_draw (hr.mono (by decide)) pass0 (pa_cons (pv 0) (pa_cons pe_int pa_nil))) (fun _ _ => rfl)))
      (pss_cons (ps_set (i := 7) sc_law_totals.nd rfl (by first | exact Or.inl rfl | exact Or.inr rfl) (pe_lst pa_nil))
      (pss_cons (ps_set (i := 8) sc_law_totals.nd rfl (by first | exact Or.inl rfl | exact Or.inr rfl) (pe_op op_sub (pe_has h__law_draw (hr.mono (by decide)) pass0 (pa_cons (pv 0) (pa_cons pe_int pa_nil))) pe_int))
      (pss_cons (ps_for PassesOwn.never rfl (pi_range1 rfl z_range (pa_cons (pe_has h__law_draw (hr.mono (by decide)) pass0 (pa_cons (pv 0) (pa_cons (pe_op op_add (pv 3) pe_int) pa_nil))) pa_nil)) (pg_name (i := 9) sc_law_totals.nd rfl (by first | exact Or.inl rfl | exact Or.inr rfl)) (pss_cons (ps_set (i := 10) sc_law_totals.nd rfl (by first | exact Or.inl rfl | exact Or.inr rfl) (pe_has h__law_draw (hr.mono (by decide)) pass0 (pa_cons (pv 0) (pa_cons (pe_ix ix_list (pe_lst (pa_cons pe_int (pa_cons pe_int (pa_cons pe_int pa_nil)))) (pe_has h__law_draw (hr.mono (by decide)) pass0 (pa_cons (pv 0) (pa_cons pe_int pa_nil))) (fun _ _ => rfl)) pa_nil))))
      (pss_cons (ps_set (i := 8) sc_law_totals.nd rfl (by first | exact Or.inl rfl | exact Or.inr rfl) (pe_op op_add (pv 8) (pe_ix ix_list (pe_lst (pa_cons (pe_op op_sub (pv 10) pe_int) (pa_cons (pv 10) (pa_cons (pe_op op_sub pe_int (pv 10)) (pa_cons (pe_op op_mulW (pv 10) (pe_op op_sub pe_int (pe_op op_mulW pe_int (pe_op op_modN (pv 9) pe_int)))) (pa_cons pe_int (pa_cons (pv 10) pa_nil))))))) (pv 2) (fun _ _ => rfl))))
      (pss_cons (ps_set (i := 8) sc_law_totals.nd rfl (by first | exact Or.inl rfl | exact Or.inr rfl) (pe_callB (call_max2 rfl) (by rfl) z_max (by decide +kernel) (pa_cons (pe_un un_neg (pe_op op_pow pe_int pe_int)) (pa_cons (pe_callB (call_min2 rfl) (by rfl) z_min (by decide +kernel) (pa_cons (pe_op op_pow pe_int pe_int) (pa_cons (pv 8) pa_nil))) pa_nil))))
      (pss_cons (ps_set (i := 11) sc_law_totals.nd rfl (by first | exact Or.inl rfl | exact Or.inr rfl) (pe_has h__law_part (hr.mono (by decide)) pass0 (pa_cons (pv 8) (pa_cons (pv 6) pa_nil))))
      (pss_cons (ps_if (PW.pt (pw_and (pt_cmpR op_eq (pv 2) pe_int (nomark _)) (pw_and1 (pt_cmpR op_eq (pe_has h__law_draw (hr.mono (by decide)) pass0 (pa_cons (pv 0) (pa_cons pe_int pa_nil))) pe_int (nomark _))))) (pss_one (ps_set (i := 11) sc_law_totals.nd rfl (by first | exact Or.inl rfl | exact Or.inr rfl) (pe_has h__law_small (hr.mono (by decide)) pass0 (pa_cons (pv 0) pa_nil)))) pss_nil)
      (pss_cons (ps_if (pt_cmpR op_eq (pv 2) pe_int (nomark _)) (pss_one (ps_set (i := 11) sc_law_totals.nd rfl (by first | exact Or.inl rfl | exact Or.inr rfl) (pe_tup (pa_cons (pe_op op_sub pe_int (pe_callB call_abs (by rfl) z_abs (by decide +kernel) (pa_cons (pe_ix ix_tup (pv 11) pe_int (fun _ _ => rfl)) pa_nil))) (pa_cons (pe_ix ix_tup (pv 11) pe_int (fun _ _ => rfl)) pa_nil))))) pss_nil)
      (pss_cons (ps_if (pt_cmpR op_eq (pe_has h__law_draw (hr.mono (by decide)) pass0 (pa_cons (pv 0) (pa_cons pe_int pa_nil))) pe_int (nomark _)) (pss_one (ps_set (i := 11) sc_law_totals.nd rfl (by first | exact Or.inl rfl | exact Or.inr rfl) (pe_has h_plus (hr.mono (by decide)) pass0 (pa_cons (pv 11) (pa_cons (pe_has h_times (hr.mono (by decide)) pass0 (pa_cons (pv 4) (pa_cons (pe_tup (pa_cons (pe_op op_sub (pe_has h__law_draw (hr.mono (by decide)) pass0 (pa_cons (pv 0) (pa_cons pe_int pa_nil))) pe_int) (pa_cons pe_int pa_nil))) pa_nil))) pa_nil))))) pss_nil)
      (pss_one (ps_expr (pe_bm PySem.F.plainAttrs_list PySem.F.slot_list_append PySem.F.type_list_append mt_append (pv 7) (pa_cons (pv 11) pa_nil))))))))))))
      (pss_one (ps_ret (pv 7)))))))))))
theorem ok_is_whole  (F : FnP K "is_whole" s_is_whole f fd) (z_int : mg "int" = none) (z_type : mg "type" = none)  : FnOk P w K mg base CX0 1 f fd ["thing"] (spP K TWhole) := by
  refine F.ok sc_is_whole (fun vs H Q E h => spP_len (n := 1) (fun ds Φ ⟨_, e, _⟩ => by rw [e]; rfl) h) (fun cdv A outer s H vs Q E hr h => ⟨t_is_whole K, PSs.nox ?_, run_P h fun ds Φ t => ws_is_whole t⟩)
  exact (pss_one (ps_ret (pe_cmpR op_isTyB (pe_callTy call_type1 (by rfl) z_type (by decide +kernel) (pa_cons (pv 0) pa_nil)) (pe_bltn (by rfl) z_int (by decide +kernel) rfl) (nomark _))))
theorem ok_is_part  (F : FnP K "is_part" s_is_part f fd) (m_gcd : mg "gcd" = some (.builtin "math.gcd")) (z_len : mg "len" = none) (z_tuple : mg "tuple" = none) (z_type : mg "type" = none) (h_is_whole : Has P w K mg base CX0 "is_whole" 1 ["thing"] (spP K TWhole) [])  : FnOk P w K mg base CX0 2 f fd ["thing"] (spP K TPartB) := by
  refine F.ok sc_is_part (fun vs H Q E h => spP_len (n := 1) (fun ds Φ ⟨_, e, _⟩ => by rw [e]; rfl) h) (fun cdv A outer s H vs Q E hr h => ⟨t_is_part K, PSs.nox ?_, run_P h fun ds Φ t => ws_is_part t⟩)
  exact (pss_cons (ps_if (pt_not (PW.pt (pw_and (pt_cmpR op_isTyB (pe_callTy call_type1 (by rfl) z_type (by decide +kernel) (pa_cons (pv 0) pa_nil)) (pe_bltn (by rfl) z_tuple (by decide +kernel) rfl) (nomark _)) (pw_and1 (pt_cmpR op_eq (pe_callB call_len_seq (by rfl) z_len PySem.boot_len (pa_cons (pv 0) pa_nil)) pe_int (nomark _)))))) (pss_one (ps_ret pe_bl)) pss_nil)
      (pss_cons (ps_asg (pv 0) (pg_tup rfl (pgs_cons (pg_name (i := 1) sc_is_part.nd rfl (by first | exact Or.inl rfl | exact Or.inr rfl)) (pgs_cons (pg_name (i := 2) sc_is_part.nd rfl (by first | exact Or.inl rfl | exact Or.inr rfl)) pgs_nil))))
      (pss_one (ps_ret (pe_and (pe_has h_is_whole (hr.mono (by decide)) pass0 (pa_cons (pv 1) pa_nil)) (pe_and (pe_has h_is_whole (hr.mono (by decide)) pass0 (pa_cons (pv 2) pa_nil)) (pe_and (pe_cmpR op_ge (pv 2) pe_int (nomark _)) (pe_one (pe_cmpR op_eq (pe_callBfun cr_gcd (by rfl) m_gcd (pa_cons (pv 1) (pa_cons (pv 2) pa_nil))) pe_int (nomark _))))))))))
theorem ok_floor  (F : FnP K "floor" s_floor f fd)   : FnOk P w K mg base CX0 1 f fd ["one"] (spP K TFloorQ) := by
  refine F.ok sc_floor (fun vs H Q E h => spP_len (n := 1) (fun ds Φ ⟨_, e, _⟩ => by rw [e]; rfl) h) (fun cdv A outer s H vs Q E hr h => ⟨t_floorq K, PSs.nox ?_, run_P h fun ds Φ t => ws_floorq t⟩)
  exact (pss_one (ps_ret (pe_op op_fdivX (pe_ix ix_tup (pv 0) pe_int (fun _ _ => rfl)) (pe_ix ix_tup (pv 0) pe_int (fun _ _ => rfl)))))
theorem ok_least {v0 : V} (F : FnKw K "least" s_least [("none", v0)] f fd) (h_is_less : Has P w K mg base CX0 "is_less" 1 ["one", "other"] (spP K TLtQ) [])  : FnOk P w K mg base CX0 2 f fd ["some", "none"] (spP K TLeastQ) := by
  refine F.ok sc_least (fun vs H Q E h => spP_len (n := 2) (fun ds Φ ⟨_, _, e, _⟩ => by rw [e]; rfl) h) (fun cdv A outer s H vs Q E hr h => ⟨t_leastq K, PSs.nox ?_, run_P h fun ds Φ t => ws_leastq t⟩)
  exact (pss_cons (ps_if (pt_not (pt_truth (pv 0) (fun _ => rfl))) (pss_one (ps_ret (pv 1))) pss_nil)
      (pss_cons (ps_set (i := 2) sc_least.nd rfl (by first | exact Or.inl rfl | exact Or.inr rfl) (pe_ix ix_tup (pv 0) pe_int (fun _ _ => rfl)))
      (pss_cons (ps_for PassesOwn.never rfl (pi_tup (pv 0)) (pg_name (i := 3) sc_least.nd rfl (by first | exact Or.inl rfl | exact Or.inr rfl)) (pss_one (ps_if (pt_val (pe_has h_is_less (hr.mono (by decide)) pass0 (pa_cons (pv 3) (pa_cons (pv 2) pa_nil)))) (pss_one (ps_set (i := 2) sc_least.nd rfl (by first | exact Or.inl rfl | exact Or.inr rfl) (pv 3))) pss_nil)))
      (pss_one (ps_ret (pv 2))))))
theorem ok_kept_of  (F : FnP K "_kept_of" s_kept_of f fd) (h_least_d1 : Has P w K mg base CX0 "least" 2 ["some", "none"] (spP K TLeastQ) [.non]) (h_times : Has P w K mg base CX0 "times" 2 ["one", "other"] (spP K TMlQ) [])  : FnOk P w K mg base CX0 3 f fd ["new", "debt", "share"] (spP K TKept) := by
  refine F.ok sc_kept_of (fun vs H Q E h => spP_len (n := 3) (fun ds Φ ⟨_, _, _, e, _⟩ => by rw [e]; rfl) h) (fun cdv A outer s H vs Q E hr h => ⟨t_kept K, PSs.nox ?_, run_P h fun ds Φ t => ws_kept t⟩)
  exact (pss_cons (ps_if (pt_cmpR op_le (pe_ix ix_tup (pv 0) pe_int (fun _ _ => rfl)) pe_int (nomark _)) (pss_one (ps_ret (pv 0))) pss_nil)
      (pss_one (ps_ret (pe_has h_least_d1 (hr.mono (by decide)) pass0 (pa_cons (pe_tup (pa_cons (pv 1) (pa_cons (pe_has h_times (hr.mono (by decide)) pass0 (pa_cons (pv 2) (pa_cons (pv 0) pa_nil))) pa_nil))) pa_nil)))))
theorem ok_payments {v0 v1 : V} {a_ONE a_NOUGHT : Addr} (F : FnKw K "payments" s_payments [("share", v0), ("whole", v1)] f fd) (z_tuple : mg "tuple" = none) (h__kept_of : Has P w K mg base CX0 "_kept_of" 3 ["new", "debt", "share"] (spP K TKept) []) (h_floor : Has P w K mg base CX0 "floor" 1 ["one"] (spP K TFloorQ) []) (h_is_less : Has P w K mg base CX0 "is_less" 1 ["one", "other"] (spP K TLtQ) []) (h_is_part : Has P w K mg base CX0 "is_part" 2 ["thing"] (spP K TPartB) []) (h_less : Has P w K mg base CX0 "less" 2 ["one", "other"] (spP K TSbQ) []) (h_plus : Has P w K mg base CX0 "plus" 2 ["one", "other"] (spP K TAdQ) []) (c_ONE : mg "ONE" = some (.ref a_ONE) ∧ RelV (V.ref a_ONE) (Value.ref a_ONE)) (c_NOUGHT : mg "NOUGHT" = some (.ref a_NOUGHT) ∧ RelV (V.ref a_NOUGHT) (Value.ref a_NOUGHT)) (hO : ∀ H : Hp, SqT K H a_ONE [.int 1, .int 1]) (hN : ∀ H : Hp, SqT K H a_NOUGHT [.int 0, .int 1]) : FnOk P w K mg base CX0 4 f fd ["totals", "share", "whole"] (spP K TPays) := by
  refine F.ok sc_payments (fun vs H Q E h => spP_len (n := 3) (fun ds Φ ⟨_, _, _, _, _, e, _⟩ => by rw [e]; rfl) h) (fun cdv A outer s H vs Q E hr h => ⟨t_pays K a_ONE a_NOUGHT, PSs.nox ?_, run_P h fun ds Φ t => ws_pays hO hN t⟩)
  exact (pss_cons (ps_if (pt_not (PW.pt (pw_and (pt_val (pe_has h_is_part (hr.mono (by decide)) pass0 (pa_cons (pv 1) pa_nil))) (pw_and (pt_cmpR op_gt (pe_ix ix_tup (pv 1) pe_int (fun _ _ => rfl)) pe_int (nomark _)) (pw_and1 (pt_not (pt_val (pe_has h_is_less (hr.mono (by decide)) pass0 (pa_cons (pe_glob rfl c_ONE.1 c_ONE.2) (pa_cons (pv 1) pa_nil)))))))))) (pss_one ps_no) pss_nil)
      (pss_cons (ps_set (i := 3) sc_payments.nd rfl (by first | exact Or.inl rfl | exact Or.inr rfl) (pe_lst pa_nil))
      (pss_cons (ps_asg3 (pe_glob rfl c_NOUGHT.1 c_NOUGHT.2) (pg_name (i := 4) sc_payments.nd rfl (by first | exact Or.inl rfl | exact Or.inr rfl)) (pg_name (i := 5) sc_payments.nd rfl (by first | exact Or.inl rfl | exact Or.inr rfl)) (pg_name (i := 6) sc_payments.nd rfl (by first | exact Or.inl rfl | exact Or.inr rfl)))
      (pss_cons (ps_for PassesOwn.never rfl (pi_row (pv 0)) (pg_name (i := 7) sc_payments.nd rfl (by first | exact Or.inl rfl | exact Or.inr rfl)) (pss_cons (ps_set (i := 8) sc_payments.nd rfl (by first | exact Or.inl rfl | exact Or.inr rfl) (pe_has h_less (hr.mono (by decide)) pass0 (pa_cons (pv 7) (pa_cons (pv 4) pa_nil))))
      (pss_cons (ps_set (i := 9) sc_payments.nd rfl (by first | exact Or.inl rfl | exact Or.inr rfl) (pe_has h__kept_of (hr.mono (by decide)) pass0 (pa_cons (pv 8) (pa_cons (pv 6) (pa_cons (pv 1) pa_nil)))))
      (pss_cons (ps_set (i := 10) sc_payments.nd rfl (by first | exact Or.inl rfl | exact Or.inr rfl) (pe_has h_less (hr.mono (by decide)) pass0 (pa_cons (pv 8) (pa_cons (pv 9) pa_nil))))
      (pss_cons (ps_set (i := 11) sc_payments.nd rfl (by first | exact Or.inl rfl | exact Or.inr rfl) (pv 5))
      (pss_cons (ps_par3 (by rfl) sc_payments.nd (i := 4) (j := 5) (l := 6) rfl rfl rfl (by decide) (by decide) (by decide) rfl rfl rfl (pa_cons (pv 7) (pa_cons (pe_has h_plus (hr.mono (by decide)) pass0 (pa_cons (pv 5) (pa_cons (pv 10) pa_nil))) (pa_cons (pe_has h_less (hr.mono (by decide)) pass0 (pa_cons (pv 6) (pa_cons (pv 9) pa_nil))) pa_nil))) (by rfl))
      (pss_one (ps_if (pt_val (pv 2)) (pss_one (ps_expr (pe_bm PySem.F.plainAttrs_list PySem.F.slot_list_append PySem.F.type_list_append mt_append (pv 3) (pa_cons (pe_tup (pa_cons (pe_op op_sub (pe_has h_floor (hr.mono (by decide)) pass0 (pa_cons (pv 5) pa_nil)) (pe_has h_floor (hr.mono (by decide)) pass0 (pa_cons (pv 11) pa_nil))) (pa_cons (pe_has h_floor (hr.mono (by decide)) pass0 (pa_cons (pv 5) pa_nil)) (pa_cons (pv 6) pa_nil)))) pa_nil)))) (pss_one (ps_expr (pe_bm PySem.F.plainAttrs_list PySem.F.slot_list_append PySem.F.type_list_append mt_append (pv 3) (pa_cons (pe_tup (pa_cons (pv 10) (pa_cons (pv 5) (pa_cons (pv 6) pa_nil)))) pa_nil))))))))))))
      (pss_one (ps_ret (pe_callTy call_tuple_of (by rfl) z_tuple (by decide +kernel) (pa_cons (pv 3) pa_nil))))))))
theorem ok_law_rows  (F : FnP K "_law_rows" s_law_rows f fd) (z_tuple : mg "tuple" = none) (h__law_fold : Has P w K mg base CX0 "_law_fold" 2 ["one", "other"] (spP K TMlQ) []) (h__law_rest : Has P w K mg base CX0 "_law_rest" 2 ["one", "other"] (spP K TSbQ) []) (h__law_sum : Has P w K mg base CX0 "_law_sum" 2 ["one", "other"] (spP K TAdQ) []) (h__law_under : Has P w K mg base CX0 "_law_under" 1 ["one", "other"] (spP K TLtQ) [])  : FnOk P w K mg base CX0 3 f fd ["dues", "ratio"] (spP K TRows) := by
  refine F.ok sc_law_rows (fun vs H Q E h => spP_len (n := 2) (fun ds Φ ⟨_, _, _, e, _⟩ => by rw [e]; rfl) h) (fun cdv A outer s H vs Q E hr h => ⟨t_rows K, PSs.nox ?_, run_P h fun ds Φ t => ws_rows t⟩)
  exact (pss_cons (ps_set (i := 2) sc_law_rows.nd rfl (by first | exact Or.inl rfl | exact Or.inr rfl) (pe_lst pa_nil))
      (pss_cons (ps_asg (pe_tup (pa_cons (pe_tup (pa_cons pe_int (pa_cons pe_int pa_nil))) (pa_cons (pe_tup (pa_cons pe_int (pa_cons pe_int pa_nil))) (pa_cons (pe_tup (pa_cons pe_int (pa_cons pe_int pa_nil))) pa_nil)))) (pg_tup rfl (pgs_cons (pg_name (i := 3) sc_law_rows.nd rfl (by first | exact Or.inl rfl | exact Or.inr rfl)) (pgs_cons (pg_name (i := 4) sc_law_rows.nd rfl (by first | exact Or.inl rfl | exact Or.inr rfl)) (pgs_cons (pg_name (i := 5) sc_law_rows.nd rfl (by first | exact Or.inl rfl | exact Or.inr rfl)) pgs_nil)))))
      (pss_cons (ps_for PassesOwn.never rfl (pi_list (pv 0)) (pg_name (i := 6) sc_law_rows.nd rfl (by first | exact Or.inl rfl | exact Or.inr rfl)) (pss_cons (ps_set (i := 7) sc_law_rows.nd rfl (by first | exact Or.inl rfl | exact Or.inr rfl) (pe_has h__law_rest (hr.mono (by decide)) pass0 (pa_cons (pv 6) (pa_cons (pv 3) pa_nil))))
      (pss_cons (ps_set (i := 8) sc_law_rows.nd rfl (by first | exact Or.inl rfl | exact Or.inr rfl) (pe_tup (pa_cons pe_int (pa_cons pe_int pa_nil))))
      (pss_cons (ps_if (pt_cmpR op_le (pe_ix ix_tup (pv 7) pe_int (fun _ _ => rfl)) pe_int (nomark _)) (pss_one (ps_set (i := 5) sc_law_rows.nd rfl (by first | exact Or.inl rfl | exact Or.inr rfl) (pe_has h__law_rest (hr.mono (by decide)) pass0 (pa_cons (pv 5) (pa_cons (pv 7) pa_nil))))) (pss_cons (ps_set (i := 9) sc_law_rows.nd rfl (by first | exact Or.inl rfl | exact Or.inr rfl) (pe_has h__law_fold (hr.mono (by decide)) pass0 (pa_cons (pv 1) (pa_cons (pv 7) pa_nil))))
      (pss_cons (ps_set (i := 9) sc_law_rows.nd rfl (by first | exact Or.inl rfl | exact Or.inr rfl) (pe_ifExp (pt_val (pe_has h__law_under (hr.mono (by decide)) pass0 (pa_cons (pv 5) (pa_cons (pv 9) pa_nil)))) (pv 5) (pv 9)))
      (pss_cons (ps_set (i := 8) sc_law_rows.nd rfl (by first | exact Or.inl rfl | exact Or.inr rfl) (pe_has h__law_rest (hr.mono (by decide)) pass0 (pa_cons (pv 7) (pa_cons (pv 9) pa_nil))))
      (pss_one (ps_set (i := 5) sc_law_rows.nd rfl (by first | exact Or.inl rfl | exact Or.inr rfl) (pe_has h__law_rest (hr.mono (by decide)) pass0 (pa_cons (pv 5) (pa_cons (pv 9) pa_nil)))))))))
      (pss_cons (ps_set (i := 4) sc_law_rows.nd rfl (by first | exact Or.inl rfl | exact Or.inr rfl) (pe_has h__law_sum (hr.mono (by decide)) pass0 (pa_cons (pv 4) (pa_cons (pv 8) pa_nil))))
      (pss_cons (ps_set (i := 3) sc_law_rows.nd rfl (by first | exact Or.inl rfl | exact Or.inr rfl) (pv 6))
      (pss_one (ps_expr (pe_bm PySem.F.plainAttrs_list PySem.F.slot_list_append PySem.F.type_list_append mt_append (pv 2) (pa_cons (pe_tup (pa_cons (pv 8) (pa_cons (pv 4) (pa_cons (pv 5) pa_nil)))) pa_nil))))))))))
      (pss_one (ps_ret (pe_callTy call_tuple_of (by rfl) z_tuple (by decide +kernel) (pa_cons (pv 2) pa_nil)))))))
theorem ok_is_triple  (F : FnP K "_is_triple" s_is_triple f fd) (z_all : mg "all" = none) (z_len : mg "len" = none) (z_tuple : mg "tuple" = none) (z_type : mg "type" = none) (h_is_part : Has P w K mg base CX0 "is_part" 2 ["thing"] (spP K TPartB) [])  : FnOk P w K mg base CX0 3 f fd ["thing"] (spP K TTripB) := by
  refine F.ok sc_is_triple (fun vs H Q E h => spP_len (n := 1) (fun ds Φ ⟨_, e, _⟩ => by rw [e]; rfl) h) (fun cdv A outer s H vs Q E hr h => ⟨t_tripb K, PSs.nox ?_, run_P h fun ds Φ t => ws_tripb t⟩)
  exact (pss_one (ps_ret (pe_and (pe_cmpR op_isTyB (pe_callTy call_type1 (by rfl) z_type (by decide +kernel) (pa_cons (pv 0) pa_nil)) (pe_bltn (by rfl) z_tuple (by decide +kernel) rfl) (nomark _)) (pe_and (pe_cmpR op_eq (pe_callB call_len_seq (by rfl) z_len PySem.boot_len (pa_cons (pv 0) pa_nil)) pe_int (nomark _)) (pe_one (pe_callB (cr_all rfl) (by rfl) z_all (by decide +kernel) (pa_cons (pe_lc (own := [("one", 1)]) (g := (gName 1)) rfl sc_is_triple.nd (pi_tup (pv 0)) (blkOk_by (N := ["thing", "one"]) (sc := defScope s_is_triple) (by decide +kernel)) (fun _ _ _ _ _ => (pg_name (i := 1) sc_is_triple.nd rfl (by first | exact Or.inl rfl | exact Or.inr rfl))) (fun _ _ _ _ _ => pts_nil) (fun _ _ _ _ _ => (pe_has h_is_part (hr.mono (by decide)) pass0 (pa_cons (pv 1) pa_nil)))) pa_nil)))))))
theorem ok_payments_right {v0 : V} (F : FnKw K "payments_right" s_payments_right [("share", v0)] f fd) (z_all : mg "all" = none) (z_tuple : mg "tuple" = none) (z_type : mg "type" = none) (h__is_triple : Has P w K mg base CX0 "_is_triple" 3 ["thing"] (spP K TTripB) []) (h_payments_k1_share : HasK P w K mg base CX0 "payments" 4 ["totals", "share", "whole"] (spP K TPays) 1 ["share"] gVps)  : FnOk P w K mg base CX0 5 f fd ["totals", "thing", "share"] (spP K TPRight) := by
  refine F.ok sc_payments_right (fun vs H Q E h => spP_len (n := 3) (fun ds Φ ⟨_, _, _, _, _, e, _⟩ => by rw [e]; rfl) h) (fun cdv A outer s H vs Q E hr h => ⟨t_pright K, PSs.nox ?_, run_P h fun ds Φ t => ws_pright t⟩)
  exact (pss_cons (ps_set (i := 3) sc_payments_right.nd rfl (by first | exact Or.inl rfl | exact Or.inr rfl) (pe_hasK (ks := ["share"]) h_payments_k1_share (hr.mono (by decide)) pass0 (pa_cons (pv 0) pa_nil) (pk_cons (pv 2) pk_nil)))
      (pss_cons (ps_if (pt_not (PW.pt (pw_and (pt_cmpR op_isTyB (pe_callTy call_type1 (by rfl) z_type (by decide +kernel) (pa_cons (pv 1) pa_nil)) (pe_bltn (by rfl) z_tuple (by decide +kernel) rfl) (nomark _)) (pw_and1 (pt_val (pe_callB (cr_all rfl) (by rfl) z_all (by decide +kernel) (pa_cons (pe_lc (own := [("one", 4)]) (g := (gName 4)) rfl sc_payments_right.nd (pi_tup (pv 1)) (blkOk_by (N := ["totals", "thing", "share", "right", "one"]) (sc := defScope s_payments_right) (by decide +kernel)) (fun _ _ _ _ _ => (pg_name (i := 4) sc_payments_right.nd rfl (by first | exact Or.inl rfl | exact Or.inr rfl))) (fun _ _ _ _ _ => pts_nil) (fun _ _ _ _ _ => (pe_has h__is_triple (hr.mono (by decide)) pass0 (pa_cons (pv 4) pa_nil)))) pa_nil))))))) (pss_one (ps_ret pe_bl)) pss_nil)
      (pss_one (ps_ret (pe_cmpR (op_eqD hr.units) (pv 1) (pv 3) (nomark _))))))
theorem ok_law_otherwise  (F : FnP K "_law_otherwise" s_law_otherwise f fd) (z_isinstance : mg "isinstance" = none) (z_list : mg "list" = none) (z_tuple : mg "tuple" = none) (h__law_draw : Has P w K mg base CX0 "_law_draw" 3 ["store", "many"] (spS K FSto TDr) []) (h__law_part : Has P w K mg base CX0 "_law_part" 1 ["above", "below"] (spP K TLow) []) (h__law_rest : Has P w K mg base CX0 "_law_rest" 2 ["one", "other"] (spP K TSbQ) []) (h__law_sum : Has P w K mg base CX0 "_law_sum" 2 ["one", "other"] (spP K TAdQ) [])  : FnOk P w K mg base CX0 4 f fd ["store", "one"] (spS K FSto TOther) := by
  refine F.ok sc_law_otherwise (fun vs H Q E h => spS_len (n := 1) (fun B ds Φ ⟨_, e, _⟩ => by rw [e]; rfl) h) (fun cdv A outer s H vs Q E hr h => ⟨t_other K, PSs.nox ?_, run_S h (fun S B ds Φ hF t => ws_other hF t) (by decide)⟩)
  exact (pss_cons (ps_set (i := 2) sc_law_otherwise.nd rfl (by first | exact Or.inl rfl | exact Or.inr rfl) (pe_has h__law_draw (hr.mono (by decide)) pass0 (pa_cons (pv 0) (pa_cons pe_int pa_nil))))
      (pss_cons (ps_set (i := 3) sc_law_otherwise.nd rfl (by first | exact Or.inl rfl | exact Or.inr rfl) (pe_has h__law_part (hr.mono (by decide)) pass0 (pa_cons pe_int (pa_cons (pe_op op_add pe_int (pe_has h__law_draw (hr.mono (by decide)) pass0 (pa_cons (pv 0) (pa_cons pe_int pa_nil)))) pa_nil))))
      (pss_cons (ps_if (pt_not (pt_val (pe_callB call_isi (by rfl) z_isinstance (by decide +kernel) (pa_cons (pv 1) (pa_cons (pe_bltn (by rfl) z_tuple (by decide +kernel) rfl) pa_nil))))) (pss_one (ps_ret (pe_ix ix_list (pe_lst (pa_cons (pe_op op_catA (pv 1) pe_int) (pa_cons (pe_op op_sub (pv 1) pe_int) (pa_cons pe_non pa_nil)))) (pe_op op_modN (pv 2) pe_int) (fun _ _ => rfl)))) pss_nil)
      (pss_cons (ps_set (i := 4) sc_law_otherwise.nd rfl (by first | exact Or.inl rfl | exact Or.inr rfl) (pe_lst (pa_cons (pe_has h__law_sum (hr.mono (by decide)) pass0 (pa_cons (pv 1) (pa_cons (pv 3) pa_nil))) (pa_cons (pe_has h__law_rest (hr.mono (by decide)) pass0 (pa_cons (pv 1) (pa_cons (pv 3) pa_nil))) (pa_cons (pe_tup (pa_cons (pe_op op_sub pe_int (pe_ix ix_tup (pv 1) pe_int (fun _ _ => rfl))) (pa_cons (pe_ix ix_tup (pv 1) pe_int (fun _ _ => rfl)) pa_nil))) (pa_cons (pe_tup (pa_cons pe_int (pa_cons pe_int pa_nil))) (pa_cons (pe_tup (pa_cons (pe_op op_mulW pe_int (pe_ix ix_tup (pv 1) pe_int (fun _ _ => rfl))) (pa_cons (pe_op op_mulW pe_int (pe_ix ix_tup (pv 1) pe_int (fun _ _ => rfl))) pa_nil))) pa_nil)))))))
      (pss_one (ps_ret (pe_ix ix_list (pe_op op_catL (pv 4) (pe_lst (pa_cons (pe_tup (pa_cons (pe_ix ix_tup (pv 1) pe_int (fun _ _ => rfl)) (pa_cons pe_bl pa_nil))) (pa_cons pe_non (pa_cons (pe_callTy call_list_of (by rfl) z_list (by decide +kernel) (pa_cons (pv 1) pa_nil)) (pa_cons (pe_ix ix_tup (pv 1) pe_int (fun _ _ => rfl)) pa_nil)))))) (pv 2) (fun _ _ => rfl))))))))
theorem ok_law_row_otherwise  (F : FnP K "_law_row_otherwise" s_law_row_otherwise f fd) (z_list : mg "list" = none) (h__law_draw : Has P w K mg base CX0 "_law_draw" 3 ["store", "many"] (spS K FSto TDr) []) (h__law_otherwise : Has P w K mg base CX0 "_law_otherwise" 4 ["store", "one"] (spS K FSto TOther) [])  : FnOk P w K mg base CX0 5 f fd ["store", "row"] (spS K FSto TRowO) := by
  refine F.ok sc_law_row_otherwise (fun vs H Q E h => spS_len (n := 1) (fun B ds Φ ⟨_, e, _⟩ => by rw [e]; rfl) h) (fun cdv A outer s H vs Q E hr h => ⟨t_rowo K, PSs.nox ?_, run_S h (fun S B ds Φ hF t => ws_rowo hF t) (by decide)⟩)
  exact (pss_cons (ps_set (i := 2) sc_law_row_otherwise.nd rfl (by first | exact Or.inl rfl | exact Or.inr rfl) (pe_has h__law_draw (hr.mono (by decide)) pass0 (pa_cons (pv 0) (pa_cons pe_int pa_nil))))
      (pss_cons (ps_set (i := 3) sc_law_row_otherwise.nd rfl (by first | exact Or.inl rfl | exact Or.inr rfl) (pe_has h__law_draw (hr.mono (by decide)) pass0 (pa_cons (pv 0) (pa_cons pe_int pa_nil))))
      (pss_cons (ps_if (pt_cmpR op_lt (pv 2) pe_int (nomark _)) (pss_one (ps_ret (pe_op op_catA (pe_op op_catA (pe_slice sl_tupA (pv 1) po_none (po_some (pv 3))) (pe_tup (pa_cons (pe_has h__law_otherwise (hr.mono (by decide)) pass0 (pa_cons (pv 0) (pa_cons (pe_ix ix_tup (pv 1) (pv 3) (fun _ _ => rfl)) pa_nil))) pa_nil))) (pe_slice sl_tupA (pv 1) (po_some (pe_op op_add (pv 3) pe_int)) po_none)))) pss_nil)
      (pss_one (ps_ret (pe_ix ix_list (pe_lst (pa_cons (pe_callTy call_list_of (by rfl) z_list (by decide +kernel) (pa_cons (pv 1) pa_nil)) (pa_cons (pe_slice sl_tupA (pv 1) po_none (po_some pe_int)) (pa_cons (pe_op op_catA (pv 1) (pe_tup (pa_cons (pe_tup (pa_cons pe_int (pa_cons pe_int pa_nil))) pa_nil))) pa_nil)))) (pe_op op_sub (pv 2) pe_int) (fun _ _ => rfl)))))))
theorem ok_law_spoilt  (F : FnP K "_law_spoilt" s_law_spoilt f fd) (z_len : mg "len" = none) (z_list : mg "list" = none) (h__law_draw : Has P w K mg base CX0 "_law_draw" 3 ["store", "many"] (spS K FSto TDr) []) (h__law_row_otherwise : Has P w K mg base CX0 "_law_row_otherwise" 5 ["store", "row"] (spS K FSto TRowO) [])  : FnOk P w K mg base CX0 6 f fd ["store", "rows"] (spS K FSto TSpoil) := by
  refine F.ok sc_law_spoilt (fun vs H Q E h => spS_len (n := 1) (fun B ds Φ ⟨_, _, _, e, _⟩ => by rw [e]; rfl) h) (fun cdv A outer s H vs Q E hr h => ⟨t_spoil K, PSs.nox ?_, run_S h (fun S B ds Φ hF t => ws_spoil hF t) (by decide)⟩)
  exact (pss_cons (ps_set (i := 2) sc_law_spoilt.nd rfl (by first | exact Or.inl rfl | exact Or.inr rfl) (pe_has h__law_draw (hr.mono (by decide)) pass0 (pa_cons (pv 0) (pa_cons pe_int pa_nil))))
      (pss_cons (ps_set (i := 3) sc_law_spoilt.nd rfl (by first | exact Or.inl rfl | exact Or.inr rfl) (pe_has h__law_draw (hr.mono (by decide)) pass0 (pa_cons (pv 0) (pa_cons (pe_op op_add (pe_callB call_len_seq (by rfl) z_len PySem.boot_len (pa_cons (pv 1) pa_nil)) pe_int) pa_nil))))
      (pss_cons (ps_if (PW.pt (pw_or (pt_cmpR op_eq (pv 2) pe_int (nomark _)) (pw_or1 (pt_cmpR op_eq (pv 3) (pe_callB call_len_seq (by rfl) z_len PySem.boot_len (pa_cons (pv 1) pa_nil)) (nomark _))))) (pss_one (ps_ret (pe_ix ix_list (pe_lst (pa_cons (pe_op op_catA (pe_slice sl_tupA (pv 1) po_none (po_some (pv 3))) (pe_slice sl_tupA (pv 1) (po_some (pe_op op_add (pv 3) pe_int)) po_none)) (pa_cons (pe_op op_catA (pv 1) (pe_tup (pa_cons (pe_tup (pa_cons (pe_tup (pa_cons pe_int (pa_cons pe_int pa_nil))) (pa_cons (pe_tup (pa_cons pe_int (pa_cons pe_int pa_nil))) (pa_cons (pe_tup (pa_cons pe_int (pa_cons pe_int pa_nil))) pa_nil)))) pa_nil))) (pa_cons (pe_callTy call_list_of (by rfl) z_list (by decide +kernel) (pa_cons (pv 1) pa_nil)) (pa_cons pe_non (pa_cons pe_int (pa_cons pe_str (pa_cons pe_dnewK pa_nil)))))))) (pe_has h__law_draw (hr.mono (by decide)) pass0 (pa_cons (pv 0) (pa_cons pe_int pa_nil))) (fun _ _ => rfl)))) pss_nil)
      (pss_cons (ps_if (pt_cmpR op_eq (pv 2) pe_int (nomark _)) (pss_one (ps_ret (pe_op op_catA (pe_op op_catA (pe_slice sl_tupA (pv 1) po_none (po_some (pv 3))) (pe_slice sl_tupA (pv 1) (po_some (pv 3)) (po_some (pe_op op_add (pv 3) pe_int)))) (pe_slice sl_tupA (pv 1) (po_some (pv 3)) po_none)))) pss_nil)
      (pss_cons (ps_if (pt_cmpR op_eq (pv 2) pe_int (nomark _)) (pss_one (ps_ret (pe_op op_catA (pe_op op_catA (pe_slice sl_tupA (pv 1) po_none (po_some (pv 3))) (pe_revT (pe_slice sl_tupA (pv 1) (po_some (pv 3)) (po_some (pe_op op_add (pv 3) pe_int))))) (pe_slice sl_tupA (pv 1) (po_some (pe_op op_add (pv 3) pe_int)) po_none)))) pss_nil)
      (pss_cons (ps_if (pt_cmpR op_eq (pv 2) pe_int (nomark _)) (pss_one (ps_ret (pe_op op_catA (pe_op op_catA (pe_slice sl_tupA (pv 1) po_none (po_some (pv 3))) (pe_tup (pa_cons (pe_ix ix_list (pe_lst (pa_cons pe_non (pa_cons pe_int (pa_cons pe_str (pa_cons (pe_tup pa_nil) (pa_cons (pv 1) pa_nil)))))) (pe_has h__law_draw (hr.mono (by decide)) pass0 (pa_cons (pv 0) (pa_cons pe_int pa_nil))) (fun _ _ => rfl)) pa_nil))) (pe_slice sl_tupA (pv 1) (po_some (pe_op op_add (pv 3) pe_int)) po_none)))) pss_nil)
      (pss_one (ps_ret (pe_op op_catA (pe_op op_catA (pe_slice sl_tupA (pv 1) po_none (po_some (pv 3))) (pe_tup (pa_cons (pe_has h__law_row_otherwise (hr.mono (by decide)) pass0 (pa_cons (pv 0) (pa_cons (pe_ix ix_tup (pv 1) (pv 3) (fun _ _ => rfl)) pa_nil))) pa_nil))) (pe_slice sl_tupA (pv 1) (po_some (pe_op op_add (pv 3) pe_int)) po_none))))))))))
theorem ok_law_thing {aO : Addr} (F : FnP K "_law_thing" s_law_thing f fd) (h_payments_d1 : Has P w K mg base CX0 "payments" 4 ["totals", "share", "whole"] (spP K TPays) [.ref aO, .bl false]) (h__law_draw : Has P w K mg base CX0 "_law_draw" 3 ["store", "many"] (spS K FSto TDr) []) (h__law_spoilt : Has P w K mg base CX0 "_law_spoilt" 6 ["store", "rows"] (spS K FSto TSpoil) []) (h_payments_k1_share : HasK P w K mg base CX0 "payments" 4 ["totals", "share", "whole"] (spP K TPays) 1 ["share"] gVps) (h_payments_k1_share_whole : HasK P w K mg base CX0 "payments" 4 ["totals", "share", "whole"] (spP K TPays) 1 ["share", "whole"] gVapp) (hO : ∀ H : Hp, SqT K H aO [.int 1, .int 1]) : FnOk P w K mg base CX0 7 f fd ["store", "dues", "ratio", "elder"] (spS K FSto TPaper) := by
  refine F.ok sc_law_thing (fun vs H Q E h => spS_len (n := 3) (fun B ds Φ ⟨_, _, _, _, e, _⟩ => by rw [e]; rfl) h) (fun cdv A outer s H vs Q E hr h => ⟨t_paper K aO, PSs.nox ?_, run_S h (fun S B ds Φ hF t => ws_paper hO hF t) (by decide)⟩)
  exact (pss_cons (ps_set (i := 4) sc_law_thing.nd rfl (by first | exact Or.inl rfl | exact Or.inr rfl) (pe_has h__law_draw (hr.mono (by decide)) pass0 (pa_cons (pv 0) (pa_cons pe_int pa_nil))))
      (pss_cons (ps_set (i := 5) sc_law_thing.nd rfl (by first | exact Or.inl rfl | exact Or.inr rfl) (pe_hasK (ks := ["share"]) h_payments_k1_share (hr.mono (by decide)) pass0 (pa_cons (pv 1) pa_nil) (pk_cons (pv 2) pk_nil)))
      (pss_cons (ps_if (pt_cmpR op_lt (pv 4) pe_int (nomark _)) (pss_one (ps_ret (pv 5))) pss_nil)
      (pss_cons (ps_if (pt_cmpR op_eq (pv 4) pe_int (nomark _)) (pss_one (ps_ret (pe_ix ix_list (pe_lst (pa_cons (pe_has h_payments_d1 (hr.mono (by decide)) pass0 (pa_cons (pv 1) pa_nil)) (pa_cons (pe_hasK (ks := ["share", "whole"]) h_payments_k1_share_whole (hr.mono (by decide)) pass0 (pa_cons (pv 1) pa_nil) (pk_cons (pv 2) (pk_cons pe_bl pk_nil))) (pa_cons (pe_has h_payments_d1 (hr.mono (by decide)) pass0 (pa_cons (pv 3) pa_nil)) pa_nil)))) (pe_has h__law_draw (hr.mono (by decide)) pass0 (pa_cons (pv 0) (pa_cons pe_int pa_nil))) (fun _ _ => rfl)))) pss_nil)
      (pss_one (ps_ret (pe_has h__law_spoilt (hr.mono (by decide)) pass0 (pa_cons (pv 0) (pa_cons (pv 5) pa_nil)))))))))
theorem ok_law {aO : Addr} (F : FnP K "law" s_law f fd) (z_len : mg "len" = none) (z_min : mg "min" = none) (z_range : mg "range" = none) (z_repr : mg "repr" = none) (z_tuple : mg "tuple" = none) (h_payments_right_d2 : Has P w K mg base CX0 "payments_right" 5 ["totals", "thing", "share"] (spP K TPRight) [.ref aO]) (h__law_draw : Has P w K mg base CX0 "_law_draw" 3 ["store", "many"] (spS K FSto TDr) []) (h__law_rows : Has P w K mg base CX0 "_law_rows" 3 ["dues", "ratio"] (spP K TRows) []) (h__law_share : Has P w K mg base CX0 "_law_share" 4 ["store"] (spS K FSto TShareQ) []) (h__law_store : Has P w K mg base CX0 "_law_store" 1 ["script"] (spMk K) []) (h__law_thing : Has P w K mg base CX0 "_law_thing" 7 ["store", "dues", "ratio", "elder"] (spS K FSto TPaper) []) (h__law_totals : Has P w K mg base CX0 "_law_totals" 5 ["store", "most"] (spS K FSto TTotals) []) (h_payments_right_k0_thing_share_totals : HasK P w K mg base CX0 "payments_right" 5 ["totals", "thing", "share"] (spP K TPRight) 0 ["thing", "share", "totals"] gVrot) (h_payments_right_k1_share_thing : HasK P w K mg base CX0 "payments_right" 5 ["totals", "thing", "share"] (spP K TPRight) 1 ["share", "thing"] gVws) (h_payments_right_k2_share : HasK P w K mg base CX0 "payments_right" 5 ["totals", "thing", "share"] (spP K TPRight) 2 ["share"] gVapp) (hO : ∀ H : Hp, SqT K H aO [.int 1, .int 1]) : FnG P w K mg base CX0 8 f fd ["script"] (spLaw K) := by
  refine FunD_okG F sc_law (fun vs H Q E h => by obtain ⟨_, _, rfl, _⟩ := h; rfl) (fun cdv A outer s H vs Q E hgd hr h => ⟨tSeq (tAsg (tCall (spMk K) [] E0 (tCons (tVar 0) tNil)) (gName 1)) (t_law47 K aO), PSs.nox ?_, run_law (n := 10) rfl h fun S ns hF hl => ws_law47 hO hF hl⟩)
  exact (pss_cons (ps_set (i := 1) sc_law.nd rfl (by first | exact Or.inl rfl | exact Or.inr rfl) (pe_has h__law_store (hr.mono (by decide)) pass0 (pa_cons (pv 0) pa_nil)))
      (pss_cons (ps_set (i := 2) sc_law.nd rfl (by first | exact Or.inl rfl | exact Or.inr rfl) (pe_lst (pa_cons (pe_tup (pa_cons pe_int (pa_cons pe_int pa_nil))) pa_nil)))
      (pss_cons (ps_for PassesOwn.never rfl (pi_range1 rfl z_range (pa_cons (pe_op op_add pe_int (pe_callB (call_min2 rfl) (by rfl) z_min (by decide +kernel) (pa_cons pe_int (pa_cons (pe_callB call_len_seq (by rfl) z_len PySem.boot_len (pa_cons (pv 0) pa_nil)) pa_nil)))) pa_nil)) (pg_name (i := 3) sc_law.nd rfl (by first | exact Or.inl rfl | exact Or.inr rfl)) (pss_cons (ps_set (i := 4) sc_law.nd rfl (by first | exact Or.inl rfl | exact Or.inr rfl) (pe_has h__law_totals (hr.mono (by decide)) pass0 (pa_cons (pv 1) (pa_cons pe_int pa_nil))))
      (pss_cons (ps_set (i := 5) sc_law.nd rfl (by first | exact Or.inl rfl | exact Or.inr rfl) (pe_ix ix_list (pe_lst (pa_cons (pe_tup (pa_cons pe_int (pa_cons pe_int pa_nil))) (pa_cons (pe_has h__law_share (hr.mono (by decide)) pass0 (pa_cons (pv 1) pa_nil)) pa_nil))) (pe_has h__law_draw (hr.mono (by decide)) pass0 (pa_cons (pv 1) (pa_cons pe_int pa_nil))) (fun _ _ => rfl)))
      (pss_cons (ps_set (i := 6) sc_law.nd rfl (by first | exact Or.inl rfl | exact Or.inr rfl) (pe_has h__law_rows (hr.mono (by decide)) pass0 (pa_cons (pv 4) (pa_cons (pv 5) pa_nil))))
      (pss_cons (ps_for PassesOwn.never rfl (pi_range1 rfl z_range (pa_cons pe_int pa_nil)) (pg_name (i := 7) sc_law.nd rfl (by first | exact Or.inl rfl | exact Or.inr rfl)) (pss_cons (ps_set (i := 8) sc_law.nd rfl (by first | exact Or.inl rfl | exact Or.inr rfl) (pe_has h__law_thing (hr.mono (by decide)) pass0 (pa_cons (pv 1) (pa_cons (pv 4) (pa_cons (pv 5) (pa_cons (pv 2) pa_nil))))))
      (pss_cons (ps_set (i := 9) sc_law.nd rfl (by first | exact Or.inl rfl | exact Or.inr rfl) (pe_callB (call_reprY hgd hr.units) (by rfl) z_repr (by decide +kernel) (pa_cons (pv 8) pa_nil)))
      (pss_cons (ps_set (i := 10) sc_law.nd rfl (by first | exact Or.inl rfl | exact Or.inr rfl) (pe_cmpR op_eq (pv 9) (pe_callB (call_reprY hgd hr.units) (by rfl) z_repr (by decide +kernel) (pa_cons (pv 6) pa_nil)) (nomark _)))
      (pss_cons (ps_set (i := 11) sc_law.nd rfl (by first | exact Or.inl rfl | exact Or.inr rfl) (pe_lst (pa_cons (pe_hasK (ks := ["share"]) h_payments_right_k2_share (hr.mono (by decide)) pass0 (pa_cons (pe_callTy call_tuple_of (by rfl) z_tuple (by decide +kernel) (pa_cons (pv 4) pa_nil)) (pa_cons (pv 8) pa_nil)) (pk_cons (pv 5) pk_nil)) (pa_cons (pe_hasK (ks := ["share", "thing"]) h_payments_right_k1_share_thing (hr.mono (by decide)) pass0 (pa_cons (pv 4) pa_nil) (pk_cons (pv 5) (pk_cons (pv 8) pk_nil))) pa_nil))))
      (pss_cons (ps_expr (pe_bm PySem.F.plainAttrs_list PySem.F.slot_list_append PySem.F.type_list_append mt_append (pv 11) (pa_cons (pe_hasK0 (ks := ["thing", "share", "totals"]) h_payments_right_k0_thing_share_totals (hr.mono (by decide)) pass0 (pk_cons (pv 8) (pk_cons (pv 5) (pk_cons (pv 4) pk_nil)))) pa_nil)))
      (pss_cons (ps_if (PW.pt (pw_or (pt_cmpR op_ne (pe_callB (call_reprY hgd hr.units) (by rfl) z_repr (by decide +kernel) (pa_cons (pv 11) pa_nil)) (pe_callB (call_reprY hgd hr.units) (by rfl) z_repr (by decide +kernel) (pa_cons (pe_lst (pa_cons (pv 10) (pa_cons (pv 10) (pa_cons (pv 10) pa_nil)))) pa_nil)) (nomark _)) (pw_or1 (pt_cmpR op_ne (pe_callB (call_reprY hgd hr.units) (by rfl) z_repr (by decide +kernel) (pa_cons (pv 8) pa_nil)) (pv 9) (nomark _))))) (pss_one (ps_ret pe_bl)) pss_nil)
      (pss_one (ps_if (PW.pt (pw_and (pt_cmpR (op_eqD hr.units) (pv 5) (pe_tup (pa_cons pe_int (pa_cons pe_int pa_nil))) (nomark _)) (pw_and1 (pt_cmpR op_ne (pe_has h_payments_right_d2 (hr.mono (by decide)) pass0 (pa_cons (pv 4) (pa_cons (pv 8) pa_nil))) (pv 10) (nomark _))))) (pss_one (ps_ret pe_bl)) pss_nil)))))))))
      (pss_one (ps_set (i := 2) sc_law.nd rfl (by first | exact Or.inl rfl | exact Or.inr rfl) (pv 4))))))))
      (pss_one (ps_ret pe_bl)))))
end
end DL

set_option Elab.async false
set_option linter.all false
set_option maxRecDepth 100000
set_option maxHeartbeats 4000000
namespace DL
open PySem PySem.Spec PyProof.Rows L2
theorem facts {P : Program} {w : World} {K : PySem.W.Frag} {h : Heap} {mg : Str → Option Value} {f : Addr} (X : K.In h) (G : h.Ns mainGlobals mg) (hfa : mg ("law" : Str) = some (.ref f)) (c : He.SaysD fa fn K) (ce : ex K = true) :
    ∃ fd : FuncData, (∀ (s : Shared) (v : Value), BindsTo s fd ⟨[v], []⟩ [("script", v)]) ∧ ∀ base : Heap, K.In base → base.Ns mainGlobals mg → FnG P w K mg base CX0 8 f fd ["script"] (spLaw K) := by
  obtain ⟨ce, x1⟩ := He.ba ce
  obtain ⟨ce, x0⟩ := He.ba ce
  obtain ⟨fd_law_draw, F_law_draw⟩ := c.def_ 0 (d := d_law_draw) rfl
  have g_law_draw := He.glo_ok X G (c.fact 0 (f := .glo "_law_draw") rfl)
  obtain ⟨fd_law_store, F_law_store⟩ := c.def_ 1 (d := d_law_store) rfl
  have g_law_store := He.glo_ok X G (c.fact 1 (f := .glo "_law_store") rfl)
  obtain ⟨fd_law_part, F_law_part⟩ := c.def_ 2 (d := d_law_part) rfl
  have g_law_part := He.glo_ok X G (c.fact 2 (f := .glo "_law_part") rfl)
  obtain ⟨fd_part, F_part⟩ := c.def_ 3 (d := d_part) rfl
  have g_part := He.glo_ok X G (c.fact 3 (f := .glo "part") rfl)
  obtain ⟨fd_plus, F_plus⟩ := c.def_ 4 (d := d_plus) rfl
  have g_plus := He.glo_ok X G (c.fact 4 (f := .glo "plus") rfl)
  obtain ⟨fd_less, F_less⟩ := c.def_ 5 (d := d_less) rfl
  have g_less := He.glo_ok X G (c.fact 5 (f := .glo "less") rfl)
  obtain ⟨fd_times, F_times⟩ := c.def_ 6 (d := d_times) rfl
  have g_times := He.glo_ok X G (c.fact 6 (f := .glo "times") rfl)
  obtain ⟨fd_is_less, F_is_less⟩ := c.def_ 7 (d := d_is_less) rfl
  have g_is_less := He.glo_ok X G (c.fact 7 (f := .glo "is_less") rfl)
  obtain ⟨fd_law_sum, F_law_sum⟩ := c.def_ 8 (d := d_law_sum) rfl
  have g_law_sum := He.glo_ok X G (c.fact 8 (f := .glo "_law_sum") rfl)
  obtain ⟨fd_law_rest, F_law_rest⟩ := c.def_ 9 (d := d_law_rest) rfl
  have g_law_rest := He.glo_ok X G (c.fact 9 (f := .glo "_law_rest") rfl)
  obtain ⟨fd_law_fold, F_law_fold⟩ := c.def_ 10 (d := d_law_fold) rfl
  have g_law_fold := He.glo_ok X G (c.fact 10 (f := .glo "_law_fold") rfl)
  obtain ⟨fd_law_under, F_law_under⟩ := c.def_ 11 (d := d_law_under) rfl
  have g_law_under := He.glo_ok X G (c.fact 11 (f := .glo "_law_under") rfl)
  obtain ⟨fd_law_small, F_law_small⟩ := c.def_ 12 (d := d_law_small) rfl
  have g_law_small := He.glo_ok X G (c.fact 12 (f := .glo "_law_small") rfl)
  obtain ⟨fd_law_share, F_law_share⟩ := c.def_ 13 (d := d_law_share) rfl
  have g_law_share := He.glo_ok X G (c.fact 13 (f := .glo "_law_share") rfl)
  obtain ⟨fd_law_totals, F_law_totals⟩ := c.def_ 14 (d := d_law_totals) rfl
  have g_law_totals := He.glo_ok X G (c.fact 14 (f := .glo "_law_totals") rfl)
  obtain ⟨fd_is_whole, F_is_whole⟩ := c.def_ 15 (d := d_is_whole) rfl
  have g_is_whole := He.glo_ok X G (c.fact 15 (f := .glo "is_whole") rfl)
  obtain ⟨fd_is_part, F_is_part⟩ := c.def_ 16 (d := d_is_part) rfl
  have g_is_part := He.glo_ok X G (c.fact 16 (f := .glo "is_part") rfl)
  obtain ⟨fd_floor, F_floor⟩ := c.def_ 17 (d := d_floor) rfl
  have g_floor := He.glo_ok X G (c.fact 17 (f := .glo "floor") rfl)
  obtain ⟨fd_least, F_least⟩ := c.def_ 18 (d := d_least) rfl
  have g_least := He.glo_ok X G (c.fact 18 (f := .glo "least") rfl)
  obtain ⟨fd_kept_of, F_kept_of⟩ := c.def_ 19 (d := d_kept_of) rfl
  have g_kept_of := He.glo_ok X G (c.fact 19 (f := .glo "_kept_of") rfl)
  obtain ⟨fd_payments, F_payments⟩ := c.def_ 20 (d := d_payments) rfl
  have g_payments := He.glo_ok X G (c.fact 20 (f := .glo "payments") rfl)
  obtain ⟨fd_law_rows, F_law_rows⟩ := c.def_ 21 (d := d_law_rows) rfl
  have g_law_rows := He.glo_ok X G (c.fact 21 (f := .glo "_law_rows") rfl)
  obtain ⟨fd_is_triple, F_is_triple⟩ := c.def_ 22 (d := d_is_triple) rfl
  have g_is_triple := He.glo_ok X G (c.fact 22 (f := .glo "_is_triple") rfl)
  obtain ⟨fd_payments_right, F_payments_right⟩ := c.def_ 23 (d := d_payments_right) rfl
  have g_payments_right := He.glo_ok X G (c.fact 23 (f := .glo "payments_right") rfl)
  obtain ⟨fd_law_otherwise, F_law_otherwise⟩ := c.def_ 24 (d := d_law_otherwise) rfl
  have g_law_otherwise := He.glo_ok X G (c.fact 24 (f := .glo "_law_otherwise") rfl)
  obtain ⟨fd_law_row_otherwise, F_law_row_otherwise⟩ := c.def_ 25 (d := d_law_row_otherwise) rfl
  have g_law_row_otherwise := He.glo_ok X G (c.fact 25 (f := .glo "_law_row_otherwise") rfl)
  obtain ⟨fd_law_spoilt, F_law_spoilt⟩ := c.def_ 26 (d := d_law_spoilt) rfl
  have g_law_spoilt := He.glo_ok X G (c.fact 26 (f := .glo "_law_spoilt") rfl)
  obtain ⟨fd_law_thing, F_law_thing⟩ := c.def_ 27 (d := d_law_thing) rfl
  have g_law_thing := He.glo_ok X G (c.fact 27 (f := .glo "_law_thing") rfl)
  obtain ⟨fd_law, F_law⟩ := c.def_ 28 (d := d_law) rfl
  have g_law := He.glo_ok X G (c.fact 28 (f := .glo "law") rfl)
  have g_NOUGHT := He.glo_ok X G (c.fact 29 (f := .glo "NOUGHT") rfl)
  have g_ONE := He.glo_ok X G (c.fact 30 (f := .glo "ONE") rfl)
  have z_abs := He.free_ok X G (c.fact 31 (f := .free "abs") rfl)
  have z_all := He.free_ok X G (c.fact 32 (f := .free "all") rfl)
  have z_enumerate := He.free_ok X G (c.fact 33 (f := .free "enumerate") rfl)
  have z_int := He.free_ok X G (c.fact 34 (f := .free "int") rfl)
  have z_isinstance := He.free_ok X G (c.fact 35 (f := .free "isinstance") rfl)
  have z_len := He.free_ok X G (c.fact 36 (f := .free "len") rfl)
  have z_list := He.free_ok X G (c.fact 37 (f := .free "list") rfl)
  have z_max := He.free_ok X G (c.fact 38 (f := .free "max") rfl)
  have z_min := He.free_ok X G (c.fact 39 (f := .free "min") rfl)
  have z_range := He.free_ok X G (c.fact 40 (f := .free "range") rfl)
  have z_repr := He.free_ok X G (c.fact 41 (f := .free "repr") rfl)
  have z_str := He.free_ok X G (c.fact 42 (f := .free "str") rfl)
  have z_tuple := He.free_ok X G (c.fact 43 (f := .free "tuple") rfl)
  have z_type := He.free_ok X G (c.fact 44 (f := .free "type") rfl)
  have m_gcd : mg "gcd" = some (.builtin "math.gcd") := blt_ok X G ce (by decide)
  have hN := He.tupB_ok x0
  have hO := He.tupB_ok x1
  have e := hfa.symm.trans g_law
  cases e
  refine ⟨fd_law, fun s v => FunD.bindsA (ps := ["script"]) F_law (fun _ _ _ _ _ _ us hl => match us, hl with | [_], _ => rfl) s [v] rfl, fun base _ _ => ?_⟩
  have h__law_draw : Has P w K mg base CX0 "_law_draw" 1 ["store", "many"] spNo [] := has_of (fn_no F_law_draw sc_law_draw) g_law_draw F_law_draw.kp (F_law_draw.bindsN (ps := ["store", "many"]) fun _ _ _ _ _ _ us hl => match us, hl with | [_, _], _ => rfl)
  replace h__law_draw : Has P w K mg base CX0 "_law_draw" 2 ["store", "many"] (spS K FSto (TDraw 1 (10 ^ 6) (2 ^ 41))) [] := has_of (ok_draw1 F_law_draw h__law_draw z_len z_range z_str) g_law_draw F_law_draw.kp (F_law_draw.bindsN (ps := ["store", "many"]) fun _ _ _ _ _ _ us hl => match us, hl with | [_, _], _ => rfl)
  replace h__law_draw : Has P w K mg base CX0 "_law_draw" 3 ["store", "many"] (spS K FSto TDr) [] := has_of (ok_draw2 F_law_draw h__law_draw z_len z_range z_str) g_law_draw F_law_draw.kp (F_law_draw.bindsN (ps := ["store", "many"]) fun _ _ _ _ _ _ us hl => match us, hl with | [_, _], _ => rfl)
  have o_law_store := ok_law_store (P := P) (w := w) (mg := mg) (base := base) F_law_store z_abs z_enumerate 
  have h__law_store := has_of o_law_store g_law_store F_law_store.kp (F_law_store.bindsN (ps := ["script"]) fun _ _ _ _ _ _ us hl => match us, hl with | [_], _ => rfl)
  have o_law_part := ok_law_part (P := P) (w := w) (mg := mg) (base := base) F_law_part z_abs 
  have h__law_part := has_of o_law_part g_law_part F_law_part.kp (F_law_part.bindsN (ps := ["above", "below"]) fun _ _ _ _ _ _ us hl => match us, hl with | [_, _], _ => rfl)
  have Fp_part : FnD K "part" s_part [.int 1] (He.fAd K d_part.at_) fd_part := F_part
  have b_part : Binds K fd_part ["a", "b"] [] := by
    obtain ⟨ds, r, b⟩ := FunD.binds1 (ps := ["a", "b"]) Fp_part 2 1 (by simp) rfl (fun _ _ _ _ _ _ _ us its l1 l2 => match us, l1, its, l2 with | [_, _], _, [_], _ => ⟨_, rfl, rfl⟩)
    cases r
    exact b
  have o_part := ok_part (P := P) (w := w) (mg := mg) (base := base) F_part m_gcd 
  have h_part := has_of o_part g_part F_part.kp b_part
  have o_plus := ok_plus (P := P) (w := w) (mg := mg) (base := base) F_plus h_part 
  have h_plus := has_of o_plus g_plus F_plus.kp (F_plus.bindsN (ps := ["one", "other"]) fun _ _ _ _ _ _ us hl => match us, hl with | [_, _], _ => rfl)
  have o_less := ok_less (P := P) (w := w) (mg := mg) (base := base) F_less h_part 
  have h_less := has_of o_less g_less F_less.kp (F_less.bindsN (ps := ["one", "other"]) fun _ _ _ _ _ _ us hl => match us, hl with | [_, _], _ => rfl)
  have o_times := ok_times (P := P) (w := w) (mg := mg) (base := base) F_times h_part 
  have h_times := has_of o_times g_times F_times.kp (F_times.bindsN (ps := ["one", "other"]) fun _ _ _ _ _ _ us hl => match us, hl with | [_, _], _ => rfl)
  have o_is_less := ok_is_less (P := P) (w := w) (mg := mg) (base := base) F_is_less  
  have h_is_less := has_of o_is_less g_is_less F_is_less.kp (F_is_less.bindsN (ps := ["one", "other"]) fun _ _ _ _ _ _ us hl => match us, hl with | [_, _], _ => rfl)
  have o_law_sum := ok_law_sum (P := P) (w := w) (mg := mg) (base := base) F_law_sum h__law_part 
  have h__law_sum := has_of o_law_sum g_law_sum F_law_sum.kp (F_law_sum.bindsN (ps := ["one", "other"]) fun _ _ _ _ _ _ us hl => match us, hl with | [_, _], _ => rfl)
  have o_law_rest := ok_law_rest (P := P) (w := w) (mg := mg) (base := base) F_law_rest h__law_part 
  have h__law_rest := has_of o_law_rest g_law_rest F_law_rest.kp (F_law_rest.bindsN (ps := ["one", "other"]) fun _ _ _ _ _ _ us hl => match us, hl with | [_, _], _ => rfl)
  have o_law_fold := ok_law_fold (P := P) (w := w) (mg := mg) (base := base) F_law_fold h__law_part 
  have h__law_fold := has_of o_law_fold g_law_fold F_law_fold.kp (F_law_fold.bindsN (ps := ["one", "other"]) fun _ _ _ _ _ _ us hl => match us, hl with | [_, _], _ => rfl)
  have o_law_under := ok_law_under (P := P) (w := w) (mg := mg) (base := base) F_law_under  
  have h__law_under := has_of o_law_under g_law_under F_law_under.kp (F_law_under.bindsN (ps := ["one", "other"]) fun _ _ _ _ _ _ us hl => match us, hl with | [_, _], _ => rfl)
  have o_law_small := ok_law_small (P := P) (w := w) (mg := mg) (base := base) F_law_small h__law_draw h__law_part 
  have h__law_small := has_of o_law_small g_law_small F_law_small.kp (F_law_small.bindsN (ps := ["store"]) fun _ _ _ _ _ _ us hl => match us, hl with | [_], _ => rfl)
  have o_law_share := ok_law_share (P := P) (w := w) (mg := mg) (base := base) F_law_share h__law_draw h__law_part 
  have h__law_share := has_of o_law_share g_law_share F_law_share.kp (F_law_share.bindsN (ps := ["store"]) fun _ _ _ _ _ _ us hl => match us, hl with | [_], _ => rfl)
  have o_law_totals := ok_law_totals (P := P) (w := w) (mg := mg) (base := base) F_law_totals z_abs z_max z_min z_range h__law_draw h__law_part h__law_small h_plus h_times 
  have h__law_totals := has_of o_law_totals g_law_totals F_law_totals.kp (F_law_totals.bindsN (ps := ["store", "most"]) fun _ _ _ _ _ _ us hl => match us, hl with | [_, _], _ => rfl)
  have o_is_whole := ok_is_whole (P := P) (w := w) (mg := mg) (base := base) F_is_whole z_int z_type 
  have h_is_whole := has_of o_is_whole g_is_whole F_is_whole.kp (F_is_whole.bindsN (ps := ["thing"]) fun _ _ _ _ _ _ us hl => match us, hl with | [_], _ => rfl)
  have o_is_part := ok_is_part (P := P) (w := w) (mg := mg) (base := base) F_is_part m_gcd z_len z_tuple z_type h_is_whole 
  have h_is_part := has_of o_is_part g_is_part F_is_part.kp (F_is_part.bindsN (ps := ["thing"]) fun _ _ _ _ _ _ us hl => match us, hl with | [_], _ => rfl)
  have o_floor := ok_floor (P := P) (w := w) (mg := mg) (base := base) F_floor  
  have h_floor := has_of o_floor g_floor F_floor.kp (F_floor.bindsN (ps := ["one"]) fun _ _ _ _ _ _ us hl => match us, hl with | [_], _ => rfl)
  have Fk_least : FnKw K "least" s_least [("none", .non)] (He.fAd K d_least.at_) fd_least := F_least
  have o_least := ok_least (P := P) (w := w) (mg := mg) (base := base) F_least h_is_less 
  obtain ⟨ds_least, r_least, b_least⟩ := FunD.binds0 (ps := ["some", "none"]) Fk_least 1 (by simp) rfl (fun _ _ _ _ _ _ us ks l1 l2 => match us, l1, ks, l2 with | [_], _, [_], _ => ⟨_, _, _, _, _, _, rfl, rfl, rfl⟩)
  have h_least_d1 : Has P w K mg base CX0 "least" 2 ["some", "none"] (spP K TLeastQ) [.non] := ⟨_, _, ds_least, o_least, g_least, F_least.kp, b_least, r_least⟩
  have o_kept_of := ok_kept_of (P := P) (w := w) (mg := mg) (base := base) F_kept_of h_least_d1 h_times 
  have h__kept_of := has_of o_kept_of g_kept_of F_kept_of.kp (F_kept_of.bindsN (ps := ["new", "debt", "share"]) fun _ _ _ _ _ _ us hl => match us, hl with | [_, _, _], _ => rfl)
  have Fk_payments : FnKw K "payments" s_payments [("share", .ref (He.ga K "ONE")), ("whole", .bl false)] (He.fAd K d_payments.at_) fd_payments := F_payments
  have o_payments := ok_payments (P := P) (w := w) (mg := mg) (base := base) F_payments z_tuple h__kept_of h_floor h_is_less h_is_part h_less h_plus ⟨g_ONE, rfl⟩ ⟨g_NOUGHT, rfl⟩ hO hN
  obtain ⟨ds_payments, r_payments, b_payments⟩ := FunD.binds0 (ps := ["totals", "share", "whole"]) Fk_payments 1 (by simp) rfl (fun _ _ _ _ _ _ us ks l1 l2 => match us, l1, ks, l2 with | [_], _, [_, _], _ => ⟨_, _, _, _, _, _, rfl, rfl, _, _, _, _, _, _, rfl, rfl, rfl⟩)
  have h_payments_d1 : Has P w K mg base CX0 "payments" 4 ["totals", "share", "whole"] (spP K TPays) [.ref (He.ga K "ONE"), .bl false] := ⟨_, _, ds_payments, o_payments, g_payments, F_payments.kp, b_payments, r_payments⟩
  obtain ⟨mv_k1_share, kb_k1_share⟩ := FunD.kbinds0 (ps := ["totals", "share", "whole"]) Fk_payments 1 ["share"] [("whole", .bl false)] (fun us mv ws => us ++ ws ++ mv) (by simp) (by simp) (fun r1 r2 r3 => (r1.append r3).append r2) (fun _ _ _ _ _ _ us mv ws l1 l2 l3 => match us, l1, mv, l2, ws, l3 with | [_], _, [_], _, [_], _ => ⟨_, _, _, _, _, _, rfl, rfl, rfl⟩)
  have h_payments_k1_share : HasK P w K mg base CX0 "payments" 4 ["totals", "share", "whole"] (spP K TPays) 1 ["share"] gVps := hasK_of o_payments g_payments F_payments.kp kb_k1_share
  have h_payments_k1_share_whole : HasK P w K mg base CX0 "payments" 4 ["totals", "share", "whole"] (spP K TPays) 1 ["share", "whole"] gVapp := hasK_of o_payments g_payments F_payments.kp (kbN (ps := ["totals", "share", "whole"]) Fk_payments 1 ["share", "whole"] (fun us ws => us ++ ws) (fun r1 r2 => r1.append r2) (fun _ _ _ _ _ _ us ws l1 l2 => match us, l1, ws, l2 with | [_], _, [_, _], _ => rfl))
  have o_law_rows := ok_law_rows (P := P) (w := w) (mg := mg) (base := base) F_law_rows z_tuple h__law_fold h__law_rest h__law_sum h__law_under 
  have h__law_rows := has_of o_law_rows g_law_rows F_law_rows.kp (F_law_rows.bindsN (ps := ["dues", "ratio"]) fun _ _ _ _ _ _ us hl => match us, hl with | [_, _], _ => rfl)
  have o_is_triple := ok_is_triple (P := P) (w := w) (mg := mg) (base := base) F_is_triple z_all z_len z_tuple z_type h_is_part 
  have h__is_triple := has_of o_is_triple g_is_triple F_is_triple.kp (F_is_triple.bindsN (ps := ["thing"]) fun _ _ _ _ _ _ us hl => match us, hl with | [_], _ => rfl)
  have Fk_pright : FnKw K "payments_right" s_payments_right [("share", .ref (He.ga K "ONE"))] (He.fAd K d_payments_right.at_) fd_payments_right := F_payments_right
  have o_payments_right := ok_payments_right (P := P) (w := w) (mg := mg) (base := base) F_payments_right z_all z_tuple z_type h__is_triple h_payments_k1_share 
  obtain ⟨ds_pright, r_pright, b_pright⟩ := FunD.binds0 (ps := ["totals", "thing", "share"]) Fk_pright 2 (by simp) rfl (fun _ _ _ _ _ _ us ks l1 l2 => match us, l1, ks, l2 with | [_, _], _, [_], _ => ⟨_, _, _, _, _, _, rfl, rfl, rfl⟩)
  have h_payments_right_d2 : Has P w K mg base CX0 "payments_right" 5 ["totals", "thing", "share"] (spP K TPRight) [.ref (He.ga K "ONE")] := ⟨_, _, ds_pright, o_payments_right, g_payments_right, F_payments_right.kp, b_pright, r_pright⟩
  have h_payments_right_k2_share : HasK P w K mg base CX0 "payments_right" 5 ["totals", "thing", "share"] (spP K TPRight) 2 ["share"] gVapp := hasK_of o_payments_right g_payments_right F_payments_right.kp (kbN (ps := ["totals", "thing", "share"]) Fk_pright 2 ["share"] (fun us ws => us ++ ws) (fun r1 r2 => r1.append r2) (fun _ _ _ _ _ _ us ws l1 l2 => match us, l1, ws, l2 with | [_, _], _, [_], _ => rfl))
  have h_payments_right_k1_share_thing : HasK P w K mg base CX0 "payments_right" 5 ["totals", "thing", "share"] (spP K TPRight) 1 ["share", "thing"] gVws := hasK_of o_payments_right g_payments_right F_payments_right.kp (kbN (ps := ["totals", "thing", "share"]) Fk_pright 1 ["share", "thing"] (fun us ws => us ++ ws.reverse) (fun r1 r2 => r1.append (vals_rev r2)) (fun _ _ _ _ _ _ us ws l1 l2 => match us, l1, ws, l2 with | [_], _, [_, _], _ => rfl))
  have h_payments_right_k0_thing_share_totals : HasK P w K mg base CX0 "payments_right" 5 ["totals", "thing", "share"] (spP K TPRight) 0 ["thing", "share", "totals"] gVrot := hasK_of o_payments_right g_payments_right F_payments_right.kp (kbN (ps := ["totals", "thing", "share"]) Fk_pright 0 ["thing", "share", "totals"] (fun _ ws => ws.drop 2 ++ ws.take 2) (fun _ r2 => vals_rot r2) (fun _ _ _ _ _ _ us ws l1 l2 => match us, l1, ws, l2 with | [], _, [_, _, _], _ => rfl))
  have o_law_otherwise := ok_law_otherwise (P := P) (w := w) (mg := mg) (base := base) F_law_otherwise z_isinstance z_list z_tuple h__law_draw h__law_part h__law_rest h__law_sum 
  have h__law_otherwise := has_of o_law_otherwise g_law_otherwise F_law_otherwise.kp (F_law_otherwise.bindsN (ps := ["store", "one"]) fun _ _ _ _ _ _ us hl => match us, hl with | [_, _], _ => rfl)
  have o_law_row_otherwise := ok_law_row_otherwise (P := P) (w := w) (mg := mg) (base := base) F_law_row_otherwise z_list h__law_draw h__law_otherwise 
  have h__law_row_otherwise := has_of o_law_row_otherwise g_law_row_otherwise F_law_row_otherwise.kp (F_law_row_otherwise.bindsN (ps := ["store", "row"]) fun _ _ _ _ _ _ us hl => match us, hl with | [_, _], _ => rfl)
  have o_law_spoilt := ok_law_spoilt (P := P) (w := w) (mg := mg) (base := base) F_law_spoilt z_len z_list h__law_draw h__law_row_otherwise 
  have h__law_spoilt := has_of o_law_spoilt g_law_spoilt F_law_spoilt.kp (F_law_spoilt.bindsN (ps := ["store", "rows"]) fun _ _ _ _ _ _ us hl => match us, hl with | [_, _], _ => rfl)
  have o_law_thing := ok_law_thing (P := P) (w := w) (mg := mg) (base := base) F_law_thing h_payments_d1 h__law_draw h__law_spoilt h_payments_k1_share h_payments_k1_share_whole hO
  have h__law_thing := has_of o_law_thing g_law_thing F_law_thing.kp (F_law_thing.bindsN (ps := ["store", "dues", "ratio", "elder"]) fun _ _ _ _ _ _ us hl => match us, hl with | [_, _, _, _], _ => rfl)
  exact ok_law (P := P) (w := w) (mg := mg) (base := base) F_law z_len z_min z_range z_repr z_tuple h_payments_right_d2 h__law_draw h__law_rows h__law_share h__law_store h__law_thing h__law_totals h_payments_right_k0_thing_share_totals h_payments_right_k1_share_thing h_payments_right_k2_share hO
end DL
open PySem PySem.W PySem.Calls PyProof.Rows
set_option maxHeartbeats 0 in
theorem PySem.Challenge.cw_paymill_k47_payments_judged_holds : PySem.Challenge.rw_paymill_k47_payments_judged.Holds := by
  w_on; o_law
  refine HandSHeadRun.head_imp (r := OpenLaw.row PySem.Challenge.rw_paymill_k47_payments_judged) (q := view (OpenLaw.row PySem.Challenge.rw_paymill_k47_payments_judged).prog [0, 39]) (H := DL.hk) (ob := DL.ob) (M := 20000) (loose := DL.loose) (d := HandSHeadRun.topDef (OpenLaw.row PySem.Challenge.rw_paymill_k47_payments_judged).prog 39) (kwd := []) DL.ob_eq
    DL.run (by kernel_rfl) (by kernel_rfl) (by kernel_rfl) (by rfl) (by first | assumption | decide +kernel) (by decide +kernel) ⟨rfl, rfl, rfl, rfl, rfl, by decide +kernel⟩ ?hw ?hc
  case hw => w_witness2
  case hc =>
    refine DL.walk_ofG (l := PySem.Challenge.rw_paymill_k47_payments_judged) (n := 63) (k := 8) (x := "script") (CX := L2.CX0) rfl (by decide) (by kernel_rfl) ⟨rfl, by decide, by decide⟩ ?F (fun _ _ _ _ z => z)
    intro w mg fa h Y G hmg0
    obtain ⟨K, KX, c, ce⟩ := Y
    have hmg : mg ("law" : PySem.Str) = some (.ref fa) := by
      have e : (HandSHeadRun.topDef (OpenLaw.row PySem.Challenge.rw_paymill_k47_payments_judged).prog 39).name = ("law" : PySem.Str) := by kernel_rfl
      rw [← e]
      exact hmg0
    obtain ⟨fd, hb, hF⟩ := DL.facts (P := (PySem.Challenge.rw_paymill_k47_payments_judged).prog) (w := w) KX G hmg c ce
    exact ⟨K, fd, DL.spLaw K, KX, hb, fun H a ns hl _ hS => ⟨a, ns, rfl, hS, hl, fun _ => rfl⟩, hF⟩
