import PyProof.Rows.All
import Wide.All
import OpenK.AllK
import Wide.FinOn
import HandS.ForMost
import HandS.ForExc
import HandS.Wide
import HandS.Gcd
import HandS.Defaults
import HandS.Head0
import HandS.Head1
import HandS.Head2
import HandS.HeadEnd
import HandS.HeadHook1
import HandS.HeadHook2
import HandS.RaiseMore
import HandS.Iter
import HandS.More
import HandS.IsInst
import HandS.Head3
import HandS.ExcOwn
import HandS.WordsExc
import PyProof.ExcBaseAll.ZeroDivisionError
import HandS.ExcIs
import HandS.MakeKw
import HandS.MakeKwOnly
import KE.GoesEnum
import HandS.TupAny
import HandS.Style
import KE.KDictZip
import HandS.GenList
import HandS.DictTup
import HandS.Flow
import HandS.CallLocal
import HandS.CallSlots
import HandS.Zip
import KE.GoesMore
import PySem.Challenge.RW_paymill_k44_whole_nobody_gives_back
set_option Elab.async false
set_option linter.all false
set_option maxRecDepth 100000
set_option maxHeartbeats 2000000
/-! DL: readings walked over data (PyData) in the place of values and heaps -/
namespace DL
open PySem L2

abbrev Av := Addr → Bool
/-- the heap without what is avoided -/
def wo (N : Av) (H : Hp) : Hp := fun b => if N b then none else H b
theorem wo_in {N : Av} {H : Hp} {b : Addr} (h : N b = false) : wo N H b = H b := by unfold wo; rw [h]; rfl
theorem wo_out {N : Av} {H : Hp} {b : Addr} (h : N b = true) : wo N H b = none := by unfold wo; rw [h]; rfl
theorem wo_some {N : Av} {H : Hp} {b : Addr} {o : HO} (h : wo N H b = some o) : N b = false ∧ H b = some o := by
  cases e : N b with
  | true => rw [wo_out e] at h; cases h
  | false => rw [wo_in e] at h; exact ⟨rfl, h⟩
/-- all but the avoided stays -/
def Keep (N : Av) (H H' : Hp) : Prop := ∀ b o, N b = false → H b = some o → H' b = some o
theorem Keep.refl {N : Av} {H : Hp} : Keep N H H := fun _ _ _ h => h
theorem Keep.trans {N : Av} {H H1 H2 : Hp} (a : Keep N H H1) (b : Keep N H1 H2) : Keep N H H2 := fun x o n h => b x o n (a x o n h)
theorem Keep.of {N : Av} {H H' : Hp} (a : Same H H') : Keep N H H' := fun b o _ h => a b o h
theorem Keep.wo {N : Av} {H H' : Hp} (a : Keep N H H') : Same (wo N H) (wo N H') := fun b o h => by
  obtain ⟨n, h⟩ := wo_some h
  rw [wo_in n]; exact a b o n h
def Le (N N' : Av) : Prop := ∀ b, N b = true → N' b = true
theorem Le.refl {N : Av} : Le N N := fun _ h => h
theorem Le.trans {N N1 N2 : Av} (a : Le N N1) (b : Le N1 N2) : Le N N2 := fun x h => b x (a x h)
theorem Le.wo {N N' : Av} {H : Hp} (a : Le N N') : Same (wo N' H) (wo N H) := fun b o h => by
  obtain ⟨n, h⟩ := wo_some h
  have : N b = false := by
    cases e : N b with
    | false => rfl
    | true => rw [a b e] at n; cases n
  rw [wo_in this]; exact h
theorem Same.wo1 {N : Av} {H : Hp} : Same (DL.wo N H) H := fun b o h => (wo_some h).2
theorem same_t {K : PySem.W.Frag} {H H' : Hp} {a : Addr} {xs : List V} (e : Same H H') (h : SqT K H a xs) : SqT K H' a xs := by
  rcases h with (h | ⟨o, h⟩) | h
  · exact .inl (.inl (e _ _ h))
  · exact .inl (.inr ⟨o, e _ _ h⟩)
  · exact .inr h
theorem same_rd {H H' : Hp} {a : Addr} {u : HO} (e : Same H H') (h : Rd H a u) : Rd H' a u := by
  rcases h with h | ⟨o, h⟩
  · exact .inl (e _ _ h)
  · exact .inr ⟨o, e _ _ h⟩
mutual
/-- a value is a datum: lists tracked (or locked), tuples tracked, locked or the written part's -/
inductive Dt (K : PySem.W.Frag) (H : Hp) : V → PyData → Prop
  | non : Dt K H .non .none
  | bl (b : Bool) : Dt K H (.bl b) (.bool b)
  | int (i : Int) : Dt K H (.int i) (.int i)
  | str (x : Str) : Dt K H (.str x) (.str x)
  | lst {a : Addr} {xs : List V} {ds : List PyData} (h : Rd H a (.lst xs)) (t : DtAll K H xs ds) : Dt K H (.ref a) (.list ds)
  | tup {a : Addr} {xs : List V} {ds : List PyData} (h : SqT K H a xs) (t : DtAll K H xs ds) : Dt K H (.ref a) (.tuple ds)
  | dct {a : Addr} (h : H a = some (.dK [])) : Dt K H (.ref a) (.dict [])
inductive DtAll (K : PySem.W.Frag) (H : Hp) : List V → List PyData → Prop
  | nil : DtAll K H [] []
  | cons {v : V} {vs : List V} {d : PyData} {ds : List PyData} (h : Dt K H v d) (t : DtAll K H vs ds) : DtAll K H (v :: vs) (d :: ds)
end
mutual
theorem dp_mono {K : PySem.W.Frag} {H H' : Hp} (e : Same H H') : ∀ (d : PyData) (v : V), Dt K H v d → Dt K H' v d
  | .none, _, h => by cases h; exact .non
  | .bool b, _, h => by cases h; exact .bl b
  | .int i, _, h => by cases h; exact .int i
  | .str x, _, h => by cases h; exact .str x
  | .list ds, _, h => by
    cases h with
    | lst hs ha => exact .lst (same_rd e hs) (dpall_mono e ds _ ha)
  | .tuple ds, _, h => by
    cases h with
    | tup hs ha => exact .tup (same_t e hs) (dpall_mono e ds _ ha)
  | .dict _, _, h => by
    cases h with
    | dct h => exact .dct (e _ _ h)
theorem dpall_mono {K : PySem.W.Frag} {H H' : Hp} (e : Same H H') : ∀ (ds : List PyData) (vs : List V), DtAll K H vs ds → DtAll K H' vs ds
  | [], _, h => by cases h; exact .nil
  | d :: ds, _, h => by
    cases h with
    | cons h1 h2 => exact .cons (dp_mono e d _ h1) (dpall_mono e ds _ h2)
end
mutual
theorem dt_dp {K : PySem.W.Frag} {H : Hp} : ∀ (d : PyData) (v : V), d.hasDict = false → Dt K H v d → Dp K H v d
  | .none, _, _, h => by cases h; exact .non
  | .bool b, _, _, h => by cases h; exact .bl b
  | .int i, _, _, h => by cases h; exact .int i
  | .str x, _, _, h => by cases h; exact .str x
  | .list ds, _, n, h => by
    cases h with
    | lst hs ha => exact .lst (.inl hs) (dtall_dp ds _ (by simpa [PyData.hasDict] using n) ha)
  | .tuple ds, _, n, h => by
    cases h with
    | tup hs ha => exact .tup hs (dtall_dp ds _ (by simpa [PyData.hasDict] using n) ha)
  | .dict _, _, n, h => by simp [PyData.hasDict] at n
theorem dtall_dp {K : PySem.W.Frag} {H : Hp} : ∀ (ds : List PyData) (vs : List V), PyData.hasDictAll ds = false → DtAll K H vs ds → DpAll K H vs ds
  | [], _, _, h => by cases h; exact .nil
  | d :: ds, _, n, h => by
    have n' : d.hasDict = false ∧ PyData.hasDictAll ds = false := by simpa [PyData.hasDictAll] using n
    cases h with
    | cons h1 h2 => exact .cons (dt_dp d _ n'.1 h1) (dtall_dp ds _ n'.2 h2)
end
mutual
theorem lay_nd : ∀ (d : PyData), d.canLay0 = true → d.hasDict = false
  | .none, _ => rfl
  | .bool _, _ => rfl
  | .int _, _ => rfl
  | .str _, _ => rfl
  | .list ds, h => by
    have := lay_nd_all ds (by simpa [PyData.canLay0] using h)
    simpa [PyData.hasDict] using this
  | .tuple ds, h => by
    have := lay_nd_all ds (by simpa [PyData.canLay0] using h)
    simpa [PyData.hasDict] using this
  | .dict _, h => by simp [PyData.canLay0] at h
theorem lay_nd_all : ∀ (ds : List PyData), PyData.canLayAll0 ds = true → PyData.hasDictAll ds = false
  | [], _ => rfl
  | d :: ds, h => by
    have h' : d.canLay0 = true ∧ PyData.canLayAll0 ds = true := by simpa [PyData.canLayAll0] using h
    simp [PyData.hasDictAll, lay_nd d h'.1, lay_nd_all ds h'.2]
end
theorem shaped_nd {d : PyData} (h : SeqAt.shaped d = true) : d.hasDict = false := lay_nd d (SeqAt.canLay_of_shaped h)
section
variable {K : PySem.W.Frag} {N N' : Av} {H H' : Hp} {v : V} {vs ws : List V} {d : PyData} {ds es : List PyData}
/-- v is the data d, none of its objects avoided -/
def Dq (K : PySem.W.Frag) (N : Av) (H : Hp) (v : V) (d : PyData) : Prop := Dt K (wo N H) v d
def DqAll (K : PySem.W.Frag) (N : Av) (H : Hp) (vs : List V) (ds : List PyData) : Prop := DtAll K (wo N H) vs ds
theorem Dq.keep (h : Dq K N H v d) (k : Keep N H H') : Dq K N H' v d := dp_mono k.wo d v h
theorem DqAll.keep (h : DqAll K N H vs ds) (k : Keep N H H') : DqAll K N H' vs ds := dpall_mono k.wo ds vs h
theorem Dq.le (h : Dq K N' H v d) (k : Le N N') : Dq K N H v d := dp_mono k.wo d v h
theorem DqAll.le (h : DqAll K N' H vs ds) (k : Le N N') : DqAll K N H vs ds := dpall_mono k.wo ds vs h
theorem Dq.dt (h : Dq K N H v d) : Dt K H v d := dp_mono Same.wo1 d v h
theorem Dq.dp (h : Dq K N H v d) (n : d.hasDict = false) : Dp K H v d := dt_dp d v n h.dt
theorem DqAll.dp (h : DqAll K N H vs ds) (n : PyData.hasDictAll ds = false) : DpAll K H vs ds := dtall_dp ds vs n (dpall_mono Same.wo1 ds vs h)
theorem DqAll.len : ∀ {vs : List V} {ds : List PyData}, DqAll K N H vs ds → vs.length = ds.length := by
  intro vs ds h
  induction vs generalizing ds with
  | nil => cases h; rfl
  | cons v vs ih =>
    cases h with
    | cons h1 h2 => exact congrArg (· + 1) (ih h2)
theorem DqAll.nil : DqAll K N H [] [] := DtAll.nil
theorem DqAll.cons (h : Dq K N H v d) (t : DqAll K N H vs ds) : DqAll K N H (v :: vs) (d :: ds) := DtAll.cons h t
theorem DqAll.append : ∀ {vs : List V} {ds : List PyData}, DqAll K N H vs ds → DqAll K N H ws es → DqAll K N H (vs ++ ws) (ds ++ es) := by
  intro vs ds h t
  induction vs generalizing ds with
  | nil => cases h; exact t
  | cons v vs ih =>
    cases h with
    | cons h1 h2 => exact DqAll.cons h1 (ih h2)
theorem DqAll.get : ∀ {vs : List V} {ds : List PyData} {i : Nat} {d : PyData}, DqAll K N H vs ds → ds[i]? = some d → ∃ v, vs[i]? = some v ∧ Dq K N H v d := by
  intro vs ds i d h e
  induction vs generalizing ds i with
  | nil => cases h; simp at e
  | cons v vs ih =>
    cases h with
    | cons h1 h2 =>
      cases i with
      | zero => simp at e; subst e; exact ⟨v, rfl, h1⟩
      | succ i => obtain ⟨u, h3, h4⟩ := ih h2 (by simpa using e); exact ⟨u, by simpa using h3, h4⟩
theorem DqAll.get' : ∀ {vs : List V} {ds : List PyData} {i : Nat} {v : V}, DqAll K N H vs ds → vs[i]? = some v → ∃ d, ds[i]? = some d ∧ Dq K N H v d := by
  intro vs ds i v h e
  have hl := h.len
  have hi : i < ds.length := by
    rw [← hl]
    exact (List.getElem?_eq_some_iff.mp e).1
  obtain ⟨u, h1, h2⟩ := h.get (List.getElem?_eq_getElem hi)
  rw [h1] at e; cases e
  exact ⟨_, List.getElem?_eq_getElem hi, h2⟩
theorem DqAll.take : ∀ {vs : List V} {ds : List PyData} (n : Nat), DqAll K N H vs ds → DqAll K N H (vs.take n) (ds.take n) := by
  intro vs ds n h
  induction vs generalizing ds n with
  | nil => cases h; simp; exact DqAll.nil
  | cons v vs ih =>
    cases h with
    | cons h1 h2 =>
      cases n with
      | zero => exact DqAll.nil
      | succ n => exact DqAll.cons h1 (ih n h2)
theorem DqAll.drop : ∀ {vs : List V} {ds : List PyData} (n : Nat), DqAll K N H vs ds → DqAll K N H (vs.drop n) (ds.drop n) := by
  intro vs ds n h
  induction vs generalizing ds n with
  | nil => cases h; simp; exact DqAll.nil
  | cons v vs ih =>
    cases h with
    | cons h1 h2 =>
      cases n with
      | zero => exact DqAll.cons h1 h2
      | succ n => exact ih n h2
theorem DqAll.ints {ns : List Int} : DqAll K N H (ns.map V.int) (ns.map PyData.int) := by
  induction ns with
  | nil => exact DqAll.nil
  | cons n ns ih => exact DqAll.cons (Dt.int n) ih
theorem DqAll.of_ints : ∀ {vs : List V} {ns : List Int}, DqAll K N H vs (ns.map PyData.int) → vs = ns.map V.int := by
  intro vs ns h
  induction ns generalizing vs with
  | nil => cases h; rfl
  | cons n ns ih =>
    cases h with
    | cons h1 h2 => cases h1; rw [ih h2]; rfl
/-- a fresh address is avoided by nobody -/
theorem fresh_av (hN : ∀ b, N b = true → H b ≠ none) {p : Addr} (hp : H p = none) : N p = false := by
  cases e : N p with
  | false => rfl
  | true => exact absurd hp (hN p e)
theorem Dq.tup {p : Addr} {xs : List V} (np : N p = false) (hp : H p = some (.tup xs)) (h : DqAll K N H xs ds) : Dq K N H (.ref p) (.tuple ds) :=
  Dt.tup (.inl (.inl (by rw [wo_in np]; exact hp))) h
theorem Dq.lst {p : Addr} {xs : List V} (np : N p = false) (hp : H p = some (.lst xs)) (h : DqAll K N H xs ds) : Dq K N H (.ref p) (.list ds) :=
  Dt.lst (.inl (by rw [wo_in np]; exact hp)) h
theorem Dq.tup_inv (h : Dq K N H v (.tuple ds)) : ∃ p xs, v = .ref p ∧ SqT K (wo N H) p xs ∧ SqT K H p xs ∧ DqAll K N H xs ds := by
  cases h with
  | tup hs ha => exact ⟨_, _, rfl, hs, same_t Same.wo1 hs, ha⟩
theorem Dq.lst_inv (h : Dq K N H v (.list ds)) : ∃ p xs, v = .ref p ∧ Rd (wo N H) p (.lst xs) ∧ Rd H p (.lst xs) ∧ DqAll K N H xs ds := by
  cases h with
  | lst hs ha => exact ⟨_, _, rfl, hs, same_rd Same.wo1 hs, ha⟩
theorem Dq.int_inv {i : Int} (h : Dq K N H v (.int i)) : v = .int i := by cases h; rfl
theorem Dq.bool_inv {i : Bool} (h : Dq K N H v (.bool i)) : v = .bl i := by cases h; rfl
theorem Dq.str_inv {i : Str} (h : Dq K N H v (.str i)) : v = .str i := by cases h; rfl
theorem Dq.none_inv (h : Dq K N H v .none) : v = .non := by cases h; rfl
theorem same_new {p : Addr} (h : H p = none) (o : HO) : Same H (upd H p o) := fun b u q => by rw [upd_ne (ne_of_none q h)]; exact q
end
end DL

set_option Elab.async false
set_option linter.all false
set_option maxRecDepth 100000
set_option maxHeartbeats 2000000
namespace DL
open PySem L2

/-- a thing that changes in its footprint alone, with a bound that a call may raise -/
structure Stt where
  a : Addr
  fp : Av
  ok : Hp → Nat → Prop
  loc : ∀ H H' B, (∀ b, fp b = true → H' b = H b) → ok H B → ok H' B
  trk : ∀ H B, ok H B → ∀ b, fp b = true → H b ≠ none
/-- none -/
def S0 : Stt := ⟨0, fun _ => false, fun _ _ => False, fun _ _ _ _ h => h, fun _ _ h => h.elim⟩

inductive Sl where
  | unk
  | dat (d : PyData)
  | own (ds : List PyData)
  | sto (B : Nat)
  | scr (ns : List Int)
abbrev Rho := List Sl
/-- what stands beside the names: a value on the way, a list that a comprehension fills -/
inductive Hd where
  | dat (v : V) (d : PyData)
  | own (p : Addr) (ds : List PyData)
def HdOk (K : PySem.W.Frag) (S : Stt) (H0 : Hp) (N0 N : Av) (H : Hp) : Hd → Prop
  | .dat v d => Dq K N H v d
  | .own p ds => ∃ xs, N p = true ∧ S.fp p = false ∧ N0 p = false ∧ H0 p = none ∧ H p = some (.lst xs) ∧ DqAll K N H xs ds

def SlOk (K : PySem.W.Frag) (S : Stt) (H0 : Hp) (N0 N : Av) (σ : L2.St) (H : Hp) (i : Nat) : Sl → Prop
  | .unk => True
  | .dat d => ∃ v, σ[i]? = some (some v) ∧ Dq K N H v d
  | .own ds => ∃ p xs, σ[i]? = some (some (.ref p)) ∧ N p = true ∧ S.fp p = false ∧ N0 p = false ∧ H0 p = none ∧ H p = some (.lst xs) ∧ DqAll K N H xs ds
  | .sto B => σ[i]? = some (some (.ref S.a)) ∧ S.ok H B
  | .scr ns => ∃ a, σ[i]? = some (some (.ref a)) ∧ SqL K (wo N H) a (ns.map V.int)

structure EnvD (K : PySem.W.Frag) (S : Stt) (H0 : Hp) (N0 : Av) (Z : List Hd) (N : Av) (σ : L2.St) (H : Hp) (ρ : Rho) : Prop where
  keep : ∀ b o, S.fp b = false → H0 b = some o → H b = some o
  base : Le N0 N
  trk : ∀ b, N b = true → H b ≠ none
  sub : Le S.fp N
  slot : ∀ (i : Nat) (s : Sl), ρ[i]? = some s → SlOk K S H0 N0 N σ H i s
  len : ρ.length = σ.length
  hid : ∀ z, z ∈ Z → HdOk K S H0 N0 N H z
  injH : ∀ (i : Nat) (di dj : List PyData) (p : Addr), ρ[i]? = some (Sl.own di) → σ[i]? = some (some (V.ref p)) → Hd.own p dj ∈ Z → False
  injZ : ∀ (i j : Nat) (di dj : List PyData) (p : Addr), Z[i]? = some (Hd.own p di) → Z[j]? = some (Hd.own p dj) → i = j
  inj : ∀ (i j : Nat) (di dj : List PyData) (p : Addr), ρ[i]? = some (Sl.own di) → ρ[j]? = some (Sl.own dj) → σ[i]? = some (some (V.ref p)) → σ[j]? = some (some (V.ref p)) → i = j

def WD (K : PySem.W.Frag) (S : Stt) (te : TE) (ρ : Rho) (Φ : PyData → Rho → Prop) : Prop :=
  ∀ H0 N0 Z N σ H, EnvD K S H0 N0 Z N σ H ρ → ∀ Q : VK, (∀ v d ρ' H', Φ d ρ' → EnvD K S H0 N0 Z N σ H' ρ' → Keep N H H' → Dq K N H' v d → Q v H') → te σ H Q
def WA (K : PySem.W.Frag) (S : Stt) (ta : TA) (ρ : Rho) (Φ : List PyData → Rho → Prop) : Prop :=
  ∀ H0 N0 Z N σ H, EnvD K S H0 N0 Z N σ H ρ → ∀ Q : List V → Hp → Prop, (∀ vs ds ρ' H', Φ ds ρ' → EnvD K S H0 N0 Z N σ H' ρ' → Keep N H H' → DqAll K N H' vs ds → Q vs H') → ta σ H Q
def WT (K : PySem.W.Frag) (S : Stt) (tt : TT) (ρ : Rho) (Φ : Bool → Rho → Prop) : Prop :=
  ∀ H0 N0 Z N σ H, EnvD K S H0 N0 Z N σ H ρ → ∀ Q : Bool → Hp → Prop, (∀ b ρ' H', Φ b ρ' → EnvD K S H0 N0 Z N σ H' ρ' → Keep N H H' → Q b H') → tt σ H Q
/-- two-place operations on data, calls on data -/
def DO (K : PySem.W.Frag) (r : R2) (x y : PyData) (Ψ : PyData → Prop) : Prop :=
  ∀ (N : Av) (H : Hp), (∀ b, N b = true → H b ≠ none) → ∀ u w, Dq K N H u x → Dq K N H w y → ∀ Q : VK, (∀ v d H', Ψ d → Same H H' → Dq K N H' v d → Q v H') → r u w H Q
def DU (K : PySem.W.Frag) (r : V → Hp → VK → Prop) (x : PyData) (Ψ : PyData → Prop) : Prop :=
  ∀ (N : Av) (H : Hp), (∀ b, N b = true → H b ≠ none) → ∀ u, Dq K N H u x → ∀ Q : VK, (∀ v d H', Ψ d → Same H H' → Dq K N H' v d → Q v H') → r u H Q
def DC (K : PySem.W.Frag) (r : List V → Hp → VK → Prop) (xs : List PyData) (Ψ : PyData → Prop) : Prop :=
  ∀ (N : Av) (H : Hp), (∀ b, N b = true → H b ≠ none) → ∀ us, DqAll K N H us xs → ∀ Q : VK, (∀ v d H', Ψ d → Same H H' → Dq K N H' v d → Q v H') → r us H Q

/-- what is wanted behind a statement -/
structure DE where
  nx : Rho → Prop
  rt : PyData → Rho → Prop
  bk : Rho → Prop := fun _ => False
  ct : Rho → Prop := fun _ => False
structure Meets (K : PySem.W.Frag) (S : Stt) (H0 : Hp) (N0 : Av) (Z : List Hd) (En : DE) (D : Ends) : Prop where
  nx : ∀ N σ H ρ, En.nx ρ → EnvD K S H0 N0 Z N σ H ρ → D.nx σ H
  rt : ∀ N σ H ρ v d, En.rt d ρ → EnvD K S H0 N0 Z N σ H ρ → Dq K N0 H v d → D.rt v H
  bk : ∀ N σ H ρ, En.bk ρ → EnvD K S H0 N0 Z N σ H ρ → D.bk σ H
  ct : ∀ N σ H ρ, En.ct ρ → EnvD K S H0 N0 Z N σ H ρ → D.ct σ H
def WS (K : PySem.W.Frag) (S : Stt) (ts : TS) (ρ : Rho) (En : DE) : Prop :=
  ∀ H0 N0 Z N σ H D, EnvD K S H0 N0 Z N σ H ρ → Meets K S H0 N0 Z En D → ts D σ H

section
variable {K : PySem.W.Frag} {S : Stt} {H0 : Hp} {N0 : Av} {Z : List Hd} {N : Av} {σ : L2.St} {H H' : Hp} {ρ : Rho} {Φ : PyData → Rho → Prop}

theorem SlOk.ext (hs : Le S.fp N) (ht : ∀ b, N b = true → H b ≠ none) (e : Same H H') : ∀ {s : Sl} {i : Nat}, SlOk K S H0 N0 N σ H i s → SlOk K S H0 N0 N σ H' i s
  | .unk, _, h => h
  | .dat d, _, ⟨v, h1, h2⟩ => ⟨v, h1, h2.keep (Keep.of e)⟩
  | .own ds, _, ⟨p, xs, h1, h2, h3, h4, h5, h6, h7⟩ => ⟨p, xs, h1, h2, h3, h4, h5, e _ _ h6, h7.keep (Keep.of e)⟩
  | .sto B, _, ⟨h1, h2⟩ => ⟨h1, S.loc H H' B (fun b hb => by
      cases q : H b with
      | none => exact absurd q (ht b (hs b hb))
      | some o => exact e b o q) h2⟩
  | .scr ns, _, ⟨a, h1, h2⟩ => ⟨a, h1, (Keep.of e).wo.seq h2⟩
theorem HdOk.ext (e : Same H H') : ∀ {z : Hd}, HdOk K S H0 N0 N H z → HdOk K S H0 N0 N H' z
  | .dat v d, h => Dq.keep h (Keep.of e)
  | .own p ds, ⟨xs, h2, h3, h4, h5, h6, h7⟩ => ⟨xs, h2, h3, h4, h5, e _ _ h6, h7.keep (Keep.of e)⟩
theorem EnvD.ext (E : EnvD K S H0 N0 Z N σ H ρ) (e : Same H H') : EnvD K S H0 N0 Z N σ H' ρ where
  keep b o n h := e b o (E.keep b o n h)
  base := E.base
  trk b h z := by
    cases q : H b with
    | none => exact E.trk b h q
    | some o => rw [e b o q] at z; cases z
  sub := E.sub
  slot i s h := (E.slot i s h).ext E.sub E.trk e
  len := E.len
  hid z h := (E.hid z h).ext e
  injH := E.injH
  injZ := E.injZ
  inj := E.inj
theorem get_set {α : Type} {l : List α} {i j : Nat} {x y : α} (h : (l.set i x)[j]? = some y) : (i = j ∧ y = x) ∨ (i ≠ j ∧ l[j]? = some y) := by
  by_cases e : i = j
  · subst e
    have hl : i < l.length := by have := (List.getElem?_eq_some_iff.mp h).1; rwa [List.length_set] at this
    rw [List.getElem?_set_self hl] at h
    cases h
    exact .inl ⟨rfl, rfl⟩
  · rw [List.getElem?_set_ne e] at h
    exact .inr ⟨e, h⟩
theorem set_ne {α : Type} {l : List α} {i j : Nat} {x : α} (h : i ≠ j) : (l.set i x)[j]? = l[j]? := List.getElem?_set_ne h
theorem set_eq {α : Type} {l : List α} {i : Nat} {x : α} (h : i < l.length) : (l.set i x)[i]? = some x := List.getElem?_set_self h
theorem SlOk.other {s : Sl} {i j : Nat} {u : Option V} (h : i ≠ j) (q : SlOk K S H0 N0 N σ H j s) : SlOk K S H0 N0 N (σ.set i u) H j s := by
  cases s with
  | unk => exact q
  | dat d => obtain ⟨u, h1, h2⟩ := q; exact ⟨u, by rw [set_ne h]; exact h1, h2⟩
  | own ds => obtain ⟨p, xs, h1, h2⟩ := q; exact ⟨p, xs, by rw [set_ne h]; exact h1, h2⟩
  | sto B => obtain ⟨h1, h2⟩ := q; exact ⟨by rw [set_ne h]; exact h1, h2⟩
  | scr ns => obtain ⟨a, h1, h2⟩ := q; exact ⟨a, by rw [set_ne h]; exact h1, h2⟩
/-- a slot gets what is no list of one's own -/
theorem EnvD.set0 (E : EnvD K S H0 N0 Z N σ H ρ) {i : Nat} {u : Option V} {s : Sl} (no : ∀ ds, s ≠ .own ds) (hs : i < σ.length → SlOk K S H0 N0 N (σ.set i u) H i s) : EnvD K S H0 N0 Z N (σ.set i u) H (ρ.set i s) where
  keep := E.keep
  base := E.base
  trk := E.trk
  sub := E.sub
  len := by rw [List.length_set, List.length_set]; exact E.len
  hid := E.hid
  injZ := E.injZ
  slot j t h := by
    rcases get_set h with ⟨e, e2⟩ | ⟨e, h⟩
    · subst e; subst e2
      refine hs ?_
      have := (List.getElem?_eq_some_iff.mp h).1
      rw [List.length_set] at this
      rw [← E.len]; exact this
    · exact (E.slot j t h).other e
  injH a da dj p ha h1 hz := by
    rcases get_set ha with ⟨e, e2⟩ | ⟨e, ha⟩
    · exact absurd e2.symm (no _)
    · rw [set_ne e] at h1
      exact E.injH a da dj p ha h1 hz
  inj a b da db p ha hb h1 h2 := by
    rcases get_set ha with ⟨e, e2⟩ | ⟨ea, ha⟩
    · exact absurd e2.symm (no _)
    · rcases get_set hb with ⟨e, e2⟩ | ⟨eb, hb⟩
      · exact absurd e2.symm (no _)
      · rw [set_ne ea] at h1
        rw [set_ne eb] at h2
        exact E.inj a b da db p ha hb h1 h2
theorem EnvD.set (E : EnvD K S H0 N0 Z N σ H ρ) {i : Nat} {v : V} {d : PyData} (hv : Dq K N H v d) : EnvD K S H0 N0 Z N (σ.set i (some v)) H (ρ.set i (.dat d)) :=
  E.set0 (fun _ h => nomatch h) fun hi => ⟨v, set_eq hi, hv⟩
theorem EnvD.unset (E : EnvD K S H0 N0 Z N σ H ρ) {i : Nat} {u : Option V} : EnvD K S H0 N0 Z N (σ.set i u) H (ρ.set i .unk) :=
  E.set0 (fun _ h => nomatch h) fun _ => trivial
/-- forget -/
def Fgt (ρ ρ' : Rho) : Prop := ρ'.length = ρ.length ∧ ∀ (i : Nat) (s : Sl), ρ'[i]? = some s → s = .unk ∨ ρ[i]? = some s
theorem Fgt.refl : Fgt ρ ρ := ⟨rfl, fun _ _ h => .inr h⟩
theorem EnvD.fgt {ρ' : Rho} (E : EnvD K S H0 N0 Z N σ H ρ) (f : Fgt ρ ρ') : EnvD K S H0 N0 Z N σ H ρ' where
  keep := E.keep
  base := E.base
  trk := E.trk
  sub := E.sub
  slot i s h := by
    rcases f.2 i s h with e | e
    · subst e; trivial
    · exact E.slot i s e
  len := f.1.trans E.len
  hid := E.hid
  injZ := E.injZ
  injH a da dj p ha h1 hz := by
    rcases f.2 a _ ha with e | ea
    · cases e
    · exact E.injH a da dj p ea h1 hz
  inj a b da db p ha hb h1 h2 := by
    rcases f.2 a _ ha with e | ea
    · cases e
    · rcases f.2 b _ hb with e | eb
      · cases e
      · exact E.inj a b da db p ea eb h1 h2

/-! ### expressions -/
theorem WD.imp {te : TE} {Φ Φ' : PyData → Rho → Prop} (h : WD K S te ρ Φ) (i : ∀ d ρ', Φ d ρ' → Φ' d ρ') : WD K S te ρ Φ' := fun H0 N0 Z N σ H E Q q => h H0 N0 Z N σ H E Q fun v d ρ' H' f => q v d ρ' H' (i d ρ' f)
theorem wd_var {i : Nat} {d : PyData} (h : ρ[i]? = some (.dat d)) (f : Φ d ρ) : WD K S (tVar i) ρ Φ := fun H0 N0 Z N σ H E Q q => by
  obtain ⟨v, h1, h2⟩ := E.slot i _ h
  exact ⟨v, h1, q v d ρ H f E Keep.refl h2⟩
theorem wd_int {i : Int} (f : Φ (.int i) ρ) : WD K S (tC (.int i)) ρ Φ := fun H0 N0 Z N σ H E Q q => q _ _ ρ H f E Keep.refl (Dt.int i)
theorem wd_bl {i : Bool} (f : Φ (.bool i) ρ) : WD K S (tC (.bl i)) ρ Φ := fun H0 N0 Z N σ H E Q q => q _ _ ρ H f E Keep.refl (Dt.bl i)
theorem wd_str {i : Str} (f : Φ (.str i) ρ) : WD K S (tC (.str i)) ρ Φ := fun H0 N0 Z N σ H E Q q => q _ _ ρ H f E Keep.refl (Dt.str i)
theorem wd_non (f : Φ .none ρ) : WD K S (tC .non) ρ Φ := fun H0 N0 Z N σ H E Q q => q _ _ ρ H f E Keep.refl Dt.non
/-- a constant of the module, a tuple that the written part holds -/
theorem wd_const {v : V} {d : PyData} (h : ∀ H : Hp, Dt K H v d) (f : Φ d ρ) : WD K S (tC v) ρ Φ := fun H0 N0 Z N σ H E Q q => q _ _ ρ H f E Keep.refl (h _)
theorem wd_op {r : R2} {ta tb : TE} (h : WD K S ta ρ fun x ρ1 => WD K S tb ρ1 fun y ρ2 => DO K r x y fun z => Φ z ρ2) : WD K S (tOp r ta tb) ρ Φ := fun H0 N0 Z N σ H E Q q =>
  h H0 N0 Z N σ H E _ fun u x ρ1 H1 h1 E1 k1 d1 => h1 H0 N0 Z N σ H1 E1 _ fun w y ρ2 H2 h2 E2 k2 d2 => h2 N H2 E2.trk u w (d1.keep k2) d2 Q fun v d H3 f e d3 =>
    q v d ρ2 H3 f (E2.ext e) ((k1.trans k2).trans (Keep.of e)) d3
theorem wd_un {r : V → Hp → VK → Prop} {ta : TE} (h : WD K S ta ρ fun x ρ1 => DU K r x fun z => Φ z ρ1) : WD K S (tUn r ta) ρ Φ := fun H0 N0 Z N σ H E Q q =>
  h H0 N0 Z N σ H E _ fun u x ρ1 H1 h1 E1 k1 d1 => h1 N H1 E1.trk u d1 Q fun v d H3 f e d3 => q v d ρ1 H3 f (E1.ext e) (k1.trans (Keep.of e)) d3
theorem wa_nil {Φ : List PyData → Rho → Prop} (f : Φ [] ρ) : WA K S tNil ρ Φ := fun H0 N0 Z N σ H E Q q => q [] [] ρ H f E Keep.refl DqAll.nil
theorem wa_cons {te : TE} {ta : TA} {Φ : List PyData → Rho → Prop} (h : WD K S te ρ fun x ρ1 => WA K S ta ρ1 fun xs ρ2 => Φ (x :: xs) ρ2) : WA K S (tCons te ta) ρ Φ := fun H0 N0 Z N σ H E Q q =>
  h H0 N0 Z N σ H E _ fun u x ρ1 H1 h1 E1 k1 d1 => h1 H0 N0 Z N σ H1 E1 _ fun us xs ρ2 H2 h2 E2 k2 d2 => q (u :: us) (x :: xs) ρ2 H2 h2 E2 (k1.trans k2) (DqAll.cons (d1.keep k2) d2)
theorem wd_cb {r : List V → Hp → VK → Prop} {ta : TA} (h : WA K S ta ρ fun xs ρ1 => DC K r xs fun z => Φ z ρ1) : WD K S (tCB r ta) ρ Φ := fun H0 N0 Z N σ H E Q q =>
  h H0 N0 Z N σ H E _ fun us xs ρ1 H1 h1 E1 k1 d1 => h1 N H1 E1.trk us d1 Q fun v d H3 f e d3 => q v d ρ1 H3 f (E1.ext e) (k1.trans (Keep.of e)) d3
theorem wd_tup {ta : TA} (h : WA K S ta ρ fun xs ρ1 => xs.length ≤ sizeLine ∧ Φ (.tuple xs) ρ1) : WD K S (tTup ta) ρ Φ := fun H0 N0 Z N σ H E Q q =>
  h H0 N0 Z N σ H E _ fun us xs ρ1 H1 h1 E1 k1 d1 => ⟨by rw [d1.len]; exact h1.1, fun p hp => by
    have s := same_new hp (.tup us)
    exact q (.ref p) (.tuple xs) ρ1 _ h1.2 (E1.ext s) (k1.trans (Keep.of s)) (Dq.tup (fresh_av E1.trk hp) upd_same (d1.keep (Keep.of s)))⟩
theorem wd_lst {ta : TA} (h : WA K S ta ρ fun xs ρ1 => xs.length ≤ sizeLine ∧ Φ (.list xs) ρ1) : WD K S (tLst ta) ρ Φ := fun H0 N0 Z N σ H E Q q =>
  h H0 N0 Z N σ H E _ fun us xs ρ1 H1 h1 E1 k1 d1 => ⟨by rw [d1.len]; exact h1.1, fun p hp => by
    have s := same_new hp (.lst us)
    exact q (.ref p) (.list xs) ρ1 _ h1.2 (E1.ext s) (k1.trans (Keep.of s)) (Dq.lst (fresh_av E1.trk hp) upd_same (d1.keep (Keep.of s)))⟩
/-- tests -/
theorem wt_test {te : TE} {Φ : Bool → Rho → Prop} (h : WD K S te ρ fun x ρ1 => ∃ b, x = .bool b ∧ Φ b ρ1) : WT K S (tTest te) ρ Φ := fun H0 N0 Z N σ H E Q q =>
  h H0 N0 Z N σ H E _ fun u x ρ1 H1 ⟨b, e, f⟩ E1 k1 d1 => by subst e; exact ⟨b, d1.bool_inv, q b ρ1 H1 f E1 k1⟩
theorem wt_B {te : TE} {Φ : Bool → Rho → Prop} (h : WD K S te ρ fun x ρ1 => ∃ b, x = .bool b ∧ Φ b ρ1) : WT K S (tB te) ρ Φ := fun H0 N0 Z N σ H E Q q =>
  h H0 N0 Z N σ H E _ fun u x ρ1 H1 ⟨b, e, f⟩ E1 k1 d1 => by subst e; exact ⟨b, d1.bool_inv, q b ρ1 H1 f E1 k1⟩
theorem wt_not {t : TT} {Φ : Bool → Rho → Prop} (h : WT K S t ρ fun b ρ1 => Φ (!b) ρ1) : WT K S (tNot t) ρ Φ := fun H0 N0 Z N σ H E Q q =>
  h H0 N0 Z N σ H E _ fun b ρ1 H1 f E1 k1 => q (!b) ρ1 H1 f E1 k1
theorem wt_and {t u : TT} {Φ : Bool → Rho → Prop} (h : WT K S t ρ fun b ρ1 => if b = true then WT K S u ρ1 Φ else Φ false ρ1) : WT K S (tAnd t u) ρ Φ := fun H0 N0 Z N σ H E Q q =>
  h H0 N0 Z N σ H E _ fun b ρ1 H1 f E1 k1 => by
    cases b with
    | true => exact f H0 N0 Z N σ H1 E1 _ fun b ρ2 H2 f2 E2 k2 => q b ρ2 H2 f2 E2 (k1.trans k2)
    | false => exact q false ρ1 H1 f E1 k1
theorem wt_or {t u : TT} {Φ : Bool → Rho → Prop} (h : WT K S t ρ fun b ρ1 => if b = true then Φ true ρ1 else WT K S u ρ1 Φ) : WT K S (tOr t u) ρ Φ := fun H0 N0 Z N σ H E Q q =>
  h H0 N0 Z N σ H E _ fun b ρ1 H1 f E1 k1 => by
    cases b with
    | false => exact f H0 N0 Z N σ H1 E1 _ fun b ρ2 H2 f2 E2 k2 => q b ρ2 H2 f2 E2 (k1.trans k2)
    | true => exact q true ρ1 H1 f E1 k1
theorem wd_ifE {t : TT} {ta tb : TE} (h : WT K S t ρ fun b ρ1 => if b = true then WD K S ta ρ1 Φ else WD K S tb ρ1 Φ) : WD K S (tIf t ta tb) ρ Φ := fun H0 N0 Z N σ H E Q q =>
  h H0 N0 Z N σ H E _ fun b ρ1 H1 f E1 k1 => by
    cases b with
    | true => exact f H0 N0 Z N σ H1 E1 _ fun v d ρ2 H2 f2 E2 k2 => q v d ρ2 H2 f2 E2 (k1.trans k2)
    | false => exact f H0 N0 Z N σ H1 E1 _ fun v d ρ2 H2 f2 E2 k2 => q v d ρ2 H2 f2 E2 (k1.trans k2)
/-- and, or, not of truths as values -/
theorem wd_andV {ta tb : TE} (h : WD K S ta ρ fun x ρ1 => ∃ b, x = .bool b ∧ if b = true then WD K S tb ρ1 Φ else Φ (.bool false) ρ1) : WD K S (tAndV ta tb) ρ Φ := fun H0 N0 Z N σ H E Q q =>
  h H0 N0 Z N σ H E _ fun u x ρ1 H1 ⟨b, e, f⟩ E1 k1 d1 => by
    subst e
    refine ⟨b, d1.bool_inv, ?_⟩
    cases b with
    | true => exact f H0 N0 Z N σ H1 E1 _ fun v d ρ2 H2 f2 E2 k2 => q v d ρ2 H2 f2 E2 (k1.trans k2)
    | false => exact q _ _ ρ1 H1 f E1 k1 (Dt.bl false)
theorem wd_orV {ta tb : TE} (h : WD K S ta ρ fun x ρ1 => ∃ b, x = .bool b ∧ if b = true then Φ (.bool true) ρ1 else WD K S tb ρ1 Φ) : WD K S (tOrV ta tb) ρ Φ := fun H0 N0 Z N σ H E Q q =>
  h H0 N0 Z N σ H E _ fun u x ρ1 H1 ⟨b, e, f⟩ E1 k1 d1 => by
    subst e
    refine ⟨b, d1.bool_inv, ?_⟩
    cases b with
    | false => exact f H0 N0 Z N σ H1 E1 _ fun v d ρ2 H2 f2 E2 k2 => q v d ρ2 H2 f2 E2 (k1.trans k2)
    | true => exact q _ _ ρ1 H1 f E1 k1 (Dt.bl true)
theorem wd_notV {ta : TE} (h : WD K S ta ρ fun x ρ1 => ∃ b, x = .bool b ∧ Φ (.bool !b) ρ1) : WD K S (tNotV ta) ρ Φ := fun H0 N0 Z N σ H E Q q =>
  h H0 N0 Z N σ H E _ fun u x ρ1 H1 ⟨b, e, f⟩ E1 k1 d1 => by
    subst e
    exact ⟨b, d1.bool_inv, q _ _ ρ1 H1 f E1 k1 (Dt.bl _)⟩
end
end DL

set_option Elab.async false
set_option linter.all false
set_option maxRecDepth 100000
set_option maxHeartbeats 2000000
namespace DL
open PySem L2
section
variable {K : PySem.W.Frag} {S : Stt} {H0 : Hp} {N0 : Av} {Z : List Hd} {N : Av} {σ : L2.St} {H H' : Hp} {ρ : Rho} {Φ : PyData → Rho → Prop} {Ψ : PyData → Prop}

/-! ### operations on data -/
theorem do_ii {f : Int → Int → Int} {i j : Int} (h : Ψ (.int (f i j))) : DO K (rI0 fun i j => .int (f i j)) (.int i) (.int j) Ψ := fun N H _ u w hu hw Q q => by
  cases hu; cases hw
  exact ⟨i, j, rfl, rfl, q _ _ H h (Same.refl H) (Dt.int _)⟩
theorem do_ib {f : Int → Int → Bool} {i j : Int} (h : Ψ (.bool (f i j))) : DO K (rI0 fun i j => .bl (f i j)) (.int i) (.int j) Ψ := fun N H _ u w hu hw Q q => by
  cases hu; cases hw
  exact ⟨i, j, rfl, rfl, q _ _ H h (Same.refl H) (Dt.bl _)⟩
theorem do_ic {C : Int → Int → Prop} {f : Int → Int → Int} {i j : Int} (c : C i j) (h : Ψ (.int (f i j))) : DO K (rI C fun i j => .int (f i j)) (.int i) (.int j) Ψ := fun N H _ u w hu hw Q q => by
  cases hu; cases hw
  exact ⟨i, j, rfl, rfl, c, q _ _ H h (Same.refl H) (Dt.int _)⟩
theorem du_i {f : Int → Int} {i : Int} (h : Ψ (.int (f i))) : DU K (rU fun i => .int (f i)) (.int i) Ψ := fun N H _ u hu Q q => by
  cases hu
  exact ⟨i, rfl, q _ _ H h (Same.refl H) (Dt.int _)⟩
theorem do_eqi {i j : Int} (h : Ψ (.bool (decide (i = j)))) : DO K rEq (.int i) (.int j) Ψ := fun N H _ u w hu hw Q q => by
  cases hu; cases hw
  refine ⟨rfl, ?_⟩
  have e : decide (V.int i = V.int j) = decide (i = j) := by
    by_cases e : i = j
    · subst e; simp
    · rw [decide_eq_false e, decide_eq_false (fun z => e (V.int.inj z))]
  rw [e]
  exact q _ _ H h (Same.refl H) (Dt.bl _)
theorem do_nei {i j : Int} (h : Ψ (.bool (!decide (i = j)))) : DO K rNe (.int i) (.int j) Ψ := fun N H _ u w hu hw Q q => by
  cases hu; cases hw
  refine ⟨rfl, ?_⟩
  have e : decide (V.int i = V.int j) = decide (i = j) := by
    by_cases e : i = j
    · subst e; simp
    · rw [decide_eq_false e, decide_eq_false (fun z => e (V.int.inj z))]
  rw [e]
  exact q _ _ H h (Same.refl H) (Dt.bl _)
theorem do_eqs {i j : Str} (h : Ψ (.bool (decide (i = j)))) : DO K rEq (.str i) (.str j) Ψ := fun N H _ u w hu hw Q q => by
  cases hu; cases hw
  refine ⟨rfl, ?_⟩
  have e : decide (V.str i = V.str j) = decide (i = j) := by
    by_cases e : i = j
    · subst e; simp
    · rw [decide_eq_false e, decide_eq_false (fun z => e (V.str.inj z))]
  rw [e]
  exact q _ _ H h (Same.refl H) (Dt.bl _)
theorem do_nes {i j : Str} (h : Ψ (.bool (!decide (i = j)))) : DO K rNe (.str i) (.str j) Ψ := fun N H _ u w hu hw Q q => by
  cases hu; cases hw
  refine ⟨rfl, ?_⟩
  have e : decide (V.str i = V.str j) = decide (i = j) := by
    by_cases e : i = j
    · subst e; simp
    · rw [decide_eq_false e, decide_eq_false (fun z => e (V.str.inj z))]
  rw [e]
  exact q _ _ H h (Same.refl H) (Dt.bl _)
theorem do_eqD {x y : PyData} (h1 : SeqAt.shaped x = true) (h2 : SeqAt.shaped y = true) (h : Ψ (.bool (PyData.eqv x y))) : DO K (rEqD K) x y Ψ := fun N H _ u w hu hw Q q =>
  ⟨x, y, hu.dp (shaped_nd h1), hw.dp (shaped_nd h2), h1, h2, q _ _ H h (Same.refl H) (Dt.bl _)⟩
theorem do_neD {x y : PyData} (h1 : SeqAt.shaped x = true) (h2 : SeqAt.shaped y = true) (h : Ψ (.bool (!PyData.eqv x y))) : DO K (rNeD K) x y Ψ := fun N H _ u w hu hw Q q =>
  ⟨x, y, hu.dp (shaped_nd h1), hw.dp (shaped_nd h2), h1, h2, q _ _ H h (Same.refl H) (Dt.bl _)⟩
theorem at_dq {xs : List V} {ds : List PyData} {i : Int} {d : PyData} (h : DqAll K N H xs ds) (e : atI ds i = some d) : ∃ v, atI xs i = some v ∧ Dq K N H v d := by
  unfold atI at e ⊢
  rw [h.len]
  cases q : ixN ds.length i with
  | none => rw [q] at e; cases e
  | some j => rw [q] at e; exact h.get e
theorem do_ixT {ds : List PyData} {i : Int} {d : PyData} (e : atI ds i = some d) (h : Ψ d) : DO K (rIxT K) (.tuple ds) (.int i) Ψ := fun N H _ u w hu hw Q q => by
  obtain ⟨p, xs, rfl, _, h1, h2⟩ := hu.tup_inv
  cases hw
  obtain ⟨v, h3, h4⟩ := at_dq h2 e
  exact ⟨p, xs, i, v, rfl, rfl, (by first | exact h1 | exact .inl h1), h3, q v d H h (Same.refl H) h4⟩
theorem do_ixL {ds : List PyData} {i : Int} {d : PyData} (e : atI ds i = some d) (h : Ψ d) : DO K (rIxL K) (.list ds) (.int i) Ψ := fun N H _ u w hu hw Q q => by
  obtain ⟨p, xs, rfl, _, h1, h2⟩ := hu.lst_inv
  cases hw
  obtain ⟨v, h3, h4⟩ := at_dq h2 e
  exact ⟨p, xs, i, v, rfl, rfl, (by first | exact h1 | exact .inl h1), h3, q v d H h (Same.refl H) h4⟩
/-- + of lists, locked too -/
def rCatL : R2 := fun x y H Q => ∃ a b xs zs, x = .ref a ∧ y = .ref b ∧ Rd H a (.lst xs) ∧ Rd H b (.lst zs) ∧ xs.length + zs.length ≤ sizeLine ∧ ∀ p, H p = none → Q (.ref p) (upd H p (.lst (xs ++ zs)))
theorem op_catL {X : Cx} : OpR X (binaryOp .Add) rCatL := by
  intro pins s τ G x y v u R I rx ry h
  obtain ⟨l, m, xs, zs, rfl, rfl, hL, hM, hz, k⟩ := h
  cases rx
  cases ry
  obtain ⟨z1, i1, n1, w1, g1⟩ := hL.ok I.hok
  obtain ⟨z2, i2, n2, w2, g2⟩ := hM.ok I.hok
  have e1 := w1.length
  have e2 := w2.length
  refine PySem.P.add_list g1 g2 ?_ (by simp only [List.size_toArray]; omega)
  rw [show i1.toArray ++ i2.toArray = (i1 ++ i2).toArray by simp]
  exact ⟨.ref _, _, I.lnew (t' := s.toks) (w1.append w2) (by simp only [List.length_append]; omega), rfl, k _ I.fresh⟩
theorem do_catL {xs ys : List PyData} (hz : xs.length + ys.length ≤ sizeLine) (h : Ψ (.list (xs ++ ys))) : DO K rCatL (.list xs) (.list ys) Ψ := fun N H hN u w hu hw Q q => by
  obtain ⟨p, us, rfl, _, h1, h2⟩ := hu.lst_inv
  obtain ⟨p2, ws, rfl, _, h3, h4⟩ := hw.lst_inv
  refine ⟨p, p2, us, ws, rfl, rfl, h1, h3, by rw [h2.len, h4.len]; exact hz, fun z hz => ?_⟩
  have s := same_new hz (.lst (us ++ ws))
  exact q _ _ _ h s (Dq.lst (fresh_av hN hz) upd_same ((h2.append h4).keep (Keep.of s)))

/-! ### calls of built-ins -/
theorem dc_len_l {ds : List PyData} (h : Ψ (.int ds.length)) : DC K (fun xs H Q => ∃ p ys, xs = [.ref p] ∧ (SqL K H p ys ∨ SqT K H p ys) ∧ Q (.int ys.length) H) [.list ds] Ψ := fun N H _ us hu Q q => by
  cases hu with
  | cons h1 h2 =>
    cases h2
    obtain ⟨p, xs, rfl, _, h3, h4⟩ := Dq.lst_inv h1
    exact ⟨p, xs, rfl, .inl (.inl h3), q _ _ H h (Same.refl H) (by rw [h4.len]; exact Dt.int _)⟩
theorem dc_len_t {ds : List PyData} (h : Ψ (.int ds.length)) : DC K (fun xs H Q => ∃ p ys, xs = [.ref p] ∧ (SqL K H p ys ∨ SqT K H p ys) ∧ Q (.int ys.length) H) [.tuple ds] Ψ := fun N H _ us hu Q q => by
  cases hu with
  | cons h1 h2 =>
    cases h2
    obtain ⟨p, xs, rfl, _, h3, h4⟩ := Dq.tup_inv h1
    exact ⟨p, xs, rfl, .inr h3, q _ _ H h (Same.refl H) (by rw [h4.len]; exact Dt.int _)⟩
theorem dc_gcd {a b : Int} (h : Ψ (.int (Nat.gcd a.natAbs b.natAbs : Nat))) : DC K rGcd [.int a, .int b] Ψ := fun N H _ us hu Q q => by
  cases hu with
  | cons h1 h2 =>
    cases h2 with
    | cons h2 h3 => cases h3; cases h1; cases h2; exact ⟨a, b, rfl, q _ _ H h (Same.refl H) (Dt.int _)⟩
/-- a call on one int, on two, whose answer is an int -/
theorem dc_i1 {f : Int → Int} {i : Int} (h : Ψ (.int (f i))) : DC K (fun xs H Q => ∃ i, xs = [.int i] ∧ Q (.int (f i)) H) [.int i] Ψ := fun N H _ us hu Q q => by
  cases hu with
  | cons h1 h2 => cases h2; cases h1; exact ⟨i, rfl, q _ _ H h (Same.refl H) (Dt.int _)⟩
theorem dc_i2 {f : Int → Int → Int} {i j : Int} (h : Ψ (.int (f i j))) : DC K (fun xs H Q => ∃ i j, xs = [.int i, .int j] ∧ Q (.int (f i j)) H) [.int i, .int j] Ψ := fun N H _ us hu Q q => by
  cases hu with
  | cons h1 h2 =>
    cases h2 with
    | cons h2 h3 => cases h3; cases h1; cases h2; exact ⟨i, j, rfl, q _ _ H h (Same.refl H) (Dt.int _)⟩

/-! ### statements -/
theorem WS.imp {ts : TS} {En En' : DE} (h : WS K S ts ρ En) (i : ∀ ρ, En.nx ρ → En'.nx ρ) (r : ∀ d ρ, En.rt d ρ → En'.rt d ρ) (b : ∀ ρ, En.bk ρ → En'.bk ρ) (c : ∀ ρ, En.ct ρ → En'.ct ρ) : WS K S ts ρ En' :=
  fun H0 N0 Z N σ H D E M => h H0 N0 Z N σ H D E ⟨fun N σ H ρ q => M.nx N σ H ρ (i ρ q), fun N σ H ρ v d q => M.rt N σ H ρ v d (r d ρ q), fun N σ H ρ q => M.bk N σ H ρ (b ρ q), fun N σ H ρ q => M.ct N σ H ρ (c ρ q)⟩
theorem ws_seq {t u : TS} {En : DE} (h : WS K S t ρ { En with nx := fun ρ1 => WS K S u ρ1 En }) : WS K S (tSeq t u) ρ En := fun H0 N0 Z N σ H D E M =>
  h H0 N0 Z N σ H { D with nx := u D } E ⟨fun N σ H ρ q E1 => q H0 N0 Z N σ H D E1 M, M.rt, M.bk, M.ct⟩
theorem ws_next {En : DE} (h : En.nx ρ) : WS K S tNext ρ En := fun H0 N0 Z N σ H D E M => M.nx N σ H ρ h E
theorem ws_asg {te : TE} {i : Nat} {En : DE} (h : WD K S te ρ fun d ρ1 => En.nx (ρ1.set i (.dat d))) : WS K S (tAsg te (gName i)) ρ En := fun H0 N0 Z N σ H D E M =>
  h H0 N0 Z N σ H E _ fun v d ρ1 H1 f E1 k1 d1 => M.nx N _ H1 _ f (E1.set d1)
theorem ws_ret {te : TE} {En : DE} (h : WD K S te ρ En.rt) : WS K S (tRet te) ρ En := fun H0 N0 Z N σ H D E M =>
  h H0 N0 Z N σ H E _ fun v d ρ1 H1 f E1 k1 d1 => M.rt N _ H1 _ v d f E1 (d1.le E1.base)
theorem ws_retN {En : DE} (h : En.rt .none ρ) : WS K S tRetN ρ En := fun H0 N0 Z N σ H D E M => M.rt N σ H ρ .non .none h E Dt.non
theorem ws_drop {te : TE} {En : DE} (h : WD K S te ρ fun _ ρ1 => En.nx ρ1) : WS K S (tDrop te) ρ En := fun H0 N0 Z N σ H D E M =>
  h H0 N0 Z N σ H E _ fun v d ρ1 H1 f E1 k1 d1 => M.nx N _ H1 _ f E1
theorem ws_if {c : TT} {t u : TS} {En : DE} (h : WT K S c ρ fun b ρ1 => if b = true then WS K S t ρ1 En else WS K S u ρ1 En) : WS K S (tIfS c t u) ρ En := fun H0 N0 Z N σ H D E M =>
  h H0 N0 Z N σ H E _ fun b ρ1 H1 f E1 k1 => by
    cases b with
    | true => exact f H0 N0 Z N σ H1 D E1 M
    | false => exact f H0 N0 Z N σ H1 D E1 M
theorem ws_brk {En : DE} (h : En.bk ρ) : WS K S tBreak ρ En := fun H0 N0 Z N σ H D E M => M.bk N σ H ρ h E
theorem ws_cnt {En : DE} (h : En.ct ρ) : WS K S tCont ρ En := fun H0 N0 Z N σ H D E M => M.ct N σ H ρ h E
/-- a, b = e1, e2 -/
theorem ws_par {i j : Nat} {ta : TA} {En : DE} (h : WA K S ta ρ fun ds ρ1 => ∃ x y, ds = [x, y] ∧ En.nx ((ρ1.set i (.dat x)).set j (.dat y))) : WS K S (tPar i j ta) ρ En := fun H0 N0 Z N σ H D E M =>
  h H0 N0 Z N σ H E _ fun vs ds ρ1 H1 ⟨x, y, e, f⟩ E1 k1 d1 => by
    subst e
    cases d1 with
    | cons d1 d2 =>
      cases d2 with
      | cons d2 d3 =>
        cases d3
        exact ⟨_, _, rfl, M.nx N _ H1 _ f ((E1.set d1).set d2)⟩
/-- a, b = a pair -/
theorem ws_unp2 {te : TE} {i j : Nat} {En : DE} (h : WD K S te ρ fun d ρ1 => ∃ x y, d = .tuple [x, y] ∧ En.nx ((ρ1.set i (.dat x)).set j (.dat y))) : WS K S (tAsg te (gTup K 2 (gCons (gName i) (gCons (gName j) gNil)))) ρ En := fun H0 N0 Z N σ H D E M =>
  h H0 N0 Z N σ H E _ fun v d ρ1 H1 ⟨x, y, e, f⟩ E1 k1 d1 => by
    subst e
    obtain ⟨p, xs, rfl, _, h1, h2⟩ := d1.tup_inv
    cases h2 with
    | cons a1 a2 =>
      cases a2 with
      | cons a2 a3 =>
        cases a3
        exact ⟨p, _, rfl, h1, rfl, _, _, rfl, _, _, rfl, rfl, M.nx N _ H1 _ f ((E1.set a1).set a2)⟩

/-! ### lists of one's own -/
theorem EnvD.new (E : EnvD K S H0 N0 Z N σ H ρ) {i : Nat} {p : Addr} {xs : List V} {ds : List PyData} (hp : H p = none) (hp0 : H0 p = none) (n0 : N0 p = false) (hd : DqAll K N H xs ds) :
    EnvD K S H0 N0 Z (fun b => N b || decide (b = p)) (σ.set i (some (.ref p))) (upd H p (.lst xs)) (ρ.set i (.own ds)) := by
  have np : N p = false := fresh_av E.trk hp
  have sp : S.fp p = false := by
    cases e : S.fp p with
    | false => rfl
    | true => rw [E.sub p e] at np; cases np
  have s := same_new hp (.lst xs)
  have kw : Same (wo N H) (wo (fun b => N b || decide (b = p)) (upd H p (.lst xs))) := fun b o h => by
    obtain ⟨n, h⟩ := wo_some h
    have hb : b ≠ p := ne_of_none h hp
    rw [wo_in (by simp [n, hb])]
    exact s b o h
  have dk : ∀ {v : V} {d : PyData}, Dq K N H v d → Dq K (fun b => N b || decide (b = p)) (upd H p (.lst xs)) v d := fun h => dp_mono kw _ _ h
  have dka : ∀ {v : List V} {d : List PyData}, DqAll K N H v d → DqAll K (fun b => N b || decide (b = p)) (upd H p (.lst xs)) v d := fun h => dpall_mono kw _ _ h
  have nq : ∀ {q : Addr} {ys : List V}, H q = some (.lst ys) → q ≠ p := fun h => ne_of_none h hp
  have le : ∀ b, N b = true → (N b || decide (b = p)) = true := fun b h => by rw [h]; rfl
  have old : ∀ {s : Sl} {j : Nat}, SlOk K S H0 N0 N σ H j s → SlOk K S H0 N0 (fun b => N b || decide (b = p)) σ (upd H p (.lst xs)) j s := fun {t j} h => by
    cases t with
    | unk => trivial
    | dat d => obtain ⟨v, h1, h2⟩ := h; exact ⟨v, h1, dk h2⟩
    | own es => obtain ⟨q, ys, h1, h2, h3, h4, h5, h6, h7⟩ := h; exact ⟨q, ys, h1, le q h2, h3, h4, h5, s _ _ h6, dka h7⟩
    | sto B =>
      obtain ⟨h1, h2⟩ := h
      exact ⟨h1, S.loc H _ B (fun b hb => upd_ne fun e => by rw [e, sp] at hb; cases hb) h2⟩
    | scr ns => obtain ⟨a, h1, h2⟩ := h; exact ⟨a, h1, kw.seq h2⟩
  refine ⟨fun b o n h => s b o (E.keep b o n h), fun b h => le b (E.base b h), fun b h => ?_, fun b h => le b (E.sub b h), fun j t h => ?_, by rw [List.length_set, List.length_set]; exact E.len, fun z h => ?_, fun a da dj q ha h1 hz => ?_, E.injZ, fun a b da db q ha hb h1 h2 => ?_⟩
  · by_cases e : b = p
    · subst e; rw [upd_same]; simp
    · have n : N b = true := by simpa [e] using h
      rw [upd_ne e]; exact E.trk b n
  · rcases get_set h with ⟨e, e2⟩ | ⟨e, h⟩
    · subst e; subst e2
      have hi : i < σ.length := by
        have := (List.getElem?_eq_some_iff.mp h).1
        rw [List.length_set] at this
        rw [← E.len]; exact this
      exact ⟨p, xs, set_eq hi, by simp, sp, n0, hp0, upd_same, dka hd⟩
    · exact (old (E.slot j t h)).other e
  · cases z with
    | dat v d => exact dk (E.hid _ h)
    | own q es =>
      obtain ⟨ys, h2, h3, h4, h5, h6, h7⟩ := E.hid _ h
      exact ⟨ys, le q h2, h3, h4, h5, s _ _ h6, dka h7⟩
  · rcases get_set ha with ⟨e, e2⟩ | ⟨e, ha⟩
    · subst e
      have hi : i < σ.length := by
        have := (List.getElem?_eq_some_iff.mp h1).1
        rwa [List.length_set] at this
      rw [set_eq hi] at h1
      cases h1
      obtain ⟨ys, h2, h3, h4, h5, h6, h7⟩ := E.hid _ hz
      exact nq h6 rfl
    · rw [set_ne e] at h1
      exact E.injH a da dj q ha h1 hz
  · have own : ∀ {c : Nat} {dc : List PyData} {q : Addr}, ρ[c]? = some (.own dc) → σ[c]? = some (some (V.ref q)) → q ≠ p := fun {c dc q} h1 h2 => by
      obtain ⟨q', ys, g1, g2, g3, g4, g5, g6, g7⟩ := E.slot c _ h1
      rw [g1] at h2; cases h2
      exact nq g6
    have fresh : ∀ {q : Addr}, (σ.set i (some (V.ref p)))[i]? = some (some (V.ref q)) → q = p := fun {q} h => by
      have hi : i < σ.length := by
        have := (List.getElem?_eq_some_iff.mp h).1
        rwa [List.length_set] at this
      rw [set_eq hi] at h; cases h; rfl
    rcases get_set ha with ⟨ea, e2⟩ | ⟨ea, ha⟩
    · rcases get_set hb with ⟨eb, e3⟩ | ⟨eb, hb⟩
      · exact ea.symm.trans eb
      · subst ea
        rw [set_ne eb] at h2
        exact absurd (fresh h1) (own hb h2)
    · rcases get_set hb with ⟨eb, e3⟩ | ⟨eb, hb⟩
      · subst eb
        rw [set_ne ea] at h1
        exact absurd (fresh h2) (own ha h1)
      · rw [set_ne ea] at h1
        rw [set_ne eb] at h2
        exact E.inj a b da db q ha hb h1 h2
end
end DL

set_option Elab.async false
set_option linter.all false
set_option maxRecDepth 100000
set_option maxHeartbeats 2000000
namespace DL
open PySem L2
section
variable {K : PySem.W.Frag} {S : Stt} {H0 : Hp} {N0 : Av} {Z : List Hd} {N : Av} {σ : L2.St} {H H' : Hp} {ρ : Rho} {Φ : PyData → Rho → Prop} {Ψ : PyData → Prop}

theorem free0 (E : EnvD K S H0 N0 Z N σ H ρ) {p : Addr} (hp : H p = none) : H0 p = none ∧ N0 p = false := by
  have np : N p = false := fresh_av E.trk hp
  have sp : S.fp p = false := by
    cases e : S.fp p with
    | false => rfl
    | true => rw [E.sub p e] at np; cases np
  constructor
  · cases e : H0 p with
    | none => rfl
    | some o => rw [E.keep p o sp e] at hp; cases hp
  · cases e : N0 p with
    | false => rfl
    | true => rw [E.base p e] at np; cases np
/-- x = [..], a list that will be filled -/
theorem ws_own {ta : TA} {i : Nat} {En : DE} (h : WA K S ta ρ fun ds ρ1 => ds.length ≤ sizeLine ∧ En.nx (ρ1.set i (.own ds))) : WS K S (tAsg (tLst ta) (gName i)) ρ En := fun H0 N0 Z N σ H D E M =>
  h H0 N0 Z N σ H E _ fun vs ds ρ1 H1 f E1 k1 d1 => ⟨by rw [d1.len]; exact f.1, fun p hp => by
    obtain ⟨z1, z2⟩ := free0 E1 hp
    exact M.nx _ _ _ _ f.2 (E1.new hp z1 z2 d1)⟩
/-- an own list's content changes, at p -/
theorem EnvD.chg (E : EnvD K S H0 N0 Z N σ H ρ) {p : Addr} {xs ys : List V} {i : Nat} {ds es : List PyData} (hi : ρ[i]? = some (.own ds)) (hs : σ[i]? = some (some (.ref p))) (hq : DqAll K N H ys es) :
    EnvD K S H0 N0 Z N σ (upd H p (.lst ys)) (ρ.set i (.own es)) := by
  obtain ⟨p', xs', g1, g2, g3, g4, g5, g6, g7⟩ := E.slot i _ hi
  rw [g1] at hs; cases hs
  have kp : ∀ b o, b ≠ p → H b = some o → upd H p (.lst ys) b = some o := fun b o hb h => by rw [upd_ne hb]; exact h
  have kn : Keep N H (upd H p (.lst ys)) := fun b o n h => kp b o (fun e => by rw [e, g2] at n; cases n) h
  have il : i < ρ.length := (List.getElem?_eq_some_iff.mp hi).1
  refine ⟨fun b o n h => kp b o (fun e => by rw [e, g5] at h; cases h) (E.keep b o n h), E.base, fun b h => ?_, E.sub, fun j t h => ?_, by rw [List.length_set]; exact E.len, fun z h => ?_, fun a da dj q ha h1 hz => ?_, E.injZ, fun a b da db q ha hb h1 h2 => ?_⟩
  · by_cases e : b = p
    · rw [e, upd_same]; simp
    · rw [upd_ne e]; exact E.trk b h
  · rcases get_set h with ⟨e, e2⟩ | ⟨e, h⟩
    · subst e; subst e2
      exact ⟨p, ys, g1, g2, g3, g4, g5, upd_same, hq.keep kn⟩
    · have q := E.slot j t h
      cases t with
      | unk => trivial
      | dat d => obtain ⟨v, h1, h2⟩ := q; exact ⟨v, h1, h2.keep kn⟩
      | own us =>
        obtain ⟨q, zs, h1, h2, h3, h4, h5, h6, h7⟩ := q
        have hne : q ≠ p := fun e2 => by subst e2; exact e (E.inj i j _ _ _ hi h g1 h1)
        exact ⟨q, zs, h1, h2, h3, h4, h5, kp _ _ hne h6, h7.keep kn⟩
      | sto B => obtain ⟨h1, h2⟩ := q; exact ⟨h1, S.loc H _ B (fun b hb => upd_ne fun e => by rw [e, g3] at hb; cases hb) h2⟩
      | scr ns => obtain ⟨a, h1, h2⟩ := q; exact ⟨a, h1, kn.wo.seq h2⟩
  · have q := E.hid z h
    cases z with
    | dat v d => exact Dq.keep q kn
    | own q' zs =>
      obtain ⟨us, h2, h3, h4, h5, h6, h7⟩ := q
      have hne : q' ≠ p := fun e2 => by subst e2; exact E.injH i _ _ _ hi g1 h
      exact ⟨us, h2, h3, h4, h5, kp _ _ hne h6, h7.keep kn⟩
  · rcases get_set ha with ⟨e, e2⟩ | ⟨e, ha⟩
    · subst e
      exact E.injH i _ dj q hi h1 hz
    · exact E.injH a da dj q ha h1 hz
  · have low : ∀ {c : Nat} {dc : List PyData}, (ρ.set i (.own es))[c]? = some (Sl.own dc) → ∃ dc', ρ[c]? = some (Sl.own dc') := fun {c dc} hc => by
      rcases get_set hc with ⟨e, _⟩ | ⟨_, hc⟩
      · subst e; exact ⟨_, hi⟩
      · exact ⟨_, hc⟩
    obtain ⟨da', ha'⟩ := low ha
    obtain ⟨db', hb'⟩ := low hb
    exact E.inj a b _ _ q ha' hb' h1 h2
/-- x.append(e), x a list of one's own -/
theorem ws_append {te : TE} {i : Nat} {es : List PyData} {En : DE} (h0 : ρ[i]? = some (.own es))
    (h : WD K S te ρ fun d ρ1 => ∃ ds, ρ1[i]? = some (.own ds) ∧ ds.length < sizeLine ∧ En.nx (ρ1.set i (.own (ds ++ [d])))) : WS K S (tDrop (tBM K "list" rAppend (tVar i) (tCons te tNil))) ρ En := fun H0 N0 Z N σ H D E M => by
  obtain ⟨p, xs, g1, g2, g3, g4, g5, g6, g7⟩ := E.slot i _ h0
  refine ⟨.ref p, g1, .inl ⟨rfl, _, .inl (.inl g6)⟩, h H0 N0 Z N σ H E _ fun v d ρ1 H1 ⟨ds, f1, f2, f3⟩ E1 k1 d1 => ?_⟩
  obtain ⟨p', xs', e1, e2, e3, e4, e5, e6, e7⟩ := E1.slot i _ f1
  rw [g1] at e1; cases e1
  exact ⟨p, xs', v, rfl, rfl, e6, by rw [e7.len]; exact f2, M.nx N _ _ _ f3 (E1.chg (xs := xs') f1 g1 (e7.append (DqAll.cons d1 DqAll.nil)))⟩
/-- a list of one's own, filled, is data -/
theorem EnvD.frz (E : EnvD K S H0 N0 Z N σ H ρ) {i : Nat} {ds : List PyData} (hi : ρ[i]? = some (.own ds)) : ∃ N', EnvD K S H0 N0 Z N' σ H (ρ.set i (.dat (.list ds))) := by
  obtain ⟨p, xs, g1, g2, g3, g4, g5, g6, g7⟩ := E.slot i _ hi
  have le : Le (fun b => N b && !decide (b = p)) N := fun b h => by simp at h; exact h.1
  have ne : ∀ {q : Addr}, q ≠ p → N q = true → (N q && !decide (q = p)) = true := fun h n => by simp [h, n]
  have il : i < ρ.length := (List.getElem?_eq_some_iff.mp hi).1
  refine ⟨fun b => N b && !decide (b = p), E.keep, fun b h => ne (fun e => by rw [e, g4] at h; cases h) (E.base b h), fun b h => E.trk b (le b h), fun b h => ne (fun e => by rw [e, g3] at h; cases h) (E.sub b h), fun j t h => ?_, by rw [List.length_set]; exact E.len, fun z h => ?_, fun a da dj q ha h1 hz => ?_, E.injZ, fun a b da db q ha hb h1 h2 => ?_⟩
  · rcases get_set h with ⟨e, e2⟩ | ⟨e, h⟩
    · subst e; subst e2
      exact ⟨.ref p, g1, Dq.lst (by simp) g6 (g7.le le)⟩
    · have q := E.slot j t h
      cases t with
      | unk => trivial
      | dat d => obtain ⟨v, h1, h2⟩ := q; exact ⟨v, h1, h2.le le⟩
      | own us =>
        obtain ⟨q, zs, h1, h2, h3, h4, h5, h6, h7⟩ := q
        have hne : q ≠ p := fun e2 => by subst e2; exact e (E.inj i j _ _ _ hi h g1 h1)
        exact ⟨q, zs, h1, ne hne h2, h3, h4, h5, h6, h7.le le⟩
      | sto B => exact q
      | scr ns => obtain ⟨a, h1, h2⟩ := q; exact ⟨a, h1, le.wo.seq h2⟩
  · have q := E.hid z h
    cases z with
    | dat v d => exact Dq.le q le
    | own q' zs =>
      obtain ⟨us, h2, h3, h4, h5, h6, h7⟩ := q
      have hne : q' ≠ p := fun e2 => by subst e2; exact E.injH i _ _ _ hi g1 h
      exact ⟨us, ne hne h2, h3, h4, h5, h6, h7.le le⟩
  · rcases get_set ha with ⟨e, e2⟩ | ⟨e, ha⟩
    · cases e2
    · exact E.injH a da dj q ha h1 hz
  · rcases get_set ha with ⟨e, e2⟩ | ⟨ea, ha⟩
    · cases e2
    · rcases get_set hb with ⟨e, e2⟩ | ⟨eb, hb⟩
      · cases e2
      · exact E.inj a b da db q ha hb h1 h2
theorem ws_frz {ts : TS} {i : Nat} {ds : List PyData} {En : DE} (hi : ρ[i]? = some (.own ds)) (h : WS K S ts (ρ.set i (.dat (.list ds))) En) : WS K S ts ρ En := fun H0 N0 Z N σ H D E M => by
  obtain ⟨N', E'⟩ := E.frz hi
  exact h H0 N0 Z N' σ H D E' M
theorem ws_fgt {ts : TS} {ρ' : Rho} {En : DE} (f : Fgt ρ ρ') (h : WS K S ts ρ' En) : WS K S ts ρ En := fun H0 N0 Z N σ H D E M => h H0 N0 Z N σ H D (E.fgt f) M

/-! ### loops -/
theorem EnvD.push (E : EnvD K S H0 N0 Z N σ H ρ) {v : V} {d : PyData} (h : Dq K N H v d) : EnvD K S H0 N0 (.dat v d :: Z) N σ H ρ where
  keep := E.keep
  base := E.base
  trk := E.trk
  sub := E.sub
  slot := E.slot
  len := E.len
  hid z hz := by
    rcases List.mem_cons.mp hz with e | hz
    · subst e; exact h
    · exact E.hid z hz
  injH i di dj p h1 h2 hz := by
    rcases List.mem_cons.mp hz with e | hz
    · cases e
    · exact E.injH i di dj p h1 h2 hz
  injZ i j di dj p h1 h2 := by
    cases i with
    | zero => simp at h1
    | succ i =>
      cases j with
      | zero => simp at h2
      | succ j => exact congrArg (· + 1) (E.injZ i j di dj p (by simpa using h1) (by simpa using h2))
  inj := E.inj
theorem EnvD.pop {z : Hd} (E : EnvD K S H0 N0 (z :: Z) N σ H ρ) : EnvD K S H0 N0 Z N σ H ρ where
  keep := E.keep
  base := E.base
  trk := E.trk
  sub := E.sub
  slot := E.slot
  len := E.len
  hid z hz := E.hid z (List.mem_cons_of_mem _ hz)
  injH i di dj p h1 h2 hz := E.injH i di dj p h1 h2 (List.mem_cons_of_mem _ hz)
  injZ i j di dj p h1 h2 := Nat.succ.inj (E.injZ (i + 1) (j + 1) di dj p (by simpa using h1) (by simpa using h2))
  inj := E.inj
/-- for x in a list: I, what holds behind k turns -/
theorem ws_forL {tl : TE} {i : Nat} {tb : TS} {En : DE} (h : WD K S tl ρ fun d ρ1 => ∃ ds, d = .list ds ∧ ∃ I : Nat → Rho → Prop, I 0 ρ1 ∧
      (∀ k d ρ2, ds[k]? = some d → I k ρ2 → WS K S tb (ρ2.set i (.dat d)) { nx := I (k + 1), rt := En.rt, bk := En.nx, ct := I (k + 1) }) ∧ (∀ ρ2, I ds.length ρ2 → En.nx ρ2)) :
    WS K S (tFor (iList K tl) (gName i) tb) ρ En := fun H0 N0 Z N σ H D E M =>
  h H0 N0 Z N σ H E _ fun v d ρ1 H1 ⟨ds, e, I, i0, step, fin⟩ E1 k1 d1 => by
    subst e
    obtain ⟨p, xs, rfl, hw, hr, ha⟩ := d1.lst_inv
    refine ⟨p, rfl, ⟨xs, .inl hr⟩, fun k m σ' H' => ∃ N' ρ', EnvD K S H0 N0 (.dat (.ref p) (.list ds) :: Z) N' σ' H' ρ' ∧ I k ρ' ∧ m = ds.length - k ∧ k ≤ ds.length, ⟨_, N, ρ1, E1.push d1, i0, rfl, Nat.zero_le _⟩, ?_⟩
    rintro k m σ' H' ⟨N', ρ', E', iv, rfl, hk⟩
    have hd : Dq K N' H' (.ref p) (.list ds) := E'.hid _ List.mem_cons_self
    obtain ⟨p', ys, ep, _, hr', ha'⟩ := hd.lst_inv
    cases ep
    by_cases hlt : k < ds.length
    · obtain ⟨y, hy, hyd⟩ := ha'.get (List.getElem?_eq_getElem hlt)
      refine .inr ⟨⟨ys, y, .inl hr', hy⟩, fun σ2 H2 => ∃ N2 ρ2, EnvD K S H0 N0 (.dat (.ref p) (.list ds) :: Z) N2 σ2 H2 ρ2 ∧ I (k + 1) ρ2, fun σ2 H2 ⟨N2, ρ2, E2, iv2⟩ => ⟨ds.length - (k + 1), by omega, N2, ρ2, E2, iv2, rfl, hlt⟩, fun x H2 ⟨e1, e2⟩ => ?_⟩
      subst e1
      have ex : x = y := Option.some.inj ((e2 ys (.inl hr')).symm.trans hy)
      subst ex
      exact step k _ ρ' (List.getElem?_eq_getElem hlt) iv H0 N0 _ N' _ _ _ (E'.set hyd) ⟨fun N2 σ2 H2 ρ2 q E2 => ⟨N2, ρ2, E2, q⟩, fun N2 σ2 H2 ρ2 v d q E2 => M.rt N2 σ2 H2 ρ2 v d q E2.pop, fun N2 σ2 H2 ρ2 q E2 => M.nx N2 σ2 H2 ρ2 q E2.pop, fun N2 σ2 H2 ρ2 q E2 => ⟨N2, ρ2, E2, q⟩⟩
    · have ek : k = ds.length := by omega
      subst ek
      exact .inl ⟨⟨ys, .inl hr', by rw [ha'.len]; exact Nat.le_refl _⟩, M.nx N' σ' H' ρ' (fin ρ' iv) E'.pop⟩
/-- for x in a tuple -/
theorem ws_forT {tl : TE} {i : Nat} {tb : TS} {En : DE} (h : WD K S tl ρ fun d ρ1 => ∃ ds, d = .tuple ds ∧ ∃ I : Nat → Rho → Prop, I 0 ρ1 ∧
      (∀ k d ρ2, ds[k]? = some d → I k ρ2 → WS K S tb (ρ2.set i (.dat d)) { nx := I (k + 1), rt := En.rt, bk := En.nx, ct := I (k + 1) }) ∧ (∀ ρ2, I ds.length ρ2 → En.nx ρ2)) :
    WS K S (tFor (iTup K tl) (gName i) tb) ρ En := fun H0 N0 Z N σ H D E M =>
  h H0 N0 Z N σ H E _ fun v d ρ1 H1 ⟨ds, e, I, i0, step, fin⟩ E1 k1 d1 => by
    subst e
    obtain ⟨p, xs, rfl, hw, hr, ha⟩ := d1.tup_inv
    refine ⟨p, rfl, ⟨xs, hr⟩, fun k m σ' H' => ∃ N' ρ', EnvD K S H0 N0 (.dat (.ref p) (.tuple ds) :: Z) N' σ' H' ρ' ∧ I k ρ' ∧ m = ds.length - k ∧ k ≤ ds.length, ⟨_, N, ρ1, E1.push d1, i0, rfl, Nat.zero_le _⟩, ?_⟩
    rintro k m σ' H' ⟨N', ρ', E', iv, rfl, hk⟩
    have hd : Dq K N' H' (.ref p) (.tuple ds) := E'.hid _ List.mem_cons_self
    obtain ⟨p', ys, ep, _, hr', ha'⟩ := hd.tup_inv
    cases ep
    by_cases hlt : k < ds.length
    · obtain ⟨y, hy, hyd⟩ := ha'.get (List.getElem?_eq_getElem hlt)
      refine .inr ⟨⟨ys, y, hr', hy⟩, fun σ2 H2 => ∃ N2 ρ2, EnvD K S H0 N0 (.dat (.ref p) (.tuple ds) :: Z) N2 σ2 H2 ρ2 ∧ I (k + 1) ρ2, fun σ2 H2 ⟨N2, ρ2, E2, iv2⟩ => ⟨ds.length - (k + 1), by omega, N2, ρ2, E2, iv2, rfl, hlt⟩, fun x H2 ⟨e1, e2⟩ => ?_⟩
      subst e1
      have ex : x = y := Option.some.inj ((e2 ys hr').symm.trans hy)
      subst ex
      exact step k _ ρ' (List.getElem?_eq_getElem hlt) iv H0 N0 _ N' _ _ _ (E'.set hyd) ⟨fun N2 σ2 H2 ρ2 q E2 => ⟨N2, ρ2, E2, q⟩, fun N2 σ2 H2 ρ2 v d q E2 => M.rt N2 σ2 H2 ρ2 v d q E2.pop, fun N2 σ2 H2 ρ2 q E2 => M.nx N2 σ2 H2 ρ2 q E2.pop, fun N2 σ2 H2 ρ2 q E2 => ⟨N2, ρ2, E2, q⟩⟩
    · have ek : k = ds.length := by omega
      subst ek
      exact .inl ⟨⟨ys, hr', by rw [ha'.len]; exact Nat.le_refl _⟩, M.nx N' σ' H' ρ' (fin ρ' iv) E'.pop⟩
/-- for k in range(n), range(lo, hi) -/
theorem ws_forR {ta : TA} {i : Nat} {tb : TS} {En : DE} (h : WA K S ta ρ fun ds ρ1 => ∃ n : Int, ds = [.int n] ∧ -(2 ^ 62) ≤ n ∧ n < 2 ^ 62 ∧ ∃ I : Nat → Rho → Prop, I 0 ρ1 ∧
      (∀ (k : Nat) ρ2, (k : Int) < n → I k ρ2 → WS K S tb (ρ2.set i (.dat (.int k))) { nx := I (k + 1), rt := En.rt, bk := En.nx, ct := I (k + 1) }) ∧ (∀ ρ2, I n.toNat ρ2 → En.nx ρ2)) :
    WS K S (tFor (iRng1 ta) (gName i) tb) ρ En := fun H0 N0 Z N σ H D E M =>
  h H0 N0 Z N σ H E _ fun vs ds ρ1 H1 ⟨n, e, b1, b2, I, i0, step, fin⟩ E1 k1 d1 => by
    subst e
    cases d1 with
    | cons a1 a2 =>
      cases a2
      cases a1
      refine ⟨n, rfl, b1, b2, for_range (lo := 0) (n := n.toNat) (fun k σ' H' => ∃ N' ρ', EnvD K S H0 N0 Z N' σ' H' ρ' ∧ I k ρ') ⟨N, ρ1, E1, i0⟩ (fun k σ' H' hk ⟨N', ρ', E', iv⟩ => ?_) (fun σ' H' ⟨N', ρ', E', iv⟩ => M.nx N' σ' H' ρ' (fin ρ' iv) E')⟩
      have z : Dq K N' H' (.int (0 + (k : Int))) (.int k) := by rw [Int.zero_add]; exact Dt.int _
      exact step k ρ' (by omega) iv H0 N0 Z N' _ _ _ (E'.set z) ⟨fun N2 σ2 H2 ρ2 q E2 => ⟨N2, ρ2, E2, q⟩, M.rt, M.nx, fun N2 σ2 H2 ρ2 q E2 => ⟨N2, ρ2, E2, q⟩⟩
theorem ws_forR2 {ta : TA} {i : Nat} {tb : TS} {En : DE} (h : WA K S ta ρ fun ds ρ1 => ∃ lo n : Int, ds = [.int lo, .int n] ∧ (-(2 ^ 62) ≤ lo ∧ lo < 2 ^ 62 ∧ -(2 ^ 62) ≤ n ∧ n < 2 ^ 62) ∧ ∃ I : Nat → Rho → Prop, I 0 ρ1 ∧
      (∀ (k : Nat) ρ2, lo + (k : Int) < n → I k ρ2 → WS K S tb (ρ2.set i (.dat (.int (lo + k)))) { nx := I (k + 1), rt := En.rt, bk := En.nx, ct := I (k + 1) }) ∧ (∀ ρ2, I (n - lo).toNat ρ2 → En.nx ρ2)) :
    WS K S (tFor (iRng2 ta) (gName i) tb) ρ En := fun H0 N0 Z N σ H D E M =>
  h H0 N0 Z N σ H E _ fun vs ds ρ1 H1 ⟨lo, n, e, b, I, i0, step, fin⟩ E1 k1 d1 => by
    subst e
    cases d1 with
    | cons a1 a2 =>
      cases a2 with
      | cons a2 a3 =>
        cases a3
        cases a1
        cases a2
        refine ⟨lo, n, rfl, b, for_range (lo := lo) (n := (n - lo).toNat) (fun k σ' H' => ∃ N' ρ', EnvD K S H0 N0 Z N' σ' H' ρ' ∧ I k ρ') ⟨N, ρ1, E1, i0⟩ (fun k σ' H' hk ⟨N', ρ', E', iv⟩ => ?_) (fun σ' H' ⟨N', ρ', E', iv⟩ => M.nx N' σ' H' ρ' (fin ρ' iv) E')⟩
        exact step k ρ' (by omega) iv H0 N0 Z N' _ _ _ (E'.set (Dt.int _)) ⟨fun N2 σ2 H2 ρ2 q E2 => ⟨N2, ρ2, E2, q⟩, M.rt, M.nx, fun N2 σ2 H2 ρ2 q E2 => ⟨N2, ρ2, E2, q⟩⟩
/-- while, by a word with a measure -/
theorem ws_while {c : TT} {tb : TS} {En : DE} (I : Nat → Rho → Prop) (m0 : Nat) (i0 : I m0 ρ)
    (turn : ∀ m ρ1, I m ρ1 → WT K S c ρ1 fun b ρ2 => if b = true then WS K S tb ρ2 { nx := fun ρ3 => ∃ m', m' < m ∧ I m' ρ3, rt := En.rt, bk := En.nx, ct := fun ρ3 => ∃ m', m' < m ∧ I m' ρ3 } else En.nx ρ2) :
    WS K S (tWhile c tb) ρ En := fun H0 N0 Z N σ H D E M => by
  refine ⟨fun m σ' H' => ∃ N' ρ', EnvD K S H0 N0 Z N' σ' H' ρ' ∧ I m ρ', ⟨m0, N, ρ, E, i0⟩, ?_⟩
  rintro m σ' H' ⟨N', ρ', E', iv⟩
  refine turn m ρ' iv H0 N0 Z N' σ' H' E' _ fun b ρ2 H2 f E2 k2 => ?_
  cases b with
  | true => exact ⟨fun σ3 H3 => ∃ m', m' < m ∧ ∃ N3 ρ3, EnvD K S H0 N0 Z N3 σ3 H3 ρ3 ∧ I m' ρ3, fun σ3 H3 ⟨m', l, w⟩ => ⟨m', l, w⟩, f H0 N0 Z N' σ' H2 _ E2 ⟨fun N3 σ3 H3 ρ3 ⟨m', l, w⟩ E3 => ⟨m', l, N3, ρ3, E3, w⟩, M.rt, M.nx, fun N3 σ3 H3 ρ3 ⟨m', l, w⟩ E3 => ⟨m', l, N3, ρ3, E3, w⟩⟩⟩
  | false => exact M.nx N' σ' H2 ρ2 f E2

/-! ### comprehensions -/
def wipeR (ρ : Rho) : List Nat → Rho
  | [] => ρ
  | v :: vs => (wipeR ρ vs).set v .unk
theorem EnvD.wipe (E : EnvD K S H0 N0 Z N σ H ρ) : ∀ vs : List Nat, EnvD K S H0 N0 Z N (L2.wipe σ vs) H (wipeR ρ vs)
  | [] => E
  | v :: vs => (E.wipe vs).unset
/-- behind a comprehension: the names as ahead of it -/
theorem EnvD.unwipe : ∀ {vs : List Nat} {σ : L2.St} {ρ : Rho}, EnvD K S H0 N0 Z N (L2.wipe σ vs) H ρ → EnvD K S H0 N0 Z N σ H (wipeR ρ vs)
  | [], _, _, E => E
  | v :: vs, σ, ρ, E => by
    have e : EnvD K S H0 N0 Z N ((L2.wipe σ vs).set v none) H ρ := E
    by_cases hv : v < (L2.wipe σ vs).length
    · have e2 := e.unset (i := v) (u := (L2.wipe σ vs)[v])
      rw [List.set_set, List.set_getElem_self] at e2
      have e3 := EnvD.unwipe e2
      have cm : ∀ (us : List Nat) (r : Rho), wipeR (r.set v .unk) us = (wipeR r us).set v .unk := fun us => by
        induction us with
        | nil => intro r; rfl
        | cons u us ih =>
          intro r
          show (wipeR (r.set v .unk) us).set u .unk = ((wipeR r us).set u .unk).set v .unk
          rw [ih]
          by_cases huv : u = v
          · subst huv; rfl
          · exact List.set_comm _ _ (fun q => huv q.symm)
      rw [cm] at e3
      exact e3
    · rw [List.set_eq_of_length_le (by omega)] at e
      have e3 := EnvD.unwipe e
      show EnvD K S H0 N0 Z N σ H ((wipeR ρ vs).set v .unk)
      exact e3.fgt ⟨by rw [List.length_set], fun j s h => by
        rcases get_set h with ⟨_, q⟩ | ⟨_, q⟩
        · exact .inl q
        · exact .inr q⟩
end
end DL

set_option Elab.async false
set_option linter.all false
set_option maxRecDepth 100000
set_option maxHeartbeats 2000000
namespace DL
open PySem L2
/-- what a for walks, as data: hidden things Zx keep it, ds are its items -/
def Src (K : PySem.W.Frag) (J : It) (Zx : List Hd) (ds : List PyData) : Prop :=
  ∀ S H0 N0 Z N σ H ρ, EnvD K S H0 N0 (Zx ++ Z) N σ H ρ → (∀ k d, ds[k]? = some d → J.go k H ∧ ∀ x H', J.yld k H x H' → Same H H' ∧ Dq K N H' x d) ∧ J.stop ds.length H
def WI (K : PySem.W.Frag) (S : Stt) (wi : TI) (ρ : Rho) (Θ : List PyData → Rho → Prop) : Prop :=
  ∀ H0 N0 Z N σ H, EnvD K S H0 N0 Z N σ H ρ → ∀ R : It → Hp → Prop, (∀ J Zx ds ρ' H', Θ ds ρ' → Src K J Zx ds → (∀ p es, Hd.own p es ∉ Zx) → EnvD K S H0 N0 (Zx ++ Z) N σ H' ρ' → Keep N H H' → R J H') → wi σ H R
/-- a target takes a datum -/
def GD (K : PySem.W.Frag) (g : TG) (d : PyData) (ts : List Nat) (f : Rho → Rho) : Prop :=
  ∀ S H0 N0 Z N σ H ρ x, EnvD K S H0 N0 Z N σ H ρ → Dq K N H x d → ∀ Q : L2.St → Hp → Prop, (∀ σ', EnvD K S H0 N0 Z N σ' H (f ρ) → σ'.length = σ.length → (∀ j, j ∉ ts → σ'[j]? = σ[j]?) → Q σ' H) → g x σ H Q
section
variable {K : PySem.W.Frag} {S : Stt} {H0 : Hp} {N0 : Av} {Z : List Hd} {N : Av} {σ : L2.St} {H H' : Hp} {ρ : Rho} {Φ : PyData → Rho → Prop} {Ψ : PyData → Prop}

theorem EnvD.popn : ∀ {Zx : List Hd}, EnvD K S H0 N0 (Zx ++ Z) N σ H ρ → EnvD K S H0 N0 Z N σ H ρ
  | [], E => E
  | _ :: _, E => EnvD.popn E.pop
theorem src_list {a : Addr} {ds : List PyData} : Src K (Itl K a) [.dat (.ref a) (.list ds)] ds := fun S H0 N0 Z N σ H ρ E => by
  obtain ⟨p, xs, e, _, hr, ha⟩ := Dq.lst_inv (E.hid _ List.mem_cons_self)
  cases e
  refine ⟨fun k d hd => ?_, xs, .inl hr, by rw [ha.len]; exact Nat.le_refl _⟩
  obtain ⟨y, hy, hyd⟩ := ha.get hd
  refine ⟨⟨xs, y, .inl hr, hy⟩, fun x H' ⟨e1, e2⟩ => ?_⟩
  subst e1
  have ex : x = y := Option.some.inj ((e2 xs (.inl hr)).symm.trans hy)
  subst ex
  exact ⟨Same.refl _, hyd⟩
theorem src_tup {a : Addr} {ds : List PyData} : Src K (Itt K a) [.dat (.ref a) (.tuple ds)] ds := fun S H0 N0 Z N σ H ρ E => by
  obtain ⟨p, xs, e, _, hr, ha⟩ := Dq.tup_inv (E.hid _ List.mem_cons_self)
  cases e
  refine ⟨fun k d hd => ?_, xs, hr, by rw [ha.len]; exact Nat.le_refl _⟩
  obtain ⟨y, hy, hyd⟩ := ha.get hd
  refine ⟨⟨xs, y, hr, hy⟩, fun x H' ⟨e1, e2⟩ => ?_⟩
  subst e1
  have ex : x = y := Option.some.inj ((e2 xs hr).symm.trans hy)
  subst ex
  exact ⟨Same.refl _, hyd⟩
theorem src_rng {lo : Int} {n : Nat} : Src K (Itr lo n) [] ((List.range n).map fun k : Nat => PyData.int (lo + k)) := fun S H0 N0 Z N σ H ρ E => by
  refine ⟨fun k d hd => ?_, by show n ≤ _; simp⟩
  rw [List.getElem?_map] at hd
  by_cases hk : k < n
  · rw [List.getElem?_range hk] at hd
    cases hd
    refine ⟨hk, fun x H' ⟨e1, e2⟩ => ?_⟩
    subst e1; subst e2
    exact ⟨Same.refl _, Dt.int _⟩
  · rw [List.getElem?_eq_none (by simp; omega)] at hd
    cases hd
theorem src_enum {a : Addr} {ds : List PyData} : Src K (Ite K a) [.dat (.ref a) (.list ds)] (ds.mapIdx fun k d => PyData.tuple [.int k, d]) := fun S H0 N0 Z N σ H ρ E => by
  obtain ⟨p, xs, e, _, hr, ha⟩ := Dq.lst_inv (E.hid _ List.mem_cons_self)
  cases e
  refine ⟨fun k d hd => ?_, xs, .inl hr, by rw [ha.len]; simp⟩
  rw [List.getElem?_mapIdx] at hd
  obtain ⟨d0, hd0, rfl⟩ := Option.map_eq_some_iff.mp hd
  obtain ⟨y, hy, hyd⟩ := ha.get hd0
  refine ⟨⟨xs, y, .inl hr, hy⟩, fun v H' ⟨T, x, e1, e2, e3, e4⟩ => ?_⟩
  subst e1; subst e3
  have ex : x = y := Option.some.inj ((e4 xs (.inl hr)).symm.trans hy)
  subst ex
  have s := same_new e2 (.tup [.int (k : Nat), x])
  exact ⟨s, Dq.tup (fresh_av E.trk e2) upd_same (DqAll.cons (Dt.int _) (DqAll.cons (hyd.keep (Keep.of s)) DqAll.nil))⟩
theorem src_zip {a b : Addr} {ds es : List PyData} : Src K (Itz K a b) [.dat (.ref a) (.list ds), .dat (.ref b) (.list es)] (List.zipWith (fun x y => PyData.tuple [x, y]) ds es) := fun S H0 N0 Z N σ H ρ E => by
  obtain ⟨p, xs, e, _, hr, ha⟩ := Dq.lst_inv (E.hid _ List.mem_cons_self)
  obtain ⟨p2, ys, e2, _, hr2, ha2⟩ := Dq.lst_inv (E.hid _ (List.mem_cons_of_mem _ List.mem_cons_self))
  cases e; cases e2
  refine ⟨fun k d hd => ?_, xs, ys, .inl hr, .inl hr2, by rw [ha.len, ha2.len, List.length_zipWith]; omega⟩
  rw [List.getElem?_zipWith] at hd
  cases h1 : ds[k]? with
  | none => rw [h1] at hd; cases hd
  | some d1 =>
    cases h2 : es[k]? with
    | none => rw [h1, h2] at hd; cases hd
    | some d2 =>
      rw [h1, h2] at hd
      cases hd
      obtain ⟨y1, hy1, hyd1⟩ := ha.get h1
      obtain ⟨y2, hy2, hyd2⟩ := ha2.get h2
      refine ⟨⟨xs, ys, y1, y2, .inl hr, .inl hr2, hy1, hy2⟩, fun v H' ⟨T, x, y, e1, e2, e3, e4, e5⟩ => ?_⟩
      subst e1; subst e3
      have ex : x = y1 := Option.some.inj ((e4 xs (.inl hr)).symm.trans hy1)
      have ey : y = y2 := Option.some.inj ((e5 ys (.inl hr2)).symm.trans hy2)
      subst ex; subst ey
      have s := same_new e2 (.tup [x, y])
      exact ⟨s, Dq.tup (fresh_av E.trk e2) upd_same (DqAll.cons (hyd1.keep (Keep.of s)) (DqAll.cons (hyd2.keep (Keep.of s)) DqAll.nil))⟩

theorem no_own1 {v : V} {d : PyData} : ∀ p es, Hd.own p es ∉ [Hd.dat v d] := fun p es h => by simp at h
theorem wi_list {tl : TE} {Θ : List PyData → Rho → Prop} (h : WD K S tl ρ fun d ρ1 => ∃ ds, d = .list ds ∧ Θ ds ρ1) : WI K S (iList K tl) ρ Θ := fun H0 N0 Z N σ H E R q =>
  h H0 N0 Z N σ H E _ fun v d ρ1 H1 ⟨ds, e, f⟩ E1 k1 d1 => by
    subst e
    obtain ⟨p, xs, rfl, hw, hr, ha⟩ := d1.lst_inv
    exact ⟨p, rfl, ⟨xs, .inl hr⟩, q _ _ ds ρ1 H1 f src_list no_own1 (E1.push d1) k1⟩
theorem wi_tup {tl : TE} {Θ : List PyData → Rho → Prop} (h : WD K S tl ρ fun d ρ1 => ∃ ds, d = .tuple ds ∧ Θ ds ρ1) : WI K S (iTup K tl) ρ Θ := fun H0 N0 Z N σ H E R q =>
  h H0 N0 Z N σ H E _ fun v d ρ1 H1 ⟨ds, e, f⟩ E1 k1 d1 => by
    subst e
    obtain ⟨p, xs, rfl, hw, hr, ha⟩ := d1.tup_inv
    exact ⟨p, rfl, ⟨xs, hr⟩, q _ _ ds ρ1 H1 f src_tup no_own1 (E1.push d1) k1⟩
theorem wi_enum {ta : TA} {Θ : List PyData → Rho → Prop} (h : WA K S ta ρ fun xs ρ1 => ∃ ds, xs = [.list ds] ∧ Θ (ds.mapIdx fun k d => PyData.tuple [.int k, d]) ρ1) : WI K S (iEnum K ta) ρ Θ := fun H0 N0 Z N σ H E R q =>
  h H0 N0 Z N σ H E _ fun vs xs ρ1 H1 ⟨ds, e, f⟩ E1 k1 d1 => by
    subst e
    cases d1 with
    | cons d1 d2 =>
      cases d2
      obtain ⟨p, xs, rfl, hw, hr, ha⟩ := Dq.lst_inv d1
      exact ⟨p, xs, rfl, .inl hr, q _ _ _ ρ1 H1 f src_enum no_own1 (E1.push d1) k1⟩
theorem wi_zip {ta : TA} {Θ : List PyData → Rho → Prop} (h : WA K S ta ρ fun xs ρ1 => ∃ ds es, xs = [.list ds, .list es] ∧ Θ (List.zipWith (fun x y => PyData.tuple [x, y]) ds es) ρ1) : WI K S (iZip K ta) ρ Θ := fun H0 N0 Z N σ H E R q =>
  h H0 N0 Z N σ H E _ fun vs xs ρ1 H1 ⟨ds, es, e, f⟩ E1 k1 d1 => by
    subst e
    cases d1 with
    | cons d1 d2 =>
      cases d2 with
      | cons d2 d3 =>
        cases d3
        obtain ⟨p, xs, rfl, hw, hr, ha⟩ := Dq.lst_inv d1
        obtain ⟨p2, ys, rfl, hw2, hr2, ha2⟩ := Dq.lst_inv d2
        exact ⟨p, p2, xs, ys, rfl, .inl hr, .inl hr2, q _ _ _ ρ1 H1 f src_zip (fun p es h => by simp at h) ((E1.push d2).push d1) k1⟩
theorem wi_rng1 {ta : TA} {Θ : List PyData → Rho → Prop} (h : WA K S ta ρ fun xs ρ1 => ∃ n : Int, xs = [.int n] ∧ -(2 ^ 62) ≤ n ∧ n < 2 ^ 62 ∧ Θ ((List.range n.toNat).map fun k : Nat => PyData.int (0 + k)) ρ1) : WI K S (iRng1 ta) ρ Θ := fun H0 N0 Z N σ H E R q =>
  h H0 N0 Z N σ H E _ fun vs xs ρ1 H1 ⟨n, e, b1, b2, f⟩ E1 k1 d1 => by
    subst e
    cases d1 with
    | cons d1 d2 =>
      cases d2
      cases d1
      exact ⟨n, rfl, b1, b2, q _ [] _ ρ1 H1 f src_rng (fun p es h => by simp at h) E1 k1⟩
theorem wi_rng2 {ta : TA} {Θ : List PyData → Rho → Prop} (h : WA K S ta ρ fun xs ρ1 => ∃ lo n : Int, xs = [.int lo, .int n] ∧ (-(2 ^ 62) ≤ lo ∧ lo < 2 ^ 62 ∧ -(2 ^ 62) ≤ n ∧ n < 2 ^ 62) ∧ Θ ((List.range (n - lo).toNat).map fun k : Nat => PyData.int (lo + k)) ρ1) : WI K S (iRng2 ta) ρ Θ := fun H0 N0 Z N σ H E R q =>
  h H0 N0 Z N σ H E _ fun vs xs ρ1 H1 ⟨lo, n, e, b, f⟩ E1 k1 d1 => by
    subst e
    cases d1 with
    | cons d1 d2 =>
      cases d2 with
      | cons d2 d3 =>
        cases d3
        cases d1
        cases d2
        exact ⟨lo, n, rfl, b, q _ [] _ ρ1 H1 f src_rng (fun p es h => by simp at h) E1 k1⟩
theorem gd_name {i : Nat} {d : PyData} : GD K (gName i) d [i] (fun ρ => ρ.set i (.dat d)) := fun S H0 N0 Z N σ H ρ x E hx Q q =>
  q _ (E.set hx) (List.length_set ..) fun j hj => set_ne fun e => hj (by simp [e])
theorem gd_pair {i j : Nat} {a b : PyData} : GD K (gTup K 2 (gCons (gName i) (gCons (gName j) gNil))) (.tuple [a, b]) [i, j] (fun ρ => (ρ.set i (.dat a)).set j (.dat b)) := fun S H0 N0 Z N σ H ρ x E hx Q q => by
  obtain ⟨p, xs, rfl, _, h1, h2⟩ := hx.tup_inv
  cases h2 with
  | cons a1 a2 =>
    cases a2 with
    | cons a2 a3 =>
      cases a3
      exact ⟨p, _, rfl, h1, rfl, _, _, rfl, _, _, rfl, rfl, q _ ((E.set a1).set a2) (by rw [List.length_set, List.length_set]) fun k hk => by
        have h1 : j ≠ k := fun e => hk (by simp [e])
        have h2 : i ≠ k := fun e => hk (by simp [e])
        rw [set_ne h1, set_ne h2]⟩
/-- for TARGET in THING -/
theorem ws_for {wi : TI} {g : TG} {tb : TS} {En : DE} (h : WI K S wi ρ fun ds ρ1 => ∃ I : Nat → Rho → Prop, I 0 ρ1 ∧
      (∀ k d ρ2, ds[k]? = some d → I k ρ2 → ∃ ts f, GD K g d ts f ∧ WS K S tb (f ρ2) { nx := I (k + 1), rt := En.rt, bk := En.nx, ct := I (k + 1) }) ∧ (∀ ρ2, I ds.length ρ2 → En.nx ρ2)) :
    WS K S (tFor wi g tb) ρ En := fun H0 N0 Z N σ H D E M =>
  h H0 N0 Z N σ H E _ fun J Zx ds ρ1 H1 ⟨I, i0, step, fin⟩ src _ E1 k1 => by
    refine ⟨fun k m σ' H' => ∃ N' ρ', EnvD K S H0 N0 (Zx ++ Z) N' σ' H' ρ' ∧ I k ρ' ∧ m = ds.length - k ∧ k ≤ ds.length, ⟨_, N, ρ1, E1, i0, rfl, Nat.zero_le _⟩, ?_⟩
    rintro k m σ' H' ⟨N', ρ', E', iv, rfl, hk⟩
    obtain ⟨s1, s2⟩ := src S H0 N0 Z N' σ' H' ρ' E'
    by_cases hlt : k < ds.length
    · have hd := List.getElem?_eq_getElem hlt
      obtain ⟨go, yl⟩ := s1 k _ hd
      obtain ⟨ts, f, gd, st⟩ := step k _ ρ' hd iv
      refine .inr ⟨go, fun σ2 H2 => ∃ N2 ρ2, EnvD K S H0 N0 (Zx ++ Z) N2 σ2 H2 ρ2 ∧ I (k + 1) ρ2, fun σ2 H2 ⟨N2, ρ2, E2, iv2⟩ => ⟨ds.length - (k + 1), by omega, N2, ρ2, E2, iv2, rfl, hlt⟩, fun x H2 hy => ?_⟩
      obtain ⟨sm, dx⟩ := yl x H2 hy
      exact gd S H0 N0 (Zx ++ Z) N' σ' H2 ρ' x (E'.ext sm) dx _ fun σ3 E3 _ _ => st H0 N0 _ N' _ _ _ E3 ⟨fun N2 σ2 H2 ρ2 q E2 => ⟨N2, ρ2, E2, q⟩, fun N2 σ2 H2 ρ2 v d q E2 => M.rt N2 σ2 H2 ρ2 v d q E2.popn, fun N2 σ2 H2 ρ2 q E2 => M.nx N2 σ2 H2 ρ2 q E2.popn, fun N2 σ2 H2 ρ2 q E2 => ⟨N2, ρ2, E2, q⟩⟩
    · have ek : k = ds.length := by omega
      subst ek
      exact .inl ⟨s2, M.nx N' σ' H' ρ' (fin ρ' iv) E'.popn⟩

/-! ### a comprehension's list -/
theorem EnvD.pushOwn (E : EnvD K S H0 N0 Z N σ H ρ) {p : Addr} (hp : H p = none) : EnvD K S H0 N0 (.own p [] :: Z) (fun b => N b || decide (b = p)) σ (upd H p (.lst [])) ρ := by
  obtain ⟨hp0, n0⟩ := free0 E hp
  have e : EnvD K S H0 N0 Z N (σ ++ [none]) H (ρ ++ [.unk]) := {
    keep := E.keep, base := E.base, trk := E.trk, sub := E.sub, hid := E.hid, injZ := E.injZ,
    len := by simp [E.len],
    slot := fun i s h => by
      by_cases hi : i < ρ.length
      · rw [List.getElem?_append_left hi] at h
        have q := E.slot i s h
        have hi2 : i < σ.length := by rw [← E.len]; exact hi
        cases s with
        | unk => trivial
        | dat d => obtain ⟨v, h1, h2⟩ := q; exact ⟨v, by rw [List.getElem?_append_left hi2]; exact h1, h2⟩
        | own ds => obtain ⟨v, xs, h1, h2⟩ := q; exact ⟨v, xs, by rw [List.getElem?_append_left hi2]; exact h1, h2⟩
        | sto B => obtain ⟨h1, h2⟩ := q; exact ⟨by rw [List.getElem?_append_left hi2]; exact h1, h2⟩
        | scr ns => obtain ⟨a, h1, h2⟩ := q; exact ⟨a, by rw [List.getElem?_append_left hi2]; exact h1, h2⟩
      · rw [List.getElem?_append_right (by omega)] at h
        have : s = .unk := by
          cases hh : i - ρ.length with
          | zero => rw [hh] at h; simpa using h.symm
          | succ n => rw [hh] at h; simp at h
        subst this; trivial
    injH := fun i di dj q h1 h2 hz => by
      by_cases hi : i < ρ.length
      · rw [List.getElem?_append_left hi] at h1
        rw [List.getElem?_append_left (by rw [← E.len]; exact hi)] at h2
        exact E.injH i di dj q h1 h2 hz
      · rw [List.getElem?_append_right (by omega)] at h1
        cases hh : i - ρ.length with
        | zero => rw [hh] at h1; simp at h1
        | succ n => rw [hh] at h1; simp at h1
    inj := fun i j di dj q h1 h2 h3 h4 => by
      have lo : ∀ {c : Nat} {dc : List PyData}, (ρ ++ [Sl.unk])[c]? = some (Sl.own dc) → c < ρ.length ∧ ρ[c]? = some (Sl.own dc) := fun {c dc} h => by
        by_cases hi : c < ρ.length
        · rw [List.getElem?_append_left hi] at h; exact ⟨hi, h⟩
        · rw [List.getElem?_append_right (by omega)] at h
          cases hh : c - ρ.length with
          | zero => rw [hh] at h; simp at h
          | succ n => rw [hh] at h; simp at h
      obtain ⟨b1, h1⟩ := lo h1
      obtain ⟨b2, h2⟩ := lo h2
      rw [List.getElem?_append_left (by rw [← E.len]; exact b1)] at h3
      rw [List.getElem?_append_left (by rw [← E.len]; exact b2)] at h4
      exact E.inj i j di dj q h1 h2 h3 h4 }
  have e2 := e.new (i := ρ.length) (ds := []) hp hp0 n0 DqAll.nil
  have r1 : (ρ ++ [Sl.unk]).set ρ.length (.own []) = ρ ++ [.own []] := by simp
  have r2 : (σ ++ [none]).set ρ.length (some (V.ref p)) = σ ++ [some (V.ref p)] := by rw [E.len]; simp
  rw [r1, r2] at e2
  have lt : ∀ {i : Nat} {s : Sl}, ρ[i]? = some s → i < ρ.length ∧ i < σ.length := fun {i s} h => by
    have h1 := (List.getElem?_eq_some_iff.mp h).1
    exact ⟨h1, by rw [← E.len]; exact h1⟩
  have up : ∀ {i : Nat} {s : Sl}, ρ[i]? = some s → (ρ ++ [Sl.own []])[i]? = some s := fun h => by rw [List.getElem?_append_left (lt h).1]; exact h
  have lastR : (ρ ++ [Sl.own []])[ρ.length]? = some (.own []) := by simp
  have lastS : (σ ++ [some (V.ref p)])[ρ.length]? = some (some (V.ref p)) := by rw [E.len]; simp
  refine ⟨e2.keep, e2.base, e2.trk, e2.sub, fun i s h => ?_, E.len, fun z h => ?_, fun i di dj q h1 h2 hz => ?_, fun i j di dj q h1 h2 => ?_, E.inj⟩
  · have q := e2.slot i s (up h)
    have l2 := (lt h).2
    cases s with
    | unk => trivial
    | dat d => obtain ⟨v, h1, h2⟩ := q; exact ⟨v, by rw [List.getElem?_append_left l2] at h1; exact h1, h2⟩
    | own ds => obtain ⟨v, xs, h1, h2⟩ := q; exact ⟨v, xs, by rw [List.getElem?_append_left l2] at h1; exact h1, h2⟩
    | sto B => obtain ⟨h1, h2⟩ := q; exact ⟨by rw [List.getElem?_append_left l2] at h1; exact h1, h2⟩
    | scr ns => obtain ⟨a, h1, h2⟩ := q; exact ⟨a, by rw [List.getElem?_append_left l2] at h1; exact h1, h2⟩
  · rcases List.mem_cons.mp h with e | h
    · subst e
      obtain ⟨p', xs, h1, h2⟩ := e2.slot ρ.length _ lastR
      rw [lastS] at h1; cases h1
      exact ⟨xs, h2⟩
    · exact e2.hid z h
  · rcases List.mem_cons.mp hz with e | hz
    · cases e
      have := e2.inj i ρ.length di [] p (up h1) lastR (by rw [List.getElem?_append_left (lt h1).2]; exact h2) lastS
      exact absurd (lt h1).1 (by omega)
    · exact E.injH i di dj q h1 h2 hz
  · cases i with
    | zero =>
      cases j with
      | zero => rfl
      | succ j =>
        exfalso
        simp at h1
        obtain ⟨h1a, h1b⟩ := h1
        subst h1a
        exact e2.injH ρ.length [] dj p lastR lastS (List.mem_of_getElem? (by simpa using h2))
    | succ i =>
      cases j with
      | zero =>
        exfalso
        simp at h2
        obtain ⟨h2a, h2b⟩ := h2
        subst h2a
        exact e2.injH ρ.length [] di p lastR lastS (List.mem_of_getElem? (by simpa using h1))
      | succ j => exact congrArg (· + 1) (E.injZ i j di dj q (by simpa using h1) (by simpa using h2))
end
end DL

set_option Elab.async false
set_option linter.all false
set_option maxRecDepth 100000
set_option maxHeartbeats 2000000
namespace DL
open PySem L2
section
variable {K : PySem.W.Frag} {S : Stt} {H0 : Hp} {N0 : Av} {Z : List Hd} {N : Av} {σ : L2.St} {H H' : Hp} {ρ : Rho} {Φ : PyData → Rho → Prop} {Ψ : PyData → Prop}
theorem EnvD.chgH {p : Addr} {ys : List V} {es fs : List PyData} (E : EnvD K S H0 N0 (.own p es :: Z) N σ H ρ) (hq : DqAll K N H ys fs) : EnvD K S H0 N0 (.own p fs :: Z) N σ (upd H p (.lst ys)) ρ := by
  obtain ⟨xs, g2, g3, g4, g5, g6, g7⟩ := E.hid _ List.mem_cons_self
  have kp : ∀ b o, b ≠ p → H b = some o → upd H p (.lst ys) b = some o := fun b o hb h => by rw [upd_ne hb]; exact h
  have kn : Keep N H (upd H p (.lst ys)) := fun b o n h => kp b o (fun e => by rw [e, g2] at n; cases n) h
  refine ⟨fun b o n h => kp b o (fun e => by rw [e, g5] at h; cases h) (E.keep b o n h), E.base, fun b h => ?_, E.sub, fun j t h => ?_, E.len, fun z h => ?_, fun i di dj q h1 h2 hz => ?_, fun i j di dj q h1 h2 => ?_, E.inj⟩
  · by_cases e : b = p
    · rw [e, upd_same]; simp
    · rw [upd_ne e]; exact E.trk b h
  · have q := E.slot j t h
    cases t with
    | unk => trivial
    | dat d => obtain ⟨v, h1, h2⟩ := q; exact ⟨v, h1, h2.keep kn⟩
    | own us =>
      obtain ⟨q, zs, h1, h2, h3, h4, h5, h6, h7⟩ := q
      have hne : q ≠ p := fun e2 => by subst e2; exact E.injH j _ _ _ h h1 List.mem_cons_self
      exact ⟨q, zs, h1, h2, h3, h4, h5, kp _ _ hne h6, h7.keep kn⟩
    | sto B => obtain ⟨h1, h2⟩ := q; exact ⟨h1, S.loc H _ B (fun b hb => upd_ne fun e => by rw [e, g3] at hb; cases hb) h2⟩
    | scr ns => obtain ⟨a, h1, h2⟩ := q; exact ⟨a, h1, kn.wo.seq h2⟩
  · rcases List.mem_cons.mp h with e | hz
    · subst e
      exact ⟨ys, g2, g3, g4, g5, upd_same, hq.keep kn⟩
    · have q := E.hid z (List.mem_cons_of_mem _ hz)
      cases z with
      | dat v d => exact Dq.keep q kn
      | own q' zs =>
        obtain ⟨us, h2, h3, h4, h5, h6, h7⟩ := q
        have hne : q' ≠ p := fun e2 => by
          subst e2
          obtain ⟨n, hn⟩ := List.getElem?_of_mem hz
          have := E.injZ 0 (n + 1) es zs q' rfl (by simpa using hn)
          cases this
        exact ⟨us, h2, h3, h4, h5, kp _ _ hne h6, h7.keep kn⟩
  · rcases List.mem_cons.mp hz with e | hz
    · cases e
      exact E.injH i di es p h1 h2 List.mem_cons_self
    · exact E.injH i di dj q h1 h2 (List.mem_cons_of_mem _ hz)
  · have lo : ∀ {c : Nat} {dc : List PyData} {q : Addr}, (Hd.own p fs :: Z)[c]? = some (Hd.own q dc) → ∃ dc', (Hd.own p es :: Z)[c]? = some (Hd.own q dc') := fun {c dc q} h => by
      cases c with
      | zero => simp at h; obtain ⟨e, _⟩ := h; subst e; exact ⟨es, rfl⟩
      | succ c => exact ⟨dc, by simpa using h⟩
    obtain ⟨d1, h1⟩ := lo h1
    obtain ⟨d2, h2⟩ := lo h2
    exact E.injZ i j d1 d2 q h1 h2
theorem EnvD.popOwn {p : Addr} {es : List PyData} (np : N p = false) (E : EnvD K S H0 N0 (.own p es :: Z) (fun b => N b || decide (b = p)) σ H ρ) : EnvD K S H0 N0 Z N σ H ρ ∧ Dq K N H (.ref p) (.list es) := by
  obtain ⟨xs, g2, g3, g4, g5, g6, g7⟩ := E.hid _ List.mem_cons_self
  have le : Le N (fun b => N b || decide (b = p)) := fun b h => by simp [h]
  have ne : ∀ {q : Addr}, q ≠ p → (N q || decide (q = p)) = true → N q = true := fun h n => by simpa [h] using n
  refine ⟨⟨E.keep, fun b h => ne (fun e => by rw [e, g4] at h; cases h) (E.base b h), fun b h => E.trk b (le b h), fun b h => ne (fun e => by rw [e, g3] at h; cases h) (E.sub b h), fun j t h => ?_, E.len, fun z h => ?_, fun i di dj q h1 h2 hz => E.injH i di dj q h1 h2 (List.mem_cons_of_mem _ hz), E.pop.injZ, E.inj⟩, Dq.lst np g6 (g7.le le)⟩
  · have q := E.slot j t h
    cases t with
    | unk => trivial
    | dat d => obtain ⟨v, h1, h2⟩ := q; exact ⟨v, h1, h2.le le⟩
    | own us =>
      obtain ⟨q, zs, h1, h2, h3, h4, h5, h6, h7⟩ := q
      have hne : q ≠ p := fun e2 => by subst e2; exact E.injH j _ _ _ h h1 List.mem_cons_self
      exact ⟨q, zs, h1, ne hne h2, h3, h4, h5, h6, h7.le le⟩
    | sto B => exact q
    | scr ns => obtain ⟨a, h1, h2⟩ := q; exact ⟨a, h1, le.wo.seq h2⟩
  · have q := E.hid z (List.mem_cons_of_mem _ h)
    cases z with
    | dat v d => exact Dq.le q le
    | own q' zs =>
      obtain ⟨us, h2, h3, h4, h5, h6, h7⟩ := q
      have hne : q' ≠ p := fun e2 => by
        subst e2
        obtain ⟨n, hn⟩ := List.getElem?_of_mem h
        have := E.injZ 0 (n + 1) es zs q' rfl (by simpa using hn)
        cases this
      exact ⟨us, ne hne h2, h3, h4, h5, h6, h7.le le⟩
/-! ### wiping names -/
theorem wipe_get (σ : L2.St) : ∀ (vs : List Nat) (j : Nat), (L2.wipe σ vs)[j]? = if j ∈ vs ∧ j < σ.length then some none else σ[j]?
  | [], j => by simp [L2.wipe]
  | v :: vs, j => by
    show ((L2.wipe σ vs).set v none)[j]? = _
    by_cases e : v = j
    · subst e
      by_cases hl : v < σ.length
      · rw [List.getElem?_set_self (by rw [wipe_length]; exact hl), if_pos ⟨List.mem_cons_self, hl⟩]
      · rw [if_neg (fun q => hl q.2), List.getElem?_eq_none (by rw [List.length_set, wipe_length]; omega), List.getElem?_eq_none (by omega)]
    · rw [List.getElem?_set_ne e, wipe_get σ vs j]
      have : (j ∈ v :: vs ∧ j < σ.length) ↔ (j ∈ vs ∧ j < σ.length) := by
        simp only [List.mem_cons]
        constructor
        · rintro ⟨q | q, l⟩
          · exact absurd q.symm e
          · exact ⟨q, l⟩
        · rintro ⟨q, l⟩; exact ⟨.inr q, l⟩
      simp only [this]
theorem wipe_off {σ τ : L2.St} {vs : List Nat} (hl : τ.length = σ.length) (h : ∀ j, j ∉ vs → τ[j]? = (L2.wipe σ vs)[j]?) : L2.wipe τ vs = L2.wipe σ vs := by
  refine List.ext_getElem? fun j => ?_
  rw [wipe_get τ]
  by_cases hj : j ∈ vs
  · by_cases hl2 : j < τ.length
    · rw [if_pos ⟨hj, hl2⟩, wipe_get, if_pos ⟨hj, by rw [← hl]; exact hl2⟩]
    · rw [if_neg (fun q => hl2 q.2), List.getElem?_eq_none (by omega), List.getElem?_eq_none (by rw [wipe_length]; omega)]
  · rw [if_neg (fun q => hj q.1)]; exact h j hj
/-- back to the wiped names -/
theorem EnvD.rewipe {τ : L2.St} {vs : List Nat} (E : EnvD K S H0 N0 Z N τ H ρ) (e : L2.wipe τ vs = L2.wipe σ vs) : EnvD K S H0 N0 Z N (L2.wipe σ vs) H (wipeR ρ vs) := by
  rw [← e]; exact E.wipe vs
theorem EnvD.mid {z : Hd} {Zx : List Hd} (E : EnvD K S H0 N0 (z :: (Zx ++ Z)) N σ H ρ) : EnvD K S H0 N0 (z :: Z) N σ H ρ where
  keep := E.keep
  base := E.base
  trk := E.trk
  sub := E.sub
  slot := E.slot
  len := E.len
  hid w hw := E.hid w (by
    rcases List.mem_cons.mp hw with e | e
    · subst e; exact List.mem_cons_self
    · exact List.mem_cons_of_mem _ (List.mem_append_right _ e))
  injH i di dj p h1 h2 hz := E.injH i di dj p h1 h2 (by
    rcases List.mem_cons.mp hz with e | e
    · subst e; exact List.mem_cons_self
    · exact List.mem_cons_of_mem _ (List.mem_append_right _ e))
  injZ i j di dj p h1 h2 := by
    have up : ∀ {c : Nat} {dc : List PyData}, (z :: Z)[c]? = some (Hd.own p dc) → (z :: (Zx ++ Z))[if c = 0 then 0 else c + Zx.length]? = some (Hd.own p dc) := fun {c dc} h => by
      cases c with
      | zero => simpa using h
      | succ c =>
        have h' : Z[c]? = some (Hd.own p dc) := by simpa using h
        rw [if_neg (by omega), show c + 1 + Zx.length = (Zx.length + c) + 1 by omega, List.getElem?_cons_succ, List.getElem?_append_right (by omega)]
        simpa using h'
    have q := E.injZ _ _ di dj p (up h1) (up h2)
    by_cases hi : i = 0 <;> by_cases hj : j = 0 <;> simp [hi, hj] at q <;> omega
  inj := E.inj
/-- a hidden list goes to a name -/
theorem EnvD.toSlot {p : Addr} {es : List PyData} (E : EnvD K S H0 N0 (.own p es :: Z) N σ H ρ) {i : Nat} : EnvD K S H0 N0 Z N (σ.set i (some (.ref p))) H (ρ.set i (.own es)) := by
  obtain ⟨xs, g2, g3, g4, g5, g6, g7⟩ := E.hid _ List.mem_cons_self
  have nz : ∀ {c : Nat} {dc : List PyData}, ρ[c]? = some (.own dc) → σ[c]? = some (some (V.ref p)) → False := fun h1 h2 => E.injH _ _ _ p h1 h2 List.mem_cons_self
  have sl : ∀ {c : Nat} {q : Addr}, i = c → (σ.set i (some (V.ref p)))[c]? = some (some (V.ref q)) → q = p := fun {c q} e h => by
    subst e
    have hi : i < σ.length := by
      have := (List.getElem?_eq_some_iff.mp h).1
      rwa [List.length_set] at this
    rw [set_eq hi] at h; cases h; rfl
  refine ⟨E.keep, E.base, E.trk, E.sub, fun j t h => ?_, by rw [List.length_set, List.length_set]; exact E.len, fun z h => E.hid z (List.mem_cons_of_mem _ h), fun a da dj q ha h1 hz => ?_, E.pop.injZ, fun a b da db q ha hb h1 h2 => ?_⟩
  · rcases get_set h with ⟨e, e2⟩ | ⟨e, h⟩
    · subst e; subst e2
      have hi : i < σ.length := by
        have := (List.getElem?_eq_some_iff.mp h).1
        rw [List.length_set] at this
        rw [← E.len]; exact this
      exact ⟨p, xs, set_eq hi, g2, g3, g4, g5, g6, g7⟩
    · exact (E.slot j t h).other e
  · rcases get_set ha with ⟨e, e2⟩ | ⟨e, ha⟩
    · have := sl e h1
      subst this
      obtain ⟨n, hn⟩ := List.getElem?_of_mem hz
      have := E.injZ 0 (n + 1) es dj q rfl (by simpa using hn)
      cases this
    · rw [set_ne e] at h1
      exact E.injH a da dj q ha h1 (List.mem_cons_of_mem _ hz)
  · rcases get_set ha with ⟨ea, e2⟩ | ⟨ea, ha⟩
    · have e1 := sl ea h1
      rcases get_set hb with ⟨eb, e3⟩ | ⟨eb, hb⟩
      · exact ea.symm.trans eb
      · rw [set_ne eb] at h2
        subst e1
        exact (nz hb h2).elim
    · rcases get_set hb with ⟨eb, e3⟩ | ⟨eb, hb⟩
      · have e1 := sl eb h2
        rw [set_ne ea] at h1
        subst e1
        exact (nz ha h1).elim
      · rw [set_ne ea] at h1
        rw [set_ne eb] at h2
        exact E.inj a b da db q ha hb h1 h2
/-- [elt for TARGET in THING if TEST] -/
theorem lc_own {Θ : List PyData → Rho → Prop} {wi : TI} {g : TG} {tt : TT} {te : TE} {vs : List Nat} (h : WI K S wi ρ fun ds ρ1 => ds.length ≤ sizeLine ∧ ∃ I : Nat → List PyData → Rho → Prop, I 0 [] (wipeR ρ1 vs) ∧
      (∀ k d acc ρ2, ds[k]? = some d → I k acc ρ2 → ∃ ts f, GD K g d ts f ∧ (∀ j ∈ ts, j ∈ vs) ∧
        WT K S tt (f ρ2) fun b ρ3 => if b = true then WD K S te ρ3 fun y ρ4 => I (k + 1) (acc ++ [y]) (wipeR ρ4 vs) else I (k + 1) acc (wipeR ρ3 vs)) ∧
      (∀ acc ρ2, I ds.length acc ρ2 → Θ acc (wipeR ρ2 vs))) (E : EnvD K S H0 N0 Z N σ H ρ) {Q : VK}
    (q : ∀ D acc ρ' H', N D = false → Θ acc ρ' → EnvD K S H0 N0 (.own D acc :: Z) (fun b => N b || decide (b = D)) σ H' ρ' → Keep N H H' → Q (.ref D) H') : tLc wi g tt te vs σ H Q :=
  h H0 N0 Z N σ H E _ fun J Zx ds ρ1 H1 ⟨hz, I, i0, step, fin⟩ src nz E1 k1 D hD => by
    have nD : N D = false := fresh_av E1.trk hD
    have srcO : ∀ {acc : List PyData} {N' σ' H' ρ'}, EnvD K S H0 N0 (.own D acc :: (Zx ++ Z)) N' σ' H' ρ' → _ := fun {acc N' σ' H' ρ'} E' => src S H0 N0 Z N' σ' H' ρ' E'.pop
    refine ⟨fun k m H' => ∃ ρ' acc, EnvD K S H0 N0 (.own D acc :: (Zx ++ Z)) (fun b => N b || decide (b = D)) (L2.wipe σ vs) H' ρ' ∧ Keep N H1 H' ∧ I k acc ρ' ∧ acc.length ≤ k ∧ m = ds.length - k ∧ k ≤ ds.length,
      ⟨_, _, [], (E1.pushOwn hD).wipe vs, Keep.of (same_new hD _), i0, Nat.le_refl _, rfl, Nat.zero_le _⟩, ?_⟩
    rintro k m H' ⟨ρ', acc, E', kk, iv, hacc, rfl, hk⟩
    obtain ⟨s1, s2⟩ := srcO E'
    have kN : ∀ {Ha Hb : Hp}, Keep (fun b => N b || decide (b = D)) Ha Hb → Keep N H1 Ha → (∀ ys, Keep N H1 (upd Hb D (.lst ys))) ∧ Keep N H1 (upd Hb D (.lst [])) := fun {Ha Hb} ka kb => by
      have z : ∀ ys, Keep N H1 (upd Hb D (.lst ys)) := fun ys b o n hb => by
        have hne : b ≠ D := ne_of_none hb hD
        rw [upd_ne hne]
        exact ka b o (by simp [n, hne]) (kb b o n hb)
      exact ⟨z, z []⟩
    have kN2 : ∀ {Ha Hb : Hp}, Keep (fun b => N b || decide (b = D)) Ha Hb → Keep N H1 Ha → Keep N H1 Hb := fun {Ha Hb} ka kb b o n hb => ka b o (by simp [n, ne_of_none hb hD]) (kb b o n hb)
    by_cases hlt : k < ds.length
    · have hd := List.getElem?_eq_getElem hlt
      obtain ⟨go, yl⟩ := s1 k _ hd
      obtain ⟨ts, f, gd, hts, st⟩ := step k _ acc ρ' hd iv
      refine .inr ⟨go, fun H2 => ∃ ρ2 acc2, EnvD K S H0 N0 (.own D acc2 :: (Zx ++ Z)) (fun b => N b || decide (b = D)) (L2.wipe σ vs) H2 ρ2 ∧ Keep N H1 H2 ∧ I (k + 1) acc2 ρ2 ∧ acc2.length ≤ k + 1, fun H2 ⟨ρ2, acc2, E2, kk2, iv2, ha2⟩ => ⟨ds.length - (k + 1), by omega, ρ2, acc2, E2, kk2, iv2, ha2, rfl, hlt⟩, fun x H2 hy => ?_⟩
      obtain ⟨sm, dx⟩ := yl x H2 hy
      refine gd S H0 N0 _ _ _ H2 ρ' x (E'.ext sm) dx _ fun σ3 E3 hl3 off3 => ?_
      have ew : L2.wipe σ3 vs = L2.wipe σ vs := wipe_off (by rw [hl3, wipe_length]) fun j hj => off3 j fun q => hj (hts j q)
      refine ⟨ew, st H0 N0 _ _ σ3 H2 E3 _ fun b ρ3 H3 fb E3' k3 => ?_⟩
      have kk3 : Keep N H1 H3 := kN2 k3 (kN2 (Keep.of sm) kk)
      cases b with
      | false => exact ⟨_, acc, E3'.rewipe ew, kk3, fb, Nat.le_succ_of_le hacc⟩
      | true =>
        refine fb H0 N0 _ _ σ3 H3 E3' _ fun y d ρ4 H4 f4 E4 k4 d4 => ?_
        obtain ⟨us, g2, g3, g4, g5, g6, g7⟩ := E4.hid _ List.mem_cons_self
        refine ⟨us, g6, ?_, _, acc ++ [d], (E4.chgH (g7.append (DqAll.cons d4 DqAll.nil))).rewipe ew, (kN k4 kk3).1 _, f4, by simp; omega⟩
        rw [g7.len]; omega
    · have ek : k = ds.length := by omega
      subst ek
      exact .inl ⟨s2, q D acc _ H' nD (fin acc ρ' iv) E'.mid.unwipe (k1.trans kk)⟩
theorem wd_lc {wi : TI} {g : TG} {tt : TT} {te : TE} {vs : List Nat} (h : WI K S wi ρ fun ds ρ1 => ds.length ≤ sizeLine ∧ ∃ I : Nat → List PyData → Rho → Prop, I 0 [] (wipeR ρ1 vs) ∧
      (∀ k d acc ρ2, ds[k]? = some d → I k acc ρ2 → ∃ ts f, GD K g d ts f ∧ (∀ j ∈ ts, j ∈ vs) ∧
        WT K S tt (f ρ2) fun b ρ3 => if b = true then WD K S te ρ3 fun y ρ4 => I (k + 1) (acc ++ [y]) (wipeR ρ4 vs) else I (k + 1) acc (wipeR ρ3 vs)) ∧
      (∀ acc ρ2, I ds.length acc ρ2 → Φ (.list acc) (wipeR ρ2 vs))) : WD K S (tLc wi g tt te vs) ρ Φ := fun H0 N0 Z N σ H E Q q =>
  lc_own (Θ := fun acc ρ' => Φ (.list acc) ρ') h E fun D acc ρ' H' nD f E' k => by
    obtain ⟨E5, d5⟩ := E'.popOwn nD
    exact q _ _ ρ' H' f E5 k d5
/-- x = [.. for ..], to be filled or told on -/
theorem ws_lc {wi : TI} {g : TG} {tt : TT} {te : TE} {vs : List Nat} {i : Nat} {En : DE} (h : WI K S wi ρ fun ds ρ1 => ds.length ≤ sizeLine ∧ ∃ I : Nat → List PyData → Rho → Prop, I 0 [] (wipeR ρ1 vs) ∧
      (∀ k d acc ρ2, ds[k]? = some d → I k acc ρ2 → ∃ ts f, GD K g d ts f ∧ (∀ j ∈ ts, j ∈ vs) ∧
        WT K S tt (f ρ2) fun b ρ3 => if b = true then WD K S te ρ3 fun y ρ4 => I (k + 1) (acc ++ [y]) (wipeR ρ4 vs) else I (k + 1) acc (wipeR ρ3 vs)) ∧
      (∀ acc ρ2, I ds.length acc ρ2 → En.nx ((wipeR ρ2 vs).set i (.own acc)))) : WS K S (tAsg (tLc wi g tt te vs) (gName i)) ρ En := fun H0 N0 Z N σ H D E M =>
  lc_own (Θ := fun acc ρ' => En.nx (ρ'.set i (.own acc))) h E fun p acc ρ' H' nD f E' k => M.nx _ _ _ _ f E'.toSlot
end
end DL

set_option Elab.async false
set_option linter.all false
set_option maxRecDepth 100000
set_option maxHeartbeats 2000000
namespace DL
open PySem L2
/-! ### promises over data -/
def spP (K : PySem.W.Frag) (T : List PyData → (PyData → Prop) → Prop) : Sp := fun vs H Q _ => ∃ (N : Av) (ds : List PyData) (Φ : PyData → Prop),
  (∀ b, N b = true → H b ≠ none) ∧ DqAll K N H vs ds ∧ T ds Φ ∧ ∀ d, Φ d → ∀ v H', Same H H' → Dq K N H' v d → Q v H'
/-- the same, and what is raised: an error of the class at C without fields -/
def spX (K : PySem.W.Frag) (T : List PyData → (PyData → Prop) → (Addr → Prop) → Prop) : Sp := fun vs H Q E => ∃ (N : Av) (ds : List PyData) (Φ : PyData → Prop) (Ψ : Addr → Prop),
  (∀ b, N b = true → H b ≠ none) ∧ DqAll K N H vs ds ∧ T ds Φ Ψ ∧ (∀ d, Φ d → ∀ v H', Same H H' → Dq K N H' v d → Q v H') ∧ ∀ C, Ψ C → ∀ H', Same H H' → E (.ref C) none H'
/-- with a store in front, F: which -/
def spS (K : PySem.W.Frag) (F : Stt → Prop) (T : Nat → List PyData → (PyData → Nat → Prop) → Prop) : Sp := fun vs H Q _ => ∃ (S : Stt) (N : Av) (us : List V) (ds : List PyData) (B : Nat) (Φ : PyData → Nat → Prop),
  vs = .ref S.a :: us ∧ F S ∧ S.ok H B ∧ Le S.fp N ∧ (∀ b, N b = true → H b ≠ none) ∧ DqAll K N H us ds ∧ T B ds Φ ∧
  ∀ d B', Φ d B' → ∀ v H', (∀ b o, S.fp b = false → H b = some o → H' b = some o) → S.ok H' B' → Dq K N H' v d → Q v H'
def rhoOf (n : Nat) (ds : List PyData) : Rho := ds.map Sl.dat ++ List.replicate (n - ds.length) Sl.unk
def stoS (B : Nat) : Sl → Sl
  | .sto _ => .sto B
  | s => s
def stoAll (B : Nat) : Rho → Rho
  | [] => []
  | s :: r => stoS B s :: stoAll B r
theorem stoAll_get {B : Nat} : ∀ {ρ : Rho} {i : Nat} {s : Sl}, (stoAll B ρ)[i]? = some s → (s = .sto B ∧ ∃ B0, ρ[i]? = some (.sto B0)) ∨ ((∀ B0, s ≠ .sto B0) ∧ ρ[i]? = some s)
  | [], i, s, h => by simp [stoAll] at h
  | t :: r, 0, s, h => by
    cases t <;> simp [stoAll, stoS] at h <;> subst h
    · exact .inr ⟨fun _ => nofun, rfl⟩
    · exact .inr ⟨fun _ => nofun, rfl⟩
    · exact .inr ⟨fun _ => nofun, rfl⟩
    · exact .inl ⟨rfl, _, rfl⟩
    · exact .inr ⟨fun _ => nofun, rfl⟩
  | t :: r, i + 1, s, h => by
    have h2 : (stoAll B r)[i]? = some s := by cases t <;> simpa [stoAll, stoS] using h
    simpa using stoAll_get h2
theorem stoAll_len {B : Nat} : ∀ {ρ : Rho}, (stoAll B ρ).length = ρ.length
  | [] => rfl
  | t :: r => by simp [stoAll, stoAll_len (ρ := r)]
section
variable {K : PySem.W.Frag} {S : Stt} {H0 : Hp} {N0 : Av} {Z : List Hd} {N : Av} {σ : L2.St} {H H' : Hp} {ρ : Rho} {Φ : PyData → Rho → Prop} {Ψ : PyData → Prop}
theorem rhoOf_get {n : Nat} {ds : List PyData} {i : Nat} {s : Sl} (h : (rhoOf n ds)[i]? = some s) : s = .unk ∨ ∃ d, ds[i]? = some d ∧ s = .dat d := by
  unfold rhoOf at h
  by_cases hi : i < ds.length
  · rw [List.getElem?_append_left (by simpa using hi), List.getElem?_map, List.getElem?_eq_getElem hi] at h
    exact .inr ⟨_, List.getElem?_eq_getElem hi, by simpa using h.symm⟩
  · rw [List.getElem?_append_right (by simpa using hi), List.getElem?_replicate] at h
    split at h
    · exact .inl (Option.some.inj h).symm
    · cases h
theorem start_get {Nm : List Str} {vs : List V} {i : Nat} {v : V} (h : vs[i]? = some v) : (L2.start Nm vs)[i]? = some (some v) := by
  have hi := (List.getElem?_eq_some_iff.mp h).1
  show (vs.map some ++ List.replicate (Nm.length - vs.length) none)[i]? = _
  rw [List.getElem?_append_left (by simpa using hi), List.getElem?_map, h]; rfl
theorem env_start {Nm : List Str} {vs : List V} {ds : List PyData} (ht : ∀ b, N b = true → H b ≠ none) (hd : DqAll K N H vs ds) : EnvD K S0 H N [] N (L2.start Nm vs) H (rhoOf Nm.length ds) where
  keep _ _ _ h := h
  base := Le.refl
  trk := ht
  sub _ h := nomatch h
  len := by simp [rhoOf, L2.start, hd.len]
  hid _ h := nomatch h
  injZ i j di dj p h := by simp at h
  slot i s h := by
    rcases rhoOf_get h with e | ⟨d, e, e2⟩
    · subst e; trivial
    · subst e2
      obtain ⟨v, h1, h2⟩ := hd.get e
      exact ⟨v, start_get h1, h2⟩
  injH i di dj p h := by
    rcases rhoOf_get h with e | ⟨d, _, e2⟩
    · cases e
    · cases e2
  inj i j di dj p h := by
    rcases rhoOf_get h with e | ⟨d, _, e2⟩
    · cases e
    · cases e2
/-- a def's body keeps a promise over data -/
theorem run_P {T : List PyData → (PyData → Prop) → Prop} {Nm : List Str} {ts : TS} {vs : List V} {Q : VK} {E : XK} (h : spP K T vs H Q E)
    (b : ∀ ds Φ, T ds Φ → WS K S0 ts (rhoOf Nm.length ds) { nx := fun _ => Φ .none, rt := fun d _ => Φ d }) : ts { nx := fun _ H' => Q .non H', rt := Q } (L2.start Nm vs) H := by
  obtain ⟨N, ds, Φ, ht, hd, hT, hQ⟩ := h
  exact b ds Φ hT H N [] N _ H _ (env_start ht hd) ⟨fun N' σ' H' ρ' q E' => hQ _ q _ _ (fun b o h => E'.keep b o rfl h) Dt.non, fun N' σ' H' ρ' v d q E' dv => hQ _ q _ _ (fun b o h => E'.keep b o rfl h) dv, fun _ _ _ _ q => q.elim, fun _ _ _ _ q => q.elim⟩
/-- with a store -/
theorem run_S {F : Stt → Prop} {T : Nat → List PyData → (PyData → Nat → Prop) → Prop} {Nm : List Str} {ts : TS} {vs : List V} {Q : VK} {E : XK} (h : spS K F T vs H Q E)
    (b : ∀ S B ds Φ, F S → T B ds Φ → WS K S ts (.sto B :: rhoOf (Nm.length - 1) ds) { nx := fun _ => False, rt := fun d ρ => ∃ B', ρ[0]? = some (.sto B') ∧ Φ d B' }) (hn : 0 < Nm.length) : ts { nx := fun _ H' => Q .non H', rt := Q } (L2.start Nm vs) H := by
  obtain ⟨S, N, us, ds, B, Φ, rfl, hF, hok, hle, ht, hd, hT, hQ⟩ := h
  have E0 : EnvD K S H N [] N (L2.start Nm (V.ref S.a :: us)) H (.sto B :: rhoOf (Nm.length - 1) ds) := {
    keep := fun _ _ _ h => h, base := Le.refl, trk := ht, sub := hle, hid := fun _ h => (nomatch h), injZ := fun i j di dj p h => by simp at h
    len := by have e := hd.len; simp [rhoOf, L2.start]; omega
    slot := fun i s h => by
      cases i with
      | zero =>
        have e : s = .sto B := by simpa using h.symm
        subst e
        exact ⟨start_get rfl, hok⟩
      | succ i =>
        rcases rhoOf_get (show (rhoOf (Nm.length - 1) ds)[i]? = some s by simpa using h) with e | ⟨d, e, e2⟩
        · subst e; trivial
        · subst e2
          obtain ⟨v, h1, h2⟩ := hd.get e
          exact ⟨v, start_get (by simpa using h1), h2⟩
    injH := fun i di dj p h => by
      cases i with
      | zero => simp at h
      | succ i =>
        rcases rhoOf_get (show (rhoOf (Nm.length - 1) ds)[i]? = some (.own di) by simpa using h) with e | ⟨d, _, e2⟩
        · cases e
        · cases e2
    inj := fun i j di dj p h => by
      cases i with
      | zero => simp at h
      | succ i =>
        rcases rhoOf_get (show (rhoOf (Nm.length - 1) ds)[i]? = some (.own di) by simpa using h) with e | ⟨d, _, e2⟩
        · cases e
        · cases e2 }
  refine b S B ds Φ hF hT H N [] N _ H _ E0 ⟨fun _ _ _ _ q => q.elim, fun N' σ' H' ρ' v d ⟨B', e, q⟩ E' dv => ?_, fun _ _ _ _ q => q.elim, fun _ _ _ _ q => q.elim⟩
  exact hQ _ _ q _ _ (fun b o n h => E'.keep b o n h) (E'.slot 0 _ e).2 dv
/-- a call of such a def -/
theorem wd_call {T : List PyData → (PyData → Prop) → Prop} {dvs : List V} {dds : List PyData} {E : XK} {ta : TA} (hd : ∀ H : Hp, DtAll K H dvs dds) (h : WA K S ta ρ fun xs ρ1 => T (xs ++ dds) fun d => Φ d ρ1) :
    WD K S (tCall (spP K T) dvs E ta) ρ Φ := fun H0 N0 Z N σ H E' Q q =>
  h H0 N0 Z N σ H E' _ fun vs xs ρ1 H1 f E1 k1 d1 => ⟨N, xs ++ dds, _, E1.trk, d1.append (hd _), f, fun d fd v H2 s dv => q v d ρ1 H2 fd (E1.ext s) (k1.trans (Keep.of s)) dv⟩
theorem wd_call0 {T : List PyData → (PyData → Prop) → Prop} {E : XK} {ta : TA} (h : WA K S ta ρ fun xs ρ1 => T xs fun d => Φ d ρ1) : WD K S (tCall (spP K T) [] E ta) ρ Φ :=
  wd_call (dds := []) (fun _ => DtAll.nil) (fun H0 N0 Z N σ H E' Q q => h H0 N0 Z N σ H E' Q fun vs ds ρ' H' f => q vs ds ρ' H' (by show T (ds ++ []) _; rw [List.append_nil]; exact f))
/-- by names -/
theorem wd_callN {T : List PyData → (PyData → Prop) → Prop} {n m : Nat} {gV : List V → List V → List V} {gD : List PyData → List PyData → List PyData} {E : XK} {ta tk : TA}
    (hg : ∀ (N : Av) (H : Hp) vs zs ds es, DqAll K N H vs ds → DqAll K N H zs es → DqAll K N H (gV vs zs) (gD ds es))
    (h : WA K S ta ρ fun xs ρ1 => WA K S tk ρ1 fun ys ρ2 => xs.length = n ∧ ys.length = m ∧ T (gD xs ys) fun d => Φ d ρ2) : WD K S (tCallN n m (spP K T) gV E ta tk) ρ Φ := fun H0 N0 Z N σ H E' Q q =>
  h H0 N0 Z N σ H E' _ fun vs xs ρ1 H1 f E1 k1 d1 => f H0 N0 Z N σ H1 E1 _ fun zs ys ρ2 H2 ⟨l1, l2, f2⟩ E2 k2 d2 =>
    ⟨by rw [d1.len]; exact l1, by rw [d2.len]; exact l2, N, _, _, E2.trk, hg N H2 vs zs xs ys (d1.keep k2) d2, f2, fun d fd v H3 s dv => q v d ρ2 H3 fd (E2.ext s) ((k1.trans k2).trans (Keep.of s)) dv⟩
/-- a call of a def that takes the store -/
theorem wd_callS {F : Stt → Prop} {T : Nat → List PyData → (PyData → Nat → Prop) → Prop} {E : XK} {ta : TA} {i : Nat} {B0 : Nat} (hF : F S) (hi : ρ[i]? = some (.sto B0))
    (h : WA K S ta ρ fun xs ρ1 => ∃ B, ρ1[i]? = some (.sto B) ∧ T B xs fun d B' => Φ d (stoAll B' ρ1)) : WD K S (tCall (spS K F T) [] E (tCons (tVar i) ta)) ρ Φ := fun H0 N0 Z N σ H E' Q q => by
  obtain ⟨hs, _⟩ := E'.slot i _ hi
  refine ⟨_, hs, h H0 N0 Z N σ H E' _ fun vs xs ρ1 H1 ⟨B, e, f⟩ E1 k1 d1 => ?_⟩
  obtain ⟨_, hok⟩ := E1.slot i _ e
  refine ⟨S, N, vs, xs, B, _, by simp, hF, hok, E1.sub, E1.trk, d1, f, fun d B' fd v H2 fr ok2 dv => ?_⟩
  have kk : Keep N H1 H2 := fun b o n hb => fr b o (by
    cases z : S.fp b with
    | false => rfl
    | true => rw [E1.sub b z] at n; cases n) hb
  have E2 : EnvD K S H0 N0 Z N σ H2 (stoAll B' ρ1) := {
    keep := fun b o n hb => fr b o n (E1.keep b o n hb)
    base := E1.base
    trk := fun b hb => by
      cases z : S.fp b with
      | true => exact S.trk H2 B' ok2 b z
      | false =>
        intro q2
        cases w : H1 b with
        | none => exact E1.trk b hb w
        | some o => rw [fr b o z w] at q2; cases q2
    sub := E1.sub
    len := by rw [stoAll_len]; exact E1.len
    slot := fun j s hj => by
      rcases stoAll_get hj with ⟨e1, B1, e2⟩ | ⟨e1, e2⟩
      · subst e1
        exact ⟨(E1.slot j _ e2).1, ok2⟩
      · have w := E1.slot j _ e2
        cases s with
        | unk => trivial
        | dat d => obtain ⟨u, h1, h2⟩ := w; exact ⟨u, h1, h2.keep kk⟩
        | own us => obtain ⟨p, zs, h1, h2, h3, h4, h5, h6, h7⟩ := w; exact ⟨p, zs, h1, h2, h3, h4, h5, fr _ _ h3 h6, h7.keep kk⟩
        | sto B2 => exact absurd rfl (e1 B2)
        | scr ns => obtain ⟨a, h1, h2⟩ := w; exact ⟨a, h1, kk.wo.seq h2⟩
    hid := fun z hz => by
      have w := E1.hid z hz
      cases z with
      | dat v d => exact Dq.keep w kk
      | own p us => obtain ⟨zs, h2, h3, h4, h5, h6, h7⟩ := w; exact ⟨zs, h2, h3, h4, h5, fr _ _ h3 h6, h7.keep kk⟩
    injZ := E1.injZ
    injH := fun a da dj p h1 => by
      rcases stoAll_get h1 with ⟨e1, _⟩ | ⟨_, e2⟩
      · cases e1
      · exact E1.injH a da dj p e2
    inj := fun a b da db p h1 h2 => by
      rcases stoAll_get h1 with ⟨e1, _⟩ | ⟨_, e2⟩
      · cases e1
      · rcases stoAll_get h2 with ⟨e1, _⟩ | ⟨_, e3⟩
        · cases e1
        · exact E1.inj a b da db p e2 e3 }
  exact q v d _ H2 fd E2 (k1.trans kk) dv
/-- what is asked of the script: its length -/
theorem wd_len_scr {i : Nat} {ns : List Int} (h : ρ[i]? = some (.scr ns)) (f : Φ (.int ns.length) ρ) :
    WD K S (tCB (fun xs H Q => ∃ p ys, xs = [.ref p] ∧ (SqL K H p ys ∨ SqT K H p ys) ∧ Q (.int ys.length) H) (tCons (tVar i) tNil)) ρ Φ := fun H0 N0 Z N σ H E Q q => by
  obtain ⟨a, h1, h2⟩ := E.slot i _ h
  exact ⟨_, h1, a, _, rfl, .inl ((Same.wo1).seq h2), q _ _ ρ H (by rw [List.length_map]; exact f) E Keep.refl (Dt.int _)⟩
end
/-- nothing is let out -/
theorem passes_no {P : Program} {w : World} {X : Cx} (hP : X.prog = P := by rfl) : Passes (L2.CX P w) X (fun _ _ _ => False) := fun _ _ _ _ _ _ _ h => by
  obtain ⟨_, _, _, _, _, _, _, _, _, _, _, _, z⟩ := h
  exact z.elim
end DL

set_option Elab.async false
set_option linter.all false
set_option maxRecDepth 100000
set_option maxHeartbeats 2000000
namespace DL
open PySem PySem.Spec PyProof.Rows L2
/-- a def's promise where no text of a list is being made around the call -/
structure FnG (P : Program) (w : World) (K : PySem.W.Frag) (mg : Str → Option Value) (base : Heap) (CX : CXT) (k : Nat) (f : Addr) (fd : FuncData) (ps : List Str) (sp : Sp) : Prop where
  len : ∀ vs H Q E, sp vs H Q E → vs.length = ps.length
  run : ∀ (A : Around) (outer : List Env) (s : Shared) (H : Hp) (args : Args) (us : List Value) (vs : List V) (Q : VK) (E : XK), A.guards = some [] → Room k A → Env0 P w K mg base A outer s H →
    BindsTo s fd args (ps.zip us) → Vals vs us → sp vs H Q E → codeAny (model P w) A (.call (.ref f) args) (CR CX outer P w H s Q E) s
section
variable {P : Program} {w : World} {K : PySem.W.Frag} {mg : Str → Option Value} {base : Heap}
theorem fnG_of {CX : CXT} {k : Nat} {f : Addr} {nm ql : Str} {prm : Arguments} {bd : List Stmt} {sc : Scope} {dV kV doc pm cdv ct oc : Value} {an od : Option Addr} {osl : Array (Option Value)} {Nm ps : List Str} {sp : Sp}
    (lk : K.lookup f = some ⟨oc, od, .func (PySem.W.fnOf nm ql prm bd sc dV kV doc pm an cdv ct), osl⟩) (hcd : PySem.W.codeIn K cdv ql = true) (F : FnScope Nm ps sc) (len : ∀ vs H Q E, sp vs H Q E → vs.length = ps.length)
    (hb : ∀ (A : Around) (outer : List Env) (s : Shared) (H : Hp) (vs : List V) (Q : VK) (E : XK), A.guards = some [] → Room k (A.deeper (envOfC ql sc s.heap.objs.size f cdv)) → sp vs H Q E →
      ∃ t, PSs (cxOf CX P w K mg base Nm ql sc f cdv A outer s H E) bd t ∧ t { nx := fun _ H' => Q .non H', rt := Q } (L2.start Nm vs) H) :
    FnG P w K mg base CX (k + 1) f (PySem.W.fnOf nm ql prm bd sc dV kV doc pm an cdv ct) ps sp where
  len := len
  run A outer s H args us vs Q E hg room env bnd vals hsp := by
    have el := len vs H Q E hsp
    have inK : K.In s.heap := env.mod.kin.keeps fun b o z => (env.bs b o z).1
    have noL : s.heap.NoLimit := env.mod.nolimit.keeps fun b o z => (env.bs b o z).1
    have places : ∀ y ∈ ps.zip us, sc.names.lookup y.1 = some .local ∨ (sc.names.lookup y.1 = some .cell ∧ ((cellsFrom (s.heap.objs.size + 1) sc.names []).lookup y.1).isSome = true) := by
      rintro ⟨y, u⟩ hy
      cases F.par y (List.of_mem_zip hy).1 with
      | inl q => exact .inl q
      | inr q => exact .inr ⟨q, PySem.W.cellsFrom_some _ _ _ (.inl q)⟩
    refine codeAny_call_function room.depth (inK _ _ lk) rfl F.co F.gen rfl (PySem.W.codeRec_of inK hcd) (bnd _ _ _ _ ?_)
    refine wpAny_newFunctionEnv_cells F.kind places fun env' he s1 x => ?_
    subst he
    refine ⟨noL.keeps x.toInCall.keep, codeAny_func ?_⟩
    obtain ⟨t, ht, hq⟩ := hb A outer s H vs Q E hg (room.deeper _) hsp
    have J0 := inv_start (CX := CX) (E := E) F room.hd env el vals x
    refine wpAny_mono (ht.run [] s1 (L2.start Nm vs) H _ J0 hq) (fun fl s' hs => ?_) fun _ _ z => z
    have done : ∀ {τ : L2.St} {H' : Hp} {v : V} {u : Value}, Inv (cxOf CX P w K mg base Nm ql sc f cdv A outer s H E) [] τ H' s' → RelV v u → Q v H' → CE outer P w H s Q u s' := by
      intro τ H' v u J rv q
      exact ⟨v, H', J.os, J.bare, J.base, J.hok, rv, q⟩
    match fl, hs with
    | .ret u, ⟨v, _, H', J, rv, q⟩ => exact done J rv q
    | .next, ⟨_, H', J, q⟩ => exact done (v := V.non) (u := Value.none) J rfl q
    | .brk, ⟨_, _, _, q⟩ => exact q.elim
    | .cont, ⟨_, _, _, q⟩ => exact q.elim
/-- THE RULE for such a def -/
theorem FunD_okG {x ql : Str} {prm : Arguments} {bd : List Stmt} {sc : Scope} {dvs : List V} {kws : List (Str × V)} {f : Addr} {fd : FuncData} {CX : CXT} {Nm ps : List Str} {k : Nat} {sp : Sp} (F : FunD K x ql prm bd sc dvs kws f fd) (S : FnScope Nm ps sc) (len : ∀ vs H Q E, sp vs H Q E → vs.length = ps.length)
    (hb : ∀ (cdv : Value) (A : Around) (outer : List Env) (s : Shared) (H : Hp) (vs : List V) (Q : VK) (E : XK), A.guards = some [] → Room k (A.deeper (envOfC ql sc s.heap.objs.size f cdv)) → sp vs H Q E →
      ∃ t, PSs (cxOf CX P w K mg base Nm ql sc f cdv A outer s H E) bd t ∧ t { nx := fun _ H' => Q .non H', rt := Q } (L2.start Nm vs) H) : FnG P w K mg base CX (k + 1) f fd ps sp := by
  obtain ⟨oc, od, dV, kV, doc, pm, an, cdv, ct, osl, rfl, lk, hcd, _, _⟩ := F.ex
  exact fnG_of lk hcd S len fun A outer s H vs Q E => hb cdv A outer s H vs Q E
end
/-- the call of such a def, where no text of a list is being made -/
theorem pe_callG {X : Cx} {CX : CXT} {k : Nat} {f : Addr} {fd : FuncData} {ps : List Str} {sp : Sp} {E : XK} {x : Str} {p pos : Pos} {e : Expr} {es : List Expr} {t : TA} (F : FnG X.prog X.w X.K X.mg X.base CX k f fd ps sp) (hgd : X.A.guards = some []) (hr : Room k X.A) (hg : Gl X x) (hm : X.mg x = some (.ref f))
    (hk : PySem.W.keepIn X.K (.ref f) = true) (hb : Binds X.K fd ps []) (hx : Passes CX X E) (ha : PA X (e :: es) t) (hdb : (x == ("__debug__" : Str)) = false := by decide) (he : starEach (e :: es) X.env = (false, eval e X.env) :: starEach es X.env := by rfl)
    (hpl : (backTo pos (starEach es X.env)).any (·.1) = false := by rfl) : PE X (.Call (.Name x p) (e :: es) [] pos) (tCall sp [] E t) := by
  refine ⟨fun pins s σ H Q I h => ?_⟩
  refine wpAny_Call_Name_kw (ld_glob I hg hm ?_ hdb)
  refine PySem.W.callWith_K (h₀ := X.base) I.ok.mod.kin hk (thn (ha.run pos pins s σ H _ I h) fun us s1 ⟨vs, H1, I1, r, q⟩ => ⟨I1.kIn, ?_⟩) he hpl
  have q : sp vs H1 Q E := by
    have q' : sp (vs ++ []) H1 Q E := q
    rw [List.append_nil] at q'
    exact q'
  have hl : us.length = ps.length := r.length.symm.trans (F.len _ _ _ _ q)
  have hbd := hb s1 us I1.kIn (by rw [List.append_nil]; exact hl)
  rw [List.append_nil] at hbd
  refine wpAny_call (codeAny_mono (F.run X.A X.stack s1 H1 ⟨us, []⟩ us vs Q E hgd hr I1.env0 hbd r q) fun r s' hq => ?_)
  match r, hq with
  | .error z, hq => exact hx pins σ H1 s1 z s' I1 hq
  | .ok (.ret u), hq => exact I1.after hq
  | .ok .next, hq => exact hq.elim
  | .ok .brk, hq => exact hq.elim
  | .ok .cont, hq => exact hq.elim
/-! ### repr of data -/
def rRepr (K : PySem.W.Frag) : List V → Hp → VK → Prop := fun xs H Q => ∃ x d, xs = [x] ∧ Dp K H x d ∧ (∃ a, x = .ref a) ∧ d.showable = true ∧ d.hasDict = false ∧ d.shown.length ≤ sizeLine ∧ d.depth ≤ 50 ∧ Q (.str d.shown) H
theorem call_repr_data {X : Cx} (hgd : X.A.guards = some []) (hu : X.A.units + 64 < cLine) : CallR X (.builtin "repr") (rRepr X.K) := by
  intro pins s σ H xs us Q I r h
  obtain ⟨x, d, rfl, hd, ⟨a, rfl⟩, h1, h2, h3, h4, q⟩ := h
  obtain ⟨u, rfl, ru⟩ := vals1 r
  cases ru
  obtain ⟨as, rd⟩ := Dp.reads I d _ _ hd rfl
  refine repr_of_reads' rd h1 (fun z => by rw [h2] at z; cases z) hgd (by omega) (fun b o e => e) (fun h' u tk hk => ?_) h3
  exact ⟨.str d.shown, H, I.kept (t' := tk) hk, ⟨u, rfl⟩, q⟩
theorem dc_repr {K : PySem.W.Frag} {d : PyData} {Ψ : PyData → Prop} (hl : (∃ ds, d = .list ds) ∨ ∃ ds, d = .tuple ds) (h1 : d.showable = true) (h2 : d.hasDict = false) (h3 : d.shown.length ≤ sizeLine) (h4 : d.depth ≤ 50) (h : Ψ (.str d.shown)) : DC K (rRepr K) [d] Ψ := fun N H _ us hu Q q => by
  cases hu with
  | cons a1 a2 =>
    cases a2
    have hr : ∀ {v : V}, Dq K N H v d → ∃ a, v = .ref a := fun {v} hv => by
      rcases hl with ⟨ds, rfl⟩ | ⟨ds, rfl⟩
      · obtain ⟨p, _, e, _⟩ := hv.lst_inv; exact ⟨p, e⟩
      · obtain ⟨p, _, e, _⟩ := hv.tup_inv; exact ⟨p, e⟩
    exact ⟨_, d, rfl, Dq.dp a1 h2, hr a1, h1, h2, h3, h4, q _ _ H h (Same.refl H) (Dt.str _)⟩
/-! ### the law's own call -/
section
variable {P : Program} {w : World} {K : PySem.W.Frag} {mg mb : Str → Option Value} {CX : CXT} {k : Nat} {fa a : Addr} {fd : FuncData} {x : Str} {sp : Sp} {s₁ : Shared} {vs : List Value} {ns : List Int}
/-- from an abstract heap that tells the script alone -/
theorem lawG_core (KX : K.In s₁.heap) (hns : s₁.heap.Ns mainGlobals mg) (hb : s₁.heap.Ns builtinsNs mb) (hbb : ∀ x : Str, x ≠ "__name__" → mb x = bootBuiltins x) (hlim : s₁.heap.NoLimit) (hg : s₁.gens = #[])
    (ha : s₁.heap.get? a = some { cls := .type "list", data := .seq vs.toArray }) (hr : Room k callerA)
    (F : ∀ base : Heap, K.In base → base.Ns mainGlobals mg → FnG P w K mg base CX k fa fd [x] sp) (hbind : ∀ (s : Shared) (u : Value), BindsTo s fd ⟨[u], []⟩ [(x, u)])
    (hCX : ∀ H e s', CX [] H s₁ (fun _ _ _ => False) e s' → False) (H : Hp) (hO : Only H) (hsp : sp [.ref a] H (fun v _ => v = .bl true) fun _ _ _ => False) (hok : HOk P w H s₁.heap) (hA : ∀ b u, H b = some u → b = a) (hK : ∀ u, H a = some u → K.lookup a = none) :
    codeAny (model P w) callerA (.call (.ref fa) ⟨[.ref a], []⟩) (fun r s' => r = .ok (.ret (.bool true)) ∧ OldK s₁.heap s'.heap ∧ s'.os = s₁.os ∧ AllBare s'.gens) s₁ := by
  have dictFree : ∀ {c : Addr} {o : Obj} {es : Array DictEntry} {m : Nat}, s₁.heap.get? c = some o → o.data = .dict es m → H c = none := by
    intro c o es m hc hd
    match hq : H c with
    | none => rfl
    | some u =>
      obtain rfl := hA c u hq
      rw [ha] at hc
      cases hc
      exact absurd hd (fun z => nomatch z)
  have nsH : ∀ {c : Addr} {m : Str → Option Value}, s₁.heap.Ns c m → (hidT s₁.heap H).Ns c m := by
    rintro c m ⟨o, es, ep, e, d, r⟩
    exact ⟨o, es, ep, hidT_get e (dictFree e d), d, r⟩
  have inH : K.In (hidT s₁.heap H) := by
    intro c o hc
    refine hidT_get (KX c o hc) ?_
    match hq : H c with
    | none => rfl
    | some u =>
      obtain rfl := hA c u hq
      rw [hK u hq] at hc
      cases hc
  obtain ⟨mc, m1, m2⟩ := hlim
  have md : Mod K mg (hidT s₁.heap H) := ⟨inH, nsH hns, ⟨mb, nsH hb, hbb⟩, ⟨mc, nsH m1, m2⟩⟩
  have noF : ∀ {c : Addr}, c ∉ frs ([] : List Env) := fun z => by cases z
  have env : Env0 P w K mg (hidT s₁.heap H) callerA [] s₁ H := ⟨rfl, md, fun c o e => of_hidT e, Nat.le_of_eq (hidT_size _ _), trivial, fun c hc => absurd hc noF, hok, .of_eq hg⟩
  refine codeAny_mono ((F _ inH (nsH hns)).run callerA [] s₁ H ⟨[.ref a], []⟩ [.ref a] [.ref a] _ _ rfl hr env (hbind s₁ (.ref a)) (.cons rfl .nil) hsp) fun r s' hr' => ?_
  match r, hr' with
  | .error e, z => exact (hCX H e s' z).elim
  | .ok .next, z => exact z.elim
  | .ok .brk, z => exact z.elim
  | .ok .cont, z => exact z.elim
  | .ok (.ret u), ⟨v, H', os, bare, un, hok', rv, q⟩ =>
    have q' : v = .bl true := q
    subst q'
    obtain rfl : u = Value.bool true := rv
    refine ⟨rfl, OldK.of_keep fun c o e => ?_, os, bare⟩
    match hq : H c with
    | none => exact un.keep c o e hq noF (by simp)
    | some u =>
      rcases hO c with z | ⟨ob, xs, z⟩
      · rw [hq] at z; cases z
      · have z2 := un.frzs c ob _ z
        have e1 := (hok c _ z).1
        have e2 := (hok' c _ z2).1
        rw [e] at e1
        cases e1
        exact e2
theorem lawG_call (KX : K.In s₁.heap) (hns : s₁.heap.Ns mainGlobals mg) (hb : s₁.heap.Ns builtinsNs mb) (hbb : ∀ x : Str, x ≠ "__name__" → mb x = bootBuiltins x) (hlim : s₁.heap.NoLimit) (hg : s₁.gens = #[])
    (ha : s₁.heap.get? a = some { cls := .type "list", data := .seq vs.toArray }) (hi : IntsAre vs ns) (hl : ns.length ≤ sizeLine) (hr : Room k callerA)
    (F : ∀ base : Heap, K.In base → base.Ns mainGlobals mg → FnG P w K mg base CX k fa fd [x] sp) (hbind : ∀ (s : Shared) (u : Value), BindsTo s fd ⟨[u], []⟩ [(x, u)])
    (hsp : ∀ H : Hp, Only H → SqL K H a (ns.map V.int) → sp [.ref a] H (fun v _ => v = .bl true) fun _ _ _ => False)
    (hCX : ∀ H e s', CX [] H s₁ (fun _ _ _ => False) e s' → False) :
    codeAny (model P w) callerA (.call (.ref fa) ⟨[.ref a], []⟩) (fun r s' => r = .ok (.ret (.bool true)) ∧ OldK s₁.heap s'.heap ∧ s'.os = s₁.os ∧ AllBare s'.gens) s₁ := by
  have rv := vals_ints hi
  have hlv : vs.length ≤ sizeLine := by rw [hi.length]; exact hl
  match hk : K.lookup a with
  | some o =>
    have e := KX a o hk
    rw [ha] at e
    cases e
    have hO : Only (fun _ => none) := fun _ => .inl rfl
    refine lawG_core KX hns hb hbb hlim hg ha hr F hbind hCX (fun _ => none) hO (hsp _ hO (.inr ⟨_, vs.toArray, _, hk, rfl, rfl, rfl, by simpa using hlv, by simpa using rv⟩)) (fun _ _ z => nomatch z) (fun _ _ z => nomatch z) fun _ z => nomatch z
  | none =>
    let lst : Obj := { cls := .type "list", data := .seq vs.toArray }
    have at_a : (fun b => if b = a then some (HO.frz lst (.lst (ns.map V.int))) else none : Hp) a = some (.frz lst (.lst (ns.map V.int))) := if_pos rfl
    have only_a : ∀ b u, (fun b => if b = a then some (HO.frz lst (.lst (ns.map V.int))) else none : Hp) b = some u → b = a := fun b u z => Decidable.byContradiction fun q => by
      have z' : (none : Option HO) = some u := (if_neg q).symm.trans z
      cases z'
    have hO : Only (fun b => if b = a then some (HO.frz lst (.lst (ns.map V.int))) else none : Hp) := fun b => by
      by_cases q : b = a
      · exact .inr ⟨_, _, if_pos q⟩
      · exact .inl (if_neg q)
    refine lawG_core KX hns hb hbb hlim hg ha hr F hbind hCX _ hO (hsp _ hO (.inl (.inr ⟨lst, at_a⟩))) (fun b u z => ?_) only_a fun _ _ => hk
    obtain rfl := only_a b u z
    have z' : some (HO.frz lst (.lst (ns.map V.int))) = some u := at_a.symm.trans z
    cases z'
    exact ⟨ha, by rw [List.length_map]; exact hl, vs, _, rv, ha⟩
end
/-- the goal behind the head -/
theorem walk_ofG {l : PySem.W.OpenLaw} {n k : Nat} {q : Program} {loose : List Str} {XP : (Str → Option Value) → Heap → Prop} {YP : World → Heap → Prop} {d : DefRec} {CX : CXT} {x : Str}
    (hn : l.most = some n) (hn2 : n ≤ sizeLine) (hdf : d.params.defaults = []) (hr : Room k callerA)
    (F : ∀ (w : World) (mg : Str → Option Value) (fa : Addr) (h : Heap), YP w h → h.Ns mainGlobals mg → mg d.name = some (.ref fa) →
      ∃ (K : PySem.W.Frag) (fd : FuncData) (sp : Sp), K.In h ∧ (∀ (s : Shared) (u : Value), BindsTo s fd ⟨[u], []⟩ [(x, u)]) ∧
        (∀ (H : Hp) (a : Addr) (ns : List Int), ns.length ≤ n → Only H → SqL K H a (ns.map V.int) → sp [.ref a] H (fun v _ => v = .bl true) fun _ _ _ => False) ∧
        ∀ base : Heap, K.In base → base.Ns mainGlobals mg → FnG l.prog w K mg base CX k fa fd [x] sp)
    (hCX : ∀ (H : Hp) (s : Shared) (e : Value) (s' : Shared), CX [] H s (fun _ _ _ => False) e s' → False) : PySem.W.WalkO q loose XP YP l.row.toRowW d [] (fun f vs => PySem.call f vs) :=
  Att.attach_call hn hdf fun w s₀ s₁ mg mb fa o pm cd doc a vs ns G Y _ _ _ hmg hobj hints hlen hg =>
    let ⟨_, _, _, KX, hbd, hsp, hF⟩ := F w mg fa _ Y G.T.g hmg
    lawG_call KX G.T.g G.T.b G.T.builtins G.T.nolimit hg hobj hints (Nat.le_trans hlen hn2) hr hF hbd (fun H hO hS => hsp H a ns hlen hO hS) fun H e s' => hCX H s₁ e s'
end DL

set_option Elab.async false
set_option linter.all false
set_option maxRecDepth 100000
set_option maxHeartbeats 2000000
namespace DL
open PySem PySem.Spec PyProof.Rows L2
/-- a def of the text and its promise, as a caller wants them -/
structure Has (P : Program) (w : World) (K : PySem.W.Frag) (mg : Str → Option Value) (base : Heap) (CX : CXT) (x : Str) (k : Nat) (ps : List Str) (sp : Sp) (dvs : List V) : Prop where
  ex : ∃ (f : Addr) (fd : FuncData) (ds : List Value), FnOk P w K mg base CX k f fd ps sp ∧ mg x = some (.ref f) ∧ PySem.W.keepIn K (.ref f) = true ∧ Binds K fd ps ds ∧ Vals dvs ds
structure HasG (P : Program) (w : World) (K : PySem.W.Frag) (mg : Str → Option Value) (base : Heap) (CX : CXT) (x : Str) (k : Nat) (ps : List Str) (sp : Sp) : Prop where
  ex : ∃ (f : Addr) (fd : FuncData), FnG P w K mg base CX k f fd ps sp ∧ mg x = some (.ref f) ∧ PySem.W.keepIn K (.ref f) = true ∧ Binds K fd ps []
/-- .. by names: n places, then the names ks -/
structure HasK (P : Program) (w : World) (K : PySem.W.Frag) (mg : Str → Option Value) (base : Heap) (CX : CXT) (x : Str) (k : Nat) (ps : List Str) (sp : Sp) (n : Nat) (ks : List Str) (gV : List V → List V → List V) : Prop where
  ex : ∃ (f : Addr) (fd : FuncData) (g : List Value → List Value → List Value), FnOk P w K mg base CX k f fd ps sp ∧ mg x = some (.ref f) ∧ PySem.W.keepIn K (.ref f) = true ∧ KBn K fd ps n ks g gV
section
variable {X : Cx} {CX : CXT} {k : Nat} {ps ks : List Str} {sp : Sp} {E : XK} {x : Str} {p pos : Pos} {e : Expr} {es : List Expr} {kws : List Keyword} {t tk : TA} {dvs : List V} {n : Nat} {gV : List V → List V → List V}
theorem pe_has (h : Has X.prog X.w X.K X.mg X.base CX x k ps sp dvs) (hr : Room k X.A) (hx : Passes CX X E) (ha : PA X (e :: es) t) (hg : Gl X x := by rfl) (hdb : (x == ("__debug__" : Str)) = false := by decide)
    (he : starEach (e :: es) X.env = (false, eval e X.env) :: starEach es X.env := by rfl) (hpl : (backTo pos (starEach es X.env)).any (·.1) = false := by rfl) : PE X (.Call (.Name x p) (e :: es) [] pos) (tCall sp dvs E t) := by
  obtain ⟨f, fd, ds, F, hm, hk, hb, hd⟩ := h.ex
  exact pe_call F hr hg hm hk hb hd hx ha hdb he hpl
theorem pe_has0 (h : Has X.prog X.w X.K X.mg X.base CX x k ps sp dvs) (hr : Room k X.A) (hx : Passes CX X E) (hg : Gl X x := by rfl) (hdb : (x == ("__debug__" : Str)) = false := by decide) : PE X (.Call (.Name x p) [] [] pos) (tCall sp dvs E tNil) := by
  obtain ⟨f, fd, ds, F, hm, hk, hb, hd⟩ := h.ex
  exact pe_call0 F hr hg hm hk hb hd hx hdb
theorem pe_hasG (h : HasG X.prog X.w X.K X.mg X.base CX x k ps sp) (hgd : X.A.guards = some []) (hr : Room k X.A) (hx : Passes CX X E) (ha : PA X (e :: es) t) (hg : Gl X x := by rfl) (hdb : (x == ("__debug__" : Str)) = false := by decide)
    (he : starEach (e :: es) X.env = (false, eval e X.env) :: starEach es X.env := by rfl) (hpl : (backTo pos (starEach es X.env)).any (·.1) = false := by rfl) : PE X (.Call (.Name x p) (e :: es) [] pos) (tCall sp [] E t) := by
  obtain ⟨f, fd, F, hm, hk, hb⟩ := h.ex
  exact pe_callG F hgd hr hg hm hk hb hx ha hdb he hpl
theorem pe_hasK (h : HasK X.prog X.w X.K X.mg X.base CX x k ps sp n ks gV) (hr : Room k X.A) (hx : Passes CX X E) (ha : PA X (e :: es) t) (hkw : PK X kws tk) (hg : Gl X x := by rfl) (hall : (backToKw pos (keywordEach kws X.env)).all (·.1.isSome) = true := by rfl)
    (hks : (backToKw pos (keywordEach kws X.env)).filterMap (·.1) = ks := by rfl) (hdb : (x == ("__debug__" : Str)) = false := by decide) (he : starEach (e :: es) X.env = (false, eval e X.env) :: starEach es X.env := by rfl)
    (hpl : ((backTo pos (starEach (e :: es) X.env)).any (·.1) || (backToKw pos (keywordEach kws X.env)).any (·.1.isNone)) = false := by rfl) : PE X (.Call (.Name x p) (e :: es) kws pos) (tCallN n ks.length sp gV E t tk) := by
  obtain ⟨f, fd, g, F, hm, hk, hb⟩ := h.ex
  exact pe_callN F hr hg hm hk hb hx ha hkw hall hks hdb he hpl
theorem pe_hasK0 (h : HasK X.prog X.w X.K X.mg X.base CX x k ps sp 0 ks gV) (hr : Room k X.A) (hx : Passes CX X E) (hkw : PK X kws tk) (hg : Gl X x := by rfl) (hall : (backToKw pos (keywordEach kws X.env)).all (·.1.isSome) = true := by rfl)
    (hks : (backToKw pos (keywordEach kws X.env)).filterMap (·.1) = ks := by rfl) (hdb : (x == ("__debug__" : Str)) = false := by decide)
    (hpl : ((backTo pos (starEach [] X.env)).any (·.1) || (backToKw pos (keywordEach kws X.env)).any (·.1.isNone)) = false := by rfl) : PE X (.Call (.Name x p) [] kws pos) (tCallN 0 ks.length sp gV E tNil tk) := by
  obtain ⟨f, fd, g, F, hm, hk, hb⟩ := h.ex
  refine ⟨fun pins s σ H Q I h => ?_⟩
  refine wpAny_Call_Name_kw (ld_glob I hg hm ?_ hdb)
  refine PySem.W.callWith_KW0 (h₀ := X.base) I.ok.mod.kin hk hall (thn (hkw.run pos pins s σ H _ I h) fun ws s2 ⟨zs, H2, I2, rz, _, l2, q2⟩ => ⟨I2.kIn, ?_⟩) hpl
  rw [hks]
  exact run_fnN (us := []) F hr hb hx I2 .nil rz rfl l2 q2
/-- // by any divisor but nought, below 2 ^ 9000 -/
def CDivX (_ j : Int) : Prop := j ≠ 0 ∧ j.natAbs.log2 < 9000
theorem op_fdivX {X : Cx} : OpR X (binaryOp .FloorDiv) (rI CDivX fun i j => .int (i.fdiv j)) := opI fun i j _ _ _ _ _ hc q => floordiv_int hc.1 q (.inl (PyProof.noPylong_of_log2 hc.2))
end
end DL

set_option Elab.async false
set_option linter.all false
set_option maxRecDepth 100000
set_option maxHeartbeats 2000000
/-! DLC: what the laws' own helpers do: the store of draws -/
namespace DL
open PySem PySem.Spec PyProof.Rows L2
abbrev rAddI : R2 := rI0 fun i j => .int (i + j)
abbrev rSubI : R2 := rI0 fun i j => .int (i - j)
abbrev rMulI : R2 := rI CMulW fun i j => .int (i * j)
abbrev rDivI : R2 := rI CDivX fun i j => .int (i.fdiv j)
abbrev rModI : R2 := rI (fun _ j => j ≠ 0) fun i j => .int (i.fmod j)
abbrev rPowI : R2 := rI CPow fun i j => .int (i ^ j.toNat)
abbrev rLt : R2 := rI0 fun i j => .bl (decide (i < j))
abbrev rLe : R2 := rI0 fun i j => .bl (decide (i ≤ j))
abbrev rGt : R2 := rI0 fun i j => .bl (decide (j < i))
abbrev rGe : R2 := rI0 fun i j => .bl (decide (j ≤ i))
abbrev rNegI : V → Hp → VK → Prop := rU fun i => .int (-i)
abbrev rLenX (K : PySem.W.Frag) : List V → Hp → VK → Prop := fun xs H Q => ∃ p ys, xs = [.ref p] ∧ (SqL K H p ys ∨ SqT K H p ys) ∧ Q (.int ys.length) H
abbrev rAbsX : List V → Hp → VK → Prop := fun xs H Q => ∃ i, xs = [.int i] ∧ Q (.int (if i < 0 then -i else i)) H
abbrev rMinX : List V → Hp → VK → Prop := fun xs H Q => ∃ i j, xs = [.int i, .int j] ∧ Q (.int (if j < i then j else i)) H
abbrev rMaxX : List V → Hp → VK → Prop := fun xs H Q => ∃ i j, xs = [.int i, .int j] ∧ Q (.int (if j > i then j else i)) H
abbrev rStrI : List V → Hp → VK → Prop := fun xs H Q => ∃ i, xs = [.int i] ∧ i.natAbs.log2 < 1920 ∧ Q (.str (toString i)) H
abbrev rLenS : List V → Hp → VK → Prop := fun xs H Q => ∃ z : Str, xs = [.str z] ∧ z.length ≤ sizeLine ∧ Q (.int z.length) H

/-! ### the store -/
structure StoOk (a ga la : Addr) (H : Hp) (B : Nat) : Prop where
  ne1 : a ≠ ga
  ne2 : a ≠ la
  ne3 : ga ≠ la
  ex : ∃ (g l : List Int) (b s : Int), H a = some (.lst [.ref ga, .int b, .int s, .ref la]) ∧ H ga = some (.lst (g.map V.int)) ∧ H la = some (.lst (l.map V.int)) ∧
    g.length ≤ 63 ∧ l ≠ [] ∧ l.length ≤ 64 ∧ (∀ x ∈ l, 0 ≤ x ∧ x < 10 ^ 18) ∧ 0 ≤ b ∧ b < 2147483587 ∧ 0 ≤ s ∧ s ≤ B
def mkS (a ga la : Addr) : Stt where
  a := a
  fp b := decide (b = a) || decide (b = ga) || decide (b = la)
  ok := StoOk a ga la
  loc H H' B h k := by
    obtain ⟨h1, h2, h3, g, l, b, s, ha, hg, hl, r⟩ := k
    exact ⟨h1, h2, h3, g, l, b, s, (h a (by simp)).trans ha, (h ga (by simp)).trans hg, (h la (by simp)).trans hl, r⟩
  trk H B k b hb := by
    obtain ⟨h1, h2, h3, g, l, b', s, ha, hg, hl, r⟩ := k
    simp at hb
    rcases hb with (e | e) | e
    · rw [e, ha]; simp
    · rw [e, hg]; simp
    · rw [e, hl]; simp
def FSto (S : Stt) : Prop := ∃ a ga la, S = mkS a ga la
/-- a draw below m: any -/
def TDraw (c : Nat) (M : Int) (L : Nat) : Nat → List PyData → (PyData → Nat → Prop) → Prop := fun B ds Φ => ∃ m : Int, ds = [.int m] ∧ 1 ≤ m ∧ m ≤ M ∧ B ≤ L ∧ ∀ d : Int, 0 ≤ d → d < m → Φ (.int d) (B + c)
/-- the reading of the draw, sp: its own promise one level lower -/
def t_draw (K : PySem.W.Frag) (sp : Sp) : TS :=
  (tSeq (tWhile (tAnd (tTest (tOp (rNeD K) (tOp (rIxL K) (tVar 0) (tC (.int 0))) (tLst tNil))) (tTest (tOp rEq (tOp (rIxL K) (tOp (rIxL K) (tVar 0) (tC (.int 0))) (tC (.int 0))) (tC (.int 0))))) (tDrop (tBM K "list" rPopAt (tOp (rIxL K) (tVar 0) (tC (.int 0))) (tCons (tC (.int 0)) tNil))))
    (tSeq (tIfS (tTest (tOp (rNeD K) (tOp (rIxL K) (tVar 0) (tC (.int 0))) (tLst tNil))) (tSeq (tAsg (tOp rModI (tOp (rIxL K) (tOp (rIxL K) (tVar 0) (tC (.int 0))) (tC (.int 0))) (tVar 1)) (gName 2))
    (tSeq (tAsg (tOp rDivI (tOp (rIxL K) (tOp (rIxL K) (tVar 0) (tC (.int 0))) (tC (.int 0))) (tVar 1)) (gSub (tOp (rIxL K) (tVar 0) (tC (.int 0))) (tC (.int 0)) rSetL))
    (tRet (tVar 2)))) tNext)
    (tSeq (tIfS (tTest (tOp rGt (tVar 1) (tOp rPowI (tC (.int 10)) (tC (.int 6))))) (tSeq (tAsg (tC (.int 0)) (gName 3))
    (tSeq (tFor (iRng1 (tCons (tOp rAddI (tC (.int 1)) (tOp rDivI (tCB rLenS (tCons (tCB rStrI (tCons (tVar 1) tNil)) tNil)) (tC (.int 6)))) tNil)) (gName 4) (tAsg (tOp rAddI (tOp rMulI (tVar 3) (tOp rPowI (tC (.int 10)) (tC (.int 6)))) (tCall sp [] E0 (tCons (tVar 0) (tCons (tOp rPowI (tC (.int 10)) (tC (.int 6))) tNil)))) (gName 3)))
    (tRet (tOp rModI (tVar 3) (tVar 1))))) tNext)
    (tSeq (tAsg (tOp rAddI (tOp (rIxL K) (tVar 0) (tC (.int 2))) (tC (.int 1))) (gName 5))
    (tSeq (tAsg (tVar 5) (gSub (tVar 0) (tC (.int 2)) rSetL))
    (tSeq (tAsg (tLst (tCons (tC (.int 2147483563)) (tCons (tC (.int 2147483549)) (tCons (tC (.int 2147483543)) (tCons (tC (.int 2147483497)) (tCons (tC (.int 2147483489)) tNil)))))) (gName 6))
    (tSeq (tAsg (tOp (rIxL K) (tOp (rIxL K) (tVar 0) (tC (.int 3))) (tOp rModI (tVar 5) (tCB (rLenX K) (tCons (tOp (rIxL K) (tVar 0) (tC (.int 3))) tNil)))) (gName 7))
    (tSeq (tAsg (tOp rModI (tOp rPowI (tOp rAddI (tOp rAddI (tOp rAddI (tOp (rIxL K) (tVar 0) (tC (.int 1))) (tVar 7)) (tOp rMulI (tC (.int 104729)) (tVar 5))) (tC (.int 13))) (tC (.int 3))) (tOp (rIxL K) (tVar 6) (tOp rModI (tVar 5) (tC (.int 5))))) (gName 8))
    (tSeq (tAsg (tOp rAddI (tOp rAddI (tOp rMulI (tVar 8) (tVar 8)) (tOp rModI (tOp (rIxL K) (tVar 0) (tC (.int 1))) (tC (.int 1000003)))) (tVar 5)) (gName 9))
    (tRet (tOp rModI (tOp rDivI (tOp rModI (tOp rPowI (tVar 9) (tC (.int 5))) (tOp (rIxL K) (tVar 6) (tOp rModI (tOp rAddI (tVar 5) (tC (.int 2))) (tC (.int 5))))) (tC (.int 16))) (tVar 1))))))))))))

theorem sl_ints (g : List Int) : SeqAt.shaped (.list (g.map PyData.int)) = true := by
  have h1 : ∀ g : List Int, PyData.canLayAll0 (g.map PyData.int) = true := fun g => by
    induction g with
    | nil => rfl
    | cons x g ih => simp [PyData.canLayAll0, PyData.canLay0, ih]
  have h2 : ∀ g : List Int, PyData.depthAll (g.map PyData.int) ≤ 1 := fun g => by
    induction g with
    | nil => simp [PyData.depthAll]
    | cons x g ih => simp [PyData.depthAll, PyData.depth]; omega
  simp [SeqAt.shaped, PyData.canLay0, h1, PyData.depth]
  have := h2 g
  omega
end DL

set_option Elab.async false
set_option linter.all false
set_option maxRecDepth 100000
set_option maxHeartbeats 4000000
namespace DL
open PySem PySem.Spec PyProof.Rows L2
/-- the store's three lists, told -/
structure Sto5 (a ga la : Addr) (g l : List Int) (b s : Int) (H : Hp) : Prop where
  ha : H a = some (.lst [.ref ga, .int b, .int s, .ref la])
  hg : H ga = some (.lst (g.map V.int))
  hl : H la = some (.lst (l.map V.int))
theorem Sto5.same {a ga la : Addr} {g l : List Int} {b s : Int} {H H' : Hp} (h : Sto5 a ga la g l b s H) (e : Same H H') : Sto5 a ga la g l b s H' := ⟨e _ _ h.ha, e _ _ h.hg, e _ _ h.hl⟩
def FrS (a ga la : Addr) (H H' : Hp) : Prop := ∀ x o, x ≠ a → x ≠ ga → x ≠ la → H x = some o → H' x = some o
theorem FrS.of {a ga la : Addr} {H H' : Hp} (e : Same H H') : FrS a ga la H H' := fun x o _ _ _ h => e x o h
theorem FrS.trans {a ga la : Addr} {H H1 H2 : Hp} (e : FrS a ga la H H1) (f : FrS a ga la H1 H2) : FrS a ga la H H2 := fun x o n1 n2 n3 h => f x o n1 n2 n3 (e x o n1 n2 n3 h)
theorem FrS.set {a ga la p : Addr} {H H1 : Hp} (e : FrS a ga la H H1) (hp : p = a ∨ p = ga ∨ p = la) (o : HO) : FrS a ga la H (upd H1 p o) := fun x u n1 n2 n3 h => by
  rw [upd_ne (by rcases hp with q | q | q <;> rw [q] <;> assumption)]
  exact e x u n1 n2 n3 h
section
variable {K : PySem.W.Frag} {a ga la : Addr} {g l : List Int} {b s : Int} {H : Hp} {σ : L2.St}
/-- store[0], store[3] -/
theorem rd0 {Q : VK} (h : Sto5 a ga la g l b s H) (q : Q (.ref ga) H) : rIxL K (.ref a) (.int 0) H Q := ⟨a, _, 0, _, rfl, rfl, .inl (.inl h.ha), rfl, q⟩
theorem rd1 {Q : VK} (h : Sto5 a ga la g l b s H) (q : Q (.int b) H) : rIxL K (.ref a) (.int 1) H Q := ⟨a, _, 1, _, rfl, rfl, .inl (.inl h.ha), rfl, q⟩
theorem rd2 {Q : VK} (h : Sto5 a ga la g l b s H) (q : Q (.int s) H) : rIxL K (.ref a) (.int 2) H Q := ⟨a, _, 2, _, rfl, rfl, .inl (.inl h.ha), rfl, q⟩
theorem rd3 {Q : VK} (h : Sto5 a ga la g l b s H) (q : Q (.ref la) H) : rIxL K (.ref a) (.int 3) H Q := ⟨a, _, 3, _, rfl, rfl, .inl (.inl h.ha), rfl, q⟩
theorem rdg {Q : VK} {x : Int} {r : List Int} (h : Sto5 a ga la (x :: r) l b s H) (q : Q (.int x) H) : rIxL K (.ref ga) (.int 0) H Q := ⟨ga, _, 0, _, rfl, rfl, .inl (.inl h.hg), atI_nat (j := 0) rfl, q⟩
/-- store[0] != [] -/
theorem ne_nil {Q : Bool → Hp → Prop} (h : Sto5 a ga la g l b s H) (h0 : σ[0]? = some (some (.ref a))) (q : ∀ p, H p = none → Q (!g.isEmpty) (upd H p (.lst []))) :
    tTest (tOp (rNeD K) (tOp (rIxL K) (tVar 0) (tC (.int 0))) (tLst tNil)) σ H Q := by
  refine ⟨_, h0, ?_⟩
  dsimp only [tC]
  refine rd0 (K := K) h ?_
  refine ⟨Nat.zero_le _, fun p hp => ?_⟩
  have e := same_new hp (.lst [])
  have d1 : Dp K (upd H p (.lst [])) (.ref ga) (.list (g.map PyData.int)) := dt_dp _ _ (shaped_nd (sl_ints g)) (.lst (.inl (e _ _ h.hg)) (by
    have : ∀ g : List Int, DtAll K (upd H p (.lst [])) (g.map V.int) (g.map PyData.int) := fun g => by
      induction g with
      | nil => exact .nil
      | cons x g ih => exact .cons (.int x) ih
    exact this g))
  refine ⟨_, .list [], d1, .lst (.inl (.inl upd_same)) .nil, sl_ints g, by decide, _, rfl, ?_⟩
  have : PyData.eqv (.list (g.map PyData.int)) (.list []) = g.isEmpty := by
    cases g <;> simp [PyData.eqv, PyData.eqvAll]
  rw [this]
  exact q p hp
end
theorem log2_small {m : Int} {k : Nat} (h0 : 0 ≤ m) (h : m < 2 ^ k) (hk : 0 < k) : m.natAbs.log2 < k := PySem.Flt.log2_lt_of hk (by have e : ((2 ^ k : Nat) : Int) = (2 : Int) ^ k := Int.natCast_pow 2 k; omega)
theorem fmod_nn {i j : Int} (hj : 0 < j) : 0 ≤ i.fmod j ∧ i.fmod j < j := ⟨Int.fmod_nonneg_of_pos i hj, Int.fmod_lt_of_pos i hj⟩
theorem fdiv_nn {i j : Int} (hi : 0 ≤ i) (hj : 0 < j) : 0 ≤ i.fdiv j := Int.fdiv_nonneg hi (by omega)
/-- what a draw of a small number does behind the great ones -/
theorem draw_tail {K : PySem.W.Frag} {a ga la : Addr} {l : List Int} {b s : Int} {H : Hp} {m : Int} {x2 x3 x4 x5 x6 x7 x8 x9 : Option V} {Q : VK} {nx : L2.St → Hp → Prop} {g : List Int} (n1 : a ≠ ga) (n2 : a ≠ la) (h : Sto5 a ga la g l b s H) (hl : l ≠ []) (hl64 : l.length ≤ 64) (hlx : ∀ x ∈ l, 0 ≤ x ∧ x < 10 ^ 18)
    (hb : 0 ≤ b) (hb2 : b < 2147483587) (hs : 0 ≤ s) (hs2 : s ≤ 2 ^ 42) (hm : 1 ≤ m) (q : ∀ d H', 0 ≤ d → d < m → Sto5 a ga la g l b (s + 1) H' → FrS a ga la H H' → Q (.int d) H') :
    (tSeq (tAsg (tOp rAddI (tOp (rIxL K) (tVar 0) (tC (.int 2))) (tC (.int 1))) (gName 5))
    (tSeq (tAsg (tVar 5) (gSub (tVar 0) (tC (.int 2)) rSetL))
    (tSeq (tAsg (tLst (tCons (tC (.int 2147483563)) (tCons (tC (.int 2147483549)) (tCons (tC (.int 2147483543)) (tCons (tC (.int 2147483497)) (tCons (tC (.int 2147483489)) tNil)))))) (gName 6))
    (tSeq (tAsg (tOp (rIxL K) (tOp (rIxL K) (tVar 0) (tC (.int 3))) (tOp rModI (tVar 5) (tCB (rLenX K) (tCons (tOp (rIxL K) (tVar 0) (tC (.int 3))) tNil)))) (gName 7))
    (tSeq (tAsg (tOp rModI (tOp rPowI (tOp rAddI (tOp rAddI (tOp rAddI (tOp (rIxL K) (tVar 0) (tC (.int 1))) (tVar 7)) (tOp rMulI (tC (.int 104729)) (tVar 5))) (tC (.int 13))) (tC (.int 3))) (tOp (rIxL K) (tVar 6) (tOp rModI (tVar 5) (tC (.int 5))))) (gName 8))
    (tSeq (tAsg (tOp rAddI (tOp rAddI (tOp rMulI (tVar 8) (tVar 8)) (tOp rModI (tOp (rIxL K) (tVar 0) (tC (.int 1))) (tC (.int 1000003)))) (tVar 5)) (gName 9))
    (tRet (tOp rModI (tOp rDivI (tOp rModI (tOp rPowI (tVar 9) (tC (.int 5))) (tOp (rIxL K) (tVar 6) (tOp rModI (tOp rAddI (tVar 5) (tC (.int 2))) (tC (.int 5))))) (tC (.int 16))) (tVar 1)))))))))
      { nx := nx, rt := Q } [some (.ref a), some (.int m), x2, x3, x4, x5, x6, x7, x8, x9] H := by
  -- step = store[2] + 1; store[2] = step
  refine ⟨_, rfl, ?_⟩
  dsimp only [tC]
  refine rd2 (K := K) h ?_
  refine ⟨s, 1, rfl, rfl, ?_⟩
  refine ⟨_, rfl, _, rfl, a, _, 2, 2, rfl, rfl, h.ha, rfl, ?_⟩
  have h1 : Sto5 a ga la g l b (s + 1) (upd H a (.lst ([V.ref ga, .int b, .int s, .ref la].set 2 (.int (s + 1))))) := ⟨upd_same, by rw [upd_ne n1.symm]; exact h.hg, by rw [upd_ne n2.symm]; exact h.hl⟩
  have f1 : FrS a ga la H (upd H a (.lst ([V.ref ga, .int b, .int s, .ref la].set 2 (.int (s + 1))))) := (FrS.of (Same.refl H)).set (.inl rfl) _
  generalize upd H a (.lst ([V.ref ga, .int b, .int s, .ref la].set 2 (.int (s + 1)))) = H1 at h1 f1 ⊢
  -- primes
  refine ⟨(by show 5 ≤ sizeLine; decide), fun p hp => ?_⟩
  have e2 := same_new hp (.lst [V.int 2147483563, .int 2147483549, .int 2147483543, .int 2147483497, .int 2147483489])
  have h2 := h1.same e2
  have f2 := f1.trans (FrS.of e2)
  have hp2 : (upd H1 p (.lst [V.int 2147483563, .int 2147483549, .int 2147483543, .int 2147483497, .int 2147483489])) p = some (.lst [V.int 2147483563, .int 2147483549, .int 2147483543, .int 2147483497, .int 2147483489]) := upd_same
  show tSeq _ _ _ [some (.ref a), some (.int m), x2, x3, x4, some (.int (s + 1)), some (.ref p), x7, x8, x9] (upd H1 p (.lst [V.int 2147483563, .int 2147483549, .int 2147483543, .int 2147483497, .int 2147483489]))
  generalize upd H1 p (.lst [V.int 2147483563, .int 2147483549, .int 2147483543, .int 2147483497, .int 2147483489]) = H2 at h2 f2 hp2 ⊢
  -- cell
  have hlen : 0 < l.length := List.length_pos_iff.mpr hl
  obtain ⟨m1, m2⟩ := fmod_nn (i := s + 1) (j := (l.length : Int)) (by omega)
  obtain ⟨j, hj⟩ : ∃ j : Nat, (s + 1).fmod (l.length : Int) = j := ⟨((s + 1).fmod (l.length : Int)).toNat, by omega⟩
  have hj2 : j < l.length := by omega
  obtain ⟨c0, c1⟩ := hlx l[j] (List.getElem_mem hj2)
  refine ⟨_, rfl, ?_⟩
  dsimp only [tC]
  refine rd3 (K := K) h2 ?_
  refine ⟨_, rfl, _, rfl, ?_⟩
  dsimp only [tC]
  refine rd3 (K := K) h2 ?_
  refine ⟨la, _, rfl, .inl (.inl (.inl h2.hl)), s + 1, _, rfl, rfl, by rw [List.length_map]; omega, ?_⟩
  dsimp only
  rw [List.length_map, hj]
  refine ⟨la, _, _, .int l[j], rfl, rfl, .inl (.inl h2.hl), atI_nat (by rw [List.getElem?_map, List.getElem?_eq_getElem hj2]; rfl), ?_⟩
  show tSeq _ _ _ [some (.ref a), some (.int m), x2, x3, x4, some (.int (s + 1)), some (.ref p), some (.int l[j]), x8, x9] H2
  generalize l[j] = cell at c0 c1 ⊢
  -- one of five primes
  have prime : ∀ (t : Int) (Q' : VK), (∀ pr : Int, 2000000000 < pr → pr < 2 ^ 31 → Q' (.int pr) H2) → rIxL K (.ref p) (.int (t.fmod 5)) H2 Q' := fun t Q' k => by
    obtain ⟨b1, b2⟩ := fmod_nn (i := t) (j := 5) (by decide)
    have hc : t.fmod 5 = 0 ∨ t.fmod 5 = 1 ∨ t.fmod 5 = 2 ∨ t.fmod 5 = 3 ∨ t.fmod 5 = 4 := by omega
    rcases hc with e | e | e | e | e <;> rw [e]
    · exact ⟨p, _, 0, _, rfl, rfl, .inl (.inl hp2), rfl, k _ (by decide) (by decide)⟩
    · exact ⟨p, _, 1, _, rfl, rfl, .inl (.inl hp2), rfl, k _ (by decide) (by decide)⟩
    · exact ⟨p, _, 2, _, rfl, rfl, .inl (.inl hp2), rfl, k _ (by decide) (by decide)⟩
    · exact ⟨p, _, 3, _, rfl, rfl, .inl (.inl hp2), rfl, k _ (by decide) (by decide)⟩
    · exact ⟨p, _, 4, _, rfl, rfl, .inl (.inl hp2), rfl, k _ (by decide) (by decide)⟩
  -- one
  refine ⟨_, rfl, ?_⟩
  dsimp only [tC]
  refine rd1 (K := K) h2 ?_
  refine ⟨_, rfl, b, cell, rfl, rfl, ?_⟩
  refine ⟨_, rfl, 104729, s + 1, rfl, rfl, wide_mul (a := 20) (b := 64) (by decide) (by omega) (by decide) (by decide) (by decide), b + cell, _, rfl, rfl, _, 13, rfl, rfl, _, 3, rfl, rfl, ⟨by decide, by decide, by omega⟩, _, rfl, _, rfl, s + 1, 5, rfl, rfl, (by show (5 : Int) ≠ 0; decide), ?_⟩
  refine prime _ _ fun pr p0 p1 => ?_
  refine ⟨_, pr, rfl, rfl, by omega, ?_⟩
  obtain ⟨o1, o2⟩ := fmod_nn (i := (b + cell + 104729 * (s + 1) + 13) ^ (3 : Int).toNat) (j := pr) (by omega)
  dsimp only
  generalize ((b + cell + 104729 * (s + 1) + 13) ^ (3 : Int).toNat).fmod pr = one at o1 o2 ⊢
  -- two
  refine ⟨_, rfl, _, rfl, one, one, rfl, rfl, wide_mul (a := 32) (b := 32) (by omega) (by omega) (by decide) (by decide) (by decide), ?_⟩
  refine ⟨_, rfl, ?_⟩
  dsimp only [tC]
  refine rd1 (K := K) h2 ?_
  refine ⟨b, 1000003, rfl, rfl, (by show (1000003 : Int) ≠ 0; decide), one * one, _, rfl, rfl, _, rfl, _, s + 1, rfl, rfl, ?_⟩
  obtain ⟨w1, w2⟩ := fmod_nn (i := b) (j := 1000003) (by decide)
  have sq : 0 ≤ one * one ∧ one * one < 2 ^ 62 := by
    refine ⟨Int.mul_nonneg o1 o1, ?_⟩
    have : one * one ≤ (2 ^ 31 - 1) * (2 ^ 31 - 1) := Int.mul_le_mul (by omega) (by omega) o1 (by decide)
    omega
  dsimp only
  generalize b.fmod 1000003 = r at w1 w2 ⊢
  generalize one * one = sqr at sq ⊢
  refine ⟨_, rfl, sqr + r + (s + 1), 5, rfl, rfl, ⟨by decide, by decide, by omega⟩, _, rfl, _, rfl, s + 1, 2, rfl, rfl, s + 1 + 2, 5, rfl, rfl, (by show (5 : Int) ≠ 0; decide), ?_⟩
  refine prime _ _ fun pr2 p2 p3 => ?_
  refine ⟨_, pr2, rfl, rfl, by omega, ?_⟩
  dsimp only
  generalize (sqr + r + (s + 1)) ^ (5 : Int).toNat = big
  refine ⟨big.fmod pr2, 16, rfl, rfl, ⟨by decide, by decide⟩, _, rfl, _, m, rfl, rfl, by omega, ?_⟩
  obtain ⟨z1, z2⟩ := fmod_nn (i := (big.fmod pr2).fdiv 16) (j := m) (by omega)
  exact q _ _ z1 z2 h2 f2
end DL

set_option Elab.async false
set_option linter.all false
set_option maxRecDepth 100000
set_option maxHeartbeats 4000000
namespace DL
open PySem PySem.Spec PyProof.Rows L2
theorem strlen_ofString (i : Int) (h : i.natAbs.log2 < 1900) : (Str.ofString (toString i)).length ≤ 1901 := by
  rw [PySem.ofString_length]
  exact PySem.int_text_length_le (k := 1900) (by decide) h
theorem fdiv_small {n : Int} (h0 : 0 ≤ n) (h : n ≤ 1901) : 0 ≤ n.fdiv 6 ∧ n.fdiv 6 ≤ 316 := by
  rw [Int.fdiv_eq_ediv_of_nonneg n (by decide)]
  omega
/-- the draw keeps its promise -/
theorem draw_run {K : PySem.W.Frag} {sp : Sp} {c L : Nat} {M : Int} {vs : List V} {H : Hp} {Q : VK} {E : XK} (h : spS K FSto (TDraw c M L) vs H Q E) (hM : M ≤ 2 ^ 1899) (hL : L ≤ 2 ^ 41) (hc : 1 ≤ c) (hs : M ≤ 10 ^ 6 ∨ (sp = spS K FSto (TDraw 1 (10 ^ 6) (2 ^ 41)) ∧ 400 ≤ c ∧ L ≤ 2 ^ 40)) :
    t_draw K sp { nx := fun _ H' => Q .non H', rt := Q } (L2.start ["store", "many", "digit", "found", "turn", "step", "primes", "cell", "one", "two"] vs) H := by
  obtain ⟨S, N, us, ds, B, Φ, rfl, ⟨a, ga, la, rfl⟩, hok, hle, ht, hd, ⟨m, rfl, m1, mM, hB, hT⟩, hQ⟩ := h
  obtain ⟨n1, n2, n3, g, l, b, s, ha, hg, hl, g63, lne, l64, lx, b0, b1, s0, sB⟩ := hok
  cases hd with
  | cons hd1 hd2 =>
  cases hd2
  cases hd1
  have m1900 : m.natAbs.log2 < 1900 := by
    refine log2_small (by omega) ?_ (by decide)
    have : (2 : Int) ^ 1899 < 2 ^ 1900 := by decide +kernel
    omega
  have hm64 : m.natAbs.log2 < 9000 := by omega
  have bm : B ≤ 2 ^ 41 := Nat.le_trans hB hL
  show t_draw K sp { nx := fun _ H' => Q .non H', rt := Q } [some (.ref a), some (.int m), none, none, none, none, none, none, none, none] H
  -- what is handed back
  have fin0 : ∀ (d : Int) (H' : Hp), 0 ≤ d → d < m → StoOk a ga la H' (B + c) → FrS a ga la H H' → Q (.int d) H' := by
    intro d H' d0 d1 ok' fr
    refine hQ _ _ (hT d d0 d1) _ H' (fun x o hx hy => ?_) ok' (Dt.int _)
    have hx' : x ≠ a ∧ x ≠ ga ∧ x ≠ la := by
      have : (decide (x = a) || decide (x = ga) || decide (x = la)) = false := hx
      simp at this
      exact ⟨this.1.1, this.1.2, this.2⟩
    exact fr x o hx'.1 hx'.2.1 hx'.2.2 hy
  have fin : ∀ (d : Int) (H' : Hp) (g' : List Int) (s' : Int), 0 ≤ d → d < m → Sto5 a ga la g' l b s' H' → FrS a ga la H H' → g'.length ≤ 63 → 0 ≤ s' → s' ≤ B + c → Q (.int d) H' := by
    intro d H' g' s' d0 d1 h5 fr hg' s0' s1'
    exact fin0 d H' d0 d1 ⟨n1, n2, n3, g', l, b, s', h5.ha, h5.hg, h5.hl, hg', lne, l64, lx, b0, b1, s0', by omega⟩ fr
  -- the great ones' noughts go
  refine ⟨fun n σ' H' => σ' = [some (.ref a), some (.int m), none, none, none, none, none, none, none, none] ∧ ∃ g', n = g'.length ∧ g'.length ≤ 63 ∧ Sto5 a ga la g' l b s H' ∧ FrS a ga la H H', ⟨g.length, rfl, g, rfl, g63, ⟨ha, hg, hl⟩, FrS.of (Same.refl H)⟩, ?_⟩
  rintro n σ' H' ⟨rfl, g', rfl, hg', h5, fr⟩
  refine ne_nil h5 rfl fun p hp => ?_
  have e := same_new hp (.lst [])
  have h5' := h5.same e
  have fr' := fr.trans (FrS.of e)
  generalize upd H' p (.lst []) = H1 at h5' fr' ⊢
  match g', h5', hg' with
  | x :: r, h5', hg' =>
    -- some are left: is the first nought?
    show (if true = true then _ else _)
    rw [if_pos rfl]
    refine ⟨_, rfl, ?_⟩
    (try dsimp only [tC])
    refine rd0 (K := K) h5' ?_
    (try dsimp only [tC])
    refine rdg (K := K) h5' ?_
    refine ⟨rfl, _, rfl, ?_⟩
    by_cases hx : x = 0
    · subst hx
      show (if (decide (V.int 0 = V.int 0)) = true then _ else _)
      rw [if_pos (by decide)]
      refine ⟨_, fun _ _ z => z, ?_⟩
      refine ⟨_, rfl, ?_⟩
      (try dsimp only [tC])
      refine rd0 (K := K) h5' ?_
      refine ⟨.inl ⟨rfl, _, .inl (.inl h5'.hg)⟩, ga, _, 0, 0, .int 0, rfl, rfl, h5'.hg, by decide, by decide, ?_, rfl, ?_⟩
      · exact (ixN_seq (n := ((0 :: r).map V.int).length) (i := 0) (j := 0) (by simp [ixN])).1
      · refine ⟨r.length, by show r.length < (0 :: r).length; simp, rfl, r, rfl, by simp at hg'; omega, ⟨?_, ?_, ?_⟩, fr'.set (.inr (.inl rfl)) _⟩
        · rw [upd_ne n1]; exact h5'.ha
        · rw [upd_same]; rfl
        · rw [upd_ne n3.symm]; exact h5'.hl
    · have hx' : (decide (V.int x = V.int 0)) = false := decide_eq_false fun z => hx (V.int.inj z)
      show (if (decide (V.int x = V.int 0)) = true then _ else _)
      rw [hx', if_neg (by decide)]
      -- digit
      refine ne_nil h5' rfl fun p2 hp2 => ?_
      have e2 := same_new hp2 (.lst [])
      have h6 := h5'.same e2
      have fr6 := fr'.trans (FrS.of e2)
      generalize upd H1 p2 (.lst []) = H2 at h6 fr6 ⊢
      show (if true = true then _ else _)
      rw [if_pos rfl]
      refine ⟨_, rfl, ?_⟩
      (try dsimp only [tC])
      refine rd0 (K := K) h6 ?_
      (try dsimp only [tC])
      refine rdg (K := K) h6 ?_
      refine ⟨_, rfl, x, m, rfl, rfl, by omega, ?_⟩
      refine ⟨_, rfl, ?_⟩
      (try dsimp only [tC])
      refine rd0 (K := K) h6 ?_
      (try dsimp only [tC])
      refine rdg (K := K) h6 ?_
      refine ⟨_, rfl, x, m, rfl, rfl, ⟨by omega, hm64⟩, ?_⟩
      refine ⟨_, rfl, ?_⟩
      (try dsimp only [tC])
      refine rd0 (K := K) h6 ?_
      refine ⟨ga, _, 0, 0, rfl, rfl, h6.hg, by simp [ixN], ?_⟩
      obtain ⟨z1, z2⟩ := fmod_nn (i := x) (j := m) (by omega)
      refine ⟨_, rfl, fin _ _ (x.fdiv m :: r) s z1 z2 ⟨?_, ?_, ?_⟩ (fr6.set (.inr (.inl rfl)) _) (by simpa using hg') s0 (by omega)⟩
      · rw [upd_ne n1]; exact h6.ha
      · rw [upd_same]; rfl
      · rw [upd_ne n3.symm]; exact h6.hl
  | [], h5', hg' =>
    show (if false = true then _ else _)
    rw [if_neg Bool.false_ne_true]
    show (if false = true then _ else _)
    rw [if_neg Bool.false_ne_true]
    refine ne_nil h5' rfl fun p2 hp2 => ?_
    have e2 := same_new hp2 (.lst [])
    have h6 := h5'.same e2
    have fr6 := fr'.trans (FrS.of e2)
    generalize upd H1 p2 (.lst []) = H2 at h6 fr6 ⊢
    show tNext _ _ _
    refine ⟨_, rfl, 10, 6, rfl, rfl, ⟨by decide, by decide, by decide⟩, m, _, rfl, rfl, _, rfl, ?_⟩
    by_cases hbig : (10 ^ (6 : Int).toNat : Int) < m
    · have hdec : decide ((10 ^ (6 : Int).toNat : Int) < m) = true := decide_eq_true hbig
      show (if decide ((10 ^ (6 : Int).toNat : Int) < m) = true then _ else _)
      rw [if_pos hdec]
      have hb6 : (10 : Int) ^ 6 < m := hbig
      obtain ⟨rfl, c400, L40⟩ : sp = spS K FSto (TDraw 1 (10 ^ 6) (2 ^ 41)) ∧ 400 ≤ c ∧ L ≤ 2 ^ 40 := by
        rcases hs with z | z
        · omega
        · exact z
      have hl1 := strlen_ofString m m1900
      obtain ⟨q0, q1⟩ := fdiv_small (n := ((Str.ofString (toString m)).length : Int)) (by omega) (by omega)
      refine ⟨_, rfl, m, rfl, by omega, Str.ofString (toString m), rfl, by rw [sizeLine_eq]; omega, _, 6, rfl, rfl, ⟨by decide, by decide⟩, 1, _, rfl, rfl, 1 + ((Str.ofString (toString m)).length : Int).fdiv 6, rfl, by omega, by omega, ?_⟩
      generalize ((Str.ofString (toString m)).length : Int).fdiv 6 = turns at q0 q1 ⊢
      have ok0 : StoOk a ga la H2 B := ⟨n1, n2, n3, [], l, b, s, h6.ha, h6.hg, h6.hl, by decide, lne, l64, lx, b0, b1, s0, sB⟩
      have okm : ∀ {H' : Hp} {B1 B2 : Nat}, StoOk a ga la H' B1 → B1 ≤ B2 → StoOk a ga la H' B2 := by
        rintro H' B1 B2 ⟨_, _, _, g, l, b, s, k1, k2, k3, k4, k5, k6, k7, k8, k9, k10, k11⟩ hB12
        exact ⟨n1, n2, n3, g, l, b, s, k1, k2, k3, k4, k5, k6, k7, k8, k9, k10, by omega⟩
      refine for_range (lo := 0) (n := (1 + turns).toNat) (fun k σ' H' => ∃ (f : Int) (x4 : Option V), σ' = [some (.ref a), some (.int m), none, some (.int f), x4, none, none, none, none, none] ∧ 0 ≤ f ∧ f < 10 ^ (6 * k) ∧ StoOk a ga la H' (B + k) ∧ FrS a ga la H H') ⟨0, none, rfl, by decide, by decide, ok0, fr6⟩ ?_ ?_
      · rintro k σ' H' hk ⟨f, x4, rfl, f0, f1, h7, fr7⟩
        have kb : k ≤ 316 := by omega
        refine ⟨_, rfl, 10, 6, rfl, rfl, ⟨by decide, by decide, by decide⟩, f, _, rfl, rfl, ?_, ?_⟩
        · refine wide_mul (a := 6400) (b := 20) ?_ (by decide) (by decide) (by decide) (by decide)
          have p1 : (10 : Int) ^ (6 * k) ≤ 10 ^ 1896 := by
            have := Nat.pow_le_pow_right (n := 10) (by decide) (show 6 * k ≤ 1896 by omega)
            exact_mod_cast this
          have p2 : (10 : Int) ^ 1896 < 2 ^ 6400 := by decide +kernel
          have p3 : (((2 ^ 6400 : Nat) : Int)) = (2 : Int) ^ 6400 := Int.natCast_pow 2 6400
          clear hM mM
          generalize (10 : Int) ^ (6 * k) = u1 at *
          generalize (10 : Int) ^ 1896 = u2 at *
          generalize (2 : Int) ^ 6400 = u3 at *
          generalize (2 : Nat) ^ 6400 = u4 at *
          omega
        · refine ⟨_, rfl, 10, 6, rfl, rfl, ⟨by decide, by decide, by decide⟩, ?_⟩
          refine ⟨mkS a ga la, (mkS a ga la).fp, [.int (10 ^ (6 : Int).toNat)], [.int (10 ^ (6 : Int).toNat)], B + k, fun d B' => ∃ z : Int, d = .int z ∧ 0 ≤ z ∧ z < 10 ^ 6 ∧ B' = B + k + 1, rfl, ⟨a, ga, la, rfl⟩, h7, Le.refl, (mkS a ga la).trk H' _ h7, DqAll.cons (Dt.int _) DqAll.nil, ⟨_, rfl, by decide, by decide, by omega, fun d d0 d1 => ⟨d, rfl, d0, d1, rfl⟩⟩, ?_⟩
          rintro d B' ⟨z, rfl, z0, z1, rfl⟩ v H2 fr2 ok2 dv
          cases dv
          have e10 : (10 : Int) ^ (6 * (k + 1)) = 10 ^ (6 * k) * 1000000 := by
            rw [Nat.mul_add, Int.pow_add]; rfl
          refine ⟨f * 10 ^ (6 : Int).toNat, z, rfl, rfl, f * 10 ^ (6 : Int).toNat + z, some (.int (0 + k)), rfl, ?_, ?_, ok2, fr7.trans fun x o q1 q2 q3 hx => fr2 x o (by show (decide (x = a) || decide (x = ga) || decide (x = la)) = false; simp [q1, q2, q3]) hx⟩
          · have : (10 : Int) ^ (6 : Int).toNat = 1000000 := by decide
            rw [this]; omega
          · have : (10 : Int) ^ (6 : Int).toNat = 1000000 := by decide
            rw [this, e10]
            generalize (10 : Int) ^ (6 * k) = u at f1 ⊢
            omega
      · rintro σ' H' ⟨f, x4, rfl, f0, f1, h7, fr7⟩
        refine ⟨_, rfl, _, rfl, f, m, rfl, rfl, by omega, ?_⟩
        obtain ⟨z1, z2⟩ := fmod_nn (i := f) (j := m) (by omega)
        exact fin0 _ _ z1 z2 (okm h7 (by omega)) fr7
    · have hdec : ¬ decide ((10 ^ (6 : Int).toNat : Int) < m) = true := fun z => hbig (of_decide_eq_true z)
      show (if decide ((10 ^ (6 : Int).toNat : Int) < m) = true then _ else _)
      rw [if_neg hdec]
      show tNext _ _ _
      refine draw_tail n1 n2 h6 lne l64 lx b0 b1 s0 (by omega) m1 fun d H' d0 d1 h7 fr7 => fin d H' [] (s + 1) d0 d1 h7 (fr6.trans fr7) (by decide) (by omega) (by omega)
/-! ### steps by name -/
section
variable {K : PySem.W.Frag} {S : Stt} {ρ : Rho} {Φ : PyData → Rho → Prop} {Ψ : PyData → Prop}
theorem do_mul {i j : Int} (c : CMulW i j) (h : Ψ (.int (i * j))) : DO K rMulI (.int i) (.int j) Ψ := do_ic c h
theorem do_mod {i j : Int} (c : j ≠ 0) (h : Ψ (.int (i.fmod j))) : DO K rModI (.int i) (.int j) Ψ := do_ic (C := fun _ j => j ≠ 0) c h
theorem do_div {i j : Int} (c : CDivX i j) (h : Ψ (.int (i.fdiv j))) : DO K rDivI (.int i) (.int j) Ψ := do_ic c h
theorem do_pow {i j : Int} (c : CPow i j) (h : Ψ (.int (i ^ j.toNat))) : DO K rPowI (.int i) (.int j) Ψ := do_ic c h
theorem do_add {i j : Int} (h : Ψ (.int (i + j))) : DO K rAddI (.int i) (.int j) Ψ := do_ii h
theorem do_sub {i j : Int} (h : Ψ (.int (i - j))) : DO K rSubI (.int i) (.int j) Ψ := do_ii h
theorem do_lt {i j : Int} (h : Ψ (.bool (decide (i < j)))) : DO K rLt (.int i) (.int j) Ψ := do_ib (f := fun i j => decide (i < j)) h
theorem do_le {i j : Int} (h : Ψ (.bool (decide (i ≤ j)))) : DO K rLe (.int i) (.int j) Ψ := do_ib (f := fun i j => decide (i ≤ j)) h
theorem do_gt {i j : Int} (h : Ψ (.bool (decide (j < i)))) : DO K rGt (.int i) (.int j) Ψ := do_ib (f := fun i j => decide (j < i)) h
theorem do_ge {i j : Int} (h : Ψ (.bool (decide (j ≤ i)))) : DO K rGe (.int i) (.int j) Ψ := do_ib (f := fun i j => decide (j ≤ i)) h
theorem du_neg {i : Int} (h : Ψ (.int (-i))) : DU K rNegI (.int i) Ψ := du_i (f := fun i => -i) h
theorem dc_abs {i : Int} (h : Ψ (.int (i.natAbs : Nat))) : DC K rAbsX [.int i] Ψ := dc_i1 (f := fun i => if i < 0 then -i else i) (by
  have e : (if i < 0 then -i else i) = ((i.natAbs : Nat) : Int) := by split <;> omega
  show Ψ (.int (if i < 0 then -i else i))
  rw [e]; exact h)
theorem dc_min {i j : Int} (h : Ψ (.int (if j < i then j else i))) : DC K rMinX [.int i, .int j] Ψ := dc_i2 (f := fun i j => if j < i then j else i) h
theorem dc_max {i j : Int} (h : Ψ (.int (if j > i then j else i))) : DC K rMaxX [.int i, .int j] Ψ := dc_i2 (f := fun i j => if j > i then j else i) h
theorem dc_lenL {ds : List PyData} (h : Ψ (.int ds.length)) : DC K (rLenX K) [.list ds] Ψ := dc_len_l h
theorem dc_lenT {ds : List PyData} (h : Ψ (.int ds.length)) : DC K (rLenX K) [.tuple ds] Ψ := dc_len_t h
theorem wt_bool {te : TE} {Θ : Bool → Rho → Prop} (h : WD K S te ρ fun x ρ1 => ∃ b, x = .bool b ∧ Θ b ρ1) : WT K S (tTest te) ρ Θ := wt_test h
/-- the cases of an answered test -/
theorem if_b {c : Prop} [Decidable c] {A B : Prop} (h1 : c → A) (h2 : ¬ c → B) : if decide c = true then A else B := by
  by_cases h : c
  · rw [if_pos (decide_eq_true h)]; exact h1 h
  · rw [if_neg (fun z => h (of_decide_eq_true z))]; exact h2 h
theorem if_t {A B : Prop} (h : A) : if true = true then A else B := by rw [if_pos rfl]; exact h
theorem if_f {A B : Prop} (h : B) : if false = true then A else B := by rw [if_neg Bool.false_ne_true]; exact h
theorem if_nf {A B : Prop} (h : A) : if (!false) = true then A else B := if_t h
theorem if_nt {A B : Prop} (h : B) : if (!true) = true then A else B := if_f h
theorem if_n {c : Prop} [Decidable c] {A B : Prop} (h1 : ¬ c → A) (h2 : c → B) : if (!decide c) = true then A else B := by
  by_cases h : c
  · rw [decide_eq_true h]; exact if_f (h2 h)
  · rw [decide_eq_false h]; exact if_t (h1 h)
end
end DL

set_option Elab.async false
set_option linter.all false
set_option maxRecDepth 100000
set_option maxHeartbeats 4000000
namespace DL
open PySem PySem.Spec PyProof.Rows L2
local macro_rules | `(tactic| walk_at "dl") => `(tactic| repeat' (first
  | with_reducible refine wd_op ?_ | with_reducible refine wd_cb ?_ | with_reducible refine wd_un ?_ | with_reducible refine wa_cons ?_ | with_reducible refine wa_nil ?_ | ((with_reducible show WD _ _ (tVar _) _ _); refine wd_var rfl ?_) | with_reducible refine wd_int ?_ | with_reducible refine wd_bl ?_ | with_reducible refine wd_str ?_ | with_reducible refine wd_non ?_
  | with_reducible refine do_add ?_ | with_reducible refine do_sub ?_ | ((with_reducible refine do_mod ?_ ?_); decide) | with_reducible refine do_mod ?_ ?_ | with_reducible refine do_mul ?_ ?_ | ((with_reducible refine do_div ?_ ?_); exact ⟨by decide, by decide⟩) | with_reducible refine do_div ?_ ?_ | ((with_reducible refine do_pow ?_ ?_); exact ⟨by decide, by decide, by decide⟩) | with_reducible refine do_pow ?_ ?_
  | with_reducible refine do_lt ?_ | with_reducible refine do_le ?_ | with_reducible refine do_gt ?_ | with_reducible refine do_ge ?_ | with_reducible refine du_neg ?_
  | with_reducible refine do_eqi ?_ | with_reducible refine do_nei ?_ | with_reducible refine do_eqs ?_ | with_reducible refine do_nes ?_ | with_reducible refine dc_abs ?_ | with_reducible refine dc_min ?_ | with_reducible refine dc_max ?_ | with_reducible refine dc_lenL ?_ | with_reducible refine dc_lenT ?_ | with_reducible refine dc_gcd ?_
  | ((with_reducible show DO _ (rIxT _) _ _ _); refine do_ixT rfl ?_) | ((with_reducible show DO _ (rIxL _) _ _ _); refine do_ixL rfl ?_) | with_reducible refine do_catL ?_ ?_
  | with_reducible refine wd_tup ?_ | with_reducible refine wd_lst ?_ | with_reducible refine wt_test ?_ | with_reducible refine wt_B ?_ | with_reducible refine wt_not ?_ | with_reducible refine wt_and ?_ | with_reducible refine wt_or ?_ | with_reducible refine wd_ifE ?_ | with_reducible refine wd_andV ?_ | with_reducible refine wd_orV ?_ | with_reducible refine wd_notV ?_
  | with_reducible refine ws_seq ?_ | with_reducible refine ws_next ?_ | with_reducible refine ws_asg ?_ | with_reducible refine ws_ret ?_ | with_reducible refine ws_retN ?_ | with_reducible refine ws_if ?_ | with_reducible refine ws_par ?_ | with_reducible refine ws_unp2 ?_
  | with_reducible refine if_t ?_ | with_reducible refine if_f ?_
  | ((with_reducible show Exists _); first | refine ⟨_, rfl, ?_⟩ | refine ⟨_, _, rfl, ?_⟩ | fail) | fail))
def spMk (K : PySem.W.Frag) : Sp := fun vs H Q _ => ∃ (a0 : Addr) (ns : List Int), vs = [.ref a0] ∧ SqL K H a0 (ns.map V.int) ∧ ns.length ≤ 63 ∧
  ∀ S H', FSto S → S.ok H' 0 → (∀ b, S.fp b = true → H b = none) → Same H H' → Q (.ref S.a) H'
def t_s1 (K : PySem.W.Frag) : TS := (tAsg (tC (.int 271)) (gName 1))
def t_s2 (K : PySem.W.Frag) : TS := (tFor (iEnum K (tCons (tSl (rSlL K) (tVar 0) tNoPart (tPart (tC (.int 63)))) tNil)) (gTup K 2 (gCons (gName 2) (gCons (gName 3) gNil))) (tAsg (tOp rModI (tOp rAddI (tOp rAddI (tOp rMulI (tVar 1) (tVar 1)) (tOp rModI (tVar 3) (tC (.int 2147483629)))) (tOp rMulI (tC (.int 40009)) (tVar 2))) (tC (.int 2147483587))) (gName 1)))
def t_s3 (K : PySem.W.Frag) : TS := (tAsg (tLc (iList K (tSl (rSlL K) (tVar 0) tNoPart (tPart (tC (.int 63))))) (gName 3) (tTest (tOp rGe (tCB rAbsX (tCons (tVar 3) tNil)) (tOp rPowI (tC (.int 10)) (tC (.int 18))))) (tCB rAbsX (tCons (tVar 3) tNil)) [3]) (gName 4))
def t_s4 (K : PySem.W.Frag) : TS := (tAsg (tLc (iList K (tSl (rSlL K) (tVar 0) tNoPart (tPart (tC (.int 63))))) (gName 3) (tTest (tOp rLt (tCB rAbsX (tCons (tVar 3) tNil)) (tOp rPowI (tC (.int 10)) (tC (.int 18))))) (tCB rAbsX (tCons (tVar 3) tNil)) [3]) (gName 5))
def t_s5 (K : PySem.W.Frag) : TS := (tRet (tLst (tCons (tVar 4) (tCons (tVar 1) (tCons (tC (.int 0)) (tCons (tOp rCatL (tVar 5) (tLst (tCons (tC (.int 17)) tNil))) tNil))))))
def t_store (K : PySem.W.Frag) : TS := tSeq (t_s1 K) (tSeq (t_s2 K) (tSeq (t_s3 K) (tSeq (t_s4 K) (t_s5 K))))
section
variable {K : PySem.W.Frag} {S : Stt} {H0 : Hp} {N0 : Av} {Z : List Hd} {N : Av} {σ : L2.St} {H H' : Hp} {ρ : Rho} {Φ : PyData → Rho → Prop} {Ψ : PyData → Prop}
theorem cut63 (ns : List Int) : cutV (ns.map V.int) none (some 63) = (ns.take 63).map V.int := by
  have e : HT.sIx (ns.map V.int).length (ns.map V.int).length (some 63) = min 63 (ns.map V.int).length := HT.sIx_nat _ _ 63
  have e0 : HT.sIx (ns.map V.int).length 0 none = 0 := rfl
  unfold cutV
  rw [e0, e, List.drop_zero, Nat.sub_zero, List.map_take]
  rw [List.take_eq_take_iff]
  omega
theorem wd_cut {i : Nat} {ns : List Int} (h : ρ[i]? = some (.scr ns)) (f : Φ (.list ((ns.take 63).map PyData.int)) ρ) : WD K S (tSl (rSlL K) (tVar i) tNoPart (tPart (tC (.int 63)))) ρ Φ := fun H0 N0 Z N σ H E Q q => by
  obtain ⟨a, h1, h2⟩ := E.slot i _ h
  refine ⟨_, h1, 63, rfl, a, _, rfl, (Same.wo1).seq h2, fun p hp => ?_⟩
  rw [cut63]
  have s := same_new hp (.lst ((ns.take 63).map V.int))
  exact q _ _ ρ _ f (E.ext s) (Keep.of s) (Dq.lst (fresh_av E.trk hp) upd_same DqAll.ints)
theorem wd_mod {a b : TE} (h : WD K S (tOp rModI a b) ρ Φ) : WD K S (tOp rModI a b) ρ Φ := h
/-- 1 -/
theorem ws_s1 {ns : List Int} {P : Rho → Prop} (f : P [.scr ns, .dat (.int 271), .unk, .unk, .unk, .unk]) : WS K S (t_s1 K) [.scr ns, .unk, .unk, .unk, .unk, .unk] { nx := P, rt := fun _ _ => False } := ws_asg (wd_int f)
theorem abs_eq (i : Int) : (if i < 0 then -i else i) = ((i.natAbs : Nat) : Int) := by
  split <;> omega
theorem ws_s2 {ns : List Int} {P : Rho → Prop} (f : ∀ (z : Int) s2 s3, 0 ≤ z → z < 2147483587 → P [.scr ns, .dat (.int z), s2, s3, .unk, .unk]) :
    WS K S (t_s2 K) [.scr ns, .dat (.int 271), .unk, .unk, .unk, .unk] { nx := P, rt := fun _ _ => False } := by
  refine ws_for (wi_enum (wa_cons (wd_cut rfl (wa_nil ⟨_, rfl, fun k ρ => ∃ (z : Int) (s2 s3 : Sl), ρ = [.scr ns, .dat (.int z), s2, s3, .unk, .unk] ∧ 0 ≤ z ∧ z < 2147483587, ⟨271, _, _, rfl, by decide, by decide⟩, ?_, ?_⟩))))
  · rintro k d ρ2 hd ⟨z, s2, s3, rfl, z0, z1⟩
    rw [List.getElem?_mapIdx] at hd
    obtain ⟨d0, hd0, rfl⟩ := Option.map_eq_some_iff.mp hd
    rw [List.getElem?_map] at hd0
    obtain ⟨x, hx, rfl⟩ := Option.map_eq_some_iff.mp hd0
    have hk : k < 63 := by
      have := (List.getElem?_eq_some_iff.mp hx).1
      rw [List.length_take] at this
      omega
    refine ⟨_, _, gd_pair, ?_⟩
    walk_at "dl"
    · exact wide_mul (a := 32) (b := 32) (by omega) (by omega) (by decide) (by decide) (by decide)
    · exact wide_mul (a := 20) (b := 20) (by decide) (by omega) (by decide) (by decide) (by decide)
    obtain ⟨b0, b1⟩ := fmod_nn (i := z * z + x.fmod 2147483629 + 40009 * (k : Int)) (j := 2147483587) (by decide)
    exact ⟨_, _, _, rfl, b0, b1⟩
  · rintro ρ2 ⟨z, s2, s3, rfl, z0, z1⟩
    exact f z s2 s3 z0 z1
theorem pow18 : (10 : Int) ^ (18 : Int).toNat = 10 ^ 18 := by decide
theorem ws_s3 {ns : List Int} {z : Int} {s2 s3 : Sl} {P : Rho → Prop} (f : ∀ g : List Int, g.length ≤ 63 → P [.scr ns, .dat (.int z), s2, .unk, .own (g.map PyData.int), .unk]) :
    WS K S (t_s3 K) [.scr ns, .dat (.int z), s2, s3, .unk, .unk] { nx := P, rt := fun _ _ => False } := by
  refine ws_lc (wi_list (wd_cut rfl ⟨_, rfl, ?_, fun k acc ρ => ∃ g : List Int, acc = g.map PyData.int ∧ g.length ≤ k ∧ ρ = [.scr ns, .dat (.int z), s2, .unk, .unk, .unk], ⟨[], rfl, Nat.le_refl _, rfl⟩, ?_, ?_⟩))
  · rw [List.length_map, List.length_take, sizeLine_eq]; omega
  · rintro k d acc ρ2 hd ⟨g, rfl, hg, rfl⟩
    rw [List.getElem?_map] at hd
    obtain ⟨x, hx, rfl⟩ := Option.map_eq_some_iff.mp hd
    refine ⟨_, _, gd_name, fun j hj => hj, ?_⟩
    walk_at "dl"
    with_reducible refine if_b (fun hlt => ?_) (fun _ => ?_)
    · refine wd_cb (wa_cons (wd_var rfl (wa_nil (dc_i1 (f := fun i => if i < 0 then -i else i) ?_))))
      exact ⟨g ++ [if x < 0 then -x else x], by simp, by simp; omega, rfl⟩
    · exact ⟨g, rfl, by omega, rfl⟩
  · rintro acc ρ2 ⟨g, rfl, hg, rfl⟩
    rw [List.length_map, List.length_take] at hg
    exact f g (by omega)
theorem ws_s4 {ns : List Int} {z : Int} {s2 s3 : Sl} {g : List Int} {P : Rho → Prop} (f : ∀ l : List Int, l.length ≤ 63 → (∀ x ∈ l, 0 ≤ x ∧ x < 10 ^ 18) → P [.scr ns, .dat (.int z), s2, .unk, .own (g.map PyData.int), .own (l.map PyData.int)]) :
    WS K S (t_s4 K) [.scr ns, .dat (.int z), s2, s3, .own (g.map PyData.int), .unk] { nx := P, rt := fun _ _ => False } := by
  refine ws_lc (wi_list (wd_cut rfl ⟨_, rfl, ?_, fun k acc ρ => ∃ l : List Int, acc = l.map PyData.int ∧ l.length ≤ k ∧ (∀ x ∈ l, 0 ≤ x ∧ x < 10 ^ 18) ∧ ρ = [.scr ns, .dat (.int z), s2, .unk, .own (g.map PyData.int), .unk], ⟨[], rfl, Nat.le_refl _, by simp, rfl⟩, ?_, ?_⟩))
  · rw [List.length_map, List.length_take, sizeLine_eq]; omega
  · rintro k d acc ρ2 hd ⟨l, rfl, hl, hx18, rfl⟩
    rw [List.getElem?_map] at hd
    obtain ⟨x, hx, rfl⟩ := Option.map_eq_some_iff.mp hd
    refine ⟨_, _, gd_name, fun j hj => hj, ?_⟩
    walk_at "dl"
    with_reducible refine if_b (fun hlt => ?_) (fun _ => ?_)
    · have hlt' : ((x.natAbs : Nat) : Int) < (10 : Int) ^ (18 : Int).toNat := hlt
      rw [pow18, ← abs_eq] at hlt'
      refine wd_cb (wa_cons (wd_var rfl (wa_nil (dc_i1 (f := fun i => if i < 0 then -i else i) ?_))))
      refine ⟨l ++ [if x < 0 then -x else x], by simp, by simp; omega, fun y hy => ?_, rfl⟩
      rcases List.mem_append.mp hy with h | h
      · exact hx18 y h
      · have : y = if x < 0 then -x else x := by simpa using h
        subst this
        refine ⟨?_, hlt'⟩
        split <;> omega
    · exact ⟨l, rfl, by omega, hx18, rfl⟩
  · rintro acc ρ2 ⟨l, rfl, hl, hx18, rfl⟩
    rw [List.length_map, List.length_take] at hl
    exact f l (by omega) hx18
/-- the last row: a new store -/
theorem s5_run {ns g l : List Int} {z : Int} {s2 s3 : Sl} {Q : VK} {nx : L2.St → Hp → Prop} (z0 : 0 ≤ z) (z1 : z < 2147483587) (hg : g.length ≤ 63) (hl : l.length ≤ 63) (hx : ∀ x ∈ l, 0 ≤ x ∧ x < 10 ^ 18)
    (E : EnvD K S0 H0 N0 Z N σ H [.scr ns, .dat (.int z), s2, s3, .own (g.map PyData.int), .own (l.map PyData.int)])
    (q : ∀ S H', FSto S → S.ok H' 0 → (∀ b, S.fp b = true → H0 b = none) → Same H0 H' → Q (.ref S.a) H') : t_s5 K { nx := nx, rt := Q } σ H := by
  obtain ⟨p4, xs4, a1, a2, a3, a4, a5, a6, a7⟩ := E.slot 4 _ rfl
  obtain ⟨p5, xs5, b1, b2, b3, b4, b5, b6, b7⟩ := E.slot 5 _ rfl
  obtain ⟨v1, c1, c2⟩ := E.slot 1 _ rfl
  cases c2
  obtain rfl := a7.of_ints
  obtain rfl := b7.of_ints
  have n45 : p4 ≠ p5 := fun e => by
    subst e
    exact absurd (E.inj 4 5 _ _ p4 rfl rfl a1 b1) (by decide)
  refine ⟨_, a1, _, c1, _, b1, ?_⟩
  refine ⟨by show 1 ≤ sizeLine; decide, fun p hp => ?_⟩
  have e1 := same_new hp (.lst [V.int 17])
  refine ⟨p5, p, _, _, rfl, rfl, .inl (e1 _ _ b6), .inl upd_same, by rw [List.length_map, sizeLine_eq]; simp; omega, fun la hla => ?_⟩
  have e2 := same_new hla (.lst (l.map V.int ++ [V.int 17]))
  refine ⟨by show 4 ≤ sizeLine; decide, fun a ha => ?_⟩
  have e3 := same_new ha (.lst [V.ref p4, .int z, .int 0, .ref la])
  have hp4 : upd (upd (upd H p (.lst [V.int 17])) la (.lst (l.map V.int ++ [V.int 17]))) a (.lst [V.ref p4, .int z, .int 0, .ref la]) p4 = some (.lst (g.map V.int)) := e3 _ _ (e2 _ _ (e1 _ _ a6))
  have hla' : upd (upd (upd H p (.lst [V.int 17])) la (.lst (l.map V.int ++ [V.int 17]))) a (.lst [V.ref p4, .int z, .int 0, .ref la]) la = some (.lst (l.map V.int ++ [V.int 17])) := e3 _ _ upd_same
  have ne1 : a ≠ p4 := fun e => by
    rw [e] at ha
    rw [e2 _ _ (e1 _ _ a6)] at ha
    cases ha
  have ne2 : a ≠ la := fun e => by
    rw [e] at ha
    rw [upd_same] at ha
    cases ha
  have ne3 : p4 ≠ la := fun e => by
    rw [← e] at hla
    rw [e1 _ _ a6] at hla
    cases hla
  have e123 : Same H (upd (upd (upd H p (.lst [V.int 17])) la (.lst (l.map V.int ++ [V.int 17]))) a (.lst [V.ref p4, .int z, .int 0, .ref la])) := (e1.trans e2).trans e3
  have back : ∀ b, (upd H p (.lst [V.int 17])) b = none → H0 b = none := fun b hb => by
    cases w : H0 b with
    | none => rfl
    | some o => rw [e1 _ _ (E.keep b o rfl w)] at hb; cases hb
  have back2 : (upd (upd H p (.lst [V.int 17])) la (.lst (l.map V.int ++ [V.int 17]))) a = none → H0 a = none := fun hb => by
    cases w : H0 a with
    | none => rfl
    | some o => rw [e2 _ _ (e1 _ _ (E.keep a o rfl w))] at hb; cases hb
  refine q (mkS a p4 la) _ ⟨a, p4, la, rfl⟩ ⟨ne1, ne2, ne3, g, l ++ [17], z, 0, upd_same, hp4, by rw [List.map_append]; exact hla', hg, by simp, by simp; omega, fun x hx' => ?_, z0, z1, by decide, by decide⟩ (fun b hb => ?_) (fun b o hb => e123 _ _ (E.keep b o rfl hb))
  · rcases List.mem_append.mp hx' with h | h
    · exact hx x h
    · have : x = 17 := by simpa using h
      subst this
      decide
  · have : (decide (b = a) || decide (b = p4) || decide (b = la)) = true := hb
    simp at this
    rcases this with (e | e) | e
    · rw [e]; exact back2 ha
    · rw [e]; exact a5
    · rw [e]; exact back _ hla
end
/-- the store is made -/
theorem store_run {K : PySem.W.Frag} {vs : List V} {H : Hp} {Q : VK} {E : XK} (h : spMk K vs H Q E) : t_store K { nx := fun _ H' => Q .non H', rt := Q } (L2.start ["script", "blend", "place", "cell", "great", "small"] vs) H := by
  obtain ⟨a0, ns, rfl, hs, hl, hQ⟩ := h
  have woF : ∀ G : Hp, wo (fun _ => false) G = G := fun G => by funext b; rfl
  have E0 : EnvD K S0 H (fun _ => false) [] (fun _ => false) [some (.ref a0), none, none, none, none, none] H [.scr ns, .unk, .unk, .unk, .unk, .unk] := {
    keep := fun _ _ _ h => h, base := Le.refl, trk := fun _ h => (nomatch h), sub := fun _ h => (nomatch h), len := rfl, hid := fun _ h => (nomatch h), injZ := fun i j di dj p h => by simp at h
    slot := fun i s h => by
      match i, h with
      | 0, h => cases h; exact ⟨a0, rfl, by rw [woF]; exact hs⟩
      | 1, h => cases h; trivial
      | 2, h => cases h; trivial
      | 3, h => cases h; trivial
      | 4, h => cases h; trivial
      | 5, h => cases h; trivial
    injH := fun i di dj p h1 h2 hz => by cases hz
    inj := fun i j di dj p h1 => by
      match i, h1 with
      | 0, h => cases h
      | 1, h => cases h
      | 2, h => cases h
      | 3, h => cases h
      | 4, h => cases h
      | 5, h => cases h }
  have mt : ∀ {P : Rho → Prop} {D : Ends}, (∀ N σ H' ρ, P ρ → EnvD K S0 H (fun _ => false) [] N σ H' ρ → D.nx σ H') → Meets K S0 H (fun _ => false) [] { nx := P, rt := fun _ _ => False } D := fun h => ⟨h, fun _ _ _ _ _ _ q => q.elim, fun _ _ _ _ q => q.elim, fun _ _ _ _ q => q.elim⟩
  show t_store K _ [some (.ref a0), none, none, none, none, none] H
  refine ws_s1 (P := fun ρ => ρ = [.scr ns, .dat (.int 271), .unk, .unk, .unk, .unk]) rfl _ _ _ _ _ _ _ E0 (mt fun N1 σ1 H1 ρ1 e1 E1 => ?_)
  subst e1
  refine ws_s2 (P := fun ρ => ∃ (z : Int) (s2 s3 : Sl), 0 ≤ z ∧ z < 2147483587 ∧ ρ = [.scr ns, .dat (.int z), s2, s3, .unk, .unk]) (fun z s2 s3 a b => ⟨z, s2, s3, a, b, rfl⟩) _ _ _ _ _ _ _ E1 (mt fun N2 σ2 H2 ρ2 ⟨z, s2, s3, z0, z1, e2⟩ E2 => ?_)
  subst e2
  refine ws_s3 (P := fun ρ => ∃ g : List Int, g.length ≤ 63 ∧ ρ = [.scr ns, .dat (.int z), s2, .unk, .own (g.map PyData.int), .unk]) (fun g a => ⟨g, a, rfl⟩) _ _ _ _ _ _ _ E2 (mt fun N3 σ3 H3 ρ3 ⟨g, hg, e3⟩ E3 => ?_)
  subst e3
  refine ws_s4 (P := fun ρ => ∃ l : List Int, l.length ≤ 63 ∧ (∀ x ∈ l, 0 ≤ x ∧ x < 10 ^ 18) ∧ ρ = [.scr ns, .dat (.int z), s2, .unk, .own (g.map PyData.int), .own (l.map PyData.int)]) (fun l a b => ⟨l, a, b, rfl⟩) _ _ _ _ _ _ _ E3 (mt fun N4 σ4 H4 ρ4 ⟨l, hl4, hx, e4⟩ E4 => ?_)
  subst e4
  exact s5_run z0 z1 hg hl4 hx E4 hQ
end DL

set_option Elab.async false
set_option linter.all false
set_option maxRecDepth 100000
set_option maxHeartbeats 4000000
/-! DLT: types of data -/
namespace DL
open PySem PySem.Spec PyProof.Rows L2
def tyD : PyData → String
  | .none => "NoneType"
  | .bool _ => "bool"
  | .int _ => "int"
  | .str _ => "str"
  | .list _ => "list"
  | .tuple _ => "tuple"
  | .dict _ => "dict"
abbrev rIsTyX : R2 := fun x y H Q => ∃ a b, x = .ty a ∧ y = .ty b ∧ Q (.bl (decide (a = b))) H
section
variable {K : PySem.W.Frag} {S : Stt} {H0 : Hp} {N0 : Av} {Z : List Hd} {N : Av} {σ : L2.St} {H H' : Hp} {ρ : Rho} {Φ : PyData → Rho → Prop} {Ψ : PyData → Prop}
theorem dt_tyX {v : V} {d : PyData} (h : Dt K H v d) : TyX K H v (.type (tyD d)) := by
  cases h with
  | non => exact .base .non
  | bl b => exact .base (.bl b)
  | int i => exact .base (.int i)
  | str x => exact .base (.str x)
  | lst h t =>
    rcases h with h | ⟨o, h⟩
    · exact .base (.lst h)
    · exact .base (.frz h)
  | tup h t =>
    rcases h with (h | ⟨o, h⟩) | ⟨o, its, n, hk, hc, _⟩
    · exact .base (.tup h)
    · exact .fTuple h
    · exact .kTuple hk hc
  | dct h => exact .base (.dK h)
theorem dt_tyB {v : V} {d : PyData} (h : Dt K H v d) : TyB K H v (tyD d) := by
  cases h with
  | non => exact .non
  | bl b => exact .bl b
  | int i => exact .int i
  | str x => exact .str x
  | lst h t => exact .lst (.inl h)
  | tup h t => exact .tup h
  | dct h => exact .dK h
/-- isinstance(x, T) -/
theorem wd_isi {te : TE} {T : String} (h : WD K S te ρ fun d ρ1 => ∃ b, kitB (tyD d) T = some b ∧ Φ (.bool b) ρ1) : WD K S (tCB (rIsi K) (tCons te (tCons (tC (.ty T)) tNil))) ρ Φ := fun H0 N0 Z N σ H E Q q =>
  h H0 N0 Z N σ H E _ fun v d ρ1 H1 ⟨b, e, f⟩ E1 k1 d1 => ⟨v, .ty T, .type (tyD d), .type T, b, rfl, .ty T, dt_tyX d1.dt, kit_ty e, q _ _ ρ1 H1 f E1 k1 (Dt.bl b)⟩
/-- type(x) is T -/
theorem wd_isTy {te : TE} {T : String} (h : WD K S te ρ fun d ρ1 => Φ (.bool (decide (tyD d = T))) ρ1) : WD K S (tOp rIsTyX (tCB (rTyp K) (tCons te tNil)) (tC (.ty T))) ρ Φ := fun H0 N0 Z N σ H E Q q =>
  h H0 N0 Z N σ H E _ fun v d ρ1 H1 f E1 k1 d1 => ⟨v, tyD d, rfl, dt_tyB d1.dt, _, _, rfl, rfl, q _ _ ρ1 H1 f E1 k1 (Dt.bl _)⟩
/-- str(i) -/
theorem dc_str {i : Int} (c : i.natAbs.log2 < 1920) (h : Ψ (.str (toString i))) : DC K rStrI [.int i] Ψ := fun N H _ us hu Q q => by
  cases hu with
  | cons h1 h2 => cases h2; cases h1; exact ⟨i, rfl, c, q _ _ H h (Same.refl H) (Dt.str _)⟩
def tyNames : List String := ["NoneType", "bool", "int", "str", "list", "tuple", "dict"]
theorem tyD_mem (d : PyData) : tyD d ∈ tyNames := by cases d <;> simp [tyD, tyNames]
theorem kitInt (d : PyData) : kitB (tyD d) "int" = some (tyD d == "int" || tyD d == "bool") :=
  (by decide +kernel : ∀ s ∈ tyNames, kitB s "int" = some (s == "int" || s == "bool")) _ (tyD_mem d)
theorem kitBool (d : PyData) : kitB (tyD d) "bool" = some (tyD d == "bool") :=
  (by decide +kernel : ∀ s ∈ tyNames, kitB s "bool" = some (s == "bool")) _ (tyD_mem d)
theorem kitTup (d : PyData) : kitB (tyD d) "tuple" = some (tyD d == "tuple") :=
  (by decide +kernel : ∀ s ∈ tyNames, kitB s "tuple" = some (s == "tuple")) _ (tyD_mem d)
theorem kitList (d : PyData) : kitB (tyD d) "list" = some (tyD d == "list") :=
  (by decide +kernel : ∀ s ∈ tyNames, kitB s "list" = some (s == "list")) _ (tyD_mem d)
end
end DL

set_option Elab.async false
set_option linter.all false
set_option maxRecDepth 100000
set_option maxHeartbeats 4000000
/-! DLP: parts in the laws' own hands -/
namespace DL
open PySem PySem.Spec PyProof.Rows L2
local macro_rules | `(tactic| walk_at "dl") => `(tactic| repeat' (first
  | with_reducible refine wd_isTy ?_ | with_reducible refine wd_isi ?_ | with_reducible refine wd_op ?_ | with_reducible refine wd_cb ?_ | with_reducible refine wd_un ?_ | with_reducible refine wa_cons ?_ | with_reducible refine wa_nil ?_ | ((with_reducible show WD _ _ (tVar _) _ _); refine wd_var rfl ?_) | with_reducible refine wd_int ?_ | with_reducible refine wd_bl ?_ | with_reducible refine wd_str ?_ | with_reducible refine wd_non ?_
  | with_reducible refine do_add ?_ | with_reducible refine do_sub ?_ | ((with_reducible refine do_mod ?_ ?_); decide) | with_reducible refine do_mod ?_ ?_ | with_reducible refine do_mul ?_ ?_ | ((with_reducible refine do_div ?_ ?_); exact ⟨by decide, by decide⟩) | with_reducible refine do_div ?_ ?_ | ((with_reducible refine do_pow ?_ ?_); exact ⟨by decide, by decide, by decide⟩) | with_reducible refine do_pow ?_ ?_
  | with_reducible refine do_lt ?_ | with_reducible refine do_le ?_ | with_reducible refine do_gt ?_ | with_reducible refine do_ge ?_ | with_reducible refine du_neg ?_
  | with_reducible refine do_eqi ?_ | with_reducible refine do_nei ?_ | with_reducible refine do_eqs ?_ | with_reducible refine do_nes ?_ | with_reducible refine dc_abs ?_ | with_reducible refine dc_min ?_ | with_reducible refine dc_max ?_ | with_reducible refine dc_lenL ?_ | with_reducible refine dc_lenT ?_ | with_reducible refine dc_gcd ?_
  | ((with_reducible show DO _ (rIxT _) _ _ _); refine do_ixT rfl ?_) | ((with_reducible show DO _ (rIxL _) _ _ _); refine do_ixL rfl ?_) | with_reducible refine do_catL ?_ ?_
  | with_reducible refine wd_dnew ?_ | with_reducible refine wd_call0 ?_ | with_reducible refine dc_str ?_ ?_ | with_reducible refine wd_tup ?_ | with_reducible refine wd_lst ?_ | with_reducible refine wt_test ?_ | with_reducible refine wt_B ?_ | with_reducible refine wt_not ?_ | with_reducible refine wt_and ?_ | with_reducible refine wt_or ?_ | with_reducible refine wd_ifE ?_ | with_reducible refine wd_andV ?_ | with_reducible refine wd_orV ?_ | with_reducible refine wd_notV ?_
  | with_reducible refine ws_seq ?_ | with_reducible refine ws_next ?_ | with_reducible refine ws_asg ?_ | with_reducible refine ws_ret ?_ | with_reducible refine ws_retN ?_ | with_reducible refine ws_if ?_ | with_reducible refine ws_par ?_ | with_reducible refine ws_unp2 ?_
  | with_reducible refine if_t ?_ | with_reducible refine if_f ?_ | with_reducible refine if_nf ?_ | with_reducible refine if_nt ?_
  | ((with_reducible show Exists _); first | refine ⟨_, kitInt _, ?_⟩ | refine ⟨_, kitBool _, ?_⟩ | refine ⟨_, kitTup _, ?_⟩ | refine ⟨_, kitList _, ?_⟩ | refine ⟨_, rfl, ?_⟩ | refine ⟨_, _, rfl, ?_⟩ | fail) | fail))

/-! ### lowest terms -/
/-- a by b, b not nought, in lowest terms -/
def nrm (a b : Int) : Int × Int := ((if 0 < b then a else -a) / ((Nat.gcd a.natAbs b.natAbs : Nat) : Int), ((b.natAbs : Nat) : Int) / ((Nat.gcd a.natAbs b.natAbs : Nat) : Int))
def pr (x : Int × Int) : PyData := .tuple [.int x.1, .int x.2]
theorem gcd_pos {a b : Int} (h : b ≠ 0) : 0 < Nat.gcd a.natAbs b.natAbs := Nat.gcd_pos_of_pos_right _ (by omega)
theorem natAbs_le_of {a : Int} {n : Nat} (h : a.natAbs < n) : -(n : Int) < a ∧ a < n := by omega
/-- the promise of a maker of parts -/
def TPart : List PyData → (PyData → Prop) → Prop := fun ds Φ => ∃ a b : Int, ds = [.int a, .int b] ∧ b ≠ 0 ∧ a.natAbs < 2 ^ 8000 ∧ b.natAbs < 2 ^ 8000 ∧ Φ (pr (nrm a b))
def t_law_part (K : PySem.W.Frag) : TS :=
  (tSeq (tPar 2 3 (tCons (tCB rAbsX (tCons (tVar 0) tNil)) (tCons (tCB rAbsX (tCons (tVar 1) tNil)) tNil)))
    (tSeq (tWhile (tTest (tOp rGt (tVar 3) (tC (.int 0)))) (tPar 2 3 (tCons (tVar 3) (tCons (tOp rModI (tVar 2) (tVar 3)) tNil))))
    (tSeq (tAsg (tIf (tTest (tOp rGt (tVar 1) (tC (.int 0)))) (tC (.int 1)) (tUn rNegI (tC (.int 1)))) (gName 4))
    (tRet (tTup (tCons (tOp rDivI (tOp rMulI (tVar 4) (tVar 0)) (tVar 2)) (tCons (tOp rDivI (tCB rAbsX (tCons (tVar 1) tNil)) (tVar 2)) tNil)))))))


theorem log2_of {i : Int} {k : Nat} (h : i.natAbs < 2 ^ k) (hk : 0 < k) : i.natAbs.log2 < k := PySem.Flt.log2_lt_of hk h
theorem natAbs_gcd_le (a b : Int) (h : b ≠ 0) : Nat.gcd a.natAbs b.natAbs ≤ b.natAbs := Nat.gcd_le_right _ (by omega)
theorem euclid_step (x y : Int) (hx : 0 ≤ x) (hy : 0 < y) : Nat.gcd y.natAbs (x.fmod y).natAbs = Nat.gcd x.natAbs y.natAbs := by
  have e : (x.fmod y).natAbs = x.natAbs % y.natAbs := by
    rw [Int.fmod_eq_emod_of_nonneg x (by omega)]
    have : ((x % y).natAbs : Int) = ((x.natAbs % y.natAbs : Nat) : Int) := by
      rw [Int.natCast_emod]
      have h1 : ((x.natAbs : Nat) : Int) = x := by omega
      have h2 : ((y.natAbs : Nat) : Int) = y := by omega
      rw [h1, h2]
      have := Int.emod_nonneg x (show y ≠ 0 by omega)
      omega
    exact_mod_cast this
  rw [e, Nat.gcd_comm y.natAbs (x.natAbs % y.natAbs), ← Nat.gcd_rec y.natAbs x.natAbs, Nat.gcd_comm]
theorem ws_lpart {K : PySem.W.Frag} {ds : List PyData} {Φ : PyData → Prop} (h : TPart ds Φ) : WS K S0 (t_law_part K) (rhoOf 5 ds) { nx := fun _ => Φ .none, rt := fun d _ => Φ d } := by
  obtain ⟨a, b, rfl, hb, ha8, hb8, hΦ⟩ := h
  show WS K S0 (t_law_part K) [.dat (.int a), .dat (.int b), .unk, .unk, .unk] _
  unfold t_law_part
  walk_at "dl"
  refine ws_while (fun m ρ => ∃ x y : Int, ρ = [.dat (.int a), .dat (.int b), .dat (.int x), .dat (.int y), .unk] ∧ 0 ≤ x ∧ 0 ≤ y ∧ m = y.natAbs ∧ Nat.gcd x.natAbs y.natAbs = Nat.gcd a.natAbs b.natAbs) b.natAbs ⟨_, _, rfl, by omega, by omega, by omega, by simp⟩ ?_
  rintro m ρ1 ⟨x, y, rfl, hx, hy, rfl, hg⟩
  walk_at "dl"
  refine if_b (fun hpos => ?_) (fun hz => ?_)
  · walk_at "dl"
    · omega
    · obtain ⟨z1, z2⟩ := fmod_nn (i := x) (j := y) hpos
      exact ⟨(x.fmod y).natAbs, by omega, _, _, rfl, by omega, z1, rfl, (euclid_step x y hx hpos).trans hg⟩
  · have y0 : y = 0 := by omega
    subst y0
    have gx : x.natAbs = Nat.gcd a.natAbs b.natAbs := by simpa using hg
    have gp := gcd_pos (a := a) hb
    have gl := natAbs_gcd_le a b hb
    have ex : x = ((Nat.gcd a.natAbs b.natAbs : Nat) : Int) := by omega
    have x8 : x.natAbs.log2 < 9000 := by
      have := log2_of (i := x) (k := 8000) (by omega) (by decide)
      omega
    have fin : ∀ s : Int, s * a = (if 0 < b then a else -a) → Φ (.tuple [.int ((s * a).fdiv x), .int (((b.natAbs : Nat) : Int).fdiv x)]) := by
      intro s hs
      have e1 : (s * a).fdiv x = (nrm a b).1 := by
        rw [hs, Int.fdiv_eq_ediv_of_nonneg _ (by omega), ex]; rfl
      have e2 : ((b.natAbs : Nat) : Int).fdiv x = (nrm a b).2 := by
        rw [Int.fdiv_eq_ediv_of_nonneg _ (by omega), ex]; rfl
      rw [e1, e2]
      exact hΦ
    have xd : ∀ i : Int, CDivX i x := fun i => ⟨by omega, x8⟩
    walk_at "dl"
    with_reducible refine if_b (fun hp => ?_) (fun hn => ?_)
    · walk_at "dl"
      · exact wide_mul (a := 2) (b := 8000) (by decide) ha8 (by decide) (by decide) (by decide)
      · exact xd _
      · exact xd _
      · exact ⟨by show 2 ≤ sizeLine; decide, fin 1 (by rw [if_pos hp]; omega)⟩
    · walk_at "dl"
      · exact wide_mul (a := 2) (b := 8000) (by decide) ha8 (by decide) (by decide) (by decide)
      · exact xd _
      · exact xd _
      · exact ⟨by show 2 ≤ sizeLine; decide, fin (-1) (by rw [if_neg hn]; omega)⟩
/-! ### about lowest terms -/
theorem nrm_spec {a b : Int} (hb : b ≠ 0) : 1 ≤ (nrm a b).2 ∧ Nat.gcd (nrm a b).1.natAbs (nrm a b).2.natAbs = 1 ∧ (nrm a b).1 * b = a * (nrm a b).2 ∧ (nrm a b).1.natAbs ≤ a.natAbs ∧ (nrm a b).2 ≤ b.natAbs := by
  have gp := gcd_pos (a := a) hb
  obtain ⟨p, hp⟩ : ((Nat.gcd a.natAbs b.natAbs : Nat)) ∣ a.natAbs := Nat.gcd_dvd_left _ _
  obtain ⟨q, hq⟩ : ((Nat.gcd a.natAbs b.natAbs : Nat)) ∣ b.natAbs := Nat.gcd_dvd_right _ _
  have hpq : Nat.gcd p q = 1 := by
    have h1 : Nat.gcd (Nat.gcd a.natAbs b.natAbs * p) (Nat.gcd a.natAbs b.natAbs * q) = Nat.gcd a.natAbs b.natAbs * Nat.gcd p q := Nat.gcd_mul_left _ _ _
    rw [← hp, ← hq] at h1
    have h2 : Nat.gcd a.natAbs b.natAbs * Nat.gcd p q = Nat.gcd a.natAbs b.natAbs * 1 := by rw [Nat.mul_one]; exact h1.symm
    exact Nat.eq_of_mul_eq_mul_left gp h2
  unfold nrm
  generalize hg : Nat.gcd a.natAbs b.natAbs = g at *
  have eb : ((b.natAbs : Nat) : Int) / (g : Int) = (q : Int) := by
    rw [hq, Int.natCast_mul, Int.mul_ediv_cancel_left _ (by omega)]
  have ea : ∃ s : Int, (if 0 < b then a else -a) = (g : Int) * s ∧ s.natAbs = p ∧ s * b = a * q := by
    have hbq : b = (g : Int) * q ∨ b = -((g : Int) * q) := by
      have : ((b.natAbs : Nat) : Int) = (g : Int) * q := by rw [hq]; exact Int.natCast_mul _ _
      omega
    have hap : a = (g : Int) * p ∨ a = -((g : Int) * p) := by
      have : ((a.natAbs : Nat) : Int) = (g : Int) * p := by rw [hp]; exact Int.natCast_mul _ _
      omega
    have q0 : 0 < q := by
      rcases Nat.eq_zero_or_pos q with h | h
      · rw [h] at hq; simp at hq; exact absurd hq hb
      · exact h
    have gq : 0 < (g : Int) * q := Int.mul_pos (by omega) (by omega)
    rcases hbq with hb' | hb' <;> rcases hap with ha' | ha'
    · refine ⟨p, by rw [if_pos (by omega), ha'], by simp, ?_⟩
      rw [hb', ha', Int.mul_assoc, Int.mul_left_comm]
    · refine ⟨-p, by rw [if_pos (by omega), ha', Int.mul_neg], by simp, ?_⟩
      rw [hb', ha', Int.neg_mul, Int.neg_mul, Int.mul_assoc, Int.mul_left_comm]
    · refine ⟨-p, by rw [if_neg (by omega), ha', Int.mul_neg], by simp, ?_⟩
      rw [hb', ha', Int.neg_mul_neg, Int.mul_assoc, Int.mul_left_comm]
    · refine ⟨p, by rw [if_neg (by omega), ha', Int.neg_neg], by simp, ?_⟩
      rw [hb', ha', Int.mul_neg, Int.neg_mul, Int.mul_assoc, Int.mul_left_comm]
  obtain ⟨s, hs, sp, sb⟩ := ea
  have ea2 : (if 0 < b then a else -a) / (g : Int) = s := by
    rw [hs, Int.mul_ediv_cancel_left _ (by omega)]
  simp only [eb, ea2]
  have q0 : 0 < q := by
    rcases Nat.eq_zero_or_pos q with h | h
    · rw [h] at hq; simp at hq; exact absurd hq hb
    · exact h
  refine ⟨by omega, by rw [sp]; simpa using hpq, sb, ?_, ?_⟩
  · rw [sp, hp]; exact Nat.le_mul_of_pos_left _ gp
  · rw [hq]
    have := Nat.le_mul_of_pos_left q gp
    exact_mod_cast this
/-- what is in lowest terms stays -/
theorem nrm_self {a b : Int} (hb : 1 ≤ b) (hg : Nat.gcd a.natAbs b.natAbs = 1) : nrm a b = (a, b) := by
  unfold nrm
  rw [hg, if_pos (by omega)]
  have : ((b.natAbs : Nat) : Int) = b := by omega
  simp [this]
end DL

set_option Elab.async false
set_option linter.all false
set_option maxRecDepth 100000
set_option maxHeartbeats 4000000
/-! DLS: what the laws draw -/
namespace DL
open PySem PySem.Spec PyProof.Rows L2
local macro_rules | `(tactic| walk_at "dl") => `(tactic| repeat' (first
  | with_reducible refine wd_isTy ?_ | with_reducible refine wd_isi ?_ | with_reducible refine wd_op ?_ | with_reducible refine wd_cb ?_ | with_reducible refine wd_un ?_ | with_reducible refine wa_cons ?_ | with_reducible refine wa_nil ?_ | ((with_reducible show WD _ _ (tVar _) _ _); refine wd_var rfl ?_) | with_reducible refine wd_int ?_ | with_reducible refine wd_bl ?_ | with_reducible refine wd_str ?_ | with_reducible refine wd_non ?_
  | with_reducible refine do_add ?_ | with_reducible refine do_sub ?_ | ((with_reducible refine do_mod ?_ ?_); decide) | with_reducible refine do_mod ?_ ?_ | with_reducible refine do_mul ?_ ?_ | ((with_reducible refine do_div ?_ ?_); exact ⟨by decide, by decide⟩) | with_reducible refine do_div ?_ ?_ | ((with_reducible refine do_pow ?_ ?_); exact ⟨by decide, by decide, by decide⟩) | with_reducible refine do_pow ?_ ?_
  | with_reducible refine do_lt ?_ | with_reducible refine do_le ?_ | with_reducible refine do_gt ?_ | with_reducible refine do_ge ?_ | with_reducible refine du_neg ?_
  | with_reducible refine do_eqi ?_ | with_reducible refine do_nei ?_ | with_reducible refine do_eqs ?_ | with_reducible refine do_nes ?_ | with_reducible refine dc_abs ?_ | with_reducible refine dc_min ?_ | with_reducible refine dc_max ?_ | with_reducible refine dc_lenL ?_ | with_reducible refine dc_lenT ?_ | with_reducible refine dc_gcd ?_
  | ((with_reducible show DO _ (rIxT _) _ _ _); refine do_ixT rfl ?_) | ((with_reducible show DO _ (rIxL _) _ _ _); refine do_ixL rfl ?_) | with_reducible refine do_catL ?_ ?_
  | with_reducible refine wd_dnew ?_ | with_reducible refine wd_call0 ?_ | with_reducible refine dc_str ?_ ?_ | with_reducible refine wd_tup ?_ | with_reducible refine wd_lst ?_ | with_reducible refine wt_test ?_ | with_reducible refine wt_B ?_ | with_reducible refine wt_not ?_ | with_reducible refine wt_and ?_ | with_reducible refine wt_or ?_ | with_reducible refine wd_ifE ?_ | with_reducible refine wd_andV ?_ | with_reducible refine wd_orV ?_ | with_reducible refine wd_notV ?_
  | with_reducible refine ws_seq ?_ | with_reducible refine ws_next ?_ | with_reducible refine ws_asg ?_ | with_reducible refine ws_ret ?_ | with_reducible refine ws_retN ?_ | with_reducible refine ws_if ?_ | with_reducible refine ws_par ?_ | with_reducible refine ws_unp2 ?_
  | with_reducible refine if_t ?_ | with_reducible refine if_f ?_ | with_reducible refine if_nf ?_ | with_reducible refine if_nt ?_
  | ((with_reducible show Exists _); first | refine ⟨_, kitInt _, ?_⟩ | refine ⟨_, kitBool _, ?_⟩ | refine ⟨_, kitTup _, ?_⟩ | refine ⟨_, kitList _, ?_⟩ | refine ⟨_, rfl, ?_⟩ | refine ⟨_, _, rfl, ?_⟩ | fail) | fail))

abbrev TDr := TDraw 400 (2 ^ 1899) (2 ^ 40)
section
variable {K : PySem.W.Frag} {S : Stt} {ρ : Rho} {Φ : PyData → Rho → Prop} {Ψ : PyData → Prop}
/-- a draw below what is reckoned -/
theorem wd_draw {i : Nat} {B0 : Nat} {te : TE} (hF : FSto S) (hi : ρ[i]? = some (.sto B0)) (h : WD K S te ρ fun d ρ1 => ∃ (m : Int) (B : Nat), d = .int m ∧ ρ1[i]? = some (.sto B) ∧ 1 ≤ m ∧ m ≤ 2 ^ 1899 ∧ B ≤ 2 ^ 40 ∧ ∀ z : Int, 0 ≤ z → z < m → Φ (.int z) (stoAll (B + 400) ρ1)) :
    WD K S (tCall (spS K FSto TDr) [] E0 (tCons (tVar i) (tCons te tNil))) ρ Φ := by
  refine wd_callS hF hi (wa_cons (WD.imp h fun d ρ1 ⟨m, B, e, hB, m1, m2, b, f⟩ => wa_nil ⟨B, hB, m, by rw [e], m1, m2, b, f⟩))
/-- .. below a written number -/
theorem wd_drawc {i : Nat} {B : Nat} {m : Int} (hF : FSto S) (hi : ρ[i]? = some (.sto B)) (m1 : 1 ≤ m) (m2 : m ≤ 2 ^ 1899) (hB : B ≤ 2 ^ 40) (f : ∀ z : Int, 0 ≤ z → z < m → Φ (.int z) (stoAll (B + 400) ρ)) :
    WD K S (tCall (spS K FSto TDr) [] E0 (tCons (tVar i) (tCons (tC (.int m)) tNil))) ρ Φ := wd_draw hF hi (wd_int ⟨m, B, rfl, hi, m1, m2, hB, f⟩)
theorem atI_of {ds : List PyData} {z : Int} (h0 : 0 ≤ z) (h1 : z < ds.length) : ∃ d, atI ds z = some d ∧ d ∈ ds := by
  obtain ⟨j, rfl⟩ : ∃ j : Nat, z = j := ⟨z.toNat, by omega⟩
  have hj : j < ds.length := by omega
  exact ⟨ds[j], atI_nat (List.getElem?_eq_getElem hj), List.getElem_mem hj⟩
/-- any item of a list, by a place in it -/
theorem do_ixL_any {ds : List PyData} {z : Int} (h0 : 0 ≤ z) (h1 : z < ds.length) (h : ∀ d ∈ ds, Ψ d) : DO K (rIxL K) (.list ds) (.int z) Ψ := by
  obtain ⟨d, e, hm⟩ := atI_of h0 h1
  exact do_ixL e (h d hm)
theorem do_ixL_int {ds : List PyData} {ns : List Int} {z : Int} {P : Int → Prop} (e : ds = ns.map PyData.int) (h0 : 0 ≤ z) (h1 : z < ns.length) (hp : ∀ n ∈ ns, P n) (h : ∀ n, P n → Ψ (.int n)) : DO K (rIxL K) (.list ds) (.int z) Ψ := by
  subst e
  refine do_ixL_any h0 (by rw [List.length_map]; exact h1) fun d hd => ?_
  obtain ⟨n, hn, rfl⟩ := List.mem_map.mp hd
  exact h n (hp n hn)
end
/-- a small part -/
structure PIn (n d : Int) : Prop where
  d1 : 1 ≤ d
  d2 : d ≤ 1000
  n1 : n.natAbs ≤ 10 ^ 6
  g : Nat.gcd n.natAbs d.natAbs = 1
def TSmall : Nat → List PyData → (PyData → Nat → Prop) → Prop := fun B ds Φ => ds = [] ∧ B + 3200 ≤ 2 ^ 40 ∧ ∀ n d : Int, PIn n d → Φ (pr (n, d)) (B + 3200)
def t_law_small (K : PySem.W.Frag) : TS :=
  (tSeq (tAsg (tCall (spS K FSto TDr) [] E0 (tCons (tVar 0) (tCons (tC (.int 6)) tNil))) (gName 1))
    (tSeq (tAsg (tOp (rIxL K) (tLst (tCons (tC (.int 1)) (tCons (tC (.int 1)) (tCons (tC (.int 2)) (tCons (tC (.int 3)) (tCons (tC (.int 4)) (tCons (tC (.int 12)) (tCons (tC (.int 97)) (tCons (tC (.int 101)) (tCons (tC (.int 997)) (tCons (tC (.int 1000)) (tCons (tOp rAddI (tC (.int 1)) (tCall (spS K FSto TDr) [] E0 (tCons (tVar 0) (tCons (tC (.int 1000)) tNil)))) tNil)))))))))))) (tCall (spS K FSto TDr) [] E0 (tCons (tVar 0) (tCons (tC (.int 11)) tNil)))) (gName 2))
    (tSeq (tAsg (tLst (tCons (tC (.int 0)) (tCons (tC (.int 1)) (tCons (tOp rAddI (tC (.int 1)) (tCall (spS K FSto TDr) [] E0 (tCons (tVar 0) (tCons (tC (.int 9)) tNil)))) (tCons (tCall (spS K FSto TDr) [] E0 (tCons (tVar 0) (tCons (tC (.int 1000)) tNil))) (tCons (tOp rSubI (tOp rPowI (tC (.int 10)) (tC (.int 6))) (tCall (spS K FSto TDr) [] E0 (tCons (tVar 0) (tCons (tC (.int 3)) tNil)))) tNil)))))) (gName 3))
    (tSeq (tAsg (tOp (rIxL K) (tOp rCatL (tVar 3) (tLst (tCons (tCall (spS K FSto TDr) [] E0 (tCons (tVar 0) (tCons (tOp rPowI (tC (.int 10)) (tC (.int 6))) tNil))) tNil))) (tVar 1)) (gName 3))
    (tRet (tCall (spP K TPart) [] E0 (tCons (tOp rMulI (tVar 3) (tOp (rIxL K) (tLst (tCons (tC (.int 1)) (tCons (tUn rNegI (tC (.int 1))) tNil))) (tCall (spS K FSto TDr) [] E0 (tCons (tVar 0) (tCons (tC (.int 2)) tNil))))) (tCons (tVar 2) tNil))))))))


theorem pow30 : (10 : Int) ^ (30 : Int).toNat ≤ 2 ^ 1899 := by decide +kernel
theorem pow6 : (10 : Int) ^ (6 : Int).toNat = 1000000 := by decide +kernel
theorem big1899 : (1000000 : Int) ≤ 2 ^ 1899 := by decide +kernel
theorem ws_lsmall {K : PySem.W.Frag} {S : Stt} {B : Nat} {ds : List PyData} {Φ : PyData → Nat → Prop} (hF : FSto S) (h : TSmall B ds Φ) : WS K S (t_law_small K) (.sto B :: rhoOf 3 ds) { nx := fun _ => False, rt := fun d ρ => ∃ B', ρ[0]? = some (.sto B') ∧ Φ d B' } := by
  obtain ⟨rfl, hB, hΦ⟩ := h
  show WS K S (t_law_small K) [.sto B, .unk, .unk, .unk] _
  unfold t_law_small
  have L : ∀ m : Int, m ≤ 1000000 → m ≤ 2 ^ 1899 := fun m hm => Int.le_trans hm big1899
  walk_at "dl"
  refine wd_drawc hF rfl (by decide) (L _ (by decide)) (by omega) fun size s0 s1 => ?_
  walk_at "dl"
  refine wd_drawc hF rfl (by decide) (L _ (by decide)) (by omega) fun z1 z10 z11 => ?_
  walk_at "dl"
  refine ⟨by show 11 ≤ sizeLine; decide, ?_⟩
  refine wd_drawc hF rfl (by decide) (L _ (by decide)) (by omega) fun z2 z20 z21 => ?_
  refine do_ixL_int (ns := [1, 1, 2, 3, 4, 12, 97, 101, 997, 1000, 1 + z1]) (P := fun n => 1 ≤ n ∧ n ≤ 1000) rfl z20 z21 (by simp; omega) fun below hb => ?_
  walk_at "dl"
  refine wd_drawc hF rfl (by decide) (L _ (by decide)) (by omega) fun z3 z30 z31 => ?_
  walk_at "dl"
  refine wd_drawc hF rfl (by decide) (L _ (by decide)) (by omega) fun z4 z40 z41 => ?_
  walk_at "dl"
  refine wd_drawc hF rfl (by decide) (L _ (by decide)) (by omega) fun z5 z50 z51 => ?_
  walk_at "dl"
  refine ⟨by show 5 ≤ sizeLine; decide, ?_⟩
  walk_at "dl"
  refine wd_draw hF rfl ?_
  walk_at "dl"
  refine ⟨_, _, rfl, rfl, by decide, L _ (by rw [pow6]; decide), by omega, fun z6 z60 z61 => ?_⟩
  walk_at "dl"
  refine ⟨by show 1 ≤ sizeLine; decide, ?_⟩
  walk_at "dl"
  · show 5 + 1 ≤ sizeLine; decide
  rw [pow6] at z61
  refine do_ixL_int (ns := [0, 1, 1 + z3, z4, 10 ^ (6 : Int).toNat - z5, z6]) (P := fun n => 0 ≤ n ∧ n ≤ 1000000) rfl s0 s1 (by rw [pow6]; simp; omega) fun above ha => ?_
  walk_at "dl"
  refine ⟨by show 2 ≤ sizeLine; decide, ?_⟩
  refine wd_drawc hF rfl (by decide) (L _ (by decide)) (by omega) fun z7 z70 z71 => ?_
  refine do_ixL_int (ns := [1, -1]) (P := fun n => n = 1 ∨ n = -1) rfl z70 z71 (by simp) fun sg hs => ?_
  walk_at "dl"
  · exact wide_mul (a := 20) (b := 2) (by omega) (by omega) (by decide) (by decide) (by decide)
  walk_at "dl"
  have h1 : (above * sg).natAbs ≤ 1000000 := by rcases hs with rfl | rfl <;> omega
  have big : (1000001 : Nat) ≤ 2 ^ 8000 := by decide +kernel
  have hb0 : below ≠ 0 := by omega
  obtain ⟨q1, q2, q3, q4, q5⟩ := nrm_spec (a := above * sg) hb0
  refine ⟨_, _, rfl, hb0, Nat.lt_of_lt_of_le (by omega) big, Nat.lt_of_lt_of_le (by omega) big, _, rfl, ?_⟩
  exact hΦ (nrm (above * sg) below).1 (nrm (above * sg) below).2 ⟨q1, by omega, by omega, q2⟩
/-! ### the law's own run -/
def spLaw (K : PySem.W.Frag) : Sp := fun vs H Q _ => ∃ (a : Addr) (ns : List Int), vs = [.ref a] ∧ SqL K H a (ns.map V.int) ∧ ns.length ≤ 63 ∧ ∀ H', Q (.bl true) H'
theorem run_law {K : PySem.W.Frag} {n : Nat} {Nm : List Str} {rest : TS} {vs : List V} {H : Hp} {Q : VK} {E : XK} (hn : Nm.length = n + 2) (h : spLaw K vs H Q E)
    (b : ∀ S ns, FSto S → ns.length ≤ 63 → WS K S rest (.scr ns :: .sto 0 :: List.replicate n .unk) { nx := fun _ => False, rt := fun d _ => d = .bool true }) :
    tSeq (tAsg (tCall (spMk K) [] E0 (tCons (tVar 0) tNil)) (gName 1)) rest { nx := fun _ H' => Q .non H', rt := Q } (L2.start Nm vs) H := by
  obtain ⟨a, ns, rfl, hs, hl, hQ⟩ := h
  have e0 : L2.start Nm [V.ref a] = some (.ref a) :: none :: List.replicate n none := by
    show [some (V.ref a)] ++ List.replicate (Nm.length - 1) none = _
    rw [hn, show n + 2 - 1 = n + 1 by omega, List.replicate_succ]
    rfl
  rw [e0]
  refine ⟨_, rfl, ?_⟩
  refine ⟨a, ns, rfl, hs, hl, fun S H' hF hok hfp sm => ?_⟩
  have sw : Same H (wo S.fp H') := fun c o hc => by
    have : S.fp c = false := by
      cases z : S.fp c with
      | false => rfl
      | true => rw [hfp c z] at hc; cases hc
    rw [wo_in this]
    exact sm c o hc
  have rep : ∀ {i : Nat} {s : Sl}, (List.replicate n Sl.unk)[i]? = some s → s = .unk := fun {i s} h => by
    rw [List.getElem?_replicate] at h
    split at h
    · exact (Option.some.inj h).symm
    · cases h
  have E1 : EnvD K S (fun _ => none) (fun _ => false) [] S.fp (some (V.ref a) :: some (V.ref S.a) :: List.replicate n none) H' (.scr ns :: .sto 0 :: List.replicate n .unk) := {
    keep := fun _ _ _ h => (nomatch h), base := fun _ h => (nomatch h), trk := fun c hc => S.trk H' 0 hok c hc, sub := Le.refl, len := by simp, hid := fun _ h => (nomatch h), injZ := fun i j di dj p h => by simp at h
    slot := fun i s h => by
      match i, h with
      | 0, h => cases h; exact ⟨a, rfl, sw.seq hs⟩
      | 1, h => cases h; exact ⟨rfl, hok⟩
      | i + 2, h =>
        have e : s = .unk := rep (i := i) (by simpa using h)
        subst e
        trivial
    injH := fun i di dj p h1 h2 hz => by cases hz
    inj := fun i j di dj p h1 => by
      match i, h1 with
      | 0, h => cases h
      | 1, h => cases h
      | i + 2, h =>
        have e : Sl.own di = .unk := rep (i := i) (by simpa using h)
        cases e }
  refine b S ns hF hl _ _ _ _ _ _ _ E1 ⟨fun _ _ _ _ q => q.elim, fun N' σ' H2 ρ' v d q E2 dv => ?_, fun _ _ _ _ q => q.elim, fun _ _ _ _ q => q.elim⟩
  have q' : d = .bool true := q
  subst q'
  have e : v = .bl true := dv.bool_inv
  subst e
  exact hQ H2
theorem wd_dnew {K : PySem.W.Frag} {S : Stt} {ρ : Rho} {Φ : PyData → Rho → Prop} (f : Φ (.dict []) ρ) : WD K S tDNewK ρ Φ := fun H0 N0 Z N σ H E Q q p hp => by
  have s := same_new hp (.dK [])
  refine q (.ref p) _ ρ _ f (E.ext s) (Keep.of s) (Dt.dct ?_)
  rw [wo_in (fresh_av E.trk hp)]
  exact upd_same
end DL

set_option Elab.async false
set_option linter.all false
set_option maxRecDepth 100000
set_option maxHeartbeats 2000000
namespace DL
open PySem PySem.Spec PyProof.Rows L2
/-! ### the head: facts of defs, and names that stand for a function of math -/
abbrev AlG : Type := He.AlD × Bool
def bltB (K : PySem.W.Frag) (bs : List (Str × String)) : Bool := bs.all fun p => He.eqO (PySem.W.nsIn K mainGlobals p.1) (some (some (.builtin p.2)))
def obsM (n : Nat) (fa : List He.Fa) (fn : List He.DefD) (bs : List (Str × String)) (g : Addr → Option Obj) : AlG := (He.obsDG n fa fn g, bltB (He.frG g (He.asD g n)) bs)
def hookM (n : Nat) (fa : List He.Fa) (fn : List He.DefD) (bs : List (Str × String)) : PySem.W.Hook where
  α := AlG
  obs := fun s => obsM n fa fn bs s.heap.get?
  val := fun _ => (He.valD fn, true)
  says := fun _ h => ∃ K : PySem.W.Frag, K.In h ∧ He.SaysD fa fn K ∧ bltB K bs = true
  of := fun _ _ e => ⟨_, He.frG_in, congrArg Prod.fst e, congrArg Prod.snd e⟩
  keeps := fun _ _ _ ⟨K, hK, c⟩ k => ⟨K, PySem.W.Frag.In.keeps hK k, c⟩
theorem obsM_eq {n : Nat} {fa : List He.Fa} {fn : List He.DefD} {bs : List (Str × String)} {g : Addr → Option Obj} {s : Shared} (h : ∀ a, g a = s.heap.get? a) : obsM n fa fn bs g = (hookM n fa fn bs).obs s := by
  have e : g = s.heap.get? := funext h
  rw [e] <;> rfl
theorem blt_ok {K : PySem.W.Frag} {h : Heap} {mg : Str → Option Value} {bs : List (Str × String)} (X : K.In h) (G : h.Ns mainGlobals mg) (c : bltB K bs = true) {x : Str} {b : String} (hm : (x, b) ∈ bs) : mg x = some (.builtin b) :=
  PySem.W.mg_of X G (He.eqO_ok (List.all_eq_true.mp c _ hm))
/-- by names, of a def without defaults -/
theorem kbN {K : PySem.W.Frag} {x qual : Str} {params : Arguments} {body : List Stmt} {scope : Scope} {kws : List (Str × V)} {f : Addr} {fd : FuncData} {ps : List Str} (F : FunD K x qual params body scope [] kws f fd) (n : Nat) (ks : List Str) (g : {α : Type} → List α → List α → List α)
    (hrel : ∀ {vs zs : List V} {us ws : List Value}, Vals vs us → Vals zs ws → Vals (g vs zs) (g us ws))
    (h : ∀ (kV doc pm : Value) (an : Option Addr) (cdv ct : Value) (us ws : List Value), us.length = n → ws.length = ks.length → bindArgs (PySem.W.fnOf x qual params body scope .none kV doc pm an cdv ct) ⟨us, ks.zip ws⟩ = pure (ps.zip (g us ws))) :
    KBn K fd ps n ks (fun us ws => g us ws) (fun vs zs => g vs zs) := by
  obtain ⟨oc, od, dV, kV, doc, pm, an, cdv, ct, osl, rfl, lk, hcd, hD, hK⟩ := F.ex
  rcases hD with ⟨_, rfl⟩ | ⟨e, _⟩
  · exact ⟨fun s us ws _ l1 l2 => .of_eq (h kV doc pm an cdv ct us ws l1 l2), fun r1 r2 => hrel r1 r2⟩
  · exact absurd rfl e
/-- a promise of nothing: for a call that is never made -/
def spNo : Sp := fun _ _ _ _ => False
section
variable {P : Program} {w : World} {K : PySem.W.Frag} {mg : Str → Option Value} {base : Heap}
theorem fn_no {x ql : Str} {prm : Arguments} {bd : List Stmt} {sc : Scope} {dvs : List V} {kws : List (Str × V)} {f : Addr} {fd : FuncData} {Nm ps : List Str} (F : FunD K x ql prm bd sc dvs kws f fd) (S : FnScope Nm ps sc) : FnOk P w K mg base CX0 1 f fd ps spNo :=
  F.ok S (fun _ _ _ _ h => h.elim) fun _ _ _ _ _ _ _ _ _ h => h.elim
theorem has_of {x : Str} {k : Nat} {ps : List Str} {sp : Sp} {f : Addr} {fd : FuncData} (F : FnOk P w K mg base CX0 k f fd ps sp) (hm : mg x = some (.ref f)) (hk : PySem.W.keepIn K (.ref f) = true) (hb : Binds K fd ps []) : Has P w K mg base CX0 x k ps sp [] := ⟨f, fd, [], F, hm, hk, hb, .nil⟩
theorem hasG_of {x : Str} {k : Nat} {ps : List Str} {sp : Sp} {f : Addr} {fd : FuncData} (F : FnG P w K mg base CX0 k f fd ps sp) (hm : mg x = some (.ref f)) (hk : PySem.W.keepIn K (.ref f) = true) (hb : Binds K fd ps []) : HasG P w K mg base CX0 x k ps sp := ⟨f, fd, F, hm, hk, hb⟩
theorem hasK_of {x : Str} {k n : Nat} {ps ks : List Str} {sp : Sp} {gV : List V → List V → List V} {g : List Value → List Value → List Value} {f : Addr} {fd : FuncData} (F : FnOk P w K mg base CX0 k f fd ps sp) (hm : mg x = some (.ref f)) (hk : PySem.W.keepIn K (.ref f) = true) (hb : KBn K fd ps n ks g gV) : HasK P w K mg base CX0 x k ps sp n ks gV := ⟨f, fd, g, F, hm, hk, hb⟩
end
theorem spP_len {K : PySem.W.Frag} {T : List PyData → (PyData → Prop) → Prop} {n : Nat} (hT : ∀ ds Φ, T ds Φ → ds.length = n) {vs : List V} {H : Hp} {Q : VK} {E : XK} (h : spP K T vs H Q E) : vs.length = n := by
  obtain ⟨N, ds, Φ, _, hd, t, _⟩ := h
  exact hd.len.trans (hT ds Φ t)
theorem spS_len {K : PySem.W.Frag} {F : Stt → Prop} {T : Nat → List PyData → (PyData → Nat → Prop) → Prop} {n : Nat} (hT : ∀ B ds Φ, T B ds Φ → ds.length = n) {vs : List V} {H : Hp} {Q : VK} {E : XK} (h : spS K F T vs H Q E) : vs.length = n + 1 := by
  obtain ⟨S, N, us, ds, B, Φ, rfl, _, _, _, _, hd, t, _⟩ := h
  have e := hd.len.trans (hT B ds Φ t)
  simp [e]
end DL

set_option Elab.async false
set_option linter.all false
set_option maxRecDepth 100000
set_option maxHeartbeats 4000000
/-! DLA: parts reckoned -/
namespace DL
open PySem PySem.Spec PyProof.Rows L2
local macro_rules | `(tactic| walk_at "dl") => `(tactic| repeat' (first
  | with_reducible refine wd_isTy ?_ | with_reducible refine wd_isi ?_ | with_reducible refine wd_op ?_ | ((with_reducible show WD _ _ (tCB (rLenX _) (tCons (tVar _) tNil)) _ _); refine wd_len_scr rfl ?_) | with_reducible refine wd_cb ?_ | with_reducible refine wd_un ?_ | with_reducible refine wa_cons ?_ | with_reducible refine wa_nil ?_ | ((with_reducible show WD _ _ (tVar _) _ _); refine wd_var rfl ?_) | with_reducible refine wd_int ?_ | with_reducible refine wd_bl ?_ | with_reducible refine wd_str ?_ | with_reducible refine wd_non ?_
  | with_reducible refine do_add ?_ | with_reducible refine do_sub ?_ | ((with_reducible refine do_mod ?_ ?_); decide) | with_reducible refine do_mod ?_ ?_ | with_reducible refine do_mul ?_ ?_ | ((with_reducible refine do_div ?_ ?_); exact ⟨by decide, by decide⟩) | with_reducible refine do_div ?_ ?_ | ((with_reducible refine do_pow ?_ ?_); exact ⟨by decide, by decide, by decide⟩) | with_reducible refine do_pow ?_ ?_
  | with_reducible refine do_lt ?_ | with_reducible refine do_le ?_ | with_reducible refine do_gt ?_ | with_reducible refine do_ge ?_ | with_reducible refine du_neg ?_
  | with_reducible refine do_eqi ?_ | with_reducible refine do_nei ?_ | with_reducible refine do_eqs ?_ | with_reducible refine do_nes ?_ | with_reducible refine dc_abs ?_ | with_reducible refine dc_min ?_ | with_reducible refine dc_max ?_ | with_reducible refine dc_lenL ?_ | with_reducible refine dc_lenT ?_ | with_reducible refine dc_gcd ?_
  | ((with_reducible show DO _ (rIxT _) _ _ _); refine do_ixT rfl ?_) | ((with_reducible show DO _ (rIxL _) _ _ _); refine do_ixL rfl ?_) | ((with_reducible refine do_catL ?_ ?_); exact Nat.le_of_ble_eq_true rfl) | with_reducible refine do_catL ?_ ?_ | ((with_reducible show And (List.length _ ≤ sizeLine) _); refine ⟨Nat.le_of_ble_eq_true rfl, ?_⟩)
  | with_reducible refine wd_dnew ?_ | with_reducible refine wd_call0 ?_ | with_reducible refine dc_str ?_ ?_ | with_reducible refine wd_tup ?_ | with_reducible refine wd_lst ?_ | with_reducible refine wt_test ?_ | with_reducible refine wt_B ?_ | with_reducible refine wt_not ?_ | with_reducible refine wt_and ?_ | with_reducible refine wt_or ?_ | with_reducible refine wd_ifE ?_ | with_reducible refine wd_andV ?_ | with_reducible refine wd_orV ?_ | with_reducible refine wd_notV ?_
  | with_reducible refine ws_seq ?_ | with_reducible refine ws_next ?_ | with_reducible refine ws_asg ?_ | with_reducible refine ws_ret ?_ | with_reducible refine ws_retN ?_ | with_reducible refine ws_if ?_ | with_reducible refine ws_par ?_ | with_reducible refine ws_unp2 ?_
  | with_reducible refine if_t ?_ | with_reducible refine if_f ?_ | with_reducible refine if_nf ?_ | with_reducible refine if_nt ?_
  | ((with_reducible show Exists _); first | refine ⟨_, kitInt _, ?_⟩ | refine ⟨_, kitBool _, ?_⟩ | refine ⟨_, kitTup _, ?_⟩ | refine ⟨_, kitList _, ?_⟩ | refine ⟨_, rfl, ?_⟩ | refine ⟨_, _, rfl, ?_⟩ | fail) | fail))
/-! ### what is never reached -/
def tNo : TS := fun _ _ _ => False
def tNoE : TE := fun _ _ _ => False
theorem ps_no {X : Cx} {st : Stmt} : PS X st tNo := ⟨fun _ _ _ _ _ _ h => h.elim⟩
theorem pss_no {X : Cx} {st : List Stmt} : PSs X st tNo := ⟨fun _ _ _ _ _ _ h => h.elim⟩
theorem pe_no {X : Cx} {e : Expr} : PE X e tNoE := ⟨fun _ _ _ _ _ _ h => h.elim⟩
/-! ### a maker of parts -/
def t_part (K : PySem.W.Frag) : TS :=
  (tSeq (tIfS (tTest (tOp rEq (tVar 1) (tC (.int 0)))) tNo tNext)
    (tSeq (tAsg (tCB rGcd (tCons (tVar 0) (tCons (tVar 1) tNil))) (gName 2))
    (tSeq (tIfS (tTest (tOp rLt (tVar 1) (tC (.int 0)))) (tAsg (tUn rNegI (tVar 2)) (gName 2)) tNext)
    (tRet (tTup (tCons (tOp rDivI (tVar 0) (tVar 2)) (tCons (tOp rDivI (tVar 1) (tVar 2)) tNil)))))))
theorem nrm_pos {a b : Int} (hb : 0 < b) : (nrm a b) = (a.fdiv (Nat.gcd a.natAbs b.natAbs : Nat), b.fdiv (Nat.gcd a.natAbs b.natAbs : Nat)) := by
  unfold nrm
  have : ((b.natAbs : Nat) : Int) = b := by omega
  rw [if_pos hb, this, Int.fdiv_eq_ediv_of_nonneg _ (by omega), Int.fdiv_eq_ediv_of_nonneg _ (by omega)]
theorem fdiv_neg_dvd {x g : Int} (hg : g ≠ 0) (h : g ∣ x) : x.fdiv (-g) = (-x) / g := by
  obtain ⟨k, rfl⟩ := h
  have e1 : g * k = (-g) * (-k) := by rw [Int.neg_mul_neg]
  have e2 : -(g * k) = g * (-k) := by rw [Int.mul_neg]
  rw [e2, Int.mul_ediv_cancel_left _ hg, e1, Int.mul_fdiv_cancel_left _ (by omega)]
theorem nrm_neg {a b : Int} (hb : b < 0) : (nrm a b) = (a.fdiv (-(Nat.gcd a.natAbs b.natAbs : Nat)), b.fdiv (-(Nat.gcd a.natAbs b.natAbs : Nat))) := by
  have gp := gcd_pos (a := a) (b := b) (by omega)
  have d1 : ((Nat.gcd a.natAbs b.natAbs : Nat) : Int) ∣ a := Int.ofNat_dvd_left.mpr (Nat.gcd_dvd_left _ _)
  have d2 : ((Nat.gcd a.natAbs b.natAbs : Nat) : Int) ∣ b := Int.ofNat_dvd_left.mpr (Nat.gcd_dvd_right _ _)
  unfold nrm
  have : ((b.natAbs : Nat) : Int) = -b := by omega
  rw [if_neg (by omega), this, fdiv_neg_dvd (by omega) d1, fdiv_neg_dvd (by omega) d2]
theorem ws_part {K : PySem.W.Frag} {ds : List PyData} {Φ : PyData → Prop} (h : TPart ds Φ) : WS K S0 (t_part K) (rhoOf 3 ds) { nx := fun _ => Φ .none, rt := fun d _ => Φ d } := by
  obtain ⟨a, b, rfl, hb, ha8, hb8, hΦ⟩ := h
  show WS K S0 (t_part K) [.dat (.int a), .dat (.int b), .unk] _
  unfold t_part
  walk_at "dl"
  refine if_b (fun h => absurd h hb) (fun _ => ?_)
  have gp := gcd_pos (a := a) hb
  have gl := natAbs_gcd_le a b hb
  have x8 : (((Nat.gcd a.natAbs b.natAbs : Nat) : Int)).natAbs.log2 < 9000 := by
    have := log2_of (i := ((Nat.gcd a.natAbs b.natAbs : Nat) : Int)) (k := 8000) (by omega) (by decide)
    omega
  have y8 : (-((Nat.gcd a.natAbs b.natAbs : Nat) : Int)).natAbs.log2 < 9000 := by
    rw [Int.natAbs_neg]; exact x8
  walk_at "dl"
  refine if_b (fun hn => ?_) (fun hp => ?_)
  · walk_at "dl"
    · exact ⟨by omega, y8⟩
    · exact ⟨by omega, y8⟩
    · have e := nrm_neg (a := a) hn
      rw [e] at hΦ
      exact hΦ
  · walk_at "dl"
    · exact ⟨by omega, x8⟩
    · exact ⟨by omega, x8⟩
    · have e := nrm_pos (a := a) (b := b) (by omega)
      rw [e] at hΦ
      exact hΦ
theorem eqv_pr2 (a b c d : Int) : PyData.eqv (pr (a, b)) (pr (c, d)) = (decide (a = c) && decide (b = d)) := by
  show ((a == c) && ((b == d) && true)) = _
  rw [Bool.and_true]
  by_cases h1 : a = c <;> by_cases h2 : b = d <;> simp [h1, h2]
theorem sh_pr2 (x : Int × Int) : SeqAt.shaped (pr x) = true := by
  simp [pr, SeqAt.shaped, PyData.canLay0, PyData.canLayAll0, PyData.depth, PyData.depthAll]
theorem eqv_prr (x : Int × Int) : PyData.eqv (pr x) (pr x) = true := by
  obtain ⟨a, b⟩ := x
  rw [eqv_pr2]; simp
section
variable {K : PySem.W.Frag} {Ψ : PyData → Prop}
/-- a part against the same -/
theorem do_nePr {x : Int × Int} (h : Ψ (.bool false)) : DO K (rNeD K) (pr x) (pr x) Ψ := do_neD (sh_pr2 x) (sh_pr2 x) (by rw [eqv_prr]; exact h)
theorem do_eqPr {x : Int × Int} (h : Ψ (.bool true)) : DO K (rEqD K) (pr x) (pr x) Ψ := do_eqD (sh_pr2 x) (sh_pr2 x) (by rw [eqv_prr]; exact h)
theorem do_neb {i j : Bool} (h : Ψ (.bool (!decide (i = j)))) : DO K rNe (.bool i) (.bool j) Ψ := fun N H _ u w hu hw Q q => by
  cases hu; cases hw
  refine ⟨rfl, ?_⟩
  have e : decide (V.bl i = V.bl j) = decide (i = j) := by
    by_cases e : i = j
    · subst e; simp
    · rw [decide_eq_false e, decide_eq_false (fun z => e (V.bl.inj z))]
  rw [e]
  exact q _ _ H h (Same.refl H) (Dt.bl _)
end
/-! ### what is reckoned of two -/
structure Wd4 (a b c d : Int) : Prop where
  a : a.natAbs < 2 ^ 3900
  b : b.natAbs < 2 ^ 3900
  c : c.natAbs < 2 ^ 3900
  d : d.natAbs < 2 ^ 3900
theorem Wd4.mul {i j : Int} (hi : i.natAbs < 2 ^ 3900) (hj : j.natAbs < 2 ^ 3900) : CMulW i j := wide_mul hi hj (by decide) (by decide) (by decide)
theorem lt78 {i j : Int} (hi : i.natAbs < 2 ^ 3900) (hj : j.natAbs < 2 ^ 3900) : (i * j).natAbs < 2 ^ 7800 := wide_lt (a := 3900) (b := 3900) hi hj
theorem le80 : (2 : Nat) ^ 7800 + 2 ^ 7800 ≤ 2 ^ 8000 := by decide +kernel
theorem lt80 {i j : Int} (hi : i.natAbs < 2 ^ 3900) (hj : j.natAbs < 2 ^ 3900) : (i * j).natAbs < 2 ^ 8000 := by
  have := lt78 hi hj; have := le80; omega
theorem add80 {x y : Int} (hx : x.natAbs < 2 ^ 7800) (hy : y.natAbs < 2 ^ 7800) : (x + y).natAbs < 2 ^ 8000 := by
  have := le80; omega
theorem sub80 {x y : Int} (hx : x.natAbs < 2 ^ 7800) (hy : y.natAbs < 2 ^ 7800) : (x - y).natAbs < 2 ^ 8000 := by
  have := le80; omega
def T2 (P : Int → Int → Int → Int → Prop) (f : Int → Int → Int → Int → PyData) : List PyData → (PyData → Prop) → Prop := fun ds Φ => ∃ a b c d : Int, ds = [pr (a, b), pr (c, d)] ∧ Wd4 a b c d ∧ P a b c d ∧ Φ (f a b c d)
abbrev PBD : Int → Int → Int → Int → Prop := fun _ b _ d => b ≠ 0 ∧ d ≠ 0
abbrev TPlus := T2 PBD fun a b c d => pr (nrm (a * d + c * b) (b * d))
abbrev TLess := T2 PBD fun a b c d => pr (nrm (a * d - c * b) (b * d))
abbrev TTimes := T2 PBD fun a b c d => pr (nrm (a * c) (b * d))
abbrev TOver := T2 (fun _ b c _ => b ≠ 0 ∧ c ≠ 0) fun a b c d => pr (nrm (a * d) (b * c))
abbrev TUnder := T2 (fun _ _ _ _ => True) fun a b c d => .bool (decide (a * d < c * b))
def T1 (f : Int → Int → PyData) : List PyData → (PyData → Prop) → Prop := fun ds Φ => ∃ a b : Int, ds = [pr (a, b)] ∧ b ≠ 0 ∧ b.natAbs < 2 ^ 3900 ∧ Φ (f a b)
abbrev TFloor := T1 fun a b => .int (a.fdiv b)
abbrev TCeil := T1 fun a b => .int (-((-a).fdiv b))
def t_plus (K : PySem.W.Frag) : TS :=
  (tRet (tCall (spP K TPart) [] E0 (tCons (tOp rAddI (tOp rMulI (tOp (rIxT K) (tVar 0) (tC (.int 0))) (tOp (rIxT K) (tVar 1) (tC (.int 1)))) (tOp rMulI (tOp (rIxT K) (tVar 1) (tC (.int 0))) (tOp (rIxT K) (tVar 0) (tC (.int 1))))) (tCons (tOp rMulI (tOp (rIxT K) (tVar 0) (tC (.int 1))) (tOp (rIxT K) (tVar 1) (tC (.int 1)))) tNil))))
def t_less (K : PySem.W.Frag) : TS :=
  (tRet (tCall (spP K TPart) [] E0 (tCons (tOp rSubI (tOp rMulI (tOp (rIxT K) (tVar 0) (tC (.int 0))) (tOp (rIxT K) (tVar 1) (tC (.int 1)))) (tOp rMulI (tOp (rIxT K) (tVar 1) (tC (.int 0))) (tOp (rIxT K) (tVar 0) (tC (.int 1))))) (tCons (tOp rMulI (tOp (rIxT K) (tVar 0) (tC (.int 1))) (tOp (rIxT K) (tVar 1) (tC (.int 1)))) tNil))))
def t_times (K : PySem.W.Frag) : TS :=
  (tRet (tCall (spP K TPart) [] E0 (tCons (tOp rMulI (tOp (rIxT K) (tVar 0) (tC (.int 0))) (tOp (rIxT K) (tVar 1) (tC (.int 0)))) (tCons (tOp rMulI (tOp (rIxT K) (tVar 0) (tC (.int 1))) (tOp (rIxT K) (tVar 1) (tC (.int 1)))) tNil))))
def t_over (K : PySem.W.Frag) : TS :=
  (tRet (tCall (spP K TPart) [] E0 (tCons (tOp rMulI (tOp (rIxT K) (tVar 0) (tC (.int 0))) (tOp (rIxT K) (tVar 1) (tC (.int 1)))) (tCons (tOp rMulI (tOp (rIxT K) (tVar 0) (tC (.int 1))) (tOp (rIxT K) (tVar 1) (tC (.int 0)))) tNil))))
def t_is_less (K : PySem.W.Frag) : TS :=
  (tRet (tOp rLt (tOp rMulI (tOp (rIxT K) (tVar 0) (tC (.int 0))) (tOp (rIxT K) (tVar 1) (tC (.int 1)))) (tOp rMulI (tOp (rIxT K) (tVar 1) (tC (.int 0))) (tOp (rIxT K) (tVar 0) (tC (.int 1))))))
def t_floor (K : PySem.W.Frag) : TS :=
  (tRet (tOp rDivI (tOp (rIxT K) (tVar 0) (tC (.int 0))) (tOp (rIxT K) (tVar 0) (tC (.int 1)))))
def t_ceiling (K : PySem.W.Frag) : TS :=
  (tRet (tUn rNegI (tOp rDivI (tUn rNegI (tOp (rIxT K) (tVar 0) (tC (.int 0)))) (tOp (rIxT K) (tVar 0) (tC (.int 1))))))
section
variable {K : PySem.W.Frag} {ds : List PyData} {Φ : PyData → Prop}
theorem ws_plus (h : TPlus ds Φ) : WS K S0 (t_plus K) (rhoOf 2 ds) { nx := fun _ => Φ .none, rt := fun d _ => Φ d } := by
  obtain ⟨a, b, c, d, rfl, w, ⟨hb, hd⟩, hΦ⟩ := h
  show WS K S0 (t_plus K) [.dat (.tuple [.int a, .int b]), .dat (.tuple [.int c, .int d])] _
  unfold t_plus
  refine ws_ret (wd_call (dds := []) (fun _ => DtAll.nil) ?_)
  walk_at "dl"
  · exact Wd4.mul w.a w.d
  · exact Wd4.mul w.c w.b
  · exact Wd4.mul w.b w.d
  · exact ⟨_, _, rfl, Int.mul_ne_zero hb hd, add80 (lt78 w.a w.d) (lt78 w.c w.b), lt80 w.b w.d, hΦ⟩
theorem ws_less (h : TLess ds Φ) : WS K S0 (t_less K) (rhoOf 2 ds) { nx := fun _ => Φ .none, rt := fun d _ => Φ d } := by
  obtain ⟨a, b, c, d, rfl, w, ⟨hb, hd⟩, hΦ⟩ := h
  show WS K S0 (t_less K) [.dat (.tuple [.int a, .int b]), .dat (.tuple [.int c, .int d])] _
  unfold t_less
  refine ws_ret (wd_call (dds := []) (fun _ => DtAll.nil) ?_)
  walk_at "dl"
  · exact Wd4.mul w.a w.d
  · exact Wd4.mul w.c w.b
  · exact Wd4.mul w.b w.d
  · exact ⟨_, _, rfl, Int.mul_ne_zero hb hd, sub80 (lt78 w.a w.d) (lt78 w.c w.b), lt80 w.b w.d, hΦ⟩
theorem ws_times (h : TTimes ds Φ) : WS K S0 (t_times K) (rhoOf 2 ds) { nx := fun _ => Φ .none, rt := fun d _ => Φ d } := by
  obtain ⟨a, b, c, d, rfl, w, ⟨hb, hd⟩, hΦ⟩ := h
  show WS K S0 (t_times K) [.dat (.tuple [.int a, .int b]), .dat (.tuple [.int c, .int d])] _
  unfold t_times
  refine ws_ret (wd_call (dds := []) (fun _ => DtAll.nil) ?_)
  walk_at "dl"
  · exact Wd4.mul w.a w.c
  · exact Wd4.mul w.b w.d
  · exact ⟨_, _, rfl, Int.mul_ne_zero hb hd, lt80 w.a w.c, lt80 w.b w.d, hΦ⟩
theorem ws_over (h : TOver ds Φ) : WS K S0 (t_over K) (rhoOf 2 ds) { nx := fun _ => Φ .none, rt := fun d _ => Φ d } := by
  obtain ⟨a, b, c, d, rfl, w, ⟨hb, hc⟩, hΦ⟩ := h
  show WS K S0 (t_over K) [.dat (.tuple [.int a, .int b]), .dat (.tuple [.int c, .int d])] _
  unfold t_over
  refine ws_ret (wd_call (dds := []) (fun _ => DtAll.nil) ?_)
  walk_at "dl"
  · exact Wd4.mul w.a w.d
  · exact Wd4.mul w.b w.c
  · exact ⟨_, _, rfl, Int.mul_ne_zero hb hc, lt80 w.a w.d, lt80 w.b w.c, hΦ⟩
theorem ws_is_less (h : TUnder ds Φ) : WS K S0 (t_is_less K) (rhoOf 2 ds) { nx := fun _ => Φ .none, rt := fun d _ => Φ d } := by
  obtain ⟨a, b, c, d, rfl, w, _, hΦ⟩ := h
  show WS K S0 (t_is_less K) [.dat (.tuple [.int a, .int b]), .dat (.tuple [.int c, .int d])] _
  unfold t_is_less
  walk_at "dl"
  · exact Wd4.mul w.a w.d
  · exact Wd4.mul w.c w.b
  · exact hΦ
theorem cdiv39 {x b : Int} (h0 : b ≠ 0) (h : b.natAbs < 2 ^ 3900) : CDivX x b := ⟨h0, by have := log2_of (i := b) (k := 3900) h (by decide); omega⟩
theorem ws_floor (h : TFloor ds Φ) : WS K S0 (t_floor K) (rhoOf 1 ds) { nx := fun _ => Φ .none, rt := fun d _ => Φ d } := by
  obtain ⟨a, b, rfl, hb, hb9, hΦ⟩ := h
  show WS K S0 (t_floor K) [.dat (.tuple [.int a, .int b])] _
  unfold t_floor
  walk_at "dl"
  · exact cdiv39 hb hb9
  · exact hΦ
theorem ws_ceiling (h : TCeil ds Φ) : WS K S0 (t_ceiling K) (rhoOf 1 ds) { nx := fun _ => Φ .none, rt := fun d _ => Φ d } := by
  obtain ⟨a, b, rfl, hb, hb9, hΦ⟩ := h
  show WS K S0 (t_ceiling K) [.dat (.tuple [.int a, .int b])] _
  unfold t_ceiling
  walk_at "dl"
  · exact cdiv39 hb hb9
  · exact hΦ
end
end DL

set_option Elab.async false
set_option linter.all false
set_option maxRecDepth 100000
set_option maxHeartbeats 4000000
/-! DLR: how long the texts of data are -/
namespace DL
open PySem PySem.Spec PyProof.Rows L2
theorem textFrom_le : ∀ (ts : List Str) (k : Nat) (acc : Str), (textFrom k acc ts).length ≤ acc.length + piled ts
  | [], _, acc => Nat.le_add_right _ _
  | t :: r, k, acc => by
    have ih := textFrom_le r (k + 1) (acc ++ (if k > 0 then ", " else "" : String) ++ t)
    have e : (acc ++ (if k > 0 then ", " else "" : String) ++ t).length ≤ acc.length + 2 + t.length := by
      rw [strLen_append, strLen_append]
      have : ((Str.ofString (if k > 0 then ", " else "" : String))).length ≤ 2 := by split <;> decide
      omega
    rw [piled_cons]
    exact Nat.le_trans ih (by omega)
theorem piled_le {m : Nat} : ∀ ts : List Str, (∀ t ∈ ts, t.length ≤ m) → piled ts ≤ ts.length * (m + 2)
  | [], _ => by simp [piled]
  | t :: r, h => by
    rw [piled_cons, List.length_cons, Nat.succ_mul]
    have := h t (List.mem_cons_self ..)
    have := piled_le r fun t ht => h t (List.mem_cons_of_mem _ ht)
    omega
theorem shownAll_mem : ∀ (xs : List PyData) (t : Str), t ∈ PyData.shownAll xs → ∃ x ∈ xs, t = x.shown
  | [], t, h => by simp [PyData.shownAll] at h
  | x :: xs, t, h => by
    rcases List.mem_cons.mp (show t ∈ x.shown :: PyData.shownAll xs from h) with e | h
    · exact ⟨x, List.mem_cons_self .., e⟩
    · obtain ⟨y, hy, e⟩ := shownAll_mem xs t h
      exact ⟨y, List.mem_cons_of_mem _ hy, e⟩
theorem shownAll_len : ∀ xs : List PyData, (PyData.shownAll xs).length = xs.length
  | [] => rfl
  | x :: xs => by show (PyData.shownAll xs).length + 1 = _; rw [shownAll_len xs]; rfl
/-- what may be shown within a row -/
structure Rp (d : PyData) : Prop where
  s : d.showable = true
  h : d.hasDict = false
  l : d.shown.length ≤ 5000
  d : d.depth ≤ 10
theorem showableAll_of : ∀ xs : List PyData, (∀ x ∈ xs, x.showable = true) → PyData.showableAll xs = true
  | [], _ => rfl
  | x :: xs, h => by
    show (x.showable && PyData.showableAll xs) = true
    rw [h x (List.mem_cons_self ..), showableAll_of xs fun y hy => h y (List.mem_cons_of_mem _ hy)]; rfl
theorem hasDictAll_of : ∀ xs : List PyData, (∀ x ∈ xs, x.hasDict = false) → PyData.hasDictAll xs = false
  | [], _ => rfl
  | x :: xs, h => by
    show (x.hasDict || PyData.hasDictAll xs) = false
    rw [h x (List.mem_cons_self ..), hasDictAll_of xs fun y hy => h y (List.mem_cons_of_mem _ hy)]; rfl
theorem depthAll_of {n : Nat} : ∀ xs : List PyData, (∀ x ∈ xs, x.depth ≤ n) → PyData.depthAll xs ≤ n
  | [], _ => Nat.zero_le _
  | x :: xs, h => by
    show max x.depth (PyData.depthAll xs) ≤ n
    exact Nat.max_le.mpr ⟨h x (List.mem_cons_self ..), depthAll_of xs fun y hy => h y (List.mem_cons_of_mem _ hy)⟩
theorem Rp.int {i : Int} (h : i.natAbs < 2 ^ 1900) : Rp (.int i) := by
  have h2 : i.natAbs.log2 < 1920 := by have := log2_of (i := i) (k := 1900) h (by decide); omega
  exact ⟨decide_eq_true h2, rfl, Nat.le_trans (int_text_len_1921 h2) (by decide), by show 0 ≤ 10; decide⟩
theorem Rp.bool {b : Bool} : Rp (.bool b) := by cases b <;> exact ⟨rfl, rfl, by decide +kernel, by decide⟩
theorem listText_le {m n : Nat} {xs : List PyData} (h : ∀ x ∈ xs, x.shown.length ≤ m) (hn : xs.length ≤ n) : (PyData.list xs).shown.length ≤ 2 + n * (m + 2) := by
  show (textFrom 0 "[" (PyData.shownAll xs) ++ ("]" : String) : Str).length ≤ _
  rw [strLen_append]
  have h1 := textFrom_le (PyData.shownAll xs) 0 "["
  have h2 := piled_le (m := m) (PyData.shownAll xs) fun t ht => by
    obtain ⟨x, hx, rfl⟩ := shownAll_mem xs t ht
    exact h x hx
  rw [shownAll_len] at h2
  have h3 : xs.length * (m + 2) ≤ n * (m + 2) := Nat.mul_le_mul_right _ hn
  have e1 : (Str.ofString "[").length = 1 := by decide
  have e2 : (Str.ofString "]").length = 1 := by decide
  rw [e1] at h1
  rw [e2]
  omega
section
variable {K : PySem.W.Frag} {Ψ : PyData → Prop}
/-- repr of a row of such -/
theorem dc_reprL {xs : List PyData} (h : ∀ x ∈ xs, Rp x) (hn : xs.length ≤ 1000) (f : Ψ (.str (PyData.list xs).shown)) : DC K (rRepr K) [.list xs] Ψ :=
  dc_repr (.inl ⟨_, rfl⟩) (showableAll_of xs fun x hx => (h x hx).s) (hasDictAll_of xs fun x hx => (h x hx).h)
    (Nat.le_trans (listText_le (m := 5000) (n := 1000) (fun x hx => (h x hx).l) hn) (by decide)) (by
      show PyData.depthAll xs + 1 ≤ 50
      have := depthAll_of (n := 10) xs fun x hx => (h x hx).d
      omega) f
end
end DL

set_option Elab.async false
set_option linter.all false
set_option maxRecDepth 100000
set_option maxHeartbeats 4000000
namespace DL
open PySem PySem.Spec PyProof.Rows L2
local macro_rules | `(tactic| walk_at "dl") => `(tactic| repeat' (first
  | with_reducible refine wd_isTy ?_ | with_reducible refine wd_isi ?_ | with_reducible refine wd_op ?_ | ((with_reducible show WD _ _ (tCB (rLenX _) (tCons (tVar _) tNil)) _ _); refine wd_len_scr rfl ?_) | with_reducible refine wd_cb ?_ | with_reducible refine wd_un ?_ | with_reducible refine wa_cons ?_ | with_reducible refine wa_nil ?_ | ((with_reducible show WD _ _ (tVar _) _ _); refine wd_var rfl ?_) | with_reducible refine wd_int ?_ | with_reducible refine wd_bl ?_ | with_reducible refine wd_str ?_ | with_reducible refine wd_non ?_
  | with_reducible refine do_add ?_ | with_reducible refine do_sub ?_ | ((with_reducible refine do_mod ?_ ?_); decide) | with_reducible refine do_mod ?_ ?_ | with_reducible refine do_mul ?_ ?_ | ((with_reducible refine do_div ?_ ?_); exact ⟨by decide, by decide⟩) | with_reducible refine do_div ?_ ?_ | ((with_reducible refine do_pow ?_ ?_); exact ⟨by decide, by decide, by decide⟩) | with_reducible refine do_pow ?_ ?_
  | with_reducible refine do_lt ?_ | with_reducible refine do_le ?_ | with_reducible refine do_gt ?_ | with_reducible refine do_ge ?_ | with_reducible refine du_neg ?_
  | with_reducible refine do_eqi ?_ | with_reducible refine do_nei ?_ | with_reducible refine do_eqs ?_ | with_reducible refine do_nes ?_ | with_reducible refine dc_abs ?_ | with_reducible refine dc_min ?_ | with_reducible refine dc_max ?_ | with_reducible refine dc_lenL ?_ | with_reducible refine dc_lenT ?_ | with_reducible refine dc_gcd ?_
  | ((with_reducible show DO _ (rIxT _) _ _ _); refine do_ixT rfl ?_) | ((with_reducible show DO _ (rIxL _) _ _ _); refine do_ixL rfl ?_) | ((with_reducible refine do_catL ?_ ?_); exact Nat.le_of_ble_eq_true rfl) | with_reducible refine do_catL ?_ ?_ | ((with_reducible show And (List.length _ ≤ sizeLine) _); refine ⟨Nat.le_of_ble_eq_true rfl, ?_⟩)
  | with_reducible refine wd_dnew ?_ | with_reducible refine wd_call0 ?_ | with_reducible refine dc_str ?_ ?_ | with_reducible refine wd_tup ?_ | with_reducible refine wd_lst ?_ | with_reducible refine wt_test ?_ | with_reducible refine wt_B ?_ | with_reducible refine wt_not ?_ | with_reducible refine wt_and ?_ | with_reducible refine wt_or ?_ | with_reducible refine wd_ifE ?_ | with_reducible refine wd_andV ?_ | with_reducible refine wd_orV ?_ | with_reducible refine wd_notV ?_
  | with_reducible refine ws_seq ?_ | with_reducible refine ws_next ?_ | with_reducible refine ws_asg ?_ | with_reducible refine ws_ret ?_ | with_reducible refine ws_retN ?_ | with_reducible refine ws_if ?_ | with_reducible refine ws_par ?_ | with_reducible refine ws_unp2 ?_
  | with_reducible refine if_t ?_ | with_reducible refine if_f ?_ | with_reducible refine if_nf ?_ | with_reducible refine if_nt ?_
  | ((with_reducible show Exists _); first | refine ⟨_, kitInt _, ?_⟩ | refine ⟨_, kitBool _, ?_⟩ | refine ⟨_, kitTup _, ?_⟩ | refine ⟨_, kitList _, ?_⟩ | refine ⟨_, rfl, ?_⟩ | refine ⟨_, _, rfl, ?_⟩ | fail) | fail))
/-! ### a list so many times, locked or not -/
def rRepL : R2 := fun x y H Q => ∃ a k xs, x = .ref a ∧ y = .int k ∧ Rd H a (.lst xs) ∧ (-(2 ^ 63) ≤ k ∧ k < 2 ^ 63) ∧ xs.length * k.toNat ≤ sizeLine ∧ ∀ p, H p = none → Q (.ref p) (upd H p (.lst (List.replicate k.toNat xs).flatten))
theorem fold_rep (its : List Value) : ∀ m : Nat, List.foldl (fun u v => u ++ v) #[] (List.replicate m its.toArray) = (List.replicate m its).flatten.toArray := fun m => by
  have := foldl_rep its m []
  simpa using this
theorem op_repL {X : Cx} : OpR X (binaryOp .Mult) rRepL := by
  intro pins s τ G x y v u R I rx ry h
  obtain ⟨l, k, xs, rfl, rfl, hL, ⟨b1, b2⟩, hz, q⟩ := h
  cases rx
  obtain ⟨tk, rfl⟩ := ry
  obtain ⟨z1, i1, n1, w1, g1⟩ := hL.ok I.hok
  have e1 := w1.length
  have sz : i1.toArray.size * k.toNat ≤ sizeLine := by simp only [List.size_toArray]; rw [← e1]; exact hz
  have cap : ¬ i1.toArray.size * k.toNat > (2 ^ 63 - 1) / 8 := by
    have c : (sizeLine : Nat) ≤ (2 ^ 63 - 1) / 8 := by decide
    omega
  have fit : ¬ (!Builtin.List.listFitsIndex k) = true := by
    rw [fitsIndex_both b1 b2]; simp
  have lng : ¬ Builtin.List.listTooLong (i1.toArray.size * k.toNat) = true := by
    rw [notLongL sz]; simp
  have nw : List.foldl (fun u v => u ++ v) #[] (List.replicate (if i1.toArray.isEmpty = true then 0 else k.toNat) i1.toArray) = (List.replicate k.toNat i1).flatten.toArray := by
    rw [fold_rep]
    cases i1 with
    | nil => simp
    | cons a r => rw [if_neg (by simp)]
  refine wpAny_binaryOp_repeat_ref (T := "list") (U := "int") (by decide) ⟨_, g1, rfl⟩
    (fun s' => typeIs_int s' k tk) noFill_list_mul F.fills_int_mul F.slot_int_rmul repeat_list F.slot_int_index.lookup
    (call_meets F.slot_int_rmul (typeIs_int s k tk) F.entry_int_rmul (F.args_int_rmul_2 _ _)
      (int___rmul___int_list k tk l i1.toArray n1) ⟨g1, rfl, ⟨_, g1, rfl⟩,
        call_meets F.slot_list_mul ⟨_, g1, rfl⟩ F.entry_list_mul
          (F.args_list_mul_2 _ _) (AutoListH.list___mul___list_int_3 l i1.toArray n1 k tk fit cap lng) ⟨g1, ?_⟩⟩)
  rw [nw]
  exact ⟨.ref _, _, I.lnew (t' := s.toks) (w1.rep k.toNat) (by rw [lm_len_rep_flat, Nat.mul_comm]; exact hz), rfl, q _ I.fresh⟩
theorem do_repL2 {K : PySem.W.Frag} {Ψ : PyData → Prop} {x : PyData} (h : Ψ (.list [x, x])) : DO K rRepL (.list [x]) (.int 2) Ψ := fun N H hN u w hu hw Q q => by
  obtain ⟨p, us, rfl, _, h1, h2⟩ := hu.lst_inv
  cases hw
  have l1 : us.length = 1 := h2.len
  refine ⟨p, 2, us, rfl, rfl, h1, ⟨by decide, by decide⟩, by rw [l1]; decide, fun z hz => ?_⟩
  have s := same_new hz (.lst (List.replicate (2 : Int).toNat us).flatten)
  have e : (List.replicate (2 : Int).toNat us).flatten = us ++ us := by
    show (List.replicate 2 us).flatten = _
    simp
  rw [e] at s ⊢
  exact q _ _ _ h s (Dq.lst (fresh_av hN hz) upd_same ((h2.append h2).keep (Keep.of s)))
end DL

set_option Elab.async false
set_option linter.all false
set_option maxRecDepth 100000
set_option maxHeartbeats 4000000
/-! DLX: what is refused, and caught -/
namespace DL
open PySem PySem.Spec PyProof.Rows L2
abbrev rNotNone : R2 := fun x y H Q => y = .non ∧ Q (.bl (!decide (x = .non))) H
abbrev rIsNone : R2 := fun x y H Q => y = .non ∧ Q (.bl (decide (x = .non))) H
/-- refused with the class at C, of nought beneath -/
def TPartX (C : Addr) : List PyData → (PyData → Prop) → (Addr → Prop) → Prop := fun ds _ Ψ => ∃ a : Int, ds = [.int a, .int 0] ∧ Ψ C
def TOverX (C : Addr) : List PyData → (PyData → Prop) → (Addr → Prop) → Prop := fun ds _ Ψ => ∃ a b d : Int, ds = [pr (a, b), pr (0, d)] ∧ Wd4 a b 0 d ∧ Ψ C
theorem spX_len {K : PySem.W.Frag} {T : List PyData → (PyData → Prop) → (Addr → Prop) → Prop} {n : Nat} (hT : ∀ ds Φ Ψ, T ds Φ Ψ → ds.length = n) {vs : List V} {H : Hp} {Q : VK} {E : XK} (h : spX K T vs H Q E) : vs.length = n := by
  obtain ⟨N, ds, Φ, Ψ, _, hd, t, _⟩ := h
  exact hd.len.trans (hT ds Φ Ψ t)
def t_partX (C : Addr) (E : XK) : TS := tSeq (tIfS (tTest (tOp rEq (tVar 1) (tC (.int 0)))) (fun _ σ H => E (.ref C) none H) tNext) tNo
theorem run_partX {K : PySem.W.Frag} {C : Addr} {vs : List V} {H : Hp} {Q : VK} {E : XK} (h : spX K (TPartX C) vs H Q E) : t_partX C E { nx := fun _ H' => Q .non H', rt := Q } (L2.start ["a", "b", "common"] vs) H := by
  obtain ⟨N, ds, Φ, Ψ, ht, hd, ⟨a, rfl, hC⟩, _, hE⟩ := h
  cases hd with
  | cons d1 d2 =>
    cases d2 with
    | cons d2 d3 =>
      cases d3
      cases d1
      cases d2
      have e := hE C hC H (Same.refl H)
      refine ⟨_, rfl, rfl, true, ?_, ?_⟩
      · show V.bl (decide (V.int 0 = V.int 0)) = _
        simp
      · exact e
def t_overX (K : PySem.W.Frag) (C : Addr) (E : XK) : TS :=
  (tRet (tCall (spX K (TPartX C)) [] E (tCons (tOp rMulI (tOp (rIxT K) (tVar 0) (tC (.int 0))) (tOp (rIxT K) (tVar 1) (tC (.int 1)))) (tCons (tOp rMulI (tOp (rIxT K) (tVar 0) (tC (.int 1))) (tOp (rIxT K) (tVar 1) (tC (.int 0)))) tNil))))
local macro_rules | `(tactic| walk_at "dl") => `(tactic| repeat' (first
  | with_reducible refine wd_isTy ?_ | with_reducible refine wd_isi ?_ | with_reducible refine wd_op ?_ | ((with_reducible show WD _ _ (tCB (rLenX _) (tCons (tVar _) tNil)) _ _); refine wd_len_scr rfl ?_) | with_reducible refine wd_cb ?_ | with_reducible refine wd_un ?_ | with_reducible refine wa_cons ?_ | with_reducible refine wa_nil ?_ | ((with_reducible show WD _ _ (tVar _) _ _); refine wd_var rfl ?_) | with_reducible refine wd_int ?_ | with_reducible refine wd_bl ?_ | with_reducible refine wd_str ?_ | with_reducible refine wd_non ?_
  | with_reducible refine do_add ?_ | with_reducible refine do_sub ?_ | ((with_reducible refine do_mod ?_ ?_); decide) | with_reducible refine do_mod ?_ ?_ | with_reducible refine do_mul ?_ ?_ | ((with_reducible refine do_div ?_ ?_); exact ⟨by decide, by decide⟩) | with_reducible refine do_div ?_ ?_ | ((with_reducible refine do_pow ?_ ?_); exact ⟨by decide, by decide, by decide⟩) | with_reducible refine do_pow ?_ ?_
  | with_reducible refine do_lt ?_ | with_reducible refine do_le ?_ | with_reducible refine do_gt ?_ | with_reducible refine do_ge ?_ | with_reducible refine du_neg ?_
  | with_reducible refine do_eqi ?_ | with_reducible refine do_nei ?_ | with_reducible refine do_eqs ?_ | with_reducible refine do_nes ?_ | with_reducible refine dc_abs ?_ | with_reducible refine dc_min ?_ | with_reducible refine dc_max ?_ | with_reducible refine dc_lenL ?_ | with_reducible refine dc_lenT ?_ | with_reducible refine dc_gcd ?_
  | ((with_reducible show DO _ (rIxT _) _ _ _); refine do_ixT rfl ?_) | ((with_reducible show DO _ (rIxL _) _ _ _); refine do_ixL rfl ?_) | ((with_reducible refine do_catL ?_ ?_); exact Nat.le_of_ble_eq_true rfl) | with_reducible refine do_catL ?_ ?_ | ((with_reducible show And (List.length _ ≤ sizeLine) _); refine ⟨Nat.le_of_ble_eq_true rfl, ?_⟩)
  | with_reducible refine wd_dnew ?_ | with_reducible refine wd_call0 ?_ | with_reducible refine dc_str ?_ ?_ | with_reducible refine wd_tup ?_ | with_reducible refine wd_lst ?_ | with_reducible refine wt_test ?_ | with_reducible refine wt_B ?_ | with_reducible refine wt_not ?_ | with_reducible refine wt_and ?_ | with_reducible refine wt_or ?_ | with_reducible refine wd_ifE ?_ | with_reducible refine wd_andV ?_ | with_reducible refine wd_orV ?_ | with_reducible refine wd_notV ?_
  | with_reducible refine ws_seq ?_ | with_reducible refine ws_next ?_ | with_reducible refine ws_asg ?_ | with_reducible refine ws_ret ?_ | with_reducible refine ws_retN ?_ | with_reducible refine ws_if ?_ | with_reducible refine ws_par ?_ | with_reducible refine ws_unp2 ?_
  | with_reducible refine if_t ?_ | with_reducible refine if_f ?_ | with_reducible refine if_nf ?_ | with_reducible refine if_nt ?_
  | ((with_reducible show Exists _); first | refine ⟨_, kitInt _, ?_⟩ | refine ⟨_, kitBool _, ?_⟩ | refine ⟨_, kitTup _, ?_⟩ | refine ⟨_, kitList _, ?_⟩ | refine ⟨_, rfl, ?_⟩ | refine ⟨_, _, rfl, ?_⟩ | fail) | fail))
theorem run_overX {K : PySem.W.Frag} {C : Addr} {vs : List V} {H : Hp} {Q : VK} {E : XK} (h : spX K (TOverX C) vs H Q E) : t_overX K C E { nx := fun _ H' => Q .non H', rt := Q } (L2.start ["one", "other"] vs) H := by
  obtain ⟨N, ds, Φ, Ψ, ht, hd, ⟨a, b, d, rfl, w, hC⟩, _, hE⟩ := h
  have wa : WA K S0 (tCons (tOp rMulI (tOp (rIxT K) (tVar 0) (tC (.int 0))) (tOp (rIxT K) (tVar 1) (tC (.int 1)))) (tCons (tOp rMulI (tOp (rIxT K) (tVar 0) (tC (.int 1))) (tOp (rIxT K) (tVar 1) (tC (.int 0)))) tNil)) (rhoOf 2 [pr (a, b), pr (0, d)]) fun xs _ => ∃ i : Int, xs = [.int i, .int 0] := by
    show WA K S0 _ [.dat (.tuple [.int a, .int b]), .dat (.tuple [.int 0, .int d])] _
    walk_at "dl"
    · exact Wd4.mul w.a w.d
    · exact Wd4.mul w.b w.c
    · exact ⟨_, by rw [Int.mul_zero]⟩
  show (tCons (tOp rMulI (tOp (rIxT K) (tVar 0) (tC (.int 0))) (tOp (rIxT K) (tVar 1) (tC (.int 1)))) (tCons (tOp rMulI (tOp (rIxT K) (tVar 0) (tC (.int 1))) (tOp (rIxT K) (tVar 1) (tC (.int 0)))) tNil)) (L2.start ["one", "other"] vs) H fun us H1 => spX K (TPartX C) (us ++ []) H1 Q E
  refine wa H N [] N (L2.start ["one", "other"] vs) H (env_start (Nm := ["one", "other"]) ht hd) _ fun us ds1 ρ1 H1 ⟨i, e⟩ E1 k1 d1 => ?_
  subst e
  refine ⟨N, [.int i, .int 0], fun _ => False, fun C' => C' = C, E1.trk, by rw [List.append_nil]; exact d1, ⟨i, rfl, rfl⟩, fun _ z => z.elim, fun C' e H' s => ?_⟩
  subst e
  exact hE _ hC H' fun b o q => s b o (E1.keep b o rfl q)
/-! ### the two ways of the judge of quotients -/
structure Gd (e : Nat) (a b : Int) : Prop where
  p : 1 ≤ b
  b : b.natAbs < 2 ^ e
  a : a.natAbs < 2 ^ e
def TRight2 : List PyData → (PyData → Prop) → Prop := fun ds Φ => ∃ a b c d : Int, ds = [pr (a, b), pr (c, d)] ∧ Gd 1500 a b ∧ Gd 1500 c d ∧ Φ (.bool true)
def TRight1 : List PyData → (PyData → Prop) → Prop := fun ds Φ => ∃ a b : Int, ds = [pr (a, b)] ∧ Gd 1500 a b ∧ Φ (.bool true)
def ts_or (a : Addr) (_ : Value) (_ : Option Addr) : TS := tAsg (tVar 4) (gName 2)
def tb_or (K : PySem.W.Frag) (C : Addr) (W : WX) : TS := tAsg (tLst (tCons (tCallS (spX K (TOverX C)) (WE W) (tCons (tVar 0) (tCons (tVar 1) tNil))) (tCons tNoE tNil))) (gName 3)
def t_orZ (K : PySem.W.Frag) (C : Addr) : TS :=
  (tSeq (tAsg (tC .non) (gName 2))
    (tSeq (tAsg (tC .non) (gName 3))
    (tSeq (fun D σ H => tb_or K C (wAs K (.ref C) 4 ts_or (fun _ _ _ _ => False) D) D σ H)
    (tSeq (tIfS (tTest (tOp rEq (tOp (rIxT K) (tVar 1) (tC (.int 0))) (tC (.int 0)))) (tRet (tOp rNotNone (tVar 2) (tC .non))) tNext)
    tNo))))
theorem run_orZ {K : PySem.W.Frag} {C : Addr} {vs : List V} {H : Hp} {Q : VK} {N : Av} {Φ : PyData → Prop} {a b d : Int} (hx : PySem.W.exmOne K (.ref C) (.ref C) = some true) (ht : ∀ b, N b = true → H b ≠ none) (hd : DqAll K N H vs [pr (a, b), pr (0, d)])
    (w : Wd4 a b 0 d) (hΦ : Φ (.bool true)) (hQ : ∀ d, Φ d → ∀ v H', Same H H' → Dq K N H' v d → Q v H') : t_orZ K C { nx := fun _ H' => Q .non H', rt := Q } (L2.start ["this", "that", "caught", "found", "error"] vs) H := by
  cases hd with
  | cons d1 d2 =>
    cases d2 with
    | cons d2 d3 =>
      cases d3
      rename_i v0 v1
      refine ⟨_, rfl, _, rfl, N, [pr (a, b), pr (0, d)], fun _ => False, fun C' => C' = C, ht, .cons d1 (.cons d2 .nil), ⟨a, b, d, rfl, w, rfl⟩, fun _ z => z.elim, fun C' e H' s => ?_⟩
      subst e
      refine ⟨true, hx, fun _ x _ => ?_, fun z => nomatch z⟩
      obtain ⟨p, xs, rfl, _, s1, s2⟩ := (show Dq K N H v1 (.tuple [.int 0, .int d]) from d2).tup_inv
      obtain ⟨z0, a1, a2⟩ := at_dq s2 (show atI [PyData.int 0, PyData.int d] 0 = some (.int 0) from rfl)
      cases a2
      refine ⟨_, rfl, _, rfl, p, _, 0, .int 0, rfl, rfl, same_t s s1, a1, rfl, true, ?_, _, rfl, rfl, ?_⟩
      · show V.bl (decide (V.int 0 = V.int 0)) = _
        simp
      · have e : decide (V.ref x = V.non) = false := by simp
        show Q (V.bl (!decide (V.ref x = V.non))) H'
        rw [e]
        exact hQ _ hΦ _ H' s (Dt.bl _)
end DL

set_option Elab.async false
set_option linter.all false
set_option maxRecDepth 100000
set_option maxHeartbeats 4000000
namespace DL
open PySem PySem.Spec PyProof.Rows L2
/-! ### the head: facts of one's own, too -/
def obsX (n : Nat) (fa : List He.Fa) (fn : List He.DefD) (ex : PySem.W.Frag → Bool) (g : Addr → Option Obj) : AlG := (He.obsDG n fa fn g, ex (He.frG g (He.asD g n)))
def hookX (n : Nat) (fa : List He.Fa) (fn : List He.DefD) (ex : PySem.W.Frag → Bool) : PySem.W.Hook where
  α := AlG
  obs := fun s => obsX n fa fn ex s.heap.get?
  val := fun _ => (He.valD fn, true)
  says := fun _ h => ∃ K : PySem.W.Frag, K.In h ∧ He.SaysD fa fn K ∧ ex K = true
  of := fun _ _ e => ⟨_, He.frG_in, congrArg Prod.fst e, congrArg Prod.snd e⟩
  keeps := fun _ _ _ ⟨K, hK, c⟩ k => ⟨K, PySem.W.Frag.In.keeps hK k, c⟩
theorem obsX_eq {n : Nat} {fa : List He.Fa} {fn : List He.DefD} {ex : PySem.W.Frag → Bool} {g : Addr → Option Obj} {s : Shared} (h : ∀ a, g a = s.heap.get? a) : obsX n fa fn ex g = (hookX n fa fn ex).obs s := by
  have e : g = s.heap.get? := funext h
  rw [e] <;> rfl
/-- a class of one's own right under ZeroDivisionError -/
abbrev zdBase : List Value := [.type "ZeroDivisionError", .type "ArithmeticError", .type "Exception", .type "BaseException", .type "object"]
structure ExcZ (K : PySem.W.Frag) (C : Addr) : Prop where
  q : PySem.W.excIn K C zdBase "ZeroDivisionError.__new__" = true
  k : PySem.W.keepIn K (.ref C) = true
  s : PySem.W.subIn K (.ref C) (.type "BaseException") = some true
  t : PySem.W.typeIn K (.ref C) = some (.type "type")
  m : PySem.W.exmOne K (.ref C) (.ref C) = some true
def excZB (K : PySem.W.Frag) (C : Addr) : Bool := PySem.W.excIn K C zdBase "ZeroDivisionError.__new__" && (PySem.W.keepIn K (.ref C) && (decide (PySem.W.subIn K (.ref C) (.type "BaseException") = some true) &&
  (decide (PySem.W.typeIn K (.ref C) = some (.type "type")) && decide (PySem.W.exmOne K (.ref C) (.ref C) = some true))))
theorem excZ_ok {K : PySem.W.Frag} {C : Addr} (h : excZB K C = true) : ExcZ K C := by
  obtain ⟨c1, h⟩ := He.ba h
  obtain ⟨c2, h⟩ := He.ba h
  obtain ⟨c3, h⟩ := He.ba h
  obtain ⟨c4, c5⟩ := He.ba h
  exact ⟨c1, c2, of_decide_eq_true c3, of_decide_eq_true c4, of_decide_eq_true c5⟩
/-- a call that may be refused, in a try -/
theorem pe_hasS {X : Cx} {CX : CXT} {k : Nat} {ps : List Str} {sp : Sp} {E : L2.St → XK} {x : Str} {p pos : Pos} {e : Expr} {es : List Expr} {t : TA} (h : Has X.prog X.w X.K X.mg X.base CX x k ps sp []) (hr : Room k X.A) (hx : ∀ σ, PassesAt CX X σ (E σ)) (ha : PA X (e :: es) t) (hg : Gl X x := by rfl) (hdb : (x == ("__debug__" : Str)) = false := by decide)
    (he : starEach (e :: es) X.env = (false, eval e X.env) :: starEach es X.env := by rfl) (hpl : (backTo pos (starEach es X.env)).any (·.1) = false := by rfl) : PE X (.Call (.Name x p) (e :: es) [] pos) (tCallS sp E t) := by
  obtain ⟨f, fd, ds, F, hm, hk, hb, hd⟩ := h.ex
  cases hd
  exact pe_callS F hr hg hm hk hb hx ha hdb he hpl
theorem hasC_of {P : Program} {w : World} {K : PySem.W.Frag} {mg : Str → Option Value} {base : Heap} {CX : CXT} {x : Str} {k : Nat} {ps : List Str} {sp : Sp} {f : Addr} {fd : FuncData} (F : FnOk P w K mg base CX k f fd ps sp) (hm : mg x = some (.ref f)) (hk : PySem.W.keepIn K (.ref f) = true) (hb : Binds K fd ps []) : Has P w K mg base CX x k ps sp [] := ⟨f, fd, [], F, hm, hk, hb, .nil⟩
def TRightN : List PyData → (PyData → Prop) → Prop := fun ds Φ => ∃ a b c d : Int, ds = [pr (a, b), pr (c, d)] ∧ Gd 1500 a b ∧ Gd 1500 c d ∧ c ≠ 0 ∧ Φ (.bool true)
end DL

set_option Elab.async false
set_option linter.all false
set_option maxRecDepth 100000
set_option maxHeartbeats 4000000
/-! DLE: a caught error that is looked at behind its suite -/
namespace DL
open PySem PySem.Spec PyProof.Rows L2
/-- what is known of an error: its class, no dict -/
def excAt (a : Addr) (cls : Value) : Heap → Prop := fun h => ∃ oe vs, h.get? a = some oe ∧ Zc cls none oe ∧ oe.data = .fields vs
theorem excAt_stay {a : Addr} {cls : Value} {h1 h2 : Heap} (x : excAt a cls h1) (k : ∀ o, h1.get? a = some o → h2.get? a = some o) : excAt a cls h2 := by
  obtain ⟨oe, vs, e, z, d⟩ := x
  exact ⟨oe, vs, k _ e, z, d⟩
section
variable {X : Cx} {pins : List (Addr × Obj)} {σ : L2.St} {H : Hp} {s sI : Shared}
/-- an object that is new since the start is tracked from here on -/
theorem track {σ2 : L2.St} {H2 : Hp} {a : Addr} {cls : Value} (J : Inv X pins σ2 H2 sI) (fr : sI.heap.get? a = none) (I : Inv X pins σ H s) (na : H a = none) (nL : a ≠ X.env.locals) (q : excAt a cls s.heap) : Inv X pins σ (upd H a (.ext (excAt a cls))) s := by
  have ne : ∀ {b : Addr} {o : Obj}, sI.heap.get? b = some o → b ≠ a := fun {b o} e z => by rw [z, fr] at e; cases e
  have old : ∀ b u, H b = some u → upd H a (.ext (excAt a cls)) b = some u := fun b u e => by
    rw [upd_ne fun z => by rw [z, na] at e; cases e]; exact e
  refine { ok := I.ok, os := I.os, bare := I.bare, base := ⟨I.base.keep, I.base.slot, fun b o e n x => ?_, I.base.there, fun b xs e => ?_, fun b o u e => ?_, fun b ps e => ?_⟩, loc := I.loc, cell := I.cell, free := ?_, freeC := fun x c e => ?_, pin := fun p hp => ?_, hok := fun b o e => ?_, len := I.len }
  · obtain ⟨o', e'⟩ := J.base.there b o e x
    rw [upd_ne (ne e')]; exact I.base.free b o e n x
  · exact old _ _ (I.base.tups b xs e)
  · exact old _ _ (I.base.frzs b o u e)
  · obtain ⟨m, em⟩ := I.base.tbls b ps e
    exact ⟨m, old _ _ em⟩
  · rw [upd_ne (Ne.symm nL)]; exact I.free
  · obtain ⟨v, o, c1⟩ := J.cell x c e
    rw [upd_ne (ne c1.1)]; exact I.freeC x c e
  · obtain ⟨e1, e2, e3, e4, e5⟩ := I.pin p hp
    have := (J.pin p hp).1
    exact ⟨e1, by rw [upd_ne (ne this)]; exact e2, e3, e4, e5⟩
  · by_cases hb : b = a
    · subst hb
      rw [upd_same] at e
      cases e
      obtain ⟨oe, vs, q1, q2⟩ := id q
      exact ⟨q, ⟨oe, q1⟩, fun h1 h2 x k => excAt_stay x k⟩
    · rw [upd_ne hb] at e
      exact (I.hok b o e).stay (fun _ _ _ z => z) (fun _ z => old _ _ z) fun _ _ z => old _ _ z
end
/-- the clause 'except x as n' that takes what comes, and after whose suite the error is still known -/
def wKeep (K : PySem.W.Frag) (c : Value) (i : Nat) (ts : Addr → TS) (D : Ends) : WX := fun cls d σ H =>
  d = none ∧ PySem.W.exmOne K cls c = some true ∧ ∀ a, H a = none →
    ts a { nx := fun σ2 H2 => D.nx (σ2.set i none) (upd H2 a (.ext (excAt a cls))), rt := fun _ _ => False } (σ.set i (some (.ref a))) H
section
variable {X : Cx} {x n : Str} {c : Value} {i : Nat} {body suite : List Stmt} {st : Stmt} {np pos hpos : Pos} {tb : WX → TS} {ts : Addr → TS}
theorem ps_try_keep (hs : X.stack = X.env :: X.outer) (hf : X.env.frame = some X.env.locals) (hN : X.N.Nodup) (hi : X.N[i]? = some n) (hln : X.env.kindOf n = some .local) (hc : Names X x c)
    (hb : ∀ (W : WX) (pn : List (Addr × Obj)) (xe : Value → Shared → Prop), Takes (X.tr pn xe) W → PSs (X.tr pn xe) body (tb W))
    (hsu : ∀ (a : Addr) (oe : Obj) (pn : List (Addr × Obj)), PSs (X.suite a ((a, oe) :: pn)) (st :: suite) (ts a)) :
    PS X (.Try body [.ExceptHandler (some (.Name x np)) (some n) (st :: suite) hpos] [] [] pos) (fun D σ H => tb (wKeep X.K c i ts D) D σ H) := by
  refine ⟨fun pins s σ H D I h => ?_⟩
  have ok := I.ok
  have frames : X.A.frames = some (X.env :: X.outer) := ok.frames.trans (by rw [hs])
  refine wpAny_Try_except ?_
  let out : Value → Shared → Prop := fun e r1 =>
    wpAny (model X.prog X.w) X.A (noteFrame e X.env)
      (fun _ r2 => wpAny (model X.prog X.w) X.A (setFlight e none)
        (fun _ r3 => wpAny (model X.prog X.w) X.A
          (handleBy e X.env [.ExceptHandler (some (.Name x np)) (some n) (st :: suite) hpos]) (SP X pins D) X.xe r3) X.xe r2) X.xe r1
  have takes : Takes (X.tr (X.pn ++ pins) out) (wKeep X.K c i ts D) := by
    intro u s1 xx
    obtain ⟨a, B, sI, pinsT, σ1, H1, cls, d, rfl, JT, nb, up, sky, na, os, ag, rfl, hm, hts⟩ := xx
    have J : Inv X pins σ1 H1 sI := JT.ofTry ok
    have sky1 : Sky B (X.env :: X.outer) a (Zc cls none) X.env.locals s1.heap := hs ▸ sky
    show wpAny (model X.prog X.w) X.A (noteFrame (.ref a) X.env) _ _ _
    refine Sky.land Zc.steady frames hf sky1 fun h3 fl3 up3 => ?_
    have J3 : Inv X pins σ1 H1 { s1 with heap := h3 } := J.landed nb fl3.1 (up.trans up3) os ag
    obtain ⟨oe3, vs3, he3, hz3, hd3⟩ := fl3.there
    have nfr : a ∉ frs (X.env :: X.outer) := fun hm => by
      obtain ⟨_, o1, e1, ne1⟩ := fl3.2.2.1.mem hm
      have e2 := he3.symm.trans e1
      cases e2
      exact ne1 _ hd3
    have nL : a ≠ X.env.locals := fun z => nfr (by
      refine List.mem_filterMap.mpr ⟨X.env, List.mem_cons_self, ?_⟩
      rw [hf, z])
    have nF : a ∉ X.fs := fun hm => by
      obtain ⟨e, he, q⟩ := List.mem_filterMap.mp hm
      exact nfr (List.mem_filterMap.mpr ⟨e, List.mem_cons_of_mem _ he, q⟩)
    have fr : sI.heap.get? a = none := by
      cases e : sI.heap.get? a with
      | none => rfl
      | some o =>
        have z := nb a o e (by rw [hs]; exact nfr)
        rw [fl3.2.1] at z
        cases z
    have S3 := J3.suite he3 hd3 na nL nF
    refine wpAny_handleBy_cons (codeAny_handlers_test ?_) (by intro q; cases q)
    have lt : PySem.W.Looks (model X.prog X.w) h3 (typeOf (.ref a)) cls :=
      fun A Q E s k q => wpAny_typeOf_ref (k _ _ he3) (by rw [hz3.1]; exact q)
    have lm := PySem.W.exm_one (M := model X.prog X.w) (J3.kIn) lt hm
    have look : ∀ {Q E : Value → Shared → Prop}, Q c { s1 with heap := h3 } →
        wpAny (model X.prog X.w) (X.A.mark (some (.ref a))) (eval (.Name x np) X.env) Q E { s1 with heap := h3 } := fun {Q E} q => by
      obtain ⟨hg, hdb, g | ⟨g, hv, hnn⟩⟩ := hc
      · exact ld_glob (X := X.suite a ((a, oe3) :: (X.pn ++ pins))) S3 hg g q hdb
      · exact ld_blt (X := X.suite a ((a, oe3) :: (X.pn ++ pins))) S3 hg g hv q hnn hdb
    refine look (lm.here ?_)
    refine codeAny_handlers_suite_as ?_
    refine HandSPX.lands_againZ fl3 fun h4 fl4 up4 => ?_
    have J4 : Inv X pins σ1 H1 { s1 with heap := h4 } :=
      J.landed nb fl4.1 ((up.trans up3).trans up4) os ag
    obtain ⟨oe4, vs4, he4, hz4, hd4⟩ := fl4.there
    have S4 := J4.suite he4 hd4 na nL nF
    refine store_ok (X := X.suite a ((a, oe4) :: (X.pn ++ pins))) (v := .ref a) S4 hN hi (.inl hln) rfl (fun s5 S5 => ?_) (.inr hln)
    refine wpAny_mono ((hsu a oe4 (X.pn ++ pins)).run [] s5 _ H1 _ S5 (hts a na)) (fun f s6 hsp => ?_) (fun _ _ z => z.elim)
    match f, hsp with
    | .next, ⟨σ6, H6, S6, q6⟩ =>
      refine gone_ok (X := X.suite a ((a, oe4) :: (X.pn ++ pins))) S6 hN hi hln fun s7 S7 => ?_
      obtain ⟨p1, p2, _⟩ := S7.pin (a, oe4) (List.mem_append.mpr (.inl List.mem_cons_self))
      exact ⟨_, _, track J fr (S7.unsuite ok) p2 nL ⟨oe4, _, p1, hz4, hd4⟩, q6⟩
    | .ret u, ⟨_, _, _, _, _, q6⟩ => exact q6.elim
    | .brk, ⟨_, _, _, q6⟩ => exact q6.elim
    | .cont, ⟨_, _, _, q6⟩ => exact q6.elim
  refine wpAny_mono ((hb (wKeep X.K c i ts D) (X.pn ++ pins) out takes).run [] s σ H D (I.toTry _) h) (fun f s1 hsp => ?_) (fun e s1 he => he)
  match f, hsp with
  | .next, ⟨σ1, H1, J1, q⟩ => exact wpAny_execs_nil ⟨σ1, H1, J1.ofTry ok, q⟩
  | .brk, ⟨σ1, H1, J1, q⟩ => exact ⟨σ1, H1, J1.ofTry ok, q⟩
  | .cont, ⟨σ1, H1, J1, q⟩ => exact ⟨σ1, H1, J1.ofTry ok, q⟩
  | .ret u, ⟨v, σ1, H1, J1, r, q⟩ => exact ⟨v, σ1, H1, J1.ofTry ok, r, q⟩
end
end DL

set_option Elab.async false
set_option linter.all false
set_option maxRecDepth 100000
set_option maxHeartbeats 4000000
namespace DL
open PySem PySem.Spec PyProof.Rows L2
def gVone : List V → List V → List V := fun _ zs => zs
def gVrev : List V → List V → List V := fun _ zs => zs.reverse
theorem vals_rev : ∀ {vs : List V} {us : List Value}, Vals vs us → Vals vs.reverse us.reverse
  | [], _, h => by cases h; exact .nil
  | v :: vs, _, h => by
    cases h with
    | cons h1 h2 =>
      rw [List.reverse_cons, List.reverse_cons]
      exact (vals_rev h2).append (.cons h1 .nil)
def gDrev : List PyData → List PyData → List PyData := fun _ zs => zs.reverse
def t_law_over_right (K : PySem.W.Frag) : TS :=
  (tSeq (tAsg (tC .non) (gName 2))
    (tSeq (tAsg (tC .non) (gName 3))
    (tSeq (tAsg (tLst (tCons (tCall (spP K TOver) [] E0 (tCons (tVar 0) (tCons (tVar 1) tNil))) (tCons (tCallN 0 2 (spP K TOver) gVrev E0 tNil (tCons (tVar 1) (tCons (tVar 0) tNil))) tNil))) (gName 3))
    (tSeq (tIfS (tTest (tOp rEq (tOp (rIxT K) (tVar 1) (tC (.int 0))) (tC (.int 0)))) (tRet (tOp rNotNone (tVar 2) (tC .non))) tNext)
    (tRet (tAndV (tOp rIsNone (tVar 2) (tC .non)) (tOp (rEqD K) (tVar 3) (tOp rRepL (tLst (tCons (tCall (spP K TPart) [] E0 (tCons (tOp rMulI (tOp (rIxT K) (tVar 0) (tC (.int 0))) (tOp (rIxT K) (tVar 1) (tC (.int 1)))) (tCons (tOp rMulI (tOp (rIxT K) (tVar 0) (tC (.int 1))) (tOp (rIxT K) (tVar 1) (tC (.int 0)))) tNil))) tNil)) (tC (.int 2))))))))))
def t_law_whole_right (K : PySem.W.Frag) : TS :=
  (tSeq (tPar 1 2 (tCons (tCall (spP K TFloor) [] E0 (tCons (tVar 0) tNil)) (tCons (tCall (spP K TCeil) [] E0 (tCons (tVar 0) tNil)) tNil)))
    (tSeq (tIfS (tTest (tOp rNe (tCB (rRepr K) (tCons (tLst (tCons (tCallN 0 1 (spP K TFloor) gVone E0 tNil (tCons (tVar 0) tNil)) (tCons (tCallN 0 1 (spP K TCeil) gVone E0 tNil (tCons (tVar 0) tNil)) tNil))) tNil)) (tCB (rRepr K) (tCons (tLst (tCons (tVar 1) (tCons (tVar 2) tNil))) tNil)))) (tRet (tC (.bl false))) tNext)
    (tSeq (tIfS (tOr (tNot (tB (tCB (rIsi K) (tCons (tVar 1) (tCons (tC (.ty "int")) tNil))))) (tOr (tB (tCB (rIsi K) (tCons (tVar 1) (tCons (tC (.ty "bool")) tNil)))) (tOr (tNot (tB (tCB (rIsi K) (tCons (tVar 2) (tCons (tC (.ty "int")) tNil))))) (tB (tCB (rIsi K) (tCons (tVar 2) (tCons (tC (.ty "bool")) tNil))))))) (tRet (tC (.bl false))) tNext)
    (tSeq (tIfS (tOr (tTest (tOp rGt (tOp rMulI (tVar 1) (tOp (rIxT K) (tVar 0) (tC (.int 1)))) (tOp (rIxT K) (tVar 0) (tC (.int 0))))) (tTest (tOp rLe (tOp rMulI (tOp rAddI (tVar 1) (tC (.int 1))) (tOp (rIxT K) (tVar 0) (tC (.int 1)))) (tOp (rIxT K) (tVar 0) (tC (.int 0)))))) (tRet (tC (.bl false))) tNext)
    (tRet (tAndV (tOp rGe (tOp rMulI (tVar 2) (tOp (rIxT K) (tVar 0) (tC (.int 1)))) (tOp (rIxT K) (tVar 0) (tC (.int 0)))) (tOp rLt (tOp rMulI (tOp rSubI (tVar 2) (tC (.int 1))) (tOp (rIxT K) (tVar 0) (tC (.int 1)))) (tOp (rIxT K) (tVar 0) (tC (.int 0))))))))))
def t_law_right (K : PySem.W.Frag) : TS :=
  (tSeq (tIfS (tOr (tTest (tOp (rNeD K) (tCall (spP K TPlus) [] E0 (tCons (tVar 0) (tCons (tVar 1) tNil))) (tCall (spP K TPlus) [] E0 (tCons (tVar 0) (tCons (tVar 1) tNil))))) (tTest (tOp (rNeD K) (tCall (spP K TLess) [] E0 (tCons (tVar 0) (tCons (tVar 1) tNil))) (tCall (spP K TLess) [] E0 (tCons (tVar 0) (tCons (tVar 1) tNil)))))) (tRet (tC (.bl false))) tNext)
    (tSeq (tIfS (tOr (tTest (tOp (rNeD K) (tCallN 0 2 (spP K TPlus) gVrev E0 tNil (tCons (tVar 1) (tCons (tVar 0) tNil))) (tCall (spP K TPlus) [] E0 (tCons (tVar 0) (tCons (tVar 1) tNil))))) (tTest (tOp (rNeD K) (tCallN 0 2 (spP K TLess) gVrev E0 tNil (tCons (tVar 1) (tCons (tVar 0) tNil))) (tCall (spP K TLess) [] E0 (tCons (tVar 0) (tCons (tVar 1) tNil)))))) (tRet (tC (.bl false))) tNext)
    (tSeq (tIfS (tOr (tTest (tOp (rNeD K) (tCallN 0 2 (spP K TTimes) gVrev E0 tNil (tCons (tVar 1) (tCons (tVar 0) tNil))) (tCall (spP K TTimes) [] E0 (tCons (tVar 0) (tCons (tVar 1) tNil))))) (tTest (tOp rNe (tCallN 0 2 (spP K TUnder) gVrev E0 tNil (tCons (tVar 1) (tCons (tVar 0) tNil))) (tCall (spP K TUnder) [] E0 (tCons (tVar 0) (tCons (tVar 1) tNil)))))) (tRet (tC (.bl false))) tNext)
    (tSeq (tIfS (tOr (tTest (tOp (rNeD K) (tCall (spP K TTimes) [] E0 (tCons (tVar 0) (tCons (tVar 1) tNil))) (tCall (spP K TTimes) [] E0 (tCons (tVar 0) (tCons (tVar 1) tNil))))) (tNot (tB (tCall (spP K TRight2) [] E0 (tCons (tVar 0) (tCons (tVar 1) tNil)))))) (tRet (tC (.bl false))) tNext)
    (tSeq (tIfS (tTest (tOp rNe (tCB (rRepr K) (tCons (tLst (tCons (tCall (spP K TUnder) [] E0 (tCons (tVar 0) (tCons (tVar 1) tNil))) (tCons (tCall (spP K TUnder) [] E0 (tCons (tVar 1) (tCons (tVar 0) tNil))) tNil))) tNil)) (tCB (rRepr K) (tCons (tLst (tCons (tCall (spP K TUnder) [] E0 (tCons (tVar 0) (tCons (tVar 1) tNil))) (tCons (tCall (spP K TUnder) [] E0 (tCons (tVar 1) (tCons (tVar 0) tNil))) tNil))) tNil)))) (tRet (tC (.bl false))) tNext)
    (tRet (tAndV (tCall (spP K TRight1) [] E0 (tCons (tVar 0) tNil)) (tCall (spP K TRight1) [] E0 (tCons (tVar 1) tNil)))))))))

theorem dq_rev {K : PySem.W.Frag} {N : Av} {H : Hp} : ∀ {vs : List V} {ds : List PyData}, DqAll K N H vs ds → DqAll K N H vs.reverse ds.reverse
  | [], _, h => by cases h; exact .nil
  | v :: vs, _, h => by
    cases h with
    | cons h1 h2 =>
      rw [List.reverse_cons, List.reverse_cons]
      exact (dq_rev h2).append (.cons h1 .nil)
section
variable {K : PySem.W.Frag} {S : Stt} {ρ : Rho} {Φ : PyData → Rho → Prop} {Ψ : PyData → Prop}
theorem wd_c2 {P : Int → Int → Int → Int → Prop} {f : Int → Int → Int → Int → PyData} {i j : Nat} {a b c d : Int} (h1 : ρ[i]? = some (.dat (pr (a, b)))) (h2 : ρ[j]? = some (.dat (pr (c, d)))) (w : Wd4 a b c d) (hP : P a b c d) (h : Φ (f a b c d) ρ) :
    WD K S (tCall (spP K (T2 P f)) [] E0 (tCons (tVar i) (tCons (tVar j) tNil))) ρ Φ := wd_call0 (wa_cons (wd_var h1 (wa_cons (wd_var h2 (wa_nil ⟨a, b, c, d, rfl, w, hP, h⟩)))))
theorem wd_n2 {P : Int → Int → Int → Int → Prop} {f : Int → Int → Int → Int → PyData} {i j : Nat} {a b c d : Int} (h1 : ρ[i]? = some (.dat (pr (a, b)))) (h2 : ρ[j]? = some (.dat (pr (c, d)))) (w : Wd4 a b c d) (hP : P a b c d) (h : Φ (f a b c d) ρ) :
    WD K S (tCallN 0 2 (spP K (T2 P f)) gVrev E0 tNil (tCons (tVar j) (tCons (tVar i) tNil))) ρ Φ :=
  wd_callN (gD := gDrev) (fun _ _ _ _ _ _ _ h => dq_rev h) (wa_nil (wa_cons (wd_var h2 (wa_cons (wd_var h1 (wa_nil ⟨rfl, rfl, a, b, c, d, rfl, w, hP, h⟩))))))
theorem wd_c1 {f : Int → Int → PyData} {i : Nat} {a b : Int} (h1 : ρ[i]? = some (.dat (pr (a, b)))) (hb : b ≠ 0) (hw : b.natAbs < 2 ^ 3900) (h : Φ (f a b) ρ) : WD K S (tCall (spP K (T1 f)) [] E0 (tCons (tVar i) tNil)) ρ Φ :=
  wd_call0 (wa_cons (wd_var h1 (wa_nil ⟨a, b, rfl, hb, hw, h⟩)))
theorem wd_n1 {f : Int → Int → PyData} {i : Nat} {a b : Int} (h1 : ρ[i]? = some (.dat (pr (a, b)))) (hb : b ≠ 0) (hw : b.natAbs < 2 ^ 3900) (h : Φ (f a b) ρ) : WD K S (tCallN 0 1 (spP K (T1 f)) gVone E0 tNil (tCons (tVar i) tNil)) ρ Φ :=
  wd_callN (gD := fun _ zs => zs) (fun _ _ _ _ _ _ _ h => h) (wa_nil (wa_cons (wd_var h1 (wa_nil ⟨rfl, rfl, a, b, rfl, hb, hw, h⟩))))
theorem do_nebS {i : Bool} (h : Ψ (.bool false)) : DO K rNe (.bool i) (.bool i) Ψ := do_neb (by simpa using h)
theorem do_nesS {i : Str} (h : Ψ (.bool false)) : DO K rNe (.str i) (.str i) Ψ := do_nes (by simpa using h)
theorem do_isNn (h : Ψ (.bool true)) : DO K rIsNone .none .none Ψ := fun N H _ u w hu hw Q q => by
  cases hu; cases hw
  exact ⟨rfl, q _ _ H h (Same.refl H) (Dt.bl _)⟩
end
local macro_rules | `(tactic| walk_at "dl") => `(tactic| repeat' (first
  | with_reducible refine wd_isTy ?_ | with_reducible refine wd_isi ?_ | with_reducible refine wd_op ?_ | ((with_reducible show WD _ _ (tCB (rLenX _) (tCons (tVar _) tNil)) _ _); refine wd_len_scr rfl ?_) | with_reducible refine wd_cb ?_ | with_reducible refine wd_un ?_ | with_reducible refine wa_cons ?_ | with_reducible refine wa_nil ?_ | ((with_reducible show WD _ _ (tVar _) _ _); refine wd_var rfl ?_) | with_reducible refine wd_int ?_ | with_reducible refine wd_bl ?_ | with_reducible refine wd_str ?_ | with_reducible refine wd_non ?_
  | with_reducible refine do_nePr ?_ | with_reducible refine do_nebS ?_ | with_reducible refine do_nesS ?_ | with_reducible refine do_isNn ?_ | with_reducible refine do_add ?_ | with_reducible refine do_sub ?_ | ((with_reducible refine do_mod ?_ ?_); decide) | with_reducible refine do_mod ?_ ?_ | with_reducible refine do_mul ?_ ?_ | ((with_reducible refine do_div ?_ ?_); exact ⟨by decide, by decide⟩) | with_reducible refine do_div ?_ ?_ | ((with_reducible refine do_pow ?_ ?_); exact ⟨by decide, by decide, by decide⟩) | with_reducible refine do_pow ?_ ?_
  | with_reducible refine do_lt ?_ | with_reducible refine do_le ?_ | with_reducible refine do_gt ?_ | with_reducible refine do_ge ?_ | with_reducible refine du_neg ?_
  | with_reducible refine do_eqi ?_ | with_reducible refine do_nei ?_ | with_reducible refine do_eqs ?_ | with_reducible refine do_nes ?_ | with_reducible refine dc_abs ?_ | with_reducible refine dc_min ?_ | with_reducible refine dc_max ?_ | with_reducible refine dc_lenL ?_ | with_reducible refine dc_lenT ?_ | with_reducible refine dc_gcd ?_
  | ((with_reducible show DO _ (rIxT _) _ _ _); refine do_ixT rfl ?_) | ((with_reducible show DO _ (rIxL _) _ _ _); refine do_ixL rfl ?_) | ((with_reducible refine do_catL ?_ ?_); exact Nat.le_of_ble_eq_true rfl) | with_reducible refine do_catL ?_ ?_ | ((with_reducible show And (List.length _ ≤ sizeLine) _); refine ⟨Nat.le_of_ble_eq_true rfl, ?_⟩)
  | with_reducible refine wd_dnew ?_ | with_reducible refine wd_c2 rfl rfl (by assumption) (by first | assumption | exact trivial) ?_ | with_reducible refine wd_n2 rfl rfl (by assumption) (by first | assumption | exact trivial) ?_ | with_reducible refine wd_c1 rfl (by assumption) (by assumption) ?_ | with_reducible refine wd_n1 rfl (by assumption) (by assumption) ?_ | with_reducible refine wd_call0 ?_ | with_reducible refine dc_str ?_ ?_ | with_reducible refine wd_tup ?_ | with_reducible refine wd_lst ?_ | with_reducible refine wt_test ?_ | with_reducible refine wt_B ?_ | with_reducible refine wt_not ?_ | with_reducible refine wt_and ?_ | with_reducible refine wt_or ?_ | with_reducible refine wd_ifE ?_ | with_reducible refine wd_andV ?_ | with_reducible refine wd_orV ?_ | with_reducible refine wd_notV ?_
  | with_reducible refine ws_seq ?_ | with_reducible refine ws_next ?_ | with_reducible refine ws_asg ?_ | with_reducible refine ws_ret ?_ | with_reducible refine ws_retN ?_ | with_reducible refine ws_if ?_ | with_reducible refine ws_par ?_ | with_reducible refine ws_unp2 ?_
  | with_reducible refine if_t ?_ | with_reducible refine if_f ?_ | with_reducible refine if_nf ?_ | with_reducible refine if_nt ?_
  | ((with_reducible show Exists _); first | refine ⟨_, kitInt _, ?_⟩ | refine ⟨_, kitBool _, ?_⟩ | refine ⟨_, kitTup _, ?_⟩ | refine ⟨_, kitList _, ?_⟩ | refine ⟨_, rfl, ?_⟩ | refine ⟨_, _, rfl, ?_⟩ | fail) | fail))
section
variable {K : PySem.W.Frag} {ds : List PyData} {Φ : PyData → Prop}
theorem le1539 : (2 : Nat) ^ 1500 ≤ 2 ^ 3900 := Nat.pow_le_pow_right (by decide) (by decide)
theorem le1539b : (2 : Nat) ^ 1500 + 1 ≤ 2 ^ 3900 := by decide +kernel
theorem le1519 : (2 : Nat) ^ 1500 ≤ 2 ^ 1900 := Nat.pow_le_pow_right (by decide) (by decide)
theorem Gd.w {a b c d : Int} (h : Gd 1500 a b) (g : Gd 1500 c d) : Wd4 a b c d := ⟨Nat.lt_of_lt_of_le h.a le1539, Nat.lt_of_lt_of_le h.b le1539, Nat.lt_of_lt_of_le g.a le1539, Nat.lt_of_lt_of_le g.b le1539⟩
theorem sh_two (x : Int × Int) : SeqAt.shaped (.list [pr x, pr x]) = true := by
  simp [pr, SeqAt.shaped, PyData.canLay0, PyData.canLayAll0, PyData.depth, PyData.depthAll]
theorem eqv_two (x : Int × Int) : PyData.eqv (.list [pr x, pr x]) (.list [pr x, pr x]) = true := by
  show (PyData.eqv (pr x) (pr x) && (PyData.eqv (pr x) (pr x) && true)) = true
  rw [eqv_prr]; rfl
theorem ws_orN {a b c d : Int} (h : ds = [pr (a, b), pr (c, d)]) (ha : Gd 1500 a b) (hc : Gd 1500 c d) (c0 : c ≠ 0) (hΦ : Φ (.bool true)) : WS K S0 (t_law_over_right K) (rhoOf 5 ds) { nx := fun _ => Φ .none, rt := fun d _ => Φ d } := by
  subst h
  show WS K S0 (t_law_over_right K) [.dat (pr (a, b)), .dat (pr (c, d)), .unk, .unk, .unk] _
  unfold t_law_over_right
  have w := Gd.w ha hc
  have hb0 : b ≠ 0 := by have := ha.p; omega
  have pp : b ≠ 0 ∧ c ≠ 0 := ⟨hb0, c0⟩
  walk_at "dl"
  refine if_b (fun h => absurd h c0) (fun _ => ?_)
  walk_at "dl"
  · exact Wd4.mul w.a w.d
  · exact Wd4.mul w.b w.c
  · refine ⟨_, _, rfl, Int.mul_ne_zero hb0 c0, lt80 w.a w.d, lt80 w.b w.c, ?_⟩
    walk_at "dl"
    refine do_repL2 ?_
    refine do_eqD (sh_two _) (sh_two _) ?_
    rw [eqv_two]
    exact hΦ
theorem ws_whole_right (h : TRight1 ds Φ) : WS K S0 (t_law_whole_right K) (rhoOf 3 ds) { nx := fun _ => Φ .none, rt := fun d _ => Φ d } := by
  obtain ⟨a, b, rfl, ha, hΦ⟩ := h
  show WS K S0 (t_law_whole_right K) [.dat (pr (a, b)), .unk, .unk] _
  unfold t_law_whole_right
  have b1 := ha.p
  have hb0 : b ≠ 0 := by omega
  have hbw : b.natAbs < 2 ^ 3900 := Nat.lt_of_lt_of_le ha.b le1539
  have e1 : a.fdiv b = a / b := Int.fdiv_eq_ediv_of_nonneg _ (by omega)
  have e2 : (-a).fdiv b = (-a) / b := Int.fdiv_eq_ediv_of_nonneg _ (by omega)
  generalize hlo : a.fdiv b = lo at *
  generalize hhi : -((-a).fdiv b) = hi at *
  have l1 : lo.natAbs < 2 ^ 1500 := Nat.lt_of_le_of_lt (by rw [e1]; exact Int.natAbs_ediv_le_natAbs _ _) ha.a
  have l2 : hi.natAbs < 2 ^ 1500 := by
    rw [← hhi, Int.natAbs_neg, e2]
    exact Nat.lt_of_le_of_lt (Int.natAbs_ediv_le_natAbs _ _) (by rw [Int.natAbs_neg]; exact ha.a)
  have rp : ∀ x ∈ [PyData.int lo, PyData.int hi], Rp x := fun x hx => by
    simp only [List.mem_cons, List.not_mem_nil, or_false] at hx
    rcases hx with rfl | rfl
    · exact Rp.int (Nat.lt_of_lt_of_le l1 le1519)
    · exact Rp.int (Nat.lt_of_lt_of_le l2 le1519)
  have m1 := Int.emod_add_mul_ediv a b
  have m2 := Int.emod_nonneg a hb0
  have m3 := Int.emod_lt_of_pos a (b := b) (by omega)
  have m4 := Int.emod_add_mul_ediv (-a) b
  have m5 := Int.emod_nonneg (-a) hb0
  have m6 := Int.emod_lt_of_pos (-a) (b := b) (by omega)
  have hh : hi = -((-a) / b) := by rw [← hhi, e2]
  have q1 : lo * b ≤ a := by rw [e1, Int.mul_comm]; omega
  have q2 : a < (lo + 1) * b := by rw [e1, Int.add_mul, Int.mul_comm]; omega
  have q3 : a ≤ hi * b := by rw [hh, Int.neg_mul, Int.mul_comm]; omega
  have q4 : (hi - 1) * b < a := by rw [hh, Int.sub_mul, Int.neg_mul, Int.mul_comm]; omega
  have wl : CMulW lo b := Wd4.mul (Nat.lt_of_lt_of_le l1 le1539) hbw
  have wl1 : CMulW (lo + 1) b := Wd4.mul (Nat.lt_of_lt_of_le (by omega) le1539b) hbw
  have wh : CMulW hi b := Wd4.mul (Nat.lt_of_lt_of_le l2 le1539) hbw
  have wh1 : CMulW (hi - 1) b := Wd4.mul (Nat.lt_of_lt_of_le (by omega) le1539b) hbw
  walk_at "dl"
  rw [hlo, hhi]
  refine dc_reprL rp (Nat.le_of_ble_eq_true rfl) ?_
  walk_at "dl"
  refine dc_reprL rp (Nat.le_of_ble_eq_true rfl) ?_
  walk_at "dl"
  rw [if_neg (by simp [tyD])]
  walk_at "dl"
  rw [if_neg (by simp [tyD])]
  walk_at "dl"
  rw [if_neg (by simp [tyD])]
  walk_at "dl"
  rw [if_neg (by simp [tyD])]
  walk_at "dl"
  · exact wl
  rw [if_neg (fun z => absurd (of_decide_eq_true z) (Int.not_lt.mpr q1))]
  walk_at "dl"
  · exact wl1
  rw [if_neg (fun z => absurd (of_decide_eq_true z) (Int.not_le.mpr q2))]
  walk_at "dl"
  · exact wh
  rw [if_pos (decide_eq_true (show hi * b ≥ a from q3))]
  walk_at "dl"
  · exact wh1
  · have e : decide ((hi - 1) * b < a) = true := decide_eq_true q4
    show Φ (.bool (decide ((hi - 1) * b < a)))
    rw [e]
    exact hΦ
theorem ws_right (h : TRight2 ds Φ) : WS K S0 (t_law_right K) (rhoOf 2 ds) { nx := fun _ => Φ .none, rt := fun d _ => Φ d } := by
  obtain ⟨a, b, c, d, rfl, ha, hc, hΦ⟩ := h
  show WS K S0 (t_law_right K) [.dat (pr (a, b)), .dat (pr (c, d))] _
  unfold t_law_right
  have w := Gd.w ha hc
  have w2 := Gd.w hc ha
  have bd : b ≠ 0 ∧ d ≠ 0 := ⟨by have := ha.p; omega, by have := hc.p; omega⟩
  walk_at "dl"
  refine ⟨a, b, c, d, rfl, ha, hc, true, rfl, ?_⟩
  rw [if_neg (by simp)]
  walk_at "dl"
  have rp : ∀ u v : Bool, ∀ x ∈ [PyData.bool u, PyData.bool v], Rp x := fun u v x hx => by
    simp only [List.mem_cons, List.not_mem_nil, or_false] at hx
    rcases hx with rfl | rfl <;> exact Rp.bool
  refine dc_reprL (rp _ _) (Nat.le_of_ble_eq_true rfl) ?_
  walk_at "dl"
  refine dc_reprL (rp _ _) (Nat.le_of_ble_eq_true rfl) ?_
  walk_at "dl"
  refine ⟨a, b, rfl, ha, true, rfl, ?_⟩
  rw [if_pos rfl]
  walk_at "dl"
  exact ⟨c, d, rfl, hc, hΦ⟩
end
end DL

set_option Elab.async false
set_option linter.all false
set_option maxRecDepth 100000
set_option maxHeartbeats 4000000
namespace DL
open PySem PySem.Spec PyProof.Rows L2
local macro_rules | `(tactic| walk_at "dl") => `(tactic| repeat' (first
  | with_reducible refine wd_isTy ?_ | with_reducible refine wd_isi ?_ | with_reducible refine wd_op ?_ | ((with_reducible show WD _ _ (tCB (rLenX _) (tCons (tVar _) tNil)) _ _); refine wd_len_scr rfl ?_) | with_reducible refine wd_cb ?_ | with_reducible refine wd_un ?_ | with_reducible refine wa_cons ?_ | with_reducible refine wa_nil ?_ | ((with_reducible show WD _ _ (tVar _) _ _); refine wd_var rfl ?_) | with_reducible refine wd_int ?_ | with_reducible refine wd_bl ?_ | with_reducible refine wd_str ?_ | with_reducible refine wd_non ?_
  | with_reducible refine do_nesS ?_ | with_reducible refine do_add ?_ | with_reducible refine do_sub ?_ | ((with_reducible refine do_mod ?_ ?_); decide) | with_reducible refine do_mod ?_ ?_ | with_reducible refine do_mul ?_ ?_ | ((with_reducible refine do_div ?_ ?_); exact ⟨by decide, by decide⟩) | with_reducible refine do_div ?_ ?_ | ((with_reducible refine do_pow ?_ ?_); exact ⟨by decide, by decide, by decide⟩) | with_reducible refine do_pow ?_ ?_
  | with_reducible refine do_lt ?_ | with_reducible refine do_le ?_ | with_reducible refine do_gt ?_ | with_reducible refine do_ge ?_ | with_reducible refine du_neg ?_
  | with_reducible refine do_eqi ?_ | with_reducible refine do_nei ?_ | with_reducible refine do_eqs ?_ | with_reducible refine do_nes ?_ | with_reducible refine dc_abs ?_ | with_reducible refine dc_min ?_ | with_reducible refine dc_max ?_ | with_reducible refine dc_lenL ?_ | with_reducible refine dc_lenT ?_ | with_reducible refine dc_gcd ?_
  | ((with_reducible show DO _ (rIxT _) _ _ _); refine do_ixT rfl ?_) | ((with_reducible show DO _ (rIxL _) _ _ _); refine do_ixL rfl ?_) | ((with_reducible refine do_catL ?_ ?_); exact Nat.le_of_ble_eq_true rfl) | with_reducible refine do_catL ?_ ?_ | ((with_reducible show And (List.length _ ≤ sizeLine) _); refine ⟨Nat.le_of_ble_eq_true rfl, ?_⟩)
  | with_reducible refine wd_dnew ?_ | with_reducible refine wd_call0 ?_ | with_reducible refine dc_str ?_ ?_ | with_reducible refine wd_tup ?_ | with_reducible refine wd_lst ?_ | with_reducible refine wt_test ?_ | with_reducible refine wt_B ?_ | with_reducible refine wt_not ?_ | with_reducible refine wt_and ?_ | with_reducible refine wt_or ?_ | with_reducible refine wd_ifE ?_ | with_reducible refine wd_andV ?_ | with_reducible refine wd_orV ?_ | with_reducible refine wd_notV ?_
  | with_reducible refine ws_seq ?_ | with_reducible refine ws_next ?_ | with_reducible refine ws_asg ?_ | with_reducible refine ws_ret ?_ | with_reducible refine ws_retN ?_ | with_reducible refine ws_if ?_ | with_reducible refine ws_par ?_ | with_reducible refine ws_unp2 ?_
  | with_reducible refine if_t ?_ | with_reducible refine if_f ?_ | with_reducible refine if_nf ?_ | with_reducible refine if_nt ?_
  | ((with_reducible show Exists _); first | refine ⟨_, kitInt _, ?_⟩ | refine ⟨_, kitBool _, ?_⟩ | refine ⟨_, kitTup _, ?_⟩ | refine ⟨_, kitList _, ?_⟩ | refine ⟨_, rfl, ?_⟩ | refine ⟨_, _, rfl, ?_⟩ | fail) | fail))
def gVapp : List V → List V → List V := fun vs zs => vs ++ zs
def gDapp : List PyData → List PyData → List PyData := fun vs zs => vs ++ zs
def gVone1 : List V → List V → List V := fun _ zs => zs ++ [.int 1]
def gDone1 : List PyData → List PyData → List PyData := fun _ zs => zs ++ [.int 1]
theorem Rp.pr {x : Int × Int} (h1 : x.1.natAbs < 2 ^ 1900) (h2 : x.2.natAbs < 2 ^ 1900) : Rp (pr x) := by
  obtain ⟨a, b⟩ := x
  have k1 := (Rp.int h1)
  have k2 := (Rp.int h2)
  have q : ∀ {i : Int}, i.natAbs < 2 ^ 1900 → (PyData.int i).shown.length ≤ 1921 := fun {i} h => by
    have h2 : i.natAbs.log2 < 1920 := by have := log2_of (i := i) (k := 1900) h (by decide); omega
    exact int_text_len_1921 h2
  refine ⟨?_, rfl, ?_, Nat.le_of_ble_eq_true rfl⟩
  · show ((PyData.int a).showable && ((PyData.int b).showable && true)) = true
    rw [k1.s, k2.s]; rfl
  · show (tupleText [(PyData.int a).shown, (PyData.int b).shown]).length ≤ 5000
    unfold tupleText
    rw [strLen_append, strLen_append]
    have e := join_length_add [(PyData.int a).shown, (PyData.int b).shown] (by simp)
    rw [piled_cons, piled_cons, piled_nil] at e
    have e1 : (Str.ofString "(").length = 1 := by decide
    have e2 : (Str.ofString (if ([(PyData.int a).shown, (PyData.int b).shown].length == 1) = true then ",)" else ")" : String)).length ≤ 2 := by split <;> decide
    have w1 : (PyData.int a).shown.length ≤ 1921 := q h1
    have w2 : (PyData.int b).shown.length ≤ 1921 := q h2
    rw [e1]
    omega
theorem wd_konst {K : PySem.W.Frag} {S : Stt} {ρ : Rho} {Φ : PyData → Rho → Prop} {a : Addr} {d : PyData} (h : ∀ H : Hp, Dt K H (.ref a) d) (f : Φ d ρ) : WD K S (tC (.ref a)) ρ Φ := fun H0 N0 Z N σ H E Q q => q _ d ρ H f E (fun _ _ _ z => z) (h _)
theorem Dt.part2 {K : PySem.W.Frag} {H : Hp} {a : Addr} {x y : Int} (h : SqT K H a [.int x, .int y]) : Dt K H (.ref a) (DL.pr (x, y)) := .tup h (.cons (.int x) (.cons (.int y) .nil))
def TNumber : Nat → List PyData → (PyData → Nat → Prop) → Prop := fun B ds Φ => ds = [] ∧ B + 2400 ≤ 2 ^ 40 ∧ ∀ n : Int, n.natAbs < 2 ^ 100 → Φ (.int n) (B + 2400)
def TRefused : List PyData → (PyData → Prop) → Prop := fun ds Φ => ∃ a w : Int, ds = [.int a, .int w] ∧ Φ (.bool true)
def t_law_number (K : PySem.W.Frag) : TS :=
  (tSeq (tAsg (tCall (spS K FSto TDr) [] E0 (tCons (tVar 0) (tCons (tC (.int 5)) tNil))) (gName 1))
    (tSeq (tAsg (tLst (tCons (tC (.int 0)) (tCons (tOp rAddI (tC (.int 1)) (tCall (spS K FSto TDr) [] E0 (tCons (tVar 0) (tCons (tC (.int 12)) tNil)))) (tCons (tCall (spS K FSto TDr) [] E0 (tCons (tVar 0) (tCons (tC (.int 1000)) tNil))) (tCons (tCall (spS K FSto TDr) [] E0 (tCons (tVar 0) (tCons (tOp rPowI (tC (.int 10)) (tC (.int 30))) tNil))) tNil))))) (gName 2))
    (tRet (tOp rMulI (tOp (rIxL K) (tOp rCatL (tVar 2) (tLst (tCons (tOp rMulI (tC (.int 360)) (tCall (spS K FSto TDr) [] E0 (tCons (tVar 0) (tCons (tC (.int 99)) tNil)))) tNil))) (tVar 1)) (tOp (rIxL K) (tLst (tCons (tC (.int 1)) (tCons (tUn rNegI (tC (.int 1))) tNil))) (tCall (spS K FSto TDr) [] E0 (tCons (tVar 0) (tCons (tC (.int 2)) tNil))))))))
section
variable {K : PySem.W.Frag} {S : Stt}
theorem ws_law_number {B : Nat} {ds : List PyData} {Φ : PyData → Nat → Prop} (hF : FSto S) (h : TNumber B ds Φ) : WS K S (t_law_number K) (.sto B :: rhoOf 2 ds) { nx := fun _ => False, rt := fun d ρ => ∃ B', ρ[0]? = some (.sto B') ∧ Φ d B' } := by
  obtain ⟨rfl, hB, hΦ⟩ := h
  show WS K S (t_law_number K) [.sto B, .unk, .unk] _
  unfold t_law_number
  have L : ∀ m : Int, m ≤ 1000000 → m ≤ 2 ^ 1899 := fun m hm => Int.le_trans hm big1899
  have e30 : (10 : Int) ^ (30 : Int).toNat ≤ 2 ^ 100 := by decide +kernel
  have e30' : (1 : Int) ≤ 10 ^ (30 : Int).toNat := by decide +kernel
  have e100 : (10000000 : Int) ≤ 2 ^ 100 := by decide +kernel
  walk_at "dl"
  refine wd_drawc hF rfl (by decide) (L _ (by decide)) (by omega) fun size s0 s1 => ?_
  walk_at "dl"
  refine wd_drawc hF rfl (by decide) (L _ (by decide)) (by omega) fun z1 z10 z11 => ?_
  walk_at "dl"
  refine wd_drawc hF rfl (by decide) (L _ (by decide)) (by omega) fun z2 z20 z21 => ?_
  walk_at "dl"
  refine wd_draw hF rfl ?_
  walk_at "dl"
  refine ⟨_, _, rfl, rfl, e30', pow30, by omega, fun z3 z30 z31 => ?_⟩
  walk_at "dl"
  refine wd_drawc hF rfl (by decide) (L _ (by decide)) (by omega) fun z4 z40 z41 => ?_
  walk_at "dl"
  · exact wide_mul (a := 20) (b := 20) (by decide) (by omega) (by decide) (by decide) (by decide)
  walk_at "dl"
  refine do_ixL_int (ns := [0, 1 + z1, z2, z3, 360 * z4]) (P := fun n => 0 ≤ n ∧ n < 2 ^ 100) rfl s0 s1 (by simp; omega) fun n hn => ?_
  walk_at "dl"
  refine wd_drawc hF rfl (by decide) (L _ (by decide)) (by omega) fun z5 z50 z51 => ?_
  refine do_ixL_int (ns := [1, -1]) (P := fun n => n = 1 ∨ n = -1) rfl z50 z51 (by simp) fun sg hs => ?_
  have n1 : n.natAbs < 2 ^ 100 := by omega
  walk_at "dl"
  · exact wide_mul (a := 100) (b := 2) n1 (by omega) (by decide) (by decide) (by decide)
  walk_at "dl"
  exact hΦ _ (by rcases hs with rfl | rfl <;> omega)
theorem wd_pt {ρ : Rho} {Φ : PyData → Rho → Prop} {i j : Nat} {a b : Int} (h1 : ρ[i]? = some (.dat (.int a))) (h2 : ρ[j]? = some (.dat (.int b))) (hb : b ≠ 0) (ha : a.natAbs < 2 ^ 100) (hb8 : b.natAbs < 2 ^ 100) (h : Φ (pr (nrm a b)) ρ) : WD K S (tCall (spP K TPart) [] E0 (tCons (tVar i) (tCons (tVar j) tNil))) ρ Φ :=
  wd_call0 (wa_cons (wd_var h1 (wa_cons (wd_var h2 (wa_nil ⟨a, b, rfl, hb, Nat.lt_of_lt_of_le ha (Nat.pow_le_pow_right (by decide) (by decide)), Nat.lt_of_lt_of_le hb8 (Nat.pow_le_pow_right (by decide) (by decide)), h⟩)))))
theorem wd_ptR {ρ : Rho} {Φ : PyData → Rho → Prop} {i j : Nat} {a b : Int} (h1 : ρ[i]? = some (.dat (.int a))) (h2 : ρ[j]? = some (.dat (.int b))) (hb : b ≠ 0) (ha : a.natAbs < 2 ^ 100) (hb8 : b.natAbs < 2 ^ 100) (h : Φ (pr (nrm a b)) ρ) : WD K S (tCallN 0 2 (spP K TPart) gVrev E0 tNil (tCons (tVar j) (tCons (tVar i) tNil))) ρ Φ :=
  wd_callN (gD := gDrev) (fun _ _ _ _ _ _ _ h => dq_rev h) (wa_nil (wa_cons (wd_var h2 (wa_cons (wd_var h1 (wa_nil ⟨rfl, rfl, a, b, rfl, hb, Nat.lt_of_lt_of_le ha (Nat.pow_le_pow_right (by decide) (by decide)), Nat.lt_of_lt_of_le hb8 (Nat.pow_le_pow_right (by decide) (by decide)), h⟩))))))
theorem wd_ptB {ρ : Rho} {Φ : PyData → Rho → Prop} {i j : Nat} {a b : Int} (h1 : ρ[i]? = some (.dat (.int a))) (h2 : ρ[j]? = some (.dat (.int b))) (hb : b ≠ 0) (ha : a.natAbs < 2 ^ 100) (hb8 : b.natAbs < 2 ^ 100) (h : Φ (pr (nrm a b)) ρ) : WD K S (tCallN 1 1 (spP K TPart) gVapp E0 (tCons (tVar i) tNil) (tCons (tVar j) tNil)) ρ Φ :=
  wd_callN (gD := gDapp) (fun _ _ _ _ _ _ h1 h2 => h1.append h2) (wa_cons (wd_var h1 (wa_nil (wa_cons (wd_var h2 (wa_nil ⟨rfl, rfl, a, b, rfl, hb, Nat.lt_of_lt_of_le ha (Nat.pow_le_pow_right (by decide) (by decide)), Nat.lt_of_lt_of_le hb8 (Nat.pow_le_pow_right (by decide) (by decide)), h⟩))))))
theorem nrm_one (a : Int) : nrm a 1 = (a, 1) := nrm_self (by decide) (Nat.gcd_one_right _)
theorem wd_ptD {ρ : Rho} {Φ : PyData → Rho → Prop} {i : Nat} {a : Int} (h1 : ρ[i]? = some (.dat (.int a))) (ha : a.natAbs < 2 ^ 100) (h : Φ (pr (a, 1)) ρ) : WD K S (tCall (spP K TPart) [.int 1] E0 (tCons (tVar i) tNil)) ρ Φ :=
  wd_call (dds := [.int 1]) (fun _ => .cons (.int 1) .nil) (wa_cons (wd_var h1 (wa_nil ⟨a, 1, rfl, by decide, Nat.lt_of_lt_of_le ha (Nat.pow_le_pow_right (by decide) (by decide)), by decide, by rw [nrm_one]; exact h⟩)))
theorem wd_ptA {ρ : Rho} {Φ : PyData → Rho → Prop} {i : Nat} {a : Int} (h1 : ρ[i]? = some (.dat (.int a))) (ha : a.natAbs < 2 ^ 100) (h : Φ (pr (a, 1)) ρ) : WD K S (tCallN 0 1 (spP K TPart) gVone1 E0 tNil (tCons (tVar i) tNil)) ρ Φ :=
  wd_callN (gD := gDone1) (fun _ _ _ _ _ _ _ h => h.append (.cons (.int 1) .nil)) (wa_nil (wa_cons (wd_var h1 (wa_nil ⟨rfl, rfl, a, 1, rfl, by decide, Nat.lt_of_lt_of_le ha (Nat.pow_le_pow_right (by decide) (by decide)), by decide, by rw [nrm_one]; exact h⟩))))
local macro_rules | `(tactic| walk_at "dl") => `(tactic| repeat' (first
  | with_reducible refine wd_isTy ?_ | with_reducible refine wd_isi ?_ | with_reducible refine wd_op ?_ | ((with_reducible show WD _ _ (tCB (rLenX _) (tCons (tVar _) tNil)) _ _); refine wd_len_scr rfl ?_) | with_reducible refine wd_cb ?_ | with_reducible refine wd_un ?_ | with_reducible refine wa_cons ?_ | with_reducible refine wa_nil ?_ | ((with_reducible show WD _ _ (tVar _) _ _); refine wd_var rfl ?_) | with_reducible refine wd_int ?_ | with_reducible refine wd_bl ?_ | with_reducible refine wd_str ?_ | with_reducible refine wd_non ?_
  | with_reducible refine do_nesS ?_ | with_reducible refine do_add ?_ | with_reducible refine do_sub ?_ | ((with_reducible refine do_mod ?_ ?_); decide) | with_reducible refine do_mod ?_ ?_ | with_reducible refine do_mul ?_ ?_ | ((with_reducible refine do_div ?_ ?_); exact ⟨by decide, by decide⟩) | with_reducible refine do_div ?_ ?_ | ((with_reducible refine do_pow ?_ ?_); exact ⟨by decide, by decide, by decide⟩) | with_reducible refine do_pow ?_ ?_
  | with_reducible refine do_lt ?_ | with_reducible refine do_le ?_ | with_reducible refine do_gt ?_ | with_reducible refine do_ge ?_ | with_reducible refine du_neg ?_
  | with_reducible refine do_eqi ?_ | with_reducible refine do_nei ?_ | with_reducible refine do_eqs ?_ | with_reducible refine do_nes ?_ | with_reducible refine dc_abs ?_ | with_reducible refine dc_min ?_ | with_reducible refine dc_max ?_ | with_reducible refine dc_lenL ?_ | with_reducible refine dc_lenT ?_ | with_reducible refine dc_gcd ?_
  | ((with_reducible show DO _ (rIxT _) _ _ _); refine do_ixT rfl ?_) | ((with_reducible show DO _ (rIxL _) _ _ _); refine do_ixL rfl ?_) | ((with_reducible refine do_catL ?_ ?_); exact Nat.le_of_ble_eq_true rfl) | with_reducible refine do_catL ?_ ?_ | ((with_reducible show And (List.length _ ≤ sizeLine) _); refine ⟨Nat.le_of_ble_eq_true rfl, ?_⟩)
  | with_reducible refine wd_dnew ?_ | with_reducible refine wd_pt rfl rfl (by assumption) (by assumption) (by assumption) ?_ | with_reducible refine wd_ptR rfl rfl (by assumption) (by assumption) (by assumption) ?_ | with_reducible refine wd_ptB rfl rfl (by assumption) (by assumption) (by assumption) ?_ | with_reducible refine wd_ptD rfl (by assumption) ?_ | with_reducible refine wd_ptA rfl (by assumption) ?_ | with_reducible refine wd_call0 ?_ | with_reducible refine dc_str ?_ ?_ | with_reducible refine wd_tup ?_ | with_reducible refine wd_lst ?_ | with_reducible refine wt_test ?_ | with_reducible refine wt_B ?_ | with_reducible refine wt_not ?_ | with_reducible refine wt_and ?_ | with_reducible refine wt_or ?_ | with_reducible refine wd_ifE ?_ | with_reducible refine wd_andV ?_ | with_reducible refine wd_orV ?_ | with_reducible refine wd_notV ?_
  | with_reducible refine ws_seq ?_ | with_reducible refine ws_next ?_ | with_reducible refine ws_asg ?_ | with_reducible refine ws_ret ?_ | with_reducible refine ws_retN ?_ | with_reducible refine ws_if ?_ | with_reducible refine ws_par ?_ | with_reducible refine ws_unp2 ?_
  | with_reducible refine if_t ?_ | with_reducible refine if_f ?_ | with_reducible refine if_nf ?_ | with_reducible refine if_nt ?_
  | ((with_reducible show Exists _); first | refine ⟨_, kitInt _, ?_⟩ | refine ⟨_, kitBool _, ?_⟩ | refine ⟨_, kitTup _, ?_⟩ | refine ⟨_, kitList _, ?_⟩ | refine ⟨_, rfl, ?_⟩ | refine ⟨_, _, rfl, ?_⟩ | fail) | fail))
def t_tail3 (K : PySem.W.Frag) : TS :=
    (tSeq (tAsg (tCall (spP K TPart) [] E0 (tCons (tVar 3) (tCons (tVar 4) tNil))) (gName 5))
    (tSeq (tIfS (tTest (tOp rNe (tCB (rRepr K) (tCons (tLst (tCons (tCall (spP K TPart) [] E0 (tCons (tVar 3) (tCons (tVar 4) tNil))) (tCons (tCallN 0 2 (spP K TPart) gVrev E0 tNil (tCons (tVar 4) (tCons (tVar 3) tNil))) (tCons (tCallN 1 1 (spP K TPart) gVapp E0 (tCons (tVar 3) tNil) (tCons (tVar 4) tNil)) tNil)))) tNil)) (tCB (rRepr K) (tCons (tLst (tCons (tVar 5) (tCons (tVar 5) (tCons (tVar 5) tNil)))) tNil)))) (tRet (tC (.bl false))) tNext)
    (tIfS (tTest (tOp rNe (tCB (rRepr K) (tCons (tLst (tCons (tCall (spP K TPart) [.int 1] E0 (tCons (tVar 3) tNil)) (tCons (tCallN 0 1 (spP K TPart) gVone1 E0 tNil (tCons (tVar 3) tNil)) tNil))) tNil)) (tCB (rRepr K) (tCons (tLst (tCons (tTup (tCons (tVar 3) (tCons (tC (.int 1)) tNil))) (tCons (tTup (tCons (tVar 3) (tCons (tC (.int 1)) tNil))) tNil))) tNil)))) (tRet (tC (.bl false))) tNext)))
theorem p19 : (2 : Nat) ^ 100 ≤ 2 ^ 1900 := Nat.pow_le_pow_right (by decide) (by decide)
theorem ws_tail3 {ns : List Int} {B : Nat} {s2 s5 : Sl} {a b : Int} {En : DE} (ha : a.natAbs < 2 ^ 100) (hb : b.natAbs < 2 ^ 100) (h0 : b ≠ 0) (he : ∀ s5, En.nx [.scr ns, .sto B, s2, .dat (.int a), .dat (.int b), s5]) : WS K S (t_tail3 K) [.scr ns, .sto B, s2, .dat (.int a), .dat (.int b), s5] En := by
  unfold t_tail3
  obtain ⟨q1, q2, q3, q4, q5⟩ := nrm_spec (a := a) h0
  have r1 : Rp (pr (nrm a b)) := Rp.pr (Nat.lt_of_lt_of_le (by omega) p19) (Nat.lt_of_lt_of_le (by omega) p19)
  have r2 : Rp (pr (a, 1)) := Rp.pr (Nat.lt_of_lt_of_le (show a.natAbs < 2 ^ 100 by omega) p19) (by show (1 : Int).natAbs < 2 ^ 1900; decide +kernel)
  have l1 : ∀ x ∈ [pr (nrm a b), pr (nrm a b), pr (nrm a b)], Rp x := fun x hx => by
    simp only [List.mem_cons, List.not_mem_nil, or_false, or_self] at hx
    rw [hx]; exact r1
  have l2 : ∀ x ∈ [pr (a, 1), pr (a, 1)], Rp x := fun x hx => by
    simp only [List.mem_cons, List.not_mem_nil, or_false, or_self] at hx
    rw [hx]; exact r2
  walk_at "dl"
  refine dc_reprL l1 (Nat.le_of_ble_eq_true rfl) ?_
  walk_at "dl"
  refine dc_reprL l1 (Nat.le_of_ble_eq_true rfl) ?_
  walk_at "dl"
  refine dc_reprL l2 (Nat.le_of_ble_eq_true rfl) ?_
  walk_at "dl"
  refine dc_reprL l2 (Nat.le_of_ble_eq_true rfl) ?_
  refine do_nesS ?_
  walk_at "dl"
  exact he _
def t_law_rest3 (K : PySem.W.Frag) (aN aO : Addr) : TS :=
    (tSeq (tFor (iRng1 (tCons (tOp rAddI (tC (.int 20)) (tCB rMinX (tCons (tC (.int 40)) (tCons (tCB (rLenX K) (tCons (tVar 0) tNil)) tNil)))) tNil)) (gName 2) (tSeq (tAsg (tCall (spS K FSto TNumber) [] E0 (tCons (tVar 1) tNil)) (gName 3))
    (tSeq (tAsg (tCall (spS K FSto TNumber) [] E0 (tCons (tVar 1) tNil)) (gName 4))
    (tSeq (tIfS (tTest (tOp rEq (tVar 4) (tC (.int 0)))) (tSeq (tIfS (tOr (tNot (tB (tCall (spP K TRefused) [] E0 (tCons (tVar 3) (tCons (tC (.int 0)) tNil))))) (tNot (tB (tCall (spP K TRefused) [] E0 (tCons (tVar 3) (tCons (tC (.int 1)) tNil)))))) (tRet (tC (.bl false))) tNext)
    (tAsg (tC (.int 1)) (gName 4))) tNext)
    (tSeq (tAsg (tCall (spP K TPart) [] E0 (tCons (tVar 3) (tCons (tVar 4) tNil))) (gName 5))
    (tSeq (tIfS (tTest (tOp rNe (tCB (rRepr K) (tCons (tLst (tCons (tCall (spP K TPart) [] E0 (tCons (tVar 3) (tCons (tVar 4) tNil))) (tCons (tCallN 0 2 (spP K TPart) gVrev E0 tNil (tCons (tVar 4) (tCons (tVar 3) tNil))) (tCons (tCallN 1 1 (spP K TPart) gVapp E0 (tCons (tVar 3) tNil) (tCons (tVar 4) tNil)) tNil)))) tNil)) (tCB (rRepr K) (tCons (tLst (tCons (tVar 5) (tCons (tVar 5) (tCons (tVar 5) tNil)))) tNil)))) (tRet (tC (.bl false))) tNext)
    (tIfS (tTest (tOp rNe (tCB (rRepr K) (tCons (tLst (tCons (tCall (spP K TPart) [.int 1] E0 (tCons (tVar 3) tNil)) (tCons (tCallN 0 1 (spP K TPart) gVone1 E0 tNil (tCons (tVar 3) tNil)) tNil))) tNil)) (tCB (rRepr K) (tCons (tLst (tCons (tTup (tCons (tVar 3) (tCons (tC (.int 1)) tNil))) (tCons (tTup (tCons (tVar 3) (tCons (tC (.int 1)) tNil))) tNil))) tNil)))) (tRet (tC (.bl false))) tNext)))))))
    (tRet (tAndV (tOp (rEqD K) (tCall (spP K TPart) [] E0 (tCons (tC (.int 0)) (tCons (tC (.int 7)) tNil))) (tC (.ref aN))) (tAndV (tOp (rEqD K) (tCall (spP K TPart) [] E0 (tCons (tUn rNegI (tC (.int 3))) (tCons (tUn rNegI (tC (.int 3))) tNil))) (tC (.ref aO))) (tAndV (tOp (rEqD K) (tC (.ref aN)) (tTup (tCons (tC (.int 0)) (tCons (tC (.int 1)) tNil)))) (tOp (rEqD K) (tC (.ref aO)) (tTup (tCons (tC (.int 1)) (tCons (tC (.int 1)) tNil)))))))))
theorem ws_law_rest3 {ns : List Int} {aN aO : Addr} (hN : ∀ H : Hp, SqT K H aN [.int 0, .int 1]) (hO : ∀ H : Hp, SqT K H aO [.int 1, .int 1]) (hF : FSto S) (hl : ns.length ≤ 63) : WS K S (t_law_rest3 K aN aO) (.scr ns :: .sto 0 :: List.replicate 4 .unk) { nx := fun _ => False, rt := fun d _ => d = .bool true } := by
  show WS K S (t_law_rest3 K aN aO) [.scr ns, .sto 0, .unk, .unk, .unk, .unk] _
  unfold t_law_rest3
  walk_at "dl"
  refine ws_for (wi_rng1 ?_)
  walk_at "dl"
  generalize hm : (20 + if (ns.length : Int) < 40 then (ns.length : Int) else 40) = many
  have hm2 : 0 ≤ many ∧ many ≤ 60 := by
    rw [← hm]; split <;> omega
  refine ⟨by omega, by omega, fun k ρ => ∃ (B : Nat) (s2 s3 s4 s5 : Sl), ρ = [.scr ns, .sto B, s2, s3, s4, s5] ∧ B ≤ 8000 * k, ⟨0, _, _, _, _, rfl, by omega⟩, ?_, ?_⟩
  · rintro k dd ρ2 hd ⟨B, s2, s3, s4, s5, rfl, hB⟩
    have hk : k < 60 := by
      have := (List.getElem?_eq_some_iff.mp hd).1
      simp at this
      omega
    refine ⟨_, _, gd_name, ?_⟩
    walk_at "dl"
    refine wd_callS hF rfl (wa_nil ⟨_, rfl, rfl, by omega, fun a ha => ?_⟩)
    walk_at "dl"
    refine wd_callS hF rfl (wa_nil ⟨_, rfl, rfl, by omega, fun b hb => ?_⟩)
    walk_at "dl"
    refine if_b (fun h0 => ?_) (fun h0 => ?_)
    · walk_at "dl"
      refine ⟨a, 0, rfl, true, rfl, ?_⟩
      rw [if_neg (by simp)]
      walk_at "dl"
      refine ⟨a, 1, rfl, true, rfl, ?_⟩
      rw [if_neg (by simp)]
      refine ws_next ?_
      refine ws_asg (wd_int ?_)
      exact ws_tail3 (b := 1) ha (by decide) (by decide) fun _ => ⟨_, _, _, _, _, rfl, by omega⟩
    · refine ws_next ?_
      exact ws_tail3 ha hb h0 fun _ => ⟨_, _, _, _, _, rfl, by omega⟩
  · rintro ρ2 ⟨B, s2, s3, s4, s5, rfl, hB⟩
    have k1 : ∀ H : Hp, Dt K H (.ref aN) (pr (0, 1)) := fun H => Dt.part2 (hN H)
    have k2 : ∀ H : Hp, Dt K H (.ref aO) (pr (1, 1)) := fun H => Dt.part2 (hO H)
    have n1 : nrm 0 7 = (0, 1) := by decide
    have n2 : nrm (-3) (-3) = (1, 1) := by decide
    refine ws_ret (wd_andV ?_)
    walk_at "dl"
    refine ⟨0, 7, rfl, by decide, by decide, by decide, ?_⟩
    rw [n1]
    refine wd_const k1 (do_eqPr ⟨true, rfl, ?_⟩)
    rw [if_pos rfl]
    walk_at "dl"
    refine ⟨-3, -3, rfl, by decide, by decide, by decide, ?_⟩
    rw [n2]
    refine wd_const k2 (do_eqPr ⟨true, rfl, ?_⟩)
    rw [if_pos rfl]
    walk_at "dl"
    refine wd_const k1 ?_
    walk_at "dl"
    refine do_eqPr (x := (0, 1)) ⟨true, rfl, ?_⟩
    rw [if_pos rfl]
    refine wd_op (wd_const k2 ?_)
    walk_at "dl"
    exact do_eqPr (x := (1, 1)) rfl
end
end DL

set_option Elab.async false
set_option linter.all false
set_option maxRecDepth 100000
set_option maxHeartbeats 4000000
namespace DL
open PySem PySem.Spec PyProof.Rows L2
/-! ### isinstance of a kept error -/
def rIsiE (K : PySem.W.Frag) (D : Addr) : List V → Hp → VK → Prop := fun xs H Q => ∃ (a : Addr) (c : V) (u : Value) (b : Bool), xs = [.ref a, c] ∧ ClsV c u ∧ H a = some (.ext (excAt a (.ref D))) ∧ PySem.W.kitOne K (.ref D) u = some b ∧ Q (.bl b) H
def rIsiET (K : PySem.W.Frag) (D : Addr) : List V → Hp → VK → Prop := fun xs H Q => ∃ (a tp : Addr) (cs : List V) (us : List Value) (b : Bool), xs = [.ref a, .ref tp] ∧ H tp = some (.tup cs) ∧ Paired ClsV cs us ∧ H a = some (.ext (excAt a (.ref D))) ∧ PySem.W.kitAny K (.ref D) us = some b ∧ Q (.bl b) H
section
variable {X : Cx} {pins : List (Addr × Obj)} {σ : L2.St} {H : Hp} {s : Shared} {a D : Addr}
theorem inst_of (I : Inv X pins σ H s) (h : H a = some (.ext (excAt a (.ref D)))) : ∃ ox, PySem.W.InstAt s.heap a ox D none := by
  have q : ObjOk X.prog X.w H s.heap a (.ext (excAt a (.ref D))) := I.hok a _ h
  obtain ⟨oe, vs, e, z, d⟩ := q.1
  obtain ⟨oc, od, oda, osl⟩ := oe
  obtain ⟨h1, h2⟩ := z
  dsimp only at h1 h2 d
  subst h1 h2 d
  exact ⟨_, e, rfl, rfl, trivial⟩
theorem call_isE1 (C : ExcC X.K D) : CallR X (.builtin "isinstance") (rIsiE X.K D) := by
  intro pins s σ H xs us Q I r h
  obtain ⟨a, c, u, b, rfl, k, ha, e, q⟩ := h
  obtain ⟨u1, u2, rfl, r1, r2⟩ := vals2 r
  have e2 := k.eq r2
  subst e2
  cases (show u1 = Value.ref a from r1)
  obtain ⟨ox, J⟩ := inst_of I ha
  have kx := PySem.W.handS_kitx_exc (ox := ox) (x := a) C.hg C.hk C.hs C.hd C.ha C.hn C.ht C.hm
  exact PySem.W.kia_one kx I.kIn J e (fun z => nomatch z) fun tk => ⟨.bl b, H, I.tok tk, rfl, q⟩
theorem call_isET (C : ExcC X.K D) : CallR X (.builtin "isinstance") (rIsiET X.K D) := by
  intro pins s σ H xs us Q I r h
  obtain ⟨a, tp, cs, ws, b, rfl, hT, k, ha, e, q⟩ := h
  obtain ⟨u1, u2, rfl, r1, r2⟩ := vals2 r
  cases (show u2 = Value.ref tp from r2)
  cases (show u1 = Value.ref a from r1)
  obtain ⟨ox, J⟩ := inst_of I ha
  have kx := PySem.W.handS_kitx_exc (ox := ox) (x := a) C.hg C.hk C.hs C.hd C.ha C.hn C.ht C.hm
  have ht : ObjOk X.prog X.w H s.heap tp (.tup cs) := I.hok tp _ hT
  obtain ⟨_, its, rv, ⟨oc, od, dt, sl⟩, h1, h2, n, h3⟩ := ht
  have e3 := ClsV.all k rv
  simp only at h2 h3
  subst e3 h2 h3
  exact PySem.W.kia_tup kx I.kIn J h1 e (fun z => nomatch z) fun tk => ⟨.bl b, H, I.tok tk, rfl, q⟩
end
/-! ### a call by names that may be refused, in a try -/
def tCallNS (m : Nat) (sp : Sp) (gV : List V → List V → List V) (E : L2.St → XK) (tk : TA) : TE := fun σ H Q => tk σ H fun zs H2 => zs.length = m ∧ sp (gV [] zs) H2 Q (E σ)
theorem pe_hasK0S {X : Cx} {CX : CXT} {k : Nat} {ps ks : List Str} {sp : Sp} {E : L2.St → XK} {x : Str} {p pos : Pos} {kws : List Keyword} {tk : TA} {gV : List V → List V → List V} (h : HasK X.prog X.w X.K X.mg X.base CX x k ps sp 0 ks gV) (hr : Room k X.A) (hx : ∀ σ, PassesAt CX X σ (E σ)) (hkw : PK X kws tk) (hg : Gl X x := by rfl) (hall : (backToKw pos (keywordEach kws X.env)).all (·.1.isSome) = true := by rfl)
    (hks : (backToKw pos (keywordEach kws X.env)).filterMap (·.1) = ks := by rfl) (hdb : (x == ("__debug__" : Str)) = false := by decide)
    (hpl : ((backTo pos (starEach [] X.env)).any (·.1) || (backToKw pos (keywordEach kws X.env)).any (·.1.isNone)) = false := by rfl) : PE X (.Call (.Name x p) [] kws pos) (tCallNS ks.length sp gV E tk) := by
  obtain ⟨f, fd, g, F, hm, hk, hb⟩ := h.ex
  refine ⟨fun pins s σ H Q I h => ?_⟩
  refine wpAny_Call_Name_kw (ld_glob I hg hm ?_ hdb)
  refine PySem.W.callWith_KW0 (h₀ := X.base) I.ok.mod.kin hk hall (thn (hkw.run pos pins s σ H _ I h) fun ws s2 ⟨zs, H2, I2, rz, l2, q2⟩ => ⟨I2.kIn, ?_⟩) hpl
  rw [hks]
  have r2 := hb.rel .nil rz
  refine wpAny_call (codeAny_mono (F.run X.A X.stack s2 H2 ⟨[], ks.zip ws⟩ (g [] ws) (gV [] zs) Q (E σ) hr I2.env0 (hb.to s2 [] ws I2.kIn rfl (rz.length.symm.trans l2)) r2 q2) fun r s3 hq => ?_)
  match r, hq with
  | .error z, hq => exact hx σ pins H2 s2 z s3 I2 hq
  | .ok (.ret u), hq => exact I2.after hq
  | .ok .next, hq => exact hq.elim
  | .ok .brk, hq => exact hq.elim
  | .ok .cont, hq => exact hq.elim
/-! ### the judge of refusals -/
def ts_rf (a : Addr) : TS := tAsg (tVar 3) (gName 2)
def tb_rf (K : PySem.W.Frag) (C : Addr) (W : WX) : TS := tIfS (tTest (tOp rEq (tVar 1) (tC (.int 0)))) (tDrop (tCallS (spX K (TPartX C)) (WE W) (tCons (tVar 0) (tCons (tC (.int 0)) tNil))))
  (tDrop (tCallNS 2 (spX K (TPartX C)) gVrev (WE W) (tCons (tC (.int 0)) (tCons (tVar 0) tNil))))
def te_rf (K : PySem.W.Frag) (C P : Addr) : TE := tAndV (tCB (rIsiE K C) (tCons (tVar 2) (tCons (tC (.ty "ZeroDivisionError")) tNil))) (tNotV (tCB (rIsiET K C) (tCons (tVar 2) (tCons (tTup (tCons (tC (.ref P)) (tCons (tC (.ty "ValueError")) tNil))) tNil))))
def t_rf (K : PySem.W.Frag) (C P : Addr) : TS :=
  (tSeq (tAsg (tC .non) (gName 2))
    (tSeq (fun D σ H => tb_rf K C (wKeep K (.ref C) 3 ts_rf D) D σ H)
    (tRet (te_rf K C P))))
theorem run_rf {K : PySem.W.Frag} {C P : Addr} {vs : List V} {H : Hp} {Q : VK} {E : XK} (hx : PySem.W.exmOne K (.ref C) (.ref C) = some true) (k1 : PySem.W.kitOne K (.ref C) (.type "ZeroDivisionError") = some true) (k2 : PySem.W.kitAny K (.ref C) [.ref P, .type "ValueError"] = some false)
    (h : spP K TRefused vs H Q E) : t_rf K C P { nx := fun _ H' => Q .non H', rt := Q } (L2.start ["above", "way", "caught", "error"] vs) H := by
  obtain ⟨N, ds, Φ, ht, hd, ⟨a, w, rfl, hΦ⟩, hQ⟩ := h
  cases hd with
  | cons d1 d2 =>
    cases d2 with
    | cons d2 d3 =>
      cases d3
      cases d1
      cases d2
      have fin : ∀ (x : Addr) (H1 : Hp), H1 x = none → Same H H1 → te_rf K C P [some (.int a), some (.int w), some (.ref x), none] (upd H1 x (.ext (excAt x (.ref C)))) Q := by
        intro x H1 hn sm
        refine ⟨_, rfl, x, _, _, true, rfl, .ty _, upd_same, k1, true, rfl, ?_⟩
        rw [if_pos rfl]
        refine ⟨_, rfl, by show 2 ≤ sizeLine; decide, fun p hp => ?_⟩
        have px : x ≠ p := fun z => by rw [← z, upd_same] at hp; cases hp
        refine ⟨x, p, _, _, false, rfl, upd_same, .cons (.own P) (.cons (.ty _) .nil), by rw [upd_ne px]; exact upd_same, k2, ?_⟩
        refine ⟨false, rfl, ?_⟩
        refine hQ _ hΦ _ _ (fun b o e => ?_) (Dt.bl true)
        have e1 := sm b o e
        have bx : b ≠ x := fun z => by rw [z, hn] at e1; cases e1
        have bp : b ≠ p := fun z => by rw [← z, upd_ne bx, e1] at hp; cases hp
        rw [upd_ne bp, upd_ne bx]
        exact e1
      refine ⟨_, rfl, rfl, decide (V.int w = V.int 0), rfl, ?_⟩
      by_cases w0 : w = 0
      · subst w0
        dsimp only
        rw [if_pos (by simp)]
        refine ⟨_, rfl, N, [.int a, .int 0], fun _ => False, fun C1 => C1 = C, ht, .cons (.int a) (.cons (.int 0) .nil), ⟨a, rfl, rfl⟩, fun _ z => z.elim, fun C1 e H1 sm => ?_⟩
        subst e
        exact ⟨rfl, hx, fun x hn => ⟨_, rfl, fin x H1 hn sm⟩⟩
      · dsimp only
        rw [if_neg (by simpa using w0)]
        refine ⟨_, rfl, rfl, N, [.int a, .int 0], fun _ => False, fun C1 => C1 = C, ht, .cons (.int a) (.cons (.int 0) .nil), ⟨a, rfl, rfl⟩, fun _ z => z.elim, fun C1 e H1 sm => ?_⟩
        subst e
        exact ⟨rfl, hx, fun x hn => ⟨_, rfl, fin x H1 hn sm⟩⟩
end DL
namespace DL
open PySem PySem.Spec PyProof.Rows L2
def excCB (K : PySem.W.Frag) (D : Addr) : Bool := decide (PySem.W.findIn K (.ref D) "__getattribute__" = some (some (.builtin "BaseException.__getattribute__"))) && (decide (PySem.W.findIn K (.ref D) "__getattr__" = some none) &&
  (decide (PySem.W.subIn K (.ref D) (.type "BaseException") = some true) && (PySem.W.hasDictIn K D && (decide (PySem.W.findIn K (.ref D) "__class__" = some (some (.builtin "object.__class__"))) &&
  (decide (PySem.W.specialIn K (.builtin "object.__class__") "__get__" = some (some (.builtin "getset_descriptor.__get__"))) && (decide (PySem.W.takesIn K (.builtin "object.__class__") = some true) && decide (PySem.W.mroIn K D (.type "object") = some true)))))))
theorem excC_ok {K : PySem.W.Frag} {D : Addr} (h : excCB K D = true) : ExcC K D := by
  obtain ⟨c1, h⟩ := He.ba h
  obtain ⟨c2, h⟩ := He.ba h
  obtain ⟨c3, h⟩ := He.ba h
  obtain ⟨c4, h⟩ := He.ba h
  obtain ⟨c5, h⟩ := He.ba h
  obtain ⟨c6, h⟩ := He.ba h
  obtain ⟨c7, c8⟩ := He.ba h
  exact ⟨of_decide_eq_true c1, of_decide_eq_true c2, of_decide_eq_true c3, c4, of_decide_eq_true c5, of_decide_eq_true c6, of_decide_eq_true c7, of_decide_eq_true c8⟩
end DL

set_option Elab.async false
set_option linter.all false
set_option maxRecDepth 100000
set_option maxHeartbeats 4000000
namespace DL
open PySem PySem.Spec PyProof.Rows L2
def top (i : Nat) : Stmt := PySem.Challenge.pw_paymill_k44_whole_nobody_gives_back.main.body.getD i (.Pass ⟨0, 0, 0, 0⟩)
abbrev FnP (K : PySem.W.Frag) (x : Str) (st : Stmt) (f : Addr) (fd : FuncData) : Prop := FunD K x x (defArgs st) (defBody st) (defScope st) [] [] f fd
abbrev FnD (K : PySem.W.Frag) (x : Str) (st : Stmt) (dvs : List V) (f : Addr) (fd : FuncData) : Prop := FunD K x x (defArgs st) (defBody st) (defScope st) dvs [] f fd
abbrev FnKw (K : PySem.W.Frag) (x : Str) (st : Stmt) (kws : List (Str × V)) (f : Addr) (fd : FuncData) : Prop := FunD K x x (defArgs st) (defBody st) (defScope st) [] kws f fd
abbrev s_law_draw : Stmt := top 22
theorem sc_law_draw : FnScope ["store", "many", "digit", "found", "turn", "step", "primes", "cell", "one", "two"] ["store", "many"] (defScope s_law_draw) := ⟨rfl, rfl, rfl, by decide +kernel, rfl, by decide +kernel, by decide +kernel⟩

abbrev s_law_store : Stmt := top 21
theorem sc_law_store : FnScope ["script", "blend", "place", "cell", "great", "small"] ["script"] (defScope s_law_store) := ⟨rfl, rfl, rfl, by decide +kernel, rfl, by decide +kernel, by decide +kernel⟩

abbrev s_law_part : Stmt := top 23
theorem sc_law_part : FnScope ["above", "below", "one", "other", "sign"] ["above", "below"] (defScope s_law_part) := ⟨rfl, rfl, rfl, by decide +kernel, rfl, by decide +kernel, by decide +kernel⟩

abbrev s_part : Stmt := top 10
theorem sc_part : FnScope ["a", "b", "common"] ["a", "b"] (defScope s_part) := ⟨rfl, rfl, rfl, by decide +kernel, rfl, by decide +kernel, by decide +kernel⟩

abbrev s_plus : Stmt := top 11
theorem sc_plus : FnScope ["one", "other"] ["one", "other"] (defScope s_plus) := ⟨rfl, rfl, rfl, by decide +kernel, rfl, by decide +kernel, by decide +kernel⟩

abbrev s_less : Stmt := top 12
theorem sc_less : FnScope ["one", "other"] ["one", "other"] (defScope s_less) := ⟨rfl, rfl, rfl, by decide +kernel, rfl, by decide +kernel, by decide +kernel⟩

abbrev s_times : Stmt := top 13
theorem sc_times : FnScope ["one", "other"] ["one", "other"] (defScope s_times) := ⟨rfl, rfl, rfl, by decide +kernel, rfl, by decide +kernel, by decide +kernel⟩

abbrev s_is_less : Stmt := top 14
theorem sc_is_less : FnScope ["one", "other"] ["one", "other"] (defScope s_is_less) := ⟨rfl, rfl, rfl, by decide +kernel, rfl, by decide +kernel, by decide +kernel⟩

abbrev s_law_sum : Stmt := top 24
theorem sc_law_sum : FnScope ["one", "other"] ["one", "other"] (defScope s_law_sum) := ⟨rfl, rfl, rfl, by decide +kernel, rfl, by decide +kernel, by decide +kernel⟩

abbrev s_law_rest : Stmt := top 25
theorem sc_law_rest : FnScope ["one", "other"] ["one", "other"] (defScope s_law_rest) := ⟨rfl, rfl, rfl, by decide +kernel, rfl, by decide +kernel, by decide +kernel⟩

abbrev s_law_fold : Stmt := top 26
theorem sc_law_fold : FnScope ["one", "other"] ["one", "other"] (defScope s_law_fold) := ⟨rfl, rfl, rfl, by decide +kernel, rfl, by decide +kernel, by decide +kernel⟩

abbrev s_law_under : Stmt := top 27
theorem sc_law_under : FnScope ["one", "other"] ["one", "other"] (defScope s_law_under) := ⟨rfl, rfl, rfl, by decide +kernel, rfl, by decide +kernel, by decide +kernel⟩

abbrev s_law_small : Stmt := top 28
theorem sc_law_small : FnScope ["store", "size", "below", "above"] ["store"] (defScope s_law_small) := ⟨rfl, rfl, rfl, by decide +kernel, rfl, by decide +kernel, by decide +kernel⟩

abbrev s_law_share : Stmt := top 30
theorem sc_law_share : FnScope ["store", "below"] ["store"] (defScope s_law_share) := ⟨rfl, rfl, rfl, by decide +kernel, rfl, by decide +kernel, by decide +kernel⟩

abbrev s_law_totals : Stmt := top 31
theorem sc_law_totals : FnScope ["store", "most", "kind", "size", "hair", "power", "below", "found", "here", "k", "step", "one"] ["store", "most"] (defScope s_law_totals) := ⟨rfl, rfl, rfl, by decide +kernel, rfl, by decide +kernel, by decide +kernel⟩

abbrev s_is_whole : Stmt := top 8
theorem sc_is_whole : FnScope ["thing"] ["thing"] (defScope s_is_whole) := ⟨rfl, rfl, rfl, by decide +kernel, rfl, by decide +kernel, by decide +kernel⟩

abbrev s_is_part : Stmt := top 9
theorem sc_is_part : FnScope ["thing", "a", "b"] ["thing"] (defScope s_is_part) := ⟨rfl, rfl, rfl, by decide +kernel, rfl, by decide +kernel, by decide +kernel⟩

abbrev s_floor : Stmt := top 15
theorem sc_floor : FnScope ["one"] ["one"] (defScope s_floor) := ⟨rfl, rfl, rfl, by decide +kernel, rfl, by decide +kernel, by decide +kernel⟩

abbrev s_least : Stmt := top 16
theorem sc_least : FnScope ["some", "none", "found", "one"] ["some", "none"] (defScope s_least) := ⟨rfl, rfl, rfl, by decide +kernel, rfl, by decide +kernel, by decide +kernel⟩

abbrev s_kept_of : Stmt := top 19
theorem sc_kept_of : FnScope ["new", "debt", "share"] ["new", "debt", "share"] (defScope s_kept_of) := ⟨rfl, rfl, rfl, by decide +kernel, rfl, by decide +kernel, by decide +kernel⟩

abbrev s_payments : Stmt := top 18
theorem sc_payments : FnScope ["totals", "share", "whole", "found", "ahead", "in_all", "debt", "total", "new", "kept", "now", "paid"] ["totals", "share", "whole"] (defScope s_payments) := ⟨rfl, rfl, rfl, by decide +kernel, rfl, by decide +kernel, by decide +kernel⟩

abbrev s_law_kept : Stmt := top 33
theorem sc_law_kept : FnScope ["totals", "ratio", "told", "last", "in_all", "added", "total", "row", "now", "here", "debt", "new"] ["totals", "ratio", "told"] (defScope s_law_kept) := ⟨rfl, rfl, rfl, by decide +kernel, rfl, by decide +kernel, by decide +kernel⟩

abbrev s_law_greatest : Stmt := top 34
theorem sc_law_greatest : FnScope ["totals", "found", "best", "total"] ["totals"] (defScope s_law_greatest) := ⟨rfl, rfl, rfl, by decide +kernel, rfl, by decide +kernel, by decide +kernel⟩

abbrev s_law : Stmt := top 35
theorem sc_law : FnScope ["script", "store", "turn", "totals", "ratio", "more", "told", "later", "twice", "row"] ["script"] (defScope s_law) := ⟨rfl, rfl, rfl, by decide +kernel, rfl, by decide +kernel, by decide +kernel⟩

def d_law_draw : He.DefD := ⟨("_law_draw", none), "_law_draw", "_law_draw", defArgs s_law_draw, defBody s_law_draw, defScope s_law_draw, [], []⟩
def d_law_store : He.DefD := ⟨("_law_store", none), "_law_store", "_law_store", defArgs s_law_store, defBody s_law_store, defScope s_law_store, [], []⟩
def d_law_part : He.DefD := ⟨("_law_part", none), "_law_part", "_law_part", defArgs s_law_part, defBody s_law_part, defScope s_law_part, [], []⟩
def d_part : He.DefD := ⟨("part", none), "part", "part", defArgs s_part, defBody s_part, defScope s_part, [.int 1], []⟩
def d_plus : He.DefD := ⟨("plus", none), "plus", "plus", defArgs s_plus, defBody s_plus, defScope s_plus, [], []⟩
def d_less : He.DefD := ⟨("less", none), "less", "less", defArgs s_less, defBody s_less, defScope s_less, [], []⟩
def d_times : He.DefD := ⟨("times", none), "times", "times", defArgs s_times, defBody s_times, defScope s_times, [], []⟩
def d_is_less : He.DefD := ⟨("is_less", none), "is_less", "is_less", defArgs s_is_less, defBody s_is_less, defScope s_is_less, [], []⟩
def d_law_sum : He.DefD := ⟨("_law_sum", none), "_law_sum", "_law_sum", defArgs s_law_sum, defBody s_law_sum, defScope s_law_sum, [], []⟩
def d_law_rest : He.DefD := ⟨("_law_rest", none), "_law_rest", "_law_rest", defArgs s_law_rest, defBody s_law_rest, defScope s_law_rest, [], []⟩
def d_law_fold : He.DefD := ⟨("_law_fold", none), "_law_fold", "_law_fold", defArgs s_law_fold, defBody s_law_fold, defScope s_law_fold, [], []⟩
def d_law_under : He.DefD := ⟨("_law_under", none), "_law_under", "_law_under", defArgs s_law_under, defBody s_law_under, defScope s_law_under, [], []⟩
def d_law_small : He.DefD := ⟨("_law_small", none), "_law_small", "_law_small", defArgs s_law_small, defBody s_law_small, defScope s_law_small, [], []⟩
def d_law_share : He.DefD := ⟨("_law_share", none), "_law_share", "_law_share", defArgs s_law_share, defBody s_law_share, defScope s_law_share, [], []⟩
def d_law_totals : He.DefD := ⟨("_law_totals", none), "_law_totals", "_law_totals", defArgs s_law_totals, defBody s_law_totals, defScope s_law_totals, [], []⟩
def d_is_whole : He.DefD := ⟨("is_whole", none), "is_whole", "is_whole", defArgs s_is_whole, defBody s_is_whole, defScope s_is_whole, [], []⟩
def d_is_part : He.DefD := ⟨("is_part", none), "is_part", "is_part", defArgs s_is_part, defBody s_is_part, defScope s_is_part, [], []⟩
def d_floor : He.DefD := ⟨("floor", none), "floor", "floor", defArgs s_floor, defBody s_floor, defScope s_floor, [], []⟩
def d_least : He.DefD := ⟨("least", none), "least", "least", defArgs s_least, defBody s_least, defScope s_least, [], [("none", .non)]⟩
def d_kept_of : He.DefD := ⟨("_kept_of", none), "_kept_of", "_kept_of", defArgs s_kept_of, defBody s_kept_of, defScope s_kept_of, [], []⟩
def d_payments : He.DefD := ⟨("payments", none), "payments", "payments", defArgs s_payments, defBody s_payments, defScope s_payments, [], [("share", .glo "ONE"), ("whole", .bl false)]⟩
def d_law_kept : He.DefD := ⟨("_law_kept", none), "_law_kept", "_law_kept", defArgs s_law_kept, defBody s_law_kept, defScope s_law_kept, [], []⟩
def d_law_greatest : He.DefD := ⟨("_law_greatest", none), "_law_greatest", "_law_greatest", defArgs s_law_greatest, defBody s_law_greatest, defScope s_law_greatest, [], []⟩
def d_law : He.DefD := ⟨("law", none), "law", "law", defArgs s_law, defBody s_law, defScope s_law, [], []⟩
def fn : List He.DefD := [d_law_draw, d_law_store, d_law_part, d_part, d_plus, d_less, d_times, d_is_less, d_law_sum, d_law_rest, d_law_fold, d_law_under, d_law_small, d_law_share, d_law_totals, d_is_whole, d_is_part, d_floor, d_least, d_kept_of, d_payments, d_law_kept, d_law_greatest, d_law]
def fa : List He.Fa := [.glo "_law_draw", .glo "_law_store", .glo "_law_part", .glo "part", .glo "plus", .glo "less", .glo "times", .glo "is_less", .glo "_law_sum", .glo "_law_rest", .glo "_law_fold", .glo "_law_under", .glo "_law_small", .glo "_law_share", .glo "_law_totals", .glo "is_whole", .glo "is_part", .glo "floor", .glo "least", .glo "_kept_of", .glo "payments", .glo "_law_kept", .glo "_law_greatest", .glo "law", .glo "NOUGHT", .glo "ONE", .free "abs", .free "enumerate", .free "int", .free "len", .free "max", .free "min", .free "range", .free "str", .free "tuple", .free "type", .free "zip"]
def bs : List (Str × String) := [("gcd", "math.gcd")]
def ex (K : PySem.W.Frag) : Bool := bltB K bs && He.tupB K "NOUGHT" [.int 0, .int 1] && He.tupB K "ONE" [.int 1, .int 1]
abbrev R : PySem.W.OpenRow := PySem.W.OpenLaw.row PySem.Challenge.rw_paymill_k44_whole_nobody_gives_back
abbrev hk : PySem.W.Hook := hookX 4 fa fn ex
def ob (s : PySem.W.SharedT) : AlG := obsX 4 fa fn ex (HandSHeadRun.getT s)
theorem ob_eq (s : PySem.W.SharedT) : ob s = hk.obs s.abs := obsX_eq (HandSHeadRun.getT_eq s)
def loose : List Str := (["__name__", "NOUGHT", "ONE", "PayError", "NoAmount", "NoPart", "is_whole", "is_part", "part", "plus", "less", "times", "is_less", "floor", "least", "payments", "_kept_of", "_law_store", "_law_draw", "_law_part", "_law_sum", "_law_rest", "_law_fold", "_law_under", "_law_small", "_law_amount", "_law_share", "_law_totals", "_law_rows", "_law_kept"] : List Str) ++ (["_law_greatest"] : List Str)
theorem run (w : World) : HandSHeadRun.RunEqI R (PySem.W.view R.prog [0, 35]) hk ob 20000 loose w := by
  unfold HandSHeadRun.RunEqI
  kernel_rfl
end DL

set_option Elab.async false
set_option linter.all false
set_option maxRecDepth 100000
set_option maxHeartbeats 4000000
/-! DM1: enumerate of a tuple; how many of a list are alike -/
namespace DL
open PySem PySem.Spec PyProof.Rows L2 Sem
set_option maxHeartbeats 1000000 in
theorem meets_enum1 {v : Value} {o : Obj} {H : Heap → Prop} (B : Begins v o H) :
    PySem.Meets (Builtin.«enumerate.__new__» ⟨[.type "enumerate", v], []⟩) (fun _ R s => H s.heap ∧
      R (.ok (.ret (.ref (s.heap.push o).objs.size))) { s with heap := (s.heap.push o).push { cls := .type "enumerate", data := .fields #[.none, .bool false, .ref s.heap.objs.size, rawInt 0, .none, .none] } }) :=
  .of_wp fun prog w A R s h => by
    obtain ⟨hp, g, d, tk, os⟩ := s; obtain ⟨h1, h⟩ := h
    have hsub := sub_enumerate
    have q1 : ∀ {A' : Around} {E : Value → Shared → Prop} {Q : Value → Shared → Prop}, Q (.ref hp.objs.size) ⟨hp.push o, g, d, tk, os⟩ → wpAny (model prog w) A' (pyIter v) Q E ⟨hp, g, d, tk, os⟩ :=
      fun q => B.iter prog w _ _ ⟨hp, g, d, tk, os⟩ _ h1 q
    wp_walk using q1
    refine wpAny_stack_any fun st => wpAny_pure ?_
    split
    · rename_i c _ _ _ _ _
      cases (c == Value.type "enumerate")
      · wp_walk using q1
        exact ⟨_, rfl, h⟩
      · wp_walk using q1
        exact ⟨_, rfl, h⟩
    · wp_walk using q1
      exact ⟨_, rfl, h⟩
section
variable {prog : Program} {w : World} {A : Around} {E : Value → Shared → Prop} {s : Shared}
theorem enum_begins1 {v : Value} {o : Obj} {H : Heap → Prop} {Q : Value → Shared → Prop} (B : Begins v o H) (h1 : H s.heap)
    (h : ∀ h', IsEnum h' (s.heap.objs.size + 1) s.heap.objs.size 0 .none → h'.get? s.heap.objs.size = some o → h'.objs.size = s.heap.objs.size + 2 →
      (∀ b o, s.heap.get? b = some o → h'.get? b = some o) → Q (.ref (s.heap.objs.size + 1)) { s with heap := h' }) :
    wpAny (model prog w) A (call (.type "enumerate") [v]) Q E s := by
  refine callType_new F.called_enumerate (by decide) (F.typeCall_enumerate_1 _) (F.newCall_enumerate_1 _) (fun obj => F.args_object_init_2 obj _) F.entry_enumerate_new
    (meets_enum1 B) ⟨h1, ?_⟩
  have hz : (s.heap.push o).objs.size = s.heap.objs.size + 1 := Heap.size_push ..
  show _ ∧ _
  rw [hz]
  have he : IsEnum ((s.heap.push o).push { cls := .type "enumerate", data := .fields #[.none, .bool false, .ref s.heap.objs.size, rawInt 0, .none, .none] }) (s.heap.objs.size + 1) s.heap.objs.size 0 .none := by
    have := Heap.get?_push_size (s.heap.push o) (o := { cls := .type "enumerate", data := .fields #[.none, .bool false, .ref s.heap.objs.size, rawInt 0, .none, .none] }) rfl
    rw [hz] at this; exact this
  refine ⟨⟨_, he, rfl⟩, h _ he (Heap.get?_push_of_some _ (Heap.get?_push_size _ B.free)) (by rw [Heap.size_push, hz]) fun b o x => Heap.get?_push_of_some _ (Heap.get?_push_of_some _ x)⟩
end
/-- the tuple at a, each item in a new pair -/
def Iet (K : PySem.W.Frag) (a : Addr) : It :=
  ⟨fun i H => ∃ (xs : List V) (x : V), SqT K H a xs ∧ xs[i]? = some x, fun i H v H' => ∃ T x, v = .ref T ∧ H T = none ∧ H' = upd H T (.tup [.int (i : Nat), x]) ∧ ∀ xs, SqT K H a xs → xs[i]? = some x, fun i H => ∃ xs : List V, SqT K H a xs ∧ xs.length = i⟩
theorem turn_enumT {P : Program} {w : World} {K : PySem.W.Frag} {elts : List Expr} {kk : Nat} {tpos : Pos} (a e it : Addr) :
    Turn P w K (.Tuple elts kk tpos) (Iet K a) [e, it] e (fun i h => (∃ old, IsEnum h e it ((i : Nat) : Int) old) ∧ h.IsTupleIter it a i ∧ e ≠ it) where
  mem := by simp
  obj := fun i h st b hb => by
    obtain ⟨⟨old, he⟩, ⟨o, ho, hc, hd⟩, _⟩ := st
    have e' : b = e ∨ b = it := by simpa using hb
    rcases e' with z | z
    · rw [z]; exact ⟨_, he, fun v q => nomatch q⟩
    · rw [z]; exact ⟨o, ho, fun v q => by rw [hd] at q; cases q⟩
  keep := fun i h h' st k => let ⟨⟨old, he⟩, hi, hne⟩ := st; ⟨⟨old, k e (by simp) _ he⟩, hi.at fun o q => k it (by simp) o q, hne⟩
  item := by
    intro X hP hw hK hc i pins s σ H E I hf st hg
    subst hP hw hK
    obtain ⟨⟨old, he⟩, hit, hne⟩ := st
    obtain ⟨xs, x, hq, hx⟩ := hg
    obtain ⟨its, rv, p, hz⟩ := I.tuple hq
    obtain ⟨u, hu, ru⟩ := rv.get hx
    have p' : s.heap.IsTuple a its.toArray := p
    have hel : e < s.heap.objs.size := Heap.lt_size he
    have hil : it < s.heap.objs.size := by obtain ⟨_, q, _⟩ := hit; exact Heap.lt_size q
    have nai : a ≠ it := fun z => by
      obtain ⟨o1, e1, c1, _⟩ := hit
      obtain ⟨o2, e2, c2, _⟩ := id p'
      rw [z, e1] at e2; cases e2; rw [c1] at c2; exact absurd c2 (by decide)
    have nae : e ≠ a := fun z => by
      obtain ⟨o2, e2, c2, _⟩ := id p'
      rw [← z, he] at e2; cases e2; exact absurd (show Value.type "enumerate" = Value.type "tuple" from c2) (by decide)
    have hlt : i < its.toArray.size := by simpa using (List.getElem?_eq_some_iff.mp hu).1
    refine wpAny_pyNext_enum_itemC (Draws.tuple (A := X.A.in1) (I.ok.hd hc) it a nai its.toArray) he ⟨hit, p'⟩ hlt hne (by simp [nae, hne]) fun x' h' tk hx' ho hit' hT hsz hk => ?_
    have hx2 : x' = u := by
      have : its.toArray[i]? = some x' := hx'
      have e2 : its.toArray[i]? = some u := by simpa using hu
      rw [e2] at this; cases this; rfl
    subst hx2
    refine ⟨_, rfl, wpAny_letOwnedTupleGo_enum (s := { s with heap := h', toks := tk + 1 }) ho fun h'' he' sb => ?_⟩
    have hT2 : h''.get? s.heap.objs.size = some { cls := .type "tuple", data := .seq #[.int i tk, x'] } := (sb.2 _ (Nat.ne_of_gt hel)).trans hT
    have new : ObjOk X.prog X.w (upd H s.heap.objs.size (.tup [.int (i : Nat), x])) h'' s.heap.objs.size (.tup [.int (i : Nat), x]) :=
      ⟨by show 2 ≤ sizeLine; decide, [.int i tk, x'], .cons ⟨_, rfl⟩ (.cons ru .nil), ⟨_, hT2, rfl, _, rfl⟩⟩
    have I1 : Inv X pins σ (upd H s.heap.objs.size (.tup [.int (i : Nat), x])) { s with heap := h'', toks := tk + 1 } :=
      I.turnedNew (ch := [e, it]) (fun b ob hb q => (sb.2 b (fun z => hb (by simp [z]))).trans (hk b ob (fun z => hb (by simp [z])) (fun z => hb (by simp [z])) q)) hf (Nat.le_refl _) new
    refine ⟨.ref s.heap.objs.size, _, I1, rfl, ⟨_, x, rfl, I.hok.fresh (Nat.le_refl _), rfl, fun ys hy => by rw [I.tuple_inj hy hq]; exact hx⟩, ⟨⟨x', ?_⟩, hit'.1.at fun o q => (sb.2 it (Ne.symm hne)).trans q, hne⟩, fun b hb => ?_⟩
    · have e1 : ((i + 1 : Nat) : Int) = (i : Int) + 1 := by omega
      rw [e1]; exact he'
    · have hb' : b < s.heap.objs.size := by
        have e' : b = e ∨ b = it := by simpa using hb
        rcases e' with z | z
        · rw [z]; exact hel
        · rw [z]; exact hil
      rw [upd_ne (Nat.ne_of_lt hb')]
      exact (hf b hb).1
  done := by
    intro X hP hw hK hc i pins s σ H E I hf st hg
    subst hP hw hK
    obtain ⟨⟨old, he⟩, hit, hne⟩ := st
    obtain ⟨xs, hq, hx⟩ := hg
    obtain ⟨its, rv, p, hz⟩ := I.tuple hq
    have p' : s.heap.IsTuple a its.toArray := p
    obtain ⟨f0, f1, f2, f3, f4, f5⟩ := hf it (by simp)
    have hl := rv.length
    have nai : a ≠ it := fun z => by
      obtain ⟨o1, e1, c1, _⟩ := hit
      obtain ⟨o2, e2, c2, _⟩ := id p'
      rw [z, e1] at e2; cases e2; rw [c1] at c2; exact absurd c2 (by decide)
    have hit2 : s.heap.IsTupleIter it a its.toArray.size := by
      have e : its.toArray.size = i := by simp; omega
      rw [e]; exact hit
    exact wpAny_pyNext_enum_endD (Draws.tuple (A := X.A.in1) (I.ok.hd hc) it a nai its.toArray) he ⟨hit2, p'⟩ fun h' eb => ⟨rfl, I.turned (t' := s.toks) (fun b o hb q => eb b o hb q) f0 f1 f3 f4 f5⟩
  self := fun A i s Q E st h => let ⟨⟨_, he⟩, _⟩ := st; wpAny_pyIter_enum he h
def iEnumT (K : PySem.W.Frag) (ta : TA) : TI := fun σ H R => ta σ H fun vs H1 => ∃ a xs, vs = [.ref a] ∧ SqT K H1 a xs ∧ R (Iet K a) H1
theorem pi_enumT {X : Cx} {e : Expr} {ta : TA} {p pos tpos : Pos} {elts : List Expr} {kk : Nat} (hg : Gl X "enumerate") (hm : X.mg "enumerate" = none) (ha : PA X [e] ta) (hs : starEach [e] X.env = [(false, eval e X.env)] := by rfl) :
    PI X (.Tuple elts kk tpos) (.Call (.Name "enumerate" p) [e] [] pos) (iEnumT X.K ta) := by
  refine ⟨fun pins s σ H R I h => ?_⟩
  refine Call_ (ld_blt I hg hm boot_enumerate (PyProof.Rows.callWith_type1 (thn (ha.run pos pins s σ H _ I h) fun us s1 ⟨vs, H1, I1, r1, q1⟩ => ?_) hs rfl))
  obtain ⟨a, xs, ex, hq, q⟩ := q1
  subst ex
  cases r1 with
  | cons r rr =>
    cases rr
    cases r
    obtain ⟨its, rv, p', hz⟩ := I1.tuple hq
    refine enum_begins1 (begins_tuple a its.toArray) (show s1.heap.IsTuple a its.toArray from p') fun h' he hit hsz hk => wpAny_pyIter_enum he ?_
    have I2 : Inv X pins σ H1 { s1 with heap := h' } := I1.kept (t' := s1.toks) hk
    refine ⟨s1.heap.objs.size + 1, [s1.heap.objs.size + 1, s1.heap.objs.size], _, _, H1, rfl, I2, turn_enumT a (s1.heap.objs.size + 1) s1.heap.objs.size, ⟨⟨.none, he⟩, ⟨_, hit, rfl, rfl⟩, Nat.succ_ne_self _⟩, fun b hb => ?_, q⟩
    have e' : b = s1.heap.objs.size + 1 ∨ b = s1.heap.objs.size := by simpa using hb
    have hle : s1.heap.objs.size ≤ b := by
      rcases e' with z | z
      · rw [z]; exact Nat.le_add_right _ _
      · rw [z]; exact Nat.le_refl _
    exact I1.fpOk hle (I1.hok.fresh hle)
/-! ### how many are alike -/
def rCntF (K : PySem.W.Frag) : V → List V → Hp → VK → Prop := fun x xs H Q => ∃ (a : Addr) (ys : List V) (y : V), x = .ref a ∧ xs = [y] ∧ SqL K H a ys ∧ flatV y = true ∧ ys.all flatV = true ∧ Q (.int (ys.countP fun z => eqV z y : Nat)) H
theorem mt_countF {X : Cx} : MtR X "list.count" (rCntF X.K) := by
  intro pins s σ H x xs v us Q I rx rxs h
  obtain ⟨a, ys, y, rfl, rfl, hs, fy, fys, q⟩ := h
  cases rx
  cases rxs with
  | cons ry rt =>
    rename_i uy ut
    cases rt
    obtain ⟨its, rv, ⟨⟨cls, dd, data, sl⟩, n, ho, hc, hdn, hd⟩, hlen⟩ := I.list hs
    simp only at hc hd
    subst hc hd
    refine call_meets PySem.F.slot_list_count ⟨_, ho, rfl⟩ PySem.F.entry_list_count (PySem.F.args_list_count_2 _ _)
      (SeqAt.list_countAt a its.toArray n dd sl uy (eqU y)) ⟨ho, fun u' hu' => mem_eqAt ry fy rv fys u' (by simpa using hu'), ?_⟩
    have ec : ∀ {ys : List V} {its : List Value}, Vals ys its → ys.all flatV = true → its.countP (eqU y) = ys.countP fun z => eqV z y := by
      intro ys its rv f
      induction rv with
      | nil => rfl
      | cons r1 r2 ih =>
        simp only [List.all_cons, Bool.and_eq_true] at f
        rw [List.countP_cons, List.countP_cons, ih f.2, eqU_of r1 f.1]
    refine ⟨.int (ys.countP fun z => eqV z y : Nat), H, I.tok _, ⟨s.toks, ?_⟩, q⟩
    show Value.int ((its.toArray.toList.countP (eqU y) : Nat) : Int) s.toks = _
    rw [List.toList_toArray, ec rv fys]
/-! ### over data -/
section
variable {K : PySem.W.Frag} {S : Stt} {ρ : Rho} {Φ : PyData → Rho → Prop} {Ψ : PyData → Prop}
theorem src_enumT {a : Addr} {ds : List PyData} : Src K (Iet K a) [.dat (.ref a) (.tuple ds)] (ds.mapIdx fun k d => PyData.tuple [.int k, d]) := fun S H0 N0 Z N σ H ρ E => by
  obtain ⟨p, xs, e, _, hr, ha⟩ := Dq.tup_inv (E.hid _ List.mem_cons_self)
  cases e
  refine ⟨fun k d hd => ?_, xs, hr, by rw [ha.len]; simp⟩
  rw [List.getElem?_mapIdx] at hd
  obtain ⟨d0, hd0, rfl⟩ := Option.map_eq_some_iff.mp hd
  obtain ⟨y, hy, hyd⟩ := ha.get hd0
  refine ⟨⟨xs, y, hr, hy⟩, fun v H' ⟨T, x, e1, e2, e3, e4⟩ => ?_⟩
  subst e1; subst e3
  have ex : x = y := Option.some.inj ((e4 xs hr).symm.trans hy)
  subst ex
  have s := same_new e2 (.tup [.int (k : Nat), x])
  exact ⟨s, Dq.tup (fresh_av E.trk e2) upd_same (DqAll.cons (Dt.int _) (DqAll.cons (hyd.keep (Keep.of s)) DqAll.nil))⟩
theorem wi_enumT {ta : TA} {Θ : List PyData → Rho → Prop} (h : WA K S ta ρ fun xs ρ1 => ∃ ds, xs = [.tuple ds] ∧ Θ (ds.mapIdx fun k d => PyData.tuple [.int k, d]) ρ1) : WI K S (iEnumT K ta) ρ Θ := fun H0 N0 Z N σ H E R q =>
  h H0 N0 Z N σ H E _ fun vs xs ρ1 H1 ⟨ds, e, f⟩ E1 k1 d1 => by
    subst e
    cases d1 with
    | cons d1 d2 =>
      cases d2
      obtain ⟨p, xs, rfl, hw, hr, ha⟩ := Dq.tup_inv d1
      exact ⟨p, xs, rfl, hr, q _ _ _ ρ1 H1 f src_enumT no_own1 (E1.push d1) k1⟩
end
end DL

set_option Elab.async false
set_option linter.all false
set_option maxRecDepth 100000
set_option maxHeartbeats 4000000
/-! DLQ: rows, lists or tuples -/
namespace DL
open PySem PySem.Spec PyProof.Rows L2
abbrev tTru (K : PySem.W.Frag) (t : TE) : TT := fun σ H Q => t σ H fun x H1 => ∃ k, TruV K x H1 k ∧ Q k H1
def iRow (K : PySem.W.Frag) (t : TE) : TI := fun σ H R => iList K t σ H R ∨ iTup K t σ H R
theorem pi_row {X : Cx} {tg l : Expr} {t : TE} (h : PE X l t) : PI X tg l (iRow X.K t) := ⟨fun pins s σ H R I q => q.elim (fun q => (pi_list h).run pins s σ H R I q) fun q => (pi_tup h).run pins s σ H R I q⟩
def rIxR (K : PySem.W.Frag) : R2 := fun x y H Q => rIxL K x y H Q ∨ rIxT K x y H Q
theorem ix_row {X : Cx} : IxR X (rIxR X.K) := fun value slice pins s σ H x y v u Q I rx ry q e => q.elim (fun q => ix_list value slice pins s σ H x y v u Q I rx ry q e) fun q => ix_tup value slice pins s σ H x y v u Q I rx ry q e
section
variable {K : PySem.W.Frag} {S : Stt} {ρ : Rho} {Φ : Bool → Rho → Prop} {Ψ : PyData → Prop}
/-- the truth of a row -/
theorem wt_tru {ta : TE} (h : WD K S ta ρ fun d ρ1 => ∃ ds, (d = .list ds ∨ d = .tuple ds) ∧ Φ (!ds.isEmpty) ρ1) : WT K S (tTru K ta) ρ Φ := fun H0 N0 Z N σ H E Q q =>
  h H0 N0 Z N σ H E _ fun v d ρ1 H1 ⟨ds, e, f⟩ E1 k1 d1 => by
    rcases e with rfl | rfl
    · obtain ⟨p, xs, rfl, _, h3, h4⟩ := Dq.lst_inv d1
      refine ⟨!xs.isEmpty, .inl ⟨xs, .inl h3, rfl⟩, ?_⟩
      have e : xs.isEmpty = ds.isEmpty := by
        have := h4.len
        cases xs <;> cases ds <;> simp_all
      rw [e]
      exact q _ ρ1 H1 f E1 k1
    · obtain ⟨p, xs, rfl, _, h3, h4⟩ := Dq.tup_inv d1
      refine ⟨!xs.isEmpty, .inr (.inl ⟨xs, h3, rfl⟩), ?_⟩
      have e : xs.isEmpty = ds.isEmpty := by
        have := h4.len
        cases xs <;> cases ds <;> simp_all
      rw [e]
      exact q _ ρ1 H1 f E1 k1
theorem do_ixRL {ds : List PyData} {i : Int} {d : PyData} (e : atI ds i = some d) (h : Ψ d) : DO K (rIxR K) (.list ds) (.int i) Ψ := fun N H hN u w hu hw Q q => .inl (do_ixL e h N H hN u w hu hw Q q)
theorem do_ixRT {ds : List PyData} {i : Int} {d : PyData} (e : atI ds i = some d) (h : Ψ d) : DO K (rIxR K) (.tuple ds) (.int i) Ψ := fun N H hN u w hu hw Q q => .inr (do_ixT e h N H hN u w hu hw Q q)
theorem wi_rowL {t : TE} {Θ : List PyData → Rho → Prop} (h : WI K S (iList K t) ρ Θ) : WI K S (iRow K t) ρ Θ := fun H0 N0 Z N σ H E R q => .inl (h H0 N0 Z N σ H E R q)
theorem wi_rowT {t : TE} {Θ : List PyData → Rho → Prop} (h : WI K S (iTup K t) ρ Θ) : WI K S (iRow K t) ρ Θ := fun H0 N0 Z N σ H E R q => .inr (h H0 N0 Z N σ H E R q)
/-- list(row), tuple(row) -/
abbrev rListOf (K : PySem.W.Frag) : List V → Hp → VK → Prop := fun xs H Q => ∃ p ys, xs = [.ref p] ∧ (SqL K H p ys ∨ SqT K H p ys) ∧ ∀ l, H l = none → Q (.ref l) (upd H l (.lst ys))
abbrev rTupOf (K : PySem.W.Frag) : List V → Hp → VK → Prop := fun xs H Q => ∃ p ys, xs = [.ref p] ∧ ((SqL K H p ys ∧ ∀ l, H l = none → Q (.ref l) (upd H l (.tup ys))) ∨ (SqT K H p ys ∧ Q (.ref p) H))
theorem dc_listL {ds : List PyData} (h : Ψ (.list ds)) : DC K (rListOf K) [.list ds] Ψ := fun N H hN us hu Q q => by
  cases hu with
  | cons h1 h2 =>
    cases h2
    obtain ⟨p, xs, rfl, _, h3, h4⟩ := Dq.lst_inv h1
    refine ⟨p, xs, rfl, .inl (.inl h3), fun z hz => ?_⟩
    have s := same_new hz (.lst xs)
    exact q _ _ _ h s (Dq.lst (fresh_av hN hz) upd_same (h4.keep (Keep.of s)))
theorem dc_tupL {ds : List PyData} (h : Ψ (.tuple ds)) : DC K (rTupOf K) [.list ds] Ψ := fun N H hN us hu Q q => by
  cases hu with
  | cons h1 h2 =>
    cases h2
    obtain ⟨p, xs, rfl, _, h3, h4⟩ := Dq.lst_inv h1
    refine ⟨p, xs, rfl, .inl ⟨.inl h3, fun z hz => ?_⟩⟩
    have s := same_new hz (.tup xs)
    exact q _ _ _ h s (Dq.tup (fresh_av hN hz) upd_same (h4.keep (Keep.of s)))
end
end DL

set_option Elab.async false
set_option linter.all false
set_option maxRecDepth 100000
set_option maxHeartbeats 4000000
/-! DLO: a list of one's own, read and popped; sums of parts -/
namespace DL
open PySem PySem.Spec PyProof.Rows L2
theorem dtall_erase {K : PySem.W.Frag} {H : Hp} : ∀ {xs : List V} {ds : List PyData} (k : Nat), DtAll K H xs ds → DtAll K H (xs.eraseIdx k) (ds.eraseIdx k)
  | _, _, _, .nil => .nil
  | _, _, 0, .cons _ h2 => h2
  | _, _, k + 1, .cons h1 h2 => .cons h1 (dtall_erase k h2)
section
variable {K : PySem.W.Frag} {S : Stt} {ρ : Rho} {Φ : PyData → Rho → Prop} {Ψ : PyData → Prop}
theorem wd_len_own {i : Nat} {ds : List PyData} (h : ρ[i]? = some (.own ds)) (f : Φ (.int ds.length) ρ) : WD K S (tCB (rLenX K) (tCons (tVar i) tNil)) ρ Φ := fun H0 N0 Z N σ H E Q q => by
  obtain ⟨p, xs, g1, g2, g3, g4, g5, g6, g7⟩ := E.slot i _ h
  exact ⟨_, g1, p, xs, rfl, .inl (.inl (.inl g6)), q _ _ ρ H (by rw [g7.len]; exact f) E Keep.refl (Dt.int _)⟩
theorem wd_ix_own {i : Nat} {te : TE} {es : List PyData} (h0 : ρ[i]? = some (.own es)) (h : WD K S te ρ fun y ρ1 => ∃ ds z e, y = .int z ∧ ρ1[i]? = some (.own ds) ∧ atI ds z = some e ∧ Φ e ρ1) : WD K S (tOp (rIxL K) (tVar i) te) ρ Φ := fun H0 N0 Z N σ H E Q q => by
  obtain ⟨p, xs, g1, _⟩ := E.slot i _ h0
  refine ⟨_, g1, h H0 N0 Z N σ H E _ fun w y ρ1 H1 ⟨ds, z, e, ey, f1, f2, f3⟩ E1 k1 d1 => ?_⟩
  subst ey
  obtain ⟨p', xs', e1, e2, e3, e4, e5, e6, e7⟩ := E1.slot i _ f1
  rw [g1] at e1; cases e1
  cases d1
  obtain ⟨v, a1, a2⟩ := at_dq e7 f2
  exact ⟨p, xs', z, v, rfl, rfl, .inl (.inl e6), a1, q v e ρ1 H1 f3 E1 k1 a2⟩
theorem wd_ne_own {i : Nat} {ds : List PyData} (h : ρ[i]? = some (.own ds)) (sh : SeqAt.shaped (.list ds) = true) (f : Φ (.bool (!ds.isEmpty)) ρ) : WD K S (tOp (rNeD K) (tVar i) (tLst tNil)) ρ Φ := fun H0 N0 Z N σ H E Q q => by
  obtain ⟨p, xs, g1, g2, g3, g4, g5, g6, g7⟩ := E.slot i _ h
  refine ⟨_, g1, by show 0 ≤ sizeLine; decide, fun r hr => ?_⟩
  have s := same_new hr (.lst [])
  have e : PyData.eqv (.list ds) (.list []) = ds.isEmpty := by cases ds <;> rfl
  have e2 : (!ds.isEmpty) = !PyData.eqv (.list ds) (.list []) := by rw [e]
  have all : DtAll K H xs ds := dpall_mono Same.wo1 _ _ g7
  have d1 : Dt K (upd H r (.lst [])) (.ref p) (.list ds) := dp_mono s _ _ (Dt.lst (.inl g6) all)
  have d2 : Dt K (upd H r (.lst [])) (.ref r) (.list []) := Dt.lst (.inl upd_same) .nil
  refine ⟨.list ds, .list [], dt_dp _ _ (shaped_nd sh) d1, dt_dp _ _ rfl d2, sh, by decide, ?_⟩
  rw [← e2]
  exact q _ _ ρ _ f (E.ext s) (Keep.of s) (Dt.bl _)
theorem ws_own_list {te : TE} {i : Nat} {En : DE} (h : WD K S te ρ fun d ρ1 => ∃ ds, d = .list ds ∧ En.nx (ρ1.set i (.own ds))) : WS K S (tAsg (tCB (rListOf K) (tCons te tNil)) (gName i)) ρ En := fun H0 N0 Z N σ H D E M =>
  h H0 N0 Z N σ H E _ fun v d ρ1 H1 ⟨ds, e, f⟩ E1 k1 d1 => by
    subst e
    obtain ⟨p, xs, rfl, _, h3, h4⟩ := Dq.lst_inv d1
    refine ⟨p, xs, rfl, .inl (.inl h3), fun r hr => ?_⟩
    obtain ⟨z1, z2⟩ := free0 E1 hr
    exact M.nx _ _ _ _ f (E1.new hr z1 z2 h4)
theorem wd_pop_own {i : Nat} {te : TE} {es : List PyData} (h0 : ρ[i]? = some (.own es)) (h : WD K S te ρ fun y ρ1 => ∃ (ds : List PyData) (k : Nat) (e : PyData), y = .int k ∧ ρ1[i]? = some (.own ds) ∧ (k : Int) < 2 ^ 62 ∧ ds[k]? = some e ∧ Φ e (ρ1.set i (.own (ds.eraseIdx k)))) :
    WD K S (tBM K "list" rPopAt (tVar i) (tCons te tNil)) ρ Φ := fun H0 N0 Z N σ H E Q q => by
  obtain ⟨p, xs, g1, _, _, _, _, g6, _⟩ := E.slot i _ h0
  refine ⟨.ref p, g1, .inl ⟨rfl, _, .inl (.inl g6)⟩, h H0 N0 Z N σ H E _ fun w y ρ1 H1 ⟨ds, k, e, ey, f1, f2, f3, f4⟩ E1 k1 d1 => ?_⟩
  subst ey
  obtain ⟨p', xs', e1, e2, e3, e4, e5, e6, e7⟩ := E1.slot i _ f1
  rw [g1] at e1; cases e1
  cases d1
  obtain ⟨v, a1, a2⟩ := e7.get f3
  have lk : k < xs'.length := (List.getElem?_eq_some_iff.mp a1).1
  have er : DqAll K N H1 (xs'.eraseIdx k) (ds.eraseIdx k) := dtall_erase k e7
  have E2 := E1.chg (xs := xs') f1 g1 er
  refine ⟨p, xs', k, k, v, rfl, rfl, e6, by omega, by omega, ?_, a1, ?_⟩
  · unfold seqIndex?
    rw [if_neg (show ¬ ((k : Int) < 0) by omega)]
    simp [lk]
  · refine q v e _ _ f4 E2 (k1.trans fun b o n hb => ?_) (a2.keep fun b o n hb => ?_)
    all_goals
      rw [upd_ne fun z => by rw [z, e2] at n; cases n]
      exact hb
end
end DL

set_option Elab.async false
set_option linter.all false
set_option maxRecDepth 100000
set_option maxHeartbeats 4000000
/-! DM2: a pot of draws, made anew at each turn -/
namespace DL
open PySem PySem.Spec PyProof.Rows L2
structure PotL (ns : List Int) (B : Nat) : Prop where
  ex : ∃ a b c : Int, ns = [a, b, c] ∧ 0 ≤ a ∧ 0 ≤ b ∧ b < 2 ^ 62 ∧ 0 ≤ c ∧ c ≤ B
theorem PotL.mono {ns : List Int} {B B' : Nat} (h : PotL ns B) (k : B ≤ B') : PotL ns B' := by
  obtain ⟨a, b, c, e, h1, h2, h3, h4, h5⟩ := h.ex
  exact ⟨a, b, c, e, h1, h2, h3, h4, by omega⟩
def mkP (a : Addr) : Stt where
  a := a
  fp b := decide (b = a)
  ok H B := ∃ ns, PotL ns B ∧ H a = some (.lst (ns.map V.int))
  loc H H' B h k := by
    obtain ⟨ns, h1, h2⟩ := k
    exact ⟨ns, h1, (h a (by simp)).trans h2⟩
  trk H B k b hb := by
    obtain ⟨ns, h1, h2⟩ := k
    have e : b = a := of_decide_eq_true hb
    rw [e, h2]; simp
def FPot (S : Stt) : Prop := ∃ a, S = mkP a
/-- a new list of whole numbers -/
def spN (K : PySem.W.Frag) (T : List PyData → (List Int → Prop) → Prop) : Sp := fun vs H Q _ => ∃ (N : Av) (ds : List PyData) (Φ : List Int → Prop),
  (∀ b, N b = true → H b ≠ none) ∧ DqAll K N H vs ds ∧ T ds Φ ∧ ∀ ns, Φ ns → ∀ p H', H p = none → Same H H' → H' p = some (.lst (ns.map V.int)) → Q (.ref p) H'
section
variable {K : PySem.W.Frag} {S : Stt} {ρ : Rho} {Φ : PyData → Rho → Prop} {Ψ : PyData → Prop}
theorem ws_callN1 {T : List PyData → (List Int → Prop) → Prop} {E : XK} {ta : TA} {i : Nat} {En : DE} (h : WA K S ta ρ fun xs ρ1 => T xs fun ns => En.nx (ρ1.set i (.own (ns.map PyData.int)))) :
    WS K S (tAsg (tCall (spN K T) [] E ta) (gName i)) ρ En := fun H0 N0 Z N σ H D E' M =>
  h H0 N0 Z N σ H E' _ fun vs xs ρ1 H1 f E1 k1 d1 => by
    refine ⟨N, xs, _, E1.trk, by rw [List.append_nil]; exact d1, f, fun ns hns p H' hp sm hp' => ?_⟩
    obtain ⟨z1, z2⟩ := free0 E1 hp
    have s1 : Same H1 (fun b => if b = p then none else H' b) := fun b o hb => by
      have : b ≠ p := fun z => by rw [z, hp] at hb; cases hb
      show (if b = p then none else H' b) = some o
      rw [if_neg this]; exact sm b o hb
    have e : upd (fun b => if b = p then none else H' b) p (.lst (ns.map V.int)) = H' := by
      funext b
      by_cases z : b = p
      · subst z; rw [upd_same, hp']
      · rw [upd_ne z, if_neg z]
    have E2 := (E1.ext s1).new (i := i) (p := p) (xs := ns.map V.int) (ds := ns.map PyData.int) (if_pos rfl) z1 z2 DqAll.ints
    rw [e] at E2
    exact M.nx _ _ _ _ hns E2
/-- a call on a pot of one's own -/
theorem wd_callO {T : Nat → List PyData → (PyData → Nat → Prop) → Prop} {E : XK} {ta : TA} {i : Nat} {es : List PyData} (hi : ρ[i]? = some (.own es))
    (h : WA K S ta ρ fun xs ρ1 => ∃ ns B, ρ1[i]? = some (.own (ns.map PyData.int)) ∧ PotL ns B ∧ T B xs fun d B' => ∀ ns', PotL ns' B' → Φ d (ρ1.set i (.own (ns'.map PyData.int)))) :
    WD K S (tCall (spS K FPot T) [] E (tCons (tVar i) ta)) ρ Φ := fun H0 N0 Z N σ H E' Q q => by
  obtain ⟨p, _, hs, _⟩ := E'.slot i _ hi
  refine ⟨_, hs, h H0 N0 Z N σ H E' _ fun vs xs ρ1 H1 ⟨ns, B, e, pl, f⟩ E1 k1 d1 => ?_⟩
  obtain ⟨p', xs', g1, g2, g3, g4, g5, g6, g7⟩ := E1.slot i _ e
  rw [hs] at g1; cases g1
  obtain rfl := g7.of_ints
  have hle : Le (mkP p).fp N := fun b hb => by
    have : b = p := of_decide_eq_true hb
    rw [this]; exact g2
  refine ⟨mkP p, N, vs, xs, B, _, by simp; rfl, ⟨p, rfl⟩, ⟨ns, pl, g6⟩, hle, E1.trk, d1, f, fun d B' fd v H2 fr ok2 dv => ?_⟩
  obtain ⟨ns', pl', hp'⟩ := ok2
  have s2 : Same (upd H1 p (.lst (ns'.map V.int))) H2 := fun b o hb => by
    by_cases z : b = p
    · subst z; rw [upd_same] at hb; cases hb; exact hp'
    · rw [upd_ne z] at hb; exact fr b o (decide_eq_false z) hb
  have E2 := (E1.chg (xs := ns.map V.int) (ys := ns'.map V.int) (es := ns'.map PyData.int) e hs DqAll.ints).ext s2
  refine q v d _ H2 (fd ns' pl') E2 (k1.trans fun b o n hb => ?_) dv
  exact fr b o (decide_eq_false fun z => by rw [z, g2] at n; cases n) hb
end
/-! ### the draw -/
def TTake : Nat → List PyData → (PyData → Nat → Prop) → Prop := fun B ds Φ => ∃ m : Int, ds = [.int m] ∧ 1 ≤ m ∧ m ≤ 2 ^ 40 ∧ B ≤ 2 ^ 40 ∧ ∀ d : Int, 0 ≤ d → d < m → Φ (.int d) (B + 1)
def t_take (K : PySem.W.Frag) : TS :=
  (tSeq (tIfS (tTest (tOp rGe (tOp (rIxL K) (tVar 0) (tC (.int 0))) (tVar 1))) (tSeq (tAsg (tOp rModI (tOp (rIxL K) (tVar 0) (tC (.int 0))) (tVar 1)) (gName 2))
    (tSeq (tAsg (tOp rDivI (tOp (rIxL K) (tVar 0) (tC (.int 0))) (tVar 1)) (gSub (tVar 0) (tC (.int 0)) rSetL))
    (tRet (tVar 2)))) tNext)
    (tSeq (tAsg (tOp rAddI (tOp (rIxL K) (tVar 0) (tC (.int 2))) (tC (.int 1))) (gSub (tVar 0) (tC (.int 2)) rSetL))
    (tSeq (tAsg (tLst (tCons (tC (.int 2147483647)) (tCons (tC (.int 2147483629)) (tCons (tC (.int 2147483587)) (tCons (tC (.int 2147483579)) tNil))))) (gName 3))
    (tSeq (tAsg (tOp rCatL (tVar 3) (tLst (tCons (tC (.int 2147483563)) (tCons (tC (.int 2147483549)) (tCons (tC (.int 2147483543)) (tCons (tC (.int 2147483497)) tNil)))))) (gName 3))
    (tSeq (tAsg (tOp (rIxL K) (tVar 3) (tOp rModI (tOp (rIxL K) (tVar 0) (tC (.int 2))) (tC (.int 8)))) (gName 4))
    (tSeq (tAsg (tOp rModI (tOp rPowI (tOp rAddI (tOp rModI (tOp (rIxL K) (tVar 0) (tC (.int 1))) (tVar 4)) (tOp rMulI (tC (.int 104729)) (tOp (rIxL K) (tVar 0) (tC (.int 2))))) (tC (.int 3))) (tVar 4)) (gName 5))
    (tSeq (tAsg (tOp rAddI (tOp rAddI (tOp rAddI (tOp rMulI (tVar 5) (tVar 5)) (tOp rMulI (tOp rMulI (tC (.int 31)) (tOp (rIxL K) (tVar 0) (tC (.int 2)))) (tVar 5))) (tOp rModI (tOp (rIxL K) (tVar 0) (tC (.int 1))) (tC (.int 1000003)))) (tC (.int 7))) (gName 6))
    (tSeq (tAsg (tOp rModI (tVar 6) (tOp (rIxL K) (tVar 3) (tOp rModI (tOp rAddI (tOp (rIxL K) (tVar 0) (tC (.int 2))) (tC (.int 3))) (tC (.int 8))))) (gName 6))
    (tRet (tOp rModI (tOp rDivI (tOp rModI (tOp rPowI (tVar 6) (tC (.int 3))) (tOp (rIxL K) (tVar 3) (tOp rModI (tOp rAddI (tOp (rIxL K) (tVar 0) (tC (.int 2))) (tC (.int 5))) (tC (.int 8))))) (tC (.int 64))) (tVar 1)))))))))))
theorem take_run {K : PySem.W.Frag} {vs : List V} {H : Hp} {Q : VK} {E : XK} (h : spS K FPot TTake vs H Q E) :
    t_take K { nx := fun _ H' => Q .non H', rt := Q } (L2.start ["pot", "many", "digit", "primes", "prime", "one", "two"] vs) H := by
  obtain ⟨S, N, us, ds, B, Φ, rfl, ⟨a, rfl⟩, hok, hle, ht, hd, ⟨m, rfl, m1, mM, hB, hT⟩, hQ⟩ := h
  obtain ⟨ns, pl, ha⟩ := hok
  obtain ⟨p0, p1, p2, rfl, h0, h1, h2, h3, h4⟩ := pl.ex
  cases hd with
  | cons hd1 hd2 =>
  cases hd2
  cases hd1
  have ha' : H a = some (.lst [V.int p0, .int p1, .int p2]) := ha
  have fin : ∀ (d : Int) (H' : Hp) (q0 q2 : Int), 0 ≤ d → d < m → H' a = some (.lst [V.int q0, .int p1, .int q2]) → (∀ b o, b ≠ a → H b = some o → H' b = some o) → 0 ≤ q0 → 0 ≤ q2 → q2 ≤ B + 1 → Q (.int d) H' := by
    intro d H' q0 q2 d0 d1 e fr z0 z2 z3
    refine hQ _ _ (hT d d0 d1) _ H' (fun b o hb hy => fr b o (of_decide_eq_false hb) hy) ⟨[q0, p1, q2], ⟨q0, p1, q2, rfl, z0, h1, h2, z2, by omega⟩, e⟩ (Dt.int _)
  have hm9 : m.natAbs.log2 < 9000 := by
    have := log2_small (m := m) (k := 41) (by omega) (by omega) (by decide)
    omega
  have r0 : ∀ {H' : Hp} {q0 q2 : Int} {Q' : VK}, H' a = some (.lst [V.int q0, .int p1, .int q2]) → Q' (.int q0) H' → rIxL K (.ref a) (.int 0) H' Q' := fun e q => ⟨a, _, 0, _, rfl, rfl, .inl (.inl e), rfl, q⟩
  have r1 : ∀ {H' : Hp} {q0 q2 : Int} {Q' : VK}, H' a = some (.lst [V.int q0, .int p1, .int q2]) → Q' (.int p1) H' → rIxL K (.ref a) (.int 1) H' Q' := fun e q => ⟨a, _, 1, _, rfl, rfl, .inl (.inl e), rfl, q⟩
  have r2 : ∀ {H' : Hp} {q0 q2 : Int} {Q' : VK}, H' a = some (.lst [V.int q0, .int p1, .int q2]) → Q' (.int q2) H' → rIxL K (.ref a) (.int 2) H' Q' := fun e q => ⟨a, _, 2, _, rfl, rfl, .inl (.inl e), rfl, q⟩
  show t_take K { nx := fun _ H' => Q .non H', rt := Q } [some (.ref a), some (.int m), none, none, none, none, none] H
  refine ⟨_, rfl, ?_⟩
  dsimp only [tC]
  refine r0 ha' ?_
  refine ⟨_, rfl, p0, m, rfl, rfl, _, rfl, ?_⟩
  by_cases hlt : m ≤ p0
  · show (if decide (m ≤ p0) = true then _ else _)
    rw [if_pos (decide_eq_true hlt)]
    refine ⟨_, rfl, ?_⟩
    dsimp only [tC]
    refine r0 ha' ?_
    refine ⟨_, rfl, p0, m, rfl, rfl, by omega, ?_⟩
    refine ⟨_, rfl, ?_⟩
    dsimp only [tC]
    refine r0 ha' ?_
    refine ⟨_, rfl, p0, m, rfl, rfl, ⟨by omega, hm9⟩, ?_⟩
    refine ⟨_, rfl, a, _, 0, 0, rfl, rfl, ha', rfl, ?_⟩
    obtain ⟨z1, z2⟩ := fmod_nn (i := p0) (j := m) (by omega)
    refine ⟨_, rfl, fin _ _ (p0.fdiv m) p2 z1 z2 upd_same (fun b o nb hb => by rw [upd_ne nb]; exact hb) (fdiv_nn h0 (by omega)) h3 (by omega)⟩
  · show (if decide (m ≤ p0) = true then _ else _)
    rw [if_neg (fun z => hlt (of_decide_eq_true z))]
    show tNext _ _ _
    -- pot[2] = pot[2] + 1
    refine ⟨_, rfl, ?_⟩
    dsimp only [tC]
    refine r2 ha' ?_
    refine ⟨p2, 1, rfl, rfl, ?_⟩
    refine ⟨_, rfl, a, _, 2, 2, rfl, rfl, ha', rfl, ?_⟩
    have h1a : (upd H a (.lst ([V.int p0, .int p1, .int p2].set 2 (.int (p2 + 1))))) a = some (.lst [V.int p0, .int p1, .int (p2 + 1)]) := upd_same
    have f1 : ∀ b o, b ≠ a → H b = some o → (upd H a (.lst ([V.int p0, .int p1, .int p2].set 2 (.int (p2 + 1))))) b = some o := fun b o nb hb => by rw [upd_ne nb]; exact hb
    generalize upd H a (.lst ([V.int p0, .int p1, .int p2].set 2 (.int (p2 + 1)))) = H1 at h1a f1 ⊢
    -- primes
    refine ⟨by show 4 ≤ sizeLine; decide, fun b1 hb1 => ?_⟩
    have e2 := same_new hb1 (.lst [V.int 2147483647, .int 2147483629, .int 2147483587, .int 2147483579])
    have hL1 : (upd H1 b1 (.lst [V.int 2147483647, .int 2147483629, .int 2147483587, .int 2147483579])) b1 = some (.lst [V.int 2147483647, .int 2147483629, .int 2147483587, .int 2147483579]) := upd_same
    have h2a := e2 _ _ h1a
    have f2 : ∀ b o, b ≠ a → H b = some o → (upd H1 b1 (.lst [V.int 2147483647, .int 2147483629, .int 2147483587, .int 2147483579])) b = some o := fun b o nb hb => e2 _ _ (f1 b o nb hb)
    generalize upd H1 b1 (.lst [V.int 2147483647, .int 2147483629, .int 2147483587, .int 2147483579]) = H2 at hL1 h2a f2 ⊢
    refine ⟨_, rfl, by show 4 ≤ sizeLine; decide, fun b2 hb2 => ?_⟩
    have e3 := same_new hb2 (.lst [V.int 2147483563, .int 2147483549, .int 2147483543, .int 2147483497])
    have hL2 : (upd H2 b2 (.lst [V.int 2147483563, .int 2147483549, .int 2147483543, .int 2147483497])) b2 = some (.lst [V.int 2147483563, .int 2147483549, .int 2147483543, .int 2147483497]) := upd_same
    have h3a := e3 _ _ h2a
    have hL1' := e3 _ _ hL1
    have f3 : ∀ b o, b ≠ a → H b = some o → (upd H2 b2 (.lst [V.int 2147483563, .int 2147483549, .int 2147483543, .int 2147483497])) b = some o := fun b o nb hb => e3 _ _ (f2 b o nb hb)
    generalize upd H2 b2 (.lst [V.int 2147483563, .int 2147483549, .int 2147483543, .int 2147483497]) = H3 at hL1' hL2 h3a f3 ⊢
    refine ⟨b1, b2, _, _, rfl, rfl, .inl hL1', .inl hL2, by show 8 ≤ sizeLine; decide, fun b3 hb3 => ?_⟩
    have e4 := same_new hb3 (.lst ([V.int 2147483647, .int 2147483629, .int 2147483587, .int 2147483579] ++ [V.int 2147483563, .int 2147483549, .int 2147483543, .int 2147483497]))
    have hL : (upd H3 b3 (.lst ([V.int 2147483647, .int 2147483629, .int 2147483587, .int 2147483579] ++ [V.int 2147483563, .int 2147483549, .int 2147483543, .int 2147483497]))) b3 = some (.lst [V.int 2147483647, .int 2147483629, .int 2147483587, .int 2147483579, .int 2147483563, .int 2147483549, .int 2147483543, .int 2147483497]) := upd_same
    have h4a := e4 _ _ h3a
    have f4 : ∀ b o, b ≠ a → H b = some o → (upd H3 b3 (.lst ([V.int 2147483647, .int 2147483629, .int 2147483587, .int 2147483579] ++ [V.int 2147483563, .int 2147483549, .int 2147483543, .int 2147483497]))) b = some o := fun b o nb hb => e4 _ _ (f3 b o nb hb)
    generalize upd H3 b3 (.lst ([V.int 2147483647, .int 2147483629, .int 2147483587, .int 2147483579] ++ [V.int 2147483563, .int 2147483549, .int 2147483543, .int 2147483497])) = H4 at hL h4a f4 ⊢
    have prime : ∀ (t : Int) (Q' : VK), (∀ pr : Int, 2000000000 < pr → pr < 2 ^ 31 → Q' (.int pr) H4) → rIxL K (.ref b3) (.int (t.fmod 8)) H4 Q' := fun t Q' k => by
      obtain ⟨b1, b2⟩ := fmod_nn (i := t) (j := 8) (by decide)
      have hc : t.fmod 8 = 0 ∨ t.fmod 8 = 1 ∨ t.fmod 8 = 2 ∨ t.fmod 8 = 3 ∨ t.fmod 8 = 4 ∨ t.fmod 8 = 5 ∨ t.fmod 8 = 6 ∨ t.fmod 8 = 7 := by omega
      rcases hc with e | e | e | e | e | e | e | e <;> rw [e]
      · exact ⟨b3, _, 0, _, rfl, rfl, .inl (.inl hL), rfl, k _ (by decide) (by decide)⟩
      · exact ⟨b3, _, 1, _, rfl, rfl, .inl (.inl hL), rfl, k _ (by decide) (by decide)⟩
      · exact ⟨b3, _, 2, _, rfl, rfl, .inl (.inl hL), rfl, k _ (by decide) (by decide)⟩
      · exact ⟨b3, _, 3, _, rfl, rfl, .inl (.inl hL), rfl, k _ (by decide) (by decide)⟩
      · exact ⟨b3, _, 4, _, rfl, rfl, .inl (.inl hL), rfl, k _ (by decide) (by decide)⟩
      · exact ⟨b3, _, 5, _, rfl, rfl, .inl (.inl hL), rfl, k _ (by decide) (by decide)⟩
      · exact ⟨b3, _, 6, _, rfl, rfl, .inl (.inl hL), rfl, k _ (by decide) (by decide)⟩
      · exact ⟨b3, _, 7, _, rfl, rfl, .inl (.inl hL), rfl, k _ (by decide) (by decide)⟩
    -- prime = primes[pot[2] % 8]
    refine ⟨_, rfl, _, rfl, ?_⟩
    dsimp only [tC]
    refine r2 h4a ?_
    refine ⟨p2 + 1, 8, rfl, rfl, (by show (8 : Int) ≠ 0; decide), ?_⟩
    refine prime _ _ fun pr q0 q1 => ?_
    -- one
    refine ⟨_, rfl, ?_⟩
    dsimp only [tC]
    refine r1 h4a ?_
    refine ⟨_, rfl, p1, pr, rfl, rfl, by omega, ?_⟩
    refine ⟨_, rfl, ?_⟩
    dsimp only [tC]
    refine r2 h4a ?_
    refine ⟨104729, p2 + 1, rfl, rfl, wide_mul (a := 20) (b := 64) (by decide) (by omega) (by decide) (by decide) (by decide), ?_⟩
    obtain ⟨w1, w2⟩ := fmod_nn (i := p1) (j := pr) (by omega)
    dsimp only
    generalize p1.fmod pr = u at w1 w2 ⊢
    refine ⟨u, _, rfl, rfl, _, 3, rfl, rfl, ⟨by decide, by decide, by omega⟩, _, rfl, _, pr, rfl, rfl, by omega, ?_⟩
    obtain ⟨o1, o2⟩ := fmod_nn (i := (u + 104729 * (p2 + 1)) ^ (3 : Int).toNat) (j := pr) (by omega)
    dsimp only
    generalize ((u + 104729 * (p2 + 1)) ^ (3 : Int).toNat).fmod pr = one at o1 o2 ⊢
    -- two
    refine ⟨_, rfl, _, rfl, one, one, rfl, rfl, wide_mul (a := 32) (b := 32) (by omega) (by omega) (by decide) (by decide) (by decide), ?_⟩
    refine ⟨_, rfl, ?_⟩
    dsimp only [tC]
    refine r2 h4a ?_
    refine ⟨31, p2 + 1, rfl, rfl, wide_mul (a := 20) (b := 64) (by decide) (by omega) (by decide) (by decide) (by decide), ?_⟩
    refine ⟨_, rfl, 31 * (p2 + 1), one, rfl, rfl, wide_mul (a := 64) (b := 32) (by omega) (by omega) (by decide) (by decide) (by decide), one * one, _, rfl, rfl, ?_⟩
    refine ⟨_, rfl, ?_⟩
    dsimp only [tC]
    refine r1 h4a ?_
    refine ⟨p1, 1000003, rfl, rfl, (by show (1000003 : Int) ≠ 0; decide), _, _, rfl, rfl, _, 7, rfl, rfl, ?_⟩
    dsimp only
    generalize one * one + 31 * (p2 + 1) * one + p1.fmod 1000003 + 7 = two
    -- two % ..
    refine ⟨_, rfl, _, rfl, _, rfl, ?_⟩
    dsimp only [tC]
    refine r2 h4a ?_
    refine ⟨p2 + 1, 3, rfl, rfl, p2 + 1 + 3, 8, rfl, rfl, (by show (8 : Int) ≠ 0; decide), ?_⟩
    refine prime _ _ fun pr2 q2 q3 => ?_
    refine ⟨two, pr2, rfl, rfl, by omega, ?_⟩
    obtain ⟨t1, t2⟩ := fmod_nn (i := two) (j := pr2) (by omega)
    dsimp only
    generalize two.fmod pr2 = tw at t1 t2 ⊢
    refine ⟨_, rfl, tw, 3, rfl, rfl, ⟨by decide, by decide, by omega⟩, _, rfl, _, rfl, ?_⟩
    dsimp only [tC]
    refine r2 h4a ?_
    refine ⟨p2 + 1, 5, rfl, rfl, p2 + 1 + 5, 8, rfl, rfl, (by show (8 : Int) ≠ 0; decide), ?_⟩
    refine prime _ _ fun pr3 q4 q5 => ?_
    refine ⟨_, pr3, rfl, rfl, by omega, ?_⟩
    dsimp only
    generalize (tw ^ (3 : Int).toNat).fmod pr3 = big
    refine ⟨big, 64, rfl, rfl, ⟨by decide, by decide⟩, _, rfl, _, m, rfl, rfl, by omega, ?_⟩
    obtain ⟨z1, z2⟩ := fmod_nn (i := big.fdiv 64) (j := m) (by omega)
    exact fin _ _ p0 (p2 + 1) z1 z2 h4a f4 h0 (by omega) (by omega)
end DL

set_option Elab.async false
set_option linter.all false
/-! LM1: parts as rationals, their sizes -/
namespace DL
/-- the height of a part -/
def hgt (q : Rat) : Nat := q.num.natAbs + q.den
theorem hgt_pos (q : Rat) : 0 < hgt q := by have := q.den_pos; unfold hgt; omega
/-- the bits of a part -/
def sz (q : Rat) : Nat := (hgt q).log2 + 1
theorem hgt_lt (q : Rat) : hgt q < 2 ^ sz q := by unfold sz; exact Nat.lt_log2_self
theorem num_lt {q : Rat} {k : Nat} (h : sz q ≤ k) : q.num.natAbs < 2 ^ k := by
  have h1 := hgt_lt q
  have h2 : (2 : Nat) ^ sz q ≤ 2 ^ k := Nat.pow_le_pow_right (by decide) h
  have := q.den_pos
  unfold hgt at h1; omega
theorem den_lt {q : Rat} {k : Nat} (h : sz q ≤ k) : q.den < 2 ^ k := by
  have h1 := hgt_lt q
  have h2 : (2 : Nat) ^ sz q ≤ 2 ^ k := Nat.pow_le_pow_right (by decide) h
  unfold hgt at h1; omega
theorem sz_of {q : Rat} {k : Nat} (h : hgt q < 2 ^ k) (hk : 0 < k) : sz q ≤ k := by
  have := hgt_pos q
  have h2 := (Nat.log2_lt (by omega)).mpr h
  unfold sz; omega
theorem sz_pos (q : Rat) : 0 < sz q := Nat.succ_pos _
theorem sz_op {q r t : Rat} (h : hgt t ≤ hgt q * hgt r) : sz t ≤ sz q + sz r := by
  refine sz_of (Nat.lt_of_le_of_lt h ?_) (by have := sz_pos q; omega)
  rw [Nat.pow_add]
  exact Nat.mul_lt_mul_of_lt_of_lt (hgt_lt q) (hgt_lt r)
theorem hgt_divInt (a b : Int) (h : b ≠ 0) : hgt (Rat.divInt a b) ≤ a.natAbs + b.natAbs := by
  unfold hgt
  rw [Rat.num_divInt, Rat.den_divInt, if_neg h]
  have h1 : (b.sign * a / ((b.gcd a : Nat) : Int)).natAbs ≤ a.natAbs := by
    refine Nat.le_trans (Int.natAbs_ediv_le_natAbs _ _) ?_
    rw [Int.natAbs_mul, Int.natAbs_sign_of_ne_zero h]
    omega
  have h2 : b.natAbs / b.gcd a ≤ b.natAbs := Nat.div_le_self _ _
  omega
theorem hgt_mk (a : Int) (b : Nat) (h : b ≠ 0) : hgt (mkRat a b) ≤ a.natAbs + b := by
  have := hgt_divInt a b (by omega)
  rwa [Rat.divInt_ofNat, Int.natAbs_natCast] at this
theorem hgt_mul2 (a c : Int) (b d : Nat) (x : Int) (h : x.natAbs ≤ a.natAbs * d + c.natAbs * b) : x.natAbs + b * d ≤ (a.natAbs + b) * (c.natAbs + d) := by
  have e : (a.natAbs + b) * (c.natAbs + d) = a.natAbs * c.natAbs + a.natAbs * d + (b * c.natAbs + b * d) := by rw [Nat.add_mul, Nat.mul_add, Nat.mul_add]
  rw [e, Nat.mul_comm b c.natAbs]; omega
theorem sz_add (q r : Rat) : sz (q + r) ≤ sz q + sz r := by
  refine sz_op ?_
  rw [Rat.add_def']
  refine Nat.le_trans (hgt_mk _ _ (Nat.mul_ne_zero q.den_nz r.den_nz)) ?_
  refine hgt_mul2 q.num r.num q.den r.den _ (Nat.le_trans (Int.natAbs_add_le _ _) ?_)
  rw [Int.natAbs_mul, Int.natAbs_mul]; simp
theorem sz_sub (q r : Rat) : sz (q - r) ≤ sz q + sz r := by
  refine sz_op ?_
  rw [Rat.sub_def']
  refine Nat.le_trans (hgt_mk _ _ (Nat.mul_ne_zero q.den_nz r.den_nz)) ?_
  refine hgt_mul2 q.num r.num q.den r.den _ (Nat.le_trans (Int.natAbs_sub_le _ _) ?_)
  rw [Int.natAbs_mul, Int.natAbs_mul]; simp
theorem sz_mul (q r : Rat) : sz (q * r) ≤ sz q + sz r := by
  refine sz_op ?_
  rw [Rat.mul_def']
  refine Nat.le_trans (hgt_mk _ _ (Nat.mul_ne_zero q.den_nz r.den_nz)) ?_
  rw [Int.natAbs_mul]
  show _ ≤ (q.num.natAbs + q.den) * (r.num.natAbs + r.den)
  rw [Nat.add_mul, Nat.mul_add, Nat.mul_add]; omega
theorem hgt_inv (r : Rat) : hgt (r⁻¹) ≤ hgt r := by
  unfold hgt
  rw [Rat.num_inv, Rat.den_inv]
  have := r.den_pos
  by_cases h : r.num = 0
  · rw [h]; simp; omega
  · rw [if_neg h, Int.natAbs_mul, Int.natAbs_sign_of_ne_zero h]; simp; omega
theorem sz_div (q r : Rat) : sz (q / r) ≤ sz q + sz r := by
  rw [Rat.div_def]
  refine Nat.le_trans (sz_mul _ _) ?_
  have h : sz (r⁻¹) ≤ sz r := sz_of (Nat.lt_of_le_of_lt (hgt_inv r) (hgt_lt r)) (sz_pos r)
  omega
theorem sz_int {i : Int} {k : Nat} (h : i.natAbs + 1 < 2 ^ k) : sz (i : Rat) ≤ k := by
  refine sz_of ?_ ?_
  · unfold hgt; rw [Rat.num_intCast, Rat.den_intCast]; exact h
  · cases k with
    | zero => simp at h
    | succ k => omega
theorem sz_di {a b : Int} {k : Nat} (hb : b ≠ 0) (h : a.natAbs + b.natAbs < 2 ^ k) : sz (Rat.divInt a b) ≤ k := by
  refine sz_of (Nat.lt_of_le_of_lt (hgt_divInt a b hb) h) ?_
  cases k with
  | zero => simp at h; omega
  | succ k => omega
theorem sz_zero : sz 0 = 1 := by decide +kernel
theorem sz_one : sz 1 = 2 := by decide +kernel
/-- a pair in lowest terms, of two whole numbers -/
def nrm' (a b : Int) : Int × Int := ((if 0 < b then a else -a) / ((Nat.gcd a.natAbs b.natAbs : Nat) : Int), ((b.natAbs : Nat) : Int) / ((Nat.gcd a.natAbs b.natAbs : Nat) : Int))
theorem nrm_di {a b : Int} (h : b ≠ 0) : nrm' a b = ((Rat.divInt a b).num, ((Rat.divInt a b).den : Int)) := by
  unfold nrm'
  rw [Rat.num_divInt, Rat.den_divInt, if_neg h]
  have e : Int.gcd b a = Nat.gcd a.natAbs b.natAbs := by rw [Int.gcd_comm]; rfl
  rw [e]
  congr 1
  by_cases hb : 0 < b
  · rw [if_pos hb, Int.sign_eq_one_of_pos hb, Int.one_mul]
  · rw [if_neg hb, Int.sign_eq_neg_one_of_neg (by omega), Int.neg_mul, Int.one_mul]
theorem di_add (q r : Rat) : Rat.divInt (q.num * r.den + r.num * q.den) (q.den * r.den) = q + r := by
  rw [Rat.add_def', ← Rat.divInt_ofNat]; simp
theorem di_sub (q r : Rat) : Rat.divInt (q.num * r.den - r.num * q.den) (q.den * r.den) = q - r := by
  rw [Rat.sub_def', ← Rat.divInt_ofNat]; simp
theorem di_mul (q r : Rat) : Rat.divInt (q.num * r.num) (q.den * r.den) = q * r := by
  rw [Rat.mul_def', ← Rat.divInt_ofNat]; simp
theorem di_div (q r : Rat) : Rat.divInt (q.num * r.den) (q.den * r.num) = q / r := by
  rw [Rat.div_def, Rat.inv_def]
  have : Rat.divInt q.num q.den = q := Rat.num_divInt_den q
  conv => rhs; rw [← this]
  rw [Rat.divInt_mul_divInt]
theorem lt_q (q r : Rat) : (q.num * (r.den : Int) < r.num * (q.den : Int)) ↔ q < r := (Rat.lt_iff q r).symm
theorem den0 (q : Rat) : (q.den : Int) ≠ 0 := by have := q.den_pos; omega
theorem num0 {q : Rat} (h : q ≠ 0) : q.num ≠ 0 := fun z => h (Rat.num_eq_zero.mp z)
end DL

set_option Elab.async false
set_option linter.all false
/-! LM2: lines -/
namespace DL
abbrev Kn := List (Rat × Rat)
def kn (ks : Kn) (i : Nat) : Rat × Rat := ks.getD i (0, 0)
/-- the slope behind a knot -/
def slp (ks : Kn) (s : Rat) (i : Nat) : Rat := if i + 1 < ks.length then ((kn ks (i + 1)).2 - (kn ks i).2) / ((kn ks (i + 1)).1 - (kn ks i).1) else s
def Rising (ks : Kn) : Prop := ∀ i, i + 1 < ks.length → (kn ks i).1 < (kn ks (i + 1)).1
theorem Rising.lt {ks : Kn} (h : Rising ks) {i j : Nat} (hij : i < j) (hj : j < ks.length) : (kn ks i).1 < (kn ks j).1 := by
  induction j with
  | zero => omega
  | succ j ih =>
    have h1 := h j hj
    by_cases e : i = j
    · subst e; exact h1
    · have := ih (by omega) (by omega); grind
/-- the number of the last knot no greater -/
structure AtK (ks : Kn) (x : Rat) (i : Nat) : Prop where
  lt : i < ks.length
  le : (kn ks i).1 ≤ x
  nx : i + 1 < ks.length → x < (kn ks (i + 1)).1
theorem AtK.uniq {ks : Kn} (r : Rising ks) {x : Rat} {i j : Nat} (h : AtK ks x i) (g : AtK ks x j) : i = j := by
  rcases Nat.lt_trichotomy i j with q | q | q
  · have h1 := h.nx (by have := g.lt; omega)
    have g1 := g.le
    by_cases e : i + 1 = j
    · subst e; grind
    · have := r.lt (i := i + 1) (j := j) (by omega) g.lt; grind
  · exact q
  · have h1 := g.nx (by have := h.lt; omega)
    have g1 := h.le
    by_cases e : j + 1 = i
    · subst e; grind
    · have := r.lt (i := j + 1) (j := i) (by omega) h.lt; grind
def yOf (ks : Kn) (s : Rat) (x : Rat) (i : Nat) : Rat := (kn ks i).2 + slp ks s i * (x - (kn ks i).1)
open Classical in
/-- the line's y -/
noncomputable def yAt (ks : Kn) (s : Rat) (x : Rat) : Rat := if h : ∃ i, AtK ks x i then yOf ks s x (choose h) else 0
theorem yAt_of {ks : Kn} (r : Rising ks) {s x : Rat} {i : Nat} (h : AtK ks x i) : yAt ks s x = yOf ks s x i := by
  unfold yAt
  have e : ∃ i, AtK ks x i := ⟨i, h⟩
  rw [dif_pos e, AtK.uniq r (Classical.choose_spec e) h]
/-- all parts of a line within a size -/
structure KsB (B : Nat) (ks : Kn) (s : Rat) : Prop where
  x : ∀ i, i < ks.length → sz (kn ks i).1 ≤ B
  y : ∀ i, i < ks.length → sz (kn ks i).2 ≤ B
  s : sz s ≤ B
/-- a line that can be asked -/
structure Ln (B : Nat) (ks : Kn) (s : Rat) : Prop where
  b : KsB B ks s
  pos : 0 < ks.length
  fst : (kn ks 0).1 = 0
  ris : Rising ks
theorem slp_sz {B : Nat} {ks : Kn} {s : Rat} (h : KsB B ks s) (hB : 0 < B) (i : Nat) (hi : i < ks.length) : sz (slp ks s i) ≤ 4 * B := by
  unfold slp
  split
  · rename_i q
    have h1 := h.x i (by omega); have h2 := h.x (i + 1) q; have h3 := h.y i (by omega); have h4 := h.y (i + 1) q
    have a1 := sz_div ((kn ks (i + 1)).2 - (kn ks i).2) ((kn ks (i + 1)).1 - (kn ks i).1)
    have a2 := sz_sub (kn ks (i + 1)).2 (kn ks i).2
    have a3 := sz_sub (kn ks (i + 1)).1 (kn ks i).1
    omega
  · have := h.s; omega
theorem yOf_sz {B C : Nat} {ks : Kn} {s x : Rat} (h : KsB B ks s) (hB : 0 < B) {i : Nat} (hi : i < ks.length) (hx : sz x ≤ C) : sz (yOf ks s x i) ≤ 6 * B + C := by
  unfold yOf
  have h1 := h.x i hi; have h2 := h.y i hi; have h3 := slp_sz h hB i hi
  have a1 := sz_add (kn ks i).2 (slp ks s i * (x - (kn ks i).1))
  have a2 := sz_mul (slp ks s i) (x - (kn ks i).1)
  have a3 := sz_sub x (kn ks i).1
  omega
theorem ris_step {ks : Kn} (r : Rising ks) {i : Nat} (h : i + 1 < ks.length) : (kn ks (i + 1)).1 - (kn ks i).1 ≠ 0 := by
  have := r i h; grind
theorem kn_append_lt {ks : Kn} {p : Rat × Rat} {i : Nat} (h : i < ks.length) : kn (ks ++ [p]) i = kn ks i := by
  unfold kn; rw [List.getD_eq_getElem?_getD, List.getD_eq_getElem?_getD, List.getElem?_append_left h]
theorem kn_append_eq {ks : Kn} {p : Rat × Rat} {i : Nat} (h : i = ks.length) : kn (ks ++ [p]) i = p := by
  subst h; unfold kn; rw [List.getD_eq_getElem?_getD]; simp
theorem kn_get {ks : Kn} {i : Nat} (h : i < ks.length) : ks[i]? = some (kn ks i) := by
  unfold kn; rw [List.getD_eq_getElem?_getD, List.getElem?_eq_getElem h]; rfl
/-- an index loop: the last so far that is no greater -/
def lastIx (ks : Kn) (x : Rat) : Nat → Nat
  | 0 => 0
  | n + 1 => if x < (kn ks n).1 then lastIx ks x n else n
theorem lastIx_at {ks : Kn} {x : Rat} (r : Rising ks) (p : 0 < ks.length) (h0 : (kn ks 0).1 ≤ x) : AtK ks x (lastIx ks x ks.length) := by
  have key : ∀ n, n ≤ ks.length → (0 < n → lastIx ks x n < n) ∧ (kn ks (lastIx ks x n)).1 ≤ x ∧ ∀ j, lastIx ks x n < j → j < n → x < (kn ks j).1 := by
    intro n
    induction n with
    | zero => intro _; exact ⟨fun h => absurd h (by omega), h0, fun j _ h => absurd h (by omega)⟩
    | succ n ih =>
      intro hn
      obtain ⟨a, b, c⟩ := ih (by omega)
      unfold lastIx
      split
      · rename_i q
        refine ⟨fun _ => ?_, b, fun j h1 h2 => ?_⟩
        · by_cases e : n = 0
          · subst e; grind
          · have := a (by omega); omega
        · by_cases e : j = n
          · subst e; exact q
          · exact c j h1 (by omega)
      · rename_i q
        exact ⟨fun _ => by omega, by grind, fun j h1 h2 => by omega⟩
  obtain ⟨a, b, c⟩ := key ks.length (Nat.le_refl _)
  exact ⟨a p, b, fun h => c _ (by omega) h⟩
end DL

set_option Elab.async false
set_option linter.all false
set_option maxRecDepth 100000
set_option maxHeartbeats 4000000
/-! LQ1: parts reckoned, as rationals -/
namespace DL
open PySem PySem.Spec PyProof.Rows L2
def qp (q : Rat) : PyData := .tuple [.int q.num, .int (q.den : Int)]
theorem nrm_eq (a b : Int) : nrm a b = nrm' a b := rfl
theorem qp_di {a b : Int} (h : b ≠ 0) : pr (nrm a b) = qp (Rat.divInt a b) := by rw [nrm_eq, nrm_di h]; rfl
def TLow : List PyData → (PyData → Prop) → Prop := fun ds Φ => ∃ a b : Int, ds = [.int a, .int b] ∧ b ≠ 0 ∧ a.natAbs < 2 ^ 8000 ∧ b.natAbs < 2 ^ 8000 ∧ Φ (qp (Rat.divInt a b))
theorem TLow.part {ds : List PyData} {Φ : PyData → Prop} (h : TLow ds Φ) : TPart ds Φ := by
  obtain ⟨a, b, e, h1, h2, h3, h4⟩ := h
  exact ⟨a, b, e, h1, h2, h3, by rw [qp_di h1]; exact h4⟩
def TQ2 (P : Rat → Rat → Prop) (f : Rat → Rat → PyData) : List PyData → (PyData → Prop) → Prop := fun ds Φ => ∃ q r : Rat, ds = [qp q, qp r] ∧ sz q ≤ 3800 ∧ sz r ≤ 3800 ∧ P q r ∧ Φ (f q r)
def TAdQ := TQ2 (fun _ _ => True) fun q r => qp (q + r)
def TSbQ := TQ2 (fun _ _ => True) fun q r => qp (q - r)
def TMlQ := TQ2 (fun _ _ => True) fun q r => qp (q * r)
def TDvQ := TQ2 (fun _ r => r ≠ 0) fun q r => qp (q / r)
def TLtQ := TQ2 (fun _ _ => True) fun q r => .bool (decide (q < r))
section
variable {q r : Rat} {Φ : PyData → Prop}
theorem tAdQ (h1 : sz q ≤ 3800) (h2 : sz r ≤ 3800) (h : Φ (qp (q + r))) : TAdQ [qp q, qp r] Φ := ⟨q, r, rfl, h1, h2, trivial, h⟩
theorem tSbQ (h1 : sz q ≤ 3800) (h2 : sz r ≤ 3800) (h : Φ (qp (q - r))) : TSbQ [qp q, qp r] Φ := ⟨q, r, rfl, h1, h2, trivial, h⟩
theorem tMlQ (h1 : sz q ≤ 3800) (h2 : sz r ≤ 3800) (h : Φ (qp (q * r))) : TMlQ [qp q, qp r] Φ := ⟨q, r, rfl, h1, h2, trivial, h⟩
theorem tDvQ (h0 : r ≠ 0) (h1 : sz q ≤ 3800) (h2 : sz r ≤ 3800) (h : Φ (qp (q / r))) : TDvQ [qp q, qp r] Φ := ⟨q, r, rfl, h1, h2, h0, h⟩
theorem tLtQ (h1 : sz q ≤ 3800) (h2 : sz r ≤ 3800) (h : Φ (.bool (decide (q < r)))) : TLtQ [qp q, qp r] Φ := ⟨q, r, rfl, h1, h2, trivial, h⟩
end
local macro_rules | `(tactic| walk_at "dl") => `(tactic| repeat' (first
  | with_reducible refine wd_isTy ?_ | with_reducible refine wd_isi ?_ | with_reducible refine wd_op ?_ | ((with_reducible show WD _ _ (tCB (rLenX _) (tCons (tVar _) tNil)) _ _); refine wd_len_scr rfl ?_) | with_reducible refine wd_cb ?_ | with_reducible refine wd_un ?_ | with_reducible refine wa_cons ?_ | with_reducible refine wa_nil ?_ | ((with_reducible show WD _ _ (tVar _) _ _); refine wd_var rfl ?_) | with_reducible refine wd_int ?_ | with_reducible refine wd_bl ?_ | with_reducible refine wd_str ?_ | with_reducible refine wd_non ?_
  | with_reducible refine do_add ?_ | with_reducible refine do_sub ?_ | ((with_reducible refine do_mod ?_ ?_); decide) | with_reducible refine do_mod ?_ ?_ | with_reducible refine do_mul ?_ ?_ | ((with_reducible refine do_div ?_ ?_); exact ⟨by decide, by decide⟩) | with_reducible refine do_div ?_ ?_ | ((with_reducible refine do_pow ?_ ?_); exact ⟨by decide, by decide, by decide⟩) | with_reducible refine do_pow ?_ ?_
  | with_reducible refine do_lt ?_ | with_reducible refine do_le ?_ | with_reducible refine do_gt ?_ | with_reducible refine do_ge ?_ | with_reducible refine du_neg ?_
  | with_reducible refine do_eqi ?_ | with_reducible refine do_nei ?_ | with_reducible refine do_eqs ?_ | with_reducible refine do_nes ?_ | with_reducible refine dc_abs ?_ | with_reducible refine dc_min ?_ | with_reducible refine dc_max ?_ | with_reducible refine dc_lenL ?_ | with_reducible refine dc_lenT ?_ | with_reducible refine dc_gcd ?_
  | ((with_reducible show DO _ (rIxT _) _ _ _); refine do_ixT rfl ?_) | ((with_reducible show DO _ (rIxL _) _ _ _); refine do_ixL rfl ?_) | ((with_reducible refine do_catL ?_ ?_); exact Nat.le_of_ble_eq_true rfl) | with_reducible refine do_catL ?_ ?_ | ((with_reducible show And (List.length _ ≤ sizeLine) _); refine ⟨Nat.le_of_ble_eq_true rfl, ?_⟩)
  | with_reducible refine wd_dnew ?_ | with_reducible refine wd_call0 ?_ | with_reducible refine tAdQ ?_ ?_ ?_ | with_reducible refine tSbQ ?_ ?_ ?_ | with_reducible refine tMlQ ?_ ?_ ?_ | with_reducible refine tDvQ ?_ ?_ ?_ ?_ | with_reducible refine tLtQ ?_ ?_ ?_ | with_reducible refine dc_str ?_ ?_ | with_reducible refine wd_tup ?_ | with_reducible refine wd_lst ?_ | with_reducible refine wt_test ?_ | with_reducible refine wt_B ?_ | with_reducible refine wt_not ?_ | with_reducible refine wt_and ?_ | with_reducible refine wt_or ?_ | with_reducible refine wd_ifE ?_ | with_reducible refine wd_andV ?_ | with_reducible refine wd_orV ?_ | with_reducible refine wd_notV ?_
  | with_reducible refine ws_seq ?_ | with_reducible refine ws_next ?_ | with_reducible refine ws_asg ?_ | with_reducible refine ws_ret ?_ | with_reducible refine ws_retN ?_ | with_reducible refine ws_if ?_ | with_reducible refine ws_par ?_ | with_reducible refine ws_unp2 ?_
  | with_reducible refine if_t ?_ | with_reducible refine if_f ?_ | with_reducible refine if_nf ?_ | with_reducible refine if_nt ?_
  | ((with_reducible show Exists _); first | refine ⟨_, kitInt _, ?_⟩ | refine ⟨_, kitBool _, ?_⟩ | refine ⟨_, kitTup _, ?_⟩ | refine ⟨_, kitList _, ?_⟩ | refine ⟨_, rfl, ?_⟩ | refine ⟨_, _, rfl, ?_⟩ | fail) | fail))
def t_lowq (K : PySem.W.Frag) : TS :=
  (tSeq (tPar 2 3 (tCons (tCB rAbsX (tCons (tVar 0) tNil)) (tCons (tCB rAbsX (tCons (tVar 1) tNil)) tNil)))
    (tSeq (tWhile (tTest (tOp rGt (tVar 3) (tC (.int 0)))) (tPar 2 3 (tCons (tVar 3) (tCons (tOp rModI (tVar 2) (tVar 3)) tNil))))
    (tSeq (tAsg (tIf (tTest (tOp rGt (tVar 1) (tC (.int 0)))) (tVar 2) (tOp rSubI (tC (.int 0)) (tVar 2))) (gName 4))
    (tRet (tTup (tCons (tOp rDivI (tVar 0) (tVar 4)) (tCons (tOp rDivI (tVar 1) (tVar 4)) tNil)))))))
def t_addq (K : PySem.W.Frag) : TS :=
  (tRet (tCall (spP K TLow) [] E0 (tCons (tOp rAddI (tOp rMulI (tOp (rIxT K) (tVar 0) (tC (.int 0))) (tOp (rIxT K) (tVar 1) (tC (.int 1)))) (tOp rMulI (tOp (rIxT K) (tVar 1) (tC (.int 0))) (tOp (rIxT K) (tVar 0) (tC (.int 1))))) (tCons (tOp rMulI (tOp (rIxT K) (tVar 0) (tC (.int 1))) (tOp (rIxT K) (tVar 1) (tC (.int 1)))) tNil))))
def t_subq (K : PySem.W.Frag) : TS :=
  (tRet (tCall (spP K TLow) [] E0 (tCons (tOp rSubI (tOp rMulI (tOp (rIxT K) (tVar 0) (tC (.int 0))) (tOp (rIxT K) (tVar 1) (tC (.int 1)))) (tOp rMulI (tOp (rIxT K) (tVar 1) (tC (.int 0))) (tOp (rIxT K) (tVar 0) (tC (.int 1))))) (tCons (tOp rMulI (tOp (rIxT K) (tVar 0) (tC (.int 1))) (tOp (rIxT K) (tVar 1) (tC (.int 1)))) tNil))))
def t_mulq (K : PySem.W.Frag) : TS :=
  (tRet (tCall (spP K TLow) [] E0 (tCons (tOp rMulI (tOp (rIxT K) (tVar 0) (tC (.int 0))) (tOp (rIxT K) (tVar 1) (tC (.int 0)))) (tCons (tOp rMulI (tOp (rIxT K) (tVar 0) (tC (.int 1))) (tOp (rIxT K) (tVar 1) (tC (.int 1)))) tNil))))
def t_divq (K : PySem.W.Frag) : TS :=
  (tRet (tCall (spP K TLow) [] E0 (tCons (tOp rMulI (tOp (rIxT K) (tVar 0) (tC (.int 0))) (tOp (rIxT K) (tVar 1) (tC (.int 1)))) (tCons (tOp rMulI (tOp (rIxT K) (tVar 0) (tC (.int 1))) (tOp (rIxT K) (tVar 1) (tC (.int 0)))) tNil))))
def t_ltq (K : PySem.W.Frag) : TS :=
  (tRet (tOp rLt (tOp rMulI (tOp (rIxT K) (tVar 0) (tC (.int 0))) (tOp (rIxT K) (tVar 1) (tC (.int 1)))) (tOp rMulI (tOp (rIxT K) (tVar 1) (tC (.int 0))) (tOp (rIxT K) (tVar 0) (tC (.int 1))))))
theorem ws_lowq {K : PySem.W.Frag} {ds : List PyData} {Φ : PyData → Prop} (h : TLow ds Φ) : WS K S0 (t_lowq K) (rhoOf 5 ds) { nx := fun _ => Φ .none, rt := fun d _ => Φ d } := by
  obtain ⟨a, b, rfl, hb, ha8, hb8, hΦ⟩ := h
  show WS K S0 (t_lowq K) [.dat (.int a), .dat (.int b), .unk, .unk, .unk] _
  unfold t_lowq
  walk_at "dl"
  refine ws_while (fun m ρ => ∃ x y : Int, ρ = [.dat (.int a), .dat (.int b), .dat (.int x), .dat (.int y), .unk] ∧ 0 ≤ x ∧ 0 ≤ y ∧ m = y.natAbs ∧ Nat.gcd x.natAbs y.natAbs = Nat.gcd a.natAbs b.natAbs) b.natAbs ⟨_, _, rfl, by omega, by omega, by omega, by simp⟩ ?_
  rintro m ρ1 ⟨x, y, rfl, hx, hy, rfl, hg⟩
  walk_at "dl"
  refine if_b (fun hpos => ?_) (fun hz => ?_)
  · walk_at "dl"
    · omega
    · obtain ⟨z1, z2⟩ := fmod_nn (i := x) (j := y) hpos
      exact ⟨(x.fmod y).natAbs, by omega, _, _, rfl, by omega, z1, rfl, (euclid_step x y hx hpos).trans hg⟩
  · have y0 : y = 0 := by omega
    subst y0
    have gx : x.natAbs = Nat.gcd a.natAbs b.natAbs := by simpa using hg
    have gp := gcd_pos (a := a) hb
    have gl := natAbs_gcd_le a b hb
    have ex : x = ((Nat.gcd a.natAbs b.natAbs : Nat) : Int) := by omega
    have x8 : x.natAbs.log2 < 9000 := by
      have := log2_of (i := x) (k := 8000) (by omega) (by decide)
      omega
    rw [← qp_di hb] at hΦ
    walk_at "dl"
    with_reducible refine if_b (fun hp => ?_) (fun hn => ?_)
    · walk_at "dl"
      · exact ⟨by omega, x8⟩
      · exact ⟨by omega, x8⟩
      · rw [nrm_pos hp, ← ex] at hΦ; exact hΦ
    · have y8 : (0 - x).natAbs.log2 < 9000 := by
        have : (0 - x).natAbs = x.natAbs := by omega
        rw [this]; exact x8
      walk_at "dl"
      · exact ⟨by omega, y8⟩
      · exact ⟨by omega, y8⟩
      · rw [nrm_neg (by omega), ← ex, ← Int.zero_sub] at hΦ; exact hΦ
theorem q39 {q : Rat} (h : sz q ≤ 3800) : q.num.natAbs < 2 ^ 3900 := Nat.lt_of_lt_of_le (num_lt h) (Nat.pow_le_pow_right (by decide) (by decide))
theorem d39 {q : Rat} (h : sz q ≤ 3800) : ((q.den : Int)).natAbs < 2 ^ 3900 := Nat.lt_of_lt_of_le (den_lt h) (Nat.pow_le_pow_right (by decide) (by decide))
theorem ws_addq {K : PySem.W.Frag} {ds : List PyData} {Φ : PyData → Prop} (h : TAdQ ds Φ) : WS K S0 (t_addq K) (rhoOf 2 ds) { nx := fun _ => Φ .none, rt := fun d _ => Φ d } := by
  obtain ⟨q, r, rfl, h1, h2, _, hΦ⟩ := h
  show WS K S0 (t_addq K) [.dat (.tuple [.int q.num, .int (q.den : Int)]), .dat (.tuple [.int r.num, .int (r.den : Int)])] _
  unfold t_addq
  walk_at "dl"
  · exact Wd4.mul (q39 h1) (d39 h2)
  · exact Wd4.mul (q39 h2) (d39 h1)
  · exact Wd4.mul (d39 h1) (d39 h2)
  · exact ⟨_, _, rfl, Int.mul_ne_zero (den0 q) (den0 r), add80 (lt78 (q39 h1) (d39 h2)) (lt78 (q39 h2) (d39 h1)), lt80 (d39 h1) (d39 h2), by rw [di_add]; exact hΦ⟩
theorem ws_subq {K : PySem.W.Frag} {ds : List PyData} {Φ : PyData → Prop} (h : TSbQ ds Φ) : WS K S0 (t_subq K) (rhoOf 2 ds) { nx := fun _ => Φ .none, rt := fun d _ => Φ d } := by
  obtain ⟨q, r, rfl, h1, h2, _, hΦ⟩ := h
  show WS K S0 (t_subq K) [.dat (.tuple [.int q.num, .int (q.den : Int)]), .dat (.tuple [.int r.num, .int (r.den : Int)])] _
  unfold t_subq
  walk_at "dl"
  · exact Wd4.mul (q39 h1) (d39 h2)
  · exact Wd4.mul (q39 h2) (d39 h1)
  · exact Wd4.mul (d39 h1) (d39 h2)
  · exact ⟨_, _, rfl, Int.mul_ne_zero (den0 q) (den0 r), sub80 (lt78 (q39 h1) (d39 h2)) (lt78 (q39 h2) (d39 h1)), lt80 (d39 h1) (d39 h2), by rw [di_sub]; exact hΦ⟩
theorem ws_mulq {K : PySem.W.Frag} {ds : List PyData} {Φ : PyData → Prop} (h : TMlQ ds Φ) : WS K S0 (t_mulq K) (rhoOf 2 ds) { nx := fun _ => Φ .none, rt := fun d _ => Φ d } := by
  obtain ⟨q, r, rfl, h1, h2, _, hΦ⟩ := h
  show WS K S0 (t_mulq K) [.dat (.tuple [.int q.num, .int (q.den : Int)]), .dat (.tuple [.int r.num, .int (r.den : Int)])] _
  unfold t_mulq
  walk_at "dl"
  · exact Wd4.mul (q39 h1) (q39 h2)
  · exact Wd4.mul (d39 h1) (d39 h2)
  · exact ⟨_, _, rfl, Int.mul_ne_zero (den0 q) (den0 r), lt80 (q39 h1) (q39 h2), lt80 (d39 h1) (d39 h2), by rw [di_mul]; exact hΦ⟩
theorem ws_divq {K : PySem.W.Frag} {ds : List PyData} {Φ : PyData → Prop} (h : TDvQ ds Φ) : WS K S0 (t_divq K) (rhoOf 2 ds) { nx := fun _ => Φ .none, rt := fun d _ => Φ d } := by
  obtain ⟨q, r, rfl, h1, h2, h0, hΦ⟩ := h
  show WS K S0 (t_divq K) [.dat (.tuple [.int q.num, .int (q.den : Int)]), .dat (.tuple [.int r.num, .int (r.den : Int)])] _
  unfold t_divq
  walk_at "dl"
  · exact Wd4.mul (q39 h1) (d39 h2)
  · exact Wd4.mul (d39 h1) (q39 h2)
  · exact ⟨_, _, rfl, Int.mul_ne_zero (den0 q) (num0 h0), lt80 (q39 h1) (d39 h2), lt80 (d39 h1) (q39 h2), by rw [di_div]; exact hΦ⟩
theorem ws_ltq {K : PySem.W.Frag} {ds : List PyData} {Φ : PyData → Prop} (h : TLtQ ds Φ) : WS K S0 (t_ltq K) (rhoOf 2 ds) { nx := fun _ => Φ .none, rt := fun d _ => Φ d } := by
  obtain ⟨q, r, rfl, h1, h2, h0, hΦ⟩ := h
  show WS K S0 (t_ltq K) [.dat (.tuple [.int q.num, .int (q.den : Int)]), .dat (.tuple [.int r.num, .int (r.den : Int)])] _
  unfold t_ltq
  walk_at "dl"
  · exact Wd4.mul (q39 h1) (d39 h2)
  · exact Wd4.mul (q39 h2) (d39 h1)
  · have e : decide (q.num * (r.den : Int) < r.num * (q.den : Int)) = decide (q < r) := decide_eq_decide.mpr (lt_q q r)
    rw [e]; exact hΦ
end DL

set_option Elab.async false
set_option linter.all false
set_option maxRecDepth 100000
set_option maxHeartbeats 4000000
/-! LQ2: slices as data; lines asked -/
namespace DL
open PySem PySem.Spec PyProof.Rows L2
def WO (K : PySem.W.Frag) (S : Stt) (to : TO) (ρ : Rho) (Θ : Option Int → Rho → Prop) : Prop :=
  ∀ H0 N0 Z N σ H, EnvD K S H0 N0 Z N σ H ρ → ∀ Q : Option Int → Hp → Prop, (∀ o ρ' H', Θ o ρ' → EnvD K S H0 N0 Z N σ H' ρ' → Keep N H H' → Q o H') → to σ H Q
def cutD (ds : List PyData) (lo hi : Option Int) : List PyData := (ds.drop (HT.sIx ds.length 0 lo)).take (HT.sIx ds.length ds.length hi - HT.sIx ds.length 0 lo)
section
variable {K : PySem.W.Frag} {S : Stt} {ρ : Rho} {Φ : PyData → Rho → Prop} {Ψ : PyData → Prop}
theorem wo_none {Θ : Option Int → Rho → Prop} (h : Θ none ρ) : WO K S tNoPart ρ Θ := fun H0 N0 Z N σ H E Q q => q none ρ H h E Keep.refl
theorem wo_part {te : TE} {Θ : Option Int → Rho → Prop} (h : WD K S te ρ fun d ρ1 => ∃ i, d = .int i ∧ Θ (some i) ρ1) : WO K S (tPart te) ρ Θ := fun H0 N0 Z N σ H E Q q =>
  h H0 N0 Z N σ H E _ fun v d ρ1 H1 ⟨i, e, f⟩ E1 k1 d1 => by
    subst e
    exact ⟨i, d1.int_inv, q (some i) ρ1 H1 f E1 k1⟩
theorem DqAll.cut {N : Av} {H : Hp} {xs : List V} {ds : List PyData} {lo hi : Option Int} (h : DqAll K N H xs ds) : DqAll K N H (cutV xs lo hi) (cutD ds lo hi) := by
  unfold cutV cutD
  rw [h.len]
  exact (h.drop _).take _
theorem wd_slA {ta : TE} {tl th : TO} (h : WD K S ta ρ fun x ρ1 => ∃ ds, x = .tuple ds ∧ WO K S tl ρ1 fun lo ρ2 => WO K S th ρ2 fun hi ρ3 => Φ (.tuple (cutD ds lo hi)) ρ3) : WD K S (tSl (rSlA K) ta tl th) ρ Φ := fun H0 N0 Z N σ H E Q q =>
  h H0 N0 Z N σ H E _ fun v x ρ1 H1 ⟨ds, e, f⟩ E1 k1 d1 => f H0 N0 Z N σ H1 E1 _ fun lo ρ2 H2 g E2 k2 => g H0 N0 Z N σ H2 E2 _ fun hi ρ3 H3 z E3 k3 => by
    subst e
    have d3 := (d1.keep k2).keep k3
    obtain ⟨p, xs, rfl, _, h1, h2⟩ := Dq.tup_inv d3
    refine ⟨p, xs, rfl, h1, fun w => ?_, fun w r hr => ?_⟩
    · have e : cutD ds lo hi = ds := by
        unfold cutD
        have hl := h2.len
        rw [← hl, w.1, w.2, List.drop_zero, Nat.sub_zero]
        exact List.take_of_length_le (by omega)
      have z' : Φ (.tuple (cutD ds lo hi)) ρ3 := z
      rw [e] at z'
      exact q _ _ ρ3 H3 z' E3 ((k1.trans k2).trans k3) d3
    · have s := same_new hr (.tup (cutV xs lo hi))
      exact q _ _ ρ3 _ z (E3.ext s) (((k1.trans k2).trans k3).trans (Keep.of s)) (Dq.tup (fresh_av E3.trk hr) upd_same ((h2.cut).keep (Keep.of s)))
theorem wd_slL {ta : TE} {tl th : TO} (h : WD K S ta ρ fun x ρ1 => ∃ ds, x = .list ds ∧ WO K S tl ρ1 fun lo ρ2 => WO K S th ρ2 fun hi ρ3 => Φ (.list (cutD ds lo hi)) ρ3) : WD K S (tSl (rSlL K) ta tl th) ρ Φ := fun H0 N0 Z N σ H E Q q =>
  h H0 N0 Z N σ H E _ fun v x ρ1 H1 ⟨ds, e, f⟩ E1 k1 d1 => f H0 N0 Z N σ H1 E1 _ fun lo ρ2 H2 g E2 k2 => g H0 N0 Z N σ H2 E2 _ fun hi ρ3 H3 z E3 k3 => by
    subst e
    have d3 := (d1.keep k2).keep k3
    obtain ⟨p, xs, rfl, _, h1, h2⟩ := Dq.lst_inv d3
    refine ⟨p, xs, rfl, .inl h1, fun r hr => ?_⟩
    have s := same_new hr (.lst (cutV xs lo hi))
    exact q _ _ ρ3 _ z (E3.ext s) (((k1.trans k2).trans k3).trans (Keep.of s)) (Dq.lst (fresh_av E3.trk hr) upd_same ((h2.cut).keep (Keep.of s)))
theorem do_ixTn {ds : List PyData} {i : Int} {k : Nat} {d : PyData} (e : i = k) (h : ds[k]? = some d) (f : Ψ d) : DO K (rIxT K) (.tuple ds) (.int i) Ψ := by
  subst e; exact do_ixT (atI_nat h) f
theorem do_ixLn {ds : List PyData} {i : Int} {k : Nat} {d : PyData} (e : i = k) (h : ds[k]? = some d) (f : Ψ d) : DO K (rIxL K) (.list ds) (.int i) Ψ := by
  subst e; exact do_ixL (atI_nat h) f
end
/-! ### lines as data -/
def kD (p : Rat × Rat) : PyData := .tuple [qp p.1, qp p.2]
abbrev knD (ks : Kn) : PyData := .tuple (ks.map kD)
def lnD (ks : Kn) (s : Rat) : PyData := .tuple [knD ks, qp s]
theorem kD_get {ks : Kn} {i : Nat} (h : i < ks.length) : (ks.map kD)[i]? = some (kD (kn ks i)) := by
  rw [List.getElem?_map, kn_get h]; rfl
structure Lq (B : Nat) (ks : Kn) (s : Rat) : Prop where
  l : Ln B ks s
  len : ks.length ≤ 100000
  B0 : 0 < B
def TSlope : List PyData → (PyData → Prop) → Prop := fun ds Φ => ∃ (ks : Kn) (s : Rat) (i B : Nat), ds = [lnD ks s, .int i] ∧ Lq B ks s ∧ 2 * B ≤ 3800 ∧ i < ks.length ∧ Φ (qp (slp ks s i))
def TSlopes : List PyData → (PyData → Prop) → Prop := fun ds Φ => ∃ (ks : Kn) (s : Rat) (B : Nat), ds = [knD ks, qp s] ∧ KsB B ks s ∧ Rising ks ∧ 0 < ks.length ∧ ks.length ≤ 100000 ∧ 2 * B ≤ 3800 ∧ Φ (.list ((List.range ks.length).map fun i => qp (slp ks s i)))
def TNoLater : List PyData → (PyData → Prop) → Prop := fun ds Φ => ∃ (ks : Kn) (x : Rat), ds = [knD ks, qp x] ∧ Rising ks ∧ 0 < ks.length ∧ ks.length ≤ 100000 ∧ (kn ks 0).1 ≤ x ∧ sz x ≤ 3800 ∧ (∀ i, i < ks.length → sz (kn ks i).1 ≤ 3800) ∧ ∀ i : Nat, AtK ks x i → Φ (.int i)
def THeight : List PyData → (PyData → Prop) → Prop := fun ds Φ => ∃ (ks : Kn) (s x : Rat) (i B C : Nat), ds = [lnD ks s, .int i, qp x] ∧ Lq B ks s ∧ i < ks.length ∧ sz x ≤ C ∧ 5 * B + C ≤ 3800 ∧ Φ (qp (yOf ks s x i))
def TYat : List PyData → (PyData → Prop) → Prop := fun ds Φ => ∃ (ks : Kn) (s x : Rat) (B C : Nat), ds = [lnD ks s, qp x] ∧ Lq B ks s ∧ 0 ≤ x ∧ sz x ≤ C ∧ 5 * B + C ≤ 3800 ∧ Φ (qp (yAt ks s x))
local macro_rules | `(tactic| walk_at "dl") => `(tactic| repeat' (first
  | with_reducible refine wd_isTy ?_ | with_reducible refine wd_isi ?_ | with_reducible refine wd_op ?_ | ((with_reducible show WD _ _ (tCB (rLenX _) (tCons (tVar _) tNil)) _ _); refine wd_len_scr rfl ?_) | with_reducible refine wd_cb ?_ | with_reducible refine wd_un ?_ | with_reducible refine wa_cons ?_ | with_reducible refine wa_nil ?_ | ((with_reducible show WD _ _ (tVar _) _ _); refine wd_var rfl ?_) | with_reducible refine wd_int ?_ | with_reducible refine wd_bl ?_ | with_reducible refine wd_str ?_ | with_reducible refine wd_non ?_
  | with_reducible refine do_add ?_ | with_reducible refine do_sub ?_ | ((with_reducible refine do_mod ?_ ?_); decide) | with_reducible refine do_mod ?_ ?_ | with_reducible refine do_mul ?_ ?_ | ((with_reducible refine do_div ?_ ?_); exact ⟨by decide, by decide⟩) | with_reducible refine do_div ?_ ?_ | ((with_reducible refine do_pow ?_ ?_); exact ⟨by decide, by decide, by decide⟩) | with_reducible refine do_pow ?_ ?_
  | with_reducible refine do_lt ?_ | with_reducible refine do_le ?_ | with_reducible refine do_gt ?_ | with_reducible refine do_ge ?_ | with_reducible refine du_neg ?_
  | with_reducible refine do_eqi ?_ | with_reducible refine do_nei ?_ | with_reducible refine do_eqs ?_ | with_reducible refine do_nes ?_ | with_reducible refine dc_abs ?_ | with_reducible refine dc_min ?_ | with_reducible refine dc_max ?_ | with_reducible refine dc_lenL ?_ | with_reducible refine dc_lenT ?_ | with_reducible refine dc_gcd ?_
  | ((with_reducible show DO _ (rIxT _) _ _ _); refine do_ixT rfl ?_) | ((with_reducible show DO _ (rIxL _) _ _ _); refine do_ixL rfl ?_) | ((with_reducible refine do_catL ?_ ?_); exact Nat.le_of_ble_eq_true rfl) | with_reducible refine do_catL ?_ ?_ | ((with_reducible show And (List.length _ ≤ sizeLine) _); refine ⟨Nat.le_of_ble_eq_true rfl, ?_⟩)
  | with_reducible refine wd_dnew ?_ | with_reducible refine wd_call0 ?_ | with_reducible refine tAdQ (by omega) (by omega) ?_ | with_reducible refine tSbQ (by omega) (by omega) ?_ | with_reducible refine tMlQ (by omega) (by omega) ?_ | with_reducible refine tDvQ (by assumption) (by omega) (by omega) ?_ | with_reducible refine tLtQ (by omega) (by omega) ?_ | with_reducible refine dc_str ?_ ?_ | with_reducible refine wd_tup ?_ | with_reducible refine wd_lst ?_ | with_reducible refine wt_test ?_ | with_reducible refine wt_B ?_ | with_reducible refine wt_not ?_ | with_reducible refine wt_and ?_ | with_reducible refine wt_or ?_ | with_reducible refine wd_ifE ?_ | with_reducible refine wd_andV ?_ | with_reducible refine wd_orV ?_ | with_reducible refine wd_notV ?_
  | with_reducible refine ws_seq ?_ | with_reducible refine ws_next ?_ | with_reducible refine ws_asg ?_ | with_reducible refine ws_ret ?_ | with_reducible refine ws_retN ?_ | with_reducible refine ws_if ?_ | with_reducible refine ws_par ?_ | with_reducible refine ws_unp2 ?_
  | with_reducible refine if_t ?_ | with_reducible refine if_f ?_ | with_reducible refine if_nf ?_ | with_reducible refine if_nt ?_
  | ((with_reducible show Exists _); first | refine ⟨_, kitInt _, ?_⟩ | refine ⟨_, kitBool _, ?_⟩ | refine ⟨_, kitTup _, ?_⟩ | refine ⟨_, kitList _, ?_⟩ | refine ⟨_, rfl, ?_⟩ | refine ⟨_, _, rfl, ?_⟩ | fail) | fail))
def t_slope (K : PySem.W.Frag) : TS :=
  (tSeq (tAsg (tVar 0) (gTup K 2 (gCons (gName 2) (gCons (gName 3) gNil))))
    (tSeq (tIfS (tTest (tOp rEq (tOp rAddI (tVar 1) (tC (.int 1))) (tCB (rLenX K) (tCons (tVar 2) tNil)))) (tRet (tVar 3)) tNext)
    (tSeq (tAsg (tCall (spP K TSbQ) [] E0 (tCons (tOp (rIxT K) (tOp (rIxT K) (tVar 2) (tOp rAddI (tVar 1) (tC (.int 1)))) (tC (.int 1))) (tCons (tOp (rIxT K) (tOp (rIxT K) (tVar 2) (tVar 1)) (tC (.int 1))) tNil))) (gName 4))
    (tRet (tCall (spP K TDvQ) [] E0 (tCons (tVar 4) (tCons (tCall (spP K TSbQ) [] E0 (tCons (tOp (rIxT K) (tOp (rIxT K) (tVar 2) (tOp rAddI (tVar 1) (tC (.int 1)))) (tC (.int 0))) (tCons (tOp (rIxT K) (tOp (rIxT K) (tVar 2) (tVar 1)) (tC (.int 0))) tNil))) tNil)))))))
def t_slopes (K : PySem.W.Frag) : TS :=
  (tSeq (tAsg (tLst tNil) (gName 2))
    (tSeq (tFor (iRng1 (tCons (tOp rSubI (tCB (rLenX K) (tCons (tVar 0) tNil)) (tC (.int 1))) tNil)) (gName 3) (tSeq (tAsg (tOp (rIxT K) (tVar 0) (tVar 3)) (gTup K 2 (gCons (gName 4) (gCons (gName 5) gNil))))
    (tSeq (tAsg (tOp (rIxT K) (tVar 0) (tOp rAddI (tVar 3) (tC (.int 1)))) (gTup K 2 (gCons (gName 6) (gCons (gName 7) gNil))))
    (tDrop (tBM K "list" rAppend (tVar 2) (tCons (tCall (spP K TDvQ) [] E0 (tCons (tCall (spP K TSbQ) [] E0 (tCons (tVar 7) (tCons (tVar 5) tNil))) (tCons (tCall (spP K TSbQ) [] E0 (tCons (tVar 6) (tCons (tVar 4) tNil))) tNil))) tNil))))))
    (tRet (tOp rCatL (tVar 2) (tLst (tCons (tVar 1) tNil))))))
def t_nolater (K : PySem.W.Frag) : TS :=
  (tSeq (tPar 2 3 (tCons (tC (.int 0)) (tCons (tCB (rLenX K) (tCons (tVar 0) tNil)) tNil)))
    (tSeq (tWhile (tTest (tOp rGt (tOp rSubI (tVar 3) (tVar 2)) (tC (.int 1)))) (tSeq (tAsg (tOp rDivI (tOp rAddI (tVar 2) (tVar 3)) (tC (.int 2))) (gName 4))
    (tIfS (tB (tCall (spP K TLtQ) [] E0 (tCons (tVar 1) (tCons (tOp (rIxT K) (tOp (rIxT K) (tVar 0) (tVar 4)) (tC (.int 0))) tNil)))) (tAsg (tVar 4) (gName 3)) (tAsg (tVar 4) (gName 2)))))
    (tRet (tVar 2))))
section
variable {K : PySem.W.Frag} {ds : List PyData} {Φ : PyData → Prop}
theorem sz_sub2 {a b : Rat} {B C n : Nat} (h1 : sz a ≤ B) (h2 : sz b ≤ C) (h : B + C ≤ n) : sz (a - b) ≤ n := by have := sz_sub a b; omega
theorem sz_add2 {a b : Rat} {B C n : Nat} (h1 : sz a ≤ B) (h2 : sz b ≤ C) (h : B + C ≤ n) : sz (a + b) ≤ n := by have := sz_add a b; omega
theorem sz_mul2 {a b : Rat} {B C n : Nat} (h1 : sz a ≤ B) (h2 : sz b ≤ C) (h : B + C ≤ n) : sz (a * b) ≤ n := by have := sz_mul a b; omega
theorem ws_slope (h : TSlope ds Φ) : WS K S0 (t_slope K) (rhoOf 5 ds) { nx := fun _ => Φ .none, rt := fun d _ => Φ d } := by
  obtain ⟨ks, s, i, B, rfl, L, hB, hi, hΦ⟩ := h
  show WS K S0 (t_slope K) [.dat (.tuple [knD ks, qp s]), .dat (.int i), .unk, .unk, .unk] _
  unfold t_slope
  walk_at "dl"
  refine if_b (fun he => ?_) (fun hn => ?_)
  all_goals rw [List.length_map] at *
  · walk_at "dl"
    have e : slp ks s i = s := by unfold slp; rw [if_neg (by omega)]
    rw [e] at hΦ; exact hΦ
  · have hi1 : i + 1 < ks.length := by omega
    have e : slp ks s i = ((kn ks (i + 1)).2 - (kn ks i).2) / ((kn ks (i + 1)).1 - (kn ks i).1) := by unfold slp; rw [if_pos hi1]
    rw [e] at hΦ
    have x1 := L.l.b.x i hi; have x2 := L.l.b.x (i + 1) hi1; have y1 := L.l.b.y i hi; have y2 := L.l.b.y (i + 1) hi1
    have ne := ris_step L.l.ris hi1
    have sy := sz_sub (kn ks (i + 1)).2 (kn ks i).2
    have sx := sz_sub (kn ks (i + 1)).1 (kn ks i).1
    walk_at "dl"
    refine do_ixTn (k := i + 1) (by omega) (kD_get hi1) ?_
    walk_at "dl"
    refine do_ixTn rfl (kD_get hi) ?_
    walk_at "dl"
    refine do_ixTn (k := i + 1) (by omega) (kD_get hi1) ?_
    walk_at "dl"
    refine do_ixTn rfl (kD_get hi) ?_
    walk_at "dl"
    exact hΦ
theorem ws_slopes (h : TSlopes ds Φ) : WS K S0 (t_slopes K) (rhoOf 8 ds) { nx := fun _ => Φ .none, rt := fun d _ => Φ d } := by
  obtain ⟨ks, s, B, rfl, L, ris, hp, hl, hB, hΦ⟩ := h
  show WS K S0 (t_slopes K) [.dat (knD ks), .dat (qp s), .unk, .unk, .unk, .unk, .unk, .unk] _
  unfold t_slopes
  refine ws_seq (ws_own (wa_nil ⟨Nat.zero_le _, ?_⟩))
  refine ws_seq (ws_for (wi_rng1 ?_))
  walk_at "dl"
  rw [List.length_map]
  refine ⟨by omega, by omega, fun k ρ => ∃ s3 s4 s5 s6 s7 : Sl, ρ = [.dat (knD ks), .dat (qp s), .own ((List.range k).map fun i => qp (slp ks s i)), s3, s4, s5, s6, s7], ⟨_, _, _, _, _, rfl⟩, ?_, ?_⟩
  · rintro k d ρ2 hd ⟨s3, s4, s5, s6, s7, rfl⟩
    have hk : k + 1 < ks.length := by
      have := (List.getElem?_eq_some_iff.mp hd).1
      rw [List.length_map, List.length_range] at this; omega
    rw [List.getElem?_map, List.getElem?_range (by omega)] at hd
    cases hd
    have x1 := L.x k (by omega); have x2 := L.x (k + 1) hk; have y1 := L.y k (by omega); have y2 := L.y (k + 1) hk
    have ne := ris_step ris hk
    have sy := sz_sub (kn ks (k + 1)).2 (kn ks k).2
    have sx := sz_sub (kn ks (k + 1)).1 (kn ks k).1
    refine ⟨_, _, gd_name, ?_⟩
    walk_at "dl"
    refine do_ixTn (k := k) (by omega) (kD_get (by omega)) ?_
    refine ⟨_, _, rfl, ?_⟩
    walk_at "dl"
    refine do_ixTn (k := k + 1) (by omega) (kD_get hk) ?_
    refine ⟨_, _, rfl, ?_⟩
    refine ws_append rfl ?_
    walk_at "dl"
    refine ⟨by rw [List.length_map, List.length_range, sizeLine_eq]; omega, ?_⟩
    have e : slp ks s k = ((kn ks (k + 1)).2 - (kn ks k).2) / ((kn ks (k + 1)).1 - (kn ks k).1) := by unfold slp; rw [if_pos hk]
    have el : (List.range (k + 1)).map (fun i => qp (slp ks s i)) = (List.range k).map (fun i => qp (slp ks s i)) ++ [qp (((kn ks (k + 1)).2 - (kn ks k).2) / ((kn ks (k + 1)).1 - (kn ks k).1))] := by rw [List.range_succ, List.map_append, List.map_cons, List.map_nil, e]
    show ∃ _, _
    rw [el]
    exact ⟨_, _, _, _, _, rfl⟩
  · rintro ρ2 ⟨s3, s4, s5, s6, s7, rfl⟩
    rw [List.length_map, List.length_range]
    refine ws_frz (i := 2) rfl ?_
    walk_at "dl"
    · rw [sizeLine_eq]; simp; omega
    · have e : ((List.range ((ks.length : Int) - 1).toNat).map fun i => qp (slp ks s i)) ++ [qp s] = (List.range ks.length).map fun i => qp (slp ks s i) := by
        have e1 : ks.length = ((ks.length : Int) - 1).toNat + 1 := by omega
        have e2 : slp ks s ((ks.length : Int) - 1).toNat = s := by unfold slp; rw [if_neg (by omega)]
        conv => rhs; rw [e1, List.range_succ, List.map_append, List.map_cons, List.map_nil, e2]
      rw [e]; exact hΦ
theorem ws_nolater (h : TNoLater ds Φ) : WS K S0 (t_nolater K) (rhoOf 5 ds) { nx := fun _ => Φ .none, rt := fun d _ => Φ d } := by
  obtain ⟨ks, x, rfl, ris, hp, hl, h0, hx, hb, hΦ⟩ := h
  show WS K S0 (t_nolater K) [.dat (knD ks), .dat (qp x), .unk, .unk, .unk] _
  unfold t_nolater
  walk_at "dl"
  rw [List.length_map]
  refine ws_while (fun m ρ => ∃ (lo hi : Nat) (s4 : Sl), ρ = [.dat (knD ks), .dat (qp x), .dat (.int lo), .dat (.int hi), s4] ∧ lo < hi ∧ hi ≤ ks.length ∧ m = hi - lo ∧ (kn ks lo).1 ≤ x ∧ (hi < ks.length → x < (kn ks hi).1)) ks.length ⟨0, ks.length, _, rfl, hp, Nat.le_refl _, rfl, h0, fun h => absurd h (by omega)⟩ ?_
  rintro m ρ1 ⟨lo, hi, s4, rfl, hlh, hhl, rfl, hlo, hhi⟩
  walk_at "dl"
  refine if_b (fun hgt => ?_) (fun hle => ?_)
  · have em : ((lo : Int) + hi).fdiv 2 = (((lo + hi) / 2 : Nat) : Int) := by
      rw [Int.fdiv_eq_ediv_of_nonneg _ (by decide)]; omega
    walk_at "dl"
    rw [em]
    have m1 : lo < (lo + hi) / 2 := by omega
    have m2 : (lo + hi) / 2 < hi := by omega
    generalize (lo + hi) / 2 = mid at m1 m2 ⊢
    walk_at "dl"
    refine do_ixTn rfl (kD_get (by omega)) ?_
    have hbm := hb mid (by omega)
    walk_at "dl"
    · refine if_b (fun hlt => ?_) (fun hge => ?_)
      · walk_at "dl"
        exact ⟨mid - lo, by omega, lo, mid, _, rfl, by omega, by omega, rfl, hlo, fun _ => hlt⟩
      · walk_at "dl"
        exact ⟨hi - mid, by omega, mid, hi, _, rfl, by omega, by omega, rfl, by grind, hhi⟩
  · walk_at "dl"
    exact hΦ lo ⟨by omega, hlo, fun h => by have e : lo + 1 = hi := by omega
                                            rw [e]; exact hhi (by omega)⟩
end
end DL

set_option Elab.async false
set_option linter.all false
set_option maxRecDepth 100000
set_option maxHeartbeats 4000000
/-! LQ3: heights of lines -/
namespace DL
open PySem PySem.Spec PyProof.Rows L2
section
variable {K : PySem.W.Frag} {Ψ : PyData → Prop}
theorem eqv_qp (q r : Rat) : PyData.eqv (qp q) (qp r) = decide (q = r) := by
  have e : PyData.eqv (qp q) (qp r) = (decide (q.num = r.num) && decide ((q.den : Int) = (r.den : Int))) := eqv_pr2 q.num q.den r.num r.den
  rw [e]
  by_cases h : q = r
  · subst h; simp
  · rw [decide_eq_false h]
    by_cases h1 : q.num = r.num
    · have h2 : ¬ ((q.den : Int) = (r.den : Int)) := fun z => h (Rat.ext h1 (by omega))
      simp [h1, h2]
    · simp [h1]
theorem sh_qp (q : Rat) : SeqAt.shaped (qp q) = true := sh_pr2 (q.num, (q.den : Int))
theorem do_eqQ {q r : Rat} (h : Ψ (.bool (decide (q = r)))) : DO K (rEqD K) (qp q) (qp r) Ψ := do_eqD (sh_qp q) (sh_qp r) (by rw [eqv_qp]; exact h)
theorem do_neQ {q r : Rat} (h : Ψ (.bool (!decide (q = r)))) : DO K (rNeD K) (qp q) (qp r) Ψ := do_neD (sh_qp q) (sh_qp r) (by rw [eqv_qp]; exact h)
end
local macro_rules | `(tactic| walk_at "dl") => `(tactic| repeat' (first
  | with_reducible refine wd_isTy ?_ | with_reducible refine wd_isi ?_ | with_reducible refine wd_op ?_ | ((with_reducible show WD _ _ (tCB (rLenX _) (tCons (tVar _) tNil)) _ _); refine wd_len_scr rfl ?_) | with_reducible refine wd_cb ?_ | with_reducible refine wd_un ?_ | with_reducible refine wa_cons ?_ | with_reducible refine wa_nil ?_ | ((with_reducible show WD _ _ (tVar _) _ _); refine wd_var rfl ?_) | with_reducible refine wd_int ?_ | with_reducible refine wd_bl ?_ | with_reducible refine wd_str ?_ | with_reducible refine wd_non ?_
  | with_reducible refine do_add ?_ | with_reducible refine do_sub ?_ | ((with_reducible refine do_mod ?_ ?_); decide) | with_reducible refine do_mod ?_ ?_ | with_reducible refine do_mul ?_ ?_ | ((with_reducible refine do_div ?_ ?_); exact ⟨by decide, by decide⟩) | with_reducible refine do_div ?_ ?_ | ((with_reducible refine do_pow ?_ ?_); exact ⟨by decide, by decide, by decide⟩) | with_reducible refine do_pow ?_ ?_
  | with_reducible refine do_lt ?_ | with_reducible refine do_le ?_ | with_reducible refine do_gt ?_ | with_reducible refine do_ge ?_ | with_reducible refine du_neg ?_
  | with_reducible refine do_eqi ?_ | with_reducible refine do_nei ?_ | with_reducible refine do_eqs ?_ | with_reducible refine do_nes ?_ | with_reducible refine dc_abs ?_ | with_reducible refine dc_min ?_ | with_reducible refine dc_max ?_ | with_reducible refine dc_lenL ?_ | with_reducible refine dc_lenT ?_ | with_reducible refine dc_gcd ?_
  | ((with_reducible show DO _ (rIxT _) _ _ _); refine do_ixT rfl ?_) | ((with_reducible show DO _ (rIxL _) _ _ _); refine do_ixL rfl ?_) | ((with_reducible refine do_catL ?_ ?_); exact Nat.le_of_ble_eq_true rfl) | with_reducible refine do_catL ?_ ?_ | ((with_reducible show And (List.length _ ≤ sizeLine) _); refine ⟨Nat.le_of_ble_eq_true rfl, ?_⟩)
  | with_reducible refine wd_dnew ?_ | with_reducible refine wd_call0 ?_ | with_reducible refine wd_slA ?_ | with_reducible refine wo_part ?_ | with_reducible refine wo_none ?_ | with_reducible refine do_eqQ ?_ | with_reducible refine do_neQ ?_ | with_reducible refine wi_enumT ?_ | with_reducible refine tAdQ (by omega) (by omega) ?_ | with_reducible refine tSbQ (by omega) (by omega) ?_ | with_reducible refine tMlQ (by omega) (by omega) ?_ | with_reducible refine tDvQ (by assumption) (by omega) (by omega) ?_ | with_reducible refine tLtQ (by omega) (by omega) ?_ | with_reducible refine dc_str ?_ ?_ | with_reducible refine wd_tup ?_ | with_reducible refine wd_lst ?_ | with_reducible refine wt_test ?_ | with_reducible refine wt_B ?_ | with_reducible refine wt_not ?_ | with_reducible refine wt_and ?_ | with_reducible refine wt_or ?_ | with_reducible refine wd_ifE ?_ | with_reducible refine wd_andV ?_ | with_reducible refine wd_orV ?_ | with_reducible refine wd_notV ?_
  | with_reducible refine ws_seq ?_ | with_reducible refine ws_next ?_ | with_reducible refine ws_asg ?_ | with_reducible refine ws_ret ?_ | with_reducible refine ws_retN ?_ | with_reducible refine ws_if ?_ | with_reducible refine ws_par ?_ | with_reducible refine ws_unp2 ?_
  | with_reducible refine if_t ?_ | with_reducible refine if_f ?_ | with_reducible refine if_nf ?_ | with_reducible refine if_nt ?_
  | ((with_reducible show Exists _); first | refine ⟨_, kitInt _, ?_⟩ | refine ⟨_, kitBool _, ?_⟩ | refine ⟨_, kitTup _, ?_⟩ | refine ⟨_, kitList _, ?_⟩ | refine ⟨_, rfl, ?_⟩ | refine ⟨_, _, rfl, ?_⟩ | fail) | fail))
def t_lawy (K : PySem.W.Frag) : TS :=
  (tSeq (tAsg (tC (.int 0)) (gName 2))
    (tSeq (tFor (iEnumT K (tCons (tOp (rIxT K) (tVar 0) (tC (.int 0))) tNil)) (gTup K 2 (gCons (gName 3) (gCons (gName 4) gNil))) (tIfS (tNot (tB (tCall (spP K TLtQ) [] E0 (tCons (tVar 1) (tCons (tOp (rIxT K) (tVar 4) (tC (.int 0))) tNil))))) (tAsg (tVar 3) (gName 2)) tNext))
    (tSeq (tAsg (tOp (rIxT K) (tOp (rIxT K) (tVar 0) (tC (.int 0))) (tVar 2)) (gTup K 2 (gCons (gName 5) (gCons (gName 6) gNil))))
    (tRet (tCall (spP K TAdQ) [] E0 (tCons (tVar 6) (tCons (tCall (spP K TMlQ) [] E0 (tCons (tCall (spP K TSlope) [] E0 (tCons (tVar 0) (tCons (tVar 2) tNil))) (tCons (tCall (spP K TSbQ) [] E0 (tCons (tVar 1) (tCons (tVar 5) tNil))) tNil))) tNil)))))))
def t_behind (K : PySem.W.Frag) : TS :=
  (tRet (tOp (rIxL K) (tCall (spP K TSlopes) [] E0 (tCons (tSl (rSlA K) (tOp (rIxT K) (tVar 0) (tC (.int 0))) (tPart (tVar 1)) (tPart (tOp rAddI (tVar 1) (tC (.int 2))))) (tCons (tOp (rIxT K) (tVar 0) (tC (.int 1))) tNil))) (tC (.int 0))))
def t_height (K : PySem.W.Frag) : TS :=
  (tSeq (tAsg (tOp (rIxT K) (tOp (rIxT K) (tVar 0) (tC (.int 0))) (tVar 1)) (gTup K 2 (gCons (gName 3) (gCons (gName 4) gNil))))
    (tSeq (tIfS (tTest (tOp (rEqD K) (tVar 2) (tVar 3))) (tRet (tVar 4)) tNext)
    (tRet (tCall (spP K TAdQ) [] E0 (tCons (tVar 4) (tCons (tCall (spP K TMlQ) [] E0 (tCons (tCall (spP K TSlope) [] E0 (tCons (tVar 0) (tCons (tVar 1) tNil))) (tCons (tCall (spP K TSbQ) [] E0 (tCons (tVar 2) (tCons (tVar 3) tNil))) tNil))) tNil))))))
def t_yat (K : PySem.W.Frag) : TS :=
  (tSeq (tIfS (tTest (tOp rLt (tOp (rIxT K) (tVar 1) (tC (.int 0))) (tC (.int 0)))) tNo tNext)
    (tRet (tCall (spP K THeight) [] E0 (tCons (tVar 0) (tCons (tCall (spP K TNoLater) [] E0 (tCons (tOp (rIxT K) (tVar 0) (tC (.int 0))) (tCons (tVar 1) tNil))) (tCons (tVar 1) tNil))))))
section
variable {K : PySem.W.Frag} {ds : List PyData} {Φ : PyData → Prop}
def cutK (ks : Kn) (i : Nat) : Kn := (ks.drop i).take 2
theorem cutK_len {ks : Kn} {i : Nat} : (cutK ks i).length = min 2 (ks.length - i) := by unfold cutK; rw [List.length_take, List.length_drop]
theorem cutK_kn {ks : Kn} {i j : Nat} (h : j < (cutK ks i).length) : kn (cutK ks i) j = kn ks (i + j) := by
  rw [cutK_len] at h
  unfold kn cutK
  rw [List.getD_eq_getElem?_getD, List.getD_eq_getElem?_getD, List.getElem?_take, if_pos (by omega), List.getElem?_drop]
theorem cutK_slp {ks : Kn} {s : Rat} {i : Nat} (h : i < ks.length) : slp (cutK ks i) s 0 = slp ks s i := by
  have hl := cutK_len (ks := ks) (i := i)
  unfold slp
  by_cases e : i + 1 < ks.length
  · rw [if_pos e, if_pos (by omega), cutK_kn (by omega), cutK_kn (by omega)]; rfl
  · rw [if_neg e, if_neg (by omega)]
theorem cutD_K {ks : Kn} {i : Nat} (h : i < ks.length) : cutD (ks.map kD) (some (i : Int)) (some ((i : Int) + 2)) = (cutK ks i).map kD := by
  have e : (i : Int) + 2 = ((i + 2 : Nat) : Int) := by omega
  unfold cutD cutK
  rw [e, HT.sIx_nat, HT.sIx_nat, List.length_map, ← List.map_drop, ← List.map_take]
  congr 1
  have e1 : min i ks.length = i := Nat.min_eq_left (by omega)
  rw [e1]
  by_cases q : i + 2 ≤ ks.length
  · rw [Nat.min_eq_left q]; congr 1; omega
  · rw [Nat.min_eq_right (by omega), List.take_of_length_le (by rw [List.length_drop]; omega), List.take_of_length_le (by rw [List.length_drop]; omega)]
theorem ws_behind (h : TSlope ds Φ) : WS K S0 (t_behind K) (rhoOf 2 ds) { nx := fun _ => Φ .none, rt := fun d _ => Φ d } := by
  obtain ⟨ks, s, i, B, rfl, L, hB, hi, hΦ⟩ := h
  show WS K S0 (t_behind K) [.dat (.tuple [knD ks, qp s]), .dat (.int i)] _
  unfold t_behind
  walk_at "dl"
  have hl := cutK_len (ks := ks) (i := i)
  refine ⟨cutK ks i, s, B, by rw [cutD_K hi], ⟨fun j hj => ?_, fun j hj => ?_, L.l.b.s⟩, fun j hj => ?_, by omega, by omega, by omega, ?_⟩
  · rw [cutK_kn hj]; exact L.l.b.x _ (by omega)
  · rw [cutK_kn hj]; exact L.l.b.y _ (by omega)
  · rw [cutK_kn (by omega), cutK_kn hj]; exact L.l.ris (i + j) (by omega)
  · walk_at "dl"
    refine do_ixLn (k := 0) (d := qp (slp (cutK ks i) s 0)) rfl ?_ ?_
    · rw [List.getElem?_map, List.getElem?_range (by omega)]; rfl
    · rw [cutK_slp hi]; exact hΦ
theorem ws_height (h : THeight ds Φ) : WS K S0 (t_height K) (rhoOf 5 ds) { nx := fun _ => Φ .none, rt := fun d _ => Φ d } := by
  obtain ⟨ks, s, x, i, B, C, rfl, L, hi, hx, hB, hΦ⟩ := h
  show WS K S0 (t_height K) [.dat (.tuple [knD ks, qp s]), .dat (.int i), .dat (qp x), .unk, .unk] _
  unfold t_height
  have b0 := L.B0
  have x1 := L.l.b.x i hi; have y1 := L.l.b.y i hi
  have sl := slp_sz L.l.b L.B0 i hi
  have sx := sz_sub x (kn ks i).1
  have sm := sz_mul (slp ks s i) (x - (kn ks i).1)
  walk_at "dl"
  refine do_ixTn rfl (kD_get hi) ?_
  refine ⟨_, _, rfl, ?_⟩
  walk_at "dl"
  refine if_b (fun he => ?_) (fun hn => ?_)
  · walk_at "dl"
    have e : yOf ks s x i = (kn ks i).2 := by unfold yOf; rw [he]; grind
    rw [e] at hΦ; exact hΦ
  · walk_at "dl"
    refine ⟨ks, s, i, B, rfl, L, by omega, hi, ?_⟩
    walk_at "dl"
    exact hΦ
theorem ws_yat (h : TYat ds Φ) : WS K S0 (t_yat K) (rhoOf 2 ds) { nx := fun _ => Φ .none, rt := fun d _ => Φ d } := by
  obtain ⟨ks, s, x, B, C, rfl, L, h0, hx, hB, hΦ⟩ := h
  show WS K S0 (t_yat K) [.dat (.tuple [knD ks, qp s]), .dat (qp x)] _
  unfold t_yat
  have b0 := L.B0
  have n0 : ¬ x.num < 0 := by have := Rat.num_nonneg.mpr h0; omega
  walk_at "dl"
  refine if_b (fun he => absurd he n0) (fun _ => ?_)
  walk_at "dl"
  refine ⟨ks, x, rfl, L.l.ris, L.l.pos, L.len, by rw [L.l.fst]; exact h0, by omega, fun i hi => by have := L.l.b.x i hi; omega, fun i hat => ?_⟩
  walk_at "dl"
  exact ⟨ks, s, x, i, B, C, rfl, L, hat.lt, hx, hB, by rw [← yAt_of L.l.ris hat]; exact hΦ⟩
theorem ws_lawy (h : TYat ds Φ) : WS K S0 (t_lawy K) (rhoOf 7 ds) { nx := fun _ => Φ .none, rt := fun d _ => Φ d } := by
  obtain ⟨ks, s, x, B, C, rfl, L, h0, hx, hB, hΦ⟩ := h
  show WS K S0 (t_lawy K) [.dat (.tuple [knD ks, qp s]), .dat (qp x), .unk, .unk, .unk, .unk, .unk] _
  unfold t_lawy
  have b0 := L.B0
  have hat := lastIx_at L.l.ris L.l.pos (by rw [L.l.fst]; exact h0)
  walk_at "dl"
  refine ws_for (wi_enumT ?_)
  walk_at "dl"
  refine ⟨fun k ρ => ∃ s3 s4 s5 s6 : Sl, ρ = [.dat (.tuple [knD ks, qp s]), .dat (qp x), .dat (.int (lastIx ks x k)), s3, s4, s5, s6], ⟨_, _, _, _, rfl⟩, ?_, ?_⟩
  · rintro k d ρ2 hd ⟨s3, s4, s5, s6, rfl⟩
    rw [List.getElem?_mapIdx] at hd
    obtain ⟨d0, hd0, rfl⟩ := Option.map_eq_some_iff.mp hd
    have hk : k < ks.length := by have := (List.getElem?_eq_some_iff.mp hd0).1; rwa [List.length_map] at this
    rw [kD_get hk] at hd0; cases hd0
    have x1 := L.l.b.x k hk
    refine ⟨_, _, gd_pair, ?_⟩
    walk_at "dl"
    refine if_n (fun hn => ?_) (fun hl => ?_)
    · walk_at "dl"
      have e : lastIx ks x (k + 1) = k := by show (if x < (kn ks k).1 then _ else _) = _; rw [if_neg hn]
      show ∃ _, _
      rw [e]; exact ⟨_, _, _, _, rfl⟩
    · walk_at "dl"
      have e : lastIx ks x (k + 1) = lastIx ks x k := by show (if x < (kn ks k).1 then _ else _) = _; rw [if_pos hl]
      show ∃ _, _
      rw [e]; exact ⟨_, _, _, _, rfl⟩
  · rintro ρ2 ⟨s3, s4, s5, s6, rfl⟩
    have el : ((ks.map kD).mapIdx fun k d => PyData.tuple [.int k, d]).length = ks.length := by simp
    rw [el]
    have ya := yAt_of (s := s) L.l.ris hat
    have hi := hat.lt
    generalize lastIx ks x ks.length = i at hat ya hi ⊢
    have x1 := L.l.b.x i hi; have y1 := L.l.b.y i hi
    have sl := slp_sz L.l.b L.B0 i hi
    have sx := sz_sub x (kn ks i).1
    have sm := sz_mul (slp ks s i) (x - (kn ks i).1)
    walk_at "dl"
    refine do_ixTn rfl (kD_get hi) ?_
    refine ⟨_, _, rfl, ?_⟩
    walk_at "dl"
    refine ⟨ks, s, i, B, rfl, L, by omega, hi, ?_⟩
    walk_at "dl"
    rw [ya] at hΦ; exact hΦ
end
end DL

set_option Elab.async false
set_option linter.all false
/-! LM3: lines as they are drawn: bounds by a common bottom -/
namespace DL
/-- so many D-th parts -/
def Dv (D M : Nat) (q : Rat) : Prop := ∃ n : Int, q * (D : Rat) = (n : Rat) ∧ n.natAbs ≤ M
theorem Dv.mono {D M M' : Nat} {q : Rat} (h : Dv D M q) (k : M ≤ M') : Dv D M' q := let ⟨n, e, b⟩ := h; ⟨n, e, by omega⟩
theorem Dv.add {D M M' : Nat} {q r : Rat} (h : Dv D M q) (g : Dv D M' r) : Dv D (M + M') (q + r) := by
  obtain ⟨n, e, b⟩ := h
  obtain ⟨m, f, c⟩ := g
  exact ⟨n + m, by rw [Rat.add_mul, e, f, Rat.intCast_add], by omega⟩
theorem Dv.scale {D M : Nat} (c : Nat) {q : Rat} (h : Dv D M q) : Dv (D * c) (M * c) q := by
  obtain ⟨n, e, b⟩ := h
  refine ⟨n * c, ?_, by rw [Int.natAbs_mul]; simp; exact Nat.mul_le_mul_right c b⟩
  rw [Rat.natCast_mul, ← Rat.mul_assoc, e, Rat.intCast_mul]; rfl
theorem Dv.mul {D1 D2 M1 M2 : Nat} {q r : Rat} (h : Dv D1 M1 q) (g : Dv D2 M2 r) : Dv (D1 * D2) (M1 * M2) (q * r) := by
  obtain ⟨n, e, b⟩ := h
  obtain ⟨m, f, c⟩ := g
  refine ⟨n * m, ?_, by rw [Int.natAbs_mul]; exact Nat.mul_le_mul b c⟩
  rw [Rat.natCast_mul, Rat.intCast_mul, ← e, ← f]; grind
theorem Dv.di {a : Int} {b c : Nat} (hb : b ≠ 0) : Dv (b * c) (a.natAbs * c) (Rat.divInt a b) := by
  refine ⟨a * c, ?_, by rw [Int.natAbs_mul]; simp⟩
  have hb' : ((b : Nat) : Rat) ≠ 0 := by simpa using hb
  rw [Rat.divInt_eq_div, Rat.natCast_mul, Rat.intCast_mul, Rat.intCast_natCast, Rat.intCast_natCast, ← Rat.mul_assoc, Rat.div_mul_cancel hb']
theorem Dv.sz {D M k : Nat} {q : Rat} (h : Dv D M q) (hD : D ≠ 0) (hk : M + D < 2 ^ k) : sz q ≤ k := by
  obtain ⟨n, e, b⟩ := h
  have hD' : ((D : Nat) : Rat) ≠ 0 := by simpa using hD
  have eq : q = Rat.divInt n (D : Int) := by
    rw [Rat.divInt_eq_div, ← e, Rat.intCast_natCast, Rat.mul_div_cancel hD']
  rw [eq]
  refine sz_di (by omega) ?_
  simp; omega
theorem Dv.zero {D : Nat} : Dv D 0 0 := ⟨0, by rw [Rat.zero_mul]; rfl, by decide⟩
theorem Dv.int {n : Int} {D : Nat} : Dv D (n.natAbs * D) (n : Rat) := ⟨n * D, by rw [Rat.intCast_mul]; rfl, by rw [Int.natAbs_mul]; simp⟩
/-- the slopes that are drawn -/
structure SlopeOk (p : Nat) (s : Rat) : Prop where
  one : p = 1 → Dv 6 42 s
  more : 1 < p → ∃ m : Int, s = ((p * m : Int) : Rat) ∧ m.natAbs ≤ 7
structure StepOk (p : Nat) (t : Rat) : Prop where
  pos : 0 < t
  one : p = 1 → Dv 4 24 t
  more : 1 < p → ∃ n : Nat, t = Rat.divInt n p ∧ n ≤ 6
theorem StepOk.dv {p : Nat} {t : Rat} (h : StepOk p t) (hp : 1 ≤ p) : Dv (24 * p) 144 t := by
  by_cases e : p = 1
  · subst e
    have := (h.one rfl).scale 6
    exact this
  · obtain ⟨n, e2, hn⟩ := h.more (by omega)
    subst e2
    have := Dv.di (a := n) (b := p) (c := 24) (by omega)
    rw [Nat.mul_comm 24 p]
    exact this.mono (by simp; omega)
theorem slope_step {p : Nat} {s t : Rat} (h : SlopeOk p s) (g : StepOk p t) (hp : 1 ≤ p) : Dv (24 * p) (1008 * p) (s * t) := by
  by_cases e : p = 1
  · subst e
    exact (h.one rfl).mul (g.one rfl)
  · obtain ⟨m, e1, hm⟩ := h.more (by omega)
    obtain ⟨n, e2, hn⟩ := g.more (by omega)
    have hp0 : ((p : Nat) : Rat) ≠ 0 := by have : p ≠ 0 := by omega
                                           simpa using this
    have e3 : s * t = ((m * n : Int) : Rat) := by
      rw [e1, e2, Rat.divInt_eq_div, Rat.intCast_mul, Rat.intCast_mul, Rat.intCast_natCast, Rat.intCast_natCast]
      grind
    rw [e3]
    refine Dv.int.mono ?_
    rw [Int.natAbs_mul]
    have h1 : m.natAbs * ((n : Int)).natAbs ≤ 7 * 6 := Nat.mul_le_mul hm (by omega)
    have h2 : m.natAbs * ((n : Int)).natAbs * (24 * p) ≤ 42 * (24 * p) := Nat.mul_le_mul_right _ h1
    omega
theorem SlopeOk.sz {p : Nat} {s : Rat} (h : SlopeOk p s) (hp : 1 ≤ p) (hp2 : p ≤ 997) : sz s ≤ 13 := by
  by_cases e : p = 1
  · subst e; exact (h.one rfl).sz (by decide) (by decide)
  · obtain ⟨m, e1, hm⟩ := h.more (by omega)
    rw [e1]
    refine sz_int ?_
    rw [Int.natAbs_mul]
    have : ((p : Int)).natAbs * m.natAbs ≤ 997 * 7 := Nat.mul_le_mul (by omega) hm
    have : (2 : Nat) ^ 13 = 8192 := by decide
    omega
/-- ahead of the k-th slope -/
structure Stg (p k : Nat) (ks : Kn) (la : Option Rat) : Prop where
  len : ks.length = k + 1
  fst : (kn ks 0).1 = 0
  ris : Rising ks
  dx : ∀ i, i < ks.length → Dv (24 * p) (144 * i) (kn ks i).1
  dy : ∀ i, i < ks.length → Dv (24 * p) ((480 + 1008 * i) * p) (kn ks i).2
  nr : ∀ i, i + 2 < ks.length → slp ks 0 i ≠ slp ks 0 (i + 1)
  la : la = if k = 0 then none else some (slp ks 0 (k - 1))
/-- it bends at each knot -/
def Nrm (ks : Kn) (s : Rat) : Prop := ∀ i, i + 1 < ks.length → slp ks s i ≠ slp ks s (i + 1)
structure GoodL (m : Nat) (ks : Kn) (s : Rat) : Prop where
  l : Ln 26 ks s
  len : ks.length ≤ m
  nrm : Nrm ks s
theorem slp_lt {ks : Kn} {s t : Rat} {i : Nat} (h : i + 1 < ks.length) : slp ks s i = slp ks t i := by unfold slp; rw [if_pos h, if_pos h]
theorem slp_app {ks : Kn} {q : Rat × Rat} {s : Rat} {i : Nat} (h : i + 1 < ks.length) : slp (ks ++ [q]) s i = slp ks s i := by
  unfold slp
  rw [if_pos h, if_pos (by simp; omega), kn_append_lt h, kn_append_lt (by omega)]
theorem Stg.next {p k : Nat} {ks : Kn} {la : Option Rat} {s t : Rat} (h : Stg p k ks la) (hp : 1 ≤ p) (hs : SlopeOk p s) (ht : StepOk p t) (ne : some s ≠ la) :
    Stg p (k + 1) (ks ++ [((kn ks k).1 + t, (kn ks k).2 + s * t)]) (some s) := by
  have hl := h.len
  have ek : slp (ks ++ [((kn ks k).1 + t, (kn ks k).2 + s * t)]) 0 k = s := by
    unfold slp
    rw [if_pos (by simp; omega), kn_append_eq (by omega), kn_append_lt (by omega)]
    have := ht.pos
    grind
  refine ⟨by simp; omega, by rw [kn_append_lt (by omega)]; exact h.fst, fun i hi => ?_, fun i hi => ?_, fun i hi => ?_, fun i hi => ?_, ?_⟩
  · rw [List.length_append, List.length_singleton] at hi
    by_cases e : i + 1 < ks.length
    · rw [kn_append_lt e, kn_append_lt (by omega)]; exact h.ris i e
    · have e2 : i = k := by omega
      subst e2
      rw [kn_append_eq (i := i + 1) (by omega), kn_append_lt (i := i) (by omega)]
      have := ht.pos
      grind
  · by_cases e : i < ks.length
    · rw [kn_append_lt e]; exact h.dx i e
    · have e2 : i = k + 1 := by simp at hi; omega
      subst e2
      rw [kn_append_eq (by omega)]
      exact ((h.dx k (by omega)).add (ht.dv hp)).mono (by omega)
  · by_cases e : i < ks.length
    · rw [kn_append_lt e]; exact h.dy i e
    · have e2 : i = k + 1 := by simp at hi; omega
      subst e2
      rw [kn_append_eq (by omega)]
      refine ((h.dy k (by omega)).add (slope_step hs ht hp)).mono ?_
      have e3 : (480 + 1008 * (k + 1)) * p = (480 + 1008 * k) * p + 1008 * p := by rw [← Nat.add_mul, show 480 + 1008 * (k + 1) = 480 + 1008 * k + 1008 by omega]
      omega
  · have hi' : i + 1 < ks.length := by simp at hi; omega
    rw [slp_app hi']
    by_cases e : i + 2 < ks.length
    · rw [slp_app e]; exact h.nr i e
    · have e2 : i + 1 = k := by omega
      rw [e2, ek]
      have e3 := h.la
      rw [if_neg (by omega)] at e3
      have e4 : k - 1 = i := by omega
      rw [e4] at e3
      rw [e3] at ne
      exact fun z => ne (by rw [z])
  · rw [if_neg (by omega)]
    have e4 : k + 1 - 1 = k := by omega
    rw [e4, ek]
theorem Stg.fin {p k m : Nat} {ks : Kn} {la : Option Rat} {s : Rat} (h : Stg p k ks la) (hp : 1 ≤ p) (hp2 : p ≤ 997) (hs : SlopeOk p s) (ne : some s ≠ la) (hk : k < 60) (hm : k < m) : GoodL m ks s := by
  have hl := h.len
  have sl := hs.sz hp hp2
  refine ⟨⟨⟨fun i hi => ?_, fun i hi => ?_, by omega⟩, by omega, h.fst, h.ris⟩, by omega, fun i hi => ?_⟩
  · refine ((h.dx i hi)).sz (by omega) ?_
    have : (2 : Nat) ^ 26 = 67108864 := by decide
    omega
  · refine ((h.dy i hi)).sz (by omega) ?_
    have : (2 : Nat) ^ 26 = 67108864 := by decide
    have h1 : (480 + 1008 * i) * p ≤ (480 + 1008 * 59) * 997 := Nat.mul_le_mul (by omega) hp2
    omega
  · by_cases e : i + 2 < ks.length
    · rw [slp_lt (t := 0) hi, slp_lt (t := 0) (i := i + 1) e]; exact h.nr i e
    · have e3 := h.la
      rw [if_neg (by omega)] at e3
      have e4 : k - 1 = i := by omega
      rw [e4] at e3
      have e5 : slp ks s (i + 1) = s := by unfold slp; rw [if_neg (by omega)]
      rw [slp_lt (t := 0) hi, e5]
      rw [e3] at ne
      exact fun z => ne (by rw [z])
theorem Stg.zero {p : Nat} {y : Rat} (hy : Dv (24 * p) (480 * p) y) : Stg p 0 [(0, y)] none := by
  refine ⟨rfl, rfl, fun i hi => absurd hi (by simp), fun i hi => ?_, fun i hi => ?_, fun i hi => absurd hi (by simp), rfl⟩
  · have : i = 0 := by simp at hi; omega
    subst this; exact Dv.zero
  · have : i = 0 := by simp at hi; omega
    subst this; exact hy
structure SlopeB (p : Nat) (s : Rat) : Prop where
  one : p = 1 → Dv 6 36 s
  more : 1 < p → ∃ m : Int, s = ((m * p : Int) : Rat) ∧ m.natAbs ≤ 6
theorem SlopeB.ok {p : Nat} {s : Rat} (h : SlopeB p s) : SlopeOk p s := ⟨fun e => (h.one e).mono (by decide), fun e => let ⟨m, a, b⟩ := h.more e; ⟨m, by rw [Int.mul_comm]; exact a, by omega⟩⟩
theorem SlopeB.up {p : Nat} {s : Rat} (h : SlopeB p s) : SlopeOk p (s + ((p : Int) : Rat)) := by
  refine ⟨fun e => ?_, fun e => ?_⟩
  · subst e
    exact (h.one rfl).add (Dv.int (n := 1) (D := 6))
  · obtain ⟨m, e1, hm⟩ := h.more e
    refine ⟨m + 1, ?_, by omega⟩
    rw [e1, ← Rat.intCast_add, Int.mul_add, Int.mul_one, Int.mul_comm]
theorem SlopeB.sz {p : Nat} {s : Rat} (h : SlopeB p s) (hp : 1 ≤ p) (hp2 : p ≤ 997) : sz s ≤ 13 := h.ok.sz hp hp2
theorem ne_up {s : Rat} {p : Nat} (hp : 1 ≤ p) : some (s + ((p : Int) : Rat)) ≠ some s := fun z => by
  have h1 : s + ((p : Int) : Rat) = s := Option.some.inj z
  have h2 : (0 : Rat) < ((p : Int) : Rat) := Rat.intCast_pos.mpr (by omega)
  grind
theorem stepP {n : Int} {p : Nat} (h1 : 1 ≤ n) (h2 : n ≤ 6) (hp : 1 < p) : StepOk p (Rat.divInt n p) := by
  refine ⟨?_, fun e => absurd e (by omega), fun _ => ⟨n.toNat, by rw [Int.toNat_of_nonneg (by omega)], by omega⟩⟩
  rw [Rat.divInt_eq_div]
  have a : (0 : Rat) < ((n : Int) : Rat) := Rat.intCast_pos.mpr (by omega)
  have b : (0 : Rat) < ((p : Int) : Rat) := Rat.intCast_pos.mpr (by omega)
  rw [Rat.div_def]
  exact Rat.mul_pos a (Rat.inv_pos.mpr b)
/-! what is drawn -/
theorem slope1 {d c : Int} (h1 : -6 ≤ d) (h2 : d ≤ 6) (hc : c = 1 ∨ c = 2 ∨ c = 3) : Dv 6 36 (Rat.divInt d c) := by
  rcases hc with rfl | rfl | rfl
  · exact (Dv.di (a := d) (b := 1) (c := 6) (by decide)).mono (by omega)
  · exact (Dv.di (a := d) (b := 2) (c := 3) (by decide)).mono (by omega)
  · exact (Dv.di (a := d) (b := 3) (c := 2) (by decide)).mono (by omega)
theorem step1 {n c : Int} (h1 : 1 ≤ n) (h2 : n ≤ 6) (hc : c = 1 ∨ c = 2 ∨ c = 4) : Dv 4 24 (Rat.divInt n c) ∧ 0 < Rat.divInt n c ∧ 1 ≤ (Rat.divInt n c).num ∧ (Rat.divInt n c).num ≤ 6 := by
  have hn : n = 1 ∨ n = 2 ∨ n = 3 ∨ n = 4 ∨ n = 5 ∨ n = 6 := by omega
  refine ⟨?_, ?_⟩
  · rcases hc with rfl | rfl | rfl
    · exact (Dv.di (a := n) (b := 1) (c := 4) (by decide)).mono (by omega)
    · exact (Dv.di (a := n) (b := 2) (c := 2) (by decide)).mono (by omega)
    · exact (Dv.di (a := n) (b := 4) (c := 1) (by decide)).mono (by omega)
  · rcases hc with rfl | rfl | rfl <;> rcases hn with rfl | rfl | rfl | rfl | rfl | rfl <;> decide +kernel
theorem y0_dv {d c : Int} {p : Nat} (h1 : -20 ≤ d) (h2 : d ≤ 20) (hc : c = 1 ∨ c = 2 ∨ c = 3) : Dv (24 * p) (480 * p) (Rat.divInt d c) := by
  rcases hc with rfl | rfl | rfl
  · exact ((Dv.di (a := d) (b := 1) (c := 24) (by decide)).scale p).mono (Nat.mul_le_mul_right p (by omega))
  · exact ((Dv.di (a := d) (b := 2) (c := 12) (by decide)).scale p).mono (Nat.mul_le_mul_right p (by omega))
  · exact ((Dv.di (a := d) (b := 3) (c := 8) (by decide)).scale p).mono (Nat.mul_le_mul_right p (by omega))
/-- a slope by a prime: whole times the prime -/
theorem slopeP {d c : Int} {p : Nat} (hp : 1 < p) (h1 : -6 ≤ d) (h2 : d ≤ 6) (hc : c = 1 ∨ c = 2 ∨ c = 3) :
    (((Rat.divInt (d * p) c).num.fdiv ((Rat.divInt (d * p) c).den : Int)).fdiv p).natAbs ≤ 6 := by
  have e1 : (Rat.divInt (d * p) c).num.fdiv ((Rat.divInt (d * p) c).den : Int) = (Rat.divInt (d * p) c).floor := by
    rw [Rat.floor_def, Int.fdiv_eq_ediv_of_nonneg _ (by omega)]
  rw [e1]
  have hc0 : 1 ≤ c ∧ c ≤ 3 := by omega
  have hcr : (0 : Rat) < (c : Rat) := by have := Rat.intCast_pos.mpr (show 0 < c by omega); exact this
  have eq : Rat.divInt (d * p) c = ((d * p : Int) : Rat) / (c : Rat) := Rat.divInt_eq_div _ _
  have f1 : -6 * (p : Int) ≤ (Rat.divInt (d * p) c).floor := by
    rw [Rat.le_floor_iff, eq]
    have k1 : -6 * (p : Int) * c ≤ d * p := by
      have a1 : -6 * (p : Int) ≤ d * p := Int.mul_le_mul_of_nonneg_right h1 (by omega)
      have a2 : -6 * (p : Int) * c ≤ -6 * (p : Int) * 1 := Int.mul_le_mul_of_nonpos_left (by omega) (by omega)
      omega
    have k2 := Rat.intCast_le_intCast.mpr k1
    rw [Rat.intCast_mul] at k2
    have k3 : ((-6 * (p : Int) : Int) : Rat) * (c : Rat) ≤ ((d * p : Int) : Rat) / (c : Rat) * (c : Rat) := by
      rw [Rat.div_mul_cancel (by grind)]; exact k2
    exact Rat.le_of_mul_le_mul_right k3 hcr
  have f2 : (Rat.divInt (d * p) c).floor ≤ 6 * (p : Int) := by
    have k1 : d * p ≤ 6 * (p : Int) * c := by
      have a1 : d * (p : Int) ≤ 6 * p := Int.mul_le_mul_of_nonneg_right h2 (by omega)
      have a2 : 6 * (p : Int) * 1 ≤ 6 * (p : Int) * c := Int.mul_le_mul_of_nonneg_left (by omega) (by omega)
      omega
    have k2 := Rat.intCast_le_intCast.mpr k1
    rw [Rat.intCast_mul (6 * (p : Int)) c] at k2
    have k3 : ((d * p : Int) : Rat) / (c : Rat) * (c : Rat) ≤ ((6 * (p : Int) : Int) : Rat) * (c : Rat) := by
      rw [Rat.div_mul_cancel (by grind)]; exact k2
    have k4 := Rat.le_of_mul_le_mul_right k3 hcr
    have k5 : ((Rat.divInt (d * p) c).floor : Rat) ≤ ((6 * (p : Int) : Int) : Rat) := by
      have := Rat.floor_le (Rat.divInt (d * p) c)
      rw [eq] at this ⊢
      exact Rat.le_trans this k4
    exact Rat.intCast_le_intCast.mp k5
  generalize (Rat.divInt (d * p) c).floor = z at f1 f2 ⊢
  rw [Int.fdiv_eq_ediv_of_nonneg _ (by omega)]
  have g1 : -6 ≤ z / (p : Int) := by rw [Int.le_ediv_iff_mul_le (by omega)]; omega
  have g2 : z / (p : Int) ≤ 6 := by
    have : z / (p : Int) < 7 := by rw [Int.ediv_lt_iff_lt_mul (by omega)]; omega
    omega
  omega
end DL

set_option Elab.async false
set_option linter.all false
set_option maxRecDepth 100000
set_option maxHeartbeats 4000000
/-! LQ4: a drawn line -/
namespace DL
open PySem PySem.Spec PyProof.Rows L2
section
variable {K : PySem.W.Frag} {S : Stt} {ρ : Rho} {Φ : PyData → Rho → Prop} {Ψ : PyData → Prop}
theorem wd_take {te : TE} {i B : Nat} (hF : FPot S) (h : ρ[i]? = some (.sto B)) (f : WD K S te ρ fun x ρ1 => ∃ (m : Int) (B1 : Nat), x = .int m ∧ ρ1[i]? = some (.sto B1) ∧ 1 ≤ m ∧ m ≤ 2 ^ 40 ∧ B1 ≤ 2 ^ 40 ∧ ∀ d : Int, 0 ≤ d → d < m → Φ (.int d) (stoAll (B1 + 1) ρ1)) :
    WD K S (tCall (spS K FPot TTake) [] E0 (tCons (tVar i) (tCons te tNil))) ρ Φ :=
  wd_callS hF h (wa_cons (f.imp fun d ρ' ⟨m, B1, e, h1, h2, h3, h4, h5⟩ => wa_nil ⟨B1, h1, m, by rw [e], h2, h3, h4, h5⟩))
theorem wd_takeC {i B : Nat} {m : Int} (hF : FPot S) (h : ρ[i]? = some (.sto B)) (h1 : 1 ≤ m) (h2 : m ≤ 2 ^ 40) (h3 : B ≤ 2 ^ 40) (f : ∀ d : Int, 0 ≤ d → d < m → Φ (.int d) (stoAll (B + 1) ρ)) :
    WD K S (tCall (spS K FPot TTake) [] E0 (tCons (tVar i) (tCons (tC (.int m)) tNil))) ρ Φ :=
  wd_take hF h (wd_int ⟨m, B, rfl, h, h1, h2, h3, f⟩)
theorem wd_takeV {i j B : Nat} {m : Int} (hF : FPot S) (h : ρ[i]? = some (.sto B)) (hj : ρ[j]? = some (.dat (.int m))) (h1 : 1 ≤ m) (h2 : m ≤ 2 ^ 40) (h3 : B ≤ 2 ^ 40) (f : ∀ d : Int, 0 ≤ d → d < m → Φ (.int d) (stoAll (B + 1) ρ)) :
    WD K S (tCall (spS K FPot TTake) [] E0 (tCons (tVar i) (tCons (tVar j) tNil))) ρ Φ :=
  wd_take hF h (wd_var hj ⟨m, B, rfl, h, h1, h2, h3, f⟩)
theorem do_ix3 {a b c d : Int} (h0 : 0 ≤ d) (h3 : d < 3) (f : ∀ z : Int, z = a ∨ z = b ∨ z = c → Ψ (.int z)) : DO K (rIxL K) (.list [.int a, .int b, .int c]) (.int d) Ψ := by
  have : d = 0 ∨ d = 1 ∨ d = 2 := by omega
  rcases this with rfl | rfl | rfl
  · exact do_ixL rfl (f _ (.inl rfl))
  · exact do_ixL rfl (f _ (.inr (.inl rfl)))
  · exact do_ixL rfl (f _ (.inr (.inr rfl)))
theorem do_ix6 {a d : Int} (h0 : 0 ≤ d) (h3 : d < 6) (f : ∀ z : Int, z = 1 ∨ z = a → Ψ (.int z)) : DO K (rIxL K) (.list [.int 1, .int 1, .int 1, .int 1, .int 1, .int a]) (.int d) Ψ := by
  have : d = 0 ∨ d = 1 ∨ d = 2 ∨ d = 3 ∨ d = 4 ∨ d = 5 := by omega
  rcases this with rfl | rfl | rfl | rfl | rfl | rfl
  · exact do_ixL rfl (f _ (.inl rfl))
  · exact do_ixL rfl (f _ (.inl rfl))
  · exact do_ixL rfl (f _ (.inl rfl))
  · exact do_ixL rfl (f _ (.inl rfl))
  · exact do_ixL rfl (f _ (.inl rfl))
  · exact do_ixL rfl (f _ (.inr rfl))
theorem ws_cut {t u : TS} {En : DE} (P : Rho → Prop) (h1 : WS K S t ρ { En with nx := P }) (h2 : ∀ ρ', P ρ' → WS K S u ρ' En) : WS K S (tSeq t u) ρ En :=
  ws_seq (h1.imp (fun ρ' p => h2 ρ' p) (fun _ _ h => h) (fun _ h => h) (fun _ h => h))
theorem small80 {x : Nat} (h : x < 1000000000000) : x < 2 ^ 8000 := Nat.lt_of_lt_of_le h (Nat.le_trans (by decide : 1000000000000 ≤ 2 ^ 40) (Nat.pow_le_pow_right (by decide) (by decide)))
def oqD : Option Rat → PyData
  | none => .none
  | some q => qp q
theorem eqv_qn (q : Rat) : PyData.eqv (qp q) .none = false := rfl
theorem do_eqO {q : Rat} {o : Option Rat} (h : Ψ (.bool (decide (some q = o)))) : DO K (rEqD K) (qp q) (oqD o) Ψ := by
  cases o with
  | none => exact do_eqD (sh_qp q) rfl (by rw [show PyData.eqv (qp q) (oqD none) = false from rfl]; simpa using h)
  | some r => exact do_eqQ (by simpa using h)
/-- a row of one's own, as a tuple -/
theorem wd_tupOwn {i : Nat} {ds : List PyData} (h : ρ[i]? = some (.own ds)) (f : Φ (.tuple ds) ρ) : WD K S (tCB (rTupOf K) (tCons (tVar i) tNil)) ρ Φ := fun H0 N0 Z N σ H E Q q => by
  obtain ⟨p, xs, g1, g2, g3, g4, g5, g6, g7⟩ := E.slot i _ h
  refine ⟨_, g1, p, xs, rfl, .inl ⟨.inl (.inl g6), fun l hl => ?_⟩⟩
  have s := same_new hl (.tup xs)
  exact q _ _ ρ _ f (E.ext s) (Keep.of s) (Dq.tup (fresh_av E.trk hl) upd_same (g7.keep (Keep.of s)))
/-- the last of a row of one's own -/
theorem wd_lastOwn {i : Nat} {ds : List PyData} {e : PyData} (h : ρ[i]? = some (.own ds)) (hl : ds.getLast? = some e) (f : Φ e ρ) : WD K S (tOp (rIxL K) (tVar i) (tUn rNegI (tC (.int 1)))) ρ Φ :=
  wd_ix_own h (wd_un (wd_int (du_neg ⟨ds, -1, e, rfl, h, by
    have h0 : ds ≠ [] := fun z => by rw [z] at hl; cases hl
    have h1 : 0 < ds.length := List.length_pos_iff.mpr h0
    unfold atI ixN
    rw [if_neg (by decide), if_pos (by omega)]
    have e2 : ((-1 : Int) + (ds.length : Int)).toNat = ds.length - 1 := by omega
    rw [List.getLast?_eq_getElem?] at hl
    simpa [e2] using hl, f⟩)))
end
def TLine : Nat → List PyData → (PyData → Nat → Prop) → Prop := fun B ds Φ => ∃ m : Nat, ds = [.int m] ∧ 3 ≤ m ∧ m ≤ 60 ∧ B ≤ 2 ^ 39 ∧ ∀ ks s B', B' ≤ B + 300 → GoodL m ks s → Φ (lnD ks s) B'
local macro_rules | `(tactic| walk_at "dl") => `(tactic| repeat' (first
  | with_reducible refine wd_isTy ?_ | with_reducible refine wd_isi ?_ | with_reducible refine wd_op ?_ | ((with_reducible show WD _ _ (tCB (rLenX _) (tCons (tVar _) tNil)) _ _); refine wd_len_scr rfl ?_) | with_reducible refine wd_cb ?_ | with_reducible refine wd_un ?_ | with_reducible refine wa_cons ?_ | with_reducible refine wa_nil ?_ | ((with_reducible show WD _ _ (tVar _) _ _); refine wd_var rfl ?_) | with_reducible refine wd_int ?_ | with_reducible refine wd_bl ?_ | with_reducible refine wd_str ?_ | with_reducible refine wd_non ?_
  | with_reducible refine do_add ?_ | with_reducible refine do_sub ?_ | ((with_reducible refine do_mod ?_ ?_); decide) | with_reducible refine do_mod ?_ ?_ | with_reducible refine do_mul ?_ ?_ | ((with_reducible refine do_div ?_ ?_); exact ⟨by decide, by decide⟩) | with_reducible refine do_div ?_ ?_ | ((with_reducible refine do_pow ?_ ?_); exact ⟨by decide, by decide, by decide⟩) | with_reducible refine do_pow ?_ ?_
  | with_reducible refine do_lt ?_ | with_reducible refine do_le ?_ | with_reducible refine do_gt ?_ | with_reducible refine do_ge ?_ | with_reducible refine du_neg ?_
  | with_reducible refine do_eqi ?_ | with_reducible refine do_nei ?_ | with_reducible refine do_eqs ?_ | with_reducible refine do_nes ?_ | with_reducible refine dc_abs ?_ | with_reducible refine dc_min ?_ | with_reducible refine dc_max ?_ | with_reducible refine dc_lenL ?_ | with_reducible refine dc_lenT ?_ | with_reducible refine dc_gcd ?_
  | ((with_reducible show DO _ (rIxT _) _ _ _); refine do_ixT rfl ?_) | ((with_reducible show DO _ (rIxL _) _ _ _); refine do_ixL rfl ?_) | ((with_reducible refine do_catL ?_ ?_); exact Nat.le_of_ble_eq_true rfl) | with_reducible refine do_catL ?_ ?_ | ((with_reducible show And (List.length _ ≤ sizeLine) _); refine ⟨Nat.le_of_ble_eq_true rfl, ?_⟩)
  | with_reducible refine wd_dnew ?_ | with_reducible refine wd_call0 ?_ | with_reducible refine wd_slA ?_ | with_reducible refine wo_part ?_ | with_reducible refine wo_none ?_ | with_reducible refine do_eqQ ?_ | with_reducible refine do_neQ ?_ | with_reducible refine wi_enumT ?_ | with_reducible refine tAdQ (by omega) (by omega) ?_ | with_reducible refine tSbQ (by omega) (by omega) ?_ | with_reducible refine tMlQ (by omega) (by omega) ?_ | with_reducible refine tDvQ (by assumption) (by omega) (by omega) ?_ | with_reducible refine tLtQ (by omega) (by omega) ?_ | with_reducible refine dc_str ?_ ?_ | with_reducible refine wd_tup ?_ | with_reducible refine wd_lst ?_ | with_reducible refine wt_test ?_ | with_reducible refine wt_B ?_ | with_reducible refine wt_not ?_ | with_reducible refine wt_and ?_ | with_reducible refine wt_or ?_ | with_reducible refine wd_ifE ?_ | with_reducible refine wd_andV ?_ | with_reducible refine wd_orV ?_ | with_reducible refine wd_notV ?_
  | with_reducible refine ws_seq ?_ | with_reducible refine ws_next ?_ | with_reducible refine ws_asg ?_ | with_reducible refine ws_ret ?_ | with_reducible refine ws_retN ?_ | with_reducible refine ws_if ?_ | with_reducible refine ws_par ?_ | with_reducible refine ws_unp2 ?_
  | with_reducible refine if_t ?_ | with_reducible refine if_f ?_ | with_reducible refine if_nf ?_ | with_reducible refine if_nt ?_
  | ((with_reducible show Exists _); first | refine ⟨_, kitInt _, ?_⟩ | refine ⟨_, kitBool _, ?_⟩ | refine ⟨_, kitTup _, ?_⟩ | refine ⟨_, kitList _, ?_⟩ | refine ⟨_, rfl, ?_⟩ | refine ⟨_, _, rfl, ?_⟩ | fail) | fail))
def t_line (K : PySem.W.Frag) : TS :=
  (tSeq (tAsg (tOp (rIxL K) (tLst (tCons (tOp rAddI (tC (.int 1)) (tCall (spS K FPot TTake) [] E0 (tCons (tVar 0) (tCons (tC (.int 3)) tNil)))) (tCons (tOp rAddI (tC (.int 1)) (tCall (spS K FPot TTake) [] E0 (tCons (tVar 0) (tCons (tVar 1) tNil)))) (tCons (tVar 1) tNil)))) (tCall (spS K FPot TTake) [] E0 (tCons (tVar 0) (tCons (tC (.int 3)) tNil)))) (gName 2))
    (tSeq (tAsg (tOp (rIxL K) (tLst (tCons (tC (.int 1)) (tCons (tC (.int 1)) (tCons (tC (.int 1)) (tCons (tC (.int 1)) (tCons (tC (.int 1)) (tCons (tOp (rIxL K) (tLst (tCons (tC (.int 97)) (tCons (tC (.int 101)) (tCons (tC (.int 997)) tNil)))) (tCall (spS K FPot TTake) [] E0 (tCons (tVar 0) (tCons (tC (.int 3)) tNil)))) tNil))))))) (tCall (spS K FPot TTake) [] E0 (tCons (tVar 0) (tCons (tC (.int 6)) tNil)))) (gName 3))
    (tSeq (tAsg (tLst (tCons (tTup (tCons (tTup (tCons (tC (.int 0)) (tCons (tC (.int 1)) tNil))) (tCons (tCall (spP K TLow) [] E0 (tCons (tOp rSubI (tCall (spS K FPot TTake) [] E0 (tCons (tVar 0) (tCons (tC (.int 41)) tNil))) (tC (.int 20))) (tCons (tOp (rIxL K) (tLst (tCons (tC (.int 1)) (tCons (tC (.int 2)) (tCons (tC (.int 3)) tNil)))) (tCall (spS K FPot TTake) [] E0 (tCons (tVar 0) (tCons (tC (.int 3)) tNil)))) tNil))) tNil))) tNil)) (gName 4))
    (tSeq (tAsg (tC .non) (gName 5))
    (tSeq (tFor (iRng1 (tCons (tVar 2) tNil)) (gName 6) (tSeq (tAsg (tCall (spP K TLow) [] E0 (tCons (tOp rMulI (tOp rSubI (tCall (spS K FPot TTake) [] E0 (tCons (tVar 0) (tCons (tC (.int 13)) tNil))) (tC (.int 6))) (tVar 3)) (tCons (tOp (rIxL K) (tLst (tCons (tC (.int 1)) (tCons (tC (.int 2)) (tCons (tC (.int 3)) tNil)))) (tCall (spS K FPot TTake) [] E0 (tCons (tVar 0) (tCons (tC (.int 3)) tNil)))) tNil))) (gName 7))
    (tSeq (tIfS (tTest (tOp rGt (tVar 3) (tC (.int 1)))) (tAsg (tTup (tCons (tOp rMulI (tOp rDivI (tOp rDivI (tOp (rIxT K) (tVar 7) (tC (.int 0))) (tOp (rIxT K) (tVar 7) (tC (.int 1)))) (tVar 3)) (tVar 3)) (tCons (tC (.int 1)) tNil))) (gName 7)) tNext)
    (tSeq (tIfS (tTest (tOp (rEqD K) (tVar 7) (tVar 5))) (tAsg (tCall (spP K TAdQ) [] E0 (tCons (tVar 7) (tCons (tTup (tCons (tVar 3) (tCons (tC (.int 1)) tNil))) tNil))) (gName 7)) tNext)
    (tSeq (tAsg (tVar 7) (gName 5))
    (tIfS (tTest (tOp rLt (tOp rAddI (tVar 6) (tC (.int 1))) (tVar 2))) (tSeq (tAsg (tCall (spP K TLow) [] E0 (tCons (tOp rAddI (tC (.int 1)) (tCall (spS K FPot TTake) [] E0 (tCons (tVar 0) (tCons (tC (.int 6)) tNil)))) (tCons (tOp (rIxL K) (tLst (tCons (tC (.int 1)) (tCons (tC (.int 2)) (tCons (tC (.int 4)) tNil)))) (tCall (spS K FPot TTake) [] E0 (tCons (tVar 0) (tCons (tC (.int 3)) tNil)))) tNil))) (gName 8))
    (tSeq (tIfS (tTest (tOp rGt (tVar 3) (tC (.int 1)))) (tAsg (tCall (spP K TLow) [] E0 (tCons (tOp (rIxT K) (tVar 8) (tC (.int 0))) (tCons (tVar 3) tNil))) (gName 8)) tNext)
    (tSeq (tAsg (tOp (rIxL K) (tVar 4) (tUn rNegI (tC (.int 1)))) (gTup K 2 (gCons (gName 9) (gCons (gName 10) gNil))))
    (tDrop (tBM K "list" rAppend (tVar 4) (tCons (tTup (tCons (tCall (spP K TAdQ) [] E0 (tCons (tVar 9) (tCons (tVar 8) tNil))) (tCons (tCall (spP K TAdQ) [] E0 (tCons (tVar 10) (tCons (tCall (spP K TMlQ) [] E0 (tCons (tVar 7) (tCons (tVar 8) tNil))) tNil))) tNil))) tNil)))))) tNext))))))
    (tRet (tTup (tCons (tCB (rTupOf K) (tCons (tVar 4) tNil)) (tCons (tVar 5) tNil)))))))))
theorem kD_append (ks : Kn) (p : Rat × Rat) : ks.map kD ++ [kD p] = (ks ++ [p]).map kD := by simp
section
variable {K : PySem.W.Frag} {S : Stt} {ds : List PyData} {Φ : PyData → Nat → Prop} {B : Nat}
theorem ws_line (hF : FPot S) (h : TLine B ds Φ) : WS K S (t_line K) (.sto B :: rhoOf 10 ds) { nx := fun _ => False, rt := fun d ρ => ∃ B', ρ[0]? = some (.sto B') ∧ Φ d B' } := by
  obtain ⟨m, rfl, m3, m60, hB, hΦ⟩ := h
  show WS K S (t_line K) [.sto B, .dat (.int m), .unk, .unk, .unk, .unk, .unk, .unk, .unk, .unk, .unk] _
  unfold t_line
  have h30 : (2 : Nat) ^ 39 = 549755813888 := by decide
  have h13 : (2 : Nat) ^ 13 = 8192 := by decide
  have h40 : (2 : Nat) ^ 40 = 1099511627776 := by decide
  have h40' : (2 : Int) ^ 40 = 1099511627776 := by decide
  walk_at "dl"
  refine wd_takeC hF rfl (by decide) (by decide) (by omega) fun d1 d10 d11 => ?_
  walk_at "dl"
  refine wd_takeV hF rfl rfl (by omega) (by omega) (by omega) fun d2 d20 d21 => ?_
  walk_at "dl"
  refine wd_takeC hF rfl (by decide) (by decide) (by omega) fun d3 d30 d31 => ?_
  refine do_ix3 d30 d31 fun many hm => ?_
  obtain ⟨n, rfl, n1, n2⟩ : ∃ n : Nat, many = n ∧ 1 ≤ n ∧ n ≤ m := ⟨many.toNat, by omega, by omega, by omega⟩
  clear hm
  walk_at "dl"
  refine wd_takeC hF rfl (by decide) (by decide) (by omega) fun d4 d40 d41 => ?_
  refine do_ix3 d40 d41 fun pp hpp => ?_
  walk_at "dl"
  refine wd_takeC hF rfl (by decide) (by decide) (by omega) fun d5 d50 d51 => ?_
  refine do_ix6 d50 d51 fun pz hpz => ?_
  obtain ⟨p, rfl, p1, p2⟩ : ∃ p : Nat, pz = p ∧ 1 ≤ p ∧ p ≤ 997 := ⟨pz.toNat, by omega, by omega, by omega⟩
  clear hpz hpp
  refine ws_seq (ws_own ?_)
  walk_at "dl"
  refine wd_takeC hF rfl (by decide) (by decide) (by omega) fun d6 d60 d61 => ?_
  walk_at "dl"
  refine wd_takeC hF rfl (by decide) (by decide) (by omega) fun d7 d70 d71 => ?_
  refine do_ix3 d70 d71 fun c hc => ?_
  walk_at "dl"
  refine ⟨d6 - 20, c, rfl, by omega, small80 (by omega), small80 (by omega), ?_⟩
  have hy0 := y0_dv (p := p) (d := d6 - 20) (by omega) (by omega) hc
  generalize Rat.divInt (d6 - 20) c = y0 at hy0 ⊢
  walk_at "dl"
  refine ws_for (wi_rng1 ?_)
  walk_at "dl"
  refine ⟨by omega, by omega, fun k ρ => ∃ (B' : Nat) (ks : Kn) (la : Option Rat) (s6 s7 s8 s9 s10 : Sl), ρ = [.sto B', .dat (.int m), .dat (.int n), .dat (.int p), .own (ks.map kD), .dat (oqD la), s6, s7, s8, s9, s10] ∧ B' ≤ B + 7 + 4 * k ∧ (k < n → Stg p k ks la) ∧ (k = n → ∃ s, la = some s ∧ GoodL m ks s), ⟨_, [(0, y0)], none, _, _, _, _, _, rfl, by omega, fun _ => Stg.zero hy0, fun h => absurd h (by omega)⟩, ?_, ?_⟩
  · rintro k d ρ2 hd ⟨B', ks, la, s6, s7, s8, s9, s10, rfl, hB', hst, _⟩
    have hk : k < n := by
      have := (List.getElem?_eq_some_iff.mp hd).1
      rw [List.length_map, List.length_range] at this; omega
    rw [List.getElem?_map, List.getElem?_range (by omega)] at hd
    cases hd
    have st := hst hk
    clear hst
    refine ⟨_, _, gd_name, ?_⟩
    walk_at "dl"
    refine wd_takeC hF rfl (by decide) (by decide) (by omega) fun e1 e10 e11 => ?_
    walk_at "dl"
    · exact wide_mul (a := 20) (b := 20) (by omega) (by omega) (by decide) (by decide) (by decide)
    refine wd_takeC hF rfl (by decide) (by decide) (by omega) fun e2 e20 e21 => ?_
    refine do_ix3 e20 e21 fun c2 hc2 => ?_
    walk_at "dl"
    have hmul : ((e1 - 6) * (p : Int)).natAbs ≤ 6 * 997 := by rw [Int.natAbs_mul]; exact Nat.mul_le_mul (by omega) (by omega)
    refine ⟨_, c2, rfl, by omega, small80 (by omega), small80 (by omega), ?_⟩
    have hsz : sz (Rat.divInt ((e1 - 6) * p) c2) ≤ 13 := sz_di (by omega) (by omega)
    refine ws_cut (fun ρ => ∃ (S1 : Rat), ρ = [.sto (B' + 2), .dat (.int m), .dat (.int n), .dat (.int p), .own (ks.map kD), .dat (oqD la), .dat (.int (0 + k)), .dat (qp S1), stoS (B' + 2) (stoS (B' + 1) s8), stoS (B' + 2) (stoS (B' + 1) s9), stoS (B' + 2) (stoS (B' + 1) s10)] ∧ SlopeB p S1) ?_ ?_
    · walk_at "dl"
      refine if_b (fun hp => ?_) (fun hp => ?_)
      · have hp' : 1 < p := by omega
        have hm6 := slopeP (p := p) hp' (d := e1 - 6) (by omega) (by omega) hc2
        walk_at "dl"
        · exact ⟨den0 _, by have := log2_of (i := ((Rat.divInt ((e1 - 6) * p) c2).den : Int)) (k := 13) (by have := den_lt hsz; omega) (by decide); omega⟩
        · exact ⟨by omega, by have := log2_of (i := (p : Int)) (k := 13) (by omega) (by decide); omega⟩
        · exact wide_mul (a := 20) (b := 20) (by omega) (by omega) (by decide) (by decide) (by decide)
        · exact ⟨_, rfl, ⟨fun e => absurd e (by omega), fun _ => ⟨_, rfl, hm6⟩⟩⟩
      · have hp' : p = 1 := by omega
        walk_at "dl"
        refine ⟨fun _ => ?_, fun e => absurd e (by omega)⟩
        subst hp'
        exact slope1 (by omega) (by omega) hc2
    rintro ρ3 ⟨S1, rfl, hS1⟩
    have sz1 := hS1.sz p1 p2
    have szp : sz ((p : Int) : Rat) ≤ 13 := sz_int (by omega)
    refine ws_cut (fun ρ => ∃ (S2 : Rat) (s8 s9 s10 : Sl), ρ = [.sto (B' + 2), .dat (.int m), .dat (.int n), .dat (.int p), .own (ks.map kD), .dat (oqD la), .dat (.int (0 + k)), .dat (qp S2), s8, s9, s10] ∧ SlopeOk p S2 ∧ some S2 ≠ la) ?_ ?_
    · walk_at "dl"
      refine do_eqO ?_
      walk_at "dl"
      refine if_b (fun he => ?_) (fun hn => ?_)
      · walk_at "dl"
        show TAdQ [qp S1, qp ((p : Int) : Rat)] _
        walk_at "dl"
        exact ⟨_, _, _, _, rfl, hS1.up, by rw [← he]; exact ne_up p1⟩
      · walk_at "dl"
        exact ⟨_, _, _, _, rfl, hS1.ok, hn⟩
    rintro ρ4 ⟨S2, s8, s9, s10, rfl, hS2, hne⟩
    have sz2 := hS2.sz p1 p2
    walk_at "dl"
    refine if_b (fun hlt => ?_) (fun hge => ?_)
    · walk_at "dl"
      refine wd_takeC hF rfl (by decide) (by decide) (by omega) fun u1 u10 u11 => ?_
      walk_at "dl"
      refine wd_takeC hF rfl (by decide) (by decide) (by omega) fun u2 u20 u21 => ?_
      refine do_ix3 u20 u21 fun c3 hc3 => ?_
      walk_at "dl"
      refine ⟨_, c3, rfl, by omega, small80 (by omega), small80 (by omega), ?_⟩
      obtain ⟨t1, t2, t3, t4⟩ := step1 (n := 1 + u1) (c := c3) (by omega) (by omega) hc3
      generalize Rat.divInt (1 + u1) c3 = T0 at t1 t2 t3 t4 ⊢
      refine ws_cut (fun ρ => ∃ (T : Rat) (s9 s10 : Sl), ρ = [.sto (B' + 4), .dat (.int m), .dat (.int n), .dat (.int p), .own (ks.map kD), .dat (qp S2), .dat (.int (0 + k)), .dat (qp S2), .dat (qp T), s9, s10] ∧ StepOk p T) ?_ ?_
      · walk_at "dl"
        refine if_b (fun hp => ?_) (fun hp => ?_)
        · walk_at "dl"
          refine ⟨_, (p : Int), rfl, by omega, small80 (by omega), small80 (by omega), ?_⟩
          walk_at "dl"
          exact ⟨_, _, _, rfl, stepP t3 t4 (by omega)⟩
        · walk_at "dl"
          exact ⟨_, _, _, rfl, t2, fun _ => t1, fun e => absurd e (by omega)⟩
      rintro ρ5 ⟨T, s9, s10, rfl, hT⟩
      have szT : sz T ≤ 40 := (hT.dv p1).sz (by omega) (by omega)
      have dx := st.dx k (by have := st.len; omega)
      have dy := st.dy k (by have := st.len; omega)
      have szx : sz (kn ks k).1 ≤ 40 := dx.sz (by omega) (by omega)
      have szy : sz (kn ks k).2 ≤ 40 := dy.sz (by omega) (by
        have h1 : (480 + 1008 * k) * p ≤ (480 + 1008 * 59) * 997 := Nat.mul_le_mul (by omega) p2
        omega)
      have szm := sz_mul S2 T
      have hlast : (ks.map kD).getLast? = some (kD (kn ks k)) := by
        rw [List.getLast?_eq_getElem?, List.length_map]
        have e : ks.length - 1 = k := by have := st.len; omega
        rw [e]; exact kD_get (by have := st.len; omega)
      refine ws_seq (ws_unp2 (wd_lastOwn rfl hlast ⟨_, _, rfl, ?_⟩))
      refine ws_append rfl ?_
      walk_at "dl"
      refine ⟨by rw [List.length_map, sizeLine_eq]; have := st.len; omega, ?_⟩
      have nx := st.next p1 hS2 hT hne
      refine ⟨B' + 4, ks ++ [((kn ks k).1 + T, (kn ks k).2 + S2 * T)], some S2, _, _, _, _, _, by rw [← kD_append]; rfl, by omega, fun _ => nx, fun h => absurd h (by omega)⟩
    · walk_at "dl"
      have fin := st.fin p1 p2 hS2 hne (by omega) (m := m) (by omega)
      exact ⟨B' + 2, ks, some S2, _, _, _, _, _, rfl, by omega, fun h => absurd h (by omega), fun _ => ⟨S2, rfl, fin⟩⟩
  · rintro ρ2 ⟨B', ks, la, s6, s7, s8, s9, s10, rfl, hB', _, hfin⟩
    rw [List.length_map, List.length_range] at hB' hfin
    obtain ⟨s, rfl, hg⟩ := hfin (by omega)
    refine ws_ret (wd_tup (wa_cons (wd_tupOwn rfl ?_)))
    walk_at "dl"
    exact hΦ ks s B' (by omega) hg
end
end DL

set_option Elab.async false
set_option linter.all false
set_option maxRecDepth 100000
set_option maxHeartbeats 4000000
/-! LQ5: repr of lines; the pot; the cells; refusals told -/
namespace DL
open PySem PySem.Spec PyProof.Rows L2
/-! ### what may be shown -/
structure Rs (L D : Nat) (d : PyData) : Prop where
  s : d.showable = true
  h : d.hasDict = false
  l : d.shown.length ≤ L
  d : d.depth ≤ D
theorem Rs.mono {L D L' D' : Nat} {d : PyData} (h : Rs L D d) (h1 : L ≤ L') (h2 : D ≤ D') : Rs L' D' d := ⟨h.s, h.h, Nat.le_trans h.l h1, Nat.le_trans h.d h2⟩
theorem Rs.int {i : Int} {k : Nat} (hk : 0 < k) (h : i.natAbs < 2 ^ k) (h2 : k ≤ 1900) : Rs (k + 1) 0 (.int i) := by
  have hl : i.natAbs.log2 < k := log2_of (i := i) h hk
  exact ⟨decide_eq_true (show i.natAbs.log2 < 1920 by omega), rfl, by
    show (Str.ofString (toString i)).length ≤ k + 1
    rw [PySem.ofString_length]
    exact PySem.int_text_length_le (k := k) hk hl, Nat.le_refl _⟩
theorem Rs.lst {xs : List PyData} {L D n : Nat} (h : ∀ x ∈ xs, Rs L D x) (hn : xs.length ≤ n) : Rs (2 + n * (L + 2)) (D + 1) (.list xs) :=
  ⟨showableAll_of xs fun x hx => (h x hx).s, hasDictAll_of xs fun x hx => (h x hx).h, listText_le (fun x hx => (h x hx).l) hn, by
    show PyData.depthAll xs + 1 ≤ D + 1
    have := depthAll_of (n := D) xs fun x hx => (h x hx).d
    omega⟩
theorem Rs.tup {xs : List PyData} {L D n : Nat} (h : ∀ x ∈ xs, Rs L D x) (hn : xs.length ≤ n) : Rs (5 + n * (L + 2)) (D + 1) (.tuple xs) :=
  ⟨showableAll_of xs fun x hx => (h x hx).s, hasDictAll_of xs fun x hx => (h x hx).h, by
      show (tupleText (PyData.shownAll xs)).length ≤ _
      have h2 := piled_le (m := L) (PyData.shownAll xs) fun t ht => by
        obtain ⟨x, hx, rfl⟩ := shownAll_mem xs t ht
        exact (h x hx).l
      rw [shownAll_len] at h2
      have h3 : xs.length * (L + 2) ≤ n * (L + 2) := Nat.mul_le_mul_right _ hn
      have h4 : (Str.join ", " (PyData.shownAll xs)).length ≤ piled (PyData.shownAll xs) + 2 := by
        by_cases e : PyData.shownAll xs = []
        · rw [e]; decide
        · have := join_length_add _ e; omega
      unfold tupleText
      rw [strLen_append, strLen_append]
      have e1 : (Str.ofString "(").length = 1 := by decide
      have e2 : (Str.ofString (if ((PyData.shownAll xs).length == 1) = true then ",)" else ")" : String)).length ≤ 2 := by split <;> decide
      rw [e1]
      omega, by
    show PyData.depthAll xs + 1 ≤ D + 1
    have := depthAll_of (n := D) xs fun x hx => (h x hx).d
    omega⟩
theorem Rs.qp {q : Rat} {k : Nat} (hk : sz q ≤ k) (h2 : k ≤ 1900) : Rs (11 + 2 * k) 1 (DL.qp q) := by
  have k0 : 0 < k := Nat.lt_of_lt_of_le (sz_pos q) hk
  refine (Rs.tup (xs := [.int q.num, .int (q.den : Int)]) (L := k + 1) (D := 0) (n := 2) (fun x hx => ?_) (Nat.le_refl 2)).mono (by omega) (Nat.le_refl _)
  simp only [List.mem_cons, List.not_mem_nil, or_false] at hx
  rcases hx with rfl | rfl
  · exact Rs.int k0 (num_lt hk) h2
  · exact Rs.int k0 (by have := den_lt hk; simpa using this) h2
theorem Rs.kD {p : Rat × Rat} {k : Nat} (h1 : sz p.1 ≤ k) (h3 : sz p.2 ≤ k) (h2 : k ≤ 1900) : Rs (31 + 4 * k) 2 (DL.kD p) := by
  refine (Rs.tup (xs := [DL.qp p.1, DL.qp p.2]) (L := 11 + 2 * k) (D := 1) (n := 2) (fun x hx => ?_) (Nat.le_refl 2)).mono (by omega) (Nat.le_refl _)
  simp only [List.mem_cons, List.not_mem_nil, or_false] at hx
  rcases hx with rfl | rfl
  · exact Rs.qp h1 h2
  · exact Rs.qp h3 h2
theorem kn_mem {ks : Kn} {p : Rat × Rat} (h : p ∈ ks) : ∃ i, i < ks.length ∧ p = kn ks i := by
  obtain ⟨i, hi, e⟩ := List.getElem_of_mem h
  refine ⟨i, hi, ?_⟩
  unfold kn
  rw [List.getD_eq_getElem?_getD, List.getElem?_eq_getElem hi, ← e]; rfl
theorem Rs.knD {ks : Kn} {s : Rat} {B n : Nat} (h : KsB B ks s) (h2 : B ≤ 1900) (hn : ks.length ≤ n) : Rs (5 + n * (33 + 4 * B)) 3 (DL.knD ks) := by
  refine (Rs.tup (L := 31 + 4 * B) (D := 2) (n := n) (fun x hx => ?_) (by rw [List.length_map]; exact hn)).mono (by rw [show 31 + 4 * B + 2 = 33 + 4 * B by omega]; exact Nat.le_refl _) (Nat.le_refl _)
  obtain ⟨p, hp, rfl⟩ := List.mem_map.mp hx
  obtain ⟨i, hi, rfl⟩ := kn_mem hp
  exact Rs.kD (h.x i hi) (h.y i hi) h2
theorem Rs.lnD {ks : Kn} {s : Rat} {B n : Nat} (h : KsB B ks s) (h2 : B ≤ 1900) (hn : ks.length ≤ n) : Rs (40 + 2 * (n * (33 + 4 * B)) + 4 * B) 4 (DL.lnD ks s) := by
  refine (Rs.tup (xs := [DL.knD ks, DL.qp s]) (L := 11 + 2 * B + n * (33 + 4 * B)) (D := 3) (n := 2) (fun x hx => ?_) (Nat.le_refl 2)).mono (by omega) (Nat.le_refl _)
  simp only [List.mem_cons, List.not_mem_nil, or_false] at hx
  rcases hx with rfl | rfl
  · exact (Rs.knD h h2 hn).mono (by omega) (Nat.le_refl _)
  · exact (Rs.qp h.s h2).mono (by omega) (by decide)
section
variable {K : PySem.W.Frag} {Ψ : PyData → Prop}
theorem dc_reprS {d : PyData} {L D : Nat} (hl : (∃ ds, d = .list ds) ∨ ∃ ds, d = .tuple ds) (h : Rs L D d) (h1 : L ≤ sizeLine) (h2 : D ≤ 50) (f : Ψ (.str d.shown)) : DC K (rRepr K) [d] Ψ :=
  dc_repr hl h.s h.h (Nat.le_trans h.l h1) (Nat.le_trans h.d h2) f
end
/-! ### the pot -/
def TPot : List PyData → (List Int → Prop) → Prop := fun ds Φ => ∃ c a : Int, ds = [.int c, .int a] ∧ 0 ≤ a ∧ a ≤ 1000000 ∧ ∀ ns, PotL ns 0 → Φ ns
def t_pot (K : PySem.W.Frag) : TS :=
  (tRet (tLst (tCons (tCB rMaxX (tCons (tC (.int 0)) (tCons (tOp rSubI (tVar 0) (tOp rPowI (tC (.int 10)) (tC (.int 18)))) tNil))) (tCons (tOp rAddI (tOp rModI (tVar 0) (tC (.int 2305843009213693951))) (tOp rMulI (tC (.int 7919)) (tVar 1))) (tCons (tC (.int 0)) tNil)))))
theorem pot_run {K : PySem.W.Frag} {vs : List V} {H : Hp} {Q : VK} {E : XK} (h : spN K TPot vs H Q E) : t_pot K { nx := fun _ H' => Q .non H', rt := Q } (L2.start ["cell", "at"] vs) H := by
  obtain ⟨N, ds, Φ, ht, hd, ⟨c, a, rfl, a0, a1, hΦ⟩, hQ⟩ := h
  cases hd with
  | cons d1 d2 =>
  cases d2 with
  | cons d2 d3 =>
  cases d3
  cases d1
  cases d2
  show t_pot K { nx := fun _ H' => Q .non H', rt := Q } [some (.int c), some (.int a)] H
  obtain ⟨z1, z2⟩ := fmod_nn (i := c) (j := 2305843009213693951) (by decide)
  refine ⟨_, rfl, 10, 18, rfl, rfl, ⟨by decide, by decide, by decide⟩, c, _, rfl, rfl, 0, _, rfl, ?_⟩
  refine ⟨_, rfl, c, 2305843009213693951, rfl, rfl, (by show (2305843009213693951 : Int) ≠ 0; decide), _, rfl, 7919, a, rfl, rfl, wide_mul (a := 20) (b := 20) (by decide) (by omega) (by decide) (by decide) (by decide), _, _, rfl, rfl, ?_⟩
  refine ⟨by show 3 ≤ sizeLine; decide, fun p hp => ?_⟩
  dsimp only
  refine hQ [_, _, 0] (hΦ _ ⟨_, _, 0, rfl, ?_, ?_, ?_, by decide, by decide⟩) p _ hp (same_new hp _) upd_same
  · split <;> omega
  · omega
  · omega
/-! ### the cells, folded -/
def spF (K : PySem.W.Frag) : Sp := fun vs H Q _ => ∃ (a0 : Addr) (ns : List Int) (m : Int), vs = [.ref a0, .int m] ∧ SqL K H a0 (ns.map V.int) ∧ ns.length ≤ 63 ∧ 1 ≤ m ∧ m ≤ 1000 ∧
  ∀ cs : List Int, (cs.length : Int) ≤ m → cs.length ≤ 63 → ∀ p H', H p = none → Same H H' → H' p = some (.lst (cs.map V.int)) → Q (.ref p) H'
def t_folded (K : PySem.W.Frag) : TS :=
  (tSeq (tAsg (tOp rRepL (tLst (tCons (tC (.int 0)) tNil)) (tCB rMinX (tCons (tCB (rLenX K) (tCons (tVar 0) tNil)) (tCons (tVar 1) tNil)))) (gName 2))
    (tSeq (tFor (iRng1 (tCons (tCB (rLenX K) (tCons (tVar 0) tNil)) tNil)) (gName 3) (tAsg (tOp rAddI (tOp rMulI (tOp rModI (tOp (rIxL K) (tVar 2) (tOp rModI (tVar 3) (tVar 1))) (tOp rPowI (tC (.int 10)) (tC (.int 64)))) (tC (.int 1000003))) (tOp (rIxL K) (tVar 0) (tVar 3))) (gSub (tVar 2) (tOp rModI (tVar 3) (tVar 1)) rSetL)))
    (tRet (tVar 2))))
theorem folded_run {K : PySem.W.Frag} {vs : List V} {H : Hp} {Q : VK} {E : XK} (h : spF K vs H Q E) : t_folded K { nx := fun _ H' => Q .non H', rt := Q } (L2.start ["script", "most", "cells", "k"] vs) H := by
  obtain ⟨a0, ns, m, rfl, hs, hl, m1, m2, hQ⟩ := h
  show t_folded K { nx := fun _ H' => Q .non H', rt := Q } [some (.ref a0), some (.int m), none, none] H
  refine ⟨by show 1 ≤ sizeLine; decide, fun b hb => ?_⟩
  have e1 := same_new hb (.lst [V.int 0])
  have hs1 := e1.seq hs
  refine ⟨_, rfl, a0, _, rfl, .inl hs1, _, rfl, (ns.length : Int), m, by rw [List.length_map], ?_⟩
  obtain ⟨n, hn, n1, n2, n3⟩ : ∃ n : Nat, (if m < (ns.length : Int) then m else (ns.length : Int)) = n ∧ (n : Int) ≤ m ∧ n ≤ 63 ∧ ∀ k : Nat, k < ns.length → (k : Int).fmod m < n := by
    by_cases q : m < (ns.length : Int)
    · refine ⟨m.toNat, by rw [if_pos q]; omega, by omega, by omega, fun k hk => ?_⟩
      obtain ⟨_, z2⟩ := fmod_nn (i := (k : Int)) (j := m) (by omega)
      omega
    · refine ⟨ns.length, by rw [if_neg q], by omega, hl, fun k hk => ?_⟩
      rw [Int.fmod_eq_emod_of_nonneg _ (by omega), Int.emod_eq_of_lt (by omega) (by omega)]
      omega
  show rRepL (.ref b) (.int (if m < (ns.length : Int) then m else (ns.length : Int))) _ _
  rw [hn]
  refine ⟨b, n, [V.int 0], rfl, rfl, .inl upd_same, ⟨by omega, by omega⟩, by rw [sizeLine_eq]; simp; omega, fun p hp => ?_⟩
  have el : (List.replicate (n : Int).toNat [V.int 0]).flatten = (List.replicate n (0 : Int)).map V.int := by
    rw [Int.toNat_natCast]
    induction n with
    | zero => rfl
    | succ n ih => simp [List.replicate_succ]
  rw [el]
  have e2 := same_new hp (.lst ((List.replicate n (0 : Int)).map V.int))
  have hp0 : H p = none := by
    cases q : H p with
    | none => rfl
    | some o => rw [e1 _ _ q] at hp; cases hp
  have fr0 := e1.trans e2
  have hp2 : (upd (upd H b (.lst [V.int 0])) p (.lst ((List.replicate n (0 : Int)).map V.int))) p = some (.lst ((List.replicate n (0 : Int)).map V.int)) := upd_same
  generalize upd (upd H b (.lst [V.int 0])) p (.lst ((List.replicate n (0 : Int)).map V.int)) = H2 at e2 fr0 hp2 ⊢
  have hs2 := fr0.seq hs
  have keep : ∀ H' : Hp, (∀ b o, b ≠ p → H2 b = some o → H' b = some o) → Same H H' := fun H' k b o e => k b o (fun z => by rw [z, hp0] at e; cases e) (fr0 b o e)
  refine ⟨_, rfl, a0, _, rfl, .inl hs2, (ns.length : Int), by rw [List.length_map], by omega, by omega, ?_⟩
  refine for_range (lo := 0) (n := ns.length) (fun k σ' H' => ∃ (cs : List Int) (x3 : Option V), σ' = [some (.ref a0), some (.int m), some (.ref p), x3] ∧ cs.length = n ∧ H' p = some (.lst (cs.map V.int)) ∧ ∀ b o, b ≠ p → H2 b = some o → H' b = some o) ⟨List.replicate n 0, none, rfl, by simp, hp2, fun _ _ _ e => e⟩ ?_ ?_
  · rintro k σ' H' hk ⟨cs, x3, rfl, hcl, hcp, fr⟩
    have ss := keep H' fr
    have hs3 := ss.seq hs
    have fm : ((0 : Int) + (k : Nat)).fmod m = ((k : Int)).fmod m := by rw [Int.zero_add]
    have hj := n3 k hk
    obtain ⟨z1, z2⟩ := fmod_nn (i := (k : Int)) (j := m) (by omega)
    obtain ⟨j, ej⟩ : ∃ j : Nat, (k : Int).fmod m = j := ⟨((k : Int).fmod m).toNat, by omega⟩
    have hjn : j < cs.length := by omega
    refine ⟨_, rfl, _, rfl, _, rfl, (0 : Int) + (k : Nat), m, rfl, rfl, by omega, ?_⟩
    dsimp only
    rw [fm, ej]
    refine ⟨p, _, _, .int cs[j], rfl, rfl, .inl (.inl hcp), atI_nat (by rw [List.getElem?_map, List.getElem?_eq_getElem hjn]; rfl), ?_⟩
    refine ⟨10, 64, rfl, rfl, ⟨by decide, by decide, by decide⟩, _, _, rfl, rfl, (show (10 : Int) ^ (64 : Int).toNat ≠ 0 by decide), ?_⟩
    obtain ⟨w1, w2⟩ := fmod_nn (i := cs[j]) (j := 10 ^ (64 : Int).toNat) (by decide)
    refine ⟨_, 1000003, rfl, rfl, wide_mul (a := 220) (b := 20) ?_ (by decide) (by decide) (by decide) (by decide), ?_⟩
    · have : (10 : Int) ^ (64 : Int).toNat < 2 ^ 220 := by decide +kernel
      have e : (((2 ^ 220 : Nat)) : Int) = (2 : Int) ^ 220 := Int.natCast_pow 2 220
      omega
    refine ⟨_, rfl, _, rfl, a0, _, _, .int ns[k], rfl, rfl, hs3, by rw [Int.zero_add]; exact atI_nat (by rw [List.getElem?_map, List.getElem?_eq_getElem hk]; rfl), _, _, rfl, rfl, ?_⟩
    refine ⟨_, rfl, _, rfl, _, rfl, (0 : Int) + (k : Nat), m, rfl, rfl, by omega, ?_⟩
    dsimp only
    rw [fm, ej]
    refine ⟨p, _, _, j, rfl, rfl, hcp, ?_, ?_⟩
    · unfold ixN
      rw [if_pos (by omega), if_pos (by rw [List.length_map]; omega)]; simp
    · refine ⟨cs.set j ((cs[j].fmod (10 ^ (64 : Int).toNat)) * 1000003 + ns[k]), _, rfl, by simpa using hcl, ?_, fun b o nb e => ?_⟩
      · rw [upd_same, List.map_set]
      · rw [upd_ne nb]; exact fr b o nb e
  · rintro σ' H' ⟨cs, x3, rfl, hcl, hcp, fr⟩
    exact ⟨_, rfl, hQ cs (by omega) (by omega) p H' hp0 (keep H' fr) hcp⟩
end DL

set_option Elab.async false
set_option linter.all false
set_option maxRecDepth 100000
set_option maxHeartbeats 4000000
/-! LQ6: the word of a refusal -/
namespace DL
open PySem PySem.Spec PyProof.Rows L2
/-- a class of one's own over ValueError, made with a text -/
abbrev veBase : List Value := [.type "ValueError", .type "Exception", .type "BaseException", .type "object"]
structure ExcV (K : PySem.W.Frag) (C : Addr) : Prop where
  q : PySem.W.excIn K C veBase "ValueError.__new__" = true
  k : PySem.W.keepIn K (.ref C) = true
  s : PySem.W.subIn K (.ref C) (.type "BaseException") = some true
  t : PySem.W.typeIn K (.ref C) = some (.type "type")
def excVB (K : PySem.W.Frag) (C : Addr) : Bool := PySem.W.excIn K C veBase "ValueError.__new__" && (PySem.W.keepIn K (.ref C) && (decide (PySem.W.subIn K (.ref C) (.type "BaseException") = some true) &&
  decide (PySem.W.typeIn K (.ref C) = some (.type "type"))))
theorem excV_ok {K : PySem.W.Frag} {C : Addr} (h : excVB K C = true) : ExcV K C := by
  obtain ⟨c1, h⟩ := He.ba h
  obtain ⟨c2, h⟩ := He.ba h
  obtain ⟨c3, c4⟩ := He.ba h
  exact ⟨c1, c2, of_decide_eq_true c3, of_decide_eq_true c4⟩
/-- the classes of the refusals, by name -/
structure Cls where
  amount : Addr
  line : Addr
  table : Addr
  one : List Addr
  two : List Addr
/-- the word of one that is of the class D alone -/
structure WordOk (K : PySem.W.Frag) (c : Cls) (D : Addr) (w : Str) : Prop where
  one : PySem.W.kitAny K (.ref D) (c.one.map Value.ref) = some false
  two : PySem.W.kitAny K (.ref D) (c.two.map Value.ref) = some false
  ve : PySem.W.kitOne K (.ref D) (.type "ValueError") = some true
  kinds : ∃ (b1 b2 b3 : Bool) (j : Nat), PySem.W.kitOne K (.ref D) (.ref c.amount) = some b1 ∧ PySem.W.kitOne K (.ref D) (.ref c.line) = some b2 ∧ PySem.W.kitOne K (.ref D) (.ref c.table) = some b3 ∧
    (b1, b2, b3, j, w) ∈ [(true, false, false, 0, ("amount" : Str)), (false, true, false, 1, ("line" : Str)), (false, false, true, 2, ("table" : Str))]
def spW (K : PySem.W.Frag) (D : Addr) (w : Str) : Sp := fun vs H Q _ => ∃ a : Addr, vs = [.ref a] ∧ H a = some (.ext (excAt a (.ref D))) ∧ ∀ H', Same H H' → Q (.str w) H'
def t_word (K : PySem.W.Frag) (D A_NoAmount A_NoLine A_NoTable A_NoDays A_NoDeed A_NoFold A_NoLeave A_NoPot A_NoRule A_NoStretch A_NoTelling A_NoText A_NoCut A_NoName A_NoNumber A_NoPart A_TooLong : Addr) : TS :=
  (tSeq (tAsg (tLst (tCons (tCB (rIsiE K D) (tCons (tVar 0) (tCons (tC (.ref A_NoAmount)) tNil))) (tCons (tCB (rIsiE K D) (tCons (tVar 0) (tCons (tC (.ref A_NoLine)) tNil))) (tCons (tCB (rIsiE K D) (tCons (tVar 0) (tCons (tC (.ref A_NoTable)) tNil))) tNil)))) (gName 1))
    (tSeq (tAsg (tCB (rIsiET K D) (tCons (tVar 0) (tCons (tTup (tCons (tC (.ref A_NoDays)) (tCons (tC (.ref A_NoDeed)) (tCons (tC (.ref A_NoFold)) (tCons (tC (.ref A_NoLeave)) (tCons (tC (.ref A_NoPot)) (tCons (tC (.ref A_NoRule)) (tCons (tC (.ref A_NoStretch)) (tCons (tC (.ref A_NoTelling)) (tCons (tC (.ref A_NoText)) tNil)))))))))) tNil))) (gName 2))
    (tSeq (tAsg (tOrV (tVar 2) (tCB (rIsiET K D) (tCons (tVar 0) (tCons (tTup (tCons (tC (.ref A_NoCut)) (tCons (tC (.ref A_NoName)) (tCons (tC (.ref A_NoNumber)) (tCons (tC (.ref A_NoPart)) (tCons (tC (.ref A_TooLong)) tNil)))))) tNil)))) (gName 2))
    (tSeq (tIfS (tOr (tB (tVar 2)) (tOr (tTest (tOp rNe (tBM K "list" (rCntF K) (tVar 1) (tCons (tC (.bl true)) tNil)) (tC (.int 1)))) (tNot (tB (tCB (rIsiE K D) (tCons (tVar 0) (tCons (tC (.ty "ValueError")) tNil))))))) (tRet (tC (.str "odd"))) tNext)
    (tRet (tOp (rIxL K) (tLst (tCons (tC (.str "amount")) (tCons (tC (.str "line")) (tCons (tC (.str "table")) tNil)))) (tBM K "list" (rIndex K) (tVar 1) (tCons (tC (.bl true)) tNil))))))))
theorem run_word {K : PySem.W.Frag} {D A_NoAmount A_NoLine A_NoTable A_NoDays A_NoDeed A_NoFold A_NoLeave A_NoPot A_NoRule A_NoStretch A_NoTelling A_NoText A_NoCut A_NoName A_NoNumber A_NoPart A_TooLong : Addr} {w : Str} {vs : List V} {H : Hp} {Q : VK} {E : XK}
    (W : WordOk K ⟨A_NoAmount, A_NoLine, A_NoTable, [A_NoDays, A_NoDeed, A_NoFold, A_NoLeave, A_NoPot, A_NoRule, A_NoStretch, A_NoTelling, A_NoText], [A_NoCut, A_NoName, A_NoNumber, A_NoPart, A_TooLong]⟩ D w)
    (h : spW K D w vs H Q E) : t_word K D A_NoAmount A_NoLine A_NoTable A_NoDays A_NoDeed A_NoFold A_NoLeave A_NoPot A_NoRule A_NoStretch A_NoTelling A_NoText A_NoCut A_NoName A_NoNumber A_NoPart A_TooLong { nx := fun _ H' => Q .non H', rt := Q } (L2.start ["caught", "kinds", "strange"] vs) H := by
  obtain ⟨a, rfl, ha, hQ⟩ := h
  obtain ⟨b1, b2, b3, j, k1, k2, k3, hm⟩ := W.kinds
  show t_word _ _ _ _ _ _ _ _ _ _ _ _ _ _ _ _ _ _ _ _ [some (.ref a), none, none] H
  refine ⟨_, rfl, a, _, _, b1, rfl, .own _, ha, k1, ?_⟩
  refine ⟨_, rfl, a, _, _, b2, rfl, .own _, ha, k2, ?_⟩
  refine ⟨_, rfl, a, _, _, b3, rfl, .own _, ha, k3, ?_⟩
  refine ⟨by show 3 ≤ sizeLine; decide, fun p hp => ?_⟩
  have e1 := same_new hp (.lst [V.bl b1, .bl b2, .bl b3])
  have hp1 : (upd H p (.lst [V.bl b1, .bl b2, .bl b3])) p = some (.lst [V.bl b1, .bl b2, .bl b3]) := upd_same
  have ha1 := e1 _ _ ha
  generalize upd H p (.lst [V.bl b1, .bl b2, .bl b3]) = H1 at e1 hp1 ha1 ⊢
  refine ⟨_, rfl, by show 9 ≤ sizeLine; decide, fun t ht => ?_⟩
  have e2 := same_new ht (.tup [V.ref A_NoDays, .ref A_NoDeed, .ref A_NoFold, .ref A_NoLeave, .ref A_NoPot, .ref A_NoRule, .ref A_NoStretch, .ref A_NoTelling, .ref A_NoText])
  have ht1 : (upd H1 t (.tup [V.ref A_NoDays, .ref A_NoDeed, .ref A_NoFold, .ref A_NoLeave, .ref A_NoPot, .ref A_NoRule, .ref A_NoStretch, .ref A_NoTelling, .ref A_NoText])) t = some _ := upd_same
  have ha2 := e2 _ _ ha1
  have hp2 := e2 _ _ hp1
  have e12 := e1.trans e2
  generalize upd H1 t (.tup [V.ref A_NoDays, .ref A_NoDeed, .ref A_NoFold, .ref A_NoLeave, .ref A_NoPot, .ref A_NoRule, .ref A_NoStretch, .ref A_NoTelling, .ref A_NoText]) = H2 at e12 ht1 ha2 hp2 ⊢
  refine ⟨a, t, _, _, false, rfl, ht1, .cons (.own _) (.cons (.own _) (.cons (.own _) (.cons (.own _) (.cons (.own _) (.cons (.own _) (.cons (.own _) (.cons (.own _) (.cons (.own _) .nil)))))))), ha2, W.one, ?_⟩
  refine ⟨_, rfl, false, rfl, ?_⟩
  show (if false = true then _ else _)
  rw [if_neg Bool.false_ne_true]
  refine ⟨_, rfl, by show 5 ≤ sizeLine; decide, fun u hu => ?_⟩
  have e3 := same_new hu (.tup [V.ref A_NoCut, .ref A_NoName, .ref A_NoNumber, .ref A_NoPart, .ref A_TooLong])
  have hu1 : (upd H2 u (.tup [V.ref A_NoCut, .ref A_NoName, .ref A_NoNumber, .ref A_NoPart, .ref A_TooLong])) u = some _ := upd_same
  have ha3 := e3 _ _ ha2
  have hp3 := e3 _ _ hp2
  have e13 := e12.trans e3
  generalize upd H2 u (.tup [V.ref A_NoCut, .ref A_NoName, .ref A_NoNumber, .ref A_NoPart, .ref A_TooLong]) = H3 at e13 hu1 ha3 hp3 ⊢
  refine ⟨a, u, _, _, false, rfl, hu1, .cons (.own _) (.cons (.own _) (.cons (.own _) (.cons (.own _) (.cons (.own _) .nil)))), ha3, W.two, ?_⟩
  have cnt : [V.bl b1, .bl b2, .bl b3].countP (fun z => eqV z (.bl true)) = 1 := by
    simp only [List.mem_cons, List.not_mem_nil, or_false, Prod.mk.injEq] at hm
    rcases hm with ⟨rfl, rfl, rfl, _, _⟩ | ⟨rfl, rfl, rfl, _, _⟩ | ⟨rfl, rfl, rfl, _, _⟩ <;> decide
  dsimp only
  refine ⟨_, rfl, false, rfl, ?_⟩
  show (if false = true then _ else _)
  rw [if_neg Bool.false_ne_true]
  refine ⟨_, rfl, .inl ⟨rfl, _, .inl (.inl hp3)⟩, p, _, _, rfl, rfl, .inl (.inl hp3), rfl, rfl, ?_⟩
  rw [cnt]
  refine ⟨rfl, false, rfl, ?_⟩
  show (if false = true then _ else _)
  rw [if_neg Bool.false_ne_true]
  refine ⟨_, rfl, a, _, _, true, rfl, .ty _, ha3, W.ve, true, rfl, ?_⟩
  show (if (!true) = true then _ else _)
  rw [if_neg (by decide)]
  show tNext _ _ _
  refine ⟨by show 3 ≤ sizeLine; decide, fun r hr => ?_⟩
  have e4 := same_new hr (.lst [V.str "amount", .str "line", .str "table"])
  have hr1 : (upd H3 r (.lst [V.str "amount", .str "line", .str "table"])) r = some (.lst [V.str "amount", .str "line", .str "table"]) := upd_same
  have hp4 := e4 _ _ hp3
  have e14 := e13.trans e4
  generalize upd H3 r (.lst [V.str "amount", .str "line", .str "table"]) = H4 at e14 hr1 hp4 ⊢
  refine ⟨_, rfl, .inl ⟨rfl, _, .inl (.inl hp4)⟩, p, _, _, j, .bl true, rfl, rfl, .inl (.inl hp4), rfl, rfl, ?_⟩
  simp only [List.mem_cons, List.not_mem_nil, or_false, Prod.mk.injEq] at hm
  rcases hm with ⟨rfl, rfl, rfl, rfl, rfl⟩ | ⟨rfl, rfl, rfl, rfl, rfl⟩ | ⟨rfl, rfl, rfl, rfl, rfl⟩
  · exact ⟨rfl, rfl, fun m z' h => absurd h (by omega), r, _, 0, _, rfl, rfl, .inl (.inl hr1), rfl, hQ _ e14⟩
  · refine ⟨rfl, rfl, fun m z' h e => ?_, r, _, 1, _, rfl, rfl, .inl (.inl hr1), rfl, hQ _ e14⟩
    have : m = 0 := by omega
    subst this; cases e; rfl
  · refine ⟨rfl, rfl, fun m z' h e => ?_, r, _, 2, _, rfl, rfl, .inl (.inl hr1), rfl, hQ _ e14⟩
    have : m = 0 ∨ m = 1 := by omega
    rcases this with rfl | rfl
    · cases e; rfl
    · cases e; rfl
/-! ### a refusal of the height below nought -/
def TYx (C : Addr) : List PyData → (PyData → Prop) → (Addr → Prop) → Prop := fun ds _ Ψ => ∃ (l : PyData) (x : Rat), ds = [l, qp x] ∧ x < 0 ∧ Ψ C
def t_yatX (K : PySem.W.Frag) (C : Addr) (E : XK) : TS := tSeq (tIfS (tTest (tOp rLt (tOp (rIxT K) (tVar 1) (tC (.int 0))) (tC (.int 0)))) (fun _ σ H => E (.ref C) none H) tNext) tNo
local macro_rules | `(tactic| walk_at "dl") => `(tactic| repeat' (first
  | with_reducible refine wd_isTy ?_ | with_reducible refine wd_isi ?_ | with_reducible refine wd_op ?_ | ((with_reducible show WD _ _ (tCB (rLenX _) (tCons (tVar _) tNil)) _ _); refine wd_len_scr rfl ?_) | with_reducible refine wd_cb ?_ | with_reducible refine wd_un ?_ | with_reducible refine wa_cons ?_ | with_reducible refine wa_nil ?_ | ((with_reducible show WD _ _ (tVar _) _ _); refine wd_var rfl ?_) | with_reducible refine wd_int ?_ | with_reducible refine wd_bl ?_ | with_reducible refine wd_str ?_ | with_reducible refine wd_non ?_
  | with_reducible refine do_add ?_ | with_reducible refine do_sub ?_ | ((with_reducible refine do_mod ?_ ?_); decide) | with_reducible refine do_mod ?_ ?_ | with_reducible refine do_mul ?_ ?_ | ((with_reducible refine do_div ?_ ?_); exact ⟨by decide, by decide⟩) | with_reducible refine do_div ?_ ?_ | ((with_reducible refine do_pow ?_ ?_); exact ⟨by decide, by decide, by decide⟩) | with_reducible refine do_pow ?_ ?_
  | with_reducible refine do_lt ?_ | with_reducible refine do_le ?_ | with_reducible refine do_gt ?_ | with_reducible refine do_ge ?_ | with_reducible refine du_neg ?_
  | with_reducible refine do_eqi ?_ | with_reducible refine do_nei ?_ | with_reducible refine do_eqs ?_ | with_reducible refine do_nes ?_ | with_reducible refine dc_abs ?_ | with_reducible refine dc_min ?_ | with_reducible refine dc_max ?_ | with_reducible refine dc_lenL ?_ | with_reducible refine dc_lenT ?_ | with_reducible refine dc_gcd ?_
  | ((with_reducible show DO _ (rIxT _) _ _ _); refine do_ixT rfl ?_) | ((with_reducible show DO _ (rIxL _) _ _ _); refine do_ixL rfl ?_) | ((with_reducible refine do_catL ?_ ?_); exact Nat.le_of_ble_eq_true rfl) | with_reducible refine do_catL ?_ ?_ | ((with_reducible show And (List.length _ ≤ sizeLine) _); refine ⟨Nat.le_of_ble_eq_true rfl, ?_⟩)
  | with_reducible refine wd_dnew ?_ | with_reducible refine wd_call0 ?_ | with_reducible refine wd_slA ?_ | with_reducible refine wo_part ?_ | with_reducible refine wo_none ?_ | with_reducible refine do_eqQ ?_ | with_reducible refine do_neQ ?_ | with_reducible refine wi_enumT ?_ | with_reducible refine tAdQ (by omega) (by omega) ?_ | with_reducible refine tSbQ (by omega) (by omega) ?_ | with_reducible refine tMlQ (by omega) (by omega) ?_ | with_reducible refine tDvQ (by assumption) (by omega) (by omega) ?_ | with_reducible refine tLtQ (by omega) (by omega) ?_ | with_reducible refine dc_str ?_ ?_ | with_reducible refine wd_tup ?_ | with_reducible refine wd_lst ?_ | with_reducible refine wt_test ?_ | with_reducible refine wt_B ?_ | with_reducible refine wt_not ?_ | with_reducible refine wt_and ?_ | with_reducible refine wt_or ?_ | with_reducible refine wd_ifE ?_ | with_reducible refine wd_andV ?_ | with_reducible refine wd_orV ?_ | with_reducible refine wd_notV ?_
  | with_reducible refine ws_seq ?_ | with_reducible refine ws_next ?_ | with_reducible refine ws_asg ?_ | with_reducible refine ws_ret ?_ | with_reducible refine ws_retN ?_ | with_reducible refine ws_if ?_ | with_reducible refine ws_par ?_ | with_reducible refine ws_unp2 ?_
  | with_reducible refine if_t ?_ | with_reducible refine if_f ?_ | with_reducible refine if_nf ?_ | with_reducible refine if_nt ?_
  | ((with_reducible show Exists _); first | refine ⟨_, kitInt _, ?_⟩ | refine ⟨_, kitBool _, ?_⟩ | refine ⟨_, kitTup _, ?_⟩ | refine ⟨_, kitList _, ?_⟩ | refine ⟨_, rfl, ?_⟩ | refine ⟨_, _, rfl, ?_⟩ | fail) | fail))
theorem run_yatX {K : PySem.W.Frag} {C : Addr} {vs : List V} {H : Hp} {Q : VK} {E : XK} (h : spX K (TYx C) vs H Q E) : t_yatX K C E { nx := fun _ H' => Q .non H', rt := Q } (L2.start ["line", "x"] vs) H := by
  obtain ⟨N, ds, Φ, Ψ, ht, hd, ⟨l, x, rfl, hx, hC⟩, _, hE⟩ := h
  have wt : WT K S0 (tTest (tOp rLt (tOp (rIxT K) (tVar 1) (tC (.int 0))) (tC (.int 0)))) (rhoOf 2 [l, qp x]) fun b _ => b = true := by
    show WT K S0 _ [.dat l, .dat (qp x)] _
    walk_at "dl"
    have h1 : x.num < 0 := by
      have := Rat.num_nonneg (q := x)
      by_cases q : 0 ≤ x.num
      · have := this.mp q; grind
      · omega
    simpa using h1
  refine wt H N [] N (L2.start ["line", "x"] vs) H (env_start (Nm := ["line", "x"]) ht hd) _ fun b ρ1 H1 eb E1 k1 => ?_
  subst eb
  show (if true = true then _ else _)
  rw [if_pos rfl]
  exact hE _ hC H1 fun b o q => E1.keep b o rfl q
/-! ### told or refused -/
def TTold : List PyData → (PyData → Prop) → Prop := fun ds Φ => ∃ (l : PyData) (x : Rat), ds = [l, qp x] ∧ x < 0 ∧ Φ (.str "amount")
def ts_told (a : Addr) : TS := tAsg (tVar 4) (gName 2)
def tb_told (K : PySem.W.Frag) (C : Addr) (W : WX) : TS := tAsg (tCallS (spX K (TYx C)) (WE W) (tCons (tVar 0) (tCons (tVar 1) tNil))) (gName 3)
def te_told (K : PySem.W.Frag) (C : Addr) : TE := tIf (tTest (tOp rIsNone (tVar 2) (tC .non))) (tVar 3) (tCall (spW K C "amount") [] E0 (tCons (tVar 2) tNil))
def t_told (K : PySem.W.Frag) (C P : Addr) : TS :=
  (tSeq (tAsg (tC .non) (gName 2))
    (tSeq (tAsg (tC .non) (gName 3))
    (tSeq (fun D σ H => tb_told K C (wKeep K (.ref P) 4 ts_told D) D σ H)
    (tRet (te_told K C)))))
theorem run_told {K : PySem.W.Frag} {C P : Addr} {vs : List V} {H : Hp} {Q : VK} {E : XK} (hx : PySem.W.exmOne K (.ref C) (.ref P) = some true)
    (h : spP K TTold vs H Q E) : t_told K C P { nx := fun _ H' => Q .non H', rt := Q } (L2.start ["line", "x", "caught", "found", "e"] vs) H := by
  obtain ⟨N, ds, Φ, ht, hd, ⟨l, x, rfl, hneg, hΦ⟩, hQ⟩ := h
  cases hd with
  | cons d1 d2 =>
  cases d2 with
  | cons d2 d3 =>
  cases d3
  rename_i v0 v1
  refine ⟨_, rfl, _, rfl, N, [l, qp x], fun _ => False, fun C' => C' = C, ht, .cons d1 (.cons d2 .nil), ⟨l, x, rfl, hneg, rfl⟩, fun _ z => z.elim, fun C' e H1 sm => ?_⟩
  subst e
  refine ⟨rfl, hx, fun a hn => ⟨_, rfl, ?_⟩⟩
  show te_told K C' [some v0, some v1, some (.ref a), some .non, none] (upd H1 a (.ext (excAt a (.ref C')))) Q
  refine ⟨_, rfl, rfl, false, rfl, ?_⟩
  show (if false = true then _ else _)
  rw [if_neg Bool.false_ne_true]
  refine ⟨_, rfl, a, rfl, upd_same, fun H2 s2 => ?_⟩
  refine hQ _ hΦ _ _ (fun b o e => ?_) (Dt.str _)
  have e1 := sm b o e
  have ba : b ≠ a := fun z => by rw [z, hn] at e1; cases e1
  exact s2 b o (by rw [upd_ne ba]; exact e1)
/-! ### the line of one part -/
def TFlat : List PyData → (PyData → Prop) → Prop := fun ds Φ => ∃ y : Rat, ds = [qp y] ∧ Φ (lnD [(0, y)] 0)
def t_flat (K : PySem.W.Frag) (a_NOUGHT : Addr) : TS :=
  (tRet (tTup (tCons (tTup (tCons (tTup (tCons (tC (.ref a_NOUGHT)) (tCons (tVar 0) tNil))) tNil)) (tCons (tC (.ref a_NOUGHT)) tNil))))
theorem ws_flat {K : PySem.W.Frag} {aN : Addr} {ds : List PyData} {Φ : PyData → Prop} (hN : ∀ H : Hp, SqT K H aN [.int 0, .int 1]) (h : TFlat ds Φ) : WS K S0 (t_flat K aN) (rhoOf 1 ds) { nx := fun _ => Φ .none, rt := fun d _ => Φ d } := by
  obtain ⟨y, rfl, hΦ⟩ := h
  show WS K S0 (t_flat K aN) [.dat (qp y)] _
  unfold t_flat
  have cN : ∀ H : Hp, Dt K H (.ref aN) (qp 0) := fun H => .tup (hN H) (.cons (.int 0) (.cons (.int 1) .nil))
  refine ws_ret (wd_tup (wa_cons (wd_tup (wa_cons (wd_tup (wa_cons (wd_const cN (wa_cons (wd_var rfl (wa_nil ⟨by show 2 ≤ sizeLine; decide, ?_⟩))))))))))
  refine wa_nil ⟨by show 1 ≤ sizeLine; decide, ?_⟩
  refine wa_cons (wd_const cN (wa_nil ⟨by show 2 ≤ sizeLine; decide, ?_⟩))
  exact hΦ
end DL

set_option Elab.async false
set_option linter.all false
set_option maxRecDepth 100000
set_option maxHeartbeats 4000000
/-! LQ7: the law of heights -/
namespace DL
open PySem PySem.Spec PyProof.Rows L2
section
variable {K : PySem.W.Frag} {S : Stt} {ρ : Rho} {Φ : PyData → Rho → Prop} {Ψ : PyData → Prop}
abbrev rInt1 : List V → Hp → VK → Prop := fun xs H Q => (∃ i, xs = [.int i] ∧ Q (.int i) H) ∨ ∃ k, xs = [.bl k] ∧ Q (.int (if k then 1 else 0)) H
theorem dc_intB {b : Bool} (h : Ψ (.int (if b then 1 else 0))) : DC K rInt1 [.bool b] Ψ := fun N H _ us hu Q q => by
  cases hu with
  | cons d1 d2 =>
    cases d2
    cases d1
    exact .inr ⟨b, rfl, q _ _ H h (Same.refl H) (Dt.int _)⟩
/-- the cells of the script, folded -/
theorem wd_folded {E : XK} {i : Nat} {ns : List Int} {m : Int} (h : ρ[i]? = some (.scr ns)) (hl : ns.length ≤ 63) (m1 : 1 ≤ m) (m2 : m ≤ 1000) (f : ∀ cs : List Int, (cs.length : Int) ≤ m → cs.length ≤ 63 → Φ (.list (cs.map PyData.int)) ρ) :
    WD K S (tCall (spF K) [] E (tCons (tVar i) (tCons (tC (.int m)) tNil))) ρ Φ := fun H0 N0 Z N σ H E' Q q => by
  obtain ⟨a, h1, h2⟩ := E'.slot i _ h
  refine ⟨_, h1, a, ns, m, rfl, (Same.wo1).seq h2, hl, m1, m2, fun cs c1 c2 p H' hp sm hp' => ?_⟩
  exact q _ _ ρ H' (f cs c1 c2) (E'.ext sm) (Keep.of sm) (Dq.lst (fresh_av E'.trk hp) hp' DqAll.ints)
/-- a draw from a pot of one's own -/
theorem wd_takeO {te : TE} {i : Nat} {es : List PyData} (h : ρ[i]? = some (.own es)) (f : WD K S te ρ fun x ρ1 => ∃ (m : Int) (ns : List Int) (B : Nat), x = .int m ∧ ρ1[i]? = some (.own (ns.map PyData.int)) ∧ PotL ns B ∧ 1 ≤ m ∧ m ≤ 2 ^ 40 ∧ B ≤ 2 ^ 40 ∧ ∀ d : Int, 0 ≤ d → d < m → ∀ ns', PotL ns' (B + 1) → Φ (.int d) (ρ1.set i (.own (ns'.map PyData.int)))) :
    WD K S (tCall (spS K FPot TTake) [] E0 (tCons (tVar i) (tCons te tNil))) ρ Φ :=
  wd_callO h (wa_cons (f.imp fun d ρ' ⟨m, ns, B, e, h1, hp, h2, h3, h4, h5⟩ => wa_nil ⟨ns, B, h1, hp, m, by rw [e], h2, h3, h4, fun d d0 d1 => fun ns' hn => h5 d d0 d1 ns' hn⟩))
theorem wd_takeOC {i : Nat} {m : Int} {ns : List Int} {B : Nat} (h : ρ[i]? = some (.own (ns.map PyData.int))) (hp : PotL ns B) (h1 : 1 ≤ m) (h2 : m ≤ 2 ^ 40) (h3 : B ≤ 2 ^ 40) (f : ∀ d : Int, 0 ≤ d → d < m → ∀ ns', PotL ns' (B + 1) → Φ (.int d) (ρ.set i (.own (ns'.map PyData.int)))) :
    WD K S (tCall (spS K FPot TTake) [] E0 (tCons (tVar i) (tCons (tC (.int m)) tNil))) ρ Φ :=
  wd_takeO h (wd_int ⟨m, ns, B, rfl, h, hp, h1, h2, h3, f⟩)
theorem wt_yes {Θ : Bool → Rho → Prop} (h : Θ true ρ) : WT K S tYes ρ Θ := fun H0 N0 Z N σ H E Q q => q true ρ H h E Keep.refl
theorem do_ix2 {a b : Int} {c : Bool} (f : ∀ z : Int, z = a ∨ z = b → Ψ (.int z)) : DO K (rIxL K) (.list [.int a, .int b]) (.int (if c then 1 else 0)) Ψ := by
  cases c
  · exact do_ixL rfl (f _ (.inl rfl))
  · exact do_ixL rfl (f _ (.inr rfl))
end
local macro_rules | `(tactic| walk_at "dl") => `(tactic| repeat' (first
  | with_reducible refine wd_isTy ?_ | with_reducible refine wd_isi ?_ | with_reducible refine wd_op ?_ | ((with_reducible show WD _ _ (tCB (rLenX _) (tCons (tVar _) tNil)) _ _); refine wd_len_scr rfl ?_) | with_reducible refine wd_cb ?_ | with_reducible refine wd_un ?_ | with_reducible refine wa_cons ?_ | with_reducible refine wa_nil ?_ | ((with_reducible show WD _ _ (tVar _) _ _); refine wd_var rfl ?_) | with_reducible refine wd_int ?_ | with_reducible refine wd_bl ?_ | with_reducible refine wd_str ?_ | with_reducible refine wd_non ?_
  | with_reducible refine do_nesS ?_ | with_reducible refine dc_intB ?_ | with_reducible refine do_add ?_ | with_reducible refine do_sub ?_ | ((with_reducible refine do_mod ?_ ?_); decide) | with_reducible refine do_mod ?_ ?_ | with_reducible refine do_mul ?_ ?_ | ((with_reducible refine do_div ?_ ?_); exact ⟨by decide, by decide⟩) | with_reducible refine do_div ?_ ?_ | ((with_reducible refine do_pow ?_ ?_); exact ⟨by decide, by decide, by decide⟩) | with_reducible refine do_pow ?_ ?_
  | with_reducible refine do_lt ?_ | with_reducible refine do_le ?_ | with_reducible refine do_gt ?_ | with_reducible refine do_ge ?_ | with_reducible refine du_neg ?_
  | with_reducible refine do_eqi ?_ | with_reducible refine do_nei ?_ | with_reducible refine do_eqs ?_ | with_reducible refine do_nes ?_ | with_reducible refine dc_abs ?_ | with_reducible refine dc_min ?_ | with_reducible refine dc_max ?_ | with_reducible refine dc_lenL ?_ | with_reducible refine dc_lenT ?_ | with_reducible refine dc_gcd ?_
  | ((with_reducible show DO _ (rIxT _) _ _ _); refine do_ixT rfl ?_) | ((with_reducible show DO _ (rIxL _) _ _ _); refine do_ixL rfl ?_) | ((with_reducible refine do_catL ?_ ?_); exact Nat.le_of_ble_eq_true rfl) | with_reducible refine do_catL ?_ ?_ | ((with_reducible show And (List.length _ ≤ sizeLine) _); refine ⟨Nat.le_of_ble_eq_true rfl, ?_⟩)
  | with_reducible refine wd_dnew ?_ | with_reducible refine wd_call0 ?_ | with_reducible refine wd_slA ?_ | with_reducible refine wo_part ?_ | with_reducible refine wo_none ?_ | with_reducible refine do_eqQ ?_ | with_reducible refine do_neQ ?_ | with_reducible refine wi_enumT ?_ | with_reducible refine tAdQ (by omega) (by omega) ?_ | with_reducible refine tSbQ (by omega) (by omega) ?_ | with_reducible refine tMlQ (by omega) (by omega) ?_ | with_reducible refine tDvQ (by assumption) (by omega) (by omega) ?_ | with_reducible refine tLtQ (by omega) (by omega) ?_ | with_reducible refine dc_str ?_ ?_ | with_reducible refine wd_tup ?_ | with_reducible refine wd_lst ?_ | with_reducible refine wt_test ?_ | with_reducible refine wt_B ?_ | with_reducible refine wt_not ?_ | with_reducible refine wt_and ?_ | with_reducible refine wt_or ?_ | with_reducible refine wd_ifE ?_ | with_reducible refine wd_andV ?_ | with_reducible refine wd_orV ?_ | with_reducible refine wd_notV ?_
  | with_reducible refine ws_seq ?_ | with_reducible refine ws_next ?_ | with_reducible refine ws_asg ?_ | with_reducible refine ws_ret ?_ | with_reducible refine ws_retN ?_ | with_reducible refine ws_if ?_ | with_reducible refine ws_par ?_ | with_reducible refine ws_unp2 ?_
  | with_reducible refine if_t ?_ | with_reducible refine if_f ?_ | with_reducible refine if_nf ?_ | with_reducible refine if_nt ?_
  | ((with_reducible show Exists _); first | refine ⟨_, kitInt _, ?_⟩ | refine ⟨_, kitBool _, ?_⟩ | refine ⟨_, kitTup _, ?_⟩ | refine ⟨_, kitList _, ?_⟩ | refine ⟨_, rfl, ?_⟩ | refine ⟨_, _, rfl, ?_⟩ | fail) | fail))
def t_law7 (K : PySem.W.Frag) : TS :=
  (tSeq (tFor (iEnum K (tCons (tOp rCatL (tLst (tCons (tC (.int 0)) tNil)) (tCall (spF K) [] E0 (tCons (tVar 0) (tCons (tC (.int 20)) tNil)))) tNil)) (gTup K 2 (gCons (gName 1) (gCons (gName 2) gNil))) (tSeq (tAsg (tCall (spN K TPot) [] E0 (tCons (tVar 2) (tCons (tVar 1) tNil))) (gName 3))
    (tSeq (tAsg (tCall (spS K FPot TLine) [] E0 (tCons (tVar 3) (tCons (tOp (rIxL K) (tLst (tCons (tC (.int 12)) (tCons (tC (.int 60)) tNil))) (tCB rInt1 (tCons (tOp rEq (tVar 1) (tC (.int 1))) tNil))) tNil))) (gName 4))
    (tSeq (tAsg (tLc (iTup K (tOp (rIxT K) (tVar 4) (tC (.int 0)))) (gName 10) tYes (tOp (rIxT K) (tVar 10) (tC (.int 0))) [10]) (gName 5))
    (tSeq (tFor (iRng1 (tCons (tC (.int 4)) tNil)) (gName 6) (tSeq (tAsg (tOp (rIxL K) (tVar 5) (tCall (spS K FPot TTake) [] E0 (tCons (tVar 3) (tCons (tCB (rLenX K) (tCons (tOp (rIxT K) (tVar 4) (tC (.int 0))) tNil)) tNil)))) (gName 7))
    (tDrop (tBM K "list" rAppend (tVar 5) (tCons (tCall (spP K TAdQ) [] E0 (tCons (tVar 7) (tCons (tCall (spP K TLow) [] E0 (tCons (tCall (spS K FPot TTake) [] E0 (tCons (tVar 3) (tCons (tC (.int 9)) tNil))) (tCons (tOp (rIxL K) (tLst (tCons (tC (.int 1)) (tCons (tC (.int 7)) tNil))) (tCB rInt1 (tCons (tOp rLt (tOp (rIxT K) (tVar 7) (tC (.int 1))) (tC (.int 100))) tNil))) tNil))) tNil))) tNil)))))
    (tSeq (tAsg (tOp rCatL (tVar 5) (tLst (tCons (tCall (spP K TLow) [] E0 (tCons (tCall (spS K FPot TTake) [] E0 (tCons (tVar 3) (tCons (tOp rPowI (tC (.int 10)) (tC (.int 6))) tNil))) (tCons (tOp rAddI (tC (.int 1)) (tCall (spS K FPot TTake) [] E0 (tCons (tVar 3) (tCons (tC (.int 1000)) tNil)))) tNil))) (tCons (tTup (tCons (tOp rPowI (tC (.int 10)) (tC (.int 6))) (tCons (tC (.int 1)) tNil))) tNil)))) (gName 5))
    (tSeq (tFor (iList K (tVar 5)) (gName 8) (tIfS (tTest (tOp rNe (tCB (rRepr K) (tCons (tLst (tCons (tCall (spP K TYat) [] E0 (tCons (tVar 4) (tCons (tVar 8) tNil))) (tCons (tCall (spP K TYat) [] E0 (tCons (tVar 4) (tCons (tVar 8) tNil))) tNil))) tNil)) (tCB (rRepr K) (tCons (tLst (tCons (tCall (spP K TYat) [] E0 (tCons (tVar 4) (tCons (tVar 8) tNil))) (tCons (tCall (spP K TYat) [] E0 (tCons (tVar 4) (tCons (tVar 8) tNil))) tNil))) tNil)))) (tRet (tC (.bl false))) tNext))
    (tSeq (tIfS (tTest (tOp rNe (tCall (spP K TTold) [] E0 (tCons (tVar 4) (tCons (tCall (spP K TLow) [] E0 (tCons (tOp rSubI (tUn rNegI (tC (.int 1))) (tCall (spS K FPot TTake) [] E0 (tCons (tVar 3) (tCons (tC (.int 99)) tNil)))) (tCons (tOp rAddI (tC (.int 1)) (tCall (spS K FPot TTake) [] E0 (tCons (tVar 3) (tCons (tC (.int 99)) tNil)))) tNil))) tNil))) (tC (.str "amount")))) (tRet (tC (.bl false))) tNext)
    (tSeq (tAsg (tCall (spP K TLow) [] E0 (tCons (tOp rSubI (tCall (spS K FPot TTake) [] E0 (tCons (tVar 3) (tCons (tC (.int 2001)) tNil))) (tC (.int 1000))) (tCons (tOp rAddI (tC (.int 1)) (tCall (spS K FPot TTake) [] E0 (tCons (tVar 3) (tCons (tC (.int 1000)) tNil)))) tNil))) (gName 9))
    (tIfS (tOr (tTest (tOp rNe (tCB (rRepr K) (tCons (tCall (spP K TFlat) [] E0 (tCons (tVar 9) tNil)) tNil)) (tCB (rRepr K) (tCons (tTup (tCons (tTup (tCons (tTup (tCons (tTup (tCons (tC (.int 0)) (tCons (tC (.int 1)) tNil))) (tCons (tVar 9) tNil))) tNil)) (tCons (tTup (tCons (tC (.int 0)) (tCons (tC (.int 1)) tNil))) tNil))) tNil)))) (tTest (tOp (rNeD K) (tCall (spP K TYat) [] E0 (tCons (tCall (spP K TFlat) [] E0 (tCons (tVar 9) tNil)) (tCons (tTup (tCons (tOp rPowI (tC (.int 10)) (tC (.int 6))) (tCons (tC (.int 7)) tNil))) tNil))) (tVar 9)))) (tRet (tC (.bl false))) tNext))))))))))
    (tRet (tC (.bl true))))
theorem GoodL.lq {m : Nat} {ks : Kn} {s : Rat} (h : GoodL m ks s) (hm : m ≤ 100000) : Lq 26 ks s := ⟨h.l, Nat.le_trans h.len hm, by decide⟩
theorem Ln.nn {B : Nat} {ks : Kn} {s : Rat} (h : Ln B ks s) {i : Nat} (hi : i < ks.length) : 0 ≤ (kn ks i).1 := by
  by_cases e : i = 0
  · subst e; rw [h.fst]; exact Rat.le_refl
  · have := h.ris.lt (i := 0) (j := i) (by omega) hi
    rw [h.fst] at this; exact Rat.le_of_lt this
theorem p6 : (10 : Int) ^ (6 : Int).toNat = 1000000 := by decide
/-- the line of one part, asked -/
theorem ln1 {y : Rat} {B : Nat} (h : sz y ≤ B) (hB : 2 ≤ B) : Lq B [(0, y)] 0 := by
  have z0 := sz_zero
  have i0 : ∀ i, i < [((0 : Rat), y)].length → i = 0 := fun i hi => by simp at hi; omega
  exact ⟨⟨⟨fun i hi => by rw [i0 i hi]; show sz 0 ≤ B; omega, fun i hi => by rw [i0 i hi]; exact h, by omega⟩, Nat.zero_lt_one, rfl, fun i hi => absurd hi (by simp)⟩, by simp, by omega⟩
theorem yAt1 {y x : Rat} (hx : 0 ≤ x) : yAt [(0, y)] 0 x = y := by
  have r : Rising [((0 : Rat), y)] := fun i hi => absurd hi (by simp)
  rw [yAt_of r (i := 0) ⟨Nat.zero_lt_one, hx, fun h => absurd h (by simp)⟩]
  show y + slp [(0, y)] 0 0 * (x - 0) = y
  have e : slp [((0 : Rat), y)] 0 0 = 0 := rfl
  rw [e]; grind
theorem di_neg {a b : Int} (ha : a < 0) (hb : 0 < b) : Rat.divInt a b < 0 := by
  have h1 : ¬ (0 ≤ Rat.divInt a b) := fun z => by
    have := (Rat.divInt_nonneg_iff_of_pos_right hb).mp z
    omega
  exact Rat.not_le.mp h1
theorem q67 : qp (Rat.divInt 1000000 7) = .tuple [.int 1000000, .int 7] := by
  have e1 : (Rat.divInt 1000000 7).num = 1000000 := by decide +kernel
  have e2 : (Rat.divInt 1000000 7).den = 7 := by decide +kernel
  unfold qp
  rw [e1, e2]; rfl
/-- what is asked of -/
def Ask (x : Rat) : Prop := 0 ≤ x ∧ sz x ≤ 100
theorem ws_law7 {K : PySem.W.Frag} {ns : List Int} (hl : ns.length ≤ 63) : WS K S0 (t_law7 K) (.scr ns :: List.replicate 10 .unk) { nx := fun _ => False, rt := fun d _ => d = .bool true } := by
  show WS K S0 (t_law7 K) [.scr ns, .unk, .unk, .unk, .unk, .unk, .unk, .unk, .unk, .unk, .unk] _
  unfold t_law7
  have h5 : (2 : Nat) ^ 5 = 32 := by decide
  have h21 : (2 : Nat) ^ 21 = 2097152 := by decide
  have h39 : (2 : Nat) ^ 39 = 549755813888 := by decide
  have h40 : (2 : Nat) ^ 40 = 1099511627776 := by decide
  have h40' : (2 : Int) ^ 40 = 1099511627776 := by decide
  refine ws_seq (ws_for (wi_enum ?_))
  refine wa_cons (wd_op (wd_lst (wa_cons (wd_int (wa_nil ⟨by show 1 ≤ sizeLine; decide, ?_⟩)))))
  refine wd_folded rfl hl (by decide) (by decide) fun cs c1 c2 => ?_
  refine do_catL (by rw [sizeLine_eq]; simp; omega) ?_
  refine wa_nil ⟨_, rfl, fun k ρ => ∃ s1 s2 s3 s4 s5 s6 s7 s8 s9 s10 : Sl, ρ = [.scr ns, s1, s2, s3, s4, s5, s6, s7, s8, s9, s10], ⟨_, _, _, _, _, _, _, _, _, _, rfl⟩, ?_, ?_⟩
  · rintro k d ρ2 hd ⟨s1, s2, s3, s4, s5, s6, s7, s8, s9, s10, rfl⟩
    rw [List.getElem?_mapIdx] at hd
    obtain ⟨d0, hd0, rfl⟩ := Option.map_eq_some_iff.mp hd
    have hk : k < 64 := by
      have := (List.getElem?_eq_some_iff.mp hd0).1
      simp at this; omega
    obtain ⟨c, rfl⟩ : ∃ c : Int, d0 = .int c := by
      have hm := List.mem_of_getElem? hd0
      simp only [List.cons_append, List.nil_append, List.mem_cons, List.mem_map] at hm
      rcases hm with h | ⟨c, _, h⟩
      · exact ⟨0, h⟩
      · exact ⟨c, h.symm⟩
    refine ⟨_, _, gd_pair, ?_⟩
    refine ws_seq (ws_callN1 ?_)
    walk_at "dl"
    refine ⟨c, k, rfl, by omega, by omega, fun p0 hp0 => ?_⟩
    refine ws_seq (ws_asg (wd_callO rfl ?_))
    walk_at "dl"
    refine do_ix2 fun most hmost => ?_
    obtain ⟨m, rfl, m1, m2⟩ : ∃ m : Nat, most = m ∧ 3 ≤ m ∧ m ≤ 60 := ⟨most.toNat, by omega, by omega, by omega⟩
    refine wa_nil ⟨p0, 0, rfl, hp0, m, rfl, m1, m2, by omega, fun ks s B' hB' hg p1 hp1 => ?_⟩
    have L := hg.lq (by omega)
    have lk := hg.len
    have hpos := L.l.pos
    -- some = [knot[0] for ..]
    refine ws_seq (ws_lc (wi_tup ?_))
    walk_at "dl"
    refine ⟨by rw [List.length_map, sizeLine_eq]; omega, fun j acc ρ => acc = ((ks.take j).map fun p => p.1).map qp ∧ ρ = [.scr ns, .dat (.int k), .dat (.int c), .own (p1.map PyData.int), .dat (lnD ks s), s5, s6, s7, s8, s9, .unk], ⟨rfl, rfl⟩, ?_, ?_⟩
    · rintro j d acc ρ3 hd3 ⟨rfl, rfl⟩
      have hj : j < ks.length := by have := (List.getElem?_eq_some_iff.mp hd3).1; rwa [List.length_map] at this
      rw [kD_get hj] at hd3; cases hd3
      refine ⟨_, _, gd_name, fun j hj => hj, ?_⟩
      refine wt_yes ?_
      walk_at "dl"
      refine ⟨?_, rfl⟩
      rw [List.take_add_one, kn_get hj, Option.toList_some, List.map_append, List.map_append]; rfl
    · rintro acc ρ3 ⟨rfl, rfl⟩
      rw [List.length_map, List.take_length]
      -- four more
      refine ws_seq (ws_for (wi_rng1 ?_))
      walk_at "dl"
      refine ⟨by decide, by decide, fun j ρ => ∃ (xs : List Rat) (pn : List Int) (s6 s7 s8 s9 s10 : Sl), ρ = [.scr ns, .dat (.int k), .dat (.int c), .own (pn.map PyData.int), .dat (lnD ks s), .own (xs.map qp), s6, s7, s8, s9, s10] ∧ PotL pn (1000 + 2 * j) ∧ xs.length ≤ 60 + j ∧ (∀ i, i < ks.length → xs[i]? = some (kn ks i).1) ∧ ∀ x ∈ xs, Ask x, ⟨ks.map fun p => p.1, p1, _, _, _, _, _, rfl, hp1.mono (by omega), by rw [List.length_map]; omega, fun i hi => by rw [List.getElem?_map, kn_get hi]; rfl, fun x hx => ?_⟩, ?_, ?_⟩
      · obtain ⟨p, hp, rfl⟩ := List.mem_map.mp hx
        obtain ⟨i, hi, rfl⟩ := kn_mem hp
        exact ⟨L.l.nn hi, by have := L.l.b.x i hi; omega⟩
      · rintro j d ρ4 hd4 ⟨xs, pn, s6, s7, s8, s9, s10, rfl, hpn, hxl, hxi, hxa⟩
        have hj : j < 4 := by
          have := (List.getElem?_eq_some_iff.mp hd4).1
          rw [List.length_map, List.length_range] at this
          exact this
        refine ⟨_, _, gd_name, ?_⟩
        refine ws_seq (ws_asg (wd_ix_own rfl (wd_takeO rfl ?_)))
        walk_at "dl"
        refine ⟨_, pn, _, rfl, rfl, hpn, by rw [List.length_map]; omega, by rw [List.length_map]; omega, by omega, fun d1 d10 d11 pn1 hpn1 => ?_⟩
        rw [List.length_map] at d11
        obtain ⟨i, rfl⟩ : ∃ i : Nat, d1 = i := ⟨d1.toNat, by omega⟩
        have hi : i < ks.length := by omega
        refine ⟨_, _, qp (kn ks i).1, rfl, rfl, atI_nat (by rw [List.getElem?_map, hxi i hi]; rfl), ?_⟩
        have szn := L.l.b.x i hi
        have nnn := L.l.nn hi
        generalize (kn ks i).1 = near at szn nnn ⊢
        refine ws_append rfl ?_
        walk_at "dl"
        refine wd_takeOC rfl hpn1 (by decide) (by decide) (by omega) fun d2 d20 d21 pn2 hpn2 => ?_
        walk_at "dl"
        refine do_ix2 fun c3 hc3 => ?_
        walk_at "dl"
        refine ⟨d2, c3, rfl, by omega, small80 (by omega), small80 (by omega), ?_⟩
        have sz2 : sz (Rat.divInt d2 c3) ≤ 5 := sz_di (by omega) (by omega)
        have nn2 : 0 ≤ Rat.divInt d2 c3 := Rat.divInt_nonneg d20 (by omega)
        generalize Rat.divInt d2 c3 = more at sz2 nn2 ⊢
        have sz3 := sz_add near more
        walk_at "dl"
        refine ⟨by rw [List.length_map, sizeLine_eq]; omega, xs ++ [near + more], pn2, _, _, _, _, _, by rw [List.map_append]; rfl, hpn2.mono (by omega), by rw [List.length_append, List.length_singleton]; omega, fun i hi => ?_, fun x hx => ?_⟩
        · have hlt : i < xs.length := (List.getElem?_eq_some_iff.mp (hxi i hi)).1
          rw [List.getElem?_append_left hlt]; exact hxi i hi
        · rcases List.mem_append.mp hx with h | h
          · exact hxa x h
          · have : x = near + more := by simpa using h
            subst this
            exact ⟨Rat.add_nonneg nnn nn2, by omega⟩
      · rintro ρ4 ⟨xs, pn, s6, s7, s8, s9, s10, rfl, hpn, hxl, _, hxa⟩
        have e4 : (List.map (fun k : Nat => PyData.int (0 + k)) (List.range (4 : Int).toNat)).length = 4 := rfl
        rw [e4] at hpn hxl
        refine ws_frz (i := 5) rfl ?_
        walk_at "dl"
        refine wd_takeO rfl ?_
        walk_at "dl"
        rw [p6]
        refine ⟨_, pn, _, rfl, rfl, hpn, by decide, by decide, by omega, fun d1 d10 d11 pn1 hpn1 => ?_⟩
        walk_at "dl"
        refine wd_takeOC rfl hpn1 (by decide) (by decide) (by omega) fun d2 d20 d21 pn2 hpn2 => ?_
        walk_at "dl"
        refine ⟨d1, 1 + d2, rfl, by omega, small80 (by omega), small80 (by omega), ?_⟩
        have sz2 : sz (Rat.divInt d1 (1 + d2)) ≤ 21 := sz_di (by omega) (by omega)
        have nn2 : 0 ≤ Rat.divInt d1 (1 + d2) := Rat.divInt_nonneg d10 (by omega)
        generalize Rat.divInt d1 (1 + d2) = z at sz2 nn2 ⊢
        walk_at "dl"
        · rw [List.length_map, sizeLine_eq]; simp; omega
        have eL : xs.map qp ++ [qp z, PyData.tuple [.int (10 ^ Int.toNat 6), .int 1]] = (xs ++ [z, ((1000000 : Int) : Rat)]).map qp := by rw [List.map_append, show (10 : Int) ^ Int.toNat 6 = 1000000 from p6]; rfl
        rw [eL]
        have hya : ∀ x ∈ xs ++ [z, ((1000000 : Int) : Rat)], Ask x := fun x hx => by
          rcases List.mem_append.mp hx with h | h
          · exact hxa x h
          · simp only [List.mem_cons, List.not_mem_nil, or_false] at h
            rcases h with rfl | rfl
            · exact ⟨nn2, by omega⟩
            · exact ⟨by decide +kernel, sz_int (by decide)⟩
        generalize xs ++ [z, ((1000000 : Int) : Rat)] = ys at hya ⊢
        refine ws_for (wi_list (wd_var rfl ⟨_, rfl, fun j ρ => ∃ (s6 s7 s8 s9 s10 : Sl), ρ = [.scr ns, .dat (.int k), .dat (.int c), .own (pn2.map PyData.int), .dat (lnD ks s), .dat (.list (ys.map qp)), s6, s7, s8, s9, s10], ⟨_, _, _, _, _, rfl⟩, ?_, ?_⟩))
        · rintro j d ρ5 hd5 ⟨s6, s7, s8, s9, s10, rfl⟩
          rw [List.getElem?_map] at hd5
          obtain ⟨x, hx, rfl⟩ := Option.map_eq_some_iff.mp hd5
          obtain ⟨x0, x1⟩ := hya x (List.mem_of_getElem? hx)
          refine ⟨_, _, gd_name, ?_⟩
          walk_at "dl"
          refine ⟨ks, s, x, 26, 100, rfl, L, x0, x1, by omega, ?_⟩
          walk_at "dl"
          refine ⟨ks, s, x, 26, 100, rfl, L, x0, x1, by omega, ?_⟩
          have hat := lastIx_at L.l.ris L.l.pos (by rw [L.l.fst]; exact x0)
          have sy : sz (yAt ks s x) ≤ 256 := by
            rw [yAt_of L.l.ris hat]
            exact Nat.le_trans (yOf_sz L.l.b (by decide) hat.lt x1) (by omega)
          have rs : Rs 2000 2 (.list [qp (yAt ks s x), qp (yAt ks s x)]) := (Rs.lst (n := 2) (fun z hz => by
            have : z = qp (yAt ks s x) := by simpa using hz
            rw [this]; exact Rs.qp sy (by omega)) (by simp)).mono (by omega) (by omega)
          walk_at "dl"
          refine dc_reprS (.inl ⟨_, rfl⟩) rs (by rw [sizeLine_eq]; omega) (by omega) ?_
          walk_at "dl"
          refine ⟨ks, s, x, 26, 100, rfl, L, x0, x1, by omega, ?_⟩
          walk_at "dl"
          refine ⟨ks, s, x, 26, 100, rfl, L, x0, x1, by omega, ?_⟩
          walk_at "dl"
          refine dc_reprS (.inl ⟨_, rfl⟩) rs (by rw [sizeLine_eq]; omega) (by omega) ?_
          walk_at "dl"
          exact ⟨_, _, _, _, _, rfl⟩
        · rintro ρ5 ⟨s6, s7, s8, s9, s10, rfl⟩
          walk_at "dl"
          refine wd_takeOC rfl hpn2 (by decide) (by decide) (by omega) fun d3 d30 d31 pn3 hpn3 => ?_
          walk_at "dl"
          refine wd_takeOC rfl hpn3 (by decide) (by decide) (by omega) fun d4 d40 d41 pn4 hpn4 => ?_
          walk_at "dl"
          refine ⟨-1 - d3, 1 + d4, rfl, by omega, small80 (by omega), small80 (by omega), ?_⟩
          walk_at "dl"
          refine ⟨_, _, rfl, di_neg (by omega) (by omega), ?_⟩
          walk_at "dl"
          refine wd_takeOC rfl hpn4 (by decide) (by decide) (by omega) fun d5 d50 d51 pn5 hpn5 => ?_
          walk_at "dl"
          refine wd_takeOC rfl hpn5 (by decide) (by decide) (by omega) fun d6 d60 d61 pn6 hpn6 => ?_
          walk_at "dl"
          refine ⟨d5 - 1000, 1 + d6, rfl, by omega, small80 (by omega), small80 (by omega), ?_⟩
          have szy : sz (Rat.divInt (d5 - 1000) (1 + d6)) ≤ 21 := sz_di (by omega) (by omega)
          generalize Rat.divInt (d5 - 1000) (1 + d6) = y at szy ⊢
          have L1 := ln1 (y := y) (B := 21) szy (by omega)
          have rs : Rs 2000 4 (lnD [(0, y)] 0) := (Rs.lnD L1.l.b (by omega) (n := 1) (by simp)).mono (by omega) (by omega)
          walk_at "dl"
          refine ⟨y, rfl, ?_⟩
          walk_at "dl"
          refine dc_reprS (.inr ⟨_, rfl⟩) rs (by rw [sizeLine_eq]; omega) (by omega) ?_
          walk_at "dl"
          refine dc_reprS (d := lnD [(0, y)] 0) (.inr ⟨_, rfl⟩) rs (by rw [sizeLine_eq]; omega) (by omega) ?_
          walk_at "dl"
          refine ⟨y, rfl, ?_⟩
          walk_at "dl"
          have sz67 : sz (Rat.divInt 1000000 7) ≤ 21 := sz_di (by decide) (by decide)
          refine ⟨[(0, y)], 0, Rat.divInt 1000000 7, 21, 21, by rw [p6, q67], L1, by decide +kernel, sz67, by omega, ?_⟩
          rw [yAt1 (by decide +kernel)]
          walk_at "dl"
          rw [decide_eq_true rfl]
          walk_at "dl"
          exact ⟨_, _, _, _, _, _, _, _, _, _, rfl⟩
  · rintro ρ2 ⟨s1, s2, s3, s4, s5, s6, s7, s8, s9, s10, rfl⟩
    exact ws_ret (wd_bl rfl)
end DL

set_option Elab.async false
set_option linter.all false
set_option maxRecDepth 100000
set_option maxHeartbeats 4000000
namespace DL
open PySem PySem.Spec PyProof.Rows L2
/-- a law that asks without a store in front -/
theorem run_law0 {K : PySem.W.Frag} {n : Nat} {Nm : List Str} {ts : TS} {vs : List V} {H : Hp} {Q : VK} {E : XK} (hn : Nm.length = n + 1) (h : spLaw K vs H Q E)
    (b : ∀ ns, ns.length ≤ 63 → WS K S0 ts (.scr ns :: List.replicate n .unk) { nx := fun _ => False, rt := fun d _ => d = .bool true }) :
    ts { nx := fun _ H' => Q .non H', rt := Q } (L2.start Nm vs) H := by
  obtain ⟨a, ns, rfl, hs, hl, hQ⟩ := h
  have e0 : L2.start Nm [V.ref a] = some (.ref a) :: List.replicate n none := by
    show [some (V.ref a)] ++ List.replicate (Nm.length - 1) none = _
    rw [hn, show n + 1 - 1 = n by omega]
    rfl
  rw [e0]
  have rep : ∀ {i : Nat} {s : Sl}, (List.replicate n Sl.unk)[i]? = some s → s = .unk := fun {i s} h => by
    rw [List.getElem?_replicate] at h
    split at h
    · exact (Option.some.inj h).symm
    · cases h
  have woF : ∀ G : Hp, wo (fun _ => false) G = G := fun G => by funext b; rfl
  have E1 : EnvD K S0 (fun _ => none) (fun _ => false) [] (fun _ => false) (some (V.ref a) :: List.replicate n none) H (.scr ns :: List.replicate n .unk) := {
    keep := fun _ _ _ h => (nomatch h), base := fun _ h => (nomatch h), trk := fun _ h => (nomatch h), sub := fun _ h => (nomatch h), len := by simp, hid := fun _ h => (nomatch h), injZ := fun i j di dj p h => by simp at h
    slot := fun i s h => by
      match i, h with
      | 0, h => cases h; exact ⟨a, rfl, by rw [woF]; exact hs⟩
      | i + 1, h =>
        have e : s = .unk := rep (i := i) (by simpa using h)
        subst e
        trivial
    injH := fun i di dj p h1 h2 hz => by cases hz
    inj := fun i j di dj p h1 => by
      match i, h1 with
      | 0, h => cases h
      | i + 1, h =>
        have e : Sl.own di = .unk := rep (i := i) (by simpa using h)
        cases e }
  refine b ns hl _ _ _ _ _ _ _ E1 ⟨fun _ _ _ _ q => q.elim, fun N' σ' H2 ρ' v d q E2 dv => ?_, fun _ _ _ _ q => q.elim, fun _ _ _ _ q => q.elim⟩
  have q' : d = .bool true := q
  subst q'
  have e : v = .bl true := dv.bool_inv
  subst e
  exact hQ H2
end DL

set_option Elab.async false
set_option linter.all false
set_option maxRecDepth 100000
set_option maxHeartbeats 4000000
/-! K02: what is a part, what an amount -/
namespace DL
open PySem PySem.Spec PyProof.Rows L2
local macro_rules | `(tactic| walk_at "dl") => `(tactic| repeat' (first
  | with_reducible refine wd_isTy ?_ | with_reducible refine wd_isi ?_ | with_reducible refine wd_op ?_ | with_reducible refine wd_cb ?_ | with_reducible refine wd_un ?_ | with_reducible refine wa_cons ?_ | with_reducible refine wa_nil ?_ | ((with_reducible show WD _ _ (tVar _) _ _); refine wd_var rfl ?_) | with_reducible refine wd_int ?_ | with_reducible refine wd_bl ?_ | with_reducible refine wd_str ?_ | with_reducible refine wd_non ?_
  | with_reducible refine do_add ?_ | with_reducible refine do_sub ?_ | ((with_reducible refine do_mod ?_ ?_); decide) | with_reducible refine do_mod ?_ ?_ | with_reducible refine do_mul ?_ ?_ | ((with_reducible refine do_div ?_ ?_); exact ⟨by decide, by decide⟩) | with_reducible refine do_div ?_ ?_ | ((with_reducible refine do_pow ?_ ?_); exact ⟨by decide, by decide, by decide⟩) | with_reducible refine do_pow ?_ ?_
  | with_reducible refine do_lt ?_ | with_reducible refine do_le ?_ | with_reducible refine do_gt ?_ | with_reducible refine do_ge ?_ | with_reducible refine du_neg ?_
  | with_reducible refine do_eqi ?_ | with_reducible refine do_nei ?_ | with_reducible refine do_eqs ?_ | with_reducible refine do_nes ?_ | with_reducible refine dc_abs ?_ | with_reducible refine dc_min ?_ | with_reducible refine dc_max ?_ | with_reducible refine dc_lenL ?_ | with_reducible refine dc_lenT ?_ | with_reducible refine dc_gcd ?_
  | ((with_reducible show DO _ (rIxT _) _ _ _); refine do_ixT rfl ?_) | ((with_reducible show DO _ (rIxL _) _ _ _); refine do_ixL rfl ?_) | with_reducible refine do_catL ?_ ?_
  | with_reducible refine wd_dnew ?_ | with_reducible refine wd_call0 ?_ | with_reducible refine dc_str ?_ ?_ | with_reducible refine wd_tup ?_ | with_reducible refine wd_lst ?_ | with_reducible refine wt_test ?_ | with_reducible refine wt_B ?_ | with_reducible refine wt_not ?_ | with_reducible refine wt_and ?_ | with_reducible refine wt_or ?_ | with_reducible refine wd_ifE ?_ | with_reducible refine wd_andV ?_ | with_reducible refine wd_orV ?_ | with_reducible refine wd_notV ?_
  | with_reducible refine ws_seq ?_ | with_reducible refine ws_next ?_ | with_reducible refine ws_asg ?_ | with_reducible refine ws_ret ?_ | with_reducible refine ws_retN ?_ | with_reducible refine ws_if ?_ | with_reducible refine ws_par ?_ | with_reducible refine ws_unp2 ?_
  | with_reducible refine if_t ?_ | with_reducible refine if_f ?_ | with_reducible refine if_nf ?_ | with_reducible refine if_nt ?_
  | ((with_reducible show Exists _); first | refine ⟨_, kitInt _, ?_⟩ | refine ⟨_, kitBool _, ?_⟩ | refine ⟨_, kitTup _, ?_⟩ | refine ⟨_, kitList _, ?_⟩ | refine ⟨_, rfl, ?_⟩ | refine ⟨_, _, rfl, ?_⟩ | fail) | fail))

def isW (d : PyData) : Bool := tyD d == "int"
def isPartD : PyData → Bool
  | .tuple [.int a, .int b] => decide (1 ≤ b) && decide (Nat.gcd a.natAbs b.natAbs = 1)
  | _ => false
def isAmtD : PyData → Bool
  | .tuple [.int a, .int b] => decide (1 ≤ b) && decide (Nat.gcd a.natAbs b.natAbs = 1) && decide (0 ≤ a)
  | _ => false
theorem isW_int {d : PyData} (h : isW d = true) : ∃ i, d = .int i := by
  cases d <;> first | exact ⟨_, rfl⟩ | (simp [isW, tyD] at h)
theorem isW_not {d : PyData} (h : isW d = false) : ∀ i, d ≠ .int i := fun i e => by subst e; simp [isW, tyD] at h
def TWhole : List PyData → (PyData → Prop) → Prop := fun ds Φ => ∃ d, ds = [d] ∧ Φ (.bool (isW d))
def TPartB : List PyData → (PyData → Prop) → Prop := fun ds Φ => ∃ d, ds = [d] ∧ Φ (.bool (isPartD d))
def TAmountB : List PyData → (PyData → Prop) → Prop := fun ds Φ => ∃ d, ds = [d] ∧ Φ (.bool (isAmtD d))
def GoodD (d : PyData) : Prop := ∀ a b, d = .tuple [.int a, .int b] → a.natAbs < 2 ^ 8000 ∧ b.natAbs < 2 ^ 8000
def TIsPart : List PyData → (PyData → Prop) → Prop := fun ds Φ => ∃ d, ds = [d] ∧ GoodD d ∧ Φ (.bool (isPartD d))
/-- a part, told for judging -/
structure PBig (n d : Int) : Prop where
  d1 : 1 ≤ d
  d2 : d ≤ 10 ^ 30
  n1 : n.natAbs ≤ 10 ^ 30
def TSpoilt : Nat → List PyData → (PyData → Nat → Prop) → Prop := fun B ds Φ => ∃ n d, ds = [pr (n, d)] ∧ PBig n d ∧ B + 800 ≤ 2 ^ 40 ∧ ∀ z, GoodD z → Φ z (B + 800)
def TThing : Nat → List PyData → (PyData → Nat → Prop) → Prop := fun B ds Φ => ds = [] ∧ B + 6000 ≤ 2 ^ 40 ∧ ∀ z B', GoodD z → B' ≤ B + 6000 → Φ z B'
def t_law_whole (K : PySem.W.Frag) : TS :=
  (tRet (tAndV (tCB (rIsi K) (tCons (tVar 0) (tCons (tC (.ty "int")) tNil))) (tNotV (tCB (rIsi K) (tCons (tVar 0) (tCons (tC (.ty "bool")) tNil))))))

def t_law_is_part (K : PySem.W.Frag) : TS :=
  (tSeq (tIfS (tOr (tNot (tB (tCB (rIsi K) (tCons (tVar 0) (tCons (tC (.ty "tuple")) tNil))))) (tOr (tTest (tOp rNe (tCB (rLenX K) (tCons (tVar 0) tNil)) (tC (.int 2)))) (tOr (tNot (tB (tCall (spP K TWhole) [] E0 (tCons (tOp (rIxT K) (tVar 0) (tC (.int 0))) tNil)))) (tNot (tB (tCall (spP K TWhole) [] E0 (tCons (tOp (rIxT K) (tVar 0) (tC (.int 1))) tNil))))))) (tRet (tC (.bl false))) tNext)
    (tRet (tAndV (tOp rGt (tOp (rIxT K) (tVar 0) (tC (.int 1))) (tC (.int 0))) (tOp (rEqD K) (tCall (spP K TPart) [] E0 (tCons (tOp (rIxT K) (tVar 0) (tC (.int 0))) (tCons (tOp (rIxT K) (tVar 0) (tC (.int 1))) tNil))) (tVar 0)))))

def t_law_spoilt (K : PySem.W.Frag) : TS :=
  (tSeq (tAsg (tCall (spS K FSto TDr) [] E0 (tCons (tVar 0) (tCons (tC (.int 14)) tNil))) (gName 2))
    (tSeq (tAsg (tOp rAddI (tC (.int 2)) (tCall (spS K FSto TDr) [] E0 (tCons (tVar 0) (tCons (tC (.int 9)) tNil)))) (gName 3))
    (tSeq (tAsg (tVar 1) (gTup K 2 (gCons (gName 4) (gCons (gName 5) gNil))))
    (tSeq (tAsg (tLst (tCons (tVar 1) (tCons (tTup (tCons (tOp rMulI (tVar 3) (tVar 4)) (tCons (tOp rMulI (tVar 3) (tVar 5)) tNil))) (tCons (tTup (tCons (tVar 4) (tCons (tOp rSubI (tC (.int 0)) (tVar 5)) tNil))) (tCons (tTup (tCons (tVar 4) (tCons (tC (.int 0)) tNil))) (tCons (tTup (tCons (tOp rSubI (tC (.int 0)) (tVar 4)) (tCons (tVar 5) tNil))) (tCons (tTup (tCons (tVar 4) (tCons (tC (.bl true)) tNil))) tNil))))))) (gName 6))
    (tSeq (tAsg (tOp rCatL (tVar 6) (tLst (tCons (tTup (tCons (tC (.bl true)) (tCons (tVar 5) tNil))) (tCons (tTup (tCons (tCB rStrI (tCons (tVar 4) tNil)) (tCons (tVar 5) tNil))) (tCons (tTup (tCons (tVar 4) (tCons (tC .non) tNil))) (tCons (tLst (tCons (tVar 4) (tCons (tVar 5) tNil))) (tCons (tTup (tCons (tVar 4) tNil)) (tCons (tTup (tCons (tVar 4) (tCons (tVar 5) (tCons (tC (.int 1)) tNil)))) tNil)))))))) (gName 6))
    (tRet (tOp (rIxL K) (tOp rCatL (tVar 6) (tLst (tCons (tTup (tCons (tVar 1) tNil)) (tCons (tTup (tCons (tC (.int 0)) (tCons (tVar 3) tNil))) tNil)))) (tVar 2))))))))

def t_law_thing (K : PySem.W.Frag) : TS :=
  (tSeq (tAsg (tCall (spS K FSto TDr) [] E0 (tCons (tVar 0) (tCons (tC (.int 6)) tNil))) (gName 1))
    (tSeq (tAsg (tCall (spS K FSto TSmall) [] E0 (tCons (tVar 0) tNil)) (gName 2))
    (tSeq (tAsg (tCall (spP K TPart) [] E0 (tCons (tCall (spS K FSto TDr) [] E0 (tCons (tVar 0) (tCons (tOp rPowI (tC (.int 10)) (tC (.int 30))) tNil))) (tCons (tOp rAddI (tC (.int 1)) (tCall (spS K FSto TDr) [] E0 (tCons (tVar 0) (tCons (tOp rPowI (tC (.int 10)) (tC (.int 30))) tNil)))) tNil))) (gName 3))
    (tSeq (tIfS (tTest (tOp rEq (tVar 1) (tC (.int 0)))) (tRet (tOp (rIxL K) (tLst (tCons (tC .non) (tCons (tC (.int 7)) (tCons (tC (.bl true)) (tCons (tC (.str "")) (tCons (tTup tNil) (tCons (tLst tNil) (tCons tDNewK (tCons (tTup (tCons (tC (.int 0)) (tCons (tC (.int 1)) tNil))) (tCons (tTup (tCons (tC (.int 1)) (tCons (tC (.int 1)) tNil))) (tCons (tTup (tCons (tC (.int 0)) (tCons (tC (.int 0)) tNil))) (tCons (tTup (tCons (tC (.int 1)) (tCons (tUn rNegI (tC (.int 1))) tNil))) (tCons (tTup (tCons (tTup (tCons (tC (.int 0)) (tCons (tC (.int 1)) tNil))) (tCons (tTup (tCons (tC (.int 0)) (tCons (tC (.int 1)) tNil))) tNil))) tNil))))))))))))) (tCall (spS K FSto TDr) [] E0 (tCons (tVar 0) (tCons (tC (.int 12)) tNil))))) tNext)
    (tSeq (tIfS (tTest (tOp rEq (tVar 1) (tC (.int 1)))) (tRet (tVar 3)) tNext)
    (tSeq (tIfS (tTest (tOp rEq (tVar 1) (tC (.int 2)))) (tRet (tCall (spS K FSto TSpoilt) [] E0 (tCons (tVar 0) (tCons (tVar 3) tNil)))) tNext)
    (tRet (tCall (spS K FSto TSpoilt) [] E0 (tCons (tVar 0) (tCons (tVar 2) tNil))))))))))

def t_is_whole (K : PySem.W.Frag) : TS :=
  (tRet (tOp rIsTyX (tCB (rTyp K) (tCons (tVar 0) tNil)) (tC (.ty "int"))))

def t_is_part (K : PySem.W.Frag) : TS :=
  (tSeq (tIfS (tNot (tAnd (tTest (tOp rIsTyX (tCB (rTyp K) (tCons (tVar 0) tNil)) (tC (.ty "tuple")))) (tTest (tOp rEq (tCB (rLenX K) (tCons (tVar 0) tNil)) (tC (.int 2)))))) (tRet (tC (.bl false))) tNext)
    (tSeq (tAsg (tVar 0) (gTup K 2 (gCons (gName 1) (gCons (gName 2) gNil))))
    (tRet (tAndV (tCall (spP K TWhole) [] E0 (tCons (tVar 1) tNil)) (tAndV (tCall (spP K TWhole) [] E0 (tCons (tVar 2) tNil)) (tAndV (tOp rGe (tVar 2) (tC (.int 1))) (tOp rEq (tCB rGcd (tCons (tVar 1) (tCons (tVar 2) tNil))) (tC (.int 1)))))))))

def t_is_amount (K : PySem.W.Frag) : TS :=
  (tRet (tAndV (tCall (spP K TPartB) [] E0 (tCons (tVar 0) tNil)) (tOp rGe (tOp (rIxT K) (tVar 0) (tC (.int 0))) (tC (.int 0)))))



theorem isW_dec (d : PyData) : decide (tyD d = "int") = isW d := by
  unfold isW
  by_cases h : tyD d = "int"
  · rw [decide_eq_true h, h]; rfl
  · rw [decide_eq_false h]; exact (beq_eq_false_iff_ne.mpr h).symm
section
variable {K : PySem.W.Frag} {S : Stt}
theorem ws_is_whole {ds : List PyData} {Φ : PyData → Prop} (h : TWhole ds Φ) : WS K S0 (t_is_whole K) (rhoOf 1 ds) { nx := fun _ => Φ .none, rt := fun d _ => Φ d } := by
  obtain ⟨d, rfl, h⟩ := h
  show WS K S0 (t_is_whole K) [.dat d] _
  unfold t_is_whole
  walk_at "dl"
  rw [isW_dec]; exact h
theorem ws_law_whole {ds : List PyData} {Φ : PyData → Prop} (h : TWhole ds Φ) : WS K S0 (t_law_whole K) (rhoOf 1 ds) { nx := fun _ => Φ .none, rt := fun d _ => Φ d } := by
  obtain ⟨d, rfl, h⟩ := h
  show WS K S0 (t_law_whole K) [.dat d] _
  unfold t_law_whole
  walk_at "dl"
  cases d with
  | int i => exact wd_notV (wd_isi (wd_var rfl ⟨_, kitBool _, _, rfl, h⟩))
  | bool i => exact wd_notV (wd_isi (wd_var rfl ⟨_, kitBool _, _, rfl, h⟩))
  | none => exact h
  | str x => exact h
  | list x => exact h
  | tuple x => exact h
  | dict x => exact h
theorem tuple2 {ds : List PyData} (h : (ds.length : Int) = 2) : ∃ x y, ds = [x, y] := by
  match ds, h with
  | [x, y], _ => exact ⟨x, y, rfl⟩
  | [], h => simp at h
  | [_], h => simp at h
  | _ :: _ :: _ :: r, h => simp at h; omega
theorem isPart_no {ds : List PyData} (h : ¬ (ds.length : Int) = 2) : isPartD (.tuple ds) = false := by
  match ds, h with
  | [x, y], h => exact absurd rfl h
  | [], h => rfl
  | [x], h => cases x <;> rfl
  | x :: y :: _ :: r, h => cases x <;> first | rfl | (cases y <;> rfl)
theorem isPart_l {x y : PyData} (h : isW x = false) : isPartD (.tuple [x, y]) = false := by
  cases x <;> first | rfl | (simp [isW, tyD] at h)
theorem isPart_r {x : Int} {y : PyData} (h : isW y = false) : isPartD (.tuple [.int x, y]) = false := by
  cases y <;> first | rfl | (simp [isW, tyD] at h)
theorem ws_is_part {ds : List PyData} {Φ : PyData → Prop} (h : TPartB ds Φ) : WS K S0 (t_is_part K) (rhoOf 3 ds) { nx := fun _ => Φ .none, rt := fun d _ => Φ d } := by
  obtain ⟨d, rfl, h⟩ := h
  show WS K S0 (t_is_part K) [.dat d, .unk, .unk] _
  unfold t_is_part
  walk_at "dl"
  with_reducible refine if_b (fun ht => ?_) (fun ht => ?_)
  · cases d with
    | tuple xs =>
      walk_at "dl"
      by_cases h2 : (xs.length : Int) = 2
      · obtain ⟨x, y, rfl⟩ := tuple2 h2
        walk_at "dl"
        refine if_f ?_
        walk_at "dl"
        refine ⟨_, rfl, _, rfl, ?_⟩
        cases hx : isW x with
        | false => rw [isPart_l hx] at h; exact h
        | true =>
          obtain ⟨i, rfl⟩ := isW_int hx
          refine if_t ?_
          walk_at "dl"
          refine ⟨_, rfl, _, rfl, ?_⟩
          cases hy : isW y with
          | false => rw [isPart_r hy] at h; exact h
          | true =>
            obtain ⟨j, rfl⟩ := isW_int hy
            refine if_t ?_
            walk_at "dl"
            with_reducible refine if_b (fun h1 => ?_) (fun h1 => ?_)
            · walk_at "dl"
              have e : isPartD (.tuple [.int i, .int j]) = decide (((Nat.gcd i.natAbs j.natAbs : Nat) : Int) = 1) := by
                show (decide (1 ≤ j) && decide (Nat.gcd i.natAbs j.natAbs = 1)) = _
                rw [decide_eq_true h1, Bool.true_and]
                by_cases hg : Nat.gcd i.natAbs j.natAbs = 1
                · rw [decide_eq_true hg, decide_eq_true (by omega)]
                · rw [decide_eq_false hg, decide_eq_false (by omega)]
              rw [e] at h
              exact h
            · have e : isPartD (.tuple [.int i, .int j]) = false := by
                show (decide (1 ≤ j) && decide (Nat.gcd i.natAbs j.natAbs = 1)) = _
                rw [decide_eq_false h1, Bool.false_and]
              rw [e] at h
              exact h
      · rw [decide_eq_false h2]
        refine if_t ?_
        walk_at "dl"
        rw [isPart_no h2] at h; exact h
    | none => exact absurd ht (by decide)
    | bool b => exact absurd ht (by simp [tyD])
    | int b => exact absurd ht (by simp [tyD])
    | str b => exact absurd ht (by simp [tyD])
    | list b => exact absurd ht (by simp [tyD])
    | dict b => exact absurd ht (by simp [tyD])
  · walk_at "dl"
    cases d with
    | tuple xs => exact absurd rfl ht
    | none => exact h
    | bool b => exact h
    | int b => exact h
    | str b => exact h
    | list b => exact h
    | dict b => exact h
theorem isAmt_and (d : PyData) (h : isPartD d = true) : ∃ a b, d = .tuple [.int a, .int b] ∧ isAmtD d = decide (0 ≤ a) := by
  match d, h with
  | .tuple [.int a, .int b], h =>
    refine ⟨a, b, rfl, ?_⟩
    show (isPartD (.tuple [.int a, .int b]) && decide (0 ≤ a)) = _
    rw [h, Bool.true_and]
theorem isAmt_no (d : PyData) (h : isPartD d = false) : isAmtD d = false := by
  match d, h with
  | .tuple [.int a, .int b], h =>
    show (isPartD (.tuple [.int a, .int b]) && decide (0 ≤ a)) = _
    rw [h, Bool.false_and]
  | .none, h => rfl
  | .bool _, h => rfl
  | .int _, h => rfl
  | .str _, h => rfl
  | .list _, h => rfl
  | .dict _, h => rfl
  | .tuple [], h => rfl
  | .tuple [x], h => cases x <;> rfl
  | .tuple (x :: y :: _ :: _), h => cases x <;> first | rfl | (cases y <;> rfl)
  | .tuple [.none, _], h => rfl
  | .tuple [.bool _, _], h => rfl
  | .tuple [.str _, _], h => rfl
  | .tuple [.list _, _], h => rfl
  | .tuple [.tuple _, _], h => rfl
  | .tuple [.dict _, _], h => rfl
  | .tuple [.int _, .none], h => rfl
  | .tuple [.int _, .bool _], h => rfl
  | .tuple [.int _, .str _], h => rfl
  | .tuple [.int _, .list _], h => rfl
  | .tuple [.int _, .tuple _], h => rfl
  | .tuple [.int _, .dict _], h => rfl
theorem ws_is_amount {ds : List PyData} {Φ : PyData → Prop} (h : TAmountB ds Φ) : WS K S0 (t_is_amount K) (rhoOf 1 ds) { nx := fun _ => Φ .none, rt := fun d _ => Φ d } := by
  obtain ⟨d, rfl, h⟩ := h
  show WS K S0 (t_is_amount K) [.dat d] _
  unfold t_is_amount
  walk_at "dl"
  refine ⟨_, rfl, _, rfl, ?_⟩
  cases hp : isPartD d with
  | false => rw [isAmt_no d hp] at h; exact h
  | true =>
    obtain ⟨a, b, rfl, e⟩ := isAmt_and d hp
    refine if_t ?_
    walk_at "dl"
    rw [e] at h
    exact h
theorem eqv_pr (a b c d : Int) : PyData.eqv (pr (a, b)) (pr (c, d)) = (decide (a = c) && decide (b = d)) := by
  show ((a == c) && ((b == d) && true)) = _
  rw [Bool.and_true]
  by_cases h1 : a = c <;> by_cases h2 : b = d <;> simp [h1, h2]
theorem sh_pr (a b : Int) : SeqAt.shaped (pr (a, b)) = true := by
  simp [pr, SeqAt.shaped, PyData.canLay0, PyData.canLayAll0, PyData.depth, PyData.depthAll]
theorem ws_law_is_part {ds : List PyData} {Φ : PyData → Prop} (h : TIsPart ds Φ) : WS K S0 (t_law_is_part K) (rhoOf 1 ds) { nx := fun _ => Φ .none, rt := fun d _ => Φ d } := by
  obtain ⟨d, rfl, hg, h⟩ := h
  show WS K S0 (t_law_is_part K) [.dat d] _
  unfold t_law_is_part
  walk_at "dl"
  cases d with
  | tuple xs =>
    refine if_f ?_
    walk_at "dl"
    with_reducible refine if_n (fun h2 => ?_) (fun h2 => ?_)
    · walk_at "dl"
      rw [isPart_no h2] at h; exact h
    · obtain ⟨x, y, rfl⟩ := tuple2 h2
      walk_at "dl"
      refine ⟨_, rfl, _, rfl, ?_⟩
      cases hx : isW x with
      | false =>
        refine if_t ?_
        walk_at "dl"
        rw [isPart_l hx] at h; exact h
      | true =>
        obtain ⟨i, rfl⟩ := isW_int hx
        refine if_f ?_
        walk_at "dl"
        refine ⟨_, rfl, _, rfl, ?_⟩
        cases hy : isW y with
        | false =>
          refine if_t ?_
          walk_at "dl"
          rw [isPart_r hy] at h; exact h
        | true =>
          obtain ⟨j, rfl⟩ := isW_int hy
          refine if_f ?_
          walk_at "dl"
          with_reducible refine if_b (fun h1 => ?_) (fun h1 => ?_)
          · walk_at "dl"
            obtain ⟨g1, g2⟩ := hg i j rfl
            refine ⟨i, j, rfl, by omega, g1, g2, ?_⟩
            walk_at "dl"
            refine do_eqD (sh_pr _ _) (sh_pr i j) ?_
            have e : isPartD (.tuple [.int i, .int j]) = PyData.eqv (pr (nrm i j)) (pr (i, j)) := by
              rw [eqv_pr]
              show (decide (1 ≤ j) && decide (Nat.gcd i.natAbs j.natAbs = 1)) = _
              rw [decide_eq_true (show 1 ≤ j by omega), Bool.true_and]
              by_cases hgc : Nat.gcd i.natAbs j.natAbs = 1
              · rw [decide_eq_true hgc, nrm_self (by omega) hgc]; simp
              · rw [decide_eq_false hgc]
                by_cases he : nrm i j = (i, j)
                · obtain ⟨q1, q2, _⟩ := nrm_spec (a := i) (b := j) (by omega)
                  rw [he] at q2
                  exact absurd q2 hgc
                · by_cases e1 : (nrm i j).1 = i
                  · have e2 : ¬ (nrm i j).2 = j := fun e2 => he (Prod.ext e1 e2)
                    simp [e2]
                  · simp [e1]
            rw [e] at h
            exact h
          · have e : isPartD (.tuple [.int i, .int j]) = false := by
              show (decide (1 ≤ j) && decide (Nat.gcd i.natAbs j.natAbs = 1)) = _
              rw [decide_eq_false (by omega), Bool.false_and]
            rw [e] at h
            exact h
  | none => refine if_t ?_; walk_at "dl"; exact h
  | bool b => refine if_t ?_; walk_at "dl"; exact h
  | int b => refine if_t ?_; walk_at "dl"; exact h
  | str b => refine if_t ?_; walk_at "dl"; exact h
  | list b => refine if_t ?_; walk_at "dl"; exact h
  | dict b => refine if_t ?_; walk_at "dl"; exact h
end
end DL

set_option Elab.async false
set_option linter.all false
set_option maxRecDepth 100000
set_option maxHeartbeats 4000000
/-! DM3: reversed tuples, rows numbered, lists of one's own lengthened, repr of anything shown -/
namespace DL
open PySem PySem.Spec PyProof.Rows L2
/-! ### t[::-1] -/
section
variable {prog : Program} {w : World} {A : Around} {E : Value → Shared → Prop} {s : Shared}
theorem adjust_rev (n : Nat) : Builtin.Slice.sliceAdjust none none (-1) (n : Int) = ((n : Int) - 1, -1) := by
  unfold Builtin.Slice.sliceAdjust
  simp
theorem places_rev (n : Nat) : Builtin.Slice.slicePlaces ((n : Int) - 1) (-1) (-1) = n := by
  unfold Builtin.Slice.slicePlaces
  simp
  split <;> omega
theorem pick_rev (xs : Array Value) : ((List.range xs.size).filterMap fun (m : Nat) => xs[((xs.size : Int) - 1 + (m : Int) * (-1)).toNat]?).toArray = xs.toList.reverse.toArray := by
  congr 1
  have h1 : ∀ m ∈ List.range xs.size, xs[((xs.size : Int) - 1 + (m : Int) * (-1)).toNat]? = xs.toList.reverse[m]? := fun m hm => by
    rw [List.mem_range] at hm
    have e : ((xs.size : Int) - 1 + (m : Int) * (-1)).toNat = xs.size - 1 - m := by omega
    rw [e, List.getElem?_reverse (by rw [Array.length_toList]; exact hm), Array.length_toList, Array.getElem?_toList]
  have h0 : ∀ {f g : Nat → Option Value} (l : List Nat), (∀ m ∈ l, f m = g m) → l.filterMap f = l.filterMap g := by
    intro f g l
    induction l with
    | nil => intro _; rfl
    | cons a r ih =>
      intro h
      rw [List.filterMap_cons, List.filterMap_cons, h a List.mem_cons_self, ih fun m hm => h m (List.mem_cons_of_mem _ hm)]
  rw [h0 _ h1]
  have h2 : xs.size = xs.toList.reverse.length := by rw [List.length_reverse, Array.length_toList]
  rw [h2]
  generalize xs.toList.reverse = l
  have h3 : ∀ l : List Value, (List.range l.length).filterMap (fun m => l[m]?) = l := by
    intro l
    induction l with
    | nil => rfl
    | cons a r ih =>
      rw [List.length_cons, List.range_succ_eq_map, List.filterMap_cons, List.filterMap_map]
      simp only [List.getElem?_cons_zero]
      congr 1
  exact h3 l
theorem sliceApplied_rev {sl : Addr} {t : Tok} {n : Nat} {Q : Int × Int × Nat → Shared → Prop} (hs : s.heap.IsSliceOf sl .none .none (.int (-1) t))
    (h : Q ((n : Int) - 1, -1, n) s) : wpAny (model prog w) A (Builtin.Slice.sliceApplied (.ref sl) (pure (n : Int))) Q E s := by
  obtain ⟨os, hos, hcs, hds⟩ := id hs
  unfold Builtin.Slice.sliceApplied Builtin.Slice.sliceFields
  refine wpAny_bind (wpAny_bind (wpAny_field hos hds (x := .none) rfl (wpAny_bind (wpAny_field hos hds (x := .none) rfl (wpAny_bind (wpAny_field hos hds (x := .int (-1) t) rfl (wpAny_pure ?_)))))))
  refine wpAny_bind (HT.slicePart_ (.int (-1) t) ?_)
  show wpAny _ _ (if ((-1 : Int) == 0) = true then _ else _) _ _ s
  rw [if_neg (by decide)]
  refine wpAny_bind (HT.slicePart_ .none (wpAny_bind (HT.slicePart_ .none (wpAny_bind (wpAny_pure ?_)))))
  show wpAny _ _ (match Builtin.Slice.sliceAdjust none none (-1) (n : Int) with | (lo, hi) => pure (lo, (-1 : Int), Builtin.Slice.slicePlaces lo hi (-1))) _ _ s
  rw [adjust_rev]
  show wpAny _ _ (pure ((n : Int) - 1, (-1 : Int), Builtin.Slice.slicePlaces ((n : Int) - 1) (-1) (-1))) _ _ s
  rw [places_rev]
  exact wpAny_pure h
theorem getItem_tuple_rev {t sl : Addr} {items : Array Value} {tk : Tok} {Q : Value → Shared → Prop} (ht : IsTup s.heap t items) (hs : s.heap.IsSliceOf sl .none .none (.int (-1) tk))
    (h : Q (.ref s.heap.objs.size) { s with heap := s.heap.push { cls := .type "tuple", data := .seq items.toList.reverse.toArray } })
    (hsz : items.size ≤ sizeLine) : wpAny (model prog w) A (getItem (.ref t) (.ref sl)) Q E s := by
  have htake : sizeOk (.seq items.toList.reverse.toArray) := by
    show items.toList.reverse.toArray.size ≤ sizeLine
    rw [List.size_toArray, List.length_reverse, Array.length_toList]
    exact hsz
  obtain ⟨os, hos, hcs, hds⟩ := id hs
  have hTs : s.TypeIs (.ref sl) "slice" := ⟨os, hos, hcs⟩
  unfold getItem
  try with_reducible refine wpAny_holding ?_
  first | refine wpAny_bind (wpAny_pure ?_) | skip
  refine wpAny_bind (wpAny_sequenceKey ht.typeIs (by decide) ?_)
  refine wpAny_bind (wpAny_callSpecial?_slot (name := Str.ofString "__getitem__") ht.typeIs PyProof.Rows.slot_tuple_getitem
    (wpAny_call_entry PyProof.Rows.slot_tuple_getitem ht.typeIs PyProof.Rows.entry_tuple_getitem ?_ (PyProof.Rows.args_tuple_getitem _ _)))
  show wpAny _ _ (Builtin.Tuple.tupleItemsOf (.ref t) >>= _) _ _ s
  refine wpAny_bind (tupleItemsOf_ ht ?_)
  refine wpAny_bind (wpAny_typeOf hTs ?_)
  rw [if_pos (by decide)]
  refine wpAny_bind (sliceApplied_rev hs ?_)
  have hno : ¬ ((((items.size : Int) - 1) == 0 && (-1 : Int) == 1 && items.size == items.size) = true) := by
    intro q
    rw [Bool.and_eq_true, Bool.and_eq_true] at q
    exact absurd q.1.2 (by decide)
  show wpAny _ _ (if (((items.size : Int) - 1) == 0 && (-1 : Int) == 1 && items.size == items.size) = true then _ else _) _ _ s
  rw [if_neg hno, pick_rev]
  first
    | exact wpAny_bind (m := Builtin.Tuple.tupleExact _) (wpAny_newObj_type (wpAny_pure ⟨_, rfl, wpAny_pure h⟩) htake)
    | exact wpAny_bind (m := Builtin.Tuple.tupleExact _) (wpAny_newObj_type (wpAny_bind (wpAny_pure (wpAny_pure ⟨_, rfl, wpAny_pure h⟩))) htake)
    | exact wpAny_bind (wpAny_bind (m := Builtin.Tuple.tupleExact _) (wpAny_newObj_type (wpAny_pure (wpAny_pure ⟨_, rfl, wpAny_pure h⟩)) htake))
    | exact wpAny_bind (wpAny_bind (m := Builtin.Tuple.tupleExact _) (wpAny_newObj_type (wpAny_pure ⟨_, rfl, wpAny_pure h⟩) htake))
end
def tRevT (K : PySem.W.Frag) (te : TE) : TE := fun σ H Q => te σ H fun x H1 => ∃ a xs, x = .ref a ∧ SqT K H1 a xs ∧ ∀ p, H1 p = none → Q (.ref p) (upd H1 p (.tup xs.reverse))
theorem pe_revT {X : Cx} {te : TE} {e : Expr} {k : Nat} {p1 p2 p3 pos : Pos} (he : PE X e te) : PE X (.Subscript e (.Slice none none (some (.UnaryOp .USub (.Constant (.int 1) k p1) p2)) p3) pos) (tRevT X.K te) := by
  refine ⟨fun pins s σ H Q I h => ?_⟩
  refine Subscript_ (thn (he.run pins s σ H _ I h) fun v s1 ⟨x, H1, I1, r1, q1⟩ => ?_)
  obtain ⟨a, xs, ex, hx, q⟩ := q1
  subst ex
  cases r1
  have hst : PO X (some (.UnaryOp .USub (.Constant (.int 1) k p1) p2)) (tPart (tUn (rU fun i => .int (-i)) (tC (.int 1)))) := po_some (pe_un un_neg pe_int)
  refine wpAny_Slice (thn (po_none.run pins s1 σ H1 (fun o H2 => o = none ∧ H2 = H1) I1 ⟨rfl, rfl⟩) fun vl s2 ⟨l, H2, I2, pl, el, e2⟩ => ?_)
  subst el e2
  refine thn (po_none.run pins s2 σ H2 (fun o H3 => o = none ∧ H3 = H2) I2 ⟨rfl, rfl⟩) fun vu s3 ⟨u, H3, I3, pu, eu, e3⟩ => ?_
  subst eu e3
  refine thn (hst.run pins s3 σ H3 (fun o H4 => o = some (-1) ∧ H4 = H3) I3 ⟨1, rfl, -1, rfl, rfl, rfl⟩) fun vs s4 ⟨o, H4, I4, ps, eo, e4⟩ => ?_
  subst eo e4
  cases pl
  cases pu
  cases ps
  rename_i tk _
  have I5 : L2.Inv X pins σ H4 { s4 with heap := s4.heap.push { cls := .type "slice", data := .fields #[.none, .none, .int (-1) tk] } } := I4.kept (t' := s4.toks) fun b ob q => Heap.get?_push_of_some _ q
  obtain ⟨its, r, ht, hz⟩ := I5.tuple hx
  have hlen := r.length
  show wpAny (model X.prog X.w) X.A (subscriptTail e (.Slice none none (some (.UnaryOp .USub (.Constant (.int 1) k p1) p2)) p3) (.ref a) (.ref s4.heap.objs.size)) (EP X pins σ Q) X.xe { s4 with heap := s4.heap.push { cls := .type "slice", data := .fields #[.none, .none, .int (-1) tk] } }
  refine tail_any (ops := [.ref a, .ref s4.heap.objs.size]) ht.typeIs (PyProof.Rows.slot_tuple_getitem.lookup) ?_ (by with_unfolding_all rfl)
  refine getItem_tuple_rev ht (Heap.IsSliceOf.new _ .none .none (.int (-1) tk)) ?_ (by rw [List.size_toArray]; omega)
  refine ⟨.ref _, _, I5.laid (t' := s4.toks) (o := .tup xs.reverse) (fun b ob q => Heap.get?_push_of_some _ q) (Nat.le_refl _) ?_, rfl, q _ (I5.hok.fresh (Nat.le_refl _))⟩
  exact ⟨by rw [List.length_reverse]; exact hz, _, r.reverse, IsTup.new _ _⟩
/-! ### over data -/
def iEnumR (K : PySem.W.Frag) (t : TA) : TI := fun σ H R => iEnum K t σ H R ∨ iEnumT K t σ H R
theorem pi_enumR {X : Cx} {e : Expr} {ta : TA} {p pos tpos : Pos} {elts : List Expr} {kk : Nat} (hg : Gl X "enumerate") (hm : X.mg "enumerate" = none) (ha : PA X [e] ta) (hs : starEach [e] X.env = [(false, eval e X.env)] := by rfl) :
    PI X (.Tuple elts kk tpos) (.Call (.Name "enumerate" p) [e] [] pos) (iEnumR X.K ta) :=
  ⟨fun pins s σ H R I q => q.elim (fun q => (pi_enum hg hm ha hs).run pins s σ H R I q) fun q => (pi_enumT hg hm ha hs).run pins s σ H R I q⟩
abbrev rInsert : V → List V → Hp → VK → Prop := fun x vs H Q => ∃ (l : Addr) (xs : List V) (i : Int) (y : V), x = .ref l ∧ vs = [.int i, y] ∧ H l = some (.lst xs) ∧ xs.length < sizeLine ∧ 0 ≤ i ∧ i < 2 ^ 63 ∧ Q .non (upd H l (.lst (xs.take i.toNat ++ [y] ++ xs.drop i.toNat)))
section
variable {K : PySem.W.Frag} {S : Stt} {ρ : Rho} {Φ : PyData → Rho → Prop} {Ψ : PyData → Prop}
theorem DqAll.reverse {N : Av} {H : Hp} : ∀ {vs : List V} {ds : List PyData}, DqAll K N H vs ds → DqAll K N H vs.reverse ds.reverse := dq_rev
theorem wd_revT {te : TE} (h : WD K S te ρ fun x ρ1 => ∃ ds, x = .tuple ds ∧ Φ (.tuple ds.reverse) ρ1) : WD K S (tRevT K te) ρ Φ := fun H0 N0 Z N σ H E Q q =>
  h H0 N0 Z N σ H E _ fun v x ρ1 H1 ⟨ds, e, f⟩ E1 k1 d1 => by
    subst e
    obtain ⟨p, xs, rfl, _, h1, h2⟩ := Dq.tup_inv d1
    refine ⟨p, xs, rfl, h1, fun r hr => ?_⟩
    have s := same_new hr (.tup xs.reverse)
    exact q _ _ ρ1 _ f (E1.ext s) (k1.trans (Keep.of s)) (Dq.tup (fresh_av E1.trk hr) upd_same (h2.reverse.keep (Keep.of s)))
theorem wi_enumRL {ta : TA} {Θ : List PyData → Rho → Prop} (h : WI K S (iEnum K ta) ρ Θ) : WI K S (iEnumR K ta) ρ Θ := fun H0 N0 Z N σ H E R q => .inl (h H0 N0 Z N σ H E R q)
theorem wi_enumRT {ta : TA} {Θ : List PyData → Rho → Prop} (h : WI K S (iEnumT K ta) ρ Θ) : WI K S (iEnumR K ta) ρ Θ := fun H0 N0 Z N σ H E R q => .inr (h H0 N0 Z N σ H E R q)
theorem gd_pairN {i j k : Nat} {a b c : PyData} : GD K (gTup K 2 (gCons (gName i) (gCons (gTup K 2 (gCons (gName j) (gCons (gName k) gNil))) gNil))) (.tuple [a, .tuple [b, c]]) [i, j, k] (fun ρ => ((ρ.set i (.dat a)).set j (.dat b)).set k (.dat c)) := fun S H0 N0 Z N σ H ρ x E hx Q q => by
  obtain ⟨p, xs, rfl, _, h1, h2⟩ := hx.tup_inv
  cases h2 with
  | cons a1 a2 =>
    cases a2 with
    | cons a2 a3 =>
      cases a3
      obtain ⟨p', xs', rfl, _, h1', h2'⟩ := Dq.tup_inv (N := _) (H := H) a2
      cases h2' with
      | cons b1 b2 =>
        cases b2 with
        | cons b2 b3 =>
          cases b3
          refine ⟨p, _, rfl, h1, rfl, _, _, rfl, _, _, rfl, ⟨p', _, rfl, h1', rfl, _, _, rfl, _, _, rfl, rfl, rfl, q _ (((E.set a1).set b1).set b2) (by rw [List.length_set, List.length_set, List.length_set]) fun l hl => ?_⟩⟩
          have h1 : k ≠ l := fun e => hl (by simp [e])
          have h2 : j ≠ l := fun e => hl (by simp [e])
          have h3 : i ≠ l := fun e => hl (by simp [e])
          rw [set_ne h1, set_ne h2, set_ne h3]
theorem dc_all {bs : List Bool} (h : Ψ (.bool (bs.all id))) : DC K (rAll K) [.list (bs.map PyData.bool)] Ψ := fun N H _ us hu Q q => by
  cases hu with
  | cons d1 d2 =>
    cases d2
    obtain ⟨p, xs, rfl, _, h1, h2⟩ := Dq.lst_inv d1
    have e : xs = bs.map V.bl := by
      have : ∀ {bs : List Bool} {xs : List V}, DqAll K N H xs (bs.map PyData.bool) → xs = bs.map V.bl := by
        intro bs
        induction bs with
        | nil => intro xs h; cases h; rfl
        | cons b r ih =>
          intro xs h
          cases h with
          | cons h1 h2 => cases h1; rw [ih h2]; rfl
      exact this h2
    subst e
    exact ⟨p, bs, rfl, .inl h1, q _ _ H h (Same.refl H) (Dt.bl _)⟩
theorem ws_insert {ta : TA} {i : Nat} {es : List PyData} {En : DE} (h0 : ρ[i]? = some (.own es))
    (h : WA K S ta ρ fun xs ρ1 => ∃ (ds : List PyData) (k : Nat) (d : PyData), xs = [.int k, d] ∧ ρ1[i]? = some (.own ds) ∧ ds.length < sizeLine ∧ (k : Int) < 2 ^ 62 ∧ En.nx (ρ1.set i (.own (ds.take k ++ [d] ++ ds.drop k)))) : WS K S (tDrop (tBM K "list" rInsert (tVar i) ta)) ρ En := fun H0 N0 Z N σ H D E M => by
  obtain ⟨p, xs, g1, g2, g3, g4, g5, g6, g7⟩ := E.slot i _ h0
  refine ⟨.ref p, g1, .inl ⟨rfl, _, .inl (.inl g6)⟩, h H0 N0 Z N σ H E _ fun vs ys ρ1 H1 ⟨ds, k, d, e, f1, f2, f3, f4⟩ E1 k1 d1 => ?_⟩
  subst e
  obtain ⟨p', xs', e1, e2, e3, e4, e5, e6, e7⟩ := E1.slot i _ f1
  rw [g1] at e1; cases e1
  cases d1 with
  | cons a1 a2 =>
    cases a2 with
    | cons a2 a3 =>
      cases a3
      cases a1
      refine ⟨p, xs', k, _, rfl, rfl, e6, by rw [e7.len]; exact f2, by omega, by omega, M.nx N _ _ _ f4 ?_⟩
      rw [Int.toNat_natCast]
      exact E1.chg (xs := xs') f1 g1 (((e7.take k).append (DqAll.cons a2 DqAll.nil)).append (e7.drop k))
def rReprZ (K : PySem.W.Frag) : List V → Hp → VK → Prop := fun xs H Q => rRepr K xs H Q ∨ (xs = [.non] ∧ Q (.str "None") H) ∨ (∃ b : Bool, xs = [.bl b] ∧ Q (.str (if b then "True" else "False")) H) ∨ (∃ i, xs = [.int i] ∧ i.natAbs.log2 < 1920 ∧ Q (.str (toString i)) H) ∨ ∃ z, xs = [.str z] ∧ (reprText z).length ≤ sizeLine ∧ Q (.str (reprText z)) H
theorem call_reprZ {X : Cx} (hgd : X.A.guards = some []) (hu : X.A.units + 64 < cLine) : CallR X (.builtin "repr") (rReprZ X.K) := by
  intro pins s σ H xs us Q I r h
  rcases h with h | ⟨rfl, q⟩ | ⟨b, rfl, q⟩ | ⟨i, rfl, b, q⟩ | ⟨z, rfl, b, q⟩
  · exact call_repr_data hgd hu pins s σ H xs us Q I r h
  · obtain ⟨u, rfl, ru⟩ := vals1 r
    cases (show u = Value.none from ru)
    exact PySem.P.repr_of_none ⟨.str "None", H, I.tok _, ⟨_, rfl⟩, q⟩
  · obtain ⟨u, rfl, ru⟩ := vals1 r
    cases (show u = Value.bool b from ru)
    exact PySem.P.repr_of_bool ⟨.str (if b then "True" else "False"), H, I.tok _, ⟨_, by cases b <;> rfl⟩, q⟩
  · obtain ⟨u, rfl, ru⟩ := vals1 r
    obtain ⟨t, rfl⟩ := (show ∃ t, u = Value.int i t from ru)
    exact PySem.P.repr_of_int b ⟨.str (toString i), H, I.tok _, ⟨_, rfl⟩, q⟩
  · obtain ⟨u, rfl, ru⟩ := vals1 r
    obtain ⟨t, rfl⟩ := (show ∃ t, u = Value.str z t from ru)
    exact PySem.P.repr_of_str ⟨.str (reprText z), H, I.tok _, ⟨_, rfl⟩, q⟩ b
theorem dc_reprZ {d : PyData} {L D : Nat} (h : Rs L D d) (h1 : L ≤ sizeLine) (h2 : D ≤ 50) (f : Ψ (.str d.shown)) : DC K (rReprZ K) [d] Ψ := by
  intro N H hN us hu Q q
  have one : ∃ u, us = [u] ∧ Dq K N H u d := by
    cases hu with
    | cons a1 a2 => cases a2; exact ⟨_, rfl, a1⟩
  obtain ⟨u, rfl, a1⟩ := one
  cases d
  case none => cases a1; exact .inr (.inl ⟨rfl, q _ _ H f (Same.refl H) (Dt.str _)⟩)
  case bool b =>
    cases a1
    refine .inr (.inr (.inl ⟨b, rfl, q _ _ H f (Same.refl H) ?_⟩))
    cases b <;> exact Dt.str _
  case int i => cases a1; exact .inr (.inr (.inr (.inl ⟨i, rfl, of_decide_eq_true h.s, q _ _ H f (Same.refl H) (Dt.str _)⟩)))
  case str z => cases a1; exact .inr (.inr (.inr (.inr ⟨z, rfl, Nat.le_trans h.l h1, q _ _ H f (Same.refl H) (Dt.str _)⟩)))
  case list ds => exact .inl (dc_reprS (.inl ⟨_, rfl⟩) h h1 h2 f N H hN _ hu Q q)
  case tuple ds => exact .inl (dc_reprS (.inr ⟨_, rfl⟩) h h1 h2 f N H hN _ hu Q q)
  case dict ds => exact absurd h.h (by simp [PyData.hasDict])
theorem do_isB {a b : Bool} (h : Ψ (.bool (decide (a = b)))) : DO K rIsB (.bool a) (.bool b) Ψ := fun N H _ u w hu hw Q q => by
  cases hu; cases hw
  exact ⟨a, b, rfl, rfl, q _ _ H h (Same.refl H) (Dt.bl _)⟩
theorem do_notB {a b : Bool} (h : Ψ (.bool (!decide (a = b)))) : DO K rNotB (.bool a) (.bool b) Ψ := fun N H _ u w hu hw Q q => by
  cases hu; cases hw
  exact ⟨a, b, rfl, rfl, q _ _ H h (Same.refl H) (Dt.bl _)⟩
end
end DL

set_option Elab.async false
set_option linter.all false
set_option maxRecDepth 100000
set_option maxHeartbeats 4000000
/-! DM4: rows of either kind as data; lists of one's own shown for a while -/
namespace DL
open PySem PySem.Spec PyProof.Rows L2
section
variable {K : PySem.W.Frag} {S : Stt} {ρ : Rho} {Φ : PyData → Rho → Prop} {Ψ : PyData → Prop}
def rowD (b : Bool) (ds : List PyData) : PyData := if b then .list ds else .tuple ds
theorem do_ixRn {b : Bool} {ds : List PyData} {i : Int} {k : Nat} {d : PyData} (e : i = k) (h : ds[k]? = some d) (f : Ψ d) : DO K (rIxR K) (rowD b ds) (.int i) Ψ := by
  subst e
  cases b
  · exact do_ixRT (atI_nat h) f
  · exact do_ixRL (atI_nat h) f
theorem dc_lenR {b : Bool} {ds : List PyData} (h : Ψ (.int ds.length)) : DC K (rLenX K) [rowD b ds] Ψ := by
  cases b
  · exact dc_lenT h
  · exact dc_lenL h
theorem wi_enumD {ta : TA} {Θ : List PyData → Rho → Prop} (h : ∃ b, WA K S ta ρ fun xs ρ1 => ∃ ds, xs = [rowD b ds] ∧ Θ (ds.mapIdx fun k d => PyData.tuple [.int k, d]) ρ1) : WI K S (iEnumR K ta) ρ Θ := by
  obtain ⟨b, h⟩ := h
  cases b
  · exact wi_enumRT (wi_enumT h)
  · exact wi_enumRL (wi_enum h)
theorem do_catA {xs ys : List PyData} (hz : xs.length + ys.length ≤ sizeLine) (h : Ψ (.tuple (xs ++ ys))) : DO K (rCatA K) (.tuple xs) (.tuple ys) Ψ := fun N H hN u w hu hw Q q => by
  obtain ⟨p, us, rfl, _, h1, h2⟩ := hu.tup_inv
  obtain ⟨p2, ws, rfl, _, h3, h4⟩ := hw.tup_inv
  refine ⟨p, p2, us, ws, rfl, rfl, h1, h3, by rw [h2.len, h4.len]; exact hz, fun e => ?_, fun _ e => ?_, fun _ _ z hz => ?_⟩
  · subst e
    have e2 : xs = [] := List.length_eq_zero_iff.mp (by rw [← h2.len]; rfl)
    subst e2
    exact q _ _ H h (Same.refl H) hw
  · subst e
    have e2 : ys = [] := List.length_eq_zero_iff.mp (by rw [← h4.len]; rfl)
    subst e2
    rw [List.append_nil] at h
    exact q _ _ H h (Same.refl H) hu
  · have s := same_new hz (.tup (us ++ ws))
    exact q _ _ _ h s (Dq.tup (fresh_av hN hz) upd_same ((h2.append h4).keep (Keep.of s)))
theorem dc_listT {ds : List PyData} (h : Ψ (.list ds)) : DC K (rListOf K) [.tuple ds] Ψ := fun N H hN us hu Q q => by
  cases hu with
  | cons h1 h2 =>
    cases h2
    obtain ⟨p, xs, rfl, _, h3, h4⟩ := Dq.tup_inv h1
    refine ⟨p, xs, rfl, .inr h3, fun l hl => ?_⟩
    have s := same_new hl (.lst xs)
    exact q _ _ _ h s (Dq.lst (fresh_av hN hl) upd_same (h4.keep (Keep.of s)))
theorem dc_tupT {ds : List PyData} (h : Ψ (.tuple ds)) : DC K (rTupOf K) [.tuple ds] Ψ := fun N H hN us hu Q q => by
  cases hu with
  | cons h1 h2 =>
    cases h2
    obtain ⟨p, xs, rfl, hw, h3, h4⟩ := Dq.tup_inv h1
    exact ⟨p, xs, rfl, .inr ⟨h3, q _ _ H h (Same.refl H) h1⟩⟩
/-- list(..) of a tuple, a list of one's own -/
theorem ws_own_listT {te : TE} {i : Nat} {En : DE} (h : WD K S te ρ fun d ρ1 => ∃ ds, d = .tuple ds ∧ En.nx (ρ1.set i (.own ds))) : WS K S (tAsg (tCB (rListOf K) (tCons te tNil)) (gName i)) ρ En := fun H0 N0 Z N σ H D E M =>
  h H0 N0 Z N σ H E _ fun v d ρ1 H1 ⟨ds, e, f⟩ E1 k1 d1 => by
    subst e
    obtain ⟨p, xs, rfl, _, h3, h4⟩ := Dq.tup_inv d1
    refine ⟨p, xs, rfl, .inr h3, fun r hr => ?_⟩
    obtain ⟨z1, z2⟩ := free0 E1 hr
    exact M.nx _ _ _ _ f (E1.new hr z1 z2 h4)
theorem DqAll.setN {N : Av} {H : Hp} {v : V} {d : PyData} (hv : Dq K N H v d) : ∀ {xs : List V} {ds : List PyData} (k : Nat), DqAll K N H xs ds → DqAll K N H (xs.set k v) (ds.set k d)
  | [], _, _, h => by cases h; exact DqAll.nil
  | x :: xs, _, 0, h => by cases h with | cons a b => exact DqAll.cons hv b
  | x :: xs, _, k + 1, h => by cases h with | cons a b => exact DqAll.cons a (DqAll.setN hv k b)
/-- x[k] = e, x a list of one's own -/
theorem ws_setO {te : TE} {i : Nat} {kk : Int} {k : Nat} {es : List PyData} {En : DE} (h0 : ρ[i]? = some (.own es)) (ek : kk = k)
    (h : WD K S te ρ fun d ρ1 => ∃ ds, ρ1[i]? = some (.own ds) ∧ k < ds.length ∧ En.nx (ρ1.set i (.own (ds.set k d)))) : WS K S (tAsg te (gSub (tVar i) (tC (.int kk)) rSetL)) ρ En := fun H0 N0 Z N σ H D E M => by
  obtain ⟨p, xs, g1, g2, g3, g4, g5, g6, g7⟩ := E.slot i _ h0
  refine h H0 N0 Z N σ H E _ fun v d ρ1 H1 ⟨ds, f1, f2, f3⟩ E1 k1 d1 => ?_
  obtain ⟨p', xs', e1, e2, e3, e4, e5, e6, e7⟩ := E1.slot i _ f1
  rw [g1] at e1; cases e1
  subst ek
  refine ⟨.ref p, g1, p, xs', k, k, rfl, rfl, e6, ?_, ?_⟩
  · unfold ixN
    rw [if_pos (by omega), if_pos (by rw [e7.len]; omega), Int.toNat_natCast]
  · exact M.nx N _ _ _ f3 (E1.chg (xs := xs') f1 g1 (DqAll.setN d1 k e7))
/-! ### all lists of one's own shown, while a thing is asked that tells a truth or a number -/
def frzS : Sl → Sl
  | .own ds => .dat (.list ds)
  | s => s
def fz (ρ : Rho) : Rho := ρ.map frzS
def Plain : PyData → Prop
  | .bool _ | .int _ | .str _ => True
  | _ => False
theorem EnvD.fz0 {H0 : Hp} {N0 N : Av} {Z : List Hd} {σ : L2.St} {H : Hp} (E : EnvD K S0 H0 N0 Z N σ H ρ) (hs : ∀ (i B : Nat), ρ[i]? ≠ some (Sl.sto B)) : EnvD K S0 H (fun _ => false) [] (fun _ => false) σ H (fz ρ) where
  keep b o _ h := h
  base b h := h
  trk b h := (nomatch h)
  sub b h := by cases h
  len := by unfold fz; rw [List.length_map]; exact E.len
  hid z h := (nomatch h)
  injZ i j di dj p h := by simp at h
  injH i di dj p h1 h2 h3 := (nomatch h3)
  inj i j di dj p h1 := by
    unfold fz at h1
    rw [List.getElem?_map] at h1
    cases e : ρ[i]? with
    | none => rw [e] at h1; cases h1
    | some s => rw [e] at h1; cases s <;> cases h1
  slot i s h := by
    have le : Le (fun _ => false) N := fun b h => by cases h
    unfold fz at h
    rw [List.getElem?_map] at h
    cases e : ρ[i]? with
    | none => rw [e] at h; cases h
    | some t =>
      rw [e] at h
      have q := E.slot i t e
      cases t with
      | unk => cases h; trivial
      | dat d => cases h; obtain ⟨v, h1, h2⟩ := q; exact ⟨v, h1, h2.le le⟩
      | own ds =>
        cases h
        obtain ⟨p, xs, g1, g2, g3, g4, g5, g6, g7⟩ := q
        exact ⟨.ref p, g1, Dq.lst (by simp) g6 (g7.le le)⟩
      | sto B => exact absurd e (hs i B)
      | scr ns => cases h; obtain ⟨a, h1, h2⟩ := q; exact ⟨a, h1, le.wo.seq h2⟩
theorem Plain.dq {N N' : Av} {H : Hp} {v : V} {d : PyData} (h : Plain d) (q : Dq K N H v d) : Dq K N' H v d := by
  cases d with
  | bool b => have e := q.bool_inv; subst e; exact Dt.bl _
  | int i => have e := q.int_inv; subst e; exact Dt.int _
  | str z => cases q; exact Dt.str _
  | none => cases h
  | list _ => cases h
  | tuple _ => cases h
  | dict _ => cases h
theorem wd_shown {te : TE} (hs : ∀ (i B : Nat), ρ[i]? ≠ some (Sl.sto B)) (h : WD K S0 te (fz ρ) fun d _ => Plain d ∧ Φ d ρ) : WD K S0 te ρ Φ := fun H0 N0 Z N σ H E Q q =>
  h H _ [] _ σ H (E.fz0 hs) _ fun v d ρ1 H1 ⟨f1, f2⟩ E1 k1 d1 => by
    have s : Same H H1 := fun b o e => k1 b o rfl e
    exact q v d ρ H1 f2 (E.ext s) (Keep.of s) (f1.dq d1)
theorem wt_shown {te : TT} {Θ : Bool → Rho → Prop} (hs : ∀ (i B : Nat), ρ[i]? ≠ some (Sl.sto B)) (h : WT K S0 te (fz ρ) fun b _ => Θ b ρ) : WT K S0 te ρ Θ := fun H0 N0 Z N σ H E Q q =>
  h H _ [] _ σ H (E.fz0 hs) _ fun b ρ1 H1 f E1 k1 => by
    have s : Same H H1 := fun b o e => k1 b o rfl e
    exact q b ρ H1 f (E.ext s) (Keep.of s)
end
end DL

set_option Elab.async false
set_option linter.all false
/-! LM4: lines knot by knot: what bends, and the one normal form -/
namespace DL
def yR : Kn → Rat → Rat → Rat
  | [], _, _ => 0
  | [a], s, x => a.2 + s * (x - a.1)
  | a :: b :: r, s, x => if x < b.1 then a.2 + (b.2 - a.2) / (b.1 - a.1) * (x - a.1) else yR (b :: r) s x
/-- the slope behind a, with the rest -/
def sR (a : Rat × Rat) : Kn → Rat → Rat
  | [], s => s
  | b :: _, _ => (b.2 - a.2) / (b.1 - a.1)
def go (sl : Rat) : Kn → Rat → Kn
  | [], _ => []
  | b :: r, s => if sR b r s = sl then go sl r s else b :: go (sR b r s) r s
def bR : Kn → Rat → Kn
  | [], _ => []
  | a :: r, s => a :: go (sR a r s) r s
def RisR : Kn → Prop
  | [] => True
  | [_] => True
  | a :: b :: r => a.1 < b.1 ∧ RisR (b :: r)
def NrmR : Kn → Rat → Prop
  | [], _ => True
  | [_], _ => True
  | a :: b :: r, s => sR a (b :: r) s ≠ sR b r s ∧ NrmR (b :: r) s
theorem RisR.tail {a : Rat × Rat} {r : Kn} (h : RisR (a :: r)) : RisR r := by
  cases r with
  | nil => trivial
  | cons b r => exact h.2
theorem RisR.skip {a b : Rat × Rat} {r : Kn} (h : RisR (a :: b :: r)) : RisR (a :: r) := by
  cases r with
  | nil => trivial
  | cons c r => exact ⟨by have := h.1; have := h.2.1; grind, h.2.2⟩
theorem two {a b : Rat × Rat} (h : a.1 < b.1) : b.2 = a.2 + (b.2 - a.2) / (b.1 - a.1) * (b.1 - a.1) := by grind
theorem sR_skip {a b : Rat × Rat} {r : Kn} {s : Rat} (h : RisR (a :: b :: r)) (e : sR b r s = sR a (b :: r) s) : sR a r s = sR a (b :: r) s := by
  cases r with
  | nil => exact e
  | cons c r =>
    have h1 := h.1
    have h2 := h.2.1
    have e' : (c.2 - b.2) / (c.1 - b.1) = (b.2 - a.2) / (b.1 - a.1) := e
    show (c.2 - a.2) / (c.1 - a.1) = (b.2 - a.2) / (b.1 - a.1)
    grind
theorem yR_skip {a b : Rat × Rat} {r : Kn} {s x : Rat} (h : RisR (a :: b :: r)) (e : sR b r s = sR a (b :: r) s) : yR (a :: r) s x = yR (a :: b :: r) s x := by
  have h1 := h.1
  cases r with
  | nil =>
    have e' : s = (b.2 - a.2) / (b.1 - a.1) := e
    show a.2 + s * (x - a.1) = if x < b.1 then a.2 + (b.2 - a.2) / (b.1 - a.1) * (x - a.1) else b.2 + s * (x - b.1)
    rw [← e']
    split
    · rfl
    · have := two h1; rw [← e'] at this; grind
  | cons c r =>
    have h2 := h.2.1
    have e2 := sR_skip h e
    have e' : (c.2 - b.2) / (c.1 - b.1) = (b.2 - a.2) / (b.1 - a.1) := e
    have e2' : (c.2 - a.2) / (c.1 - a.1) = (b.2 - a.2) / (b.1 - a.1) := e2
    show (if x < c.1 then a.2 + (c.2 - a.2) / (c.1 - a.1) * (x - a.1) else yR (c :: r) s x) = if x < b.1 then a.2 + (b.2 - a.2) / (b.1 - a.1) * (x - a.1) else (if x < c.1 then b.2 + (c.2 - b.2) / (c.1 - b.1) * (x - b.1) else yR (c :: r) s x)
    rw [e', e2']
    have t := two h1
    generalize (b.2 - a.2) / (b.1 - a.1) = sl at *
    by_cases q1 : x < b.1
    · rw [if_pos q1, if_pos (by grind)]
    · rw [if_neg q1]
      by_cases q2 : x < c.1
      · rw [if_pos q2, if_pos q2]; grind
      · rw [if_neg q2, if_neg q2]
theorem go_y {s x : Rat} : ∀ {r : Kn} {a : Rat × Rat}, RisR (a :: r) → yR (a :: go (sR a r s) r s) s x = yR (a :: r) s x := by
  intro r
  induction r with
  | nil => intro a _; rfl
  | cons b r ih =>
    intro a h
    show yR (a :: (if sR b r s = sR a (b :: r) s then go (sR a (b :: r) s) r s else b :: go (sR b r s) r s)) s x = _
    by_cases e : sR b r s = sR a (b :: r) s
    · rw [if_pos e, ← sR_skip h e, ih h.skip, yR_skip h e]
    · rw [if_neg e]
      show (if x < b.1 then _ else yR (b :: go (sR b r s) r s) s x) = if x < b.1 then _ else yR (b :: r) s x
      rw [ih h.tail]
theorem go_sR {s : Rat} : ∀ {r : Kn} {a : Rat × Rat}, RisR (a :: r) → sR a (go (sR a r s) r s) s = sR a r s := by
  intro r
  induction r with
  | nil => intro a _; rfl
  | cons b r ih =>
    intro a h
    show sR a (if sR b r s = sR a (b :: r) s then go (sR a (b :: r) s) r s else b :: go (sR b r s) r s) s = _
    by_cases e : sR b r s = sR a (b :: r) s
    · rw [if_pos e, ← sR_skip h e, ih h.skip]
    · rw [if_neg e]; rfl
theorem go_nrm {s : Rat} : ∀ {r : Kn} {a : Rat × Rat}, RisR (a :: r) → NrmR (a :: go (sR a r s) r s) s := by
  intro r
  induction r with
  | nil => intro a _; trivial
  | cons b r ih =>
    intro a h
    show NrmR (a :: (if sR b r s = sR a (b :: r) s then go (sR a (b :: r) s) r s else b :: go (sR b r s) r s)) s
    by_cases e : sR b r s = sR a (b :: r) s
    · rw [if_pos e, ← sR_skip h e]; exact ih h.skip
    · rw [if_neg e]
      refine ⟨?_, ih h.tail⟩
      rw [go_sR h.tail]
      exact fun z => e z.symm
theorem go_mem {s sl : Rat} : ∀ {r : Kn} {sl : Rat} {p : Rat × Rat}, p ∈ go sl r s → p ∈ r := by
  intro r
  induction r with
  | nil => intro sl p h; exact h
  | cons b r ih =>
    intro sl p h
    have h' : p ∈ (if sR b r s = sl then go sl r s else b :: go (sR b r s) r s) := h
    split at h'
    · exact List.mem_cons_of_mem _ (ih h')
    · rcases List.mem_cons.mp h' with e | h'
      · rw [e]; exact List.mem_cons_self
      · exact List.mem_cons_of_mem _ (ih h')
theorem RisR.head {a : Rat × Rat} : ∀ {r : Kn}, RisR (a :: r) → ∀ p ∈ r, a.1 < p.1 := by
  intro r
  induction r with
  | nil => intro _ p hp; cases hp
  | cons b r ih =>
    intro h p hp
    rcases List.mem_cons.mp hp with e | hp
    · rw [e]; exact h.1
    · exact ih h.skip p hp
theorem risR_of {a : Rat × Rat} {r : Kn} (h1 : ∀ p ∈ r, a.1 < p.1) (h2 : RisR r) : RisR (a :: r) := by
  cases r with
  | nil => trivial
  | cons b r => exact ⟨h1 b List.mem_cons_self, h2⟩
theorem go_ris {s : Rat} : ∀ {r : Kn} {sl : Rat}, RisR r → RisR (go sl r s) := by
  intro r
  induction r with
  | nil => intro sl h; trivial
  | cons b r ih =>
    intro sl h
    show RisR (if sR b r s = sl then go sl r s else b :: go (sR b r s) r s)
    split
    · exact ih h.tail
    · exact risR_of (fun p hp => h.head p (go_mem (sl := 0) hp)) (ih h.tail)
theorem bR_ris {ks : Kn} {s : Rat} (h : RisR ks) : RisR (bR ks s) := by
  cases ks with
  | nil => trivial
  | cons a r => exact risR_of (fun p hp => h.head p (go_mem (sl := 0) hp)) (go_ris h.tail)
/-- just behind a knot -/
theorem nxt {b : Rat × Rat} {r : Kn} {s u : Rat} (h : RisR (b :: r)) (hu : b.1 < u) : ∃ x, b.1 < x ∧ x < u ∧ yR (b :: r) s x = b.2 + sR b r s * (x - b.1) := by
  cases r with
  | nil => exact ⟨(b.1 + u) / 2, by grind, by grind, rfl⟩
  | cons c r =>
    have hc := h.1
    by_cases q : u < c.1
    · refine ⟨(b.1 + u) / 2, by grind, by grind, ?_⟩
      show (if (b.1 + u) / 2 < c.1 then _ else _) = _
      rw [if_pos (by grind)]; rfl
    · refine ⟨(b.1 + c.1) / 2, by grind, by grind, ?_⟩
      show (if (b.1 + c.1) / 2 < c.1 then _ else _) = _
      rw [if_pos (by grind)]; rfl
theorem yR_head {a : Rat × Rat} {r : Kn} {s : Rat} (h : RisR (a :: r)) : yR (a :: r) s a.1 = a.2 := by
  cases r with
  | nil => show a.2 + s * (a.1 - a.1) = a.2; grind
  | cons b r =>
    show (if a.1 < b.1 then a.2 + (b.2 - a.2) / (b.1 - a.1) * (a.1 - a.1) else _) = a.2
    rw [if_pos h.1]; grind
theorem yR_fst {a b : Rat × Rat} {r : Kn} {s x : Rat} (hx : x < b.1) : yR (a :: b :: r) s x = a.2 + sR a (b :: r) s * (x - a.1) := if_pos hx
theorem yR_snd {a b : Rat × Rat} {r : Kn} {s x : Rat} (hx : ¬ x < b.1) : yR (a :: b :: r) s x = yR (b :: r) s x := if_neg hx
theorem slope_eq {y s t d : Rat} (h : y + s * d = y + t * d) (hd : 0 < d) : s = t := by
  have h1 : s * d = t * d := by grind
  have h2 : (s - t) * d = 0 := by grind
  rcases Rat.mul_eq_zero.mp h2 with e | e <;> grind
/-- the one normal form -/
theorem uniq : ∀ {r r' : Kn} {a : Rat × Rat} {s s' : Rat}, RisR (a :: r) → RisR (a :: r') → NrmR (a :: r) s → NrmR (a :: r') s' → (∀ x, a.1 ≤ x → yR (a :: r) s x = yR (a :: r') s' x) → r = r' ∧ s = s' := by
  have first : ∀ {r r' : Kn} {a : Rat × Rat} {s s' : Rat}, RisR (a :: r) → RisR (a :: r') → (∀ x, a.1 ≤ x → yR (a :: r) s x = yR (a :: r') s' x) → sR a r s = sR a r' s' := by
    intro r r' a s s' h h' hf
    have up : ∀ {r : Kn} {s : Rat}, RisR (a :: r) → ∃ u, a.1 < u ∧ ∀ x, a.1 < x → x < u → yR (a :: r) s x = a.2 + sR a r s * (x - a.1) := by
      intro r s h
      cases r with
      | nil => exact ⟨a.1 + 1, by grind, fun x _ _ => rfl⟩
      | cons c r => exact ⟨c.1, h.1, fun x _ hx => yR_fst hx⟩
    obtain ⟨u, hu, fu⟩ := up (s := s) h
    obtain ⟨x, x1, x2, x3⟩ := nxt (s := s') h' hu
    have e := hf x (by grind)
    rw [fu x x1 x2, x3] at e
    exact slope_eq e (by grind)
  have bend : ∀ {r r' : Kn} {a b : Rat × Rat} {s s' : Rat}, RisR (a :: b :: r) → RisR (a :: r') → NrmR (a :: b :: r) s → (∀ x, a.1 ≤ x → yR (a :: b :: r) s x = yR (a :: r') s' x) → ∃ c q, r' = c :: q ∧ c.1 ≤ b.1 := by
    intro r r' a b s s' h h' hn hf
    have e1 := first h h' hf
    have hab := h.1
    have t : b.2 = a.2 + sR a (b :: r) s * (b.1 - a.1) := two hab
    match r', h', hf, e1 with
    | [], h', hf, e1 =>
      exfalso
      obtain ⟨x, x1, x2, x3⟩ := nxt (s := s) (u := b.1 + 1) h.tail (by grind)
      have e := hf x (by grind)
      rw [yR_snd (by grind), x3] at e
      have e' : b.2 + sR b r s * (x - b.1) = a.2 + s' * (x - a.1) := e
      have e1' : sR a (b :: r) s = s' := e1
      refine hn.1 (slope_eq (y := b.2) (d := x - b.1) ?_ (by grind)).symm
      rw [e', ← e1', t]; grind
    | c :: q, h', hf, e1 =>
      refine ⟨c, q, rfl, ?_⟩
      by_cases z : c.1 ≤ b.1
      · exact z
      · exfalso
        obtain ⟨x, x1, x2, x3⟩ := nxt (s := s) (u := c.1) h.tail (by grind)
        have e := hf x (by grind)
        rw [yR_snd (by grind), x3, yR_fst x2, ← e1] at e
        refine hn.1 (slope_eq (y := b.2) (d := x - b.1) ?_ (by grind)).symm
        rw [e, t]; grind
  intro r
  induction r with
  | nil =>
    intro r' a s s' h h' hn hn' hf
    match r', h', hn', hf with
    | [], h', hn', hf => exact ⟨rfl, first h h' hf⟩
    | c :: q, h', hn', hf =>
      obtain ⟨_, _, e, _⟩ := bend h' h hn' fun x hx => (hf x hx).symm
      cases e
  | cons b r ih =>
    intro r' a s s' h h' hn hn' hf
    obtain ⟨c, q, rfl, hc⟩ := bend h h' hn hf
    obtain ⟨b', q', e, hb⟩ := bend h' h hn' fun x hx => (hf x hx).symm
    cases e
    have e1 : b.1 = c.1 := by grind
    have hab := h.1
    have hac := h'.1
    have e2 : b.2 = c.2 := by
      have e := hf b.1 (by grind)
      rw [yR_snd (by grind), yR_snd (by grind), yR_head h.tail, e1, yR_head h'.tail] at e
      exact e
    have ebc : b = c := Prod.ext e1 e2
    subst ebc
    obtain ⟨z1, z2⟩ := ih h.tail h'.tail hn.2 hn'.2 fun x hx => by
      have e := hf x (by grind)
      rw [yR_snd (by grind), yR_snd (by grind)] at e
      exact e
    exact ⟨by rw [z1], z2⟩
end DL

set_option Elab.async false
set_option linter.all false
/-! LM5: by number and knot by knot -/
namespace DL
theorem kn_succ {a : Rat × Rat} {r : Kn} {i : Nat} : kn (a :: r) (i + 1) = kn r i := rfl
theorem kn_zero {a : Rat × Rat} {r : Kn} : kn (a :: r) 0 = a := rfl
theorem slp_succ {a : Rat × Rat} {r : Kn} {s : Rat} {i : Nat} : slp (a :: r) s (i + 1) = slp r s i := by
  unfold slp
  rw [kn_succ, kn_succ, List.length_cons]
  by_cases h : i + 1 < r.length
  · rw [if_pos h, if_pos (by omega)]
  · rw [if_neg h, if_neg (by omega)]
theorem slp_zero {a : Rat × Rat} {r : Kn} {s : Rat} : slp (a :: r) s 0 = sR a r s := by
  cases r with
  | nil => rfl
  | cons b r => unfold slp; rw [if_pos (by simp)]; rfl
theorem risR_iff : ∀ {ks : Kn}, Rising ks ↔ RisR ks
  | [] => ⟨fun _ => trivial, fun _ i h => absurd h (by simp)⟩
  | [a] => ⟨fun _ => trivial, fun _ i h => absurd h (by simp)⟩
  | a :: b :: r => by
    constructor
    · intro h
      refine ⟨h 0 (by simp), risR_iff.mp fun i hi => ?_⟩
      exact h (i + 1) (by simp at hi ⊢; omega)
    · intro h i hi
      cases i with
      | zero => exact h.1
      | succ i => exact risR_iff.mpr h.2 i (by simp at hi ⊢; omega)
theorem nrmR_iff {s : Rat} : ∀ {ks : Kn}, Nrm ks s ↔ NrmR ks s
  | [] => ⟨fun _ => trivial, fun _ i h => absurd h (by simp)⟩
  | [a] => ⟨fun _ => trivial, fun _ i h => absurd h (by simp)⟩
  | a :: b :: r => by
    constructor
    · intro h
      refine ⟨?_, nrmR_iff.mp fun i hi => ?_⟩
      · have := h 0 (by simp)
        rwa [slp_zero, slp_succ, slp_zero] at this
      · have := h (i + 1) (by simp at hi ⊢; omega)
        rwa [slp_succ, slp_succ] at this
    · intro h i hi
      cases i with
      | zero => rw [slp_zero, slp_succ, slp_zero]; exact h.1
      | succ i => rw [slp_succ, slp_succ]; exact nrmR_iff.mpr h.2 i (by simp at hi ⊢; omega)
theorem yR_at {s x : Rat} : ∀ {r : Kn} {a : Rat × Rat}, RisR (a :: r) → a.1 ≤ x → ∃ i, AtK (a :: r) x i ∧ yR (a :: r) s x = yOf (a :: r) s x i := by
  intro r
  induction r with
  | nil => intro a _ hx; exact ⟨0, ⟨by simp, hx, fun h => absurd h (by simp)⟩, rfl⟩
  | cons b r ih =>
    intro a h hx
    by_cases q : x < b.1
    · refine ⟨0, ⟨by simp, hx, fun _ => q⟩, ?_⟩
      rw [yR_fst q]; unfold yOf; rw [slp_zero, kn_zero]
    · obtain ⟨i, hi, e⟩ := ih h.tail (by grind)
      refine ⟨i + 1, ⟨by have := hi.lt; simp at this ⊢; omega, hi.le, fun hl => hi.nx (by simp at hl ⊢; omega)⟩, ?_⟩
      rw [yR_snd q, e]; unfold yOf; rw [slp_succ, kn_succ]
theorem yAt_yR {ks : Kn} {s x : Rat} (r : Rising ks) (h : 0 < ks.length) (hx : (kn ks 0).1 ≤ x) : yAt ks s x = yR ks s x := by
  match ks, r, h, hx with
  | a :: q, r, h, hx =>
    obtain ⟨i, hi, e⟩ := yR_at (s := s) (risR_iff.mp r) hx
    rw [yAt_of r hi, e]
/-- whether the line bends at a knot, the first one always -/
def pB (ks : Kn) (s : Rat) (i : Nat) : Bool := decide (i = 0) || !decide (slp ks s i = slp ks s (i - 1))
def bI (ks : Kn) (s : Rat) (k : Nat) : Kn := ((List.range k).filter (pB ks s)).map (kn ks)
theorem bI_succ {ks : Kn} {s : Rat} {k : Nat} : bI ks s (k + 1) = if pB ks s k = true then bI ks s k ++ [kn ks k] else bI ks s k := by
  unfold bI
  rw [List.range_succ, List.filter_append, List.map_append]
  by_cases h : pB ks s k = true
  · rw [if_pos h]; simp [List.filter, h]
  · have h' : pB ks s k = false := by simpa using h
    simp [List.filter, h']
theorem go_filter {s : Rat} : ∀ {r : Kn} {a : Rat × Rat}, ((List.range r.length).filter fun i => !decide (slp (a :: r) s (i + 1) = slp (a :: r) s i)).map (kn r) = go (sR a r s) r s := by
  intro r
  induction r with
  | nil => intro a; rfl
  | cons b r ih =>
    intro a
    rw [List.length_cons, List.range_succ_eq_map, List.filter_cons, List.filter_map, show slp (a :: b :: r) s (0 + 1) = sR b r s from (slp_succ.trans slp_zero), slp_zero]
    have e1 : (List.filter ((fun i => !decide (slp (a :: b :: r) s (i + 1) = slp (a :: b :: r) s i)) ∘ Nat.succ) (List.range r.length)) = List.filter (fun i => !decide (slp (b :: r) s (i + 1) = slp (b :: r) s i)) (List.range r.length) := by
      congr 1
      funext i
      show (!decide (slp (a :: b :: r) s (i + 1 + 1) = slp (a :: b :: r) s (i + 1))) = _
      rw [slp_succ (a := a) (i := i + 1), slp_succ (a := a) (i := i)]
    rw [e1]
    have e2 : List.map (kn (b :: r)) (List.map Nat.succ (List.filter (fun i => !decide (slp (b :: r) s (i + 1) = slp (b :: r) s i)) (List.range r.length))) = go (sR b r s) r s := by
      rw [List.map_map, ← ih]; rfl
    show List.map (kn (b :: r)) (if (!decide (sR b r s = sR a (b :: r) s)) = true then _ else _) = if sR b r s = sR a (b :: r) s then go (sR a (b :: r) s) r s else b :: go (sR b r s) r s
    by_cases h : sR b r s = sR a (b :: r) s
    · rw [decide_eq_true h, if_neg (by decide), if_pos h, e2, h]
    · rw [decide_eq_false h, if_pos (by decide), if_neg h, List.map_cons, e2]; rfl
theorem bI_bR {ks : Kn} {s : Rat} : bI ks s ks.length = bR ks s := by
  cases ks with
  | nil => rfl
  | cons a r =>
    unfold bI
    rw [List.length_cons, List.range_succ_eq_map, List.filter_cons]
    have h0 : pB (a :: r) s 0 = true := rfl
    rw [if_pos h0, List.map_cons, List.filter_map, List.map_map]
    show a :: _ = a :: go (sR a r s) r s
    rw [← go_filter]
    congr 1
theorem bR_mem {ks : Kn} {s : Rat} {p : Rat × Rat} (h : p ∈ bR ks s) : p ∈ ks := by
  cases ks with
  | nil => exact h
  | cons a r =>
    rcases List.mem_cons.mp h with e | h
    · rw [e]; exact List.mem_cons_self
    · exact List.mem_cons_of_mem _ (go_mem (sl := 0) h)
theorem bI_len {ks : Kn} {s : Rat} : (bI ks s ks.length).length ≤ ks.length := by
  unfold bI
  rw [List.length_map]
  have := List.length_filter_le (pB ks s) (List.range ks.length)
  rwa [List.length_range] at this
/-- all bend: normal -/
theorem bI_all {ks : Kn} {s : Rat} : (bI ks s ks.length).length = ks.length ↔ Nrm ks s := by
  have e : (bI ks s ks.length).length = ((List.range ks.length).filter (pB ks s)).length := by unfold bI; rw [List.length_map]
  rw [e]
  constructor
  · intro h i hi
    have h2 : ((List.range ks.length).filter (pB ks s)).length = (List.range ks.length).length := by rw [h, List.length_range]
    have h3 := List.length_filter_eq_length_iff.mp h2 (i + 1) (List.mem_range.mpr hi)
    unfold pB at h3
    simp at h3
    exact fun z => h3 z.symm
  · intro h
    have h2 : ∀ i ∈ List.range ks.length, pB ks s i = true := fun i hi => by
      rw [List.mem_range] at hi
      unfold pB
      cases i with
      | zero => rfl
      | succ i =>
        have := h i hi
        simp
        exact fun z => this z.symm
    have := List.length_filter_eq_length_iff.mpr h2
    rwa [List.length_range] at this
theorem bR_self {ks : Kn} {s : Rat} (h : Nrm ks s) : bR ks s = ks := by
  rw [← bI_bR]
  unfold bI
  have h2 : (List.range ks.length).filter (pB ks s) = List.range ks.length := by
    refine List.filter_eq_self.mpr fun i hi => ?_
    rw [List.mem_range] at hi
    unfold pB
    cases i with
    | zero => rfl
    | succ i =>
      have := h i hi
      simp
      exact fun z => this z.symm
  rw [h2]
  refine List.ext_getElem? fun i => ?_
  rw [List.getElem?_map]
  by_cases hi : i < ks.length
  · rw [List.getElem?_range hi, kn_get hi]; rfl
  · rw [List.getElem?_eq_none (by rw [List.length_range]; omega), List.getElem?_eq_none (by omega)]; rfl
/-- what a row of knots comes to -/
theorem bR_ln {B : Nat} {ks : Kn} {s : Rat} (h : Ln B ks s) : Ln B (bR ks s) s ∧ Nrm (bR ks s) s ∧ (bR ks s).length ≤ ks.length ∧ ∀ x, 0 ≤ x → yAt (bR ks s) s x = yAt ks s x := by
  match ks, h with
  | a :: r, h =>
    have ris := risR_iff.mp h.ris
    have ris2 : Rising (bR (a :: r) s) := risR_iff.mpr (bR_ris ris)
    have mem : ∀ i, i < (bR (a :: r) s).length → ∃ j, j < (a :: r).length ∧ kn (bR (a :: r) s) i = kn (a :: r) j := fun i hi => by
      have hm : kn (bR (a :: r) s) i ∈ bR (a :: r) s := List.mem_of_getElem? (kn_get hi)
      obtain ⟨j, hj, e⟩ := List.getElem_of_mem (bR_mem hm)
      exact ⟨j, hj, by rw [← e]; unfold kn; rw [List.getD_eq_getElem?_getD, List.getElem?_eq_getElem hj]; rfl⟩
    refine ⟨⟨⟨fun i hi => ?_, fun i hi => ?_, h.b.s⟩, by show 0 < (a :: go (sR a r s) r s).length; simp, h.fst, ris2⟩, nrmR_iff.mpr (go_nrm ris), by rw [← bI_bR]; exact bI_len, fun x hx => ?_⟩
    · obtain ⟨j, hj, e⟩ := mem i hi; rw [e]; exact h.b.x j hj
    · obtain ⟨j, hj, e⟩ := mem i hi; rw [e]; exact h.b.y j hj
    · have hx' : (kn (a :: r) 0).1 ≤ x := by rw [h.fst]; exact hx
      rw [yAt_yR h.ris h.pos hx', yAt_yR ris2 (by show 0 < (a :: go (sR a r s) r s).length; simp) (by show a.1 ≤ x; exact hx')]
      exact go_y ris
/-- two normal lines alike at each x are the same -/
theorem ln_uniq {B C : Nat} {ks ls : Kn} {s t : Rat} (h : Ln B ks s) (g : Ln C ls t) (hn : Nrm ks s) (gn : Nrm ls t) (e : ∀ x, 0 ≤ x → yAt ks s x = yAt ls t x) : ks = ls ∧ s = t := by
  match ks, ls, h, g, hn, gn, e with
  | a :: r, b :: q, h, g, hn, gn, e =>
    have hr := risR_iff.mp h.ris
    have gr := risR_iff.mp g.ris
    have ha : a.1 = 0 := h.fst
    have hb : b.1 = 0 := g.fst
    have e' : ∀ x, 0 ≤ x → yR (a :: r) s x = yR (b :: q) t x := fun x hx => by
      have := e x hx
      rwa [yAt_yR h.ris h.pos (by rw [h.fst]; exact hx), yAt_yR g.ris g.pos (by rw [g.fst]; exact hx)] at this
    have e2 : a.2 = b.2 := by
      have := e' a.1 (by rw [ha]; exact Rat.le_refl)
      rw [yR_head hr, ha, ← hb, yR_head gr] at this
      exact this
    have eab : a = b := Prod.ext (by rw [ha, hb]) e2
    subst eab
    obtain ⟨z1, z2⟩ := uniq hr gr (nrmR_iff.mp hn) (nrmR_iff.mp gn) fun x hx => e' x (by rw [← ha]; exact hx)
    exact ⟨by rw [z1], z2⟩
end DL

set_option Elab.async false
set_option linter.all false
set_option maxRecDepth 100000
set_option maxHeartbeats 4000000
/-! LR1: lines made of rows of knots -/
namespace DL
open PySem PySem.Spec PyProof.Rows L2
noncomputable instance risDec (ks : Kn) : Decidable (Rising ks) := Classical.propDecidable _
abbrev rkD (b : Bool) (ks : Kn) : PyData := rowD b (ks.map kD)
structure Rk (B : Nat) (ks : Kn) (s : Rat) : Prop where
  b : KsB B ks s
  len : ks.length ≤ 100000
  B0 : 0 < B
  B2 : 2 * B ≤ 3800
def TSlopesR : List PyData → (PyData → Prop) → Prop := fun ds Φ => ∃ (b : Bool) (ks : Kn) (s : Rat) (B : Nat), ds = [rkD b ks, qp s] ∧ Rk B ks s ∧ Rising ks ∧ 0 < ks.length ∧ Φ (.list ((List.range ks.length).map fun i => qp (slp ks s i)))
def TRisB : List PyData → (PyData → Prop) → Prop := fun ds Φ => ∃ (b : Bool) (ks : Kn) (B : Nat), ds = [rkD b ks] ∧ (∀ i, i < ks.length → sz (kn ks i).1 ≤ B) ∧ ks.length ≤ 100000 ∧ B ≤ 3800 ∧ Φ (.bool (decide (Rising ks)))
def TBends : List PyData → (PyData → Prop) → Prop := fun ds Φ => ∃ (b : Bool) (ks : Kn) (s : Rat) (B : Nat), ds = [rkD b ks, qp s] ∧ Rk B ks s ∧ Rising ks ∧ 0 < ks.length ∧ Φ (knD (bI ks s ks.length))
def TLineOf : List PyData → (PyData → Prop) → Prop := fun ds Φ => ∃ (b : Bool) (ks : Kn) (s : Rat) (B : Nat), ds = [rkD b ks, qp s] ∧ Rk B ks s ∧ Rising ks ∧ 0 < ks.length ∧ (kn ks 0).1 = 0 ∧ Φ (lnD (bI ks s ks.length) s)
local macro_rules | `(tactic| walk_at "dl") => `(tactic| repeat' (first
  | with_reducible refine wd_isTy ?_ | with_reducible refine wd_isi ?_ | with_reducible refine wd_op ?_ | ((with_reducible show WD _ _ (tCB (rLenX _) (tCons (tVar _) tNil)) _ _); refine wd_len_scr rfl ?_) | with_reducible refine wd_cb ?_ | with_reducible refine wd_un ?_ | with_reducible refine wa_cons ?_ | with_reducible refine wa_nil ?_ | ((with_reducible show WD _ _ (tVar _) _ _); refine wd_var rfl ?_) | with_reducible refine wd_int ?_ | with_reducible refine wd_bl ?_ | with_reducible refine wd_str ?_ | with_reducible refine wd_non ?_
  | with_reducible refine do_nesS ?_ | with_reducible refine dc_intB ?_ | with_reducible refine do_add ?_ | with_reducible refine do_sub ?_ | ((with_reducible refine do_mod ?_ ?_); decide) | with_reducible refine do_mod ?_ ?_ | with_reducible refine do_mul ?_ ?_ | ((with_reducible refine do_div ?_ ?_); exact ⟨by decide, by decide⟩) | with_reducible refine do_div ?_ ?_ | ((with_reducible refine do_pow ?_ ?_); exact ⟨by decide, by decide, by decide⟩) | with_reducible refine do_pow ?_ ?_
  | with_reducible refine do_lt ?_ | with_reducible refine do_le ?_ | with_reducible refine do_gt ?_ | with_reducible refine do_ge ?_ | with_reducible refine du_neg ?_
  | with_reducible refine do_eqi ?_ | with_reducible refine do_nei ?_ | with_reducible refine do_eqs ?_ | with_reducible refine do_nes ?_ | with_reducible refine dc_abs ?_ | with_reducible refine dc_min ?_ | with_reducible refine dc_max ?_ | with_reducible refine dc_lenL ?_ | with_reducible refine dc_lenT ?_ | with_reducible refine dc_lenR ?_ | with_reducible refine dc_gcd ?_
  | ((with_reducible show DO _ (rIxT _) _ _ _); refine do_ixT rfl ?_) | ((with_reducible show DO _ (rIxL _) _ _ _); refine do_ixL rfl ?_) | ((with_reducible refine do_catL ?_ ?_); exact Nat.le_of_ble_eq_true rfl) | with_reducible refine do_catL ?_ ?_ | ((with_reducible show And (List.length _ ≤ sizeLine) _); refine ⟨Nat.le_of_ble_eq_true rfl, ?_⟩)
  | with_reducible refine wd_dnew ?_ | with_reducible refine wd_call0 ?_ | with_reducible refine wd_slA ?_ | with_reducible refine wo_part ?_ | with_reducible refine wo_none ?_ | with_reducible refine do_eqQ ?_ | with_reducible refine do_neQ ?_ | with_reducible refine wi_enumT ?_ | with_reducible refine wi_enumD ?_ | with_reducible refine tAdQ (by omega) (by omega) ?_ | with_reducible refine tSbQ (by omega) (by omega) ?_ | with_reducible refine tMlQ (by omega) (by omega) ?_ | with_reducible refine tDvQ (by assumption) (by omega) (by omega) ?_ | with_reducible refine tLtQ (by omega) (by omega) ?_ | with_reducible refine dc_str ?_ ?_ | with_reducible refine wd_tup ?_ | with_reducible refine wd_lst ?_ | with_reducible refine wt_test ?_ | with_reducible refine wt_B ?_ | with_reducible refine wt_not ?_ | with_reducible refine wt_and ?_ | with_reducible refine wt_or ?_ | with_reducible refine wd_ifE ?_ | with_reducible refine wd_andV ?_ | with_reducible refine wd_orV ?_ | with_reducible refine wd_notV ?_
  | with_reducible refine ws_seq ?_ | with_reducible refine ws_next ?_ | with_reducible refine ws_asg ?_ | with_reducible refine ws_ret ?_ | with_reducible refine ws_retN ?_ | with_reducible refine ws_if ?_ | with_reducible refine ws_par ?_ | with_reducible refine ws_unp2 ?_
  | with_reducible refine if_t ?_ | with_reducible refine if_f ?_ | with_reducible refine if_nf ?_ | with_reducible refine if_nt ?_
  | ((with_reducible show Exists _); first | refine ⟨_, kitInt _, ?_⟩ | refine ⟨_, kitBool _, ?_⟩ | refine ⟨_, kitTup _, ?_⟩ | refine ⟨_, kitList _, ?_⟩ | refine ⟨_, rfl, ?_⟩ | refine ⟨_, _, rfl, ?_⟩ | fail) | fail))
def t_slopesR (K : PySem.W.Frag) : TS :=
  (tSeq (tAsg (tLst tNil) (gName 2))
    (tSeq (tFor (iRng1 (tCons (tOp rSubI (tCB (rLenX K) (tCons (tVar 0) tNil)) (tC (.int 1))) tNil)) (gName 3) (tSeq (tAsg (tOp (rIxR K) (tVar 0) (tVar 3)) (gTup K 2 (gCons (gName 4) (gCons (gName 5) gNil))))
    (tSeq (tAsg (tOp (rIxR K) (tVar 0) (tOp rAddI (tVar 3) (tC (.int 1)))) (gTup K 2 (gCons (gName 6) (gCons (gName 7) gNil))))
    (tDrop (tBM K "list" rAppend (tVar 2) (tCons (tCall (spP K TDvQ) [] E0 (tCons (tCall (spP K TSbQ) [] E0 (tCons (tVar 7) (tCons (tVar 5) tNil))) (tCons (tCall (spP K TSbQ) [] E0 (tCons (tVar 6) (tCons (tVar 4) tNil))) tNil))) tNil))))))
    (tRet (tOp rCatL (tVar 2) (tLst (tCons (tVar 1) tNil))))))
def t_risB (K : PySem.W.Frag) : TS :=
  (tRet (tCB (rAll K) (tCons (tLc (iRng1 (tCons (tOp rSubI (tCB (rLenX K) (tCons (tVar 0) tNil)) (tC (.int 1))) tNil)) (gName 1) tYes (tCall (spP K TLtQ) [] E0 (tCons (tOp (rIxT K) (tOp (rIxR K) (tVar 0) (tVar 1)) (tC (.int 0))) (tCons (tOp (rIxT K) (tOp (rIxR K) (tVar 0) (tOp rAddI (tVar 1) (tC (.int 1)))) (tC (.int 0))) tNil))) [1]) tNil)))
def t_bends (K : PySem.W.Frag) : TS :=
  (tSeq (tAsg (tCall (spP K TSlopesR) [] E0 (tCons (tVar 0) (tCons (tVar 1) tNil))) (gName 2))
    (tSeq (tAsg (tLst tNil) (gName 3))
    (tSeq (tFor (iEnumR K (tCons (tVar 0) tNil)) (gTup K 2 (gCons (gName 4) (gCons (gTup K 2 (gCons (gName 5) (gCons (gName 6) gNil))) gNil))) (tIfS (tOr (tTest (tOp rEq (tVar 4) (tC (.int 0)))) (tTest (tOp (rNeD K) (tOp (rIxL K) (tVar 2) (tVar 4)) (tOp (rIxL K) (tVar 2) (tOp rSubI (tVar 4) (tC (.int 1))))))) (tDrop (tBM K "list" rAppend (tVar 3) (tCons (tTup (tCons (tVar 5) (tCons (tVar 6) tNil))) tNil))) tNext))
    (tRet (tCB (rTupOf K) (tCons (tVar 3) tNil))))))
def t_lineof (K : PySem.W.Frag) (a_NOUGHT : Addr) : TS :=
  (tSeq (tIfS (tTest (tOp rEq (tCB (rLenX K) (tCons (tVar 0) tNil)) (tC (.int 0)))) tNo tNext)
    (tSeq (tIfS (tTest (tOp (rNeD K) (tOp (rIxT K) (tOp (rIxR K) (tVar 0) (tC (.int 0))) (tC (.int 0))) (tC (.ref a_NOUGHT)))) tNo tNext)
    (tSeq (tIfS (tNot (tB (tCall (spP K TRisB) [] E0 (tCons (tVar 0) tNil)))) tNo tNext)
    (tRet (tTup (tCons (tCall (spP K TBends) [] E0 (tCons (tVar 0) (tCons (tVar 1) tNil))) (tCons (tVar 1) tNil)))))))
section
variable {K : PySem.W.Frag} {ds : List PyData} {Φ : PyData → Prop}
theorem ws_slopesR (h : TSlopesR ds Φ) : WS K S0 (t_slopesR K) (rhoOf 8 ds) { nx := fun _ => Φ .none, rt := fun d _ => Φ d } := by
  obtain ⟨b, ks, s, B, rfl, R, ris, hp, hΦ⟩ := h
  show WS K S0 (t_slopesR K) [.dat (rkD b ks), .dat (qp s), .unk, .unk, .unk, .unk, .unk, .unk] _
  unfold t_slopesR
  have hB := R.B2
  have hl := R.len
  refine ws_seq (ws_own (wa_nil ⟨Nat.zero_le _, ?_⟩))
  refine ws_seq (ws_for (wi_rng1 ?_))
  walk_at "dl"
  refine ⟨by rw [List.length_map]; omega, by rw [List.length_map]; omega, fun k ρ => ∃ (s3 s4 s5 s6 s7 : Sl), ρ = [.dat (rkD b ks), .dat (qp s), .own ((List.range k).map fun i => qp (slp ks s i)), s3, s4, s5, s6, s7], ⟨_, _, _, _, _, rfl⟩, ?_, ?_⟩
  · rintro k d ρ2 hd ⟨s3, s4, s5, s6, s7, rfl⟩
    have hk : k + 1 < ks.length := by
      have := (List.getElem?_eq_some_iff.mp hd).1
      rw [List.length_map, List.length_range, List.length_map] at this; omega
    rw [List.getElem?_map, List.getElem?_range (by rw [List.length_map]; omega)] at hd
    cases hd
    have x1 := R.b.x k (by omega); have x2 := R.b.x (k + 1) hk; have y1 := R.b.y k (by omega); have y2 := R.b.y (k + 1) hk
    have ne := ris_step ris hk
    have sy := sz_sub (kn ks (k + 1)).2 (kn ks k).2
    have sx := sz_sub (kn ks (k + 1)).1 (kn ks k).1
    refine ⟨_, _, gd_name, ?_⟩
    walk_at "dl"
    refine do_ixRn (k := k) (by omega) (kD_get (by omega)) ?_
    refine ⟨_, _, rfl, ?_⟩
    walk_at "dl"
    refine do_ixRn (k := k + 1) (by omega) (kD_get hk) ?_
    refine ⟨_, _, rfl, ?_⟩
    refine ws_append rfl ?_
    walk_at "dl"
    refine ⟨by rw [List.length_map, List.length_range, sizeLine_eq]; omega, ?_⟩
    have e : slp ks s k = ((kn ks (k + 1)).2 - (kn ks k).2) / ((kn ks (k + 1)).1 - (kn ks k).1) := by unfold slp; rw [if_pos hk]
    have el : (List.range (k + 1)).map (fun i => qp (slp ks s i)) = (List.range k).map (fun i => qp (slp ks s i)) ++ [qp (((kn ks (k + 1)).2 - (kn ks k).2) / ((kn ks (k + 1)).1 - (kn ks k).1))] := by rw [List.range_succ, List.map_append, List.map_cons, List.map_nil, e]
    show ∃ _, _
    rw [el]
    exact ⟨_, _, _, _, _, rfl⟩
  · rintro ρ2 ⟨s3, s4, s5, s6, s7, rfl⟩
    rw [List.length_map, List.length_range, List.length_map]
    refine ws_frz (i := 2) rfl ?_
    walk_at "dl"
    · rw [sizeLine_eq]; simp; omega
    · have e : ((List.range ((ks.length : Int) - 1).toNat).map fun i => qp (slp ks s i)) ++ [qp s] = (List.range ks.length).map fun i => qp (slp ks s i) := by
        have e1 : ks.length = ((ks.length : Int) - 1).toNat + 1 := by omega
        have e2 : slp ks s ((ks.length : Int) - 1).toNat = s := by unfold slp; rw [if_neg (by omega)]
        conv => rhs; rw [e1, List.range_succ, List.map_append, List.map_cons, List.map_nil, e2]
      rw [e]; exact hΦ
theorem ws_risB (h : TRisB ds Φ) : WS K S0 (t_risB K) (rhoOf 2 ds) { nx := fun _ => Φ .none, rt := fun d _ => Φ d } := by
  obtain ⟨b, ks, B, rfl, hx, hl, hB, hΦ⟩ := h
  show WS K S0 (t_risB K) [.dat (rkD b ks), .unk] _
  unfold t_risB
  refine ws_ret (wd_cb (wa_cons (wd_lc (wi_rng1 ?_))))
  walk_at "dl"
  rw [List.length_map]
  refine ⟨by omega, by omega, by rw [List.length_map, List.length_range, sizeLine_eq]; omega, fun k acc ρ => acc = ((List.range k).map fun i => decide ((kn ks i).1 < (kn ks (i + 1)).1)).map PyData.bool ∧ ρ = [.dat (rkD b ks), .unk], ⟨rfl, rfl⟩, ?_, ?_⟩
  · rintro k d acc ρ2 hd ⟨rfl, rfl⟩
    have hk : k + 1 < ks.length := by
      have := (List.getElem?_eq_some_iff.mp hd).1
      rw [List.length_map, List.length_range] at this; omega
    rw [List.getElem?_map, List.getElem?_range (by omega)] at hd
    cases hd
    have x1 := hx k (by omega); have x2 := hx (k + 1) hk
    refine ⟨_, _, gd_name, fun j hj => hj, ?_⟩
    refine wt_yes ?_
    walk_at "dl"
    refine do_ixRn (k := k) (by omega) (kD_get (by omega)) ?_
    walk_at "dl"
    refine do_ixRn (k := k + 1) (by omega) (kD_get hk) ?_
    walk_at "dl"
    refine ⟨?_, rfl⟩
    rw [List.range_succ, List.map_append, List.map_append]; rfl
  · rintro acc ρ2 ⟨rfl, rfl⟩
    rw [List.length_map, List.length_range]
    refine wa_nil (dc_all ?_)
    have e : (((List.range ((ks.length : Int) - 1).toNat).map fun i => decide ((kn ks i).1 < (kn ks (i + 1)).1)).all id) = decide (Rising ks) := by
      rw [Bool.eq_iff_iff, List.all_eq_true, decide_eq_true_eq]
      constructor
      · intro q i hi
        have := q _ (List.mem_map.mpr ⟨i, List.mem_range.mpr (by omega), rfl⟩)
        exact of_decide_eq_true this
      · intro q x hx
        obtain ⟨i, hi, rfl⟩ := List.mem_map.mp hx
        exact decide_eq_true (q i (by have := List.mem_range.mp hi; omega))
    show Φ _
    rw [e]; exact hΦ
theorem kD_eta (p : Rat × Rat) : kD p = .tuple [qp p.1, qp p.2] := rfl
theorem ws_bends (h : TBends ds Φ) : WS K S0 (t_bends K) (rhoOf 7 ds) { nx := fun _ => Φ .none, rt := fun d _ => Φ d } := by
  obtain ⟨b, ks, s, B, rfl, R, ris, hp, hΦ⟩ := h
  show WS K S0 (t_bends K) [.dat (rkD b ks), .dat (qp s), .unk, .unk, .unk, .unk, .unk] _
  unfold t_bends
  have hl := R.len
  walk_at "dl"
  refine ⟨b, ks, s, B, rfl, R, ris, hp, ?_⟩
  refine ws_seq (ws_own (wa_nil ⟨Nat.zero_le _, ?_⟩))
  refine ws_seq (ws_for (wi_enumD ⟨b, ?_⟩))
  walk_at "dl"
  refine ⟨fun k ρ => ∃ (s4 s5 s6 : Sl), ρ = [.dat (rkD b ks), .dat (qp s), .dat (.list ((List.range ks.length).map fun i => qp (slp ks s i))), .own ((bI ks s k).map kD), s4, s5, s6], ⟨_, _, _, rfl⟩, ?_, ?_⟩
  · rintro k d ρ2 hd ⟨s4, s5, s6, rfl⟩
    rw [List.getElem?_mapIdx] at hd
    obtain ⟨d0, hd0, rfl⟩ := Option.map_eq_some_iff.mp hd
    have hk : k < ks.length := by have := (List.getElem?_eq_some_iff.mp hd0).1; rwa [List.length_map] at this
    rw [kD_get hk] at hd0; cases hd0
    rw [kD_eta]
    refine ⟨_, _, gd_pairN, ?_⟩
    have bl : (bI ks s k).length ≤ k := by unfold bI; rw [List.length_map]; exact Nat.le_trans (List.length_filter_le _ _) (by rw [List.length_range]; exact Nat.le_refl _)
    have add : pB ks s k = true → ∃ s4' s5' s6', ([.dat (rkD b ks), .dat (qp s), .dat (.list ((List.range ks.length).map fun i => qp (slp ks s i))), .own ((bI ks s k).map kD ++ [.tuple [qp (kn ks k).1, qp (kn ks k).2]]), .dat (.int k), .dat (qp (kn ks k).1), .dat (qp (kn ks k).2)] : Rho) = [.dat (rkD b ks), .dat (qp s), .dat (.list ((List.range ks.length).map fun i => qp (slp ks s i))), .own ((bI ks s (k + 1)).map kD), s4', s5', s6'] := fun e => by
      rw [bI_succ, if_pos e, List.map_append]
      exact ⟨_, _, _, rfl⟩
    have stay : pB ks s k = false → ∃ s4' s5' s6', ([.dat (rkD b ks), .dat (qp s), .dat (.list ((List.range ks.length).map fun i => qp (slp ks s i))), .own ((bI ks s k).map kD), .dat (.int k), .dat (qp (kn ks k).1), .dat (qp (kn ks k).2)] : Rho) = [.dat (rkD b ks), .dat (qp s), .dat (.list ((List.range ks.length).map fun i => qp (slp ks s i))), .own ((bI ks s (k + 1)).map kD), s4', s5', s6'] := fun e => by
      rw [bI_succ, if_neg (by rw [e]; decide)]
      exact ⟨_, _, _, rfl⟩
    walk_at "dl"
    refine if_b (fun h0 => ?_) (fun h0 => ?_)
    · have k0 : k = 0 := by omega
      walk_at "dl"
      refine ws_append rfl ?_
      walk_at "dl"
      refine ⟨by rw [List.length_map, sizeLine_eq]; omega, ?_⟩
      exact add (by unfold pB; rw [decide_eq_true k0]; rfl)
    · have k0 : k ≠ 0 := by omega
      walk_at "dl"
      refine do_ixLn (k := k) (d := qp (slp ks s k)) rfl (by rw [List.getElem?_map, List.getElem?_range hk]; rfl) ?_
      walk_at "dl"
      refine do_ixLn (k := k - 1) (d := qp (slp ks s (k - 1))) (by omega) (by rw [List.getElem?_map, List.getElem?_range (by omega)]; rfl) ?_
      walk_at "dl"
      refine if_n (fun hn => ?_) (fun he => ?_)
      · walk_at "dl"
        refine ws_append rfl ?_
        walk_at "dl"
        refine ⟨by rw [List.length_map, sizeLine_eq]; omega, ?_⟩
        exact add (by unfold pB; rw [decide_eq_false k0, decide_eq_false hn]; rfl)
      · walk_at "dl"
        exact stay (by unfold pB; rw [decide_eq_false k0, decide_eq_true he]; rfl)
  · rintro ρ2 ⟨s4, s5, s6, rfl⟩
    have el : ((ks.map kD).mapIdx fun k d => PyData.tuple [.int k, d]).length = ks.length := by simp
    rw [el]
    refine ws_ret (wd_tupOwn rfl hΦ)
theorem ws_lineof {aN : Addr} (hN : ∀ H : Hp, SqT K H aN [.int 0, .int 1]) (h : TLineOf ds Φ) : WS K S0 (t_lineof K aN) (rhoOf 2 ds) { nx := fun _ => Φ .none, rt := fun d _ => Φ d } := by
  obtain ⟨b, ks, s, B, rfl, R, ris, hp, h0, hΦ⟩ := h
  show WS K S0 (t_lineof K aN) [.dat (rkD b ks), .dat (qp s)] _
  unfold t_lineof
  have hl := R.len
  have hB := R.B2
  have cN : ∀ H : Hp, Dt K H (.ref aN) (qp 0) := fun H => .tup (hN H) (.cons (.int 0) (.cons (.int 1) .nil))
  walk_at "dl"
  refine if_b (fun he => absurd he (by rw [List.length_map]; omega)) (fun _ => ?_)
  walk_at "dl"
  refine do_ixRn (k := 0) rfl (kD_get hp) ?_
  walk_at "dl"
  refine wd_const cN ?_
  walk_at "dl"
  refine if_n (fun hn => absurd h0 hn) (fun _ => ?_)
  walk_at "dl"
  refine ⟨b, ks, B, rfl, R.b.x, hl, by omega, ?_⟩
  show ∃ _, _
  rw [decide_eq_true ris]
  walk_at "dl"
  refine ⟨b, ks, s, B, rfl, R, ris, hp, ?_⟩
  walk_at "dl"
  exact hΦ
end
end DL

set_option Elab.async false
set_option linter.all false
set_option maxRecDepth 100000
set_option maxHeartbeats 4000000
/-! LR2: what is a line, of anything -/
namespace DL
open PySem PySem.Spec PyProof.Rows L2
/-- of no great numbers -/
inductive Tm : PyData → Prop
  | non : Tm .none
  | bool {b : Bool} : Tm (.bool b)
  | int {i : Int} : i.natAbs < 2 ^ 1700 → Tm (.int i)
  | str {z : Str} : Tm (.str z)
  | tup {ds : List PyData} : ds.length ≤ 1000 → (∀ d ∈ ds, Tm d) → Tm (.tuple ds)
  | lst {ds : List PyData} : ds.length ≤ 1000 → (∀ d ∈ ds, Tm d) → Tm (.list ds)
theorem Tm.mem {ds : List PyData} (h : Tm (.tuple ds)) {d : PyData} (m : d ∈ ds) : Tm d := by cases h with | tup _ g => exact g d m
theorem Tm.len {ds : List PyData} (h : Tm (.tuple ds)) : ds.length ≤ 1000 := by cases h with | tup g _ => exact g
theorem Tm.num {i : Int} (h : Tm (.int i)) : i.natAbs < 2 ^ 1700 := by cases h with | int g => exact g
theorem Tm.good {d : PyData} (h : Tm d) : GoodD d := fun a b e => by
  subst e
  have h1 := (h.mem (d := .int a) (by simp)).num
  have h2 := (h.mem (d := .int b) (by simp)).num
  have p : (2 : Nat) ^ 1700 ≤ 2 ^ 8000 := Nat.pow_le_pow_right (by decide) (by decide)
  exact ⟨by omega, by omega⟩
theorem Tm.qp {q : Rat} (h : Tm (qp q)) : sz q ≤ 1701 := by
  have h1 := (h.mem (d := .int q.num) (by simp)).num
  have h2 := (h.mem (d := .int (q.den : Int)) (by simp)).num
  refine sz_of ?_ (by decide)
  unfold hgt
  have e : (2 : Nat) ^ 1701 = 2 ^ 1700 + 2 ^ 1700 := by rw [Nat.pow_succ]; omega
  rw [e]
  omega
theorem qp_inj {q r : Rat} (h : qp q = qp r) : q = r := by
  injection h with h
  injection h with h1 h2
  injection h1 with h1
  injection h2 with h2 _
  injection h2 with h2
  exact Rat.ext h1 (by omega)
theorem kD_inj {p q : Rat × Rat} (h : kD p = kD q) : p = q := by
  injection h with h
  injection h with h1 h2
  injection h2 with h2 _
  exact Prod.ext (qp_inj h1) (qp_inj h2)
theorem lnD_inj {ks ls : Kn} {s t : Rat} (h : lnD ks s = lnD ls t) : ks = ls ∧ s = t := by
  injection h with h
  injection h with h1 h2
  injection h1 with h1
  injection h2 with h2 _
  refine ⟨?_, qp_inj h2⟩
  have inj : ∀ {ks ls : Kn}, ks.map kD = ls.map kD → ks = ls := by
    intro ks
    induction ks with
    | nil => intro ls h; cases ls with | nil => rfl | cons _ _ => cases h
    | cons a r ih =>
      intro ls h
      cases ls with
      | nil => cases h
      | cons b r' =>
        rw [List.map_cons, List.map_cons] at h
        injection h with g1 g2
        rw [kD_inj g1, ih g2]
  exact inj h1
theorem isPartD_q {d : PyData} (h : isPartD d = true) : ∃ q, d = qp q := by
  unfold isPartD at h
  split at h
  · rename_i a b
    rw [Bool.and_eq_true] at h
    have h1 := of_decide_eq_true h.1
    have h2 := of_decide_eq_true h.2
    have e : (b.toNat : Int) = b := by omega
    refine ⟨⟨a, b.toNat, by omega, by show Nat.gcd a.natAbs b.toNat = 1; rw [show b.toNat = b.natAbs by omega]; exact h2⟩, ?_⟩
    show _ = PyData.tuple [.int a, .int ((b.toNat : Nat) : Int)]
    rw [e]
  · cases h
theorem isPartD_qp (q : Rat) : isPartD (qp q) = true := by
  show (decide (1 ≤ (q.den : Int)) && decide (Nat.gcd q.num.natAbs (q.den : Int).natAbs = 1)) = true
  have h := q.den_pos
  rw [decide_eq_true (by omega), Bool.true_and]
  exact decide_eq_true q.reduced
def isPairD : PyData → Bool
  | .tuple xs => decide ((xs.length : Int) = 2)
  | _ => false
def isKnotD : PyData → Bool
  | .tuple [a, b] => isPartD a && isPartD b
  | _ => false
theorem isKnotD_k {d : PyData} (h : isKnotD d = true) : ∃ p, d = kD p := by
  unfold isKnotD at h
  split at h
  · rename_i a b
    rw [Bool.and_eq_true] at h
    obtain ⟨q, rfl⟩ := isPartD_q h.1
    obtain ⟨r, rfl⟩ := isPartD_q h.2
    exact ⟨(q, r), rfl⟩
  · cases h
theorem isKnotD_kD (p : Rat × Rat) : isKnotD (kD p) = true := by
  show (isPartD (qp p.1) && isPartD (qp p.2)) = true
  rw [isPartD_qp, isPartD_qp]; rfl
theorem pair_of {d : PyData} (h : isPairD d = true) : ∃ x y, d = .tuple [x, y] := by
  cases d <;> first | cases h | skip
  rename_i xs
  obtain ⟨x, y, e⟩ := tuple2 (of_decide_eq_true h)
  exact ⟨x, y, by rw [e]⟩
theorem knots_of : ∀ {xs : List PyData}, (∀ d ∈ xs, isKnotD d = true) → ∃ ks : Kn, xs = ks.map kD
  | [], _ => ⟨[], rfl⟩
  | x :: xs, h => by
    obtain ⟨p, rfl⟩ := isKnotD_k (h x List.mem_cons_self)
    obtain ⟨ks, rfl⟩ := knots_of (xs := xs) fun d hd => h d (List.mem_cons_of_mem _ hd)
    exact ⟨p :: ks, rfl⟩
def IsLn (d : PyData) : Prop := ∃ ks s, d = lnD ks s ∧ 0 < ks.length ∧ (kn ks 0).1 = 0 ∧ Rising ks ∧ Nrm ks s
noncomputable def isLnB (d : PyData) : Bool := @decide (IsLn d) (Classical.propDecidable _)
theorem isLnB_of {d : PyData} {b : Bool} (h : IsLn d ↔ b = true) : isLnB d = b := by
  unfold isLnB
  cases b
  · exact @decide_eq_false _ (Classical.propDecidable _) fun z => by have := h.mp z; cases this
  · exact @decide_eq_true _ (Classical.propDecidable _) (h.mpr rfl)
theorem isLn_iff {ks : Kn} {s : Rat} : IsLn (lnD ks s) ↔ 0 < ks.length ∧ (kn ks 0).1 = 0 ∧ Rising ks ∧ Nrm ks s := by
  constructor
  · rintro ⟨ls, t, e, h⟩
    obtain ⟨rfl, rfl⟩ := lnD_inj e
    exact h
  · intro h; exact ⟨ks, s, rfl, h⟩
theorem isLnB_no {d : PyData} (h : ¬ IsLn d) : isLnB d = false := isLnB_of ⟨fun z => absurd z h, fun z => by cases z⟩
theorem IsLn.pair {d : PyData} (h : IsLn d) : isPairD d = true := by obtain ⟨ks, s, rfl, _⟩ := h; rfl
theorem tuple_of {d : PyData} (h : tyD d = "tuple") : ∃ xs, d = .tuple xs := by
  cases d <;> first | exact ⟨_, rfl⟩ | (simp [tyD] at h)
theorem Tm.ksb {ks : Kn} {s : Rat} (h : Tm (lnD ks s)) : KsB 1701 ks s ∧ ks.length ≤ 1000 := by
  have h1 := h.mem (d := knD ks) (by simp)
  have h2 := (h.mem (d := DL.qp s) (by simp)).qp
  have hm : ∀ i, i < ks.length → Tm (kD (kn ks i)) := fun i hi => h1.mem (List.mem_of_getElem? (kD_get hi))
  refine ⟨⟨fun i hi => ?_, fun i hi => ?_, h2⟩, by have := h1.len; rwa [List.length_map] at this⟩
  · exact ((hm i hi).mem (d := DL.qp (kn ks i).1) (by simp)).qp
  · exact ((hm i hi).mem (d := DL.qp (kn ks i).2) (by simp)).qp
def TPairB : List PyData → (PyData → Prop) → Prop := fun ds Φ => ∃ d, ds = [d] ∧ Φ (.bool (isPairD d))
def TKnotB : List PyData → (PyData → Prop) → Prop := fun ds Φ => ∃ d, ds = [d] ∧ Φ (.bool (isKnotD d))
def TIsPartL : List PyData → (PyData → Prop) → Prop := fun ds Φ => ∃ d, ds = [d] ∧ GoodD d ∧ Φ (.bool (isPartD d))
def TIsLine : List PyData → (PyData → Prop) → Prop := fun ds Φ => ∃ d, ds = [d] ∧ Tm d ∧ SeqAt.shaped d = true ∧ Φ (.bool (isLnB d))
local macro_rules | `(tactic| walk_at "dl") => `(tactic| repeat' (first
  | with_reducible refine wd_isTy ?_ | with_reducible refine wd_isi ?_ | with_reducible refine wd_op ?_ | ((with_reducible show WD _ _ (tCB (rLenX _) (tCons (tVar _) tNil)) _ _); refine wd_len_scr rfl ?_) | with_reducible refine wd_cb ?_ | with_reducible refine wd_un ?_ | with_reducible refine wa_cons ?_ | with_reducible refine wa_nil ?_ | ((with_reducible show WD _ _ (tVar _) _ _); refine wd_var rfl ?_) | with_reducible refine wd_int ?_ | with_reducible refine wd_bl ?_ | with_reducible refine wd_str ?_ | with_reducible refine wd_non ?_
  | with_reducible refine do_nesS ?_ | with_reducible refine dc_intB ?_ | with_reducible refine do_add ?_ | with_reducible refine do_sub ?_ | ((with_reducible refine do_mod ?_ ?_); decide) | with_reducible refine do_mod ?_ ?_ | with_reducible refine do_mul ?_ ?_ | ((with_reducible refine do_div ?_ ?_); exact ⟨by decide, by decide⟩) | with_reducible refine do_div ?_ ?_ | ((with_reducible refine do_pow ?_ ?_); exact ⟨by decide, by decide, by decide⟩) | with_reducible refine do_pow ?_ ?_
  | with_reducible refine do_lt ?_ | with_reducible refine do_le ?_ | with_reducible refine do_gt ?_ | with_reducible refine do_ge ?_ | with_reducible refine du_neg ?_
  | with_reducible refine do_eqi ?_ | with_reducible refine do_nei ?_ | with_reducible refine do_eqs ?_ | with_reducible refine do_nes ?_ | with_reducible refine dc_abs ?_ | with_reducible refine dc_min ?_ | with_reducible refine dc_max ?_ | with_reducible refine dc_lenL ?_ | with_reducible refine dc_lenT ?_ | with_reducible refine dc_lenR ?_ | with_reducible refine dc_gcd ?_
  | ((with_reducible show DO _ (rIxT _) _ _ _); refine do_ixT rfl ?_) | ((with_reducible show DO _ (rIxL _) _ _ _); refine do_ixL rfl ?_) | ((with_reducible refine do_catL ?_ ?_); exact Nat.le_of_ble_eq_true rfl) | with_reducible refine do_catL ?_ ?_ | ((with_reducible show And (List.length _ ≤ sizeLine) _); refine ⟨Nat.le_of_ble_eq_true rfl, ?_⟩)
  | with_reducible refine wd_dnew ?_ | with_reducible refine wd_call0 ?_ | with_reducible refine wd_slA ?_ | with_reducible refine wo_part ?_ | with_reducible refine wo_none ?_ | with_reducible refine do_eqQ ?_ | with_reducible refine do_neQ ?_ | with_reducible refine wi_enumT ?_ | with_reducible refine wi_enumD ?_ | with_reducible refine tAdQ (by omega) (by omega) ?_ | with_reducible refine tSbQ (by omega) (by omega) ?_ | with_reducible refine tMlQ (by omega) (by omega) ?_ | with_reducible refine tDvQ (by assumption) (by omega) (by omega) ?_ | with_reducible refine tLtQ (by omega) (by omega) ?_ | with_reducible refine dc_str ?_ ?_ | with_reducible refine wd_tup ?_ | with_reducible refine wd_lst ?_ | with_reducible refine wt_test ?_ | with_reducible refine wt_B ?_ | with_reducible refine wt_not ?_ | with_reducible refine wt_and ?_ | with_reducible refine wt_or ?_ | with_reducible refine wd_ifE ?_ | with_reducible refine wd_andV ?_ | with_reducible refine wd_orV ?_ | with_reducible refine wd_notV ?_
  | with_reducible refine ws_seq ?_ | with_reducible refine ws_next ?_ | with_reducible refine ws_asg ?_ | with_reducible refine ws_ret ?_ | with_reducible refine ws_retN ?_ | with_reducible refine ws_if ?_ | with_reducible refine ws_par ?_ | with_reducible refine ws_unp2 ?_
  | with_reducible refine if_t ?_ | with_reducible refine if_f ?_ | with_reducible refine if_nf ?_ | with_reducible refine if_nt ?_
  | ((with_reducible show Exists _); first | refine ⟨_, kitInt _, ?_⟩ | refine ⟨_, kitBool _, ?_⟩ | refine ⟨_, kitTup _, ?_⟩ | refine ⟨_, kitList _, ?_⟩ | refine ⟨_, rfl, ?_⟩ | refine ⟨_, _, rfl, ?_⟩ | fail) | fail))
def t_pairb (K : PySem.W.Frag) : TS :=
  (tRet (tAndV (tOp rIsTyX (tCB (rTyp K) (tCons (tVar 0) tNil)) (tC (.ty "tuple"))) (tOp rEq (tCB (rLenX K) (tCons (tVar 0) tNil)) (tC (.int 2)))))
def t_knotb (K : PySem.W.Frag) : TS :=
  (tRet (tAndV (tCall (spP K TPairB) [] E0 (tCons (tVar 0) tNil)) (tAndV (tCall (spP K TPartB) [] E0 (tCons (tOp (rIxT K) (tVar 0) (tC (.int 0))) tNil)) (tCall (spP K TPartB) [] E0 (tCons (tOp (rIxT K) (tVar 0) (tC (.int 1))) tNil)))))
def t_isline (K : PySem.W.Frag) (a_NOUGHT : Addr) : TS :=
  (tSeq (tIfS (tNot (tB (tCall (spP K TPairB) [] E0 (tCons (tVar 0) tNil)))) (tRet (tC (.bl false))) tNext)
    (tSeq (tAsg (tVar 0) (gTup K 2 (gCons (gName 1) (gCons (gName 2) gNil))))
    (tSeq (tIfS (tNot (tAnd (tTest (tOp rIsTyX (tCB (rTyp K) (tCons (tVar 1) tNil)) (tC (.ty "tuple")))) (tAnd (tTest (tOp rGe (tCB (rLenX K) (tCons (tVar 1) tNil)) (tC (.int 1)))) (tB (tCall (spP K TPartB) [] E0 (tCons (tVar 2) tNil)))))) (tRet (tC (.bl false))) tNext)
    (tSeq (tIfS (tNot (tB (tCB (rAll K) (tCons (tLc (iTup K (tVar 1)) (gName 3) tYes (tCall (spP K TKnotB) [] E0 (tCons (tVar 3) tNil)) [3]) tNil)))) (tRet (tC (.bl false))) tNext)
    (tSeq (tIfS (tOr (tTest (tOp (rNeD K) (tOp (rIxT K) (tOp (rIxT K) (tVar 1) (tC (.int 0))) (tC (.int 0))) (tC (.ref a_NOUGHT)))) (tNot (tB (tCall (spP K TRisB) [] E0 (tCons (tVar 1) tNil))))) (tRet (tC (.bl false))) tNext)
    (tRet (tOp rEq (tCB (rLenX K) (tCons (tCall (spP K TBends) [] E0 (tCons (tVar 1) (tCons (tVar 2) tNil))) tNil)) (tCB (rLenX K) (tCons (tVar 1) tNil)))))))))
def t_lispart (K : PySem.W.Frag) : TS :=
  (tSeq (tIfS (tOr (tNot (tB (tCB (rIsi K) (tCons (tVar 0) (tCons (tC (.ty "tuple")) tNil))))) (tTest (tOp rNe (tCB (rLenX K) (tCons (tVar 0) tNil)) (tC (.int 2))))) (tRet (tC (.bl false))) tNext)
    (tSeq (tFor (iTup K (tVar 0)) (gName 1) (tIfS (tOr (tNot (tB (tCB (rIsi K) (tCons (tVar 1) (tCons (tC (.ty "int")) tNil))))) (tB (tCB (rIsi K) (tCons (tVar 1) (tCons (tC (.ty "bool")) tNil))))) (tRet (tC (.bl false))) tNext))
    (tRet (tAndV (tOp rGt (tOp (rIxT K) (tVar 0) (tC (.int 1))) (tC (.int 0))) (tOp (rEqD K) (tCall (spP K TLow) [] E0 (tCons (tOp (rIxT K) (tVar 0) (tC (.int 0))) (tCons (tOp (rIxT K) (tVar 0) (tC (.int 1))) tNil))) (tVar 0))))))
def t_lisline (K : PySem.W.Frag) : TS :=
  (tSeq (tIfS (tOr (tNot (tB (tCB (rIsi K) (tCons (tVar 0) (tCons (tC (.ty "tuple")) tNil))))) (tOr (tTest (tOp rNe (tCB (rLenX K) (tCons (tVar 0) tNil)) (tC (.int 2)))) (tOr (tNot (tB (tCB (rIsi K) (tCons (tOp (rIxT K) (tVar 0) (tC (.int 0))) (tCons (tC (.ty "tuple")) tNil))))) (tTest (tOp (rEqD K) (tOp (rIxT K) (tVar 0) (tC (.int 0))) (tTup tNil)))))) (tRet (tC (.bl false))) tNext)
    (tSeq (tFor (iTup K (tOp (rIxT K) (tVar 0) (tC (.int 0)))) (gName 1) (tIfS (tOr (tNot (tB (tCB (rIsi K) (tCons (tVar 1) (tCons (tC (.ty "tuple")) tNil))))) (tOr (tTest (tOp rNe (tCB (rLenX K) (tCons (tVar 1) tNil)) (tC (.int 2)))) (tOr (tNot (tB (tCall (spP K TIsPartL) [] E0 (tCons (tOp (rIxT K) (tVar 1) (tC (.int 0))) tNil)))) (tNot (tB (tCall (spP K TIsPartL) [] E0 (tCons (tOp (rIxT K) (tVar 1) (tC (.int 1))) tNil))))))) (tRet (tC (.bl false))) tNext))
    (tSeq (tIfS (tOr (tNot (tB (tCall (spP K TIsPartL) [] E0 (tCons (tOp (rIxT K) (tVar 0) (tC (.int 1))) tNil)))) (tTest (tOp (rNeD K) (tOp (rIxT K) (tOp (rIxT K) (tOp (rIxT K) (tVar 0) (tC (.int 0))) (tC (.int 0))) (tC (.int 0))) (tTup (tCons (tC (.int 0)) (tCons (tC (.int 1)) tNil)))))) (tRet (tC (.bl false))) tNext)
    (tSeq (tFor (iRng2 (tCons (tC (.int 1)) (tCons (tCB (rLenX K) (tCons (tOp (rIxT K) (tVar 0) (tC (.int 0))) tNil)) tNil))) (gName 2) (tIfS (tNot (tB (tCall (spP K TLtQ) [] E0 (tCons (tOp (rIxT K) (tOp (rIxT K) (tOp (rIxT K) (tVar 0) (tC (.int 0))) (tOp rSubI (tVar 2) (tC (.int 1)))) (tC (.int 0))) (tCons (tOp (rIxT K) (tOp (rIxT K) (tOp (rIxT K) (tVar 0) (tC (.int 0))) (tVar 2)) (tC (.int 0))) tNil))))) (tRet (tC (.bl false))) tNext))
    (tRet (tOp (rEqD K) (tLc (iRng2 (tCons (tC (.int 1)) (tCons (tCB (rLenX K) (tCons (tOp (rIxT K) (tVar 0) (tC (.int 0))) tNil)) tNil))) (gName 2) (tTest (tOp (rEqD K) (tCall (spP K TSlope) [] E0 (tCons (tVar 0) (tCons (tOp rSubI (tVar 2) (tC (.int 1))) tNil))) (tCall (spP K TSlope) [] E0 (tCons (tVar 0) (tCons (tVar 2) tNil))))) (tC (.int 1)) [2]) (tLst tNil)))))))
section
variable {K : PySem.W.Frag} {ds : List PyData} {Φ : PyData → Prop}
theorem ws_pairb (h : TPairB ds Φ) : WS K S0 (t_pairb K) (rhoOf 1 ds) { nx := fun _ => Φ .none, rt := fun d _ => Φ d } := by
  obtain ⟨d, rfl, h⟩ := h
  show WS K S0 (t_pairb K) [.dat d] _
  unfold t_pairb
  walk_at "dl"
  refine if_b (fun ht => ?_) (fun ht => ?_)
  · obtain ⟨xs, rfl⟩ := tuple_of ht
    walk_at "dl"
    exact h
  · have e : isPairD d = false := by
      cases d <;> first | rfl | exact absurd rfl ht
    rw [e] at h; exact h
theorem ws_knotb (h : TKnotB ds Φ) : WS K S0 (t_knotb K) (rhoOf 1 ds) { nx := fun _ => Φ .none, rt := fun d _ => Φ d } := by
  obtain ⟨d, rfl, h⟩ := h
  show WS K S0 (t_knotb K) [.dat d] _
  unfold t_knotb
  walk_at "dl"
  refine ⟨d, rfl, _, rfl, ?_⟩
  cases hp : isPairD d with
  | false =>
    have e : isKnotD d = false := by
      cases hk : isKnotD d with
      | false => rfl
      | true => obtain ⟨p, rfl⟩ := isKnotD_k hk; cases hp
    rw [e] at h; exact h
  | true =>
    obtain ⟨x, y, rfl⟩ := pair_of hp
    walk_at "dl"
    refine ⟨_, rfl, _, rfl, ?_⟩
    have e : isKnotD (.tuple [x, y]) = (isPartD x && isPartD y) := rfl
    rw [e] at h
    cases hx : isPartD x with
    | false => rw [hx] at h; exact h
    | true =>
      rw [hx] at h
      walk_at "dl"
      exact ⟨_, rfl, h⟩
theorem ws_isline {aN : Addr} (hN : ∀ H : Hp, SqT K H aN [.int 0, .int 1]) (h : TIsLine ds Φ) : WS K S0 (t_isline K aN) (rhoOf 4 ds) { nx := fun _ => Φ .none, rt := fun d _ => Φ d } := by
  obtain ⟨d, rfl, tm, _, h⟩ := h
  show WS K S0 (t_isline K aN) [.dat d, .unk, .unk, .unk] _
  unfold t_isline
  have cN : ∀ H : Hp, Dt K H (.ref aN) (qp 0) := fun H => .tup (hN H) (.cons (.int 0) (.cons (.int 1) .nil))
  have no : ¬ IsLn d → Φ (.bool false) := fun z => by rw [isLnB_no z] at h; exact h
  walk_at "dl"
  refine ⟨d, rfl, _, rfl, ?_⟩
  cases hp : isPairD d with
  | false =>
    walk_at "dl"
    exact no fun z => by rw [z.pair] at hp; cases hp
  | true =>
    obtain ⟨k, sl, rfl⟩ := pair_of hp
    walk_at "dl"
    refine if_b (fun ht => ?_) (fun ht => ?_)
    · obtain ⟨xs, rfl⟩ := tuple_of ht
      walk_at "dl"
      refine if_b (fun hl => ?_) (fun hl => ?_)
      · walk_at "dl"
        refine ⟨_, rfl, _, rfl, ?_⟩
        cases hs : isPartD sl with
        | false =>
          walk_at "dl"
          refine no fun z => ?_
          obtain ⟨ls, t, e, _⟩ := z
          injection e with e; injection e with _ e; injection e with e _
          rw [e, isPartD_qp] at hs; cases hs
        | true =>
          obtain ⟨s, rfl⟩ := isPartD_q hs
          have xl : xs.length ≤ 1000 := (tm.mem (d := .tuple xs) (by simp)).len
          walk_at "dl"
          refine wd_lc (wi_tup ?_)
          walk_at "dl"
          refine ⟨by rw [sizeLine_eq]; omega, fun j acc ρ => acc = ((xs.take j).map isKnotD).map PyData.bool ∧ ρ = [.dat (.tuple [.tuple xs, qp s]), .dat (.tuple xs), .dat (qp s), .unk], ⟨rfl, rfl⟩, ?_, ?_⟩
          · rintro j d acc ρ2 hd ⟨rfl, rfl⟩
            refine ⟨_, _, gd_name, fun j hj => hj, ?_⟩
            refine wt_yes ?_
            walk_at "dl"
            refine ⟨d, rfl, ?_, rfl⟩
            rw [List.take_add_one, hd, Option.toList_some, List.map_append, List.map_append]; rfl
          · rintro acc ρ2 ⟨rfl, rfl⟩
            rw [List.take_length]
            walk_at "dl"
            refine dc_all ?_
            refine ⟨_, rfl, ?_⟩
            cases ha : (xs.map isKnotD).all id with
            | false =>
              walk_at "dl"
              refine no fun z => ?_
              obtain ⟨ls, t, e, _⟩ := z
              injection e with e; injection e with e _; injection e with e
              have : (xs.map isKnotD).all id = true := by
                rw [e, List.all_eq_true]
                intro x hx
                obtain ⟨y, hy, rfl⟩ := List.mem_map.mp hx
                obtain ⟨p, _, rfl⟩ := List.mem_map.mp hy
                exact isKnotD_kD p
              rw [this] at ha; cases ha
            | true =>
              obtain ⟨ks, rfl⟩ := knots_of (xs := xs) fun d hd => by
                have := List.all_eq_true.mp ha _ (List.mem_map.mpr ⟨d, hd, rfl⟩)
                exact this
              obtain ⟨kb, kl⟩ := Tm.ksb (ks := ks) (s := s) tm
              rw [List.length_map] at hl
              have hp0 : 0 < ks.length := by omega
              walk_at "dl"
              refine do_ixTn rfl (kD_get hp0) ?_
              walk_at "dl"
              refine wd_const cN ?_
              walk_at "dl"
              refine if_n (fun hn => ?_) (fun h0 => ?_)
              · walk_at "dl"
                exact no fun z => hn (isLn_iff.mp z).2.1
              · walk_at "dl"
                refine ⟨false, ks, 1701, rfl, kb.x, by omega, by omega, _, rfl, ?_⟩
                refine if_n (fun hr => ?_) (fun hr => ?_)
                · walk_at "dl"
                  exact no fun z => hr (isLn_iff.mp z).2.2.1
                · walk_at "dl"
                  refine ⟨false, ks, s, 1701, rfl, ⟨kb, by omega, by decide, by decide⟩, hr, hp0, ?_⟩
                  walk_at "dl"
                  have e : isLnB (lnD ks s) = decide ((((bI ks s ks.length).map kD).length : Int) = ((ks.map kD).length : Int)) := isLnB_of (by
                    rw [decide_eq_true_eq, isLn_iff, List.length_map, List.length_map]
                    have := bI_all (ks := ks) (s := s)
                    constructor
                    · intro z; have := this.mpr z.2.2.2; omega
                    · intro z; exact ⟨hp0, h0, hr, this.mp (by omega)⟩)
                  have h' : Φ (.bool (isLnB (lnD ks s))) := h
                  rw [e] at h'; exact h'
      · walk_at "dl"
        refine no fun z => ?_
        obtain ⟨ls, t, e, h1, _⟩ := z
        injection e with e; injection e with e _; injection e with e
        rw [e, List.length_map] at hl
        omega
    · walk_at "dl"
      refine no fun z => ?_
      obtain ⟨ls, t, e, _⟩ := z
      injection e with e; injection e with e _
      exact ht (by rw [e]; rfl)
theorem ws_lispart (h : TIsPartL ds Φ) : WS K S0 (t_lispart K) (rhoOf 2 ds) { nx := fun _ => Φ .none, rt := fun d _ => Φ d } := by
  obtain ⟨d, rfl, hg, h⟩ := h
  show WS K S0 (t_lispart K) [.dat d, .unk] _
  unfold t_lispart
  have no : isPartD d = false → Φ (.bool false) := fun z => by rw [z] at h; exact h
  walk_at "dl"
  cases ht : (tyD d == "tuple") with
  | false =>
    walk_at "dl"
    refine no ?_
    cases d <;> first | rfl | (simp [tyD] at ht)
  | true =>
    obtain ⟨xs, rfl⟩ := tuple_of (by simpa using ht)
    walk_at "dl"
    refine if_n (fun h2 => ?_) (fun h2 => ?_)
    · walk_at "dl"
      exact no (isPart_no h2)
    · obtain ⟨x, y, rfl⟩ := tuple2 h2
      walk_at "dl"
      refine ws_for (wi_tup ?_)
      walk_at "dl"
      refine ⟨fun k ρ => ∃ s1 : Sl, ρ = [.dat (.tuple [x, y]), s1] ∧ ∀ j e, j < k → [x, y][j]? = some e → isW e = true, ⟨_, rfl, fun j e hj => absurd hj (by omega)⟩, ?_, ?_⟩
      · rintro k e ρ2 hd ⟨s1, rfl, hk⟩
        refine ⟨_, _, gd_name, ?_⟩
        have bad : isW e = false → Φ (.bool false) := fun z => no (by
          match k, hd with
          | 0, hd => cases hd; exact isPart_l z
          | 1, hd =>
            cases hd
            cases hx : isW x with
            | false => exact isPart_l hx
            | true => obtain ⟨i, rfl⟩ := isW_int hx; exact isPart_r z
          | k + 2, hd => simp at hd)
        walk_at "dl"
        cases hi : (tyD e == "int" || tyD e == "bool") with
        | false =>
          walk_at "dl"
          refine bad ?_
          unfold isW
          rw [Bool.or_eq_false_iff] at hi
          exact hi.1
        | true =>
          walk_at "dl"
          cases hb : (tyD e == "bool") with
          | true =>
            walk_at "dl"
            refine bad ?_
            unfold isW
            have e1 : tyD e = "bool" := by simpa using hb
            rw [e1]; rfl
          | false =>
            walk_at "dl"
            refine fun j e' hj he => ?_
            by_cases q : j = k
            · subst q
              rw [hd] at he; cases he
              rw [hb, Bool.or_false] at hi
              exact hi
            · exact hk j e' (by omega) he
      · rintro ρ2 ⟨s1, rfl, hk⟩
        obtain ⟨i, rfl⟩ := isW_int (hk 0 x (by show 0 < 2; decide) rfl)
        obtain ⟨j, rfl⟩ := isW_int (hk 1 y (by show 1 < 2; decide) rfl)
        obtain ⟨g1, g2⟩ := hg i j rfl
        walk_at "dl"
        refine if_b (fun h0 => ?_) (fun h0 => ?_)
        · walk_at "dl"
          refine ⟨i, j, rfl, by omega, g1, g2, ?_⟩
          walk_at "dl"
          refine do_eqD (sh_qp _) (sh_pr2 (i, j)) ?_
          have e : isPartD (.tuple [.int i, .int j]) = PyData.eqv (qp (Rat.divInt i j)) (pr (i, j)) := by
            cases hp : isPartD (.tuple [.int i, .int j]) with
            | true =>
              obtain ⟨q, hq⟩ := isPartD_q hp
              have hq' : PyData.tuple [.int i, .int j] = .tuple [.int q.num, .int (q.den : Int)] := hq
              injection hq' with hq'
              injection hq' with q1 q2
              injection q1 with q1
              injection q2 with q2 _
              injection q2 with q2
              subst q1
              subst q2
              rw [show Rat.divInt q.num (q.den : Int) = q from Rat.num_divInt_den q]
              have := eqv_qp q q
              rw [decide_eq_true rfl] at this
              exact this.symm
            | false =>
              cases he : PyData.eqv (qp (Rat.divInt i j)) (pr (i, j)) with
              | false => rfl
              | true =>
                have e2 : PyData.eqv (pr ((Rat.divInt i j).num, ((Rat.divInt i j).den : Int))) (pr (i, j)) = true := he
                rw [eqv_pr2, Bool.and_eq_true] at e2
                have q1 := of_decide_eq_true e2.1
                have q2 := of_decide_eq_true e2.2
                have e3 : PyData.tuple [.int i, .int j] = qp (Rat.divInt i j) := by
                  show _ = PyData.tuple [.int (Rat.divInt i j).num, .int ((Rat.divInt i j).den : Int)]
                  rw [q1, q2]
                rw [e3, isPartD_qp] at hp; cases hp
          rw [e] at h; exact h
        · refine no ?_
          show (decide (1 ≤ j) && decide (Nat.gcd i.natAbs j.natAbs = 1)) = false
          rw [decide_eq_false (by omega), Bool.false_and]
theorem ws_lisline (h : TIsLine ds Φ) : WS K S0 (t_lisline K) (rhoOf 3 ds) { nx := fun _ => Φ .none, rt := fun d _ => Φ d } := by
  obtain ⟨d, rfl, tm, sh, h⟩ := h
  show WS K S0 (t_lisline K) [.dat d, .unk, .unk] _
  unfold t_lisline
  have no : ¬ IsLn d → Φ (.bool false) := fun z => by rw [isLnB_no z] at h; exact h
  walk_at "dl"
  cases ht : (tyD d == "tuple") with
  | false =>
    walk_at "dl"
    refine no fun z => ?_
    obtain ⟨ks, s, rfl, _⟩ := z
    cases ht
  | true =>
    obtain ⟨zs, rfl⟩ := tuple_of (by simpa using ht)
    walk_at "dl"
    refine if_n (fun h2 => ?_) (fun h2 => ?_)
    · walk_at "dl"
      refine no fun z => ?_
      obtain ⟨ks, s, e, _⟩ := z
      injection e with e
      rw [e] at h2
      exact h2 rfl
    · obtain ⟨k, sl, rfl⟩ := tuple2 h2
      walk_at "dl"
      cases hk : (tyD k == "tuple") with
      | false =>
        walk_at "dl"
        refine no fun z => ?_
        obtain ⟨ks, s, e, _⟩ := z
        injection e with e; injection e with e _
        rw [e] at hk; cases hk
      | true =>
        obtain ⟨xs, rfl⟩ := tuple_of (by simpa using hk)
        have xl : xs.length ≤ 1000 := (tm.mem (d := .tuple xs) (by simp)).len
        have shx : SeqAt.shaped (.tuple xs) = true := by
          have c : PyData.canLay0 (.tuple [.tuple xs, sl]) = true := SeqAt.canLay_of_shaped sh
          have c2 : PyData.canLayAll0 [.tuple xs, sl] = true := by simpa [PyData.canLay0] using c
          have c3 : PyData.canLay0 (.tuple xs) = true := by
            rw [PyData.canLayAll0, Bool.and_eq_true] at c2
            exact c2.1
          have p := SeqAt.depth_of_shaped sh
          have p2 : (PyData.tuple xs).depth ≤ 64 := by
            have : (PyData.tuple [PyData.tuple xs, sl]).depth = PyData.depthAll [PyData.tuple xs, sl] + 1 := rfl
            have h3 : (PyData.tuple xs).depth ≤ PyData.depthAll [PyData.tuple xs, sl] := by
              show _ ≤ max _ _
              exact Nat.le_max_left _ _
            omega
          unfold SeqAt.shaped
          rw [c3, decide_eq_true p2]; rfl
        walk_at "dl"
        refine do_eqD shx (by decide) ?_
        refine ⟨_, rfl, ?_⟩
        have ee : PyData.eqv (.tuple xs) (.tuple []) = xs.isEmpty := by
          cases xs <;> rfl
        rw [ee]
        cases hx0 : xs.isEmpty with
        | true =>
          walk_at "dl"
          refine no fun z => ?_
          obtain ⟨ks, s, e, h1, _⟩ := z
          injection e with e; injection e with e _; injection e with e
          subst e
          rw [List.isEmpty_iff, List.map_eq_nil_iff] at hx0
          subst hx0
          exact absurd h1 (by decide)
        | false =>
          have x0 : 0 < xs.length := by
            cases xs with
            | nil => cases hx0
            | cons _ _ => simp
          walk_at "dl"
          refine ws_for (wi_tup ?_)
          walk_at "dl"
          refine ⟨fun k ρ => ∃ s1 : Sl, ρ = [.dat (.tuple [.tuple xs, sl]), s1, .unk] ∧ ∀ j e, j < k → xs[j]? = some e → isKnotD e = true, ⟨_, rfl, fun j e hj => absurd hj (by omega)⟩, ?_, ?_⟩
          · rintro k e ρ2 hd ⟨s1, rfl, hkk⟩
            refine ⟨_, _, gd_name, ?_⟩
            have tme : Tm e := (tm.mem (d := .tuple xs) (by simp)).mem (List.mem_of_getElem? hd)
            have bad : isKnotD e = false → Φ (.bool false) := fun z => no fun w => by
              obtain ⟨ks, s, e', _⟩ := w
              injection e' with e'; injection e' with e' _; injection e' with e'
              rw [e'] at hd
              rw [List.getElem?_map] at hd
              obtain ⟨p, _, rfl⟩ := Option.map_eq_some_iff.mp hd
              rw [isKnotD_kD] at z; cases z
            walk_at "dl"
            cases hte : (tyD e == "tuple") with
            | false =>
              walk_at "dl"
              refine bad ?_
              cases e <;> first | rfl | (simp [tyD] at hte)
            | true =>
              obtain ⟨ys, rfl⟩ := tuple_of (by simpa using hte)
              walk_at "dl"
              refine if_n (fun h2 => ?_) (fun h2 => ?_)
              · walk_at "dl"
                refine bad ?_
                match ys, h2 with
                | [], _ => rfl
                | [_], _ => rfl
                | [_, _], h2 => exact absurd rfl h2
                | _ :: _ :: _ :: _, _ => rfl
              · obtain ⟨x, y, rfl⟩ := tuple2 h2
                walk_at "dl"
                refine ⟨x, rfl, (tme.mem (d := x) (by simp)).good, _, rfl, ?_⟩
                cases hx : isPartD x with
                | false =>
                  walk_at "dl"
                  refine bad ?_
                  show (isPartD x && isPartD y) = false
                  rw [hx]; rfl
                | true =>
                  walk_at "dl"
                  refine ⟨y, rfl, (tme.mem (d := y) (by simp)).good, _, rfl, ?_⟩
                  cases hy : isPartD y with
                  | false =>
                    walk_at "dl"
                    refine bad ?_
                    show (isPartD x && isPartD y) = false
                    rw [hy, Bool.and_false]
                  | true =>
                    walk_at "dl"
                    refine fun j e' hj he => ?_
                    by_cases q : j = k
                    · subst q
                      rw [hd] at he; cases he
                      show (isPartD x && isPartD y) = true
                      rw [hx, hy]; rfl
                    · exact hkk j e' (by omega) he
          · rintro ρ2 ⟨s1, rfl, hkk⟩
            obtain ⟨ks, rfl⟩ := knots_of (xs := xs) fun e he => by
              obtain ⟨j, hj, e1⟩ := List.getElem_of_mem he
              exact hkk j e hj (by rw [List.getElem?_eq_getElem hj, e1])
            rw [List.length_map] at x0 xl
            walk_at "dl"
            refine ⟨sl, rfl, (tm.mem (d := sl) (by simp)).good, _, rfl, ?_⟩
            cases hs : isPartD sl with
            | false =>
              walk_at "dl"
              refine no fun z => ?_
              obtain ⟨ls, t, e, _⟩ := z
              injection e with e; injection e with _ e; injection e with e _
              rw [e, isPartD_qp] at hs; cases hs
            | true =>
              obtain ⟨s, rfl⟩ := isPartD_q hs
              obtain ⟨kb, kl⟩ := Tm.ksb (ks := ks) (s := s) tm
              walk_at "dl"
              refine do_ixTn rfl (kD_get x0) ?_
              walk_at "dl"
              refine do_neQ (r := 0) ?_
              walk_at "dl"
              refine if_n (fun h0 => ?_) (fun h0 => ?_)
              · walk_at "dl"
                exact no fun z => h0 (isLn_iff.mp z).2.1
              · walk_at "dl"
                refine ws_for (wi_rng2 ?_)
                walk_at "dl"
                rw [List.length_map]
                refine ⟨by omega, fun k ρ => ∃ s1 s2 : Sl, ρ = [.dat (lnD ks s), s1, s2] ∧ ∀ j, j < k → j + 1 < ks.length → (kn ks j).1 < (kn ks (j + 1)).1, ⟨_, _, rfl, fun j hj => absurd hj (by omega)⟩, ?_, ?_⟩
                · rintro k e ρ2 hd ⟨s1, s2, rfl, hr⟩
                  have hk : k + 1 < ks.length := by
                    have := (List.getElem?_eq_some_iff.mp hd).1
                    rw [List.length_map, List.length_range] at this; omega
                  rw [List.getElem?_map, List.getElem?_range (by omega)] at hd
                  cases hd
                  have b1 := kb.x k (by omega); have b2 := kb.x (k + 1) hk
                  refine ⟨_, _, gd_name, ?_⟩
                  walk_at "dl"
                  refine do_ixTn (k := k) (by omega) (kD_get (by omega)) ?_
                  walk_at "dl"
                  refine do_ixTn (k := k + 1) (by omega) (kD_get hk) ?_
                  walk_at "dl"
                  refine if_n (fun hn => ?_) (fun hy => ?_)
                  · walk_at "dl"
                    exact no fun z => hn ((isLn_iff.mp z).2.2.1 k hk)
                  · walk_at "dl"
                    refine fun j hj hj2 => ?_
                    by_cases q : j = k
                    · subst q; exact hy
                    · exact hr j (by omega) hj2
                · rintro ρ2 ⟨s1, s2, rfl, hr⟩
                  rw [List.length_map, List.length_range] at hr
                  have ris : Rising ks := fun i hi => hr i (by omega) hi
                  have L : Lq 1701 ks s := ⟨⟨kb, x0, h0, ris⟩, by omega, by decide⟩
                  refine ws_ret (wd_op (wd_lc (wi_rng2 ?_)))
                  walk_at "dl"
                  rw [List.length_map]
                  refine ⟨by omega, by rw [List.length_map, List.length_range, sizeLine_eq]; omega, fun k acc ρ => ∃ (m : Nat) (s1 : Sl), acc = (List.replicate m (1 : Int)).map PyData.int ∧ ρ = [.dat (lnD ks s), s1, .unk] ∧ (m = 0 ↔ ∀ i, i < k → slp ks s i ≠ slp ks s (i + 1)), ⟨0, _, rfl, rfl, by simp⟩, ?_, ?_⟩
                  · rintro k e acc ρ3 hd ⟨m, s1, rfl, rfl, hm⟩
                    have hk : k + 1 < ks.length := by
                      have := (List.getElem?_eq_some_iff.mp hd).1
                      rw [List.length_map, List.length_range] at this; omega
                    rw [List.getElem?_map, List.getElem?_range (by omega)] at hd
                    cases hd
                    refine ⟨_, _, gd_name, fun j hj => hj, ?_⟩
                    walk_at "dl"
                    refine ⟨ks, s, k, 1701, by show [lnD ks s, PyData.int (1 + (k : Int) - 1)] = _; rw [show (1 + (k : Int) - 1) = k by omega], L, by decide, by omega, ?_⟩
                    walk_at "dl"
                    refine ⟨ks, s, k + 1, 1701, by show [lnD ks s, PyData.int (1 + (k : Int))] = _; rw [show (1 + (k : Int)) = ((k + 1 : Nat) : Int) by omega], L, by decide, by omega, ?_⟩
                    walk_at "dl"
                    refine if_b (fun he => ?_) (fun hn => ?_)
                    · walk_at "dl"
                      refine ⟨m + 1, _, ?_, rfl, ?_⟩
                      · rw [List.replicate_succ', List.map_append]; rfl
                      · constructor
                        · intro z; omega
                        · intro z; exact absurd he (z k (by omega))
                    · refine ⟨m, _, rfl, rfl, ?_⟩
                      rw [hm]
                      constructor
                      · intro z i hi
                        by_cases q : i = k
                        · subst q; exact hn
                        · exact z i (by omega)
                      · intro z i hi; exact z i (by omega)
                  · rintro acc ρ3 ⟨m, s1, rfl, rfl, hm⟩
                    rw [List.length_map, List.length_range] at hm
                    walk_at "dl"
                    refine do_eqD (sl_ints _) (by decide) ?_
                    have e1 : PyData.eqv (.list ((List.replicate m (1 : Int)).map PyData.int)) (.list []) = decide (m = 0) := by
                      cases m with
                      | zero => rfl
                      | succ m => rw [List.replicate_succ]; rfl
                    rw [e1]
                    have e : isLnB (lnD ks s) = decide (m = 0) := isLnB_of (by
                      rw [decide_eq_true_eq, isLn_iff, hm]
                      constructor
                      · intro z i hi; exact z.2.2.2 i (by omega)
                      · intro z; exact ⟨x0, h0, ris, fun i hi => z i (by omega)⟩)
                    have h' : Φ (.bool (isLnB (lnD ks s))) := h
                    rw [e] at h'; exact h'
end
end DL

set_option Elab.async false
set_option linter.all false
set_option maxRecDepth 100000
set_option maxHeartbeats 4000000
/-! DM5: list(zip(xs, ys)) -/
namespace DZ
open PySem PySem.W PySem.Calls PyProof.Rows PyProof.V PySem.Spec
theorem zNoLen : typeLookup (.type "zip") "__len__" = pure none := by
  rw [typeLookup_type, builtinLookup_eq_fast]
  kernel_rfl
theorem zNoHint : typeLookup (.type "zip") "__length_hint__" = pure none := by
  rw [typeLookup_type, builtinLookup_eq_fast]
  kernel_rfl
/-- where the parts of a zip stand, all below the list S -/
structure Pl (z TI TO i1 i2 l1 l2 S : Addr) : Prop where
  D : ZipApart z TI TO i1 i2 l1 l2
  z : z < S
  TI : TI < S
  TO : TO < S
  i1 : i1 < S
  i2 : i2 < S
  l1 : l1 < S
  l2 : l2 < S
/-- a zip behind its i-th pair -/
structure St (z TI TO i1 i2 l1 l2 S : Addr) (xs ys : Array Value) (i : Nat) (h : Heap) : Prop where
  ti : IsPair h TI (.ref i1) (.ref i2)
  a1 : h.IsListIter i1 l1 i
  a2 : h.IsListIter i2 l2 i
  b1 : h.IsList l1 xs
  b2 : h.IsList l2 ys
  out : (IsZip h z TI TO .none ∧ ∃ a b, IsPair h TO a b) ∨ ∃ (T : Addr) (f : Bool) (oT : Obj), IsZipHeld h z TI TO T f ∧ h.get? T = some oT ∧ T ≠ z ∧ T ≠ i1 ∧ T ≠ i2 ∧ T ≠ S
/-- the pairs made so far -/
structure Gd (xs ys : Array Value) (S : Addr) (h : Heap) (as : List Addr) : Prop where
  up : as.Pairwise (· < ·)
  lo : ∀ a ∈ as, S < a
  at' : ∀ (j : Nat) (a : Addr), as[j]? = some a → ∃ x y, xs[j]? = some x ∧ ys[j]? = some y ∧ IsPair h a x y
section
variable {prog : Program} {w : World} {A : Around} {E : Value → Shared → Prop} {s : Shared} {z TI TO i1 i2 l1 l2 S : Addr} {xs ys : Array Value}
theorem St.mv {i : Nat} {h g : Heap} (P : Pl z TI TO i1 i2 l1 l2 S) (t : St z TI TO i1 i2 l1 l2 S xs ys i h) (k : ∀ b o, b ≠ S → h.get? b = some o → g.get? b = some o) : St z TI TO i1 i2 l1 l2 S xs ys i g := by
  have n : ∀ {b : Addr}, b < S → b ≠ S := fun h => Nat.ne_of_lt h
  refine ⟨k _ _ (n P.TI) t.ti, t.a1.at fun o e => k _ _ (n P.i1) e, t.a2.at fun o e => k _ _ (n P.i2) e, t.b1.at fun o e => k _ _ (n P.l1) e, t.b2.at fun o e => k _ _ (n P.l2) e, ?_⟩
  cases t.out with
  | inl q =>
    obtain ⟨q1, a, b, q2⟩ := q
    exact .inl ⟨k _ _ (n P.z) q1, a, b, k _ _ (n P.TO) q2⟩
  | inr q =>
    obtain ⟨T, f, oT, q1, q2, q3, q4, q5, q6⟩ := q
    exact .inr ⟨T, f, oT, k _ _ (n P.z) q1, k _ _ q6 q2, q3, q4, q5, q6⟩
theorem St.nxt {i : Nat} {x y : Value} {Q : Option Value → Shared → Prop} (P : Pl z TI TO i1 i2 l1 l2 S) (t : St z TI TO i1 i2 l1 l2 S xs ys i s.heap) (hS : S < s.heap.objs.size) (hx : xs[i]? = some x) (hy : ys[i]? = some y)
    (q : ∀ g, St z TI TO i1 i2 l1 l2 S xs ys (i + 1) g → IsPair g s.heap.objs.size x y → g.objs.size = s.heap.objs.size + 1 → (∀ c o, c ≠ z → c ≠ TO → c ≠ i1 → c ≠ i2 → s.heap.get? c = some o → g.get? c = some o) → Q (some (.ref s.heap.objs.size)) { s with heap := g }) :
    wpAny (model prog w) A (pyNext (.ref z)) Q E s := by
  have D := P.D
  have ln : ∀ {c : Addr} {o : Obj}, s.heap.get? c = some o → s.heap.objs.size ≠ c := fun e => Nat.ne_of_gt (Heap.lt_size e)
  obtain ⟨o1, p1, _⟩ := id t.a1
  obtain ⟨o2, p2, _⟩ := id t.a2
  cases t.out with
  | inl o =>
    obtain ⟨oz, a, b, oTO⟩ := o
    refine wpAny_pyNext_zip_item D oz t.ti oTO t.a1 t.a2 t.b1 t.b2 hx hy fun g g1 g2 g3 g4 g5 g6 kp => q g ?_ g5 g6 kp
    refine ⟨kp _ _ D.TIz D.TITO D.TIi1 D.TIi2 t.ti, g3, g4, t.b1.at fun o e => kp _ o D.l1z D.l1TO D.l1i1 D.l1i2 e, t.b2.at fun o e => kp _ o D.l2z D.l2TO D.l2i1 D.l2i2 e, .inr ?_⟩
    exact ⟨s.heap.objs.size, false, _, g1, g5, ln oz, ln p1, ln p2, Nat.ne_of_gt hS⟩
  | inr o =>
    obtain ⟨T, f, oT, oz, hT, r1, r2, r3, r4⟩ := o
    refine wpAny_pyNext_zip_item_held D oz hT t.ti t.a1 t.a2 t.b1 t.b2 hx hy fun g g1 g3 g4 g5 g6 kp => q g ?_ g5 g6 fun c o c1 _ c3 c4 e => kp c o c1 c3 c4 e
    refine ⟨kp _ _ D.TIz D.TIi1 D.TIi2 t.ti, g3, g4, t.b1.at fun o e => kp _ o D.l1z D.l1i1 D.l1i2 e, t.b2.at fun o e => kp _ o D.l2z D.l2i1 D.l2i2 e, .inr ?_⟩
    exact ⟨T, true, oT, g1, kp _ _ r1 r2 r3 hT, r1, r2, r3, r4⟩
theorem St.end' {i : Nat} {Q : Option Value → Shared → Prop} (hh : A.handled = none) (P : Pl z TI TO i1 i2 l1 l2 S) (t : St z TI TO i1 i2 l1 l2 S xs ys i s.heap) (he : xs[i]? = none)
    (q : ∀ g, (∀ c o, c ≠ z → c ≠ TO → c ≠ i1 → c ≠ i2 → s.heap.get? c = some o → g.get? c = some o) → Q none { s with heap := g }) :
    wpAny (model prog w) A (pyNext (.ref z)) Q E s := by
  cases t.out with
  | inl o =>
    obtain ⟨oz, a, b, oTO⟩ := o
    exact wpAny_pyNext_zip_end hh P.D oz t.ti oTO t.a1 t.a2 t.b1 t.b2 (.inl he) fun g kp => q g kp
  | inr o =>
    obtain ⟨T, f, oT, oz, hT, r1, r2, r3, r4⟩ := o
    exact wpAny_pyNext_zip_end_held hh P.D oz hT t.ti t.a1 t.a2 t.b1 t.b2 (.inl he) fun g kp => q g fun c o c1 _ c3 c4 e => kp c o c1 c3 c4 e
end
section
variable {prog : Program} {w : World} {A : Around} {s : Shared} {R : Result → Shared → Prop} {z TI TO i1 i2 l1 l2 S : Addr} {xs ys : Array Value}
theorem fill (hh : A.handled = none) (P : Pl z TI TO i1 i2 l1 l2 S) (hl : xs.size = ys.size) (hn : xs.size ≤ sizeLine) (res : Value) {g0 : Heap} (low : ∀ b o, g0.get? b = some o → b ≠ S ∧ b ≠ z ∧ b ≠ TO ∧ b ≠ i1 ∧ b ≠ i2)
    (fin : ∀ g tk acc c as, (∀ b o, g0.get? b = some o → g.get? b = some o) → g.get? S = some { cls := .type "list", dict := none, data := .seq acc c, slots := #[] } → as.length = xs.size → Gd xs ys S g as →
      acc.toList = as.map Value.ref → R (.ok (.ret res)) { s with heap := g, toks := tk }) :
    ∀ (m i : Nat) (g : Heap) (tk c : Nat) (acc : Array Value) (as : List Addr), xs.size = i + m → St z TI TO i1 i2 l1 l2 S xs ys i g → (∀ b o, g0.get? b = some o → g.get? b = some o) →
      g.get? S = some { cls := .type "list", dict := none, data := .seq acc c, slots := #[] } → acc.toList = as.map Value.ref → as.length = i → Gd xs ys S g as →
      codeAny (model prog w) A (.builtin "list.extend.loop" ⟨[.ref S, .ref z, res], []⟩) R { s with heap := g, toks := tk } := by
  intro m
  induction m with
  | zero =>
    intro i g tk c acc as e t kp hS ha al G
    ((refine codeAny_builtin PySem.F.entry_extend_loop ?_); (rw [Around.under_plainId PySem.F.plain_extend_loop _]); (show wpAny _ A.in1 (pyNext (.ref z) >>= _) _ _ _))
    refine wpAny_bind (t.end' (s := { s with heap := g, toks := tk }) (A := A.in1) hh P (Array.getElem?_eq_none (by omega)) fun g' k' => ?_)
    have nS : S ≠ z ∧ S ≠ TO ∧ S ≠ i1 ∧ S ≠ i2 := ⟨Nat.ne_of_gt P.z, Nat.ne_of_gt P.TO, Nat.ne_of_gt P.i1, Nat.ne_of_gt P.i2⟩
    refine wpAny_pure (fin g' tk acc c as (fun b o e' => ?_) (k' _ _ nS.1 nS.2.1 nS.2.2.1 nS.2.2.2 hS) (by omega) ⟨G.up, G.lo, fun j a ja => ?_⟩ ha)
    · obtain ⟨_, w1, w2, w3, w4⟩ := low b o e'
      exact k' b o w1 w2 w3 w4 (kp b o e')
    · obtain ⟨x, y, hx, hy, hp⟩ := G.at' j a ja
      have la := G.lo a (List.mem_of_getElem? ja)
      exact ⟨x, y, hx, hy, k' _ _ (Nat.ne_of_gt (Nat.lt_trans P.z la)) (Nat.ne_of_gt (Nat.lt_trans P.TO la)) (Nat.ne_of_gt (Nat.lt_trans P.i1 la)) (Nat.ne_of_gt (Nat.lt_trans P.i2 la)) hp⟩
  | succ m ih =>
    intro i g tk c acc as e t kp hS ha al G
    have hix : i < xs.size := by omega
    have hiy : i < ys.size := by omega
    have as' : acc.size = i := by rw [← Array.length_toList, ha, List.length_map, al]
    have sS : S < g.objs.size := Heap.lt_size hS
    ((refine codeAny_builtin PySem.F.entry_extend_loop ?_); (rw [Around.under_plainId PySem.F.plain_extend_loop _]); (show wpAny _ A.in1 (pyNext (.ref z) >>= _) _ _ _))
    refine wpAny_bind (t.nxt (s := { s with heap := g, toks := tk }) P sS (Array.getElem?_eq_getElem hix) (Array.getElem?_eq_getElem hiy) fun g' t' hp hz k' => ?_)
    dsimp only at t' hp hz k' ⊢
    have nS : S ≠ z ∧ S ≠ TO ∧ S ≠ i1 ∧ S ≠ i2 := ⟨Nat.ne_of_gt P.z, Nat.ne_of_gt P.TO, Nat.ne_of_gt P.i1, Nat.ne_of_gt P.i2⟩
    have hS' := k' _ _ nS.1 nS.2.1 nS.2.2.1 nS.2.2.2 hS
    have mv : ∀ b o, b ≠ S → g'.get? b = some o → (g'.update S (Obj.mapSeq (·.push (Value.ref g.objs.size)))).get? b = some o := fun b o hb e' => by
      rw [Heap.get?_update_other _ _ (Ne.symm hb)]; exact e'
    have old : ∀ a, S < a → ∀ o, g.get? a = some o → (g'.update S (Obj.mapSeq (·.push (Value.ref g.objs.size)))).get? a = some o := fun a la o e' =>
      mv a o (Nat.ne_of_gt la) (k' _ _ (Nat.ne_of_gt (Nat.lt_trans P.z la)) (Nat.ne_of_gt (Nat.lt_trans P.TO la)) (Nat.ne_of_gt (Nat.lt_trans P.i1 la)) (Nat.ne_of_gt (Nat.lt_trans P.i2 la)) e')
    show wpAny _ A.in1 (updateSeq S (·.push (Value.ref g.objs.size)) >>= _) _ _ _
    refine wpAny_bind (wpAny_updateSeq hS' rfl (wpAny_pure ⟨plainId_quiet PySem.F.plain_extend_loop _, ?_⟩) (by rw [as']; omega) (by show (acc.push (Value.ref g.objs.size)).size ≤ sizeLine + 1; rw [Array.size_push, as']; omega))
    refine ih (i + 1) _ tk _ (acc.push (Value.ref g.objs.size)) (as ++ [g.objs.size]) (by omega) (t'.mv P mv) (fun b o e' => ?_) (Heap.get?_update_self _ hS' rfl) ?_ (by rw [List.length_append, al]; rfl) ⟨?_, fun a ha' => ?_, fun j a ja => ?_⟩
    · obtain ⟨w0, w1, w2, w3, w4⟩ := low b o e'
      exact mv b o w0 (k' b o w1 w2 w3 w4 (kp b o e'))
    · rw [Array.toList_push, ha, List.map_append]; rfl
    · refine List.pairwise_append.mpr ⟨G.up, List.pairwise_singleton _ _, fun a ha' b hb => ?_⟩
      have e1 : b = g.objs.size := by simpa using hb
      subst e1
      obtain ⟨j, hj⟩ := List.mem_iff_getElem?.mp ha'
      obtain ⟨_, _, _, _, hp'⟩ := G.at' j a hj
      exact Heap.lt_size hp'
    · rcases List.mem_append.mp ha' with h | h
      · exact G.lo a h
      · have e1 : a = g.objs.size := by simpa using h
        subst e1; exact sS
    · by_cases q : j < as.length
      · rw [List.getElem?_append_left q] at ja
        obtain ⟨x, y, hx, hy, hp'⟩ := G.at' j a ja
        exact ⟨x, y, hx, hy, old a (G.lo a (List.mem_of_getElem? ja)) _ hp'⟩
      · by_cases q2 : j = as.length
        · subst q2
          have e1 : g.objs.size = a := by simpa using ja
          subst e1
          exact ⟨_, _, by rw [al]; exact Array.getElem?_eq_getElem hix, by rw [al]; exact Array.getElem?_eq_getElem hiy, mv _ _ (Nat.ne_of_gt sS) hp⟩
        · rw [List.getElem?_eq_none (by rw [List.length_append, List.length_singleton]; omega)] at ja
          cases ja
end
section
variable {prog : Program} {w : World} {A : Around} {E : Value → Shared → Prop} {s : Shared} {z TI TO i1 i2 l1 l2 : Addr} {xs ys : Array Value}
/-- list(z), z a new zip of two lists of one length -/
theorem made {Q : Value → Shared → Prop} {g0 : Heap} (hh : A.handled = none) (P : Pl z TI TO i1 i2 l1 l2 s.heap.objs.size) (hl : xs.size = ys.size) (hn : xs.size ≤ sizeLine)
    (hz : IsZip s.heap z TI TO .none) (hTI : IsPair s.heap TI (.ref i1) (.ref i2)) (hTO : ∃ a b, IsPair s.heap TO a b) (h1 : s.heap.IsListIter i1 l1 0) (h2 : s.heap.IsListIter i2 l2 0) (b1 : s.heap.IsList l1 xs) (b2 : s.heap.IsList l2 ys)
    (k0 : ∀ b o, g0.get? b = some o → s.heap.get? b = some o ∧ b ≠ z ∧ b ≠ TO ∧ b ≠ i1 ∧ b ≠ i2)
    (fin : ∀ g tk acc c as, (∀ b o, g0.get? b = some o → g.get? b = some o) → g.get? s.heap.objs.size = some { cls := .type "list", dict := none, data := .seq acc c, slots := #[] } → as.length = xs.size → Gd xs ys s.heap.objs.size g as →
      acc.toList = as.map Value.ref → Q (.ref s.heap.objs.size) { s with heap := g, toks := tk }) : wpAny (model prog w) A (call (.type "list") [.ref z]) Q E s := by
  refine callType_codes (Q₁ := fun obj t => obj = .ref s.heap.objs.size ∧ t = { s with heap := s.heap.push { cls := .type "list", data := .seq #[] } }) PySem.F.called_list (PySem.F.typeCall_list_1 _) PySem.F.entry_list_init (code_list_new _ ⟨rfl, rfl⟩) fun obj t ht => ?_
  obtain ⟨rfl, rfl⟩ := ht
  have o0 : (s.heap.push { cls := .type "list", data := .seq #[] }).get? s.heap.objs.size = some { cls := .type "list", data := .seq #[] } := Heap.get?_push_size _ rfl
  refine ⟨⟨_, o0, rfl⟩, PySem.F.args_list_init_2 _ _, ?_⟩
  have zS : s.heap.objs.size ≠ z := Nat.ne_of_gt P.z
  have kk : ∀ b o, s.heap.get? b = some o → b ≠ s.heap.objs.size := fun b o e => Nat.ne_of_lt (Heap.lt_size e)
  have st0 : St z TI TO i1 i2 l1 l2 s.heap.objs.size xs ys 0 s.heap := ⟨hTI, h1, h2, b1, b2, .inl ⟨hz, hTO⟩⟩
  generalize s.heap.objs.size = S at *
  have n0 : ∀ (g : Heap) (f : Obj → Obj), (∀ b o, b ≠ S → s.heap.get? b = some o → g.get? b = some o) → ∀ b o, b ≠ S → s.heap.get? b = some o → (g.update S f).get? b = some o := fun g f q b o hb e => by
    rw [Heap.get?_update_other _ _ (Ne.symm hb)]; exact q b o hb e
  have m1 : ∀ b o, b ≠ S → s.heap.get? b = some o → (s.heap.push { cls := .type "list", data := .seq #[] }).get? b = some o := fun b o _ e => Heap.get?_push_of_some _ e
  generalize s.heap.push { cls := .type "list", data := .seq #[] } = g1 at o0 m1 ⊢
  show wpAny _ A.in1.in1 (do let old ← Builtin.List.listItems (.ref S); Builtin.List.listUpdate (.ref S) (fun _ => #[]); letGo old.toList.reverse; Builtin.List.listExtendWith (.ref S) (.ref z) .none) _ _ _
  refine wpAny_bind ?_
  unfold Builtin.List.listItems
  refine wpAny_bind (wpAny_seqItems o0 rfl (wpAny_pure ?_))
  show wpAny _ A.in1.in1 (updateSeq S (fun _ => #[]) >>= fun _ => letGo (#[] : Array Value).toList.reverse >>= fun _ => Builtin.List.listExtendWith (.ref S) (.ref z) .none) _ _ _
  refine wpAny_bind (wpAny_updateSeq o0 rfl ?_)
  have o2 := Heap.get?_update_self (Obj.mapSeq (fun _ => (#[] : Array Value))) o0 rfl
  have m2 := n0 g1 (Obj.mapSeq (fun _ => (#[] : Array Value))) m1
  generalize g1.update S (Obj.mapSeq (fun _ => (#[] : Array Value))) = g2 at o2 m2 ⊢
  refine wpAny_bind (wpAny_letGo ?_)
  unfold Builtin.List.listExtendWith
  have tz : Shared.TypeIs { s with heap := g2 } (.ref z) "zip" := ⟨_, m2 _ _ (Ne.symm zS) hz, rfl⟩
  refine wpAny_bind (wpAny_typeOf tz ?_)
  have c1 : Builtin.List.listSameRef (.ref S) (.ref z) = false := by simp [Builtin.List.listSameRef, zS]
  have c2 : (Value.type "zip" == Value.type "list") = false := by decide
  have c3 : (Value.type "zip" == Value.type "tuple") = false := by decide
  simp only [c1, c2, c3, Bool.or_false, Bool.false_eq_true, if_false]
  refine wpAny_bind (wpAny_pyIter_zip (s := { s with heap := g2 }) (m2 _ _ (Ne.symm zS) hz) ?_)
  refine wpAny_bind (wpAny_holding ?_)
  unfold Builtin.List.listLengthHint
  refine wpAny_bind (wpAny_specialOf tz zNoLen ?_)
  show wpAny _ A.in1.in1 (specialOf (Value.ref z) (Str.ofString "__length_hint__") >>= _) _ _ _
  refine wpAny_bind (wpAny_specialOf tz zNoHint ?_)
  refine wpAny_pure ?_
  show wpAny _ A.in1.in1 (rule "list.extend.makes-room" >>= fun _ => Builtin.List.listTouch (.ref S) >>= fun _ => again (.builtin "list.extend.loop" ⟨[.ref S, .ref z, .none], []⟩)) _ _ _
  refine wpAny_bind (wpAny_rule ?_)
  refine wpAny_bind ?_
  show wpAny _ A.in1.in1 (updateSeq S (·.push .none) >>= fun _ => updateSeq S (·.pop)) _ _ _
  refine wpAny_bind (wpAny_updateSeq o2 rfl ?_)
  have o3 := Heap.get?_update_self (Obj.mapSeq (·.push Value.none)) o2 rfl
  have m3 := n0 g2 (Obj.mapSeq (·.push Value.none)) m2
  refine wpAny_updateSeq (hz := by seq_fits) o3 rfl ?_
  have o4 := Heap.get?_update_self (Obj.mapSeq (·.pop)) o3 rfl
  have m4 := n0 _ (Obj.mapSeq (·.pop)) m3
  refine wpAny_pure ⟨plainId_quiet PySem.F.plain_extend_loop _, ?_⟩
  refine fill (s := s) (xs := xs) (ys := ys) (g0 := g0) (A := A.in1) hh P hl hn .none (fun b o e => ?_) (fun g tk acc c as q1 q2 q3 q4 q5 => ⟨rfl, fin g tk acc c as q1 q2 q3 q4 q5⟩) xs.size 0 _ _ _ _ [] (by omega) (st0.mv P m4) (fun b o e => ?_) o4 ?_ rfl ⟨List.Pairwise.nil, (fun a h => by cases h), (fun j a h => by simp at h)⟩
  · obtain ⟨e1, e2⟩ := k0 b o e
    exact ⟨kk b o e1, e2⟩
  · obtain ⟨e1, _⟩ := k0 b o e
    exact m4 b o (kk b o e1) e1
  · rfl
end
end DZ

set_option Elab.async false
set_option linter.all false
set_option maxRecDepth 100000
set_option maxHeartbeats 4000000
/-! DM6: list(zip(xs, ys)) in the hand layer, over data -/
namespace DL
open PySem PySem.Spec PyProof.Rows L2
def tLZip (K : PySem.W.Frag) (ta : TA) : TE := fun σ H Q => ta σ H fun vs H1 => ∃ (a b : Addr) (xs ys : List V), vs = [.ref a, .ref b] ∧ SqL K H1 a xs ∧ SqL K H1 b ys ∧ xs.length = ys.length ∧
  ∀ (H2 : Hp) (l : Addr) (as : List Addr), Same H1 H2 → H1 l = none → H2 l = some (.lst (as.map V.ref)) → as.length = xs.length → (∀ (j : Nat) (c : Addr), as[j]? = some c → H1 c = none ∧ ∃ x y, xs[j]? = some x ∧ ys[j]? = some y ∧ H2 c = some (.tup [x, y])) → Q (.ref l) H2
theorem vals_refs : ∀ as : List Addr, Vals (as.map V.ref) (as.map Value.ref)
  | [] => .nil
  | a :: as => .cons rfl (vals_refs as)
theorem pe_lzip {X : Cx} {e1 e2 : Expr} {ta : TA} {p p2 pos pos2 : Pos} (hc : X.calm = true) (hgl : Gl X "list") (hml : X.mg "list" = none) (hgz : Gl X "zip") (hmz : X.mg "zip" = none) (ha : PA X [e1, e2] ta)
    (h1 : starEach [Expr.Call (.Name "zip" p2) [e1, e2] [] pos2] X.env = [(false, eval (.Call (.Name "zip" p2) [e1, e2] [] pos2) X.env)] := by rfl)
    (h2 : starEach [e1, e2] X.env = (false, eval e1 X.env) :: starEach [e2] X.env := by rfl) (h3 : (backTo pos2 (starEach [e2] X.env)).any (·.1) = false := by rfl) :
    PE X (.Call (.Name "list" p) [.Call (.Name "zip" p2) [e1, e2] [] pos2] [] pos) (tLZip X.K ta) := by
  refine ⟨fun pins s σ H Q I h => ?_⟩
  refine wpAny_Call_Name_kw (ld_blt I hgl hml (u := .type "list") (by decide +kernel) ?_)
  refine PyProof.Rows.callWith_type1 (rest := []) ?_ h1 rfl
  rw [h1]
  show wpAny _ _ (spliced [(false, eval (.Call (.Name "zip" p2) [e1, e2] [] pos2) X.env)]) _ _ s
  refine Calls.spliced_cons (wpAny_Call_Name_kw (ld_blt I hgz hmz PyProof.Rows.boot_zip (PyProof.Rows.callWith_type1 (thn (ha.run pos2 pins s σ H _ I h) fun us s1 ⟨vs, H1, I1, r1, q1⟩ => ?_) h2 h3)))
  obtain ⟨a, b, xs, ys, ex, hqx, hqy, hlen, q⟩ := q1
  subst ex
  cases r1 with
  | cons ra rr =>
    cases rr with
    | cons rb rr =>
      cases rr
      cases ra
      cases rb
      obtain ⟨its, rv, p1, hz1⟩ := I1.list hqx
      obtain ⟨jts, rw', p2', hz2⟩ := I1.list hqy
      have n1 := rv.length
      have n2 := rw'.length
      refine call_zip_2 p1.isList p2'.isList fun g hz hTI hTO g1 g2 hsz hk => Calls.spliced_nil ?_
      have la := p1.lt
      have lb := p2'.lt
      have I2 : L2.Inv X pins σ H1 { s1 with heap := g } := I1.kept (t' := s1.toks) hk
      have old : ∀ b o, s1.heap.get? b = some o → b < s1.heap.objs.size := fun b o e => Heap.lt_size e
      refine DZ.made (s := { s1 with heap := g }) (xs := its.toArray) (ys := jts.toArray) (g0 := s1.heap) (I1.ok.hd hc) ⟨PySem.W.ktu_apart _ a b la lb, ?_, ?_, ?_, ?_, ?_, ?_, ?_⟩ (by simp; omega) (by simp; omega) hz hTI ⟨_, _, hTO⟩ g1 g2 (p1.isList.at fun o e => hk _ o e) (p2'.isList.at fun o e => hk _ o e) (fun c o e => ?_) fun g' tk acc c as k' hS hal G hacc => ?_
      · show _ < g.objs.size; rw [hsz]; omega
      · show _ < g.objs.size; rw [hsz]; omega
      · show _ < g.objs.size; rw [hsz]; omega
      · show _ < g.objs.size; rw [hsz]; omega
      · show _ < g.objs.size; rw [hsz]; omega
      · show a < g.objs.size; rw [hsz]; exact Nat.lt_of_lt_of_le la (Nat.le_add_right _ _)
      · show b < g.objs.size; rw [hsz]; exact Nat.lt_of_lt_of_le lb (Nat.le_add_right _ _)
      · have lt := old c o e
        have ne : ∀ n, c ≠ s1.heap.objs.size + n := fun n => Nat.ne_of_lt (Nat.lt_of_lt_of_le lt (Nat.le_add_right _ _))
        exact ⟨hk c o e, ne 4, ne 3, ne 0, ne 1⟩
      · replace hS : g'.get? g.objs.size = some { cls := .type "list", dict := none, data := .seq acc c, slots := #[] } := hS
        show EP X pins σ Q (.ref g.objs.size) { s1 with heap := g', toks := tk }
        replace hal : as.length = its.length := by simpa using hal
        have sb : s1.heap.objs.size ≤ g.objs.size := by omega
        have sn : H1 g.objs.size = none := I1.hok.fresh sb
        have Ia : L2.Inv X pins σ H1 { s1 with heap := g', toks := tk } := I1.kept (t' := tk) k'
        have ea : acc = (as.map Value.ref).toArray := by rw [← hacc]
        have Ib : L2.Inv X pins σ (upd H1 g.objs.size (.lst (as.map V.ref))) { s1 with heap := g', toks := tk } :=
          Ia.take (h' := g') (t' := tk) (fun _ _ _ e => e) (I1.fpOk sb sn) ⟨by rw [List.length_map]; omega, as.map Value.ref, c, vals_refs as, by rw [← ea]; exact hS⟩
        have nd : as.Nodup := List.Pairwise.imp (fun h => Nat.ne_of_lt h) G.up
        have vx : ∀ (j : Nat) (c : Addr), as[j]? = some c → ∃ x y u v, xs[j]? = some x ∧ ys[j]? = some y ∧ RelV x u ∧ RelV y v ∧ g'.get? c = some { cls := .type "tuple", data := .seq #[u, v] } := fun j c hj => by
          obtain ⟨u, v, hu, hv, hp⟩ := G.at' j c hj
          have hu' : its[j]? = some u := by simpa using hu
          have hv' : jts[j]? = some v := by simpa using hv
          have lj : j < its.length := (List.getElem?_eq_some_iff.mp hu').1
          have ex := List.getElem?_eq_getElem (l := xs) (i := j) (by omega)
          have ey := List.getElem?_eq_getElem (l := ys) (i := j) (by omega)
          obtain ⟨u', hu2, r1⟩ := rv.get ex
          obtain ⟨v', hv2, r2⟩ := rw'.get ey
          rw [hu'] at hu2; cases hu2
          rw [hv'] at hv2; cases hv2
          exact ⟨_, _, u, v, ex, ey, r1, r2, hp⟩
        obtain ⟨H2, I3, kp, tp⟩ := L2.DX.takeT (h' := g') (tk := tk) (P := fun c vs => ∀ j, as[j]? = some c → ∃ x y, xs[j]? = some x ∧ ys[j]? = some y ∧ vs = [x, y]) I1 as _ Ib nd fun c hcm => by
          obtain ⟨j, hj⟩ := List.mem_iff_getElem?.mp hcm
          obtain ⟨x, y, u, v, ex, ey, r1, r2, hp⟩ := vx j c hj
          have lc : g.objs.size < c := G.lo c hcm
          have cn : H1 c = none := I1.hok.fresh (by omega)
          refine ⟨by omega, by rw [upd_ne (Nat.ne_of_gt lc)]; exact cn, [x, y], fun j' hj' => ?_, fun H3 => ⟨by show 2 ≤ sizeLine; decide, [u, v], .cons r1 (.cons r2 .nil), ⟨_, hp, rfl, _, rfl⟩⟩⟩
          have e : j = j' := (List.getElem?_inj (List.getElem?_eq_some_iff.mp hj).1 nd).mp (hj.trans hj'.symm)
          subst e
          exact ⟨x, y, ex, ey, rfl⟩
        refine ⟨.ref g.objs.size, H2, I3, rfl, q H2 _ as (fun b o e => kp b o (by rw [upd_ne fun z => by rw [z, sn] at e; cases e]; exact e)) sn (kp _ _ upd_same) (by omega) fun j c hj => ?_⟩
        have hcm := List.mem_of_getElem? hj
        obtain ⟨vs, hP, h2c⟩ := tp c hcm
        obtain ⟨x, y, ex, ey, rfl⟩ := hP j hj
        have lc : g.objs.size < c := G.lo c hcm
        exact ⟨I1.hok.fresh (by omega), x, y, ex, ey, h2c⟩
section
variable {K : PySem.W.Frag} {S : Stt} {ρ : Rho} {Φ : PyData → Rho → Prop}
theorem DqAll.zip {N : Av} {H : Hp} : ∀ {us vs : List V} {as : List Addr} {ds es : List PyData}, DqAll K N H us ds → DqAll K N H vs es → as.length = us.length → us.length = vs.length →
    (∀ (j : Nat) (c : Addr), as[j]? = some c → N c = false ∧ ∃ x y, us[j]? = some x ∧ vs[j]? = some y ∧ H c = some (.tup [x, y])) → DqAll K N H (as.map V.ref) (List.zipWith (fun x y => PyData.tuple [x, y]) ds es)
  | [], vs, as, ds, es, h1, h2, l1, l2, _ => by
    cases h1
    have : as = [] := List.length_eq_zero_iff.mp l1
    subst this
    exact DqAll.nil
  | u :: us, [], _, _, _, _, _, _, l2, _ => by simp at l2
  | u :: us, v :: vs, [], _, _, _, _, l1, _, _ => by simp at l1
  | u :: us, v :: vs, a :: as, ds, es, h1, h2, l1, l2, h => by
    cases h1 with
    | cons a1 a2 =>
      cases h2 with
      | cons b1 b2 =>
        obtain ⟨n, x, y, ex, ey, hc⟩ := h 0 a rfl
        cases ex; cases ey
        refine DqAll.cons (Dq.tup n hc (DqAll.cons a1 (DqAll.cons b1 DqAll.nil))) (DqAll.zip a2 b2 (by simpa using l1) (by simpa using l2) fun j c hj => ?_)
        obtain ⟨n', x', y', ex', ey', hc'⟩ := h (j + 1) c hj
        exact ⟨n', x', y', ex', ey', hc'⟩
theorem wd_lzip {ta : TA} (h : WA K S ta ρ fun xs ρ1 => ∃ ds es, xs = [.list ds, .list es] ∧ ds.length = es.length ∧ Φ (.list (List.zipWith (fun x y => PyData.tuple [x, y]) ds es)) ρ1) : WD K S (tLZip K ta) ρ Φ := fun H0 N0 Z N σ H E Q q =>
  h H0 N0 Z N σ H E _ fun vs xs ρ1 H1 ⟨ds, es, e, hl, f⟩ E1 k1 d1 => by
    subst e
    cases d1 with
    | cons a1 a2 =>
      cases a2 with
      | cons a2 a3 =>
        cases a3
        obtain ⟨p, us, rfl, _, hu, ha⟩ := Dq.lst_inv (N := N) (H := H1) a1
        obtain ⟨p', vs', rfl, _, hv, hb⟩ := Dq.lst_inv (N := N) (H := H1) a2
        refine ⟨p, p', us, vs', rfl, .inl hu, .inl hv, by rw [ha.len, hb.len]; exact hl, fun H2 l as sm ln hl2 al ht => ?_⟩
        have E2 := E1.ext sm
        have nf : ∀ c, H1 c = none → N c = false := fun c hc => fresh_av E1.trk hc
        refine q _ _ ρ1 H2 f E2 (k1.trans (Keep.of sm)) (Dq.lst (nf l ln) hl2 ?_)
        exact DqAll.zip (ha.keep (Keep.of sm)) (hb.keep (Keep.of sm)) al (by rw [ha.len, hb.len]; exact hl) fun j c hj => by
          obtain ⟨cn, x, y, ex, ey, hc⟩ := ht j c hj
          exact ⟨nf c cn, x, y, ex, ey, hc⟩
end
end DL

set_option Elab.async false
set_option linter.all false
set_option maxRecDepth 100000
set_option maxHeartbeats 4000000
/-! DM7: calls that tell a new list -/
namespace DL
open PySem PySem.Spec PyProof.Rows L2
/-- a new list of data -/
def spM (K : PySem.W.Frag) (T : List PyData → (List PyData → Prop) → Prop) : Sp := fun vs H Q _ => ∃ (N : Av) (ds : List PyData) (Φ : List PyData → Prop),
  (∀ b, N b = true → H b ≠ none) ∧ DqAll K N H vs ds ∧ T ds Φ ∧ ∀ es, Φ es → ∀ p us G, Same H G → G p = none → DqAll K N G us es → Q (.ref p) (upd G p (.lst us))
section
variable {K : PySem.W.Frag} {S : Stt} {ρ : Rho} {Φ : PyData → Rho → Prop}
theorem spM_len {T : List PyData → (List PyData → Prop) → Prop} {n : Nat} {vs : List V} {H : Hp} {Q : VK} {E : XK} (hT : ∀ ds Φ, T ds Φ → ds.length = n) (h : spM K T vs H Q E) : vs.length = n := by
  obtain ⟨N, ds, Φ, _, hd, t, _⟩ := h
  exact hd.len.trans (hT ds Φ t)
theorem ws_callM {T : List PyData → (List PyData → Prop) → Prop} {E : XK} {ta : TA} {i : Nat} {En : DE} (h : WA K S ta ρ fun xs ρ1 => T xs fun es => En.nx (ρ1.set i (.own es))) :
    WS K S (tAsg (tCall (spM K T) [] E ta) (gName i)) ρ En := fun H0 N0 Z N σ H D E' M =>
  h H0 N0 Z N σ H E' _ fun vs xs ρ1 H1 f E1 k1 d1 => by
    refine ⟨N, xs, _, E1.trk, by rw [List.append_nil]; exact d1, f, fun es hes p us G sm hp hu => ?_⟩
    have E2 := E1.ext sm
    obtain ⟨z1, z2⟩ := free0 E2 hp
    exact M.nx _ _ _ _ hes (E2.new hp z1 z2 hu)
theorem wd_callM {T : List PyData → (List PyData → Prop) → Prop} {E : XK} {ta : TA} (h : WA K S ta ρ fun xs ρ1 => T xs fun es => Φ (.list es) ρ1) : WD K S (tCall (spM K T) [] E ta) ρ Φ := fun H0 N0 Z N σ H E' Q q =>
  h H0 N0 Z N σ H E' _ fun vs xs ρ1 H1 f E1 k1 d1 => by
    refine ⟨N, xs, _, E1.trk, by rw [List.append_nil]; exact d1, f, fun es hes p us G sm hp hu => ?_⟩
    have E2 := E1.ext sm
    have s := same_new hp (.lst us)
    exact q _ _ ρ1 _ hes (E2.ext s) ((k1.trans (Keep.of sm)).trans (Keep.of s)) (Dq.lst (fresh_av E2.trk hp) upd_same (hu.keep (Keep.of s)))
/-- a body whose end is own + te -/
theorem run_Mcat {T : List PyData → (List PyData → Prop) → Prop} {Nm : List Str} {ts : TS} {te : TE} {i : Nat} {vs : List V} {H : Hp} {Q : VK} {E : XK} (h : spM K T vs H Q E)
    (b : ∀ ds Ψ, T ds Ψ → WS K S0 ts (rhoOf Nm.length ds) { nx := fun ρ => ∃ xs, ρ[i]? = some (.own xs) ∧ WD K S0 te ρ fun d ρ' => ∃ ys, d = .list ys ∧ ρ'[i]? = some (.own xs) ∧ xs.length + ys.length ≤ sizeLine ∧ Ψ (xs ++ ys), rt := fun _ _ => False }) :
    tSeq ts (tRet (tOp rCatL (tVar i) te)) { nx := fun _ H' => Q .non H', rt := Q } (L2.start Nm vs) H := by
  obtain ⟨N, ds, Ψ, ht, hd, t, hQ⟩ := h
  refine b ds Ψ t H N [] N (L2.start Nm vs) H _ (env_start (Nm := Nm) ht hd) ⟨fun N1 σ1 H1 ρ1 ⟨xs, hi, w⟩ E1 => ?_, fun _ _ _ _ _ _ z => z.elim, fun _ _ _ _ z => z.elim, fun _ _ _ _ z => z.elim⟩
  obtain ⟨p, us, g1, _⟩ := E1.slot i _ hi
  refine ⟨_, g1, w H N [] N1 σ1 H1 E1 _ fun v d ρ2 H2 ⟨ys, ey, hi2, hz, hΨ⟩ E2 k2 d2 => ?_⟩
  subst ey
  obtain ⟨p', us', g1', g2, g3, g4, g5, g6, g7⟩ := E2.slot i _ hi2
  rw [g1] at g1'; cases g1'
  obtain ⟨p2, ws, rfl, _, h3, h4⟩ := Dq.lst_inv d2
  refine ⟨p, p2, us', ws, rfl, rfl, .inl g6, h3, by rw [g7.len, h4.len]; exact hz, fun r hr => ?_⟩
  exact hQ (xs ++ ys) hΨ r (us' ++ ws) H2 (fun b o e => E2.keep b o rfl e) hr ((g7.append h4).le E2.base)
end
end DL

set_option Elab.async false
set_option linter.all false
set_option maxRecDepth 100000
set_option maxHeartbeats 4000000
/-! DM8: a list of one's own lengthened by a comprehension -/
namespace DL
open PySem PySem.Spec PyProof.Rows L2
section
variable {K : PySem.W.Frag} {S : Stt} {ρ : Rho}
theorem ws_extendLc {wi : TI} {g : TG} {tt : TT} {te : TE} {vs : List Nat} {i : Nat} {es : List PyData} {En : DE} (hi : ρ[i]? = some (.own es))
    (h : WI K S wi ρ fun ds ρ1 => ds.length ≤ sizeLine ∧ ∃ I : Nat → List PyData → Rho → Prop, I 0 [] (wipeR ρ1 vs) ∧
      (∀ k d acc ρ2, ds[k]? = some d → I k acc ρ2 → ∃ ts f, GD K g d ts f ∧ (∀ j ∈ ts, j ∈ vs) ∧
        WT K S tt (f ρ2) fun b ρ3 => if b = true then WD K S te ρ3 fun y ρ4 => I (k + 1) (acc ++ [y]) (wipeR ρ4 vs) else I (k + 1) acc (wipeR ρ3 vs)) ∧
      (∀ acc ρ2, I ds.length acc ρ2 → ∃ fs, (wipeR ρ2 vs)[i]? = some (.own fs) ∧ fs.length + acc.length ≤ sizeLine ∧ En.nx ((wipeR ρ2 vs).set i (.own (fs ++ acc))))) :
    WS K S (tDrop (tBM K "list" rExtend (tVar i) (tCons (tLc wi g tt te vs) tNil))) ρ En := fun H0 N0 Z N σ H D E M => by
  obtain ⟨p, xs, g1, g2, g3, g4, g5, g6, g7⟩ := E.slot i _ hi
  refine ⟨.ref p, g1, .inl ⟨rfl, _, .inl (.inl g6)⟩, ?_⟩
  refine lc_own (Θ := fun acc ρ' => ∃ fs, ρ'[i]? = some (.own fs) ∧ fs.length + acc.length ≤ sizeLine ∧ En.nx (ρ'.set i (.own (fs ++ acc)))) h E fun b acc ρ' H' nD ⟨fs, f1, f2, f3⟩ E' k => ?_
  obtain ⟨p', xs', e1, e2, e3, e4, e5, e6, e7⟩ := E'.slot i _ f1
  rw [g1] at e1; cases e1
  obtain ⟨zs, _, _, _, _, hb, hz⟩ := E'.hid _ List.mem_cons_self
  exact ⟨p, b, xs', zs, rfl, rfl, e6, hb, by rw [e7.len, hz.len]; exact f2, M.nx _ _ _ _ f3 (E'.chg (xs := xs') f1 g1 (e7.append hz)).pop⟩
end
end DL

set_option Elab.async false
set_option linter.all false
set_option maxRecDepth 100000
set_option maxHeartbeats 4000000
/-! DM9: three names at once -/
namespace DL
open PySem PySem.Spec PyProof.Rows L2
section
variable {K : PySem.W.Frag} {S : Stt} {ρ : Rho}
theorem ws_par3 {i j l : Nat} {ta : TA} {En : DE} (h : WA K S ta ρ fun ds ρ1 => ∃ x y z, ds = [x, y, z] ∧ En.nx (((ρ1.set i (.dat x)).set j (.dat y)).set l (.dat z))) : WS K S (tPar3 i j l ta) ρ En := fun H0 N0 Z N σ H D E M =>
  h H0 N0 Z N σ H E _ fun vs ds ρ1 H1 ⟨x, y, z, e, f⟩ E1 k1 d1 => by
    subst e
    cases d1 with
    | cons d1 d2 =>
      cases d2 with
      | cons d2 d3 =>
        cases d3 with
        | cons d3 d4 =>
          cases d4
          exact ⟨_, _, _, rfl, M.nx N _ H1 _ f (((E1.set d1).set d2).set d3)⟩
theorem ws_asg3 {te : TE} {i j l : Nat} {En : DE} (h : WD K S te ρ fun d ρ1 => En.nx (((ρ1.set i (.dat d)).set j (.dat d)).set l (.dat d))) : WS K S (tAsg3 te (gName i) (gName j) (gName l)) ρ En := fun H0 N0 Z N σ H D E M =>
  h H0 N0 Z N σ H E _ fun v d ρ1 H1 f E1 k1 d1 => M.nx N _ H1 _ f (((E1.set d1).set d1).set d1)
theorem ws_unp3 {te : TE} {i j l : Nat} {En : DE} (h : WD K S te ρ fun d ρ1 => ∃ x y z, d = .tuple [x, y, z] ∧ En.nx (((ρ1.set i (.dat x)).set j (.dat y)).set l (.dat z))) : WS K S (tAsg te (gTup K 3 (gCons (gName i) (gCons (gName j) (gCons (gName l) gNil))))) ρ En := fun H0 N0 Z N σ H D E M =>
  h H0 N0 Z N σ H E _ fun v d ρ1 H1 ⟨x, y, z, e, f⟩ E1 k1 d1 => by
    subst e
    obtain ⟨p, xs, rfl, _, h1, h2⟩ := d1.tup_inv
    cases h2 with
    | cons a1 a2 =>
      cases a2 with
      | cons a2 a3 =>
        cases a3 with
        | cons a3 a4 =>
          cases a4
          exact ⟨p, _, rfl, h1, rfl, _, _, rfl, _, _, rfl, _, _, rfl, rfl, M.nx N _ H1 _ f (((E1.set a1).set a2).set a3)⟩
theorem gd_trip {i j l : Nat} {a b c : PyData} : GD K (gTup K 3 (gCons (gName i) (gCons (gName j) (gCons (gName l) gNil)))) (.tuple [a, b, c]) [i, j, l] (fun ρ => ((ρ.set i (.dat a)).set j (.dat b)).set l (.dat c)) := fun S H0 N0 Z N σ H ρ x E hx Q q => by
  obtain ⟨p, xs, rfl, _, h1, h2⟩ := hx.tup_inv
  cases h2 with
  | cons a1 a2 =>
    cases a2 with
    | cons a2 a3 =>
      cases a3 with
      | cons a3 a4 =>
        cases a4
        exact ⟨p, _, rfl, h1, rfl, _, _, rfl, _, _, rfl, _, _, rfl, rfl, q _ (((E.set a1).set a2).set a3) (by rw [List.length_set, List.length_set, List.length_set]) fun k hk => by
          have h1 : l ≠ k := fun e => hk (by simp [e])
          have h2 : j ≠ k := fun e => hk (by simp [e])
          have h3 : i ≠ k := fun e => hk (by simp [e])
          rw [set_ne h1, set_ne h2, set_ne h3]⟩
end
end DL

set_option Elab.async false
set_option linter.all false
/-! PM1: payments of totals, as rationals, and their sizes -/
namespace DL
abbrev P3 := Rat × Rat × Rat
def keptR (sh n d : Rat) : Rat := if n ≤ 0 then n else if sh * n < d then sh * n else d
def pstep (sh : Rat) (s : P3) (t : Rat) : P3 := (t, s.2.1 + (t - s.1 - keptR sh (t - s.1) s.2.2), s.2.2 - keptR sh (t - s.1) s.2.2)
def prow (sh : Rat) (s : P3) (t : Rat) : P3 := (t - s.1 - keptR sh (t - s.1) s.2.2, s.2.1 + (t - s.1 - keptR sh (t - s.1) s.2.2), s.2.2 - keptR sh (t - s.1) s.2.2)
def pS (sh : Rat) (ts : List Rat) : P3 := ts.foldl (pstep sh) (0, 0, 0)
def pRwF (sh : Rat) : P3 → List Rat → List P3
  | _, [] => []
  | s, t :: r => prow sh s t :: pRwF sh (pstep sh s t) r
def pRw (sh : Rat) (ts : List Rat) : List P3 := pRwF sh (0, 0, 0) ts
theorem pS_snoc {sh : Rat} {ts : List Rat} {t : Rat} : pS sh (ts ++ [t]) = pstep sh (pS sh ts) t := by
  unfold pS; rw [List.foldl_append]; rfl
theorem pRwF_snoc {sh t : Rat} : ∀ {ts : List Rat} {s : P3}, pRwF sh s (ts ++ [t]) = pRwF sh s ts ++ [prow sh (ts.foldl (pstep sh) s) t]
  | [], s => rfl
  | u :: r, s => by
    show prow sh s u :: pRwF sh (pstep sh s u) (r ++ [t]) = _
    rw [pRwF_snoc]; rfl
theorem pRw_snoc {sh t : Rat} {ts : List Rat} : pRw sh (ts ++ [t]) = pRw sh ts ++ [prow sh (pS sh ts) t] := pRwF_snoc
theorem pRwF_len {sh : Rat} : ∀ {ts : List Rat} {s : P3}, (pRwF sh s ts).length = ts.length
  | [], s => rfl
  | u :: r, s => by show (pRwF sh _ r).length + 1 = r.length + 1; rw [pRwF_len]
theorem pRw_len {sh : Rat} {ts : List Rat} : (pRw sh ts).length = ts.length := pRwF_len
theorem take_snoc {α : Type} {ts : List α} {k : Nat} {t : α} (h : ts[k]? = some t) : ts.take (k + 1) = ts.take k ++ [t] := by
  rw [List.take_add_one, h]; rfl
theorem pRw_take {sh t : Rat} {ts : List Rat} {k : Nat} (h : ts[k]? = some t) : pRw sh (ts.take (k + 1)) = pRw sh (ts.take k) ++ [prow sh (pS sh (ts.take k)) t] := by rw [take_snoc h, pRw_snoc]
theorem pS_take {sh t : Rat} {ts : List Rat} {k : Nat} (h : ts[k]? = some t) : pS sh (ts.take (k + 1)) = pstep sh (pS sh (ts.take k)) t := by rw [take_snoc h, pS_snoc]
/-! sizes -/
theorem Dv.neg {D M : Nat} {q : Rat} (h : Dv D M q) : Dv D M (-q) := by
  obtain ⟨n, e, b⟩ := h
  exact ⟨-n, by rw [Rat.neg_mul, e, Rat.intCast_neg], by omega⟩
theorem Dv.sub {D M M' : Nat} {q r : Rat} (h : Dv D M q) (g : Dv D M' r) : Dv D (M + M') (q - r) := by
  rw [Rat.sub_eq_add_neg]; exact h.add g.neg
theorem Dv.le {D M X : Nat} {q r : Rat} (h : Dv D M q) (g : Dv D X r) (r0 : 0 ≤ r) (rq : r ≤ q) : Dv D M r := by
  obtain ⟨n, e, b⟩ := h
  obtain ⟨m, f, c⟩ := g
  refine ⟨m, f, ?_⟩
  have D0 : (0 : Rat) ≤ (D : Rat) := Rat.natCast_nonneg
  have m0 : (0 : Rat) ≤ (m : Rat) := by rw [← f]; exact Rat.mul_nonneg r0 D0
  have mn : (m : Rat) ≤ (n : Rat) := by rw [← f, ← e]; exact Rat.mul_le_mul_of_nonneg_right rq D0
  have m0' : 0 ≤ m := by exact_mod_cast m0
  have mn' : m ≤ n := by exact_mod_cast mn
  omega
/-- the common bottom of all totals -/
def dd : Nat := (List.range 1000).foldl (fun a k => Nat.lcm a (k + 1)) 1 * 988027000 ^ 4
def mm : Nat := dd * 2 ^ 21
theorem dd_pos : 0 < dd := by decide +kernel
theorem dd_lt : dd < 2 ^ 1570 := by decide +kernel
theorem dd_dvd : ((List.range 1000).all fun k => dd % ((k + 1) * 988027000 ^ 4) == 0) = true := by decide +kernel
end DL

set_option Elab.async false
set_option linter.all false
/-! PM2: what holds behind each payday; sizes -/
namespace DL
structure ShOk (R : Nat) (sh : Rat) : Prop where
  pos : 0 < sh
  le : sh ≤ 1
  r1 : 1 ≤ R
  r2 : R ≤ 1000
  dv : Dv R R sh
def Tot (t : Rat) : Prop := Dv dd mm t
structure PI (R k : Nat) (s : P3) : Prop where
  last : Tot s.1
  debt : Dv (dd * R) (2 * k * (mm * R)) s.2.2
  d0 : 0 ≤ s.2.2
  sum : s.2.1 = s.1 + s.2.2
theorem dv_sz {R c : Nat} {q : Rat} (h : Dv (dd * R) (c * (mm * R)) q) (hc : c ≤ 1000) (h1 : 1 ≤ R) (h2 : R ≤ 1000) : sz q ≤ 1640 := by
  have d0 := dd_pos
  refine h.sz (Nat.mul_ne_zero (by omega) (by omega)) ?_
  have e1 : mm * R ≤ mm * 1000 := Nat.mul_le_mul_left _ h2
  have e2 : c * (mm * R) ≤ 1000 * (mm * 1000) := Nat.mul_le_mul hc e1
  have e3 : dd * R ≤ dd * 1000 := Nat.mul_le_mul_left _ h2
  refine Nat.lt_of_le_of_lt (Nat.add_le_add e2 e3) ?_
  decide +kernel
theorem tot_sz {t : Rat} (h : Tot t) : sz t ≤ 1640 := by
  refine dv_sz (R := 1) (c := 1) ?_ (by decide) (by decide) (by decide)
  rw [Nat.mul_one, Nat.mul_one, Nat.one_mul]; exact h
theorem Tot.up {t : Rat} (h : Tot t) (R : Nat) : Dv (dd * R) (1 * (mm * R)) t := by
  rw [Nat.one_mul]; exact h.scale R
theorem Tot.sub {t u : Rat} (h : Tot t) (g : Tot u) : Dv dd (2 * mm) (t - u) := by
  have := Dv.sub h g
  rwa [← Nat.two_mul] at this
theorem PI.zero {R : Nat} : PI R 0 (0, 0, 0) := ⟨Dv.zero.mono (Nat.zero_le _), Dv.zero.mono (Nat.zero_le _), Rat.le_refl, by decide +kernel⟩
theorem Dv.upR {D M : Nat} {q : Rat} (h : Dv D M q) (R : Nat) : Dv (D * R) (M * R) q := h.scale R
theorem sh_new {R : Nat} {sh t u : Rat} (g : ShOk R sh) (ht : Tot t) (hu : Tot u) : Dv (dd * R) (2 * (mm * R)) (sh * (t - u)) := by
  have := g.dv.mul (ht.sub hu)
  rw [Nat.mul_comm R dd, show R * (2 * mm) = 2 * (mm * R) by rw [Nat.mul_comm mm R, Nat.mul_left_comm]] at this
  exact this
/-- the sizes of all that a payday reckons with -/
structure PZ (sh : Rat) (s : P3) (t : Rat) : Prop where
  last : sz s.1 ≤ 1640
  all : sz s.2.1 ≤ 1640
  debt : sz s.2.2 ≤ 1640
  tot : sz t ≤ 1640
  new : sz (t - s.1) ≤ 1640
  shn : sz (sh * (t - s.1)) ≤ 1640
  now1 : sz (t - s.1 - s.2.2) ≤ 1640
  now2 : sz (t - s.1 - sh * (t - s.1)) ≤ 1640
  kept : sz (keptR sh (t - s.1) s.2.2) ≤ 1640
  now : sz (t - s.1 - keptR sh (t - s.1) s.2.2) ≤ 1640
  all2 : sz (pstep sh s t).2.1 ≤ 1640
  debt2 : sz (pstep sh s t).2.2 ≤ 1640
theorem new_pos {sh n d : Rat} (h : 0 < sh) (hn : ¬ n ≤ 0) : 0 < sh * n := Rat.mul_pos h (by grind)
theorem PI.next {R k : Nat} {sh t : Rat} {s : P3} (h : PI R k s) (g : ShOk R sh) (ht : Tot t) : PI R (k + 1) (pstep sh s t) := by
  have nv : Dv (dd * R) (2 * (mm * R)) (t - s.1) := by
    have := (ht.sub h.last).scale R
    rwa [Nat.mul_assoc] at this
  have sv := sh_new g ht h.last
  have e : 2 * (k + 1) * (mm * R) = 2 * k * (mm * R) + 2 * (mm * R) := by rw [Nat.mul_add, Nat.add_mul]
  have d0 := h.d0
  refine ⟨ht, ?_, ?_, ?_⟩
  · show Dv _ _ (s.2.2 - keptR sh (t - s.1) s.2.2)
    rw [e]
    unfold keptR
    split
    · exact h.debt.sub nv
    · rename_i hn
      have p := new_pos (d := s.2.2) g.pos hn
      split
      · rename_i hl
        exact (h.debt.le (h.debt.sub sv) (by grind) (by grind)).mono (by omega)
      · rw [show s.2.2 - s.2.2 = (0 : Rat) by grind]
        exact Dv.zero.mono (Nat.zero_le _)
  · show 0 ≤ s.2.2 - keptR sh (t - s.1) s.2.2
    unfold keptR
    split
    · grind
    · split <;> grind
  · show s.2.1 + (t - s.1 - keptR sh (t - s.1) s.2.2) = t + (s.2.2 - keptR sh (t - s.1) s.2.2)
    rw [h.sum]; grind
theorem PI.all {R k : Nat} {s : P3} (h : PI R k s) : Dv (dd * R) ((2 * k + 1) * (mm * R)) s.2.1 := by
  rw [h.sum]
  have := (h.last.up R).add h.debt
  rw [← Nat.add_mul] at this
  rwa [Nat.add_comm]
theorem PI.sizes {R k : Nat} {sh t : Rat} {s : P3} (h : PI R k s) (g : ShOk R sh) (ht : Tot t) (hk : k ≤ 200) : PZ sh s t := by
  have nx := h.next g ht
  have nv : Dv (dd * R) (2 * (mm * R)) (t - s.1) := by
    have := (ht.sub h.last).scale R
    rwa [Nat.mul_assoc] at this
  have sv := sh_new g ht h.last
  have kv : Dv (dd * R) ((2 * k + 2) * (mm * R)) (keptR sh (t - s.1) s.2.2) := by
    unfold keptR
    split
    · exact nv.mono (Nat.mul_le_mul_right _ (by omega))
    · split
      · exact sv.mono (Nat.mul_le_mul_right _ (by omega))
      · exact h.debt.mono (Nat.mul_le_mul_right _ (by omega))
  have wv := nv.sub kv
  have n1 := nv.sub h.debt
  have n2 := nv.sub sv
  rw [← Nat.add_mul] at wv n1 n2
  exact { last := tot_sz h.last, all := dv_sz h.all (by omega) g.r1 g.r2, debt := dv_sz h.debt (by omega) g.r1 g.r2, tot := tot_sz ht,
          new := dv_sz nv (by decide) g.r1 g.r2, shn := dv_sz sv (by decide) g.r1 g.r2, kept := dv_sz kv (by omega) g.r1 g.r2, now := dv_sz wv (by omega) g.r1 g.r2,
          now1 := dv_sz n1 (by omega) g.r1 g.r2, now2 := dv_sz n2 (by omega) g.r1 g.r2,
          all2 := dv_sz nx.all (by omega) g.r1 g.r2, debt2 := dv_sz nx.debt (by omega) g.r1 g.r2 }
theorem PI.run {R : Nat} {sh : Rat} (g : ShOk R sh) {ts : List Rat} (ht : ∀ t ∈ ts, Tot t) : ∀ k, k ≤ ts.length → PI R k (pS sh (ts.take k))
  | 0, _ => by rw [List.take_zero]; exact PI.zero
  | k + 1, hk => by
    have hk' : k < ts.length := hk
    rw [pS_take (List.getElem?_eq_getElem hk')]
    exact (PI.run g ht k (by omega)).next g (ht _ (List.getElem_mem hk'))
theorem ShOk.one : ShOk 1 1 := ⟨by decide +kernel, Rat.le_refl, Nat.le_refl _, by decide, ⟨1, by decide +kernel, by decide⟩⟩
end DL

set_option Elab.async false
set_option linter.all false
/-! PM3: the totals that are drawn -/
namespace DL
theorem dd_dvd2 {d : Nat} (h1 : 1 ≤ d) (h2 : d ≤ 1000) : d * 988027000 ^ 4 ∣ dd := by
  have := dd_dvd
  rw [List.all_eq_true] at this
  have h := this (d - 1) (List.mem_range.mpr (by omega))
  rw [show d - 1 + 1 = d by omega] at h
  exact Nat.dvd_of_mod_eq_zero (by simpa using h)
theorem Dv.di1 {a : Int} {b : Nat} (hb : b ≠ 0) : Dv b a.natAbs (Rat.divInt a b) := by
  have := Dv.di (a := a) (c := 1) hb
  rwa [Nat.mul_one, Nat.mul_one] at this
theorem Dv.dvd {b D M N : Nat} {q : Rat} (h : Dv b M q) (g : b ∣ D) (hb : 1 ≤ b) (k : M ≤ N * b) : Dv D (N * D) q := by
  obtain ⟨c, rfl⟩ := g
  refine (h.scale c).mono ?_
  rw [← Nat.mul_assoc]
  exact Nat.mul_le_mul_right c k
theorem dv_part {n : Int} {d : Nat} (h1 : 1 ≤ d) (h2 : d ≤ 1000) (hn : n.natAbs ≤ 1000000) : Dv dd (1000000 * dd) (Rat.divInt n d) := by
  refine (Dv.di1 (by omega)).dvd (Nat.dvd_trans ⟨_, rfl⟩ (dd_dvd2 h1 h2)) h1 ?_
  refine Nat.le_trans hn ?_
  exact Nat.le_mul_of_pos_right _ h1
/-- a hair -/
def Hair (q : Rat) : Prop := Dv (988027000 ^ 4) (988027000 ^ 4) q
def hair0 : Rat := Rat.divInt 1 997 * Rat.divInt 1 1000 * Rat.divInt 1 991
def hairs : Nat → Rat
  | 0 => hair0
  | j + 1 => hairs j * hairs j
theorem hair0_eq : hair0 = Rat.divInt 1 988027000 := by decide +kernel
theorem hair_ok : ∀ j, j ≤ 2 → Hair (hairs j)
  | 0, _ => ⟨988027000 ^ 3, by show hair0 * _ = _; rw [hair0_eq]; decide +kernel, by decide +kernel⟩
  | 1, _ => ⟨988027000 ^ 2, by show hair0 * hair0 * _ = _; rw [hair0_eq]; decide +kernel, by decide +kernel⟩
  | 2, _ => ⟨1, by show hair0 * hair0 * (hair0 * hair0) * _ = _; rw [hair0_eq]; decide +kernel, by decide +kernel⟩
theorem hair_sz {j : Nat} (h : j ≤ 2) : sz (hairs j) ≤ 130 := (hair_ok j h).sz (by decide) (by decide +kernel)
theorem dv_hair {j : Nat} {c : Int} (h : j ≤ 2) (hc : c.natAbs ≤ 4) : Dv dd (4 * dd) (hairs j * (c : Rat)) := by
  have := (hair_ok j h).mul (Dv.int (n := c) (D := 1))
  rw [Nat.mul_one, Nat.mul_one] at this
  refine this.dvd (Nat.dvd_trans ⟨1, by simp⟩ (dd_dvd2 (Nat.le_refl 1) (by decide))) (by decide +kernel) ?_
  rw [Nat.mul_comm]; exact Nat.mul_le_mul_right _ hc
theorem mm_eq : mm = 2097152 * dd := by unfold mm; rw [Nat.mul_comm]
theorem Tot.part {n : Int} {d : Nat} (h1 : 1 ≤ d) (h2 : d ≤ 1000) (hn : n.natAbs ≤ 1000000) : Tot (Rat.divInt n d) :=
  (dv_part h1 h2 hn).mono (by rw [mm_eq]; exact Nat.mul_le_mul_right _ (by decide))
theorem Tot.hair {q : Rat} {j : Nat} {c : Int} (hq : Dv dd (1000000 * dd) q) (h : j ≤ 2) (hc : c.natAbs ≤ 4) : Tot (q + hairs j * (c : Rat)) :=
  (hq.add (dv_hair h hc)).mono (by rw [← Nat.add_mul, mm_eq]; exact Nat.mul_le_mul_right _ (by decide))
theorem Tot.of {q : Rat} (hq : Dv dd (1000000 * dd) q) : Tot q := hq.mono (by rw [mm_eq]; exact Nat.mul_le_mul_right _ (by decide))
theorem dv_neg_abs {q : Rat} {M : Nat} (h : Dv dd M q) : Dv dd M (-(if q < 0 then -q else q)) := by
  split
  · rw [Rat.neg_neg]; exact h
  · exact h.neg
end DL

set_option Elab.async false
set_option linter.all false
set_option maxRecDepth 100000
set_option maxHeartbeats 4000000
/-! PQ1: small parts, shares, totals drawn -/
namespace DL
open PySem PySem.Spec PyProof.Rows L2
def SmQ (q : Rat) : Prop := ∃ (n : Int) (d : Nat), q = Rat.divInt n d ∧ 1 ≤ d ∧ d ≤ 1000 ∧ n.natAbs ≤ 1000000
def TSmallQ : Nat → List PyData → (PyData → Nat → Prop) → Prop := fun B ds Φ => ds = [] ∧ B + 3200 ≤ 2 ^ 40 ∧ ∀ q, SmQ q → Φ (qp q) (B + 3200)
def TShareQ : Nat → List PyData → (PyData → Nat → Prop) → Prop := fun B ds Φ => ds = [] ∧ B + 1600 ≤ 2 ^ 40 ∧ ∀ R q, ShOk R q → Φ (qp q) (B + 1600)
def TTotals : Nat → List PyData → (PyData → Nat → Prop) → Prop := fun B ds Φ => ∃ most : Int, ds = [.int most] ∧ 1 ≤ most ∧ most ≤ 120 ∧ B + 1000000 ≤ 2 ^ 40 ∧ ∀ (ts : List Rat) (B' : Nat), (ts.length : Int) ≤ 120 → (∀ t ∈ ts, Tot t) → B' ≤ B + 1000000 → Φ (.list (ts.map qp)) B'
theorem SmQ.dv {q : Rat} (h : SmQ q) : Dv dd (1000000 * dd) q := by obtain ⟨n, d, rfl, h1, h2, h3⟩ := h; exact dv_part h1 h2 h3
theorem qp_of {n d : Int} (hd : 1 ≤ d) (hg : Nat.gcd n.natAbs d.natAbs = 1) : PyData.tuple [.int n, .int d] = qp (Rat.divInt n d) := by
  rw [← qp_di (by omega), nrm_self hd hg]; rfl
theorem qp_int {n : Int} : PyData.tuple [.int n, .int 1] = qp (n : Rat) := by
  unfold qp; rw [Rat.num_intCast, Rat.den_intCast]; rfl
theorem qp01 : PyData.tuple [.int 0, .int 1] = qp 0 := rfl
theorem qp11 : PyData.tuple [.int 1, .int 1] = qp 1 := rfl
def negA (q : Rat) : Rat := if 0 ≤ q.num then -q else q
theorem qp_negA {q : Rat} : PyData.tuple [.int (0 - ((q.num.natAbs : Nat) : Int)), .int (q.den : Int)] = qp (negA q) := by
  unfold negA qp
  split
  · rw [Rat.neg_num, Rat.neg_den]; rename_i h
    rw [show (0 - ((q.num.natAbs : Nat) : Int)) = -q.num by omega]
  · rw [show (0 - ((q.num.natAbs : Nat) : Int)) = q.num by omega]
theorem negA_dv {q : Rat} {D M : Nat} (h : Dv D M q) : Dv D M (negA q) := by
  unfold negA; split
  · exact h.neg
  · exact h
theorem fgt_set {ρ : Rho} {i : Nat} : Fgt ρ (ρ.set i .unk) := ⟨List.length_set, fun j s h => by
  rcases get_set h with ⟨_, e⟩ | ⟨_, e⟩
  · exact .inl e
  · exact .inr e⟩
theorem fgt_wipe {ρ : Rho} : ∀ vs : List Nat, Fgt ρ (wipeR ρ vs)
  | [] => Fgt.refl
  | v :: vs => by
    obtain ⟨l, f⟩ := fgt_wipe (ρ := ρ) vs
    obtain ⟨l2, f2⟩ := fgt_set (ρ := wipeR ρ vs) (i := v)
    refine ⟨l2.trans l, fun i s h => ?_⟩
    rcases f2 i s h with e | e
    · exact .inl e
    · exact f i s e
theorem ws_wipe {K : PySem.W.Frag} {S : Stt} {ρ : Rho} {ts : TS} {En : DE} (vs : List Nat) (h : WS K S ts (wipeR ρ vs) En) : WS K S ts ρ En := ws_fgt (fgt_wipe vs) h
local macro_rules | `(tactic| walk_at "dl") => `(tactic| repeat' (first
  | with_reducible refine wd_isTy ?_ | with_reducible refine wd_isi ?_ | ((with_reducible show WD _ _ (tOp (rIxL _) (tVar _) _) _ _); refine wd_ix_own rfl ?_) | with_reducible refine wd_op ?_ | ((with_reducible show WD _ _ (tCB (rLenX _) (tCons (tVar _) tNil)) _ _); refine wd_len_scr rfl ?_) | ((with_reducible show WD _ _ (tCB (rLenX _) (tCons (tVar _) tNil)) _ _); refine wd_len_own rfl ?_) | with_reducible refine wd_cb ?_ | with_reducible refine wd_un ?_ | with_reducible refine wa_cons ?_ | with_reducible refine wa_nil ?_ | ((with_reducible show WD _ _ (tVar _) _ _); refine wd_var rfl ?_) | with_reducible refine wd_int ?_ | with_reducible refine wd_bl ?_ | with_reducible refine wd_str ?_ | with_reducible refine wd_non ?_
  | with_reducible refine do_nesS ?_ | with_reducible refine dc_intB ?_ | with_reducible refine do_add ?_ | with_reducible refine do_sub ?_ | ((with_reducible refine do_mod ?_ ?_); decide) | with_reducible refine do_mod ?_ ?_ | with_reducible refine do_mul ?_ ?_ | ((with_reducible refine do_div ?_ ?_); exact ⟨by decide, by decide⟩) | with_reducible refine do_div ?_ ?_ | ((with_reducible refine do_pow ?_ ?_); exact ⟨by decide, by decide, by decide⟩) | with_reducible refine do_pow ?_ ?_
  | with_reducible refine do_lt ?_ | with_reducible refine do_le ?_ | with_reducible refine do_gt ?_ | with_reducible refine do_ge ?_ | with_reducible refine du_neg ?_
  | with_reducible refine do_eqi ?_ | with_reducible refine do_nei ?_ | with_reducible refine do_eqs ?_ | with_reducible refine do_nes ?_ | with_reducible refine dc_abs ?_ | with_reducible refine dc_min ?_ | with_reducible refine dc_max ?_ | with_reducible refine dc_lenL ?_ | with_reducible refine dc_lenT ?_ | with_reducible refine dc_lenR ?_ | with_reducible refine dc_listT ?_ | with_reducible refine dc_listL ?_ | with_reducible refine dc_tupL ?_ | with_reducible refine dc_gcd ?_
  | ((with_reducible show DO _ (rIxT _) _ _ _); refine do_ixT rfl ?_) | ((with_reducible show DO _ (rIxL _) _ _ _); refine do_ixL rfl ?_) | ((with_reducible refine do_catL ?_ ?_); exact Nat.le_of_ble_eq_true rfl) | with_reducible refine do_catL ?_ ?_ | ((with_reducible show And (List.length _ ≤ sizeLine) _); refine ⟨Nat.le_of_ble_eq_true rfl, ?_⟩)
  | with_reducible refine wd_dnew ?_ | with_reducible refine wd_call0 ?_ | with_reducible refine wd_slA ?_ | with_reducible refine wd_slL ?_ | with_reducible refine wd_revT ?_ | with_reducible refine do_catA ?_ ?_ | with_reducible refine wo_part ?_ | with_reducible refine wo_none ?_ | with_reducible refine do_eqQ ?_ | with_reducible refine do_neQ ?_ | with_reducible refine wi_enumT ?_ | with_reducible refine wi_enumD ?_ | with_reducible refine tAdQ (by omega) (by omega) ?_ | with_reducible refine tSbQ (by omega) (by omega) ?_ | with_reducible refine tMlQ (by omega) (by omega) ?_ | with_reducible refine tDvQ (by assumption) (by omega) (by omega) ?_ | with_reducible refine tLtQ (by omega) (by omega) ?_ | with_reducible refine dc_str ?_ ?_ | with_reducible refine wd_tup ?_ | with_reducible refine wd_lst ?_ | with_reducible refine wt_test ?_ | with_reducible refine wt_B ?_ | with_reducible refine wt_not ?_ | with_reducible refine wt_and ?_ | with_reducible refine wt_or ?_ | with_reducible refine wd_ifE ?_ | with_reducible refine wd_andV ?_ | with_reducible refine wd_orV ?_ | with_reducible refine wd_notV ?_
  | with_reducible refine ws_seq ?_ | with_reducible refine ws_next ?_ | with_reducible refine ws_asg ?_ | with_reducible refine ws_ret ?_ | with_reducible refine ws_retN ?_ | with_reducible refine ws_if ?_ | with_reducible refine ws_par ?_ | with_reducible refine ws_unp2 ?_
  | with_reducible refine if_t ?_ | with_reducible refine if_f ?_ | with_reducible refine if_nf ?_ | with_reducible refine if_nt ?_
  | ((with_reducible show Exists _); first | refine ⟨_, kitInt _, ?_⟩ | refine ⟨_, kitBool _, ?_⟩ | refine ⟨_, kitTup _, ?_⟩ | refine ⟨_, kitList _, ?_⟩ | refine ⟨_, rfl, ?_⟩ | refine ⟨_, _, rfl, ?_⟩ | fail) | fail))
def t_smallq (K : PySem.W.Frag) : TS :=
  (tSeq (tAsg (tCall (spS K FSto TDr) [] E0 (tCons (tVar 0) (tCons (tC (.int 6)) tNil))) (gName 1))
    (tSeq (tAsg (tOp (rIxL K) (tLst (tCons (tC (.int 1)) (tCons (tC (.int 1)) (tCons (tC (.int 2)) (tCons (tC (.int 3)) (tCons (tC (.int 4)) (tCons (tC (.int 12)) (tCons (tC (.int 97)) (tCons (tC (.int 101)) (tCons (tC (.int 997)) (tCons (tC (.int 1000)) (tCons (tOp rAddI (tC (.int 1)) (tCall (spS K FSto TDr) [] E0 (tCons (tVar 0) (tCons (tC (.int 1000)) tNil)))) tNil)))))))))))) (tCall (spS K FSto TDr) [] E0 (tCons (tVar 0) (tCons (tC (.int 11)) tNil)))) (gName 2))
    (tSeq (tAsg (tLst (tCons (tC (.int 0)) (tCons (tC (.int 1)) (tCons (tOp rAddI (tC (.int 1)) (tCall (spS K FSto TDr) [] E0 (tCons (tVar 0) (tCons (tC (.int 9)) tNil)))) (tCons (tCall (spS K FSto TDr) [] E0 (tCons (tVar 0) (tCons (tC (.int 1000)) tNil))) (tCons (tOp rSubI (tOp rPowI (tC (.int 10)) (tC (.int 6))) (tCall (spS K FSto TDr) [] E0 (tCons (tVar 0) (tCons (tC (.int 3)) tNil)))) tNil)))))) (gName 3))
    (tSeq (tAsg (tOp (rIxL K) (tOp rCatL (tVar 3) (tLst (tCons (tCall (spS K FSto TDr) [] E0 (tCons (tVar 0) (tCons (tOp rPowI (tC (.int 10)) (tC (.int 6))) tNil))) tNil))) (tVar 1)) (gName 3))
    (tRet (tCall (spP K TLow) [] E0 (tCons (tOp rMulI (tVar 3) (tOp (rIxL K) (tLst (tCons (tC (.int 1)) (tCons (tUn rNegI (tC (.int 1))) tNil))) (tCall (spS K FSto TDr) [] E0 (tCons (tVar 0) (tCons (tC (.int 2)) tNil))))) (tCons (tVar 2) tNil))))))))
def t_shareq (K : PySem.W.Frag) : TS :=
  (tSeq (tAsg (tOp (rIxL K) (tLst (tCons (tC (.int 1)) (tCons (tC (.int 2)) (tCons (tC (.int 3)) (tCons (tC (.int 10)) (tCons (tC (.int 97)) (tCons (tC (.int 997)) (tCons (tOp rAddI (tC (.int 1)) (tCall (spS K FSto TDr) [] E0 (tCons (tVar 0) (tCons (tC (.int 1000)) tNil)))) tNil)))))))) (tCall (spS K FSto TDr) [] E0 (tCons (tVar 0) (tCons (tC (.int 7)) tNil)))) (gName 1))
    (tRet (tCall (spP K TLow) [] E0 (tCons (tOp rSubI (tVar 1) (tOp rMulI (tCall (spS K FSto TDr) [] E0 (tCons (tVar 0) (tCons (tVar 1) tNil))) (tCall (spS K FSto TDr) [] E0 (tCons (tVar 0) (tCons (tC (.int 2)) tNil))))) (tCons (tVar 1) tNil)))))
def t_totals (K : PySem.W.Frag) : TS :=
  (tSeq (tAsg (tCall (spS K FSto TDr) [] E0 (tCons (tVar 0) (tCons (tC (.int 6)) tNil))) (gName 2))
    (tSeq (tAsg (tOp (rIxL K) (tLst (tCons (tC (.int 3)) (tCons (tC (.int 8)) (tCons (tVar 1) tNil)))) (tCall (spS K FSto TDr) [] E0 (tCons (tVar 0) (tCons (tC (.int 3)) tNil)))) (gName 3))
    (tSeq (tAsg (tCall (spP K TMlQ) [] E0 (tCons (tCall (spP K TMlQ) [] E0 (tCons (tTup (tCons (tC (.int 1)) (tCons (tC (.int 997)) tNil))) (tCons (tTup (tCons (tC (.int 1)) (tCons (tC (.int 1000)) tNil))) tNil))) (tCons (tTup (tCons (tC (.int 1)) (tCons (tC (.int 991)) tNil))) tNil))) (gName 4))
    (tSeq (tFor (iRng1 (tCons (tCall (spS K FSto TDr) [] E0 (tCons (tVar 0) (tCons (tC (.int 3)) tNil))) tNil)) (gName 5) (tAsg (tCall (spP K TMlQ) [] E0 (tCons (tVar 4) (tCons (tVar 4) tNil))) (gName 4)))
    (tSeq (tAsg (tOp (rIxL K) (tLst (tCons (tC (.int 1)) (tCons (tC (.int 1)) (tCons (tC (.int 2)) (tCons (tC (.int 3)) (tCons (tC (.int 12)) (tCons (tC (.int 97)) (tCons (tC (.int 1000)) tNil)))))))) (tCall (spS K FSto TDr) [] E0 (tCons (tVar 0) (tCons (tC (.int 7)) tNil)))) (gName 6))
    (tSeq (tAsg (tLst tNil) (gName 7))
    (tSeq (tAsg (tOp rSubI (tCall (spS K FSto TDr) [] E0 (tCons (tVar 0) (tCons (tC (.int 2000)) tNil))) (tC (.int 1000))) (gName 8))
    (tSeq (tFor (iRng1 (tCons (tCall (spS K FSto TDr) [] E0 (tCons (tVar 0) (tCons (tOp rAddI (tVar 3) (tC (.int 1))) tNil))) tNil)) (gName 9) (tSeq (tAsg (tCall (spS K FSto TDr) [] E0 (tCons (tVar 0) (tCons (tOp (rIxL K) (tLst (tCons (tC (.int 3)) (tCons (tC (.int 50)) (tCons (tC (.int 20000)) tNil)))) (tCall (spS K FSto TDr) [] E0 (tCons (tVar 0) (tCons (tC (.int 3)) tNil)))) tNil))) (gName 10))
    (tSeq (tAsg (tOp rAddI (tVar 8) (tOp (rIxL K) (tLst (tCons (tOp rSubI (tVar 10) (tC (.int 10))) (tCons (tVar 10) (tCons (tOp rSubI (tC (.int 0)) (tVar 10)) (tCons (tOp rMulI (tVar 10) (tOp rSubI (tC (.int 1)) (tOp rMulI (tC (.int 2)) (tOp rModI (tVar 9) (tC (.int 2)))))) (tCons (tC (.int 0)) (tCons (tVar 10) tNil))))))) (tVar 2))) (gName 8))
    (tSeq (tAsg (tCB rMaxX (tCons (tUn rNegI (tOp rPowI (tC (.int 10)) (tC (.int 6)))) (tCons (tCB rMinX (tCons (tOp rPowI (tC (.int 10)) (tC (.int 6))) (tCons (tVar 8) tNil))) tNil))) (gName 8))
    (tSeq (tAsg (tCall (spP K TLow) [] E0 (tCons (tVar 8) (tCons (tVar 6) tNil))) (gName 11))
    (tSeq (tIfS (tAnd (tTest (tOp rEq (tVar 2) (tC (.int 0)))) (tTest (tOp rEq (tCall (spS K FSto TDr) [] E0 (tCons (tVar 0) (tCons (tC (.int 3)) tNil))) (tC (.int 0))))) (tAsg (tCall (spS K FSto TSmallQ) [] E0 (tCons (tVar 0) tNil)) (gName 11)) tNext)
    (tSeq (tIfS (tTest (tOp rEq (tVar 2) (tC (.int 5)))) (tAsg (tTup (tCons (tOp rSubI (tC (.int 0)) (tCB rAbsX (tCons (tOp (rIxT K) (tVar 11) (tC (.int 0))) tNil))) (tCons (tOp (rIxT K) (tVar 11) (tC (.int 1))) tNil))) (gName 11)) tNext)
    (tSeq (tIfS (tTest (tOp rEq (tCall (spS K FSto TDr) [] E0 (tCons (tVar 0) (tCons (tC (.int 4)) tNil))) (tC (.int 0)))) (tAsg (tCall (spP K TAdQ) [] E0 (tCons (tVar 11) (tCons (tCall (spP K TMlQ) [] E0 (tCons (tVar 4) (tCons (tTup (tCons (tOp rSubI (tCall (spS K FSto TDr) [] E0 (tCons (tVar 0) (tCons (tC (.int 9)) tNil))) (tC (.int 4))) (tCons (tC (.int 1)) tNil))) tNil))) tNil))) (gName 11)) tNext)
    (tDrop (tBM K "list" rAppend (tVar 7) (tCons (tVar 11) tNil)))))))))))
    (tRet (tVar 7))))))))))
def t_tot3 (K : PySem.W.Frag) : TS :=
  (tSeq (tIfS (tTest (tOp rEq (tCall (spS K FSto TDr) [] E0 (tCons (tVar 0) (tCons (tC (.int 4)) tNil))) (tC (.int 0)))) (tAsg (tCall (spP K TAdQ) [] E0 (tCons (tVar 11) (tCons (tCall (spP K TMlQ) [] E0 (tCons (tVar 4) (tCons (tTup (tCons (tOp rSubI (tCall (spS K FSto TDr) [] E0 (tCons (tVar 0) (tCons (tC (.int 9)) tNil))) (tC (.int 4))) (tCons (tC (.int 1)) tNil))) tNil))) tNil))) (gName 11)) tNext)
    (tDrop (tBM K "list" rAppend (tVar 7) (tCons (tVar 11) tNil))))
def t_tot2 (K : PySem.W.Frag) : TS :=
  (tSeq (tIfS (tTest (tOp rEq (tVar 2) (tC (.int 5)))) (tAsg (tTup (tCons (tOp rSubI (tC (.int 0)) (tCB rAbsX (tCons (tOp (rIxT K) (tVar 11) (tC (.int 0))) tNil))) (tCons (tOp (rIxT K) (tVar 11) (tC (.int 1))) tNil))) (gName 11)) tNext)
    (tSeq (tIfS (tTest (tOp rEq (tCall (spS K FSto TDr) [] E0 (tCons (tVar 0) (tCons (tC (.int 4)) tNil))) (tC (.int 0)))) (tAsg (tCall (spP K TAdQ) [] E0 (tCons (tVar 11) (tCons (tCall (spP K TMlQ) [] E0 (tCons (tVar 4) (tCons (tTup (tCons (tOp rSubI (tCall (spS K FSto TDr) [] E0 (tCons (tVar 0) (tCons (tC (.int 9)) tNil))) (tC (.int 4))) (tCons (tC (.int 1)) tNil))) tNil))) tNil))) (gName 11)) tNext)
    (tDrop (tBM K "list" rAppend (tVar 7) (tCons (tVar 11) tNil)))))
def t_tot1 (K : PySem.W.Frag) : TS :=
  (tSeq (tIfS (tAnd (tTest (tOp rEq (tVar 2) (tC (.int 0)))) (tTest (tOp rEq (tCall (spS K FSto TDr) [] E0 (tCons (tVar 0) (tCons (tC (.int 3)) tNil))) (tC (.int 0))))) (tAsg (tCall (spS K FSto TSmallQ) [] E0 (tCons (tVar 0) tNil)) (gName 11)) tNext)
    (tSeq (tIfS (tTest (tOp rEq (tVar 2) (tC (.int 5)))) (tAsg (tTup (tCons (tOp rSubI (tC (.int 0)) (tCB rAbsX (tCons (tOp (rIxT K) (tVar 11) (tC (.int 0))) tNil))) (tCons (tOp (rIxT K) (tVar 11) (tC (.int 1))) tNil))) (gName 11)) tNext)
    (tSeq (tIfS (tTest (tOp rEq (tCall (spS K FSto TDr) [] E0 (tCons (tVar 0) (tCons (tC (.int 4)) tNil))) (tC (.int 0)))) (tAsg (tCall (spP K TAdQ) [] E0 (tCons (tVar 11) (tCons (tCall (spP K TMlQ) [] E0 (tCons (tVar 4) (tCons (tTup (tCons (tOp rSubI (tCall (spS K FSto TDr) [] E0 (tCons (tVar 0) (tCons (tC (.int 9)) tNil))) (tC (.int 4))) (tCons (tC (.int 1)) tNil))) tNil))) tNil))) (gName 11)) tNext)
    (tDrop (tBM K "list" rAppend (tVar 7) (tCons (tVar 11) tNil))))))
section
variable {K : PySem.W.Frag} {S : Stt}
theorem ws_smallq {B : Nat} {ds : List PyData} {Φ : PyData → Nat → Prop} (hF : FSto S) (h : TSmallQ B ds Φ) : WS K S (t_smallq K) (.sto B :: rhoOf 3 ds) { nx := fun _ => False, rt := fun d ρ => ∃ B', ρ[0]? = some (.sto B') ∧ Φ d B' } := by
  obtain ⟨rfl, hB, hΦ⟩ := h
  show WS K S (t_smallq K) [.sto B, .unk, .unk, .unk] _
  unfold t_smallq
  have L : ∀ m : Int, m ≤ 1000000 → m ≤ 2 ^ 1899 := fun m hm => Int.le_trans hm big1899
  walk_at "dl"
  refine wd_drawc hF rfl (by decide) (L _ (by decide)) (by omega) fun size s0 s1 => ?_
  walk_at "dl"
  refine wd_drawc hF rfl (by decide) (L _ (by decide)) (by omega) fun z1 z10 z11 => ?_
  walk_at "dl"
  refine wd_drawc hF rfl (by decide) (L _ (by decide)) (by omega) fun z2 z20 z21 => ?_
  refine do_ixL_int (ns := [1, 1, 2, 3, 4, 12, 97, 101, 997, 1000, 1 + z1]) (P := fun n => 1 ≤ n ∧ n ≤ 1000) rfl z20 z21 (by simp; omega) fun below hb => ?_
  walk_at "dl"
  refine wd_drawc hF rfl (by decide) (L _ (by decide)) (by omega) fun z3 z30 z31 => ?_
  walk_at "dl"
  refine wd_drawc hF rfl (by decide) (L _ (by decide)) (by omega) fun z4 z40 z41 => ?_
  walk_at "dl"
  refine wd_drawc hF rfl (by decide) (L _ (by decide)) (by omega) fun z5 z50 z51 => ?_
  walk_at "dl"
  refine wd_draw hF rfl ?_
  walk_at "dl"
  refine ⟨_, _, rfl, rfl, by decide, L _ (by rw [pow6]; decide), by omega, fun z6 z60 z61 => ?_⟩
  walk_at "dl"
  rw [pow6] at z61
  refine do_ixL_int (ns := [0, 1, 1 + z3, z4, 10 ^ (6 : Int).toNat - z5, z6]) (P := fun n => 0 ≤ n ∧ n ≤ 1000000) rfl s0 s1 (by rw [pow6]; simp; omega) fun above ha => ?_
  walk_at "dl"
  refine wd_drawc hF rfl (by decide) (L _ (by decide)) (by omega) fun z7 z70 z71 => ?_
  refine do_ixL_int (ns := [1, -1]) (P := fun n => n = 1 ∨ n = -1) rfl z70 z71 (by simp) fun sg hs => ?_
  walk_at "dl"
  · exact wide_mul (a := 20) (b := 2) (by omega) (by omega) (by decide) (by decide) (by decide)
  walk_at "dl"
  have h1 : (above * sg).natAbs ≤ 1000000 := by rcases hs with rfl | rfl <;> omega
  have big : (1000001 : Nat) ≤ 2 ^ 8000 := by decide +kernel
  refine ⟨_, _, rfl, by omega, Nat.lt_of_lt_of_le (by omega) big, Nat.lt_of_lt_of_le (by omega) big, _, rfl, ?_⟩
  exact hΦ _ ⟨above * sg, below.toNat, by rw [show ((below.toNat : Nat) : Int) = below by omega], by omega, by omega, h1⟩
theorem ws_shareq {B : Nat} {ds : List PyData} {Φ : PyData → Nat → Prop} (hF : FSto S) (h : TShareQ B ds Φ) : WS K S (t_shareq K) (.sto B :: rhoOf 1 ds) { nx := fun _ => False, rt := fun d ρ => ∃ B', ρ[0]? = some (.sto B') ∧ Φ d B' } := by
  obtain ⟨rfl, hB, hΦ⟩ := h
  show WS K S (t_shareq K) [.sto B, .unk] _
  unfold t_shareq
  have L : ∀ m : Int, m ≤ 1000000 → m ≤ 2 ^ 1899 := fun m hm => Int.le_trans hm big1899
  walk_at "dl"
  refine wd_drawc hF rfl (by decide) (L _ (by decide)) (by omega) fun z1 z10 z11 => ?_
  walk_at "dl"
  refine wd_drawc hF rfl (by decide) (L _ (by decide)) (by omega) fun z2 z20 z21 => ?_
  refine do_ixL_int (ns := [1, 2, 3, 10, 97, 997, 1 + z1]) (P := fun n => 1 ≤ n ∧ n ≤ 1000) rfl z20 z21 (by simp; omega) fun below hb => ?_
  walk_at "dl"
  refine wd_draw hF rfl ?_
  walk_at "dl"
  refine ⟨_, _, rfl, rfl, by omega, L _ (by omega), by omega, fun z3 z30 z31 => ?_⟩
  refine wd_drawc hF rfl (by decide) (L _ (by decide)) (by omega) fun z4 z40 z41 => ?_
  walk_at "dl"
  · exact wide_mul (a := 20) (b := 2) (by omega) (by omega) (by decide) (by decide) (by decide)
  walk_at "dl"
  have hz : z4 = 0 ∨ z4 = 1 := by omega
  have h1 : 1 ≤ below - z3 * z4 ∧ below - z3 * z4 ≤ below := by rcases hz with rfl | rfl <;> omega
  generalize below - z3 * z4 = a at h1
  have big : (1000001 : Nat) ≤ 2 ^ 8000 := by decide +kernel
  refine ⟨_, _, rfl, by omega, Nat.lt_of_lt_of_le (by omega) big, Nat.lt_of_lt_of_le (by omega) big, _, rfl, ?_⟩
  obtain ⟨R, rfl⟩ : ∃ R : Nat, below = R := ⟨below.toNat, by omega⟩
  have eq : Rat.divInt a (R : Int) = (a : Rat) / (R : Rat) := by rw [Rat.divInt_eq_div, Rat.intCast_natCast]
  have R0 : (0 : Rat) < (R : Rat) := by exact_mod_cast (by omega : 0 < R)
  have a0 : (0 : Rat) < (a : Rat) := by exact_mod_cast (by omega : 0 < a)
  have aR : (a : Rat) ≤ (R : Rat) := by rw [← Rat.intCast_natCast]; exact_mod_cast h1.2
  refine hΦ R _ ⟨?_, ?_, by omega, by omega, ?_⟩
  · rw [eq, Rat.div_def]; exact Rat.mul_pos a0 (Rat.inv_pos.mpr R0)
  · rw [eq]; exact Rat.not_lt.mp fun z => Rat.not_lt.mpr aR (by rw [Rat.lt_div_iff R0, Rat.one_mul] at z; exact z)
  · exact (Dv.di1 (by omega)).mono (by omega)
theorem ws_tot3 {B hj : Nat} {most kind size below here : Int} {s9 s10 : Sl} {ts : List Rat} {one : Rat} {En : DE} (hF : FSto S) (hB : B + 800 ≤ 2 ^ 40) (hj2 : hj ≤ 2) (hl : ts.length ≤ 1000) (ho : Dv dd (1000000 * dd) one)
    (hn : ∀ (t : Rat) (B' : Nat), Tot t → B' ≤ B + 800 → En.nx [.sto B', .dat (.int most), .dat (.int kind), .dat (.int size), .dat (qp (hairs hj)), .unk, .dat (.int below), .own ((ts ++ [t]).map qp), .dat (.int here), s9, s10, .dat (qp t)]) (h9 : ∃ d, s9 = .dat d) (h10 : ∃ d, s10 = .dat d) :
    WS K S (t_tot3 K) [.sto B, .dat (.int most), .dat (.int kind), .dat (.int size), .dat (qp (hairs hj)), .unk, .dat (.int below), .own (ts.map qp), .dat (.int here), s9, s10, .dat (qp one)] En := by
  obtain ⟨d9, rfl⟩ := h9
  obtain ⟨d10, rfl⟩ := h10
  unfold t_tot3
  have L : ∀ m : Int, m ≤ 1000000 → m ≤ 2 ^ 1899 := fun m hm => Int.le_trans hm big1899
  have hz := hair_sz hj2
  have oz := tot_sz (Tot.of ho)
  have em : ∀ t : Rat, ts.map qp ++ [qp t] = (ts ++ [t]).map qp := fun t => by rw [List.map_append]; rfl
  have lm : (ts.map qp).length < sizeLine := by rw [List.length_map, sizeLine_eq]; omega
  walk_at "dl"
  refine wd_drawc hF rfl (by decide) (L _ (by decide)) (by omega) fun z1 z10 z11 => ?_
  walk_at "dl"
  refine if_b (fun h => ?_) (fun h => ?_)
  · walk_at "dl"
    refine wd_drawc hF rfl (by decide) (L _ (by decide)) (by omega) fun z2 z20 z21 => ?_
    walk_at "dl"
    rw [qp_int]
    have cz : sz ((z2 - 4 : Int) : Rat) ≤ 4 := sz_int (by omega)
    have pz := sz_mul (hairs hj) ((z2 - 4 : Int) : Rat)
    walk_at "dl"
    exact ws_append rfl (wd_var rfl ⟨_, rfl, lm, by rw [em]; exact hn _ _ (Tot.hair ho hj2 (by omega)) (by omega)⟩)
  · walk_at "dl"
    exact ws_append rfl (wd_var rfl ⟨_, rfl, lm, by rw [em]; exact hn _ _ (Tot.of ho) (by omega)⟩)
theorem ws_tot2 {B hj : Nat} {most kind size below here : Int} {s9 s10 : Sl} {ts : List Rat} {one : Rat} {En : DE} (hF : FSto S) (hB : B + 800 ≤ 2 ^ 40) (hj2 : hj ≤ 2) (hl : ts.length ≤ 1000) (ho : Dv dd (1000000 * dd) one)
    (hn : ∀ (t : Rat) (B' : Nat), Tot t → B' ≤ B + 800 → En.nx [.sto B', .dat (.int most), .dat (.int kind), .dat (.int size), .dat (qp (hairs hj)), .unk, .dat (.int below), .own ((ts ++ [t]).map qp), .dat (.int here), s9, s10, .dat (qp t)]) (h9 : ∃ d, s9 = .dat d) (h10 : ∃ d, s10 = .dat d) :
    WS K S (t_tot2 K) [.sto B, .dat (.int most), .dat (.int kind), .dat (.int size), .dat (qp (hairs hj)), .unk, .dat (.int below), .own (ts.map qp), .dat (.int here), s9, s10, .dat (qp one)] En := by
  unfold t_tot2
  show WS K S (tSeq _ (t_tot3 K)) _ _
  walk_at "dl"
  refine if_b (fun h => ?_) (fun h => ?_)
  · walk_at "dl"
    rw [qp_negA]
    exact ws_tot3 hF hB hj2 hl (negA_dv ho) hn h9 h10
  · walk_at "dl"
    exact ws_tot3 hF hB hj2 hl ho hn h9 h10
theorem ws_tot1 {B hj : Nat} {most kind size below here : Int} {s9 s10 : Sl} {ts : List Rat} {one : Rat} {En : DE} (hF : FSto S) (hB : B + 5000 ≤ 2 ^ 40) (hj2 : hj ≤ 2) (hl : ts.length ≤ 1000) (ho : Dv dd (1000000 * dd) one)
    (hn : ∀ (t : Rat) (B' : Nat), Tot t → B' ≤ B + 5000 → En.nx [.sto B', .dat (.int most), .dat (.int kind), .dat (.int size), .dat (qp (hairs hj)), .unk, .dat (.int below), .own ((ts ++ [t]).map qp), .dat (.int here), s9, s10, .dat (qp t)]) (h9 : ∃ d, s9 = .dat d) (h10 : ∃ d, s10 = .dat d) :
    WS K S (t_tot1 K) [.sto B, .dat (.int most), .dat (.int kind), .dat (.int size), .dat (qp (hairs hj)), .unk, .dat (.int below), .own (ts.map qp), .dat (.int here), s9, s10, .dat (qp one)] En := by
  obtain ⟨d9, rfl⟩ := h9
  obtain ⟨d10, rfl⟩ := h10
  unfold t_tot1
  show WS K S (tSeq _ (t_tot2 K)) _ _
  have L : ∀ m : Int, m ≤ 1000000 → m ≤ 2 ^ 1899 := fun m hm => Int.le_trans hm big1899
  walk_at "dl"
  refine if_b (fun h => ?_) (fun h => ?_)
  · walk_at "dl"
    refine wd_drawc hF rfl (by decide) (L _ (by decide)) (by omega) fun z1 z10 z11 => ?_
    walk_at "dl"
    refine if_b (fun h => ?_) (fun h => ?_)
    · refine ws_asg (wd_callS hF rfl (wa_nil ⟨_, rfl, rfl, by omega, fun q hq => ?_⟩))
      exact ws_tot2 hF (by omega) hj2 hl hq.dv (fun t B' h1 h2 => hn t B' h1 (by omega)) ⟨_, rfl⟩ ⟨_, rfl⟩
    · refine ws_next ?_
      exact ws_tot2 hF (by omega) hj2 hl ho (fun t B' h1 h2 => hn t B' h1 (by omega)) ⟨_, rfl⟩ ⟨_, rfl⟩
  · rw [if_neg (by decide)]
    refine ws_next ?_
    exact ws_tot2 hF (by omega) hj2 hl ho (fun t B' h1 h2 => hn t B' h1 (by omega)) ⟨_, rfl⟩ ⟨_, rfl⟩
theorem ws_totals {B : Nat} {ds : List PyData} {Φ : PyData → Nat → Prop} (hF : FSto S) (h : TTotals B ds Φ) : WS K S (t_totals K) (.sto B :: rhoOf 11 ds) { nx := fun _ => False, rt := fun d ρ => ∃ B', ρ[0]? = some (.sto B') ∧ Φ d B' } := by
  obtain ⟨most, rfl, m1, m2, hB, hΦ⟩ := h
  show WS K S (t_totals K) [.sto B, .dat (.int most), .unk, .unk, .unk, .unk, .unk, .unk, .unk, .unk, .unk, .unk] _
  unfold t_totals
  have L : ∀ m : Int, m ≤ 1000000 → m ≤ 2 ^ 1899 := fun m hm => Int.le_trans hm big1899
  walk_at "dl"
  refine wd_drawc hF rfl (by decide) (L _ (by decide)) (by omega) fun kind k0 k1 => ?_
  walk_at "dl"
  refine wd_drawc hF rfl (by decide) (L _ (by decide)) (by omega) fun z2 z20 z21 => ?_
  refine do_ixL_int (ns := [3, 8, most]) (P := fun n => 1 ≤ n ∧ n ≤ 120) rfl z20 z21 (by simp; omega) fun size hs => ?_
  walk_at "dl"
  have e1 : PyData.tuple [.int 1, .int 997] = qp (Rat.divInt 1 997) := qp_of (by decide) (by decide)
  have e2 : PyData.tuple [.int 1, .int 1000] = qp (Rat.divInt 1 1000) := qp_of (by decide) (by decide)
  have e3 : PyData.tuple [.int 1, .int 991] = qp (Rat.divInt 1 991) := qp_of (by decide) (by decide)
  have s1 : sz (Rat.divInt 1 997) ≤ 11 := by decide +kernel
  have s2 : sz (Rat.divInt 1 1000) ≤ 11 := by decide +kernel
  have s3 : sz (Rat.divInt 1 991) ≤ 11 := by decide +kernel
  have s4 := sz_mul (Rat.divInt 1 997) (Rat.divInt 1 1000)
  rw [e1, e2]
  walk_at "dl"
  rw [e3]
  walk_at "dl"
  refine ws_for (wi_rng1 (wa_cons ?_))
  refine wd_drawc hF rfl (by decide) (L _ (by decide)) (by omega) fun z3 z30 z31 => ?_
  walk_at "dl"
  refine ⟨by omega, by omega, fun j ρ => ∃ (s5 : Sl), ρ = [.sto (B + 400 + 400 + 400), .dat (.int most), .dat (.int kind), .dat (.int size), .dat (qp (hairs j)), s5, .unk, .unk, .unk, .unk, .unk, .unk], ⟨_, rfl⟩, ?_, ?_⟩
  · rintro j d ρ2 hd ⟨s5, rfl⟩
    have hj : j < 2 := by
      have := (List.getElem?_eq_some_iff.mp hd).1
      simp at this; omega
    have := hair_sz (j := j) (by omega)
    refine ⟨_, _, gd_name, ?_⟩
    walk_at "dl"
    exact ⟨_, rfl⟩
  · rintro ρ2 ⟨s5, rfl⟩
    obtain ⟨hj, ehj⟩ : ∃ hj : Nat, z3.toNat = hj := ⟨_, rfl⟩
    have hj2 : hj ≤ 2 := by omega
    simp only [List.length_map, List.length_range, ehj]
    have hz := hair_sz hj2
    refine ws_fgt (fgt_set (i := 5)) ?_
    show WS K S _ [.sto (B + 400 + 400 + 400), .dat (.int most), .dat (.int kind), .dat (.int size), .dat (qp (hairs hj)), .unk, .unk, .unk, .unk, .unk, .unk, .unk] _
    walk_at "dl"
    refine wd_drawc hF rfl (by decide) (L _ (by decide)) (by omega) fun z4 z40 z41 => ?_
    refine do_ixL_int (ns := [1, 1, 2, 3, 12, 97, 1000]) (P := fun n => 1 ≤ n ∧ n ≤ 1000) rfl z40 z41 (by simp) fun below hb => ?_
    refine ws_seq (ws_own (wa_nil ⟨Nat.zero_le _, ?_⟩))
    walk_at "dl"
    refine wd_drawc hF rfl (by decide) (L _ (by decide)) (by omega) fun z5 z50 z51 => ?_
    walk_at "dl"
    refine ws_for (wi_rng1 (wa_cons (wd_draw hF rfl ?_)))
    walk_at "dl"
    refine ⟨_, _, rfl, rfl, by omega, L _ (by omega), by omega, fun many y0 y1 => ?_⟩
    refine wa_nil ⟨many, rfl, by omega, by omega, fun k ρ => ∃ (ts : List Rat) (here : Int) (B2 : Nat) (t9 t10 t11 : Sl), ρ = [.sto B2, .dat (.int most), .dat (.int kind), .dat (.int size), .dat (qp (hairs hj)), .unk, .dat (.int below), .own (ts.map qp), .dat (.int here), t9, t10, t11] ∧ ts.length = k ∧ (∀ t ∈ ts, Tot t) ∧ here.natAbs ≤ 1000000 ∧ B2 ≤ B + 4000 + 8000 * k, ⟨[], z5 - 1000, B + 400 + 400 + 400 + 400 + 400 + 400, _, _, _, rfl, rfl, fun x hx => by simp at hx, by omega, by omega⟩, ?_, ?_⟩
    · rintro k d ρ2 hd ⟨ts, here, B2, t9, t10, t11, rfl, hk, hT, hh, hB2⟩
      have hk2 : k < 120 := by
        have := (List.getElem?_eq_some_iff.mp hd).1
        simp at this; omega
      refine ⟨_, _, gd_name, ?_⟩
      refine ws_fgt (fgt_set (i := 10)) (ws_fgt (fgt_set (i := 11)) ?_)
      have hkd : ∃ kk : Int, d = .int kk := by
        obtain ⟨x, _, rfl⟩ := List.mem_map.mp (List.mem_of_getElem? hd)
        exact ⟨_, rfl⟩
      obtain ⟨kk, rfl⟩ := hkd
      show WS K S _ [.sto B2, .dat (.int most), .dat (.int kind), .dat (.int size), .dat (qp (hairs hj)), .unk, .dat (.int below), .own (ts.map qp), .dat (.int here), .dat (.int kk), .unk, .unk] _
      refine ws_seq (ws_asg (wd_draw hF rfl ?_))
      walk_at "dl"
      refine wd_drawc hF rfl (by decide) (L _ (by decide)) (by omega) fun z6 z60 z61 => ?_
      refine do_ixL_int (ns := [3, 50, 20000]) (P := fun n => 1 ≤ n ∧ n ≤ 20000) rfl z60 z61 (by simp) fun bd hbd => ?_
      refine ⟨_, _, rfl, rfl, by omega, L _ (by omega), by omega, fun step st0 st1 => ?_⟩
      walk_at "dl"
      · exact wide_mul (a := 3) (b := 3) (by decide) (by obtain ⟨f0, f1⟩ := fmod_nn (i := kk) (j := 2) (by decide); omega) (by decide) (by decide) (by decide)
      · exact wide_mul (a := 16) (b := 3) (by omega) (by obtain ⟨f0, f1⟩ := fmod_nn (i := kk) (j := 2) (by decide); omega) (by decide) (by decide) (by decide)
      refine do_ixL_any k0 (by simp; omega) fun o ho => ?_
      obtain ⟨ov, rfl⟩ : ∃ ov : Int, o = .int ov := by
        simp only [List.mem_cons, List.not_mem_nil, or_false] at ho
        rcases ho with rfl | rfl | rfl | rfl | rfl | rfl <;> exact ⟨_, rfl⟩
      refine do_add ?_
      show WS K S (tSeq _ (tSeq _ (t_tot1 K))) _ _
      walk_at "dl"
      rw [pow6]
      generalize here + ov = w
      obtain ⟨cl, ecl, hcl⟩ : ∃ cl : Int, (if (if w < 1000000 then w else 1000000) > -1000000 then (if w < 1000000 then w else 1000000) else -1000000) = cl ∧ cl.natAbs ≤ 1000000 := ⟨_, rfl, by split <;> split <;> omega⟩
      rw [ecl]
      obtain ⟨bl, rfl⟩ : ∃ bl : Nat, below = bl := ⟨below.toNat, by omega⟩
      have big : (1000001 : Nat) ≤ 2 ^ 8000 := by decide +kernel
      refine ⟨_, _, rfl, by omega, Nat.lt_of_lt_of_le (by omega) big, Nat.lt_of_lt_of_le (by omega) big, ?_⟩
      refine ws_tot1 hF (by omega) hj2 (by omega) (dv_part (by omega) (by omega) hcl) (fun t B' h1 h2 => ⟨ts ++ [t], cl, B', _, _, _, rfl, by rw [List.length_append, hk]; rfl, fun u hu => ?_, hcl, by omega⟩) ⟨_, rfl⟩ ⟨_, rfl⟩
      rcases List.mem_append.mp hu with q | q
      · exact hT u q
      · rw [List.mem_singleton.mp q]; exact h1
    · rintro ρ2 ⟨ts, here, B2, t9, t10, t11, rfl, hk, hT, hh, hB2⟩
      rw [List.length_map, List.length_range] at hk hB2
      refine ws_frz (i := 7) rfl ?_
      walk_at "dl"
      exact hΦ ts _ (by omega) hT (by omega)
end
end DL

set_option Elab.async false
set_option linter.all false
set_option maxRecDepth 100000
set_option maxHeartbeats 4000000
/-! PQ2: payments -/
namespace DL
open PySem PySem.Spec PyProof.Rows L2
def p3D (x : P3) : PyData := .tuple [qp x.1, qp x.2.1, qp x.2.2]
/-- paid in whole pence -/
def w3D (x : P3) (paid : Rat) : PyData := .tuple [.int (x.2.1.floor - paid.floor), .int x.2.1.floor, qp x.2.2]
def wRwF (sh : Rat) : P3 → List Rat → List PyData
  | _, [] => []
  | s, t :: r => w3D (prow sh s t) s.2.1 :: wRwF sh (pstep sh s t) r
def wRw (sh : Rat) (ts : List Rat) : List PyData := wRwF sh (0, 0, 0) ts
theorem wRwF_snoc {sh t : Rat} : ∀ {ts : List Rat} {s : P3}, wRwF sh s (ts ++ [t]) = wRwF sh s ts ++ [w3D (prow sh (ts.foldl (pstep sh) s) t) (ts.foldl (pstep sh) s).2.1]
  | [], s => rfl
  | u :: r, s => by
    show _ :: wRwF sh (pstep sh s u) (r ++ [t]) = _
    rw [wRwF_snoc]; rfl
theorem wRw_snoc {sh t : Rat} {ts : List Rat} : wRw sh (ts ++ [t]) = wRw sh ts ++ [w3D (prow sh (pS sh ts) t) (pS sh ts).2.1] := wRwF_snoc
theorem wRw_take {sh t : Rat} {ts : List Rat} {k : Nat} (h : ts[k]? = some t) : wRw sh (ts.take (k + 1)) = wRw sh (ts.take k) ++ [w3D (prow sh (pS sh (ts.take k)) t) (pS sh (ts.take k)).2.1] := by rw [take_snoc h, wRw_snoc]
theorem wRwF_len {sh : Rat} : ∀ {ts : List Rat} {s : P3}, (wRwF sh s ts).length = ts.length
  | [], s => rfl
  | u :: r, s => by show (wRwF sh _ r).length + 1 = r.length + 1; rw [wRwF_len]
def payD (w : Bool) (sh : Rat) (ts : List Rat) : List PyData := if w then wRw sh ts else (pRw sh ts).map p3D
theorem payD_len {w : Bool} {sh : Rat} {ts : List Rat} : (payD w sh ts).length = ts.length := by
  unfold payD; split
  · exact wRwF_len
  · rw [List.length_map, pRw_len]
theorem le0 {q : Rat} : q.num ≤ 0 ↔ q ≤ 0 := by
  rw [Rat.le_iff]
  show q.num ≤ 0 ↔ q.num * 1 ≤ 0 * _
  omega
theorem kept_law {sh n d : Rat} (h : ¬ n ≤ 0) : keptR sh n d = if d < sh * n then d else sh * n := by
  unfold keptR; rw [if_neg h]
  split <;> split <;> grind
def TRows : List PyData → (PyData → Prop) → Prop := fun ds Φ => ∃ (ts : List Rat) (sh : Rat) (R : Nat), ds = [.list (ts.map qp), qp sh] ∧ ShOk R sh ∧ ts.length ≤ 130 ∧ (∀ t ∈ ts, Tot t) ∧ Φ (.tuple ((pRw sh ts).map p3D))
def TLeastQ : List PyData → (PyData → Prop) → Prop := fun ds Φ => ∃ (p q : Rat), ds = [.tuple [qp p, qp q], .none] ∧ sz p ≤ 3800 ∧ sz q ≤ 3800 ∧ Φ (qp (if q < p then q else p))
def TFloorQ : List PyData → (PyData → Prop) → Prop := fun ds Φ => ∃ (p : Rat), ds = [qp p] ∧ sz p ≤ 3800 ∧ Φ (.int p.floor)
def TKept : List PyData → (PyData → Prop) → Prop := fun ds Φ => ∃ (n d sh : Rat), ds = [qp n, qp d, qp sh] ∧ sz sh ≤ 3800 ∧ sz n ≤ 3800 ∧ sz d ≤ 3800 ∧ sz (sh * n) ≤ 3800 ∧ Φ (qp (keptR sh n d))
def TPays : List PyData → (PyData → Prop) → Prop := fun ds Φ => ∃ (b w : Bool) (ts : List Rat) (sh : Rat) (R : Nat), ds = [rowD b (ts.map qp), qp sh, .bool w] ∧ ShOk R sh ∧ ts.length ≤ 130 ∧ (∀ t ∈ ts, Tot t) ∧ Φ (.tuple (payD w sh ts))
local macro_rules | `(tactic| walk_at "dl") => `(tactic| repeat' (first
  | with_reducible refine wd_isTy ?_ | with_reducible refine wd_isi ?_ | ((with_reducible show WD _ _ (tOp (rIxL _) (tVar _) _) _ _); refine wd_ix_own rfl ?_) | with_reducible refine wd_op ?_ | ((with_reducible show WD _ _ (tCB (rLenX _) (tCons (tVar _) tNil)) _ _); refine wd_len_scr rfl ?_) | ((with_reducible show WD _ _ (tCB (rLenX _) (tCons (tVar _) tNil)) _ _); refine wd_len_own rfl ?_) | with_reducible refine wd_cb ?_ | with_reducible refine wd_un ?_ | with_reducible refine wa_cons ?_ | with_reducible refine wa_nil ?_ | ((with_reducible show WD _ _ (tVar _) _ _); refine wd_var rfl ?_) | with_reducible refine wd_int ?_ | with_reducible refine wd_bl ?_ | with_reducible refine wd_str ?_ | with_reducible refine wd_non ?_
  | with_reducible refine do_nesS ?_ | with_reducible refine dc_intB ?_ | with_reducible refine do_add ?_ | with_reducible refine do_sub ?_ | ((with_reducible refine do_mod ?_ ?_); decide) | with_reducible refine do_mod ?_ ?_ | with_reducible refine do_mul ?_ ?_ | ((with_reducible refine do_div ?_ ?_); exact ⟨by decide, by decide⟩) | with_reducible refine do_div ?_ ?_ | ((with_reducible refine do_pow ?_ ?_); exact ⟨by decide, by decide, by decide⟩) | with_reducible refine do_pow ?_ ?_
  | with_reducible refine do_lt ?_ | with_reducible refine do_le ?_ | with_reducible refine do_gt ?_ | with_reducible refine do_ge ?_ | with_reducible refine du_neg ?_
  | with_reducible refine do_eqi ?_ | with_reducible refine do_nei ?_ | with_reducible refine do_eqs ?_ | with_reducible refine do_nes ?_ | with_reducible refine dc_abs ?_ | with_reducible refine dc_min ?_ | with_reducible refine dc_max ?_ | with_reducible refine dc_lenL ?_ | with_reducible refine dc_lenT ?_ | with_reducible refine dc_lenR ?_ | with_reducible refine dc_listT ?_ | with_reducible refine dc_listL ?_ | with_reducible refine dc_tupL ?_ | with_reducible refine dc_gcd ?_
  | ((with_reducible show DO _ (rIxT _) _ _ _); refine do_ixT rfl ?_) | ((with_reducible show DO _ (rIxL _) _ _ _); refine do_ixL rfl ?_) | ((with_reducible refine do_catL ?_ ?_); exact Nat.le_of_ble_eq_true rfl) | with_reducible refine do_catL ?_ ?_ | ((with_reducible show And (List.length _ ≤ sizeLine) _); refine ⟨Nat.le_of_ble_eq_true rfl, ?_⟩)
  | with_reducible refine wd_dnew ?_ | with_reducible refine wd_call0 ?_ | with_reducible refine wd_slA ?_ | with_reducible refine wd_slL ?_ | with_reducible refine wd_revT ?_ | with_reducible refine do_catA ?_ ?_ | with_reducible refine wo_part ?_ | with_reducible refine wo_none ?_ | with_reducible refine do_eqQ ?_ | with_reducible refine do_neQ ?_ | with_reducible refine wi_enumT ?_ | with_reducible refine wi_enumD ?_ | with_reducible refine tAdQ (by omega) (by omega) ?_ | with_reducible refine tSbQ (by omega) (by omega) ?_ | with_reducible refine tMlQ (by omega) (by omega) ?_ | with_reducible refine tDvQ (by assumption) (by omega) (by omega) ?_ | with_reducible refine tLtQ (by omega) (by omega) ?_ | with_reducible refine dc_str ?_ ?_ | with_reducible refine wd_tup ?_ | with_reducible refine wd_lst ?_ | with_reducible refine wt_test ?_ | with_reducible refine wt_B ?_ | with_reducible refine wt_not ?_ | with_reducible refine wt_and ?_ | with_reducible refine wt_or ?_ | with_reducible refine wd_ifE ?_ | with_reducible refine wd_andV ?_ | with_reducible refine wd_orV ?_ | with_reducible refine wd_notV ?_
  | with_reducible refine ws_seq ?_ | with_reducible refine ws_next ?_ | with_reducible refine ws_asg ?_ | with_reducible refine ws_ret ?_ | with_reducible refine ws_retN ?_ | with_reducible refine ws_if ?_ | with_reducible refine ws_par ?_ | with_reducible refine ws_unp2 ?_
  | with_reducible refine if_t ?_ | with_reducible refine if_f ?_ | with_reducible refine if_nf ?_ | with_reducible refine if_nt ?_
  | ((with_reducible show Exists _); first | refine ⟨_, kitInt _, ?_⟩ | refine ⟨_, kitBool _, ?_⟩ | refine ⟨_, kitTup _, ?_⟩ | refine ⟨_, kitList _, ?_⟩ | refine ⟨_, rfl, ?_⟩ | refine ⟨_, _, rfl, ?_⟩ | fail) | fail))
def t_rows (K : PySem.W.Frag) : TS :=
  (tSeq (tAsg (tLst tNil) (gName 2))
    (tSeq (tAsg (tTup (tCons (tTup (tCons (tC (.int 0)) (tCons (tC (.int 1)) tNil))) (tCons (tTup (tCons (tC (.int 0)) (tCons (tC (.int 1)) tNil))) (tCons (tTup (tCons (tC (.int 0)) (tCons (tC (.int 1)) tNil))) tNil)))) (gTup K 3 (gCons (gName 3) (gCons (gName 4) (gCons (gName 5) gNil)))))
    (tSeq (tFor (iList K (tVar 0)) (gName 6) (tSeq (tAsg (tCall (spP K TSbQ) [] E0 (tCons (tVar 6) (tCons (tVar 3) tNil))) (gName 7))
    (tSeq (tAsg (tTup (tCons (tC (.int 0)) (tCons (tC (.int 1)) tNil))) (gName 8))
    (tSeq (tIfS (tTest (tOp rLe (tOp (rIxT K) (tVar 7) (tC (.int 0))) (tC (.int 0)))) (tAsg (tCall (spP K TSbQ) [] E0 (tCons (tVar 5) (tCons (tVar 7) tNil))) (gName 5)) (tSeq (tAsg (tCall (spP K TMlQ) [] E0 (tCons (tVar 1) (tCons (tVar 7) tNil))) (gName 9))
    (tSeq (tAsg (tIf (tB (tCall (spP K TLtQ) [] E0 (tCons (tVar 5) (tCons (tVar 9) tNil)))) (tVar 5) (tVar 9)) (gName 9))
    (tSeq (tAsg (tCall (spP K TSbQ) [] E0 (tCons (tVar 7) (tCons (tVar 9) tNil))) (gName 8))
    (tAsg (tCall (spP K TSbQ) [] E0 (tCons (tVar 5) (tCons (tVar 9) tNil))) (gName 5))))))
    (tSeq (tAsg (tCall (spP K TAdQ) [] E0 (tCons (tVar 4) (tCons (tVar 8) tNil))) (gName 4))
    (tSeq (tAsg (tVar 6) (gName 3))
    (tDrop (tBM K "list" rAppend (tVar 2) (tCons (tTup (tCons (tVar 8) (tCons (tVar 4) (tCons (tVar 5) tNil)))) tNil)))))))))
    (tRet (tCB (rTupOf K) (tCons (tVar 2) tNil))))))
def t_rowsT (K : PySem.W.Frag) : TS :=
  (tSeq (tAsg (tCall (spP K TAdQ) [] E0 (tCons (tVar 4) (tCons (tVar 8) tNil))) (gName 4))
    (tSeq (tAsg (tVar 6) (gName 3))
    (tDrop (tBM K "list" rAppend (tVar 2) (tCons (tTup (tCons (tVar 8) (tCons (tVar 4) (tCons (tVar 5) tNil)))) tNil)))))
def t_paysT (K : PySem.W.Frag) : TS :=
  (tIfS (tB (tVar 2)) (tDrop (tBM K "list" rAppend (tVar 3) (tCons (tTup (tCons (tOp rSubI (tCall (spP K TFloorQ) [] E0 (tCons (tVar 5) tNil)) (tCall (spP K TFloorQ) [] E0 (tCons (tVar 11) tNil))) (tCons (tCall (spP K TFloorQ) [] E0 (tCons (tVar 5) tNil)) (tCons (tVar 6) tNil)))) tNil))) (tDrop (tBM K "list" rAppend (tVar 3) (tCons (tTup (tCons (tVar 10) (tCons (tVar 5) (tCons (tVar 6) tNil)))) tNil))))
def t_leastq (K : PySem.W.Frag) : TS :=
  (tSeq (tIfS (tNot (tTru K (tVar 0))) (tRet (tVar 1)) tNext)
    (tSeq (tAsg (tOp (rIxT K) (tVar 0) (tC (.int 0))) (gName 2))
    (tSeq (tFor (iTup K (tVar 0)) (gName 3) (tIfS (tB (tCall (spP K TLtQ) [] E0 (tCons (tVar 3) (tCons (tVar 2) tNil)))) (tAsg (tVar 3) (gName 2)) tNext))
    (tRet (tVar 2)))))
def t_floorq (K : PySem.W.Frag) : TS :=
  (tRet (tOp rDivI (tOp (rIxT K) (tVar 0) (tC (.int 0))) (tOp (rIxT K) (tVar 0) (tC (.int 1)))))
def t_kept (K : PySem.W.Frag) : TS :=
  (tSeq (tIfS (tTest (tOp rLe (tOp (rIxT K) (tVar 0) (tC (.int 0))) (tC (.int 0)))) (tRet (tVar 0)) tNext)
    (tRet (tCall (spP K TLeastQ) [.non] E0 (tCons (tTup (tCons (tVar 1) (tCons (tCall (spP K TMlQ) [] E0 (tCons (tVar 2) (tCons (tVar 0) tNil))) tNil))) tNil))))
def t_pays (K : PySem.W.Frag) (a_ONE a_NOUGHT : Addr) : TS :=
  (tSeq (tIfS (tNot (tAnd (tB (tCall (spP K TPartB) [] E0 (tCons (tVar 1) tNil))) (tAnd (tTest (tOp rGt (tOp (rIxT K) (tVar 1) (tC (.int 0))) (tC (.int 0)))) (tNot (tB (tCall (spP K TLtQ) [] E0 (tCons (tC (.ref a_ONE)) (tCons (tVar 1) tNil)))))))) tNo tNext)
    (tSeq (tAsg (tLst tNil) (gName 3))
    (tSeq (tAsg3 (tC (.ref a_NOUGHT)) (gName 4) (gName 5) (gName 6))
    (tSeq (tFor (iRow K (tVar 0)) (gName 7) (tSeq (tAsg (tCall (spP K TSbQ) [] E0 (tCons (tVar 7) (tCons (tVar 4) tNil))) (gName 8))
    (tSeq (tAsg (tCall (spP K TKept) [] E0 (tCons (tVar 8) (tCons (tVar 6) (tCons (tVar 1) tNil)))) (gName 9))
    (tSeq (tAsg (tCall (spP K TSbQ) [] E0 (tCons (tVar 8) (tCons (tVar 9) tNil))) (gName 10))
    (tSeq (tAsg (tVar 5) (gName 11))
    (tSeq (tPar3 4 5 6 (tCons (tVar 7) (tCons (tCall (spP K TAdQ) [] E0 (tCons (tVar 5) (tCons (tVar 10) tNil))) (tCons (tCall (spP K TSbQ) [] E0 (tCons (tVar 6) (tCons (tVar 9) tNil))) tNil))))
    (tIfS (tB (tVar 2)) (tDrop (tBM K "list" rAppend (tVar 3) (tCons (tTup (tCons (tOp rSubI (tCall (spP K TFloorQ) [] E0 (tCons (tVar 5) tNil)) (tCall (spP K TFloorQ) [] E0 (tCons (tVar 11) tNil))) (tCons (tCall (spP K TFloorQ) [] E0 (tCons (tVar 5) tNil)) (tCons (tVar 6) tNil)))) tNil))) (tDrop (tBM K "list" rAppend (tVar 3) (tCons (tTup (tCons (tVar 10) (tCons (tVar 5) (tCons (tVar 6) tNil)))) tNil))))))))))
    (tRet (tCB (rTupOf K) (tCons (tVar 3) tNil)))))))
theorem ShOk.sz {R : Nat} {sh : Rat} (h : ShOk R sh) : sz sh ≤ 12 := h.dv.sz (by have := h.r1; omega) (by have := h.r2; omega)
section
variable {K : PySem.W.Frag} {S : Stt} {ρ : Rho} {ds : List PyData} {Φ : PyData → Prop}
theorem wi_rowD {t : TE} {Θ : List PyData → Rho → Prop} (h : ∃ b, WD K S t ρ fun d ρ1 => ∃ ds, d = rowD b ds ∧ Θ ds ρ1) : WI K S (iRow K t) ρ Θ := by
  obtain ⟨b, h⟩ := h
  cases b
  · exact wi_rowT (wi_tup h)
  · exact wi_rowL (wi_list h)
theorem ws_leastq (h : TLeastQ ds Φ) : WS K S0 (t_leastq K) (rhoOf 4 ds) { nx := fun _ => Φ .none, rt := fun d _ => Φ d } := by
  obtain ⟨p, q, rfl, hp, hq, hΦ⟩ := h
  show WS K S0 (t_leastq K) [.dat (.tuple [qp p, qp q]), .dat .none, .unk, .unk] _
  unfold t_leastq
  walk_at "dl"
  refine wt_tru (wd_var rfl ⟨_, .inr rfl, ?_⟩)
  refine if_f ?_
  walk_at "dl"
  refine ws_for (wi_tup (wd_var rfl ⟨_, rfl, fun k ρ => ∃ (f : Rat) (s3 : Sl), ρ = [.dat (.tuple [qp p, qp q]), .dat .none, .dat (qp f), s3] ∧ sz f ≤ 3800 ∧ (k ≤ 1 → f = p) ∧ (2 ≤ k → f = if q < p then q else p), ⟨p, _, rfl, hp, fun _ => rfl, fun h => absurd h (by decide)⟩, ?_, ?_⟩))
  · rintro k x ρ2 hd ⟨f, s3, rfl, hf, e1, e2⟩
    refine ⟨_, _, gd_name, ?_⟩
    match k, hd with
    | 0, hd =>
      cases hd
      have ef := e1 (by decide)
      subst ef
      walk_at "dl"
      refine if_b (fun h => absurd h (by grind)) (fun h => ?_)
      walk_at "dl"
      exact ⟨hp, fun _ => rfl, fun h => absurd h (by decide)⟩
    | 1, hd =>
      cases hd
      have ef := e1 (by decide)
      subst ef
      walk_at "dl"
      refine if_b (fun h => ?_) (fun h => ?_)
      · walk_at "dl"
        exact ⟨hq, fun h => absurd h (by decide), fun _ => by rw [if_pos h]⟩
      · walk_at "dl"
        exact ⟨hp, fun h => absurd h (by decide), fun _ => by rw [if_neg h]⟩
    | k + 2, hd => cases hd
  · rintro ρ2 ⟨f, s3, rfl, hf, e1, e2⟩
    walk_at "dl"
    rw [e2 (Nat.le_refl 2)]
    exact hΦ
theorem ws_floorq (h : TFloorQ ds Φ) : WS K S0 (t_floorq K) (rhoOf 1 ds) { nx := fun _ => Φ .none, rt := fun d _ => Φ d } := by
  obtain ⟨p, rfl, hp, hΦ⟩ := h
  show WS K S0 (t_floorq K) [.dat (.tuple [.int p.num, .int (p.den : Int)])] _
  unfold t_floorq
  walk_at "dl"
  · exact cdiv39 (den0 p) (d39 hp)
  · rw [Rat.floor_def] at hΦ
    show Φ _
    rw [Int.fdiv_eq_ediv_of_nonneg _ (by omega)]
    exact hΦ
theorem ws_kept (h : TKept ds Φ) : WS K S0 (t_kept K) (rhoOf 3 ds) { nx := fun _ => Φ .none, rt := fun d _ => Φ d } := by
  obtain ⟨n, d, sh, rfl, hs, hn, hd, hm, hΦ⟩ := h
  show WS K S0 (t_kept K) [.dat (qp n), .dat (qp d), .dat (qp sh)] _
  unfold t_kept
  walk_at "dl"
  refine if_b (fun h => ?_) (fun h => ?_)
  · walk_at "dl"
    have e : keptR sh n d = n := if_pos (le0.mp h)
    rw [e] at hΦ; exact hΦ
  · refine ws_next ?_
    refine ws_ret (wd_call (dds := [.none]) (fun H => .cons .non .nil) ?_)
    walk_at "dl"
    have e : keptR sh n d = if sh * n < d then sh * n else d := if_neg fun z => h (le0.mpr z)
    rw [e] at hΦ
    exact ⟨d, sh * n, rfl, hd, hm, hΦ⟩
theorem ws_rowsT {s0 s1 : Sl} {fs : List PyData} {a n d t : Rat} {u3 u7 u9 : Sl} {En : DE} (hA : sz a ≤ 1640) (hN : sz n ≤ 1640) (hl : fs.length < sizeLine) (hn : En.nx [s0, s1, .own (fs ++ [p3D (n, a + n, d)]), .dat (qp t), .dat (qp (a + n)), .dat (qp d), .dat (qp t), u7, .dat (qp n), u9]) :
    WS K S0 (t_rowsT K) [s0, s1, .own fs, u3, .dat (qp a), .dat (qp d), .dat (qp t), u7, .dat (qp n), u9] En := by
  unfold t_rowsT
  walk_at "dl"
  exact ws_append rfl (wd_tup (wa_cons (wd_var rfl (wa_cons (wd_var rfl (wa_cons (wd_var rfl (wa_nil ⟨Nat.le_of_ble_eq_true rfl, _, rfl, hl, hn⟩))))))))
theorem ws_rows (h : TRows ds Φ) : WS K S0 (t_rows K) (rhoOf 10 ds) { nx := fun _ => Φ .none, rt := fun d _ => Φ d } := by
  obtain ⟨ts, sh, R, rfl, hs, hl, ht, hΦ⟩ := h
  show WS K S0 (t_rows K) [.dat (.list (ts.map qp)), .dat (qp sh), .unk, .unk, .unk, .unk, .unk, .unk, .unk, .unk] _
  unfold t_rows
  have hz := hs.sz
  refine ws_seq (ws_own (wa_nil ⟨Nat.zero_le _, ?_⟩))
  refine ws_seq (ws_unp3 ?_)
  walk_at "dl"
  rw [qp01]
  refine ⟨_, _, _, rfl, ?_⟩
  refine ws_seq (ws_for (wi_list (wd_var rfl ⟨_, rfl, fun k ρ => ∃ (s : P3) (s6 s7 s8 s9 : Sl), ρ = [.dat (.list (ts.map qp)), .dat (qp sh), .own ((pRw sh (ts.take k)).map p3D), .dat (qp s.1), .dat (qp s.2.1), .dat (qp s.2.2), s6, s7, s8, s9] ∧ s = pS sh (ts.take k), ⟨(0, 0, 0), _, _, _, _, rfl, rfl⟩, ?_, ?_⟩)))
  · rintro k x ρ2 hd ⟨s, s6, s7, s8, s9, rfl, hsk⟩
    rw [List.getElem?_map] at hd
    obtain ⟨t, htk, rfl⟩ := Option.map_eq_some_iff.mp hd
    have hk : k < ts.length := (List.getElem?_eq_some_iff.mp htk).1
    have tT := ht t (List.mem_of_getElem? htk)
    have pi := PI.run hs ht k (by omega)
    have Z := pi.sizes hs tT (by omega)
    have e1 := pRw_take (sh := sh) htk
    have e2 := pS_take (sh := sh) htk
    rw [← hsk] at Z e1 e2
    obtain ⟨z1, z2, z3, z4, z5, z6, z7, z8, z9, z10, z11, z12⟩ := Z
    refine ⟨_, _, gd_name, ?_⟩
    have lm : ((pRw sh (ts.take k)).map p3D).length < sizeLine := by rw [List.length_map, pRw_len, List.length_take, sizeLine_eq]; omega
    show WS K S0 (tSeq _ (tSeq _ (tSeq _ (t_rowsT K)))) [.dat (.list (ts.map qp)), .dat (qp sh), .own ((pRw sh (ts.take k)).map p3D), .dat (qp s.1), .dat (qp s.2.1), .dat (qp s.2.2), .dat (qp t), s7, s8, s9] _
    have emp : (pRw sh (ts.take k)).map p3D ++ [p3D (prow sh s t)] = (pRw sh (ts.take (k + 1))).map p3D := by rw [e1, List.map_append]; rfl
    have en : ∀ (u7 u8 u9 : Sl), (fun k ρ => ∃ (s : P3) (s6 s7 s8 s9 : Sl), ρ = [Sl.dat (.list (ts.map qp)), .dat (qp sh), .own ((pRw sh (ts.take k)).map p3D), .dat (qp s.1), .dat (qp s.2.1), .dat (qp s.2.2), s6, s7, s8, s9] ∧ s = pS sh (ts.take k)) (k + 1) [Sl.dat (.list (ts.map qp)), .dat (qp sh), .own ((pRw sh (ts.take k)).map p3D ++ [p3D (prow sh s t)]), .dat (qp t), .dat (qp (s.2.1 + (t - s.1 - keptR sh (t - s.1) s.2.2))), .dat (qp (s.2.2 - keptR sh (t - s.1) s.2.2)), .dat (qp t), u7, u8, u9] := fun u7 u8 u9 =>
      ⟨pstep sh s t, _, _, _, _, by rw [emp]; rfl, e2.symm⟩
    walk_at "dl"
    refine if_b (fun h => ?_) (fun h => ?_)
    · have h' := le0.mp h
      have kp : keptR sh (t - s.1) s.2.2 = t - s.1 := if_pos h'
      walk_at "dl"
      rw [qp01]
      have e0 : (0 : Rat) = t - s.1 - keptR sh (t - s.1) s.2.2 := by rw [kp]; grind
      have e3 : s.2.2 - (t - s.1) = s.2.2 - keptR sh (t - s.1) s.2.2 := by rw [kp]
      rw [e0, e3]
      exact ws_rowsT z2 z10 lm (en _ _ _)
    · have h' : ¬ (t - s.1 ≤ 0) := fun z => h (le0.mpr z)
      have kp := kept_law (sh := sh) (d := s.2.2) h'
      walk_at "dl"
      by_cases q : s.2.2 < sh * (t - s.1)
      · rw [if_pos q] at kp
        rw [decide_eq_true q]
        walk_at "dl"
        have e4 : t - s.1 - s.2.2 = t - s.1 - keptR sh (t - s.1) s.2.2 := by rw [kp]
        have e5 : s.2.2 - s.2.2 = s.2.2 - keptR sh (t - s.1) s.2.2 := by rw [kp]
        rw [e4, e5]
        exact ws_rowsT z2 z10 lm (en _ _ _)
      · rw [if_neg q] at kp
        rw [decide_eq_false q]
        walk_at "dl"
        have e4 : t - s.1 - sh * (t - s.1) = t - s.1 - keptR sh (t - s.1) s.2.2 := by rw [kp]
        have e5 : s.2.2 - sh * (t - s.1) = s.2.2 - keptR sh (t - s.1) s.2.2 := by rw [kp]
        rw [e4, e5]
        exact ws_rowsT z2 z10 lm (en _ _ _)
  · rintro ρ2 ⟨s, s6, s7, s8, s9, rfl, hsk⟩
    rw [List.length_map, List.take_length]
    refine ws_frz (i := 2) rfl ?_
    walk_at "dl"
    exact hΦ
theorem ws_paysT {s0 s1 : Sl} {w : Bool} {fs : List PyData} {x s : P3} {u4 u7 u8 u9 : Sl} {En : DE} (hA : sz x.2.1 ≤ 1640) (hN : sz s.2.1 ≤ 1640) (hl : fs.length < sizeLine) (hn : En.nx [s0, s1, .dat (.bool w), .own (fs ++ [if w then w3D x s.2.1 else p3D x]), u4, .dat (qp x.2.1), .dat (qp x.2.2), u7, u8, u9, .dat (qp x.1), .dat (qp s.2.1)]) :
    WS K S0 (t_paysT K) [s0, s1, .dat (.bool w), .own fs, u4, .dat (qp x.2.1), .dat (qp x.2.2), u7, u8, u9, .dat (qp x.1), .dat (qp s.2.1)] En := by
  unfold t_paysT
  have wf : ∀ {ρ : Rho} {i : Nat} {q : Rat} {Φ : PyData → Rho → Prop}, ρ[i]? = some (.dat (qp q)) → sz q ≤ 1640 → Φ (.int q.floor) ρ → WD K S0 (tCall (spP K TFloorQ) [] E0 (tCons (tVar i) tNil)) ρ Φ := fun h1 h2 f => wd_call0 (wa_cons (wd_var h1 (wa_nil ⟨_, rfl, by omega, f⟩)))
  refine ws_if (wt_B (wd_var rfl ⟨_, rfl, ?_⟩))
  cases w
  · refine if_f ?_
    exact ws_append rfl (wd_tup (wa_cons (wd_var rfl (wa_cons (wd_var rfl (wa_cons (wd_var rfl (wa_nil ⟨Nat.le_of_ble_eq_true rfl, _, rfl, hl, hn⟩))))))))
  · refine if_t ?_
    exact ws_append rfl (wd_tup (wa_cons (wd_op (wf rfl hA (wf rfl hN (do_sub (wa_cons (wf rfl hA (wa_cons (wd_var rfl (wa_nil ⟨Nat.le_of_ble_eq_true rfl, _, rfl, hl, hn⟩)))))))))))
theorem ws_pays {a_ONE a_NOUGHT : Addr} (hO : ∀ H : Hp, SqT K H a_ONE [.int 1, .int 1]) (hN : ∀ H : Hp, SqT K H a_NOUGHT [.int 0, .int 1]) (h : TPays ds Φ) : WS K S0 (t_pays K a_ONE a_NOUGHT) (rhoOf 12 ds) { nx := fun _ => Φ .none, rt := fun d _ => Φ d } := by
  obtain ⟨b, w, ts, sh, R, rfl, hs, hl, ht, hΦ⟩ := h
  show WS K S0 (t_pays K a_ONE a_NOUGHT) [.dat (rowD b (ts.map qp)), .dat (qp sh), .dat (.bool w), .unk, .unk, .unk, .unk, .unk, .unk, .unk, .unk, .unk] _
  unfold t_pays
  have hz := hs.sz
  have n0 : 0 < sh.num := by
    have := Rat.num_nonneg.mpr (Rat.le_of_lt hs.pos)
    have := num0 (q := sh) (by have := hs.pos; grind)
    omega
  have wO : ∀ {ρ : Rho} {Φ : PyData → Rho → Prop}, Φ (qp 1) ρ → WD K S0 (tC (.ref a_ONE)) ρ Φ := fun f => wd_konst (fun H => Dt.part2 (hO H)) f
  have wN : ∀ {ρ : Rho} {Φ : PyData → Rho → Prop}, Φ (qp 0) ρ → WD K S0 (tC (.ref a_NOUGHT)) ρ Φ := fun f => wd_konst (fun H => Dt.part2 (hN H)) f
  have o1 : sz (1 : Rat) ≤ 2 := by rw [sz_one]; decide
  walk_at "dl"
  refine ⟨_, rfl, ?_⟩
  rw [isPartD_qp]
  walk_at "dl"
  refine if_b (fun _ => ?_) (fun h => absurd n0 h)
  walk_at "dl"
  refine wO ?_
  walk_at "dl"
  rw [decide_eq_false (Rat.not_lt.mpr hs.le)]
  walk_at "dl"
  refine ws_next ?_
  refine ws_seq (ws_own (wa_nil ⟨Nat.zero_le _, ?_⟩))
  refine ws_seq (ws_asg3 (wN ?_))
  refine ws_seq (ws_for (wi_rowD ⟨b, wd_var rfl ⟨_, rfl, fun k ρ => ∃ (s : P3) (s7 s8 s9 s10 s11 : Sl), ρ = [.dat (rowD b (ts.map qp)), .dat (qp sh), .dat (.bool w), .own (payD w sh (ts.take k)), .dat (qp s.1), .dat (qp s.2.1), .dat (qp s.2.2), s7, s8, s9, s10, s11] ∧ s = pS sh (ts.take k), ⟨(0, 0, 0), _, _, _, _, _, by unfold payD; cases w <;> rfl, rfl⟩, ?_, ?_⟩⟩))
  · rintro k x ρ2 hd ⟨s, s7, s8, s9, s10, s11, rfl, hsk⟩
    rw [List.getElem?_map] at hd
    obtain ⟨t, htk, rfl⟩ := Option.map_eq_some_iff.mp hd
    have hk : k < ts.length := (List.getElem?_eq_some_iff.mp htk).1
    have tT := ht t (List.mem_of_getElem? htk)
    have pi := PI.run hs ht k (by omega)
    have Z := pi.sizes hs tT (by omega)
    have e1 := pRw_take (sh := sh) htk
    have e1w := wRw_take (sh := sh) htk
    have e2 := pS_take (sh := sh) htk
    rw [← hsk] at Z e1 e1w e2
    obtain ⟨z1, z2, z3, z4, z5, z6, z7, z8, z9, z10, z11, z12⟩ := Z
    refine ⟨_, _, gd_name, ?_⟩
    show WS K S0 (tSeq _ (tSeq _ (tSeq _ (tSeq _ (tSeq _ (t_paysT K)))))) [.dat (rowD b (ts.map qp)), .dat (qp sh), .dat (.bool w), .own (payD w sh (ts.take k)), .dat (qp s.1), .dat (qp s.2.1), .dat (qp s.2.2), .dat (qp t), s8, s9, s10, s11] _
    have lm : (payD w sh (ts.take k)).length < sizeLine := by rw [payD_len, List.length_take, sizeLine_eq]; omega
    walk_at "dl"
    refine ⟨t - s.1, s.2.2, sh, rfl, by omega, by omega, by omega, by omega, ?_⟩
    walk_at "dl"
    refine ws_par3 ?_
    walk_at "dl"
    refine ⟨_, _, _, rfl, ?_⟩
    refine ws_paysT (s0 := .dat (rowD b (ts.map qp))) (s1 := .dat (qp sh)) (x := prow sh s t) (s := s) (fs := payD w sh (ts.take k)) (by exact z11) z2 lm ?_
    have ep : payD w sh (ts.take (k + 1)) = payD w sh (ts.take k) ++ [if w then w3D (prow sh s t) s.2.1 else p3D (prow sh s t)] := by
      unfold payD
      cases w
      · show (pRw sh _).map p3D = (pRw sh _).map p3D ++ [p3D _]
        rw [e1, List.map_append]; rfl
      · show wRw sh _ = wRw sh _ ++ [w3D _ _]
        rw [e1w]
    exact ⟨pstep sh s t, _, _, _, _, _, by rw [ep]; rfl, e2.symm⟩
  · rintro ρ2 ⟨s, s7, s8, s9, s10, s11, rfl, hsk⟩
    rw [List.length_map, List.take_length]
    refine ws_frz (i := 3) rfl ?_
    walk_at "dl"
    exact hΦ
end
end DL

set_option Elab.async false
set_option linter.all false
set_option maxRecDepth 100000
set_option maxHeartbeats 4000000
/-! DMA: equality of data -/
namespace DL
open PySem PySem.Spec PyProof.Rows L2
structure Sh (n : Nat) (d : PyData) : Prop where
  c : d.canLay0 = true
  d : d.depth ≤ n
theorem canAll_of : ∀ {xs : List PyData}, (∀ x ∈ xs, x.canLay0 = true) → PyData.canLayAll0 xs = true
  | [], _ => rfl
  | x :: xs, h => by
    show (x.canLay0 && PyData.canLayAll0 xs) = true
    rw [h x List.mem_cons_self, canAll_of fun y hy => h y (List.mem_cons_of_mem _ hy)]; rfl
theorem Sh.ok {n : Nat} {d : PyData} (h : Sh n d) (hn : n ≤ 64) : SeqAt.shaped d = true := by
  unfold SeqAt.shaped
  rw [h.c, decide_eq_true (Nat.le_trans h.d hn)]; rfl
theorem Sh.mono {n m : Nat} {d : PyData} (h : Sh n d) (hn : n ≤ m) : Sh m d := ⟨h.c, Nat.le_trans h.d hn⟩
theorem Sh.int {i : Int} : Sh 0 (.int i) := ⟨rfl, Nat.le_refl _⟩
theorem Sh.bool {i : Bool} : Sh 0 (.bool i) := ⟨rfl, Nat.le_refl _⟩
theorem Sh.non : Sh 0 .none := ⟨rfl, Nat.le_refl _⟩
theorem Sh.lst {n : Nat} {xs : List PyData} (h : ∀ x ∈ xs, Sh n x) : Sh (n + 1) (.list xs) := ⟨canAll_of fun x hx => (h x hx).c, by
  show PyData.depthAll xs + 1 ≤ n + 1
  have := depthAll_of xs fun x hx => (h x hx).d
  omega⟩
theorem Sh.tup {n : Nat} {xs : List PyData} (h : ∀ x ∈ xs, Sh n x) : Sh (n + 1) (.tuple xs) := ⟨canAll_of fun x hx => (h x hx).c, by
  show PyData.depthAll xs + 1 ≤ n + 1
  have := depthAll_of xs fun x hx => (h x hx).d
  omega⟩
mutual
theorem eqv_rfl : ∀ (d : PyData), d.canLay0 = true → PyData.eqv d d = true
  | .none, _ => rfl
  | .bool b, _ => by unfold PyData.eqv; simp
  | .int i, _ => by unfold PyData.eqv; simp
  | .str s, _ => by unfold PyData.eqv; simp
  | .list xs, h => by unfold PyData.eqv; exact eqvAll_rfl xs (by rw [PyData.canLay0] at h; exact h)
  | .tuple xs, h => by unfold PyData.eqv; exact eqvAll_rfl xs (by rw [PyData.canLay0] at h; exact h)
  | .dict _, h => by rw [PyData.canLay0] at h; cases h
theorem eqvAll_rfl : ∀ (ds : List PyData), PyData.canLayAll0 ds = true → PyData.eqvAll ds ds = true
  | [], _ => rfl
  | x :: xs, h => by
    rw [PyData.canLayAll0, Bool.and_eq_true] at h
    unfold PyData.eqvAll
    rw [eqv_rfl x h.1, eqvAll_rfl xs h.2]; rfl
end
mutual
/-- no truth within -/
def noB : PyData → Bool
  | .bool _ => false
  | .list xs => noBAll xs
  | .tuple xs => noBAll xs
  | .dict _ => false
  | _ => true
def noBAll : List PyData → Bool
  | [] => true
  | x :: xs => noB x && noBAll xs
end
mutual
theorem eqv_eq : ∀ (d e : PyData), noB d = true → noB e = true → PyData.eqv d e = true → d = e
  | .none, e, _, _, h => by cases e <;> first | rfl | (unfold PyData.eqv at h; cases h)
  | .bool b, e, h1, _, h => by rw [noB] at h1; cases h1
  | .int i, e, _, h2, h => by
    cases e <;> first | (rw [noB] at h2; cases h2; done) | (unfold PyData.eqv at h; first | cases h; done | (rw [beq_iff_eq] at h; rw [h]))
  | .str s, e, _, h2, h => by
    cases e <;> first | (rw [noB] at h2; cases h2; done) | (unfold PyData.eqv at h; first | cases h; done | (rw [beq_iff_eq] at h; rw [h]))
  | .list xs, e, h1, h2, h => by
    cases e <;> first | (unfold PyData.eqv at h; cases h; done) | skip
    rename_i ys
    unfold PyData.eqv at h
    rw [noB] at h1 h2
    rw [eqvAll_eq xs ys h1 h2 h]
  | .tuple xs, e, h1, h2, h => by
    cases e <;> first | (unfold PyData.eqv at h; cases h; done) | skip
    rename_i ys
    unfold PyData.eqv at h
    rw [noB] at h1 h2
    rw [eqvAll_eq xs ys h1 h2 h]
  | .dict _, e, h1, _, h => by rw [noB] at h1; cases h1
theorem eqvAll_eq : ∀ (ds es : List PyData), noBAll ds = true → noBAll es = true → PyData.eqvAll ds es = true → ds = es
  | [], [], _, _, _ => rfl
  | [], y :: ys, _, _, h => by unfold PyData.eqvAll at h; cases h
  | x :: xs, [], _, _, h => by unfold PyData.eqvAll at h; cases h
  | x :: xs, y :: ys, h1, h2, h => by
    unfold PyData.eqvAll at h
    rw [noBAll, Bool.and_eq_true] at h1 h2
    rw [Bool.and_eq_true] at h
    rw [eqv_eq x y h1.1 h2.1 h.1, eqvAll_eq xs ys h1.2 h2.2 h.2]
end
theorem noBAll_of : ∀ {xs : List PyData}, (∀ x ∈ xs, noB x = true) → noBAll xs = true
  | [], _ => by rw [noBAll]
  | x :: xs, h => by
    rw [noBAll, h x List.mem_cons_self, noBAll_of fun y hy => h y (List.mem_cons_of_mem _ hy)]; rfl
section
variable {K : PySem.W.Frag} {Ψ : PyData → Prop}
/-- alike data -/
theorem do_eqS {n : Nat} {d : PyData} (h : Sh n d) (hn : n ≤ 64) (f : Ψ (.bool true)) : DO K (rEqD K) d d Ψ := do_eqD (h.ok hn) (h.ok hn) (by rw [eqv_rfl d h.c]; exact f)
theorem do_neS {n : Nat} {d : PyData} (h : Sh n d) (hn : n ≤ 64) (f : Ψ (.bool false)) : DO K (rNeD K) d d Ψ := do_neD (h.ok hn) (h.ok hn) (by rw [eqv_rfl d h.c]; exact f)
/-- unlike data without truths -/
theorem do_eqU {n m : Nat} {d e : PyData} (h : Sh n d) (g : Sh m e) (hn : n ≤ 64) (hm : m ≤ 64) (h1 : noB d = true) (h2 : noB e = true) (f : ∀ b : Bool, (b = true ↔ d = e) → Ψ (.bool b)) : DO K (rEqD K) d e Ψ :=
  do_eqD (h.ok hn) (g.ok hm) (f _ ⟨eqv_eq d e h1 h2, fun z => by subst z; exact eqv_rfl d h.c⟩)
theorem do_neU {n m : Nat} {d e : PyData} (h : Sh n d) (g : Sh m e) (hn : n ≤ 64) (hm : m ≤ 64) (h1 : noB d = true) (h2 : noB e = true) (f : ∀ b : Bool, (b = true ↔ d ≠ e) → Ψ (.bool b)) : DO K (rNeD K) d e Ψ :=
  do_neD (h.ok hn) (g.ok hm) (f _ (by
    rw [Bool.not_eq_true']
    constructor
    · intro z e'
      subst e'
      rw [eqv_rfl d h.c] at z; cases z
    · intro z
      cases q : PyData.eqv d e with
      | false => rfl
      | true => exact absurd (eqv_eq d e h1 h2 q) z))
end
end DL

set_option Elab.async false
set_option linter.all false
set_option maxRecDepth 100000
set_option maxHeartbeats 4000000
/-! PQ3: law k43 -/
namespace DL
open PySem PySem.Spec PyProof.Rows L2
def gVps : List V → List V → List V := fun us ws => us ++ ws ++ [.bl false]
def gVws : List V → List V → List V := fun us ws => us ++ ws.reverse
def gVt (aO : Addr) : List V → List V → List V := fun us ws => ws ++ [.ref aO, .bl false]
def gDps : List PyData → List PyData → List PyData := fun us ws => us ++ ws ++ [.bool false]
def gDws : List PyData → List PyData → List PyData := fun us ws => us ++ ws.reverse
def gDt : List PyData → List PyData → List PyData := fun us ws => ws ++ [qp 1, .bool false]
/-! ### sizes of rows -/
theorem pRwF_get {sh : Rat} : ∀ {ts : List Rat} {s : P3} {k : Nat}, (pRwF sh s ts)[k]? = ts[k]?.map fun t => prow sh ((ts.take k).foldl (pstep sh) s) t
  | [], s, k => rfl
  | u :: r, s, 0 => rfl
  | u :: r, s, k + 1 => by
    show (pRwF sh (pstep sh s u) r)[k]? = r[k]?.map _
    rw [pRwF_get]; rfl
theorem pRw_get {sh : Rat} {ts : List Rat} {k : Nat} : (pRw sh ts)[k]? = ts[k]?.map fun t => prow sh (pS sh (ts.take k)) t := pRwF_get
structure P3S (x : P3) : Prop where
  a : sz x.1 ≤ 1640
  b : sz x.2.1 ≤ 1640
  c : sz x.2.2 ≤ 1640
theorem pRw_sz {R : Nat} {sh : Rat} (g : ShOk R sh) {ts : List Rat} (ht : ∀ t ∈ ts, Tot t) (hl : ts.length ≤ 200) {x : P3} (h : x ∈ pRw sh ts) : P3S x := by
  obtain ⟨k, hk⟩ := List.mem_iff_getElem?.mp h
  rw [pRw_get] at hk
  obtain ⟨t, htk, rfl⟩ := Option.map_eq_some_iff.mp hk
  have hk' : k < ts.length := (List.getElem?_eq_some_iff.mp htk).1
  have Z := (PI.run g ht k (by omega)).sizes g (ht t (List.mem_of_getElem? htk)) (by omega)
  exact ⟨Z.now, Z.all2, Z.debt2⟩
theorem Rs.p3 {x : P3} (h : P3S x) : Rs (5 + 3 * 3293) 2 (p3D x) := by
  refine Rs.tup (xs := [DL.qp x.1, DL.qp x.2.1, DL.qp x.2.2]) (L := 3291) (D := 1) (n := 3) (fun y hy => ?_) (Nat.le_refl 3)
  simp only [List.mem_cons, List.not_mem_nil, or_false] at hy
  rcases hy with rfl | rfl | rfl
  · exact Rs.qp (k := 1640) h.a (by decide)
  · exact Rs.qp (k := 1640) h.b (by decide)
  · exact Rs.qp (k := 1640) h.c (by decide)
def rwD (sh : Rat) (ts : List Rat) : PyData := .tuple ((pRw sh ts).map p3D)
theorem Rs.rw {R : Nat} {sh : Rat} (g : ShOk R sh) {ts : List Rat} (ht : ∀ t ∈ ts, Tot t) (hl : ts.length ≤ 130) : Rs 1300000 3 (rwD sh ts) := by
  refine (Rs.tup (L := 5 + 3 * 3293) (D := 2) (n := 130) (fun y hy => ?_) (by rw [List.length_map, pRw_len]; exact hl)).mono (by decide) (Nat.le_refl _)
  obtain ⟨x, hx, rfl⟩ := List.mem_map.mp hy
  exact Rs.p3 (pRw_sz g ht (by omega) hx)
theorem Sh.qp {q : Rat} : Sh 1 (qp q) := Sh.tup fun x hx => by
  simp only [List.mem_cons, List.not_mem_nil, or_false] at hx
  rcases hx with rfl | rfl <;> exact Sh.int
theorem Sh.qs {ts : List Rat} : Sh 2 (.list (ts.map DL.qp)) := Sh.lst fun x hx => by
  obtain ⟨q, _, rfl⟩ := List.mem_map.mp hx
  exact Sh.qp
theorem Sh.p3 {x : P3} : Sh 2 (p3D x) := Sh.tup fun y hy => by
  simp only [List.mem_cons, List.not_mem_nil, or_false] at hy
  rcases hy with rfl | rfl | rfl <;> exact Sh.qp
theorem Sh.rw {sh : Rat} {ts : List Rat} : Sh 3 (rwD sh ts) := Sh.tup fun x hx => by
  obtain ⟨q, _, rfl⟩ := List.mem_map.mp hx
  exact Sh.p3
def EldOk (e : PyData) : Prop := e = .list [] ∨ ∃ (ts : List Rat) (sh : Rat) (R : Nat), e = .list [.list (ts.map qp), qp sh, rwD sh ts] ∧ ShOk R sh ∧ ts.length ≤ 130 ∧ ∀ t ∈ ts, Tot t
local macro_rules | `(tactic| walk_at "dl") => `(tactic| repeat' (first
  | with_reducible refine wd_isTy ?_ | with_reducible refine wd_isi ?_ | ((with_reducible show WD _ _ (tOp (rIxL _) (tVar _) _) _ _); refine wd_ix_own rfl ?_) | with_reducible refine wd_op ?_ | ((with_reducible show WD _ _ (tCB (rLenX _) (tCons (tVar _) tNil)) _ _); refine wd_len_scr rfl ?_) | ((with_reducible show WD _ _ (tCB (rLenX _) (tCons (tVar _) tNil)) _ _); refine wd_len_own rfl ?_) | with_reducible refine wd_cb ?_ | with_reducible refine wd_un ?_ | with_reducible refine wa_cons ?_ | with_reducible refine wa_nil ?_ | ((with_reducible show WD _ _ (tVar _) _ _); refine wd_var rfl ?_) | with_reducible refine wd_int ?_ | with_reducible refine wd_bl ?_ | with_reducible refine wd_str ?_ | with_reducible refine wd_non ?_
  | with_reducible refine do_nesS ?_ | with_reducible refine dc_intB ?_ | with_reducible refine do_add ?_ | with_reducible refine do_sub ?_ | ((with_reducible refine do_mod ?_ ?_); decide) | with_reducible refine do_mod ?_ ?_ | with_reducible refine do_mul ?_ ?_ | ((with_reducible refine do_div ?_ ?_); exact ⟨by decide, by decide⟩) | with_reducible refine do_div ?_ ?_ | ((with_reducible refine do_pow ?_ ?_); exact ⟨by decide, by decide, by decide⟩) | with_reducible refine do_pow ?_ ?_
  | with_reducible refine do_lt ?_ | with_reducible refine do_le ?_ | with_reducible refine do_gt ?_ | with_reducible refine do_ge ?_ | with_reducible refine du_neg ?_
  | with_reducible refine do_eqi ?_ | with_reducible refine do_nei ?_ | with_reducible refine do_eqs ?_ | with_reducible refine do_nes ?_ | with_reducible refine dc_abs ?_ | with_reducible refine dc_min ?_ | with_reducible refine dc_max ?_ | with_reducible refine dc_lenL ?_ | with_reducible refine dc_lenT ?_ | with_reducible refine dc_lenR ?_ | with_reducible refine dc_listT ?_ | with_reducible refine dc_listL ?_ | with_reducible refine dc_tupL ?_ | with_reducible refine dc_gcd ?_
  | ((with_reducible show DO _ (rIxT _) _ _ _); refine do_ixT rfl ?_) | ((with_reducible show DO _ (rIxL _) _ _ _); refine do_ixL rfl ?_) | ((with_reducible refine do_catL ?_ ?_); exact Nat.le_of_ble_eq_true rfl) | with_reducible refine do_catL ?_ ?_ | ((with_reducible show And (List.length _ ≤ sizeLine) _); refine ⟨Nat.le_of_ble_eq_true rfl, ?_⟩)
  | with_reducible refine wd_dnew ?_ | with_reducible refine wd_call0 ?_ | with_reducible refine wd_slA ?_ | with_reducible refine wd_slL ?_ | with_reducible refine wd_revT ?_ | with_reducible refine do_catA ?_ ?_ | with_reducible refine wo_part ?_ | with_reducible refine wo_none ?_ | with_reducible refine do_eqQ ?_ | with_reducible refine do_neQ ?_ | with_reducible refine wi_enumT ?_ | with_reducible refine wi_enumD ?_ | with_reducible refine tAdQ (by omega) (by omega) ?_ | with_reducible refine tSbQ (by omega) (by omega) ?_ | with_reducible refine tMlQ (by omega) (by omega) ?_ | with_reducible refine tDvQ (by assumption) (by omega) (by omega) ?_ | with_reducible refine tLtQ (by omega) (by omega) ?_ | with_reducible refine dc_str ?_ ?_ | with_reducible refine wd_tup ?_ | with_reducible refine wd_lst ?_ | with_reducible refine wt_test ?_ | with_reducible refine wt_B ?_ | with_reducible refine wt_not ?_ | with_reducible refine wt_and ?_ | with_reducible refine wt_or ?_ | with_reducible refine wd_ifE ?_ | with_reducible refine wd_andV ?_ | with_reducible refine wd_orV ?_ | with_reducible refine wd_notV ?_
  | with_reducible refine ws_seq ?_ | with_reducible refine ws_next ?_ | with_reducible refine ws_asg ?_ | with_reducible refine ws_ret ?_ | with_reducible refine ws_retN ?_ | with_reducible refine ws_if ?_ | with_reducible refine ws_par ?_ | with_reducible refine ws_unp2 ?_
  | with_reducible refine if_t ?_ | with_reducible refine if_f ?_ | with_reducible refine if_nf ?_ | with_reducible refine if_nt ?_
  | ((with_reducible show Exists _); first | refine ⟨_, kitInt _, ?_⟩ | refine ⟨_, kitBool _, ?_⟩ | refine ⟨_, kitTup _, ?_⟩ | refine ⟨_, kitList _, ?_⟩ | refine ⟨_, rfl, ?_⟩ | refine ⟨_, _, rfl, ?_⟩ | fail) | fail))
def t_b43 (K : PySem.W.Frag) (aO : Addr) : TS :=
  (tSeq (tAsg (tCall (spS K FSto TShareQ) [] E0 (tCons (tVar 1) tNil)) (gName 5))
    (tSeq (tAsg (tOp (rIxL K) (tLst (tCons (tVar 4) (tCons (tCB (rTupOf K) (tCons (tVar 4) tNil)) tNil))) (tCall (spS K FSto TDr) [] E0 (tCons (tVar 1) (tCons (tC (.int 2)) tNil)))) (gName 6))
    (tSeq (tAsg (tCall (spP K TRows) [] E0 (tCons (tVar 4) (tCons (tVar 5) tNil))) (gName 7))
    (tSeq (tAsg (tCall (spP K TRows) [] E0 (tCons (tVar 4) (tCons (tTup (tCons (tC (.int 1)) (tCons (tC (.int 1)) tNil))) tNil))) (gName 8))
    (tSeq (tAsg (tLst (tCons (tCallN 1 1 (spP K TPays) gVps E0 (tCons (tVar 6) tNil) (tCons (tVar 5) tNil)) (tCons (tCallN 1 2 (spP K TPays) gVws E0 (tCons (tVar 6) tNil) (tCons (tC (.bl false)) (tCons (tVar 5) tNil))) (tCons (tCall (spP K TPays) [.ref aO, .bl false] E0 (tCons (tVar 6) tNil)) tNil)))) (gName 9))
    (tSeq (tIfS (tOr (tTest (tOp rNe (tCB (rReprZ K) (tCons (tVar 9) tNil)) (tCB (rReprZ K) (tCons (tLst (tCons (tVar 7) (tCons (tVar 7) (tCons (tVar 8) tNil)))) tNil)))) (tTest (tOp (rNeD K) (tCB (rListOf K) (tCons (tVar 6) tNil)) (tVar 4)))) (tRet (tC (.bl false))) tNext)
    (tSeq (tIfS (tTest (tOp rNe (tCB (rReprZ K) (tCons (tLst (tCons (tCallN 1 1 (spP K TPays) gVps E0 (tCons (tVar 4) tNil) (tCons (tTup (tCons (tC (.int 1)) (tCons (tC (.int 1)) tNil))) tNil)) (tCons (tCallN 0 1 (spP K TPays) (gVt aO) E0 tNil (tCons (tVar 6) tNil)) tNil))) tNil)) (tCB (rReprZ K) (tCons (tLst (tCons (tVar 8) (tCons (tVar 8) tNil))) tNil)))) (tRet (tC (.bl false))) tNext)
    (tSeq (tIfS (tAnd (tTest (tOp (rNeD K) (tVar 2) (tLst tNil))) (tTest (tOp (rNeD K) (tCallN 1 1 (spP K TPays) gVps E0 (tCons (tOp (rIxL K) (tVar 2) (tC (.int 0))) tNil) (tCons (tOp (rIxL K) (tVar 2) (tC (.int 1))) tNil)) (tOp (rIxL K) (tVar 2) (tC (.int 2)))))) (tRet (tC (.bl false))) tNext)
    (tAsg (tLst (tCons (tVar 4) (tCons (tVar 5) (tCons (tVar 7) tNil)))) (gName 2))))))))))
def t_law43 (K : PySem.W.Frag) (aO : Addr) : TS :=
  (tSeq (tAsg (tLst tNil) (gName 2))
    (tSeq (tFor (iRng1 (tCons (tOp rAddI (tC (.int 6)) (tCB rMinX (tCons (tC (.int 14)) (tCons (tCB (rLenX K) (tCons (tVar 0) tNil)) tNil)))) tNil)) (gName 3) (tSeq (tAsg (tCall (spS K FSto TTotals) [] E0 (tCons (tVar 1) (tCons (tIf (tTest (tOp rEq (tVar 3) (tC (.int 0)))) (tC (.int 120)) (tC (.int 40))) tNil))) (gName 4))
    (tSeq (tAsg (tCall (spS K FSto TShareQ) [] E0 (tCons (tVar 1) tNil)) (gName 5))
    (tSeq (tAsg (tOp (rIxL K) (tLst (tCons (tVar 4) (tCons (tCB (rTupOf K) (tCons (tVar 4) tNil)) tNil))) (tCall (spS K FSto TDr) [] E0 (tCons (tVar 1) (tCons (tC (.int 2)) tNil)))) (gName 6))
    (tSeq (tAsg (tCall (spP K TRows) [] E0 (tCons (tVar 4) (tCons (tVar 5) tNil))) (gName 7))
    (tSeq (tAsg (tCall (spP K TRows) [] E0 (tCons (tVar 4) (tCons (tTup (tCons (tC (.int 1)) (tCons (tC (.int 1)) tNil))) tNil))) (gName 8))
    (tSeq (tAsg (tLst (tCons (tCallN 1 1 (spP K TPays) gVps E0 (tCons (tVar 6) tNil) (tCons (tVar 5) tNil)) (tCons (tCallN 1 2 (spP K TPays) gVws E0 (tCons (tVar 6) tNil) (tCons (tC (.bl false)) (tCons (tVar 5) tNil))) (tCons (tCall (spP K TPays) [.ref aO, .bl false] E0 (tCons (tVar 6) tNil)) tNil)))) (gName 9))
    (tSeq (tIfS (tOr (tTest (tOp rNe (tCB (rReprZ K) (tCons (tVar 9) tNil)) (tCB (rReprZ K) (tCons (tLst (tCons (tVar 7) (tCons (tVar 7) (tCons (tVar 8) tNil)))) tNil)))) (tTest (tOp (rNeD K) (tCB (rListOf K) (tCons (tVar 6) tNil)) (tVar 4)))) (tRet (tC (.bl false))) tNext)
    (tSeq (tIfS (tTest (tOp rNe (tCB (rReprZ K) (tCons (tLst (tCons (tCallN 1 1 (spP K TPays) gVps E0 (tCons (tVar 4) tNil) (tCons (tTup (tCons (tC (.int 1)) (tCons (tC (.int 1)) tNil))) tNil)) (tCons (tCallN 0 1 (spP K TPays) (gVt aO) E0 tNil (tCons (tVar 6) tNil)) tNil))) tNil)) (tCB (rReprZ K) (tCons (tLst (tCons (tVar 8) (tCons (tVar 8) tNil))) tNil)))) (tRet (tC (.bl false))) tNext)
    (tSeq (tIfS (tAnd (tTest (tOp (rNeD K) (tVar 2) (tLst tNil))) (tTest (tOp (rNeD K) (tCallN 1 1 (spP K TPays) gVps E0 (tCons (tOp (rIxL K) (tVar 2) (tC (.int 0))) tNil) (tCons (tOp (rIxL K) (tVar 2) (tC (.int 1))) tNil)) (tOp (rIxL K) (tVar 2) (tC (.int 2)))))) (tRet (tC (.bl false))) tNext)
    (tAsg (tLst (tCons (tVar 4) (tCons (tVar 5) (tCons (tVar 7) tNil)))) (gName 2))))))))))))
    (tRet (tOp (rEqD K) (tCall (spP K TPays) [.ref aO, .bl false] E0 (tCons (tLst tNil) tNil)) (tTup tNil)))))
section
variable {K : PySem.W.Frag} {S : Stt} {ρ : Rho} {Φ : PyData → Rho → Prop}
theorem dt1 {aO : Addr} (hO : ∀ H : Hp, SqT K H aO [.int 1, .int 1]) (H : Hp) : DtAll K H [V.ref aO, V.bl false] [qp 1, .bool false] := .cons (Dt.part2 (hO H)) (.cons (.bl false) .nil)
theorem wd_payS {te tk : TE} (h : WD K S te ρ fun r ρ1 => WD K S tk ρ1 fun s ρ2 => ∃ (b : Bool) (ts : List Rat) (sh : Rat) (R : Nat), r = rowD b (ts.map qp) ∧ s = qp sh ∧ ShOk R sh ∧ ts.length ≤ 130 ∧ (∀ t ∈ ts, Tot t) ∧ Φ (rwD sh ts) ρ2) : WD K S (tCallN 1 1 (spP K TPays) gVps E0 (tCons te tNil) (tCons tk tNil)) ρ Φ :=
  wd_callN (gD := gDps) (fun _ _ _ _ _ _ h1 h2 => (h1.append h2).append (.cons (.bl false) .nil)) (wa_cons (h.imp fun r ρ1 h => wa_nil (wa_cons (h.imp fun s ρ2 ⟨b, ts, sh, R, e1, e2, g, hl, ht, f⟩ => wa_nil ⟨rfl, rfl, b, false, ts, sh, R, by rw [e1, e2]; rfl, g, hl, ht, f⟩))))
theorem wd_payWS {te tk : TE} (h : WD K S te ρ fun r ρ1 => WD K S tk ρ1 fun s ρ2 => ∃ (b : Bool) (ts : List Rat) (sh : Rat) (R : Nat), r = rowD b (ts.map qp) ∧ s = qp sh ∧ ShOk R sh ∧ ts.length ≤ 130 ∧ (∀ t ∈ ts, Tot t) ∧ Φ (rwD sh ts) ρ2) : WD K S (tCallN 1 2 (spP K TPays) gVws E0 (tCons te tNil) (tCons (tC (.bl false)) (tCons tk tNil))) ρ Φ :=
  wd_callN (gD := gDws) (fun _ _ _ _ _ _ h1 h2 => h1.append (dq_rev h2)) (wa_cons (h.imp fun r ρ1 h => wa_nil (wa_cons (wd_bl (wa_cons (h.imp fun s ρ2 ⟨b, ts, sh, R, e1, e2, g, hl, ht, f⟩ => wa_nil ⟨rfl, rfl, b, false, ts, sh, R, by rw [e1, e2]; rfl, g, hl, ht, f⟩))))))
theorem wd_pay0 {aO : Addr} (hO : ∀ H : Hp, SqT K H aO [.int 1, .int 1]) {te : TE} (h : WD K S te ρ fun r ρ1 => ∃ (b : Bool) (ts : List Rat), r = rowD b (ts.map qp) ∧ ts.length ≤ 130 ∧ (∀ t ∈ ts, Tot t) ∧ Φ (rwD 1 ts) ρ1) : WD K S (tCall (spP K TPays) [.ref aO, .bl false] E0 (tCons te tNil)) ρ Φ :=
  wd_call (dds := [qp 1, .bool false]) (dt1 hO) (wa_cons (h.imp fun r ρ1 ⟨b, ts, e1, hl, ht, f⟩ => wa_nil ⟨b, false, ts, 1, 1, by rw [e1]; rfl, ShOk.one, hl, ht, f⟩))
theorem wd_payT {aO : Addr} (hO : ∀ H : Hp, SqT K H aO [.int 1, .int 1]) {te : TE} (h : WD K S te ρ fun r ρ1 => ∃ (b : Bool) (ts : List Rat), r = rowD b (ts.map qp) ∧ ts.length ≤ 130 ∧ (∀ t ∈ ts, Tot t) ∧ Φ (rwD 1 ts) ρ1) : WD K S (tCallN 0 1 (spP K TPays) (gVt aO) E0 tNil (tCons te tNil)) ρ Φ :=
  wd_callN (gD := gDt) (fun _ _ _ _ _ _ h1 h2 => h2.append (dt1 hO _)) (wa_nil (wa_cons (h.imp fun r ρ1 ⟨b, ts, e1, hl, ht, f⟩ => wa_nil ⟨rfl, rfl, b, false, ts, 1, 1, by rw [e1]; rfl, ShOk.one, hl, ht, f⟩)))
theorem wd_rows {te tk : TE} (h : WD K S te ρ fun r ρ1 => WD K S tk ρ1 fun s ρ2 => ∃ (ts : List Rat) (sh : Rat) (R : Nat), r = .list (ts.map qp) ∧ s = qp sh ∧ ShOk R sh ∧ ts.length ≤ 130 ∧ (∀ t ∈ ts, Tot t) ∧ Φ (rwD sh ts) ρ2) : WD K S (tCall (spP K TRows) [] E0 (tCons te (tCons tk tNil))) ρ Φ :=
  wd_call0 (wa_cons (h.imp fun r ρ1 h => wa_cons (h.imp fun s ρ2 ⟨ts, sh, R, e1, e2, g, hl, ht, f⟩ => wa_nil ⟨ts, sh, R, by rw [e1, e2], g, hl, ht, f⟩)))
theorem dc_listR {b : Bool} {ds : List PyData} {Ψ : PyData → Prop} (h : Ψ (.list ds)) : DC K (rListOf K) [rowD b ds] Ψ := by
  cases b
  · exact dc_listT h
  · exact dc_listL h
theorem ws_b43 {ns : List Int} {aO : Addr} {B : Nat} {e : PyData} {kk : Int} {ts : List Rat} {En : DE} (hO : ∀ H : Hp, SqT K H aO [.int 1, .int 1]) (hF : FSto S) (hB : B + 2000 ≤ 2 ^ 40) (he : EldOk e) (hl : ts.length ≤ 130) (hT : ∀ t ∈ ts, Tot t)
    (hn : ∀ (sh : Rat) (R : Nat) (s6 s8 s9 : Sl), ShOk R sh → En.nx [.scr ns, .sto (B + 1600 + 400), .dat (.list [.list (ts.map qp), qp sh, rwD sh ts]), .dat (.int kk), .dat (.list (ts.map qp)), .dat (qp sh), s6, .dat (rwD sh ts), s8, s9]) :
    WS K S (t_b43 K aO) [.scr ns, .sto B, .dat e, .dat (.int kk), .dat (.list (ts.map qp)), .unk, .unk, .unk, .unk, .unk] En := by
  unfold t_b43
  have L : ∀ m : Int, m ≤ 1000000 → m ≤ 2 ^ 1899 := fun m hm => Int.le_trans hm big1899
  refine ws_seq (ws_asg (wd_callS hF rfl (wa_nil ⟨B, rfl, rfl, by omega, fun R sh hs => ?_⟩)))
  refine ws_seq (ws_asg (wd_op (wd_lst (wa_cons (wd_var rfl (wa_cons (wd_cb (wa_cons (wd_var rfl (wa_nil (dc_tupL (wa_nil ⟨Nat.le_of_ble_eq_true rfl, ?_⟩))))))))))))
  refine wd_drawc hF rfl (by decide) (L _ (by decide)) (by omega) fun z z0 z1 => ?_
  refine do_ixL_any z0 (by simp; omega) fun hd hhd => ?_
  obtain ⟨b, rfl⟩ : ∃ b, hd = rowD b (ts.map qp) := by
    simp only [List.mem_cons, List.not_mem_nil, or_false] at hhd
    rcases hhd with rfl | rfl
    · exact ⟨true, rfl⟩
    · exact ⟨false, rfl⟩
  refine ws_seq (ws_asg (wd_rows (wd_var rfl (wd_var rfl ⟨ts, sh, R, rfl, rfl, hs, hl, hT, ?_⟩))))
  refine ws_seq (ws_asg (wd_rows (wd_var rfl (wd_tup (wa_cons (wd_int (wa_cons (wd_int (wa_nil ⟨Nat.le_of_ble_eq_true rfl, ts, 1, 1, rfl, rfl, ShOk.one, hl, hT, ?_⟩)))))))))
  refine ws_seq (ws_asg (wd_lst (wa_cons (wd_payS (wd_var rfl (wd_var rfl ⟨b, ts, sh, R, rfl, rfl, hs, hl, hT, ?_⟩))))))
  refine wa_cons (wd_payWS (wd_var rfl (wd_var rfl ⟨b, ts, sh, R, rfl, rfl, hs, hl, hT, ?_⟩)))
  refine wa_cons (wd_pay0 hO (wd_var rfl ⟨b, ts, rfl, hl, hT, wa_nil ⟨Nat.le_of_ble_eq_true rfl, ?_⟩⟩))
  have r1 := Rs.rw hs hT hl
  have r2 := Rs.rw ShOk.one hT hl
  have s1 : Sh 3 (rwD sh ts) := Sh.rw
  have rl : ∀ {ds : List PyData}, ds.length ≤ 3 → (∀ d ∈ ds, d = rwD sh ts ∨ d = rwD 1 ts) → Rs (2 + 3 * 1300002) 4 (.list ds) := fun h1 h2 => Rs.lst (fun d hd => by
    rcases h2 d hd with rfl | rfl
    · exact r1
    · exact r2) h1
  have rr : ∀ {ds : List PyData} {Ψ : PyData → Prop}, ds.length ≤ 3 → (∀ d ∈ ds, d = rwD sh ts ∨ d = rwD 1 ts) → Ψ (.str (PyData.list ds).shown) → DC K (rReprZ K) [.list ds] Ψ := fun h1 h2 f => dc_reprZ (rl h1 h2) (by rw [sizeLine_eq]; decide) (by decide) f
  refine ws_seq (ws_if (wt_or (wt_test (wd_op (wd_cb (wa_cons (wd_var rfl (wa_nil (rr (Nat.le_of_ble_eq_true rfl) (by simp) ?_)))))))))
  refine wd_cb (wa_cons (wd_lst (wa_cons (wd_var rfl (wa_cons (wd_var rfl (wa_cons (wd_var rfl (wa_nil ⟨Nat.le_of_ble_eq_true rfl, wa_nil (rr (Nat.le_of_ble_eq_true rfl) (by simp) ?_)⟩)))))))))
  refine do_nesS ⟨false, rfl, ?_⟩
  refine if_f (wt_test (wd_op (wd_cb (wa_cons (wd_var rfl (wa_nil (dc_listR (wd_var rfl (do_neS Sh.qs (by decide) ⟨false, rfl, ?_⟩)))))))))
  refine if_f (ws_next ?_)
  refine ws_seq (ws_if (wt_test (wd_op (wd_cb (wa_cons (wd_lst (wa_cons (wd_payS (wd_var rfl (wd_tup (wa_cons (wd_int (wa_cons (wd_int (wa_nil ⟨Nat.le_of_ble_eq_true rfl, true, ts, 1, 1, rfl, rfl, ShOk.one, hl, hT, ?_⟩)))))))))))))))
  refine wa_cons (wd_payT hO (wd_var rfl ⟨b, ts, rfl, hl, hT, wa_nil ⟨Nat.le_of_ble_eq_true rfl, wa_nil (rr (Nat.le_of_ble_eq_true rfl) (by simp) ?_)⟩⟩))
  refine wd_cb (wa_cons (wd_lst (wa_cons (wd_var rfl (wa_cons (wd_var rfl (wa_nil ⟨Nat.le_of_ble_eq_true rfl, wa_nil (rr (Nat.le_of_ble_eq_true rfl) (by simp) ?_)⟩)))))))
  refine do_nesS ⟨false, rfl, ?_⟩
  refine if_f (ws_next ?_)
  have fin : ∀ {s6 s8 s9 : Sl}, WS K S (tAsg (tLst (tCons (tVar 4) (tCons (tVar 5) (tCons (tVar 7) tNil)))) (gName 2)) [.scr ns, .sto (B + 1600 + 400), .dat e, .dat (.int kk), .dat (.list (ts.map qp)), .dat (qp sh), s6, .dat (rwD sh ts), s8, s9] En := fun {s6 s8 s9} =>
    ws_asg (wd_lst (wa_cons (wd_var rfl (wa_cons (wd_var rfl (wa_cons (wd_var rfl (wa_nil ⟨Nat.le_of_ble_eq_true rfl, hn sh R _ _ _ hs⟩))))))))
  refine ws_seq (ws_if (wt_and (wt_test (wd_op (wd_var rfl (wd_lst (wa_nil ⟨Nat.zero_le _, ?_⟩)))))))
  rcases he with rfl | ⟨us, sh2, R2, rfl, g2, hl2, hT2⟩
  · refine do_neS (Sh.lst (n := 0) fun x hx => by cases hx) (by decide) ⟨false, rfl, ?_⟩
    refine if_f (if_f (ws_next fin))
  · refine do_neD ((Sh.lst (n := 3) fun x hx => ?_).ok (by decide)) (by decide) ⟨true, rfl, ?_⟩
    · simp only [List.mem_cons, List.not_mem_nil, or_false] at hx
      rcases hx with rfl | rfl | rfl
      · exact Sh.qs.mono (by decide)
      · exact Sh.qp.mono (by decide)
      · exact Sh.rw
    refine if_t (wt_test (wd_op (wd_payS (wd_op (wd_var rfl (wd_int (do_ixL rfl ?_)))))))
    refine wd_op (wd_var rfl (wd_int (do_ixL rfl ⟨true, us, sh2, R2, rfl, rfl, g2, hl2, hT2, ?_⟩)))
    refine wd_op (wd_var rfl (wd_int (do_ixL rfl (do_neS Sh.rw (by decide) ⟨false, rfl, ?_⟩))))
    exact if_f (ws_next fin)
theorem ws_law43 {ns : List Int} {aO : Addr} (hO : ∀ H : Hp, SqT K H aO [.int 1, .int 1]) (hF : FSto S) (hl : ns.length ≤ 63) : WS K S (t_law43 K aO) (.scr ns :: .sto 0 :: List.replicate 8 .unk) { nx := fun _ => False, rt := fun d _ => d = .bool true } := by
  show WS K S (t_law43 K aO) [.scr ns, .sto 0, .unk, .unk, .unk, .unk, .unk, .unk, .unk, .unk] _
  unfold t_law43
  have L : ∀ m : Int, m ≤ 1000000 → m ≤ 2 ^ 1899 := fun m hm => Int.le_trans hm big1899
  walk_at "dl"
  refine ws_for (wi_rng1 ?_)
  walk_at "dl"
  generalize hm : (6 + if (ns.length : Int) < 14 then (ns.length : Int) else 14) = many
  have hm2 : 0 ≤ many ∧ many ≤ 20 := by
    rw [← hm]; split <;> omega
  refine ⟨by omega, by omega, fun k ρ => ∃ (B : Nat) (e : PyData) (s3 s4 s5 s6 s7 s8 s9 : Sl), ρ = [.scr ns, .sto B, .dat e, s3, s4, s5, s6, s7, s8, s9] ∧ EldOk e ∧ B ≤ 2000000 * k, ⟨0, _, _, _, _, _, _, _, _, rfl, .inl rfl, by omega⟩, ?_, ?_⟩
  · rintro k d ρ2 hd ⟨B, e, s3, s4, s5, s6, s7, s8, s9, rfl, he, hB⟩
    have hk : k < 26 := by
      have := (List.getElem?_eq_some_iff.mp hd).1
      simp at this; omega
    refine ⟨_, _, gd_name, ws_wipe [4, 5, 6, 7, 8, 9] ?_⟩
    have hkd : ∃ kk : Int, d = .int kk := by
      obtain ⟨x, _, rfl⟩ := List.mem_map.mp (List.mem_of_getElem? hd)
      exact ⟨_, rfl⟩
    obtain ⟨kk, rfl⟩ := hkd
    show WS K S _ [.scr ns, .sto B, .dat e, .dat (.int kk), .unk, .unk, .unk, .unk, .unk, .unk] _
    refine ws_seq (ws_asg (wd_callS hF rfl (wa_cons ?_)))
    have fin : ∀ {En : DE} (ts : List Rat) (B2 : Nat), (∀ ρ, (∃ (B : Nat) (e : PyData) (s3 s4 s5 s6 s7 s8 s9 : Sl), ρ = [.scr ns, .sto B, .dat e, s3, s4, s5, s6, s7, s8, s9] ∧ EldOk e ∧ B ≤ 2000000 * (k + 1)) → En.nx ρ) → (ts.length : Int) ≤ 120 → (∀ t ∈ ts, Tot t) → B2 ≤ B + 1000000 → WS K S (t_b43 K aO) [.scr ns, .sto B2, .dat e, .dat (.int kk), .dat (.list (ts.map qp)), .unk, .unk, .unk, .unk, .unk] En := fun ts B2 hE hts hT hB2 =>
      ws_b43 hO hF (by omega) he (by omega) hT fun sh R s6 s8 s9 hs => hE _ ⟨_, _, _, _, _, _, _, _, _, rfl, .inr ⟨ts, sh, R, rfl, hs, by omega, hT⟩, by omega⟩
    walk_at "dl"
    refine if_b (fun _ => ?_) (fun _ => ?_)
    · refine wd_int (wa_nil ⟨B, rfl, _, rfl, by decide, by decide, by omega, fun ts B2 hts hT hB2 => ?_⟩)
      exact fin ts B2 (fun _ h => h) hts hT hB2
    · refine wd_int (wa_nil ⟨B, rfl, _, rfl, by decide, by decide, by omega, fun ts B2 hts hT hB2 => ?_⟩)
      exact fin ts B2 (fun _ h => h) hts hT hB2
  · rintro ρ2 ⟨B, e, s3, s4, s5, s6, s7, s8, s9, rfl, he, hB⟩
    refine ws_ret (wd_op (wd_pay0 hO (wd_lst (wa_nil ⟨Nat.zero_le _, true, [], rfl, by decide, ?_, wd_tup (wa_nil ⟨Nat.zero_le _, ?_⟩)⟩))))
    · intro t h; cases h
    · exact do_eqS (d := .tuple []) (Sh.tup (n := 0) fun x hx => by cases hx) (by decide) rfl
end
end DL

set_option Elab.async false
set_option linter.all false
set_option maxRecDepth 100000
set_option maxHeartbeats 4000000
/-! PQ4: law k45 -/
namespace DL
open PySem PySem.Spec PyProof.Rows L2
def gVsw (aO : Addr) : List V → List V → List V := fun us ws => us ++ [.ref aO] ++ ws
def gDsw : List PyData → List PyData → List PyData := fun us ws => us ++ [qp 1] ++ ws
theorem wRwF_get {sh : Rat} : ∀ {ts : List Rat} {s : P3} {k : Nat}, (wRwF sh s ts)[k]? = ts[k]?.map fun t => w3D (prow sh ((ts.take k).foldl (pstep sh) s) t) ((ts.take k).foldl (pstep sh) s).2.1
  | [], s, k => rfl
  | u :: r, s, 0 => rfl
  | u :: r, s, k + 1 => by
    show (wRwF sh (pstep sh s u) r)[k]? = r[k]?.map _
    rw [wRwF_get]; rfl
theorem wRw_get {sh : Rat} {ts : List Rat} {k : Nat} : (wRw sh ts)[k]? = ts[k]?.map fun t => w3D (prow sh (pS sh (ts.take k)) t) (pS sh (ts.take k)).2.1 := wRwF_get
/-- so many pence paid in all behind k totals -/
def pF (sh : Rat) (ts : List Rat) (k : Nat) : Int := (pS sh (ts.take k)).2.1.floor
theorem wRw_at {sh : Rat} {ts : List Rat} {k : Nat} {d : PyData} (h : (wRw sh ts)[k]? = some d) : k < ts.length ∧ ∃ q, d = .tuple [.int (pF sh ts (k + 1) - pF sh ts k), .int (pF sh ts (k + 1)), q] := by
  rw [wRw_get] at h
  obtain ⟨t, ht, rfl⟩ := Option.map_eq_some_iff.mp h
  have hk : k < ts.length := (List.getElem?_eq_some_iff.mp ht).1
  refine ⟨hk, qp (prow sh (pS sh (ts.take k)) t).2.2, ?_⟩
  unfold pF
  rw [pS_take ht]; rfl
theorem now_nn {R k : Nat} {sh t : Rat} {s : P3} (h : PI R k s) (g : ShOk R sh) : s.2.1 ≤ (pstep sh s t).2.1 := by
  show s.2.1 ≤ s.2.1 + (t - s.1 - keptR sh (t - s.1) s.2.2)
  have d0 := h.d0
  have : 0 ≤ t - s.1 - keptR sh (t - s.1) s.2.2 := by
    unfold keptR
    split
    · grind
    · rename_i hn
      have hn' : 0 < t - s.1 := by grind
      have h1 := g.le
      have h2 := Rat.mul_le_mul_of_nonneg_right h1 (Rat.le_of_lt hn')
      split <;> grind
  grind
theorem pF_mono {R k : Nat} {sh : Rat} (g : ShOk R sh) {ts : List Rat} (ht : ∀ t ∈ ts, Tot t) (hk : k < ts.length) : pF sh ts k ≤ pF sh ts (k + 1) := by
  unfold pF
  rw [pS_take (List.getElem?_eq_getElem hk)]
  exact Rat.floor_monotone (now_nn (PI.run g ht k (by omega)) g)
theorem pF_zero {sh : Rat} {ts : List Rat} : pF sh ts 0 = 0 := by
  unfold pF; rw [List.take_zero]; rfl
def wwD (sh : Rat) (ts : List Rat) : PyData := .tuple (wRw sh ts)
def TDue : List PyData → (PyData → Prop) → Prop := fun ds Φ => ∃ (ts : List Rat) (sh : Rat) (R : Nat), ds = [rwD sh ts] ∧ ShOk R sh ∧ ts.length ≤ 130 ∧ (∀ t ∈ ts, Tot t) ∧ Φ (wwD sh ts)
theorem floor_num (q : Rat) (h : sz q ≤ 3800) : q.num.fdiv (q.den : Int) = q.floor := by
  rw [Rat.floor_def, Int.fdiv_eq_ediv_of_nonneg _ (by omega)]
local macro_rules | `(tactic| walk_at "dl") => `(tactic| repeat' (first
  | with_reducible refine wd_isTy ?_ | with_reducible refine wd_isi ?_ | ((with_reducible show WD _ _ (tOp (rIxL _) (tVar _) _) _ _); refine wd_ix_own rfl ?_) | with_reducible refine wd_op ?_ | ((with_reducible show WD _ _ (tCB (rLenX _) (tCons (tVar _) tNil)) _ _); refine wd_len_scr rfl ?_) | ((with_reducible show WD _ _ (tCB (rLenX _) (tCons (tVar _) tNil)) _ _); refine wd_len_own rfl ?_) | with_reducible refine wd_cb ?_ | with_reducible refine wd_un ?_ | with_reducible refine wa_cons ?_ | with_reducible refine wa_nil ?_ | ((with_reducible show WD _ _ (tVar _) _ _); refine wd_var rfl ?_) | with_reducible refine wd_int ?_ | with_reducible refine wd_bl ?_ | with_reducible refine wd_str ?_ | with_reducible refine wd_non ?_
  | with_reducible refine do_nesS ?_ | with_reducible refine dc_intB ?_ | with_reducible refine do_add ?_ | with_reducible refine do_sub ?_ | ((with_reducible refine do_mod ?_ ?_); decide) | with_reducible refine do_mod ?_ ?_ | with_reducible refine do_mul ?_ ?_ | ((with_reducible refine do_div ?_ ?_); exact ⟨by decide, by decide⟩) | with_reducible refine do_div ?_ ?_ | ((with_reducible refine do_pow ?_ ?_); exact ⟨by decide, by decide, by decide⟩) | with_reducible refine do_pow ?_ ?_
  | with_reducible refine do_lt ?_ | with_reducible refine do_le ?_ | with_reducible refine do_gt ?_ | with_reducible refine do_ge ?_ | with_reducible refine du_neg ?_
  | with_reducible refine do_eqi ?_ | with_reducible refine do_nei ?_ | with_reducible refine do_eqs ?_ | with_reducible refine do_nes ?_ | with_reducible refine dc_abs ?_ | with_reducible refine dc_min ?_ | with_reducible refine dc_max ?_ | with_reducible refine dc_lenL ?_ | with_reducible refine dc_lenT ?_ | with_reducible refine dc_lenR ?_ | with_reducible refine dc_listT ?_ | with_reducible refine dc_listL ?_ | with_reducible refine dc_tupL ?_ | with_reducible refine dc_gcd ?_
  | ((with_reducible show DO _ (rIxT _) _ _ _); refine do_ixT rfl ?_) | ((with_reducible show DO _ (rIxL _) _ _ _); refine do_ixL rfl ?_) | ((with_reducible refine do_catL ?_ ?_); exact Nat.le_of_ble_eq_true rfl) | with_reducible refine do_catL ?_ ?_ | ((with_reducible show And (List.length _ ≤ sizeLine) _); refine ⟨Nat.le_of_ble_eq_true rfl, ?_⟩)
  | with_reducible refine wd_dnew ?_ | with_reducible refine wd_call0 ?_ | with_reducible refine wd_slA ?_ | with_reducible refine wd_slL ?_ | with_reducible refine wd_revT ?_ | with_reducible refine do_catA ?_ ?_ | with_reducible refine wo_part ?_ | with_reducible refine wo_none ?_ | with_reducible refine do_eqQ ?_ | with_reducible refine do_neQ ?_ | with_reducible refine wi_enumT ?_ | with_reducible refine wi_enumD ?_ | with_reducible refine tAdQ (by omega) (by omega) ?_ | with_reducible refine tSbQ (by omega) (by omega) ?_ | with_reducible refine tMlQ (by omega) (by omega) ?_ | with_reducible refine tDvQ (by assumption) (by omega) (by omega) ?_ | with_reducible refine tLtQ (by omega) (by omega) ?_ | with_reducible refine dc_str ?_ ?_ | with_reducible refine wd_tup ?_ | with_reducible refine wd_lst ?_ | with_reducible refine wt_test ?_ | with_reducible refine wt_B ?_ | with_reducible refine wt_not ?_ | with_reducible refine wt_and ?_ | with_reducible refine wt_or ?_ | with_reducible refine wd_ifE ?_ | with_reducible refine wd_andV ?_ | with_reducible refine wd_orV ?_ | with_reducible refine wd_notV ?_
  | with_reducible refine ws_seq ?_ | with_reducible refine ws_next ?_ | with_reducible refine ws_asg ?_ | with_reducible refine ws_ret ?_ | with_reducible refine ws_retN ?_ | with_reducible refine ws_if ?_ | with_reducible refine ws_par ?_ | with_reducible refine ws_unp2 ?_
  | with_reducible refine if_t ?_ | with_reducible refine if_f ?_ | with_reducible refine if_nf ?_ | with_reducible refine if_nt ?_
  | ((with_reducible show Exists _); first | refine ⟨_, kitInt _, ?_⟩ | refine ⟨_, kitBool _, ?_⟩ | refine ⟨_, kitTup _, ?_⟩ | refine ⟨_, kitList _, ?_⟩ | refine ⟨_, rfl, ?_⟩ | refine ⟨_, _, rfl, ?_⟩ | fail) | fail))
def t_due (K : PySem.W.Frag) : TS :=
  (tSeq (tAsg (tLst tNil) (gName 1))
    (tSeq (tAsg (tC (.int 0)) (gName 2))
    (tSeq (tFor (iTup K (tVar 0)) (gTup K 3 (gCons (gName 3) (gCons (gName 4) (gCons (gName 5) gNil)))) (tSeq (tAsg (tOp rDivI (tOp (rIxT K) (tVar 4) (tC (.int 0))) (tOp (rIxT K) (tVar 4) (tC (.int 1)))) (gName 6))
    (tSeq (tDrop (tBM K "list" rAppend (tVar 1) (tCons (tTup (tCons (tOp rSubI (tVar 6) (tVar 2)) (tCons (tVar 6) (tCons (tVar 5) tNil)))) tNil)))
    (tAsg (tVar 6) (gName 2)))))
    (tRet (tCB (rTupOf K) (tCons (tVar 1) tNil))))))
def t_b45 (K : PySem.W.Frag) (aO : Addr) : TS :=
  (tSeq (tAsg (tLst (tCons (tCallN 1 2 (spP K TPays) gVapp E0 (tCons (tVar 3) tNil) (tCons (tVar 4) (tCons (tC (.bl true)) tNil))) (tCons (tCallN 1 2 (spP K TPays) gVws E0 (tCons (tVar 3) tNil) (tCons (tC (.bl true)) (tCons (tVar 4) tNil))) tNil))) (gName 7))
    (tSeq (tDrop (tBM K "list" rAppend (tVar 7) (tCons (tCallN 1 1 (spP K TPays) (gVsw aO) E0 (tCons (tVar 3) tNil) (tCons (tC (.bl true)) tNil)) tNil)))
    (tSeq (tIfS (tTest (tOp rNe (tCB (rReprZ K) (tCons (tVar 7) tNil)) (tCB (rReprZ K) (tCons (tLst (tCons (tVar 5) (tCons (tVar 5) (tCons (tVar 6) tNil)))) tNil)))) (tRet (tC (.bl false))) tNext)
    (tSeq (tIfS (tTest (tOp (rNeD K) (tLc (iTup K (tOp (rIxL K) (tVar 7) (tC (.int 0)))) (gName 8) (tTest (tOp rLt (tOp (rIxT K) (tVar 8) (tC (.int 0))) (tC (.int 0)))) (tVar 8) [8]) (tLst tNil))) (tRet (tC (.bl false))) tNext)
    (tIfS (tTest (tOp rNe (tCB (rSum K) (tCons (tLc (iTup K (tOp (rIxL K) (tVar 7) (tC (.int 0)))) (gName 8) tYes (tOp (rIxT K) (tVar 8) (tC (.int 0))) [8]) tNil)) (tOp (rIxL K) (tOp rCatL (tLst (tCons (tC (.int 0)) tNil)) (tLc (iTup K (tOp (rIxL K) (tVar 7) (tC (.int 0)))) (gName 8) tYes (tOp (rIxT K) (tVar 8) (tC (.int 1))) [8])) (tUn rNegI (tC (.int 1)))))) (tRet (tC (.bl false))) tNext)))))
def t_law45 (K : PySem.W.Frag) (aO : Addr) : TS :=
  (tSeq (tFor (iRng1 (tCons (tOp rAddI (tC (.int 6)) (tCB rMinX (tCons (tC (.int 14)) (tCons (tCB (rLenX K) (tCons (tVar 0) tNil)) tNil)))) tNil)) (gName 2) (tSeq (tAsg (tCall (spS K FSto TTotals) [] E0 (tCons (tVar 1) (tCons (tC (.int 40)) tNil))) (gName 3))
    (tSeq (tAsg (tCall (spS K FSto TShareQ) [] E0 (tCons (tVar 1) tNil)) (gName 4))
    (tSeq (tAsg (tCall (spP K TDue) [] E0 (tCons (tCall (spP K TRows) [] E0 (tCons (tVar 3) (tCons (tVar 4) tNil))) tNil)) (gName 5))
    (tSeq (tAsg (tCall (spP K TDue) [] E0 (tCons (tCall (spP K TRows) [] E0 (tCons (tVar 3) (tCons (tTup (tCons (tC (.int 1)) (tCons (tC (.int 1)) tNil))) tNil))) tNil)) (gName 6))
    (tSeq (tAsg (tLst (tCons (tCallN 1 2 (spP K TPays) gVapp E0 (tCons (tVar 3) tNil) (tCons (tVar 4) (tCons (tC (.bl true)) tNil))) (tCons (tCallN 1 2 (spP K TPays) gVws E0 (tCons (tVar 3) tNil) (tCons (tC (.bl true)) (tCons (tVar 4) tNil))) tNil))) (gName 7))
    (tSeq (tDrop (tBM K "list" rAppend (tVar 7) (tCons (tCallN 1 1 (spP K TPays) (gVsw aO) E0 (tCons (tVar 3) tNil) (tCons (tC (.bl true)) tNil)) tNil)))
    (tSeq (tIfS (tTest (tOp rNe (tCB (rReprZ K) (tCons (tVar 7) tNil)) (tCB (rReprZ K) (tCons (tLst (tCons (tVar 5) (tCons (tVar 5) (tCons (tVar 6) tNil)))) tNil)))) (tRet (tC (.bl false))) tNext)
    (tSeq (tIfS (tTest (tOp (rNeD K) (tLc (iTup K (tOp (rIxL K) (tVar 7) (tC (.int 0)))) (gName 8) (tTest (tOp rLt (tOp (rIxT K) (tVar 8) (tC (.int 0))) (tC (.int 0)))) (tVar 8) [8]) (tLst tNil))) (tRet (tC (.bl false))) tNext)
    (tIfS (tTest (tOp rNe (tCB (rSum K) (tCons (tLc (iTup K (tOp (rIxL K) (tVar 7) (tC (.int 0)))) (gName 8) tYes (tOp (rIxT K) (tVar 8) (tC (.int 0))) [8]) tNil)) (tOp (rIxL K) (tOp rCatL (tLst (tCons (tC (.int 0)) tNil)) (tLc (iTup K (tOp (rIxL K) (tVar 7) (tC (.int 0)))) (gName 8) tYes (tOp (rIxT K) (tVar 8) (tC (.int 1))) [8])) (tUn rNegI (tC (.int 1)))))) (tRet (tC (.bl false))) tNext))))))))))
    (tRet (tOp (rEqD K) (tCallN 1 1 (spP K TPays) (gVsw aO) E0 (tCons (tTup tNil) tNil) (tCons (tC (.bl true)) tNil)) (tTup tNil))))
section
variable {K : PySem.W.Frag} {S : Stt} {ρ : Rho}
theorem ws_due {ds : List PyData} {Φ : PyData → Prop} (h : TDue ds Φ) : WS K S0 (t_due K) (rhoOf 7 ds) { nx := fun _ => Φ .none, rt := fun d _ => Φ d } := by
  obtain ⟨ts, sh, R, rfl, hs, hl, ht, hΦ⟩ := h
  show WS K S0 (t_due K) [.dat (.tuple ((pRw sh ts).map p3D)), .unk, .unk, .unk, .unk, .unk, .unk] _
  unfold t_due
  refine ws_seq (ws_own (wa_nil ⟨Nat.zero_le _, ?_⟩))
  walk_at "dl"
  refine ws_for (wi_tup (wd_var rfl ⟨_, rfl, fun k ρ => ∃ (s3 s4 s5 s6 : Sl), ρ = [.dat (.tuple ((pRw sh ts).map p3D)), .own (wRw sh (ts.take k)), .dat (.int (pF sh ts k)), s3, s4, s5, s6], ⟨_, _, _, _, by rw [pF_zero]; rfl⟩, ?_, ?_⟩))
  · rintro k d ρ2 hd ⟨s3, s4, s5, s6, rfl⟩
    rw [List.getElem?_map, pRw_get] at hd
    obtain ⟨x, hx, rfl⟩ := Option.map_eq_some_iff.mp hd
    obtain ⟨t, htk, rfl⟩ := Option.map_eq_some_iff.mp hx
    have hk : k < ts.length := (List.getElem?_eq_some_iff.mp htk).1
    have Z := (PI.run hs ht k (by omega)).sizes hs (ht t (List.mem_of_getElem? htk)) (by omega)
    refine ⟨_, _, gd_trip, ?_⟩
    have e1 := wRw_take (sh := sh) htk
    have e2 : pF sh ts (k + 1) = (pstep sh (pS sh (ts.take k)) t).2.1.floor := by unfold pF; rw [pS_take htk]
    have e3 : (prow sh (pS sh (ts.take k)) t).2.1 = (pstep sh (pS sh (ts.take k)) t).2.1 := rfl
    have z := Z.all2
    have lm : (wRw sh (ts.take k)).length < sizeLine := by unfold wRw; rw [wRwF_len, List.length_take, sizeLine_eq]; omega
    show WS K S0 _ [.dat (.tuple ((pRw sh ts).map p3D)), .own (wRw sh (ts.take k)), .dat (.int (pF sh ts k)), .dat (qp (prow sh (pS sh (ts.take k)) t).1), .dat (qp (prow sh (pS sh (ts.take k)) t).2.1), .dat (qp (prow sh (pS sh (ts.take k)) t).2.2), s6] _
    rw [e3]
    generalize hq : (pstep sh (pS sh (ts.take k)) t).2.1 = q at *
    walk_at "dl"
    · exact cdiv39 (den0 q) (d39 (by omega))
    · rw [floor_num q (by omega)]
      refine ws_append rfl (wd_tup (wa_cons (wd_op (wd_var rfl (wd_var rfl (do_sub (wa_cons (wd_var rfl (wa_cons (wd_var rfl (wa_nil ⟨Nat.le_of_ble_eq_true rfl, _, rfl, lm, ?_⟩)))))))))))
      have ew : wRw sh (ts.take (k + 1)) = wRw sh (ts.take k) ++ [.tuple [.int (q.floor - pF sh ts k), .int q.floor, qp (prow sh (pS sh (ts.take k)) t).2.2]] := by
        rw [e1]; unfold w3D; rw [e3]; rfl
      exact ws_asg (wd_var rfl ⟨_, _, _, _, by rw [ew, e2]; rfl⟩)
  · rintro ρ2 ⟨s3, s4, s5, s6, rfl⟩
    rw [List.length_map, pRw_len, List.take_length]
    refine ws_frz (i := 1) rfl ?_
    walk_at "dl"
    exact hΦ
theorem Rs.ww {R : Nat} {sh : Rat} (g : ShOk R sh) {ts : List Rat} (ht : ∀ t ∈ ts, Tot t) (hl : ts.length ≤ 130) : Rs 1300000 3 (wwD sh ts) := by
  refine (Rs.tup (L := 5 + 3 * 3293) (D := 2) (n := 130) (fun y hy => ?_) (by unfold wRw; rw [wRwF_len]; exact hl)).mono (by decide) (Nat.le_refl _)
  obtain ⟨k, hk⟩ := List.mem_iff_getElem?.mp hy
  rw [wRw_get] at hk
  obtain ⟨t, htk, rfl⟩ := Option.map_eq_some_iff.mp hk
  have hk' : k < ts.length := (List.getElem?_eq_some_iff.mp htk).1
  have pi := PI.run g ht k (by omega)
  have Z := pi.sizes g (ht t (List.mem_of_getElem? htk)) (by omega)
  have fz : ∀ {q : Rat}, sz q ≤ 1640 → q.floor.natAbs < 2 ^ 1641 := fun {q} h => by
    rw [Rat.floor_def]
    have h1 := num_lt h
    have h2 := Int.natAbs_ediv_le_natAbs q.num (q.den : Int)
    have h3 : (2 : Nat) ^ 1640 ≤ 2 ^ 1641 := Nat.pow_le_pow_right (by decide) (by decide)
    omega
  refine Rs.tup (L := 3291) (D := 1) (n := 3) (fun y hy => ?_) (Nat.le_refl 3)
  simp only [List.mem_cons, List.not_mem_nil, or_false] at hy
  have f1 := fz Z.all2
  have f2 := fz Z.all
  have f1' : ((prow sh (pS sh (ts.take k)) t).2.1.floor).natAbs < 2 ^ 1641 := f1
  have e4 : (2 : Nat) ^ 1642 = 2 ^ 1641 + 2 ^ 1641 := by rw [Nat.pow_succ]; omega
  rcases hy with rfl | rfl | rfl
  · exact (Rs.int (k := 1642) (by decide) (by rw [e4]; omega) (by decide)).mono (by decide) (by decide)
  · exact (Rs.int (k := 1641) (by decide) f1' (by decide)).mono (by decide) (by decide)
  · exact Rs.qp (k := 1640) Z.debt2 (by decide)
theorem Sh.w3 {x : P3} {p : Rat} : Sh 2 (w3D x p) := Sh.tup fun y hy => by
  simp only [List.mem_cons, List.not_mem_nil, or_false] at hy
  rcases hy with rfl | rfl | rfl
  · exact Sh.int.mono (by decide)
  · exact Sh.int.mono (by decide)
  · exact Sh.qp
theorem wd_paySW {te tk : TE} {Φ : PyData → Rho → Prop} (h : WD K S te ρ fun r ρ1 => WD K S tk ρ1 fun s ρ2 => ∃ (b : Bool) (ts : List Rat) (sh : Rat) (R : Nat), r = rowD b (ts.map qp) ∧ s = qp sh ∧ ShOk R sh ∧ ts.length ≤ 130 ∧ (∀ t ∈ ts, Tot t) ∧ Φ (wwD sh ts) ρ2) : WD K S (tCallN 1 2 (spP K TPays) gVapp E0 (tCons te tNil) (tCons tk (tCons (tC (.bl true)) tNil))) ρ Φ :=
  wd_callN (gD := gDapp) (fun _ _ _ _ _ _ h1 h2 => h1.append h2) (wa_cons (h.imp fun r ρ1 h => wa_nil (wa_cons (h.imp fun s ρ2 ⟨b, ts, sh, R, e1, e2, g, hl, ht, f⟩ => wa_cons (wd_bl (wa_nil ⟨rfl, rfl, b, true, ts, sh, R, by rw [e1, e2]; rfl, g, hl, ht, f⟩))))))
theorem wd_payWS1 {te tk : TE} {Φ : PyData → Rho → Prop} (h : WD K S te ρ fun r ρ1 => WD K S tk ρ1 fun s ρ2 => ∃ (b : Bool) (ts : List Rat) (sh : Rat) (R : Nat), r = rowD b (ts.map qp) ∧ s = qp sh ∧ ShOk R sh ∧ ts.length ≤ 130 ∧ (∀ t ∈ ts, Tot t) ∧ Φ (wwD sh ts) ρ2) : WD K S (tCallN 1 2 (spP K TPays) gVws E0 (tCons te tNil) (tCons (tC (.bl true)) (tCons tk tNil))) ρ Φ :=
  wd_callN (gD := gDws) (fun _ _ _ _ _ _ h1 h2 => h1.append (dq_rev h2)) (wa_cons (h.imp fun r ρ1 h => wa_nil (wa_cons (wd_bl (wa_cons (h.imp fun s ρ2 ⟨b, ts, sh, R, e1, e2, g, hl, ht, f⟩ => wa_nil ⟨rfl, rfl, b, true, ts, sh, R, by rw [e1, e2]; rfl, g, hl, ht, f⟩))))))
theorem wd_payW {aO : Addr} (hO : ∀ H : Hp, SqT K H aO [.int 1, .int 1]) {te : TE} {Φ : PyData → Rho → Prop} (h : WD K S te ρ fun r ρ1 => ∃ (b : Bool) (ts : List Rat), r = rowD b (ts.map qp) ∧ ts.length ≤ 130 ∧ (∀ t ∈ ts, Tot t) ∧ Φ (wwD 1 ts) ρ1) : WD K S (tCallN 1 1 (spP K TPays) (gVsw aO) E0 (tCons te tNil) (tCons (tC (.bl true)) tNil)) ρ Φ :=
  wd_callN (gD := gDsw) (fun _ _ _ _ _ _ h1 h2 => (h1.append (.cons (Dt.part2 (hO _)) .nil)).append h2) (wa_cons (h.imp fun r ρ1 ⟨b, ts, e1, hl, ht, f⟩ => wa_nil (wa_cons (wd_bl (wa_nil ⟨rfl, rfl, b, true, ts, 1, 1, by rw [e1]; rfl, ShOk.one, hl, ht, f⟩)))))
theorem wd_due {te : TE} {Φ : PyData → Rho → Prop} (h : WD K S te ρ fun r ρ1 => ∃ (ts : List Rat) (sh : Rat) (R : Nat), r = rwD sh ts ∧ ShOk R sh ∧ ts.length ≤ 130 ∧ (∀ t ∈ ts, Tot t) ∧ Φ (wwD sh ts) ρ1) : WD K S (tCall (spP K TDue) [] E0 (tCons te tNil)) ρ Φ :=
  wd_call0 (wa_cons (h.imp fun r ρ1 ⟨ts, sh, R, e1, g, hl, ht, f⟩ => wa_nil ⟨ts, sh, R, by rw [e1], g, hl, ht, f⟩))
theorem dc_sum {ds : List PyData} {ns : List Int} {Ψ : PyData → Prop} (e : ds = ns.map PyData.int) (h : Ψ (.int ns.sum)) : DC K (rSum K) [.list ds] Ψ := fun N H _ us hu Q q => by
  subst e
  cases hu with
  | cons d1 d2 =>
    cases d2
    obtain ⟨p, xs, rfl, _, h1, h2⟩ := Dq.lst_inv d1
    have e := h2.of_ints
    subst e
    exact ⟨p, ns, rfl, .inl h1, q _ _ H h (Same.refl H) (Dt.int _)⟩
theorem ws_b45 {ns : List Int} {aO : Addr} {B : Nat} {sh : Rat} {R : Nat} {ts : List Rat} {d2 : PyData} {En : DE} (hO : ∀ H : Hp, SqT K H aO [.int 1, .int 1]) (hs : ShOk R sh) (hl : ts.length ≤ 130) (hT : ∀ t ∈ ts, Tot t)
    (hn : ∀ s7 s8, En.nx [.scr ns, .sto B, .dat d2, .dat (.list (ts.map qp)), .dat (qp sh), .dat (wwD sh ts), .dat (wwD 1 ts), s7, s8]) :
    WS K S (t_b45 K aO) [.scr ns, .sto B, .dat d2, .dat (.list (ts.map qp)), .dat (qp sh), .dat (wwD sh ts), .dat (wwD 1 ts), .unk, .unk] En := by
  unfold t_b45
  have r1 := Rs.ww hs hT hl
  have r2 := Rs.ww ShOk.one hT hl
  have rl : ∀ {ds : List PyData}, ds.length ≤ 3 → (∀ d ∈ ds, d = wwD sh ts ∨ d = wwD 1 ts) → Rs (2 + 3 * 1300002) 4 (.list ds) := fun h1 h2 => Rs.lst (fun d hd => by
    rcases h2 d hd with rfl | rfl
    · exact r1
    · exact r2) h1
  have rr : ∀ {ds : List PyData} {Ψ : PyData → Prop}, ds.length ≤ 3 → (∀ d ∈ ds, d = wwD sh ts ∨ d = wwD 1 ts) → Ψ (.str (PyData.list ds).shown) → DC K (rReprZ K) [.list ds] Ψ := fun h1 h2 f => dc_reprZ (rl h1 h2) (by rw [sizeLine_eq]; decide) (by decide) f
  refine ws_seq (ws_own (wa_cons (wd_paySW (wd_var rfl (wd_var rfl ⟨true, ts, sh, R, rfl, rfl, hs, hl, hT, ?_⟩)))))
  refine wa_cons (wd_payWS1 (wd_var rfl (wd_var rfl ⟨true, ts, sh, R, rfl, rfl, hs, hl, hT, ?_⟩)))
  refine wa_nil ⟨Nat.le_of_ble_eq_true rfl, ?_⟩
  refine ws_seq (ws_append rfl (wd_payW hO (wd_var rfl ⟨true, ts, rfl, hl, hT, _, rfl, Nat.lt_of_lt_of_le (show 2 < 3 by decide) (by rw [sizeLine_eq]; decide), ?_⟩)))
  refine ws_frz (i := 7) rfl ?_
  show WS K S _ [.scr ns, .sto B, .dat d2, .dat (.list (ts.map qp)), .dat (qp sh), .dat (wwD sh ts), .dat (wwD 1 ts), .dat (.list [wwD sh ts, wwD sh ts, wwD 1 ts]), .unk] _
  refine ws_seq (ws_if (wt_test (wd_op (wd_cb (wa_cons (wd_var rfl (wa_nil (rr (Nat.le_of_ble_eq_true rfl) (by simp) ?_))))))))
  refine wd_cb (wa_cons (wd_lst (wa_cons (wd_var rfl (wa_cons (wd_var rfl (wa_cons (wd_var rfl (wa_nil ⟨Nat.le_of_ble_eq_true rfl, wa_nil (rr (Nat.le_of_ble_eq_true rfl) (by simp) ?_)⟩)))))))))
  refine do_nesS ⟨false, rfl, ?_⟩
  refine if_f (ws_next ?_)
  have ll : (wRw sh ts).length ≤ sizeLine := by unfold wRw; rw [wRwF_len, sizeLine_eq]; omega
  refine ws_seq (ws_if (wt_test (wd_op (wd_lc (wi_tup (wd_op (wd_var rfl (wd_int (do_ixL rfl ⟨_, rfl, ll, fun k acc ρ => acc = [] ∧ ρ = [.scr ns, .sto B, .dat d2, .dat (.list (ts.map qp)), .dat (qp sh), .dat (wwD sh ts), .dat (wwD 1 ts), .dat (.list [wwD sh ts, wwD sh ts, wwD 1 ts]), .unk], ⟨rfl, rfl⟩, ?_, ?_⟩)))))))))
  · rintro k d acc ρ2 hd ⟨rfl, rfl⟩
    obtain ⟨hk, q, rfl⟩ := wRw_at hd
    have m := pF_mono hs hT hk
    refine ⟨_, _, gd_name, fun j hj => hj, ?_⟩
    walk_at "dl"
    refine if_b (fun h => absurd h (by omega)) (fun _ => ⟨rfl, rfl⟩)
  · rintro acc ρ2 ⟨rfl, rfl⟩
    refine wd_lst (wa_nil ⟨Nat.zero_le _, do_neS (Sh.lst (n := 0) fun x hx => by cases hx) (by decide) ⟨false, rfl, ?_⟩⟩)
    refine if_f (ws_next ?_)
    have n1 : (wRw sh ts).length = ts.length := wRwF_len
    have cmp : ∀ {te : TE} {f : Nat → Int} {Φ : PyData → Rho → Prop}, (∀ k q ρ (Φ : PyData → Rho → Prop), ρ[8]? = some (.dat (.tuple [.int (pF sh ts (k + 1) - pF sh ts k), .int (pF sh ts (k + 1)), q])) → Φ (.int (f k)) ρ → WD K S te ρ Φ) → Φ (.list ((List.range ts.length).map fun k => .int (f k))) [.scr ns, .sto B, .dat d2, .dat (.list (ts.map qp)), .dat (qp sh), .dat (wwD sh ts), .dat (wwD 1 ts), .dat (.list [wwD sh ts, wwD sh ts, wwD 1 ts]), .unk] →
        WD K S (tLc (iTup K (tOp (rIxL K) (tVar 7) (tC (.int 0)))) (gName 8) tYes te [8]) [.scr ns, .sto B, .dat d2, .dat (.list (ts.map qp)), .dat (qp sh), .dat (wwD sh ts), .dat (wwD 1 ts), .dat (.list [wwD sh ts, wwD sh ts, wwD 1 ts]), .unk] Φ := fun {te f Φ} hte hf => by
      refine wd_lc (wi_tup (wd_op (wd_var rfl (wd_int (do_ixL rfl ⟨_, rfl, ll, fun k acc ρ => acc = (List.range k).map (fun k => .int (f k)) ∧ ρ = [.scr ns, .sto B, .dat d2, .dat (.list (ts.map qp)), .dat (qp sh), .dat (wwD sh ts), .dat (wwD 1 ts), .dat (.list [wwD sh ts, wwD sh ts, wwD 1 ts]), .unk], ⟨rfl, rfl⟩, ?_, ?_⟩)))))
      · rintro k d acc ρ2 hd ⟨rfl, rfl⟩
        obtain ⟨hk, q, rfl⟩ := wRw_at hd
        refine ⟨_, _, gd_name, fun j hj => hj, wt_yes ?_⟩
        rw [if_pos rfl]
        refine hte k q _ _ rfl ⟨?_, rfl⟩
        rw [List.range_succ, List.map_append]; rfl
      · rintro acc ρ2 ⟨rfl, rfl⟩
        rw [n1]
        exact hf
    have tele : ∀ n, (((List.range n).map fun k => pF sh ts (k + 1) - pF sh ts k)).sum = pF sh ts n := fun n => by
      induction n with
      | zero => rw [pF_zero]; rfl
      | succ n ih => rw [List.range_succ, List.map_append, List.sum_append, ih]; simp; omega
    refine ws_if (wt_test (wd_op (wd_cb (wa_cons (cmp (f := fun k => pF sh ts (k + 1) - pF sh ts k) (fun k q ρ Φ h f => ?_) (wa_nil ?_))))))
    · exact wd_op (wd_var h (wd_int (do_ixT rfl f)))
    refine dc_sum (ns := (List.range ts.length).map fun k => pF sh ts (k + 1) - pF sh ts k) (by rw [List.map_map]; rfl) ?_
    rw [tele]
    refine wd_op (wd_op (wd_lst (wa_cons (wd_int (wa_nil ⟨Nat.le_of_ble_eq_true rfl, ?_⟩)))))
    refine cmp (f := fun k => pF sh ts (k + 1)) (fun k q ρ Φ h f => ?_) ?_
    · exact wd_op (wd_var h (wd_int (do_ixT rfl f)))
    refine do_catL (by rw [List.length_map, List.length_range, sizeLine_eq]; simp; omega) ?_
    refine wd_un (wd_int (du_neg ?_))
    refine do_ixL (d := .int (pF sh ts ts.length)) ?_ (do_nei ⟨false, by simp, ?_⟩)
    · unfold atI ixN
      rw [if_neg (by decide), List.length_append, List.length_map, List.length_range, List.length_singleton, if_pos (by omega)]
      have e : ((-1 : Int) + ((1 + ts.length : Nat) : Int)).toNat = ts.length := by omega
      rw [e]
      cases hn0 : ts.length with
      | zero => rw [pF_zero]; rfl
      | succ n =>
        show ([PyData.int 0] ++ List.map (fun k => PyData.int (pF sh ts (k + 1))) (List.range (n + 1)))[n + 1]? = _
        rw [List.getElem?_append_right (by simp)]
        simp
    · exact if_f (ws_next (hn _ _))
theorem ws_law45 {ns : List Int} {aO : Addr} (hO : ∀ H : Hp, SqT K H aO [.int 1, .int 1]) (hF : FSto S) (hl : ns.length ≤ 63) : WS K S (t_law45 K aO) (.scr ns :: .sto 0 :: List.replicate 7 .unk) { nx := fun _ => False, rt := fun d _ => d = .bool true } := by
  show WS K S (t_law45 K aO) [.scr ns, .sto 0, .unk, .unk, .unk, .unk, .unk, .unk, .unk] _
  unfold t_law45
  have L : ∀ m : Int, m ≤ 1000000 → m ≤ 2 ^ 1899 := fun m hm => Int.le_trans hm big1899
  walk_at "dl"
  refine ws_for (wi_rng1 ?_)
  walk_at "dl"
  generalize hm : (6 + if (ns.length : Int) < 14 then (ns.length : Int) else 14) = many
  have hm2 : 0 ≤ many ∧ many ≤ 20 := by
    rw [← hm]; split <;> omega
  refine ⟨by omega, by omega, fun k ρ => ∃ (B : Nat) (s2 s3 s4 s5 s6 s7 s8 : Sl), ρ = [.scr ns, .sto B, s2, s3, s4, s5, s6, s7, s8] ∧ B ≤ 2000000 * k, ⟨0, _, _, _, _, _, _, _, rfl, by omega⟩, ?_, ?_⟩
  · rintro k d ρ2 hd ⟨B, s2, s3, s4, s5, s6, s7, s8, rfl, hB⟩
    have hk : k < 26 := by
      have := (List.getElem?_eq_some_iff.mp hd).1
      simp at this; omega
    refine ⟨_, _, gd_name, ws_wipe [3, 4, 5, 6, 7, 8] ?_⟩
    show WS K S (tSeq _ (tSeq _ (tSeq _ (tSeq _ (t_b45 K aO))))) [.scr ns, .sto B, .dat d, .unk, .unk, .unk, .unk, .unk, .unk] _
    refine ws_seq (ws_asg (wd_callS hF rfl (wa_cons (wd_int (wa_nil ⟨B, rfl, _, rfl, by decide, by decide, by omega, fun ts B2 hts hT hB2 => ?_⟩)))))
    have hl2 : ts.length ≤ 130 := by omega
    refine ws_seq (ws_asg (wd_callS hF rfl (wa_nil ⟨B2, rfl, rfl, by omega, fun R sh hs => ?_⟩)))
    refine ws_seq (ws_asg (wd_due (wd_rows (wd_var rfl (wd_var rfl ⟨ts, sh, R, rfl, rfl, hs, hl2, hT, ts, sh, R, rfl, hs, hl2, hT, ?_⟩)))))
    refine ws_seq (ws_asg (wd_due (wd_rows (wd_var rfl (wd_tup (wa_cons (wd_int (wa_cons (wd_int (wa_nil ⟨Nat.le_of_ble_eq_true rfl, ts, 1, 1, rfl, rfl, ShOk.one, hl2, hT, ts, 1, 1, rfl, ShOk.one, hl2, hT, ?_⟩))))))))))
    exact ws_b45 hO hs hl2 hT fun s7 s8 => ⟨B2 + 1600, _, _, _, _, _, _, _, rfl, by omega⟩
  · rintro ρ2 ⟨B, s2, s3, s4, s5, s6, s7, s8, rfl, hB⟩
    refine ws_ret (wd_op (wd_payW hO (wd_tup (wa_nil ⟨Nat.zero_le _, false, [], rfl, by decide, ?_, wd_tup (wa_nil ⟨Nat.zero_le _, ?_⟩)⟩))))
    · intro t h; cases h
    · exact do_eqS (d := .tuple []) (Sh.tup (n := 0) fun x hx => by cases hx) (by decide) rfl
end
end DL

set_option Elab.async false
set_option linter.all false
set_option maxRecDepth 100000
set_option maxHeartbeats 4000000
/-! DMB: a call with places and names that may be refused -/
namespace DL
open PySem PySem.Spec PyProof.Rows L2
def tCallNSk (n m : Nat) (sp : Sp) (gV : List V → List V → List V) (E : L2.St → XK) (t tk : TA) : TE := fun σ H Q => t σ H fun vs H1 => tk σ H1 fun zs H2 => vs.length = n ∧ zs.length = m ∧ sp (gV vs zs) H2 Q (E σ)
theorem pe_hasKS {X : Cx} {CX : CXT} {k n : Nat} {ps ks : List Str} {sp : Sp} {E : L2.St → XK} {x : Str} {p pos : Pos} {e : Expr} {es : List Expr} {kws : List Keyword} {t tk : TA} {gV : List V → List V → List V} (h : HasK X.prog X.w X.K X.mg X.base CX x k ps sp n ks gV) (hr : Room k X.A) (hx : ∀ σ, PassesAt CX X σ (E σ)) (ha : PA X (e :: es) t) (hkw : PK X kws tk)
    (hg : Gl X x := by rfl) (hall : (backToKw pos (keywordEach kws X.env)).all (·.1.isSome) = true := by rfl) (hks : (backToKw pos (keywordEach kws X.env)).filterMap (·.1) = ks := by rfl) (hdb : (x == ("__debug__" : Str)) = false := by decide)
    (he : starEach (e :: es) X.env = (false, eval e X.env) :: starEach es X.env := by rfl) (hpl : ((backTo pos (starEach (e :: es) X.env)).any (·.1) || (backToKw pos (keywordEach kws X.env)).any (·.1.isNone)) = false := by rfl) : PE X (.Call (.Name x p) (e :: es) kws pos) (tCallNSk n ks.length sp gV E t tk) := by
  obtain ⟨f, fd, g, F, hm, hk, hb⟩ := h.ex
  refine ⟨fun pins s σ H Q I hh => wpAny_Call_Name_kw (ld_glob I hg hm (PySem.W.callWith_KW (h₀ := X.base) I.ok.mod.kin hk hall (thn (ha.run pos pins s σ H _ I hh) fun us s1 ⟨vs, H1, I1, r, q⟩ => thn (hkw.run pos pins s1 σ H1 _ I1 q) fun ws s2 ⟨zs, H2, I2, rz, l1, l2, q2⟩ => ⟨I2.kIn, ?_⟩) hpl he) hdb)⟩
  rw [hks]
  have r2 := hb.rel r rz
  have l3 : us.length = n := r.length.symm.trans l1
  refine wpAny_call (codeAny_mono (F.run X.A X.stack s2 H2 ⟨us, ks.zip ws⟩ (g us ws) (gV vs zs) Q (E σ) hr I2.env0 (hb.to s2 us ws I2.kIn l3 (rz.length.symm.trans l2)) r2 q2) fun r s3 hq => ?_)
  match r, hq with
  | .error z, hq => exact hx σ pins H2 s2 z s3 I2 hq
  | .ok (.ret u), hq => exact I2.after hq
  | .ok .next, hq => exact hq.elim
  | .ok .brk, hq => exact hq.elim
  | .ok .cont, hq => exact hq.elim
end DL

set_option Elab.async false
set_option linter.all false
set_option maxRecDepth 100000
set_option maxHeartbeats 4000000
/-! DMF: a call of a def that a local name holds, which may be refused; promises joined -/
namespace DL
open PySem PySem.Spec PyProof.Rows L2
section
variable {P : Program} {w : World} {K : PySem.W.Frag} {mg : Str → Option Value} {base : Heap} {CX : CXT} {k : Nat} {f : Addr} {fd : FuncData} {ps : List Str} {sp sp1 sp2 : Sp}
/-- what raises nothing keeps any wish of what is raised -/
theorem fn_any (F : FnOk P w K mg base CX0 k f fd ps sp) : FnOk P w K mg base CX k f fd ps sp :=
  ⟨F.len, fun A outer s H args us vs Q E hr he hb hv hs => codeAny_mono (F.run A outer s H args us vs Q E hr he hb hv hs) fun r s' hq => match r, hq with
    | .ok (.ret _), hq => hq
    | .ok .next, hq => hq.elim
    | .ok .brk, hq => hq.elim
    | .ok .cont, hq => hq.elim
    | .error _, hq => hq.elim⟩
theorem fn_or (F1 : FnOk P w K mg base CX k f fd ps sp1) (F2 : FnOk P w K mg base CX k f fd ps sp2) (h : ∀ vs H Q E, sp vs H Q E → sp1 vs H Q E ∨ sp2 vs H Q E) : FnOk P w K mg base CX k f fd ps sp :=
  ⟨fun vs H Q E q => (h vs H Q E q).elim (F1.len vs H Q E) (F2.len vs H Q E), fun A outer s H args us vs Q E hr he hb hv hs => (h vs H Q E hs).elim (F1.run A outer s H args us vs Q E hr he hb hv) (F2.run A outer s H args us vs Q E hr he hb hv)⟩
/-- what a local name may hold: a def, its defaults filled up -/
structure HeldS (P : Program) (w : World) (K : PySem.W.Frag) (mg : Str → Option Value) (base : Heap) (CX : CXT) (k : Nat) (f : Addr) (sp : Sp) : Prop where
  ex : ∃ (fd : FuncData) (ps : List Str) (ds : List Value) (dvs : List V) (sp0 : Sp), FnOk P w K mg base CX k f fd ps sp0 ∧ PySem.W.keepIn K (.ref f) = true ∧ Binds K fd ps ds ∧ Vals dvs ds ∧ ∀ vs H Q E, sp vs H Q E → sp0 (vs ++ dvs) H Q E
/-- the same, called by places and names -/
structure HeldK (P : Program) (w : World) (K : PySem.W.Frag) (mg : Str → Option Value) (base : Heap) (CX : CXT) (k n : Nat) (ks : List Str) (f : Addr) (sp : Sp) (gV : List V → List V → List V) : Prop where
  ex : ∃ (fd : FuncData) (ps : List Str) (g : List Value → List Value → List Value), FnOk P w K mg base CX k f fd ps sp ∧ PySem.W.keepIn K (.ref f) = true ∧ KBn K fd ps n ks g gV
end
def tCallF (i : Nat) (S : Addr → Sp → Prop) (E : L2.St → XK) (t : TA) : TE := fun σ H Q => ∃ f sp, σ[i]? = some (some (.ref f)) ∧ S f sp ∧ t σ H fun vs H1 => sp vs H1 Q (E σ)
def tCallFk (i n m : Nat) (S : Addr → Sp → Prop) (gV : List V → List V → List V) (E : L2.St → XK) (t tk : TA) : TE := fun σ H Q => ∃ f sp, σ[i]? = some (some (.ref f)) ∧ S f sp ∧ t σ H fun vs H1 => tk σ H1 fun zs H2 => vs.length = n ∧ zs.length = m ∧ sp (gV vs zs) H2 Q (E σ)
section
variable {X : Cx} {CX : CXT} {k i n : Nat} {S : Addr → Sp → Prop} {E : L2.St → XK} {x : Str} {p pos : Pos} {e : Expr} {es : List Expr} {kws : List Keyword} {ks : List Str} {t tk : TA} {gV : List V → List V → List V}
theorem pe_callF (A : ∀ f sp, S f sp → HeldS X.prog X.w X.K X.mg X.base CX k f sp) (hr : Room k X.A) (hN : X.N[i]? = some x) (hv : Vis X.env.scope x) (hx : ∀ σ, PassesAt CX X σ (E σ)) (ha : PA X (e :: es) t)
    (hdb : (x == ("__debug__" : Str)) = false := by decide) (hcd : (x == ("__classdict__" : Str)) = false := by decide)
    (he : starEach (e :: es) X.env = (false, eval e X.env) :: starEach es X.env := by rfl) (hpl : (backTo pos (starEach es X.env)).any (·.1) = false := by rfl) : PE X (.Call (.Name x p) (e :: es) [] pos) (tCallF i S E t) := by
  refine ⟨fun pins s σ H Q I h => ?_⟩
  obtain ⟨f, sp, hs, hS, ht⟩ := h
  obtain ⟨fd, ps, ds, dvs, sp0, F, hk, hb, hd, imp⟩ := (A f sp hS).ex
  refine wpAny_Call_Name_kw (thn ((pe_var (pos := p) hN hv hdb hcd).run pins s σ H (fun v H1 => v = .ref f ∧ H1 = H) I ⟨.ref f, hs, rfl, rfl⟩) fun u s1 ⟨v, H1, I1, r1, q1⟩ => ?_)
  obtain ⟨rfl, rfl⟩ := q1
  cases r1
  refine PySem.W.callWith_K (h₀ := X.base) I.ok.mod.kin hk (thn (ha.run pos pins s1 σ _ _ I1 ht) fun us s2 ⟨vs, H2, I2, r, q⟩ => ⟨I2.kIn, ?_⟩) he hpl
  exact run_fnSD F hr hb hd (hx σ) I2 r (imp _ _ _ _ q)
theorem pe_callFk (A : ∀ f sp, S f sp → HeldK X.prog X.w X.K X.mg X.base CX k n ks f sp gV) (hr : Room k X.A) (hN : X.N[i]? = some x) (hv : Vis X.env.scope x) (hx : ∀ σ, PassesAt CX X σ (E σ)) (ha : PA X (e :: es) t) (hkw : PK X kws tk)
    (hall : (backToKw pos (keywordEach kws X.env)).all (·.1.isSome) = true := by rfl) (hks : (backToKw pos (keywordEach kws X.env)).filterMap (·.1) = ks := by rfl) (hdb : (x == ("__debug__" : Str)) = false := by decide) (hcd : (x == ("__classdict__" : Str)) = false := by decide)
    (he : starEach (e :: es) X.env = (false, eval e X.env) :: starEach es X.env := by rfl) (hpl : ((backTo pos (starEach (e :: es) X.env)).any (·.1) || (backToKw pos (keywordEach kws X.env)).any (·.1.isNone)) = false := by rfl) : PE X (.Call (.Name x p) (e :: es) kws pos) (tCallFk i n ks.length S gV E t tk) := by
  refine ⟨fun pins s σ H Q I h => ?_⟩
  obtain ⟨f, sp, hs, hS, ht⟩ := h
  obtain ⟨fd, ps, g, F, hk, hb⟩ := (A f sp hS).ex
  refine wpAny_Call_Name_kw (thn ((pe_var (pos := p) hN hv hdb hcd).run pins s σ H (fun v H1 => v = .ref f ∧ H1 = H) I ⟨.ref f, hs, rfl, rfl⟩) fun u s0 ⟨v, H0, I0, r1, q1⟩ => ?_)
  obtain ⟨rfl, rfl⟩ := q1
  cases r1
  refine PySem.W.callWith_KW (h₀ := X.base) I.ok.mod.kin hk hall (thn (ha.run pos pins s0 σ _ _ I0 ht) fun us s1 ⟨vs, H1, I1, r, q⟩ => thn (hkw.run pos pins s1 σ H1 _ I1 q) fun ws s2 ⟨zs, H2, I2, rz, l1, l2, q2⟩ => ⟨I2.kIn, ?_⟩) hpl he
  rw [hks]
  have r2 := hb.rel r rz
  have l3 : us.length = n := r.length.symm.trans l1
  refine wpAny_call (codeAny_mono (F.run X.A X.stack s2 H2 ⟨us, ks.zip ws⟩ (g us ws) (gV vs zs) Q (E σ) hr I2.env0 (hb.to s2 us ws I2.kIn l3 (rz.length.symm.trans l2)) r2 q2) fun r s3 hq => ?_)
  match r, hq with
  | .error z, hq => exact hx σ pins H2 s2 z s3 I2 hq
  | .ok (.ret u), hq => exact I2.after hq
  | .ok .next, hq => exact hq.elim
  | .ok .brk, hq => exact hq.elim
  | .ok .cont, hq => exact hq.elim
end
section
variable {K : PySem.W.Frag} {S : Stt} {ρ : Rho} {Φ : PyData → Rho → Prop}
/-- a def handed in by name, then data -/
theorem wd_callFn {T : List PyData → (PyData → Prop) → Prop} {sp : Sp} {f : Addr} {E : XK} {ta : TA} (hsp : ∀ us H Q, spP K T us H Q E → sp (.ref f :: us) H Q E) (h : WA K S ta ρ fun xs ρ1 => T xs fun d => Φ d ρ1) : WD K S (tCall sp [] E (tCons (tC (.ref f)) ta)) ρ Φ := fun H0 N0 Z N σ H E' Q q =>
  h H0 N0 Z N σ H E' _ fun vs xs ρ1 H1 g E1 k1 d1 => by
    show sp ((.ref f :: vs) ++ []) H1 Q E
    rw [List.append_nil]
    exact hsp _ _ _ ⟨N, xs, _, E1.trk, d1, g, fun d fd v H2 s dv => q v d ρ1 H2 fd (E1.ext s) (k1.trans (Keep.of s)) dv⟩
/-- a call that may be refused, from a start -/
theorem td_callB {T : List PyData → (PyData → Prop) → (Addr → Prop) → Prop} {Ψ : Addr → Prop} {E : XK} {ta : TA} (h : WA K S0 ta ρ fun xs ρ1 => T xs (fun d => Φ d ρ1) Ψ) {H0 : Hp} {N0 N : Av} {Z : List Hd} {σ : L2.St} {H : Hp} (En : EnvD K S0 H0 N0 Z N σ H ρ)
    (hE : ∀ C, Ψ C → ∀ H', Same H0 H' → E (.ref C) none H') (Q : VK) (q : ∀ v d ρ' H', Φ d ρ' → EnvD K S0 H0 N0 Z N σ H' ρ' → Keep N H H' → Dq K N H' v d → Q v H') : tCall (spX K T) [] E ta σ H Q :=
  h H0 N0 Z N σ H En _ fun vs xs ρ1 H1 f E1 k1 d1 => by
    show spX K T (vs ++ []) H1 Q E
    rw [List.append_nil]
    exact ⟨N, xs, _, Ψ, E1.trk, d1, f, fun d fd v H2 s dv => q v d ρ1 H2 fd (E1.ext s) (k1.trans (Keep.of s)) dv, fun C hC H2 s => hE C hC H2 fun b o e => s b o (E1.keep b o rfl e)⟩
end
end DL

set_option Elab.async false
set_option linter.all false
set_option maxRecDepth 100000
set_option maxHeartbeats 4000000
/-! DMG: the empty dict shown; a call of a def that an expression tells; zip of two tuples; tests ahead of a refusal -/
namespace DL
open PySem PySem.Spec PyProof.Rows L2
def rReprY (K : PySem.W.Frag) : List V → Hp → VK → Prop := fun xs H Q => rReprZ K xs H Q ∨ ∃ a, xs = [.ref a] ∧ H a = some (.dK []) ∧ Q (.str (PyData.dict []).shown) H
theorem call_reprY {X : Cx} (hgd : X.A.guards = some []) (hu : X.A.units + 64 < cLine) : CallR X (.builtin "repr") (rReprY X.K) := by
  intro pins s σ H xs us Q I r h
  rcases h with h | ⟨a, rfl, ha, q⟩
  · exact call_reprZ hgd hu pins s σ H xs us Q I r h
  · obtain ⟨u, rfl, ru⟩ := vals1 r
    cases ru
    obtain ⟨_, ns, vs, kv, o, es, ep, ho, ⟨hc, hd0, hs0⟩, hd, _, hp, _⟩ := dk_of I.hok ha
    cases kv
    have he : es.toList = [] := by
      cases e : es.toList with
      | nil => rfl
      | cons x r => rw [e] at hp; cases hp
    have rd : Reads s.heap (.ref a) (.dict []) (a :: [] ++ []) := Reads.dict ho hc hd (by rw [he]; exact ReadsAll.nil) (by rw [he]; exact ReadsAll.nil)
    have dep : X.A.units + ((PyData.dict []).depth + 1) < cLine := by
      have : (PyData.dict []).depth + 1 ≤ 64 := by decide +kernel
      omega
    refine repr_of_reads' rd (by decide +kernel) (fun _ z => ?_) hgd dep (fun b o e => e) (fun h' u tk hk => ?_) (by decide +kernel)
    · have : sysModules = a := by simpa using z
      rw [this] at ns
      simp at ns
    · exact ⟨.str (PyData.dict []).shown, H, I.kept (t' := tk) hk, ⟨u, rfl⟩, q⟩
section
variable {K : PySem.W.Frag} {S : Stt} {ρ : Rho} {Φ : PyData → Rho → Prop} {Ψ : PyData → Prop}
theorem dc_reprY {d : PyData} {L D : Nat} (h : Rs L D d) (h1 : L ≤ sizeLine) (h2 : D ≤ 50) (f : Ψ (.str d.shown)) : DC K (rReprY K) [d] Ψ := fun N H hN us hu Q q => .inl (dc_reprZ h h1 h2 f N H hN us hu Q q)
theorem dc_reprE (f : Ψ (.str (PyData.dict []).shown)) : DC K (rReprY K) [.dict []] Ψ := fun N H hN us hu Q q => by
  cases hu with
  | cons a1 a2 =>
    cases a2
    have h2 := a1
    cases a1 with
    | dct h => exact .inr ⟨_, rfl, (wo_some h).2, q _ _ H f (Same.refl H) (Dt.str _)⟩
/-- the empty dict as a datum -/
theorem wd_dnewE (f : Φ (.dict []) ρ) : WD K S tDNewK ρ Φ := fun H0 N0 Z N σ H E Q q p hp => by
  have s := same_new hp (.dK [])
  exact q _ _ ρ _ f (E.ext s) (Keep.of s) (Dt.dct (by rw [wo_in (fresh_av E.trk hp)]; exact upd_same))
/-! ### zip of two tuples -/
theorem src_zipT {a b : Addr} {ds es : List PyData} : Src K (RZ.ItzT K a b) [.dat (.ref a) (.tuple ds), .dat (.ref b) (.tuple es)] (List.zipWith (fun x y => PyData.tuple [x, y]) ds es) := fun S H0 N0 Z N σ H ρ E => by
  obtain ⟨p, xs, e, _, hr, ha⟩ := Dq.tup_inv (E.hid _ List.mem_cons_self)
  obtain ⟨p2, ys, e2, _, hr2, ha2⟩ := Dq.tup_inv (E.hid _ (List.mem_cons_of_mem _ List.mem_cons_self))
  cases e; cases e2
  refine ⟨fun k d hd => ?_, xs, ys, hr, hr2, by rw [ha.len, ha2.len, List.length_zipWith]; omega⟩
  rw [List.getElem?_zipWith] at hd
  cases h1 : ds[k]? with
  | none => rw [h1] at hd; cases hd
  | some d1 =>
    cases h2 : es[k]? with
    | none => rw [h1, h2] at hd; cases hd
    | some d2 =>
      rw [h1, h2] at hd
      cases hd
      obtain ⟨y1, hy1, hyd1⟩ := ha.get h1
      obtain ⟨y2, hy2, hyd2⟩ := ha2.get h2
      refine ⟨⟨xs, ys, y1, y2, hr, hr2, hy1, hy2⟩, fun v H' ⟨T, x, y, e1, e2, e3, e4, e5⟩ => ?_⟩
      subst e1; subst e3
      have ex : x = y1 := Option.some.inj ((e4 xs hr).symm.trans hy1)
      have ey : y = y2 := Option.some.inj ((e5 ys hr2).symm.trans hy2)
      subst ex; subst ey
      have s := same_new e2 (.tup [x, y])
      exact ⟨s, Dq.tup (fresh_av E.trk e2) upd_same (DqAll.cons (hyd1.keep (Keep.of s)) (DqAll.cons (hyd2.keep (Keep.of s)) DqAll.nil))⟩
theorem wi_zipT {ta : TA} {Θ : List PyData → Rho → Prop} (h : WA K S ta ρ fun xs ρ1 => ∃ ds es, xs = [.tuple ds, .tuple es] ∧ Θ (List.zipWith (fun x y => PyData.tuple [x, y]) ds es) ρ1) : WI K S (RZ.iZipA K ta) ρ Θ := fun H0 N0 Z N σ H E R q =>
  h H0 N0 Z N σ H E _ fun vs xs ρ1 H1 ⟨ds, es, e, f⟩ E1 k1 d1 => by
    subst e
    cases d1 with
    | cons d1 d2 =>
      cases d2 with
      | cons d2 d3 =>
        cases d3
        obtain ⟨p, xs, rfl, hw, hr, ha⟩ := Dq.tup_inv d1
        obtain ⟨p2, ys, rfl, hw2, hr2, ha2⟩ := Dq.tup_inv d2
        exact ⟨p, p2, xs, ys, rfl, .inr ⟨hr, hr2, q _ _ _ ρ1 H1 f src_zipT (fun p es h => by simp at h) ((E1.push d2).push d1) k1⟩⟩
/-- a test ahead of a refusal -/
theorem ts_if {tt : TT} {A B : TS} {D : Ends} {H0 : Hp} {N0 N : Av} {Z : List Hd} {σ : L2.St} {H : Hp} (c : Bool) (h : WT K S tt ρ fun b ρ1 => b = c ∧ ρ1 = ρ) (En : EnvD K S H0 N0 Z N σ H ρ)
    (k : ∀ H1, EnvD K S H0 N0 Z N σ H1 ρ → (if c = true then A D σ H1 else B D σ H1)) : tIfS tt A B D σ H :=
  h H0 N0 Z N σ H En _ fun b ρ1 H1 ⟨e1, e2⟩ E1 k1 => by subst e1; subst e2; exact k H1 E1
end
/-! ### a def that an expression tells, called -/
def tCallE (S : Addr → Sp → Prop) (E : L2.St → XK) (tf : TE) (t : TA) : TE := fun σ H Q => tf σ H fun v H1 => ∃ f sp, v = .ref f ∧ S f sp ∧ t σ H1 fun vs H2 => sp vs H2 Q (E σ)
section
variable {X : Cx} {CX : CXT} {k : Nat} {S : Addr → Sp → Prop} {E : L2.St → XK} {pos : Pos} {fe e : Expr} {es : List Expr} {tf : TE} {t : TA}
theorem pe_callE (A : ∀ f sp, S f sp → HeldS X.prog X.w X.K X.mg X.base CX k f sp) (hr : Room k X.A) (hx : ∀ σ, PassesAt CX X σ (E σ)) (hf : PE X fe tf) (ha : PA X (e :: es) t)
    (hc : eval (.Call fe (e :: es) [] pos) X.env = (do callWith pos (← eval fe X.env) [] (backTo pos (starEach (e :: es) X.env)) (backToKw pos (keywordEach [] X.env))) := by rfl)
    (he : starEach (e :: es) X.env = (false, eval e X.env) :: starEach es X.env := by rfl) (hpl : (backTo pos (starEach es X.env)).any (·.1) = false := by rfl) : PE X (.Call fe (e :: es) [] pos) (tCallE S E tf t) := by
  refine ⟨fun pins s σ H Q I h => ?_⟩
  refine Call_ (thn (hf.run pins s σ H _ I h) fun u s1 ⟨v, H1, I1, r1, f, sp, ev, hS, ht⟩ => ?_) hc
  subst ev
  cases r1
  obtain ⟨fd, ps, ds, dvs, sp0, F, hk, hb, hd, imp⟩ := (A f sp hS).ex
  refine PySem.W.callWith_K (h₀ := X.base) I.ok.mod.kin hk (thn (ha.run pos pins s1 σ _ _ I1 ht) fun us s2 ⟨vs, H2, I2, r, q⟩ => ⟨I2.kIn, ?_⟩) he hpl
  exact run_fnSD F hr hb hd (hx σ) I2 r (imp _ _ _ _ q)
end
end DL

set_option Elab.async false
set_option linter.all false
set_option maxRecDepth 100000
set_option maxHeartbeats 4000000
/-! DMZ: zip of a list and a tuple -/
namespace DL
open PySem PySem.Spec PyProof.Rows L2
/-- what the walk of zip(list at a, tuple at b) does -/
def ItzM (K : PySem.W.Frag) (a b : Addr) : It where
  go k H := ∃ (us vs : List V) (u v : V), SqL K H a us ∧ SqT K H b vs ∧ us[k]? = some u ∧ vs[k]? = some v
  yld k H r H' := ∃ p u v, r = .ref p ∧ H p = none ∧ H' = upd H p (.tup [u, v]) ∧ (∀ us, SqL K H a us → us[k]? = some u) ∧ ∀ vs, SqT K H b vs → vs[k]? = some v
  stop k H := ∃ us vs : List V, SqL K H a us ∧ SqT K H b vs ∧ k ≤ us.length ∧ k ≤ vs.length ∧ (us.length = k ∨ vs.length = k)
/-- how its five cells stand from n on -/
def ZmAt (n a b : Nat) (k : Nat) (h : Heap) : Prop := IsZip h (n + 4) (n + 2) (n + 3) .none ∧ IsTupOf2 h (n + 2) (.ref n) (.ref (n + 1)) ∧ (∃ u v, IsTupOf2 h (n + 3) u v) ∧ h.IsListIter n a k ∧ h.IsTupleIter (n + 1) b k
abbrev zmC (n : Nat) : List Addr := [n + 4, n + 2, n + 3, n, n + 1]
theorem zmC_of {n c : Nat} (h : c ∈ zmC n) : c = n + 4 ∨ c = n + 2 ∨ c = n + 3 ∨ c = n ∨ c = n + 1 := by simpa using h
theorem ad {x y : Nat} (h : x ≠ y) : (show Addr from x) ≠ (show Addr from y) := h
theorem no2 {x y z : Nat} (h1 : x ≠ y) (h2 : x ≠ z) : (show Addr from x) ∉ ([y, z] : List Addr) := fun h => by
  rcases List.mem_cons.mp h with e | e
  · exact h1 e
  · exact h2 (List.mem_singleton.mp e)
theorem zm_sep {n a b : Nat} (ha : a < n) (hb : b < n) : ZipSep2 (n + 4) (n + 2) (n + 3) n (n + 1) [n, a] [n + 1, b] := by
  exact ⟨ad (by omega), ad (by omega), ad (by omega), ad (by omega), List.mem_cons_self, no2 (by omega) (by omega), no2 (by omega) (by omega), ad (by omega), List.mem_cons_self, no2 (by omega) (by omega), no2 (by omega) (by omega), no2 (by omega) (by omega), no2 (by omega) (by omega)⟩
theorem turn_zipM {P : Program} {w : World} {K : PySem.W.Frag} {el : List Expr} {ek : Nat} {ep : Pos} {n a b : Nat} (ha : a < n) (hb : b < n) :
    Turn P w K (.Tuple el ek ep) (ItzM K a b) (zmC n) (n + 4) (ZmAt n a b) where
  mem := List.mem_cons_self
  obj := fun k h z c hc => by
    obtain ⟨z1, z2, ⟨u, v, z3⟩, ⟨o1, f1, _, m1⟩, ⟨o2, f2, _, m2⟩⟩ := z
    rcases zmC_of hc with e | e | e | e | e
    · subst e; exact ⟨_, z1, fun _ j => nomatch j⟩
    · subst e; exact ⟨_, z2, fun _ j => nomatch j⟩
    · subst e; exact ⟨_, z3, fun _ j => nomatch j⟩
    · subst e; exact ⟨o1, f1, fun _ j => by rw [m1] at j; cases j⟩
    · subst e; exact ⟨o2, f2, fun _ j => by rw [m2] at j; cases j⟩
  keep := fun k h g z st => by
    obtain ⟨z1, z2, ⟨u, v, z3⟩, z4, z5⟩ := z
    exact ⟨st (n + 4) (by simp) _ z1, st (n + 2) (by simp) _ z2, ⟨u, v, st (n + 3) (by simp) _ z3⟩, z4.at fun o j => st n (by simp) o j, z5.at fun o j => st (n + 1) (by simp) o j⟩
  item := by
    intro X eP ew eK calm k pn s σ H Ex I fr z hg
    subst eP; subst ew; subst eK
    obtain ⟨z1, z2, ⟨u0, v0, z3⟩, z4, z5⟩ := z
    obtain ⟨us, vs, u, v, qa, qb, hu, hv⟩ := hg
    obtain ⟨as, ra, pa, _⟩ := I.list qa
    obtain ⟨bs, rb, pb, _⟩ := I.tuple qb
    obtain ⟨x, hx, rx⟩ := ra.get hu
    obtain ⟨y, hy, ry⟩ := rb.get hv
    have no : X.A.in1.handled = none := I.ok.hd calm
    have lx : k < as.toArray.size := by have := (List.getElem?_eq_some_iff.mp hx).1; simpa using this
    have ly : k < bs.toArray.size := by have := (List.getElem?_eq_some_iff.mp hy).1; simpa using this
    refine wpAny_pyNext_zipD2_item (zm_sep ha hb) (Draws.list no n a (ad (by omega)) as.toArray) (Draws.tuple no (n + 1) b (ad (by omega)) bs.toArray) z1 z2 z3 ⟨z4, pa.isList⟩ ⟨z5, pb⟩ lx ly fun x1 y1 h1 t1 ex ey c1 c2 c3 c4 c5 c6 ck => ?_
    obtain rfl : x1 = x := Option.some.inj (ex.symm.trans (by simpa using hx))
    obtain rfl : y1 = y := Option.some.inj (ey.symm.trans (by simpa using hy))
    have big : n + 4 < s.heap.objs.size := Heap.lt_size z1
    refine ⟨_, rfl, wpAny_letOwnedTupleGo_zip (s := { s with heap := h1, toks := t1 }) c1 fun h2 d1 sb => ?_⟩
    have e2 : h2.get? s.heap.objs.size = some { cls := .type "tuple", data := .seq #[x1, y1] } := (sb.2 _ (Nat.ne_of_gt big)).trans c5
    have fresh : ObjOk X.prog X.w (upd H s.heap.objs.size (.tup [u, v])) h2 s.heap.objs.size (.tup [u, v]) :=
      ⟨by show 2 ≤ sizeLine; decide, [x1, y1], .cons rx (.cons ry .nil), ⟨_, e2, rfl, _, rfl⟩⟩
    have J : L2.Inv X pn σ (upd H s.heap.objs.size (.tup [u, v])) { s with heap := h2, toks := t1 } :=
      I.turnedNew (t' := t1) (ch := zmC n) (fun c o out q => (sb.2 c (fun j => out (by simp [j]))).trans (ck c o (fun j => out (by simp [j])) (fun j => out (by simp [j])) (fun j => out (by simp [j])) (fun j => out (by simp [j])) q)) fr (Nat.le_refl _) fresh
    refine ⟨.ref s.heap.objs.size, _, J, rfl, ⟨_, u, v, rfl, I.hok.fresh (Nat.le_refl _), rfl, fun l hl => by rw [I.list_inj hl qa]; exact hu, fun l hl => by rw [I.tuple_inj hl qb]; exact hv⟩, ⟨d1, ?_, ⟨x1, y1, ?_⟩, ?_, ?_⟩, fun c hc => ?_⟩
    · exact (sb.2 _ (ad (by omega))).trans (ck _ _ (ad (by omega)) (ad (by omega)) (ad (by omega)) (ad (by omega)) z2)
    · exact (sb.2 _ (ad (by omega))).trans c2
    · exact c3.1.at fun o q => (sb.2 _ (ad (by omega))).trans q
    · exact c4.1.at fun o q => (sb.2 _ (ad (by omega))).trans q
    · have small : c < s.heap.objs.size := by
        rcases zmC_of hc with e | e | e | e | e
        · rw [e]; exact big
        · rw [e]; exact Nat.lt_of_le_of_lt (Nat.add_le_add_left (by decide) n) big
        · rw [e]; exact Nat.lt_of_le_of_lt (Nat.add_le_add_left (by decide) n) big
        · rw [e]; exact Nat.lt_of_le_of_lt (Nat.le_add_right n 4) big
        · rw [e]; exact Nat.lt_of_le_of_lt (Nat.add_le_add_left (by decide) n) big
      rw [upd_ne (Nat.ne_of_lt small)]
      exact (fr c hc).1
  done := by
    intro X eP ew eK calm k pn s σ H Ex I fr z hg
    subst eP; subst ew; subst eK
    obtain ⟨z1, z2, ⟨u0, v0, z3⟩, z4, z5⟩ := z
    obtain ⟨us, vs, qa, qb, n1, n2, ends⟩ := hg
    obtain ⟨as, ra, pa, _⟩ := I.list qa
    obtain ⟨bs, rb, pb, _⟩ := I.tuple qb
    have no : X.A.in1.handled = none := I.ok.hd calm
    have la := ra.length
    have lb := rb.length
    have i1 : k ≤ as.toArray.size := by rw [List.size_toArray]; omega
    have i2 : k ≤ bs.toArray.size := by rw [List.size_toArray]; omega
    refine wpAny_pyNext_zipD2_end (zm_sep ha hb) (Draws.list no n a (ad (by omega)) as.toArray) (Draws.tuple no (n + 1) b (ad (by omega)) bs.toArray) z1 z2 z3 ⟨z4, pa.isList⟩ ⟨z5, pb⟩ i1 i2 (by rw [List.size_toArray, List.size_toArray]; omega) fun h1 t1 ck => ?_
    exact ⟨rfl, I.turnedL (t' := t1) (ch := zmC n) (fun c o out q => ck c o (fun j => out (by simp [j])) (fun j => out (by simp [j])) (fun j => out (by simp [j])) (fun j => out (by simp [j])) q) fr⟩
  self := fun A k s Q Ex z q => wpAny_pyIter_zip z.1 q
/-- zip(list, tuple) -/
def iZipM (K : PySem.W.Frag) (ta : TA) : TI := fun σ H R => ta σ H fun vs H1 => ∃ a b us ws, vs = [.ref a, .ref b] ∧ SqL K H1 a us ∧ SqT K H1 b ws ∧ R (ItzM K a b) H1
theorem pi_zipM {X : Cx} {e1 e2 : Expr} {ta : TA} {p p2 ep : Pos} {el : List Expr} {ek : Nat} (hg : Gl X "zip") (hm : X.mg "zip" = none) (ha : PA X [e1, e2] ta)
    (hs : starEach [e1, e2] X.env = (false, eval e1 X.env) :: starEach [e2] X.env := by rfl) (hl : (backTo p2 (starEach [e2] X.env)).any (·.1) = false := by rfl) :
    L2.PI X (.Tuple el ek ep) (.Call (.Name "zip" p) [e1, e2] [] p2) (iZipM X.K ta) := by
  refine ⟨fun pn s σ H R I h => Call_ (ld_blt I hg hm PyProof.Rows.boot_zip (PyProof.Rows.callWith_type1 (thn (ha.run p2 pn s σ H _ I h) fun xs s1 ⟨vs, H1, J, rv, a, b, us, ws, ev, qa, qb, q⟩ => ?_) hs hl))⟩
  subst ev
  obtain ⟨x1, x2, rfl, r1, r2⟩ := vals2 rv
  cases r1
  cases r2
  obtain ⟨as, _, pa, _⟩ := J.list qa
  obtain ⟨bs, _, pb, _⟩ := J.tuple qb
  have la : a < s1.heap.objs.size := pa.lt
  have lb : b < s1.heap.objs.size := by obtain ⟨o, ho, _⟩ := id pb; exact Heap.lt_size ho
  have cells : ∀ c, c ∈ zmC s1.heap.objs.size → FpOk X pn H1 c := fun c hc => by
    have low : s1.heap.objs.size ≤ c := by
      rcases zmC_of hc with e | e | e | e | e
      · rw [e]; exact Nat.le_add_right _ _
      · rw [e]; exact Nat.le_add_right _ _
      · rw [e]; exact Nat.le_add_right _ _
      · rw [e]; exact Nat.le_refl _
      · rw [e]; exact Nat.le_add_right _ _
    exact J.fpOk low (J.hok.fresh low)
  refine zip_begins2 (begins_list a as.toArray) (begins_tuple b bs.toArray) pa.isList pb fun h' d1 d2 d3 d4 d5 d6 dk => wpAny_pyIter_zip d1 ?_
  have J2 : L2.Inv X pn σ H1 { s1 with heap := h' } := J.kept (t' := s1.toks) dk
  exact ⟨s1.heap.objs.size + 4, zmC s1.heap.objs.size, _, _, H1, rfl, J2, turn_zipM la lb, ⟨d1, d2, ⟨_, _, d3⟩, ⟨_, d4, rfl, rfl⟩, ⟨_, d5, rfl, rfl⟩⟩, cells, q⟩
section
variable {K : PySem.W.Frag} {S : Stt} {ρ : Rho}
theorem src_zipM {a b : Addr} {ds es : List PyData} : Src K (ItzM K a b) [.dat (.ref a) (.list ds), .dat (.ref b) (.tuple es)] (List.zipWith (fun x y => PyData.tuple [x, y]) ds es) := fun S H0 N0 Z N σ H ρ E => by
  obtain ⟨p, xs, e, _, hr, ha⟩ := Dq.lst_inv (E.hid _ List.mem_cons_self)
  obtain ⟨p2, ys, e2, _, hr2, ha2⟩ := Dq.tup_inv (E.hid _ (List.mem_cons_of_mem _ List.mem_cons_self))
  cases e; cases e2
  have n1 := ha.len
  have n2 := ha2.len
  refine ⟨fun k d hd => ?_, xs, ys, .inl hr, hr2, by rw [List.length_zipWith]; omega, by rw [List.length_zipWith]; omega, by rw [List.length_zipWith]; omega⟩
  rw [List.getElem?_zipWith] at hd
  cases h1 : ds[k]? with
  | none => rw [h1] at hd; cases hd
  | some d1 =>
    cases h2 : es[k]? with
    | none => rw [h1, h2] at hd; cases hd
    | some d2 =>
      rw [h1, h2] at hd
      cases hd
      obtain ⟨y1, hy1, hyd1⟩ := ha.get h1
      obtain ⟨y2, hy2, hyd2⟩ := ha2.get h2
      refine ⟨⟨xs, ys, y1, y2, .inl hr, hr2, hy1, hy2⟩, fun v H' ⟨T, x, y, e1, e2, e3, e4, e5⟩ => ?_⟩
      subst e1; subst e3
      have ex : x = y1 := Option.some.inj ((e4 xs (.inl hr)).symm.trans hy1)
      have ey : y = y2 := Option.some.inj ((e5 ys hr2).symm.trans hy2)
      subst ex; subst ey
      have s := same_new e2 (.tup [x, y])
      exact ⟨s, Dq.tup (fresh_av E.trk e2) upd_same (DqAll.cons (hyd1.keep (Keep.of s)) (DqAll.cons (hyd2.keep (Keep.of s)) DqAll.nil))⟩
theorem wi_zipM {ta : TA} {Θ : List PyData → Rho → Prop} (h : WA K S ta ρ fun xs ρ1 => ∃ ds es, xs = [.list ds, .tuple es] ∧ Θ (List.zipWith (fun x y => PyData.tuple [x, y]) ds es) ρ1) : WI K S (iZipM K ta) ρ Θ := fun H0 N0 Z N σ H E R q =>
  h H0 N0 Z N σ H E _ fun vs xs ρ1 H1 ⟨ds, es, e, f⟩ E1 k1 d1 => by
    subst e
    cases d1 with
    | cons d1 d2 =>
      cases d2 with
      | cons d2 d3 =>
        cases d3
        obtain ⟨p, xs, rfl, hw, hr, ha⟩ := Dq.lst_inv d1
        obtain ⟨p2, ys, rfl, hw2, hr2, ha2⟩ := Dq.tup_inv d2
        exact ⟨p, p2, xs, ys, rfl, .inl hr, hr2, q _ _ _ ρ1 H1 f src_zipM (fun p es h => by simp at h) ((E1.push d2).push d1) k1⟩
end
end DL

set_option Elab.async false
set_option linter.all false
set_option maxRecDepth 100000
set_option maxHeartbeats 4000000
/-! PQ7: law k44 -/
namespace DL
open PySem PySem.Spec PyProof.Rows L2
theorem nn44 {q : Rat} : (q.num < 0) ↔ ¬ 0 ≤ q := by rw [← Rat.num_nonneg]; omega
theorem pp44 {q : Rat} : q.num > 0 ↔ 0 < q := by
  have h := Rat.num_nonneg (q := -q)
  have e : (-q).num = -q.num := rfl
  rw [e] at h
  constructor
  · intro g
    by_cases z : 0 < q
    · exact z
    · have := h.mpr (by grind); omega
  · intro g
    by_cases z : q.num > 0
    · exact z
    · have := h.mp (by omega); grind
/-- what a payday keeps -/
structure StepF (sh t : Rat) (s : P3) : Prop where
  a : 0 ≤ (prow sh s t).1
  b : 0 ≤ (prow sh s t).2.2
  c : ¬ (prow sh s t).2.1 < s.2.1
  d : (prow sh s t).2.1 = s.2.1 + (prow sh s t).1
  e : (prow sh s t).2.1 = t + (prow sh s t).2.2
  f : 0 < t - s.1 → ¬ (prow sh s t).1 < t - s.1 - sh * (t - s.1)
  g : t - s.1 ≤ 0 → (prow sh s t).1 = 0
theorem PI.step {R k : Nat} {sh t : Rat} {s : P3} (h : PI R k s) (g : ShOk R sh) (ht : Tot t) : StepF sh t s := by
  have nx := h.next g ht
  have nn := now_nn (t := t) h g
  have e1 : (pstep sh s t).2.1 = (prow sh s t).2.1 := rfl
  have e2 : (pstep sh s t).2.2 = (prow sh s t).2.2 := rfl
  have d : (prow sh s t).2.1 = s.2.1 + (prow sh s t).1 := rfl
  have sm : (prow sh s t).2.1 = t + (prow sh s t).2.2 := nx.sum
  have d0 : 0 ≤ (prow sh s t).2.2 := nx.d0
  rw [e1] at nn
  have en : (prow sh s t).1 = t - s.1 - keptR sh (t - s.1) s.2.2 := rfl
  refine ⟨by grind, d0, by grind, d, sm, fun hn => ?_, fun hn => ?_⟩
  · rw [en]
    unfold keptR
    rw [if_neg (by grind)]
    split <;> grind
  · rw [en]
    unfold keptR
    rw [if_pos hn]; grind
/-- by share one paid in all is the greatest so far -/
theorem one_max {k R : Nat} {t : Rat} {s : P3} (h : PI R k s) : (pstep 1 s t).2.1 = if s.2.1 < t then t else s.2.1 := by
  have sm := h.sum
  have d0 := h.d0
  show s.2.1 + (t - s.1 - keptR 1 (t - s.1) s.2.2) = _
  unfold keptR
  rw [Rat.one_mul]
  split
  · rw [if_neg (by grind)]; grind
  · split
    · rw [if_neg (by grind)]; grind
    · by_cases c : s.2.1 < t
      · rw [if_pos c]; grind
      · rw [if_neg c]; grind
/-- a total told twice -/
theorem twice_row {sh t : Rat} {s : P3} : prow sh (pstep sh s t) t = (0, (pstep sh s t).2.1, (pstep sh s t).2.2) := by
  have e0 : t - (pstep sh s t).1 = 0 := by show t - t = 0; grind
  unfold prow
  rw [e0]
  have k0 : keptR sh 0 (pstep sh s t).2.2 = 0 := by unfold keptR; rw [if_pos Rat.le_refl]
  rw [k0]
  have z : (0 : Rat) - 0 = 0 := by grind
  rw [z, Rat.add_zero, show (pstep sh s t).2.2 - 0 = (pstep sh s t).2.2 by grind]
def TKeptR : List PyData → (PyData → Prop) → Prop := fun ds Φ => ∃ (ts : List Rat) (sh : Rat) (R : Nat), ds = [.list (ts.map qp), qp sh, rwD sh ts] ∧ ShOk R sh ∧ ts.length ≤ 130 ∧ (∀ t ∈ ts, Tot t) ∧ Φ (.bool true)
def TGreat : List PyData → (PyData → Prop) → Prop := fun ds Φ => ∃ (ts : List Rat), ds = [.list (ts.map qp)] ∧ ts.length ≤ 130 ∧ (∀ t ∈ ts, Tot t) ∧ Φ (.list ((pRw 1 ts).map fun x => qp x.2.1))
local macro_rules | `(tactic| walk_at "dl") => `(tactic| repeat' (first
  | with_reducible refine wd_isTy ?_ | with_reducible refine wd_isi ?_ | ((with_reducible show WD _ _ (tOp (rIxL _) (tVar _) _) _ _); refine wd_ix_own rfl ?_) | with_reducible refine wd_op ?_ | ((with_reducible show WD _ _ (tCB (rLenX _) (tCons (tVar _) tNil)) _ _); refine wd_len_scr rfl ?_) | ((with_reducible show WD _ _ (tCB (rLenX _) (tCons (tVar _) tNil)) _ _); refine wd_len_own rfl ?_) | with_reducible refine wd_cb ?_ | with_reducible refine wd_un ?_ | with_reducible refine wa_cons ?_ | with_reducible refine wa_nil ?_ | ((with_reducible show WD _ _ (tVar _) _ _); refine wd_var rfl ?_) | with_reducible refine wd_int ?_ | with_reducible refine wd_bl ?_ | with_reducible refine wd_str ?_ | with_reducible refine wd_non ?_
  | with_reducible refine do_nesS ?_ | with_reducible refine dc_intB ?_ | with_reducible refine do_add ?_ | with_reducible refine do_sub ?_ | ((with_reducible refine do_mod ?_ ?_); decide) | with_reducible refine do_mod ?_ ?_ | with_reducible refine do_mul ?_ ?_ | ((with_reducible refine do_div ?_ ?_); exact ⟨by decide, by decide⟩) | with_reducible refine do_div ?_ ?_ | ((with_reducible refine do_pow ?_ ?_); exact ⟨by decide, by decide, by decide⟩) | with_reducible refine do_pow ?_ ?_
  | with_reducible refine do_lt ?_ | with_reducible refine do_le ?_ | with_reducible refine do_gt ?_ | with_reducible refine do_ge ?_ | with_reducible refine du_neg ?_
  | with_reducible refine do_eqi ?_ | with_reducible refine do_nei ?_ | with_reducible refine do_eqs ?_ | with_reducible refine do_nes ?_ | with_reducible refine dc_abs ?_ | with_reducible refine dc_min ?_ | with_reducible refine dc_max ?_ | with_reducible refine dc_lenL ?_ | with_reducible refine dc_lenT ?_ | with_reducible refine dc_lenR ?_ | with_reducible refine dc_listT ?_ | with_reducible refine dc_listL ?_ | with_reducible refine dc_tupL ?_ | with_reducible refine dc_gcd ?_
  | ((with_reducible show DO _ (rIxT _) _ _ _); refine do_ixT rfl ?_) | ((with_reducible show DO _ (rIxL _) _ _ _); refine do_ixL rfl ?_) | ((with_reducible refine do_catL ?_ ?_); exact Nat.le_of_ble_eq_true rfl) | with_reducible refine do_catL ?_ ?_ | ((with_reducible show And (List.length _ ≤ sizeLine) _); refine ⟨Nat.le_of_ble_eq_true rfl, ?_⟩)
  | with_reducible refine wd_dnew ?_ | with_reducible refine wd_call0 ?_ | with_reducible refine wd_slA ?_ | with_reducible refine wd_slL ?_ | with_reducible refine wd_revT ?_ | with_reducible refine do_catA ?_ ?_ | with_reducible refine wo_part ?_ | with_reducible refine wo_none ?_ | with_reducible refine do_eqQ ?_ | with_reducible refine do_neQ ?_ | with_reducible refine wi_enumT ?_ | with_reducible refine wi_enumD ?_ | with_reducible refine tAdQ (by omega) (by omega) ?_ | with_reducible refine tSbQ (by omega) (by omega) ?_ | with_reducible refine tMlQ (by omega) (by omega) ?_ | with_reducible refine tDvQ (by assumption) (by omega) (by omega) ?_ | with_reducible refine tLtQ (by omega) (by omega) ?_ | with_reducible refine dc_str ?_ ?_ | with_reducible refine wd_tup ?_ | with_reducible refine wd_lst ?_ | with_reducible refine wt_test ?_ | with_reducible refine wt_B ?_ | with_reducible refine wt_not ?_ | with_reducible refine wt_and ?_ | with_reducible refine wt_or ?_ | with_reducible refine wd_ifE ?_ | with_reducible refine wd_andV ?_ | with_reducible refine wd_orV ?_ | with_reducible refine wd_notV ?_
  | with_reducible refine ws_seq ?_ | with_reducible refine ws_next ?_ | with_reducible refine ws_asg ?_ | with_reducible refine ws_ret ?_ | with_reducible refine ws_retN ?_ | with_reducible refine ws_if ?_ | with_reducible refine ws_par ?_ | with_reducible refine ws_unp2 ?_
  | with_reducible refine if_t ?_ | with_reducible refine if_f ?_ | with_reducible refine if_nf ?_ | with_reducible refine if_nt ?_
  | ((with_reducible show Exists _); first | refine ⟨_, kitInt _, ?_⟩ | refine ⟨_, kitBool _, ?_⟩ | refine ⟨_, kitTup _, ?_⟩ | refine ⟨_, kitList _, ?_⟩ | refine ⟨_, rfl, ?_⟩ | refine ⟨_, _, rfl, ?_⟩ | fail) | fail))
def t_keptR (K : PySem.W.Frag) : TS :=
  (tSeq (tAsg (tTup (tCons (tTup (tCons (tC (.int 0)) (tCons (tC (.int 1)) tNil))) (tCons (tTup (tCons (tC (.int 0)) (tCons (tC (.int 1)) tNil))) (tCons (tTup (tCons (tC (.int 0)) (tCons (tC (.int 1)) tNil))) tNil)))) (gTup K 3 (gCons (gName 3) (gCons (gName 4) (gCons (gName 5) gNil)))))
    (tSeq (tFor (iZipM K (tCons (tVar 0) (tCons (tVar 2) tNil))) (gTup K 2 (gCons (gName 6) (gCons (gName 7) gNil))) (tSeq (tAsg (tVar 7) (gTup K 3 (gCons (gName 8) (gCons (gName 9) (gCons (gName 10) gNil)))))
    (tSeq (tAsg (tCall (spP K TAdQ) [] E0 (tCons (tVar 5) (tCons (tVar 8) tNil))) (gName 5))
    (tSeq (tAsg (tCall (spP K TSbQ) [] E0 (tCons (tVar 6) (tCons (tVar 3) tNil))) (gName 11))
    (tSeq (tIfS (tOr (tTest (tOp rLt (tOp (rIxT K) (tVar 8) (tC (.int 0))) (tC (.int 0)))) (tOr (tTest (tOp rLt (tOp (rIxT K) (tVar 10) (tC (.int 0))) (tC (.int 0)))) (tOr (tB (tCall (spP K TLtQ) [] E0 (tCons (tVar 9) (tCons (tVar 4) tNil)))) (tOr (tTest (tOp (rNeD K) (tVar 9) (tVar 5))) (tTest (tOp (rNeD K) (tVar 9) (tCall (spP K TAdQ) [] E0 (tCons (tVar 6) (tCons (tVar 10) tNil))))))))) (tRet (tC (.bl false))) tNext)
    (tSeq (tIfS (tAnd (tTest (tOp rGt (tOp (rIxT K) (tVar 11) (tC (.int 0))) (tC (.int 0)))) (tB (tCall (spP K TLtQ) [] E0 (tCons (tVar 8) (tCons (tCall (spP K TSbQ) [] E0 (tCons (tVar 11) (tCons (tCall (spP K TMlQ) [] E0 (tCons (tVar 1) (tCons (tVar 11) tNil))) tNil))) tNil))))) (tRet (tC (.bl false))) tNext)
    (tSeq (tIfS (tAnd (tTest (tOp rLe (tOp (rIxT K) (tVar 11) (tC (.int 0))) (tC (.int 0)))) (tTest (tOp (rNeD K) (tVar 8) (tTup (tCons (tC (.int 0)) (tCons (tC (.int 1)) tNil)))))) (tRet (tC (.bl false))) tNext)
    (tPar 3 4 (tCons (tVar 6) (tCons (tVar 9) tNil))))))))))
    (tRet (tC (.bl true)))))
def t_great (K : PySem.W.Frag) : TS :=
  (tSeq (tAsg (tLst tNil) (gName 1))
    (tSeq (tAsg (tTup (tCons (tC (.int 0)) (tCons (tC (.int 1)) tNil))) (gName 2))
    (tSeq (tFor (iList K (tVar 0)) (gName 3) (tSeq (tAsg (tIf (tB (tCall (spP K TLtQ) [] E0 (tCons (tVar 2) (tCons (tVar 3) tNil)))) (tVar 3) (tVar 2)) (gName 2))
    (tDrop (tBM K "list" rAppend (tVar 1) (tCons (tVar 2) tNil)))))
    (tRet (tVar 1)))))
def t_b44 (K : PySem.W.Frag) (aO : Addr) : TS :=
  (tSeq (tAsg (tCallN 1 1 (spP K TPays) gVps E0 (tCons (tVar 3) tNil) (tCons (tVar 4) tNil)) (gName 6))
    (tSeq (tIfS (tOr (tTest (tOp rNe (tCB (rLenX K) (tCons (tVar 6) tNil)) (tCB (rLenX K) (tCons (tVar 3) tNil)))) (tNot (tB (tCall (spP K TKeptR) [] E0 (tCons (tVar 3) (tCons (tVar 4) (tCons (tVar 6) tNil))))))) (tRet (tC (.bl false))) tNext)
    (tSeq (tIfS (tTest (tOp (rNeD K) (tLc (iTup K (tCall (spP K TPays) [.ref aO, .bl false] E0 (tCons (tVar 3) tNil))) (gName 9) tYes (tOp (rIxT K) (tVar 9) (tC (.int 1))) [9]) (tCall (spP K TGreat) [] E0 (tCons (tVar 3) tNil)))) (tRet (tC (.bl false))) tNext)
    (tSeq (tAsg (tCallN 1 1 (spP K TPays) gVps E0 (tCons (tOp rCatL (tVar 3) (tLst (tCons (tVar 5) tNil))) tNil) (tCons (tVar 4) tNil)) (gName 7))
    (tSeq (tIfS (tOr (tTest (tOp (rNeD K) (tSl (rSlA K) (tVar 7) tNoPart (tPart (tUn rNegI (tC (.int 1))))) (tVar 6))) (tNot (tB (tCall (spP K TKeptR) [] E0 (tCons (tOp rCatL (tVar 3) (tLst (tCons (tVar 5) tNil))) (tCons (tVar 4) (tCons (tVar 7) tNil))))))) (tRet (tC (.bl false))) tNext)
    (tSeq (tAsg (tCallN 1 1 (spP K TPays) gVps E0 (tCons (tOp rCatL (tVar 3) (tLst (tCons (tVar 5) (tCons (tVar 5) tNil)))) tNil) (tCons (tVar 4) tNil)) (gName 8))
    (tIfS (tOr (tTest (tOp (rNeD K) (tSl (rSlA K) (tVar 8) tNoPart (tPart (tUn rNegI (tC (.int 1))))) (tVar 7))) (tTest (tOp (rNeD K) (tOp (rIxT K) (tVar 8) (tUn rNegI (tC (.int 1)))) (tTup (tCons (tTup (tCons (tC (.int 0)) (tCons (tC (.int 1)) tNil))) (tCons (tOp (rIxT K) (tOp (rIxT K) (tVar 7) (tUn rNegI (tC (.int 1)))) (tC (.int 1))) (tCons (tOp (rIxT K) (tOp (rIxT K) (tVar 7) (tUn rNegI (tC (.int 1)))) (tC (.int 2))) tNil))))))) (tRet (tC (.bl false))) tNext)))))))
def t_law44 (K : PySem.W.Frag) (aO : Addr) : TS :=
  (tSeq (tFor (iRng1 (tCons (tOp rAddI (tC (.int 6)) (tCB rMinX (tCons (tC (.int 14)) (tCons (tCB (rLenX K) (tCons (tVar 0) tNil)) tNil)))) tNil)) (gName 2) (tSeq (tAsg (tCall (spS K FSto TTotals) [] E0 (tCons (tVar 1) (tCons (tC (.int 40)) tNil))) (gName 3))
    (tSeq (tAsg (tCall (spS K FSto TShareQ) [] E0 (tCons (tVar 1) tNil)) (gName 4))
    (tSeq (tAsg (tCall (spS K FSto TSmallQ) [] E0 (tCons (tVar 1) tNil)) (gName 5))
    (tSeq (tAsg (tCallN 1 1 (spP K TPays) gVps E0 (tCons (tVar 3) tNil) (tCons (tVar 4) tNil)) (gName 6))
    (tSeq (tIfS (tOr (tTest (tOp rNe (tCB (rLenX K) (tCons (tVar 6) tNil)) (tCB (rLenX K) (tCons (tVar 3) tNil)))) (tNot (tB (tCall (spP K TKeptR) [] E0 (tCons (tVar 3) (tCons (tVar 4) (tCons (tVar 6) tNil))))))) (tRet (tC (.bl false))) tNext)
    (tSeq (tIfS (tTest (tOp (rNeD K) (tLc (iTup K (tCall (spP K TPays) [.ref aO, .bl false] E0 (tCons (tVar 3) tNil))) (gName 9) tYes (tOp (rIxT K) (tVar 9) (tC (.int 1))) [9]) (tCall (spP K TGreat) [] E0 (tCons (tVar 3) tNil)))) (tRet (tC (.bl false))) tNext)
    (tSeq (tAsg (tCallN 1 1 (spP K TPays) gVps E0 (tCons (tOp rCatL (tVar 3) (tLst (tCons (tVar 5) tNil))) tNil) (tCons (tVar 4) tNil)) (gName 7))
    (tSeq (tIfS (tOr (tTest (tOp (rNeD K) (tSl (rSlA K) (tVar 7) tNoPart (tPart (tUn rNegI (tC (.int 1))))) (tVar 6))) (tNot (tB (tCall (spP K TKeptR) [] E0 (tCons (tOp rCatL (tVar 3) (tLst (tCons (tVar 5) tNil))) (tCons (tVar 4) (tCons (tVar 7) tNil))))))) (tRet (tC (.bl false))) tNext)
    (tSeq (tAsg (tCallN 1 1 (spP K TPays) gVps E0 (tCons (tOp rCatL (tVar 3) (tLst (tCons (tVar 5) (tCons (tVar 5) tNil)))) tNil) (tCons (tVar 4) tNil)) (gName 8))
    (tIfS (tOr (tTest (tOp (rNeD K) (tSl (rSlA K) (tVar 8) tNoPart (tPart (tUn rNegI (tC (.int 1))))) (tVar 7))) (tTest (tOp (rNeD K) (tOp (rIxT K) (tVar 8) (tUn rNegI (tC (.int 1)))) (tTup (tCons (tTup (tCons (tC (.int 0)) (tCons (tC (.int 1)) tNil))) (tCons (tOp (rIxT K) (tOp (rIxT K) (tVar 7) (tUn rNegI (tC (.int 1)))) (tC (.int 1))) (tCons (tOp (rIxT K) (tOp (rIxT K) (tVar 7) (tUn rNegI (tC (.int 1)))) (tC (.int 2))) tNil))))))) (tRet (tC (.bl false))) tNext)))))))))))
    (tRet (tC (.bl true))))
section
variable {K : PySem.W.Frag} {ds : List PyData} {Φ : PyData → Prop}
theorem ws_keptR (h : TKeptR ds Φ) : WS K S0 (t_keptR K) (rhoOf 12 ds) { nx := fun _ => Φ .none, rt := fun d _ => Φ d } := by
  obtain ⟨ts, sh, R, rfl, hs, hl, ht, hΦ⟩ := h
  show WS K S0 (t_keptR K) [.dat (.list (ts.map qp)), .dat (qp sh), .dat (.tuple ((pRw sh ts).map p3D)), .unk, .unk, .unk, .unk, .unk, .unk, .unk, .unk, .unk] _
  unfold t_keptR
  refine ws_seq (ws_unp3 ?_)
  walk_at "dl"
  rw [qp01]
  refine ⟨_, _, _, rfl, ?_⟩
  refine ws_seq (ws_for (wi_zipM (wa_cons (wd_var rfl (wa_cons (wd_var rfl (wa_nil ⟨_, _, rfl, fun k ρ => ∃ (s6 s7 s8 s9 s10 s11 : Sl), ρ = [.dat (.list (ts.map qp)), .dat (qp sh), .dat (.tuple ((pRw sh ts).map p3D)), .dat (qp (pS sh (ts.take k)).1), .dat (qp (pS sh (ts.take k)).2.1), .dat (qp (pS sh (ts.take k)).2.1), s6, s7, s8, s9, s10, s11], ⟨_, _, _, _, _, _, rfl⟩, ?_, ?_⟩)))))))
  · rintro k d ρ2 hd ⟨s6, s7, s8, s9, s10, s11, rfl⟩
    rw [List.getElem?_zipWith, List.getElem?_map, List.getElem?_map, pRw_get] at hd
    obtain ⟨t, htk⟩ : ∃ t, ts[k]? = some t := by
      cases e : ts[k]? with
      | none => rw [e] at hd; cases hd
      | some t => exact ⟨t, rfl⟩
    rw [htk] at hd
    cases hd
    have hk : k < ts.length := (List.getElem?_eq_some_iff.mp htk).1
    have hT := ht t (List.mem_of_getElem? htk)
    have pi := PI.run hs ht k (by omega)
    have Z := pi.sizes hs hT (by omega)
    have F := pi.step hs hT
    have eS := pS_take (sh := sh) htk
    have z1 := Z.all; have z2 := Z.now; have z3 := Z.tot; have z4 := Z.last; have z5 := Z.all2; have z6 := Z.debt2; have z7 := Z.new; have z8 := Z.shn; have z9 := Z.now2
    have zs : sz sh ≤ 1640 := by
      have := hs.sz; omega
    refine ⟨_, _, gd_pair, ?_⟩
    show WS K S0 _ [.dat (.list (ts.map qp)), .dat (qp sh), .dat (.tuple ((pRw sh ts).map p3D)), .dat (qp (pS sh (ts.take k)).1), .dat (qp (pS sh (ts.take k)).2.1), .dat (qp (pS sh (ts.take k)).2.1), .dat (qp t), .dat (p3D (prow sh (pS sh (ts.take k)) t)), s8, s9, s10, s11] _
    have w1 : sz (prow sh (pS sh (ts.take k)) t).1 ≤ 1640 := z2
    have w2 : sz (prow sh (pS sh (ts.take k)) t).2.1 ≤ 1640 := z5
    have w3 : sz (prow sh (pS sh (ts.take k)) t).2.2 ≤ 1640 := z6
    have st1 : (pS sh (ts.take (k + 1))).1 = t := by rw [eS]; rfl
    have st2 : (pS sh (ts.take (k + 1))).2.1 = (prow sh (pS sh (ts.take k)) t).2.1 := by rw [eS]; rfl
    obtain ⟨fa, fb, fc, fd, fe, ff, fg⟩ := F
    clear z2 z5 z6 Z eS pi
    generalize pS sh (ts.take k) = S at *
    generalize prow sh S t = r at *
    obtain ⟨now, here, debt⟩ := r
    dsimp only at *
    refine ws_seq (ws_unp3 (wd_var rfl ⟨qp now, qp here, qp debt, rfl, ?_⟩))
    refine ws_seq (ws_asg (wd_call0 (wa_cons (wd_var rfl (wa_cons (wd_var rfl (wa_nil (tAdQ (by omega) (by omega) ?_))))))))
    rw [← fd]
    refine ws_seq (ws_asg (wd_call0 (wa_cons (wd_var rfl (wa_cons (wd_var rfl (wa_nil (tSbQ (by omega) (by omega) ?_))))))))
    refine ws_seq (ws_if (wt_or (wt_test (wd_op (wd_op (wd_var rfl (wd_int (do_ixT rfl (wd_int (do_lt ⟨_, rfl, ?_⟩))))))))))
    refine if_b (fun q => absurd fa (nn44.mp q)) (fun _ => ?_)
    refine wt_or (wt_test (wd_op (wd_op (wd_var rfl (wd_int (do_ixT rfl (wd_int (do_lt ⟨_, rfl, ?_⟩))))))))
    refine if_b (fun q => absurd fb (nn44.mp q)) (fun _ => ?_)
    refine wt_or (wt_B (wd_call0 (wa_cons (wd_var rfl (wa_cons (wd_var rfl (wa_nil (tLtQ (by omega) (by omega) ⟨_, rfl, ?_⟩))))))))
    refine if_b (fun q => absurd q fc) (fun _ => ?_)
    refine wt_or (wt_test (wd_op (wd_var rfl (wd_var rfl (do_neQ ⟨_, rfl, ?_⟩)))))
    refine if_n (fun q => absurd rfl q) (fun _ => ?_)
    refine wt_test (wd_op (wd_var rfl (wd_call0 (wa_cons (wd_var rfl (wa_cons (wd_var rfl (wa_nil (tAdQ (by omega) (by omega) (do_neQ ⟨_, rfl, ?_⟩))))))))))
    refine if_n (fun q => absurd fe q) (fun _ => ws_next ?_)
    have last : ∀ {s11 : Sl}, WS K S0 (tPar 3 4 (tCons (tVar 6) (tCons (tVar 9) tNil))) [.dat (.list (ts.map qp)), .dat (qp sh), .dat (.tuple ((pRw sh ts).map p3D)), .dat (qp S.1), .dat (qp S.2.1), .dat (qp here), .dat (qp t), .dat (p3D (now, here, debt)), .dat (qp now), .dat (qp here), .dat (qp debt), s11]
        { nx := fun ρ => ∃ (s6 s7 s8 s9 s10 s11 : Sl), ρ = [.dat (.list (ts.map qp)), .dat (qp sh), .dat (.tuple ((pRw sh ts).map p3D)), .dat (qp (pS sh (ts.take (k + 1))).1), .dat (qp (pS sh (ts.take (k + 1))).2.1), .dat (qp (pS sh (ts.take (k + 1))).2.1), s6, s7, s8, s9, s10, s11], rt := fun d _ => Φ d } := fun {s11} => by
      refine ws_par (wa_cons (wd_var rfl (wa_cons (wd_var rfl (wa_nil ⟨_, _, rfl, ?_⟩)))))
      show ∃ (s6 s7 s8 s9 s10 s11 : Sl), _
      rw [st1, st2]
      exact ⟨_, _, _, _, _, _, rfl⟩
    refine ws_seq (ws_if (wt_and (wt_test (wd_op (wd_op (wd_var rfl (wd_int (do_ixT rfl (wd_int (do_gt ⟨_, rfl, ?_⟩))))))))))
    refine if_b (fun q => ?_) (fun q => ?_)
    · have np : 0 < t - S.1 := pp44.mp q
      refine wt_B (wd_call0 (wa_cons (wd_var rfl (wa_cons (wd_call0 (wa_cons (wd_var rfl (wa_cons (wd_call0 (wa_cons (wd_var rfl (wa_cons (wd_var rfl (wa_nil (tMlQ (by omega) (by omega) (wa_nil (tSbQ (by omega) (by omega) (wa_nil (tLtQ (by omega) (by omega) ⟨_, rfl, ?_⟩)))))))))))))))))))
      refine if_b (fun q2 => absurd q2 (ff np)) (fun _ => ws_next ?_)
      refine ws_seq (ws_if (wt_and (wt_test (wd_op (wd_op (wd_var rfl (wd_int (do_ixT rfl (wd_int (do_le ⟨_, rfl, ?_⟩))))))))))
      refine if_b (fun q3 => absurd q3 (by omega)) (fun _ => if_f (ws_next ?_))
      exact last.imp (fun _ h => h) (fun _ _ h => h) (fun _ h => h.elim) (fun _ h => h.elim)
    · have np : t - S.1 ≤ 0 := by
        by_cases z : 0 < t - S.1
        · exact absurd (pp44.mpr z) q
        · grind
      refine if_f (ws_next ?_)
      refine ws_seq (ws_if (wt_and (wt_test (wd_op (wd_op (wd_var rfl (wd_int (do_ixT rfl (wd_int (do_le ⟨_, rfl, ?_⟩))))))))))
      refine if_b (fun _ => ?_) (fun q3 => absurd (show (t - S.1).num ≤ 0 by omega) q3)
      refine wt_test (wd_op (wd_var rfl (wd_tup (wa_cons (wd_int (wa_cons (wd_int (wa_nil ⟨Nat.le_of_ble_eq_true rfl, ?_⟩))))))))
      rw [qp01]
      refine do_neQ ⟨_, rfl, if_n (fun q4 => absurd (fg np) q4) (fun _ => ws_next ?_)⟩
      exact last.imp (fun _ h => h) (fun _ _ h => h) (fun _ h => h.elim) (fun _ h => h.elim)
  · rintro ρ2 ⟨s6, s7, s8, s9, s10, s11, rfl⟩
    exact ws_ret (wd_bl hΦ)
theorem ws_great (h : TGreat ds Φ) : WS K S0 (t_great K) (rhoOf 4 ds) { nx := fun _ => Φ .none, rt := fun d _ => Φ d } := by
  obtain ⟨ts, rfl, hl, ht, hΦ⟩ := h
  show WS K S0 (t_great K) [.dat (.list (ts.map qp)), .unk, .unk, .unk] _
  unfold t_great
  refine ws_seq (ws_own (wa_nil ⟨Nat.zero_le _, ?_⟩))
  refine ws_seq (ws_asg ?_)
  walk_at "dl"
  rw [qp01]
  refine ws_seq (ws_for (wi_list (wd_var rfl ⟨_, rfl, fun k ρ => ∃ s3 : Sl, ρ = [.dat (.list (ts.map qp)), .own ((pRw 1 (ts.take k)).map fun x => qp x.2.1), .dat (qp (pS 1 (ts.take k)).2.1), s3], ⟨_, rfl⟩, ?_, ?_⟩)))
  · rintro k d ρ2 hd ⟨s3, rfl⟩
    rw [List.getElem?_map] at hd
    obtain ⟨t, htk, rfl⟩ := Option.map_eq_some_iff.mp hd
    have hk : k < ts.length := (List.getElem?_eq_some_iff.mp htk).1
    have hT := ht t (List.mem_of_getElem? htk)
    have pi := PI.run ShOk.one ht k (by omega)
    have Z := pi.sizes ShOk.one hT (by omega)
    have z1 := Z.all; have z3 := Z.tot
    have om := one_max (t := t) pi
    have eS := pS_take (sh := 1) htk
    have eR := pRw_take (sh := 1) htk
    refine ⟨_, _, gd_name, ?_⟩
    have go : ∀ {te : TE}, WD K S0 te [.dat (.list (ts.map qp)), .own ((pRw 1 (ts.take k)).map fun x => qp x.2.1), .dat (qp (pS 1 (ts.take k)).2.1), .dat (qp t)] (fun d ρ => d = qp (pstep 1 (pS 1 (ts.take k)) t).2.1 ∧ ρ = [.dat (.list (ts.map qp)), .own ((pRw 1 (ts.take k)).map fun x => qp x.2.1), .dat (qp (pS 1 (ts.take k)).2.1), .dat (qp t)]) →
        WS K S0 (tSeq (tAsg te (gName 2)) (tDrop (tBM K "list" rAppend (tVar 1) (tCons (tVar 2) tNil)))) [.dat (.list (ts.map qp)), .own ((pRw 1 (ts.take k)).map fun x => qp x.2.1), .dat (qp (pS 1 (ts.take k)).2.1), .dat (qp t)]
        { nx := fun ρ => ∃ s3 : Sl, ρ = [.dat (.list (ts.map qp)), .own ((pRw 1 (ts.take (k + 1))).map fun x => qp x.2.1), .dat (qp (pS 1 (ts.take (k + 1))).2.1), s3], rt := fun d _ => Φ d } := fun {te} hte => by
      refine ws_seq (ws_asg (hte.imp fun d ρ ⟨e1, e2⟩ => ?_))
      subst e1
      subst e2
      refine ws_append rfl (wd_var rfl ⟨_, rfl, by rw [List.length_map, pRw_len, List.length_take, sizeLine_eq]; omega, ?_⟩)
      rw [eS, eR, List.map_append]
      exact ⟨_, rfl⟩
    refine (go ?_).imp (fun _ h => h) (fun _ _ h => h) (fun _ h => h.elim) (fun _ h => h.elim)
    refine wd_ifE (wt_B (wd_call0 (wa_cons (wd_var rfl (wa_cons (wd_var rfl (wa_nil (tLtQ (by omega) (by omega) ⟨_, rfl, ?_⟩))))))))
    refine if_b (fun q => wd_var rfl ⟨?_, rfl⟩) (fun q => wd_var rfl ⟨?_, rfl⟩)
    · rw [om, if_pos q]
    · rw [om, if_neg q]
  · rintro ρ2 ⟨s3, rfl⟩
    rw [List.length_map, List.take_length]
    refine ws_next (ws_frz (i := 1) rfl ?_)
    exact ws_ret (wd_var rfl hΦ)
end
theorem pRw_last {sh m : Rat} {ts : List Rat} {l : List PyData} (h : l = (pRw sh (ts ++ [m])).map p3D) : cutD l none (some (-1)) = (pRw sh ts).map p3D ∧ atI l (-1) = some (p3D (prow sh (pS sh ts) m)) := by
  subst h
  rw [pRw_snoc, List.map_append]
  constructor
  · unfold cutD
    have e1 : HT.sIx ((pRw sh ts).map p3D ++ [prow sh (pS sh ts) m].map p3D).length 0 none = 0 := rfl
    have e2 : HT.sIx ((pRw sh ts).map p3D ++ [prow sh (pS sh ts) m].map p3D).length ((pRw sh ts).map p3D ++ [prow sh (pS sh ts) m].map p3D).length (some (-1)) = ((pRw sh ts).map p3D).length := by
      unfold HT.sIx
      simp
      omega
    rw [e1, e2, List.drop_zero, Nat.sub_zero, List.take_left]
  · unfold atI ixN
    rw [if_neg (by decide), if_pos (by simp; omega)]
    have e2 : ((-1 : Int) + (((pRw sh ts).map p3D ++ [prow sh (pS sh ts) m].map p3D).length : Int)).toNat = ((pRw sh ts).map p3D).length := by simp; omega
    rw [e2]
    simp
section
variable {K : PySem.W.Frag} {S : Stt} {ρ : Rho}
theorem ws_b44 {ns : List Int} {aO : Addr} {B : Nat} {sh m : Rat} {R : Nat} {ts : List Rat} {d2 : PyData} {En : DE} (hO : ∀ H : Hp, SqT K H aO [.int 1, .int 1]) (hs : ShOk R sh) (hl : ts.length ≤ 125) (hT : ∀ t ∈ ts, Tot t) (hm : Tot m)
    (hn : ∀ s6 s7 s8 s9, En.nx [.scr ns, .sto B, .dat d2, .dat (.list (ts.map qp)), .dat (qp sh), .dat (qp m), s6, s7, s8, s9]) :
    WS K S (t_b44 K aO) [.scr ns, .sto B, .dat d2, .dat (.list (ts.map qp)), .dat (qp sh), .dat (qp m), .unk, .unk, .unk, .unk] En := by
  unfold t_b44
  have hl1 : ts.length ≤ 130 := by omega
  have t1 : ∀ t ∈ ts ++ [m], Tot t := fun t h => by
    rcases List.mem_append.mp h with h | h
    · exact hT t h
    · rw [List.mem_singleton.mp h]; exact hm
  have t2 : ∀ t ∈ ts ++ [m] ++ [m], Tot t := fun t h => by
    rcases List.mem_append.mp h with h | h
    · exact t1 t h
    · rw [List.mem_singleton.mp h]; exact hm
  have l1 : (ts ++ [m]).length ≤ 130 := by simp; omega
  have l2 : (ts ++ [m] ++ [m]).length ≤ 130 := by simp; omega
  have m1 : ts.map qp ++ [qp m] = (ts ++ [m]).map qp := by rw [List.map_append]; rfl
  have m2 : ts.map qp ++ [qp m, qp m] = (ts ++ [m] ++ [m]).map qp := by rw [List.map_append, List.map_append, List.append_assoc]; rfl
  refine ws_seq (ws_asg (wd_payS (wd_var rfl (wd_var rfl ⟨true, ts, sh, R, rfl, rfl, hs, hl1, hT, ?_⟩))))
  refine ws_seq (ws_if (wt_or (wt_test (wd_op (wd_cb (wa_cons (wd_var rfl (wa_nil (dc_lenT (wd_cb (wa_cons (wd_var rfl (wa_nil (dc_lenL (do_nei ⟨_, rfl, ?_⟩)))))))))))))))
  rw [List.length_map, List.length_map, pRw_len]
  refine if_n (fun q => absurd rfl q) (fun _ => ?_)
  refine wt_not (wt_B (wd_call0 (wa_cons (wd_var rfl (wa_cons (wd_var rfl (wa_cons (wd_var rfl (wa_nil ⟨ts, sh, R, rfl, hs, hl1, hT, true, rfl, if_nt (ws_next ?_)⟩)))))))))
  refine ws_seq (ws_if (wt_test (wd_op (wd_lc (wi_tup (wd_pay0 hO (wd_var rfl ⟨true, ts, rfl, hl1, hT, _, rfl, by rw [List.length_map, pRw_len, sizeLine_eq]; omega, fun k acc ρ => acc = ((pRw 1 ts).take k).map (fun x => qp x.2.1) ∧ ρ = [.scr ns, .sto B, .dat d2, .dat (.list (ts.map qp)), .dat (qp sh), .dat (qp m), .dat (rwD sh ts), .unk, .unk, .unk], ⟨rfl, rfl⟩, ?_, ?_⟩)))))))
  · rintro k d acc ρ2 hd ⟨rfl, rfl⟩
    rw [List.getElem?_map] at hd
    obtain ⟨x, hx, rfl⟩ := Option.map_eq_some_iff.mp hd
    refine ⟨_, _, gd_name, fun j hj => hj, wt_yes ?_⟩
    rw [if_pos rfl]
    refine wd_op (wd_var rfl (wd_int (do_ixT rfl ⟨?_, rfl⟩)))
    rw [take_snoc hx, List.map_append]; rfl
  · rintro acc ρ2 ⟨rfl, rfl⟩
    rw [List.length_map, List.take_length]
    refine wd_call0 (wa_cons (wd_var rfl (wa_nil ⟨ts, rfl, hl1, hT, ?_⟩)))
    refine do_neS (n := 2) (Sh.lst (n := 1) fun x hx => ?_) (by decide) ⟨false, rfl, if_f (ws_next ?_)⟩
    · obtain ⟨y, _, rfl⟩ := List.mem_map.mp hx; exact Sh.qp
    obtain ⟨c1, a1⟩ := pRw_last (sh := sh) (m := m) (ts := ts) rfl
    obtain ⟨c2, a2⟩ := pRw_last (sh := sh) (m := m) (ts := ts ++ [m]) rfl
    refine ws_seq (ws_asg (wd_payS (wd_op (wd_var rfl (wd_lst (wa_cons (wd_var rfl (wa_nil ⟨Nat.le_of_ble_eq_true rfl, ?_⟩))))))))
    refine do_catL (by rw [List.length_map, sizeLine_eq]; simp; omega) ?_
    rw [m1]
    refine wd_var rfl ⟨true, ts ++ [m], sh, R, rfl, rfl, hs, l1, t1, ?_⟩
    refine ws_seq (ws_if (wt_or (wt_test (wd_op (wd_slA (wd_var rfl ⟨_, rfl, wo_none (wo_part (wd_un (wd_int (du_neg ⟨-1, rfl, ?_⟩))))⟩))))))
    rw [c1]
    refine wd_var rfl (do_neS (d := rwD sh ts) Sh.rw (by decide) ⟨false, rfl, if_f ?_⟩)
    refine wt_not (wt_B (wd_call0 (wa_cons (wd_op (wd_var rfl (wd_lst (wa_cons (wd_var rfl (wa_nil ⟨Nat.le_of_ble_eq_true rfl, ?_⟩)))))))))
    refine do_catL (by rw [List.length_map, sizeLine_eq]; simp; omega) ?_
    rw [m1]
    refine wa_cons (wd_var rfl (wa_cons (wd_var rfl (wa_nil ⟨ts ++ [m], sh, R, rfl, hs, l1, t1, true, rfl, if_nt (ws_next ?_)⟩))))
    refine ws_seq (ws_asg (wd_payS (wd_op (wd_var rfl (wd_lst (wa_cons (wd_var rfl (wa_cons (wd_var rfl (wa_nil ⟨Nat.le_of_ble_eq_true rfl, ?_⟩))))))))))
    refine do_catL (by rw [List.length_map, sizeLine_eq]; simp; omega) ?_
    rw [m2]
    refine wd_var rfl ⟨true, ts ++ [m] ++ [m], sh, R, rfl, rfl, hs, l2, t2, ?_⟩
    refine ws_if (wt_or (wt_test (wd_op (wd_slA (wd_var rfl ⟨_, rfl, wo_none (wo_part (wd_un (wd_int (du_neg ⟨-1, rfl, ?_⟩))))⟩)))))
    rw [c2]
    refine wd_var rfl (do_neS (d := rwD sh (ts ++ [m])) Sh.rw (by decide) ⟨false, rfl, if_f ?_⟩)
    refine wt_test (wd_op (wd_op (wd_var rfl (wd_un (wd_int (du_neg (do_ixT a2 ?_)))))))
    refine wd_tup (wa_cons (wd_tup (wa_cons (wd_int (wa_cons (wd_int (wa_nil ⟨Nat.le_of_ble_eq_true rfl, ?_⟩)))))))
    rw [qp01]
    refine wa_cons (wd_op (wd_op (wd_var rfl (wd_un (wd_int (du_neg (do_ixT a1 (wd_int (do_ixT rfl ?_)))))))))
    refine wa_cons (wd_op (wd_op (wd_var rfl (wd_un (wd_int (du_neg (do_ixT a1 (wd_int (do_ixT rfl (wa_nil ⟨Nat.le_of_ble_eq_true rfl, ?_⟩))))))))))
    have e : p3D (prow sh (pS sh (ts ++ [m])) m) = .tuple [qp 0, qp (prow sh (pS sh ts) m).2.1, qp (prow sh (pS sh ts) m).2.2] := by
      rw [pS_snoc, twice_row]; rfl
    rw [e]
    refine do_neS (n := 2) (Sh.tup (n := 1) fun x hx => ?_) (by decide) ⟨false, rfl, if_f (ws_next (hn _ _ _ _))⟩
    simp only [List.mem_cons, List.not_mem_nil, or_false] at hx
    rcases hx with rfl | rfl | rfl <;> exact Sh.qp
theorem ws_law44 {ns : List Int} {aO : Addr} (hO : ∀ H : Hp, SqT K H aO [.int 1, .int 1]) (hF : FSto S) (hl : ns.length ≤ 63) : WS K S (t_law44 K aO) (.scr ns :: .sto 0 :: List.replicate 8 .unk) { nx := fun _ => False, rt := fun d _ => d = .bool true } := by
  show WS K S (t_law44 K aO) [.scr ns, .sto 0, .unk, .unk, .unk, .unk, .unk, .unk, .unk, .unk] _
  unfold t_law44
  refine ws_seq (ws_for (wi_rng1 ?_))
  walk_at "dl"
  generalize hm : (6 + if (ns.length : Int) < 14 then (ns.length : Int) else 14) = many
  have hm2 : 0 ≤ many ∧ many ≤ 20 := by
    rw [← hm]; split <;> omega
  refine ⟨by omega, by omega, fun k ρ => ∃ (B : Nat) (s2 s3 s4 s5 s6 s7 s8 s9 : Sl), ρ = [.scr ns, .sto B, s2, s3, s4, s5, s6, s7, s8, s9] ∧ B ≤ 2000000 * k, ⟨0, _, _, _, _, _, _, _, _, rfl, by omega⟩, ?_, ?_⟩
  · rintro k d ρ2 hd ⟨B, s2, s3, s4, s5, s6, s7, s8, s9, rfl, hB⟩
    have hk : k < 26 := by
      have := (List.getElem?_eq_some_iff.mp hd).1
      simp at this; omega
    refine ⟨_, _, gd_name, ws_wipe [3, 4, 5, 6, 7, 8, 9] ?_⟩
    show WS K S (tSeq _ (tSeq _ (tSeq _ (t_b44 K aO)))) [.scr ns, .sto B, .dat d, .unk, .unk, .unk, .unk, .unk, .unk, .unk] _
    refine ws_seq (ws_asg (wd_callS hF rfl (wa_cons (wd_int (wa_nil ⟨B, rfl, _, rfl, by decide, by decide, by omega, fun ts B2 hts hT hB2 => ?_⟩)))))
    refine ws_seq (ws_asg (wd_callS hF rfl (wa_nil ⟨B2, rfl, rfl, by omega, fun R sh hs => ?_⟩)))
    refine ws_seq (ws_asg (wd_callS hF rfl (wa_nil ⟨B2 + 1600, rfl, rfl, by omega, fun m hm => ?_⟩)))
    exact ws_b44 hO hs (by omega) hT (Tot.of hm.dv) fun s6 s7 s8 s9 => ⟨B2 + 1600 + 3200, _, _, _, _, _, _, _, _, rfl, by omega⟩
  · rintro ρ2 ⟨B, s2, s3, s4, s5, s6, s7, s8, s9, rfl, hB⟩
    exact ws_ret (wd_bl rfl)
end
end DL

set_option Elab.async false
set_option linter.all false
set_option maxRecDepth 100000
set_option maxHeartbeats 4000000
namespace DL
open PySem PySem.Spec PyProof.Rows L2
section
variable {P : Program} {w : World} {K : PySem.W.Frag} {mg : Str → Option Value} {base : Heap} {f : Addr} {fd : FuncData}
theorem ok_draw1 (F : FnP K "_law_draw" s_law_draw f fd) (h__law_draw : Has P w K mg base CX0 "_law_draw" 1 ["store", "many"] spNo []) (z_len : mg "len" = none) (z_range : mg "range" = none) (z_str : mg "str" = none) : FnOk P w K mg base CX0 2 f fd ["store", "many"] (spS K FSto (TDraw 1 (10 ^ 6) (2 ^ 41))) := by
  refine F.ok sc_law_draw (fun vs H Q E h => spS_len (n := 1) (fun B ds Φ ⟨_, e, _⟩ => by rw [e]; rfl) h) (fun cdv A outer s H vs Q E hr h => ⟨t_draw K spNo, PSs.nox ?_, draw_run h (by decide) (by decide) (by decide) (.inl (by decide))⟩)
  exact (pss_cons (ps_while PassesOwn.never (PW.pt (pw_and (pt_cmpR (op_neD hr.units) (pe_ix ix_list (pv 0) pe_int (fun _ _ => rfl)) (pe_lst pa_nil) (nomark _)) (pw_and1 (pt_cmpR op_eq (pe_ix ix_list (pe_ix ix_list (pv 0) pe_int (fun _ _ => rfl)) pe_int (fun _ _ => rfl)) pe_int (nomark _))))) (pss_one (ps_expr (pe_bm PySem.F.plainAttrs_list PySem.F.slot_list_pop PySem.F.type_list_pop mt_popAt (pe_ix ix_list (pv 0) pe_int (fun _ _ => rfl)) (pa_cons pe_int pa_nil)))))
      (pss_cons (ps_if (pt_cmpR (op_neD hr.units) (pe_ix ix_list (pv 0) pe_int (fun _ _ => rfl)) (pe_lst pa_nil) (nomark _)) (pss_cons (ps_set (i := 2) sc_law_draw.nd rfl (by first | exact Or.inl rfl | exact Or.inr rfl) (pe_op op_modN (pe_ix ix_list (pe_ix ix_list (pv 0) pe_int (fun _ _ => rfl)) pe_int (fun _ _ => rfl)) (pv 1)))
      (pss_cons (ps_asg (pe_op op_fdivX (pe_ix ix_list (pe_ix ix_list (pv 0) pe_int (fun _ _ => rfl)) pe_int (fun _ _ => rfl)) (pv 1)) (pg_sub (pe_ix ix_list (pv 0) pe_int (fun _ _ => rfl)) pe_int set_list))
      (pss_one (ps_ret (pv 2))))) pss_nil)
      (pss_cons (ps_if (pt_cmpR op_gt (pv 1) (pe_op op_pow pe_int pe_int) (nomark _)) (pss_cons (ps_set (i := 3) sc_law_draw.nd rfl (by first | exact Or.inl rfl | exact Or.inr rfl) pe_int)
      (pss_cons (ps_for PassesOwn.never rfl (pi_range1 rfl z_range (pa_cons (pe_op op_add pe_int (pe_op op_fdivX (pe_callB call_len_str (by rfl) z_len PySem.boot_len (pa_cons (pe_callTy call_str_int (by rfl) z_str (by decide +kernel) (pa_cons (pv 1) pa_nil)) pa_nil)) pe_int)) pa_nil)) (pg_name (i := 4) sc_law_draw.nd rfl (by first | exact Or.inl rfl | exact Or.inr rfl)) (pss_one (ps_set (i := 3) sc_law_draw.nd rfl (by first | exact Or.inl rfl | exact Or.inr rfl) (pe_op op_add (pe_op op_mulW (pv 3) (pe_op op_pow pe_int pe_int)) (pe_has h__law_draw (hr.mono (by decide)) pass0 (pa_cons (pv 0) (pa_cons (pe_op op_pow pe_int pe_int) pa_nil)))))))
      (pss_one (ps_ret (pe_op op_modN (pv 3) (pv 1)))))) pss_nil)
      (pss_cons (ps_set (i := 5) sc_law_draw.nd rfl (by first | exact Or.inl rfl | exact Or.inr rfl) (pe_op op_add (pe_ix ix_list (pv 0) pe_int (fun _ _ => rfl)) pe_int))
      (pss_cons (ps_asg (pv 5) (pg_sub (pv 0) pe_int set_list))
      (pss_cons (ps_set (i := 6) sc_law_draw.nd rfl (by first | exact Or.inl rfl | exact Or.inr rfl) (pe_lst (pa_cons pe_int (pa_cons pe_int (pa_cons pe_int (pa_cons pe_int (pa_cons pe_int pa_nil)))))))
      (pss_cons (ps_set (i := 7) sc_law_draw.nd rfl (by first | exact Or.inl rfl | exact Or.inr rfl) (pe_ix ix_list (pe_ix ix_list (pv 0) pe_int (fun _ _ => rfl)) (pe_op op_modN (pv 5) (pe_callB call_len_seq (by rfl) z_len PySem.boot_len (pa_cons (pe_ix ix_list (pv 0) pe_int (fun _ _ => rfl)) pa_nil))) (fun _ _ => rfl)))
      (pss_cons (ps_set (i := 8) sc_law_draw.nd rfl (by first | exact Or.inl rfl | exact Or.inr rfl) (pe_op op_modN (pe_op op_pow (pe_op op_add (pe_op op_add (pe_op op_add (pe_ix ix_list (pv 0) pe_int (fun _ _ => rfl)) (pv 7)) (pe_op op_mulW pe_int (pv 5))) pe_int) pe_int) (pe_ix ix_list (pv 6) (pe_op op_modN (pv 5) pe_int) (fun _ _ => rfl))))
      (pss_cons (ps_set (i := 9) sc_law_draw.nd rfl (by first | exact Or.inl rfl | exact Or.inr rfl) (pe_op op_add (pe_op op_add (pe_op op_mulW (pv 8) (pv 8)) (pe_op op_modN (pe_ix ix_list (pv 0) pe_int (fun _ _ => rfl)) pe_int)) (pv 5)))
      (pss_one (ps_ret (pe_op op_modN (pe_op op_fdivX (pe_op op_modN (pe_op op_pow (pv 9) pe_int) (pe_ix ix_list (pv 6) (pe_op op_modN (pe_op op_add (pv 5) pe_int) pe_int) (fun _ _ => rfl))) pe_int) (pv 1)))))))))))))
theorem ok_draw2 (F : FnP K "_law_draw" s_law_draw f fd) (h__law_draw : Has P w K mg base CX0 "_law_draw" 2 ["store", "many"] (spS K FSto (TDraw 1 (10 ^ 6) (2 ^ 41))) []) (z_len : mg "len" = none) (z_range : mg "range" = none) (z_str : mg "str" = none) : FnOk P w K mg base CX0 3 f fd ["store", "many"] (spS K FSto TDr) := by
  refine F.ok sc_law_draw (fun vs H Q E h => spS_len (n := 1) (fun B ds Φ ⟨_, e, _⟩ => by rw [e]; rfl) h) (fun cdv A outer s H vs Q E hr h => ⟨t_draw K (spS K FSto (TDraw 1 (10 ^ 6) (2 ^ 41))), PSs.nox ?_, draw_run h (by decide +kernel) (by decide) (by decide) (.inr ⟨rfl, by decide, by decide⟩)⟩)
  exact (pss_cons (ps_while PassesOwn.never (PW.pt (pw_and (pt_cmpR (op_neD hr.units) (pe_ix ix_list (pv 0) pe_int (fun _ _ => rfl)) (pe_lst pa_nil) (nomark _)) (pw_and1 (pt_cmpR op_eq (pe_ix ix_list (pe_ix ix_list (pv 0) pe_int (fun _ _ => rfl)) pe_int (fun _ _ => rfl)) pe_int (nomark _))))) (pss_one (ps_expr (pe_bm PySem.F.plainAttrs_list PySem.F.slot_list_pop PySem.F.type_list_pop mt_popAt (pe_ix ix_list (pv 0) pe_int (fun _ _ => rfl)) (pa_cons pe_int pa_nil)))))
      (pss_cons (ps_if (pt_cmpR (op_neD hr.units) (pe_ix ix_list (pv 0) pe_int (fun _ _ => rfl)) (pe_lst pa_nil) (nomark _)) (pss_cons (ps_set (i := 2) sc_law_draw.nd rfl (by first | exact Or.inl rfl | exact Or.inr rfl) (pe_op op_modN (pe_ix ix_list (pe_ix ix_list (pv 0) pe_int (fun _ _ => rfl)) pe_int (fun _ _ => rfl)) (pv 1)))
      (pss_cons (ps_asg (pe_op op_fdivX (pe_ix ix_list (pe_ix ix_list (pv 0) pe_int (fun _ _ => rfl)) pe_int (fun _ _ => rfl)) (pv 1)) (pg_sub (pe_ix ix_list (pv 0) pe_int (fun _ _ => rfl)) pe_int set_list))
      (pss_one (ps_ret (pv 2))))) pss_nil)
      (pss_cons (ps_if (pt_cmpR op_gt (pv 1) (pe_op op_pow pe_int pe_int) (nomark _)) (pss_cons (ps_set (i := 3) sc_law_draw.nd rfl (by first | exact Or.inl rfl | exact Or.inr rfl) pe_int)
      (pss_cons (ps_for PassesOwn.never rfl (pi_range1 rfl z_range (pa_cons (pe_op op_add pe_int (pe_op op_fdivX (pe_callB call_len_str (by rfl) z_len PySem.boot_len (pa_cons (pe_callTy call_str_int (by rfl) z_str (by decide +kernel) (pa_cons (pv 1) pa_nil)) pa_nil)) pe_int)) pa_nil)) (pg_name (i := 4) sc_law_draw.nd rfl (by first | exact Or.inl rfl | exact Or.inr rfl)) (pss_one (ps_set (i := 3) sc_law_draw.nd rfl (by first | exact Or.inl rfl | exact Or.inr rfl) (pe_op op_add (pe_op op_mulW (pv 3) (pe_op op_pow pe_int pe_int)) (pe_has h__law_draw (hr.mono (by decide)) pass0 (pa_cons (pv 0) (pa_cons (pe_op op_pow pe_int pe_int) pa_nil)))))))
      (pss_one (ps_ret (pe_op op_modN (pv 3) (pv 1)))))) pss_nil)
      (pss_cons (ps_set (i := 5) sc_law_draw.nd rfl (by first | exact Or.inl rfl | exact Or.inr rfl) (pe_op op_add (pe_ix ix_list (pv 0) pe_int (fun _ _ => rfl)) pe_int))
      (pss_cons (ps_asg (pv 5) (pg_sub (pv 0) pe_int set_list))
      (pss_cons (ps_set (i := 6) sc_law_draw.nd rfl (by first | exact Or.inl rfl | exact Or.inr rfl) (pe_lst (pa_cons pe_int (pa_cons pe_int (pa_cons pe_int (pa_cons pe_int (pa_cons pe_int pa_nil)))))))
      (pss_cons (ps_set (i := 7) sc_law_draw.nd rfl (by first | exact Or.inl rfl | exact Or.inr rfl) (pe_ix ix_list (pe_ix ix_list (pv 0) pe_int (fun _ _ => rfl)) (pe_op op_modN (pv 5) (pe_callB call_len_seq (by rfl) z_len PySem.boot_len (pa_cons (pe_ix ix_list (pv 0) pe_int (fun _ _ => rfl)) pa_nil))) (fun _ _ => rfl)))
      (pss_cons (ps_set (i := 8) sc_law_draw.nd rfl (by first | exact Or.inl rfl | exact Or.inr rfl) (pe_op op_modN (pe_op op_pow (pe_op op_add (pe_op op_add (pe_op op_add (pe_ix ix_list (pv 0) pe_int (fun _ _ => rfl)) (pv 7)) (pe_op op_mulW pe_int (pv 5))) pe_int) pe_int) (pe_ix ix_list (pv 6) (pe_op op_modN (pv 5) pe_int) (fun _ _ => rfl))))
      (pss_cons (ps_set (i := 9) sc_law_draw.nd rfl (by first | exact Or.inl rfl | exact Or.inr rfl) (pe_op op_add (pe_op op_add (pe_op op_mulW (pv 8) (pv 8)) (pe_op op_modN (pe_ix ix_list (pv 0) pe_int (fun _ _ => rfl)) pe_int)) (pv 5)))
      (pss_one (ps_ret (pe_op op_modN (pe_op op_fdivX (pe_op op_modN (pe_op op_pow (pv 9) pe_int) (pe_ix ix_list (pv 6) (pe_op op_modN (pe_op op_add (pv 5) pe_int) pe_int) (fun _ _ => rfl))) pe_int) (pv 1)))))))))))))
theorem ok_law_store  (F : FnP K "_law_store" s_law_store f fd) (z_abs : mg "abs" = none) (z_enumerate : mg "enumerate" = none)  : FnOk P w K mg base CX0 1 f fd ["script"] (spMk K) := by
  refine F.ok sc_law_store (fun vs H Q E h => by obtain ⟨_, _, rfl, _⟩ := h; rfl) (fun cdv A outer s H vs Q E hr h => ⟨t_store K, PSs.nox ?_, store_run h⟩)
  exact (pss_cons (ps_set (i := 1) sc_law_store.nd rfl (by first | exact Or.inl rfl | exact Or.inr rfl) pe_int)
      (pss_cons (ps_for PassesOwn.never rfl (pi_enum (by rfl) z_enumerate (pa_cons (pe_slice sl_list (pv 0) po_none (po_some pe_int)) pa_nil)) (pg_tup rfl (pgs_cons (pg_name (i := 2) sc_law_store.nd rfl (by first | exact Or.inl rfl | exact Or.inr rfl)) (pgs_cons (pg_name (i := 3) sc_law_store.nd rfl (by first | exact Or.inl rfl | exact Or.inr rfl)) pgs_nil))) (pss_one (ps_set (i := 1) sc_law_store.nd rfl (by first | exact Or.inl rfl | exact Or.inr rfl) (pe_op op_modN (pe_op op_add (pe_op op_add (pe_op op_mulW (pv 1) (pv 1)) (pe_op op_modN (pv 3) pe_int)) (pe_op op_mulW pe_int (pv 2))) pe_int))))
      (pss_cons (ps_setLc (i := 4) (own := [("cell", 3)]) (g := (gName 3)) rfl sc_law_store.nd rfl rfl (sw_true rfl rfl rfl (by decide +kernel)) (pi_list (pe_slice sl_list (pv 0) po_none (po_some pe_int))) (blkOk_by (N := ["script", "blend", "place", "cell", "great", "small"]) (sc := defScope s_law_store) (by decide +kernel)) (fun _ _ _ _ _ => (pg_name (i := 3) sc_law_store.nd rfl (by first | exact Or.inl rfl | exact Or.inr rfl))) (fun _ _ _ _ _ => (pts_one (pt_cmpR op_ge (pe_callB call_abs (by rfl) z_abs (by decide +kernel) (pa_cons (pv 3) pa_nil)) (pe_op op_pow pe_int pe_int) (nomark _)))) (fun _ _ _ _ _ => (pe_callB call_abs (by rfl) z_abs (by decide +kernel) (pa_cons (pv 3) pa_nil))))
      (pss_cons (ps_setLc (i := 5) (own := [("cell", 3)]) (g := (gName 3)) rfl sc_law_store.nd rfl rfl (sw_true rfl rfl rfl (by decide +kernel)) (pi_list (pe_slice sl_list (pv 0) po_none (po_some pe_int))) (blkOk_by (N := ["script", "blend", "place", "cell", "great", "small"]) (sc := defScope s_law_store) (by decide +kernel)) (fun _ _ _ _ _ => (pg_name (i := 3) sc_law_store.nd rfl (by first | exact Or.inl rfl | exact Or.inr rfl))) (fun _ _ _ _ _ => (pts_one (pt_cmpR op_lt (pe_callB call_abs (by rfl) z_abs (by decide +kernel) (pa_cons (pv 3) pa_nil)) (pe_op op_pow pe_int pe_int) (nomark _)))) (fun _ _ _ _ _ => (pe_callB call_abs (by rfl) z_abs (by decide +kernel) (pa_cons (pv 3) pa_nil))))
      (pss_one (ps_ret (pe_lst (pa_cons (pv 4) (pa_cons (pv 1) (pa_cons pe_int (pa_cons (pe_op op_catL (pv 5) (pe_lst (pa_cons pe_int pa_nil))) pa_nil)))))))))))
theorem ok_law_part  (F : FnP K "_law_part" s_law_part f fd) (z_abs : mg "abs" = none)  : FnOk P w K mg base CX0 1 f fd ["above", "below"] (spP K TLow) := by
  refine F.ok sc_law_part (fun vs H Q E h => spP_len (n := 2) (fun ds Φ ⟨_, _, e, _⟩ => by rw [e]; rfl) h) (fun cdv A outer s H vs Q E hr h => ⟨t_law_part K, PSs.nox ?_, run_P h fun ds Φ t => ws_lpart t.part⟩)
  exact (pss_cons (ps_par (by rfl) sc_law_part.nd (i := 2) (j := 3) rfl rfl (by decide) rfl rfl (pa_cons (pe_callB call_abs (by rfl) z_abs (by decide +kernel) (pa_cons (pv 0) pa_nil)) (pa_cons (pe_callB call_abs (by rfl) z_abs (by decide +kernel) (pa_cons (pv 1) pa_nil)) pa_nil)) (by rfl))
      (pss_cons (ps_while PassesOwn.never (pt_cmpR op_gt (pv 3) pe_int (nomark _)) (pss_one (ps_par (by rfl) sc_law_part.nd (i := 2) (j := 3) rfl rfl (by decide) rfl rfl (pa_cons (pv 3) (pa_cons (pe_op op_modN (pv 2) (pv 3)) pa_nil)) (by rfl))))
      (pss_cons (ps_set (i := 4) sc_law_part.nd rfl (by first | exact Or.inl rfl | exact Or.inr rfl) (pe_ifExp (pt_cmpR op_gt (pv 1) pe_int (nomark _)) pe_int (pe_un un_neg pe_int)))
      (pss_one (ps_ret (pe_tup (pa_cons (pe_op op_fdivX (pe_op op_mulW (pv 4) (pv 0)) (pv 2)) (pa_cons (pe_op op_fdivX (pe_callB call_abs (by rfl) z_abs (by decide +kernel) (pa_cons (pv 1) pa_nil)) (pv 2)) pa_nil))))))))
theorem ok_part  (F : FnD K "part" s_part [.int 1] f fd) (m_gcd : mg "gcd" = some (.builtin "math.gcd"))  : FnOk P w K mg base CX0 1 f fd ["a", "b"] (spP K TLow) := by
  refine F.ok sc_part (fun vs H Q E h => spP_len (n := 2) (fun ds Φ ⟨_, _, e, _⟩ => by rw [e]; rfl) h) (fun cdv A outer s H vs Q E hr h => ⟨t_part K, PSs.nox ?_, run_P h fun ds Φ t => ws_part t.part⟩)
  exact (pss_cons (ps_if (pt_cmpR op_eq (pv 1) pe_int (nomark _)) (pss_one ps_no) pss_nil)
      (pss_cons (ps_set (i := 2) sc_part.nd rfl (by first | exact Or.inl rfl | exact Or.inr rfl) (pe_callBfun cr_gcd (by rfl) m_gcd (pa_cons (pv 0) (pa_cons (pv 1) pa_nil))))
      (pss_cons (ps_if (pt_cmpR op_lt (pv 1) pe_int (nomark _)) (pss_one (ps_set (i := 2) sc_part.nd rfl (by first | exact Or.inl rfl | exact Or.inr rfl) (pe_un un_neg (pv 2)))) pss_nil)
      (pss_one (ps_ret (pe_tup (pa_cons (pe_op op_fdivX (pv 0) (pv 2)) (pa_cons (pe_op op_fdivX (pv 1) (pv 2)) pa_nil))))))))
theorem ok_plus  (F : FnP K "plus" s_plus f fd) (h_part : Has P w K mg base CX0 "part" 1 ["a", "b"] (spP K TLow) [])  : FnOk P w K mg base CX0 2 f fd ["one", "other"] (spP K TAdQ) := by
  refine F.ok sc_plus (fun vs H Q E h => spP_len (n := 2) (fun ds Φ ⟨_, _, e, _⟩ => by rw [e]; rfl) h) (fun cdv A outer s H vs Q E hr h => ⟨t_addq K, PSs.nox ?_, run_P h fun ds Φ t => ws_addq t⟩)
  exact (pss_one (ps_ret (pe_has h_part (hr.mono (by decide)) pass0 (pa_cons (pe_op op_add (pe_op op_mulW (pe_ix ix_tup (pv 0) pe_int (fun _ _ => rfl)) (pe_ix ix_tup (pv 1) pe_int (fun _ _ => rfl))) (pe_op op_mulW (pe_ix ix_tup (pv 1) pe_int (fun _ _ => rfl)) (pe_ix ix_tup (pv 0) pe_int (fun _ _ => rfl)))) (pa_cons (pe_op op_mulW (pe_ix ix_tup (pv 0) pe_int (fun _ _ => rfl)) (pe_ix ix_tup (pv 1) pe_int (fun _ _ => rfl))) pa_nil)))))
theorem ok_less  (F : FnP K "less" s_less f fd) (h_part : Has P w K mg base CX0 "part" 1 ["a", "b"] (spP K TLow) [])  : FnOk P w K mg base CX0 2 f fd ["one", "other"] (spP K TSbQ) := by
  refine F.ok sc_less (fun vs H Q E h => spP_len (n := 2) (fun ds Φ ⟨_, _, e, _⟩ => by rw [e]; rfl) h) (fun cdv A outer s H vs Q E hr h => ⟨t_subq K, PSs.nox ?_, run_P h fun ds Φ t => ws_subq t⟩)
  exact (pss_one (ps_ret (pe_has h_part (hr.mono (by decide)) pass0 (pa_cons (pe_op op_sub (pe_op op_mulW (pe_ix ix_tup (pv 0) pe_int (fun _ _ => rfl)) (pe_ix ix_tup (pv 1) pe_int (fun _ _ => rfl))) (pe_op op_mulW (pe_ix ix_tup (pv 1) pe_int (fun _ _ => rfl)) (pe_ix ix_tup (pv 0) pe_int (fun _ _ => rfl)))) (pa_cons (pe_op op_mulW (pe_ix ix_tup (pv 0) pe_int (fun _ _ => rfl)) (pe_ix ix_tup (pv 1) pe_int (fun _ _ => rfl))) pa_nil)))))
theorem ok_times  (F : FnP K "times" s_times f fd) (h_part : Has P w K mg base CX0 "part" 1 ["a", "b"] (spP K TLow) [])  : FnOk P w K mg base CX0 2 f fd ["one", "other"] (spP K TMlQ) := by
  refine F.ok sc_times (fun vs H Q E h => spP_len (n := 2) (fun ds Φ ⟨_, _, e, _⟩ => by rw [e]; rfl) h) (fun cdv A outer s H vs Q E hr h => ⟨t_mulq K, PSs.nox ?_, run_P h fun ds Φ t => ws_mulq t⟩)
  exact (pss_one (ps_ret (pe_has h_part (hr.mono (by decide)) pass0 (pa_cons (pe_op op_mulW (pe_ix ix_tup (pv 0) pe_int (fun _ _ => rfl)) (pe_ix ix_tup (pv 1) pe_int (fun _ _ => rfl))) (pa_cons (pe_op op_mulW (pe_ix ix_tup (pv 0) pe_int (fun _ _ => rfl)) (pe_ix ix_tup (pv 1) pe_int (fun _ _ => rfl))) pa_nil)))))
theorem ok_is_less  (F : FnP K "is_less" s_is_less f fd)   : FnOk P w K mg base CX0 1 f fd ["one", "other"] (spP K TLtQ) := by
  refine F.ok sc_is_less (fun vs H Q E h => spP_len (n := 2) (fun ds Φ ⟨_, _, e, _⟩ => by rw [e]; rfl) h) (fun cdv A outer s H vs Q E hr h => ⟨t_ltq K, PSs.nox ?_, run_P h fun ds Φ t => ws_ltq t⟩)
  exact (pss_one (ps_ret (pe_cmpR op_lt (pe_op op_mulW (pe_ix ix_tup (pv 0) pe_int (fun _ _ => rfl)) (pe_ix ix_tup (pv 1) pe_int (fun _ _ => rfl))) (pe_op op_mulW (pe_ix ix_tup (pv 1) pe_int (fun _ _ => rfl)) (pe_ix ix_tup (pv 0) pe_int (fun _ _ => rfl))) (nomark _))))
theorem ok_law_sum  (F : FnP K "_law_sum" s_law_sum f fd) (h__law_part : Has P w K mg base CX0 "_law_part" 1 ["above", "below"] (spP K TLow) [])  : FnOk P w K mg base CX0 2 f fd ["one", "other"] (spP K TAdQ) := by
  refine F.ok sc_law_sum (fun vs H Q E h => spP_len (n := 2) (fun ds Φ ⟨_, _, e, _⟩ => by rw [e]; rfl) h) (fun cdv A outer s H vs Q E hr h => ⟨t_addq K, PSs.nox ?_, run_P h fun ds Φ t => ws_addq t⟩)
  exact (pss_one (ps_ret (pe_has h__law_part (hr.mono (by decide)) pass0 (pa_cons (pe_op op_add (pe_op op_mulW (pe_ix ix_tup (pv 0) pe_int (fun _ _ => rfl)) (pe_ix ix_tup (pv 1) pe_int (fun _ _ => rfl))) (pe_op op_mulW (pe_ix ix_tup (pv 1) pe_int (fun _ _ => rfl)) (pe_ix ix_tup (pv 0) pe_int (fun _ _ => rfl)))) (pa_cons (pe_op op_mulW (pe_ix ix_tup (pv 0) pe_int (fun _ _ => rfl)) (pe_ix ix_tup (pv 1) pe_int (fun _ _ => rfl))) pa_nil)))))
theorem ok_law_rest  (F : FnP K "_law_rest" s_law_rest f fd) (h__law_part : Has P w K mg base CX0 "_law_part" 1 ["above", "below"] (spP K TLow) [])  : FnOk P w K mg base CX0 2 f fd ["one", "other"] (spP K TSbQ) := by
  refine F.ok sc_law_rest (fun vs H Q E h => spP_len (n := 2) (fun ds Φ ⟨_, _, e, _⟩ => by rw [e]; rfl) h) (fun cdv A outer s H vs Q E hr h => ⟨t_subq K, PSs.nox ?_, run_P h fun ds Φ t => ws_subq t⟩)
  exact (pss_one (ps_ret (pe_has h__law_part (hr.mono (by decide)) pass0 (pa_cons (pe_op op_sub (pe_op op_mulW (pe_ix ix_tup (pv 0) pe_int (fun _ _ => rfl)) (pe_ix ix_tup (pv 1) pe_int (fun _ _ => rfl))) (pe_op op_mulW (pe_ix ix_tup (pv 1) pe_int (fun _ _ => rfl)) (pe_ix ix_tup (pv 0) pe_int (fun _ _ => rfl)))) (pa_cons (pe_op op_mulW (pe_ix ix_tup (pv 0) pe_int (fun _ _ => rfl)) (pe_ix ix_tup (pv 1) pe_int (fun _ _ => rfl))) pa_nil)))))
theorem ok_law_fold  (F : FnP K "_law_fold" s_law_fold f fd) (h__law_part : Has P w K mg base CX0 "_law_part" 1 ["above", "below"] (spP K TLow) [])  : FnOk P w K mg base CX0 2 f fd ["one", "other"] (spP K TMlQ) := by
  refine F.ok sc_law_fold (fun vs H Q E h => spP_len (n := 2) (fun ds Φ ⟨_, _, e, _⟩ => by rw [e]; rfl) h) (fun cdv A outer s H vs Q E hr h => ⟨t_mulq K, PSs.nox ?_, run_P h fun ds Φ t => ws_mulq t⟩)
  exact (pss_one (ps_ret (pe_has h__law_part (hr.mono (by decide)) pass0 (pa_cons (pe_op op_mulW (pe_ix ix_tup (pv 0) pe_int (fun _ _ => rfl)) (pe_ix ix_tup (pv 1) pe_int (fun _ _ => rfl))) (pa_cons (pe_op op_mulW (pe_ix ix_tup (pv 0) pe_int (fun _ _ => rfl)) (pe_ix ix_tup (pv 1) pe_int (fun _ _ => rfl))) pa_nil)))))
theorem ok_law_under  (F : FnP K "_law_under" s_law_under f fd)   : FnOk P w K mg base CX0 1 f fd ["one", "other"] (spP K TLtQ) := by
  refine F.ok sc_law_under (fun vs H Q E h => spP_len (n := 2) (fun ds Φ ⟨_, _, e, _⟩ => by rw [e]; rfl) h) (fun cdv A outer s H vs Q E hr h => ⟨t_ltq K, PSs.nox ?_, run_P h fun ds Φ t => ws_ltq t⟩)
  exact (pss_one (ps_ret (pe_cmpR op_lt (pe_op op_mulW (pe_ix ix_tup (pv 0) pe_int (fun _ _ => rfl)) (pe_ix ix_tup (pv 1) pe_int (fun _ _ => rfl))) (pe_op op_mulW (pe_ix ix_tup (pv 1) pe_int (fun _ _ => rfl)) (pe_ix ix_tup (pv 0) pe_int (fun _ _ => rfl))) (nomark _))))
theorem ok_law_small  (F : FnP K "_law_small" s_law_small f fd) (h__law_draw : Has P w K mg base CX0 "_law_draw" 3 ["store", "many"] (spS K FSto TDr) []) (h__law_part : Has P w K mg base CX0 "_law_part" 1 ["above", "below"] (spP K TLow) [])  : FnOk P w K mg base CX0 4 f fd ["store"] (spS K FSto TSmallQ) := by
  refine F.ok sc_law_small (fun vs H Q E h => spS_len (n := 0) (fun B ds Φ ⟨e, _⟩ => by rw [e]; rfl) h) (fun cdv A outer s H vs Q E hr h => ⟨t_smallq K, PSs.nox ?_, run_S h (fun S B ds Φ hF t => ws_smallq hF t) (by decide)⟩)
  exact (pss_cons (ps_set (i := 1) sc_law_small.nd rfl (by first | exact Or.inl rfl | exact Or.inr rfl) (pe_has h__law_draw (hr.mono (by decide)) pass0 (pa_cons (pv 0) (pa_cons pe_int pa_nil))))
      (pss_cons (ps_set (i := 2) sc_law_small.nd rfl (by first | exact Or.inl rfl | exact Or.inr rfl) (pe_ix ix_list (pe_lst (pa_cons pe_int (pa_cons pe_int (pa_cons pe_int (pa_cons pe_int (pa_cons pe_int (pa_cons pe_int (pa_cons pe_int (pa_cons pe_int (pa_cons pe_int (pa_cons pe_int (pa_cons (pe_op op_add pe_int (pe_has h__law_draw (hr.mono (by decide)) pass0 (pa_cons (pv 0) (pa_cons pe_int pa_nil)))) pa_nil)))))))))))) (pe_has h__law_draw (hr.mono (by decide)) pass0 (pa_cons (pv 0) (pa_cons pe_int pa_nil))) (fun _ _ => rfl)))
      (pss_cons (ps_set (i := 3) sc_law_small.nd rfl (by first | exact Or.inl rfl | exact Or.inr rfl) (pe_lst (pa_cons pe_int (pa_cons pe_int (pa_cons (pe_op op_add pe_int (pe_has h__law_draw (hr.mono (by decide)) pass0 (pa_cons (pv 0) (pa_cons pe_int pa_nil)))) (pa_cons (pe_has h__law_draw (hr.mono (by decide)) pass0 (pa_cons (pv 0) (pa_cons pe_int pa_nil))) (pa_cons (pe_op op_sub (pe_op op_pow pe_int pe_int) (pe_has h__law_draw (hr.mono (by decide)) pass0 (pa_cons (pv 0) (pa_cons pe_int pa_nil)))) pa_nil)))))))
      (pss_cons (ps_set (i := 3) sc_law_small.nd rfl (by first | exact Or.inl rfl | exact Or.inr rfl) (pe_ix ix_list (pe_op op_catL (pv 3) (pe_lst (pa_cons (pe_has h__law_draw (hr.mono (by decide)) pass0 (pa_cons (pv 0) (pa_cons (pe_op op_pow pe_int pe_int) pa_nil))) pa_nil))) (pv 1) (fun _ _ => rfl)))
      (pss_one (ps_ret (pe_has h__law_part (hr.mono (by decide)) pass0 (pa_cons (pe_op op_mulW (pv 3) (pe_ix ix_list (pe_lst (pa_cons pe_int (pa_cons (pe_un un_neg pe_int) pa_nil))) (pe_has h__law_draw (hr.mono (by decide)) pass0 (pa_cons (pv 0) (pa_cons pe_int pa_nil))) (fun _ _ => rfl))) (pa_cons (pv 2) pa_nil)))))))))
theorem ok_law_share  (F : FnP K "_law_share" s_law_share f fd) (h__law_draw : Has P w K mg base CX0 "_law_draw" 3 ["store", "many"] (spS K FSto TDr) []) (h__law_part : Has P w K mg base CX0 "_law_part" 1 ["above", "below"] (spP K TLow) [])  : FnOk P w K mg base CX0 4 f fd ["store"] (spS K FSto TShareQ) := by
  refine F.ok sc_law_share (fun vs H Q E h => spS_len (n := 0) (fun B ds Φ ⟨e, _⟩ => by rw [e]; rfl) h) (fun cdv A outer s H vs Q E hr h => ⟨t_shareq K, PSs.nox ?_, run_S h (fun S B ds Φ hF t => ws_shareq hF t) (by decide)⟩)
  exact (pss_cons (ps_set (i := 1) sc_law_share.nd rfl (by first | exact Or.inl rfl | exact Or.inr rfl) (pe_ix ix_list (pe_lst (pa_cons pe_int (pa_cons pe_int (pa_cons pe_int (pa_cons pe_int (pa_cons pe_int (pa_cons pe_int (pa_cons (pe_op op_add pe_int (pe_has h__law_draw (hr.mono (by decide)) pass0 (pa_cons (pv 0) (pa_cons pe_int pa_nil)))) pa_nil)))))))) (pe_has h__law_draw (hr.mono (by decide)) pass0 (pa_cons (pv 0) (pa_cons pe_int pa_nil))) (fun _ _ => rfl)))
      (pss_one (ps_ret (pe_has h__law_part (hr.mono (by decide)) pass0 (pa_cons (pe_op op_sub (pv 1) (pe_op op_mulW (pe_has h__law_draw (hr.mono (by decide)) pass0 (pa_cons (pv 0) (pa_cons (pv 1) pa_nil))) (pe_has h__law_draw (hr.mono (by decide)) pass0 (pa_cons (pv 0) (pa_cons pe_int pa_nil))))) (pa_cons (pv 1) pa_nil))))))
theorem ok_law_totals  (F : FnP K "_law_totals" s_law_totals f fd) (z_abs : mg "abs" = none) (z_max : mg "max" = none) (z_min : mg "min" = none) (z_range : mg "range" = none) (h__law_draw : Has P w K mg base CX0 "_law_draw" 3 ["store", "many"] (spS K FSto TDr) []) (h__law_part : Has P w K mg base CX0 "_law_part" 1 ["above", "below"] (spP K TLow) []) (h__law_small : Has P w K mg base CX0 "_law_small" 4 ["store"] (spS K FSto TSmallQ) []) (h_plus : Has P w K mg base CX0 "plus" 2 ["one", "other"] (spP K TAdQ) []) (h_times : Has P w K mg base CX0 "times" 2 ["one", "other"] (spP K TMlQ) [])  : FnOk P w K mg base CX0 5 f fd ["store", "most"] (spS K FSto TTotals) := by
  refine F.ok sc_law_totals (fun vs H Q E h => spS_len (n := 1) (fun B ds Φ ⟨_, e, _⟩ => by rw [e]; rfl) h) (fun cdv A outer s H vs Q E hr h => ⟨t_totals K, PSs.nox ?_, run_S h (fun S B ds Φ hF t => ws_totals hF t) (by decide)⟩)
  exact (pss_cons (ps_set (i := 2) sc_law_totals.nd rfl (by first | exact Or.inl rfl | exact Or.inr rfl) (pe_has h__law_draw (hr.mono (by decide)) pass0 (pa_cons (pv 0) (pa_cons pe_int pa_nil))))
      (pss_cons (ps_set (i := 3) sc_law_totals.nd rfl (by first | exact Or.inl rfl | exact Or.inr rfl) (pe_ix ix_list (pe_lst (pa_cons pe_int (pa_cons pe_int (pa_cons (pv 1) pa_nil)))) (pe_has h__law_draw (hr.mono (by decide)) pass0 (pa_cons (pv 0) (pa_cons pe_int pa_nil))) (fun _ _ => rfl)))
      (pss_cons (ps_set (i := 4) sc_law_totals.nd rfl (by first | exact Or.inl rfl | exact Or.inr rfl) (pe_has h_times (hr.mono (by decide)) pass0 (pa_cons (pe_has h_times (hr.mono (by decide)) pass0 (pa_cons (pe_tup (pa_cons pe_int (pa_cons pe_int pa_nil))) (pa_cons (pe_tup (pa_cons pe_int (pa_cons pe_int pa_nil))) pa_nil))) (pa_cons (pe_tup (pa_cons pe_int (pa_cons pe_int pa_nil))) pa_nil))))
      (pss_cons (ps_for PassesOwn.never rfl (pi_range1 rfl z_range (pa_cons (pe_has h__law_draw (hr.mono (by decide)) pass0 (pa_cons (pv 0) (pa_cons pe_int pa_nil))) pa_nil)) (pg_name (i := 5) sc_law_totals.nd rfl (by first | exact Or.inl rfl | exact Or.inr rfl)) (pss_one (ps_set (i := 4) sc_law_totals.nd rfl (by first | exact Or.inl rfl | exact Or.inr rfl) (pe_has h_times (hr.mono (by decide)) pass0 (pa_cons (pv 4) (pa_cons (pv 4) pa_nil))))))
      (pss_cons (ps_set (i := 6) sc_law_totals.nd rfl (by first | exact Or.inl rfl | exact Or.inr rfl) (pe_ix ix_list (pe_lst (pa_cons pe_int (pa_cons pe_int (pa_cons pe_int (pa_cons pe_int (pa_cons pe_int (pa_cons pe_int (pa_cons pe_int pa_nil)))))))) (pe_has h__law_draw (hr.mono (by decide)) pass0 (pa_cons (pv 0) (pa_cons pe_int pa_nil))) (fun _ _ => rfl)))
      (pss_cons (ps_set (i := 7) sc_law_totals.nd rfl (by first | exact Or.inl rfl | exact Or.inr rfl) (pe_lst pa_nil))
      (pss_cons (ps_set (i := 8) sc_law_totals.nd rfl (by first | exact Or.inl rfl | exact Or.inr rfl) (pe_op op_sub (pe_has h__law_draw (hr.mono (by decide)) pass0 (pa_cons (pv 0) (pa_cons pe_int pa_nil))) pe_int))
      (pss_cons (ps_for PassesOwn.never rfl (pi_range1 rfl z_range (pa_cons (pe_has h__law_draw (hr.mono (by decide)) pass0 (pa_cons (pv 0) (pa_cons (pe_op op_add (pv 3) pe_int) pa_nil))) pa_nil)) (pg_name (i := 9) sc_law_totals.nd rfl (by first | exact Or.inl rfl | exact Or.inr rfl)) (pss_cons (ps_set (i := 10) sc_law_totals.nd rfl (by first | exact Or.inl rfl | exact Or.inr rfl) (pe_has h__law_draw (hr.mono (by decide)) pass0 (pa_cons (pv 0) (pa_cons (pe_ix ix_list (pe_lst (pa_cons pe_int (pa_cons pe_int (pa_cons pe_int pa_nil)))) (pe_has h__law_draw (hr.mono (by decide)) pass0 (pa_cons (pv 0) (pa_cons pe_int pa_nil))) (fun _ _ => rfl)) pa_nil))))
      (pss_cons (ps_set (i := 8) sc_law_totals.nd rfl (by first | exact Or.inl rfl | exact Or.inr rfl) (pe_op op_add (pv 8) (pe_ix ix_list (pe_lst (pa_cons (pe_op op_sub (pv 10) pe_int) (pa_cons (pv 10) (pa_cons (pe_op op_sub pe_int (pv 10)) (pa_cons (pe_op op_mulW (pv 10) (pe_op op_sub pe_int (pe_op op_mulW pe_int (pe_op op_modN (pv 9) pe_int)))) (pa_cons pe_int (pa_cons (pv 10) pa_nil))))))) (pv 2) (fun _ _ => rfl))))
      (pss_cons (ps_set (i := 8) sc_law_totals.nd rfl (by first | exact Or.inl rfl | exact Or.inr rfl) (pe_callB (call_max2 rfl) (by rfl) z_max (by decide +kernel) (pa_cons (pe_un un_neg (pe_op op_pow pe_int pe_int)) (pa_cons (pe_callB (call_min2 rfl) (by rfl) z_min (by decide +kernel) (pa_cons (pe_op op_pow pe_int pe_int) (pa_cons (pv 8) pa_nil))) pa_nil))))
      (pss_cons (ps_set (i := 11) sc_law_totals.nd rfl (by first | exact Or.inl rfl | exact Or.inr rfl) (pe_has h__law_part (hr.mono (by decide)) pass0 (pa_cons (pv 8) (pa_cons (pv 6) pa_nil))))
      (pss_cons (ps_if (PW.pt (pw_and (pt_cmpR op_eq (pv 2) pe_int (nomark _)) (pw_and1 (pt_cmpR op_eq (pe_has h__law_draw (hr.mono (by decide)) pass0 (pa_cons (pv 0) (pa_cons pe_int pa_nil))) pe_int (nomark _))))) (pss_one (ps_set (i := 11) sc_law_totals.nd rfl (by first | exact Or.inl rfl | exact Or.inr rfl) (pe_has h__law_small (hr.mono (by decide)) pass0 (pa_cons (pv 0) pa_nil)))) pss_nil)
      (pss_cons (ps_if (pt_cmpR op_eq (pv 2) pe_int (nomark _)) (pss_one (ps_set (i := 11) sc_law_totals.nd rfl (by first | exact Or.inl rfl | exact Or.inr rfl) (pe_tup (pa_cons (pe_op op_sub pe_int (pe_callB call_abs (by rfl) z_abs (by decide +kernel) (pa_cons (pe_ix ix_tup (pv 11) pe_int (fun _ _ => rfl)) pa_nil))) (pa_cons (pe_ix ix_tup (pv 11) pe_int (fun _ _ => rfl)) pa_nil))))) pss_nil)
      (pss_cons (ps_if (pt_cmpR op_eq (pe_has h__law_draw (hr.mono (by decide)) pass0 (pa_cons (pv 0) (pa_cons pe_int pa_nil))) pe_int (nomark _)) (pss_one (ps_set (i := 11) sc_law_totals.nd rfl (by first | exact Or.inl rfl | exact Or.inr rfl) (pe_has h_plus (hr.mono (by decide)) pass0 (pa_cons (pv 11) (pa_cons (pe_has h_times (hr.mono (by decide)) pass0 (pa_cons (pv 4) (pa_cons (pe_tup (pa_cons (pe_op op_sub (pe_has h__law_draw (hr.mono (by decide)) pass0 (pa_cons (pv 0) (pa_cons pe_int pa_nil))) pe_int) (pa_cons pe_int pa_nil))) pa_nil))) pa_nil))))) pss_nil)
      (pss_one (ps_expr (pe_bm PySem.F.plainAttrs_list PySem.F.slot_list_append PySem.F.type_list_append mt_append (pv 7) (pa_cons (pv 11) pa_nil))))))))))))
      (pss_one (ps_ret (pv 7)))))))))))
theorem ok_is_whole  (F : FnP K "is_whole" s_is_whole f fd) (z_int : mg "int" = none) (z_type : mg "type" = none)  : FnOk P w K mg base CX0 1 f fd ["thing"] (spP K TWhole) := by
  refine F.ok sc_is_whole (fun vs H Q E h => spP_len (n := 1) (fun ds Φ ⟨_, e, _⟩ => by rw [e]; rfl) h) (fun cdv A outer s H vs Q E hr h => ⟨t_is_whole K, PSs.nox ?_, run_P h fun ds Φ t => ws_is_whole t⟩)
  exact (pss_one (ps_ret (pe_cmpR op_isTyB (pe_callTy call_type1 (by rfl) z_type (by decide +kernel) (pa_cons (pv 0) pa_nil)) (pe_bltn (by rfl) z_int (by decide +kernel) rfl) (nomark _))))
theorem ok_is_part  (F : FnP K "is_part" s_is_part f fd) (m_gcd : mg "gcd" = some (.builtin "math.gcd")) (z_len : mg "len" = none) (z_tuple : mg "tuple" = none) (z_type : mg "type" = none) (h_is_whole : Has P w K mg base CX0 "is_whole" 1 ["thing"] (spP K TWhole) [])  : FnOk P w K mg base CX0 2 f fd ["thing"] (spP K TPartB) := by
  refine F.ok sc_is_part (fun vs H Q E h => spP_len (n := 1) (fun ds Φ ⟨_, e, _⟩ => by rw [e]; rfl) h) (fun cdv A outer s H vs Q E hr h => ⟨t_is_part K, PSs.nox ?_, run_P h fun ds Φ t => ws_is_part t⟩)
  exact (pss_cons (ps_if (pt_not (PW.pt (pw_and (pt_cmpR op_isTyB (pe_callTy call_type1 (by rfl) z_type (by decide +kernel) (pa_cons (pv 0) pa_nil)) (pe_bltn (by rfl) z_tuple (by decide +kernel) rfl) (nomark _)) (pw_and1 (pt_cmpR op_eq (pe_callB call_len_seq (by rfl) z_len PySem.boot_len (pa_cons (pv 0) pa_nil)) pe_int (nomark _)))))) (pss_one (ps_ret pe_bl)) pss_nil)
      (pss_cons (ps_asg (pv 0) (pg_tup rfl (pgs_cons (pg_name (i := 1) sc_is_part.nd rfl (by first | exact Or.inl rfl | exact Or.inr rfl)) (pgs_cons (pg_name (i := 2) sc_is_part.nd rfl (by first | exact Or.inl rfl | exact Or.inr rfl)) pgs_nil))))
      (pss_one (ps_ret (pe_and (pe_has h_is_whole (hr.mono (by decide)) pass0 (pa_cons (pv 1) pa_nil)) (pe_and (pe_has h_is_whole (hr.mono (by decide)) pass0 (pa_cons (pv 2) pa_nil)) (pe_and (pe_cmpR op_ge (pv 2) pe_int (nomark _)) (pe_one (pe_cmpR op_eq (pe_callBfun cr_gcd (by rfl) m_gcd (pa_cons (pv 1) (pa_cons (pv 2) pa_nil))) pe_int (nomark _))))))))))
theorem ok_floor  (F : FnP K "floor" s_floor f fd)   : FnOk P w K mg base CX0 1 f fd ["one"] (spP K TFloorQ) := by
  refine F.ok sc_floor (fun vs H Q E h => spP_len (n := 1) (fun ds Φ ⟨_, e, _⟩ => by rw [e]; rfl) h) (fun cdv A outer s H vs Q E hr h => ⟨t_floorq K, PSs.nox ?_, run_P h fun ds Φ t => ws_floorq t⟩)
  exact (pss_one (ps_ret (pe_op op_fdivX (pe_ix ix_tup (pv 0) pe_int (fun _ _ => rfl)) (pe_ix ix_tup (pv 0) pe_int (fun _ _ => rfl)))))
theorem ok_least {v0 : V} (F : FnKw K "least" s_least [("none", v0)] f fd) (h_is_less : Has P w K mg base CX0 "is_less" 1 ["one", "other"] (spP K TLtQ) [])  : FnOk P w K mg base CX0 2 f fd ["some", "none"] (spP K TLeastQ) := by
  refine F.ok sc_least (fun vs H Q E h => spP_len (n := 2) (fun ds Φ ⟨_, _, e, _⟩ => by rw [e]; rfl) h) (fun cdv A outer s H vs Q E hr h => ⟨t_leastq K, PSs.nox ?_, run_P h fun ds Φ t => ws_leastq t⟩)
  exact (pss_cons (ps_if (pt_not (pt_truth (pv 0) (fun _ => rfl))) (pss_one (ps_ret (pv 1))) pss_nil)
      (pss_cons (ps_set (i := 2) sc_least.nd rfl (by first | exact Or.inl rfl | exact Or.inr rfl) (pe_ix ix_tup (pv 0) pe_int (fun _ _ => rfl)))
      (pss_cons (ps_for PassesOwn.never rfl (pi_tup (pv 0)) (pg_name (i := 3) sc_least.nd rfl (by first | exact Or.inl rfl | exact Or.inr rfl)) (pss_one (ps_if (pt_val (pe_has h_is_less (hr.mono (by decide)) pass0 (pa_cons (pv 3) (pa_cons (pv 2) pa_nil)))) (pss_one (ps_set (i := 2) sc_least.nd rfl (by first | exact Or.inl rfl | exact Or.inr rfl) (pv 3))) pss_nil)))
      (pss_one (ps_ret (pv 2))))))
theorem ok_kept_of  (F : FnP K "_kept_of" s_kept_of f fd) (h_least_d1 : Has P w K mg base CX0 "least" 2 ["some", "none"] (spP K TLeastQ) [.non]) (h_times : Has P w K mg base CX0 "times" 2 ["one", "other"] (spP K TMlQ) [])  : FnOk P w K mg base CX0 3 f fd ["new", "debt", "share"] (spP K TKept) := by
  refine F.ok sc_kept_of (fun vs H Q E h => spP_len (n := 3) (fun ds Φ ⟨_, _, _, e, _⟩ => by rw [e]; rfl) h) (fun cdv A outer s H vs Q E hr h => ⟨t_kept K, PSs.nox ?_, run_P h fun ds Φ t => ws_kept t⟩)
  exact (pss_cons (ps_if (pt_cmpR op_le (pe_ix ix_tup (pv 0) pe_int (fun _ _ => rfl)) pe_int (nomark _)) (pss_one (ps_ret (pv 0))) pss_nil)
      (pss_one (ps_ret (pe_has h_least_d1 (hr.mono (by decide)) pass0 (pa_cons (pe_tup (pa_cons (pv 1) (pa_cons (pe_has h_times (hr.mono (by decide)) pass0 (pa_cons (pv 2) (pa_cons (pv 0) pa_nil))) pa_nil))) pa_nil)))))
theorem ok_payments {v0 v1 : V} {a_ONE a_NOUGHT : Addr} (F : FnKw K "payments" s_payments [("share", v0), ("whole", v1)] f fd) (z_tuple : mg "tuple" = none) (h__kept_of : Has P w K mg base CX0 "_kept_of" 3 ["new", "debt", "share"] (spP K TKept) []) (h_floor : Has P w K mg base CX0 "floor" 1 ["one"] (spP K TFloorQ) []) (h_is_less : Has P w K mg base CX0 "is_less" 1 ["one", "other"] (spP K TLtQ) []) (h_is_part : Has P w K mg base CX0 "is_part" 2 ["thing"] (spP K TPartB) []) (h_less : Has P w K mg base CX0 "less" 2 ["one", "other"] (spP K TSbQ) []) (h_plus : Has P w K mg base CX0 "plus" 2 ["one", "other"] (spP K TAdQ) []) (c_ONE : mg "ONE" = some (.ref a_ONE) ∧ RelV (V.ref a_ONE) (Value.ref a_ONE)) (c_NOUGHT : mg "NOUGHT" = some (.ref a_NOUGHT) ∧ RelV (V.ref a_NOUGHT) (Value.ref a_NOUGHT)) (hO : ∀ H : Hp, SqT K H a_ONE [.int 1, .int 1]) (hN : ∀ H : Hp, SqT K H a_NOUGHT [.int 0, .int 1]) : FnOk P w K mg base CX0 4 f fd ["totals", "share", "whole"] (spP K TPays) := by
  refine F.ok sc_payments (fun vs H Q E h => spP_len (n := 3) (fun ds Φ ⟨_, _, _, _, _, e, _⟩ => by rw [e]; rfl) h) (fun cdv A outer s H vs Q E hr h => ⟨t_pays K a_ONE a_NOUGHT, PSs.nox ?_, run_P h fun ds Φ t => ws_pays hO hN t⟩)
  exact (pss_cons (ps_if (pt_not (PW.pt (pw_and (pt_val (pe_has h_is_part (hr.mono (by decide)) pass0 (pa_cons (pv 1) pa_nil))) (pw_and (pt_cmpR op_gt (pe_ix ix_tup (pv 1) pe_int (fun _ _ => rfl)) pe_int (nomark _)) (pw_and1 (pt_not (pt_val (pe_has h_is_less (hr.mono (by decide)) pass0 (pa_cons (pe_glob rfl c_ONE.1 c_ONE.2) (pa_cons (pv 1) pa_nil)))))))))) (pss_one ps_no) pss_nil)
      (pss_cons (ps_set (i := 3) sc_payments.nd rfl (by first | exact Or.inl rfl | exact Or.inr rfl) (pe_lst pa_nil))
      (pss_cons (ps_asg3 (pe_glob rfl c_NOUGHT.1 c_NOUGHT.2) (pg_name (i := 4) sc_payments.nd rfl (by first | exact Or.inl rfl | exact Or.inr rfl)) (pg_name (i := 5) sc_payments.nd rfl (by first | exact Or.inl rfl | exact Or.inr rfl)) (pg_name (i := 6) sc_payments.nd rfl (by first | exact Or.inl rfl | exact Or.inr rfl)))
      (pss_cons (ps_for PassesOwn.never rfl (pi_row (pv 0)) (pg_name (i := 7) sc_payments.nd rfl (by first | exact Or.inl rfl | exact Or.inr rfl)) (pss_cons (ps_set (i := 8) sc_payments.nd rfl (by first | exact Or.inl rfl | exact Or.inr rfl) (pe_has h_less (hr.mono (by decide)) pass0 (pa_cons (pv 7) (pa_cons (pv 4) pa_nil))))
      (pss_cons (ps_set (i := 9) sc_payments.nd rfl (by first | exact Or.inl rfl | exact Or.inr rfl) (pe_has h__kept_of (hr.mono (by decide)) pass0 (pa_cons (pv 8) (pa_cons (pv 6) (pa_cons (pv 1) pa_nil)))))
      (pss_cons (ps_set (i := 10) sc_payments.nd rfl (by first | exact Or.inl rfl | exact Or.inr rfl) (pe_has h_less (hr.mono (by decide)) pass0 (pa_cons (pv 8) (pa_cons (pv 9) pa_nil))))
      (pss_cons (ps_set (i := 11) sc_payments.nd rfl (by first | exact Or.inl rfl | exact Or.inr rfl) (pv 5))
      (pss_cons (ps_par3 (by rfl) sc_payments.nd (i := 4) (j := 5) (l := 6) rfl rfl rfl (by decide) (by decide) (by decide) rfl rfl rfl (pa_cons (pv 7) (pa_cons (pe_has h_plus (hr.mono (by decide)) pass0 (pa_cons (pv 5) (pa_cons (pv 10) pa_nil))) (pa_cons (pe_has h_less (hr.mono (by decide)) pass0 (pa_cons (pv 6) (pa_cons (pv 9) pa_nil))) pa_nil))) (by rfl))
      (pss_one (ps_if (pt_val (pv 2)) (pss_one (ps_expr (pe_bm PySem.F.plainAttrs_list PySem.F.slot_list_append PySem.F.type_list_append mt_append (pv 3) (pa_cons (pe_tup (pa_cons (pe_op op_sub (pe_has h_floor (hr.mono (by decide)) pass0 (pa_cons (pv 5) pa_nil)) (pe_has h_floor (hr.mono (by decide)) pass0 (pa_cons (pv 11) pa_nil))) (pa_cons (pe_has h_floor (hr.mono (by decide)) pass0 (pa_cons (pv 5) pa_nil)) (pa_cons (pv 6) pa_nil)))) pa_nil)))) (pss_one (ps_expr (pe_bm PySem.F.plainAttrs_list PySem.F.slot_list_append PySem.F.type_list_append mt_append (pv 3) (pa_cons (pe_tup (pa_cons (pv 10) (pa_cons (pv 5) (pa_cons (pv 6) pa_nil)))) pa_nil))))))))))))
      (pss_one (ps_ret (pe_callTy call_tuple_of (by rfl) z_tuple (by decide +kernel) (pa_cons (pv 3) pa_nil))))))))
theorem ok_law_kept  (F : FnP K "_law_kept" s_law_kept f fd) (z_zip : mg "zip" = none) (h__law_fold : Has P w K mg base CX0 "_law_fold" 2 ["one", "other"] (spP K TMlQ) []) (h__law_rest : Has P w K mg base CX0 "_law_rest" 2 ["one", "other"] (spP K TSbQ) []) (h__law_sum : Has P w K mg base CX0 "_law_sum" 2 ["one", "other"] (spP K TAdQ) []) (h__law_under : Has P w K mg base CX0 "_law_under" 1 ["one", "other"] (spP K TLtQ) [])  : FnOk P w K mg base CX0 3 f fd ["totals", "ratio", "told"] (spP K TKeptR) := by
  refine F.ok sc_law_kept (fun vs H Q E h => spP_len (n := 3) (fun ds Φ ⟨_, _, _, e, _⟩ => by rw [e]; rfl) h) (fun cdv A outer s H vs Q E hr h => ⟨t_keptR K, PSs.nox ?_, run_P h fun ds Φ t => ws_keptR t⟩)
  exact (pss_cons (ps_asg (pe_tup (pa_cons (pe_tup (pa_cons pe_int (pa_cons pe_int pa_nil))) (pa_cons (pe_tup (pa_cons pe_int (pa_cons pe_int pa_nil))) (pa_cons (pe_tup (pa_cons pe_int (pa_cons pe_int pa_nil))) pa_nil)))) (pg_tup rfl (pgs_cons (pg_name (i := 3) sc_law_kept.nd rfl (by first | exact Or.inl rfl | exact Or.inr rfl)) (pgs_cons (pg_name (i := 4) sc_law_kept.nd rfl (by first | exact Or.inl rfl | exact Or.inr rfl)) (pgs_cons (pg_name (i := 5) sc_law_kept.nd rfl (by first | exact Or.inl rfl | exact Or.inr rfl)) pgs_nil)))))
      (pss_cons (ps_for PassesOwn.never rfl (pi_zipM (by rfl) z_zip (pa_cons (pv 0) (pa_cons (pv 2) pa_nil))) (pg_tup rfl (pgs_cons (pg_name (i := 6) sc_law_kept.nd rfl (by first | exact Or.inl rfl | exact Or.inr rfl)) (pgs_cons (pg_name (i := 7) sc_law_kept.nd rfl (by first | exact Or.inl rfl | exact Or.inr rfl)) pgs_nil))) (pss_cons (ps_asg (pv 7) (pg_tup rfl (pgs_cons (pg_name (i := 8) sc_law_kept.nd rfl (by first | exact Or.inl rfl | exact Or.inr rfl)) (pgs_cons (pg_name (i := 9) sc_law_kept.nd rfl (by first | exact Or.inl rfl | exact Or.inr rfl)) (pgs_cons (pg_name (i := 10) sc_law_kept.nd rfl (by first | exact Or.inl rfl | exact Or.inr rfl)) pgs_nil)))))
      (pss_cons (ps_set (i := 5) sc_law_kept.nd rfl (by first | exact Or.inl rfl | exact Or.inr rfl) (pe_has h__law_sum (hr.mono (by decide)) pass0 (pa_cons (pv 5) (pa_cons (pv 8) pa_nil))))
      (pss_cons (ps_set (i := 11) sc_law_kept.nd rfl (by first | exact Or.inl rfl | exact Or.inr rfl) (pe_has h__law_rest (hr.mono (by decide)) pass0 (pa_cons (pv 6) (pa_cons (pv 3) pa_nil))))
      (pss_cons (ps_if (PW.pt (pw_or (pt_cmpR op_lt (pe_ix ix_tup (pv 8) pe_int (fun _ _ => rfl)) pe_int (nomark _)) (pw_or (pt_cmpR op_lt (pe_ix ix_tup (pv 10) pe_int (fun _ _ => rfl)) pe_int (nomark _)) (pw_or (pt_val (pe_has h__law_under (hr.mono (by decide)) pass0 (pa_cons (pv 9) (pa_cons (pv 4) pa_nil)))) (pw_or (pt_cmpR (op_neD hr.units) (pv 9) (pv 5) (nomark _)) (pw_or1 (pt_cmpR (op_neD hr.units) (pv 9) (pe_has h__law_sum (hr.mono (by decide)) pass0 (pa_cons (pv 6) (pa_cons (pv 10) pa_nil))) (nomark _)))))))) (pss_one (ps_ret pe_bl)) pss_nil)
      (pss_cons (ps_if (PW.pt (pw_and (pt_cmpR op_gt (pe_ix ix_tup (pv 11) pe_int (fun _ _ => rfl)) pe_int (nomark _)) (pw_and1 (pt_val (pe_has h__law_under (hr.mono (by decide)) pass0 (pa_cons (pv 8) (pa_cons (pe_has h__law_rest (hr.mono (by decide)) pass0 (pa_cons (pv 11) (pa_cons (pe_has h__law_fold (hr.mono (by decide)) pass0 (pa_cons (pv 1) (pa_cons (pv 11) pa_nil))) pa_nil))) pa_nil))))))) (pss_one (ps_ret pe_bl)) pss_nil)
      (pss_cons (ps_if (PW.pt (pw_and (pt_cmpR op_le (pe_ix ix_tup (pv 11) pe_int (fun _ _ => rfl)) pe_int (nomark _)) (pw_and1 (pt_cmpR (op_neD hr.units) (pv 8) (pe_tup (pa_cons pe_int (pa_cons pe_int pa_nil))) (nomark _))))) (pss_one (ps_ret pe_bl)) pss_nil)
      (pss_one (ps_par (by rfl) sc_law_kept.nd (i := 3) (j := 4) rfl rfl (by decide) rfl rfl (pa_cons (pv 6) (pa_cons (pv 9) pa_nil)) (by rfl))))))))))
      (pss_one (ps_ret pe_bl))))
theorem ok_law_greatest  (F : FnP K "_law_greatest" s_law_greatest f fd) (h__law_under : Has P w K mg base CX0 "_law_under" 1 ["one", "other"] (spP K TLtQ) [])  : FnOk P w K mg base CX0 2 f fd ["totals"] (spP K TGreat) := by
  refine F.ok sc_law_greatest (fun vs H Q E h => spP_len (n := 1) (fun ds Φ ⟨_, e, _⟩ => by rw [e]; rfl) h) (fun cdv A outer s H vs Q E hr h => ⟨t_great K, PSs.nox ?_, run_P h fun ds Φ t => ws_great t⟩)
  exact (pss_cons (ps_set (i := 1) sc_law_greatest.nd rfl (by first | exact Or.inl rfl | exact Or.inr rfl) (pe_lst pa_nil))
      (pss_cons (ps_set (i := 2) sc_law_greatest.nd rfl (by first | exact Or.inl rfl | exact Or.inr rfl) (pe_tup (pa_cons pe_int (pa_cons pe_int pa_nil))))
      (pss_cons (ps_for PassesOwn.never rfl (pi_list (pv 0)) (pg_name (i := 3) sc_law_greatest.nd rfl (by first | exact Or.inl rfl | exact Or.inr rfl)) (pss_cons (ps_set (i := 2) sc_law_greatest.nd rfl (by first | exact Or.inl rfl | exact Or.inr rfl) (pe_ifExp (pt_val (pe_has h__law_under (hr.mono (by decide)) pass0 (pa_cons (pv 2) (pa_cons (pv 3) pa_nil)))) (pv 3) (pv 2)))
      (pss_one (ps_expr (pe_bm PySem.F.plainAttrs_list PySem.F.slot_list_append PySem.F.type_list_append mt_append (pv 1) (pa_cons (pv 2) pa_nil))))))
      (pss_one (ps_ret (pv 1))))))
theorem ok_law {aO : Addr} (F : FnP K "law" s_law f fd) (z_len : mg "len" = none) (z_min : mg "min" = none) (z_range : mg "range" = none) (h_payments_d1 : Has P w K mg base CX0 "payments" 4 ["totals", "share", "whole"] (spP K TPays) [.ref aO, .bl false]) (h__law_greatest : Has P w K mg base CX0 "_law_greatest" 2 ["totals"] (spP K TGreat) []) (h__law_kept : Has P w K mg base CX0 "_law_kept" 3 ["totals", "ratio", "told"] (spP K TKeptR) []) (h__law_share : Has P w K mg base CX0 "_law_share" 4 ["store"] (spS K FSto TShareQ) []) (h__law_small : Has P w K mg base CX0 "_law_small" 4 ["store"] (spS K FSto TSmallQ) []) (h__law_store : Has P w K mg base CX0 "_law_store" 1 ["script"] (spMk K) []) (h__law_totals : Has P w K mg base CX0 "_law_totals" 5 ["store", "most"] (spS K FSto TTotals) []) (h_payments_k1_share : HasK P w K mg base CX0 "payments" 4 ["totals", "share", "whole"] (spP K TPays) 1 ["share"] gVps) (hO : ∀ H : Hp, SqT K H aO [.int 1, .int 1]) : FnG P w K mg base CX0 6 f fd ["script"] (spLaw K) := by
  refine FunD_okG F sc_law (fun vs H Q E h => by obtain ⟨_, _, rfl, _⟩ := h; rfl) (fun cdv A outer s H vs Q E hgd hr h => ⟨tSeq (tAsg (tCall (spMk K) [] E0 (tCons (tVar 0) tNil)) (gName 1)) (t_law44 K aO), PSs.nox ?_, run_law (n := 8) rfl h fun S ns hF hl => ws_law44 hO hF hl⟩)
  exact (pss_cons (ps_set (i := 1) sc_law.nd rfl (by first | exact Or.inl rfl | exact Or.inr rfl) (pe_has h__law_store (hr.mono (by decide)) pass0 (pa_cons (pv 0) pa_nil)))
      (pss_cons (ps_for PassesOwn.never rfl (pi_range1 rfl z_range (pa_cons (pe_op op_add pe_int (pe_callB (call_min2 rfl) (by rfl) z_min (by decide +kernel) (pa_cons pe_int (pa_cons (pe_callB call_len_seq (by rfl) z_len PySem.boot_len (pa_cons (pv 0) pa_nil)) pa_nil)))) pa_nil)) (pg_name (i := 2) sc_law.nd rfl (by first | exact Or.inl rfl | exact Or.inr rfl)) (pss_cons (ps_set (i := 3) sc_law.nd rfl (by first | exact Or.inl rfl | exact Or.inr rfl) (pe_has h__law_totals (hr.mono (by decide)) pass0 (pa_cons (pv 1) (pa_cons pe_int pa_nil))))
      (pss_cons (ps_set (i := 4) sc_law.nd rfl (by first | exact Or.inl rfl | exact Or.inr rfl) (pe_has h__law_share (hr.mono (by decide)) pass0 (pa_cons (pv 1) pa_nil)))
      (pss_cons (ps_set (i := 5) sc_law.nd rfl (by first | exact Or.inl rfl | exact Or.inr rfl) (pe_has h__law_small (hr.mono (by decide)) pass0 (pa_cons (pv 1) pa_nil)))
      (pss_cons (ps_set (i := 6) sc_law.nd rfl (by first | exact Or.inl rfl | exact Or.inr rfl) (pe_hasK (ks := ["share"]) h_payments_k1_share (hr.mono (by decide)) pass0 (pa_cons (pv 3) pa_nil) (pk_cons (pv 4) pk_nil)))
      (pss_cons (ps_if (PW.pt (pw_or (pt_cmpR op_ne (pe_callB call_len_seq (by rfl) z_len PySem.boot_len (pa_cons (pv 6) pa_nil)) (pe_callB call_len_seq (by rfl) z_len PySem.boot_len (pa_cons (pv 3) pa_nil)) (nomark _)) (pw_or1 (pt_not (pt_val (pe_has h__law_kept (hr.mono (by decide)) pass0 (pa_cons (pv 3) (pa_cons (pv 4) (pa_cons (pv 6) pa_nil))))))))) (pss_one (ps_ret pe_bl)) pss_nil)
      (pss_cons (ps_if (pt_cmpR (op_neD hr.units) (pe_lc (own := [("row", 9)]) (g := (gName 9)) rfl sc_law.nd (pi_tup (pe_has h_payments_d1 (hr.mono (by decide)) pass0 (pa_cons (pv 3) pa_nil))) (blkOk_by (N := ["script", "store", "turn", "totals", "ratio", "more", "told", "later", "twice", "row"]) (sc := defScope s_law) (by decide +kernel)) (fun _ _ _ _ _ => (pg_name (i := 9) sc_law.nd rfl (by first | exact Or.inl rfl | exact Or.inr rfl))) (fun _ _ _ _ _ => pts_nil) (fun _ _ _ _ _ => (pe_ix ix_tup (pv 9) pe_int (fun _ _ => rfl)))) (pe_has h__law_greatest (hr.mono (by decide)) pass0 (pa_cons (pv 3) pa_nil)) (nomark _)) (pss_one (ps_ret pe_bl)) pss_nil)
      (pss_cons (ps_set (i := 7) sc_law.nd rfl (by first | exact Or.inl rfl | exact Or.inr rfl) (pe_hasK (ks := ["share"]) h_payments_k1_share (hr.mono (by decide)) pass0 (pa_cons (pe_op op_catL (pv 3) (pe_lst (pa_cons (pv 5) pa_nil))) pa_nil) (pk_cons (pv 4) pk_nil)))
      (pss_cons (ps_if (PW.pt (pw_or (pt_cmpR (op_neD hr.units) (pe_slice sl_tupA (pv 7) po_none (po_some (pe_un un_neg pe_int))) (pv 6) (nomark _)) (pw_or1 (pt_not (pt_val (pe_has h__law_kept (hr.mono (by decide)) pass0 (pa_cons (pe_op op_catL (pv 3) (pe_lst (pa_cons (pv 5) pa_nil))) (pa_cons (pv 4) (pa_cons (pv 7) pa_nil))))))))) (pss_one (ps_ret pe_bl)) pss_nil)
      (pss_cons (ps_set (i := 8) sc_law.nd rfl (by first | exact Or.inl rfl | exact Or.inr rfl) (pe_hasK (ks := ["share"]) h_payments_k1_share (hr.mono (by decide)) pass0 (pa_cons (pe_op op_catL (pv 3) (pe_lst (pa_cons (pv 5) (pa_cons (pv 5) pa_nil)))) pa_nil) (pk_cons (pv 4) pk_nil)))
      (pss_one (ps_if (PW.pt (pw_or (pt_cmpR (op_neD hr.units) (pe_slice sl_tupA (pv 8) po_none (po_some (pe_un un_neg pe_int))) (pv 7) (nomark _)) (pw_or1 (pt_cmpR (op_neD hr.units) (pe_ix ix_tup (pv 8) (pe_un un_neg pe_int) (fun _ _ => rfl)) (pe_tup (pa_cons (pe_tup (pa_cons pe_int (pa_cons pe_int pa_nil))) (pa_cons (pe_ix ix_tup (pe_ix ix_tup (pv 7) (pe_un un_neg pe_int) (fun _ _ => rfl)) pe_int (fun _ _ => rfl)) (pa_cons (pe_ix ix_tup (pe_ix ix_tup (pv 7) (pe_un un_neg pe_int) (fun _ _ => rfl)) pe_int (fun _ _ => rfl)) pa_nil)))) (nomark _))))) (pss_one (ps_ret pe_bl)) pss_nil))))))))))))
      (pss_one (ps_ret pe_bl))))
end
end DL

set_option Elab.async false
set_option linter.all false
set_option maxRecDepth 100000
set_option maxHeartbeats 4000000
namespace DL
open PySem PySem.Spec PyProof.Rows L2
theorem facts {P : Program} {w : World} {K : PySem.W.Frag} {h : Heap} {mg : Str → Option Value} {f : Addr} (X : K.In h) (G : h.Ns mainGlobals mg) (hfa : mg ("law" : Str) = some (.ref f)) (c : He.SaysD fa fn K) (ce : ex K = true) :
    ∃ fd : FuncData, (∀ (s : Shared) (v : Value), BindsTo s fd ⟨[v], []⟩ [("script", v)]) ∧ ∀ base : Heap, K.In base → base.Ns mainGlobals mg → FnG P w K mg base CX0 6 f fd ["script"] (spLaw K) := by
  obtain ⟨ce, x1⟩ := He.ba ce
  obtain ⟨ce, x0⟩ := He.ba ce
  obtain ⟨fd_law_draw, F_law_draw⟩ := c.def_ 0 (d := d_law_draw) rfl
  have g_law_draw := He.glo_ok X G (c.fact 0 (f := .glo "_law_draw") rfl)
  obtain ⟨fd_law_store, F_law_store⟩ := c.def_ 1 (d := d_law_store) rfl
  have g_law_store := He.glo_ok X G (c.fact 1 (f := .glo "_law_store") rfl)
  obtain ⟨fd_law_part, F_law_part⟩ := c.def_ 2 (d := d_law_part) rfl
  have g_law_part := He.glo_ok X G (c.fact 2 (f := .glo "_law_part") rfl)
  obtain ⟨fd_part, F_part⟩ := c.def_ 3 (d := d_part) rfl
  have g_part := He.glo_ok X G (c.fact 3 (f := .glo "part") rfl)
  obtain ⟨fd_plus, F_plus⟩ := c.def_ 4 (d := d_plus) rfl
  have g_plus := He.glo_ok X G (c.fact 4 (f := .glo "plus") rfl)
  obtain ⟨fd_less, F_less⟩ := c.def_ 5 (d := d_less) rfl
  have g_less := He.glo_ok X G (c.fact 5 (f := .glo "less") rfl)
  obtain ⟨fd_times, F_times⟩ := c.def_ 6 (d := d_times) rfl
  have g_times := He.glo_ok X G (c.fact 6 (f := .glo "times") rfl)
  obtain ⟨fd_is_less, F_is_less⟩ := c.def_ 7 (d := d_is_less) rfl
  have g_is_less := He.glo_ok X G (c.fact 7 (f := .glo "is_less") rfl)
  obtain ⟨fd_law_sum, F_law_sum⟩ := c.def_ 8 (d := d_law_sum) rfl
  have g_law_sum := He.glo_ok X G (c.fact 8 (f := .glo "_law_sum") rfl)
  obtain ⟨fd_law_rest, F_law_rest⟩ := c.def_ 9 (d := d_law_rest) rfl
  have g_law_rest := He.glo_ok X G (c.fact 9 (f := .glo "_law_rest") rfl)
  obtain ⟨fd_law_fold, F_law_fold⟩ := c.def_ 10 (d := d_law_fold) rfl
  have g_law_fold := He.glo_ok X G (c.fact 10 (f := .glo "_law_fold") rfl)
  obtain ⟨fd_law_under, F_law_under⟩ := c.def_ 11 (d := d_law_under) rfl
  have g_law_under := He.glo_ok X G (c.fact 11 (f := .glo "_law_under") rfl)
  obtain ⟨fd_law_small, F_law_small⟩ := c.def_ 12 (d := d_law_small) rfl
  have g_law_small := He.glo_ok X G (c.fact 12 (f := .glo "_law_small") rfl)
  obtain ⟨fd_law_share, F_law_share⟩ := c.def_ 13 (d := d_law_share) rfl
  have g_law_share := He.glo_ok X G (c.fact 13 (f := .glo "_law_share") rfl)
  obtain ⟨fd_law_totals, F_law_totals⟩ := c.def_ 14 (d := d_law_totals) rfl
  have g_law_totals := He.glo_ok X G (c.fact 14 (f := .glo "_law_totals") rfl)
  obtain ⟨fd_is_whole, F_is_whole⟩ := c.def_ 15 (d := d_is_whole) rfl
  have g_is_whole := He.glo_ok X G (c.fact 15 (f := .glo "is_whole") rfl)
  obtain ⟨fd_is_part, F_is_part⟩ := c.def_ 16 (d := d_is_part) rfl
  have g_is_part := He.glo_ok X G (c.fact 16 (f := .glo "is_part") rfl)
  obtain ⟨fd_floor, F_floor⟩ := c.def_ 17 (d := d_floor) rfl
  have g_floor := He.glo_ok X G (c.fact 17 (f := .glo "floor") rfl)
  obtain ⟨fd_least, F_least⟩ := c.def_ 18 (d := d_least) rfl
  have g_least := He.glo_ok X G (c.fact 18 (f := .glo "least") rfl)
  obtain ⟨fd_kept_of, F_kept_of⟩ := c.def_ 19 (d := d_kept_of) rfl
  have g_kept_of := He.glo_ok X G (c.fact 19 (f := .glo "_kept_of") rfl)
  obtain ⟨fd_payments, F_payments⟩ := c.def_ 20 (d := d_payments) rfl
  have g_payments := He.glo_ok X G (c.fact 20 (f := .glo "payments") rfl)
  obtain ⟨fd_law_kept, F_law_kept⟩ := c.def_ 21 (d := d_law_kept) rfl
  have g_law_kept := He.glo_ok X G (c.fact 21 (f := .glo "_law_kept") rfl)
  obtain ⟨fd_law_greatest, F_law_greatest⟩ := c.def_ 22 (d := d_law_greatest) rfl
  have g_law_greatest := He.glo_ok X G (c.fact 22 (f := .glo "_law_greatest") rfl)
  obtain ⟨fd_law, F_law⟩ := c.def_ 23 (d := d_law) rfl
  have g_law := He.glo_ok X G (c.fact 23 (f := .glo "law") rfl)
  have g_NOUGHT := He.glo_ok X G (c.fact 24 (f := .glo "NOUGHT") rfl)
  have g_ONE := He.glo_ok X G (c.fact 25 (f := .glo "ONE") rfl)
  have z_abs := He.free_ok X G (c.fact 26 (f := .free "abs") rfl)
  have z_enumerate := He.free_ok X G (c.fact 27 (f := .free "enumerate") rfl)
  have z_int := He.free_ok X G (c.fact 28 (f := .free "int") rfl)
  have z_len := He.free_ok X G (c.fact 29 (f := .free "len") rfl)
  have z_max := He.free_ok X G (c.fact 30 (f := .free "max") rfl)
  have z_min := He.free_ok X G (c.fact 31 (f := .free "min") rfl)
  have z_range := He.free_ok X G (c.fact 32 (f := .free "range") rfl)
  have z_str := He.free_ok X G (c.fact 33 (f := .free "str") rfl)
  have z_tuple := He.free_ok X G (c.fact 34 (f := .free "tuple") rfl)
  have z_type := He.free_ok X G (c.fact 35 (f := .free "type") rfl)
  have z_zip := He.free_ok X G (c.fact 36 (f := .free "zip") rfl)
  have m_gcd : mg "gcd" = some (.builtin "math.gcd") := blt_ok X G ce (by decide)
  have hN := He.tupB_ok x0
  have hO := He.tupB_ok x1
  have e := hfa.symm.trans g_law
  cases e
  refine ⟨fd_law, fun s v => FunD.bindsA (ps := ["script"]) F_law (fun _ _ _ _ _ _ us hl => match us, hl with | [_], _ => rfl) s [v] rfl, fun base _ _ => ?_⟩
  have h__law_draw : Has P w K mg base CX0 "_law_draw" 1 ["store", "many"] spNo [] := has_of (fn_no F_law_draw sc_law_draw) g_law_draw F_law_draw.kp (F_law_draw.bindsN (ps := ["store", "many"]) fun _ _ _ _ _ _ us hl => match us, hl with | [_, _], _ => rfl)
  replace h__law_draw : Has P w K mg base CX0 "_law_draw" 2 ["store", "many"] (spS K FSto (TDraw 1 (10 ^ 6) (2 ^ 41))) [] := has_of (ok_draw1 F_law_draw h__law_draw z_len z_range z_str) g_law_draw F_law_draw.kp (F_law_draw.bindsN (ps := ["store", "many"]) fun _ _ _ _ _ _ us hl => match us, hl with | [_, _], _ => rfl)
  replace h__law_draw : Has P w K mg base CX0 "_law_draw" 3 ["store", "many"] (spS K FSto TDr) [] := has_of (ok_draw2 F_law_draw h__law_draw z_len z_range z_str) g_law_draw F_law_draw.kp (F_law_draw.bindsN (ps := ["store", "many"]) fun _ _ _ _ _ _ us hl => match us, hl with | [_, _], _ => rfl)
  have o_law_store := ok_law_store (P := P) (w := w) (mg := mg) (base := base) F_law_store z_abs z_enumerate 
  have h__law_store := has_of o_law_store g_law_store F_law_store.kp (F_law_store.bindsN (ps := ["script"]) fun _ _ _ _ _ _ us hl => match us, hl with | [_], _ => rfl)
  have o_law_part := ok_law_part (P := P) (w := w) (mg := mg) (base := base) F_law_part z_abs 
  have h__law_part := has_of o_law_part g_law_part F_law_part.kp (F_law_part.bindsN (ps := ["above", "below"]) fun _ _ _ _ _ _ us hl => match us, hl with | [_, _], _ => rfl)
  have Fp_part : FnD K "part" s_part [.int 1] (He.fAd K d_part.at_) fd_part := F_part
  have b_part : Binds K fd_part ["a", "b"] [] := by
    obtain ⟨ds, r, b⟩ := FunD.binds1 (ps := ["a", "b"]) Fp_part 2 1 (by simp) rfl (fun _ _ _ _ _ _ _ us its l1 l2 => match us, l1, its, l2 with | [_, _], _, [_], _ => ⟨_, rfl, rfl⟩)
    cases r
    exact b
  have o_part := ok_part (P := P) (w := w) (mg := mg) (base := base) F_part m_gcd 
  have h_part := has_of o_part g_part F_part.kp b_part
  have o_plus := ok_plus (P := P) (w := w) (mg := mg) (base := base) F_plus h_part 
  have h_plus := has_of o_plus g_plus F_plus.kp (F_plus.bindsN (ps := ["one", "other"]) fun _ _ _ _ _ _ us hl => match us, hl with | [_, _], _ => rfl)
  have o_less := ok_less (P := P) (w := w) (mg := mg) (base := base) F_less h_part 
  have h_less := has_of o_less g_less F_less.kp (F_less.bindsN (ps := ["one", "other"]) fun _ _ _ _ _ _ us hl => match us, hl with | [_, _], _ => rfl)
  have o_times := ok_times (P := P) (w := w) (mg := mg) (base := base) F_times h_part 
  have h_times := has_of o_times g_times F_times.kp (F_times.bindsN (ps := ["one", "other"]) fun _ _ _ _ _ _ us hl => match us, hl with | [_, _], _ => rfl)
  have o_is_less := ok_is_less (P := P) (w := w) (mg := mg) (base := base) F_is_less  
  have h_is_less := has_of o_is_less g_is_less F_is_less.kp (F_is_less.bindsN (ps := ["one", "other"]) fun _ _ _ _ _ _ us hl => match us, hl with | [_, _], _ => rfl)
  have o_law_sum := ok_law_sum (P := P) (w := w) (mg := mg) (base := base) F_law_sum h__law_part 
  have h__law_sum := has_of o_law_sum g_law_sum F_law_sum.kp (F_law_sum.bindsN (ps := ["one", "other"]) fun _ _ _ _ _ _ us hl => match us, hl with | [_, _], _ => rfl)
  have o_law_rest := ok_law_rest (P := P) (w := w) (mg := mg) (base := base) F_law_rest h__law_part 
  have h__law_rest := has_of o_law_rest g_law_rest F_law_rest.kp (F_law_rest.bindsN (ps := ["one", "other"]) fun _ _ _ _ _ _ us hl => match us, hl with | [_, _], _ => rfl)
  have o_law_fold := ok_law_fold (P := P) (w := w) (mg := mg) (base := base) F_law_fold h__law_part 
  have h__law_fold := has_of o_law_fold g_law_fold F_law_fold.kp (F_law_fold.bindsN (ps := ["one", "other"]) fun _ _ _ _ _ _ us hl => match us, hl with | [_, _], _ => rfl)
  have o_law_under := ok_law_under (P := P) (w := w) (mg := mg) (base := base) F_law_under  
  have h__law_under := has_of o_law_under g_law_under F_law_under.kp (F_law_under.bindsN (ps := ["one", "other"]) fun _ _ _ _ _ _ us hl => match us, hl with | [_, _], _ => rfl)
  have o_law_small := ok_law_small (P := P) (w := w) (mg := mg) (base := base) F_law_small h__law_draw h__law_part 
  have h__law_small := has_of o_law_small g_law_small F_law_small.kp (F_law_small.bindsN (ps := ["store"]) fun _ _ _ _ _ _ us hl => match us, hl with | [_], _ => rfl)
  have o_law_share := ok_law_share (P := P) (w := w) (mg := mg) (base := base) F_law_share h__law_draw h__law_part 
  have h__law_share := has_of o_law_share g_law_share F_law_share.kp (F_law_share.bindsN (ps := ["store"]) fun _ _ _ _ _ _ us hl => match us, hl with | [_], _ => rfl)
  have o_law_totals := ok_law_totals (P := P) (w := w) (mg := mg) (base := base) F_law_totals z_abs z_max z_min z_range h__law_draw h__law_part h__law_small h_plus h_times 
  have h__law_totals := has_of o_law_totals g_law_totals F_law_totals.kp (F_law_totals.bindsN (ps := ["store", "most"]) fun _ _ _ _ _ _ us hl => match us, hl with | [_, _], _ => rfl)
  have o_is_whole := ok_is_whole (P := P) (w := w) (mg := mg) (base := base) F_is_whole z_int z_type 
  have h_is_whole := has_of o_is_whole g_is_whole F_is_whole.kp (F_is_whole.bindsN (ps := ["thing"]) fun _ _ _ _ _ _ us hl => match us, hl with | [_], _ => rfl)
  have o_is_part := ok_is_part (P := P) (w := w) (mg := mg) (base := base) F_is_part m_gcd z_len z_tuple z_type h_is_whole 
  have h_is_part := has_of o_is_part g_is_part F_is_part.kp (F_is_part.bindsN (ps := ["thing"]) fun _ _ _ _ _ _ us hl => match us, hl with | [_], _ => rfl)
  have o_floor := ok_floor (P := P) (w := w) (mg := mg) (base := base) F_floor  
  have h_floor := has_of o_floor g_floor F_floor.kp (F_floor.bindsN (ps := ["one"]) fun _ _ _ _ _ _ us hl => match us, hl with | [_], _ => rfl)
  have Fk_least : FnKw K "least" s_least [("none", .non)] (He.fAd K d_least.at_) fd_least := F_least
  have o_least := ok_least (P := P) (w := w) (mg := mg) (base := base) F_least h_is_less 
  obtain ⟨ds_least, r_least, b_least⟩ := FunD.binds0 (ps := ["some", "none"]) Fk_least 1 (by simp) rfl (fun _ _ _ _ _ _ us ks l1 l2 => match us, l1, ks, l2 with | [_], _, [_], _ => ⟨_, _, _, _, _, _, rfl, rfl, rfl⟩)
  have h_least_d1 : Has P w K mg base CX0 "least" 2 ["some", "none"] (spP K TLeastQ) [.non] := ⟨_, _, ds_least, o_least, g_least, F_least.kp, b_least, r_least⟩
  have o_kept_of := ok_kept_of (P := P) (w := w) (mg := mg) (base := base) F_kept_of h_least_d1 h_times 
  have h__kept_of := has_of o_kept_of g_kept_of F_kept_of.kp (F_kept_of.bindsN (ps := ["new", "debt", "share"]) fun _ _ _ _ _ _ us hl => match us, hl with | [_, _, _], _ => rfl)
  have Fk_payments : FnKw K "payments" s_payments [("share", .ref (He.ga K "ONE")), ("whole", .bl false)] (He.fAd K d_payments.at_) fd_payments := F_payments
  have o_payments := ok_payments (P := P) (w := w) (mg := mg) (base := base) F_payments z_tuple h__kept_of h_floor h_is_less h_is_part h_less h_plus ⟨g_ONE, rfl⟩ ⟨g_NOUGHT, rfl⟩ hO hN
  obtain ⟨ds_payments, r_payments, b_payments⟩ := FunD.binds0 (ps := ["totals", "share", "whole"]) Fk_payments 1 (by simp) rfl (fun _ _ _ _ _ _ us ks l1 l2 => match us, l1, ks, l2 with | [_], _, [_, _], _ => ⟨_, _, _, _, _, _, rfl, rfl, _, _, _, _, _, _, rfl, rfl, rfl⟩)
  have h_payments_d1 : Has P w K mg base CX0 "payments" 4 ["totals", "share", "whole"] (spP K TPays) [.ref (He.ga K "ONE"), .bl false] := ⟨_, _, ds_payments, o_payments, g_payments, F_payments.kp, b_payments, r_payments⟩
  obtain ⟨mv_k1_share, kb_k1_share⟩ := FunD.kbinds0 (ps := ["totals", "share", "whole"]) Fk_payments 1 ["share"] [("whole", .bl false)] (fun us mv ws => us ++ ws ++ mv) (by simp) (by simp) (fun r1 r2 r3 => (r1.append r3).append r2) (fun _ _ _ _ _ _ us mv ws l1 l2 l3 => match us, l1, mv, l2, ws, l3 with | [_], _, [_], _, [_], _ => ⟨_, _, _, _, _, _, rfl, rfl, rfl⟩)
  have h_payments_k1_share : HasK P w K mg base CX0 "payments" 4 ["totals", "share", "whole"] (spP K TPays) 1 ["share"] gVps := hasK_of o_payments g_payments F_payments.kp kb_k1_share
  have o_law_kept := ok_law_kept (P := P) (w := w) (mg := mg) (base := base) F_law_kept z_zip h__law_fold h__law_rest h__law_sum h__law_under 
  have h__law_kept := has_of o_law_kept g_law_kept F_law_kept.kp (F_law_kept.bindsN (ps := ["totals", "ratio", "told"]) fun _ _ _ _ _ _ us hl => match us, hl with | [_, _, _], _ => rfl)
  have o_law_greatest := ok_law_greatest (P := P) (w := w) (mg := mg) (base := base) F_law_greatest h__law_under 
  have h__law_greatest := has_of o_law_greatest g_law_greatest F_law_greatest.kp (F_law_greatest.bindsN (ps := ["totals"]) fun _ _ _ _ _ _ us hl => match us, hl with | [_], _ => rfl)
  exact ok_law (P := P) (w := w) (mg := mg) (base := base) F_law z_len z_min z_range h_payments_d1 h__law_greatest h__law_kept h__law_share h__law_small h__law_store h__law_totals h_payments_k1_share hO
end DL
open PySem PySem.W PySem.Calls PyProof.Rows
set_option maxHeartbeats 0 in
theorem PySem.Challenge.cw_paymill_k44_whole_nobody_gives_back_holds : PySem.Challenge.rw_paymill_k44_whole_nobody_gives_back.Holds := by
  w_on; o_law
  refine HandSHeadRun.head_imp (r := OpenLaw.row PySem.Challenge.rw_paymill_k44_whole_nobody_gives_back) (q := view (OpenLaw.row PySem.Challenge.rw_paymill_k44_whole_nobody_gives_back).prog [0, 35]) (H := DL.hk) (ob := DL.ob) (M := 20000) (loose := DL.loose) (d := HandSHeadRun.topDef (OpenLaw.row PySem.Challenge.rw_paymill_k44_whole_nobody_gives_back).prog 35) (kwd := []) DL.ob_eq
    DL.run (by kernel_rfl) (by kernel_rfl) (by kernel_rfl) (by rfl) (by first | assumption | decide +kernel) (by decide +kernel) ⟨rfl, rfl, rfl, rfl, rfl, by decide +kernel⟩ ?hw ?hc
  case hw => w_witness2
  case hc =>
    refine DL.walk_ofG (l := PySem.Challenge.rw_paymill_k44_whole_nobody_gives_back) (n := 63) (k := 6) (x := "script") (CX := L2.CX0) rfl (by decide) (by kernel_rfl) ⟨rfl, by decide, by decide⟩ ?F (fun _ _ _ _ z => z)
    intro w mg fa h Y G hmg0
    obtain ⟨K, KX, c, ce⟩ := Y
    have hmg : mg ("law" : PySem.Str) = some (.ref fa) := by
      have e : (HandSHeadRun.topDef (OpenLaw.row PySem.Challenge.rw_paymill_k44_whole_nobody_gives_back).prog 35).name = ("law" : PySem.Str) := by kernel_rfl
      rw [← e]
      exact hmg0
    obtain ⟨fd, hb, hF⟩ := DL.facts (P := (PySem.Challenge.rw_paymill_k44_whole_nobody_gives_back).prog) (w := w) KX G hmg c ce
    exact ⟨K, fd, DL.spLaw K, KX, hb, fun H a ns hl _ hS => ⟨a, ns, rfl, hS, hl, fun _ => rfl⟩, hF⟩
