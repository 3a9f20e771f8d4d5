import PyProof.Rows.All
import Wide.All
import OpenK.AllK
import Wide.FinOn
import HandS.Base
import HandS.Call
import HandS.List
import HandS.Comp
import HandS.Ends
import HandS.Iter
import HandS.Words
import HandS.WordsList
import HandS.TupAny
import HandS.Walk
import HandS.Zip
import HandS.Flow
import HandS.Star
import HandS.IsInst
import HandS.Wide
import HandS.Style
import KE.GoesMore
import KE.GoesEnum
import PyProof.ReprRoads
import PyProof.CallFns
import HandS.ExcOwn
import HandS.WordsExc
import HandS.EndBits
import HandS.SetFor
import HandS.Strs
import KE.KRevSl
import KE.KTupSum
import HandS.Gcd
import PyProof.PureInt
import PyProof.NoPylong
import HandS.ExcIs
import HandS.More
import HandS.Conv
import PySem.Challenge.RW_servedall_k58_trips_and_all_in_prices
set_option Elab.async false
set_option linter.all false
set_option maxRecDepth 100000
set_option maxHeartbeats 8000000
namespace Fx
open PySem PySem.Spec PyProof.Rows L2

/-! ### heaps that grow -/
def Ex (H H' : Hp) : Prop := ∀ a o, H a = some o → H' a = some o
theorem Ex.refl (H : Hp) : Ex H H := fun _ _ h => h
theorem Ex.trans {H H1 H2 : Hp} (a : Ex H H1) (b : Ex H1 H2) : Ex H H2 := fun x o h => b x o (a x o h)
theorem Ex.new {H : Hp} {p : Addr} {o : HO} (h : H p = none) : Ex H (upd H p o) := fun a u e => by
  rw [upd_ne (ne_of_none e h)]
  exact e
theorem Ex.both {F H : Hp} {p : Addr} {o : HO} (e : Ex F H) : Ex (upd F p o) (upd H p o) := fun a u ha => by
  by_cases h : a = p
  · subst h; rw [upd_same] at ha ⊢; exact ha
  · rw [upd_ne h] at ha ⊢; exact e a u ha
theorem Ex.side {F H : Hp} {p : Addr} {o : HO} (e : Ex F H) (h : F p = none) : Ex F (upd H p o) := fun a u ha => by
  rw [upd_ne (ne_of_none ha h)]
  exact e a u ha
theorem ex_rd {H H' : Hp} {a : Addr} {u : HO} (e : Ex H H') (h : Rd H a u) : Rd H' a u := by
  rcases h with h | ⟨o, h⟩
  · exact Or.inl (e a _ h)
  · exact Or.inr ⟨o, e a _ h⟩
theorem ex_l {K : PySem.W.Frag} {H H' : Hp} {a : Addr} {xs : List V} (e : Ex H H') (h : SqL K H a xs) : SqL K H' a xs := by
  rcases h with h | h
  · exact Or.inl (ex_rd e h)
  · exact Or.inr h
theorem ex_t {K : PySem.W.Frag} {H H' : Hp} {a : Addr} {xs : List V} (e : Ex H H') (h : SqT K H a xs) : SqT K H' a xs := by
  rcases h with h | h
  · exact Or.inl (ex_rd e h)
  · exact Or.inr h
theorem fresh_back {H H' : Hp} {p : Addr} (e : Ex H H') (h : H' p = none) : H p = none := by
  cases h1 : H p with
  | none => rfl
  | some o => rw [e p o h1] at h; cases h

/-! ### data -/
mutual
inductive Dt (K : PySem.W.Frag) (F : Hp) : V → PyData → Prop
  | non : Dt K F .non .none
  | bl (b : Bool) : Dt K F (.bl b) (.bool b)
  | int (i : Int) : Dt K F (.int i) (.int i)
  | str (x : Str) : Dt K F (.str x) (.str x)
  | lst {a : Addr} {xs : List V} {ds : List PyData} : F a = some (.lst xs) → Dts K F xs ds → Dt K F (.ref a) (.list ds)
  | tup {a : Addr} {xs : List V} {ds : List PyData} : SqT K F a xs → Dts K F xs ds → Dt K F (.ref a) (.tuple ds)
inductive Dts (K : PySem.W.Frag) (F : Hp) : List V → List PyData → Prop
  | nil : Dts K F [] []
  | cons {v : V} {vs : List V} {d : PyData} {ds : List PyData} : Dt K F v d → Dts K F vs ds → Dts K F (v :: vs) (d :: ds)
end
section
variable {K : PySem.W.Frag} {F F' : Hp}
mutual
theorem Dt.mono (e : Ex F F') : ∀ (d : PyData) {v : V}, Dt K F v d → Dt K F' v d
  | .none, _, h => by cases h; exact .non
  | .bool b, _, h => by cases h; exact .bl b
  | .int i, _, h => by cases h; exact .int i
  | .str x, _, h => by cases h; exact .str x
  | .list ds, _, h => by
    cases h with
    | lst h1 h2 => exact .lst (e _ _ h1) (Dts.mono e ds h2)
  | .tuple ds, _, h => by
    cases h with
    | tup h1 h2 => exact .tup (ex_t e h1) (Dts.mono e ds h2)
  | .dict _, _, h => by cases h
theorem Dts.mono (e : Ex F F') : ∀ (ds : List PyData) {vs : List V}, Dts K F vs ds → Dts K F' vs ds
  | [], _, h => by cases h; exact .nil
  | d :: ds, _, h => by
    cases h with
    | cons h1 h2 => exact .cons (Dt.mono e d h1) (Dts.mono e ds h2)
end
mutual
theorem Dt.dp : ∀ (d : PyData) {v : V}, Dt K F v d → Dp K F v d
  | .none, _, h => by cases h; exact .non
  | .bool b, _, h => by cases h; exact .bl b
  | .int i, _, h => by cases h; exact .int i
  | .str x, _, h => by cases h; exact .str x
  | .list ds, _, h => by
    cases h with
    | lst h1 h2 => exact .lst (.inl (.inl h1)) (Dts.dp ds h2)
  | .tuple ds, _, h => by
    cases h with
    | tup h1 h2 => exact .tup h1 (Dts.dp ds h2)
  | .dict _, _, h => by cases h
theorem Dts.dp : ∀ (ds : List PyData) {vs : List V}, Dts K F vs ds → DpAll K F vs ds
  | [], _, h => by cases h; exact .nil
  | d :: ds, _, h => by
    cases h with
    | cons h1 h2 => exact .cons (Dt.dp d h1) (Dts.dp ds h2)
end
theorem Dts.len : ∀ {vs : List V} {ds : List PyData}, Dts K F vs ds → vs.length = ds.length
  | _, _, .nil => rfl
  | _, _, .cons _ h => by rw [List.length_cons, List.length_cons, h.len]
theorem Dts.get : ∀ {vs : List V} {ds : List PyData} {i : Nat} {d : PyData}, Dts K F vs ds → ds[i]? = some d → ∃ v, vs[i]? = some v ∧ Dt K F v d
  | _, _, _, _, .nil, e => by simp at e
  | _, _, 0, _, .cons h _, e => by simp at e; subst e; exact ⟨_, rfl, h⟩
  | _, _, i + 1, d, .cons _ h, e => by
    obtain ⟨v, h1, h2⟩ := h.get (i := i) (d := d) (by simpa using e)
    exact ⟨v, by simpa using h1, h2⟩
theorem Dts.append : ∀ {vs ws : List V} {ds es : List PyData}, Dts K F vs ds → Dts K F ws es → Dts K F (vs ++ ws) (ds ++ es)
  | _, _, _, _, .nil, h => h
  | _, _, _, _, .cons a b, h => .cons a (b.append h)
theorem Dts.take : ∀ {vs : List V} {ds : List PyData} (n : Nat), Dts K F vs ds → Dts K F (vs.take n) (ds.take n)
  | _, _, 0, _ => .nil
  | _, _, _ + 1, .nil => .nil
  | _, _, n + 1, .cons a b => .cons a (b.take n)
theorem Dts.drop : ∀ {vs : List V} {ds : List PyData} (n : Nat), Dts K F vs ds → Dts K F (vs.drop n) (ds.drop n)
  | _, _, 0, h => h
  | _, _, _ + 1, .nil => .nil
  | _, _, n + 1, .cons _ b => b.drop n
theorem Dts.ints {vs : List V} {ns : List Int} (h : Dts K F vs (ns.map .int)) : vs = ns.map V.int := by
  induction ns generalizing vs with
  | nil => cases h; rfl
  | cons n r ih =>
    cases h with
    | cons a b => cases a; rw [ih b]; rfl
theorem Dts.of_ints (ns : List Int) : Dts K F (ns.map V.int) (ns.map .int) := by
  induction ns with
  | nil => exact .nil
  | cons n r ih => exact .cons (.int n) ih
theorem Dts.bools {vs : List V} {ns : List Bool} (h : Dts K F vs (ns.map .bool)) : vs = ns.map V.bl := by
  induction ns generalizing vs with
  | nil => cases h; rfl
  | cons n r ih =>
    cases h with
    | cons a b => cases a; rw [ih b]; rfl
end

/-! ### entities: data, an owned object, unknown, or of which something is known that stays -/
structure PR where
  φ : PySem.W.Frag → Hp → V → Prop
  mono : ∀ {K : PySem.W.Frag} {F F' : Hp} {v : V}, Ex F F' → φ K F v → φ K F' v
inductive En where
  | d (x : PyData) | o (a : Addr) | v (w : V) | u | s (ds : List PyData) | ob (C : Addr) (fs : List (Str × PyData)) | g (p : PR)
/-- a list that is only read -/
def Seen (K : PySem.W.Frag) (F : Hp) (v : V) (ds : List PyData) : Prop := ∃ a vs, v = .ref a ∧ SqL K F a vs ∧ Dts K F vs ds
/-- fields -/
inductive Flds (K : PySem.W.Frag) (F : Hp) : List (Str × V) → List (Str × PyData) → Prop
  | nil : Flds K F [] []
  | cons {f : Str} {v : V} {d : PyData} {vs : List (Str × V)} {fs : List (Str × PyData)} : Dt K F v d → Flds K F vs fs → Flds K F ((f, v) :: vs) ((f, d) :: fs)
theorem Flds.mono {K : PySem.W.Frag} {F F' : Hp} (x : Ex F F') : ∀ {vs : List (Str × V)} {fs : List (Str × PyData)}, Flds K F vs fs → Flds K F' vs fs
  | _, _, .nil => .nil
  | _, _, .cons a b => .cons (Dt.mono x _ a) (b.mono x)
/-- an instance that never changes any more -/
def Inst (K : PySem.W.Frag) (F : Hp) (v : V) (C : Addr) (fs : List (Str × PyData)) : Prop := ∃ a dx vs, v = .ref a ∧ F a = some (.ins C dx vs) ∧ Flds K F vs fs
theorem Inst.mono {K : PySem.W.Frag} {F F' : Hp} {v : V} {C : Addr} {fs : List (Str × PyData)} (x : Ex F F') (h : Inst K F v C fs) : Inst K F' v C fs := by
  obtain ⟨a, dx, vs, e, h1, h2⟩ := h
  exact ⟨a, dx, vs, e, x _ _ h1, h2.mono x⟩
theorem Seen.mono {K : PySem.W.Frag} {F F' : Hp} {v : V} {ds : List PyData} (x : Ex F F') (h : Seen K F v ds) : Seen K F' v ds := by
  obtain ⟨a, vs, e, h1, h2⟩ := h
  exact ⟨a, vs, e, ex_l x h1, Dts.mono x ds h2⟩
def EnOk (K : PySem.W.Frag) (F : Hp) (v : V) : En → Prop
  | .d x => Dt K F v x
  | .o a => v = .ref a
  | .v w => v = w
  | .u => True
  | .s ds => Seen K F v ds
  | .ob C fs => Inst K F v C fs
  | .g p => p.φ K F v
theorem EnOk.mono {K : PySem.W.Frag} {F F' : Hp} {v : V} {e : En} (x : Ex F F') (h : EnOk K F v e) : EnOk K F' v e := by
  cases e with
  | d y => exact Dt.mono x y h
  | o a => exact h
  | v w => exact h
  | u => trivial
  | s ds => exact Seen.mono x h
  | ob C fs => exact Inst.mono x h
  | g p => exact p.mono x h
def SlOk (K : PySem.W.Frag) (F : Hp) (s : Option V) : En → Prop
  | .d x => ∃ v, s = some v ∧ Dt K F v x
  | .o a => s = some (.ref a)
  | .v w => s = some w
  | .u => True
  | .s ds => ∃ v, s = some v ∧ Seen K F v ds
  | .ob C fs => ∃ v, s = some v ∧ Inst K F v C fs
  | .g p => ∃ v, s = some v ∧ p.φ K F v
theorem SlOk.mono {K : PySem.W.Frag} {F F' : Hp} {s : Option V} {e : En} (x : Ex F F') (h : SlOk K F s e) : SlOk K F' s e := by
  cases e with
  | d y => obtain ⟨v, h1, h2⟩ := h; exact ⟨v, h1, Dt.mono x y h2⟩
  | o a => exact h
  | v w => exact h
  | u => trivial
  | s ds => obtain ⟨v, h1, h2⟩ := h; exact ⟨v, h1, Seen.mono x h2⟩
  | ob C fs => obtain ⟨v, h1, h2⟩ := h; exact ⟨v, h1, Inst.mono x h2⟩
  | g p => obtain ⟨v, h1, h2⟩ := h; exact ⟨v, h1, p.mono x h2⟩
theorem SlOk.of {K : PySem.W.Frag} {F : Hp} {v : V} {e : En} (h : EnOk K F v e) : SlOk K F (some v) e := by
  cases e with
  | d y => exact ⟨v, rfl, h⟩
  | o a => exact congrArg some h
  | v w => exact congrArg some h
  | u => trivial
  | s ds => exact ⟨v, rfl, h⟩
  | ob C fs => exact ⟨v, rfl, h⟩
  | g p => exact ⟨v, rfl, h⟩
inductive Sls (K : PySem.W.Frag) (F : Hp) : L2.St → List En → Prop
  | nil : Sls K F [] []
  | cons {s : Option V} {σ : L2.St} {e : En} {ρ : List En} : SlOk K F s e → Sls K F σ ρ → Sls K F (s :: σ) (e :: ρ)
inductive Ens (K : PySem.W.Frag) (F : Hp) : List V → List En → Prop
  | nil : Ens K F [] []
  | cons {v : V} {vs : List V} {e : En} {es : List En} : EnOk K F v e → Ens K F vs es → Ens K F (v :: vs) (e :: es)
section
variable {K : PySem.W.Frag} {F F' : Hp}
theorem Sls.mono (x : Ex F F') : ∀ {σ : L2.St} {ρ : List En}, Sls K F σ ρ → Sls K F' σ ρ
  | _, _, .nil => .nil
  | _, _, .cons a b => .cons (a.mono x) (b.mono x)
theorem Sls.get : ∀ {σ : L2.St} {ρ : List En} {i : Nat} {e : En}, Sls K F σ ρ → ρ[i]? = some e → ∃ s, σ[i]? = some s ∧ SlOk K F s e
  | _, _, _, _, .nil, h => by simp at h
  | _, _, 0, _, .cons a _, h => by simp at h; subst h; exact ⟨_, rfl, a⟩
  | _, _, i + 1, e, .cons _ b, h => by
    obtain ⟨s, h1, h2⟩ := b.get (i := i) (e := e) (by simpa using h)
    exact ⟨s, by simpa using h1, h2⟩
theorem Sls.set : ∀ {σ : L2.St} {ρ : List En} (i : Nat) {s : Option V} {e : En}, Sls K F σ ρ → SlOk K F s e → Sls K F (σ.set i s) (ρ.set i e)
  | _, _, _, _, _, .nil, _ => .nil
  | _, _, 0, _, _, .cons _ b, h => .cons h b
  | _, _, i + 1, _, _, .cons a b, h => .cons a (b.set i h)
theorem Sls.wipe {σ : L2.St} {ρ : List En} (h : Sls K F σ ρ) : ∀ vs : List Nat, Sls K F (L2.wipe σ vs) (vs.foldr (fun i r => r.set i .u) ρ)
  | [] => h
  | i :: vs => (h.wipe vs).set i trivial
theorem Ens.mono (x : Ex F F') : ∀ {vs : List V} {es : List En}, Ens K F vs es → Ens K F' vs es
  | _, _, .nil => .nil
  | _, _, .cons a b => .cons (a.mono x) (b.mono x)
theorem Ens.sls : ∀ {vs : List V} {es : List En}, Ens K F vs es → Sls K F (vs.map some) es
  | _, _, .nil => .nil
  | _, _, .cons a b => .cons (.of a) b.sls
theorem Ens.len : ∀ {vs : List V} {es : List En}, Ens K F vs es → vs.length = es.length
  | _, _, .nil => rfl
  | _, _, .cons _ b => by rw [List.length_cons, List.length_cons, b.len]
theorem Sls.append : ∀ {σ τ : L2.St} {ρ ξ : List En}, Sls K F σ ρ → Sls K F τ ξ → Sls K F (σ ++ τ) (ρ ++ ξ)
  | _, _, _, _, .nil, h => h
  | _, _, _, _, .cons a b, h => .cons a (b.append h)
theorem Sls.us : ∀ n : Nat, Sls K F (List.replicate n none) (List.replicate n .u)
  | 0 => .nil
  | n + 1 => .cons trivial (Sls.us n)
end

/-! ### owned objects -/
inductive Ow where
  | ls (a : Addr) (ds : List PyData)
  | rw (a : Addr) (o : HO)
  | ob (a C dx : Addr) (fs : List (Str × PyData))
def Ow.ad : Ow → Addr
  | .ls a _ => a
  | .rw a _ => a
  | .ob a _ _ _ => a
def OwOk (K : PySem.W.Frag) (F H : Hp) : Ow → Prop
  | .ls a ds => ∃ vs, H a = some (.lst vs) ∧ Dts K F vs ds
  | .rw a o => H a = some o
  | .ob a C dx fs => ∃ vs, H a = some (.ins C dx vs) ∧ Flds K F vs fs
structure At (K : PySem.W.Frag) (F : Hp) (R : List Ow) (H : Hp) : Prop where
  ex : Ex F H
  nd : (R.map Ow.ad).Nodup
  own : ∀ r ∈ R, F r.ad = none ∧ OwOk K F H r
theorem OwOk.some {K : PySem.W.Frag} {F H : Hp} {r : Ow} (h : OwOk K F H r) : ∃ o, H r.ad = some o := by
  cases r with
  | ls a ds => obtain ⟨vs, h1, _⟩ := h; exact ⟨_, h1⟩
  | rw a o => exact ⟨_, h⟩
  | ob a C dx fs => obtain ⟨vs, h1, _⟩ := h; exact ⟨_, h1⟩
theorem OwOk.mono {K : PySem.W.Frag} {F F' H H' : Hp} {r : Ow} (x : Ex F F') (y : ∀ o, H r.ad = Option.some o → H' r.ad = Option.some o) (h : OwOk K F H r) : OwOk K F' H' r := by
  cases r with
  | ls a ds => obtain ⟨vs, h1, h2⟩ := h; exact ⟨vs, y _ h1, h2.mono x⟩
  | rw a o => exact y _ h
  | ob a C dx fs => obtain ⟨vs, h1, h2⟩ := h; exact ⟨vs, y _ h1, h2.mono x⟩
/-- a new frozen object -/
theorem At.new {K : PySem.W.Frag} {F H : Hp} {R : List Ow} {p : Addr} (o : HO) (A : At K F R H) (hp : H p = none) : Ex F (upd F p o) ∧ At K (upd F p o) R (upd H p o) := by
  have hF := fresh_back A.ex hp
  refine ⟨Ex.new hF, A.ex.both, A.nd, fun r hr => ?_⟩
  obtain ⟨h1, h2⟩ := A.own r hr
  obtain ⟨o', ho⟩ := h2.some
  have hne : r.ad ≠ p := ne_of_none ho hp
  exact ⟨by rw [upd_ne hne]; exact h1, h2.mono (Ex.new hF) fun u hu => by rw [upd_ne hne]; exact hu⟩
theorem At.perm {K : PySem.W.Frag} {F H : Hp} {R R' : List Ow} (A : At K F R H) (h : R.Perm R') : At K F R' H :=
  ⟨A.ex, (h.map _).nodup_iff.mp A.nd, fun r hr => A.own r (h.symm.subset hr)⟩

/-! ### the judgements -/
section
variable (K : PySem.W.Frag)
def Ev (te : TE) (ρ : List En) (R : List Ow) (e : En) (R' : List Ow) : Prop :=
  ∀ (R0 : List Ow) (F H : Hp) (σ : L2.St), Sls K F σ ρ → At K F (R ++ R0) H → ∀ Q : VK, (∀ v F1 H1, Ex F F1 → At K F1 (R' ++ R0) H1 → EnOk K F1 v e → Q v H1) → te σ H Q
def Et (tt : TT) (ρ : List En) (R : List Ow) (b : Bool) (R' : List Ow) : Prop :=
  ∀ (R0 : List Ow) (F H : Hp) (σ : L2.St), Sls K F σ ρ → At K F (R ++ R0) H → ∀ Q : Bool → Hp → Prop, (∀ F1 H1, Ex F F1 → At K F1 (R' ++ R0) H1 → Q b H1) → tt σ H Q
def Ea (ta : TA) (ρ : List En) (R : List Ow) (es : List En) (R' : List Ow) : Prop :=
  ∀ (R0 : List Ow) (F H : Hp) (σ : L2.St), Sls K F σ ρ → At K F (R ++ R0) H → ∀ Q : List V → Hp → Prop, (∀ vs F1 H1, Ex F F1 → At K F1 (R' ++ R0) H1 → Ens K F1 vs es → Q vs H1) → ta σ H Q
/-- an operation on values -/
def Rv (r : R2) (x y : En) (R : List Ow) (z : En) : Prop :=
  ∀ (R0 : List Ow) (F H : Hp) (v u : V), EnOk K F v x → EnOk K F u y → At K F (R ++ R0) H → ∀ Q : VK, (∀ w F1 H1, Ex F F1 → At K F1 (R ++ R0) H1 → EnOk K F1 w z → Q w H1) → r v u H Q
/-- a call on values -/
def RcK (r : List V → Hp → VK → Prop) (es : List En) (R : List Ow) (z : En) : Prop :=
  ∀ (R0 : List Ow) (F H : Hp) (vs : List V), Ens K F vs es → At K F (R ++ R0) H → ∀ Q : VK, (∀ w F1 H1, Ex F F1 → At K F1 (R ++ R0) H1 → EnOk K F1 w z → Q w H1) → r vs H Q
structure Post where
  nx : List En → List Ow → Prop := fun _ _ => False
  rt : En → List Ow → Prop := fun _ _ => False
  bk : List En → List Ow → Prop := fun _ _ => False
  ct : List En → List Ow → Prop := fun _ _ => False
structure PostOk (P : Post) (F : Hp) (R0 : List Ow) (D : Ends) : Prop where
  nx : ∀ ρ R σ F1 H1, P.nx ρ R → Ex F F1 → Sls K F1 σ ρ → At K F1 (R ++ R0) H1 → D.nx σ H1
  rt : ∀ e R v F1 H1, P.rt e R → Ex F F1 → EnOk K F1 v e → At K F1 (R ++ R0) H1 → D.rt v H1
  bk : ∀ ρ R σ F1 H1, P.bk ρ R → Ex F F1 → Sls K F1 σ ρ → At K F1 (R ++ R0) H1 → D.bk σ H1
  ct : ∀ ρ R σ F1 H1, P.ct ρ R → Ex F F1 → Sls K F1 σ ρ → At K F1 (R ++ R0) H1 → D.ct σ H1
def Es (ts : TS) (ρ : List En) (R : List Ow) (P : Post) : Prop :=
  ∀ (R0 : List Ow) (F H : Hp) (σ : L2.St) (D : Ends), Sls K F σ ρ → At K F (R ++ R0) H → PostOk K P F R0 D → ts D σ H
/-- a target -/
def Eg (g : TG) (e : En) (ρ ρ' : List En) : Prop :=
  ∀ (R : List Ow) (F H : Hp) (σ : L2.St) (v : V), Sls K F σ ρ → At K F R H → EnOk K F v e → ∀ Q : L2.St → Hp → Prop, (∀ σ', Sls K F σ' ρ' → Q σ' H) → g v σ H Q
/-- what is walked: the items are data -/
def Wk (J : It) (R0 : List Ow) (F : Hp) (xs : List PyData) : Prop :=
  ∃ (G : Hp → Prop) (Y : Nat → Hp → V → Hp → Prop), L2.Walk J xs.length G Y ∧ (∀ F1 R H, Ex F F1 → At K F1 R H → G H) ∧
    ∀ i x d F1 R H H', Ex F F1 → At K F1 R H → Y i H x H' → xs[i]? = some d → ∃ F2, Ex F1 F2 ∧ At K F2 R H' ∧ Dt K F2 x d
def Ei (wi : TI) (ρ : List En) (R : List Ow) (xs : List PyData) (R' : List Ow) : Prop :=
  ∀ (R0 : List Ow) (F H : Hp) (σ : L2.St), Sls K F σ ρ → At K F (R ++ R0) H → ∀ Q : It → Hp → Prop, (∀ J F1 H1, Ex F F1 → At K F1 (R' ++ R0) H1 → Wk K J R0 F1 xs → Q J H1) → wi σ H Q
end
end Fx

namespace Fx
open PySem PySem.Spec PyProof.Rows L2 StX RZ
section
variable {K : PySem.W.Frag} {ρ ρ' : List En} {R R1 Rz R3 : List Ow} {e e1 e2 x y z : En} {ta tb tc te : TE} {t u : TT} {r : L2.R2}

theorem ev_d {i : Nat} {x : PyData} (h : ρ[i]? = some (.d x)) : Ev K (tVar i) ρ R (.d x) R := fun R0 F H σ S A Q q => by
  obtain ⟨s, h1, v, rfl, h2⟩ := S.get h
  exact ⟨v, h1, q v F H (Ex.refl F) A h2⟩
theorem ev_o {i : Nat} {a : Addr} (h : ρ[i]? = some (.o a)) : Ev K (tVar i) ρ R (.o a) R := fun R0 F H σ S A Q q => by
  obtain ⟨s, h1, h2⟩ := S.get h
  cases h2
  exact ⟨_, h1, q _ F H (Ex.refl F) A rfl⟩
/-- an owned list is frozen -/
theorem At.freeze {F H : Hp} {a : Addr} {ds : List PyData} {Rb : List Ow} (A : At K F (.ls a ds :: Rb) H) : ∃ F1, Ex F F1 ∧ At K F1 Rb H ∧ Dt K F1 (.ref a) (.list ds) := by
  obtain ⟨hF, vs, hH, hd⟩ := A.own _ (List.mem_cons_self ..)
  have x := Ex.new (o := .lst vs) hF
  have nd := A.nd
  rw [List.map_cons, List.nodup_cons] at nd
  refine ⟨_, x, ⟨fun b o hb => ?_, nd.2, fun r hr => ?_⟩, .lst upd_same (hd.mono x)⟩
  · by_cases hba : b = a
    · subst hba; erw [upd_same] at hb; cases hb; exact hH
    · erw [upd_ne hba] at hb; exact A.ex _ _ hb
  · obtain ⟨h1, h2⟩ := A.own r (List.mem_cons_of_mem _ hr)
    have hne : r.ad ≠ a := fun e => nd.1 (by show a ∈ _; rw [← e]; exact List.mem_map_of_mem hr)
    exact ⟨by erw [upd_ne hne]; exact h1, h2.mono x fun _ h => h⟩
theorem ev_frz {i : Nat} {a : Addr} {ds : List PyData} {Ra Rb : List Ow} (h : ρ[i]? = some (.o a)) : Ev K (tVar i) ρ (Ra ++ .ls a ds :: Rb) (.d (.list ds)) (Ra ++ Rb) := fun R0 F H σ S A Q q => by
  obtain ⟨s, h1, h2⟩ := S.get h
  cases h2
  have A1 : At K F (.ls a ds :: (Ra ++ Rb ++ R0)) H := A.perm (by
    rw [List.append_assoc, List.cons_append]
    rw [List.append_assoc]
    exact List.perm_middle)
  obtain ⟨F1, x, A2, d⟩ := A1.freeze
  exact ⟨_, h1, q _ F1 H x A2 d⟩
theorem ev_int {i : Int} : Ev K (tC (.int i)) ρ R (.d (.int i)) R := fun R0 F H σ S A Q q => q _ F H (Ex.refl F) A (.int i)
theorem ev_bl {b : Bool} : Ev K (tC (.bl b)) ρ R (.d (.bool b)) R := fun R0 F H σ S A Q q => q _ F H (Ex.refl F) A (.bl b)
theorem ev_non : Ev K (tC .non) ρ R (.d .none) R := fun R0 F H σ S A Q q => q _ F H (Ex.refl F) A .non
theorem ev_str {s : Str} : Ev K (tC (.str s)) ρ R (.d (.str s)) R := fun R0 F H σ S A Q q => q _ F H (Ex.refl F) A (.str s)
theorem ev_op (ha : Ev K ta ρ R x R1) (hb : Ev K tb ρ R1 y Rz) (hr : Rv K r x y Rz z) : Ev K (tOp r ta tb) ρ R z Rz := fun R0 F H σ S A Q q =>
  ha R0 F H σ S A _ fun v F1 H1 x1 A1 e1 => hb R0 F1 H1 σ (S.mono x1) A1 _ fun u F2 H2 x2 A2 e2 => hr R0 F2 H2 v u (e1.mono x2) e2 A2 Q fun w F3 H3 x3 A3 e3 => q w F3 H3 (x1.trans (x2.trans x3)) A3 e3
theorem rv_int {g : Int → Int → Int} {i j : Int} : Rv K (rI0 fun i j => .int (g i j)) (.d (.int i)) (.d (.int j)) R (.d (.int (g i j))) := fun R0 F H v u hv hu A Q q => by
  cases hv; cases hu; exact ⟨i, j, rfl, rfl, q _ F H (Ex.refl F) A (.int _)⟩
theorem rv_bl {g : Int → Int → Bool} {i j : Int} : Rv K (rI0 fun i j => .bl (g i j)) (.d (.int i)) (.d (.int j)) R (.d (.bool (g i j))) := fun R0 F H v u hv hu A Q q => by
  cases hv; cases hu; exact ⟨i, j, rfl, rfl, q _ F H (Ex.refl F) A (.bl _)⟩
theorem rv_intC {C : Int → Int → Prop} {g : Int → Int → Int} {i j : Int} (hc : C i j) : Rv K (rI C fun i j => .int (g i j)) (.d (.int i)) (.d (.int j)) R (.d (.int (g i j))) := fun R0 F H v u hv hu A Q q => by
  cases hv; cases hu; exact ⟨i, j, rfl, rfl, hc, q _ F H (Ex.refl F) A (.int _)⟩
theorem rv_eqD {d e : PyData} (h1 : SeqAt.shaped d = true) (h2 : SeqAt.shaped e = true) : Rv K (rEqD K) (.d d) (.d e) R (.d (.bool (PyData.eqv d e))) := fun R0 F H v u hv hu A Q q =>
  ⟨d, e, (Dt.mono A.ex d hv).dp, (Dt.mono A.ex e hu).dp, h1, h2, q _ F H (Ex.refl F) A (.bl _)⟩
theorem rv_neD {d e : PyData} (h1 : SeqAt.shaped d = true) (h2 : SeqAt.shaped e = true) : Rv K (rNeD K) (.d d) (.d e) R (.d (.bool (!PyData.eqv d e))) := fun R0 F H v u hv hu A Q q =>
  ⟨d, e, (Dt.mono A.ex d hv).dp, (Dt.mono A.ex e hu).dp, h1, h2, q _ F H (Ex.refl F) A (.bl _)⟩
theorem Dts.atI {F : Hp} {vs : List V} {ds : List PyData} {i : Int} {d : PyData} (h : Dts K F vs ds) (e : L2.atI ds i = some d) : ∃ v, L2.atI vs i = some v ∧ Dt K F v d := by
  unfold L2.atI at e ⊢
  rw [h.len]
  cases q : L2.ixN ds.length i with
  | none => rw [q] at e; cases e
  | some j => rw [q] at e; exact h.get e
theorem rv_ixL {ds : List PyData} {i : Int} {d : PyData} (h : L2.atI ds i = some d) : Rv K (rIxL K) (.d (.list ds)) (.d (.int i)) R (.d d) := fun R0 F H v u hv hu A Q q => by
  cases hu
  cases hv with
  | lst h1 h2 =>
    obtain ⟨w, h3, h4⟩ := h2.atI h
    exact ⟨_, _, i, w, rfl, rfl, .inl (.inl (A.ex _ _ h1)), h3, q w F H (Ex.refl F) A h4⟩
theorem rv_ixT {ds : List PyData} {i : Int} {d : PyData} (h : L2.atI ds i = some d) : Rv K (rIxT K) (.d (.tuple ds)) (.d (.int i)) R (.d d) := fun R0 F H v u hv hu A Q q => by
  cases hu
  cases hv with
  | tup h1 h2 =>
    obtain ⟨w, h3, h4⟩ := h2.atI h
    exact ⟨_, _, i, w, rfl, rfl, ex_t A.ex h1, h3, q w F H (Ex.refl F) A h4⟩
/-- an item of an owned list (read) -/
theorem rv_ixO {Ra Rb : List Ow} {a : Addr} {ds : List PyData} {i : Int} {d : PyData} (h : L2.atI ds i = some d) : Rv K (rIxL K) (.o a) (.d (.int i)) (Ra ++ .ls a ds :: Rb) (.d d) := fun R0 F H v u hv hu A Q q => by
  cases hu
  cases hv
  obtain ⟨_, vs, h1, h2⟩ := A.own (.ls a ds) (by simp)
  obtain ⟨w, h3, h4⟩ := h2.atI h
  exact ⟨_, _, i, w, rfl, rfl, .inl (.inl h1), h3, q w F H (Ex.refl F) A h4⟩
theorem rv_cat {ds es : List PyData} (hl : ds.length + es.length ≤ sizeLine) : Rv K rCat (.d (.list ds)) (.d (.list es)) R (.d (.list (ds ++ es))) := fun R0 F H v u hv hu A Q q => by
  cases hv with
  | lst h1 h2 =>
    cases hu with
    | lst h3 h4 =>
      refine ⟨_, _, _, _, rfl, rfl, A.ex _ _ h1, A.ex _ _ h3, by rw [h2.len, h4.len]; exact hl, fun p hp => ?_⟩
      obtain ⟨x, A1⟩ := A.new (.lst (_ ++ _)) hp
      exact q _ _ _ x A1 (.lst upd_same ((h2.append h4).mono x))
theorem rv_catT {ds es : List PyData} (hl : ds.length + es.length ≤ sizeLine) : Rv K (rCatA K) (.d (.tuple ds)) (.d (.tuple es)) R (.d (.tuple (ds ++ es))) := fun R0 F H v u hv hu A Q q => by
  cases hv with
  | tup h1 h2 =>
    cases hu with
    | tup h3 h4 =>
      refine ⟨_, _, _, _, rfl, rfl, ex_t A.ex h1, ex_t A.ex h3, by rw [h2.len, h4.len]; exact hl, fun e => ?_, fun _ e => ?_, fun _ _ p hp => ?_⟩
      · subst e; cases h2; exact q _ F H (Ex.refl F) A (.tup h3 h4)
      · subst e; cases h4; rw [List.append_nil] at q; exact q _ F H (Ex.refl F) A (.tup h1 h2)
      · obtain ⟨x, A1⟩ := A.new (.tup (_ ++ _)) hp
        exact q _ _ _ x A1 (.tup (.inl (.inl upd_same)) ((h2.append h4).mono x))

/-! ### tests -/
theorem et_test {b : Bool} (h : Ev K te ρ R (.d (.bool b)) R1) : Et K (tTest te) ρ R b R1 := fun R0 F H σ S A Q q =>
  h R0 F H σ S A _ fun v F1 H1 x1 A1 e1 => by cases e1; exact ⟨b, rfl, q F1 H1 x1 A1⟩
theorem et_B {b : Bool} (h : Ev K te ρ R (.d (.bool b)) R1) : Et K (tB te) ρ R b R1 := fun R0 F H σ S A Q q =>
  h R0 F H σ S A _ fun v F1 H1 x1 A1 e1 => by cases e1; exact ⟨b, rfl, q F1 H1 x1 A1⟩
theorem et_andT {b : Bool} (h1 : Et K t ρ R true R1) (h2 : Et K u ρ R1 b Rz) : Et K (tAnd t u) ρ R b Rz := fun R0 F H σ S A Q q =>
  h1 R0 F H σ S A _ fun F1 H1 x1 A1 => by
    show u σ H1 Q
    exact h2 R0 F1 H1 σ (S.mono x1) A1 Q fun F2 H2 x2 A2 => q F2 H2 (x1.trans x2) A2
theorem et_andF (h1 : Et K t ρ R false R1) : Et K (tAnd t u) ρ R false R1 := fun R0 F H σ S A Q q => h1 R0 F H σ S A _ fun F1 H1 x1 A1 => q F1 H1 x1 A1
theorem et_orF {b : Bool} (h1 : Et K t ρ R false R1) (h2 : Et K u ρ R1 b Rz) : Et K (tOr t u) ρ R b Rz := fun R0 F H σ S A Q q =>
  h1 R0 F H σ S A _ fun F1 H1 x1 A1 => by
    show u σ H1 Q
    exact h2 R0 F1 H1 σ (S.mono x1) A1 Q fun F2 H2 x2 A2 => q F2 H2 (x1.trans x2) A2
theorem et_orT (h1 : Et K t ρ R true R1) : Et K (tOr t u) ρ R true R1 := fun R0 F H σ S A Q q => h1 R0 F H σ S A _ fun F1 H1 x1 A1 => q F1 H1 x1 A1
theorem et_not {b : Bool} (h1 : Et K t ρ R b R1) : Et K (tNot t) ρ R (!b) R1 := fun R0 F H σ S A Q q => h1 R0 F H σ S A _ fun F1 H1 x1 A1 => q F1 H1 x1 A1
/-- and, or: the second only where it is asked; nothing changes -/
theorem et_and {a b : Bool} (h1 : Et K t ρ R a R1) (h2 : a = true → Et K u ρ R1 b R1) : Et K (tAnd t u) ρ R (a && b) R1 := by
  cases a with
  | true => exact et_andT h1 (h2 rfl)
  | false => exact et_andF h1
theorem et_or {a b : Bool} (h1 : Et K t ρ R a R1) (h2 : a = false → Et K u ρ R1 b R1) : Et K (tOr t u) ρ R (a || b) R1 := by
  cases a with
  | false => exact et_orF h1 (h2 rfl)
  | true => exact et_orT h1
theorem ev_andV {a b : Bool} (h1 : Ev K ta ρ R (.d (.bool a)) R1) (h2 : a = true → Ev K tb ρ R1 (.d (.bool b)) R1) : Ev K (tAndV ta tb) ρ R (.d (.bool (a && b))) R1 := fun R0 F H σ S A Q q =>
  h1 R0 F H σ S A _ fun v F1 H1 x1 A1 e1 => by
    cases e1
    refine ⟨a, rfl, ?_⟩
    cases a with
    | true => exact h2 rfl R0 F1 H1 σ (S.mono x1) A1 Q fun w F2 H2 x2 A2 e2 => q w F2 H2 (x1.trans x2) A2 e2
    | false => exact q _ F1 H1 x1 A1 (.bl false)
theorem ev_orV {a b : Bool} (h1 : Ev K ta ρ R (.d (.bool a)) R1) (h2 : a = false → Ev K tb ρ R1 (.d (.bool b)) R1) : Ev K (tOrV ta tb) ρ R (.d (.bool (a || b))) R1 := fun R0 F H σ S A Q q =>
  h1 R0 F H σ S A _ fun v F1 H1 x1 A1 e1 => by
    cases e1
    refine ⟨a, rfl, ?_⟩
    cases a with
    | false => exact h2 rfl R0 F1 H1 σ (S.mono x1) A1 Q fun w F2 H2 x2 A2 e2 => q w F2 H2 (x1.trans x2) A2 e2
    | true => exact q _ F1 H1 x1 A1 (.bl true)
theorem ev_notV {a : Bool} (h1 : Ev K ta ρ R (.d (.bool a)) R1) : Ev K (tNotV ta) ρ R (.d (.bool (!a))) R1 := fun R0 F H σ S A Q q =>
  h1 R0 F H σ S A _ fun v F1 H1 x1 A1 e1 => by cases e1; exact ⟨a, rfl, q _ F1 H1 x1 A1 (.bl _)⟩
theorem ev_if {b : Bool} (h1 : Et K t ρ R b R1) (h2 : b = true → Ev K ta ρ R1 e Rz) (h3 : b = false → Ev K tb ρ R1 e Rz) : Ev K (tIf t ta tb) ρ R e Rz := fun R0 F H σ S A Q q =>
  h1 R0 F H σ S A _ fun F1 H1 x1 A1 => by
    cases b with
    | true => exact h2 rfl R0 F1 H1 σ (S.mono x1) A1 Q fun w F2 H2 x2 A2 e2 => q w F2 H2 (x1.trans x2) A2 e2
    | false => exact h3 rfl R0 F1 H1 σ (S.mono x1) A1 Q fun w F2 H2 x2 A2 e2 => q w F2 H2 (x1.trans x2) A2 e2
/-- is None -/
def isNoneD : PyData → Bool
  | .none => true
  | _ => false
theorem ev_isN {d : PyData} (h : Ev K ta ρ R (.d d) R1) : Ev K (tIsN ta) ρ R (.d (.bool (isNoneD d))) R1 := fun R0 F H σ S A Q q =>
  h R0 F H σ S A _ fun v F1 H1 x1 A1 e1 => by
    have : decide (v = .non) = isNoneD d := by cases e1 <;> rfl
    rw [this]
    exact q _ F1 H1 x1 A1 (.bl _)
theorem ev_notN {d : PyData} (h : Ev K ta ρ R (.d d) R1) : Ev K (tNotN ta) ρ R (.d (.bool (!isNoneD d))) R1 := fun R0 F H σ S A Q q =>
  h R0 F H σ S A _ fun v F1 H1 x1 A1 e1 => by
    have : decide (v = .non) = isNoneD d := by cases e1 <;> rfl
    rw [this]
    exact q _ F1 H1 x1 A1 (.bl _)
/-- truth -/
def truD : PyData → Bool
  | .none => false
  | .bool b => b
  | .int i => i != 0
  | .str s => s.cps.size != 0
  | .list xs => !xs.isEmpty
  | .tuple xs => !xs.isEmpty
  | .dict _ => false

/-! ### arguments, displays -/
theorem ea_nil : Ea K tNil ρ R [] R := fun R0 F H σ S A Q q => q [] F H (Ex.refl F) A .nil
theorem ea_cons {ts : TA} {es : List En} (h1 : Ev K ta ρ R e R1) (h2 : Ea K ts ρ R1 es Rz) : Ea K (tCons ta ts) ρ R (e :: es) Rz := fun R0 F H σ S A Q q =>
  h1 R0 F H σ S A _ fun v F1 H1 x1 A1 e1 => h2 R0 F1 H1 σ (S.mono x1) A1 _ fun vs F2 H2 x2 A2 e2 => q (v :: vs) F2 H2 (x1.trans x2) A2 (.cons (e1.mono x2) e2)
theorem Ens.dts {F : Hp} : ∀ {vs : List V} {ds : List PyData}, Ens K F vs (ds.map .d) → Dts K F vs ds
  | _, [], .nil => .nil
  | _, d :: ds, .cons a b => .cons a b.dts
theorem ev_lst {ts : TA} {ds : List PyData} (h : Ea K ts ρ R (ds.map .d) R1) (hl : ds.length ≤ sizeLine) : Ev K (tLst ts) ρ R (.d (.list ds)) R1 := fun R0 F H σ S A Q q =>
  h R0 F H σ S A _ fun vs F1 H1 x1 A1 e1 => ⟨by rw [e1.dts.len]; exact hl, fun p hp => by
    obtain ⟨x, A2⟩ := A1.new (.lst vs) hp
    exact q _ _ _ (x1.trans x) A2 (.lst upd_same (e1.dts.mono x))⟩
theorem ev_tup {ts : TA} {ds : List PyData} (h : Ea K ts ρ R (ds.map .d) R1) (hl : ds.length ≤ sizeLine) : Ev K (tTup ts) ρ R (.d (.tuple ds)) R1 := fun R0 F H σ S A Q q =>
  h R0 F H σ S A _ fun vs F1 H1 x1 A1 e1 => ⟨by rw [e1.dts.len]; exact hl, fun p hp => by
    obtain ⟨x, A2⟩ := A1.new (.tup vs) hp
    exact q _ _ _ (x1.trans x) A2 (.tup (.inl (.inl upd_same)) (e1.dts.mono x))⟩
theorem Ens.app {F : Hp} : ∀ {vs ws : List V} {ds : List PyData} {es : List En}, Dts K F vs ds → Ens K F ws es → Ens K F (vs ++ ws) (ds.map .d ++ es)
  | _, _, _, _, .nil, h => h
  | _, _, _, _, .cons a b, h => .cons a (Ens.app b h)
theorem ea_star {ts : TA} {es : List En} {ds : List PyData} (h1 : Ev K ta ρ R (.d (.tuple ds)) R1) (h2 : Ea K ts ρ R1 es Rz) : Ea K (tStar K ta ts) ρ R (ds.map .d ++ es) Rz := fun R0 F H σ S A Q q =>
  h1 R0 F H σ S A _ fun v F1 H1 x1 A1 e1 => by
    cases e1 with
    | tup h3 h4 =>
      exact ⟨_, _, rfl, .inl (ex_t A1.ex h3), h2 R0 F1 H1 σ (S.mono x1) A1 _ fun vs F2 H2 x2 A2 e2 => q _ F2 H2 (x1.trans x2) A2 (Ens.app (h4.mono x2) e2)⟩
/-! ### calls -/
theorem ev_cb {rc : List V → Hp → VK → Prop} {ts : TA} {es : List En} (h : Ea K ts ρ R es R1) (hr : RcK K rc es R1 z) : Ev K (tCB rc ts) ρ R z R1 := fun R0 F H σ S A Q q =>
  h R0 F H σ S A _ fun vs F1 H1 x1 A1 e1 => hr R0 F1 H1 vs e1 A1 Q fun w F2 H2 x2 A2 e2 => q w F2 H2 (x1.trans x2) A2 e2
/-- the promise of a def -/
def spS (K : PySem.W.Frag) (S : List En → List Ow → En → List Ow → Prop) : Sp := fun vs H Q _ => ∃ es R R0 F e R', S es R e R' ∧ Ens K F vs es ∧ At K F (R ++ R0) H ∧ ∀ v F1 H1, Ex F F1 → At K F1 (R' ++ R0) H1 → EnOk K F1 v e → Q v H1
theorem ev_call {Sf : List En → List Ow → En → List Ow → Prop} {ts : TA} {es : List En} {Rc Rc' Rf : List Ow} (hs : Sf es Rc e Rc') (h : Ea K ts ρ R es (Rc ++ Rf)) : Ev K (tCall (spS K Sf) [] E0 ts) ρ R e (Rc' ++ Rf) := fun R0 F H σ S A Q q =>
  h R0 F H σ S A _ fun vs F1 H1 x1 A1 e1 => by
    rw [List.append_nil]
    rw [List.append_assoc] at A1
    exact ⟨es, Rc, Rf ++ R0, F1, e, Rc', hs, e1, A1, fun v F2 H2 x2 A2 e2 => q v F2 H2 (x1.trans x2) (by rw [List.append_assoc]; exact A2) e2⟩
/-- .. that is pure -/
theorem ev_callP {Sf : List En → List Ow → En → List Ow → Prop} {ts : TA} {es : List En} (hs : Sf es [] e []) (h : Ea K ts ρ R es R1) : Ev K (tCall (spS K Sf) [] E0 ts) ρ R e R1 := ev_call (Rc := []) (Rc' := []) hs h
/-! ### statements -/
section
variable {P : Post} {ts us : TS}
theorem PostOk.mono {F F1 : Hp} {R0 : List Ow} {D : Ends} (x : Ex F F1) (h : PostOk K P F R0 D) : PostOk K P F1 R0 D :=
  ⟨fun ρ R σ F2 H2 a b c d => h.nx ρ R σ F2 H2 a (x.trans b) c d, fun e R v F2 H2 a b c d => h.rt e R v F2 H2 a (x.trans b) c d, fun ρ R σ F2 H2 a b c d => h.bk ρ R σ F2 H2 a (x.trans b) c d, fun ρ R σ F2 H2 a b c d => h.ct ρ R σ F2 H2 a (x.trans b) c d⟩
theorem es_seq (h : Es K ts ρ R { P with nx := fun ρ' R' => Es K us ρ' R' P }) : Es K (tSeq ts us) ρ R P := fun R0 F H σ D S A p =>
  h R0 F H σ _ S A ⟨fun ρ' R' σ' F1 H1 a b c d => a R0 F1 H1 σ' D c d (p.mono b), p.rt, p.bk, p.ct⟩
theorem es_next (h : P.nx ρ R) : Es K tNext ρ R P := fun R0 F H σ D S A p => p.nx ρ R σ F H h (Ex.refl F) S A
theorem es_asg {g : TG} (h : Ev K te ρ R e R1) (hg : Eg K g e ρ ρ') (hn : P.nx ρ' R1) : Es K (tAsg te g) ρ R P := fun R0 F H σ D S A p =>
  h R0 F H σ S A _ fun v F1 H1 x1 A1 e1 => hg _ F1 H1 σ v (S.mono x1) A1 e1 _ fun σ' S' => p.nx _ _ σ' F1 H1 hn x1 S' A1
theorem eg_name {i : Nat} : Eg K (gName i) e ρ (ρ.set i e) := fun R F H σ v S A hv Q q => q _ (S.set i (.of hv))
theorem es_set {i : Nat} (h : Ev K te ρ R e R1) (hn : P.nx (ρ.set i e) R1) : Es K (tAsg te (gName i)) ρ R P := es_asg h eg_name hn
theorem es_ret (h : Ev K te ρ R e R1) (hn : P.rt e R1) : Es K (tRet te) ρ R P := fun R0 F H σ D S A p =>
  h R0 F H σ S A _ fun v F1 H1 x1 A1 e1 => p.rt e R1 v F1 H1 hn x1 e1 A1
theorem es_retN (hn : P.rt (.d .none) R) : Es K tRetN ρ R P := fun R0 F H σ D S A p => p.rt _ R _ F H hn (Ex.refl F) .non A
theorem es_drop (h : Ev K te ρ R e R1) (hn : P.nx ρ R1) : Es K (tDrop te) ρ R P := fun R0 F H σ D S A p =>
  h R0 F H σ S A _ fun v F1 H1 x1 A1 e1 => p.nx ρ R1 σ F1 H1 hn x1 (S.mono x1) A1
theorem es_if {b : Bool} (h : Et K t ρ R b R1) (h1 : b = true → Es K ts ρ R1 P) (h2 : b = false → Es K us ρ R1 P) : Es K (tIfS t ts us) ρ R P := fun R0 F H σ D S A p =>
  h R0 F H σ S A _ fun F1 H1 x1 A1 => by
    cases b with
    | true => exact h1 rfl R0 F1 H1 σ D (S.mono x1) A1 (p.mono x1)
    | false => exact h2 rfl R0 F1 H1 σ D (S.mono x1) A1 (p.mono x1)
/-- a pair of names set at once -/
theorem es_par {i j : Nat} {ta : TA} {e1 e2 : En} (h : Ea K ta ρ R [e1, e2] R1) (hn : P.nx ((ρ.set i e1).set j e2) R1) : Es K (tPar i j ta) ρ R P := fun R0 F H σ D S A p =>
  h R0 F H σ S A _ fun vs F1 H1 x1 A1 ee => by
    cases ee with
    | cons a b =>
      cases b with
      | cons b c =>
        cases c
        exact ⟨_, _, rfl, p.nx _ R1 _ F1 H1 hn x1 (((S.mono x1).set i (.of a)).set j (.of b)) A1⟩
/-- while: I by a measure -/
theorem es_while {c : TT} (I : Nat → List En → List Ow → Prop) (h0 : ∃ m, I m ρ R)
    (hs : ∀ m ρ R, I m ρ R → ∃ b R1, Et K c ρ R b R1 ∧ (b = true → Es K ts ρ R1 { P with nx := fun ρ' R' => ∃ m', m' < m ∧ I m' ρ' R', ct := fun ρ' R' => ∃ m', m' < m ∧ I m' ρ' R', bk := P.nx }) ∧ (b = false → P.nx ρ R1)) : Es K (tWhile c ts) ρ R P := fun R0 F H σ D S A p => by
  refine ⟨fun m σ' H' => ∃ ρ' R' F', I m ρ' R' ∧ Ex F F' ∧ Sls K F' σ' ρ' ∧ At K F' (R' ++ R0) H', ?_, ?_⟩
  · obtain ⟨m, h⟩ := h0
    exact ⟨m, ρ, R, F, h, Ex.refl F, S, A⟩
  · rintro m σ' H' ⟨ρ', R', F', hI, x, S', A'⟩
    obtain ⟨b, R1, hc, h1, h2⟩ := hs m ρ' R' hI
    refine hc R0 F' H' σ' S' A' _ fun F1 H1 x1 A1 => ?_
    cases b with
    | false => exact p.nx ρ' R1 σ' F1 H1 (h2 rfl) (x.trans x1) (S'.mono x1) A1
    | true =>
      refine ⟨fun σ2 H2 => ∃ m', m' < m ∧ ∃ ρ' R' F', I m' ρ' R' ∧ Ex F F' ∧ Sls K F' σ2 ρ' ∧ At K F' (R' ++ R0) H2, fun σ2 H2 h => h, ?_⟩
      refine h1 rfl R0 F1 H1 σ' _ (S'.mono x1) A1 ⟨?_, fun e R v F2 H2 a b c d => p.rt e R v F2 H2 a ((x.trans x1).trans b) c d, fun ρ R σ F2 H2 a b c d => p.nx ρ R σ F2 H2 a ((x.trans x1).trans b) c d, ?_⟩
      · rintro ρ2 Rz σ2 F2 H2 ⟨m', hm, hI'⟩ b c d
        exact ⟨m', hm, ρ2, Rz, F2, hI', (x.trans x1).trans b, c, d⟩
      · rintro ρ2 Rz σ2 F2 H2 ⟨m', hm, hI'⟩ b c d
        exact ⟨m', hm, ρ2, Rz, F2, hI', (x.trans x1).trans b, c, d⟩
/-- for: I by the turn -/
theorem es_for {wi : TI} {g : TG} {xs : List PyData} (hw : Ei K wi ρ R xs R1) (I : Nat → List En → List Ow → Prop) (h0 : I 0 ρ R1)
    (hs : ∀ i d ρ R, xs[i]? = some d → I i ρ R → ∃ ρ', Eg K g (.d d) ρ ρ' ∧ Es K ts ρ' R { P with nx := I (i + 1), ct := I (i + 1), bk := P.nx })
    (hd : ∀ ρ R, I xs.length ρ R → P.nx ρ R) : Es K (tFor wi g ts) ρ R P := fun R0 F H σ D S A p => by
  refine hw R0 F H σ S A _ fun J F1 H1 x1 A1 W => ?_
  obtain ⟨G, Y, w, hG, hY⟩ := W
  refine L2.for_it w (fun i σ' H' => ∃ ρ' R' F', I i ρ' R' ∧ Ex F1 F' ∧ Sls K F' σ' ρ' ∧ At K F' (R' ++ R0) H') ⟨ρ, R1, F1, h0, Ex.refl F1, S.mono x1, A1⟩ ?_ ?_ ?_
  · rintro i σ' H' hi ⟨ρ', R', F', hI, x, S', A'⟩
    exact hG F' _ H' x A'
  · rintro i v σ' H' H'' hi ⟨ρ', R', F', hI, x, S', A'⟩ y
    obtain ⟨d, hd'⟩ : ∃ d, xs[i]? = some d := ⟨xs[i], List.getElem?_eq_getElem hi⟩
    obtain ⟨F2, x2, A2, d2⟩ := hY i v d F' _ H' H'' x A' y hd'
    obtain ⟨ρ2, hg, hb⟩ := hs i d ρ' R' hd' hI
    refine hg _ F2 H'' σ' v (S'.mono x2) A2 d2 _ fun σ2 S2 => ?_
    refine hb R0 F2 H'' σ2 _ S2 A2 ⟨?_, fun e R v F3 H3 a b c d => p.rt e R v F3 H3 a (((x1.trans x).trans x2).trans b) c d, fun ρ R σ F3 H3 a b c d => p.nx ρ R σ F3 H3 a (((x1.trans x).trans x2).trans b) c d, ?_⟩
    · intro ρ3 R3 σ3 F3 H3 a b c d
      exact ⟨ρ3, R3, F3, a, (x.trans x2).trans b, c, d⟩
    · intro ρ3 R3 σ3 F3 H3 a b c d
      exact ⟨ρ3, R3, F3, a, (x.trans x2).trans b, c, d⟩
  · rintro σ' H' ⟨ρ', R', F', hI, x, S', A'⟩
    exact p.nx ρ' R' σ' F' H' (hd ρ' R' hI) (x1.trans x) S' A'
end
end
end Fx

namespace Fx
open PySem PySem.Spec PyProof.Rows L2 StX RZ
section
variable {K : PySem.W.Frag} {ρ ρ' : List En} {R R1 Rz R3 : List Ow} {e e1 e2 x y z : En} {ta tb tc te tl : TE} {t u : TT} {r : L2.R2}

/-! ### what is walked -/
theorem wk_list {a : Addr} {vs : List V} {xs : List PyData} {F : Hp} {R0 : List Ow} (h : F a = some (.lst vs)) (hd : Dts K F vs xs) : Wk K (Itl K a) R0 F xs := by
  refine ⟨fun H => SqL K H a vs, YAt vs, by rw [← hd.len]; exact walk_list (xs := vs), fun F1 R H x A => .inl (.inl (A.ex _ _ (x _ _ h))), ?_⟩
  rintro i v d F1 R H H' x A ⟨rfl, hv⟩ hx
  obtain ⟨w, h1, h2⟩ := (hd.mono x).get hx
  rw [hv] at h1; cases h1
  exact ⟨F1, Ex.refl F1, A, h2⟩
theorem wk_tup {a : Addr} {vs : List V} {xs : List PyData} {F : Hp} {R0 : List Ow} (h : SqT K F a vs) (hd : Dts K F vs xs) : Wk K (Itt K a) R0 F xs := by
  refine ⟨fun H => SqT K H a vs, YAt vs, by rw [← hd.len]; exact walk_tup (xs := vs), fun F1 R H x A => ex_t A.ex (ex_t x h), ?_⟩
  rintro i v d F1 R H H' x A ⟨rfl, hv⟩ hx
  obtain ⟨w, h1, h2⟩ := (hd.mono x).get hx
  rw [hv] at h1; cases h1
  exact ⟨F1, Ex.refl F1, A, h2⟩
def rngD (lo : Int) (n : Nat) : List PyData := (List.range n).map fun (i : Nat) => PyData.int (lo + (i : Int))
theorem rngD_len {lo : Int} {n : Nat} : (rngD lo n).length = n := by simp [rngD]
theorem rngD_get {lo : Int} {n i : Nat} (h : i < n) : (rngD lo n)[i]? = some (.int (lo + (i : Int))) := by simp [rngD, h]
theorem wk_rng {lo : Int} {n : Nat} {F : Hp} {R0 : List Ow} : Wk K (Itr lo n) R0 F (rngD lo n) := by
  refine ⟨fun _ => True, _, by rw [rngD_len]; exact walk_range (lo := lo) (n := n), fun F1 R H x A => trivial, ?_⟩
  rintro i v d F1 R H H' x A ⟨rfl, rfl⟩ hx
  have hi : i < n := by
    have := (List.getElem?_eq_some_iff.mp hx).1
    rwa [rngD_len] at this
  rw [rngD_get hi] at hx; cases hx
  exact ⟨F1, Ex.refl F1, A, .int _⟩
def prs (xs ys : List PyData) : List PyData := List.zipWith (fun a b => .tuple [a, b]) xs ys
theorem wk_pair {J : It} {n : Nat} {xs ys : List PyData} {vx vy : Nat → Option V} {G : Hp → Prop} {F : Hp} {R0 : List Ow} (hn : n = (prs xs ys).length) (w : L2.Walk J n G (YPair vx vy)) (hG : ∀ F1 R H, Ex F F1 → At K F1 R H → G H)
    (h1 : ∀ i d F1, Ex F F1 → xs[i]? = some d → ∀ v, vx i = some v → Dt K F1 v d) (h2 : ∀ i d F1, Ex F F1 → ys[i]? = some d → ∀ v, vy i = some v → Dt K F1 v d) : Wk K J R0 F (prs xs ys) := by
  subst hn
  refine ⟨G, _, w, hG, ?_⟩
  rintro i v d F1 R H H' x A ⟨T, a, b, rfl, hT, rfl, ha, hb⟩ hx
  obtain ⟨y, A1⟩ := A.new (.tup [a, b]) hT
  have hx' : ∃ p q, xs[i]? = some p ∧ ys[i]? = some q ∧ d = .tuple [p, q] := by
    unfold prs at hx
    rw [List.getElem?_zipWith] at hx
    cases hp : xs[i]? with
    | none => rw [hp] at hx; simp at hx
    | some p =>
      cases hq : ys[i]? with
      | none => rw [hp, hq] at hx; simp at hx
      | some q => rw [hp, hq] at hx; simp at hx; exact ⟨p, q, rfl, rfl, hx.symm⟩
  obtain ⟨p, q, hp, hq, rfl⟩ := hx'
  exact ⟨_, y, A1, .tup (.inl (.inl upd_same)) (.cons (h1 i p _ (x.trans y) hp a ha) (.cons (h2 i q _ (x.trans y) hq b hb) .nil))⟩

theorem ei_list {xs : List PyData} (h : Ev K tl ρ R (.d (.list xs)) R1) : Ei K (iList K tl) ρ R xs R1 := fun R0 F H σ S A Q q =>
  h R0 F H σ S A _ fun v F1 H1 x1 A1 e1 => by
    cases e1 with
    | lst h1 h2 => exact ⟨_, rfl, ⟨_, .inl (.inl (A1.ex _ _ h1))⟩, q _ F1 H1 x1 A1 (wk_list h1 h2)⟩
theorem ei_tup {xs : List PyData} (h : Ev K tl ρ R (.d (.tuple xs)) R1) : Ei K (iTup K tl) ρ R xs R1 := fun R0 F H σ S A Q q =>
  h R0 F H σ S A _ fun v F1 H1 x1 A1 e1 => by
    cases e1 with
    | tup h1 h2 => exact ⟨_, rfl, ⟨_, ex_t A1.ex h1⟩, q _ F1 H1 x1 A1 (wk_tup h1 h2)⟩
theorem ei_rng1 {ts : TA} {j : Int} (h : Ea K ts ρ R [.d (.int j)] R1) (hj : -(2 ^ 62) ≤ j) (hj' : j < 2 ^ 62) : Ei K (iRng1 ts) ρ R (rngD 0 j.toNat) R1 := fun R0 F H σ S A Q q =>
  h R0 F H σ S A _ fun vs F1 H1 x1 A1 e1 => by
    cases e1 with
    | cons a b => cases a; cases b; exact ⟨j, rfl, hj, hj', q _ F1 H1 x1 A1 wk_rng⟩
theorem ei_rng2 {ts : TA} {i j : Int} (h : Ea K ts ρ R [.d (.int i), .d (.int j)] R1) (hb : -(2 ^ 62) ≤ i ∧ i < 2 ^ 62 ∧ -(2 ^ 62) ≤ j ∧ j < 2 ^ 62) : Ei K (iRng2 ts) ρ R (rngD i (j - i).toNat) R1 := fun R0 F H σ S A Q q =>
  h R0 F H σ S A _ fun vs F1 H1 x1 A1 e1 => by
    cases e1 with
    | cons a b =>
      cases a
      cases b with
      | cons a b => cases a; cases b; exact ⟨i, j, rfl, hb, q _ F1 H1 x1 A1 wk_rng⟩
theorem prs_len {xs ys : List PyData} : (prs xs ys).length = min xs.length ys.length := by simp [prs]
theorem ei_zipL {ts : TA} {xs ys : List PyData} (h : Ea K ts ρ R [.d (.list xs), .d (.list ys)] R1) : Ei K (iZipA K ts) ρ R (prs xs ys) R1 := fun R0 F H σ S A Q q =>
  h R0 F H σ S A _ fun vs F1 H1 x1 A1 e1 => by
    cases e1 with
    | cons a b =>
      cases b with
      | cons b c =>
        cases c
        cases a with
        | lst a1 a2 =>
          cases b with
          | lst b1 b2 =>
            refine ⟨_, _, _, _, rfl, .inl ⟨.inl (.inl (A1.ex _ _ a1)), .inl (.inl (A1.ex _ _ b1)), q _ F1 H1 x1 A1 ?_⟩⟩
            refine wk_pair (by rw [prs_len, ← a2.len, ← b2.len]) (walk_zip (K := K) rfl) (fun F2 R H x A => ⟨.inl (.inl (A.ex _ _ (x _ _ a1))), .inl (.inl (A.ex _ _ (x _ _ b1)))⟩) ?_ ?_
            · intro i d F2 x hd v hv
              obtain ⟨w, h1, h2⟩ := (a2.mono x).get hd
              rw [hv] at h1; cases h1; exact h2
            · intro i d F2 x hd v hv
              obtain ⟨w, h1, h2⟩ := (b2.mono x).get hd
              rw [hv] at h1; cases h1; exact h2
theorem walk_zipT {a b : Addr} {xs ys : List V} {n : Nat} (hn : n = min xs.length ys.length) : L2.Walk (ItzT K a b) n (fun H => SqT K H a xs ∧ SqT K H b ys) (YPair (fun i => xs[i]?) (fun i => ys[i]?)) := by
  subst hn
  refine ⟨fun i H hi q => ?_, fun H q => ?_, fun i H x H' hi q y => ?_⟩
  · have h1 : i < xs.length := by omega
    have h2 : i < ys.length := by omega
    exact ⟨xs, ys, xs[i], ys[i], q.1, q.2, List.getElem?_eq_getElem h1, List.getElem?_eq_getElem h2⟩
  · exact ⟨xs, ys, q.1, q.2, by omega⟩
  · obtain ⟨T, p, r, h1, h2, h3, h4, h5⟩ := y
    exact ⟨T, p, r, h1, h2, h3, h4 _ q.1, h5 _ q.2⟩
theorem ei_zipT {ts : TA} {xs ys : List PyData} (h : Ea K ts ρ R [.d (.tuple xs), .d (.tuple ys)] R1) : Ei K (iZipA K ts) ρ R (prs xs ys) R1 := fun R0 F H σ S A Q q =>
  h R0 F H σ S A _ fun vs F1 H1 x1 A1 e1 => by
    cases e1 with
    | cons a b =>
      cases b with
      | cons b c =>
        cases c
        cases a with
        | tup a1 a2 =>
          cases b with
          | tup b1 b2 =>
            refine ⟨_, _, _, _, rfl, .inr ⟨ex_t A1.ex a1, ex_t A1.ex b1, q _ F1 H1 x1 A1 ?_⟩⟩
            refine wk_pair (by rw [prs_len, ← a2.len, ← b2.len]) (walk_zipT (K := K) rfl) (fun F2 R H x A => ⟨ex_t A.ex (ex_t x a1), ex_t A.ex (ex_t x b1)⟩) ?_ ?_
            · intro i d F2 x hd v hv
              obtain ⟨w, h1, h2⟩ := (a2.mono x).get hd
              rw [hv] at h1; cases h1; exact h2
            · intro i d F2 x hd v hv
              obtain ⟨w, h1, h2⟩ := (b2.mono x).get hd
              rw [hv] at h1; cases h1; exact h2
theorem ei_enum {ts : TA} {xs : List PyData} (h : Ea K ts ρ R [.d (.list xs)] R1) : Ei K (iEnum K ts) ρ R (prs (rngD 0 xs.length) xs) R1 := fun R0 F H σ S A Q q =>
  h R0 F H σ S A _ fun vs F1 H1 x1 A1 e1 => by
    cases e1 with
    | cons a b =>
      cases b
      cases a with
      | lst a1 a2 =>
        refine ⟨_, _, rfl, .inl (.inl (A1.ex _ _ a1)), q _ F1 H1 x1 A1 ?_⟩
        refine wk_pair (by rw [prs_len, rngD_len, ← a2.len]; omega) (walk_enum (K := K)) (fun F2 R H x A => .inl (.inl (A.ex _ _ (x _ _ a1)))) ?_ ?_
        · intro i d F2 x hd v hv
          have hi : i < xs.length := by
            have := (List.getElem?_eq_some_iff.mp hd).1
            rwa [rngD_len] at this
          rw [rngD_get hi] at hd
          cases hd; cases hv
          rw [Int.zero_add]; exact .int _
        · intro i d F2 x hd v hv
          obtain ⟨w, h1, h2⟩ := (a2.mono x).get hd
          rw [hv] at h1; cases h1; exact h2

/-! ### comprehensions -/
def EgW (K : PySem.W.Frag) (g : TG) (vs : List Nat) (e : En) (ρ ρ' : List En) : Prop :=
  ∀ (R : List Ow) (F H : Hp) (σ : L2.St) (v : V), Sls K F σ ρ → At K F R H → EnOk K F v e → ∀ Q : L2.St → Hp → Prop, (∀ σ', Sls K F σ' ρ' → wipe σ' vs = wipe σ vs → Q σ' H) → g v σ H Q
theorem wipe_get (σ : L2.St) : ∀ (vs : List Nat) (j : Nat), (wipe σ vs)[j]? = if j ∈ vs then σ[j]?.map (fun _ => none) else σ[j]?
  | [], j => by simp [wipe]
  | v :: vs, j => by
    unfold wipe
    by_cases h : v = j
    · subst h
      by_cases hv : v < σ.length
      · rw [List.getElem?_set_self (by rw [wipe_length]; exact hv)]; simp [hv]
      · rw [List.getElem?_eq_none (by rw [List.length_set, wipe_length]; exact Nat.not_lt.mp hv)]; rw [List.getElem?_eq_none (Nat.not_lt.mp hv)]; simp
    · rw [List.getElem?_set_ne h, wipe_get σ vs j]
      have : (j ∈ v :: vs) ↔ j ∈ vs := by simp [List.mem_cons, Ne.symm h]
      simp only [this]
theorem wipe_idem (σ : L2.St) (vs : List Nat) : wipe (wipe σ vs) vs = wipe σ vs := by
  apply List.ext_getElem?
  intro j
  rw [wipe_get, wipe_get]
  by_cases h : j ∈ vs
  · simp only [h, if_true, Option.map_map]; cases σ[j]? <;> rfl
  · simp only [h, if_false]
theorem wipe_set {σ : L2.St} {vs : List Nat} {i : Nat} {s : Option V} (h : i ∈ vs) : wipe (σ.set i s) vs = wipe σ vs := by
  apply List.ext_getElem?
  intro j
  rw [wipe_get, wipe_get]
  by_cases hj : j ∈ vs
  · simp only [hj, if_true]
    by_cases hij : i = j
    · subst hij
      by_cases hv : i < σ.length
      · simp [hv]
      · simp [List.getElem?_eq_none (Nat.not_lt.mp hv), Nat.not_lt.mp hv]
    · rw [List.getElem?_set_ne hij]
  · have hij : i ≠ j := fun e => hj (e ▸ h)
    simp only [hj, if_false]
    rw [List.getElem?_set_ne hij]
theorem egw_name {i : Nat} {vs : List Nat} (h : i ∈ vs := by simp) : EgW K (gName i) vs e ρ (ρ.set i e) := fun R F H σ v S A hv Q q => q _ (S.set i (.of hv)) (wipe_set h)
theorem egw_pair {i j : Nat} {vs : List Nat} {d1 d2 : PyData} (hi : i ∈ vs := by simp) (hj : j ∈ vs := by simp) : EgW K (gTup K 2 (gCons (gName i) (gCons (gName j) gNil))) vs (.d (.tuple [d1, d2])) ρ ((ρ.set i (.d d1)).set j (.d d2)) := fun R F H σ v S A hv Q q => by
  cases hv with
  | tup h1 h2 =>
    cases h2 with
    | cons a b =>
      cases b with
      | cons b c =>
        cases c
        exact ⟨_, _, rfl, ex_t A.ex h1, rfl, _, _, rfl, _, _, rfl, rfl, q _ ((S.set i (.of (e := .d d1) a)).set j (.of (e := .d d2) b)) (by rw [wipe_set hj, wipe_set hi])⟩
theorem eg_pair {i j : Nat} {d1 d2 : PyData} : Eg K (gTup K 2 (gCons (gName i) (gCons (gName j) gNil))) (.d (.tuple [d1, d2])) ρ ((ρ.set i (.d d1)).set j (.d d2)) := fun R F H σ v S A hv Q q => by
  cases hv with
  | tup h1 h2 =>
    cases h2 with
    | cons a b =>
      cases b with
      | cons b c =>
        cases c
        exact ⟨_, _, rfl, ex_t A.ex h1, rfl, _, _, rfl, _, _, rfl, rfl, q _ ((S.set i (.of (e := .d d1) a)).set j (.of (e := .d d2) b))⟩
inductive LcR (K : PySem.W.Frag) (g : TG) (tt : TT) (te : TE) (vs : List Nat) (ρ : List En) : List PyData → List Ow → List PyData → List Ow → Prop
  | nil {R : List Ow} : LcR K g tt te vs ρ [] R [] R
  | keep {d y : PyData} {ds ys : List PyData} {R R1 R2 R3 : List Ow} {ρ' : List En} : EgW K g vs (.d d) ρ ρ' → Et K tt ρ' R true R1 → Ev K te ρ' R1 (.d y) R2 → LcR K g tt te vs ρ ds R2 ys R3 → LcR K g tt te vs ρ (d :: ds) R (y :: ys) R3
  | skip {d : PyData} {ds ys : List PyData} {R R1 R3 : List Ow} {ρ' : List En} : EgW K g vs (.d d) ρ ρ' → Et K tt ρ' R false R1 → LcR K g tt te vs ρ ds R1 ys R3 → LcR K g tt te vs ρ (d :: ds) R ys R3
theorem et_yes : Et K tYes ρ R true R := fun R0 F H σ S A Q q => q F H (Ex.refl F) A
def wiped (ρ : List En) (vs : List Nat) : List En := vs.foldr (fun i r => r.set i .u) ρ
theorem At.updL {F H : Hp} {a : Addr} {ds ds' : List PyData} {vs : List V} {Ra Rb : List Ow} (A : At K F (Ra ++ .ls a ds :: Rb) H) (h : Dts K F vs ds') : At K F (Ra ++ .ls a ds' :: Rb) (upd H a (.lst vs)) := by
  have hF : F a = none := (A.own (.ls a ds) (by simp)).1
  have nd : ((Ra ++ .ls a ds :: Rb).map Ow.ad).Nodup := A.nd
  refine ⟨A.ex.side hF, by simpa [Ow.ad] using nd, fun r hr => ?_⟩
  have key : ∀ r, r ∈ Ra ∨ r ∈ Rb → r.ad ≠ a := by
    intro r hr e
    rw [List.map_append, List.map_cons, List.nodup_append] at nd
    obtain ⟨n1, n2, n3⟩ := nd
    rcases hr with hr | hr
    · exact n3 r.ad (List.mem_map_of_mem hr) a (by simp [Ow.ad]) e
    · rw [List.nodup_cons] at n2
      exact n2.1 (by show a ∈ _; rw [← e]; exact List.mem_map_of_mem hr)
  simp only [List.mem_append, List.mem_cons] at hr
  rcases hr with hr | rfl | hr
  · obtain ⟨h1, h2⟩ := A.own r (by simp [hr])
    exact ⟨h1, h2.mono (Ex.refl F) fun o q => by rw [upd_ne (key r (.inl hr))]; exact q⟩
  · exact ⟨hF, vs, upd_same, h⟩
  · obtain ⟨h1, h2⟩ := A.own r (by simp [hr])
    exact ⟨h1, h2.mono (Ex.refl F) fun o q => by rw [upd_ne (key r (.inr hr))]; exact q⟩
/-- a new owned list -/
theorem At.own1 {F H : Hp} {p : Addr} {vs : List V} {ds : List PyData} (A : At K F R H) (hp : H p = none) (h : Dts K F vs ds) : At K F (.ls p ds :: R) (upd H p (.lst vs)) := by
  refine ⟨A.ex.side (fresh_back A.ex hp), ?_, fun r hr => ?_⟩
  · rw [List.map_cons, List.nodup_cons]
    refine ⟨fun hm => ?_, A.nd⟩
    obtain ⟨r, hr, e⟩ := List.mem_map.mp hm
    obtain ⟨o, ho⟩ := (A.own r hr).2.some
    rw [e] at ho
    rw [show (Ow.ls p ds).ad = p from rfl, hp] at ho; cases ho
  · rcases List.mem_cons.mp hr with rfl | hr
    · exact ⟨fresh_back A.ex hp, vs, upd_same, h⟩
    · obtain ⟨h1, h2⟩ := A.own r hr
      obtain ⟨o, ho⟩ := h2.some
      exact ⟨h1, h2.mono (Ex.refl F) fun u q => by rw [upd_ne (ne_of_none ho hp)]; exact q⟩
/-- the core: the new list stands owned -/
theorem lc_own {wi : TI} {g : TG} {tt : TT} {vs : List Nat} {xs ys : List PyData} (hw : Ei K wi ρ R xs R1) (hl : LcR K g tt te vs (wiped ρ vs) xs R1 ys Rz) (hz : xs.length ≤ sizeLine) :
    ∀ (R0 : List Ow) (F H : Hp) (σ : L2.St), Sls K F σ ρ → At K F (R ++ R0) H → ∀ Q : VK, (∀ p F1 H1, Ex F F1 → At K F1 (.ls p ys :: (Rz ++ R0)) H1 → Q (.ref p) H1) → tLc wi g tt te vs σ H Q := by
  intro R0 F H σ S A Q q
  refine hw R0 F H σ S A _ fun J F1 H1 x1 A1 W D hD => ?_
  obtain ⟨G, Y, w, hG, hY⟩ := W
  refine L2.lc_it w (fun i H' => ∃ F' R' acc rest, Ex F1 F' ∧ At K F' (.ls D acc :: (R' ++ R0)) H' ∧ LcR K g tt te vs (wiped ρ vs) (xs.drop i) R' rest Rz ∧ acc ++ rest = ys ∧ acc.length ≤ i) ?_ ?_ ?_ ?_
  · exact ⟨F1, R1, [], ys, Ex.refl F1, A1.own1 hD .nil, by simpa using hl, rfl, Nat.le_refl _⟩
  · rintro i H' hi ⟨F', R', acc, rest, x, A', _⟩
    exact hG F' _ H' x A'
  · rintro i v H' H'' hi ⟨F', R', acc, rest, x, A', hr, hy, hac⟩ y
    obtain ⟨d, hd⟩ : ∃ d, xs[i]? = some d := ⟨xs[i], List.getElem?_eq_getElem hi⟩
    obtain ⟨F2, x2, A2, d2⟩ := hY i v d F' _ H' H'' x A' y hd
    have hdrop : xs.drop i = d :: xs.drop (i + 1) := by
      rw [List.drop_eq_getElem_cons hi]
      rw [List.getElem?_eq_getElem hi] at hd
      cases hd; rfl
    rw [hdrop] at hr
    have S2 : Sls K F2 (wipe σ vs) (wiped ρ vs) := ((S.mono (x1.trans (x.trans x2))).wipe vs)
    cases hr with
    | keep hg ht he hr =>
      rename_i y0 ys0 R1' R2' ρ'
      refine hg _ F2 H'' _ v S2 A2 d2 _ fun σ2 S3 hwp => ⟨by rw [hwp, wipe_idem], ?_⟩
      have A3 : At K F2 (R' ++ (.ls D acc :: R0)) H'' := A2.perm List.perm_middle.symm
      refine ht (.ls D acc :: R0) F2 H'' σ2 S3 A3 _ fun F3 H3 x3 A3' => ?_
      refine iteT ?_
      refine he (.ls D acc :: R0) F3 H3 σ2 (S3.mono x3) A3' _ fun yv F4 H4 x4 A4 e4 => ?_
      obtain ⟨_, avs, ha1, ha2⟩ := A4.own (.ls D acc) (by simp)
      refine ⟨avs, ha1, ?_, ?_⟩
      · rw [ha2.len]; omega
      · refine ⟨F4, R2', acc ++ [y0], ys0, (x.trans x2).trans (x3.trans x4), ?_, hr, by rw [List.append_assoc]; exact hy, by rw [List.length_append]; simp; omega⟩
        exact (At.updL A4 (ha2.append (.cons e4 .nil))).perm List.perm_middle
    | skip hg ht hr =>
      rename_i R1' ρ'
      refine hg _ F2 H'' _ v S2 A2 d2 _ fun σ2 S3 hwp => ⟨by rw [hwp, wipe_idem], ?_⟩
      have A3 : At K F2 (R' ++ (.ls D acc :: R0)) H'' := A2.perm List.perm_middle.symm
      refine ht (.ls D acc :: R0) F2 H'' σ2 S3 A3 _ fun F3 H3 x3 A3' => ?_
      refine iteF ?_
      exact ⟨F3, R1', acc, rest, (x.trans x2).trans x3, A3'.perm List.perm_middle, hr, hy, by omega⟩
  · rintro H' ⟨F', R', acc, rest, x, A', hr, hy, hac⟩
    rw [List.drop_length] at hr
    cases hr
    rw [List.append_nil] at hy
    subst hy
    exact q D F' H' (x1.trans x) A'
theorem ev_lc {wi : TI} {g : TG} {tt : TT} {vs : List Nat} {xs ys : List PyData} (hw : Ei K wi ρ R xs R1) (hl : LcR K g tt te vs (wiped ρ vs) xs R1 ys Rz) (hz : xs.length ≤ sizeLine) : Ev K (tLc wi g tt te vs) ρ R (.d (.list ys)) Rz := fun R0 F H σ S A Q q =>
  lc_own hw hl hz R0 F H σ S A Q fun p F1 H1 x1 A1 => by
    obtain ⟨F2, x2, A2, d⟩ := A1.freeze
    exact q _ F2 H1 (x1.trans x2) A2 d
/-- x = [..], the list still owned -/
theorem es_setLcO {wi : TI} {g : TG} {tt : TT} {vs : List Nat} {xs ys : List PyData} {i : Nat} {P : Post} (hw : Ei K wi ρ R xs R1) (hl : LcR K g tt te vs (wiped ρ vs) xs R1 ys Rz) (hz : xs.length ≤ sizeLine) (hn : ∀ p, P.nx (ρ.set i (.o p)) (Rz ++ [.ls p ys])) : Es K (tAsg (tLc wi g tt te vs) (gName i)) ρ R P := fun R0 F H σ D S A p =>
  lc_own hw hl hz R0 F H σ S A _ fun a F1 H1 x1 A1 => p.nx _ _ _ F1 H1 (hn a) x1 ((S.mono x1).set i (e := .o a) rfl) (by
    rw [List.append_assoc]
    exact A1.perm List.perm_middle.symm)
theorem lcr_map {g : TG} {vs : List Nat} {f : PyData → PyData} {ds : List PyData} (h : ∀ d ∈ ds, ∃ ρ', EgW K g vs (.d d) ρ ρ' ∧ Ev K te ρ' R (.d (f d)) R) : LcR K g tYes te vs ρ ds R (ds.map f) R := by
  induction ds with
  | nil => exact .nil
  | cons d ds ih =>
    obtain ⟨ρ', h1, h2⟩ := h d (by simp)
    exact .keep h1 et_yes h2 (ih fun d hd => h d (by simp [hd]))
theorem lcr_filter {g : TG} {tt : TT} {vs : List Nat} {p : PyData → Bool} {f : PyData → PyData} {ds : List PyData} (h : ∀ d ∈ ds, ∃ ρ', EgW K g vs (.d d) ρ ρ' ∧ Et K tt ρ' R (p d) R ∧ (p d = true → Ev K te ρ' R (.d (f d)) R)) : LcR K g tt te vs ρ ds R ((ds.filter p).map f) R := by
  induction ds with
  | nil => exact .nil
  | cons d ds ih =>
    obtain ⟨ρ', h1, h2, h3⟩ := h d (by simp)
    have ih := ih fun d hd => h d (by simp [hd])
    cases hp : p d with
    | true => rw [hp] at h2; rw [List.filter_cons, if_pos hp]; exact .keep h1 h2 (h3 hp) ih
    | false => rw [hp] at h2; rw [List.filter_cons, if_neg (by rw [hp]; decide)]; exact .skip h1 h2 ih
end
end Fx

namespace Fx
open PySem PySem.Spec PyProof.Rows L2 StX RZ
section
variable {K : PySem.W.Frag} {ρ ρ' : List En} {R R1 Rz R3 : List Ow} {e e1 e2 x y z : En} {ta tb tc te tl : TE} {t u : TT} {r : L2.R2}

theorem ev_v {w : V} : Ev K (tC w) ρ R (.v w) R := fun R0 F H σ S A Q q => q _ F H (Ex.refl F) A rfl
theorem ens1 {F : Hp} {vs : List V} (h : Ens K F vs [x]) : ∃ v, vs = [v] ∧ EnOk K F v x := by
  cases h with
  | cons a b => cases b; exact ⟨_, rfl, a⟩
theorem ens2 {F : Hp} {vs : List V} (h : Ens K F vs [x, y]) : ∃ v w, vs = [v, w] ∧ EnOk K F v x ∧ EnOk K F w y := by
  cases h with
  | cons a b =>
    cases b with
    | cons b c => cases c; exact ⟨_, _, rfl, a, b⟩
theorem Dt.listD {F : Hp} {v : V} {ds : List PyData} (h : Dt K F v (.list ds)) : ∃ a vs, v = .ref a ∧ F a = some (.lst vs) ∧ Dts K F vs ds := by
  cases h with
  | lst a b => exact ⟨_, _, rfl, a, b⟩
theorem Dt.tupD {F : Hp} {v : V} {ds : List PyData} (h : Dt K F v (.tuple ds)) : ∃ a vs, v = .ref a ∧ SqT K F a vs ∧ Dts K F vs ds := by
  cases h with
  | tup a b => exact ⟨_, _, rfl, a, b⟩
theorem At.sqL {F H : Hp} {a : Addr} {vs : List V} (A : At K F R H) (h : F a = some (.lst vs)) : SqL K H a vs := .inl (.inl (A.ex _ _ h))
theorem At.sqT {F H : Hp} {a : Addr} {vs : List V} (A : At K F R H) (h : SqT K F a vs) : SqT K H a vs := ex_t A.ex h
/-! ### built-ins -/
def rLenS (K : PySem.W.Frag) : List V → Hp → VK → Prop := fun xs H Q => ∃ p ys, xs = [.ref p] ∧ (SqL K H p ys ∨ SqT K H p ys) ∧ Q (.int ys.length) H
theorem rc_lenL {ds : List PyData} : RcK K (rLenS K) [.d (.list ds)] R (.d (.int (ds.length : Int))) := fun R0 F H vs E A Q q => by
  obtain ⟨v, rfl, h⟩ := ens1 E
  obtain ⟨a, ws, rfl, h1, h2⟩ := Dt.listD h
  exact ⟨a, ws, rfl, .inl (A.sqL h1), by rw [h2.len]; exact q _ F H (Ex.refl F) A (.int _)⟩
theorem rc_lenT {ds : List PyData} : RcK K (rLenS K) [.d (.tuple ds)] R (.d (.int (ds.length : Int))) := fun R0 F H vs E A Q q => by
  obtain ⟨v, rfl, h⟩ := ens1 E
  obtain ⟨a, ws, rfl, h1, h2⟩ := Dt.tupD h
  exact ⟨a, ws, rfl, .inr (A.sqT h1), by rw [h2.len]; exact q _ F H (Ex.refl F) A (.int _)⟩
theorem rc_lenO {Ra Rb : List Ow} {a : Addr} {ds : List PyData} : RcK K (rLenS K) [.o a] (Ra ++ .ls a ds :: Rb) (.d (.int (ds.length : Int))) := fun R0 F H vs E A Q q => by
  obtain ⟨v, rfl, h⟩ := ens1 E
  cases h
  obtain ⟨_, ws, h1, h2⟩ := A.own (.ls a ds) (by simp)
  exact ⟨a, ws, rfl, .inl (.inl (.inl h1)), by rw [h2.len]; exact q _ F H (Ex.refl F) A (.int _)⟩
theorem rc_sum {ns : List Int} : RcK K (rSum K) [.d (.list (ns.map .int))] R (.d (.int ns.sum)) := fun R0 F H vs E A Q q => by
  obtain ⟨v, rfl, h⟩ := ens1 E
  obtain ⟨a, ws, rfl, h1, h2⟩ := Dt.listD h
  rw [h2.ints] at h1
  exact ⟨a, ns, rfl, A.sqL h1, q _ F H (Ex.refl F) A (.int _)⟩
def minI : List Int → Int
  | [] => 0
  | [x] => x
  | x :: y :: r => if x ≤ minI (y :: r) then x else minI (y :: r)
theorem minI_mem : ∀ {l : List Int}, l ≠ [] → minI l ∈ l
  | [], h => absurd rfl h
  | [x], _ => by simp [minI]
  | x :: y :: r, _ => by
    unfold minI
    split
    · exact List.mem_cons_self ..
    · exact List.mem_cons_of_mem _ (minI_mem (by simp))
theorem minI_le : ∀ {l : List Int} {y : Int}, y ∈ l → minI l ≤ y
  | [], y, h => by simp at h
  | [x], y, h => by simp at h; subst h; exact Int.le_refl _
  | x :: z :: r, y, h => by
    unfold minI
    rcases List.mem_cons.mp h with rfl | h
    · split
      · exact Int.le_refl _
      · omega
    · have := minI_le h
      split
      · omega
      · exact this
theorem minI_eq {l : List Int} {m : Int} (h : m ∈ l) (h2 : ∀ y ∈ l, m ≤ y) : m = minI l := Int.le_antisymm (h2 _ (minI_mem fun e => by simp [e] at h)) (minI_le h)
theorem rc_min {ns : List Int} (hn : ns ≠ []) : RcK K (rMin K) [.d (.list (ns.map .int))] R (.d (.int (minI ns))) := fun R0 F H vs E A Q q => by
  obtain ⟨v, rfl, h⟩ := ens1 E
  obtain ⟨a, ws, rfl, h1, h2⟩ := Dt.listD h
  rw [h2.ints] at h1
  refine ⟨a, ns, rfl, A.sqL h1, List.length_pos_iff.mpr hn, fun m h3 h4 => ?_⟩
  rw [minI_eq h3 h4]
  exact q _ F H (Ex.refl F) A (.int _)
def rListS (K : PySem.W.Frag) : List V → Hp → VK → Prop := fun xs H Q => ∃ p ys, xs = [.ref p] ∧ (SqL K H p ys ∨ SqT K H p ys) ∧ ∀ l, H l = none → Q (.ref l) (upd H l (.lst ys))
theorem rc_listT {ds : List PyData} : RcK K (rListS K) [.d (.tuple ds)] R (.d (.list ds)) := fun R0 F H vs E A Q q => by
  obtain ⟨v, rfl, h⟩ := ens1 E
  obtain ⟨a, ws, rfl, h1, h2⟩ := Dt.tupD h
  refine ⟨a, ws, rfl, .inr (A.sqT h1), fun p hp => ?_⟩
  obtain ⟨x, A1⟩ := A.new (.lst ws) hp
  exact q _ _ _ x A1 (.lst upd_same (h2.mono x _))
def rTupS (K : PySem.W.Frag) : List V → Hp → VK → Prop := fun xs H Q => ∃ p ys, xs = [.ref p] ∧ ((SqL K H p ys ∧ ∀ l, H l = none → Q (.ref l) (upd H l (.tup ys))) ∨ (SqT K H p ys ∧ Q (.ref p) H))
theorem rc_tupL {ds : List PyData} : RcK K (rTupS K) [.d (.list ds)] R (.d (.tuple ds)) := fun R0 F H vs E A Q q => by
  obtain ⟨v, rfl, h⟩ := ens1 E
  obtain ⟨a, ws, rfl, h1, h2⟩ := Dt.listD h
  refine ⟨a, ws, rfl, .inl ⟨A.sqL h1, fun p hp => ?_⟩⟩
  obtain ⟨x, A1⟩ := A.new (.tup ws) hp
  exact q _ _ _ x A1 (.tup (.inl (.inl upd_same)) (h2.mono x _))
theorem rc_tupO {Ra Rb : List Ow} {a : Addr} {ds : List PyData} : RcK K (rTupS K) [.o a] (Ra ++ .ls a ds :: Rb) (.d (.tuple ds)) := fun R0 F H vs E A Q q => by
  obtain ⟨v, rfl, h⟩ := ens1 E
  cases h
  obtain ⟨_, ws, h1, h2⟩ := A.own (.ls a ds) (by simp)
  refine ⟨a, ws, rfl, .inl ⟨.inl (.inl h1), fun p hp => ?_⟩⟩
  obtain ⟨x, A1⟩ := A.new (.tup ws) hp
  exact q _ _ _ x A1 (.tup (.inl (.inl upd_same)) (h2.mono x _))
theorem rc_all {bs : List Bool} : RcK K (rAll K) [.d (.list (bs.map .bool))] R (.d (.bool (bs.all id))) := fun R0 F H vs E A Q q => by
  obtain ⟨v, rfl, h⟩ := ens1 E
  obtain ⟨a, ws, rfl, h1, h2⟩ := Dt.listD h
  rw [h2.bools] at h1
  exact ⟨a, bs, rfl, A.sqL h1, q _ F H (Ex.refl F) A (.bl _)⟩
def rAbsS : List V → Hp → VK → Prop := fun xs H Q => ∃ i, xs = [.int i] ∧ Q (.int (if i < 0 then -i else i)) H
theorem rc_abs {i : Int} : RcK K rAbsS [.d (.int i)] R (.d (.int (if i < 0 then -i else i))) := fun R0 F H vs E A Q q => by
  obtain ⟨v, rfl, h⟩ := ens1 E
  cases h
  exact ⟨i, rfl, q _ F H (Ex.refl F) A (.int _)⟩
def rIntS : List V → Hp → VK → Prop := fun xs H Q => (∃ i, xs = [.int i] ∧ Q (.int i) H) ∨ ∃ k, xs = [.bl k] ∧ Q (.int (if k then 1 else 0)) H
theorem rc_int {i : Int} : RcK K rIntS [.d (.int i)] R (.d (.int i)) := fun R0 F H vs E A Q q => by
  obtain ⟨v, rfl, h⟩ := ens1 E
  cases h
  exact .inl ⟨i, rfl, q _ F H (Ex.refl F) A (.int _)⟩
/-! ### isinstance -/
def kindD : PyData → String
  | .none => "NoneType"
  | .bool _ => "bool"
  | .int _ => "int"
  | .str _ => "str"
  | .list _ => "list"
  | .tuple _ => "tuple"
  | .dict _ => "dict"
theorem rc_isi {d : PyData} {n : String} {b : Bool} (hb : kitB (kindD d) n = some b) : RcK K (rIsi K) [.d d, .v (.ty n)] R (.d (.bool b)) := fun R0 F H vs E A Q q => by
  obtain ⟨v, w, rfl, h, h'⟩ := ens2 E
  cases h'
  refine ⟨v, .ty n, .type (kindD d), .type n, b, rfl, .ty n, ?_, kit_ty hb, q _ F H (Ex.refl F) A (.bl _)⟩
  cases h with
  | non => exact .base .non
  | bl _ => exact .base (.bl _)
  | int _ => exact .base (.int _)
  | str _ => exact .base (.str _)
  | lst h1 h2 => exact .base (.lst (A.ex _ _ h1))
  | tup h1 h2 =>
    rcases A.sqT h1 with (h | ⟨o, h⟩) | ⟨o, _, _, h, hc, _⟩
    · exact .base (.tup h)
    · exact .fTuple h
    · exact .kTuple h hc
/-! ### truth of a value, as a test -/
theorem et_tru {d : PyData} (h : Ev K ta ρ R (.d d) R1) (hn : ∀ s, d = .str s → s.length ≤ sizeLine) : Et K (fun σ H Q => ta σ H fun x H' => ∃ k, TruV K x H' k ∧ Q k H') ρ R (truD d) R1 := fun R0 F H σ S A Q q =>
  h R0 F H σ S A _ fun v F1 H1 x1 A1 e1 => by
    refine ⟨truD d, ?_, q F1 H1 x1 A1⟩
    cases e1 with
    | non => exact rfl
    | bl _ => exact rfl
    | int _ => exact rfl
    | str s =>
      refine ⟨hn s rfl, ?_⟩
      show (s.cps.size != 0) = ((s.cps.size : Int) != 0)
      cases h : s.cps.size with
      | zero => rfl
      | succ n =>
        have h2 : ((n + 1 : Nat) : Int) ≠ 0 := by omega
        rw [bne_iff_ne.mpr (Nat.succ_ne_zero n), bne_iff_ne.mpr h2]
    | lst h1 h2 =>
      refine .inl ⟨_, A1.sqL h1, ?_⟩
      cases h2 <;> rfl
    | tup h1 h2 =>
      refine .inr (.inl ⟨_, A1.sqT h1, ?_⟩)
      cases h2 <;> rfl
/-! ### slices -/
def Eo (K : PySem.W.Frag) (to : TO) (ρ : List En) (R : List Ow) (o : Option Int) (R' : List Ow) : Prop :=
  ∀ (R0 : List Ow) (F H : Hp) (σ : L2.St), Sls K F σ ρ → At K F (R ++ R0) H → ∀ Q : Option Int → Hp → Prop, (∀ F1 H1, Ex F F1 → At K F1 (R' ++ R0) H1 → Q o H1) → to σ H Q
theorem eo_no : Eo K tNoPart ρ R none R := fun R0 F H σ S A Q q => q F H (Ex.refl F) A
theorem eo_some {i : Int} (h : Ev K te ρ R (.d (.int i)) R1) : Eo K (tPart te) ρ R (some i) R1 := fun R0 F H σ S A Q q =>
  h R0 F H σ S A _ fun v F1 H1 x1 A1 e1 => by cases e1; exact ⟨i, rfl, q F1 H1 x1 A1⟩
def cutD (xs : List PyData) (lo hi : Option Int) : List PyData := (xs.drop (HT.sIx xs.length 0 lo)).take (HT.sIx xs.length xs.length hi - HT.sIx xs.length 0 lo)
theorem Dts.cut {F : Hp} {vs : List V} {ds : List PyData} (h : Dts K F vs ds) (lo hi : Option Int) : Dts K F (cutV vs lo hi) (cutD ds lo hi) := by
  unfold cutV cutD
  rw [h.len]
  exact (h.drop _).take _
theorem ev_slL {t1 t2 : TO} {ds : List PyData} {lo hi : Option Int} (h : Ev K te ρ R (.d (.list ds)) R1) (h1 : Eo K t1 ρ R1 lo Rz) (h2 : Eo K t2 ρ Rz hi R3) : Ev K (tSl (rSlL K) te t1 t2) ρ R (.d (.list (cutD ds lo hi))) R3 := fun R0 F H σ S A Q q =>
  h R0 F H σ S A _ fun v F1 H1 x1 A1 e1 => h1 R0 F1 H1 σ (S.mono x1) A1 _ fun F2 H2 x2 A2 => h2 R0 F2 H2 σ (S.mono (x1.trans x2)) A2 _ fun F3 H3 x3 A3 => by
    obtain ⟨a, ws, rfl, h4, h5⟩ := Dt.listD (e1.mono (x2.trans x3))
    refine ⟨a, ws, rfl, A3.sqL h4, fun p hp => ?_⟩
    obtain ⟨x, A4⟩ := A3.new (.lst (cutV ws lo hi)) hp
    exact q _ _ _ (x1.trans (x2.trans (x3.trans x))) A4 (.lst upd_same ((h5.mono x _).cut lo hi))
theorem ev_slT {t1 t2 : TO} {ds : List PyData} {lo hi : Option Int} (h : Ev K te ρ R (.d (.tuple ds)) R1) (h1 : Eo K t1 ρ R1 lo Rz) (h2 : Eo K t2 ρ Rz hi R3) : Ev K (tSl (rSlA K) te t1 t2) ρ R (.d (.tuple (cutD ds lo hi))) R3 := fun R0 F H σ S A Q q =>
  h R0 F H σ S A _ fun v F1 H1 x1 A1 e1 => h1 R0 F1 H1 σ (S.mono x1) A1 _ fun F2 H2 x2 A2 => h2 R0 F2 H2 σ (S.mono (x1.trans x2)) A2 _ fun F3 H3 x3 A3 => by
    have e3 := EnOk.mono (x2.trans x3) e1
    obtain ⟨a, ws, rfl, h4, h5⟩ := Dt.tupD e3
    refine ⟨a, ws, rfl, A3.sqT h4, fun hw => ?_, fun _ p hp => ?_⟩
    · refine q _ _ _ (x1.trans (x2.trans x3)) A3 ?_
      rw [h5.len] at hw
      have : cutD ds lo hi = ds := by
        unfold cutD
        rw [hw.1, hw.2]
        simp
      rw [this]
      exact e3
    · obtain ⟨x, A4⟩ := A3.new (.tup (cutV ws lo hi)) hp
      exact q _ _ _ (x1.trans (x2.trans (x3.trans x))) A4 (.tup (.inl (.inl upd_same)) ((h5.mono x _).cut lo hi))
/-! ### owned lists: append, pop, store -/
theorem at_ls {F H : Hp} {a : Addr} {ds : List PyData} {Ra Rb R0 : List Ow} (A : At K F ((Ra ++ .ls a ds :: Rb) ++ R0) H) : ∃ vs, H a = some (.lst vs) ∧ Dts K F vs ds := by
  obtain ⟨_, vs, h1, h2⟩ := A.own (.ls a ds) (by simp)
  exact ⟨vs, h1, h2⟩
theorem ev_append {to : TE} {ts : TA} {a : Addr} {ds ds0 : List PyData} {d : PyData} {Ra Rb : List Ow} (ho : Ev K to ρ R (.o a) R1) (hm : .ls a ds0 ∈ R1) (hd : Ea K ts ρ R1 [.d d] (Ra ++ .ls a ds :: Rb)) (hl : ds.length < sizeLine) :
    Ev K (tBM K "list" rAppend to ts) ρ R (.d .none) (Ra ++ .ls a (ds ++ [d]) :: Rb) := fun R0 F H σ S A Q q =>
  ho R0 F H σ S A _ fun v F1 H1 x1 A1 e1 => by
    cases e1
    obtain ⟨_, ws, h1, h2⟩ := A1.own (.ls a ds0) (by simp [hm])
    refine ⟨.inl ⟨rfl, ws, .inl (.inl h1)⟩, hd R0 F1 H1 σ (S.mono x1) A1 _ fun vs F2 H2 x2 A2 e2 => ?_⟩
    obtain ⟨w, rfl, hw⟩ := ens1 e2
    obtain ⟨us, h3, h4⟩ := at_ls A2
    refine ⟨a, us, w, rfl, rfl, h3, by rw [h4.len]; exact hl, ?_⟩
    refine q _ F2 _ (x1.trans x2) ?_ .non
    rw [List.append_assoc, List.cons_append] at A2 ⊢
    exact A2.updL (h4.append (.cons hw .nil))
theorem ev_pop {to : TE} {a : Addr} {ds : List PyData} {d : PyData} {Ra Rb : List Ow} (ho : Ev K to ρ R (.o a) (Ra ++ .ls a (ds ++ [d]) :: Rb)) :
    Ev K (tBM0 K "list" rPop to) ρ R (.d d) (Ra ++ .ls a ds :: Rb) := fun R0 F H σ S A Q q =>
  ho R0 F H σ S A _ fun v F1 H1 x1 A1 e1 => by
    cases e1
    obtain ⟨ws, h3, h4⟩ := at_ls A1
    have hlen := h4.len
    rw [List.length_append, List.length_singleton] at hlen
    obtain ⟨w, hw, hd⟩ := h4.get (i := ws.length - 1) (d := d) (by rw [hlen]; simp)
    refine ⟨.inl ⟨rfl, ws, .inl (.inl h3)⟩, a, ws, w, rfl, rfl, h3, hw, ?_⟩
    refine q _ F1 _ x1 ?_ hd
    have h5 : Dts K F1 ws.dropLast ds := by
      rw [List.dropLast_eq_take, hlen]
      have := h4.take ds.length
      rw [List.take_left] at this
      exact this
    rw [List.append_assoc, List.cons_append] at A1 ⊢
    exact A1.updL h5
/-- an item of a raw list -/
theorem rv_ixR {a b : Addr} {vs : List V} {i : Int} (hm : .rw a (.lst vs) ∈ R) (h : L2.atI vs i = some (.ref b)) : Rv K (rIxL K) (.o a) (.d (.int i)) R (.o b) := fun R0 F H v u hv hu A Q q => by
  cases hu; cases hv
  obtain ⟨_, h1⟩ := A.own (.rw a (.lst vs)) (by simp [hm])
  exact ⟨a, vs, i, _, rfl, rfl, .inl (.inl h1), h, q _ F H (Ex.refl F) A rfl⟩
theorem rv_ixRi {a : Addr} {vs : List V} {i j : Int} (hm : .rw a (.lst vs) ∈ R) (h : L2.atI vs i = some (.int j)) : Rv K (rIxL K) (.o a) (.d (.int i)) R (.d (.int j)) := fun R0 F H v u hv hu A Q q => by
  cases hu; cases hv
  obtain ⟨_, h1⟩ := A.own (.rw a (.lst vs)) (by simp [hm])
  exact ⟨a, vs, i, _, rfl, rfl, .inl (.inl h1), h, q _ F H (Ex.refl F) A (.int j)⟩
theorem At.updR {F H : Hp} {a : Addr} {o o' : HO} {Ra Rb : List Ow} (A : At K F (Ra ++ .rw a o :: Rb) H) : At K F (Ra ++ .rw a o' :: Rb) (upd H a o') := by
  have hF : F a = none := (A.own (.rw a o) (by simp)).1
  have nd : ((Ra ++ .rw a o :: Rb).map Ow.ad).Nodup := A.nd
  refine ⟨A.ex.side hF, by simpa [Ow.ad] using nd, fun r hr => ?_⟩
  have key : ∀ r, r ∈ Ra ∨ r ∈ Rb → r.ad ≠ a := by
    intro r hr e
    rw [List.map_append, List.map_cons, List.nodup_append] at nd
    obtain ⟨n1, n2, n3⟩ := nd
    rcases hr with hr | hr
    · exact n3 r.ad (List.mem_map_of_mem hr) a (by simp [Ow.ad]) e
    · rw [List.nodup_cons] at n2
      exact n2.1 (by show a ∈ _; rw [← e]; exact List.mem_map_of_mem hr)
  simp only [List.mem_append, List.mem_cons] at hr
  rcases hr with hr | rfl | hr
  · obtain ⟨h1, h2⟩ := A.own r (by simp [hr])
    exact ⟨h1, h2.mono (Ex.refl F) fun o q => by rw [upd_ne (key r (.inl hr))]; exact q⟩
  · exact ⟨hF, upd_same⟩
  · obtain ⟨h1, h2⟩ := A.own r (by simp [hr])
    exact ⟨h1, h2.mono (Ex.refl F) fun o q => by rw [upd_ne (key r (.inr hr))]; exact q⟩
/-- a raw list's item stored: an int -/
theorem es_storeR {to ti : TE} {P : Post} {a : Addr} {vs : List V} {k i : Int} {j : Nat} {Ra Rb : List Ow} (h : Ev K te ρ R (.d (.int k)) R1) (ho : Ev K to ρ R1 (.o a) Rz) (hi : Ev K ti ρ Rz (.d (.int i)) (Ra ++ .rw a (.lst vs) :: Rb)) (hj : ixN vs.length i = some j)
    (hn : P.nx ρ (Ra ++ .rw a (.lst (vs.set j (.int k))) :: Rb)) : Es K (tAsg te (gSub to ti rSetL)) ρ R P := fun R0 F H σ D S A p =>
  h R0 F H σ S A _ fun v F1 H1 x1 A1 e1 => by
    cases e1
    exact ho R0 F1 H1 σ (S.mono x1) A1 _ fun w F2 H2 x2 A2 e2 => by
      cases e2
      exact hi R0 F2 H2 σ (S.mono (x1.trans x2)) A2 _ fun w3 F3 H3 x3 A3 e3 => by
        cases e3
        obtain ⟨_, h1⟩ := A3.own (.rw a (.lst vs)) (by simp)
        refine ⟨a, vs, i, j, rfl, rfl, h1, hj, p.nx _ _ σ F3 _ hn (x1.trans (x2.trans x3)) (S.mono (x1.trans (x2.trans x3))) ?_⟩
        rw [List.append_assoc, List.cons_append] at A3 ⊢
        exact A3.updR
/-- == of an owned list and data -/
theorem At.dpO {F H : Hp} {a : Addr} {ds : List PyData} {Ra Rb R0 : List Ow} (A : At K F ((Ra ++ .ls a ds :: Rb) ++ R0) H) : Dp K H (.ref a) (.list ds) := by
  obtain ⟨vs, h1, h2⟩ := at_ls A
  exact .lst (.inl (.inl h1)) (Dts.dp ds (Dts.mono A.ex ds h2))
theorem rv_neO {a : Addr} {ds : List PyData} {d : PyData} {Ra Rb : List Ow} (h1 : SeqAt.shaped (.list ds) = true) (h2 : SeqAt.shaped d = true) : Rv K (rNeD K) (.o a) (.d d) (Ra ++ .ls a ds :: Rb) (.d (.bool (!PyData.eqv (.list ds) d))) := fun R0 F H v u hv hu A Q q => by
  cases hv
  exact ⟨.list ds, d, A.dpO, (Dt.mono A.ex d hu).dp, h1, h2, q _ F H (Ex.refl F) A (.bl _)⟩
/-- a new empty list that will grow -/
theorem es_setO {P : Post} {i : Nat} (hn : ∀ p, P.nx (ρ.set i (.o p)) (R ++ [.ls p []])) : Es K (tAsg (tLst tNil) (gName i)) ρ R P := fun R0 F H σ D S A p =>
  ⟨Nat.zero_le _, fun a ha => p.nx _ _ _ F _ (hn a) (Ex.refl F) (S.set i (e := .o a) rfl) (by
    rw [List.append_assoc]
    exact (A.own1 ha .nil).perm List.perm_middle.symm)⟩
end
end Fx

namespace Fx
open PySem PySem.Spec PyProof.Rows L2 StX RZ
section
variable {X : Cx}
/-! ### one rule for all kinds -/
def rAddA (K : PySem.W.Frag) : L2.R2 := fun x y H Q => (rI0 (fun i j => .int (i + j)) x y H Q ∨ rCat x y H Q) ∨ rCatA K x y H Q
theorem opAdd {K : PySem.W.Frag} (h : X.K = K := by rfl) : OpR X (binaryOp .Add) (rAddA K) := by subst h; exact OpR.or (OpR.or op_add op_cat) op_catA
def rIxA (K : PySem.W.Frag) : L2.R2 := fun x y H Q => rIxL K x y H Q ∨ rIxT K x y H Q
theorem ixAny {K : PySem.W.Frag} (h : X.K = K := by rfl) : IxR X (rIxA K) := by subst h; exact IxR.or ix_list ix_tup
def rSlAny (K : PySem.W.Frag) : V → Option Int → Option Int → Hp → VK → Prop := fun x lo hi H Q => rSlL K x lo hi H Q ∨ rSlA K x lo hi H Q
theorem slAny {K : PySem.W.Frag} (h : X.K = K := by rfl) : SlR X (rSlAny K) := by subst h; exact SlR.or sl_list sl_tupA
def iAny (K : PySem.W.Frag) (te : TE) : TI := fun σ H R => iList K te σ H R ∨ iTup K te σ H R
theorem piAny {K : PySem.W.Frag} {tg l : Expr} {tl : TE} (hl : PE X l tl) (hK : X.K = K := by rfl) : PI X tg l (iAny K tl) := ⟨fun pins s σ H R I h => by
  subst hK
  rcases h with h | h
  · exact (pi_list hl).run pins s σ H R I h
  · exact (pi_tup hl).run pins s σ H R I h⟩
theorem opMul : OpR X (binaryOp .Mult) (rI CMulW fun i j => .int (i * j)) := op_mulW
theorem opDiv : OpR X (binaryOp .FloorDiv) (rI CDivW fun i j => .int (i / j)) := op_fdivW
theorem pe_rev {e : Expr} {te : TE} {k : Nat} {p1 p2 p3 pos : Pos} {K : PySem.W.Frag} (he : PE X e te) (hK : X.K = K := by rfl) : PE X (.Subscript e (.Slice none none (some (.UnaryOp .USub (.Constant (.int 1) k p1) p2)) p3) pos) (tRevL K te) := by subst hK; exact pe_revL he
/-! ### calls by names alone -/
section
variable {CX : CXT} {k : Nat} {f : Addr} {fd : FuncData} {ps ks : List Str} {sp : Sp} {E : XK} {x : Str} {p pos : Pos} {tk : TA} {kws : List Keyword}
  {g : List Value → List Value → List Value} {gV : List V → List V → List V}
def tCallKO (sp : Sp) (gV : List V → List V → List V) (E : XK) (tk : TA) : TE := fun σ H Q => tk σ H fun zs H2 => sp (gV [] zs) H2 Q E
theorem pe_callKO (F : FnOk X.prog X.w X.K X.mg X.base CX k f fd ps sp) (hr : Room k X.A) (hg : Gl X x) (hm : X.mg x = some (.ref f)) (hk : PySem.W.keepIn X.K (.ref f) = true) (hb : KBinds X.K fd ps ks g gV) (hx : Passes CX X E)
    (hkw : PK X kws tk) (hall : (backToKw pos (keywordEach kws X.env)).all (·.1.isSome) = true := by rfl) (hks : (backToKw pos (keywordEach kws X.env)).filterMap (·.1) = ks := by rfl)
    (hdb : (x == ("__debug__" : Str)) = false := by decide) (hpl : ((backTo pos (starEach [] X.env)).any (·.1) || (backToKw pos (keywordEach kws X.env)).any (·.1.isNone)) = false := by rfl) :
    PE X (.Call (.Name x p) [] kws pos) (tCallKO sp gV E tk) := by
  constructor
  intro pins s σ H Q I h
  apply wpAny_Call_Name_kw
  apply ld_glob I hg hm (hd := hdb)
  apply PySem.W.callWith_KW0 (h₀ := X.base) I.ok.mod.kin hk hall (hplain := hpl)
  refine thn (hkw.run pos pins s σ H _ I h) ?_
  rintro ws s2 ⟨zs, H2, I2, rz, q2⟩
  refine ⟨I2.kIn, ?_⟩
  rw [hks]
  exact run_fnk (us := []) (vs := []) F hr hb hx I2 .nil rz q2
end
/-! ### repr of data -/
def rRepr (K : PySem.W.Frag) : List V → Hp → VK → Prop := fun xs H Q => ∃ x d, xs = [x] ∧ Dp K H x d ∧ PyData.showable d = true ∧ PyData.hasDict d = false ∧ PyData.depth d ≤ 60 ∧ d.shown.length ≤ sizeLine ∧ Q (.str d.shown) H
theorem call_reprD {K : PySem.W.Frag} {k : Nat} (hr : Room k X.A) (hg : X.A.guards = some []) (hK : X.K = K := by rfl) : CallR X (.builtin "repr") (rRepr K) := by
  subst hK
  intro pins s σ H xs us Q I r h
  obtain ⟨x, d, rfl, hd, h1, h2, h3, h4, q⟩ := h
  cases r with
  | cons rx rr =>
    cases rr
    obtain ⟨as, hr'⟩ := Dp.reads I d x _ hd rx
    have hu := hr.un
    cases hd with
    | non =>
      cases rx
      exact PySem.P.repr_of_none ⟨.str _, H, I.tok _, ⟨_, rfl⟩, q⟩
    | bl b =>
      cases rx
      cases b with
      | true => exact PySem.P.repr_of_bool ⟨.str _, H, I.tok _, ⟨_, rfl⟩, q⟩
      | false => exact PySem.P.repr_of_bool ⟨.str _, H, I.tok _, ⟨_, rfl⟩, q⟩
    | int i =>
      obtain ⟨t, rfl⟩ := rx
      exact PySem.P.repr_of_int (of_decide_eq_true h1) ⟨.str _, H, I.tok _, ⟨_, rfl⟩, q⟩
    | str z =>
      obtain ⟨t, rfl⟩ := rx
      exact PySem.P.repr_of_str ⟨.str _, H, I.tok _, ⟨_, rfl⟩, q⟩ h4
    | lst ha hb =>
      cases rx
      exact repr_of_reads' hr' h1 (fun e => by rw [h2] at e; cases e) hg (by omega) (fun b o e => e) (fun h' u tk hk => ⟨.str _, H, I.kept hk, ⟨_, rfl⟩, q⟩) h4
    | tup ha hb =>
      cases rx
      exact repr_of_reads' hr' h1 (fun e => by rw [h2] at e; cases e) hg (by omega) (fun b o e => e) (fun h' u tk hk => ⟨.str _, H, I.kept hk, ⟨_, rfl⟩, q⟩) h4
/-! ### the same rules, the written part named -/
section
variable {K : PySem.W.Frag}
theorem callLen (hK : X.K = K := by rfl) : CallR X (.builtin "len") (rLenS K) := by subst hK; exact call_len_seq
theorem callTup (hK : X.K = K := by rfl) : CallR X (.type "tuple") (rTupS K) := by subst hK; exact call_tuple_of
theorem callLst (hK : X.K = K := by rfl) : CallR X (.type "list") (rListS K) := by subst hK; exact call_list_of
theorem callSum (hc : X.calm = true := by rfl) (hK : X.K = K := by rfl) : CallR X (.builtin "sum") (rSum K) := by subst hK; exact cr_sum hc
theorem callMin (hc : X.calm = true := by rfl) (hK : X.K = K := by rfl) : CallR X (.builtin "min") (rMin K) := by subst hK; exact cr_min hc
theorem callAll (hc : X.calm = true := by rfl) (hK : X.K = K := by rfl) : CallR X (.builtin "all") (rAll K) := by subst hK; exact cr_all hc
theorem callIsi (hK : X.K = K := by rfl) : CallR X (.builtin "isinstance") (rIsi K) := by subst hK; exact call_isi
theorem callInt : CallR X (.type "int") rIntS := call_int1
theorem callAbs : CallR X (.builtin "abs") rAbsS := call_abs
theorem opEqD {k : Nat} (hr : Room k X.A) (hK : X.K = K := by rfl) : OpR X (compareOp .Eq) (rEqD K) := by subst hK; exact op_eqD hr.units
theorem opNeD {k : Nat} (hr : Room k X.A) (hK : X.K = K := by rfl) : OpR X (compareOp .NotEq) (rNeD K) := by subst hK; exact op_neD hr.units
theorem piZip {e e2 : Expr} {ta : TA} {p pos tpos : Pos} {elts : List Expr} {kk : Nat} (hg : Gl X "zip") (hm : X.mg "zip" = none) (ha : PA X [e, e2] ta) (hs : starEach [e, e2] X.env = (false, eval e X.env) :: starEach [e2] X.env := by rfl)
    (hpl : (backTo pos (starEach [e2] X.env)).any (·.1) = false := by rfl) (hK : X.K = K := by rfl) : PI X (.Tuple elts kk tpos) (.Call (.Name "zip" p) [e, e2] [] pos) (iZipA K ta) := by subst hK; exact pi_zipA hg hm ha hs hpl
theorem peBm {o e : Expr} {es : List Expr} {to : TE} {t : TA} {name : Str} {apos cpos : Pos} {id : String} {r : V → List V → Hp → VK → Prop} (slot : Slot "list" name id) (hty : typeOf (.builtin id) = pure (.type "method_descriptor")) (hm : MtR X id r) (ho : PE X o to) (ha : PA X (e :: es) t)
    (hbase : attributeBase o name X.env (eval o X.env) = eval o X.env := by rfl)
    (hfew : ((backTo cpos (starEach (e :: es) X.env)).all (fun x => !x.1) && (backToKw cpos (keywordEach [] X.env)).all (fun x => x.1.isSome) && decide ((e :: es).length + ([] : List Keyword).length + (if ([] : List Keyword).isEmpty then 0 else 1) < 30)) = true := by rfl)
    (hline : (apos.endLine == cpos.line) = true := by rfl) (hs : starEach (e :: es) X.env = (false, eval e X.env) :: starEach es X.env := by rfl) (hplain : (backTo cpos (starEach es X.env)).any (·.1) = false := by rfl) (hK : X.K = K := by rfl) :
    PE X (.Call (.Attribute o name apos) (e :: es) [] cpos) (tBM K "list" r to t) := by subst hK; exact pe_bm PySem.F.plainAttrs_list slot hty hm ho ha hbase hfew hline hs hplain
theorem peBm0 {o : Expr} {to : TE} {name : Str} {apos cpos : Pos} {id : String} {r : V → List V → Hp → VK → Prop} (slot : Slot "list" name id) (hty : typeOf (.builtin id) = pure (.type "method_descriptor")) (hm : MtR X id r) (ho : PE X o to)
    (hbase : attributeBase o name X.env (eval o X.env) = eval o X.env := by rfl) (hline : (apos.endLine == cpos.line) = true := by rfl) (hK : X.K = K := by rfl) : PE X (.Call (.Attribute o name apos) [] [] cpos) (tBM0 K "list" r to) := by
  subst hK; exact pe_bm0 PySem.F.plainAttrs_list slot hty hm ho hbase hline
theorem ptTruth {a : Expr} {ta : TE} (ha : PE X a ta) (he : ∀ whole, isTrue a X.env whole = (do let v ← whole; standAt a.pos; holding [v] (truthy v)) := by intro _; rfl) (hK : X.K = K := by rfl) : PT X a (fun σ H Q => ta σ H fun x H' => ∃ k, TruV K x H' k ∧ Q k H') := by subst hK; exact pt_truth ha he
theorem pgTup {es : List Expr} {k : Nat} {pos : Pos} {t : TGs} {n : Nat} (hc : X.calm = true) (h : PGs X es t) (hn : (assignEach es X.env).length = n := by rfl) (hst : (assignEach es X.env).findIdx? (·.1) = none := by rfl) (hK : X.K = K := by rfl) : PG X (.Tuple es k pos) (gTup K n t) := by subst hK; exact pg_tup hc h hn hst
theorem paStar {e : Expr} {es : List Expr} {te : TE} {t : TA} {p : Pos} (he : PE X e te) (hr : PA X es t) (hs : starEach (.Starred e p :: es) X.env = (true, eval e X.env) :: starEach es X.env := by rfl) (hK : X.K = K := by rfl) : PA X (.Starred e p :: es) (tStar K te t) := by subst hK; exact pa_star he hr hs
end
end
section
variable {K : PySem.W.Frag} {ρ ρ' : List En} {R R1 Rz R3 : List Ow} {e e1 e2 x y z : En} {ta tb tc te tl : TE} {t u : TT} {r : L2.R2}
theorem rv_addI {i j : Int} : Rv K (rAddA K) (.d (.int i)) (.d (.int j)) R (.d (.int (i + j))) := fun R0 F H v u hv hu A Q q => .inl (.inl (rv_int (g := fun i j => i + j) R0 F H v u hv hu A Q q))
theorem rv_addL {ds es : List PyData} (hl : ds.length + es.length ≤ sizeLine) : Rv K (rAddA K) (.d (.list ds)) (.d (.list es)) R (.d (.list (ds ++ es))) := fun R0 F H v u hv hu A Q q => .inl (.inr (rv_cat hl R0 F H v u hv hu A Q q))
theorem rv_addT {ds es : List PyData} (hl : ds.length + es.length ≤ sizeLine) : Rv K (rAddA K) (.d (.tuple ds)) (.d (.tuple es)) R (.d (.tuple (ds ++ es))) := fun R0 F H v u hv hu A Q q => .inr (rv_catT hl R0 F H v u hv hu A Q q)
theorem rv_iL {ds : List PyData} {i : Int} {d : PyData} (h : L2.atI ds i = some d) : Rv K (rIxA K) (.d (.list ds)) (.d (.int i)) R (.d d) := fun R0 F H v u hv hu A Q q => .inl (rv_ixL h R0 F H v u hv hu A Q q)
theorem rv_iT {ds : List PyData} {i : Int} {d : PyData} (h : L2.atI ds i = some d) : Rv K (rIxA K) (.d (.tuple ds)) (.d (.int i)) R (.d d) := fun R0 F H v u hv hu A Q q => .inr (rv_ixT h R0 F H v u hv hu A Q q)
theorem rv_iO {Ra Rb : List Ow} {a : Addr} {ds : List PyData} {i : Int} {d : PyData} (h : L2.atI ds i = some d) : Rv K (rIxA K) (.o a) (.d (.int i)) (Ra ++ .ls a ds :: Rb) (.d d) := fun R0 F H v u hv hu A Q q => .inl (rv_ixO h R0 F H v u hv hu A Q q)
theorem rv_iR {a b : Addr} {vs : List V} {i : Int} (hm : .rw a (.lst vs) ∈ R) (h : L2.atI vs i = some (.ref b)) : Rv K (rIxA K) (.o a) (.d (.int i)) R (.o b) := fun R0 F H v u hv hu A Q q => .inl (rv_ixR hm h R0 F H v u hv hu A Q q)
theorem rv_iRi {a : Addr} {vs : List V} {i j : Int} (hm : .rw a (.lst vs) ∈ R) (h : L2.atI vs i = some (.int j)) : Rv K (rIxA K) (.o a) (.d (.int i)) R (.d (.int j)) := fun R0 F H v u hv hu A Q q => .inl (rv_ixRi hm h R0 F H v u hv hu A Q q)
theorem ei_L {xs : List PyData} (h : Ev K tl ρ R (.d (.list xs)) R1) : Ei K (iAny K tl) ρ R xs R1 := fun R0 F H σ S A Q q => .inl (ei_list h R0 F H σ S A Q q)
theorem ei_T {xs : List PyData} (h : Ev K tl ρ R (.d (.tuple xs)) R1) : Ei K (iAny K tl) ρ R xs R1 := fun R0 F H σ S A Q q => .inr (ei_tup h R0 F H σ S A Q q)
theorem ev_sL {t1 t2 : TO} {ds : List PyData} {lo hi : Option Int} (h : Ev K te ρ R (.d (.list ds)) R1) (h1 : Eo K t1 ρ R1 lo Rz) (h2 : Eo K t2 ρ Rz hi R3) : Ev K (tSl (rSlAny K) te t1 t2) ρ R (.d (.list (cutD ds lo hi))) R3 := fun R0 F H σ S A Q q =>
  h R0 F H σ S A _ fun v F1 H1 x1 A1 e1 => h1 R0 F1 H1 σ (S.mono x1) A1 _ fun F2 H2 x2 A2 => h2 R0 F2 H2 σ (S.mono (x1.trans x2)) A2 _ fun F3 H3 x3 A3 => by
    obtain ⟨a, ws, rfl, h4, h5⟩ := Dt.listD (e1.mono (x2.trans x3))
    refine .inl ⟨a, ws, rfl, A3.sqL h4, fun p hp => ?_⟩
    obtain ⟨x, A4⟩ := A3.new (.lst (cutV ws lo hi)) hp
    exact q _ _ _ (x1.trans (x2.trans (x3.trans x))) A4 (.lst upd_same ((h5.mono x _).cut lo hi))
theorem ev_sT {t1 t2 : TO} {ds : List PyData} {lo hi : Option Int} (h : Ev K te ρ R (.d (.tuple ds)) R1) (h1 : Eo K t1 ρ R1 lo Rz) (h2 : Eo K t2 ρ Rz hi R3) : Ev K (tSl (rSlAny K) te t1 t2) ρ R (.d (.tuple (cutD ds lo hi))) R3 := fun R0 F H σ S A Q q =>
  h R0 F H σ S A _ fun v F1 H1 x1 A1 e1 => h1 R0 F1 H1 σ (S.mono x1) A1 _ fun F2 H2 x2 A2 => h2 R0 F2 H2 σ (S.mono (x1.trans x2)) A2 _ fun F3 H3 x3 A3 => by
    have e3 := EnOk.mono (x2.trans x3) e1
    obtain ⟨a, ws, rfl, h4, h5⟩ := Dt.tupD e3
    refine .inr ⟨a, ws, rfl, A3.sqT h4, fun hw => ?_, fun _ p hp => ?_⟩
    · refine q _ _ _ (x1.trans (x2.trans x3)) A3 ?_
      rw [h5.len] at hw
      have : cutD ds lo hi = ds := by
        unfold cutD
        rw [hw.1, hw.2]
        simp
      rw [this]
      exact e3
    · obtain ⟨x, A4⟩ := A3.new (.tup (cutV ws lo hi)) hp
      exact q _ _ _ (x1.trans (x2.trans (x3.trans x))) A4 (.tup (.inl (.inl upd_same)) ((h5.mono x _).cut lo hi))
theorem ev_rev {ds : List PyData} (h : Ev K te ρ R (.d (.list ds)) R1) : Ev K (tRevL K te) ρ R (.d (.list ds.reverse)) R1 := fun R0 F H σ S A Q q =>
  h R0 F H σ S A _ fun v F1 H1 x1 A1 e1 => by
    obtain ⟨a, ws, rfl, h4, h5⟩ := Dt.listD e1
    refine ⟨a, ws, rfl, A1.sqL h4, fun p hp => ?_⟩
    obtain ⟨x, A4⟩ := A1.new (.lst ws.reverse) hp
    refine q _ _ _ (x1.trans x) A4 (.lst upd_same ?_)
    have h6 := Dts.mono x _ h5
    clear h4 h5
    have : ∀ {vs : List V} {es : List PyData}, Dts K (upd F1 p (.lst ws.reverse)) vs es → Dts K (upd F1 p (.lst ws.reverse)) vs.reverse es.reverse := by
      intro vs es
      induction vs generalizing es with
      | nil => intro h; cases h; exact .nil
      | cons v vs ih =>
        intro h
        cases h with
        | cons a b => rw [List.reverse_cons, List.reverse_cons]; exact (ih b).append (.cons a .nil)
    exact this h6
theorem rc_repr {d : PyData} (h1 : PyData.showable d = true) (h2 : PyData.hasDict d = false) (h3 : PyData.depth d ≤ 60) (h4 : d.shown.length ≤ sizeLine) : RcK K (rRepr K) [.d d] R (.d (.str d.shown)) := fun R0 F H vs E A Q q => by
  obtain ⟨v, rfl, h⟩ := ens1 E
  exact ⟨v, d, rfl, Dt.dp d (Dt.mono A.ex d h), h1, h2, h3, h4, q _ F H (Ex.refl F) A (.str _)⟩
theorem ev_callKO {Sf : List En → List Ow → En → List Ow → Prop} {tk : TA} {es es' : List En} {Rc Rc' Rf : List Ow} {gV : List V → List V → List V} (hs : Sf es' Rc e Rc') (h : Ea K tk ρ R es (Rc ++ Rf)) (hg : ∀ F vs, Ens K F vs es → Ens K F (gV [] vs) es') :
    Ev K (tCallKO (spS K Sf) gV E0 tk) ρ R e (Rc' ++ Rf) := fun R0 F H σ S A Q q =>
  h R0 F H σ S A _ fun vs F1 H1 x1 A1 e1 => by
    rw [List.append_assoc] at A1
    exact ⟨es', Rc, Rf ++ R0, F1, e, Rc', hs, hg F1 vs e1, A1, fun v F2 H2 x2 A2 e2 => q v F2 H2 (x1.trans x2) (by rw [List.append_assoc]; exact A2) e2⟩
/-- a def keeps its promise -/
theorem fn_es {P : Program} {w : World} {mg : Str → Option Value} {base : Heap} {xn qual : Str} {st : Stmt} {f : Addr} {fd : FuncData} {N ps : List Str} {k : Nat} {S : List En → List Ow → En → List Ow → Prop} (F : Fun K xn qual st f fd) (Sc : FnScope N ps (defScope st))
    (hlen : ∀ es R e R', S es R e R' → es.length = ps.length)
    (hb : ∀ (cdv : Value) (A : Around) (outer : List Env) (s : Shared) (H : Hp) (E : XK) (es : List En) (R : List Ow) (e : En) (R' : List Ow), Room k (A.deeper (envOfC qual (defScope st) s.heap.objs.size f cdv)) → S es R e R' →
      ∃ t, PSs (cxOf CX0 P w K mg base N qual (defScope st) f cdv A outer s H E).nox (defBody st) t ∧ Es K t (es ++ List.replicate (N.length - ps.length) .u) R { nx := fun _ R1 => e = .d .none ∧ R1 = R', rt := fun e1 R1 => e1 = e ∧ R1 = R' }) :
    FnOk P w K mg base CX0 (k + 1) f fd ps (spS K S) := by
  refine F.ok Sc (fun vs H Q E h => ?_) (fun cdv A outer s H vs Q E hr h => ?_)
  · obtain ⟨es, R, R0, F, e, R', h1, h2, _⟩ := h
    rw [h2.len]
    exact hlen _ _ _ _ h1
  · obtain ⟨es, R, R0, F, e, R', h1, h2, h3, q⟩ := h
    obtain ⟨t, ht, he⟩ := hb cdv A outer s H E es R e R' hr h1
    refine ⟨t, ht, he R0 F H _ _ ?_ h3 ⟨?_, ?_, ?_, ?_⟩⟩
    · unfold L2.start
      have hl : vs.length = ps.length := by rw [h2.len]; exact hlen _ _ _ _ h1
      rw [hl]
      exact h2.sls.append (Sls.us _)
    · rintro ρ R1 σ F1 H1 ⟨rfl, rfl⟩ x S1 A1
      exact q _ F1 H1 x A1 .non
    · rintro e1 R1 v F1 H1 ⟨rfl, rfl⟩ x e2 A1
      exact q _ F1 H1 x A1 e2
    · intro _ _ _ _ _ h; exact h.elim
    · intro _ _ _ _ _ h; exact h.elim
end
end Fx

namespace Fx
open PySem PySem.Spec PyProof.Rows L2 StX RZ
section
variable {K : PySem.W.Frag} {ρ ρ' : List En} {R R1 Rz R3 : List Ow} {e e1 e2 x y z : En} {ta tb tc te tl : TE} {t u : TT} {r : L2.R2} {α β : Type}
abbrev tI (ns : List Int) : PyData := .tuple (ns.map .int)
abbrev lI (ns : List Int) : PyData := .list (ns.map .int)
def isIntB : PyData → Bool
  | .int _ => true
  | .bool _ => true
  | _ => false
def isBoolB : PyData → Bool
  | .bool _ => true
  | _ => false
def isTupB : PyData → Bool
  | .tuple _ => true
  | _ => false
theorem kit_int (d : PyData) : kitB (kindD d) "int" = some (isIntB d) := by
  cases d
  · show kitB "NoneType" "int" = some false; decide +kernel
  · show kitB "bool" "int" = some true; decide +kernel
  · show kitB "int" "int" = some true; decide +kernel
  · show kitB "str" "int" = some false; decide +kernel
  · show kitB "list" "int" = some false; decide +kernel
  · show kitB "tuple" "int" = some false; decide +kernel
  · show kitB "dict" "int" = some false; decide +kernel
theorem kit_bool (d : PyData) : kitB (kindD d) "bool" = some (isBoolB d) := by
  cases d
  · show kitB "NoneType" "bool" = some false; decide +kernel
  · show kitB "bool" "bool" = some true; decide +kernel
  · show kitB "int" "bool" = some false; decide +kernel
  · show kitB "str" "bool" = some false; decide +kernel
  · show kitB "list" "bool" = some false; decide +kernel
  · show kitB "tuple" "bool" = some false; decide +kernel
  · show kitB "dict" "bool" = some false; decide +kernel
theorem kit_tup (d : PyData) : kitB (kindD d) "tuple" = some (isTupB d) := by
  cases d
  · show kitB "NoneType" "tuple" = some false; decide +kernel
  · show kitB "bool" "tuple" = some false; decide +kernel
  · show kitB "int" "tuple" = some false; decide +kernel
  · show kitB "str" "tuple" = some false; decide +kernel
  · show kitB "list" "tuple" = some false; decide +kernel
  · show kitB "tuple" "tuple" = some true; decide +kernel
  · show kitB "dict" "tuple" = some false; decide +kernel
/-! ### typed forms -/
theorem lcr_mapT {g : TG} {vs : List Nat} {enc f : α → PyData} {l : List α} (h : ∀ a ∈ l, ∃ ρ', EgW K g vs (.d (enc a)) ρ ρ' ∧ Ev K te ρ' R (.d (f a)) R) : LcR K g tYes te vs ρ (l.map enc) R (l.map f) R := by
  induction l with
  | nil => exact .nil
  | cons d ds ih =>
    obtain ⟨ρ', h1, h2⟩ := h d (by simp)
    exact .keep h1 et_yes h2 (ih fun d hd => h d (by simp [hd]))
theorem lcr_filterT {g : TG} {tt : TT} {vs : List Nat} {p : α → Bool} {enc f : α → PyData} {l : List α} (h : ∀ a ∈ l, ∃ ρ', EgW K g vs (.d (enc a)) ρ ρ' ∧ Et K tt ρ' R (p a) R ∧ (p a = true → Ev K te ρ' R (.d (f a)) R)) : LcR K g tt te vs ρ (l.map enc) R ((l.filter p).map f) R := by
  induction l with
  | nil => exact .nil
  | cons d ds ih =>
    obtain ⟨ρ', h1, h2, h3⟩ := h d (by simp)
    have ih := ih fun d hd => h d (by simp [hd])
    cases hp : p d with
    | true => rw [hp] at h2; rw [List.filter_cons, if_pos hp]; exact .keep h1 h2 (h3 hp) ih
    | false => rw [hp] at h2; rw [List.filter_cons, if_neg (by rw [hp]; decide)]; exact .skip h1 h2 ih
/-- a state is threaded: Rg tells the owned objects of a state -/
def mapS {σ : Type} (f : σ → α → β × σ) : σ → List α → List β × σ
  | s, [] => ([], s)
  | s, a :: l => let r := f s a; let q := mapS f r.2 l; (r.1 :: q.1, q.2)
theorem lcr_state {σ : Type} {g : TG} {vs : List Nat} {enc : α → PyData} {enc' : β → PyData} {Rg : σ → List Ow} {f : σ → α → β × σ} {Inv : σ → Prop} : ∀ {l : List α} {s : σ}, Inv s → (∀ s a, a ∈ l → Inv s → Inv (f s a).2 ∧ ∃ ρ', EgW K g vs (.d (enc a)) ρ ρ' ∧ Ev K te ρ' (Rg s) (.d (enc' (f s a).1)) (Rg (f s a).2)) →
    LcR K g tYes te vs ρ (l.map enc) (Rg s) ((mapS f s l).1.map enc') (Rg (mapS f s l).2)
  | [], s, hi, h => .nil
  | a :: l, s, hi, h => by
    obtain ⟨h0, ρ', h1, h2⟩ := h s a (by simp) hi
    exact .keep h1 et_yes h2 (lcr_state h0 fun s b hb => h s b (by simp [hb]))
theorem atI_map {enc : α → PyData} {l : List α} {j : Nat} {a : α} (h : l[j]? = some a) : L2.atI (l.map enc) (j : Int) = some (enc a) := atI_nat (by rw [List.getElem?_map, h]; rfl)
theorem atI_nat' {ds : List PyData} {i : Int} {j : Nat} {d : PyData} (e : i = (j : Int)) (h : ds[j]? = some d) : L2.atI ds i = some d := by rw [e]; exact atI_nat h
theorem get_getD {l : List α} {j : Nat} {d : α} (h : j < l.length) : l[j]? = some (l.getD j d) := by rw [List.getD_eq_getElem?_getD, List.getElem?_eq_getElem h]; rfl
theorem map_int {f : α → Int} {l : List α} : l.map (fun a => PyData.int (f a)) = (l.map f).map .int := by rw [List.map_map]; rfl
theorem map_bool {f : α → Bool} {l : List α} : l.map (fun a => PyData.bool (f a)) = (l.map f).map .bool := by rw [List.map_map]; rfl
theorem rc_minM {f : α → Int} {l : List α} (hl : l ≠ []) : RcK K (rMin K) [.d (.list (l.map fun a => .int (f a)))] R (.d (.int (minI (l.map f)))) := by
  rw [map_int]; exact rc_min (by simpa using hl)
theorem rc_sumM {f : α → Int} {l : List α} : RcK K (rSum K) [.d (.list (l.map fun a => .int (f a)))] R (.d (.int (l.map f).sum)) := by
  rw [map_int]; exact rc_sum
theorem rc_allM {f : α → Bool} {l : List α} : RcK K (rAll K) [.d (.list (l.map fun a => .bool (f a)))] R (.d (.bool ((l.map f).all id))) := by
  rw [map_bool]; exact rc_all
theorem eqv_int (i j : Int) : PyData.eqv (.int i) (.int j) = decide (i = j) := by
  by_cases h : i = j <;> simp [PyData.eqv, h]
theorem rv_eqI {i j : Int} : Rv K (rEqD K) (.d (.int i)) (.d (.int j)) R (.d (.bool (decide (i = j)))) := by
  have := rv_eqD (K := K) (R := R) (d := .int i) (e := .int j) (by rfl) (by rfl)
  rwa [eqv_int] at this
theorem rv_neI {i j : Int} : Rv K (rNeD K) (.d (.int i)) (.d (.int j)) R (.d (.bool (!decide (i = j)))) := by
  have := rv_neD (K := K) (R := R) (d := .int i) (e := .int j) (by rfl) (by rfl)
  rwa [eqv_int] at this
theorem ev_cast {d d' : PyData} (h : d = d') (hv : Ev K te ρ R (.d d) R1) : Ev K te ρ R (.d d') R1 := h ▸ hv
theorem rngD_nat (n : Nat) : rngD 0 n = (List.range n).map fun i => .int (i : Nat) := by
  unfold rngD
  apply List.map_congr_left
  intro i _
  rw [Int.zero_add]
theorem ei_rngN {ts : TA} {n : Nat} (h : Ea K ts ρ R [.d (.int (n : Int))] R1) (hn : n < 2 ^ 62) : Ei K (iRng1 ts) ρ R ((List.range n).map fun i => .int (i : Nat)) R1 := by
  have := ei_rng1 h (by omega) (by omega)
  rw [Int.toNat_natCast, rngD_nat] at this
  exact this
theorem ei_cast {wi : TI} {xs ys : List PyData} (h : xs = ys) (hw : Ei K wi ρ R xs R1) : Ei K wi ρ R ys R1 := h ▸ hw
theorem prs_map {f : α → PyData} {g : α → PyData} : ∀ l : List α, prs (l.map f) (l.map g) = l.map fun a => .tuple [f a, g a]
  | [] => rfl
  | a :: l => by
    have := prs_map (f := f) (g := g) l
    unfold prs at this ⊢
    rw [List.map_cons, List.map_cons, List.zipWith_cons_cons, this]; rfl
theorem ev_tupE {ts : TA} {es : List En} {ds : List PyData} (h : Ea K ts ρ R es R1) (he : es = ds.map .d) (hl : ds.length ≤ sizeLine) : Ev K (tTup ts) ρ R (.d (.tuple ds)) R1 := ev_tup (he ▸ h) hl
theorem ev_lstE {ts : TA} {es : List En} {ds : List PyData} (h : Ea K ts ρ R es R1) (he : es = ds.map .d) (hl : ds.length ≤ sizeLine) : Ev K (tLst ts) ρ R (.d (.list ds)) R1 := ev_lst (he ▸ h) hl
/-! ### results that are not told exactly -/
def Evp (K : PySem.W.Frag) (te : TE) (ρ : List En) (R : List Ow) (P : En → List Ow → Prop) : Prop :=
  ∀ (R0 : List Ow) (F H : Hp) (σ : L2.St), Sls K F σ ρ → At K F (R ++ R0) H → ∀ Q : VK, (∀ e R' v F1 H1, P e R' → Ex F F1 → At K F1 (R' ++ R0) H1 → EnOk K F1 v e → Q v H1) → te σ H Q
theorem evp_of {P : En → List Ow → Prop} (h : Ev K te ρ R e R1) (hp : P e R1) : Evp K te ρ R P := fun R0 F H σ S A Q q => h R0 F H σ S A Q fun v F1 H1 x1 A1 e1 => q e R1 v F1 H1 hp x1 A1 e1
theorem evp_mono {P P' : En → List Ow → Prop} (h : Evp K te ρ R P) (hp : ∀ e R', P e R' → P' e R') : Evp K te ρ R P' := fun R0 F H σ S A Q q => h R0 F H σ S A Q fun e R' v F1 H1 p x1 A1 e1 => q e R' v F1 H1 (hp e R' p) x1 A1 e1
theorem evp_if {P : En → List Ow → Prop} {b : Bool} (h1 : Et K t ρ R b R1) (h2 : b = true → Evp K ta ρ R1 P) (h3 : b = false → Evp K tb ρ R1 P) : Evp K (tIf t ta tb) ρ R P := fun R0 F H σ S A Q q =>
  h1 R0 F H σ S A _ fun F1 H1 x1 A1 => by
    cases b with
    | true => exact h2 rfl R0 F1 H1 σ (S.mono x1) A1 Q fun e R' w F2 H2 p x2 A2 e2 => q e R' w F2 H2 p (x1.trans x2) A2 e2
    | false => exact h3 rfl R0 F1 H1 σ (S.mono x1) A1 Q fun e R' w F2 H2 p x2 A2 e2 => q e R' w F2 H2 p (x1.trans x2) A2 e2
def spN (K : PySem.W.Frag) (Pre : List En → List Ow → (En → List Ow → Prop) → Prop) : Sp := fun vs H Q _ => ∃ es R R0 F Po, Pre es R Po ∧ Ens K F vs es ∧ At K F (R ++ R0) H ∧ ∀ e R' v F1 H1, Po e R' → Ex F F1 → At K F1 (R' ++ R0) H1 → EnOk K F1 v e → Q v H1
theorem evp_call {Pre : List En → List Ow → (En → List Ow → Prop) → Prop} {Po : En → List Ow → Prop} {ts : TA} {es : List En} {Rc Rf : List Ow} (hs : Pre es Rc Po) (h : Ea K ts ρ R es (Rc ++ Rf)) : Evp K (tCall (spN K Pre) [] E0 ts) ρ R (fun e R' => ∃ Rc', R' = Rc' ++ Rf ∧ Po e Rc') := fun R0 F H σ S A Q q =>
  h R0 F H σ S A _ fun vs F1 H1 x1 A1 e1 => by
    rw [List.append_nil]
    rw [List.append_assoc] at A1
    exact ⟨es, Rc, Rf ++ R0, F1, Po, hs, e1, A1, fun e R' v F2 H2 hp x2 A2 e2 => q e (R' ++ Rf) v F2 H2 ⟨R', rfl, hp⟩ (x1.trans x2) (by rw [List.append_assoc]; exact A2) e2⟩
theorem es_asgN {P : Post} {g : TG} {Po : En → List Ow → Prop} (h : Evp K te ρ R Po) (hn : ∀ e R', Po e R' → ∃ ρ', Eg K g e ρ ρ' ∧ P.nx ρ' R') : Es K (tAsg te g) ρ R P := fun R0 F H σ D S A p =>
  h R0 F H σ S A _ fun e R' v F1 H1 hp x1 A1 e1 => by
    obtain ⟨ρ', hg, hq⟩ := hn e R' hp
    exact hg _ F1 H1 σ v (S.mono x1) A1 e1 _ fun σ' S' => p.nx _ _ σ' F1 H1 hq x1 S' A1
theorem es_setN {P : Post} {i : Nat} {Po : En → List Ow → Prop} (h : Evp K te ρ R Po) (hn : ∀ e R', Po e R' → P.nx (ρ.set i e) R') : Es K (tAsg te (gName i)) ρ R P := es_asgN h fun e R' hp => ⟨_, eg_name, hn e R' hp⟩
theorem es_retN' {P : Post} {Po : En → List Ow → Prop} (h : Evp K te ρ R Po) (hn : ∀ e R', Po e R' → P.rt e R') : Es K (tRet te) ρ R P := fun R0 F H σ D S A p =>
  h R0 F H σ S A _ fun e R' v F1 H1 hp x1 A1 e1 => p.rt e R' v F1 H1 (hn e R' hp) x1 e1 A1
theorem fn_esN {P : Program} {w : World} {mg : Str → Option Value} {base : Heap} {xn qual : Str} {st : Stmt} {f : Addr} {fd : FuncData} {N ps : List Str} {k : Nat} {Pre : List En → List Ow → (En → List Ow → Prop) → Prop} (F : Fun K xn qual st f fd) (Sc : FnScope N ps (defScope st))
    (hlen : ∀ es R Po, Pre es R Po → es.length = ps.length)
    (hb : ∀ (cdv : Value) (A : Around) (outer : List Env) (s : Shared) (H : Hp) (E : XK) (es : List En) (R : List Ow) (Po : En → List Ow → Prop), Room k (A.deeper (envOfC qual (defScope st) s.heap.objs.size f cdv)) → Pre es R Po →
      ∃ t, PSs (cxOf CX0 P w K mg base N qual (defScope st) f cdv A outer s H E).nox (defBody st) t ∧ Es K t (es ++ List.replicate (N.length - ps.length) .u) R { nx := fun _ R1 => Po (.d .none) R1, rt := Po }) :
    FnOk P w K mg base CX0 (k + 1) f fd ps (spN K Pre) := by
  refine F.ok Sc (fun vs H Q E h => ?_) (fun cdv A outer s H vs Q E hr h => ?_)
  · obtain ⟨es, R, R0, F, Po, h1, h2, _⟩ := h
    rw [h2.len]
    exact hlen _ _ _ h1
  · obtain ⟨es, R, R0, F, Po, h1, h2, h3, q⟩ := h
    obtain ⟨t, ht, he⟩ := hb cdv A outer s H E es R Po hr h1
    refine ⟨t, ht, he R0 F H _ _ ?_ h3 ⟨?_, ?_, ?_, ?_⟩⟩
    · unfold L2.start
      have hl : vs.length = ps.length := by rw [h2.len]; exact hlen _ _ _ h1
      rw [hl]
      exact h2.sls.append (Sls.us _)
    · intro ρ R1 σ F1 H1 hp x S1 A1
      exact q _ R1 _ F1 H1 hp x A1 .non
    · intro e1 R1 v F1 H1 hp x e2 A1
      exact q e1 R1 v F1 H1 hp x A1 e2
    · intro _ _ _ _ _ h; exact h.elim
    · intro _ _ _ _ _ h; exact h.elim
theorem es_imp {P P' : Post} {ts : TS} (h : Es K ts ρ R P) (h1 : ∀ a b, P.nx a b → P'.nx a b) (h2 : ∀ a b, P.rt a b → P'.rt a b) (h3 : ∀ a b, P.bk a b → P'.bk a b) (h4 : ∀ a b, P.ct a b → P'.ct a b) : Es K ts ρ R P' := fun R0 F H σ D S A p =>
  h R0 F H σ D S A ⟨fun ρ R σ F1 H1 a => p.nx ρ R σ F1 H1 (h1 _ _ a), fun e R v F1 H1 a => p.rt e R v F1 H1 (h2 _ _ a), fun ρ R σ F1 H1 a => p.bk ρ R σ F1 H1 (h3 _ _ a), fun ρ R σ F1 H1 a => p.ct ρ R σ F1 H1 (h4 _ _ a)⟩
/-- a block in two parts, with what holds between -/
theorem es_seqM {P : Post} {ts us : TS} (Mid : List En → List Ow → Prop) (h : Es K ts ρ R { P with nx := Mid }) (h2 : ∀ a b, Mid a b → Es K us a b P) : Es K (tSeq ts us) ρ R P :=
  es_seq (es_imp h (fun a b m => h2 a b m) (fun _ _ x => x) (fun _ _ x => x) (fun _ _ x => x))
end
end Fx

/-! enumerate of a tuple: what is begun, each turn, the judgement's rule. -/
namespace Fx
open PySem PySem.Spec PyProof.Rows L2 StX RZ
abbrev enO (i : Addr) : Obj := { cls := .type "enumerate", data := .fields #[.none, .bool false, .ref i, rawInt 0, .none, .none] }
theorem enum1_meets {v : Value} {o : Obj} {G : Heap → Prop} (B : Begins v o G) :
    Meets (Builtin.«enumerate.__new__» ⟨[.type "enumerate", v], []⟩) fun _ R s =>
      G s.heap ∧ R (.ok (.ret (.ref (s.heap.push o).objs.size))) { s with heap := (s.heap.push o).push (enO s.heap.objs.size) } := by
  refine .of_wp fun prog w A R s hh => ?_
  rcases s with ⟨h0, ge, dr, tk, os⟩
  rcases hh with ⟨hG, hR⟩
  have hsub := sub_enumerate
  have it0 : ∀ {A' : Around} {E : Value → Shared → Prop} {Q : Value → Shared → Prop}, Q (.ref h0.objs.size) ⟨h0.push o, ge, dr, tk, os⟩ → wpAny (model prog w) A' (pyIter v) Q E ⟨h0, ge, dr, tk, os⟩ :=
    @fun A' E Q q => B.iter prog w A' E ⟨h0, ge, dr, tk, os⟩ Q hG q
  wp_walk using it0
  refine wpAny_stack_any fun st => wpAny_pure ?_
  split
  · rename_i c _ _ _ _ _
    by_cases hc : (c == Value.type "enumerate") = true
    · rw [hc]
      wp_walk using it0
      exact ⟨_, rfl, hR⟩
    · rw [Bool.not_eq_true] at hc
      rw [hc]
      wp_walk using it0
      exact ⟨_, rfl, hR⟩
  · wp_walk using it0
    exact ⟨_, rfl, hR⟩
theorem enum1_call {prog : Program} {w : World} {A : Around} {E : Value → Shared → Prop} {s : Shared} {v : Value} {o : Obj} {G : Heap → Prop} {Q : Value → Shared → Prop} (B : Begins v o G) (hG : G s.heap)
    (k : ∀ h', IsEnum h' (s.heap.objs.size + 1) s.heap.objs.size 0 .none → h'.get? s.heap.objs.size = some o → (∀ b u, s.heap.get? b = some u → h'.get? b = some u) → Q (.ref (s.heap.objs.size + 1)) { s with heap := h' }) :
    wpAny (model prog w) A (call (.type "enumerate") [v]) Q E s := by
  have sz : (s.heap.push o).objs.size = s.heap.objs.size + 1 := Heap.size_push ..
  have en : IsEnum ((s.heap.push o).push (enO s.heap.objs.size)) (s.heap.objs.size + 1) s.heap.objs.size 0 .none := by
    have q := Heap.get?_push_size (s.heap.push o) (o := enO s.heap.objs.size) rfl
    rw [sz] at q
    exact q
  refine callType_new F.called_enumerate (by decide) (F.typeCall_enumerate_1 _) (F.newCall_enumerate_1 _) (fun obj => F.args_object_init_2 obj _) F.entry_enumerate_new (enum1_meets B) ⟨hG, ?_⟩
  show _ ∧ _
  rw [sz]
  exact ⟨⟨_, en, rfl⟩, k _ en (Heap.get?_push_of_some _ (Heap.get?_push_size _ B.free)) fun b u q => Heap.get?_push_of_some _ (Heap.get?_push_of_some _ q)⟩
/-- the tuple at a, each item in a new pair with its place -/
def IteT (K : PySem.W.Frag) (a : Addr) : It where
  go i H := ∃ (xs : List V) (x : V), SqT K H a xs ∧ xs[i]? = some x
  yld i H v H' := ∃ T x, v = .ref T ∧ H T = none ∧ H' = upd H T (.tup [.int (i : Nat), x]) ∧ ∀ xs, SqT K H a xs → xs[i]? = some x
  stop i H := ∃ xs : List V, SqT K H a xs ∧ xs.length ≤ i
theorem turn_enumT {P : Program} {w : World} {K : PySem.W.Frag} {elts : List Expr} {kk : Nat} {tpos : Pos} (a e it : Addr) :
    Turn P w K (.Tuple elts kk tpos) (IteT K a) [e, it] e (fun i h => (∃ old, IsEnum h e it ((i : Nat) : Int) old) ∧ h.IsTupleIter it a i ∧ e ≠ it ∧ a ≠ it ∧ a ≠ e) := by
  constructor
  case mem => simp
  case obj =>
    rintro i h ⟨⟨old, he⟩, ⟨o, ho, hc, hd⟩, _⟩ b hb
    rcases (by simpa using hb : b = e ∨ b = it) with rfl | rfl
    · exact ⟨_, he, fun v q => nomatch q⟩
    · exact ⟨o, ho, fun v q => by rw [hd] at q; cases q⟩
  case keep =>
    rintro i h h' ⟨⟨old, he⟩, hi, hne⟩ k
    exact ⟨⟨old, k e (by simp) _ he⟩, hi.at (fun o q => k it (by simp) o q), hne⟩
  case self =>
    rintro A i s Q E ⟨⟨_, he⟩, _⟩ h
    exact wpAny_pyIter_enum he h
  case done =>
    intro X hP hw hK hc i pins s σ H E I hf st hg
    subst hP hw hK
    obtain ⟨⟨old, he⟩, hit, hne, hai, hae⟩ := st
    obtain ⟨xs, hq, hx⟩ := hg
    obtain ⟨its, rv, p, hz⟩ := I.tuple hq
    have hl := rv.length
    have hi : i = its.toArray.size ∨ its.toArray.size < i := by rw [List.size_toArray]; omega
    obtain ⟨f0, f1, f2, f3, f4, f5⟩ := hf it (by simp)
    -- the iterator may stand behind the end: then its own end is told by the library's rule for the place itself
    refine wpAny_pyNext_enum_endD (n := i) (P := fun _ _ => True) (St := fun j h => j = i ∧ h.IsTupleIter it a i ∧ h.IsTuple a its.toArray) (fp := [it, a]) ⟨?_, ?_, ?_, ?_⟩ he ⟨rfl, hit, p⟩ fun h' eb => ⟨rfl, I.turned (t' := s.toks) (fun b o hb q => eb b o hb q) f0 f1 f3 f4 f5⟩
    · rintro j h ⟨_, ⟨o, ho, _⟩, _⟩
      exact ⟨o, ho⟩
    · rintro j h h' ⟨rfl, h1, h2⟩ k
      exact ⟨rfl, h1.at (fun o q => k it (by simp) o q), h2.at (fun o q => k a (by simp) o q)⟩
    · rintro j s' Q' E' hlt ⟨rfl, _⟩ _
      exact absurd hlt (Nat.lt_irrefl _)
    · rintro s' Q' E' ⟨_, h1, h2⟩ hE
      exact wpAny_nextOf_tuple_end (I.ok.hd hc) h1 h2 (by rcases hi with q | q <;> simp at q ⊢ <;> omega) hE
  case item =>
    intro X hP hw hK hc i pins s σ H E I hf st hg
    subst hP hw hK
    obtain ⟨⟨old, he⟩, hit, hne, hai, hae⟩ := st
    obtain ⟨xs, x, hq, hx⟩ := hg
    obtain ⟨its, rv, p, hz⟩ := I.tuple hq
    obtain ⟨u, hu, ru⟩ := rv.get hx
    have hel : e < s.heap.objs.size := Heap.lt_size he
    have hil : it < s.heap.objs.size := by
      obtain ⟨_, q, _⟩ := hit
      exact Heap.lt_size q
    have hsz : i < its.toArray.size := by
      have := (List.getElem?_eq_some_iff.mp hu).1
      rwa [List.size_toArray]
    have D := Draws.tuple (prog := X.prog) (w := X.w) (A := X.A.in1) (I.ok.hd hc) it a hai its.toArray
    refine wpAny_pyNext_enum_itemD D he ⟨hit, p⟩ hsz hne (by simp; exact ⟨hne, fun q => hae q.symm⟩) ?_
    rintro y h' tk hy ho ⟨hit', _⟩ hT _ hk
    have hyu : y = u := by
      have q : its.toArray[i]? = some y := hy
      rw [List.getElem?_toArray, hu] at q
      exact (Option.some.inj q).symm
    subst hyu
    refine ⟨_, rfl, wpAny_letOwnedTupleGo_enum (s := { s with heap := h', toks := tk + 1 }) ho fun h2 he2 sb => ?_⟩
    have hT2 : h2.get? s.heap.objs.size = some { cls := .type "tuple", data := .seq #[.int i tk, y] } := (sb.2 _ (Nat.ne_of_gt hel)).trans hT
    have ob : ObjOk X.prog X.w (upd H s.heap.objs.size (.tup [.int (i : Nat), x])) h2 s.heap.objs.size (.tup [.int (i : Nat), x]) := by
      refine ⟨by show 2 ≤ sizeLine; decide, [.int i tk, y], .cons ⟨_, rfl⟩ (.cons ru .nil), _, hT2, rfl, _, rfl⟩
    have J : Inv X pins σ (upd H s.heap.objs.size (.tup [.int (i : Nat), x])) { s with heap := h2, toks := tk + 1 } := by
      refine I.turnedNew (ch := [e, it]) (fun b u hb q => ?_) hf (Nat.le_refl _) ob
      have b1 : b ≠ e := fun z => hb (by simp [z])
      have b2 : b ≠ it := fun z => hb (by simp [z])
      exact (sb.2 b b1).trans (hk b u b1 b2 q)
    refine ⟨.ref s.heap.objs.size, _, J, rfl, ⟨_, x, rfl, I.hok.fresh (Nat.le_refl _), rfl, fun ys hy' => ?_⟩, ⟨⟨y, ?_⟩, hit'.at (fun o q => (sb.2 it (Ne.symm hne)).trans q), hne, hai, hae⟩, fun b hb => ?_⟩
    · rw [I.tuple_inj hy' hq]
      exact hx
    · have e1 : ((i + 1 : Nat) : Int) = (i : Int) + 1 := by omega
      rw [e1]
      exact he2
    · have hb' : b < s.heap.objs.size := by
        rcases (by simpa using hb : b = e ∨ b = it) with rfl | rfl
        · exact hel
        · exact hil
      rw [upd_ne (Nat.ne_of_lt hb')]
      exact (hf b hb).1
def iEnumT (K : PySem.W.Frag) (ta : TA) : TI := fun σ H R => ta σ H fun vs H1 => ∃ a xs, vs = [.ref a] ∧ SqT K H1 a xs ∧ R (IteT K a) H1
def iEnumA (K : PySem.W.Frag) (ta : TA) : TI := fun σ H R => iEnum K ta σ H R ∨ iEnumT K ta σ H R
section
variable {X : Cx}
theorem pi_enumT {e : Expr} {ta : TA} {p pos tpos : Pos} {elts : List Expr} {kk : Nat} (hg : Gl X "enumerate") (hm : X.mg "enumerate" = none) (ha : PA X [e] ta) (hs : starEach [e] X.env = [(false, eval e X.env)] := by rfl) :
    PI X (.Tuple elts kk tpos) (.Call (.Name "enumerate" p) [e] [] pos) (iEnumT X.K ta) := by
  constructor
  intro pins s σ H R I h
  refine Call_ (ld_blt I hg hm boot_enumerate (PyProof.Rows.callWith_type1 (thn (ha.run pos pins s σ H _ I h) ?_) hs rfl))
  rintro us s1 ⟨vs, H1, I1, r1, a, xs, rfl, hq, q⟩
  cases r1 with
  | cons r rr =>
    cases rr
    cases r
    obtain ⟨its, rv, p', hz⟩ := I1.tuple hq
    have hat : a < s1.heap.objs.size := by
      obtain ⟨o, ho, _⟩ := p'
      exact Heap.lt_size ho
    refine enum1_call (begins_tuple a its.toArray) p' fun h' he hit hk => wpAny_pyIter_enum he ?_
    have I2 : Inv X pins σ H1 { s1 with heap := h' } := I1.kept (t' := s1.toks) hk
    have n1 : s1.heap.objs.size + 1 ≠ s1.heap.objs.size := Nat.succ_ne_self _
    refine ⟨s1.heap.objs.size + 1, [s1.heap.objs.size + 1, s1.heap.objs.size], _, _, H1, rfl, I2, turn_enumT a (s1.heap.objs.size + 1) s1.heap.objs.size, ⟨⟨.none, he⟩, ⟨_, hit, rfl, rfl⟩, n1, Nat.ne_of_lt hat, Nat.ne_of_lt (Nat.lt_succ_of_lt hat)⟩, fun b hb => ?_, q⟩
    have hle : s1.heap.objs.size ≤ b := by
      rcases (by simpa using hb : b = s1.heap.objs.size + 1 ∨ b = s1.heap.objs.size) with rfl | rfl
      · exact Nat.le_succ _
      · exact Nat.le_refl _
    exact I1.fpOk hle (I1.hok.fresh hle)
theorem piEnum {K : PySem.W.Frag} {e : Expr} {ta : TA} {p pos tpos : Pos} {elts : List Expr} {kk : Nat} (hg : Gl X "enumerate") (hm : X.mg "enumerate" = none) (ha : PA X [e] ta) (hs : starEach [e] X.env = [(false, eval e X.env)] := by rfl) (hK : X.K = K := by rfl) :
    PI X (.Tuple elts kk tpos) (.Call (.Name "enumerate" p) [e] [] pos) (iEnumA K ta) := ⟨fun pins s σ H R I h => by
  subst hK
  rcases h with h | h
  · exact (pi_enum hg hm ha hs).run pins s σ H R I h
  · exact (pi_enumT hg hm ha hs).run pins s σ H R I h⟩
end
section
variable {K : PySem.W.Frag} {ρ : List En} {R R1 : List Ow}
theorem walk_enumT {a : Addr} {xs : List V} : L2.Walk (IteT K a) xs.length (fun H => SqT K H a xs) (YPair (fun i => some (.int (i : Nat))) (fun i => xs[i]?)) := by
  refine ⟨fun i H hi q => ⟨xs, xs[i], q, List.getElem?_eq_getElem hi⟩, fun H q => ⟨xs, q, Nat.le_refl _⟩, fun i H x H' hi q y => ?_⟩
  obtain ⟨T, z, h1, h2, h3, h4⟩ := y
  exact ⟨T, _, z, h1, h2, h3, rfl, h4 _ q⟩
theorem ei_enumT {ts : TA} {xs : List PyData} (h : Ea K ts ρ R [.d (.tuple xs)] R1) : Ei K (iEnumA K ts) ρ R (prs (rngD 0 xs.length) xs) R1 := fun R0 F H σ S A Q q => .inr (h R0 F H σ S A _ fun vs F1 H1 x1 A1 e1 => by
    obtain ⟨v, rfl, e2⟩ := ens1 e1
    obtain ⟨a, ws, rfl, a1, a2⟩ := Dt.tupD e2
    refine ⟨_, _, rfl, ex_t A1.ex a1, q _ F1 H1 x1 A1 ?_⟩
    refine wk_pair (by rw [prs_len, rngD_len, ← a2.len]; omega) (walk_enumT (K := K)) (fun F2 R H x A => ex_t A.ex (ex_t x a1)) ?_ ?_
    · intro i d F2 x hd v hv
      have hi : i < xs.length := by
        have := (List.getElem?_eq_some_iff.mp hd).1
        rwa [rngD_len] at this
      rw [rngD_get hi] at hd
      cases hd; cases hv
      rw [Int.zero_add]; exact .int _
    · intro i d F2 x hd v hv
      obtain ⟨w, h1, h2⟩ := (a2.mono x).get hd
      rw [hv] at h1; cases h1; exact h2)
theorem ei_enumL {ts : TA} {xs : List PyData} (h : Ea K ts ρ R [.d (.list xs)] R1) : Ei K (iEnumA K ts) ρ R (prs (rngD 0 xs.length) xs) R1 := fun R0 F H σ S A Q q => .inl (ei_enum h R0 F H σ S A Q q)
theorem prs_get {xs ys : List PyData} {i : Nat} {d : PyData} (h : (prs xs ys)[i]? = some d) : ∃ a b, xs[i]? = some a ∧ ys[i]? = some b ∧ d = .tuple [a, b] := by
  unfold prs at h
  rw [List.getElem?_zipWith] at h
  cases hp : xs[i]? with
  | none => rw [hp] at h; simp at h
  | some p =>
    cases hq : ys[i]? with
    | none => rw [hp, hq] at h; simp at h
    | some q => rw [hp, hq] at h; simp at h; exact ⟨p, q, rfl, rfl, h.symm⟩
end
end Fx

namespace FxE
open PySem PySem.W PySem.Calls PyProof.Rows PySem.HandSPX Builtin Builtin.ObjectAttr
/-- own classes, then what Exception is made of -/
def tailE : List Value → Bool
  | .ref _ :: r => tailE r
  | l => l == [.type "Exception", .type "BaseException", .type "object"]
theorem tailE_of {P : List Value → Prop} (h0 : P [.type "Exception", .type "BaseException", .type "object"]) (hc : ∀ a r, P r → P (.ref a :: r)) : ∀ l, tailE l = true → P l
  | [], e => absurd e (by decide)
  | a :: r, e => by
    by_cases h : ∃ c, a = .ref c
    · obtain ⟨c, rfl⟩ := h
      exact hc c r (tailE_of h0 hc r e)
    · have : tailE (a :: r) = (a :: r == [.type "Exception", .type "BaseException", .type "object"]) := by
        cases a with
        | ref c => exact absurd ⟨c, rfl⟩ h
        | _ => rfl
      rw [this] at e
      rw [beq_iff_eq.mp e]
      exact h0
theorem tailE_pass (l : List Value) (e : tailE l = true) (me : Value) : refuseLoop me "__setattr__" l = pure () :=
  tailE_of (P := fun l => refuseLoop me "__setattr__" l = pure ()) (F.store_Exception.passes me) (fun a r h => by rw [refuseLoop_ref]; exact h) l e
theorem tailE_contains (X : String) (l : List Value) (e : tailE l = true) : l.contains (.type X) = ([.type "Exception", .type "BaseException", .type "object"] : List Value).contains (.type X) :=
  tailE_of (P := fun l => l.contains (.type X) = ([.type "Exception", .type "BaseException", .type "object"] : List Value).contains (.type X)) rfl (fun a r h => by rw [List.contains_cons, h]; rfl) l e
theorem tailE_obj (l : List Value) (e : tailE l = true) : l.contains (.type "object") = true := (tailE_contains "object" l e).trans (by decide +kernel)
section
variable {prog : Program} {w : World} {A : Around} {R : Result → Shared → Prop} {hp : Heap} {g : Array GenState} {d : Drawn} {t : Nat} {os : OsState}
/-- a field is laid in an error that has none yet -/
theorem laid {K : Frag} {nm : Str} {tk : Tok} {v : Value} {x C : Addr} {fs : Array Value} {cd : ClassData}
    (X : K.In hp) (hx : hp.get? x = some { cls := .ref C, data := .fields fs }) (hcd : clsIn K C = some cd) (hp1 : ∀ me, refuseLoop me "__setattr__" cd.mro = pure ()) (hob : cd.mro.contains (.type "object") = true) (hne : cd.mro.isEmpty = false)
    (hh : cd.hasDict = true) (ha : findIn K (.ref C) nm = some none)
    (kont : ∀ h' tk' dx, (∀ b o, b ≠ x → hp.get? b = some o → h'.get? b = some o) → hp.objs.size ≤ dx → dx ≠ x → h'.get? x = some { cls := .ref C, dict := some dx, data := .fields fs } →
      h'.Ns1 dx (fun y => if y = nm then some v else none) → R (.ok (.ret .none)) ⟨h', g, d, tk', os⟩) :
    codeAny (model prog w) A (.call (.builtin "object.__setattr__") ⟨[.ref x, .str nm tk, v], []⟩) R ⟨hp, g, d, t, os⟩ := by
  have inst : InstAt hp x { cls := .ref C, data := .fields fs } C none := ⟨hx, rfl, rfl, trivial⟩
  have apart : x ≠ hp.objs.size := fun z => Nat.lt_irrefl _ (Nat.lt_of_lt_of_eq (Heap.lt_size hx) z.symm)
  have isO : Looks (model prog w) hp (isInstance (.ref x) (.type "object")) true := inst.type.andThen <| looks_mroIn X <| by
    unfold mroIn
    rw [hcd, Option.bind_some, if_neg (by rw [hne]; exact Bool.false_ne_true), hob]
  have chain : Looks (model prog w) hp (mroOf (.ref C)) cd.mro := (looks_clsIn X hcd).andThen .now
  have nobody : Looks (model prog w) hp (storeTaker? none) none := .now
  have itsCls : Looks (model prog w) hp (classData C) cd := looks_clsIn X hcd
  refine codeAny_call_builtin F.store_object.slot.plain F.store_object.entry ?_
  refine @check_slot (model prog w) _ _ ⟨hp, g, d, t, os⟩ "object.__setattr__" "object" "__setattr__" (.ref x) [.str nm tk, v] [] _ F.store_object.kind F.store_object.split isO (F.store_object.args (.ref x) (.str nm tk) v) ?_
  rw [osa_eq, refuse_eq]
  refine wpAny_bind (wpAny_bind (inst.type.at (wpAny_bind (chain.at ?_))))
  rw [hp1]
  refine wpAny_pure (wpAny_bind (inst.type.at (wpAny_bind ((looks_findIn X ha).at (wpAny_bind (nobody.at ?_))))))
  show wpAny _ _ (storeInOwnDict (.ref x) (.ref C) (.str nm tk) nm v false) _ _ _
  obtain ⟨c1, c2, c3, c4, c5, hd, c6, c7, c8, c9, c10⟩ := cd
  change hd = true at hh
  subst hh
  unfold storeInOwnDict ownDictForStores
  repeat (first | with_reducible refine store_in_new ?_ ?_ | with_reducible refine wpAny_loadPart_at hx ?_ | with_reducible refine itsCls.at ?_ | wp_step)
  case _ => exact ⟨_, #[], _, (Heap.get?_update_ne _ _ _ _ apart.symm).trans (Heap.get?_push_at rfl rfl), rfl, fun e he => absurd he (by simp), fun _ => rfl⟩
  case _ =>
    intro h' tk' hns hsame
    refine kont h' tk' hp.objs.size (fun b o hb ho => ?_) (Nat.le_refl _) apart.symm ?_ hns
    · rw [hsame.2 b (fun z => Nat.lt_irrefl _ (Nat.lt_of_lt_of_eq (Heap.lt_size ho) z.symm)), Heap.get?_update_ne _ _ _ _ hb]
      exact Heap.get?_push_of_some _ ho
    · rw [hsame.2 x apart]
      exact Heap.get?_update_self _ (Heap.get?_push_of_some _ hx) rfl
end
end FxE
namespace PySem
namespace LowX
open PySem.W PySem.Calls PyProof.Rows PySem.HandSPX
/-! ### the text of __init__ -/
def iA (p1 p2 : Pos) : Arguments := { posonlyargs := [], args := [{ arg := "self", annotation := none, pos := p1 }, { arg := "word", annotation := none, pos := p2 }], vararg := none, kwonlyargs := [], kw_defaults := [], kwarg := none, defaults := [] }
def iB (q1 q2 q3 q4 : Pos) : List Stmt := [.Assign [.Attribute (.Name "self" q1) "word" q2] (.Name "word" q3) q4]
def iS : Scope := { kind := .function, names := [(PySem.Str.ofString "self", .local), (PySem.Str.ofString "word", .local)], isGenerator := false, isCoroutine := false, more := [] }
/-- what the written part says of Low, at C, and of its __init__, at fI -/
structure LowTxt (K : Frag) (mg : Str → Option Value) (C fI : Addr) : Prop where
  gC : mg "InvalidSize" = some (.ref C)
  cls : ∃ nm q N bs bm sn sub ab col dd k0 k1 k2 k3 k5, K.lookup C = some (excClassObj nm q C N bs bm true sn sub ab col dd k0 k1 k2 k3 k5 "Exception.__new__") ∧ FxE.tailE bm = true
  sa : findIn K (.ref C) "__setattr__" = some (some (.builtin "object.__setattr__"))
  ga : findIn K (.ref C) "__getattribute__" = some (some (.builtin "BaseException.__getattribute__"))
  gg : findIn K (.ref C) "__getattr__" = some none
  noN : findIn K (.ref C) "word" = some none
  iC : findIn K (.ref C) "__init__" = some (some (.ref fI))
  tC : typeIn K (.ref fI) = some (.type "function")
  kC : keepIn K (.ref C) = true
  exC : subIn K (.ref C) (.type "BaseException") = some true
  tyC : typeIn K (.ref C) = some (.type "type")
  hdC : hasDictIn K C = true
  te : exmOne K (.ref C) (.ref C) = some true
  fn : ∃ (oc : Value) (od : Option Addr) (doc pm : Value) (an : Option Addr) (cdv ct : Value) (osl : Array (Option Value)) (p1 p2 q1 q2 q3 q4 : Pos),
    K.lookup fI = some ⟨oc, od, .func (fnOf "__init__" "InvalidSize.__init__" (iA p1 p2) (iB q1 q2 q3 q4) iS .none .none doc pm an cdv ct), osl⟩ ∧ codeIn K cdv "InvalidSize.__init__" = true
theorem one_size (v : Value) : [v].length ≤ sizeLine := by
  rw [sizeLine_eq]
  exact (by decide : 1 ≤ 16777216)
theorem kept_but {K : Frag} {h h' : Heap} {x : Addr} (X : K.In h) (hx : K.lookup x = none) (k : ∀ b o, b ≠ x → h.get? b = some o → h'.get? b = some o) : K.In h' := fun a o e =>
  k a o (fun z => by rw [z, hx] at e; cases e) (X a o e)
theorem ldC {M : Model} {s : Shared} {name : Str} {scope : Scope} {L a : Addr} {cd : Value} {m : Str → Option Value} {x : Str} {pos : Pos} {v : Value} {Q : Value → Shared → Prop} {A : Around} {E : Value → Shared → Prop} (hn : s.heap.Ns L m) (hv : m x = some v) (h : Q v s)
    (hk : scope.kind = .function := by rfl) (hl : (envOfC name scope L a cd).kindOf x = some .local := by rfl) (hd : (x == ("__debug__" : Str)) = false := by decide) :
    wpAny M A (eval (.Name x pos) (envOfC name scope L a cd)) Q E s := wpAny_Name (wpAny_loadName_local hk hl hn hv h) hd
/-- what __init__ leaves of a fresh exception at x -/
structure InitEnd (h h' : Heap) (x C dx t1 : Addr) (v : Value) : Prop where
  keep : ∀ b o, b ≠ x → h.get? b = some o → h'.get? b = some o
  obj : h'.get? x = some { cls := .ref C, dict := some dx, data := .fields #[.ref t1, .none, .none, .none, .bool false, .none] }
  dbig : h.objs.size ≤ dx
  dne : dx ≠ x
  ns : h'.Ns1 dx (fun y => if y = "word" then some v else none)
/-- a made Low -/
structure OwnMade (h h' : Heap) (e C d : Addr) (v : Value) : Prop where
  keep : ∀ b o, h.get? b = some o → h'.get? b = some o
  new : h.objs.size ≤ e
  obj : ∃ oe vs, h'.get? e = some oe ∧ oe.cls = .ref C ∧ oe.dict = some d ∧ oe.data = .fields vs ∧ vs[1]? = some .none
  dbig : h.objs.size ≤ d
  dne : d ≠ e
  ns : h'.Ns1 d (fun y => if y = "word" then some v else none)
section
variable {prog : Program} {w : World} {A : Around} {E : Value → Shared → Prop} {R : Result → Shared → Prop} {s : Shared} {K : Frag} {mg : Str → Option Value} {C fI : Addr}
theorem low_init (T : LowTxt K mg C fI) {x t0 : Addr} {v : Value} (X : K.In s.heap) (hlim : s.heap.NoLimit) (hx : s.heap.get? x = some (excO C t0)) (hnx : K.lookup x = none) (hroom : A.depth < recursionLimit)
    (hq : ∀ h' tk dx, InitEnd s.heap h' x C dx t0 v → R (.ok (.ret .none)) { s with heap := h', toks := tk }) :
    codeAny (model prog w) A (.call (.ref fI) ⟨[.ref x, v], []⟩) R s := by
  obtain ⟨oc, od, doc, pm, an, cdv, ct, osl, p1, p2, q1, q2, q3, q4, ho, hcd⟩ := T.fn
  obtain ⟨nm, q, N, bs, bm, sn, sub, ab, col, dd, k0, k1, k2, k3, k5, hC, hbm⟩ := T.cls
  have hcl : clsIn K C = some { name := nm, bases := bs, mro := .ref C :: bm, ns := N, qualname := q, hasDict := true, slotNames := sn, subclasses := sub, abstract := ab, collection := col, hasDel := false } := by unfold clsIn; rw [hC] <;> rfl
  refine Att.call_fn (binds := [("self", .ref x), ("word", v)]) X hlim ho hcd hroom (BindsTo.of_eq (by first | rfl | with_unfolding_all rfl)) (by first | rfl | decide | with_unfolding_all rfl) (fun s₁ IC => ?_) rfl rfl rfl
  obtain ⟨h₁, tk₁, rfl⟩ := IC.toInCall.same
  have k : ∀ b o, s.heap.get? b = some o → h₁.get? b = some o := IC.toInCall.keep
  have hn := IC.toInCall.ns
  have hxL : s.heap.objs.size ≠ x := Nat.ne_of_gt (Heap.lt_size hx)
  have X₁ : K.In h₁ := X.keeps k
  have hx₁ := k _ _ hx
  -- self.by = by
  show wpAny _ _ (execs _ _) _ _ _
  refine wpAny_execs_cons (plainObj_wpAny_Assign_Attribute ?_)
  refine ldC (v := v) hn (by first | rfl | with_unfolding_all rfl | kernel_rfl) (ldC (v := .ref x) hn (by first | rfl | with_unfolding_all rfl | kernel_rfl) ?_)
  refine set_plain X₁ (ox := excO C t0) (od := none) ⟨hx₁, rfl, rfl, trivial⟩ T.sa ?_
  refine FxE.laid X₁ hx₁ hcl (FxE.tailE_pass (.ref C :: bm) hbm) (FxE.tailE_obj (.ref C :: bm) hbm) (by rfl) rfl T.noN (fun h₃ tk₃ dx k₃ dn dne hx₃ hn₃ => ?_)
  show wpAny _ _ (execs _ _) _ _ _
  have z : s.heap.objs.size < h₁.objs.size := hn.lt
  exact wpAny_execs_nil (hq h₃ tk₃ dx ⟨fun b o hb e => k₃ b o hb (k b o e), hx₃, Nat.le_of_lt (Nat.lt_of_lt_of_le z dn), dne, hn₃⟩)
theorem low_made (T : LowTxt K mg C fI) {v : Value} (X : K.In s.heap) (hlim : s.heap.NoLimit) (hroom : A.depth + 1 < recursionLimit)
    (hq : ∀ h' tk e d, OwnMade s.heap h' e C d v → R (.ok (.ret (.ref e))) { s with heap := h', toks := tk }) :
    codeAny (model prog w) A (.call (.ref C) ⟨[v], []⟩) R s := by
  obtain ⟨nm, q, N, bs, bm, sn, sub, ab, col, dd, k0, k1, k2, k3, k5, hC, hbm⟩ := T.cls
  obtain ⟨hp, g, dr, tk, os⟩ := s
  have k : ∀ b o, hp.get? b = some o → ((hp.push (kdv_tup [v])).push (excO C hp.objs.size)).get? b = some o := fun b o e => Heap.get?_push_of_some _ (Heap.get?_push_of_some _ e)
  have hget : ((hp.push (kdv_tup [v])).push (excO C hp.objs.size)).get? (hp.objs.size + 1) = some (excO C hp.objs.size) := by heap_get
  have hnx : K.lookup (hp.objs.size + 1) = none := by
    cases e : K.lookup (hp.objs.size + 1) with
    | none => rfl
    | some o =>
      have z : hp.get? (hp.objs.size + 1) = some o := X _ _ e
      exact absurd (Nat.lt_of_succ_lt (Heap.lt_size z)) (Nat.lt_irrefl _)
  refine call_own F.excBase_Exception (fun X => FxE.tailE_contains X bm hbm) (X _ _ hC) (looks_findIn X T.iC) (fun self => bind_fn X self T.tC) (one_size v) ?_
  refine low_init (s := ⟨(hp.push (kdv_tup [v])).push (excO C hp.objs.size), g, dr, tk, os⟩) T (X.keeps k) (hlim.keeps k) hget hnx ?_ fun h' tk' dx ⟨k', hx, dn, dne, hns⟩ => ?_
  · show A.depth + 1 < recursionLimit
    exact hroom
  · have old : ∀ b o, hp.get? b = some o → h'.get? b = some o := fun b o e => k' b o (Nat.ne_of_lt (Nat.lt_succ_of_lt (Heap.lt_size e))) (k b o e)
    have z : hp.objs.size + 1 + 1 ≤ dx := by
      first
        | (simpa only [Heap.size_push] using dn)
        | exact dn
        | (have q := dn; rw [Heap.size_push, Heap.size_push] at q; exact q)
    exact ⟨rfl, hq h' tk' (hp.objs.size + 1) dx ⟨old, Nat.le_succ _, ⟨_, _, hx, rfl, rfl, rfl, rfl⟩, Nat.le_trans (Nat.le_trans (Nat.le_succ _) (Nat.le_succ _)) z, dne, hns⟩⟩
end
end LowX
end PySem
namespace L2
open PySem PySem.Spec PyProof.Rows
theorem relO_low {v : V} {v' : Value} (r : RelV v v') (f : Str) : RelO (List.lookup f [(("word" : Str), v)]) (if f = "word" then some v' else none) := by
  by_cases hw : f = "word"
  · subst hw
    rw [if_pos rfl]
    have q : List.lookup ("word" : Str) [(("word" : Str), v)] = some v := by simp [List.lookup]
    rw [q]
    exact r
  · rw [if_neg hw]
    have qw : (f == ("word" : Str)) = false := by simpa using hw
    have q2 : List.lookup f [(("word" : Str), v)] = none := by simp [List.lookup, qw]
    rw [q2]
    trivial
section
variable {X : Cx} {C fI : Addr}
/-- Low(e) -/
def tMkLow (C : Addr) (ta : TA) : St → Hp → XK → Prop := fun σ H Q => ta σ H fun vs H1 => ∃ v, vs = [v] ∧ ∀ d, H1 d = none → Q (.ref C) (some d) (upd H1 d (.xd [(("word" : Str), v)]))
theorem pmk_low {a : Expr} {ta : TA} {p pos : Pos} {k : Nat} (T : PySem.LowX.LowTxt X.K X.mg C fI) (hr : Room k X.A) (ha : PA X [a] ta) (hg : Gl X "InvalidSize" := by rfl)
    (he : starEach (a :: []) X.env = (false, eval a X.env) :: starEach [] X.env := by rfl) (hpl : (backTo pos (starEach [] X.env)).any (·.1) = false := by rfl) :
    PMk X (.Call (.Name "InvalidSize" p) [a] [] pos) (tMkLow C ta) := by
  intro pins s σ H Q I h
  refine wpAny_Call_Name_kw (ld_glob I hg T.gC ?_)
  refine PySem.W.callWith_K (h₀ := X.base) I.ok.mod.kin T.kC (thn (ha.run pos pins s σ H _ I h) fun us s1 hh => ?_) he hpl
  obtain ⟨vs, H1, I1, r1, v, ev, q1⟩ := hh
  subst ev
  refine ⟨I1.kIn, ?_⟩
  cases r1 with
  | cons rv rn =>
    rename_i v' us'
    cases rn
    show wpAny _ _ (call (.ref C) [v']) _ _ _
    have hlim := I1.nolimit
    obtain ⟨hp, g, dr, tk, os⟩ := s1
    refine wpAny_call (PySem.LowX.low_made T I1.kIn hlim (by have := hr.dp; omega) fun h' tk' e d M => ?_)
    show MkP X pins σ Q (.ref e) ⟨h', g, dr, tk', os⟩
    obtain ⟨oe, fv, hoe, hc, hd, hdat, h1⟩ := M.obj
    have hns := M.ns
    obtain ⟨G', g1, g2⟩ := restrict h' fun b => decide (b ≠ e)
    have gk : ∀ b, b ≠ e → G'.get? b = h'.get? b := fun b hb => g1 b (decide_eq_true hb)
    have ge : G'.get? e = none := g2 e (by simp)
    have old : ∀ b o, hp.get? b = some o → G'.get? b = some o := fun b o q => (gk b (Nat.ne_of_lt (Nat.lt_of_lt_of_le (Heap.lt_size q) M.new))).trans (M.keep b o q)
    have ob : ObjOk X.prog X.w (upd H1 d (.xd [(("word" : Str), v)])) G' d (.xd [(("word" : Str), v)]) :=
      ⟨_, hns.at (fun o q => (gk d M.dne).trans q), fun f => relO_low rv f⟩
    have J : Inv X pins σ (upd H1 d (.xd [(("word" : Str), v)])) ⟨G', g, dr, tk', os⟩ := I1.laid (t' := tk') old M.dbig ob
    refine ⟨e, oe, fv, ⟨G', g, dr, tk', os⟩, _, .ref C, some d, rfl, J, fun b o q => ?_, ge, hoe, ⟨hc, hd⟩, hdat, h1, ?_, rfl, I1.bare, raises_own T.exC T.tyC, q1 d (I1.hok.fresh M.dbig)⟩
    · by_cases hb : b = e
      · have q' : G'.get? b = some o := q
        rw [hb, ge] at q'; cases q'
      · exact (gk b hb).symm.trans q
    · rw [upd_ne (Ne.symm M.dne)]
      exact I1.hok.fresh M.new
/-- raise Low(e) -/
def tRaiseLow (C : Addr) (W : WX) (ta : TA) : TS := fun _ σ H => tMkLow C ta σ H fun cls d H' => W cls d σ H'
theorem ps_raiseLow {a : Expr} {ta : TA} {W : WX} {p pos pos2 : Pos} {k : Nat} (hc : X.calm = true) (T : PySem.LowX.LowTxt X.K X.mg C fI) (hr : Room k X.A) (tk : Takes X W) (ha : PA X [a] ta) (hg : Gl X "InvalidSize" := by rfl)
    (he : starEach (a :: []) X.env = (false, eval a X.env) :: starEach [] X.env := by rfl) (hpl : (backTo pos (starEach [] X.env)).any (·.1) = false := by rfl) :
    PS X (.Raise (some (.Call (.Name "InvalidSize" p) [a] [] pos)) none pos2) (tRaiseLow C W ta) := ps_raise hc tk (pmk_low T hr ha hg he hpl)
/-- low.by, low the exception that the suite holds (at a; its class cls, its dict d) -/
def tByLow (C : Addr) (a : Addr) (cls : Value) (d : Option Addr) (te : TE) : TE := fun σ H Q => te σ H fun x H1 => x = .ref a ∧ cls = .ref C ∧ ∃ (dd : Addr) (v : V), d = some dd ∧ H1 dd = some (.xd [(("word" : Str), v)]) ∧ Q v H1
theorem pe_byLow {a : Addr} {oe : Obj} {cls : Value} {d : Option Addr} {pn : List (Addr × Obj)} {e : Expr} {te : TE} {pos : Pos} (T : PySem.LowX.LowTxt X.K X.mg C fI) (hz : Zc cls d oe) (hf : ∃ vs, oe.data = .fields vs) (he : PE (X.suite a ((a, oe) :: pn)) e te)
    (hb : attributeBase e "word" X.env (eval e X.env) = eval e X.env := by rfl) :
    PE (X.suite a ((a, oe) :: pn)) (.Attribute e "word" pos) (tByLow C a cls d te) := by
  refine ⟨fun pins s σ H Q I h => ?_⟩
  refine attr_of hb (thn (he.run pins s σ H _ I h) fun u s1 hh => ?_)
  obtain ⟨x, H1, I1, rx, ex, ec, dd, v, ed, ea, q⟩ := hh
  subst ex
  obtain rfl : u = Value.ref a := rx
  subst ec
  subst ed
  obtain ⟨ha, _⟩ := I1.pin (a, oe) (List.mem_append_left _ List.mem_cons_self)
  obtain ⟨vs, hd⟩ := hf
  have hx : ObjOk X.prog X.w H1 s1.heap dd (.xd [(("word" : Str), v)]) := I1.hok dd _ ea
  obtain ⟨mA, hns, hr⟩ := hx
  obtain ⟨od, ho, hl⟩ := lookIn_ns hns
  have l : List.lookup ("word" : Str) [(("word" : Str), v)] = some v := by simp [List.lookup]
  obtain ⟨u, hu, ru⟩ := RelO.some_of (v := v) (o := mA "word") (by rw [← l]; exact hr "word")
  have J : PySem.W.InstAt s1.heap a oe C (some od) := ⟨ha, hz.1, by unfold PySem.W.notCls; rw [hd] <;> rfl, by rw [hz.2]; exact ho⟩
  exact HandSPX.exc_get I1.kIn J T.ga T.gg T.exC (PySem.W.findObj_own T.hdC T.noN rfl (by rw [hl, hu])) (handed_of ru) ⟨v, H1, I1.tok _, ru, q⟩
end
end L2


namespace Fx
open PySem PySem.Spec PyProof.Rows L2
section
variable {X : Cx} {CX : CXT} {k : Nat} {f : Addr} {fd : FuncData} {ps ks : List Str} {sp : Sp} {E : L2.St → XK} {x : Str} {p pos : Pos} {tk : TA} {kws : List Keyword}
  {g : List Value → List Value → List Value} {gV : List V → List V → List V}
def tCallKOS (sp : Sp) (gV : List V → List V → List V) (E : L2.St → XK) (tk : TA) : TE := fun σ H Q => tk σ H fun zs H2 => sp (gV [] zs) H2 Q (E σ)
/-- a call by names alone of a def that may raise -/
theorem pe_callKOS (F : FnOk X.prog X.w X.K X.mg X.base CX k f fd ps sp) (hr : Room k X.A) (hg : Gl X x) (hm : X.mg x = some (.ref f)) (hk : PySem.W.keepIn X.K (.ref f) = true) (hb : KBinds X.K fd ps ks g gV) (hx : ∀ σ, PassesAt CX X σ (E σ))
    (hkw : PK X kws tk) (hall : (backToKw pos (keywordEach kws X.env)).all (·.1.isSome) = true := by rfl) (hks : (backToKw pos (keywordEach kws X.env)).filterMap (·.1) = ks := by rfl)
    (hdb : (x == ("__debug__" : Str)) = false := by decide) (hpl : ((backTo pos (starEach [] X.env)).any (·.1) || (backToKw pos (keywordEach kws X.env)).any (·.1.isNone)) = false := by rfl) :
    PE X (.Call (.Name x p) [] kws pos) (tCallKOS sp gV E tk) := by
  constructor
  intro pins s σ H Q I h
  apply wpAny_Call_Name_kw
  apply ld_glob I hg hm (hd := hdb)
  apply PySem.W.callWith_KW0 (h₀ := X.base) I.ok.mod.kin hk hall (hplain := hpl)
  refine thn (hkw.run pos pins s σ H _ I h) ?_
  rintro ws s2 ⟨zs, H2, I2, rz, q2⟩
  refine ⟨I2.kIn, ?_⟩
  rw [hks]
  have r2 := hb.rel .nil rz
  have hl : (g [] ws).length = ps.length := by rw [← r2.length]; exact F.len _ _ _ _ q2
  refine wpAny_call (codeAny_mono (F.run X.A X.stack s2 H2 ⟨[], ks.zip ws⟩ (g [] ws) (gV [] zs) Q (E σ) hr I2.env0 (hb.to s2 [] ws I2.kIn hl) r2 q2) ?_)
  rintro (e | (u | _ | _ | _)) s' hq
  · exact hx σ pins H2 s2 e s' I2 hq
  all_goals first | exact I2.after hq | exact hq.elim
/-- an if, told of the heap -/
theorem if_raw {K : PySem.W.Frag} {t : TT} {ts us : TS} {ρ : List En} {R R1 R0 : List Ow} {b : Bool} {F H : Hp} {σ : L2.St} {D : Ends} (h : Et K t ρ R b R1) (S : Sls K F σ ρ) (A : At K F (R ++ R0) H)
    (kk : ∀ F1 H1, Ex F F1 → At K F1 (R1 ++ R0) H1 → if b = true then ts D σ H1 else us D σ H1) : tIfS t ts us D σ H := h R0 F H σ S A _ kk
theorem retKOS_raw {K : PySem.W.Frag} {sp : Sp} {E : L2.St → XK} {tk : TA} {gV : List V → List V → List V} {ρ : List En} {R R1 R0 : List Ow} {es : List En} {F H : Hp} {σ : L2.St} {D : Ends} (h : Ea K tk ρ R es R1) (S : Sls K F σ ρ) (A : At K F (R ++ R0) H)
    (kk : ∀ vs F1 H1, Ex F F1 → At K F1 (R1 ++ R0) H1 → Ens K F1 vs es → sp (gV [] vs) H1 D.rt (E σ)) : tRet (tCallKOS sp gV E tk) D σ H := h R0 F H σ S A _ kk
end
section
variable {K : PySem.W.Frag} {ρ : List En} {R R1 Rz R3 : List Ow} {te : TE}
theorem ev_x {i : Nat} {ds : List PyData} (h : ρ[i]? = some (.s ds)) : Ev K (tVar i) ρ R (.s ds) R := fun R0 F H σ S A Q q => by
  obtain ⟨s, h1, v, rfl, h2⟩ := S.get h
  exact ⟨v, h1, q v F H (Ex.refl F) A h2⟩
theorem ev_sS {t1 t2 : TO} {ds : List PyData} {lo hi : Option Int} (h : Ev K te ρ R (.s ds) R1) (h1 : Eo K t1 ρ R1 lo Rz) (h2 : Eo K t2 ρ Rz hi R3) : Ev K (tSl (rSlAny K) te t1 t2) ρ R (.d (.list (cutD ds lo hi))) R3 := fun R0 F H σ S A Q q =>
  h R0 F H σ S A _ fun v F1 H1 x1 A1 e1 => h1 R0 F1 H1 σ (S.mono x1) A1 _ fun F2 H2 x2 A2 => h2 R0 F2 H2 σ (S.mono (x1.trans x2)) A2 _ fun F3 H3 x3 A3 => by
    obtain ⟨a, ws, rfl, h4, h5⟩ := Seen.mono (x2.trans x3) e1
    refine .inl ⟨a, ws, rfl, ex_l A3.ex h4, fun p hp => ?_⟩
    obtain ⟨x, A4⟩ := A3.new (.lst (cutV ws lo hi)) hp
    exact q _ _ _ (x1.trans (x2.trans (x3.trans x))) A4 (.lst upd_same ((h5.mono x _).cut lo hi))
theorem At.ownR {F H : Hp} {p : Addr} {o : HO} (A : At K F R H) (hp : H p = none) : At K F (.rw p o :: R) (upd H p o) := by
  have old : ∀ r ∈ R, r.ad ≠ p := fun r hr e => by
    obtain ⟨o', ho⟩ := (A.own r hr).2.some
    rw [e, hp] at ho
    cases ho
  refine ⟨A.ex.side (fresh_back A.ex hp), ?_, fun r hr => ?_⟩
  · rw [List.map_cons, List.nodup_cons]
    refine ⟨fun hm => ?_, A.nd⟩
    obtain ⟨r, hr, e⟩ := List.mem_map.mp hm
    exact old r hr e
  · rcases List.mem_cons.mp hr with rfl | hr
    · exact ⟨fresh_back A.ex hp, upd_same⟩
    · exact ⟨(A.own r hr).1, (A.own r hr).2.mono (Ex.refl F) fun o' ho => by rw [upd_ne (old r hr)]; exact ho⟩
theorem Dts.rev {F : Hp} : ∀ {vs : List V} {ds : List PyData}, Dts K F vs ds → Dts K F vs.reverse ds.reverse
  | _, _, .nil => .nil
  | _, _, .cons a b => by
    rw [List.reverse_cons, List.reverse_cons]
    exact b.rev.append (.cons a .nil)
theorem es_retPair {t1 : TE} {ds : List PyData} {m : Int} {j : Nat} {P : Post} (h : Ev K t1 ρ R (.d (.list ds)) R1) (hj : ρ[j]? = some (.d (.int m))) (hn : ∀ aD aC, P.rt (.o aD) (.rw aD (.lst [.ref aC, .int m]) :: .ls aC ds.reverse :: R1)) :
    Es K (tRet (tLst (tCons (tRevL K t1) (tCons (tVar j) tNil)))) ρ R P := fun R0 F H σ D S A p =>
  h R0 F H σ S A _ fun v F1 H1 x1 A1 e1 => by
    obtain ⟨a, ws, rfl, h4, h5⟩ := Dt.listD e1
    refine ⟨a, ws, rfl, A1.sqL h4, fun aC hC => ?_⟩
    have h6 : Dts K F1 ws.reverse ds.reverse := Dts.rev h5
    have A2 := A1.own1 hC h6
    obtain ⟨s, h7, u, rfl, h8⟩ := (S.mono x1).get hj
    cases h8
    refine ⟨_, h7, by show 2 ≤ sizeLine; decide, fun aD hD => ?_⟩
    have A3 := A2.ownR (o := .lst [.ref aC, .int m]) hD
    exact p.rt (.o aD) _ _ F1 _ (hn aD aC) x1 rfl A3
end
end Fx

namespace Fx
open PySem PySem.Spec PyProof.Rows L2
section
variable {CX : CXT} {P : Program} {w : World} {K : PySem.W.Frag} {mg mb : Str → Option Value} {base : Heap}
/-- a def called at one place: what stands around is known -/
theorem fn_at {k : Nat} {f : Addr} {name qual : Str} {params : Arguments} {body : List Stmt} {scope : Scope} {dV kV doc pm cdv ct oc : Value} {an od : Option Addr} {osl : Array (Option Value)} {N ps : List Str}
    {A : Around} {outer : List Env} {s : Shared} {H : Hp} {args : Args} {us : List Value} {vs : List V} {Q : VK} {E : XK}
    (lk : K.lookup f = some ⟨oc, od, .func (PySem.W.fnOf name qual params body scope dV kV doc pm an cdv ct), osl⟩) (hcd : PySem.W.codeIn K cdv qual = true) (Sc : FnScope N ps scope)
    (hr : Room (k + 1) A) (e0 : Env0 P w K mg base A outer s H) (hb : BindsTo s (PySem.W.fnOf name qual params body scope dV kV doc pm an cdv ct) args (ps.zip us)) (rv : Vals vs us) (hl : vs.length = ps.length)
    (hbody : ∃ t, PSs (cxOf CX P w K mg base N qual scope f cdv A outer s H E) body t ∧ t { nx := fun _ H' => Q .non H', rt := Q } (start N vs) H) :
    codeAny (model P w) A (.call (.ref f) args) (CR CX outer P w H s Q E) s := by
  obtain ⟨t, ht, hq⟩ := hbody
  have stays : ∀ b o, base.get? b = some o → s.heap.get? b = some o := fun b o e => (e0.bs b o e).1
  have KX : K.In s.heap := e0.mod.kin.keeps stays
  refine codeAny_call_function hr.depth (KX _ _ lk) rfl Sc.co Sc.gen rfl (PySem.W.codeRec_of KX hcd) (hb _ _ _ _ ?_)
  refine wpAny_newFunctionEnv_cells Sc.kind ?_ ?_
  · rintro ⟨n, v⟩ hy
    exact (Sc.par n (List.of_mem_zip hy).1).imp id fun q => ⟨q, PySem.W.cellsFrom_some _ _ _ (.inl q)⟩
  · rintro env he s1 x
    subst he
    refine ⟨(e0.mod.nolimit.keeps stays).keeps x.toInCall.keep, codeAny_func ?_⟩
    have I := inv_start (CX := CX) (E := E) Sc hr.hd e0 hl rv x
    refine wpAny_mono (ht.run [] s1 (start N vs) H _ I hq) ?_ fun _ _ h => h
    rintro fl s' hs
    cases fl with
    | next => obtain ⟨_, H', J, q⟩ := hs; exact (⟨.non, H', J.os, J.bare, J.base, J.hok, rfl, q⟩ : CE outer P w H s Q .none s')
    | ret u => obtain ⟨v, _, H', J, rel, q⟩ := hs; exact (⟨v, H', J.os, J.bare, J.base, J.hok, rel, q⟩ : CE outer P w H s Q u s')
    | brk => obtain ⟨_, _, _, q⟩ := hs; exact q.elim
    | cont => obtain ⟨_, _, _, q⟩ := hs; exact q.elim

/-- what the law's call is to give -/
def Gives (s₁ : Shared) (r : Result) (s' : Shared) : Prop := r = .ok (.ret (.bool true)) ∧ OldK s₁.heap s'.heap ∧ s'.os = s₁.os ∧ AllBare s'.gens
/-- the call of the law, told at one place -/
def Runs (P : Program) (w : World) (K : PySem.W.Frag) (mg : Str → Option Value) (fa a : Addr) (s₁ : Shared) (ns : List Int) : Prop :=
  ∀ (base : Heap) (H : Hp), K.In base → base.Ns mainGlobals mg → SqL K H a (ns.map V.int) → Env0 P w K mg base callerA [] s₁ H →
    codeAny (model P w) callerA (.call (.ref fa) ⟨[.ref a], []⟩) (CR CX0 [] P w H s₁ (fun v _ => v = .bl true) E0) s₁
theorem go_core {fa a : Addr} {s₁ : Shared} {vs : List Value} {ns : List Int} {H : Hp} (KX : K.In s₁.heap) (hns : s₁.heap.Ns mainGlobals mg) (hb : s₁.heap.Ns builtinsNs mb) (hbb : ∀ x : Str, x ≠ "__name__" → mb x = bootBuiltins x)
    (hlim : s₁.heap.NoLimit) (hg : s₁.gens = #[]) (ha : s₁.heap.get? a = some { cls := .type "list", data := .seq vs.toArray }) (go : Runs P w K mg fa a s₁ ns)
    (hO : Only H) (hS : SqL K H a (ns.map V.int)) (hok : HOk P w H s₁.heap) (hA : ∀ b, H b ≠ none → b = a) (hK : H a ≠ none → K.lookup a = none) :
    codeAny (model P w) callerA (.call (.ref fa) ⟨[.ref a], []⟩) (Gives s₁) s₁ := by
  have off : ∀ {b : Addr}, b ≠ a → H b = none := fun {b} h => Classical.byContradiction fun z => h (hA b z)
  have dict_off : ∀ {b : Addr} {o : Obj} {es : Array DictEntry} {ep : Nat}, s₁.heap.get? b = some o → o.data = .dict es ep → H b = none := fun {b o es ep} e d => off fun z => by
    subst z
    rw [ha] at e
    cases e
    exact (nomatch d)
  have ns_hid : ∀ {b : Addr} {m : Str → Option Value}, s₁.heap.Ns b m → (hidT s₁.heap H).Ns b m := by
    rintro b m ⟨o, es, ep, e, d, r⟩
    exact ⟨o, es, ep, hidT_get e (dict_off e d), d, r⟩
  have kin : K.In (hidT s₁.heap H) := by
    intro b o e
    refine hidT_get (KX b o e) (Classical.byContradiction fun z => ?_)
    have h1 := hA b z
    subst h1
    rw [hK z] at e
    cases e
  obtain ⟨mc, l1, l2⟩ := hlim
  have e0 : Env0 P w K mg (hidT s₁.heap H) callerA [] s₁ H :=
    ⟨rfl, ⟨kin, ns_hid hns, ⟨mb, ns_hid hb, hbb⟩, ⟨mc, ns_hid l1, l2⟩⟩, fun b o e => of_hidT e, Nat.le_of_eq (hidT_size _ _), trivial, by intro b hb; exact (nomatch hb), hok, .of_eq hg⟩
  refine codeAny_mono (go _ H kin (ns_hid hns) hS e0) ?_
  intro r s' h
  cases r with
  | error e => exact (show False from h).elim
  | ok fl =>
    cases fl with
    | next => exact (show False from h).elim
    | brk => exact (show False from h).elim
    | cont => exact (show False from h).elim
    | ret u =>
      obtain ⟨v, H', os, bare, un, hok', rel, q⟩ := h
      have q' : v = .bl true := q
      subst q'
      obtain rfl : u = Value.bool true := rel
      refine ⟨rfl, OldK.of_keep ?_, os, bare⟩
      intro b o e
      rcases hO b with z | ⟨ob, xs, z⟩
      · exact un.keep b o e z (fun m => nomatch m) (fun m => nomatch m)
      · obtain ⟨e1, _⟩ := hok b _ z
        obtain ⟨e2, _⟩ := hok' b _ (un.frzs b ob _ z)
        rw [e] at e1
        cases e1
        exact e2
theorem law_go {fa a : Addr} {s₁ : Shared} {vs : List Value} {ns : List Int} (KX : K.In s₁.heap) (hns : s₁.heap.Ns mainGlobals mg) (hb : s₁.heap.Ns builtinsNs mb) (hbb : ∀ x : Str, x ≠ "__name__" → mb x = bootBuiltins x)
    (hlim : s₁.heap.NoLimit) (hg : s₁.gens = #[]) (ha : s₁.heap.get? a = some { cls := .type "list", data := .seq vs.toArray }) (hi : IntsAre vs ns) (hl : ns.length ≤ sizeLine) (go : Runs P w K mg fa a s₁ ns) :
    codeAny (model P w) callerA (.call (.ref fa) ⟨[.ref a], []⟩) (Gives s₁) s₁ := by
  have rv : Vals (ns.map V.int) vs := vals_ints hi
  cases hk : K.lookup a with
  | some o =>
    have e := KX a o hk
    rw [ha] at e
    cases e
    have hS : SqL K (fun _ => none) a (ns.map V.int) := .inr ⟨_, vs.toArray, _, hk, rfl, rfl, rfl, by rw [List.size_toArray, hi.length]; exact hl, by simpa using rv⟩
    exact go_core KX hns hb hbb hlim hg ha go (H := fun _ => none) (fun _ => .inl rfl) hS (fun b u z => nomatch z) (fun b z => absurd rfl z) fun z => absurd rfl z
  | none =>
    let H : Hp := fun b => if b = a then some (.frz { cls := .type "list", data := .seq vs.toArray } (.lst (ns.map V.int))) else none
    have at_a : H a = some (.frz { cls := .type "list", data := .seq vs.toArray } (.lst (ns.map V.int))) := if_pos rfl
    have off : ∀ b, b ≠ a → H b = none := fun b h => if_neg h
    refine go_core (H := H) KX hns hb hbb hlim hg ha go ?_ (.inl (.inr ⟨_, at_a⟩)) ?_ ?_ fun _ => hk
    · intro b
      by_cases h : b = a
      · exact .inr ⟨_, _, by rw [h]; exact at_a⟩
      · exact .inl (off b h)
    · intro b u z
      by_cases h : b = a
      · subst h
        rw [at_a] at z
        cases z
        exact ⟨ha, by rw [List.length_map]; exact hl, vs, _, rv, ha⟩
      · rw [off b h] at z
        cases z
    · intro b z
      exact Classical.byContradiction fun h => z (off b h)
end
/-- the goal that k_head leaves -/
theorem walk_go {l : PySem.W.OpenLaw} {n : Nat} {q : Program} {loose : List Str} {XP : (Str → Option Value) → Heap → Prop} {YP : World → Heap → Prop} {d : DefRec} {K : Params → PySem.W.Frag}
    (hn : l.most = some n) (hn2 : n ≤ sizeLine) (hdf : d.params.defaults = []) (hY : ∀ (w : World) (h : Heap), YP w h → (K w.params).In h)
    (go : ∀ (w : World) (mg : Str → Option Value) (fa a : Addr) (s₁ : Shared) (ns : List Int), ns.length ≤ n → (K w.params).In s₁.heap → s₁.heap.Ns mainGlobals mg → mg d.name = some (.ref fa) → Runs l.prog w (K w.params) mg fa a s₁ ns) :
    PySem.W.WalkO q loose XP YP l.row.toRowW d [] (fun f vs => PySem.call f vs) := by
  apply Att.attach_call hn hdf
  intro w s₀ s₁ mg mb fa o pm cd doc a vs ns G Y ho hd hcd hmg hobj hints hlen hg
  have KX := hY w _ Y
  exact law_go KX G.T.g G.T.b G.T.builtins G.T.nolimit hg hobj hints (Nat.le_trans hlen hn2) (go w mg fa a s₁ ns hlen KX G.T.g hmg)
/-! ### what is owned may be forgotten; texts of data -/
section
variable {K : PySem.W.Frag} {ρ : List En} {R : List Ow}
theorem At.sub {F H : Hp} {R' : List Ow} (A : At K F R H) (h : List.Sublist R' R) : At K F R' H := ⟨A.ex, A.nd.sublist (h.map _), fun r hr => A.own r (h.subset hr)⟩
theorem es_forget {ts : TS} {P : Post} {R' : List Ow} (hs : List.Sublist R' R) (h : Es K ts ρ R' P) : Es K ts ρ R P := fun R0 F H σ D S A p => h R0 F H σ D S (A.sub (List.Sublist.append hs (List.Sublist.refl R0))) p
/-- not a huge number -/
def Wee (i : Int) : Prop := i.natAbs < 2 ^ 100
theorem Wee.log {i : Int} (h : Wee i) : i.natAbs.log2 < 1920 := by
  by_cases h0 : i.natAbs = 0
  · rw [h0]; decide
  · exact Nat.lt_trans ((Nat.log2_lt h0).mpr h) (by decide)
theorem wee_of {i : Int} (h0 : -(2 ^ 99 : Int) ≤ i) (h1 : i ≤ 2 ^ 99) : Wee i := by unfold Wee; omega
theorem Wee.len {i : Int} (h : Wee i) : (PyData.shown (.int i)).length ≤ 2000 := by
  have h2 := int_text_length_le10 (a := i) (k := 31) (by decide) (Nat.lt_of_lt_of_le h (by decide))
  show (Str.ofString (toString i)).length ≤ 2000
  rw [PySem.ofString_length]
  omega
theorem rc_reprI {i : Int} (h : Wee i) : RcK K (rRepr K) [.d (.int i)] R (.d (.str (PyData.shown (.int i)))) :=
  rc_repr (by show decide _ = true; exact decide_eq_true h.log) (by rfl) (by show 0 ≤ 60; omega) (Nat.le_trans h.len (by decide))
theorem wee_tup {ns : List Int} (h : ∀ x ∈ ns, Wee x) : PyData.showableAll (ns.map .int) = true ∧ PyData.hasDictAll (ns.map .int) = false ∧ PyData.depthAll (ns.map .int) = 0 ∧ PyData.leavesShortAll 2000 (ns.map .int) = true ∧ PyData.bulkAll (ns.map .int) = ns.length := by
  induction ns with
  | nil => exact ⟨rfl, rfl, rfl, rfl, rfl⟩
  | cons n r ih =>
    obtain ⟨h1, h2, h3, h4, h5⟩ := ih fun x hx => h x (by simp [hx])
    have hn := h n (by simp)
    refine ⟨?_, ?_, ?_, ?_, ?_⟩
    · show (PyData.showable (.int n) && PyData.showableAll (r.map .int)) = true
      rw [h1, show PyData.showable (.int n) = true from decide_eq_true hn.log]; rfl
    · show (PyData.hasDict (.int n) || PyData.hasDictAll (r.map .int)) = false
      rw [h2]; rfl
    · show max (PyData.depth (.int n)) (PyData.depthAll (r.map .int)) = 0
      rw [h3]; rfl
    · show (PyData.leavesShort 2000 (.int n) && PyData.leavesShortAll 2000 (r.map .int)) = true
      rw [h4, show PyData.leavesShort 2000 (.int n) = true from decide_eq_true hn.len]; rfl
    · show PyData.bulk (.int n) + 1 + PyData.bulkAll (r.map .int) = r.length + 1
      rw [h5, show PyData.bulk (.int n) = 0 from rfl]; omega
theorem rc_reprT {ns : List Int} (h : ∀ x ∈ ns, Wee x) (hl : ns.length ≤ 1000) : RcK K (rRepr K) [.d (.tuple (ns.map .int))] R (.d (.str (PyData.shown (.tuple (ns.map .int))))) := by
  obtain ⟨h1, h2, h3, h4, h5⟩ := wee_tup h
  refine rc_repr h1 h2 ?_ ?_
  · show PyData.depthAll (ns.map .int) + 1 ≤ 60
    omega
  · have := PyData.shown_le_bulk 2000 (by decide) (.tuple (ns.map .int)) h4
    rw [show PyData.bulk (.tuple (ns.map .int)) = ns.length from h5] at this
    refine Nat.le_trans this (Nat.le_trans (Nat.add_le_add_right (Nat.mul_le_mul_left _ hl) _) (by decide))
theorem rc_reprM {α : Type} {f : α → Int} {l : List α} (h : ∀ a ∈ l, Wee (f a)) (hl : l.length ≤ 1000) : RcK K (rRepr K) [.d (.tuple (l.map fun a => .int (f a)))] R (.d (.str (PyData.shown (.tuple (l.map fun a => .int (f a)))))) := by
  rw [map_int]
  exact rc_reprT (fun x hx => by obtain ⟨a, ha, rfl⟩ := List.mem_map.mp hx; exact h a ha) (by rw [List.length_map]; exact hl)
theorem rv_neSS {a : Str} : Rv K rNe (.d (.str a)) (.d (.str a)) R (.d (.bool false)) := fun R0 F H v u hv hu A Q q => by
  cases hv; cases hu
  refine ⟨rfl, ?_⟩
  rw [decide_eq_true (show V.str a = V.str a from rfl)]
  exact q _ F H (Ex.refl F) A (.bl _)
end
theorem kb_of {K : PySem.W.Frag} {x qual : Str} {st : Stmt} {f : Addr} {fd : FuncData} {ps ks : List Str} {g : List Value → List Value → List Value} {gV : List V → List V → List V} (F : Fun K x qual st f fd)
    (h : ∀ (kV doc pm : Value) (an : Option Addr) (cdv ct : Value) (us ws : List Value), (g us ws).length = ps.length → bindArgs (PySem.W.fnOf x qual (defArgs st) (defBody st) (defScope st) .none kV doc pm an cdv ct) ⟨us, ks.zip ws⟩ = pure (ps.zip (g us ws)))
    (r : ∀ {vs : List V} {us : List Value} {zs : List V} {ws : List Value}, Vals vs us → Vals zs ws → Vals (gV vs zs) (g us ws)) : KBinds K fd ps ks g gV := by
  obtain ⟨oc, od, kV, doc, pm, an, cdv, ct, osl, rfl, lk, hcd⟩ := F.ex
  exact ⟨fun s us ws _ hl => .of_eq (h kV doc pm an cdv ct us ws hl), r⟩
end Fx

namespace FxR
open PySem PySem.Spec PyProof.Rows L2 HT
section
variable {prog : Program} {w : World} {A : Around} {E : Value → Shared → Prop} {s : Shared}
/-- the parts of a slice that only has a step of -1 -/
theorem applied_rev {sl : Addr} {vl vu vs : Value} {n : Nat} {Q : Int × Int × Nat → Shared → Prop} (hs : s.heap.IsSliceOf sl vl vu vs) (pl : IsPart vl none) (pu : IsPart vu none) (ps : IsPart vs (some (-1)))
    (h : Q ((n : Int) - 1, -1, n) s) : wpAny (model prog w) A (Builtin.Slice.sliceApplied (.ref sl) (pure (n : Int))) Q E s := by
  obtain ⟨o, ho, hc, hd⟩ := id hs
  unfold Builtin.Slice.sliceApplied Builtin.Slice.sliceFields
  apply wpAny_bind
  apply wpAny_bind
  refine wpAny_field ho hd (x := vl) rfl ?_
  apply wpAny_bind
  refine wpAny_field ho hd (x := vu) rfl ?_
  apply wpAny_bind
  refine wpAny_field ho hd (x := vs) rfl (wpAny_pure ?_)
  apply wpAny_bind
  refine slicePart_ ps ?_
  show wpAny _ _ (if ((-1 : Int) == 0) = true then _ else _) _ _ s
  rw [if_neg (by decide)]
  apply wpAny_bind
  refine slicePart_ pl ?_
  apply wpAny_bind
  refine slicePart_ pu ?_
  apply wpAny_bind
  apply wpAny_pure
  have e1 : Builtin.Slice.sliceAdjust none none (-1) (n : Int) = ((n : Int) - 1, -1) := by unfold Builtin.Slice.sliceAdjust; simp
  have e2 : Builtin.Slice.slicePlaces ((n : Int) - 1) (-1) (-1) = n := by
    unfold Builtin.Slice.slicePlaces
    by_cases hn : n = 0
    · subst hn; decide
    · rw [if_neg (by decide), if_pos (by omega)]
      have : ((n : Int) - 1 - -1 - 1) / (- -1) + 1 = n := by
        rw [show (- -1 : Int) = 1 by decide, Int.ediv_one]; omega
      rw [this]; exact Int.toNat_natCast n
  show wpAny _ _ (match Builtin.Slice.sliceAdjust none none (-1) (n : Int) with | (lo, hi) => pure (lo, (-1 : Int), Builtin.Slice.slicePlaces lo hi (-1))) _ _ s
  rw [e1]
  show wpAny _ _ (pure ((n : Int) - 1, (-1 : Int), Builtin.Slice.slicePlaces ((n : Int) - 1) (-1) (-1))) _ _ s
  rw [e2]
  exact wpAny_pure h
theorem fm_congr {α β : Type} {f g : α → Option β} : ∀ {l : List α}, (∀ a ∈ l, f a = g a) → l.filterMap f = l.filterMap g
  | [], _ => rfl
  | a :: l, h => by
    rw [List.filterMap_cons, List.filterMap_cons, h a (by simp), fm_congr (l := l) fun b hb => h b (by simp [hb])]
theorem picked_rev (xs : List Value) : (List.range xs.length).filterMap (fun (m : Nat) => xs.toArray[((xs.length : Int) - 1 + (m : Int) * -1).toNat]?) = xs.reverse := by
  have e : ∀ m ∈ List.range xs.length, xs.toArray[((xs.length : Int) - 1 + (m : Int) * -1).toNat]? = xs.reverse[m]? := by
    intro m hm
    have hm' := List.mem_range.mp hm
    rw [List.getElem?_reverse hm', List.getElem?_toArray]
    congr 1
    omega
  rw [fm_congr e]
  have hr : xs.length = xs.reverse.length := (List.length_reverse).symm
  rw [hr]
  generalize xs.reverse = ys
  have : ∀ (k : Nat), k ≤ ys.length → (List.range k).filterMap (fun m => ys[m]?) = ys.take k := by
    intro k
    induction k with
    | zero => intro _; rfl
    | succ k ih =>
      intro hk
      rw [List.range_succ, List.filterMap_append, ih (by omega), List.take_succ]
      rw [List.getElem?_eq_getElem (by omega)]
      simp [List.getElem?_eq_getElem (show k < ys.length by omega)]
  rw [this _ (Nat.le_refl _), List.take_length]
theorem item_rev {t sl : Addr} {items : List Value} {vl vu vs : Value} {Q : Value → Shared → Prop} (ht : IsTup s.heap t items.toArray) (hs : s.heap.IsSliceOf sl vl vu vs) (pl : IsPart vl none) (pu : IsPart vu none) (ps : IsPart vs (some (-1)))
    (h : Q (.ref s.heap.objs.size) { s with heap := s.heap.push { cls := .type "tuple", data := .seq items.reverse.toArray } }) (hz : items.length ≤ sizeLine) : wpAny (model prog w) A (getItem (.ref t) (.ref sl)) Q E s := by
  have fit : sizeOk (.seq items.reverse.toArray) := by
    show items.reverse.toArray.size ≤ sizeLine
    rw [List.size_toArray, List.length_reverse]; exact hz
  obtain ⟨o, ho, hc, hd⟩ := id hs
  have isS : s.TypeIs (.ref sl) "slice" := ⟨o, ho, hc⟩
  unfold getItem
  try with_reducible apply wpAny_holding
  first | (refine wpAny_bind (wpAny_pure ?_)) | skip
  apply wpAny_bind
  refine wpAny_sequenceKey ht.typeIs (by decide) ?_
  apply wpAny_bind
  refine wpAny_callSpecial?_slot (name := Str.ofString "__getitem__") ht.typeIs PyProof.Rows.slot_tuple_getitem ?_
  refine wpAny_call_entry PyProof.Rows.slot_tuple_getitem ht.typeIs entry_tuple_getitem ?_ (args_tuple_getitem _ _)
  show wpAny _ _ (Builtin.Tuple.tupleItemsOf (.ref t) >>= _) _ _ s
  apply wpAny_bind
  refine tupleItemsOf_ ht ?_
  apply wpAny_bind
  refine wpAny_typeOf isS ?_
  rw [if_pos (by decide)]
  apply wpAny_bind
  refine applied_rev (n := items.toArray.size) hs pl pu ps ?_
  show wpAny _ _ (if (((items.toArray.size : Int) - 1) == 0 && (-1 : Int) == 1 && items.toArray.size == items.toArray.size) = true then _ else _) _ _ s
  rw [if_neg (by rw [show ((-1 : Int) == 1) = false from rfl, Bool.and_false, Bool.false_and]; exact Bool.false_ne_true)]
  have pk := picked_rev items
  rw [show items.length = items.toArray.size from (by rw [List.size_toArray])] at pk
  rw [pk]
  first
    | exact wpAny_bind (m := Builtin.Tuple.tupleExact _) (wpAny_newObj_type (wpAny_pure ⟨_, rfl, wpAny_pure h⟩) fit)
    | exact wpAny_bind (m := Builtin.Tuple.tupleExact _) (wpAny_newObj_type (wpAny_bind (wpAny_pure (wpAny_pure ⟨_, rfl, wpAny_pure h⟩))) fit)
    | exact wpAny_bind (wpAny_bind (m := Builtin.Tuple.tupleExact _) (wpAny_newObj_type (wpAny_pure (wpAny_pure ⟨_, rfl, wpAny_pure h⟩)) fit))
    | exact wpAny_bind (wpAny_bind (m := Builtin.Tuple.tupleExact _) (wpAny_newObj_type (wpAny_pure ⟨_, rfl, wpAny_pure h⟩) fit))
end
end FxR

namespace Fx
open PySem PySem.Spec PyProof.Rows L2
section
variable {X : Cx}
/-- t[::-1] -/
def tRevT (K : PySem.W.Frag) (te : TE) : TE := fun σ H Q => te σ H fun x H1 => ∃ a xs, x = .ref a ∧ SqT K H1 a xs ∧ ∀ p, H1 p = none → Q (.ref p) (upd H1 p (.tup xs.reverse))
theorem pe_revT {e : Expr} {te : TE} {k : Nat} {p1 p2 p3 pos : Pos} {K : PySem.W.Frag} (he : PE X e te) (hK : X.K = K := by rfl) : PE X (.Subscript e (.Slice none none (some (.UnaryOp .USub (.Constant (.int 1) k p1) p2)) p3) pos) (tRevT K te) := by
  subst hK
  constructor
  intro pins s σ H Q I h
  refine Subscript_ (thn (he.run pins s σ H _ I h) ?_)
  rintro v s1 ⟨x, H1, I1, r1, a, xs, rfl, hx, q⟩
  cases r1
  have hst : PO X (some (.UnaryOp .USub (.Constant (.int 1) k p1) p2)) (tPart (tUn (rU fun i => .int (-i)) (tC (.int 1)))) := po_some (pe_un un_neg pe_int)
  refine wpAny_Slice (thn (po_none.run pins s1 σ H1 (fun o H2 => o = none ∧ H2 = H1) I1 ⟨rfl, rfl⟩) ?_)
  rintro vl s2 ⟨l, H2, I2, pl, rfl, rfl⟩
  refine thn (po_none.run pins s2 σ H2 (fun o H3 => o = none ∧ H3 = H2) I2 ⟨rfl, rfl⟩) ?_
  rintro vu s3 ⟨u, H3, I3, pu, rfl, rfl⟩
  refine thn (hst.run pins s3 σ H3 (fun o H4 => o = some (-1) ∧ H4 = H3) I3 ⟨1, rfl, -1, rfl, rfl, rfl⟩) ?_
  rintro vs s4 ⟨o, H4, I4, ps, rfl, rfl⟩
  have I5 : Inv X pins σ H4 { s4 with heap := s4.heap.push { cls := .type "slice", data := .fields #[vl, vu, vs] } } := I4.kept (t' := s4.toks) fun b ob q => Heap.get?_push_of_some _ q
  obtain ⟨its, r, ht, hz⟩ := I5.tuple hx
  have hlen := r.length
  show wpAny (model X.prog X.w) X.A (subscriptTail e (.Slice none none (some (.UnaryOp .USub (.Constant (.int 1) k p1) p2)) p3) (.ref a) (.ref s4.heap.objs.size)) (EP X pins σ Q) X.xe { s4 with heap := s4.heap.push { cls := .type "slice", data := .fields #[vl, vu, vs] } }
  refine tail_any (ops := [.ref a, .ref s4.heap.objs.size]) ht.typeIs (PyProof.Rows.slot_tuple_getitem.lookup) ?_ (by with_unfolding_all rfl)
  refine FxR.item_rev ht (Heap.IsSliceOf.new _ vl vu vs) pl pu ps ?_ (by omega)
  refine ⟨.ref _, _, I5.laid (t' := s4.toks) (o := .tup xs.reverse) (fun b ob q => Heap.get?_push_of_some _ q) (Nat.le_refl _) ?_, rfl, q _ (I5.hok.fresh (Nat.le_refl _))⟩
  exact ⟨by rw [List.length_reverse]; exact hz, _, r.reverse, IsTup.new _ _⟩
/-! ### sorted(set(t)) -/
def rSetT (K : PySem.W.Frag) (w : World) : List V → Hp → VK → Prop := fun xs H Q => ∃ (a : Addr) (ns : List Int), xs = [.ref a] ∧ SqT K H a (ns.map V.int) ∧ ns.length ≤ 1000 ∧ ∀ (p : Addr) (c : Nat), c ≤ ns.length → H p = none → Q (.ref p) (upd H p (SetO w p (fun j => decide (j ∈ ns)) c))
theorem call_setT {K : PySem.W.Frag} {w : World} (hc : X.calm = true := by rfl) (hK : X.K = K := by rfl) (hw : X.w = w := by rfl) : CallR X (.type "set") (rSetT K w) := by
  subst hK hw
  intro pins s σ H xs us Q I r h
  obtain ⟨a, ns, rfl, hq, hl, q⟩ := h
  rw [Vals.ref1 r]
  obtain ⟨its, rv, pt, hz⟩ := I.tuple hq
  refine call_set_tupI ns (I.ok.hd hc) (show s.heap.IsTuple a its.toArray from pt) (ints_of_vals rv) (by unfold scanBound; omega) ?_
  intro h' tk c R1 hcn kk
  exact ⟨.ref s.heap.objs.size, _, I.laid (t' := tk) kk (Nat.le_refl _) (setO_new R1), rfl, q _ c hcn (I.hok.fresh (Nat.le_refl _))⟩
theorem callSortSet {w : World} (hc : X.calm = true := by rfl) (hw : X.w = w := by rfl) : CallR X (.builtin "sorted") (rSortedSet w) := by subst hw; exact cr_sortedSet hc
/-- sum(t) -/
def rSumT (K : PySem.W.Frag) : List V → Hp → VK → Prop := fun vs H Q => ∃ (a : Addr) (ns : List Int), vs = [V.ref a] ∧ SqT K H a (ns.map V.int) ∧ Q (.int ns.sum) H
theorem callSumT {K : PySem.W.Frag} (hc : X.calm = true := by rfl) (hK : X.K = K := by rfl) : CallR X (.builtin "sum") (rSumT K) := by
  subst hK
  intro pins s σ H vs us Q I r h
  obtain ⟨a, ns, rfl, hs, q⟩ := h
  obtain ⟨its, rv, ht, _⟩ := I.tuple hs
  rw [Vals.ref1 r]
  obtain ⟨xs, e⟩ := (rv.ints).allInts.items
  have hn : numsOf (intItems xs).toList = ns := by rw [← e]; exact (rv.ints).numsOf
  rw [nums_intItems] at hn
  have ht2 : s.heap.IsTuple a (intItems xs) := e ▸ (show s.heap.IsTuple a its.toArray from ht)
  refine PySem.W.ktm_sumG (I.ok.hd hc) ht2 fun h' tk t' hk => ?_
  rw [preSum_eq, List.take_of_length_le (by simp), hn]
  exact ⟨.int _, H, I.kept hk, ⟨_, rfl⟩, q⟩
end
section
variable {K : PySem.W.Frag} {w : World} {ρ : List En} {R R1 Rz : List Ow} {te tn to ti : TE}
theorem ev_revT {ds : List PyData} (h : Ev K te ρ R (.d (.tuple ds)) R1) : Ev K (tRevT K te) ρ R (.d (.tuple ds.reverse)) R1 := fun R0 F H σ S A Q q =>
  h R0 F H σ S A _ fun v F1 H1 x1 A1 e1 => by
    obtain ⟨a, ws, rfl, h4, h5⟩ := Dt.tupD e1
    refine ⟨a, ws, rfl, A1.sqT h4, fun p hp => ?_⟩
    obtain ⟨x, A4⟩ := A1.new (.tup ws.reverse) hp
    exact q _ _ _ (x1.trans x) A4 (.tup (.inl (.inl upd_same)) (Dts.rev (h5.mono x _)))
theorem rc_max2 {i j : Int} : RcK K (fun xs H Q => ∃ i j, xs = [V.int i, .int j] ∧ Q (.int (if j > i then j else i)) H) [.d (.int i), .d (.int j)] R (.d (.int (if j > i then j else i))) := fun R0 F H vs E A Q q => by
  obtain ⟨v, u, rfl, h, h'⟩ := ens2 E
  cases h; cases h'
  exact ⟨i, j, rfl, q _ F H (Ex.refl F) A (.int _)⟩
/-- in order, each once -/
def insU (i : Int) : List Int → List Int
  | [] => [i]
  | j :: r => if i < j then i :: j :: r else if i = j then j :: r else j :: insU i r
def asc (ns : List Int) : List Int := ns.foldr insU []
theorem insU_mem {i : Int} : ∀ {l : List Int} {k : Int}, k ∈ insU i l ↔ k = i ∨ k ∈ l
  | [], k => by simp [insU]
  | j :: r, k => by
    unfold insU
    split
    · simp
    · split
      · rename_i h; subst h; simp
      · simp only [List.mem_cons, insU_mem (l := r)]
        constructor
        · rintro (h | h | h) <;> simp [h]
        · rintro (h | h | h) <;> simp [h]
theorem insU_asc {i : Int} : ∀ {l : List Int}, l.Pairwise (· < ·) → (insU i l).Pairwise (· < ·)
  | [], _ => by simp [insU]
  | j :: r, h => by
    obtain ⟨h1, h2⟩ := List.pairwise_cons.mp h
    unfold insU
    split
    · rename_i hi
      exact List.pairwise_cons.mpr ⟨fun k hk => by rcases List.mem_cons.mp hk with rfl | hk; exact hi; have := h1 k hk; omega, h⟩
    · split
      · exact h
      · refine List.pairwise_cons.mpr ⟨fun k hk => ?_, insU_asc h2⟩
        rcases insU_mem.mp hk with rfl | hk
        · omega
        · exact h1 k hk
theorem asc_asc (ns : List Int) : (asc ns).Pairwise (· < ·) := by
  induction ns with
  | nil => exact .nil
  | cons i r ih => exact insU_asc ih
theorem asc_mem {ns : List Int} {k : Int} : k ∈ asc ns ↔ k ∈ ns := by
  induction ns with
  | nil => simp [asc]
  | cons i r ih =>
    show k ∈ insU i (asc r) ↔ _
    rw [insU_mem, ih, List.mem_cons]
theorem asc_only : ∀ {l m : List Int}, l.Pairwise (· < ·) → m.Pairwise (· < ·) → (∀ k, k ∈ l ↔ k ∈ m) → l = m
  | [], [], _, _, _ => rfl
  | [], b :: m, _, _, h => absurd ((h b).mpr (by simp)) (by simp)
  | a :: l, [], _, _, h => absurd ((h a).mp (by simp)) (by simp)
  | a :: l, b :: m, hl, hm, h => by
    obtain ⟨l1, l2⟩ := List.pairwise_cons.mp hl
    obtain ⟨m1, m2⟩ := List.pairwise_cons.mp hm
    have e : a = b := by
      rcases List.mem_cons.mp ((h a).mp (by simp)) with e | h1
      · exact e
      · rcases List.mem_cons.mp ((h b).mpr (by simp)) with e | h2
        · exact e.symm
        · have := l1 b h2
          have := m1 a h1
          omega
    subst e
    congr 1
    refine asc_only l2 m2 fun k => ⟨fun hk => ?_, fun hk => ?_⟩
    · rcases List.mem_cons.mp ((h k).mp (by simp [hk])) with rfl | h1
      · exact absurd (l1 _ hk) (by omega)
      · exact h1
    · rcases List.mem_cons.mp ((h k).mpr (by simp [hk])) with rfl | h1
      · exact absurd (m1 _ hk) (by omega)
      · exact h1
theorem asc_self {ns : List Int} : asc ns = ns ↔ ns.Pairwise (· < ·) := ⟨fun h => h ▸ asc_asc ns, fun h => asc_only (asc_asc ns) h fun k => asc_mem⟩
theorem ev_ss {ns : List Int} (h : Ev K te ρ R (.d (.tuple (ns.map .int))) R1) (hl : ns.length ≤ 60) : Ev K (tCB (rSortedSet w) (tCons (tCB (rSetT K w) (tCons te tNil)) tNil)) ρ R (.d (.list ((asc ns).map .int))) R1 := fun R0 F H σ S A Q q =>
  h R0 F H σ S A _ fun v F1 H1 x1 A1 e1 => by
    obtain ⟨a, ws, rfl, h4, h5⟩ := Dt.tupD e1
    rw [h5.ints] at h4
    refine ⟨a, ns, rfl, A1.sqT h4, by omega, fun p c hc hp => ?_⟩
    have A2 := A1.ownR (o := SetO w p (fun j => decide (j ∈ ns)) c) hp
    refine ⟨p, _, c, rfl, upd_same, by omega, fun out b hs hm hn hb => ?_⟩
    obtain ⟨x3, A3⟩ := A2.new (.lst (out.map V.int)) hb
    have eo : out = asc ns := asc_only hs (asc_asc ns) fun k => by rw [hm k, asc_mem, decide_eq_true_eq]
    subst eo
    exact q _ _ _ (x1.trans x3) (A3.sub (List.sublist_cons_self _ _)) (.lst upd_same (Dts.of_ints _))
/-- x = [k] * n -/
theorem es_setRep {P : Post} {i n : Nat} {k : Int} (h : Ev K tn ρ R (.d (.int (n : Int))) R1) (hn : n ≤ 1000000) (hx : ∀ p, P.nx (ρ.set i (.o p)) (R1 ++ [.ls p (List.replicate n (.int k))])) : Es K (tAsg (tOp rRep (tLst (tCons (tC (.int k)) tNil)) tn) (gName i)) ρ R P := fun R0 F H σ D S A p =>
  ⟨by show 1 ≤ sizeLine; decide, fun b hb => by
    obtain ⟨x1, A1⟩ := A.new (.lst [.int k]) hb
    refine h R0 _ _ σ (S.mono x1) A1 _ fun v F2 H2 x2 A2 e2 => ?_
    cases e2
    refine ⟨b, (n : Int), [.int k], rfl, rfl, A2.ex _ _ (x2 _ _ upd_same), by omega, by omega, ?_, fun a ha => ?_⟩
    · rw [Int.toNat_natCast]
      exact Nat.le_trans (by simp only [List.length_singleton]; omega) (show 1000000 ≤ sizeLine by decide)
    · have e : (List.replicate n [V.int k]).flatten = List.replicate n (V.int k) := by
        induction n with
        | zero => rfl
        | succ n ih => rw [List.replicate_succ, List.flatten_cons, List.replicate_succ]; simp
      rw [Int.toNat_natCast, e]
      have hd : Dts K F2 (List.replicate n (V.int k)) (List.replicate n (.int k)) := by
        clear e hx h
        induction n with
        | zero => exact .nil
        | succ n ih => rw [List.replicate_succ, List.replicate_succ]; exact .cons (.int k) (ih (by omega))
      have A3 := A2.own1 ha hd
      refine p.nx _ _ _ F2 _ (hx a) (x1.trans x2) ((S.mono (x1.trans x2)).set i (e := .o a) rfl) ?_
      rw [List.append_assoc]
      exact A3.perm List.perm_middle.symm⟩
theorem Dts.set {F : Hp} : ∀ {vs : List V} {ds : List PyData} (j : Nat) {v : V} {d : PyData}, Dts K F vs ds → Dt K F v d → Dts K F (vs.set j v) (ds.set j d)
  | _, _, _, _, _, .nil, _ => .nil
  | _, _, 0, _, _, .cons _ b, h => .cons h b
  | _, _, j + 1, _, _, .cons a b, h => .cons a (b.set j h)
/-- xs[i] = v, xs an owned list -/
theorem es_storeL {P : Post} {a : Addr} {ds : List PyData} {d : PyData} {i : Int} {j : Nat} {Ra Rb : List Ow} (h : Ev K te ρ R (.d d) R1) (ho : Ev K to ρ R1 (.o a) Rz) (hi : Ev K ti ρ Rz (.d (.int i)) (Ra ++ .ls a ds :: Rb)) (hj : ixN ds.length i = some j)
    (hn : P.nx ρ (Ra ++ .ls a (ds.set j d) :: Rb)) : Es K (tAsg te (gSub to ti rSetL)) ρ R P := fun R0 F H σ D S A p =>
  h R0 F H σ S A _ fun v F1 H1 x1 A1 e1 => ho R0 F1 H1 σ (S.mono x1) A1 _ fun u F2 H2 x2 A2 e2 => by
    cases e2
    exact hi R0 F2 H2 σ (S.mono (x1.trans x2)) A2 _ fun u3 F3 H3 x3 A3 e3 => by
      cases e3
      obtain ⟨_, ws, h1, h2⟩ := A3.own (.ls a ds) (by simp)
      refine ⟨a, ws, i, j, rfl, rfl, h1, by rw [h2.len]; exact hj, p.nx _ _ σ F3 _ hn (x1.trans (x2.trans x3)) (S.mono (x1.trans (x2.trans x3))) ?_⟩
      rw [List.append_assoc, List.cons_append] at A3 ⊢
      exact A3.updL (Dts.set j h2 (Dt.mono (x2.trans x3) d e1))
theorem rc_sumT {ns : List Int} : RcK K (rSumT K) [.d (.tuple (ns.map .int))] R (.d (.int ns.sum)) := fun R0 F H vs E A Q q => by
  obtain ⟨v, rfl, h⟩ := ens1 E
  obtain ⟨a, ws, rfl, h1, h2⟩ := Dt.tupD h
  rw [h2.ints] at h1
  exact ⟨a, ns, rfl, A.sqT h1, q _ F H (Ex.refl F) A (.int _)⟩
theorem rc_reprB {b : Bool} : RcK K (rRepr K) [.d (.bool b)] R (.d (.str (PyData.shown (.bool b)))) := by
  cases b <;> exact rc_repr (by rfl) (by rfl) (by decide) (by decide +kernel)
end
end Fx

namespace Fx
open PySem PySem.Spec PyProof.Rows L2
section
variable {K : PySem.W.Frag} {ρ : List En} {R R1 Rz : List Ow} {te to : TE} {ts : TA} {C : Addr}
/-! ### instances: made, their fields laid, then never changed -/
theorem Flds.get {F : Hp} : ∀ {vs : List (Str × V)} {fs : List (Str × PyData)} {f : Str} {d : PyData}, Flds K F vs fs → fs.lookup f = some d → ∃ v, vs.lookup f = some v ∧ Dt K F v d
  | _, _, _, _, .nil, h => by cases h
  | (g, v) :: vs, (_, d) :: fs, f, e, .cons a b, h => by
    rw [List.lookup_cons] at h ⊢
    cases hg : f == g with
    | true =>
      rw [hg] at h
      cases h
      exact ⟨v, rfl, a⟩
    | false =>
      rw [hg] at h
      exact b.get h
def putD (f : Str) (d : PyData) : List (Str × PyData) → List (Str × PyData)
  | [] => [(f, d)]
  | (g, e) :: r => if g = f then (g, d) :: r else (g, e) :: putD f d r
theorem Flds.put {F : Hp} {f : Str} {v : V} {d : PyData} (h : Dt K F v d) : ∀ {vs : List (Str × V)} {fs : List (Str × PyData)}, Flds K F vs fs → Flds K F (putF f v vs) (putD f d fs)
  | _, _, .nil => .cons h .nil
  | (g, _) :: _, _, .cons a b => by
    unfold putF putD
    by_cases hg : g = f
    · rw [if_pos hg, if_pos hg]; exact .cons h b
    · rw [if_neg hg, if_neg hg]; exact .cons a (b.put h)
theorem Flds.len {F : Hp} : ∀ {vs : List (Str × V)} {fs : List (Str × PyData)}, Flds K F vs fs → vs.length = fs.length
  | _, _, .nil => rfl
  | _, _, .cons _ b => by rw [List.length_cons, List.length_cons, b.len]
theorem ev_b {i : Nat} {fs : List (Str × PyData)} (h : ρ[i]? = some (.ob C fs)) : Ev K (tVar i) ρ R (.ob C fs) R := fun R0 F H σ S A Q q => by
  obtain ⟨s, h1, v, rfl, h2⟩ := S.get h
  exact ⟨v, h1, q v F H (Ex.refl F) A h2⟩
/-- e.f -/
theorem ev_fld {fs : List (Str × PyData)} {f : Str} {d : PyData} (h : Ev K te ρ R (.ob C fs) R1) (c : Cls K C) (n : NoAttr K C f) (hf : fs.lookup f = some d) : Ev K (tFld K te f) ρ R (.d d) R1 := fun R0 F H σ S A Q q =>
  h R0 F H σ S A _ fun v F1 H1 x1 A1 e1 => by
    obtain ⟨a, dx, vs, rfl, h1, h2⟩ := e1
    obtain ⟨u, h3, h4⟩ := h2.get hf
    exact ⟨a, C, dx, vs, u, rfl, A1.ex _ _ h1, c, n, h3, q u F1 H1 x1 A1 h4⟩
theorem At.updB {F H : Hp} {a C dx : Addr} {fs fs' : List (Str × PyData)} {vs : List (Str × V)} {Ra Rb : List Ow} (A : At K F (Ra ++ .ob a C dx fs :: Rb) H) (h : Flds K F vs fs') : At K F (Ra ++ .ob a C dx fs' :: Rb) (upd H a (.ins C dx vs)) := by
  have hF : F a = none := (A.own (.ob a C dx fs) (by simp)).1
  have nd : ((Ra ++ .ob a C dx fs :: Rb).map Ow.ad).Nodup := A.nd
  have others : ∀ r, r ∈ Ra ∨ r ∈ Rb → r.ad ≠ a := by
    intro r hr e
    rw [List.map_append, List.map_cons, List.nodup_append] at nd
    obtain ⟨n1, n2, n3⟩ := nd
    rcases hr with hr | hr
    · exact n3 r.ad (List.mem_map_of_mem hr) a (by simp [Ow.ad]) e
    · exact (List.nodup_cons.mp n2).1 (by show a ∈ _; rw [← e]; exact List.mem_map_of_mem hr)
  refine ⟨A.ex.side hF, by simpa [Ow.ad] using nd, fun r hr => ?_⟩
  rcases List.mem_append.mp hr with hr | hr
  · have hne := others r (.inl hr)
    obtain ⟨h1, h2⟩ := A.own r (by simp [hr])
    exact ⟨h1, h2.mono (Ex.refl F) fun o ho => by rw [upd_ne hne]; exact ho⟩
  · rcases List.mem_cons.mp hr with rfl | hr
    · exact ⟨hF, vs, upd_same, h⟩
    · have hne := others r (.inr hr)
      obtain ⟨h1, h2⟩ := A.own r (by simp [hr])
      exact ⟨h1, h2.mono (Ex.refl F) fun o ho => by rw [upd_ne hne]; exact ho⟩
/-- self.f = e, self still owned -/
theorem es_fld {P : Post} {a dx : Addr} {fs : List (Str × PyData)} {f : Str} {d : PyData} {Ra Rb : List Ow} (h : Ev K te ρ R (.d d) R1) (ho : Ev K to ρ R1 (.o a) (Ra ++ .ob a C dx fs :: Rb)) (c : Cls K C) (n : NoAttr K C f) (hl : fs.length < 1000)
    (hn : P.nx ρ (Ra ++ .ob a C dx (putD f d fs) :: Rb)) : Es K (sFld K to te f) ρ R P := fun R0 F H σ D S A p =>
  h R0 F H σ S A _ fun v F1 H1 x1 A1 e1 => ho R0 F1 H1 σ (S.mono x1) A1 _ fun u F2 H2 x2 A2 e2 => by
    cases e2
    obtain ⟨_, vs, h1, h2⟩ := A2.own (.ob a C dx fs) (by simp)
    refine ⟨a, C, dx, vs, rfl, h1, c, n, by rw [h2.len]; exact hl, p.nx _ _ σ F2 _ hn (x1.trans x2) (S.mono (x1.trans x2)) ?_⟩
    rw [List.append_assoc, List.cons_append] at A2 ⊢
    exact A2.updB (h2.put (Dt.mono x2 d e1))
theorem At.freezeB {F H : Hp} {a dx : Addr} {fs : List (Str × PyData)} {Rb : List Ow} (A : At K F (.ob a C dx fs :: Rb) H) : ∃ F1, Ex F F1 ∧ At K F1 Rb H ∧ Inst K F1 (.ref a) C fs := by
  obtain ⟨hF, vs, hH, hd⟩ := A.own _ (List.mem_cons_self ..)
  have x := Ex.new (o := .ins C dx vs) hF
  have nd := A.nd
  rw [List.map_cons, List.nodup_cons] at nd
  refine ⟨_, x, ⟨fun b o hb => ?_, nd.2, fun r hr => ?_⟩, a, dx, vs, rfl, upd_same, hd.mono x⟩
  · by_cases hba : b = a
    · subst hba
      erw [upd_same] at hb
      cases hb
      exact hH
    · erw [upd_ne hba] at hb
      exact A.ex _ _ hb
  · obtain ⟨h1, h2⟩ := A.own r (List.mem_cons_of_mem _ hr)
    have hne : r.ad ≠ a := fun e => nd.1 (by show a ∈ _; rw [← e]; exact List.mem_map_of_mem hr)
    exact ⟨by erw [upd_ne hne]; exact h1, h2.mono x fun _ h => h⟩
theorem At.ownB {F H : Hp} {p C dx : Addr} (A : At K F R H) (hp : H p = none) : At K F (.ob p C dx [] :: R) (upd H p (.ins C dx [])) := by
  have old : ∀ r ∈ R, r.ad ≠ p := fun r hr e => by
    obtain ⟨o', ho⟩ := (A.own r hr).2.some
    rw [e, hp] at ho
    cases ho
  refine ⟨A.ex.side (fresh_back A.ex hp), ?_, fun r hr => ?_⟩
  · rw [List.map_cons, List.nodup_cons]
    refine ⟨fun hm => ?_, A.nd⟩
    obtain ⟨r, hr, e⟩ := List.mem_map.mp hm
    exact old r hr e
  · rcases List.mem_cons.mp hr with rfl | hr
    · exact ⟨fresh_back A.ex hp, [], upd_same, .nil⟩
    · exact ⟨(A.own r hr).1, (A.own r hr).2.mono (Ex.refl F) fun o' ho => by rw [upd_ne (old r hr)]; exact ho⟩
/-- C(e, ..): what __init__ lays is what the instance holds -/
theorem ev_make {Sf : List En → List Ow → En → List Ow → Prop} {es : List En} {fs : List (Str × PyData)} (hs : ∀ x dx, Sf (.o x :: es) [.ob x C dx []] (.d .none) [.ob x C dx fs]) (h : Ea K ts ρ R es R1) : Ev K (tMake C (spS K Sf) [] E0 ts) ρ R (.ob C fs) R1 := fun R0 F H σ S A Q q =>
  h R0 F H σ S A _ fun vs F1 H1 x1 A1 e1 => by
    intro x dx hx hdx hne
    rw [List.append_nil]
    obtain ⟨y1, B1⟩ := A1.new (.own x) hdx
    have hx2 : upd H1 dx (.own x) x = none := by rw [upd_ne (Ne.symm hne)]; exact hx
    have B2 := B1.ownB (C := C) (dx := dx) hx2
    refine ⟨.o x :: es, [.ob x C dx []], R1 ++ R0, _, .d .none, [.ob x C dx fs], hs x dx, .cons rfl (e1.mono y1), B2, fun v F2 H2 x2 A2 e2 => ?_⟩
    cases e2
    obtain ⟨F3, x3, A3, hi⟩ := At.freezeB A2
    exact ⟨rfl, q _ F3 H2 (x1.trans (y1.trans (x2.trans x3))) A3 hi⟩
end
def isLstB : PyData → Bool
  | .list _ => true
  | _ => false
theorem kit_lst (d : PyData) : kitB (kindD d) "list" = some (isLstB d) := by
  cases d
  · show kitB "NoneType" "list" = some false; decide +kernel
  · show kitB "bool" "list" = some false; decide +kernel
  · show kitB "int" "list" = some false; decide +kernel
  · show kitB "str" "list" = some false; decide +kernel
  · show kitB "list" "list" = some true; decide +kernel
  · show kitB "tuple" "list" = some false; decide +kernel
  · show kitB "dict" "list" = some false; decide +kernel
end Fx

namespace FxB
open PySem PySem.Spec PyProof.Rows L2
section
variable {prog : Program} {w : World} {A : Around} {E : Value → Shared → Prop} {s : Shared}
theorem gives_bb (a b : Bool) : Gives (Builtin.«int.__sub__» ⟨[.bool a, .bool b], []⟩) (.int ((if a = true then (1 : Int) else 0) - if b = true then (1 : Int) else 0)) :=
  .of_wp fun M A E s Q h => by obtain ⟨hp, g, d, tk, os⟩ := s; wp_walk; exact ⟨_, rfl, h⟩
theorem sub_bb {a b : Bool} {Q : Value → Shared → Prop} (h : Q (.int ((if a = true then (1 : Int) else 0) - if b = true then (1 : Int) else 0) s.toks) { s with toks := s.toks + 1 }) : wpAny (model prog w) A (binaryOp .Sub (.bool a) (.bool b)) Q E s :=
  binaryOp_gives (op := .Sub) (T := "bool") (rfl : s.TypeIs (.bool a) "bool") (rfl : s.TypeIs (.bool b) "bool") F.fills_bool_sub F.slot_bool_sub F.entry_int_sub (F.args_int_sub_2 _ _) (gives_bb a b) trivial h
end
end FxB
namespace Fx
open PySem PySem.Spec PyProof.Rows L2
section
variable {X : Cx}
/-- a truth less a truth -/
def rSubB : L2.R2 := fun x y H Q => ∃ a b, x = .bl a ∧ y = .bl b ∧ Q (.int ((if a = true then (1 : Int) else 0) - if b = true then (1 : Int) else 0)) H
theorem op_subB : OpR X (binaryOp .Sub) rSubB := by
  intro pins s σ H x y v u Q I rx ry h
  obtain ⟨a, b, rfl, rfl, q⟩ := h
  cases rx
  cases ry
  exact FxB.sub_bb ⟨.int _, H, I.tok _, ⟨_, rfl⟩, q⟩
/-- // by anything but 0, rounded down -/
def CDivF (_ j : Int) : Prop := j ≠ 0 ∧ j.natAbs.log2 < 9000
theorem opDivF : OpR X (binaryOp .FloorDiv) (rI CDivF fun i j => .int (i.fdiv j)) := opI fun _ _ _ _ _ _ _ hc q => floordiv_int hc.1 q (.inl (PyProof.noPylong_of_log2 hc.2))
end
section
variable {K : PySem.W.Frag} {R : List Ow}
theorem rv_subB {a b : Bool} : Rv K rSubB (.d (.bool a)) (.d (.bool b)) R (.d (.int ((if a = true then (1 : Int) else 0) - if b = true then (1 : Int) else 0))) := fun R0 F H v u hv hu A Q q => by
  cases hv; cases hu
  exact ⟨a, b, rfl, rfl, q _ F H (Ex.refl F) A (.int _)⟩
theorem rc_gcd {a b : Int} : RcK K rGcd [.d (.int a), .d (.int b)] R (.d (.int ((Nat.gcd a.natAbs b.natAbs : Nat) : Int))) := fun R0 F H vs E A Q q => by
  obtain ⟨v, u, rfl, h, h'⟩ := ens2 E
  cases h; cases h'
  exact ⟨a, b, rfl, q _ F H (Ex.refl F) A (.int _)⟩
end
end Fx

namespace Fx
open PySem PySem.Spec PyProof.Rows L2
/-- a def's promise where nothing is being written out around it: so it may write things out (repr) -/
structure GnOk (P : Program) (w : World) (K : PySem.W.Frag) (mg : Str → Option Value) (base : Heap) (k : Nat) (f : Addr) (fd : FuncData) (ps : List Str) (sp : Sp) : Prop where
  len : ∀ vs H Q E, sp vs H Q E → vs.length = ps.length
  run : ∀ (A : Around) (outer : List Env) (s : Shared) (H : Hp) (args : Args) (us : List Value) (vs : List V) (Q : VK), Room k A → A.guards = some [] → Env0 P w K mg base A outer s H → BindsTo s fd args (ps.zip us) → Vals vs us → sp vs H Q E0 →
    codeAny (model P w) A (.call (.ref f) args) (CR CX0 outer P w H s Q E0) s
section
variable {X : Cx} {k : Nat} {f : Addr} {fd : FuncData} {ps : List Str} {sp : Sp} {x : Str} {p pos : Pos} {e : Expr} {es : List Expr} {t : TA}
theorem pe_callG (F : GnOk X.prog X.w X.K X.mg X.base k f fd ps sp) (hr : Room k X.A) (hq : X.A.guards = some []) (hg : Gl X x) (hm : X.mg x = some (.ref f)) (hk : PySem.W.keepIn X.K (.ref f) = true) (hb : Binds X.K fd ps [])
    (ha : PA X (e :: es) t) (hdb : (x == ("__debug__" : Str)) = false := by decide) (he : starEach (e :: es) X.env = (false, eval e X.env) :: starEach es X.env := by rfl) (hpl : (backTo pos (starEach es X.env)).any (·.1) = false := by rfl) :
    PE X (.Call (.Name x p) (e :: es) [] pos) (tCall sp [] E0 t) := by
  constructor
  intro pins s σ H Q I h
  apply wpAny_Call_Name_kw
  apply ld_glob I hg hm (hd := hdb)
  refine PySem.W.callWith_K (h₀ := X.base) I.ok.mod.kin hk (thn (ha.run pos pins s σ H _ I h) ?_) he hpl
  rintro us s1 ⟨vs, H1, I1, r, q⟩
  refine ⟨I1.kIn, ?_⟩
  rw [List.append_nil] at q
  have hl : us.length = ps.length := by rw [← r.length]; exact F.len _ _ _ _ q
  have b := hb s1 us I1.kIn (by rw [List.append_nil]; exact hl)
  rw [List.append_nil] at b
  refine wpAny_call (codeAny_mono (F.run X.A X.stack s1 H1 ⟨us, []⟩ us vs Q hr hq I1.env0 b r q) ?_)
  rintro (e | (u | _ | _ | _)) s' hh
  · exact (show False from hh).elim
  all_goals first | exact I1.after hh | exact (show False from hh).elim
end
theorem gn_es {P : Program} {w : World} {K : PySem.W.Frag} {mg : Str → Option Value} {base : Heap} {xn qual : Str} {st : Stmt} {f : Addr} {fd : FuncData} {N ps : List Str} {k : Nat} {S : List En → List Ow → En → List Ow → Prop} (F : Fun K xn qual st f fd) (Sc : FnScope N ps (defScope st))
    (hlen : ∀ es R e R', S es R e R' → es.length = ps.length)
    (hb : ∀ (cdv : Value) (A : Around) (outer : List Env) (s : Shared) (H : Hp) (E : XK) (es : List En) (R : List Ow) (e : En) (R' : List Ow), Room k (A.deeper (envOfC qual (defScope st) s.heap.objs.size f cdv)) → (A.deeper (envOfC qual (defScope st) s.heap.objs.size f cdv)).guards = some [] → S es R e R' →
      ∃ t, PSs (cxOf CX0 P w K mg base N qual (defScope st) f cdv A outer s H E).nox (defBody st) t ∧ Es K t (es ++ List.replicate (N.length - ps.length) .u) R { nx := fun _ R1 => e = .d .none ∧ R1 = R', rt := fun e1 R1 => e1 = e ∧ R1 = R' }) :
    GnOk P w K mg base (k + 1) f fd ps (spS K S) := by
  obtain ⟨oc, od, kV, doc, pm, an, cdv, ct, osl, rfl, lk, hcd⟩ := F.ex
  have len : ∀ vs H Q E, spS K S vs H Q E → vs.length = ps.length := by
    rintro vs H Q E ⟨es, R, R0, F1, e, R', h1, h2, _⟩
    rw [h2.len]
    exact hlen _ _ _ _ h1
  refine ⟨len, fun A outer s H args us vs Q hr hq e0 hbi rv h => ?_⟩
  have hl := len _ _ _ _ h
  refine fn_at lk hcd Sc hr e0 hbi rv hl ?_
  obtain ⟨es, R, R0, F1, e, R', h1, h2, h3, q⟩ := h
  obtain ⟨t, ht, he⟩ := hb cdv A outer s H E0 es R e R' (hr.deeper _) hq h1
  refine ⟨t, ht.nox, he R0 F1 H _ _ ?_ h3 ⟨?_, ?_, ?_, ?_⟩⟩
  · unfold L2.start
    rw [hl]
    exact h2.sls.append (Sls.us _)
  · rintro ρ R1 σ F2 H1 ⟨rfl, rfl⟩ x S1 A1
    exact q _ F2 H1 x A1 .non
  · rintro e1 R1 v F2 H1 ⟨rfl, rfl⟩ x e2 A1
    exact q _ F2 H1 x A1 e2
  · intro _ _ _ _ _ h; exact h.elim
  · intro _ _ _ _ _ h; exact h.elim
end Fx

namespace FxI
open PySem PySem.Spec PySem.Calls PySem.W PyProof.Rows
section
variable {prog : Program} {w : World} {A : Around} {E : Value → Shared → Prop} {s : Shared} {K : Frag} {x D : Addr} {ox : Obj}
/-- the class of an own error, asked of the error itself, whatever it keeps -/
theorem askCls (Z : L2.ExcC K D) {od : Option Obj} {Q : Option Value → Shared → Prop} (X : K.In s.heap) (I : InstAt s.heap x ox D od) (q : Q (some (.ref D)) { s with toks := s.toks + 1 }) :
    wpAny (model prog w) A (getAttr? (.ref x) "__class__") Q E s := by
  have found : findObj K D od "__class__" = some (.bind (.builtin "getset_descriptor.__get__") (.builtin "object.__class__")) := by
    obtain ⟨cd, hc, _⟩ := any_some Z.hd
    simp only [findObj, hc, Z.ha, Z.hn, Z.ht, Option.bind_some]
  obtain ⟨hp, g, d, t, os⟩ := s
  have k0 := I.type (M := model prog w)
  have k1 := looks_findIn (M := model prog w) X Z.hg
  have k2 := looks_findIn (M := model prog w) X Z.hk
  have k3 := looks_find (M := model prog w) X I found
  have isB : Looks (model prog w) hp (isInstance (.ref x) (.type "BaseException")) true := k0.andThen (looks_subIn X Z.hs)
  have n2 : (Value.builtin "BaseException.__getattribute__" == Value.builtin "object.__getattribute__") = false := by decide +kernel
  unfold getAttr? getAttrBy? getAttrBy
  refine wpAny_bind (wpAny_mkText (wpAny_bind (wpAny_attempt (wpAny_holding (wpAny_bind (k0.at (wpAny_bind (k1.at ?e1))))))))
  case e1 =>
  show wpAny _ _ (ite ((onTheHeap (Value.ref D) && Value.builtin "BaseException.__getattribute__" == Value.builtin "object.__getattribute__") = true) _ _) _ _ _
  rw [show (onTheHeap (Value.ref D) && Value.builtin "BaseException.__getattribute__" == Value.builtin "object.__getattribute__") = false by rw [n2]; rfl, if_neg (by decide)]
  unfold getAttrByItsOwn hookBefore
  refine wpAny_bind ?e2
  case e2 =>
  have onH : onTheHeap (Value.ref D) = true := rfl
  rw [if_pos onH]
  refine k2.at (wpAny_bind (wpAny_attempt (wpAny_holding ?e3)))
  case e3 =>
  unfold callGetattribute
  rw [show (false && onTheHeap (Value.builtin "BaseException.__getattribute__")) = false from rfl, if_neg (by decide)]
  unfold boundAndCalled
  rw [PySem.F.excAttr_ValueError.ga.bind (.ref x)]
  refine wpAny_bind (wpAny_pure ?e4)
  case e4 =>
  show wpAny _ _ (call (.builtin "BaseException.__getattribute__") [Value.ref x, Value.str "__class__" t]) _ _ _
  refine wpAny_call (codeAny_call_builtin (F.excAttr_ValueError.ga.plain) (F.entry_bexc_ga) ?e5)
  case e5 =>
  refine @check_slot (model prog w) _ _ (Shared.mk hp g d (t + 1) os) "BaseException.__getattribute__" "BaseException" "__getattribute__" (.ref x) [.str "__class__" t] [] _ (by decide +kernel) (by decide +kernel) isB (F.args_bexc_ga (.ref x) (.str "__class__" t)) ?e6
  case e6 =>
  unfold Builtin.«object.__getattribute__»
  refine wpAny_bind (wpAny_of_eq (a := (Value.ref x, [Value.str "__class__" t])) (by first | rfl | (simp only [slotArgs]; rfl)) (wpAny_bind (wpAny_pure (wpAny_bind (k0.at (wpAny_bind (k3.at ?e7)))))))
  case e7 =>
  show wpAny _ _ ((holding [Value.builtin "object.__class__"] (call (.builtin "getset_descriptor.__get__") [Value.builtin "object.__class__", Value.ref x, Value.ref D])) >>= ret) _ _ _
  refine wpAny_bind (wpAny_holding (wpAny_call (class_get (s := Shared.mk hp g d (t + 1) os) (ox := ox) (od := od) X I Z.hm ?e8)))
  case e8 =>
  refine wpAny_pure ?e9
  case e9 =>
  show wpAny _ _ (handedOut (Value.ref D)) _ _ _
  rw [handedOut_of (v := Value.ref D) rfl]
  first
    | (exact wpAny_pure (wpAny_pure q))
    | (exact wpAny_pure q)
    | (exact wpAny_pure (wpAny_bind (wpAny_pure (wpAny_pure q))))
theorem kitE (Z : L2.ExcC K D) : KitX K (.ref x) (.ref D) (fun h => ∃ od, InstAt h x ox D od) where
  ty := fun _ _ _ ⟨_, I⟩ => I.type
  it := fun M h X _ => by
    obtain ⟨cd, hc, _⟩ := any_some Z.hd
    unfold clsIn at hc
    split at hc
    · rename_i c' d' cd' sl' ho
      intro A' Q' E' s' k q
      unfold isType loadHead
      exact wpAny_bind (wpAny_loadPart (k _ _ (X _ _ ho)) (wpAny_pure q))
    · cases hc
  ne := (handS_kitx_exc (x := x) (ox := ox) Z.hg Z.hk Z.hs Z.hd Z.ha Z.hn Z.ht Z.hm).ne
  ca := fun X ⟨_, I⟩ q => askCls Z X I q
end
end FxI
namespace L2
open PySem PySem.Spec PyProof.Rows
/-- isinstance(e, C), e the error that the suite holds: its class, its dict -/
def rIsD (K : PySem.W.Frag) (C a : Addr) (cls : Value) (d : Option Addr) : List V → Hp → VK → Prop := fun xs H Q => ∃ (c : V) (cv : Value) (b : Bool) (dd : Addr) (o : List (Str × V)), xs = [.ref a, c] ∧ cls = .ref C ∧ d = some dd ∧ H dd = some (.xd o) ∧ (∀ u, RelV c u → u = cv) ∧ PySem.W.kitOne K (.ref C) cv = some b ∧ Q (.bl b) H
theorem call_isD {X : Cx} {a C : Addr} {cls : Value} {d : Option Addr} {oe : Obj} {pn : List (Addr × Obj)} (Z : ExcC X.K C) (hz : Zc cls d oe) (hf : ∃ vs, oe.data = .fields vs) :
    CallR (X.suite a ((a, oe) :: pn)) (.builtin "isinstance") (rIsD X.K C a cls d) := by
  intro pins s σ H xs us Q I r h
  obtain ⟨c, cv, b, dd, o, rfl, rfl, rfl, hdd, hcv, e, q⟩ := h
  cases r with
  | cons rx rr => cases rr with
    | cons rt rr =>
      cases rr; cases rx
      have ec := hcv _ rt
      subst ec
      obtain ⟨hget, _⟩ := I.pin (a, oe) (List.mem_append.mpr (Or.inl (List.mem_cons_self)))
      obtain ⟨vs, hv⟩ := hf
      obtain ⟨mA, hns, _⟩ : ObjOk X.prog X.w H s.heap dd (.xd o) := I.hok dd _ hdd
      obtain ⟨od, ho, _⟩ := lookIn_ns hns
      have J : PySem.W.InstAt s.heap a oe C (some od) := ⟨hget, hz.1, by unfold PySem.W.notCls; rw [hv] <;> rfl, by rw [hz.2]; exact ho⟩
      exact PySem.W.kia_one (FxI.kitE Z) I.kIn ⟨_, J⟩ e (fun z => nomatch z) fun tk => ⟨.bl b, H, I.kept (t' := tk) fun _ _ z => z, rfl, q⟩
end L2

namespace Fx
open PySem PySem.Spec PyProof.Rows L2
section
variable {K : PySem.W.Frag} {ρ ρ1 ρ2 ρ3 : List En} {R R1 Rz R3 : List Ow} {te ta tb : TE}
theorem eg_two {g1 g2 : TG} {d1 d2 : PyData} (h1 : Eg K g1 (.d d1) ρ ρ1) (h2 : Eg K g2 (.d d2) ρ1 ρ2) : Eg K (gTup K 2 (gCons g1 (gCons g2 gNil))) (.d (.tuple [d1, d2])) ρ ρ2 := fun R F H σ v S A hv Q q => by
  cases hv with
  | tup w1 w2 => cases w2 with
    | cons a b => cases b with
      | cons b c =>
        cases c
        exact ⟨_, _, rfl, ex_t A.ex w1, rfl, _, _, rfl, h1 R F H σ _ S A a _ fun σ1 S1 => ⟨_, _, rfl, h2 R F H σ1 _ S1 A b _ fun σ2 S2 => ⟨rfl, q σ2 S2⟩⟩⟩
theorem eg_three {g1 g2 g3 : TG} {d1 d2 d3 : PyData} (h1 : Eg K g1 (.d d1) ρ ρ1) (h2 : Eg K g2 (.d d2) ρ1 ρ2) (h3 : Eg K g3 (.d d3) ρ2 ρ3) : Eg K (gTup K 3 (gCons g1 (gCons g2 (gCons g3 gNil)))) (.d (.tuple [d1, d2, d3])) ρ ρ3 := fun R F H σ v S A hv Q q => by
  cases hv with
  | tup w1 w2 => cases w2 with
    | cons a b => cases b with
      | cons b c => cases c with
        | cons c e =>
          cases e
          exact ⟨_, _, rfl, ex_t A.ex w1, rfl, _, _, rfl, h1 R F H σ _ S A a _ fun σ1 S1 => ⟨_, _, rfl, h2 R F H σ1 _ S1 A b _ fun σ2 S2 => ⟨_, _, rfl, h3 R F H σ2 _ S2 A c _ fun σ3 S3 => ⟨rfl, q σ3 S3⟩⟩⟩⟩
/-- an owned list is only read from here on -/
theorem es_thaw {ts : TS} {P : Post} {i : Nat} {a : Addr} {ds : List PyData} {Ra Rb : List Ow} (hi : ρ[i]? = some (.o a)) (h : Es K ts (ρ.set i (.d (.list ds))) (Ra ++ Rb) P) : Es K ts ρ (Ra ++ .ls a ds :: Rb) P := fun R0 F H σ D S A p => by
  obtain ⟨s, h1, h2⟩ := S.get hi
  cases h2
  have A1 : At K F (.ls a ds :: (Ra ++ Rb ++ R0)) H := A.perm (by
    rw [List.append_assoc, List.cons_append, List.append_assoc]
    exact List.perm_middle)
  obtain ⟨F1, x, A2, d⟩ := A1.freeze
  have hs : σ.set i (some (.ref a)) = σ := by
    apply List.ext_getElem?
    intro j
    rw [List.getElem?_set]
    by_cases hj : i = j
    · subst hj
      have hlt : i < σ.length := (List.getElem?_eq_some_iff.mp h1).1
      rw [if_pos rfl, if_pos hlt]
      exact h1.symm
    · rw [if_neg hj]
  have S1 : Sls K F1 σ (ρ.set i (.d (.list ds))) := by
    have := (S.mono x).set i (s := some (.ref a)) (e := .d (.list ds)) ⟨_, rfl, d⟩
    rw [hs] at this
    exact this
  exact h R0 F1 H σ D S1 A2 (p.mono x)
def rInsert : V → List V → Hp → VK → Prop := fun x vs H Q => ∃ (l : Addr) (xs : List V) (i : Int) (y : V), x = .ref l ∧ vs = [.int i, y] ∧ H l = some (.lst xs) ∧ xs.length < sizeLine ∧ 0 ≤ i ∧ i < 2 ^ 63 ∧ Q .non (upd H l (.lst (xs.take i.toNat ++ [y] ++ xs.drop i.toNat)))
theorem ev_insert {to : TE} {ts : TA} {a : Addr} {ds ds0 : List PyData} {i : Int} {d : PyData} {Ra Rb : List Ow} (ho : Ev K to ρ R (.o a) R1) (hm : .ls a ds0 ∈ R1) (hd : Ea K ts ρ R1 [.d (.int i), .d d] (Ra ++ .ls a ds :: Rb)) (hl : ds.length < sizeLine) (h0 : 0 ≤ i) (h1 : i < 2 ^ 63) :
    Ev K (tBM K "list" rInsert to ts) ρ R (.d .none) (Ra ++ .ls a (ds.take i.toNat ++ [d] ++ ds.drop i.toNat) :: Rb) := fun R0 F H σ S A Q q =>
  ho R0 F H σ S A _ fun v F1 H1 x1 A1 e1 => by
    cases e1
    obtain ⟨_, ws, w1, w2⟩ := A1.own (.ls a ds0) (by simp [hm])
    refine ⟨.inl ⟨rfl, ws, .inl (.inl w1)⟩, hd R0 F1 H1 σ (S.mono x1) A1 _ fun vs F2 H2 x2 A2 e2 => ?_⟩
    obtain ⟨u, v, rfl, hu, hv⟩ := ens2 e2
    cases hu
    obtain ⟨us, w3, w4⟩ := at_ls A2
    refine ⟨a, us, i, v, rfl, rfl, w3, by rw [w4.len]; exact hl, h0, h1, ?_⟩
    refine q _ F2 _ (x1.trans x2) ?_ .non
    rw [List.append_assoc, List.cons_append] at A2 ⊢
    exact A2.updL (((w4.take _).append (.cons hv .nil)).append (w4.drop _))
theorem rc_listL {ds : List PyData} : RcK K (rListS K) [.d (.list ds)] R (.d (.list ds)) := fun R0 F H vs E A Q q => by
  obtain ⟨v, rfl, h⟩ := ens1 E
  obtain ⟨a, ws, rfl, h1, h2⟩ := Dt.listD h
  refine ⟨a, ws, rfl, .inl (A.sqL h1), fun p hp => ?_⟩
  obtain ⟨x, A1⟩ := A.new (.lst ws) hp
  exact q _ _ _ x A1 (.lst upd_same (h2.mono x _))
/-! ### what may be written out -/
structure Sh (d : PyData) (k n : Nat) : Prop where
  s : PyData.showable d = true
  h : PyData.hasDict d = false
  e : PyData.depth d ≤ k
  l : PyData.leavesShort 2000 d = true
  b : PyData.bulk d ≤ n
structure ShA (ds : List PyData) (k n : Nat) : Prop where
  s : PyData.showableAll ds = true
  h : PyData.hasDictAll ds = false
  e : PyData.depthAll ds ≤ k
  l : PyData.leavesShortAll 2000 ds = true
  b : PyData.bulkAll ds ≤ n
theorem Sh.mono {d : PyData} {k n k' n' : Nat} (h : Sh d k n) (h1 : k ≤ k' := by omega) (h2 : n ≤ n' := by omega) : Sh d k' n' := ⟨h.s, h.h, Nat.le_trans h.e h1, h.l, Nat.le_trans h.b h2⟩
theorem ShA.nil {k n : Nat} : ShA [] k n := ⟨rfl, rfl, Nat.zero_le _, rfl, Nat.zero_le _⟩
theorem ShA.cons {d : PyData} {ds : List PyData} {k n m : Nat} (h : Sh d k n) (t : ShA ds k m) : ShA (d :: ds) k (n + 1 + m) := by
  refine ⟨?_, ?_, ?_, ?_, ?_⟩
  · show (PyData.showable d && PyData.showableAll ds) = true
    rw [h.s, t.s]; rfl
  · show (PyData.hasDict d || PyData.hasDictAll ds) = false
    rw [h.h, t.h]; rfl
  · show max (PyData.depth d) (PyData.depthAll ds) ≤ k
    exact Nat.max_le.mpr ⟨h.e, t.e⟩
  · show (PyData.leavesShort 2000 d && PyData.leavesShortAll 2000 ds) = true
    rw [h.l, t.l]; rfl
  · show PyData.bulk d + 1 + PyData.bulkAll ds ≤ _
    have := h.b
    have := t.b
    omega
theorem ShA.all {α : Type} {f : α → PyData} {k n : Nat} : ∀ {l : List α}, (∀ a ∈ l, Sh (f a) k n) → ShA (l.map f) k ((n + 1) * l.length)
  | [], _ => .nil
  | a :: l, h => by
    have := ShA.cons (h a (by simp)) (ShA.all (l := l) fun b hb => h b (by simp [hb]))
    have e : n + 1 + (n + 1) * l.length = (n + 1) * (a :: l).length := by rw [List.length_cons, Nat.mul_succ]; omega
    rw [e] at this
    exact this
theorem ShA.list {ds : List PyData} {k n : Nat} (h : ShA ds k n) : Sh (.list ds) (k + 1) n := ⟨h.s, h.h, Nat.succ_le_succ h.e, h.l, h.b⟩
theorem ShA.tuple {ds : List PyData} {k n : Nat} (h : ShA ds k n) : Sh (.tuple ds) (k + 1) n := ⟨h.s, h.h, Nat.succ_le_succ h.e, h.l, h.b⟩
theorem Sh.int {i : Int} {k n : Nat} (h : i.natAbs < 2 ^ 1900) : Sh (.int i) k n := by
  have hl : (PyData.shown (.int i)).length ≤ 2000 := by
    have h2 := int_text_length_le10 (a := i) (k := 572) (by decide) (Nat.lt_of_lt_of_le h (by decide +kernel))
    show (Str.ofString (toString i)).length ≤ 2000
    rw [PySem.ofString_length]
    omega
  refine ⟨?_, rfl, Nat.zero_le _, decide_eq_true hl, Nat.zero_le _⟩
  show decide (i.natAbs.log2 < 1920) = true
  refine decide_eq_true ?_
  by_cases h0 : i.natAbs = 0
  · rw [h0]; decide
  · exact Nat.lt_trans ((Nat.log2_lt h0).mpr h) (by decide)
theorem rc_reprS {d : PyData} {k n : Nat} (h : Sh d k n) (hk : k ≤ 60 := by omega) (hn : n ≤ 1000 := by omega) : RcK K (rRepr K) [.d d] R (.d (.str (PyData.shown d))) := by
  refine rc_repr h.s h.h (Nat.le_trans h.e hk) ?_
  exact Nat.le_trans (PyData.shown_le_bulk 2000 (by decide) d h.l) (Nat.le_trans (Nat.add_le_add_right (Nat.mul_le_mul_left _ (Nat.le_trans h.b hn)) _) (by decide))
theorem eq_str {a b : Str} (h : a = b) : Rv K rNe (.d (.str a)) (.d (.str b)) R (.d (.bool false)) := by
  subst h
  exact rv_neSS
theorem eq_strT {a b : Str} (h : a = b) : Rv K rEq (.d (.str a)) (.d (.str b)) R (.d (.bool true)) := fun R0 F H v u hv hu A Q q => by
  subst h
  cases hv; cases hu
  refine ⟨rfl, ?_⟩
  rw [decide_eq_true (show V.str a = V.str a from rfl)]
  exact q _ F H (Ex.refl F) A (.bl _)
/-- one of some texts -/
theorem rv_notIn {a : Str} {l : List Str} (h : a ∈ l) : Rv K (rIn K true) (.d (.str a)) (.d (.list (l.map .str))) R (.d (.bool false)) := fun R0 F H v u hv hu A Q q => by
  cases hv
  obtain ⟨p, ws, rfl, h1, h2⟩ := Dt.listD hu
  have hw : ∀ {F : Hp} {ws : List V} {l : List Str}, Dts K F ws (l.map .str) → ws = l.map .str := by
    intro F ws l
    induction l generalizing ws with
    | nil => intro h; cases h; rfl
    | cons x l ih =>
      intro h
      cases h with
      | cons a b => cases a; rw [ih b]; rfl
  have e := hw h2
  subst e
  refine ⟨p, l.map .str, rfl, .inl (A.sqL h1), rfl, ?_, ?_⟩
  · rw [List.all_eq_true]
    intro x hx
    obtain ⟨y, _, rfl⟩ := List.mem_map.mp hx
    rfl
  · have hin : inV (.str a) (l.map .str) = true := by
      unfold inV
      rw [List.any_eq_true]
      exact ⟨.str a, List.mem_map.mpr ⟨a, h, rfl⟩, by simp [eqV]⟩
    rw [hin]
    exact q _ F H (Ex.refl F) A (.bl false)
theorem ev_callKOE {C : Addr} {Sg : List En → En → Prop} {Sx : List En → Str → Prop} {tk : TA} {es es' : List En} {e : En} {gV : List V → List V → List V} {sp : Sp} (hsp : ∀ vs H Q E F R0, Ens K F vs es' → At K F R0 H → (∀ v F1 H1, Ex F F1 → At K F1 R0 H1 → EnOk K F1 v e → Q v H1) → sp vs H Q E) (h : Ea K tk ρ R es R1) (hg : ∀ F vs, Ens K F vs es → Ens K F (gV [] vs) es') :
    Ev K (tCallKO sp gV E0 tk) ρ R e R1 := fun R0 F H σ S A Q q =>
  h R0 F H σ S A _ fun vs F1 H1 x1 A1 e1 => hsp _ _ _ _ F1 _ (hg F1 vs e1) A1 fun v F2 H2 x2 A2 e2 => q v F2 H2 (x1.trans x2) A2 e2
theorem ens_one {F : Hp} {vs : List V} {a : En} (h : Ens K F vs [a]) : Ens K F ((fun (us ws : List V) => match us, ws with | [], [u0] => [u0] | _, _ => []) [] vs) [a] := by
  cases h with
  | cons h1 h => cases h; exact .cons h1 .nil
theorem ens_two {F : Hp} {vs : List V} {a b : En} (h : Ens K F vs [a, b]) : Ens K F ((fun (us ws : List V) => match us, ws with | [], [u0, u1] => [u1, u0] | _, _ => []) [] vs) [b, a] := by
  cases h with
  | cons h1 h => cases h with
    | cons h2 h => cases h; exact .cons h2 (.cons h1 .nil)
theorem ev_callKP {Sf : List En → List Ow → En → List Ow → Prop} {tk : TA} {e : En} {es es' : List En} {gV : List V → List V → List V} (hs : Sf es' [] e []) (h : Ea K tk ρ R es R1) (hg : ∀ F vs, Ens K F vs es → Ens K F (gV [] vs) es') : Ev K (tCallKO (spS K Sf) gV E0 tk) ρ R e R1 := by
  have := ev_callKO (Rc := []) (Rc' := []) (Rf := R1) hs h hg
  exact this
theorem et_truB {b : Bool} (h : Ev K te ρ R (.d (.bool b)) R1) : Et K (fun σ H Q => te σ H fun x H' => ∃ k, TruV K x H' k ∧ Q k H') ρ R b R1 := et_tru h (by intro s hs; cases hs)
theorem es_par3 {P : Post} {i j l : Nat} {ta : TA} {e1 e2 e3 : En} (h : Ea K ta ρ R [e1, e2, e3] R1) (hn : P.nx (((ρ.set i e1).set j e2).set l e3) R1) : Es K (tPar3 i j l ta) ρ R P := fun R0 F H σ D S A p =>
  h R0 F H σ S A _ fun vs F1 H1 x1 A1 ee => by
    cases ee with
    | cons a b => cases b with
      | cons b c => cases c with
        | cons c e =>
          cases e
          exact ⟨_, _, _, rfl, p.nx _ R1 _ F1 H1 hn x1 ((((S.mono x1).set i (.of a)).set j (.of b)).set l (.of c)) A1⟩
end
end Fx

namespace Fx
open PySem PySem.Spec PyProof.Rows L2 StX RZ
section
variable {K : PySem.W.Frag} {ρ : List En} {R R1 : List Ow} {te : TE}
theorem rgV_nat (n : Nat) : rgV 0 (n : Int) = ((List.range n).map fun (i : Nat) => (i : Int)).map V.int := by
  unfold rgV
  rw [List.map_map]
  have : ((n : Int) - 0).toNat = n := by omega
  rw [this]
  refine List.map_congr_left fun i _ => ?_
  show V.int (0 + (i : Int)) = V.int (i : Int)
  rw [Int.zero_add]
/-- list(range(n)) -/
theorem ev_listRg {n : Nat} (h : Ev K te ρ R (.d (.int (n : Int))) R1) (hn : n ≤ 1000000) : Ev K (tLstRg (tRg1 te)) ρ R (.d (.list ((List.range n).map fun (i : Nat) => PyData.int (i : Int)))) R1 := fun R0 F H σ S A Q q => by
  refine h R0 F H σ S A _ fun v F1 H1 x1 A1 e1 => ?_
  cases e1
  refine ⟨_, rfl, RgOk.of_le (by omega) (by omega) (by omega) (by omega), fun p hp => ?_⟩
  obtain ⟨x, A2⟩ := A1.new (.lst (rgV 0 (n : Int))) hp
  refine q _ _ _ (x1.trans x) A2 (.lst upd_same ?_)
  have e : ((List.range n).map fun (i : Nat) => PyData.int (i : Int)) = ((List.range n).map fun (i : Nat) => (i : Int)).map .int := by rw [List.map_map]; rfl
  rw [e, rgV_nat]
  exact Dts.of_ints _
end
end Fx

namespace K58
open PySem PySem.Spec PyProof.Rows L2 StX RZ Fx
def topS (i : Nat) : Stmt := PySem.Challenge.pw_servedall_k58_trips_and_all_in_prices.main.body.getD i (.Pass ⟨0, 0, 0, 0⟩)
abbrev s_is_int : Stmt := topS 4
abbrev s_is_number : Stmt := topS 5
abbrev s_is_tuple_of : Stmt := topS 6
abbrev s_sublots : Stmt := topS 7
abbrev s_number_fault : Stmt := topS 8
abbrev s_is_trips : Stmt := topS 10
abbrev s_need_trips : Stmt := topS 11
abbrev s__nearest : Stmt := topS 12
abbrev s_nearest_open : Stmt := topS 13
abbrev s_all_in : Stmt := topS 14
abbrev s_least_all_in : Stmt := topS 15
abbrev s__law_deal : Stmt := topS 17
abbrev s__law_any : Stmt := topS 18
abbrev s__law_of : Stmt := topS 19
abbrev s__law_trips : Stmt := topS 20
abbrev s__law_tree : Stmt := topS 21
abbrev s__law_tree_trips : Stmt := topS 22
abbrev s__law_lots : Stmt := topS 23
abbrev s__law_all_in : Stmt := topS 24
abbrev s__law_prices : Stmt := topS 25
abbrev s__law_turned : Stmt := topS 26
abbrev s__law_are_trips : Stmt := topS 27
abbrev s__law_word : Stmt := topS 28
abbrev s_law : Stmt := topS 29

structure Txt (K : PySem.W.Frag) (mg : Str → Option Value) where
  a_is_int : Addr
  d_is_int : FuncData
  f_is_int : Fun K "is_int" "is_int" s_is_int a_is_int d_is_int
  g_is_int : mg "is_int" = some (.ref a_is_int)
  b_is_int : Binds K d_is_int ["value"] []
  a_is_number : Addr
  d_is_number : FuncData
  f_is_number : Fun K "is_number" "is_number" s_is_number a_is_number d_is_number
  g_is_number : mg "is_number" = some (.ref a_is_number)
  b_is_number : Binds K d_is_number ["value"] []
  a_is_tuple_of : Addr
  d_is_tuple_of : FuncData
  f_is_tuple_of : Fun K "is_tuple_of" "is_tuple_of" s_is_tuple_of a_is_tuple_of d_is_tuple_of
  g_is_tuple_of : mg "is_tuple_of" = some (.ref a_is_tuple_of)
  b_is_tuple_of : Binds K d_is_tuple_of ["value", "many"] []
  a_sublots : Addr
  d_sublots : FuncData
  f_sublots : Fun K "sublots" "sublots" s_sublots a_sublots d_sublots
  g_sublots : mg "sublots" = some (.ref a_sublots)
  b_sublots : Binds K d_sublots ["things"] []
  a_number_fault : Addr
  d_number_fault : FuncData
  f_number_fault : Fun K "number_fault" "number_fault" s_number_fault a_number_fault d_number_fault
  g_number_fault : mg "number_fault" = some (.ref a_number_fault)
  b_number_fault : Binds K d_number_fault ["things"] []
  a_is_trips : Addr
  d_is_trips : FuncData
  f_is_trips : Fun K "is_trips" "is_trips" s_is_trips a_is_trips d_is_trips
  g_is_trips : mg "is_trips" = some (.ref a_is_trips)
  b_is_trips : Binds K d_is_trips ["value"] []
  a_need_trips : Addr
  d_need_trips : FuncData
  f_need_trips : Fun K "need_trips" "need_trips" s_need_trips a_need_trips d_need_trips
  g_need_trips : mg "need_trips" = some (.ref a_need_trips)
  b_need_trips : Binds K d_need_trips ["value"] []
  a__nearest : Addr
  d__nearest : FuncData
  f__nearest : Fun K "_nearest" "_nearest" s__nearest a__nearest d__nearest
  g__nearest : mg "_nearest" = some (.ref a__nearest)
  b__nearest : Binds K d__nearest ["row", "opening"] []
  a_nearest_open : Addr
  d_nearest_open : FuncData
  f_nearest_open : Fun K "nearest_open" "nearest_open" s_nearest_open a_nearest_open d_nearest_open
  g_nearest_open : mg "nearest_open" = some (.ref a_nearest_open)
  b_nearest_open : Binds K d_nearest_open ["trips", "opening"] []
  a_all_in : Addr
  d_all_in : FuncData
  f_all_in : Fun K "all_in" "all_in" s_all_in a_all_in d_all_in
  g_all_in : mg "all_in" = some (.ref a_all_in)
  b_all_in : Binds K d_all_in ["trips", "prices", "opening"] []
  a_least_all_in : Addr
  d_least_all_in : FuncData
  f_least_all_in : Fun K "least_all_in" "least_all_in" s_least_all_in a_least_all_in d_least_all_in
  g_least_all_in : mg "least_all_in" = some (.ref a_least_all_in)
  b_least_all_in : Binds K d_least_all_in ["trips", "prices"] []
  a__law_deal : Addr
  d__law_deal : FuncData
  f__law_deal : Fun K "_law_deal" "_law_deal" s__law_deal a__law_deal d__law_deal
  g__law_deal : mg "_law_deal" = some (.ref a__law_deal)
  b__law_deal : Binds K d__law_deal ["script", "base"] []
  a__law_any : Addr
  d__law_any : FuncData
  f__law_any : Fun K "_law_any" "_law_any" s__law_any a__law_any d__law_any
  g__law_any : mg "_law_any" = some (.ref a__law_any)
  b__law_any : Binds K d__law_any ["deal", "bound"] []
  a__law_of : Addr
  d__law_of : FuncData
  f__law_of : Fun K "_law_of" "_law_of" s__law_of a__law_of d__law_of
  g__law_of : mg "_law_of" = some (.ref a__law_of)
  b__law_of : Binds K d__law_of ["deal", "some"] []
  a__law_trips : Addr
  d__law_trips : FuncData
  f__law_trips : Fun K "_law_trips" "_law_trips" s__law_trips a__law_trips d__law_trips
  g__law_trips : mg "_law_trips" = some (.ref a__law_trips)
  b__law_trips : Binds K d__law_trips ["deal", "most"] []
  a__law_tree : Addr
  d__law_tree : FuncData
  f__law_tree : Fun K "_law_tree" "_law_tree" s__law_tree a__law_tree d__law_tree
  g__law_tree : mg "_law_tree" = some (.ref a__law_tree)
  b__law_tree : Binds K d__law_tree ["deal", "most"] []
  a__law_tree_trips : Addr
  d__law_tree_trips : FuncData
  f__law_tree_trips : Fun K "_law_tree_trips" "_law_tree_trips" s__law_tree_trips a__law_tree_trips d__law_tree_trips
  g__law_tree_trips : mg "_law_tree_trips" = some (.ref a__law_tree_trips)
  b__law_tree_trips : Binds K d__law_tree_trips ["deal", "most"] []
  a__law_lots : Addr
  d__law_lots : FuncData
  f__law_lots : Fun K "_law_lots" "_law_lots" s__law_lots a__law_lots d__law_lots
  g__law_lots : mg "_law_lots" = some (.ref a__law_lots)
  b__law_lots : Binds K d__law_lots ["many"] []
  a__law_all_in : Addr
  d__law_all_in : FuncData
  f__law_all_in : Fun K "_law_all_in" "_law_all_in" s__law_all_in a__law_all_in d__law_all_in
  g__law_all_in : mg "_law_all_in" = some (.ref a__law_all_in)
  b__law_all_in : Binds K d__law_all_in ["trips", "prices", "opening"] []
  a__law_prices : Addr
  d__law_prices : FuncData
  f__law_prices : Fun K "_law_prices" "_law_prices" s__law_prices a__law_prices d__law_prices
  g__law_prices : mg "_law_prices" = some (.ref a__law_prices)
  b__law_prices : Binds K d__law_prices ["deal", "many"] []
  a__law_turned : Addr
  d__law_turned : FuncData
  f__law_turned : Fun K "_law_turned" "_law_turned" s__law_turned a__law_turned d__law_turned
  g__law_turned : mg "_law_turned" = some (.ref a__law_turned)
  b__law_turned : Binds K d__law_turned ["deal", "trips"] []
  a__law_are_trips : Addr
  d__law_are_trips : FuncData
  f__law_are_trips : Fun K "_law_are_trips" "_law_are_trips" s__law_are_trips a__law_are_trips d__law_are_trips
  g__law_are_trips : mg "_law_are_trips" = some (.ref a__law_are_trips)
  b__law_are_trips : Binds K d__law_are_trips ["value"] []
  a__law_word : Addr
  d__law_word : FuncData
  f__law_word : Fun K "_law_word" "_law_word" s__law_word a__law_word d__law_word
  g__law_word : mg "_law_word" = some (.ref a__law_word)
  b__law_word : Binds K d__law_word ["value"] []
  a_law : Addr
  d_law : FuncData
  f_law : Fun K "law" "law" s_law a_law d_law
  g_law : mg "law" = some (.ref a_law)
  b_law : Binds K d_law ["script"] []
  k_all_in_opening_prices_trips : KBinds K d_all_in ["trips", "prices", "opening"] ["opening", "prices", "trips"] (fun us ws => match us, ws with | [], [u0, u1, u2] => [u2, u1, u0] | _, _ => []) (fun us ws => match us, ws with | [], [u0, u1, u2] => [u2, u1, u0] | _, _ => [])
  k_least_all_in_prices_trips : KBinds K d_least_all_in ["trips", "prices"] ["prices", "trips"] (fun us ws => match us, ws with | [], [u0, u1] => [u1, u0] | _, _ => []) (fun us ws => match us, ws with | [], [u0, u1] => [u1, u0] | _, _ => [])
  k_nearest_open_opening_trips : KBinds K d_nearest_open ["trips", "opening"] ["opening", "trips"] (fun us ws => match us, ws with | [], [u0, u1] => [u1, u0] | _, _ => []) (fun us ws => match us, ws with | [], [u0, u1] => [u1, u0] | _, _ => [])
  k_need_trips_value : KBinds K d_need_trips ["value"] ["value"] (fun us ws => match us, ws with | [], [u0] => [u0] | _, _ => []) (fun us ws => match us, ws with | [], [u0] => [u0] | _, _ => [])
  n_abs : mg "abs" = none
  n_all : mg "all" = none
  n_bool : mg "bool" = none
  n_enumerate : mg "enumerate" = none
  n_int : mg "int" = none
  n_isinstance : mg "isinstance" = none
  n_len : mg "len" = none
  n_list : mg "list" = none
  n_min : mg "min" = none
  n_range : mg "range" = none
  n_repr : mg "repr" = none
  n_sum : mg "sum" = none
  n_tuple : mg "tuple" = none
  n_zip : mg "zip" = none

theorem small {n : Nat} (h : n ≤ 1000000) : n ≤ sizeLine := Nat.le_trans h (by decide)
theorem smallL {n : Nat} (h : n < 1000000) : n < sizeLine := Nat.lt_of_lt_of_le h (by decide)
def isIntD : PyData → Bool
  | .int _ => true
  | _ => false
def isNumD : PyData → Bool
  | .int i => decide (0 ≤ i)
  | _ => false
end K58

namespace K58
open PySem PySem.Spec PyProof.Rows L2 StX RZ Fx
section
variable {P : Program} {w : World} {K : PySem.W.Frag} {mg : Str → Option Value} {base : Heap}
theorem sc_is_int : FnScope ["value"] ["value"] (defScope s_is_int) := ⟨rfl, rfl, rfl, by decide +kernel, rfl, by decide +kernel, by decide +kernel⟩

def S_is_int : List En → List Ow → En → List Ow → Prop := fun es R e R' => ∃ d, es = [.d d] ∧ R = [] ∧ R' = [] ∧ e = .d (.bool (isIntD d))
theorem ok_is_int (T : Txt K mg) : FnOk P w K mg base CX0 1 T.a_is_int T.d_is_int ["value"] (spS K S_is_int) := by
  refine fn_es T.f_is_int sc_is_int ?len (fun cdv A outer s H E es R e R' hr hS => ?body)
  case len => rintro _ _ _ _ ⟨d, rfl, _⟩; rfl
  case body =>
    obtain ⟨d, rfl, rfl, rfl, rfl⟩ := hS
    refine ⟨_, (pss_one (ps_ret (pe_and (pe_callB (callIsi (K := K)) (by rfl) T.n_isinstance (by decide +kernel) (pa_cons (pv 0) (pa_cons (pe_bltn (by rfl) T.n_int (by decide +kernel) (v := .ty "int") rfl) pa_nil))) (pe_one (pe_not (pe_callB (callIsi (K := K)) (by rfl) T.n_isinstance (by decide +kernel) (pa_cons (pv 0) (pa_cons (pe_bltn (by rfl) T.n_bool (by decide +kernel) (v := .ty "bool") rfl) pa_nil)))))))), ?_⟩
    have e : isIntD d = (isIntB d && !isBoolB d) := by cases d <;> rfl
    rw [e]
    refine es_ret (ev_andV (ev_cb (ea_cons (ev_d rfl) (ea_cons ev_v ea_nil)) (rc_isi (kit_int d))) fun _ => ?_) ⟨rfl, rfl⟩
    exact ev_notV (ev_cb (ea_cons (ev_d rfl) (ea_cons ev_v ea_nil)) (rc_isi (kit_bool d)))
theorem sc_is_number : FnScope ["value"] ["value"] (defScope s_is_number) := ⟨rfl, rfl, rfl, by decide +kernel, rfl, by decide +kernel, by decide +kernel⟩

def S_is_number : List En → List Ow → En → List Ow → Prop := fun es R e R' => ∃ d, es = [.d d] ∧ R = [] ∧ R' = [] ∧ e = .d (.bool (isNumD d))
theorem ok_is_number (T : Txt K mg) : FnOk P w K mg base CX0 2 T.a_is_number T.d_is_number ["value"] (spS K S_is_number) := by
  refine fn_es T.f_is_number sc_is_number ?len (fun cdv A outer s H E es R e R' hr hS => ?body)
  case len => rintro _ _ _ _ ⟨d, rfl, _⟩; rfl
  case body =>
    obtain ⟨d, rfl, rfl, rfl, rfl⟩ := hS
    refine ⟨_, (pss_one (ps_ret (pe_and (pe_call (ok_is_int T) (hr.mono (by decide)) (by rfl) T.g_is_int T.f_is_int.kp T.b_is_int .nil pass0 (pa_cons (pv 0) pa_nil)) (pe_one (pe_cmpR op_ge (pv 0) pe_int (nomark _)))))), ?_⟩
    have e : isNumD d = (isIntD d && isNumD d) := by cases d <;> simp [isNumD, isIntD]
    rw [e]
    refine es_ret (ev_andV (ev_callP ⟨d, rfl, rfl, rfl, rfl⟩ (ea_cons (ev_d rfl) ea_nil)) fun h => ?_) ⟨rfl, rfl⟩
    cases d with
    | int i => exact ev_op (ev_d rfl) ev_int rv_bl
    | _ => cases h
theorem sc_is_tuple_of : FnScope ["value", "many"] ["value", "many"] (defScope s_is_tuple_of) := ⟨rfl, rfl, rfl, by decide +kernel, rfl, by decide +kernel, by decide +kernel⟩

def lenT : PyData → Int
  | .tuple xs => xs.length
  | _ => -1
def S_is_tuple_of : List En → List Ow → En → List Ow → Prop := fun es R e R' => ∃ d, ∃ n : Nat, es = [.d d, .d (.int n)] ∧ R = [] ∧ R' = [] ∧ e = .d (.bool (isTupB d && decide (lenT d = n)))
theorem ok_is_tuple_of (T : Txt K mg) : FnOk P w K mg base CX0 1 T.a_is_tuple_of T.d_is_tuple_of ["value", "many"] (spS K S_is_tuple_of) := by
  refine fn_es T.f_is_tuple_of sc_is_tuple_of ?len (fun cdv A outer s H E es R e R' hr hS => ?body)
  case len => rintro _ _ _ _ ⟨d, n, rfl, _⟩; rfl
  case body =>
    obtain ⟨d, n, rfl, rfl, rfl, rfl⟩ := hS
    refine ⟨_, (pss_one (ps_ret (pe_and (pe_callB (callIsi (K := K)) (by rfl) T.n_isinstance (by decide +kernel) (pa_cons (pv 0) (pa_cons (pe_bltn (by rfl) T.n_tuple (by decide +kernel) (v := .ty "tuple") rfl) pa_nil))) (pe_one (pe_cmpR (opEqD (K := K) hr) (pe_callB (callLen (K := K)) (by rfl) T.n_len (by decide +kernel) (pa_cons (pv 0) pa_nil)) (pv 1) (nomark _)))))), ?_⟩
    refine es_ret (ev_andV (ev_cb (ea_cons (ev_d rfl) (ea_cons ev_v ea_nil)) (rc_isi (kit_tup d))) fun h => ?_) ⟨rfl, rfl⟩
    cases d with
    | tuple xs => exact ev_op (ev_cb (ea_cons (ev_d rfl) ea_nil) rc_lenT) (ev_d rfl) rv_eqI
    | _ => cases h
abbrev tN (o : List Nat) : PyData := .tuple (o.map fun (n : Nat) => PyData.int (n : Int))
def rowAt (r : List Int) (h : Nat) : Int := r.getD h 0
def cheap (r : List Int) (o : List Nat) : Int := minI (o.map (rowAt r))
def nearF (r : List Int) (o : List Nat) : Nat := (o.filter fun h => decide (rowAt r h = cheap r o)).getD 0 0
theorem near_ne {r : List Int} {o : List Nat} (h : o ≠ []) : 0 < (o.filter fun h => decide (rowAt r h = cheap r o)).length := by
  have h1 : cheap r o ∈ o.map (rowAt r) := minI_mem (by simpa using h)
  obtain ⟨a, h2, h3⟩ := List.mem_map.mp h1
  exact List.length_pos_iff_exists_mem.mpr ⟨a, List.mem_filter.mpr ⟨h2, by simp [h3]⟩⟩
theorem nearF_mem {r : List Int} {o : List Nat} (h : o ≠ []) : nearF r o ∈ o ∧ rowAt r (nearF r o) = cheap r o := by
  have h1 := near_ne (r := r) h
  have h2 : nearF r o ∈ o.filter fun h => decide (rowAt r h = cheap r o) := by
    unfold nearF
    rw [List.getD_eq_getElem?_getD, List.getElem?_eq_getElem h1]
    exact List.getElem_mem _
  have h3 := List.mem_filter.mp h2
  exact ⟨h3.1, of_decide_eq_true h3.2⟩
theorem sc__nearest : FnScope ["row", "opening", "cheapest", "house"] ["row", "opening"] (defScope s__nearest) := ⟨rfl, rfl, rfl, by decide +kernel, rfl, by decide +kernel, by decide +kernel⟩

def S__nearest : List En → List Ow → En → List Ow → Prop := fun es R e R' => ∃ r o, es = [.d (tI r), .d (tN o)] ∧ R = [] ∧ R' = [] ∧ e = .d (.int (nearF r o)) ∧ o ≠ [] ∧ (∀ h ∈ o, h < r.length) ∧ o.length ≤ 1000
theorem ok__nearest (T : Txt K mg) : FnOk P w K mg base CX0 1 T.a__nearest T.d__nearest ["row", "opening"] (spS K S__nearest) := by
  refine fn_es T.f__nearest sc__nearest ?len (fun cdv A outer s H E es R e R' hr hS => ?body)
  case len => rintro _ _ _ _ ⟨r, o, rfl, _⟩; rfl
  case body =>
    obtain ⟨r, o, rfl, rfl, rfl, rfl, ho, hb, hl⟩ := hS
    refine ⟨_, (pss_cons (ps_set (i := 2) sc__nearest.nd rfl (.inr rfl) (pe_callB (callMin (K := K)) (by rfl) T.n_min (by decide +kernel) (pa_cons (pe_lc (own := [("house", 3)]) (g := gName 3) rfl sc__nearest.nd (piAny (K := K) (pv 1)) (blkOk_by (N := ["row", "opening", "cheapest", "house"]) (sc := defScope s__nearest) (by decide +kernel)) (fun _ _ _ _ _ => (pg_name (i := 3) sc__nearest.nd rfl (by first | exact .inl rfl | exact .inr rfl))) (fun _ _ _ _ _ => pts_nil) (fun _ _ _ _ _ => (pe_ix (ixAny (K := K)) (pv 0) (pv 3) (fun _ _ => rfl)))) pa_nil)))
      (pss_one (ps_ret (pe_ix (ixAny (K := K)) (pe_lc (own := [("house", 3)]) (g := gName 3) rfl sc__nearest.nd (piAny (K := K) (pv 1)) (blkOk_by (N := ["row", "opening", "cheapest", "house"]) (sc := defScope s__nearest) (by decide +kernel)) (fun _ _ _ _ _ => (pg_name (i := 3) sc__nearest.nd rfl (by first | exact .inl rfl | exact .inr rfl))) (fun _ _ _ _ _ => (pts_one (pt_cmpR (opEqD (K := K) hr) (pe_ix (ixAny (K := K)) (pv 0) (pv 3) (fun _ _ => rfl)) (pv 2) (nomark _)))) (fun _ _ _ _ _ => (pv 3))) pe_int (fun _ _ => rfl))))), ?_⟩
    have ix : ∀ h ∈ o, L2.atI (r.map PyData.int) (h : Int) = some (.int (rowAt r h)) := fun h hh => atI_map (get_getD (hb h hh))
    have hz : (o.map fun (n : Nat) => PyData.int (n : Int)).length ≤ sizeLine := small (by rw [List.length_map]; omega)
    refine es_seq (es_set (ev_cb (ea_cons (ev_lc (ei_T (ev_d rfl)) (lcr_mapT (f := fun h => .int (rowAt r h)) fun h hh => ⟨_, egw_name, ev_op (ev_d rfl) (ev_d rfl) (rv_iT (ix h hh))⟩) hz) ea_nil) (rc_minM ho)) ?_)
    refine es_ret (ev_op (ev_lc (ei_T (ev_d rfl)) (lcr_filterT (p := fun h => decide (rowAt r h = cheap r o)) (f := fun h => .int (h : Int)) fun h hh => ⟨_, egw_name, et_test (ev_op (ev_op (ev_d rfl) (ev_d rfl) (rv_iT (ix h hh))) (ev_d rfl) rv_eqI), fun _ => ev_d rfl⟩) hz) ev_int (rv_iL ?_)) ⟨rfl, rfl⟩
    exact atI_map (j := 0) (get_getD (near_ne ho))
abbrev tT (ts : List (List Int)) : PyData := .tuple (ts.map tI)
theorem sc_nearest_open : FnScope ["trips", "opening", "row"] ["trips", "opening"] (defScope s_nearest_open) := ⟨rfl, rfl, rfl, by decide +kernel, rfl, by decide +kernel, by decide +kernel⟩

def S_nearest_open : List En → List Ow → En → List Ow → Prop := fun es R e R' => ∃ ts o, es = [.d (tT ts), .d (tN o)] ∧ R = [] ∧ R' = [] ∧ e = .d (tN (ts.map fun r => nearF r o)) ∧ o ≠ [] ∧ (∀ r ∈ ts, ∀ h ∈ o, h < r.length) ∧ o.length ≤ 1000 ∧ ts.length ≤ 1000
theorem ok_nearest_open (T : Txt K mg) : FnOk P w K mg base CX0 2 T.a_nearest_open T.d_nearest_open ["trips", "opening"] (spS K S_nearest_open) := by
  refine fn_es T.f_nearest_open sc_nearest_open ?len (fun cdv A outer s H E es R e R' hr hS => ?body)
  case len => rintro _ _ _ _ ⟨r, o, rfl, _⟩; rfl
  case body =>
    obtain ⟨ts, o, rfl, rfl, rfl, rfl, ho, hb, hl, hl2⟩ := hS
    refine ⟨_, (pss_one (ps_ret (pe_callTy (callTup (K := K)) (by rfl) T.n_tuple (by decide +kernel) (pa_cons (pe_lc (own := [("row", 2)]) (g := gName 2) rfl sc_nearest_open.nd (piAny (K := K) (pv 0)) (blkOk_by (N := ["trips", "opening", "row"]) (sc := defScope s_nearest_open) (by decide +kernel)) (fun _ _ _ _ _ => (pg_name (i := 2) sc_nearest_open.nd rfl (by first | exact .inl rfl | exact .inr rfl))) (fun _ _ _ _ _ => pts_nil) (fun _ _ _ _ _ => (pe_call (ok__nearest T) (hr.mono (by decide)) (by rfl) T.g__nearest T.f__nearest.kp T.b__nearest .nil pass0 (pa_cons (pv 2) (pa_cons (pv 1) pa_nil))))) pa_nil)))), ?_⟩
    have hz : (ts.map tI).length ≤ sizeLine := small (by rw [List.length_map]; omega)
    refine es_ret (ev_cb (ea_cons (ev_lc (ei_T (ev_d rfl)) (lcr_mapT (f := fun r => .int (nearF r o)) fun r hr' => ⟨_, egw_name, ev_callP ⟨r, o, rfl, rfl, rfl, rfl, ho, hb r hr', hl⟩ (ea_cons (ev_d rfl) (ea_cons (ev_d rfl) ea_nil))⟩) hz) ea_nil) rc_tupL) ⟨?_, rfl⟩
    simp [List.map_map, Function.comp_def]
end
end K58

namespace K58
open PySem PySem.Spec PyProof.Rows L2 StX RZ Fx
section
variable {P : Program} {w : World} {K : PySem.W.Frag} {mg : Str → Option Value} {base : Heap}
def allIn (ps : List Int) (ts : List (List Int)) (o : List Nat) : Int := (o.map (rowAt ps)).sum + (ts.map fun r => rowAt r (nearF r o)).sum
theorem sc_all_in : FnScope ["trips", "prices", "opening", "paid", "house", "row"] ["trips", "prices", "opening"] (defScope s_all_in) := ⟨rfl, rfl, rfl, by decide +kernel, rfl, by decide +kernel, by decide +kernel⟩

def S_all_in : List En → List Ow → En → List Ow → Prop := fun es R e R' => ∃ ts ps o, es = [.d (tT ts), .d (tI ps), .d (tN o)] ∧ R = [] ∧ R' = [] ∧ e = .d (.int (allIn ps ts o)) ∧ o ≠ [] ∧ (∀ r ∈ ts, ∀ h ∈ o, h < r.length) ∧ (∀ h ∈ o, h < ps.length) ∧ o.length ≤ 1000 ∧ ts.length ≤ 1000
theorem ok_all_in (T : Txt K mg) : FnOk P w K mg base CX0 3 T.a_all_in T.d_all_in ["trips", "prices", "opening"] (spS K S_all_in) := by
  refine fn_es T.f_all_in sc_all_in ?len (fun cdv A outer s H E es R e R' hr hS => ?body)
  case len => rintro _ _ _ _ ⟨ts, ps, o, rfl, _⟩; rfl
  case body =>
    obtain ⟨ts, ps, o, rfl, rfl, rfl, rfl, ho, hb, hp, hl, hl2⟩ := hS
    refine ⟨_, (pss_cons (ps_set (i := 3) sc_all_in.nd rfl (.inl rfl) (pe_callB (callSum (K := K)) (by rfl) T.n_sum (by decide +kernel) (pa_cons (pe_lc (own := [("house", 4)]) (g := gName 4) rfl sc_all_in.nd (piAny (K := K) (pv 2)) (blkOk_by (N := ["trips", "prices", "opening", "paid", "house", "row"]) (sc := defScope s_all_in) (by decide +kernel)) (fun _ _ _ _ _ => (pg_name (i := 4) sc_all_in.nd rfl (by first | exact .inl rfl | exact .inr rfl))) (fun _ _ _ _ _ => pts_nil) (fun _ _ _ _ _ => (pe_ix (ixAny (K := K)) (pv 1) (pv 4) (fun _ _ => rfl)))) pa_nil)))
      (pss_one (ps_ret (pe_op (opAdd (K := K)) (pv 3) (pe_callB (callSum (K := K)) (by rfl) T.n_sum (by decide +kernel) (pa_cons (pe_lc (own := [("row", 5), ("house", 4)]) (g := gTup K 2 (gCons (gName 5) (gCons (gName 4) gNil))) rfl sc_all_in.nd (piZip (K := K) (by rfl) T.n_zip (pa_cons (pv 0) (pa_cons (pe_call (ok_nearest_open T) (hr.mono (by decide)) (by rfl) T.g_nearest_open T.f_nearest_open.kp T.b_nearest_open .nil pass0 (pa_cons (pv 0) (pa_cons (pv 2) pa_nil))) pa_nil))) (blkOk_by (N := ["trips", "prices", "opening", "paid", "house", "row"]) (sc := defScope s_all_in) (by decide +kernel)) (fun _ _ _ _ _ => (pgTup (K := K) rfl (pgs_cons (pg_name (i := 5) sc_all_in.nd rfl (by first | exact .inl rfl | exact .inr rfl)) (pgs_cons (pg_name (i := 4) sc_all_in.nd rfl (by first | exact .inl rfl | exact .inr rfl)) pgs_nil)))) (fun _ _ _ _ _ => pts_nil) (fun _ _ _ _ _ => (pe_ix (ixAny (K := K)) (pv 5) (pv 4) (fun _ _ => rfl)))) pa_nil)))))), ?_⟩
    have hz : (o.map fun (n : Nat) => PyData.int (n : Int)).length ≤ sizeLine := small (by rw [List.length_map]; omega)
    have hz2 : (ts.map fun r => PyData.tuple [tI r, .int (nearF r o : Nat)]).length ≤ sizeLine := small (by rw [List.length_map]; omega)
    refine es_seq (es_set (ev_cb (ea_cons (ev_lc (ei_T (ev_d rfl)) (lcr_mapT (f := fun h => .int (rowAt ps h)) fun h hh => ⟨_, egw_name, ev_op (ev_d rfl) (ev_d rfl) (rv_iT (atI_map (get_getD (hp h hh))))⟩) hz) ea_nil) rc_sumM) ?_)
    refine es_ret (ev_op (ev_d rfl) (ev_cb (ea_cons (ev_lc (ei_cast (ys := ts.map fun r => PyData.tuple [tI r, .int (nearF r o : Nat)]) ?eq (ei_zipT (ea_cons (ev_d rfl) (ea_cons (ev_callP ⟨ts, o, rfl, rfl, rfl, rfl, ho, hb, hl, hl2⟩ (ea_cons (ev_d rfl) (ea_cons (ev_d rfl) ea_nil))) ea_nil)))) (lcr_mapT (f := fun r => .int (rowAt r (nearF r o))) fun r hr' => ⟨_, egw_pair, ?el⟩) hz2) ea_nil) rc_sumM) rv_addI) ⟨rfl, rfl⟩
    case eq =>
      rw [List.map_map]
      exact prs_map ts
    case el => exact ev_op (ev_d rfl) (ev_d rfl) (rv_iT (atI_map (get_getD (hb r hr' _ (nearF_mem ho).1))))
def lots : Nat → List (List Nat)
  | 0 => [[]]
  | n + 1 => lots n ++ (lots n).map fun o => o ++ [n]
theorem lots_len (n : Nat) : (lots n).length = 2 ^ n := by
  induction n with
  | zero => rfl
  | succ n ih => unfold lots; rw [List.length_append, List.length_map, ih, Nat.pow_succ]; omega
def lots1 (n : Nat) : List (List Nat) := (lots n).drop 1
theorem lots_cons (n : Nat) : lots n = [] :: lots1 n := by
  unfold lots1
  induction n with
  | zero => rfl
  | succ n ih => unfold lots; rw [ih]; rfl
theorem lots1_mem {n : Nat} : ∀ o ∈ lots n, (∀ h ∈ o, h < n) ∧ o.length ≤ n := by
  induction n with
  | zero => intro o ho; simp [lots] at ho; subst ho; simp
  | succ n ih =>
    intro o ho
    unfold lots at ho
    rcases List.mem_append.mp ho with h | h
    · have := ih o h
      exact ⟨fun x hx => Nat.lt_succ_of_lt (this.1 x hx), Nat.le_succ_of_le this.2⟩
    · obtain ⟨o', h1, rfl⟩ := List.mem_map.mp h
      have := ih o' h1
      refine ⟨fun x hx => ?_, ?_⟩
      · rcases List.mem_append.mp hx with h | h
        · exact Nat.lt_succ_of_lt (this.1 x h)
        · simp at h; omega
      · rw [List.length_append, List.length_singleton]; omega
theorem lots1_ne {n : Nat} : ∀ o ∈ lots1 n, o ≠ [] := by
  unfold lots1
  induction n with
  | zero => intro o ho; simp [lots] at ho
  | succ n ih =>
    intro o ho
    unfold lots at ho
    rw [lots_cons n] at ho
    have ho' : o ∈ lots1 n ++ ([] :: lots1 n).map (fun o => o ++ [n]) := ho
    rcases List.mem_append.mp ho' with h | h
    · exact ih o h
    · obtain ⟨o', h1, rfl⟩ := List.mem_map.mp h
      simp
theorem lots1_sub {n : Nat} {o : List Nat} (h : o ∈ lots1 n) : o ∈ lots n := by
  rw [lots_cons]; exact List.mem_cons_of_mem _ h
theorem lots1_pos {n : Nat} (h : 0 < n) : lots1 n ≠ [] := by
  intro e
  have h1 := lots_len n
  rw [lots_cons, e] at h1
  have h2 : 2 ^ 1 ≤ 2 ^ n := Nat.pow_le_pow_right (by omega) h
  simp at h1
  omega
theorem pow12 {n : Nat} (h : n ≤ 12) : 2 ^ n ≤ 4096 := (Nat.pow_le_pow_right (by omega) h : 2 ^ n ≤ 2 ^ 12)
theorem cut1D (ds : List PyData) : Fx.cutD ds (some 1) none = ds.drop 1 := by
  unfold Fx.cutD
  have h : HT.sIx ds.length 0 (some 1) = min 1 ds.length := HT.sIx_nat _ 0 1
  rw [h, HT.sIx_none]
  cases ds with
  | nil => rfl
  | cons x r =>
    rw [show min 1 (x :: r).length = 1 by rw [List.length_cons]; omega]
    exact List.take_of_length_le (by simp)
theorem sc_sublots : FnScope ["things", "found", "thing", "lot"] ["things"] (defScope s_sublots) := ⟨rfl, rfl, rfl, by decide +kernel, rfl, by decide +kernel, by decide +kernel⟩

def S_sublots : List En → List Ow → En → List Ow → Prop := fun es R e R' => ∃ n : Nat, es = [.d (.list ((List.range n).map fun (i : Nat) => PyData.int (i : Int)))] ∧ R = [] ∧ R' = [] ∧ e = .d (.list ((lots n).map tN)) ∧ n ≤ 12
theorem ok_sublots (T : Txt K mg) : FnOk P w K mg base CX0 1 T.a_sublots T.d_sublots ["things"] (spS K S_sublots) := by
  refine fn_es T.f_sublots sc_sublots ?len (fun cdv A outer s H E es R e R' hr hS => ?body)
  case len => rintro _ _ _ _ ⟨n, rfl, _⟩; rfl
  case body =>
    obtain ⟨n, rfl, rfl, rfl, rfl, hn⟩ := hS
    refine ⟨_, (pss_cons (ps_set (i := 1) sc_sublots.nd rfl (.inl rfl) (pe_lst (pa_cons (pe_tup pa_nil) pa_nil)))
      (pss_cons (ps_for PassesOwn.never rfl (piAny (K := K) (pv 0)) (pg_name (i := 2) sc_sublots.nd rfl (.inr rfl)) (pss_one (ps_set (i := 1) sc_sublots.nd rfl (.inl rfl) (pe_op (opAdd (K := K)) (pv 1) (pe_lc (own := [("lot", 3)]) (g := gName 3) rfl sc_sublots.nd (piAny (K := K) (pv 1)) (blkOk_by (N := ["things", "found", "thing", "lot"]) (sc := defScope s_sublots) (by decide +kernel)) (fun _ _ _ _ _ => (pg_name (i := 3) sc_sublots.nd rfl (by first | exact .inl rfl | exact .inr rfl))) (fun _ _ _ _ _ => pts_nil) (fun _ _ _ _ _ => (pe_tup (paStar (K := K) (pv 3) (pa_cons (pv 2) pa_nil)))))))))
      (pss_one (ps_ret (pv 1))))), ?_⟩
    refine es_seq (es_set (ev_lstE (ds := (lots 0).map tN) (ea_cons (ev_tupE (ds := []) ea_nil rfl (small (by simp))) ea_nil) rfl (small (by simp [lots]))) ?_)
    refine es_seq (es_for (ei_L (ev_d rfl)) (fun i ρ R => R = [] ∧ ∃ e2, ρ = [.d (.list ((List.range n).map fun (i : Nat) => PyData.int (i : Int))), .d (.list ((lots i).map tN)), e2, .u]) ⟨rfl, _, rfl⟩ ?_ ?_)
    · rintro i d ρ R hd ⟨rfl, e2, rfl⟩
      have hi : i < n := by have := (List.getElem?_eq_some_iff.mp hd).1; simpa using this
      have hd' : d = .int (i : Int) := by
        rw [List.getElem?_map, List.getElem?_range hi] at hd
        exact (Option.some.inj hd).symm
      subst hd'
      have hp := pow12 (n := i) (by omega)
      refine ⟨_, eg_name, es_set (ev_op (ev_d rfl) (ev_lc (ei_L (ev_d rfl)) (lcr_mapT (f := fun o => tN (o ++ [i])) fun o ho => ⟨_, egw_name, ev_tupE (ea_star (ev_d rfl) (ea_cons (ev_d rfl) ea_nil)) ?_ ?_⟩) (small ?_)) (rv_addL (small ?_))) ⟨rfl, .d (.int (i : Int)), ?_⟩⟩
      · simp
      · have := (lots1_mem o ho).2
        refine small ?_
        simp; omega
      · rw [List.length_map, lots_len]; omega
      · rw [List.length_map, List.length_map, lots_len]; omega
      · show _ = [En.d (.list ((List.range n).map fun (i : Nat) => PyData.int (i : Int))), .d (.list ((lots (i + 1)).map tN)), .d (.int (i : Int)), .u]
        have : (lots (i + 1)).map tN = (lots i).map tN ++ (lots i).map (fun o => tN (o ++ [i])) := by
          show ((lots i ++ (lots i).map fun o => o ++ [i]).map tN) = _
          rw [List.map_append, List.map_map]; rfl
        rw [this]
        rfl
    · rintro ρ R ⟨rfl, e2, rfl⟩
      rw [List.length_map, List.length_range]
      exact es_ret (ev_d rfl) ⟨rfl, rfl⟩
theorem lots_ne (n : Nat) : (lots n).filter (fun o => !o.isEmpty) = lots1 n := by
  rw [lots_cons, List.filter_cons]
  simp only [List.isEmpty_nil, Bool.not_true, Bool.false_eq_true, if_false]
  rw [List.filter_eq_self]
  intro o ho
  have := lots1_ne o ho
  cases o with
  | nil => exact absurd rfl this
  | cons _ _ => rfl
theorem sc_least_all_in : FnScope ["trips", "prices", "openings", "opening"] ["trips", "prices"] (defScope s_least_all_in) := ⟨rfl, rfl, rfl, by decide +kernel, rfl, by decide +kernel, by decide +kernel⟩

def S_least_all_in : List En → List Ow → En → List Ow → Prop := fun es R e R' => ∃ ts ps, es = [.d (tT ts), .d (tI ps)] ∧ R = [] ∧ R' = [] ∧ e = .d (.int (minI ((lots1 ps.length).map (allIn ps ts)))) ∧ (∀ r ∈ ts, r.length = ps.length) ∧ 0 < ps.length ∧ ps.length ≤ 12 ∧ ts.length ≤ 1000
theorem ok_least_all_in (T : Txt K mg) : FnOk P w K mg base CX0 4 T.a_least_all_in T.d_least_all_in ["trips", "prices"] (spS K S_least_all_in) := by
  refine fn_es T.f_least_all_in sc_least_all_in ?len (fun cdv A outer s H E es R e R' hr hS => ?body)
  case len => rintro _ _ _ _ ⟨ts, ps, rfl, _⟩; rfl
  case body =>
    obtain ⟨ts, ps, rfl, rfl, rfl, rfl, hr', hp, hp2, hl2⟩ := hS
    refine ⟨_, (pss_cons (ps_set (i := 2) sc_least_all_in.nd rfl (.inl rfl) (pe_call (ok_sublots T) (hr.mono (by decide)) (by rfl) T.g_sublots T.f_sublots.kp T.b_sublots .nil pass0 (pa_cons (pe_listRg rfl (by rfl) T.n_list (prg_1 (by rfl) T.n_range (pe_callB (callLen (K := K)) (by rfl) T.n_len (by decide +kernel) (pa_cons (pv 1) pa_nil)))) pa_nil)))
      (pss_one (ps_ret (pe_callB (callMin (K := K)) (by rfl) T.n_min (by decide +kernel) (pa_cons (pe_lc (own := [("opening", 3)]) (g := gName 3) rfl sc_least_all_in.nd (piAny (K := K) (pv 2)) (blkOk_by (N := ["trips", "prices", "openings", "opening"]) (sc := defScope s_least_all_in) (by decide +kernel)) (fun _ _ _ _ _ => (pg_name (i := 3) sc_least_all_in.nd rfl (by first | exact .inl rfl | exact .inr rfl))) (fun _ _ _ _ _ => (pts_one (ptTruth (K := K) (pv 3)))) (fun _ _ _ _ _ => (pe_call (ok_all_in T) (hr.mono (by decide)) (by rfl) T.g_all_in T.f_all_in.kp T.b_all_in .nil pass0 (pa_cons (pv 0) (pa_cons (pv 1) (pa_cons (pv 3) pa_nil)))))) pa_nil))))), ?_⟩
    refine es_seq (es_set (ev_callP (Sf := S_sublots) ⟨ps.length, rfl, rfl, rfl, rfl, hp2⟩ (ea_cons (ev_listRg (ev_cb (ea_cons (ev_d rfl) ea_nil) ?len) (by omega)) ea_nil)) ?_)
    case len =>
      have := rc_lenT (K := K) (R := []) (ds := ps.map .int)
      rw [List.length_map] at this
      exact this
    have hlc := lcr_filterT (K := K) (R := []) (enc := tN) (l := lots ps.length) (p := fun o => !o.isEmpty) (f := fun o => .int (allIn ps ts o)) (g := gName 3) (vs := [3]) (tt := fun σ H Q => tVar 3 σ H fun x H' => ∃ k, TruV K x H' k ∧ Q k H') (te := tCall (spS K S_all_in) [] E0 (tCons (tVar 0) (tCons (tVar 1) (tCons (tVar 3) tNil)))) (ρ := [.d (tT ts), .d (tI ps), .d (.list ((lots ps.length).map tN)), .u]) fun o ho => ⟨_, egw_name, ?tst, fun hp => ?el⟩
    case tst =>
      have h := et_tru (K := K) (R := []) (ρ := [.d (tT ts), .d (tI ps), .d (.list ((lots ps.length).map tN)), .d (tN o)]) (ta := tVar 3) (d := tN o) (R1 := []) (ev_d rfl) (fun s hs => by cases hs)
      have e : truD (tN o) = !o.isEmpty := by cases o <;> rfl
      rw [e] at h
      exact h
    case el =>
      have h1 := lots1_mem o ho
      have hne : o ≠ [] := by rintro rfl; exact absurd hp (by decide)
      exact ev_callP ⟨ts, ps, o, rfl, rfl, rfl, rfl, hne, fun r hrt h hh => by rw [hr' r hrt]; exact h1.1 h hh, h1.1, by omega, hl2⟩ (ea_cons (ev_d rfl) (ea_cons (ev_d rfl) (ea_cons (ev_d rfl) ea_nil)))
    rw [lots_ne] at hlc
    refine es_ret (ev_cb (ea_cons (ev_lc (ei_L (ev_d rfl)) hlc (small ?_)) ea_nil) (rc_minM (lots1_pos hp))) ⟨rfl, rfl⟩
    have h2 := pow12 hp2
    rw [List.length_map, lots_len]; omega
theorem sc__law_lots : FnScope ["many", "found", "number", "some"] ["many"] (defScope s__law_lots) := ⟨rfl, rfl, rfl, by decide +kernel, rfl, by decide +kernel, by decide +kernel⟩

def S__law_lots : List En → List Ow → En → List Ow → Prop := fun es R e R' => ∃ n : Nat, es = [.d (.int n)] ∧ R = [] ∧ R' = [] ∧ e = .d (.list ((lots1 n).map tN)) ∧ n ≤ 12
def neE (o : List Nat) : Bool := !o.isEmpty
theorem eqv_nilT (ds : List PyData) : PyData.eqv (.tuple ds) (.tuple []) = ds.isEmpty := by cases ds <;> simp [PyData.eqv, PyData.eqvAll]
theorem filter_lots (n : Nat) : (lots n).filter neE = lots1 n := by
  rw [lots_cons, List.filter_cons, if_neg (by simp [neE])]
  apply List.filter_eq_self.mpr
  intro o ho
  have := lots1_ne o ho
  cases o with
  | nil => exact absurd rfl this
  | cons _ _ => rfl
theorem shaped_ints (ns : List Int) : SeqAt.shaped (tI ns) = true := by
  have h1 : ∀ ns : List Int, PyData.canLayAll0 (ns.map .int) = true := by
    intro ns; induction ns with
    | nil => rfl
    | cons n r ih => simp [PyData.canLayAll0, PyData.canLay0, ih]
  have h2 : ∀ ns : List Int, PyData.depthAll (ns.map .int) = 0 := by
    intro ns; induction ns with
    | nil => rfl
    | cons n r ih => simp [PyData.depthAll, PyData.depth, ih]
  unfold SeqAt.shaped
  simp [PyData.canLay0, PyData.depth, h1, h2]
theorem shaped_tN (o : List Nat) : SeqAt.shaped (tN o) = true := by
  have := shaped_ints (o.map fun (n : Nat) => (n : Int))
  rw [tI, List.map_map] at this
  exact this
theorem ok__law_lots (T : Txt K mg) : FnOk P w K mg base CX0 1 T.a__law_lots T.d__law_lots ["many"] (spS K S__law_lots) := by
  refine fn_es T.f__law_lots sc__law_lots ?len (fun cdv A outer s H E es R e R' hr hS => ?body)
  case len => rintro _ _ _ _ ⟨n, rfl, _⟩; rfl
  case body =>
    obtain ⟨n, rfl, rfl, rfl, rfl, hn⟩ := hS
    refine ⟨_, (pss_cons (ps_set (i := 1) sc__law_lots.nd rfl (.inl rfl) (pe_lst (pa_cons (pe_tup pa_nil) pa_nil)))
      (pss_cons (ps_for PassesOwn.never rfl (pi_range1 rfl T.n_range (pa_cons (pv 0) pa_nil)) (pg_name (i := 2) sc__law_lots.nd rfl (.inr rfl)) (pss_one (ps_set (i := 1) sc__law_lots.nd rfl (.inl rfl) (pe_op (opAdd (K := K)) (pv 1) (pe_lc (own := [("some", 3)]) (g := gName 3) rfl sc__law_lots.nd (piAny (K := K) (pv 1)) (blkOk_by (N := ["many", "found", "number", "some"]) (sc := defScope s__law_lots) (by decide +kernel)) (fun _ _ _ _ _ => (pg_name (i := 3) sc__law_lots.nd rfl (by first | exact .inl rfl | exact .inr rfl))) (fun _ _ _ _ _ => pts_nil) (fun _ _ _ _ _ => (pe_op (opAdd (K := K)) (pv 3) (pe_tup (pa_cons (pv 2) pa_nil)))))))))
      (pss_one (ps_ret (pe_lc (own := [("some", 3)]) (g := gName 3) rfl sc__law_lots.nd (piAny (K := K) (pv 1)) (blkOk_by (N := ["many", "found", "number", "some"]) (sc := defScope s__law_lots) (by decide +kernel)) (fun _ _ _ _ _ => (pg_name (i := 3) sc__law_lots.nd rfl (by first | exact .inl rfl | exact .inr rfl))) (fun _ _ _ _ _ => (pts_one (pt_cmpR (opNeD (K := K) hr) (pv 3) (pe_tup pa_nil) (nomark _)))) (fun _ _ _ _ _ => (pv 3))))))), ?_⟩
    refine es_seq (es_set (ev_lstE (ds := (lots 0).map tN) (ea_cons (ev_tupE (ds := []) ea_nil rfl (small (by simp))) ea_nil) rfl (small (by simp [lots]))) ?_)
    refine es_seq (es_for (ei_rngN (n := n) (ea_cons (ev_d rfl) ea_nil) (by omega)) (fun i ρ R => R = [] ∧ ∃ e2, ρ = [.d (.int n), .d (.list ((lots i).map tN)), e2, .u]) ⟨rfl, _, rfl⟩ ?_ ?_)
    · rintro i d ρ R hd ⟨rfl, e2, rfl⟩
      have hi : i < n := by have := (List.getElem?_eq_some_iff.mp hd).1; simpa using this
      have hd' : d = .int (i : Int) := by
        rw [List.getElem?_map, List.getElem?_range hi] at hd
        exact (Option.some.inj hd).symm
      subst hd'
      have hp := pow12 (n := i) (by omega)
      refine ⟨_, eg_name, es_set (ev_op (ev_d rfl) (ev_lc (ei_L (ev_d rfl)) (lcr_mapT (f := fun o => .tuple (o.map (fun (n : Nat) => PyData.int (n : Int)) ++ [.int (i : Int)])) fun o ho => ⟨_, egw_name, ev_op (ev_d rfl) (ev_tupE (ds := [.int (i : Int)]) (ea_cons (ev_d rfl) ea_nil) rfl (small (by simp))) (rv_addT ?_)⟩) (small ?_)) (rv_addL (small ?_))) ⟨rfl, .d (.int (i : Int)), ?_⟩⟩
      · have := (lots1_mem o ho).2
        refine small ?_
        simp; omega
      · rw [List.length_map, lots_len]; omega
      · rw [List.length_map, List.length_map, lots_len]; omega
      · show _ = [En.d (.int n), .d (.list ((lots (i + 1)).map tN)), .d (.int (i : Int)), .u]
        have : (lots (i + 1)).map tN = (lots i).map tN ++ (lots i).map (fun o => .tuple (o.map (fun (n : Nat) => PyData.int (n : Int)) ++ [.int (i : Int)])) := by
          show ((lots i ++ (lots i).map fun o => o ++ [i]).map tN) = _
          rw [List.map_append, List.map_map]
          congr 1
          apply List.map_congr_left
          intro o _
          simp [tN]
        rw [this]
        rfl
    · rintro ρ R ⟨rfl, e2, rfl⟩
      rw [List.length_map, List.length_range]
      have hp := pow12 hn
      refine es_ret (ev_lc (ei_L (ev_d rfl)) (lcr_filterT (p := neE) (f := tN) fun o ho => ⟨_, egw_name, ?_, fun _ => ev_d rfl⟩) (small ?_)) ⟨?_, rfl⟩
      · have := et_test (ev_op (K := K) (R := []) (ev_d (ρ := [En.d (.int n), .d (.list ((lots n).map tN)), e2, .d (tN o)]) (i := 3) rfl) (ev_tupE (ds := []) ea_nil rfl (small (by simp))) (rv_neD (shaped_tN o) (by rfl)))
        rw [eqv_nilT] at this
        have e : neE o = !(o.map fun (n : Nat) => PyData.int (n : Int)).isEmpty := by unfold neE; cases o <;> rfl
        rw [e]
        exact this
      · rw [List.length_map, lots_len]; omega
      · rw [filter_lots]
def allIn2 (ps : List Int) (ts : List (List Int)) (o : List Nat) : Int := (o.map (rowAt ps)).sum + (ts.map fun r => cheap r o).sum
theorem allIn_eq {ps : List Int} {ts : List (List Int)} {o : List Nat} (ho : o ≠ []) : allIn2 ps ts o = allIn ps ts o := by
  unfold allIn allIn2
  congr 2
  apply List.map_congr_left
  intro r _
  exact (nearF_mem ho).2.symm
theorem sc__law_all_in : FnScope ["trips", "prices", "opening", "house", "row"] ["trips", "prices", "opening"] (defScope s__law_all_in) := ⟨rfl, rfl, rfl, by decide +kernel, rfl, by decide +kernel, by decide +kernel⟩

def S__law_all_in : List En → List Ow → En → List Ow → Prop := fun es R e R' => ∃ ts ps o, es = [.d (tT ts), .d (tI ps), .d (tN o)] ∧ R = [] ∧ R' = [] ∧ e = .d (.int (allIn ps ts o)) ∧ o ≠ [] ∧ (∀ r ∈ ts, ∀ h ∈ o, h < r.length) ∧ (∀ h ∈ o, h < ps.length) ∧ o.length ≤ 1000 ∧ ts.length ≤ 1000
theorem ok__law_all_in (T : Txt K mg) : FnOk P w K mg base CX0 1 T.a__law_all_in T.d__law_all_in ["trips", "prices", "opening"] (spS K S__law_all_in) := by
  refine fn_es T.f__law_all_in sc__law_all_in ?len (fun cdv A outer s H E es R e R' hr hS => ?body)
  case len => rintro _ _ _ _ ⟨ts, ps, o, rfl, _⟩; rfl
  case body =>
    obtain ⟨ts, ps, o, rfl, rfl, rfl, rfl, ho, hb, hp, hl, hl2⟩ := hS
    refine ⟨_, (pss_one (ps_ret (pe_op (opAdd (K := K)) (pe_callB (callSum (K := K)) (by rfl) T.n_sum (by decide +kernel) (pa_cons (pe_lc (own := [("house", 3)]) (g := gName 3) rfl sc__law_all_in.nd (piAny (K := K) (pv 2)) (blkOk_by (N := ["trips", "prices", "opening", "house", "row"]) (sc := defScope s__law_all_in) (by decide +kernel)) (fun _ _ _ _ _ => (pg_name (i := 3) sc__law_all_in.nd rfl (by first | exact .inl rfl | exact .inr rfl))) (fun _ _ _ _ _ => pts_nil) (fun _ _ _ _ _ => (pe_ix (ixAny (K := K)) (pv 1) (pv 3) (fun _ _ => rfl)))) pa_nil)) (pe_callB (callSum (K := K)) (by rfl) T.n_sum (by decide +kernel) (pa_cons (pe_lc (own := [("row", 4)]) (g := gName 4) rfl sc__law_all_in.nd (piAny (K := K) (pv 0)) (blkOk_by (N := ["trips", "prices", "opening", "house", "row"]) (sc := defScope s__law_all_in) (by decide +kernel)) (fun _ _ _ _ _ => (pg_name (i := 4) sc__law_all_in.nd rfl (by first | exact .inl rfl | exact .inr rfl))) (fun _ _ _ _ _ => pts_nil) (fun _ _ _ _ _ => (pe_callB (callMin (K := K)) (by rfl) T.n_min (by decide +kernel) (pa_cons (pe_lc (own := [("house", 3)]) (g := gName 3) rfl sc__law_all_in.nd (piAny (K := K) (pv 2)) (blkOk_by (N := ["trips", "prices", "opening", "house", "row"]) (by kernel_rfl)) (fun _ _ _ _ _ => (pg_name (i := 3) sc__law_all_in.nd rfl (by first | exact .inl rfl | exact .inr rfl))) (fun _ _ _ _ _ => pts_nil) (fun _ _ _ _ _ => (pe_ix (ixAny (K := K)) (pv 4) (pv 3) (fun _ _ => rfl)))) pa_nil)))) pa_nil))))), ?_⟩
    rw [← allIn_eq ho]
    have hz : (o.map fun (n : Nat) => PyData.int (n : Int)).length ≤ sizeLine := small (by rw [List.length_map]; omega)
    have hz2 : (ts.map tI).length ≤ sizeLine := small (by rw [List.length_map]; omega)
    refine es_ret (ev_op (ev_cb (ea_cons (ev_lc (ei_T (ev_d rfl)) (lcr_mapT (f := fun h => .int (rowAt ps h)) fun h hh => ⟨_, egw_name, ev_op (ev_d rfl) (ev_d rfl) (rv_iT (atI_map (get_getD (hp h hh))))⟩) hz) ea_nil) rc_sumM)
      (ev_cb (ea_cons (ev_lc (ei_T (ev_d rfl)) (lcr_mapT (f := fun r => .int (cheap r o)) fun r hr' => ⟨_, egw_name, ?_⟩) hz2) ea_nil) rc_sumM) rv_addI) ⟨rfl, rfl⟩
    exact ev_cb (ea_cons (ev_lc (ei_T (ev_d rfl)) (lcr_mapT (f := fun h => .int (rowAt r h)) fun h hh => ⟨_, egw_name, ev_op (ev_d rfl) (ev_d rfl) (rv_iT (atI_map (get_getD (hb r hr' h hh))))⟩) hz) ea_nil) (rc_minM ho)
end
end K58

namespace K58
open PySem PySem.Spec PyProof.Rows L2 StX RZ Fx
section
variable {P : Program} {w : World} {K : PySem.W.Frag} {mg : Str → Option Value} {base : Heap}
structure DS where
  cs : List Int
  m : Int
def StOk (s : DS) : Prop := 0 ≤ s.m ∧ s.m < 2147483647 ∧ s.cs.length ≤ 1000
abbrev dR (aD aC : Addr) (s : DS) : List Ow := [.rw aD (.lst [.ref aC, .int s.m]), .ls aC (s.cs.map .int)]
def popZ (cs : List Int) : List Int := (cs.reverse.dropWhile fun c => decide (c = 0)).reverse
def mixF (m : Int) : Int := (m * 48271 + 83) % 2147483647
def anyF (b : Int) (s : DS) : Int × DS :=
  match popZ s.cs with
  | [] => (mixF s.m / 64 % b, ⟨[], mixF s.m⟩)
  | c :: r => ((c :: r).getLast (by simp) % b, ⟨(c :: r).dropLast ++ [(c :: r).getLast (by simp) / b], s.m⟩)
theorem anyF_lt {b : Int} (hb : 0 < b) (s : DS) : 0 ≤ (anyF b s).1 ∧ (anyF b s).1 < b := by
  unfold anyF
  split
  · exact ⟨Int.emod_nonneg _ (by omega), Int.emod_lt_of_pos _ hb⟩
  · exact ⟨Int.emod_nonneg _ (by omega), Int.emod_lt_of_pos _ hb⟩
theorem popZ_len (cs : List Int) : (popZ cs).length ≤ cs.length := by
  unfold popZ
  rw [List.length_reverse]
  have h1 : ∀ l : List Int, (l.dropWhile fun c => decide (c = 0)).length ≤ l.length := by
    intro l
    induction l with
    | nil => exact Nat.le_refl _
    | cons a r ih =>
      rw [List.dropWhile_cons]
      split
      · exact Nat.le_succ_of_le ih
      · exact Nat.le_refl _
  have := h1 cs.reverse
  rw [List.length_reverse] at this
  exact this
theorem anyF_ok {b : Int} {s : DS} (h : StOk s) : StOk (anyF b s).2 := by
  unfold anyF
  have hp := popZ_len s.cs
  split
  · exact ⟨Int.emod_nonneg _ (by omega), Int.emod_lt_of_pos _ (by omega), by simp⟩
  · rename_i c r hc
    refine ⟨h.1, h.2.1, ?_⟩
    rw [hc, List.length_cons] at hp
    have := h.2.2
    simp
    omega
theorem popZ_snoc0 (cs : List Int) : popZ (cs ++ [0]) = popZ cs := by
  unfold popZ; simp
theorem popZ_snoc {cs : List Int} {c : Int} (h : c ≠ 0) : popZ (cs ++ [c]) = cs ++ [c] := by
  unfold popZ; simp [h]
theorem ev_neg {ρ : List En} {R R1 : List Ow} {te : TE} {i : Int} (h : Ev K te ρ R (.d (.int i)) R1) : Ev K (tUn (rU fun i => .int (-i)) te) ρ R (.d (.int (-i))) R1 := fun R0 F H σ S A Q q =>
  h R0 F H σ S A _ fun v F1 H1 x1 A1 e1 => by cases e1; exact ⟨i, rfl, q _ F1 H1 x1 A1 (.int _)⟩
theorem eqv_nilL (ds : List PyData) : PyData.eqv (.list ds) (.list []) = ds.isEmpty := by cases ds <;> simp [PyData.eqv, PyData.eqvAll]
theorem shaped_lI (ns : List Int) : SeqAt.shaped (.list (ns.map .int)) = true := by
  have := shaped_ints ns
  unfold SeqAt.shaped at this ⊢
  simpa [PyData.canLay0, PyData.depth] using this
theorem deal0 {aD aC : Addr} {s : DS} {i : Nat} {ρ : List En} (h : ρ[i]? = some (.o aD)) : Ev K (tOp (rIxA K) (tVar i) (tC (.int 0))) ρ (dR aD aC s) (.o aC) (dR aD aC s) :=
  ev_op (ev_o h) ev_int (rv_iR (vs := [.ref aC, .int s.m]) (by simp) rfl)
theorem deal1 {aD aC : Addr} {s : DS} {i : Nat} {ρ : List En} (h : ρ[i]? = some (.o aD)) : Ev K (tOp (rIxA K) (tVar i) (tC (.int 1))) ρ (dR aD aC s) (.d (.int s.m)) (dR aD aC s) :=
  ev_op (ev_o h) ev_int (rv_iRi (vs := [.ref aC, .int s.m]) (by simp) rfl)
theorem dealNe {aD aC : Addr} {s : DS} {i : Nat} {ρ : List En} (h : ρ[i]? = some (.o aD)) : Et K (tTest (tOp (rNeD K) (tOp (rIxA K) (tVar i) (tC (.int 0))) (tLst tNil))) ρ (dR aD aC s) (!s.cs.isEmpty) (dR aD aC s) := by
  have h1 := ev_op (deal0 (K := K) (aC := aC) (s := s) h) (ev_lstE (ds := []) ea_nil rfl (small (by simp))) (rv_neO (Ra := [.rw aD (.lst [.ref aC, .int s.m])]) (Rb := []) (shaped_lI s.cs) (by rfl))
  rw [eqv_nilL] at h1
  have e : (s.cs.map PyData.int).isEmpty = s.cs.isEmpty := by cases s.cs <;> rfl
  rw [e] at h1
  exact et_test h1
theorem sc__law_any : FnScope ["deal", "bound", "rest"] ["deal", "bound"] (defScope s__law_any) := ⟨rfl, rfl, rfl, by decide +kernel, rfl, by decide +kernel, by decide +kernel⟩

def S__law_any : List En → List Ow → En → List Ow → Prop := fun es R e R' => ∃ aD aC s b, es = [.o aD, .d (.int b)] ∧ R = dR aD aC s ∧ R' = dR aD aC (anyF b s).2 ∧ e = .d (.int (anyF b s).1) ∧ 0 < b ∧ b < 2 ^ 1000 ∧ StOk s
theorem ok__law_any (T : Txt K mg) : FnOk P w K mg base CX0 1 T.a__law_any T.d__law_any ["deal", "bound"] (spS K S__law_any) := by
  refine fn_es T.f__law_any sc__law_any ?len (fun cdv A outer s H E es R e R' hr hS => ?body)
  case len => rintro _ _ _ _ ⟨aD, aC, s, b, rfl, _⟩; rfl
  case body =>
    obtain ⟨aD, aC, st, b, rfl, rfl, rfl, rfl, hb, hb2, hok⟩ := hS
    have hlen := hok.2.2
    refine ⟨_, (pss_cons (ps_while PassesOwn.never ((pw_and (pt_cmpR (opNeD (K := K) hr) (pe_ix (ixAny (K := K)) (pv 0) pe_int (fun _ _ => rfl)) (pe_lst pa_nil) (nomark _)) (pw_and1 (pt_cmpR (opEqD (K := K) hr) (pe_ix (ixAny (K := K)) (pe_ix (ixAny (K := K)) (pv 0) pe_int (fun _ _ => rfl)) (pe_un un_neg pe_int) (fun _ _ => rfl)) pe_int (nomark _))))).pt (pss_one (ps_expr (peBm0 (K := K) PySem.F.slot_list_pop PySem.F.type_list_pop mt_pop (pe_ix (ixAny (K := K)) (pv 0) pe_int (fun _ _ => rfl))))))
      (pss_cons (ps_if (pt_cmpR (opNeD (K := K) hr) (pe_ix (ixAny (K := K)) (pv 0) pe_int (fun _ _ => rfl)) (pe_lst pa_nil) (nomark _)) (pss_cons (ps_set (i := 2) sc__law_any.nd rfl (.inl rfl) (pe_callTy callInt (by rfl) T.n_int (by decide +kernel) (pa_cons (peBm0 (K := K) PySem.F.slot_list_pop PySem.F.type_list_pop mt_pop (pe_ix (ixAny (K := K)) (pv 0) pe_int (fun _ _ => rfl))) pa_nil)))
      (pss_cons (ps_expr (peBm (K := K) PySem.F.slot_list_append PySem.F.type_list_append mt_append (pe_ix (ixAny (K := K)) (pv 0) pe_int (fun _ _ => rfl)) (pa_cons (pe_op opDiv (pv 2) (pv 1)) pa_nil)))
      (pss_one (ps_ret (pe_op op_mod (pv 2) (pv 1)))))) pss_nil)
      (pss_cons (ps_asg (pe_op op_mod (pe_callTy callInt (by rfl) T.n_int (by decide +kernel) (pa_cons (pe_op (opAdd (K := K)) (pe_op opMul (pe_ix (ixAny (K := K)) (pv 0) pe_int (fun _ _ => rfl)) pe_int) pe_int) pa_nil)) pe_int) (pg_sub (pv 0) pe_int set_list (fun _ => rfl)))
      (pss_one (ps_ret (pe_op op_mod (pe_callTy callInt (by rfl) T.n_int (by decide +kernel) (pa_cons (pe_op opDiv (pe_ix (ixAny (K := K)) (pv 0) pe_int (fun _ _ => rfl)) pe_int) pa_nil)) (pv 1))))))), ?_⟩
    have hdiv : ∀ i, CDivW i b := fun i => wide_div hb (b := 1000) (by omega) (by omega) (by omega)
    refine es_seqM (fun ρ R => ρ = [.o aD, .d (.int b), .u] ∧ ∃ c, R = dR aD aC ⟨c, st.m⟩ ∧ popZ c = popZ st.cs ∧ popZ c = c ∧ c.length ≤ 1000) ?_ ?_
    · refine es_while (fun m ρ R => ρ = [.o aD, .d (.int b), .u] ∧ ∃ c, R = dR aD aC ⟨c, st.m⟩ ∧ popZ c = popZ st.cs ∧ m = c.length ∧ c.length ≤ 1000) ⟨_, rfl, st.cs, rfl, rfl, rfl, hlen⟩ ?_
      rintro m ρ R ⟨rfl, c, rfl, hc, rfl, hcl⟩
      by_cases hne : c = []
      · subst hne
        exact ⟨false, _, et_andF (dealNe (s := ⟨[], st.m⟩) rfl), fun h => (nomatch h), fun _ => ⟨rfl, [], rfl, hc, rfl, by simp⟩⟩
      · obtain ⟨d, x, rfl⟩ : ∃ d x, c = d ++ [x] := ⟨c.dropLast, c.getLast hne, (List.dropLast_concat_getLast hne).symm⟩
        have h1 := dealNe (K := K) (aD := aD) (aC := aC) (s := ⟨d ++ [x], st.m⟩) (i := 0) (ρ := [.o aD, .d (.int b), .u]) rfl
        have e1 : (!(d ++ [x]).isEmpty) = true := by cases d <;> rfl
        rw [show (!(DS.mk (d ++ [x]) st.m).cs.isEmpty) = true from e1] at h1
        have h2 := et_test (ev_op (ev_op (deal0 (K := K) (aD := aD) (aC := aC) (s := ⟨d ++ [x], st.m⟩) (i := 0) (ρ := [.o aD, .d (.int b), .u]) rfl) (ev_neg (ev_int (i := 1))) (rv_iO (Ra := [.rw aD (.lst [.ref aC, .int st.m])]) (Rb := []) (ds := (d ++ [x]).map .int) (d := .int x) (by rw [List.map_append]; exact atI_last _ _))) (ev_int (i := 0)) rv_eqI)
        have ht := et_andT h1 h2
        by_cases hx : x = 0
        · subst hx
          refine ⟨true, _, ht, fun _ => ?_, fun h => (nomatch h)⟩
          have hm : dR aD aC ⟨d ++ [0], st.m⟩ = [.rw aD (.lst [.ref aC, .int st.m])] ++ .ls aC (d.map .int ++ [.int 0]) :: [] := by simp
          rw [hm]
          exact es_drop (ev_pop (a := aC) (ds := d.map .int) (d := .int 0) (Ra := [.rw aD (.lst [.ref aC, .int st.m])]) (Rb := []) (ev_op (ev_o rfl) ev_int (rv_iR (b := aC) (vs := [.ref aC, .int st.m]) (by simp) rfl))) ⟨d.length, by simp, rfl, d, rfl, by rw [← hc, popZ_snoc0], rfl, by simp at hcl; omega⟩
        · refine ⟨false, _, ?_, fun h => (nomatch h), fun _ => ⟨rfl, d ++ [x], rfl, hc, popZ_snoc hx, hcl⟩⟩
          have e : decide (x = 0) = false := by simp [hx]
          rw [← e]
          exact ht
    · rintro ρ R ⟨rfl, c, rfl, hc, hz, hcl⟩
      refine es_seq (es_if (dealNe rfl) (fun hne => ?_) (fun he => es_next ?_))
      · obtain ⟨d, x, rfl⟩ : ∃ d x, c = d ++ [x] := by
          cases c with
          | nil => cases hne
          | cons a r => exact ⟨(a :: r).dropLast, (a :: r).getLast (by simp), (List.dropLast_concat_getLast (by simp)).symm⟩
        have hany : anyF b st = (x % b, ⟨d ++ [x / b], st.m⟩) := by
          unfold anyF
          rw [← hc, hz]
          cases hd : d ++ [x] with
          | nil => simp at hd
          | cons a r =>
            simp only [← hd]
            simp
        rw [hany]
        have hm : dR aD aC ⟨d ++ [x], st.m⟩ = [.rw aD (.lst [.ref aC, .int st.m])] ++ .ls aC (d.map .int ++ [.int x]) :: [] := by simp
        rw [hm]
        refine es_seq (es_set (ev_cb (ea_cons (ev_pop (a := aC) (ds := d.map .int) (d := .int x) (Ra := [.rw aD (.lst [.ref aC, .int st.m])]) (Rb := []) ?p0) ea_nil) rc_int) ?_)
        case p0 => exact ev_op (ev_o rfl) ev_int (rv_iR (b := aC) (vs := [.ref aC, .int st.m]) (by simp) rfl)
        refine es_seq (es_drop (ev_append (a := aC) (ds := d.map .int) (ds0 := d.map .int) (d := .int (x / b)) (Ra := [.rw aD (.lst [.ref aC, .int st.m])]) (Rb := []) (deal0 (s := ⟨d, st.m⟩) rfl) (by simp) (ea_cons (ev_op (ev_d rfl) (ev_d rfl) (rv_intC (hdiv x))) ea_nil) (smallL ?_)) ?_)
        · rw [List.length_map]; simp at hcl; omega
        · refine es_ret (ev_op (ev_d rfl) (ev_d rfl) (rv_intC hb)) ⟨rfl, ?_⟩
          simp
      · have hcn : c = [] := by cases c with
          | nil => rfl
          | cons a r => cases he
        subst hcn
        have hany : anyF b st = (mixF st.m / 64 % b, ⟨[], mixF st.m⟩) := by
          unfold anyF
          rw [← hc, hz]
        rw [hany]
        have hmul : CMulW st.m 48271 := wide_mul (a := 31) (b := 16) (by have := hok; unfold StOk at this; omega) (by decide) (by omega) (by omega) (by omega)
        refine es_seq (es_storeR (Ra := []) (Rb := [.ls aC []]) (vs := [.ref aC, .int st.m]) (k := mixF st.m) (i := 1) (j := 1) (ev_op (ev_cb (ea_cons (ev_op (ev_op (deal1 (s := ⟨[], st.m⟩) rfl) ev_int (rv_intC hmul)) ev_int rv_addI) ea_nil) rc_int) ev_int (rv_intC (by decide))) (ev_o rfl) ev_int rfl ?_)
        exact es_ret (ev_op (ev_cb (ea_cons (ev_op (deal1 (s := ⟨[], mixF st.m⟩) rfl) ev_int (rv_intC (wide_div (b := 7) (by decide) (by decide) (by omega) (by omega)))) ea_nil) rc_int) (ev_d rfl) (rv_intC hb)) ⟨rfl, rfl⟩
end
end K58

namespace K58
open PySem PySem.Spec PyProof.Rows L2 StX RZ Fx
section
variable {P : Program} {w : World} {K : PySem.W.Frag} {mg : Str → Option Value} {base : Heap}
theorem ev_any {aD aC : Addr} {s s' : DS} {b : Int} {i : Nat} {ρ : List En} {tb : TE} (hd : ρ[i]? = some (.o aD)) (hb : Ev K tb ρ (dR aD aC s) (.d (.int b)) (dR aD aC s')) (h0 : 0 < b) (h1 : b < 2 ^ 1000) (ok : StOk s') :
    Ev K (tCall (spS K S__law_any) [] E0 (tCons (tVar i) (tCons tb tNil))) ρ (dR aD aC s) (.d (.int (anyF b s').1)) (dR aD aC (anyF b s').2) := by
  have := ev_call (Rf := []) (Rc := dR aD aC s') (Rc' := dR aD aC (anyF b s').2) (Sf := S__law_any) (e := .d (.int (anyF b s').1)) (ts := tCons (tVar i) (tCons tb tNil)) (R := dR aD aC s) (ρ := ρ) (K := K) ⟨aD, aC, s', b, rfl, rfl, rfl, rfl, h0, h1, ok⟩ (ea_cons (ev_o hd) (ea_cons hb ea_nil))
  exact this
def ofF (ds : List PyData) (s : DS) : PyData × DS := (ds.getD (anyF ds.length s).1.toNat .none, (anyF ds.length s).2)
theorem ofF_ix {ds : List PyData} (h : ds ≠ []) (s : DS) : L2.atI ds (anyF ds.length s).1 = some (ofF ds s).1 ∧ (ofF ds s).1 ∈ ds := by
  have h0 : (0 : Int) < ds.length := by have := List.length_pos_iff.mpr h; omega
  have h1 := anyF_lt h0 s
  have h2 : (anyF ds.length s).1.toNat < ds.length := by omega
  refine ⟨atI_nat' (j := (anyF ds.length s).1.toNat) (by omega) (get_getD h2), ?_⟩
  show ds.getD _ _ ∈ ds
  rw [List.getD_eq_getElem?_getD, List.getElem?_eq_getElem h2]
  exact List.getElem_mem _
theorem ofF_ok {ds : List PyData} {s : DS} (h : StOk s) : StOk (ofF ds s).2 := anyF_ok h
theorem sc__law_of : FnScope ["deal", "some"] ["deal", "some"] (defScope s__law_of) := ⟨rfl, rfl, rfl, by decide +kernel, rfl, by decide +kernel, by decide +kernel⟩

def S__law_of : List En → List Ow → En → List Ow → Prop := fun es R e R' => ∃ aD aC s ds, es = [.o aD, .d (.list ds)] ∧ R = dR aD aC s ∧ R' = dR aD aC (ofF ds s).2 ∧ e = .d (ofF ds s).1 ∧ ds ≠ [] ∧ ds.length ≤ 1000000 ∧ StOk s
theorem ok__law_of (T : Txt K mg) : FnOk P w K mg base CX0 2 T.a__law_of T.d__law_of ["deal", "some"] (spS K S__law_of) := by
  refine fn_es T.f__law_of sc__law_of ?len (fun cdv A outer s H E es R e R' hr hS => ?body)
  case len => rintro _ _ _ _ ⟨aD, aC, s, ds, rfl, _⟩; rfl
  case body =>
    obtain ⟨aD, aC, st, ds, rfl, rfl, rfl, rfl, hne, hl, hok⟩ := hS
    refine ⟨_, (pss_one (ps_ret (pe_ix (ixAny (K := K)) (pv 1) (pe_call (ok__law_any T) (hr.mono (by decide)) (by rfl) T.g__law_any T.f__law_any.kp T.b__law_any .nil pass0 (pa_cons (pv 0) (pa_cons (pe_callB (callLen (K := K)) (by rfl) T.n_len (by decide +kernel) (pa_cons (pv 1) pa_nil)) pa_nil))) (fun _ _ => rfl)))), ?_⟩
    have hp := List.length_pos_iff.mpr hne
    exact es_ret (ev_op (ev_d rfl) (ev_any rfl (ev_cb (ea_cons (ev_d rfl) ea_nil) rc_lenL) (by omega) (by omega) hok) (rv_iL (ofF_ix hne st).1)) ⟨rfl, rfl⟩
theorem ev_of {aD aC : Addr} {s s' : DS} {ds : List PyData} {i : Nat} {ρ : List En} {tb : TE} (hd : ρ[i]? = some (.o aD)) (hb : Ev K tb ρ (dR aD aC s) (.d (.list ds)) (dR aD aC s')) (hne : ds ≠ []) (hl : ds.length ≤ 1000000) (ok : StOk s') :
    Ev K (tCall (spS K S__law_of) [] E0 (tCons (tVar i) (tCons tb tNil))) ρ (dR aD aC s) (.d (ofF ds s').1) (dR aD aC (ofF ds s').2) := by
  have := ev_call (Rf := []) (Rc := dR aD aC s') (Rc' := dR aD aC (ofF ds s').2) (Sf := S__law_of) (e := .d (ofF ds s').1) (ts := tCons (tVar i) (tCons tb tNil)) (R := dR aD aC s) (ρ := ρ) (K := K) ⟨aD, aC, s', ds, rfl, rfl, rfl, rfl, hne, hl, ok⟩ (ea_cons (ev_o hd) (ea_cons hb ea_nil))
  exact this
/-- a menu of ints -/
theorem ofF_ints {ns : List Int} (h : ns ≠ []) (s : DS) : ∃ n ∈ ns, (ofF (ns.map .int) s).1 = .int n := by
  have := (ofF_ix (ds := ns.map .int) (by simpa using h) s).2
  obtain ⟨n, h1, h2⟩ := List.mem_map.mp this
  exact ⟨n, h1, h2.symm⟩
theorem one_any {s : DS} {b : Nat} (hb : 0 < b) : ∃ n : Nat, 1 + (anyF (b : Int) s).1 = (n : Int) ∧ 0 < n ∧ n ≤ b := by
  have h := anyF_lt (b := (b : Int)) (by omega) s
  exact ⟨(1 + (anyF (b : Int) s).1).toNat, by omega, by omega, by omega⟩
theorem mapS_all {α β σ : Type} {f : σ → α → β × σ} {Iv : σ → Prop} {Q : β → Prop} (h : ∀ s a, Iv s → Q (f s a).1 ∧ Iv (f s a).2) : ∀ (l : List α) (s : σ), Iv s → (∀ y ∈ (mapS f s l).1, Q y) ∧ Iv (mapS f s l).2 ∧ (mapS f s l).1.length = l.length
  | [], s, hi => ⟨by intro y hy; simp [mapS] at hy, hi, rfl⟩
  | a :: l, s, hi => by
    have h1 := h s a hi
    have h2 := mapS_all h l (f s a).2 h1.2
    refine ⟨fun y hy => ?_, h2.2.1, by simp [mapS, h2.2.2]⟩
    simp only [mapS, List.mem_cons] at hy
    rcases hy with rfl | hy
    · exact h1.1
    · exact h2.1 y hy
def rowF (b : Int) (n : Nat) (s : DS) : List Int × DS := mapS (fun s (_ : Nat) => anyF b s) s (List.range n)
theorem rowF_all {b : Int} {n : Nat} {s : DS} (hb : 0 < b) (h : StOk s) : (∀ y ∈ (rowF b n s).1, 0 ≤ y ∧ y < b) ∧ StOk (rowF b n s).2 ∧ (rowF b n s).1.length = n := by
  have := mapS_all (f := fun s (_ : Nat) => anyF b s) (Iv := StOk) (Q := fun y => 0 ≤ y ∧ y < b) (fun s _ hs => ⟨anyF_lt hb s, anyF_ok hs⟩) (List.range n) s h
  rw [List.length_range] at this
  exact this
/-- what trips there are -/
def TOk (ts : List (List Int)) : Prop := ∃ m : Nat, 0 < m ∧ m ≤ 5 ∧ 0 < ts.length ∧ ts.length ≤ 5 ∧ ∀ r ∈ ts, r.length = m ∧ ∀ x ∈ r, 0 ≤ x ∧ x < 2 ^ 40
def PoT (aD aC : Addr) : En → List Ow → Prop := fun e R' => ∃ ts s', e = .d (tT ts) ∧ R' = dR aD aC s' ∧ StOk s' ∧ TOk ts
def N_trips : List En → List Ow → (En → List Ow → Prop) → Prop := fun es R Po => ∃ aD aC s, es = [.o aD, .d (.int 5)] ∧ R = dR aD aC s ∧ StOk s ∧ Po = PoT aD aC
theorem sc__law_trips : FnScope ["deal", "most", "many", "wide", "top", "person", "house"] ["deal", "most"] (defScope s__law_trips) := ⟨rfl, rfl, rfl, by decide +kernel, rfl, by decide +kernel, by decide +kernel⟩

theorem ok__law_trips (T : Txt K mg) : FnOk P w K mg base CX0 3 T.a__law_trips T.d__law_trips ["deal", "most"] (spN K N_trips) := by
  refine fn_esN T.f__law_trips sc__law_trips ?len (fun cdv A outer s H E es R Po hr hS => ?body)
  case len => rintro _ _ _ ⟨aD, aC, s, rfl, _⟩; rfl
  case body =>
    obtain ⟨aD, aC, st, rfl, rfl, hok, rfl⟩ := hS
    refine ⟨_, (pss_cons (ps_asg (pe_tup (pa_cons (pe_op (opAdd (K := K)) pe_int (pe_call (ok__law_any T) (hr.mono (by decide)) (by rfl) T.g__law_any T.f__law_any.kp T.b__law_any .nil pass0 (pa_cons (pv 0) (pa_cons (pv 1) pa_nil)))) (pa_cons (pe_op (opAdd (K := K)) pe_int (pe_call (ok__law_any T) (hr.mono (by decide)) (by rfl) T.g__law_any T.f__law_any.kp T.b__law_any .nil pass0 (pa_cons (pv 0) (pa_cons (pv 1) pa_nil)))) pa_nil))) (pgTup (K := K) rfl (pgs_cons (pg_name (i := 2) sc__law_trips.nd rfl (.inl rfl)) (pgs_cons (pg_name (i := 3) sc__law_trips.nd rfl (.inr rfl)) pgs_nil))))
      (pss_cons (ps_set (i := 4) sc__law_trips.nd rfl (.inr rfl) (pe_call (ok__law_of T) (hr.mono (by decide)) (by rfl) T.g__law_of T.f__law_of.kp T.b__law_of .nil pass0 (pa_cons (pv 0) (pa_cons (pe_lst (pa_cons pe_int (pa_cons pe_int (pa_cons pe_int pa_nil)))) pa_nil))))
      (pss_one (ps_ret (pe_callTy (callTup (K := K)) (by rfl) T.n_tuple (by decide +kernel) (pa_cons (pe_lc (own := [("person", 5)]) (g := gName 5) rfl sc__law_trips.nd (pi_range1 rfl T.n_range (pa_cons (pv 2) pa_nil)) (blkOk_by (N := ["deal", "most", "many", "wide", "top", "person", "house"]) (sc := defScope s__law_trips) (by decide +kernel)) (fun _ _ _ _ _ => (pg_name (i := 5) sc__law_trips.nd rfl (by first | exact .inl rfl | exact .inr rfl))) (fun _ _ _ _ _ => pts_nil) (fun _ _ _ _ _ => (pe_callTy (callTup (K := K)) (by rfl) T.n_tuple (by decide +kernel) (pa_cons (pe_lc (own := [("house", 6)]) (g := gName 6) rfl sc__law_trips.nd (pi_range1 rfl T.n_range (pa_cons (pv 3) pa_nil)) (blkOk_by (N := ["deal", "most", "many", "wide", "top", "person", "house"]) (by kernel_rfl)) (fun _ _ _ _ _ => (pg_name (i := 6) sc__law_trips.nd rfl (by first | exact .inl rfl | exact .inr rfl))) (fun _ _ _ _ _ => pts_nil) (fun _ _ _ _ _ => (pe_call (ok__law_any T) (hr.mono (by decide)) (by rfl) T.g__law_any T.f__law_any.kp T.b__law_any .nil pass0 (pa_cons (pv 0) (pa_cons (pv 4) pa_nil))))) pa_nil)))) pa_nil)))))), ?_⟩
    obtain ⟨n1, e1, p1, q1⟩ := one_any (s := st) (b := 5) (by omega)
    have ok1 := anyF_ok (b := 5) hok
    obtain ⟨n2, e2, p2, q2⟩ := one_any (s := (anyF 5 st).2) (b := 5) (by omega)
    have ok2 := anyF_ok (b := 5) ok1
    refine es_seq (es_asg (ev_tupE (ds := [.int (n1 : Int), .int (n2 : Int)]) (ea_cons (ev_cast (congrArg PyData.int e1) (ev_op ev_int (ev_any rfl (ev_d rfl) (by omega) (by omega) hok) rv_addI)) (ea_cons (ev_cast (congrArg PyData.int e2) (ev_op ev_int (ev_any rfl (ev_d rfl) (by omega) (by omega) ok1) rv_addI)) ea_nil)) rfl (small (by simp))) eg_pair ?_)
    obtain ⟨t, ht, et⟩ := ofF_ints (ns := [2, 4, 12]) (by simp) (anyF 5 (anyF 5 st).2).2
    have tb : 0 < t ∧ t ≤ 12 := by simp at ht; omega
    have ok3 : StOk (ofF ([2, 4, 12].map .int) (anyF 5 (anyF 5 st).2).2).2 := ofF_ok ok2
    refine es_seq (es_set (ev_cast et (ev_of (ds := [2, 4, 12].map .int) rfl (ev_lstE (ea_cons ev_int (ea_cons ev_int (ea_cons ev_int ea_nil))) rfl (small (by simp))) (by simp) (by simp) ok2)) ?_)
    generalize (ofF ([2, 4, 12].map .int) (anyF 5 (anyF 5 st).2).2).2 = s3 at ok3
    refine es_ret (ev_cb (ea_cons (ev_lc (ei_rngN (n := n1) (ea_cons (ev_d rfl) ea_nil) (by omega)) (lcr_state (β := List Int) (enc' := tI) (Rg := dR aD aC) (s := s3) (Inv := StOk) (f := fun s (_ : Nat) => rowF t n2 s) ok3 fun s a _ hs => ⟨(rowF_all tb.1 hs).2.1, _, egw_name, ?_⟩) (small (by rw [List.length_map, List.length_range]; omega))) ea_nil) rc_tupL) ?_
    · refine ev_cb (ea_cons (ev_lc (ei_rngN (n := n2) (ea_cons (ev_d rfl) ea_nil) (by omega)) (lcr_state (β := Int) (enc' := PyData.int) (Rg := dR aD aC) (s := s) (Inv := StOk) (f := fun s (_ : Nat) => anyF t s) hs fun s a _ hs => ⟨anyF_ok hs, _, egw_name, ?_⟩) (small (by rw [List.length_map, List.length_range]; omega))) ea_nil) rc_tupL
      exact ev_any rfl (ev_d rfl) tb.1 (by omega) hs
    · have h := mapS_all (f := fun s (_ : Nat) => rowF t n2 s) (Iv := StOk) (Q := fun r : List Int => r.length = n2 ∧ ∀ x ∈ r, 0 ≤ x ∧ x < 2 ^ 40) (fun s _ hs => by
        have := rowF_all (n := n2) tb.1 hs
        exact ⟨⟨this.2.2, fun x hx => ⟨(this.1 x hx).1, by have := (this.1 x hx).2; omega⟩⟩, this.2.1⟩) (List.range n1) s3 ok3
      rw [List.length_range] at h
      exact ⟨_, _, rfl, rfl, h.2.1, n2, by omega, by omega, by omega, by omega, h.1⟩
end
end K58

namespace K58
open PySem PySem.Spec PyProof.Rows L2 StX RZ Fx
section
variable {P : Program} {w : World} {K : PySem.W.Frag} {mg : Str → Option Value} {base : Heap}
def POk (n : Nat) (ps : List Int) : Prop := ps.length = n ∧ ∀ x ∈ ps, 0 ≤ x ∧ x < 2 ^ 40
def PoP (aD aC : Addr) (n : Nat) : En → List Ow → Prop := fun e R' => ∃ ps s', e = .d (tI ps) ∧ R' = dR aD aC s' ∧ StOk s' ∧ POk n ps
def N_prices : List En → List Ow → (En → List Ow → Prop) → Prop := fun es R Po => ∃ aD aC s, ∃ n : Nat, es = [.o aD, .d (.int n)] ∧ R = dR aD aC s ∧ StOk s ∧ n ≤ 1000 ∧ Po = PoP aD aC n
theorem sc__law_prices : FnScope ["deal", "many", "most", "at"] ["deal", "many"] (defScope s__law_prices) := ⟨rfl, rfl, rfl, by decide +kernel, rfl, by decide +kernel, by decide +kernel⟩

theorem ok__law_prices (T : Txt K mg) : FnOk P w K mg base CX0 3 T.a__law_prices T.d__law_prices ["deal", "many"] (spN K N_prices) := by
  refine fn_esN T.f__law_prices sc__law_prices ?len (fun cdv A outer s H E es R Po hr hS => ?body)
  case len => rintro _ _ _ ⟨aD, aC, s, n, rfl, _⟩; rfl
  case body =>
    obtain ⟨aD, aC, st, n, rfl, rfl, hok, hn, rfl⟩ := hS
    refine ⟨_, (pss_cons (ps_set (i := 2) sc__law_prices.nd rfl (.inr rfl) (pe_call (ok__law_of T) (hr.mono (by decide)) (by rfl) T.g__law_of T.f__law_of.kp T.b__law_of .nil pass0 (pa_cons (pv 0) (pa_cons (pe_lst (pa_cons pe_int (pa_cons pe_int (pa_cons pe_int (pa_cons pe_int (pa_cons (pe_op op_pow pe_int pe_int) pa_nil)))))) pa_nil))))
      (pss_one (ps_ret (pe_callTy (callTup (K := K)) (by rfl) T.n_tuple (by decide +kernel) (pa_cons (pe_lc (own := [("at", 3)]) (g := gName 3) rfl sc__law_prices.nd (pi_range1 rfl T.n_range (pa_cons (pv 1) pa_nil)) (blkOk_by (N := ["deal", "many", "most", "at"]) (sc := defScope s__law_prices) (by decide +kernel)) (fun _ _ _ _ _ => (pg_name (i := 3) sc__law_prices.nd rfl (by first | exact .inl rfl | exact .inr rfl))) (fun _ _ _ _ _ => pts_nil) (fun _ _ _ _ _ => (pe_call (ok__law_any T) (hr.mono (by decide)) (by rfl) T.g__law_any T.f__law_any.kp T.b__law_any .nil pass0 (pa_cons (pv 0) (pa_cons (pv 2) pa_nil))))) pa_nil))))), ?_⟩
    obtain ⟨t, ht, et⟩ := ofF_ints (ns := [2, 6, 6, 40, 10 ^ 9]) (by simp) st
    have tb : 0 < t ∧ t ≤ 10 ^ 9 := by simp at ht; omega
    have ok3 : StOk (ofF ([2, 6, 6, 40, 10 ^ 9].map .int) st).2 := ofF_ok hok
    refine es_seq (es_set (ev_cast et (ev_of (ds := [2, 6, 6, 40, 10 ^ 9].map .int) rfl (ev_lstE (ea_cons ev_int (ea_cons ev_int (ea_cons ev_int (ea_cons ev_int (ea_cons (ev_op ev_int ev_int (rv_intC (by unfold CPow; decide))) ea_nil))))) rfl (small (by simp))) (by simp) (by simp) hok)) ?_)
    generalize (ofF ([2, 6, 6, 40, 10 ^ 9].map .int) st).2 = s3 at ok3
    refine es_ret (ev_cb (ea_cons (ev_lc (ei_rngN (n := n) (ea_cons (ev_d rfl) ea_nil) (by omega)) (lcr_state (β := Int) (enc' := PyData.int) (Rg := dR aD aC) (s := s3) (Inv := StOk) (f := fun s (_ : Nat) => anyF t s) ok3 fun s a _ hs => ⟨anyF_ok hs, _, egw_name, ?_⟩) (small (by rw [List.length_map, List.length_range]; omega))) ea_nil) rc_tupL) ?_
    · exact ev_any rfl (ev_d rfl) tb.1 (by omega) hs
    · have := rowF_all (n := n) tb.1 ok3
      exact ⟨_, _, rfl, rfl, this.2.1, this.2.2, fun x hx => ⟨(this.1 x hx).1, by have := (this.1 x hx).2; omega⟩⟩
abbrev wD (ws : List (List Int)) : PyData := .list (ws.map lI)
def WOk (k : Nat) (ws : List (List Int)) : Prop := ws.length = k ∧ ∀ r ∈ ws, r.length = k ∧ ∀ x ∈ r, 0 ≤ x ∧ x ≤ 8 * (k : Int)
def PoW (aD aC : Addr) : En → List Ow → Prop := fun e R' => ∃ ws s', ∃ k : Nat, e = .d (wD ws) ∧ R' = dR aD aC s' ∧ StOk s' ∧ WOk k ws ∧ 0 < k ∧ k ≤ 7
def N_tree : List En → List Ow → (En → List Ow → Prop) → Prop := fun es R Po => ∃ aD aC s, es = [.o aD, .d (.int 7)] ∧ R = dR aD aC s ∧ StOk s ∧ Po = PoW aD aC
theorem rng2 {n : Nat} (h : 0 < n) : rngD 1 ((n : Int) - 1).toNat = (List.range (n - 1)).map fun (i : Nat) => PyData.int ((i + 1 : Nat) : Int) := by
  have e : ((n : Int) - 1).toNat = n - 1 := by omega
  rw [e]
  unfold rngD
  apply List.map_congr_left
  intro i _
  rw [show (1 : Int) + (i : Int) = ((i + 1 : Nat) : Int) by omega]
def growF (ws : List (List Int)) (near : Nat) (size : Int) : List (List Int) :=
  let row := (ws.getD near []).map (· + size)
  (List.range ws.length).map (fun o => ws.getD o [] ++ [row.getD o 0]) ++ [row ++ [0]]
theorem getD_mem {α : Type} {l : List α} {i : Nat} {d : α} (h : i < l.length) : l.getD i d ∈ l := by
  rw [List.getD_eq_getElem?_getD, List.getElem?_eq_getElem h]
  exact List.getElem_mem _
theorem growF_ok {ws : List (List Int)} {k near : Nat} {size : Int} (h : WOk k ws) (hn : near < k) (h0 : 0 ≤ size) (h1 : size ≤ 4) : WOk (k + 1) (growF ws near size) := by
  obtain ⟨hl, hr⟩ := h
  have hrow := hr _ (getD_mem (l := ws) (d := []) (i := near) (by omega))
  have rl : ((ws.getD near []).map (· + size)).length = k := by rw [List.length_map]; exact hrow.1
  have rb : ∀ x ∈ (ws.getD near []).map (· + size), 0 ≤ x ∧ x ≤ 8 * ((k + 1 : Nat) : Int) := by
    intro x hx
    obtain ⟨y, hy, rfl⟩ := List.mem_map.mp hx
    have := hrow.2 y hy
    constructor <;> omega
  unfold growF
  refine ⟨by simp; exact hl, fun r hr' => ?_⟩
  rcases List.mem_append.mp hr' with h | h
  · obtain ⟨o, ho, rfl⟩ := List.mem_map.mp h
    have ho' : o < ws.length := List.mem_range.mp ho
    have h2 := hr _ (getD_mem (l := ws) (d := []) ho')
    refine ⟨by rw [List.length_append, h2.1]; rfl, fun x hx => ?_⟩
    rcases List.mem_append.mp hx with h | h
    · have := h2.2 x h; constructor <;> omega
    · simp only [List.mem_singleton] at h
      rw [h]
      exact rb _ (getD_mem (by omega))
  · simp only [List.mem_singleton] at h
    subst h
    refine ⟨by rw [List.length_append, rl]; rfl, fun x hx => ?_⟩
    rcases List.mem_append.mp hx with h | h
    · exact rb x h
    · simp only [List.mem_singleton] at h
      subst h
      constructor <;> omega
theorem sc__law_tree : FnScope ["deal", "most", "many", "ways", "at", "near", "size", "row", "way", "other"] ["deal", "most"] (defScope s__law_tree) := ⟨rfl, rfl, rfl, by decide +kernel, rfl, by decide +kernel, by decide +kernel⟩

theorem ok__law_tree (T : Txt K mg) : FnOk P w K mg base CX0 3 T.a__law_tree T.d__law_tree ["deal", "most"] (spN K N_tree) := by
  refine fn_esN T.f__law_tree sc__law_tree ?len (fun cdv A outer s H E es R Po hr hS => ?body)
  case len => rintro _ _ _ ⟨aD, aC, s, rfl, _⟩; rfl
  case body =>
    obtain ⟨aD, aC, st, rfl, rfl, hok, rfl⟩ := hS
    refine ⟨_, (pss_cons (ps_asg (pe_tup (pa_cons (pe_op (opAdd (K := K)) pe_int (pe_call (ok__law_any T) (hr.mono (by decide)) (by rfl) T.g__law_any T.f__law_any.kp T.b__law_any .nil pass0 (pa_cons (pv 0) (pa_cons (pv 1) pa_nil)))) (pa_cons (pe_lst (pa_cons (pe_lst (pa_cons pe_int pa_nil)) pa_nil)) pa_nil))) (pgTup (K := K) rfl (pgs_cons (pg_name (i := 2) sc__law_tree.nd rfl (.inl rfl)) (pgs_cons (pg_name (i := 3) sc__law_tree.nd rfl (.inr rfl)) pgs_nil))))
      (pss_cons (ps_for PassesOwn.never rfl (pi_range2 rfl T.n_range (pa_cons pe_int (pa_cons (pv 2) pa_nil))) (pg_name (i := 4) sc__law_tree.nd rfl (.inl rfl)) (pss_cons (ps_asg (pe_tup (pa_cons (pe_call (ok__law_any T) (hr.mono (by decide)) (by rfl) T.g__law_any T.f__law_any.kp T.b__law_any .nil pass0 (pa_cons (pv 0) (pa_cons (pv 4) pa_nil))) (pa_cons (pe_op (opAdd (K := K)) pe_int (pe_call (ok__law_any T) (hr.mono (by decide)) (by rfl) T.g__law_any T.f__law_any.kp T.b__law_any .nil pass0 (pa_cons (pv 0) (pa_cons (pe_call (ok__law_of T) (hr.mono (by decide)) (by rfl) T.g__law_of T.f__law_of.kp T.b__law_of .nil pass0 (pa_cons (pv 0) (pa_cons (pe_lst (pa_cons pe_int (pa_cons pe_int pa_nil))) pa_nil))) pa_nil)))) pa_nil))) (pgTup (K := K) rfl (pgs_cons (pg_name (i := 5) sc__law_tree.nd rfl (.inl rfl)) (pgs_cons (pg_name (i := 6) sc__law_tree.nd rfl (.inr rfl)) pgs_nil))))
      (pss_cons (ps_set (i := 7) sc__law_tree.nd rfl (.inr rfl) (pe_lc (own := [("way", 8)]) (g := gName 8) rfl sc__law_tree.nd (piAny (K := K) (pe_ix (ixAny (K := K)) (pv 3) (pv 5) (fun _ _ => rfl))) (blkOk_by (N := ["deal", "most", "many", "ways", "at", "near", "size", "row", "way", "other"]) (sc := defScope s__law_tree) (by decide +kernel)) (fun _ _ _ _ _ => (pg_name (i := 8) sc__law_tree.nd rfl (by first | exact .inl rfl | exact .inr rfl))) (fun _ _ _ _ _ => pts_nil) (fun _ _ _ _ _ => (pe_op (opAdd (K := K)) (pv 8) (pv 6)))))
      (pss_one (ps_set (i := 3) sc__law_tree.nd rfl (.inr rfl) (pe_op (opAdd (K := K)) (pe_lc (own := [("other", 9)]) (g := gName 9) rfl sc__law_tree.nd (pi_range1 rfl T.n_range (pa_cons (pv 4) pa_nil)) (blkOk_by (N := ["deal", "most", "many", "ways", "at", "near", "size", "row", "way", "other"]) (sc := defScope s__law_tree) (by decide +kernel)) (fun _ _ _ _ _ => (pg_name (i := 9) sc__law_tree.nd rfl (by first | exact .inl rfl | exact .inr rfl))) (fun _ _ _ _ _ => pts_nil) (fun _ _ _ _ _ => (pe_op (opAdd (K := K)) (pe_ix (ixAny (K := K)) (pv 3) (pv 9) (fun _ _ => rfl)) (pe_lst (pa_cons (pe_ix (ixAny (K := K)) (pv 7) (pv 9) (fun _ _ => rfl)) pa_nil))))) (pe_lst (pa_cons (pe_op (opAdd (K := K)) (pv 7) (pe_lst (pa_cons pe_int pa_nil))) pa_nil))))))))
      (pss_one (ps_ret (pv 3))))), ?_⟩
    obtain ⟨n1, e1, p1, q1⟩ := one_any (s := st) (b := 7) (by omega)
    have ok1 := anyF_ok (b := 7) hok
    refine es_seq (es_asg (ev_tupE (ds := [.int (n1 : Int), wD [[0]]]) (ea_cons (ev_cast (congrArg PyData.int e1) (ev_op ev_int (ev_any rfl (ev_d rfl) (by omega) (by omega) hok) rv_addI)) (ea_cons (ev_lstE (ds := [lI [0]]) (ea_cons (ev_lstE (ds := [.int 0]) (ea_cons ev_int ea_nil) rfl (small (by simp))) ea_nil) rfl (small (by simp))) ea_nil)) rfl (small (by simp))) eg_pair ?_)
    generalize (anyF 7 st).2 = s1 at ok1
    refine es_seq (es_for (ei_cast (rng2 p1) (ei_rng2 (i := 1) (j := (n1 : Int)) (ea_cons ev_int (ea_cons (ev_d rfl) ea_nil)) (by omega))) (fun i ρ R => ∃ ws s e4 e5 e6 e7, ρ = [.o aD, .d (.int 7), .d (.int (n1 : Int)), .d (wD ws), e4, e5, e6, e7, .u, .u] ∧ R = dR aD aC s ∧ StOk s ∧ WOk (i + 1) ws) ⟨[[0]], s1, _, _, _, _, rfl, rfl, ok1, rfl, by intro r hr; simp at hr; subst hr; exact ⟨rfl, by intro x hx; simp at hx; subst hx; constructor <;> omega⟩⟩ ?_ ?_)
    · rintro i d ρ R hd ⟨ws, s, e4, e5, e6, e7, rfl, rfl, hs, hw⟩
      have hi : i < n1 - 1 := by have := (List.getElem?_eq_some_iff.mp hd).1; simpa using this
      have hd' : d = .int ((i + 1 : Nat) : Int) := by
        rw [List.getElem?_map, List.getElem?_range hi] at hd
        exact (Option.some.inj hd).symm
      subst hd'
      refine ⟨_, eg_name, ?_⟩
      -- near, size
      have hb := anyF_lt (b := ((i + 1 : Nat) : Int)) (by omega) s
      obtain ⟨near, hnear⟩ : ∃ near : Nat, (anyF ((i + 1 : Nat) : Int) s).1 = (near : Int) := ⟨(anyF ((i + 1 : Nat) : Int) s).1.toNat, by omega⟩
      have hnl : near < i + 1 := by omega
      have oka := anyF_ok (b := ((i + 1 : Nat) : Int)) hs
      obtain ⟨t, ht, et⟩ := ofF_ints (ns := [1, 4]) (by simp) (anyF ((i + 1 : Nat) : Int) s).2
      have tb : 0 < t ∧ t ≤ 4 := by simp at ht; omega
      have okb : StOk (ofF ([1, 4].map .int) (anyF ((i + 1 : Nat) : Int) s).2).2 := ofF_ok oka
      refine es_seq (es_asg (ev_tupE (ds := [.int (near : Int), .int (1 + (anyF t (ofF ([1, 4].map .int) (anyF ((i + 1 : Nat) : Int) s).2).2).1)]) (ea_cons (ev_cast (congrArg PyData.int hnear) (ev_any rfl (ev_d rfl) (by omega) (by omega) hs)) (ea_cons (ev_op ev_int (ev_any rfl (ev_cast et (ev_of (ds := [1, 4].map .int) rfl (ev_lstE (ea_cons ev_int (ea_cons ev_int ea_nil)) rfl (small (by simp))) (by simp) (by simp) oka)) tb.1 (by omega) okb) rv_addI) ea_nil)) rfl (small (by simp))) eg_pair ?_)
      have hsz := anyF_lt tb.1 (ofF ([1, 4].map .int) (anyF ((i + 1 : Nat) : Int) s).2).2
      have okc := anyF_ok (b := t) okb
      generalize hsize : 1 + (anyF t (ofF ([1, 4].map .int) (anyF ((i + 1 : Nat) : Int) s).2).2).1 = size
      have sz : 0 ≤ size ∧ size ≤ 4 := by omega
      generalize (anyF t (ofF ([1, 4].map .int) (anyF ((i + 1 : Nat) : Int) s).2).2).2 = s4 at okc
      -- row
      have hnw : near < ws.length := by have := hw.1; omega
      have hrw := hw.2 _ (getD_mem (l := ws) (d := []) hnw)
      refine es_seq (es_set (ev_lc (ei_L (ev_op (ev_d rfl) (ev_d rfl) (rv_iL (atI_map (get_getD (d := []) hnw))))) (lcr_mapT (f := fun x => .int (x + size)) fun x hx => ⟨_, egw_name, ev_op (ev_d rfl) (ev_d rfl) rv_addI⟩) (small (by rw [List.length_map, hrw.1]; omega))) ?_)
      -- ways
      have rowE : (ws.getD near []).map (fun x => PyData.int (x + size)) = ((ws.getD near []).map (· + size)).map .int := by rw [List.map_map]; rfl
      rw [rowE]
      have rl : ((ws.getD near []).map (· + size)).length = i + 1 := by rw [List.length_map]; exact hrw.1
      generalize hrow : (ws.getD near []).map (· + size) = row at rl
      refine es_set (ev_cast (d := .list ((List.range (i + 1)).map (fun o => PyData.list ((ws.getD o []).map .int ++ [.int (row.getD o 0)])) ++ [.list (row.map .int ++ [.int 0])])) ?eqw (ev_op (ev_lc (ei_rngN (n := i + 1) (ea_cons (ev_d rfl) ea_nil) (by omega)) (lcr_mapT (f := fun o => PyData.list ((ws.getD o []).map .int ++ [.int (row.getD o 0)])) fun o ho => ⟨_, egw_name, ?el⟩) (small (by rw [List.length_map, List.length_range]; omega))) (ev_lstE (ds := [.list (row.map .int ++ [.int 0])]) (ea_cons (ev_op (ev_d rfl) (ev_lstE (ds := [.int 0]) (ea_cons ev_int ea_nil) rfl (small (by simp))) (rv_addL (small (by simp [rl]; omega)))) ea_nil) rfl (small (by simp))) (rv_addL (small (by simp; omega))))) ⟨growF ws near size, s4, .d (.int ((i + 1 : Nat) : Int)), .d (.int (near : Int)), .d (.int size), .d (lI row), rfl, rfl, okc, growF_ok hw hnl sz.1 sz.2⟩
      case eqw =>
        unfold growF
        simp only [hrow]
        rw [hw.1]
        simp [List.map_map, Function.comp_def]
      case el =>
        have ho' : o < i + 1 := List.mem_range.mp ho
        have h2 := hw.2 _ (getD_mem (l := ws) (d := []) (i := o) (by have := hw.1; omega))
        refine ev_op (ev_op (ev_d rfl) (ev_d rfl) (rv_iL (atI_map (get_getD (d := []) (by have := hw.1; omega))))) (ev_lstE (ds := [.int (row.getD o 0)]) (ea_cons (ev_op (ev_d rfl) (ev_d rfl) (rv_iL (atI_map (get_getD (by omega))))) ea_nil) rfl (small (by simp))) (rv_addL (small ?_))
        simp only [List.length_map, h2.1, List.length_singleton]; omega
    · rintro ρ R ⟨ws, s, e4, e5, e6, e7, rfl, rfl, hs, hw⟩
      rw [List.length_map, List.length_range] at hw
      exact es_ret (ev_d rfl) ⟨ws, s, n1 - 1 + 1, rfl, rfl, hs, hw, by omega, by omega⟩
end
end K58

namespace K58
open PySem PySem.Spec PyProof.Rows L2 StX RZ Fx
section
variable {P : Program} {w : World} {K : PySem.W.Frag} {mg : Str → Option Value} {base : Heap}
theorem lcr_stateM {α β σ : Type} {g : TG} {te : TE} {ρ : List En} {vs : List Nat} {enc : α → PyData} {enc' : β → PyData} {Rg : σ → List Ow} {f : σ → α → β × σ} {Inv : σ → Prop} {l : List α} {s : σ} (hi : Inv s) (h : ∀ s a, a ∈ l → Inv s → Inv (f s a).2 ∧ ∃ ρ', EgW K g vs (.d (enc a)) ρ ρ' ∧ Ev K te ρ' (Rg s) (.d (enc' (f s a).1)) (Rg (f s a).2)) :
    LcR K g tYes te vs ρ (l.map enc) (Rg s) ((mapS f s l).1.map enc') (Rg (mapS f s l).2) := lcr_state hi h
theorem sc__law_tree_trips : FnScope ["deal", "most", "ways", "houses", "people", "at", "place", "weight", "house"] ["deal", "most"] (defScope s__law_tree_trips) := ⟨rfl, rfl, rfl, by decide +kernel, rfl, by decide +kernel, by decide +kernel⟩

theorem ok__law_tree_trips (T : Txt K mg) : FnOk P w K mg base CX0 4 T.a__law_tree_trips T.d__law_tree_trips ["deal", "most"] (spN K N_trips) := by
  refine fn_esN T.f__law_tree_trips sc__law_tree_trips ?len (fun cdv A outer s H E es R Po hr hS => ?body)
  case len => rintro _ _ _ ⟨aD, aC, s, rfl, _⟩; rfl
  case body =>
    obtain ⟨aD, aC, st, rfl, rfl, hok, rfl⟩ := hS
    refine ⟨_, (pss_cons (ps_set (i := 2) sc__law_tree_trips.nd rfl (.inr rfl) (pe_call (ok__law_tree T) (hr.mono (by decide)) (by rfl) T.g__law_tree T.f__law_tree.kp T.b__law_tree .nil pass0 (pa_cons (pv 0) (pa_cons pe_int pa_nil))))
      (pss_cons (ps_set (i := 3) sc__law_tree_trips.nd rfl (.inr rfl) (pe_lc (own := [("at", 5)]) (g := gName 5) rfl sc__law_tree_trips.nd (pi_range1 rfl T.n_range (pa_cons (pe_op (opAdd (K := K)) pe_int (pe_call (ok__law_any T) (hr.mono (by decide)) (by rfl) T.g__law_any T.f__law_any.kp T.b__law_any .nil pass0 (pa_cons (pv 0) (pa_cons (pv 1) pa_nil)))) pa_nil)) (blkOk_by (N := ["deal", "most", "ways", "houses", "people", "at", "place", "weight", "house"]) (sc := defScope s__law_tree_trips) (by decide +kernel)) (fun _ _ _ _ _ => (pg_name (i := 5) sc__law_tree_trips.nd rfl (by first | exact .inl rfl | exact .inr rfl))) (fun _ _ _ _ _ => pts_nil) (fun _ _ _ _ _ => (pe_call (ok__law_any T) (hr.mono (by decide)) (by rfl) T.g__law_any T.f__law_any.kp T.b__law_any .nil pass0 (pa_cons (pv 0) (pa_cons (pe_callB (callLen (K := K)) (by rfl) T.n_len (by decide +kernel) (pa_cons (pv 2) pa_nil)) pa_nil))))))
      (pss_cons (ps_setLc (i := 4) (own := [("at", 5)]) (g := gName 5) rfl sc__law_tree_trips.nd rfl rfl (sw_true rfl rfl rfl (by decide +kernel)) (pi_range1 rfl T.n_range (pa_cons (pe_op (opAdd (K := K)) pe_int (pe_call (ok__law_any T) (hr.mono (by decide)) (by rfl) T.g__law_any T.f__law_any.kp T.b__law_any .nil pass0 (pa_cons (pv 0) (pa_cons (pv 1) pa_nil)))) pa_nil)) (blkOk_by (N := ["deal", "most", "ways", "houses", "people", "at", "place", "weight", "house"]) (sc := defScope s__law_tree_trips) (by decide +kernel)) (fun _ _ _ _ _ => (pg_name (i := 5) sc__law_tree_trips.nd rfl (by first | exact .inl rfl | exact .inr rfl))) (fun _ _ _ _ _ => pts_nil) (fun _ _ _ _ _ => (pe_tup (pa_cons (pe_call (ok__law_any T) (hr.mono (by decide)) (by rfl) T.g__law_any T.f__law_any.kp T.b__law_any .nil pass0 (pa_cons (pv 0) (pa_cons (pe_callB (callLen (K := K)) (by rfl) T.n_len (by decide +kernel) (pa_cons (pv 2) pa_nil)) pa_nil))) (pa_cons (pe_call (ok__law_of T) (hr.mono (by decide)) (by rfl) T.g__law_of T.f__law_of.kp T.b__law_of .nil pass0 (pa_cons (pv 0) (pa_cons (pe_lst (pa_cons pe_int (pa_cons pe_int (pa_cons pe_int (pa_cons pe_int (pa_cons pe_int pa_nil)))))) pa_nil))) pa_nil)))))
      (pss_one (ps_ret (pe_callTy (callTup (K := K)) (by rfl) T.n_tuple (by decide +kernel) (pa_cons (pe_lc (own := [("place", 6), ("weight", 7)]) (g := gTup K 2 (gCons (gName 6) (gCons (gName 7) gNil))) rfl sc__law_tree_trips.nd (piAny (K := K) (pv 4)) (blkOk_by (N := ["deal", "most", "ways", "houses", "people", "at", "place", "weight", "house"]) (sc := defScope s__law_tree_trips) (by decide +kernel)) (fun _ _ _ _ _ => (pgTup (K := K) rfl (pgs_cons (pg_name (i := 6) sc__law_tree_trips.nd rfl (by first | exact .inl rfl | exact .inr rfl)) (pgs_cons (pg_name (i := 7) sc__law_tree_trips.nd rfl (by first | exact .inl rfl | exact .inr rfl)) pgs_nil)))) (fun _ _ _ _ _ => pts_nil) (fun _ _ _ _ _ => (pe_callTy (callTup (K := K)) (by rfl) T.n_tuple (by decide +kernel) (pa_cons (pe_lc (own := [("house", 8)]) (g := gName 8) rfl sc__law_tree_trips.nd (piAny (K := K) (pv 3)) (blkOk_by (N := ["deal", "most", "ways", "houses", "people", "at", "place", "weight", "house"]) (by kernel_rfl)) (fun _ _ _ _ _ => (pg_name (i := 8) sc__law_tree_trips.nd rfl (by first | exact .inl rfl | exact .inr rfl))) (fun _ _ _ _ _ => pts_nil) (fun _ _ _ _ _ => (pe_op opMul (pv 7) (pe_ix (ixAny (K := K)) (pe_ix (ixAny (K := K)) (pv 2) (pv 6) (fun _ _ => rfl)) (pv 8) (fun _ _ => rfl))))) pa_nil)))) pa_nil))))))), ?_⟩
    refine es_seq (es_setN (evp_call (Rc := dR aD aC st) (Rf := []) (Pre := N_tree) ⟨aD, aC, st, rfl, rfl, hok, rfl⟩ (ea_cons (ev_o rfl) (ea_cons ev_int ea_nil))) ?_)
    rintro _ _ ⟨_, rfl, ws, s1, k, rfl, rfl, hs1, hw, hk, hk2⟩
    show Es K _ _ (dR aD aC s1) _
    have hwl : ws.length = k := hw.1
    -- houses
    obtain ⟨n1, e1, p1, q1⟩ := one_any (s := s1) (b := 5) (by omega)
    have ok1 := anyF_ok (b := 5) hs1
    refine es_seq (es_set (ev_lc (ei_rngN (n := n1) (ea_cons (ev_cast (congrArg PyData.int e1) (ev_op ev_int (ev_any rfl (ev_d rfl) (by omega) (by omega) hs1) rv_addI)) ea_nil) (by omega)) (lcr_stateM (β := Int) (enc' := PyData.int) (Rg := dR aD aC) (s := (anyF 5 s1).2) (Inv := StOk) (f := fun s (_ : Nat) => anyF (k : Int) s) ok1 fun s a _ hs => ⟨anyF_ok hs, _, egw_name, ?_⟩) (small (by rw [List.length_map, List.length_range]; omega))) ?_)
    · exact ev_any rfl (ev_cast (d := .int ((ws.map lI).length : Int)) (by rw [List.length_map, hwl]) (ev_cb (ea_cons (ev_d rfl) ea_nil) rc_lenL)) (by omega) (by omega) hs
    have hh := mapS_all (f := fun s (_ : Nat) => anyF (k : Int) s) (Iv := StOk) (Q := fun y => 0 ≤ y ∧ y < (k : Int)) (fun s _ hs => ⟨anyF_lt (by omega) s, anyF_ok hs⟩) (List.range n1) (anyF 5 s1).2 ok1
    rw [List.length_range] at hh
    generalize (mapS (fun s (_ : Nat) => anyF (k : Int) s) (anyF 5 s1).2 (List.range n1)) = hq at hh
    obtain ⟨hs, s2⟩ := hq
    obtain ⟨hb, hs2, hl⟩ := hh
    simp only at hb hs2 hl
    -- people
    obtain ⟨n2, e2, p2, q2⟩ := one_any (s := s2) (b := 5) (by omega)
    have ok2 := anyF_ok (b := 5) hs2
    refine es_seq (es_set (ev_lc (ei_rngN (n := n2) (ea_cons (ev_cast (congrArg PyData.int e2) (ev_op ev_int (ev_any rfl (ev_d rfl) (by omega) (by omega) hs2) rv_addI)) ea_nil) (by omega)) (lcr_stateM (β := PyData × PyData) (enc' := fun p => .tuple [p.1, p.2]) (Rg := dR aD aC) (s := (anyF 5 s2).2) (Inv := StOk) (f := fun s (_ : Nat) => ((.int (anyF (k : Int) s).1, (ofF ([0, 1, 1, 2, 5].map .int) (anyF (k : Int) s).2).1), (ofF ([0, 1, 1, 2, 5].map .int) (anyF (k : Int) s).2).2)) ok2 fun s a _ hs => ⟨ofF_ok (anyF_ok hs), _, egw_name, ?_⟩) (small (by rw [List.length_map, List.length_range]; omega))) ?_)
    · exact ev_tupE (ea_cons (ev_any rfl (ev_cast (d := .int ((ws.map lI).length : Int)) (by rw [List.length_map, hwl]) (ev_cb (ea_cons (ev_d rfl) ea_nil) rc_lenL)) (by omega) (by omega) hs) (ea_cons (ev_of (ds := [0, 1, 1, 2, 5].map .int) rfl (ev_lstE (ea_cons ev_int (ea_cons ev_int (ea_cons ev_int (ea_cons ev_int (ea_cons ev_int ea_nil))))) rfl (small (by simp))) (by simp) (by simp) (anyF_ok hs)) ea_nil)) rfl (small (by simp))
    have hp := mapS_all (f := fun s (_ : Nat) => ((PyData.int (anyF (k : Int) s).1, (ofF ([0, 1, 1, 2, 5].map .int) (anyF (k : Int) s).2).1), (ofF ([0, 1, 1, 2, 5].map .int) (anyF (k : Int) s).2).2)) (Iv := StOk) (Q := fun p : PyData × PyData => ∃ (a : Nat) (b : Int), p = (.int a, .int b) ∧ a < k ∧ 0 ≤ b ∧ b ≤ 5) (fun s _ hs => by
      refine ⟨?_, ofF_ok (anyF_ok hs)⟩
      obtain ⟨t, ht, et⟩ := ofF_ints (ns := [0, 1, 1, 2, 5]) (by simp) (anyF (k : Int) s).2
      have h1 := anyF_lt (b := (k : Int)) (by omega) s
      exact ⟨(anyF (k : Int) s).1.toNat, t, by rw [et, Int.toNat_of_nonneg h1.1], by omega, by simp at ht; omega, by simp at ht; omega⟩) (List.range n2) (anyF 5 s2).2 ok2
    rw [List.length_range] at hp
    generalize (mapS (fun s (_ : Nat) => ((PyData.int (anyF (k : Int) s).1, (ofF ([0, 1, 1, 2, 5].map .int) (anyF (k : Int) s).2).1), (ofF ([0, 1, 1, 2, 5].map .int) (anyF (k : Int) s).2).2)) (anyF 5 s2).2 (List.range n2)) = pq at hp
    obtain ⟨ps, s3⟩ := pq
    obtain ⟨hpb, hs3, hpl⟩ := hp
    simp only at hpb hs3 hpl
    -- the people as numbers
    obtain ⟨qs, hqs, hqb⟩ : ∃ qs : List (Nat × Int), ps = qs.map (fun q => (PyData.int (q.1 : Int), PyData.int q.2)) ∧ ∀ q ∈ qs, q.1 < k ∧ 0 ≤ q.2 ∧ q.2 ≤ 5 := by
      clear hpl
      induction ps with
      | nil => exact ⟨[], rfl, by simp⟩
      | cons p ps ih =>
        obtain ⟨qs, h1, h2⟩ := ih fun p hp => hpb p (by simp [hp])
        obtain ⟨a, b, e, h3, h4, h5⟩ := hpb p (by simp)
        exact ⟨(a, b) :: qs, by rw [h1, e]; rfl, by intro q hq; rcases List.mem_cons.mp hq with rfl | hq; exact ⟨h3, h4, h5⟩; exact h2 q hq⟩
    subst hqs
    have hqm : (qs.map fun q => (PyData.int (q.1 : Int), PyData.int q.2)).map (fun p => PyData.tuple [p.1, p.2]) = qs.map fun q => PyData.tuple [.int (q.1 : Int), .int q.2] := by rw [List.map_map]; rfl
    -- the houses as places
    have hhn : ∃ hn : List Nat, hs = hn.map (fun (n : Nat) => (n : Int)) ∧ ∀ n ∈ hn, n < k := by
      clear hl
      induction hs with
      | nil => exact ⟨[], rfl, by simp⟩
      | cons h r ih =>
        obtain ⟨hn, h1, h2⟩ := ih fun p hp => hb p (by simp [hp])
        have := hb h (by simp)
        exact ⟨h.toNat :: hn, by rw [h1, List.map_cons, Int.toNat_of_nonneg this.1], by intro q hq; rcases List.mem_cons.mp hq with rfl | hq; omega; exact h2 q hq⟩
    obtain ⟨hn, rfl, hnb⟩ := hhn
    have el : ∀ q : Nat × Int, q ∈ qs → ∀ h ∈ hn, 0 ≤ (ws.getD q.1 []).getD h 0 ∧ (ws.getD q.1 []).getD h 0 ≤ 56 ∧ q.1 < ws.length ∧ h < (ws.getD q.1 []).length := by
      intro q hq h hh
      have h1 := hqb q hq
      have h2 := hw.2 _ (getD_mem (l := ws) (d := []) (i := q.1) (by omega))
      have h3 := hnb h hh
      have h4 := h2.2 _ (getD_mem (l := ws.getD q.1 []) (d := 0) (i := h) (by omega))
      exact ⟨h4.1, by omega, by omega, by omega⟩
    refine es_ret (ev_cb (ea_cons (ev_lc (ei_cast hqm (ei_L (ev_d rfl))) (lcr_mapT (f := fun q : Nat × Int => tI (hn.map fun h => q.2 * (ws.getD q.1 []).getD h 0)) fun q hq => ⟨_, egw_pair, ?inner⟩) (small (by simp at hpl ⊢; omega))) ea_nil) rc_tupL) ⟨qs.map fun q => hn.map fun h => q.2 * (ws.getD q.1 []).getD h 0, s3, by rw [tT, List.map_map]; rfl, rfl, hs3, n1, by omega, by omega, by simp at hpl ⊢; omega, by simp at hpl ⊢; omega, ?_⟩
    case inner =>
      refine ev_cast (d := .tuple (hn.map fun h => PyData.int (q.2 * (ws.getD q.1 []).getD h 0))) (by rw [tI, List.map_map]; rfl) ?_
      have hz2 : ((hn.map fun (n : Nat) => (n : Int)).map PyData.int).length ≤ sizeLine := by simp at hl; exact small (by simp; omega)
      have hmm : (hn.map fun (n : Nat) => (n : Int)).map PyData.int = hn.map fun (n : Nat) => PyData.int (n : Int) := by rw [List.map_map]; rfl
      refine ev_cb (ea_cons (ev_lc (ei_cast hmm (ei_L (ev_d rfl))) (lcr_mapT (f := fun h => PyData.int (q.2 * (ws.getD q.1 []).getD h 0)) fun h hh => ⟨_, egw_name, ?e⟩) (by rw [← hmm]; exact hz2)) ea_nil) rc_tupL
      obtain ⟨b1, b2, b3, b4⟩ := el q hq h hh
      have h5 := hqb q hq
      exact ev_op (ev_d rfl) (ev_op (ev_op (ev_d rfl) (ev_d rfl) (rv_iL (atI_map (get_getD (d := []) b3)))) (ev_d rfl) (rv_iL (atI_map (get_getD (d := 0) b4)))) (rv_intC (wide_mul (a := 3) (b := 6) (by omega) (by omega) (by omega) (by omega) (by omega)))
    · intro r hr'
      obtain ⟨q, hq, rfl⟩ := List.mem_map.mp hr'
      refine ⟨by simp at hl ⊢; omega, fun x hx => ?_⟩
      obtain ⟨h, hh, rfl⟩ := List.mem_map.mp hx
      obtain ⟨b1, b2, b3, b4⟩ := el q hq h hh
      have h5 := hqb q hq
      have m1 := Int.mul_nonneg h5.2.1 b1
      have m2 : q.2 * (ws.getD q.1 []).getD h 0 ≤ 5 * 56 := Int.mul_le_mul h5.2.2 b2 b1 (by omega)
      exact ⟨m1, by omega⟩
end
end K58

namespace K58
open PySem PySem.Spec PyProof.Rows L2 StX RZ Fx
section
variable {P : Program} {w : World} {K : PySem.W.Frag} {mg : Str → Option Value} {base : Heap}
theorem et_truB {ρ : List En} {R R1 : List Ow} {ta : TE} {b : Bool} (h : Ev K ta ρ R (.d (.bool b)) R1) : Et K (fun σ H Q => ta σ H fun x H' => ∃ k, TruV K x H' k ∧ Q k H') ρ R b R1 := et_tru h (fun s e => nomatch e)
def nfF (ds : List PyData) : PyData := match ds.findIdx? fun d => !isNumD d with
  | some i => .int (i : Int)
  | none => .none
theorem nfF_none (ds : List PyData) : isNoneD (nfF ds) = ds.all isNumD := by
  unfold nfF
  cases h : ds.findIdx? fun d => !isNumD d with
  | none =>
    have := List.findIdx?_eq_none_iff.mp h
    simp only [isNoneD]
    symm
    rw [List.all_eq_true]
    intro x hx
    simpa using this x hx
  | some i =>
    simp only [isNoneD]
    symm
    rw [List.all_eq_false]
    obtain ⟨hi, h1, _⟩ := List.findIdx?_eq_some_iff_getElem.mp h
    exact ⟨ds[i], List.getElem_mem hi, by simpa using h1⟩
theorem sc_number_fault : FnScope ["things", "at", "thing"] ["things"] (defScope s_number_fault) := ⟨rfl, rfl, rfl, by decide +kernel, rfl, by decide +kernel, by decide +kernel⟩

def S_number_fault : List En → List Ow → En → List Ow → Prop := fun es R e R' => ∃ ds, es = [.d (.tuple ds)] ∧ R = [] ∧ R' = [] ∧ e = .d (nfF ds)
theorem ok_number_fault (T : Txt K mg) : FnOk P w K mg base CX0 3 T.a_number_fault T.d_number_fault ["things"] (spS K S_number_fault) := by
  refine fn_es T.f_number_fault sc_number_fault ?len (fun cdv A outer s H E es R e R' hr hS => ?body)
  case len => rintro _ _ _ _ ⟨d, rfl, _⟩; rfl
  case body =>
    obtain ⟨ds, rfl, rfl, rfl, rfl⟩ := hS
    refine ⟨_, (pss_cons (ps_for PassesOwn.never rfl (piEnum (K := K) (by rfl) T.n_enumerate (pa_cons (pv 0) pa_nil)) (pgTup (K := K) rfl (pgs_cons (pg_name (i := 1) sc_number_fault.nd rfl (.inl rfl)) (pgs_cons (pg_name (i := 2) sc_number_fault.nd rfl (.inl rfl)) pgs_nil))) (pss_one (ps_if (pt_not (ptTruth (K := K) (pe_call (ok_is_number T) (hr.mono (by decide)) (by rfl) T.g_is_number T.f_is_number.kp T.b_is_number .nil pass0 (pa_cons (pv 2) pa_nil)))) (pss_one (ps_ret (pv 1))) pss_nil)))
      (pss_one (ps_ret pe_non))), ?_⟩
    refine es_seq (es_for (ei_enumT (ea_cons (ev_d rfl) ea_nil)) (fun i ρ R => R = [] ∧ (∃ e1 e2, ρ = [.d (.tuple ds), e1, e2]) ∧ ∀ j d, j < i → ds[j]? = some d → isNumD d = true) ⟨rfl, ⟨_, _, rfl⟩, fun j d h => absurd h (Nat.not_lt_zero _)⟩ ?_ ?_)
    · rintro i d ρ R hd ⟨rfl, ⟨e1, e2, rfl⟩, hj⟩
      obtain ⟨a, b, ha, hb, rfl⟩ := prs_get hd
      have hi : i < ds.length := (List.getElem?_eq_some_iff.mp hb).1
      rw [rngD_get hi] at ha
      cases ha
      rw [Int.zero_add]
      refine ⟨_, eg_pair, es_if (et_not (et_truB (ev_callP ⟨b, rfl, rfl, rfl, rfl⟩ (ea_cons (ev_d rfl) ea_nil)))) (fun h => ?_) (fun h => es_next ⟨rfl, ⟨_, _, rfl⟩, fun j d hj2 hjd => ?_⟩)⟩
      · refine es_ret (ev_d rfl) ⟨?_, rfl⟩
        have hf : ds.findIdx? (fun d => !isNumD d) = some i := by
          rw [List.findIdx?_eq_some_iff_getElem]
          obtain ⟨_, hbe⟩ := List.getElem?_eq_some_iff.mp hb
          refine ⟨hi, by rw [hbe]; exact h, fun j hji => ?_⟩
          have := hj j ds[j] hji (List.getElem?_eq_getElem _)
          simp [this]
        unfold nfF
        rw [hf]
      · by_cases hjb : j = i
        · subst hjb
          rw [hb] at hjd
          cases hjd
          simpa using h
        · exact hj j d (by omega) hjd
    · rintro ρ R ⟨rfl, ⟨e1, e2, rfl⟩, hj⟩
      rw [prs_len, rngD_len, Nat.min_self] at hj
      refine es_ret ev_non ⟨?_, rfl⟩
      have hf : ds.findIdx? (fun d => !isNumD d) = none := by
        rw [List.findIdx?_eq_none_iff]
        intro x hx
        obtain ⟨j, hjl, rfl⟩ := List.getElem_of_mem hx
        have := hj j ds[j] hjl (List.getElem?_eq_getElem _)
        simp [this]
      unfold nfF
      rw [hf]
/-- the values that are handed to need_trips -/
def VOk (d : PyData) : Prop := SeqAt.shaped d = true ∧ ∀ xs, d = .tuple xs → xs.length ≤ 1000 ∧ ∀ x ∈ xs, SeqAt.shaped x = true ∧ ∀ ys, x = .tuple ys → ys.length ≤ 1000
def rowOk (n : Int) : PyData → Bool
  | .tuple ys => decide ((ys.length : Int) = n) && ys.all isNumD
  | _ => false
def isT : PyData → Bool
  | .tuple (.tuple (x :: xs) :: r) => (PyData.tuple (x :: xs) :: r).all (rowOk ((x :: xs).length : Int))
  | _ => false
def S_is_trips : List En → List Ow → En → List Ow → Prop := fun es R e R' => ∃ d, es = [.d d] ∧ R = [] ∧ R' = [] ∧ e = .d (.bool (isT d)) ∧ VOk d
theorem sc_is_trips : FnScope ["value", "row"] ["value"] (defScope s_is_trips) := ⟨rfl, rfl, rfl, by decide +kernel, rfl, by decide +kernel, by decide +kernel⟩

theorem rowOk_eq (n : Nat) (d : PyData) : rowOk (n : Int) d = ((isTupB d && decide (lenT d = (n : Int))) && (match d with | .tuple ys => isNoneD (nfF ys) | _ => false)) := by
  cases d with
  | tuple xs =>
    show (decide ((xs.length : Int) = (n : Int)) && xs.all isNumD) = ((true && decide ((xs.length : Int) = (n : Int))) && isNoneD (nfF xs))
    rw [nfF_none, Bool.true_and]
  | _ => rfl
theorem notT {ρ : List En} {R : List Ow} {x : PyData} {te : TE} {b : Bool} (h : Ev K te ρ R (.d x) R) (hb : (!isTupB x) = b := by rfl) : Et K (tNot (fun σ H Q => (tCB (rIsi K) (tCons te (tCons (tC (.ty "tuple")) tNil))) σ H fun x H' => ∃ k, TruV K x H' k ∧ Q k H')) ρ R b R := by
  subst hb; exact et_not (et_truB (ev_cb (ea_cons h (ea_cons ev_v ea_nil)) (rc_isi (kit_tup _))))
theorem notTru {ρ : List En} {R : List Ow} {xs : List PyData} {te : TE} {b : Bool} (h : Ev K te ρ R (.d (.tuple xs)) R) (hb : xs.isEmpty = b := by rfl) : Et K (tNot (fun σ H Q => te σ H fun x H' => ∃ k, TruV K x H' k ∧ Q k H')) ρ R b R := by
  subst hb
  have := et_not (et_tru h (fun s e => nomatch e))
  have e : (!truD (.tuple xs)) = xs.isEmpty := by cases xs <;> rfl
  rw [e] at this
  exact this
theorem ok_is_trips (T : Txt K mg) : FnOk P w K mg base CX0 4 T.a_is_trips T.d_is_trips ["value"] (spS K S_is_trips) := by
  refine fn_es T.f_is_trips sc_is_trips ?len (fun cdv A outer s H E es R e R' hr hS => ?body)
  case len => rintro _ _ _ _ ⟨d, rfl, _⟩; rfl
  case body =>
    obtain ⟨d, rfl, rfl, rfl, rfl, hv⟩ := hS
    refine ⟨_, (pss_cons (ps_if ((pw_or (pt_not (ptTruth (K := K) (pe_callB (callIsi (K := K)) (by rfl) T.n_isinstance (by decide +kernel) (pa_cons (pv 0) (pa_cons (pe_bltn (by rfl) T.n_tuple (by decide +kernel) (v := .ty "tuple") rfl) pa_nil))))) (pw_or (pt_not (ptTruth (K := K) (pv 0))) (pw_or (pt_not (ptTruth (K := K) (pe_callB (callIsi (K := K)) (by rfl) T.n_isinstance (by decide +kernel) (pa_cons (pe_ix (ixAny (K := K)) (pv 0) pe_int (fun _ _ => rfl)) (pa_cons (pe_bltn (by rfl) T.n_tuple (by decide +kernel) (v := .ty "tuple") rfl) pa_nil))))) (pw_or1 (pt_not (ptTruth (K := K) (pe_ix (ixAny (K := K)) (pv 0) pe_int (fun _ _ => rfl))))))))).pt (pss_one (ps_ret pe_bl)) pss_nil)
      (pss_one (ps_ret (pe_callB (callAll (K := K)) (by rfl) T.n_all (by decide +kernel) (pa_cons (pe_lc (own := [("row", 1)]) (g := gName 1) rfl sc_is_trips.nd (piAny (K := K) (pv 0)) (blkOk_by (N := ["value", "row"]) (sc := defScope s_is_trips) (by decide +kernel)) (fun _ _ _ _ _ => (pg_name (i := 1) sc_is_trips.nd rfl (by first | exact .inl rfl | exact .inr rfl))) (fun _ _ _ _ _ => pts_nil) (fun _ _ _ _ _ => (pe_and (pe_call (ok_is_tuple_of T) (hr.mono (by decide)) (by rfl) T.g_is_tuple_of T.f_is_tuple_of.kp T.b_is_tuple_of .nil pass0 (pa_cons (pv 1) (pa_cons (pe_callB (callLen (K := K)) (by rfl) T.n_len (by decide +kernel) (pa_cons (pe_ix (ixAny (K := K)) (pv 0) pe_int (fun _ _ => rfl)) pa_nil)) pa_nil))) (pe_one (pe_cmp (pc_isN (pe_call (ok_number_fault T) (hr.mono (by decide)) (by rfl) T.g_number_fault T.f_number_fault.kp T.b_number_fault .nil pass0 (pa_cons (pv 1) pa_nil)))))))) pa_nil))))), ?_⟩
    cases d with
    | tuple xs =>
      cases xs with
      | nil => exact es_seq (es_if (b := true) (et_orF (notT (ev_d rfl)) (et_orT (notTru (ev_d rfl)))) (fun _ => es_ret ev_bl ⟨rfl, rfl⟩) (fun h => nomatch h))
      | cons d0 r =>
        have ix0 : L2.atI (d0 :: r) 0 = some d0 := atI_nat (j := 0) rfl
        have e0 : ∀ {ρ : List En} {R : List Ow}, ρ[0]? = some (.d (.tuple (d0 :: r))) → Ev K (tOp (rIxA K) (tVar 0) (tC (.int 0))) ρ R (.d d0) R := fun h => ev_op (ev_d h) ev_int (rv_iT ix0)
        cases d0 with
        | tuple ys =>
          cases ys with
          | nil => exact es_seq (es_if (b := true) (et_orF (notT (ev_d rfl)) (et_orF (notTru (ev_d rfl)) (et_orF (notT (e0 rfl)) (notTru (e0 rfl))))) (fun _ => es_ret ev_bl ⟨rfl, rfl⟩) (fun h => nomatch h))
          | cons x ys =>
            refine es_seq (es_if (b := false) (et_orF (notT (ev_d rfl)) (et_orF (notTru (ev_d rfl)) (et_orF (notT (e0 rfl)) (notTru (e0 rfl))))) (fun h => nomatch h) (fun _ => es_next ?_))
            have hl := (hv.2 _ rfl).1
            have hrow := lcr_mapT (K := K) (g := gName 1) (vs := [1]) (te := tAndV (tCall (spS K S_is_tuple_of) [] E0 (tCons (tVar 1) (tCons (tCB (rLenS K) (tCons (tOp (rIxA K) (tVar 0) (tC (.int 0))) tNil)) tNil))) (tIsN (tCall (spS K S_number_fault) [] E0 (tCons (tVar 1) tNil)))) (ρ := wiped [.d (.tuple (.tuple (x :: ys) :: r)), .u] [1]) (R := []) (enc := id) (f := fun row => PyData.bool (rowOk ((x :: ys).length : Int) row)) (l := PyData.tuple (x :: ys) :: r) (fun row hrow => by
              refine ⟨_, egw_name, ?_⟩
              rw [rowOk_eq]
              refine ev_andV (ev_callP (Sf := S_is_tuple_of) ⟨row, (x :: ys).length, rfl, rfl, rfl, rfl⟩ (ea_cons (ev_d rfl) (ea_cons (ev_cb (ea_cons (e0 rfl) ea_nil) rc_lenT) ea_nil))) fun ht => ?_
              cases row with
              | tuple zs => exact ev_isN (ev_callP (Sf := S_number_fault) ⟨zs, rfl, rfl, rfl, rfl⟩ (ea_cons (ev_d rfl) ea_nil))
              | _ => cases ht)
            rw [List.map_id] at hrow
            refine es_ret (ev_cb (ea_cons (ev_lc (ei_T (ev_d rfl)) hrow (small (by omega))) ea_nil) rc_allM) ⟨?_, rfl⟩
            congr 2
            unfold isT
            rw [List.all_map]
            rfl
        | _ => exact es_seq (es_if (b := true) (et_orF (notT (ev_d rfl)) (et_orF (notTru (ev_d rfl)) (et_orT (notT (e0 rfl))))) (fun _ => es_ret ev_bl ⟨rfl, rfl⟩) (fun h => nomatch h))
    | _ => exact es_seq (es_if (b := true) (et_orT (notT (ev_d rfl))) (fun _ => es_ret ev_bl ⟨rfl, rfl⟩) (fun h => nomatch h))
/-! ### the law's own look -/
def numI : PyData → Bool := isNumD
theorem sc__law_are_trips : FnScope ["value", "row", "trip"] ["value"] (defScope s__law_are_trips) := ⟨rfl, rfl, rfl, by decide +kernel, rfl, by decide +kernel, by decide +kernel⟩

def S__law_are_trips : List En → List Ow → En → List Ow → Prop := fun es R e R' => ∃ d, es = [.d d] ∧ R = [] ∧ R' = [] ∧ e = .d (.bool (isT d)) ∧ VOk d
theorem isT_nil : isT (.tuple []) = false := rfl
theorem isT_get {d0 : PyData} {r : List PyData} {i : Nat} {row : PyData} (h : (d0 :: r)[i]? = some row) (hb : isTupB row = false) : isT (.tuple (d0 :: r)) = false := by
  have hm := List.mem_of_getElem? h
  cases d0 with
  | tuple xs =>
    cases xs with
    | nil => rfl
    | cons x xs =>
      show List.all _ _ = false
      rw [List.all_eq_false]
      refine ⟨row, hm, ?_⟩
      cases row <;> first | (cases hb; done) | simp [rowOk]
  | _ => rfl
theorem ok__law_are_trips (T : Txt K mg) : FnOk P w K mg base CX0 1 T.a__law_are_trips T.d__law_are_trips ["value"] (spS K S__law_are_trips) := by
  refine fn_es T.f__law_are_trips sc__law_are_trips ?len (fun cdv A outer s H E es R e R' hr hS => ?body)
  case len => rintro _ _ _ _ ⟨d, rfl, _⟩; rfl
  case body =>
    obtain ⟨d, rfl, rfl, rfl, rfl, hv⟩ := hS
    refine ⟨_, (pss_cons (ps_if ((pw_or (pt_not (ptTruth (K := K) (pe_callB (callIsi (K := K)) (by rfl) T.n_isinstance (by decide +kernel) (pa_cons (pv 0) (pa_cons (pe_bltn (by rfl) T.n_tuple (by decide +kernel) (v := .ty "tuple") rfl) pa_nil))))) (pw_or1 (pt_cmpR (opEqD (K := K) hr) (pv 0) (pe_tup pa_nil) (nomark _))))).pt (pss_one (ps_ret pe_bl)) pss_nil)
      (pss_cons (ps_for PassesOwn.never rfl (piAny (K := K) (pv 0)) (pg_name (i := 1) sc__law_are_trips.nd rfl (.inl rfl)) (pss_cons (ps_if ((pw_or (pt_not (ptTruth (K := K) (pe_callB (callIsi (K := K)) (by rfl) T.n_isinstance (by decide +kernel) (pa_cons (pv 1) (pa_cons (pe_bltn (by rfl) T.n_tuple (by decide +kernel) (v := .ty "tuple") rfl) pa_nil))))) (pw_or (pt_cmpR (opEqD (K := K) hr) (pv 1) (pe_tup pa_nil) (nomark _)) (pw_or1 (pt_cmpR (opNeD (K := K) hr) (pe_callB (callLen (K := K)) (by rfl) T.n_len (by decide +kernel) (pa_cons (pv 1) pa_nil)) (pe_callB (callLen (K := K)) (by rfl) T.n_len (by decide +kernel) (pa_cons (pe_ix (ixAny (K := K)) (pv 0) pe_int (fun _ _ => rfl)) pa_nil)) (nomark _)))))).pt (pss_one (ps_ret pe_bl)) pss_nil)
      (pss_one (ps_for PassesOwn.never rfl (piAny (K := K) (pv 1)) (pg_name (i := 2) sc__law_are_trips.nd rfl (.inl rfl)) (pss_one (ps_if ((pw_or (pt_not (ptTruth (K := K) (pe_callB (callIsi (K := K)) (by rfl) T.n_isinstance (by decide +kernel) (pa_cons (pv 2) (pa_cons (pe_bltn (by rfl) T.n_int (by decide +kernel) (v := .ty "int") rfl) pa_nil))))) (pw_or (ptTruth (K := K) (pe_callB (callIsi (K := K)) (by rfl) T.n_isinstance (by decide +kernel) (pa_cons (pv 2) (pa_cons (pe_bltn (by rfl) T.n_bool (by decide +kernel) (v := .ty "bool") rfl) pa_nil)))) (pw_or1 (pt_cmpR op_lt (pv 2) pe_int (nomark _)))))).pt (pss_one (ps_ret pe_bl)) pss_nil))))))
      (pss_one (ps_ret pe_bl)))), ?_⟩
    have shE : SeqAt.shaped (.tuple []) = true := by rfl
    have neT : ∀ {ρ : List En} {x : PyData} {te : TE} {b : Bool} (h : Ev K te ρ [] (.d x) []) (hs : SeqAt.shaped x = true) (hb : PyData.eqv x (.tuple []) = b), Et K (tTest (tOp (rEqD K) te (tTup tNil))) ρ [] b [] := fun h hs hb => by
      subst hb; exact et_test (ev_op h (ev_tupE (ds := []) ea_nil rfl (small (by simp))) (rv_eqD hs shE))
    cases d with
    | tuple xs =>
      cases xs with
      | nil => exact es_seq (es_if (b := true) (et_orF (notT (ev_d rfl)) (neT (ev_d rfl) hv.1 (by rw [eqv_nilT]; rfl))) (fun _ => es_ret ev_bl ⟨rfl, rfl⟩) (fun h => nomatch h))
      | cons d0 r =>
        refine es_seq (es_if (b := false) (et_orF (notT (ev_d rfl)) (neT (ev_d rfl) hv.1 (by rw [eqv_nilT]; rfl))) (fun h => nomatch h) (fun _ => es_next ?_))
        have ix0 : L2.atI (d0 :: r) 0 = some d0 := atI_nat (j := 0) rfl
        have e0 : ∀ {ρ : List En} {R : List Ow}, ρ[0]? = some (.d (.tuple (d0 :: r))) → Ev K (tOp (rIxA K) (tVar 0) (tC (.int 0))) ρ R (.d d0) R := fun h => ev_op (ev_d h) ev_int (rv_iT ix0)
        -- behind i rows: all of them are rows of one length, of numbers
        refine es_seq (es_for (ei_T (ev_d rfl)) (fun i ρ R => R = [] ∧ (∃ e1 e2, ρ = [.d (.tuple (d0 :: r)), e1, e2]) ∧ (0 < i → ∃ x ys, d0 = .tuple (x :: ys) ∧ ∀ j row, j < i → (d0 :: r)[j]? = some row → rowOk ((x :: ys).length : Int) row = true)) ⟨rfl, ⟨_, _, rfl⟩, fun h => absurd h (Nat.lt_irrefl _)⟩ ?_ ?_)
        · rintro i row ρ R hd ⟨rfl, ⟨e1, e2, rfl⟩, hj⟩
          refine ⟨_, eg_name, ?_⟩
          have hm := List.mem_of_getElem? hd
          have hrs := ((hv.2 _ rfl).2 row hm).1
          by_cases hT : isTupB row = true
          · obtain ⟨zs, rfl⟩ : ∃ zs, row = .tuple zs := by
              cases row with
              | tuple zs => exact ⟨zs, rfl⟩
              | _ => cases hT
            -- the first row is told to be a tuple
            obtain ⟨x0, rfl⟩ : ∃ x0, d0 = .tuple x0 := by
              by_cases hi : i = 0
              · subst hi
                exact ⟨zs, (Option.some.inj hd)⟩
              · obtain ⟨x, ys, h, _⟩ := hj (by omega)
                exact ⟨_, h⟩
            cases zs with
            | nil =>
              refine es_seq (es_if (b := true) (et_orF (notT (ev_d rfl)) (et_orT (neT (ev_d rfl) hrs (by rw [eqv_nilT]; rfl)))) (fun _ => es_ret ev_bl ⟨?_, rfl⟩) (fun h => nomatch h))
              congr 2
              by_cases hi : i = 0
              · subst hi
                cases (Option.some.inj hd)
                rfl
              · obtain ⟨x, ys, h, _⟩ := hj (by omega)
                cases h
                symm
                show List.all _ _ = false
                rw [List.all_eq_false]
                exact ⟨_, hm, by simp [rowOk]; omega⟩
            | cons z zs =>
              by_cases hlen : ((z :: zs).length : Int) = (x0.length : Int)
              · refine es_seq (es_if (b := false) (et_orF (R1 := []) (Rz := []) (notT (ev_d rfl)) (et_orF (R1 := []) (Rz := []) (neT (ev_d rfl) hrs (by rw [eqv_nilT]; rfl)) ?_)) (fun h => nomatch h) (fun _ => es_next ?_))
                · have := et_test (ev_op (K := K) (R := []) (ρ := [En.d (.tuple (.tuple x0 :: r)), .d (.tuple (z :: zs)), e2]) (ev_cb (ea_cons (ev_d (i := 1) rfl) ea_nil) rc_lenT) (ev_cb (ea_cons (e0 rfl) ea_nil) rc_lenT) rv_neI)
                  rw [decide_eq_true hlen] at this
                  exact this
                · refine es_for (P := _) (ei_T (ev_d rfl)) (fun k ρ R => R = [] ∧ (∃ e2, ρ = [.d (.tuple (.tuple x0 :: r)), .d (.tuple (z :: zs)), e2]) ∧ ∀ j t, j < k → (z :: zs)[j]? = some t → isNumD t = true) ⟨rfl, ⟨_, rfl⟩, fun j t h => absurd h (Nat.not_lt_zero _)⟩ ?_ ?_
                  · rintro k t ρ R ht ⟨rfl, ⟨e2, rfl⟩, hk⟩
                    refine ⟨_, eg_name, ?_⟩
                    have isI : ∀ {ρ : List En} {te : TE} (h : Ev K te ρ [] (.d t) []), Et K (tNot (fun σ H Q => (tCB (rIsi K) (tCons te (tCons (tC (.ty "int")) tNil))) σ H fun x H' => ∃ k, TruV K x H' k ∧ Q k H')) ρ [] (!isIntB t) [] := fun h => et_not (et_truB (ev_cb (ea_cons h (ea_cons ev_v ea_nil)) (rc_isi (kit_int t))))
                    have isB : ∀ {ρ : List En} {te : TE} (h : Ev K te ρ [] (.d t) []), Et K (fun σ H Q => (tCB (rIsi K) (tCons te (tCons (tC (.ty "bool")) tNil))) σ H fun x H' => ∃ k, TruV K x H' k ∧ Q k H') ρ [] (isBoolB t) [] := fun h => et_truB (ev_cb (ea_cons h (ea_cons ev_v ea_nil)) (rc_isi (kit_bool t)))
                    by_cases hn : isNumD t = true
                    · obtain ⟨v, rfl⟩ : ∃ v, t = .int v := by
                        cases t with
                        | int v => exact ⟨v, rfl⟩
                        | _ => cases hn
                      refine es_if (b := false) (et_orF (R1 := []) (Rz := []) (isI (ev_d rfl)) (et_orF (R1 := []) (Rz := []) (isB (ev_d rfl)) ?_)) (fun h => nomatch h) (fun _ => es_next ⟨rfl, ⟨_, rfl⟩, fun j t hj2 hjt => ?_⟩)
                      · have := et_test (ev_op (K := K) (R := []) (ρ := [En.d (.tuple (.tuple x0 :: r)), .d (.tuple (z :: zs)), .d (.int v)]) (ev_d (i := 2) rfl) (ev_int (i := 0)) (rv_bl (g := fun i j => decide (i < j))))
                        have e : decide (v < 0) = false := by
                          have : 0 ≤ v := of_decide_eq_true hn
                          simp; omega
                        rw [e] at this
                        exact this
                      · by_cases hjk : j = k
                        · subst hjk
                          rw [ht] at hjt
                          cases hjt
                          exact hn
                        · exact hk j t (by omega) hjt
                    · have hbad : isT (.tuple (.tuple x0 :: r)) = false := by
                        cases x0 with
                        | nil => rfl
                        | cons a b =>
                          show List.all _ _ = false
                          rw [List.all_eq_false]
                          refine ⟨_, hm, ?_⟩
                          have : (z :: zs).all isNumD = false := by
                            rw [List.all_eq_false]
                            exact ⟨t, List.mem_of_getElem? ht, hn⟩
                          simp only [rowOk, this, Bool.and_false]
                          decide
                      refine es_if (b := true) (R1 := []) ?_ (fun _ => es_ret ev_bl ⟨by rw [hbad], rfl⟩) (fun h => nomatch h)
                      · cases t with
                        | int v =>
                          refine et_orF (R1 := []) (Rz := []) (isI (ev_d rfl)) (et_orF (R1 := []) (Rz := []) (isB (ev_d rfl)) ?_)
                          have := et_test (ev_op (K := K) (R := []) (ρ := [En.d (.tuple (.tuple x0 :: r)), .d (.tuple (z :: zs)), .d (.int v)]) (ev_d (i := 2) rfl) (ev_int (i := 0)) (rv_bl (g := fun i j => decide (i < j))))
                          have e : decide (v < 0) = true := by
                            have : ¬ 0 ≤ v := fun h => hn (decide_eq_true h)
                            simp; omega
                          rw [e] at this
                          exact this
                        | bool b => exact et_orF (isI (ev_d rfl)) (et_orT (isB (ev_d rfl)))
                        | _ => exact et_orT (isI (ev_d rfl))
                  · rintro ρ R ⟨rfl, ⟨e2, rfl⟩, hk⟩
                    refine ⟨rfl, ⟨_, _, rfl⟩, fun _ => ?_⟩
                    have hrow : rowOk (x0.length : Int) (.tuple (z :: zs)) = true := by
                      simp only [rowOk, decide_eq_true hlen, Bool.true_and]
                      rw [List.all_eq_true]
                      intro t ht
                      obtain ⟨j, hjl, rfl⟩ := List.getElem_of_mem ht
                      exact hk j _ hjl (List.getElem?_eq_getElem _)
                    cases x0 with
                    | nil => simp at hlen; omega
                    | cons a b =>
                      refine ⟨a, b, rfl, fun j row hji hjr => ?_⟩
                      by_cases hjk : j = i
                      · subst hjk
                        rw [hd] at hjr
                        cases hjr
                        exact hrow
                      · obtain ⟨a', b', e, h⟩ := hj (by omega)
                        cases e
                        exact h j row (by omega) hjr
              · refine es_seq (es_if (b := true) (et_orF (R1 := []) (Rz := []) (notT (ev_d rfl)) (et_orF (R1 := []) (Rz := []) (neT (ev_d rfl) hrs (by rw [eqv_nilT]; rfl)) ?_)) (fun _ => es_ret ev_bl ⟨?_, rfl⟩) (fun h => nomatch h))
                · have := et_test (ev_op (K := K) (R := []) (ρ := [En.d (.tuple (.tuple x0 :: r)), .d (.tuple (z :: zs)), e2]) (ev_cb (ea_cons (ev_d (i := 1) rfl) ea_nil) rc_lenT) (ev_cb (ea_cons (e0 rfl) ea_nil) rc_lenT) rv_neI)
                  rw [decide_eq_false hlen] at this
                  exact this
                · have hbad : isT (.tuple (.tuple x0 :: r)) = false := by
                    cases x0 with
                    | nil => rfl
                    | cons a b =>
                      show List.all _ _ = false
                      rw [List.all_eq_false]
                      refine ⟨_, hm, ?_⟩
                      simp only [rowOk, decide_eq_false hlen, Bool.false_and]
                      decide
                  rw [hbad]
          · have hb : isTupB row = false := by simpa using hT
            refine es_seq (es_if (b := true) (et_orT (notT (ev_d rfl) (by rw [hb]; rfl))) (fun _ => es_ret ev_bl ⟨by rw [isT_get hd hb], rfl⟩) (fun h => nomatch h))
        · rintro ρ R ⟨rfl, ⟨e1, e2, rfl⟩, hj⟩
          refine es_ret ev_bl ⟨?_, rfl⟩
          obtain ⟨x, ys, rfl, h⟩ := hj (by simp)
          congr 2
          symm
          show List.all _ _ = true
          rw [List.all_eq_true]
          intro row hrow
          obtain ⟨j, hjl, rfl⟩ := List.getElem_of_mem hrow
          exact h j _ hjl (List.getElem?_eq_getElem _)
    | _ => exact es_seq (es_if (b := true) (et_orT (notT (ev_d rfl))) (fun _ => es_ret ev_bl ⟨rfl, rfl⟩) (fun h => nomatch h))
end
end K58

namespace K58
open PySem PySem.Spec PyProof.Rows L2 StX RZ Fx
section
variable {P : Program} {w : World} {K : PySem.W.Frag} {mg : Str → Option Value} {base : Heap} {C fI : Addr}
def tripsX : HO := .xd [(("word" : Str), V.str "trips")]
def spNeed (K : PySem.W.Frag) (C : Addr) : Sp := fun vs H Q E => ∃ d F R0, Ens K F vs [.d d] ∧ At K F R0 H ∧ VOk d ∧
  (isT d = true → ∀ F1 H1, Ex F F1 → At K F1 R0 H1 → Q .non H1) ∧ (isT d = false → ∀ F1 H1 a, Ex F F1 → At K F1 R0 H1 → F1 a = some tripsX → E (.ref C) (some a) H1)
theorem sc_need_trips : FnScope ["value"] ["value"] (defScope s_need_trips) := ⟨rfl, rfl, rfl, by decide +kernel, rfl, by decide +kernel, by decide +kernel⟩

theorem ok_need_trips (T : Txt K mg) (L : PySem.LowX.LowTxt K mg C fI) : FnOk P w K mg base (L2.CX P w) 5 T.a_need_trips T.d_need_trips ["value"] (spNeed K C) := by
  refine T.f_need_trips.okX sc_need_trips (fun vs H Q E h => ?_) (fun cdv A outer s H vs Q E hr h => ?_)
  · obtain ⟨d, F, R0, h1, _⟩ := h
    rw [h1.len]; rfl
  · obtain ⟨d, F, R0, h1, hA, hv, kT, kF⟩ := h
    refine ⟨_, (pss_one (ps_if (pt_not (ptTruth (K := K) (pe_call (ok_is_trips T) (hr.mono (by decide)) (by rfl) T.g_is_trips T.f_is_trips.kp T.b_is_trips .nil pass0 (pa_cons (pv 0) pa_nil)))) (pss_one (ps_raiseLow (W := fun cls d _ H => E cls d H) rfl L hr (takes_of rfl rfl rfl rfl) (by exact (pa_cons pe_str pa_nil)))) pss_nil)), ?_⟩
    have hs : Sls K F (start ["value"] vs) [.d d] := by
      cases h1 with
      | cons ev en =>
        cases en
        exact .cons (.of ev) .nil
    refine if_raw (b := !isT d) (ρ := [.d d]) (R := []) (R1 := []) (R0 := R0) (F := F) (et_not (et_truB (ev_callP ⟨d, rfl, rfl, rfl, rfl, hv⟩ (ea_cons (ev_d rfl) ea_nil)))) hs hA fun F1 H1 x1 A1 => ?_
    by_cases hT : isT d = true
    · rw [hT, if_neg (by decide)]
      exact kT hT F1 H1 x1 A1
    · have hF : isT d = false := by simpa using hT
      rw [hF, if_pos (by decide)]
      refine ⟨_, rfl, fun a ha => ?_⟩
      obtain ⟨x2, A2⟩ := At.new tripsX A1 ha
      exact kF hF _ _ a (x1.trans x2) A2 upd_same
theorem sc__law_word : FnScope ["value", "e"] ["value"] (defScope s__law_word) := ⟨rfl, rfl, rfl, by decide +kernel, rfl, by decide +kernel, by decide +kernel⟩
def S__law_word : List En → List Ow → En → List Ow → Prop := fun es R e R' => ∃ d, es = [.d d] ∧ R = [] ∧ R' = [] ∧ e = .d (if isT d = true then .none else .str "trips") ∧ VOk d
theorem ok__law_word (T : Txt K mg) (L : PySem.LowX.LowTxt K mg C fI) : FnOk P w K mg base CX0 6 T.a__law_word T.d__law_word ["value"] (spS K S__law_word) := by
  refine fn_es T.f__law_word sc__law_word ?len (fun cdv A outer s H E es R e R' hr hS => ?body)
  case len => rintro _ _ _ _ ⟨d, rfl, _⟩; rfl
  case body =>
    obtain ⟨d, rfl, rfl, rfl, rfl, hv⟩ := hS
    refine ⟨_, (pss_one (ps_try_as (i := 1) (tb := fun W => tRet (tCallKOS (spNeed K C) (fun us ws => match us, ws with | [], [u0] => [u0] | _, _ => []) (WE W) (tCons (tVar 0) tNil))) (ts := fun a cls dd => tRet (tByLow C a cls dd (tVar 1))) (Wout := fun _ _ _ _ => False) rfl rfl sc__law_word.nd rfl rfl ⟨by rfl, by decide, Or.inl L.gC⟩ takes0
      (fun W pn xe tk _ => pss_one (ps_ret (by exact (pe_callKOS (ok_need_trips T L) (hr.mono (by decide)) (by rfl) T.g_need_trips T.f_need_trips.kp T.k_need_trips_value (fun σ => passAt tk σ) (pk_cons (pv 0) pk_nil)))))
      (fun a oe cls dd pn hz hf => pss_one (ps_ret (by exact (pe_byLow L hz hf (pv 1))))))), ?_⟩
    intro R0 F H σ D S A p
    refine retKOS_raw (ea_cons (ev_d (i := 0) rfl) ea_nil) S A fun vs F1 H1 x1 A1 e1 => ?_
    cases e1 with
    | cons ev en =>
      cases en
      refine ⟨d, F1, R0, .cons ev .nil, A1, hv, fun hT F2 H2 x2 A2 => ?_, fun hF F2 H2 a x2 A2 ha => ?_⟩
      · exact p.rt (.d .none) [] .non F2 H2 ⟨by rw [if_pos hT], rfl⟩ (x1.trans x2) Dt.non A2
      · refine ⟨true, L.te, fun _ a0 _ => ?_, fun q => Bool.noConfusion q⟩
        cases S with
        | cons s1 S =>
          cases S with
          | cons s2 S =>
            cases S
            refine ⟨_, rfl, rfl, rfl, a, .str "trips", rfl, A2.ex _ _ ha, ?_⟩
            exact p.rt (.d (.str "trips")) [] _ F2 H2 ⟨by rw [hF, if_neg (by decide)], rfl⟩ (x1.trans x2) (Dt.str _) A2
end
end K58

namespace K58
open PySem PySem.Spec PyProof.Rows L2 StX RZ Fx
section
variable {P : Program} {w : World} {K : PySem.W.Frag} {mg : Str → Option Value} {base : Heap}
def ShN (k : Nat) (d : PyData) : Prop := d.canLay0 = true ∧ d.depth ≤ k
theorem ShN.mono {k j : Nat} {d : PyData} (h : ShN k d) (l : k ≤ j) : ShN j d := ⟨h.1, Nat.le_trans h.2 l⟩
theorem ShN.shaped {k : Nat} {d : PyData} (h : ShN k d) (l : k ≤ 64) : SeqAt.shaped d = true := by
  unfold SeqAt.shaped
  rw [h.1, decide_eq_true (Nat.le_trans h.2 l)]
  rfl
theorem shn_all {k : Nat} : ∀ {xs : List PyData}, (∀ x ∈ xs, ShN k x) → PyData.canLayAll0 xs = true ∧ PyData.depthAll xs ≤ k
  | [], _ => ⟨by rfl, Nat.zero_le _⟩
  | x :: xs, h => by
    have h1 := h x (by simp)
    have h2 := shn_all (xs := xs) fun y hy => h y (by simp [hy])
    constructor
    · show (x.canLay0 && PyData.canLayAll0 xs) = true
      rw [h1.1, h2.1]; rfl
    · show max x.depth (PyData.depthAll xs) ≤ k
      exact Nat.max_le.mpr ⟨h1.2, h2.2⟩
theorem shn_tup {k : Nat} {xs : List PyData} (h : ∀ x ∈ xs, ShN k x) : ShN (k + 1) (.tuple xs) := by
  have := shn_all h
  refine ⟨this.1, ?_⟩
  show PyData.depthAll xs + 1 ≤ k + 1
  omega
theorem shn_lst {k : Nat} {xs : List PyData} (h : ∀ x ∈ xs, ShN k x) : ShN (k + 1) (.list xs) := by
  have := shn_all h
  refine ⟨this.1, ?_⟩
  show PyData.depthAll xs + 1 ≤ k + 1
  omega
theorem shn_int {k : Nat} (i : Int) : ShN k (.int i) := ⟨by rfl, Nat.zero_le _⟩
theorem shn_ints {k : Nat} {ns : List Int} : ∀ x ∈ ns.map PyData.int, ShN k x := fun x hx => by
  obtain ⟨n, _, rfl⟩ := List.mem_map.mp hx
  exact shn_int n
theorem cutD_sub {xs : List PyData} {lo hi : Option Int} {x : PyData} (h : x ∈ Fx.cutD xs lo hi) : x ∈ xs := List.mem_of_mem_drop (List.mem_of_mem_take h)
theorem cutD_len {xs : List PyData} {lo hi : Option Int} : (Fx.cutD xs lo hi).length ≤ xs.length := by
  unfold Fx.cutD
  rw [List.length_take, List.length_drop]
  omega
def oddsD : List PyData := [.int (-1), .none, .bool true, .str "1", .tuple [.int 1]]
def RwN (d : PyData) : Prop := ShN 2 d ∧ ∀ ys, d = .tuple ys → ys.length ≤ 1000
def PoV (aD aC : Addr) : En → List Ow → Prop := fun e R' => ∃ d s', e = .d d ∧ R' = dR aD aC s' ∧ StOk s' ∧ VOk d
def N_turned : List En → List Ow → (En → List Ow → Prop) → Prop := fun es R Po => ∃ aD aC s ts, es = [.o aD, .d (tT ts)] ∧ R = dR aD aC s ∧ StOk s ∧ TOk ts ∧ Po = PoV aD aC
theorem canLay0_mem {xs : List PyData} {x : PyData} (h : (PyData.tuple xs).canLay0 = true) (hx : x ∈ xs) : x.canLay0 = true ∧ x.depth ≤ (PyData.tuple xs).depth := by
  have h' : PyData.canLayAll0 xs = true := h
  show _ ∧ x.depth ≤ PyData.depthAll xs + 1
  clear h
  induction xs with
  | nil => cases hx
  | cons y ys ih =>
    have e : (y.canLay0 && PyData.canLayAll0 ys) = true := h'
    obtain ⟨e1, e2⟩ := Bool.and_eq_true_iff.mp e
    show _ ∧ x.depth ≤ max y.depth (PyData.depthAll ys) + 1
    rcases List.mem_cons.mp hx with rfl | hx
    · exact ⟨e1, by omega⟩
    · have := ih hx e2
      exact ⟨this.1, by omega⟩
theorem vok_rows {xs : List PyData} (hl : xs.length ≤ 1000) (h : ∀ x ∈ xs, RwN x) : VOk (.tuple xs) :=
  ⟨(shn_tup fun x hx => (h x hx).1).shaped (by decide), fun _ e => by cases e; exact ⟨hl, fun x hx => ⟨(h x hx).1.shaped (by decide), (h x hx).2⟩⟩⟩
theorem vok_of {d : PyData} (h : RwN d) (hs : ∀ xs, d = .tuple xs → ∀ x ∈ xs, ∀ ys, x = .tuple ys → ys.length ≤ 1000) : VOk d :=
  ⟨h.1.shaped (by decide), fun xs e => ⟨h.2 xs e, fun x hx => ⟨by
    subst e
    have h1 := h.1.1
    exact ShN.shaped (k := 2) ⟨(canLay0_mem h1 hx).1, Nat.le_trans (canLay0_mem h1 hx).2 h.1.2⟩ (by decide), hs xs e x hx⟩⟩⟩
theorem evp_ev {te : TE} {ρ : List En} {R R1 : List Ow} {e : En} {Pq : En → List Ow → Prop} (h : Ev K te ρ R e R1) (hp : Pq e R1) : Evp K te ρ R Pq := evp_of h hp
theorem sc__law_turned : FnScope ["deal", "trips", "at", "place", "row", "new", "kind"] ["deal", "trips"] (defScope s__law_turned) := ⟨rfl, rfl, rfl, by decide +kernel, rfl, by decide +kernel, by decide +kernel⟩

theorem ok__law_turned (T : Txt K mg) : FnOk P w K mg base CX0 3 T.a__law_turned T.d__law_turned ["deal", "trips"] (spN K N_turned) := by
  refine fn_esN T.f__law_turned sc__law_turned ?len (fun cdv A outer s H E es R Po hr hS => ?body)
  case len => rintro _ _ _ ⟨aD, aC, s, ts, rfl, _⟩; rfl
  case body =>
    obtain ⟨aD, aC, st, ts, rfl, rfl, hok, hts, rfl⟩ := hS
    refine ⟨_, (pss_cons (ps_par (i := 2) (j := 3) rfl sc__law_turned.nd rfl rfl (by decide) rfl rfl (pa_cons (pe_call (ok__law_any T) (hr.mono (by decide)) (by rfl) T.g__law_any T.f__law_any.kp T.b__law_any .nil pass0 (pa_cons (pv 0) (pa_cons (pe_callB (callLen (K := K)) (by rfl) T.n_len (by decide +kernel) (pa_cons (pv 1) pa_nil)) pa_nil))) (pa_cons (pe_call (ok__law_any T) (hr.mono (by decide)) (by rfl) T.g__law_any T.f__law_any.kp T.b__law_any .nil pass0 (pa_cons (pv 0) (pa_cons (pe_callB (callLen (K := K)) (by rfl) T.n_len (by decide +kernel) (pa_cons (pe_ix (ixAny (K := K)) (pv 1) pe_int (fun _ _ => rfl)) pa_nil)) pa_nil))) pa_nil)) rfl)
      (pss_cons (ps_set (i := 4) sc__law_turned.nd rfl (.inl rfl) (pe_ix (ixAny (K := K)) (pv 1) (pv 2) (fun _ _ => rfl)))
      (pss_cons (ps_set (i := 5) sc__law_turned.nd rfl (.inl rfl) (pe_lst (pa_cons (pe_op (opAdd (K := K)) (pe_slice (slAny (K := K)) (pv 4) po_none (po_some (pv 3))) (pe_slice (slAny (K := K)) (pv 4) (po_some (pe_op (opAdd (K := K)) (pv 3) pe_int)) po_none)) (pa_cons (pe_op (opAdd (K := K)) (pv 4) (pe_tup (pa_cons pe_int pa_nil))) (pa_cons (pe_callTy (callLst (K := K)) (by rfl) T.n_list (by decide +kernel) (pa_cons (pv 4) pa_nil)) (pa_cons pe_non (pa_cons (pe_tup pa_nil) pa_nil)))))))
      (pss_cons (ps_set (i := 5) sc__law_turned.nd rfl (.inl rfl) (pe_op (opAdd (K := K)) (pv 5) (pe_lst (pa_cons (pe_op (opAdd (K := K)) (pe_op (opAdd (K := K)) (pe_slice (slAny (K := K)) (pv 4) po_none (po_some (pv 3))) (pe_tup (pa_cons (pe_call (ok__law_of T) (hr.mono (by decide)) (by rfl) T.g__law_of T.f__law_of.kp T.b__law_of .nil pass0 (pa_cons (pv 0) (pa_cons (pe_lst (pa_cons (pe_un un_neg pe_int) (pa_cons pe_non (pa_cons pe_bl (pa_cons pe_str (pa_cons (pe_tup (pa_cons pe_int pa_nil)) pa_nil)))))) pa_nil))) pa_nil))) (pe_slice (slAny (K := K)) (pv 4) (po_some (pe_op (opAdd (K := K)) (pv 3) pe_int)) po_none)) pa_nil))))
      (pss_cons (ps_set (i := 6) sc__law_turned.nd rfl (.inl rfl) (pe_call (ok__law_any T) (hr.mono (by decide)) (by rfl) T.g__law_any T.f__law_any.kp T.b__law_any .nil pass0 (pa_cons (pv 0) (pa_cons pe_int pa_nil))))
      (pss_cons (ps_if (pt_cmpR (opEqD (K := K) hr) (pv 6) pe_int (nomark _)) (pss_one (ps_ret (pe_call (ok__law_of T) (hr.mono (by decide)) (by rfl) T.g__law_of T.f__law_of.kp T.b__law_of .nil pass0 (pa_cons (pv 0) (pa_cons (pe_lst (pa_cons pe_non (pa_cons (pe_tup pa_nil) (pa_cons (pe_tup (pa_cons (pe_tup pa_nil) pa_nil)) (pa_cons pe_int (pa_cons pe_str (pa_cons (pe_callTy (callLst (K := K)) (by rfl) T.n_list (by decide +kernel) (pa_cons (pv 1) pa_nil)) (pa_cons (pe_tup (pa_cons (pe_tup pa_nil) (pa_cons (pe_tup pa_nil) pa_nil))) (pa_cons (pe_ix (ixAny (K := K)) (pv 1) pe_int (fun _ _ => rfl)) (pa_cons (pe_tup (pa_cons pe_non pa_nil)) pa_nil)))))))))) pa_nil))))) pss_nil)
      (pss_one (ps_ret (pe_ifExp (pt_cmpR (opEqD (K := K) hr) (pv 6) pe_int (nomark _)) (pv 1) (pe_op (opAdd (K := K)) (pe_op (opAdd (K := K)) (pe_slice (slAny (K := K)) (pv 1) po_none (po_some (pv 2))) (pe_tup (pa_cons (pe_call (ok__law_of T) (hr.mono (by decide)) (by rfl) T.g__law_of T.f__law_of.kp T.b__law_of .nil pass0 (pa_cons (pv 0) (pa_cons (pv 5) pa_nil))) pa_nil))) (pe_slice (slAny (K := K)) (pv 1) (po_some (pe_op (opAdd (K := K)) (pv 2) pe_int)) po_none))))))))))), ?_⟩
    obtain ⟨m, m0, m5, t0, t5, hrow⟩ := hts
    have hz := hrow _ (getD_mem (l := ts) (d := []) (i := 0) t0)
    -- which row, which place
    have hb := anyF_lt (b := (ts.length : Int)) (by omega) st
    obtain ⟨a, ha⟩ : ∃ a : Nat, (anyF (ts.length : Int) st).1 = (a : Int) := ⟨(anyF (ts.length : Int) st).1.toNat, by omega⟩
    have hal : a < ts.length := by omega
    have ok1 := anyF_ok (b := (ts.length : Int)) hok
    refine es_seq (es_par (e1 := .d (.int (a : Int))) (ea_cons (ev_cast (congrArg PyData.int ha) (ev_any rfl (ev_cast (d := .int ((ts.map tI).length : Int)) (by rw [List.length_map]) (ev_cb (ea_cons (ev_d rfl) ea_nil) rc_lenT)) (by omega) (by omega) hok))
      (ea_cons (ev_any rfl (ev_cast (d := .int (((ts.getD 0 []).map PyData.int).length : Int)) (by rw [List.length_map, hz.1]) (ev_cb (ea_cons (ev_op (ev_d rfl) ev_int (rv_iT (atI_map (j := 0) (get_getD (d := []) t0)))) ea_nil) rc_lenT)) (b := (m : Int)) (by omega) (by omega) ok1) ea_nil)) ?_)
    generalize hp : (anyF (m : Int) (anyF (ts.length : Int) st).2).1 = p
    have ok2 : StOk (anyF (m : Int) (anyF (ts.length : Int) st).2).2 := anyF_ok ok1
    generalize (anyF (m : Int) (anyF (ts.length : Int) st).2).2 = s2 at ok2
    have hra := hrow _ (getD_mem (l := ts) (d := []) (i := a) hal)
    refine es_seq (es_set (ev_op (ev_d rfl) (ev_d rfl) (rv_iT (atI_map (get_getD (d := []) hal)))) ?_)
    generalize ts.getD a [] = r at hra
    have rl := hra.1
    have rI : ∀ {k : Nat}, ∀ x ∈ r.map PyData.int, ShN k x := shn_ints
    have cl : ∀ lo hi, (Fx.cutD (r.map PyData.int) lo hi).length ≤ 5 := fun lo hi => by
      have := cutD_len (xs := r.map PyData.int) (lo := lo) (hi := hi)
      rw [List.length_map] at this
      omega
    have rn5 : (r.map PyData.int).length ≤ 5 := by rw [List.length_map]; omega
    -- five rows of another kind
    refine es_seq (es_set (ev_lstE (ds := [.tuple (Fx.cutD (r.map .int) none (some p) ++ Fx.cutD (r.map .int) (some (p + 1)) none), .tuple (r.map .int ++ [.int 0]), .list (r.map .int), .none, .tuple []]) (ea_cons (ev_op (ev_sT (ev_d rfl) eo_no (eo_some (ev_d rfl))) (ev_sT (ev_d rfl) (eo_some (ev_op (ev_d rfl) ev_int rv_addI)) eo_no) (rv_addT (small (by have := cl none (some p); have := cl (some (p + 1)) none; omega)))) (ea_cons (ev_op (ev_d rfl) (ev_tupE (ds := [.int 0]) (ea_cons ev_int ea_nil) rfl (small (by simp))) (rv_addT (small (by simp only [List.length_singleton]; omega)))) (ea_cons (ev_cb (ea_cons (ev_d rfl) ea_nil) rc_listT) (ea_cons ev_non (ea_cons (ev_tupE (ds := []) ea_nil rfl (small (by simp))) ea_nil))))) rfl (small (by simp))) ?_)
    generalize hN1 : ([.tuple (Fx.cutD (r.map .int) none (some p) ++ Fx.cutD (r.map .int) (some (p + 1)) none), .tuple (r.map .int ++ [.int 0]), .list (r.map .int), .none, .tuple []] : List PyData) = N1
    have n1 : N1.length = 5 ∧ ∀ x ∈ N1, RwN x := by
      subst hN1
      refine ⟨rfl, fun x hx => ?_⟩
      simp only [List.mem_cons, List.not_mem_nil, or_false] at hx
      rcases hx with rfl | rfl | rfl | rfl | rfl
      · refine ⟨shn_tup fun x hx => ?_, fun ys e => ?_⟩
        · rcases List.mem_append.mp hx with h | h
          · exact rI _ (cutD_sub h)
          · exact rI _ (cutD_sub h)
        · cases e
          have := cl none (some p); have := cl (some (p + 1)) none
          rw [List.length_append]; omega
      · refine ⟨shn_tup fun x hx => ?_, fun ys e => ?_⟩
        · rcases List.mem_append.mp hx with h | h
          · exact rI _ h
          · simp only [List.mem_singleton] at h; subst h; exact shn_int 0
        · cases e
          simp only [List.length_append, List.length_singleton]; omega
      · exact ⟨shn_lst rI, fun ys e => by cases e⟩
      · exact ⟨⟨by rfl, by decide⟩, fun ys e => by cases e⟩
      · exact ⟨⟨by rfl, by decide⟩, fun ys e => by cases e; simp⟩
    -- and one with an odd thing in it
    have ok3 : StOk (ofF oddsD s2).2 := ofF_ok ok2
    have hodd := (ofF_ix (ds := oddsD) (by simp [oddsD]) s2).2
    refine es_seq (es_set (ev_op (ev_d rfl) (ev_lstE (ds := [.tuple (Fx.cutD (r.map .int) none (some p) ++ [(ofF oddsD s2).1] ++ Fx.cutD (r.map .int) (some (p + 1)) none)]) (ea_cons (ev_op (ev_op (ev_sT (ev_d rfl) eo_no (eo_some (ev_d rfl))) (ev_tupE (ds := [(ofF oddsD s2).1]) (ea_cons (ev_of (ds := oddsD) rfl (ev_lstE (ds := oddsD) (ea_cons (ev_neg ev_int) (ea_cons ev_non (ea_cons ev_bl (ea_cons ev_str (ea_cons (ev_tupE (ds := [.int 1]) (ea_cons ev_int ea_nil) rfl (small (by simp))) ea_nil))))) rfl (small (by simp [oddsD]))) (by simp [oddsD]) (by simp [oddsD]) ok2) ea_nil) rfl (small (by simp))) (rv_addT (small (by have := cl none (some p); simp only [List.length_singleton]; omega)))) (ev_sT (ev_d rfl) (eo_some (ev_op (ev_d rfl) ev_int rv_addI)) eo_no) (rv_addT (small (by have := cl none (some p); have := cl (some (p + 1)) none; simp only [List.length_append, List.length_singleton]; omega)))) ea_nil) rfl (small (by simp))) (rv_addL (small (by simp only [List.length_singleton]; omega)))) ?_)
    generalize (ofF oddsD s2).1 = od at hodd
    generalize (ofF oddsD s2).2 = s3 at ok3
    generalize hN2 : N1 ++ [PyData.tuple (Fx.cutD (r.map .int) none (some p) ++ [od] ++ Fx.cutD (r.map .int) (some (p + 1)) none)] = N2
    have n2 : N2.length = 6 ∧ ∀ x ∈ N2, RwN x := by
      subst hN2
      refine ⟨by simp [n1.1], fun x hx => ?_⟩
      rcases List.mem_append.mp hx with h | h
      · exact n1.2 x h
      · simp only [List.mem_singleton] at h
        subst h
        refine ⟨shn_tup fun x hx => ?_, fun ys e => ?_⟩
        · rcases List.mem_append.mp hx with h | h
          · rcases List.mem_append.mp h with h | h
            · exact rI _ (cutD_sub h)
            · simp only [List.mem_singleton] at h
              subst h
              simp only [oddsD, List.mem_cons, List.not_mem_nil, or_false] at hodd
              rcases hodd with rfl | rfl | rfl | rfl | rfl <;> exact ⟨by decide +kernel, by decide +kernel⟩
          · exact rI _ (cutD_sub h)
        · cases e
          have := cl none (some p); have := cl (some (p + 1)) none
          simp only [List.length_append, List.length_singleton]; omega
    -- the kind
    refine es_seq (es_set (ev_any rfl ev_int (by omega) (by omega) ok3) ?_)
    have ok4 := anyF_ok (b := 4) ok3
    generalize (anyF 4 s3).1 = kd
    generalize (anyF 4 s3).2 = s4 at ok4
    have tl : (ts.map tI).length ≤ 5 := by rw [List.length_map]; omega
    have rw1 : ∀ x ∈ ts.map tI, RwN x := fun x hx => by
      obtain ⟨q, hq, rfl⟩ := List.mem_map.mp hx
      have := hrow q hq
      exact ⟨(shn_tup (k := 0) shn_ints).mono (by decide), fun ys e => by cases e; rw [List.length_map]; omega⟩
    refine es_seq (es_if (b := decide (kd = 0)) (et_test (ev_op (ev_d rfl) ev_int rv_eqI)) (fun _ => ?_) (fun _ => es_next ?_))
    · refine es_ret (ev_of (ds := [.none, .tuple [], .tuple [.tuple []], .int 3, .str "trips", .list (ts.map tI), .tuple [.tuple [], .tuple []], tI (ts.getD 0 []), .tuple [.none]]) rfl (ev_lstE (ea_cons ev_non (ea_cons (ev_tupE (ds := []) ea_nil rfl (small (by simp))) (ea_cons (ev_tupE (ds := [.tuple []]) (ea_cons (ev_tupE (ds := []) ea_nil rfl (small (by simp))) ea_nil) rfl (small (by simp))) (ea_cons ev_int (ea_cons ev_str (ea_cons (ev_cb (ea_cons (ev_d rfl) ea_nil) rc_listT) (ea_cons (ev_tupE (ds := [.tuple [], .tuple []]) (ea_cons (ev_tupE (ds := []) ea_nil rfl (small (by simp))) (ea_cons (ev_tupE (ds := []) ea_nil rfl (small (by simp))) ea_nil)) rfl (small (by simp))) (ea_cons (ev_op (ev_d rfl) ev_int (rv_iT (atI_map (j := 0) (get_getD (d := []) t0)))) (ea_cons (ev_tupE (ds := [.none]) (ea_cons ev_non ea_nil) rfl (small (by simp))) ea_nil))))))))) rfl (small (by simp))) (by simp) (by simp) ok4) ⟨_, _, rfl, rfl, ofF_ok ok4, ?_⟩
      have hm := (ofF_ix (ds := [.none, .tuple [], .tuple [.tuple []], .int 3, .str "trips", .list (ts.map tI), .tuple [.tuple [], .tuple []], tI (ts.getD 0 []), .tuple [.none]]) (by simp) s4).2
      generalize (ofF [.none, .tuple [], .tuple [.tuple []], .int 3, .str "trips", .list (ts.map tI), .tuple [.tuple [], .tuple []], tI (ts.getD 0 []), .tuple [.none]] s4).1 = v at hm
      simp only [List.mem_cons, List.not_mem_nil, or_false] at hm
      rcases hm with rfl | rfl | rfl | rfl | rfl | rfl | rfl | rfl | rfl
      · exact ⟨by rfl, fun _ e => by cases e⟩
      · exact vok_rows (by simp) (by simp)
      · exact vok_rows (by simp) (by intro x hx; simp at hx; subst hx; exact ⟨⟨by rfl, by decide⟩, fun ys e => by cases e; simp⟩)
      · exact ⟨by decide +kernel, fun _ e => by cases e⟩
      · exact ⟨by decide +kernel, fun _ e => by cases e⟩
      · exact ⟨(shn_lst fun x hx => (rw1 x hx).1).shaped (by decide), fun _ e => by cases e⟩
      · exact vok_rows (by simp) (by intro x hx; simp at hx; subst hx; exact ⟨⟨by rfl, by decide⟩, fun ys e => by cases e; simp⟩)
      · exact vok_rows (by rw [List.length_map]; omega) fun x hx => by
          obtain ⟨q, hq, rfl⟩ := List.mem_map.mp hx
          exact ⟨shn_int q, fun ys e => by cases e⟩
      · exact vok_rows (by simp) (by intro x hx; simp at hx; subst hx; exact ⟨⟨by rfl, by decide⟩, fun ys e => by cases e⟩)
    · have cT : ∀ lo hi, (Fx.cutD (ts.map tI) lo hi).length ≤ 5 := fun lo hi => Nat.le_trans cutD_len tl
      have hm := (ofF_ix (ds := N2) (by intro h; have := n2.1; rw [h] at this; simp at this) s4).2
      refine es_retN' (evp_if (b := decide (kd = 1)) (et_test (ev_op (ev_d rfl) ev_int rv_eqI)) (fun _ => evp_ev (ev_d rfl) ⟨_, _, rfl, rfl, ok4, vok_rows (by omega) rw1⟩) (fun _ => evp_ev (ev_op (ev_op (ev_sT (ev_d rfl) eo_no (eo_some (ev_d rfl))) (ev_tupE (ds := [(ofF N2 s4).1]) (ea_cons (ev_of (ds := N2) rfl (ev_d rfl) (by intro h; have := n2.1; rw [h] at this; simp at this) (by omega) ok4) ea_nil) rfl (small (by simp))) (rv_addT (small (by have := cT none (some (a : Int)); simp only [List.length_singleton]; omega)))) (ev_sT (ev_d rfl) (eo_some (ev_op (ev_d rfl) ev_int rv_addI)) eo_no) (rv_addT (small (by have := cT none (some (a : Int)); have := cT (some ((a : Int) + 1)) none; simp only [List.length_append, List.length_singleton]; omega)))) ⟨_, _, rfl, rfl, ofF_ok ok4, ?_⟩)) (fun e R' h => h)
      refine vok_rows ?_ fun x hx => ?_
      · have := cT none (some (a : Int)); have := cT (some ((a : Int) + 1)) none
        simp only [List.length_append, List.length_singleton]; omega
      · rcases List.mem_append.mp hx with h | h
        · rcases List.mem_append.mp h with h | h
          · exact rw1 _ (cutD_sub h)
          · simp only [List.mem_singleton] at h
            subst h
            exact n2.2 _ hm
        · exact rw1 _ (cutD_sub h)
end
end K58

namespace K58
open PySem PySem.Spec PyProof.Rows L2 StX RZ Fx
section
variable {P : Program} {w : World} {K : PySem.W.Frag} {mg : Str → Option Value} {base : Heap}
def PoD : En → List Ow → Prop := fun e R' => ∃ aD aC s', e = .o aD ∧ R' = dR aD aC s' ∧ StOk s'
def N_deal : List En → List Ow → (En → List Ow → Prop) → Prop := fun es R Po => ∃ ns : List Int, es = [.s (ns.map .int), .d (.int 58)] ∧ R = [] ∧ Po = PoD
theorem cut63 (ns : List Int) : ∃ ms : List Int, Fx.cutD (ns.map .int) none (some 63) = ms.map .int ∧ ms.length ≤ 63 := by
  refine ⟨ns.take (min 63 ns.length), ?_, ?_⟩
  · unfold Fx.cutD
    rw [show (some 63 : Option Int) = some ((63 : Nat) : Int) from rfl, HT.sIx_nat, HT.sIx_none, List.length_map, List.drop_zero, Nat.sub_zero, List.map_take]
  · rw [List.length_take]; omega
theorem sc__law_deal : FnScope ["script", "base", "cells", "mix", "cell"] ["script", "base"] (defScope s__law_deal) := ⟨rfl, rfl, rfl, by decide +kernel, rfl, by decide +kernel, by decide +kernel⟩

theorem ok__law_deal (T : Txt K mg) : FnOk P w K mg base CX0 1 T.a__law_deal T.d__law_deal ["script", "base"] (spN K N_deal) := by
  refine fn_esN T.f__law_deal sc__law_deal ?len (fun cdv A outer s H E es R Po hr hS => ?body)
  case len => rintro _ _ _ ⟨ns, rfl, _⟩; rfl
  case body =>
    obtain ⟨ns, rfl, rfl, rfl⟩ := hS
    refine ⟨_, (pss_cons (ps_setLc (i := 2) (own := [("cell", 4)]) (g := gName 4) rfl sc__law_deal.nd rfl rfl (sw_true rfl rfl rfl (by decide +kernel)) (piAny (K := K) (pe_slice (slAny (K := K)) (pv 0) po_none (po_some pe_int))) (blkOk_by (N := ["script", "base", "cells", "mix", "cell"]) (sc := defScope s__law_deal) (by decide +kernel)) (fun _ _ _ _ _ => (pg_name (i := 4) sc__law_deal.nd rfl (by first | exact .inl rfl | exact .inr rfl))) (fun _ _ _ _ _ => pts_nil) (fun _ _ _ _ _ => (pe_callB callAbs (by rfl) T.n_abs (by decide +kernel) (pa_cons (pe_callTy callInt (by rfl) T.n_int (by decide +kernel) (pa_cons (pv 4) pa_nil)) pa_nil))))
      (pss_cons (ps_set (i := 3) sc__law_deal.nd rfl (.inl rfl) (pe_op (opAdd (K := K)) (pe_op opMul pe_int (pv 1)) pe_int))
      (pss_cons (ps_for PassesOwn.never rfl (piAny (K := K) (pv 2)) (pg_name (i := 4) sc__law_deal.nd rfl (.inl rfl)) (pss_one (ps_set (i := 3) sc__law_deal.nd rfl (.inl rfl) (pe_op op_mod (pe_callTy callInt (by rfl) T.n_int (by decide +kernel) (pa_cons (pe_op (opAdd (K := K)) (pe_op (opAdd (K := K)) (pe_op opMul (pv 3) pe_int) (pe_op op_mod (pv 4) pe_int)) pe_int) pa_nil)) pe_int))))
      (pss_one (ps_ret (pe_lst (pa_cons (pe_rev (K := K) (pe_lc (own := [("cell", 4)]) (g := gName 4) rfl sc__law_deal.nd (piAny (K := K) (pv 2)) (blkOk_by (N := ["script", "base", "cells", "mix", "cell"]) (sc := defScope s__law_deal) (by decide +kernel)) (fun _ _ _ _ _ => (pg_name (i := 4) sc__law_deal.nd rfl (by first | exact .inl rfl | exact .inr rfl))) (fun _ _ _ _ _ => (pts_one (pt_cmpR op_ge (pv 4) (pe_op op_pow pe_int pe_int) (nomark _)))) (fun _ _ _ _ _ => (pv 4)))) (pa_cons (pv 3) pa_nil)))))))), ?_⟩
    obtain ⟨ms, e1, l1⟩ := cut63 ns
    refine es_seq (es_set (ev_lc (ei_cast e1 (ei_L (ev_sS (ev_x rfl) eo_no (eo_some ev_int)))) (lcr_mapT (f := fun x : Int => PyData.int (if x < 0 then -x else x)) fun x hx => ⟨_, egw_name, ev_cb (ea_cons (ev_cb (ea_cons (ev_d rfl) ea_nil) rc_int) ea_nil) rc_abs⟩) (small (by rw [List.length_map]; omega))) ?_)
    rw [map_int (f := fun x : Int => if x < 0 then -x else x)]
    generalize hcs : ms.map (fun x : Int => if x < 0 then -x else x) = cs
    have lc : cs.length ≤ 63 := by rw [← hcs, List.length_map]; exact l1
    refine es_seq (es_set (ev_op (ev_op ev_int (ev_d rfl) (rv_intC (wide_mul (a := 17) (b := 7) (by omega) (by omega) (by omega) (by omega) (by omega)))) ev_int rv_addI) ?_)
    refine es_seq (es_for (ei_L (ev_d rfl)) (fun i ρ R => R = [] ∧ ∃ e4, ∃ m : Int, ρ = [.s (ns.map .int), .d (.int 58), .d (lI cs), .d (.int m), e4] ∧ 0 ≤ m ∧ m < 2147483647) ⟨rfl, _, _, rfl, by decide, by decide⟩ ?_ ?_)
    · rintro i d ρ R hd ⟨rfl, e4, m, rfl, m0, m1⟩
      obtain ⟨c, hc, rfl⟩ : ∃ c, c ∈ cs ∧ d = .int c := by
        obtain ⟨c, hc, e⟩ := List.mem_map.mp (List.mem_of_getElem? hd)
        exact ⟨c, hc, e.symm⟩
      refine ⟨_, eg_name, ?_⟩
      refine es_set (ev_op (ev_cb (ea_cons (ev_op (ev_op (ev_op (ev_d rfl) ev_int (rv_intC (wide_mul (a := 31) (b := 16) (by omega) (by omega) (by omega) (by omega) (by omega)))) (ev_op (ev_d rfl) ev_int (rv_intC (by decide))) rv_addI) ev_int rv_addI) ea_nil) rc_int) ev_int (rv_intC (by decide))) ⟨rfl, _, _, rfl, Int.emod_nonneg _ (by omega), Int.emod_lt_of_pos _ (by omega)⟩
    · rintro ρ R ⟨rfl, e4, m, rfl, m0, m1⟩
      refine es_retPair (ev_lc (ei_L (ev_d rfl)) (lcr_filterT (p := fun c : Int => decide ((10 : Int) ^ 18 ≤ c)) (f := fun c => PyData.int c) fun c hc => ⟨_, egw_name, et_test (ev_op (ev_d rfl) (ev_op ev_int ev_int (rv_intC (by unfold CPow; decide))) (rv_bl (g := fun i j : Int => decide (j ≤ i)))), fun _ => ev_d rfl⟩) (small (by rw [List.length_map]; omega))) rfl fun aD aC => ⟨aD, aC, ⟨(cs.filter fun c : Int => decide ((10 : Int) ^ 18 ≤ c)).reverse, m⟩, rfl, ?_, m0, m1, ?_⟩
      · rw [← List.map_reverse]
      · rw [List.length_reverse]
        have := List.length_filter_le (fun c : Int => decide ((10 : Int) ^ 18 ≤ c)) cs
        omega
end
end K58

namespace K58
open PySem PySem.Spec PyProof.Rows L2 StX RZ Fx
section
variable {P : Program} {w : World} {K : PySem.W.Frag} {mg : Str → Option Value} {base : Heap} {C fI : Addr}
theorem ens_sw {F : Hp} {vs : List V} {a b : En} (h : Ens K F vs [a, b]) : Ens K F ((fun (us ws : List V) => match us, ws with | [], [u0, u1] => [u1, u0] | _, _ => []) [] vs) [b, a] := by
  cases h with
  | cons h1 h =>
    cases h with
    | cons h2 h => cases h; exact .cons h2 (.cons h1 .nil)
theorem ens_sw3 {F : Hp} {vs : List V} {a b c : En} (h : Ens K F vs [a, b, c]) : Ens K F ((fun (us ws : List V) => match us, ws with | [], [u0, u1, u2] => [u2, u1, u0] | _, _ => []) [] vs) [c, b, a] := by
  cases h with
  | cons h1 h =>
    cases h with
    | cons h2 h =>
      cases h with
      | cons h3 h => cases h; exact .cons h3 (.cons h2 (.cons h1 .nil))
/-! ### nothing is huge -/
theorem sum_le {l : List Int} {B : Int} (h : ∀ x ∈ l, 0 ≤ x ∧ x ≤ B) : 0 ≤ l.sum ∧ l.sum ≤ l.length * B := by
  induction l with
  | nil => simp
  | cons a r ih =>
    have h1 := h a (by simp)
    have h2 := ih fun x hx => h x (by simp [hx])
    rw [List.sum_cons, List.length_cons]
    have e : ((r.length + 1 : Nat) : Int) * B = (r.length : Int) * B + B := by rw [Int.natCast_succ, Int.add_mul, Int.one_mul]
    omega
theorem rowAt_le {r : List Int} (h : ∀ x ∈ r, 0 ≤ x ∧ x < 2 ^ 40) (i : Nat) : 0 ≤ rowAt r i ∧ rowAt r i ≤ 2 ^ 40 := by
  unfold rowAt
  by_cases hi : i < r.length
  · have := h _ (getD_mem (l := r) (d := 0) hi)
    omega
  · rw [List.getD_eq_getElem?_getD, List.getElem?_eq_none (by omega)]
    simp
theorem allIn_wee {ps : List Int} {ts : List (List Int)} {o : List Nat} (hp : ∀ x ∈ ps, 0 ≤ x ∧ x < 2 ^ 40) (ht : ∀ r ∈ ts, ∀ x ∈ r, 0 ≤ x ∧ x < 2 ^ 40) (ho : o.length ≤ 1000) (hl : ts.length ≤ 1000) : Wee (allIn ps ts o) := by
  have h1 := sum_le (l := o.map (rowAt ps)) (B := 2 ^ 40) fun x hx => by
    obtain ⟨i, _, rfl⟩ := List.mem_map.mp hx
    exact rowAt_le hp i
  have h2 := sum_le (l := ts.map fun r => rowAt r (nearF r o)) (B := 2 ^ 40) fun x hx => by
    obtain ⟨r, hr, rfl⟩ := List.mem_map.mp hx
    exact rowAt_le (ht r hr) _
  rw [List.length_map] at h1 h2
  unfold allIn
  apply wee_of <;> omega
theorem rc_reprW (b : Bool) {R : List Ow} : RcK K (rRepr K) [.d (if b = true then .none else .str "trips")] R (.d (.str (PyData.shown (if b = true then .none else .str "trips")))) := by
  cases b with
  | true => exact rc_repr (by rfl) (by rfl) (by decide) (by decide +kernel)
  | false => exact rc_repr (by rfl) (by rfl) (by decide +kernel) (by decide +kernel)
theorem tN_ints (o : List Nat) : tN o = .tuple (o.map fun (n : Nat) => PyData.int (n : Int)) := rfl
theorem sc_law : FnScope ["script", "deal", "turn", "trips", "prices", "lots", "step", "opening", "near", "row", "least", "value", "house"] ["script"] (defScope s_law) := ⟨rfl, rfl, rfl, by decide +kernel, rfl, by decide +kernel, by decide +kernel⟩

theorem es_law (T : Txt K mg) (L : PySem.LowX.LowTxt K mg C fI) {A : Around} {outer : List Env} {s : Shared} {H : Hp} {E : XK} {cdv : Value} {ns : List Int} (hr : Room 7 (A.deeper (envOfC "law" (defScope s_law) s.heap.objs.size T.a_law cdv)))
    (hg : (A.deeper (envOfC "law" (defScope s_law) s.heap.objs.size T.a_law cdv)).guards = some []) :
    ∃ t, PSs (cxOf CX0 P w K mg base ["script", "deal", "turn", "trips", "prices", "lots", "step", "opening", "near", "row", "least", "value", "house"] "law" (defScope s_law) T.a_law cdv A outer s H E).nox (defBody s_law) t ∧
      Es K t [.s (ns.map .int), .u, .u, .u, .u, .u, .u, .u, .u, .u, .u, .u, .u] [] { rt := fun e _ => e = .d (.bool true) } := by
  refine ⟨_, (pss_cons (ps_set (i := 1) sc_law.nd rfl (.inl rfl) (pe_call (ok__law_deal T) (hr.mono (by decide)) (by rfl) T.g__law_deal T.f__law_deal.kp T.b__law_deal .nil pass0 (pa_cons (pv 0) (pa_cons pe_int pa_nil))))
      (pss_cons (ps_for PassesOwn.never rfl (pi_range1 rfl T.n_range (pa_cons pe_int pa_nil)) (pg_name (i := 2) sc_law.nd rfl (.inl rfl)) (pss_cons (ps_set (i := 3) sc_law.nd rfl (.inr rfl) (pe_ifExp (pt_cmpR (opEqD (K := K) hr) (pe_call (ok__law_any T) (hr.mono (by decide)) (by rfl) T.g__law_any T.f__law_any.kp T.b__law_any .nil pass0 (pa_cons (pv 1) (pa_cons pe_int pa_nil))) pe_int (nomark _)) (pe_call (ok__law_trips T) (hr.mono (by decide)) (by rfl) T.g__law_trips T.f__law_trips.kp T.b__law_trips .nil pass0 (pa_cons (pv 1) (pa_cons pe_int pa_nil))) (pe_call (ok__law_tree_trips T) (hr.mono (by decide)) (by rfl) T.g__law_tree_trips T.f__law_tree_trips.kp T.b__law_tree_trips .nil pass0 (pa_cons (pv 1) (pa_cons pe_int pa_nil)))))
      (pss_cons (ps_set (i := 4) sc_law.nd rfl (.inr rfl) (pe_call (ok__law_prices T) (hr.mono (by decide)) (by rfl) T.g__law_prices T.f__law_prices.kp T.b__law_prices .nil pass0 (pa_cons (pv 1) (pa_cons (pe_callB (callLen (K := K)) (by rfl) T.n_len (by decide +kernel) (pa_cons (pe_ix (ixAny (K := K)) (pv 3) pe_int (fun _ _ => rfl)) pa_nil)) pa_nil))))
      (pss_cons (ps_set (i := 5) sc_law.nd rfl (.inl rfl) (pe_call (ok__law_lots T) (hr.mono (by decide)) (by rfl) T.g__law_lots T.f__law_lots.kp T.b__law_lots .nil pass0 (pa_cons (pe_callB (callLen (K := K)) (by rfl) T.n_len (by decide +kernel) (pa_cons (pv 4) pa_nil)) pa_nil)))
      (pss_cons (ps_for PassesOwn.never rfl (pi_range1 rfl T.n_range (pa_cons pe_int pa_nil)) (pg_name (i := 6) sc_law.nd rfl (.inl rfl)) (pss_cons (ps_set (i := 7) sc_law.nd rfl (.inl rfl) (pe_call (ok__law_of T) (hr.mono (by decide)) (by rfl) T.g__law_of T.f__law_of.kp T.b__law_of .nil pass0 (pa_cons (pv 1) (pa_cons (pv 5) pa_nil))))
      (pss_cons (ps_set (i := 8) sc_law.nd rfl (.inl rfl) (pe_lst pa_nil))
      (pss_cons (ps_for PassesOwn.never rfl (piAny (K := K) (pv 3)) (pg_name (i := 9) sc_law.nd rfl (.inr rfl)) (pss_cons (ps_set (i := 10) sc_law.nd rfl (.inr rfl) (pe_callB (callMin (K := K)) (by rfl) T.n_min (by decide +kernel) (pa_cons (pe_lc (own := [("house", 12)]) (g := gName 12) rfl sc_law.nd (piAny (K := K) (pv 7)) (blkOk_by (N := ["script", "deal", "turn", "trips", "prices", "lots", "step", "opening", "near", "row", "least", "value", "house"]) (sc := defScope s_law) (by decide +kernel)) (fun _ _ _ _ _ => (pg_name (i := 12) sc_law.nd rfl (by first | exact .inl rfl | exact .inr rfl))) (fun _ _ _ _ _ => pts_nil) (fun _ _ _ _ _ => (pe_ix (ixAny (K := K)) (pv 9) (pv 12) (fun _ _ => rfl)))) pa_nil)))
      (pss_one (ps_expr (peBm (K := K) PySem.F.slot_list_append PySem.F.type_list_append mt_append (pv 8) (pa_cons (pe_ix (ixAny (K := K)) (pe_lc (own := [("house", 12)]) (g := gName 12) rfl sc_law.nd (piAny (K := K) (pv 7)) (blkOk_by (N := ["script", "deal", "turn", "trips", "prices", "lots", "step", "opening", "near", "row", "least", "value", "house"]) (sc := defScope s_law) (by decide +kernel)) (fun _ _ _ _ _ => (pg_name (i := 12) sc_law.nd rfl (by first | exact .inl rfl | exact .inr rfl))) (fun _ _ _ _ _ => (pts_one (pt_cmpR (opEqD (K := K) hr) (pe_ix (ixAny (K := K)) (pv 9) (pv 12) (fun _ _ => rfl)) (pv 10) (nomark _)))) (fun _ _ _ _ _ => (pv 12))) pe_int (fun _ _ => rfl)) pa_nil))))))
      (pss_cons (ps_if (pt_cmpR op_ne (pe_callB (call_reprD (K := K) hr hg) (by rfl) T.n_repr (by decide +kernel) (pa_cons (pe_callKO (ok_nearest_open T) (hr.mono (by decide)) (by rfl) T.g_nearest_open T.f_nearest_open.kp T.k_nearest_open_opening_trips pass0 (pk_cons (pv 7) (pk_cons (pv 3) pk_nil))) pa_nil)) (pe_callB (call_reprD (K := K) hr hg) (by rfl) T.n_repr (by decide +kernel) (pa_cons (pe_callTy (callTup (K := K)) (by rfl) T.n_tuple (by decide +kernel) (pa_cons (pv 8) pa_nil)) pa_nil)) (nomark _)) (pss_one (ps_ret pe_bl)) pss_nil)
      (pss_cons (ps_if (pt_cmpR op_ne (pe_callB (call_reprD (K := K) hr hg) (by rfl) T.n_repr (by decide +kernel) (pa_cons (pe_callKO (ok_all_in T) (hr.mono (by decide)) (by rfl) T.g_all_in T.f_all_in.kp T.k_all_in_opening_prices_trips pass0 (pk_cons (pv 7) (pk_cons (pv 4) (pk_cons (pv 3) pk_nil)))) pa_nil)) (pe_callB (call_reprD (K := K) hr hg) (by rfl) T.n_repr (by decide +kernel) (pa_cons (pe_call (ok__law_all_in T) (hr.mono (by decide)) (by rfl) T.g__law_all_in T.f__law_all_in.kp T.b__law_all_in .nil pass0 (pa_cons (pv 3) (pa_cons (pv 4) (pa_cons (pv 7) pa_nil)))) pa_nil)) (nomark _)) (pss_one (ps_ret pe_bl)) pss_nil)
      (pss_cons (ps_set (i := 11) sc_law.nd rfl (.inl rfl) (pe_call (ok__law_turned T) (hr.mono (by decide)) (by rfl) T.g__law_turned T.f__law_turned.kp T.b__law_turned .nil pass0 (pa_cons (pv 1) (pa_cons (pv 3) pa_nil))))
      (pss_one (ps_if (pt_cmpR op_ne (pe_callB (call_reprD (K := K) hr hg) (by rfl) T.n_repr (by decide +kernel) (pa_cons (pe_call (ok__law_word T L) (hr.mono (by decide)) (by rfl) T.g__law_word T.f__law_word.kp T.b__law_word .nil pass0 (pa_cons (pv 11) pa_nil)) pa_nil)) (pe_callB (call_reprD (K := K) hr hg) (by rfl) T.n_repr (by decide +kernel) (pa_cons (pe_ifExp (ptTruth (K := K) (pe_call (ok__law_are_trips T) (hr.mono (by decide)) (by rfl) T.g__law_are_trips T.f__law_are_trips.kp T.b__law_are_trips .nil pass0 (pa_cons (pv 11) pa_nil))) pe_non pe_str) pa_nil)) (nomark _)) (pss_one (ps_ret pe_bl)) pss_nil)))))))))
      (pss_cons (ps_set (i := 10) sc_law.nd rfl (.inr rfl) (pe_callB (callMin (K := K)) (by rfl) T.n_min (by decide +kernel) (pa_cons (pe_lc (own := [("opening", 7)]) (g := gName 7) rfl sc_law.nd (piAny (K := K) (pv 5)) (blkOk_by (N := ["script", "deal", "turn", "trips", "prices", "lots", "step", "opening", "near", "row", "least", "value", "house"]) (sc := defScope s_law) (by decide +kernel)) (fun _ _ _ _ _ => (pg_name (i := 7) sc_law.nd rfl (by first | exact .inl rfl | exact .inr rfl))) (fun _ _ _ _ _ => pts_nil) (fun _ _ _ _ _ => (pe_call (ok__law_all_in T) (hr.mono (by decide)) (by rfl) T.g__law_all_in T.f__law_all_in.kp T.b__law_all_in .nil pass0 (pa_cons (pv 3) (pa_cons (pv 4) (pa_cons (pv 7) pa_nil)))))) pa_nil)))
      (pss_one (ps_if (pt_cmpR op_ne (pe_callB (call_reprD (K := K) hr hg) (by rfl) T.n_repr (by decide +kernel) (pa_cons (pe_callKO (ok_least_all_in T) (hr.mono (by decide)) (by rfl) T.g_least_all_in T.f_least_all_in.kp T.k_least_all_in_prices_trips pass0 (pk_cons (pv 4) (pk_cons (pv 3) pk_nil))) pa_nil)) (pe_callB (call_reprD (K := K) hr hg) (by rfl) T.n_repr (by decide +kernel) (pa_cons (pv 10) pa_nil)) (nomark _)) (pss_one (ps_ret pe_bl)) pss_nil))))))))
      (pss_one (ps_ret pe_bl)))), ?_⟩
  refine es_seq (es_setN (evp_call (Rc := []) (Rf := []) (Pre := N_deal) ⟨ns, rfl, rfl, rfl⟩ (ea_cons (ev_x rfl) (ea_cons ev_int ea_nil))) ?_)
  rintro _ _ ⟨_, rfl, aD, aC, s0, rfl, rfl, ok0⟩
  rw [List.append_nil]
  refine es_seq (es_for (ei_rngN (n := 3) (ea_cons ev_int ea_nil) (by omega)) (fun i ρ R => ∃ s e2 e3 e4 e5 e6 e7 e8 e9 e10 e11 e12, ρ = [.s (ns.map .int), .o aD, e2, e3, e4, e5, e6, e7, e8, e9, e10, e11, e12] ∧ R = dR aD aC s ∧ StOk s) ⟨s0, _, _, _, _, _, _, _, _, _, _, _, rfl, rfl, ok0⟩ ?_ ?_)
  case _ =>
    rintro i d ρ R hd ⟨s1, e2, e3, e4, e5, e6, e7, e8, e9, e10, e11, e12, rfl, rfl, ok1⟩
    refine ⟨_, eg_name, ?_⟩
    have ok2 := anyF_ok (b := 2) ok1
    refine es_seq (es_setN (Po := fun e R' => ∃ Rc', R' = Rc' ++ [] ∧ PoT aD aC e Rc') (evp_if (b := decide ((anyF 2 s1).1 = 0)) (et_test (ev_op (ev_any rfl ev_int (by omega) (by omega) ok1) ev_int rv_eqI)) (fun _ => evp_call (Rc := dR aD aC (anyF 2 s1).2) (Rf := []) (Pre := N_trips) ⟨aD, aC, _, rfl, rfl, ok2, rfl⟩ (ea_cons (ev_o rfl) (ea_cons ev_int ea_nil))) (fun _ => evp_call (Rc := dR aD aC (anyF 2 s1).2) (Rf := []) (Pre := N_trips) ⟨aD, aC, _, rfl, rfl, ok2, rfl⟩ (ea_cons (ev_o rfl) (ea_cons ev_int ea_nil)))) ?_)
    rintro _ _ ⟨_, rfl, ts, s3, rfl, rfl, ok3, hts⟩
    rw [List.append_nil]
    have hts' := hts
    obtain ⟨m, m0, m5, t0, t5, hrow⟩ := hts
    have hz := hrow _ (getD_mem (l := ts) (d := []) (i := 0) t0)
    refine es_seq (es_setN (evp_call (Rc := dR aD aC s3) (Rf := []) (Pre := N_prices) ⟨aD, aC, s3, m, rfl, rfl, ok3, by omega, rfl⟩ (ea_cons (ev_o rfl) (ea_cons (ev_cast (d := .int (((ts.getD 0 []).map PyData.int).length : Int)) (by rw [List.length_map, hz.1]) (ev_cb (ea_cons (ev_op (ev_d rfl) ev_int (rv_iT (atI_map (j := 0) (get_getD (d := []) t0)))) ea_nil) rc_lenT)) ea_nil))) ?_)
    rintro _ _ ⟨_, rfl, ps, s4, rfl, rfl, ok4, hps⟩
    rw [List.append_nil]
    obtain ⟨pl, pb⟩ := hps
    refine es_seq (es_set (ev_callP ⟨m, rfl, rfl, rfl, rfl, by omega⟩ (ea_cons (ev_cast (d := .int ((ps.map PyData.int).length : Int)) (by rw [List.length_map, pl]) (ev_cb (ea_cons (ev_d rfl) ea_nil) rc_lenT)) ea_nil)) ?_)
    -- what each lot is
    have hlot : ∀ o ∈ lots1 m, o ≠ [] ∧ (∀ r ∈ ts, ∀ h ∈ o, h < r.length) ∧ (∀ h ∈ o, h < ps.length) ∧ o.length ≤ 1000 := fun o ho => by
      have h1 := lots1_mem o (lots1_sub ho)
      exact ⟨lots1_ne o ho, fun r hr h hh => by rw [(hrow r hr).1]; exact h1.1 h hh, fun h hh => by rw [pl]; exact h1.1 h hh, by omega⟩
    have ll : (lots1 m).length ≤ 4096 := by
      have := lots_len m
      rw [lots_cons, List.length_cons] at this
      have := pow12 (n := m) (by omega)
      omega
    have hwee : ∀ o ∈ lots1 m, Wee (allIn ps ts o) := fun o ho => allIn_wee pb (fun r hr => (hrow r hr).2) (hlot o ho).2.2.2 (by omega)
    have lne := lots1_pos m0
    refine es_seq (es_for (ei_rngN (n := 3) (ea_cons ev_int ea_nil) (by omega)) (fun i ρ R => ∃ s e2 e6 e7 e8 e9 e10 e11 e12, ρ = [.s (ns.map .int), .o aD, e2, .d (tT ts), .d (tI ps), .d (.list ((lots1 m).map tN)), e6, e7, e8, e9, e10, e11, e12] ∧ R = dR aD aC s ∧ StOk s) ⟨s4, _, _, _, _, _, _, _, _, rfl, rfl, ok4⟩ ?step ?rest)
    case step =>
      rintro j dj ρ R hdj ⟨s5, f2, f6, f7, f8, f9, f10, f11, f12, rfl, rfl, ok5⟩
      refine ⟨_, eg_name, ?_⟩
      have hm := (ofF_ix (ds := (lots1 m).map tN) (by simpa using lne) s5).2
      obtain ⟨o, ho, eo⟩ := List.mem_map.mp hm
      obtain ⟨o1, o2, o3, o4⟩ := hlot o ho
      have ok6 := ofF_ok (ds := (lots1 m).map tN) ok5
      refine es_seq (es_set (ev_cast eo.symm (ev_of (ds := (lots1 m).map tN) rfl (ev_d rfl) (by simpa using lne) (by rw [List.length_map]; omega) ok5)) ?_)
      generalize (ofF ((lots1 m).map tN) s5).2 = s6 at ok6
      have hz1 : (o.map fun (n : Nat) => PyData.int (n : Int)).length ≤ sizeLine := small (by rw [List.length_map]; omega)
      -- near
      refine es_seq (es_setO fun pN => ?_)
      refine es_seq (es_for (ei_T (ev_d rfl)) (fun i ρ R => ∃ e9 e10, ρ = [.s (ns.map .int), .o aD, f2, .d (tT ts), .d (tI ps), .d (.list ((lots1 m).map tN)), .d dj, .d (tN o), .o pN, e9, e10, f11, f12] ∧ R = dR aD aC s6 ++ .ls pN ((ts.take i).map fun r => .int (nearF r o : Int)) :: []) ⟨_, _, rfl, rfl⟩ ?row ?after)
      case row =>
        rintro i dr ρ R hdr ⟨e9, e10, rfl, rfl⟩
        obtain ⟨hi, r, hr, rfl⟩ : ∃ _ : i < ts.length, ∃ r, ts[i]? = some r ∧ dr = tI r := by
          rw [List.getElem?_map] at hdr
          cases e : ts[i]? with
          | none => rw [e] at hdr; cases hdr
          | some r => rw [e] at hdr; exact ⟨(List.getElem?_eq_some_iff.mp e).1, r, rfl, (Option.some.inj hdr).symm⟩
        have hrm := List.mem_of_getElem? hr
        have ix : ∀ h ∈ o, L2.atI (r.map PyData.int) (h : Int) = some (.int (rowAt r h)) := fun h hh => atI_map (get_getD (o2 r hrm h hh))
        refine ⟨_, eg_name, ?_⟩
        refine es_seq (es_set (ev_cb (ea_cons (ev_lc (ei_T (ev_d rfl)) (lcr_mapT (f := fun h => .int (rowAt r h)) fun h hh => ⟨_, egw_name, ev_op (ev_d rfl) (ev_d rfl) (rv_iT (ix h hh))⟩) hz1) ea_nil) (rc_minM o1)) ?_)
        refine es_drop (ev_append (a := pN) (ds := (ts.take i).map fun r => .int (nearF r o : Int)) (ds0 := (ts.take i).map fun r => .int (nearF r o : Int)) (d := .int (nearF r o : Int)) (Ra := dR aD aC s6) (Rb := []) (ev_o rfl) (by simp) (ea_cons (ev_op (ev_lc (ei_T (ev_d rfl)) (lcr_filterT (p := fun h => decide (rowAt r h = cheap r o)) (f := fun h => .int (h : Int)) fun h hh => ⟨_, egw_name, et_test (ev_op (ev_op (ev_d rfl) (ev_d rfl) (rv_iT (ix h hh))) (ev_d rfl) rv_eqI), fun _ => ev_d rfl⟩) hz1) ev_int (rv_iL ?ix0)) ea_nil) (smallL (by rw [List.length_map, List.length_take]; omega))) ⟨_, _, rfl, ?_⟩
        case ix0 => exact atI_map (j := 0) (get_getD (near_ne o1))
        rw [List.take_succ, hr]
        simp
      case after =>
        rintro ρ R ⟨e9, e10, rfl, rfl⟩
        rw [List.length_map, List.take_length]
        have hnw : ∀ r ∈ ts, Wee ((nearF r o : Nat) : Int) := fun r hr => by
          have h1 := (nearF_mem (r := r) o1).1
          have h2 := o3 _ h1
          exact wee_of (by omega) (by omega)
        have hN : tN (ts.map fun r => nearF r o) = .tuple (ts.map fun r => PyData.int ((nearF r o : Nat) : Int)) := by
          show PyData.tuple ((ts.map fun r => nearF r o).map fun (n : Nat) => PyData.int (n : Int)) = _
          rw [List.map_map]; rfl
        refine es_seq (es_if (b := false) (et_test (ev_op (ev_cb (ea_cons (ev_cast hN (ev_callKO (Rc := []) (Rc' := []) (Rf := dR aD aC s6 ++ .ls pN (ts.map fun r => .int (nearF r o : Int)) :: []) ⟨ts, o, rfl, rfl, rfl, rfl, o1, o2, o4, by omega⟩ (ea_cons (ev_d rfl) (ea_cons (ev_d rfl) ea_nil)) fun F vs h => ens_sw h)) ea_nil) (rc_reprM hnw (by omega))) (ev_cb (ea_cons (ev_cb (ea_cons (ev_o rfl) ea_nil) rc_tupO) ea_nil) (rc_reprM hnw (by omega))) rv_neSS)) (fun h => nomatch h) (fun _ => es_next ?_))
        refine es_forget (R' := dR aD aC s6) (List.sublist_append_left _ _) ?_
        refine es_seq (es_if (b := false) (et_test (ev_op (ev_cb (ea_cons (ev_callKO (Rc := []) (Rc' := []) (Rf := dR aD aC s6) ⟨ts, ps, o, rfl, rfl, rfl, rfl, o1, o2, o3, o4, by omega⟩ (ea_cons (ev_d rfl) (ea_cons (ev_d rfl) (ea_cons (ev_d rfl) ea_nil))) fun F vs h => ens_sw3 h) ea_nil) (rc_reprI (hwee o ho))) (ev_cb (ea_cons (ev_callP ⟨ts, ps, o, rfl, rfl, rfl, rfl, o1, o2, o3, o4, by omega⟩ (ea_cons (ev_d rfl) (ea_cons (ev_d rfl) (ea_cons (ev_d rfl) ea_nil)))) ea_nil) (rc_reprI (hwee o ho))) rv_neSS)) (fun h => nomatch h) (fun _ => es_next ?_))
        refine es_seq (es_setN (evp_call (Rc := dR aD aC s6) (Rf := []) (Pre := N_turned) ⟨aD, aC, s6, ts, rfl, rfl, ok6, hts', rfl⟩ (ea_cons (ev_o rfl) (ea_cons (ev_d rfl) ea_nil))) ?_)
        rintro _ _ ⟨_, rfl, dv, s7, rfl, rfl, ok7, hv⟩
        rw [List.append_nil]
        exact es_if (b := false) (et_test (ev_op (ev_cb (ea_cons (ev_callP ⟨dv, rfl, rfl, rfl, rfl, hv⟩ (ea_cons (ev_d rfl) ea_nil)) ea_nil) (rc_reprW (isT dv))) (ev_cb (ea_cons (ev_if (b := isT dv) (et_truB (ev_callP ⟨dv, rfl, rfl, rfl, rfl, hv⟩ (ea_cons (ev_d rfl) ea_nil))) (fun h => ev_cast (by rw [h]; rfl) ev_non) (fun h => ev_cast (by rw [h]; rfl) ev_str)) ea_nil) (rc_reprW (isT dv))) rv_neSS)) (fun h => nomatch h) (fun _ => es_next ⟨s7, _, _, _, _, _, _, _, _, rfl, rfl, ok7⟩)
    case rest =>
      rintro ρ R ⟨s5, f2, f6, f7, f8, f9, f10, f11, f12, rfl, rfl, ok5⟩
      have hwm : Wee (minI ((lots1 m).map (allIn ps ts))) := by
        obtain ⟨o, ho, e⟩ := List.mem_map.mp (minI_mem (l := (lots1 m).map (allIn ps ts)) (by simpa using lne))
        rw [← e]
        exact hwee o ho
      refine es_seq (es_set (ev_cb (ea_cons (ev_lc (ei_L (ev_d rfl)) (lcr_mapT (f := fun o => .int (allIn ps ts o)) fun o ho => ⟨_, egw_name, ev_callP ⟨ts, ps, o, rfl, rfl, rfl, rfl, (hlot o ho).1, (hlot o ho).2.1, (hlot o ho).2.2.1, (hlot o ho).2.2.2, by omega⟩ (ea_cons (ev_d rfl) (ea_cons (ev_d rfl) (ea_cons (ev_d rfl) ea_nil)))⟩) (small (by rw [List.length_map]; omega))) ea_nil) (rc_minM lne)) ?_)
      subst pl
      exact es_if (b := false) (et_test (ev_op (ev_cb (ea_cons (ev_callKO (Rc := []) (Rc' := []) (Rf := dR aD aC s5) ⟨ts, ps, rfl, rfl, rfl, rfl, fun r hr => (hrow r hr).1, m0, by omega, by omega⟩ (ea_cons (ev_d rfl) (ea_cons (ev_d rfl) ea_nil)) fun F vs h => ens_sw h) ea_nil) (rc_reprI hwm)) (ev_cb (ea_cons (ev_d rfl) ea_nil) (rc_reprI hwm)) rv_neSS)) (fun h => nomatch h) (fun _ => es_next ⟨s5, _, _, _, _, _, _, _, _, _, _, _, rfl, rfl, ok5⟩)
  case _ =>
    rintro ρ R ⟨s1, e2, e3, e4, e5, e6, e7, e8, e9, e10, e11, e12, rfl, rfl, ok1⟩
    exact es_ret ev_bl rfl
end
end K58

namespace K58
open PySem PySem.Spec PyProof.Rows L2 StX RZ Fx
section
variable {P : Program} {w : World} {K : PySem.W.Frag} {mg : Str → Option Value} {C fI : Addr}
theorem runs_law (T : Txt K mg) (L : PySem.LowX.LowTxt K mg C fI) {a : Addr} {s₁ : Shared} {ns : List Int} : Runs P w K mg T.a_law a s₁ ns := by
  intro base H hK hN hS e0
  obtain ⟨oc, od, kV, doc, pm, an, cdv, ct, osl, hfd, lk, hcd⟩ := T.f_law.ex
  have hr : Room (7 + 1) callerA := ⟨rfl, by decide, by decide⟩
  have KX : K.In s₁.heap := e0.mod.kin.keeps fun b o e => (e0.bs b o e).1
  have b := T.b_law s₁ [.ref a] KX rfl
  rw [List.append_nil, hfd] at b
  rw [hfd] at lk
  refine fn_at (k := 7) (vs := [.ref a]) (us := [.ref a]) lk hcd sc_law hr e0 b (.cons rfl .nil) rfl ?_
  obtain ⟨t, ht, he⟩ := es_law (P := P) (w := w) (base := base) T L (ns := ns) (A := callerA) (outer := []) (s := s₁) (H := H) (E := E0) (cdv := cdv) (hr.deeper _) rfl
  refine ⟨t, ht.nox, ?_⟩
  refine he [] H H _ _ (.cons ⟨.ref a, rfl, a, _, rfl, hS, Dts.of_ints ns⟩ (Sls.us 12)) ⟨Ex.refl H, List.nodup_nil, fun r hr => nomatch hr⟩ ⟨?_, ?_, ?_, ?_⟩
  · intro _ _ _ _ _ h; exact h.elim
  · rintro e R v F1 H1 rfl x e1 A1
    cases e1
    rfl
  · intro _ _ _ _ _ h; exact h.elim
  · intro _ _ _ _ _ h; exact h.elim
end
theorem exm_own {K : PySem.W.Frag} {S : Addr} (h1 : PySem.W.subIn K (.ref S) (.type "BaseException") = some true) (h2 : PySem.W.isClsIn K S = true) (h3 : PySem.W.typeIn K (.ref S) = some (.type "type")) (h4 : PySem.W.subIn K (.ref S) (.ref S) = some true) :
    PySem.W.exmOne K (.ref S) (.ref S) = some true := by
  have h2' : (PySem.W.clsIn K S).isSome = true := h2
  unfold PySem.W.exmOne
  simp [PySem.W.kitCls, h1, h2', h3, h4]
theorem txt_mk {K : PySem.W.Frag} {h : Heap} {mg : Str → Option Value} (X : K.In h) (G : h.Ns mainGlobals mg)
    {f0 : Addr} {od0 an0 : Option Addr} {sl0 : Array (Option Value)} {oc0 kV0 dc0 pm0 cd0 ct0 : Value}
    {f1 : Addr} {od1 an1 : Option Addr} {sl1 : Array (Option Value)} {oc1 kV1 dc1 pm1 cd1 ct1 : Value}
    {f2 : Addr} {od2 an2 : Option Addr} {sl2 : Array (Option Value)} {oc2 kV2 dc2 pm2 cd2 ct2 : Value}
    {f3 : Addr} {od3 an3 : Option Addr} {sl3 : Array (Option Value)} {oc3 kV3 dc3 pm3 cd3 ct3 : Value}
    {f4 : Addr} {od4 an4 : Option Addr} {sl4 : Array (Option Value)} {oc4 kV4 dc4 pm4 cd4 ct4 : Value}
    {f5 : Addr} {od5 an5 : Option Addr} {sl5 : Array (Option Value)} {oc5 kV5 dc5 pm5 cd5 ct5 : Value}
    {f6 : Addr} {od6 an6 : Option Addr} {sl6 : Array (Option Value)} {oc6 kV6 dc6 pm6 cd6 ct6 : Value}
    {f7 : Addr} {od7 an7 : Option Addr} {sl7 : Array (Option Value)} {oc7 kV7 dc7 pm7 cd7 ct7 : Value}
    {f8 : Addr} {od8 an8 : Option Addr} {sl8 : Array (Option Value)} {oc8 kV8 dc8 pm8 cd8 ct8 : Value}
    {f9 : Addr} {od9 an9 : Option Addr} {sl9 : Array (Option Value)} {oc9 kV9 dc9 pm9 cd9 ct9 : Value}
    {f10 : Addr} {od10 an10 : Option Addr} {sl10 : Array (Option Value)} {oc10 kV10 dc10 pm10 cd10 ct10 : Value}
    {f11 : Addr} {od11 an11 : Option Addr} {sl11 : Array (Option Value)} {oc11 kV11 dc11 pm11 cd11 ct11 : Value}
    {f12 : Addr} {od12 an12 : Option Addr} {sl12 : Array (Option Value)} {oc12 kV12 dc12 pm12 cd12 ct12 : Value}
    {f13 : Addr} {od13 an13 : Option Addr} {sl13 : Array (Option Value)} {oc13 kV13 dc13 pm13 cd13 ct13 : Value}
    {f14 : Addr} {od14 an14 : Option Addr} {sl14 : Array (Option Value)} {oc14 kV14 dc14 pm14 cd14 ct14 : Value}
    {f15 : Addr} {od15 an15 : Option Addr} {sl15 : Array (Option Value)} {oc15 kV15 dc15 pm15 cd15 ct15 : Value}
    {f16 : Addr} {od16 an16 : Option Addr} {sl16 : Array (Option Value)} {oc16 kV16 dc16 pm16 cd16 ct16 : Value}
    {f17 : Addr} {od17 an17 : Option Addr} {sl17 : Array (Option Value)} {oc17 kV17 dc17 pm17 cd17 ct17 : Value}
    {f18 : Addr} {od18 an18 : Option Addr} {sl18 : Array (Option Value)} {oc18 kV18 dc18 pm18 cd18 ct18 : Value}
    {f19 : Addr} {od19 an19 : Option Addr} {sl19 : Array (Option Value)} {oc19 kV19 dc19 pm19 cd19 ct19 : Value}
    {f20 : Addr} {od20 an20 : Option Addr} {sl20 : Array (Option Value)} {oc20 kV20 dc20 pm20 cd20 ct20 : Value}
    {f21 : Addr} {od21 an21 : Option Addr} {sl21 : Array (Option Value)} {oc21 kV21 dc21 pm21 cd21 ct21 : Value}
    {f22 : Addr} {od22 an22 : Option Addr} {sl22 : Array (Option Value)} {oc22 kV22 dc22 pm22 cd22 ct22 : Value}
    {f23 : Addr} {od23 an23 : Option Addr} {sl23 : Array (Option Value)} {oc23 kV23 dc23 pm23 cd23 ct23 : Value}
    (a0 : PySem.W.nsIn K mainGlobals "is_int" = some (some (.ref f0))) (l0 : K.lookup f0 = some ⟨oc0, od0, .func (PySem.W.fnOf "is_int" "is_int" (defArgs s_is_int) (defBody s_is_int) (defScope s_is_int) .none kV0 dc0 pm0 an0 cd0 ct0), sl0⟩) (c0 : PySem.W.codeIn K cd0 "is_int" = true) (k0 : PySem.W.keepIn K (.ref f0) = true)
    (a1 : PySem.W.nsIn K mainGlobals "is_number" = some (some (.ref f1))) (l1 : K.lookup f1 = some ⟨oc1, od1, .func (PySem.W.fnOf "is_number" "is_number" (defArgs s_is_number) (defBody s_is_number) (defScope s_is_number) .none kV1 dc1 pm1 an1 cd1 ct1), sl1⟩) (c1 : PySem.W.codeIn K cd1 "is_number" = true) (k1 : PySem.W.keepIn K (.ref f1) = true)
    (a2 : PySem.W.nsIn K mainGlobals "is_tuple_of" = some (some (.ref f2))) (l2 : K.lookup f2 = some ⟨oc2, od2, .func (PySem.W.fnOf "is_tuple_of" "is_tuple_of" (defArgs s_is_tuple_of) (defBody s_is_tuple_of) (defScope s_is_tuple_of) .none kV2 dc2 pm2 an2 cd2 ct2), sl2⟩) (c2 : PySem.W.codeIn K cd2 "is_tuple_of" = true) (k2 : PySem.W.keepIn K (.ref f2) = true)
    (a3 : PySem.W.nsIn K mainGlobals "sublots" = some (some (.ref f3))) (l3 : K.lookup f3 = some ⟨oc3, od3, .func (PySem.W.fnOf "sublots" "sublots" (defArgs s_sublots) (defBody s_sublots) (defScope s_sublots) .none kV3 dc3 pm3 an3 cd3 ct3), sl3⟩) (c3 : PySem.W.codeIn K cd3 "sublots" = true) (k3 : PySem.W.keepIn K (.ref f3) = true)
    (a4 : PySem.W.nsIn K mainGlobals "number_fault" = some (some (.ref f4))) (l4 : K.lookup f4 = some ⟨oc4, od4, .func (PySem.W.fnOf "number_fault" "number_fault" (defArgs s_number_fault) (defBody s_number_fault) (defScope s_number_fault) .none kV4 dc4 pm4 an4 cd4 ct4), sl4⟩) (c4 : PySem.W.codeIn K cd4 "number_fault" = true) (k4 : PySem.W.keepIn K (.ref f4) = true)
    (a5 : PySem.W.nsIn K mainGlobals "is_trips" = some (some (.ref f5))) (l5 : K.lookup f5 = some ⟨oc5, od5, .func (PySem.W.fnOf "is_trips" "is_trips" (defArgs s_is_trips) (defBody s_is_trips) (defScope s_is_trips) .none kV5 dc5 pm5 an5 cd5 ct5), sl5⟩) (c5 : PySem.W.codeIn K cd5 "is_trips" = true) (k5 : PySem.W.keepIn K (.ref f5) = true)
    (a6 : PySem.W.nsIn K mainGlobals "need_trips" = some (some (.ref f6))) (l6 : K.lookup f6 = some ⟨oc6, od6, .func (PySem.W.fnOf "need_trips" "need_trips" (defArgs s_need_trips) (defBody s_need_trips) (defScope s_need_trips) .none kV6 dc6 pm6 an6 cd6 ct6), sl6⟩) (c6 : PySem.W.codeIn K cd6 "need_trips" = true) (k6 : PySem.W.keepIn K (.ref f6) = true)
    (a7 : PySem.W.nsIn K mainGlobals "_nearest" = some (some (.ref f7))) (l7 : K.lookup f7 = some ⟨oc7, od7, .func (PySem.W.fnOf "_nearest" "_nearest" (defArgs s__nearest) (defBody s__nearest) (defScope s__nearest) .none kV7 dc7 pm7 an7 cd7 ct7), sl7⟩) (c7 : PySem.W.codeIn K cd7 "_nearest" = true) (k7 : PySem.W.keepIn K (.ref f7) = true)
    (a8 : PySem.W.nsIn K mainGlobals "nearest_open" = some (some (.ref f8))) (l8 : K.lookup f8 = some ⟨oc8, od8, .func (PySem.W.fnOf "nearest_open" "nearest_open" (defArgs s_nearest_open) (defBody s_nearest_open) (defScope s_nearest_open) .none kV8 dc8 pm8 an8 cd8 ct8), sl8⟩) (c8 : PySem.W.codeIn K cd8 "nearest_open" = true) (k8 : PySem.W.keepIn K (.ref f8) = true)
    (a9 : PySem.W.nsIn K mainGlobals "all_in" = some (some (.ref f9))) (l9 : K.lookup f9 = some ⟨oc9, od9, .func (PySem.W.fnOf "all_in" "all_in" (defArgs s_all_in) (defBody s_all_in) (defScope s_all_in) .none kV9 dc9 pm9 an9 cd9 ct9), sl9⟩) (c9 : PySem.W.codeIn K cd9 "all_in" = true) (k9 : PySem.W.keepIn K (.ref f9) = true)
    (a10 : PySem.W.nsIn K mainGlobals "least_all_in" = some (some (.ref f10))) (l10 : K.lookup f10 = some ⟨oc10, od10, .func (PySem.W.fnOf "least_all_in" "least_all_in" (defArgs s_least_all_in) (defBody s_least_all_in) (defScope s_least_all_in) .none kV10 dc10 pm10 an10 cd10 ct10), sl10⟩) (c10 : PySem.W.codeIn K cd10 "least_all_in" = true) (k10 : PySem.W.keepIn K (.ref f10) = true)
    (a11 : PySem.W.nsIn K mainGlobals "_law_deal" = some (some (.ref f11))) (l11 : K.lookup f11 = some ⟨oc11, od11, .func (PySem.W.fnOf "_law_deal" "_law_deal" (defArgs s__law_deal) (defBody s__law_deal) (defScope s__law_deal) .none kV11 dc11 pm11 an11 cd11 ct11), sl11⟩) (c11 : PySem.W.codeIn K cd11 "_law_deal" = true) (k11 : PySem.W.keepIn K (.ref f11) = true)
    (a12 : PySem.W.nsIn K mainGlobals "_law_any" = some (some (.ref f12))) (l12 : K.lookup f12 = some ⟨oc12, od12, .func (PySem.W.fnOf "_law_any" "_law_any" (defArgs s__law_any) (defBody s__law_any) (defScope s__law_any) .none kV12 dc12 pm12 an12 cd12 ct12), sl12⟩) (c12 : PySem.W.codeIn K cd12 "_law_any" = true) (k12 : PySem.W.keepIn K (.ref f12) = true)
    (a13 : PySem.W.nsIn K mainGlobals "_law_of" = some (some (.ref f13))) (l13 : K.lookup f13 = some ⟨oc13, od13, .func (PySem.W.fnOf "_law_of" "_law_of" (defArgs s__law_of) (defBody s__law_of) (defScope s__law_of) .none kV13 dc13 pm13 an13 cd13 ct13), sl13⟩) (c13 : PySem.W.codeIn K cd13 "_law_of" = true) (k13 : PySem.W.keepIn K (.ref f13) = true)
    (a14 : PySem.W.nsIn K mainGlobals "_law_trips" = some (some (.ref f14))) (l14 : K.lookup f14 = some ⟨oc14, od14, .func (PySem.W.fnOf "_law_trips" "_law_trips" (defArgs s__law_trips) (defBody s__law_trips) (defScope s__law_trips) .none kV14 dc14 pm14 an14 cd14 ct14), sl14⟩) (c14 : PySem.W.codeIn K cd14 "_law_trips" = true) (k14 : PySem.W.keepIn K (.ref f14) = true)
    (a15 : PySem.W.nsIn K mainGlobals "_law_tree" = some (some (.ref f15))) (l15 : K.lookup f15 = some ⟨oc15, od15, .func (PySem.W.fnOf "_law_tree" "_law_tree" (defArgs s__law_tree) (defBody s__law_tree) (defScope s__law_tree) .none kV15 dc15 pm15 an15 cd15 ct15), sl15⟩) (c15 : PySem.W.codeIn K cd15 "_law_tree" = true) (k15 : PySem.W.keepIn K (.ref f15) = true)
    (a16 : PySem.W.nsIn K mainGlobals "_law_tree_trips" = some (some (.ref f16))) (l16 : K.lookup f16 = some ⟨oc16, od16, .func (PySem.W.fnOf "_law_tree_trips" "_law_tree_trips" (defArgs s__law_tree_trips) (defBody s__law_tree_trips) (defScope s__law_tree_trips) .none kV16 dc16 pm16 an16 cd16 ct16), sl16⟩) (c16 : PySem.W.codeIn K cd16 "_law_tree_trips" = true) (k16 : PySem.W.keepIn K (.ref f16) = true)
    (a17 : PySem.W.nsIn K mainGlobals "_law_lots" = some (some (.ref f17))) (l17 : K.lookup f17 = some ⟨oc17, od17, .func (PySem.W.fnOf "_law_lots" "_law_lots" (defArgs s__law_lots) (defBody s__law_lots) (defScope s__law_lots) .none kV17 dc17 pm17 an17 cd17 ct17), sl17⟩) (c17 : PySem.W.codeIn K cd17 "_law_lots" = true) (k17 : PySem.W.keepIn K (.ref f17) = true)
    (a18 : PySem.W.nsIn K mainGlobals "_law_all_in" = some (some (.ref f18))) (l18 : K.lookup f18 = some ⟨oc18, od18, .func (PySem.W.fnOf "_law_all_in" "_law_all_in" (defArgs s__law_all_in) (defBody s__law_all_in) (defScope s__law_all_in) .none kV18 dc18 pm18 an18 cd18 ct18), sl18⟩) (c18 : PySem.W.codeIn K cd18 "_law_all_in" = true) (k18 : PySem.W.keepIn K (.ref f18) = true)
    (a19 : PySem.W.nsIn K mainGlobals "_law_prices" = some (some (.ref f19))) (l19 : K.lookup f19 = some ⟨oc19, od19, .func (PySem.W.fnOf "_law_prices" "_law_prices" (defArgs s__law_prices) (defBody s__law_prices) (defScope s__law_prices) .none kV19 dc19 pm19 an19 cd19 ct19), sl19⟩) (c19 : PySem.W.codeIn K cd19 "_law_prices" = true) (k19 : PySem.W.keepIn K (.ref f19) = true)
    (a20 : PySem.W.nsIn K mainGlobals "_law_turned" = some (some (.ref f20))) (l20 : K.lookup f20 = some ⟨oc20, od20, .func (PySem.W.fnOf "_law_turned" "_law_turned" (defArgs s__law_turned) (defBody s__law_turned) (defScope s__law_turned) .none kV20 dc20 pm20 an20 cd20 ct20), sl20⟩) (c20 : PySem.W.codeIn K cd20 "_law_turned" = true) (k20 : PySem.W.keepIn K (.ref f20) = true)
    (a21 : PySem.W.nsIn K mainGlobals "_law_are_trips" = some (some (.ref f21))) (l21 : K.lookup f21 = some ⟨oc21, od21, .func (PySem.W.fnOf "_law_are_trips" "_law_are_trips" (defArgs s__law_are_trips) (defBody s__law_are_trips) (defScope s__law_are_trips) .none kV21 dc21 pm21 an21 cd21 ct21), sl21⟩) (c21 : PySem.W.codeIn K cd21 "_law_are_trips" = true) (k21 : PySem.W.keepIn K (.ref f21) = true)
    (a22 : PySem.W.nsIn K mainGlobals "_law_word" = some (some (.ref f22))) (l22 : K.lookup f22 = some ⟨oc22, od22, .func (PySem.W.fnOf "_law_word" "_law_word" (defArgs s__law_word) (defBody s__law_word) (defScope s__law_word) .none kV22 dc22 pm22 an22 cd22 ct22), sl22⟩) (c22 : PySem.W.codeIn K cd22 "_law_word" = true) (k22 : PySem.W.keepIn K (.ref f22) = true)
    (a23 : PySem.W.nsIn K mainGlobals "law" = some (some (.ref f23))) (l23 : K.lookup f23 = some ⟨oc23, od23, .func (PySem.W.fnOf "law" "law" (defArgs s_law) (defBody s_law) (defScope s_law) .none kV23 dc23 pm23 an23 cd23 ct23), sl23⟩) (c23 : PySem.W.codeIn K cd23 "law" = true) (k23 : PySem.W.keepIn K (.ref f23) = true)
    (z0 : PySem.W.nsIn K mainGlobals "abs" = some none)
    (z1 : PySem.W.nsIn K mainGlobals "all" = some none)
    (z2 : PySem.W.nsIn K mainGlobals "bool" = some none)
    (z3 : PySem.W.nsIn K mainGlobals "enumerate" = some none)
    (z4 : PySem.W.nsIn K mainGlobals "int" = some none)
    (z5 : PySem.W.nsIn K mainGlobals "isinstance" = some none)
    (z6 : PySem.W.nsIn K mainGlobals "len" = some none)
    (z7 : PySem.W.nsIn K mainGlobals "list" = some none)
    (z8 : PySem.W.nsIn K mainGlobals "min" = some none)
    (z9 : PySem.W.nsIn K mainGlobals "range" = some none)
    (z10 : PySem.W.nsIn K mainGlobals "repr" = some none)
    (z11 : PySem.W.nsIn K mainGlobals "sum" = some none)
    (z12 : PySem.W.nsIn K mainGlobals "tuple" = some none)
    (z13 : PySem.W.nsIn K mainGlobals "zip" = some none) :
    ∃ T : Txt K mg, mg "law" = some (.ref T.a_law) := by
  have F0 := fun_mk (st := s_is_int) l0 c0 k0
  have F1 := fun_mk (st := s_is_number) l1 c1 k1
  have F2 := fun_mk (st := s_is_tuple_of) l2 c2 k2
  have F3 := fun_mk (st := s_sublots) l3 c3 k3
  have F4 := fun_mk (st := s_number_fault) l4 c4 k4
  have F5 := fun_mk (st := s_is_trips) l5 c5 k5
  have F6 := fun_mk (st := s_need_trips) l6 c6 k6
  have F7 := fun_mk (st := s__nearest) l7 c7 k7
  have F8 := fun_mk (st := s_nearest_open) l8 c8 k8
  have F9 := fun_mk (st := s_all_in) l9 c9 k9
  have F10 := fun_mk (st := s_least_all_in) l10 c10 k10
  have F11 := fun_mk (st := s__law_deal) l11 c11 k11
  have F12 := fun_mk (st := s__law_any) l12 c12 k12
  have F13 := fun_mk (st := s__law_of) l13 c13 k13
  have F14 := fun_mk (st := s__law_trips) l14 c14 k14
  have F15 := fun_mk (st := s__law_tree) l15 c15 k15
  have F16 := fun_mk (st := s__law_tree_trips) l16 c16 k16
  have F17 := fun_mk (st := s__law_lots) l17 c17 k17
  have F18 := fun_mk (st := s__law_all_in) l18 c18 k18
  have F19 := fun_mk (st := s__law_prices) l19 c19 k19
  have F20 := fun_mk (st := s__law_turned) l20 c20 k20
  have F21 := fun_mk (st := s__law_are_trips) l21 c21 k21
  have F22 := fun_mk (st := s__law_word) l22 c22 k22
  have F23 := fun_mk (st := s_law) l23 c23 k23
  have kb9 : KBinds K _ ["trips", "prices", "opening"] ["opening", "prices", "trips"] (fun us ws => match us, ws with | [], [u0, u1, u2] => [u2, u1, u0] | _, _ => []) (fun us ws => match us, ws with | [], [u0, u1, u2] => [u2, u1, u0] | _, _ => []) := kb_of F9 (fun kV doc pm an cdv ct us ws hl => by
      rcases us with _ | ⟨u, us⟩
      · skip
        rcases ws with _ | ⟨w0, ws⟩
        · exact absurd (show (0 : Nat) = 3 from hl) (by decide)
        · skip
          rcases ws with _ | ⟨w1, ws⟩
          · exact absurd (show (0 : Nat) = 3 from hl) (by decide)
          · skip
            rcases ws with _ | ⟨w2, ws⟩
            · exact absurd (show (0 : Nat) = 3 from hl) (by decide)
            · skip
              rcases ws with _ | ⟨w3, ws⟩
              · rfl
              · exact absurd (show (0 : Nat) = 3 from hl) (by decide)
      · exact absurd (show (0 : Nat) = 3 from hl) (by decide)) (fun {vs us zs ws} h1 h2 => by
      cases h1 with
      | nil =>
        cases h2 with
        | nil => exact .nil
        | cons r0 h2 =>
          cases h2 with
          | nil => exact .nil
          | cons r1 h2 =>
            cases h2 with
            | nil => exact .nil
            | cons r2 h2 =>
              cases h2 with
              | nil => exact (.cons r2 (.cons r1 (.cons r0 .nil)))
              | cons _ _ => exact .nil
      | cons _ _ => exact .nil)
  have kb10 : KBinds K _ ["trips", "prices"] ["prices", "trips"] (fun us ws => match us, ws with | [], [u0, u1] => [u1, u0] | _, _ => []) (fun us ws => match us, ws with | [], [u0, u1] => [u1, u0] | _, _ => []) := kb_of F10 (fun kV doc pm an cdv ct us ws hl => by
      rcases us with _ | ⟨u, us⟩
      · skip
        rcases ws with _ | ⟨w0, ws⟩
        · exact absurd (show (0 : Nat) = 2 from hl) (by decide)
        · skip
          rcases ws with _ | ⟨w1, ws⟩
          · exact absurd (show (0 : Nat) = 2 from hl) (by decide)
          · skip
            rcases ws with _ | ⟨w2, ws⟩
            · rfl
            · exact absurd (show (0 : Nat) = 2 from hl) (by decide)
      · exact absurd (show (0 : Nat) = 2 from hl) (by decide)) (fun {vs us zs ws} h1 h2 => by
      cases h1 with
      | nil =>
        cases h2 with
        | nil => exact .nil
        | cons r0 h2 =>
          cases h2 with
          | nil => exact .nil
          | cons r1 h2 =>
            cases h2 with
            | nil => exact (.cons r1 (.cons r0 .nil))
            | cons _ _ => exact .nil
      | cons _ _ => exact .nil)
  have kb8 : KBinds K _ ["trips", "opening"] ["opening", "trips"] (fun us ws => match us, ws with | [], [u0, u1] => [u1, u0] | _, _ => []) (fun us ws => match us, ws with | [], [u0, u1] => [u1, u0] | _, _ => []) := kb_of F8 (fun kV doc pm an cdv ct us ws hl => by
      rcases us with _ | ⟨u, us⟩
      · skip
        rcases ws with _ | ⟨w0, ws⟩
        · exact absurd (show (0 : Nat) = 2 from hl) (by decide)
        · skip
          rcases ws with _ | ⟨w1, ws⟩
          · exact absurd (show (0 : Nat) = 2 from hl) (by decide)
          · skip
            rcases ws with _ | ⟨w2, ws⟩
            · rfl
            · exact absurd (show (0 : Nat) = 2 from hl) (by decide)
      · exact absurd (show (0 : Nat) = 2 from hl) (by decide)) (fun {vs us zs ws} h1 h2 => by
      cases h1 with
      | nil =>
        cases h2 with
        | nil => exact .nil
        | cons r0 h2 =>
          cases h2 with
          | nil => exact .nil
          | cons r1 h2 =>
            cases h2 with
            | nil => exact (.cons r1 (.cons r0 .nil))
            | cons _ _ => exact .nil
      | cons _ _ => exact .nil)
  have kb6 : KBinds K _ ["value"] ["value"] (fun us ws => match us, ws with | [], [u0] => [u0] | _, _ => []) (fun us ws => match us, ws with | [], [u0] => [u0] | _, _ => []) := kb_of F6 (fun kV doc pm an cdv ct us ws hl => by
      rcases us with _ | ⟨u, us⟩
      · skip
        rcases ws with _ | ⟨w0, ws⟩
        · exact absurd (show (0 : Nat) = 1 from hl) (by decide)
        · skip
          rcases ws with _ | ⟨w1, ws⟩
          · rfl
          · exact absurd (show (0 : Nat) = 1 from hl) (by decide)
      · exact absurd (show (0 : Nat) = 1 from hl) (by decide)) (fun {vs us zs ws} h1 h2 => by
      cases h1 with
      | nil =>
        cases h2 with
        | nil => exact .nil
        | cons r0 h2 =>
          cases h2 with
          | nil => exact (.cons r0 .nil)
          | cons _ _ => exact .nil
      | cons _ _ => exact .nil)
  exact ⟨{
    a_is_int := f0,
    d_is_int := _,
    f_is_int := F0,
    g_is_int := PySem.W.mg_of X G a0,
    b_is_int := (F0.binds (ps := ["value"]) fun _ _ _ _ _ _ us hl => match us, hl with | [_], _ => rfl),
    a_is_number := f1,
    d_is_number := _,
    f_is_number := F1,
    g_is_number := PySem.W.mg_of X G a1,
    b_is_number := (F1.binds (ps := ["value"]) fun _ _ _ _ _ _ us hl => match us, hl with | [_], _ => rfl),
    a_is_tuple_of := f2,
    d_is_tuple_of := _,
    f_is_tuple_of := F2,
    g_is_tuple_of := PySem.W.mg_of X G a2,
    b_is_tuple_of := (F2.binds (ps := ["value", "many"]) fun _ _ _ _ _ _ us hl => match us, hl with | [_, _], _ => rfl),
    a_sublots := f3,
    d_sublots := _,
    f_sublots := F3,
    g_sublots := PySem.W.mg_of X G a3,
    b_sublots := (F3.binds (ps := ["things"]) fun _ _ _ _ _ _ us hl => match us, hl with | [_], _ => rfl),
    a_number_fault := f4,
    d_number_fault := _,
    f_number_fault := F4,
    g_number_fault := PySem.W.mg_of X G a4,
    b_number_fault := (F4.binds (ps := ["things"]) fun _ _ _ _ _ _ us hl => match us, hl with | [_], _ => rfl),
    a_is_trips := f5,
    d_is_trips := _,
    f_is_trips := F5,
    g_is_trips := PySem.W.mg_of X G a5,
    b_is_trips := (F5.binds (ps := ["value"]) fun _ _ _ _ _ _ us hl => match us, hl with | [_], _ => rfl),
    a_need_trips := f6,
    d_need_trips := _,
    f_need_trips := F6,
    g_need_trips := PySem.W.mg_of X G a6,
    b_need_trips := (F6.binds (ps := ["value"]) fun _ _ _ _ _ _ us hl => match us, hl with | [_], _ => rfl),
    a__nearest := f7,
    d__nearest := _,
    f__nearest := F7,
    g__nearest := PySem.W.mg_of X G a7,
    b__nearest := (F7.binds (ps := ["row", "opening"]) fun _ _ _ _ _ _ us hl => match us, hl with | [_, _], _ => rfl),
    a_nearest_open := f8,
    d_nearest_open := _,
    f_nearest_open := F8,
    g_nearest_open := PySem.W.mg_of X G a8,
    b_nearest_open := (F8.binds (ps := ["trips", "opening"]) fun _ _ _ _ _ _ us hl => match us, hl with | [_, _], _ => rfl),
    a_all_in := f9,
    d_all_in := _,
    f_all_in := F9,
    g_all_in := PySem.W.mg_of X G a9,
    b_all_in := (F9.binds (ps := ["trips", "prices", "opening"]) fun _ _ _ _ _ _ us hl => match us, hl with | [_, _, _], _ => rfl),
    a_least_all_in := f10,
    d_least_all_in := _,
    f_least_all_in := F10,
    g_least_all_in := PySem.W.mg_of X G a10,
    b_least_all_in := (F10.binds (ps := ["trips", "prices"]) fun _ _ _ _ _ _ us hl => match us, hl with | [_, _], _ => rfl),
    a__law_deal := f11,
    d__law_deal := _,
    f__law_deal := F11,
    g__law_deal := PySem.W.mg_of X G a11,
    b__law_deal := (F11.binds (ps := ["script", "base"]) fun _ _ _ _ _ _ us hl => match us, hl with | [_, _], _ => rfl),
    a__law_any := f12,
    d__law_any := _,
    f__law_any := F12,
    g__law_any := PySem.W.mg_of X G a12,
    b__law_any := (F12.binds (ps := ["deal", "bound"]) fun _ _ _ _ _ _ us hl => match us, hl with | [_, _], _ => rfl),
    a__law_of := f13,
    d__law_of := _,
    f__law_of := F13,
    g__law_of := PySem.W.mg_of X G a13,
    b__law_of := (F13.binds (ps := ["deal", "some"]) fun _ _ _ _ _ _ us hl => match us, hl with | [_, _], _ => rfl),
    a__law_trips := f14,
    d__law_trips := _,
    f__law_trips := F14,
    g__law_trips := PySem.W.mg_of X G a14,
    b__law_trips := (F14.binds (ps := ["deal", "most"]) fun _ _ _ _ _ _ us hl => match us, hl with | [_, _], _ => rfl),
    a__law_tree := f15,
    d__law_tree := _,
    f__law_tree := F15,
    g__law_tree := PySem.W.mg_of X G a15,
    b__law_tree := (F15.binds (ps := ["deal", "most"]) fun _ _ _ _ _ _ us hl => match us, hl with | [_, _], _ => rfl),
    a__law_tree_trips := f16,
    d__law_tree_trips := _,
    f__law_tree_trips := F16,
    g__law_tree_trips := PySem.W.mg_of X G a16,
    b__law_tree_trips := (F16.binds (ps := ["deal", "most"]) fun _ _ _ _ _ _ us hl => match us, hl with | [_, _], _ => rfl),
    a__law_lots := f17,
    d__law_lots := _,
    f__law_lots := F17,
    g__law_lots := PySem.W.mg_of X G a17,
    b__law_lots := (F17.binds (ps := ["many"]) fun _ _ _ _ _ _ us hl => match us, hl with | [_], _ => rfl),
    a__law_all_in := f18,
    d__law_all_in := _,
    f__law_all_in := F18,
    g__law_all_in := PySem.W.mg_of X G a18,
    b__law_all_in := (F18.binds (ps := ["trips", "prices", "opening"]) fun _ _ _ _ _ _ us hl => match us, hl with | [_, _, _], _ => rfl),
    a__law_prices := f19,
    d__law_prices := _,
    f__law_prices := F19,
    g__law_prices := PySem.W.mg_of X G a19,
    b__law_prices := (F19.binds (ps := ["deal", "many"]) fun _ _ _ _ _ _ us hl => match us, hl with | [_, _], _ => rfl),
    a__law_turned := f20,
    d__law_turned := _,
    f__law_turned := F20,
    g__law_turned := PySem.W.mg_of X G a20,
    b__law_turned := (F20.binds (ps := ["deal", "trips"]) fun _ _ _ _ _ _ us hl => match us, hl with | [_, _], _ => rfl),
    a__law_are_trips := f21,
    d__law_are_trips := _,
    f__law_are_trips := F21,
    g__law_are_trips := PySem.W.mg_of X G a21,
    b__law_are_trips := (F21.binds (ps := ["value"]) fun _ _ _ _ _ _ us hl => match us, hl with | [_], _ => rfl),
    a__law_word := f22,
    d__law_word := _,
    f__law_word := F22,
    g__law_word := PySem.W.mg_of X G a22,
    b__law_word := (F22.binds (ps := ["value"]) fun _ _ _ _ _ _ us hl => match us, hl with | [_], _ => rfl),
    a_law := f23,
    d_law := _,
    f_law := F23,
    g_law := PySem.W.mg_of X G a23,
    b_law := (F23.binds (ps := ["script"]) fun _ _ _ _ _ _ us hl => match us, hl with | [_], _ => rfl),
    k_all_in_opening_prices_trips := kb9,
    k_least_all_in_prices_trips := kb10,
    k_nearest_open_opening_trips := kb8,
    k_need_trips_value := kb6,
    n_abs := PySem.W.mg_none_of X G z0,
    n_all := PySem.W.mg_none_of X G z1,
    n_bool := PySem.W.mg_none_of X G z2,
    n_enumerate := PySem.W.mg_none_of X G z3,
    n_int := PySem.W.mg_none_of X G z4,
    n_isinstance := PySem.W.mg_none_of X G z5,
    n_len := PySem.W.mg_none_of X G z6,
    n_list := PySem.W.mg_none_of X G z7,
    n_min := PySem.W.mg_none_of X G z8,
    n_range := PySem.W.mg_none_of X G z9,
    n_repr := PySem.W.mg_none_of X G z10,
    n_sum := PySem.W.mg_none_of X G z11,
    n_tuple := PySem.W.mg_none_of X G z12,
    n_zip := PySem.W.mg_none_of X G z13 }, PySem.W.mg_of X G a23⟩
theorem all_go {P : Program} {w : World} {fa a : Addr} {s₁ : Shared} {ns : List Int} {K : PySem.W.Frag} {h : Heap} {mg : Str → Option Value} (X : K.In h) (G : h.Ns mainGlobals mg) (hfa : mg "law" = some (.ref fa))
    {C fI Cs : Addr} {nm qq : Str} {Nn : Addr} {bs : List Value} {sn : List Str} {sub : List Value} {ab : Bool} {col : Option Bool} {dd : Option Addr} {m0 m1 m2 m3 m5 : Option Value} {odI anI : Option Addr} {slI : Array (Option Value)} {ocI dcI pmI cdI ctI : Value}
    (aC : PySem.W.nsIn K mainGlobals "InvalidSize" = some (some (.ref C)))
    (xL : K.lookup C = some (excClassObj nm qq C Nn bs [.ref Cs, .type "Exception", .type "BaseException", .type "object"] true sn sub ab col dd m0 m1 m2 m3 m5 "Exception.__new__"))
    (sa : PySem.W.findIn K (.ref C) "__setattr__" = some (some (.builtin "object.__setattr__"))) (ga : PySem.W.findIn K (.ref C) "__getattribute__" = some (some (.builtin "BaseException.__getattribute__"))) (gg : PySem.W.findIn K (.ref C) "__getattr__" = some none) (nb : PySem.W.findIn K (.ref C) "word" = some none)
    (iI : PySem.W.findIn K (.ref C) "__init__" = some (some (.ref fI))) (tI : PySem.W.typeIn K (.ref fI) = some (.type "function"))
    (lI : K.lookup fI = some ⟨ocI, odI, .func (PySem.W.fnOf "__init__" "InvalidSize.__init__" (PySem.LowX.iA ⟨6, 17, 6, 21⟩ ⟨6, 23, 6, 27⟩) (PySem.LowX.iB ⟨7, 8, 7, 12⟩ ⟨7, 8, 7, 17⟩ ⟨7, 20, 7, 24⟩ ⟨7, 8, 7, 24⟩) PySem.LowX.iS .none .none dcI pmI anI cdI ctI), slI⟩) (cI : PySem.W.codeIn K cdI "InvalidSize.__init__" = true)
    (kC : PySem.W.keepIn K (.ref C) = true) (eC : PySem.W.subIn K (.ref C) (.type "BaseException") = some true) (tC : PySem.W.typeIn K (.ref C) = some (.type "type")) (hC : PySem.W.hasDictIn K C = true) (iC : PySem.W.isClsIn K C = true) (sC : PySem.W.subIn K (.ref C) (.ref C) = some true)
    {f0 : Addr} {od0 an0 : Option Addr} {sl0 : Array (Option Value)} {oc0 kV0 dc0 pm0 cd0 ct0 : Value}
    {f1 : Addr} {od1 an1 : Option Addr} {sl1 : Array (Option Value)} {oc1 kV1 dc1 pm1 cd1 ct1 : Value}
    {f2 : Addr} {od2 an2 : Option Addr} {sl2 : Array (Option Value)} {oc2 kV2 dc2 pm2 cd2 ct2 : Value}
    {f3 : Addr} {od3 an3 : Option Addr} {sl3 : Array (Option Value)} {oc3 kV3 dc3 pm3 cd3 ct3 : Value}
    {f4 : Addr} {od4 an4 : Option Addr} {sl4 : Array (Option Value)} {oc4 kV4 dc4 pm4 cd4 ct4 : Value}
    {f5 : Addr} {od5 an5 : Option Addr} {sl5 : Array (Option Value)} {oc5 kV5 dc5 pm5 cd5 ct5 : Value}
    {f6 : Addr} {od6 an6 : Option Addr} {sl6 : Array (Option Value)} {oc6 kV6 dc6 pm6 cd6 ct6 : Value}
    {f7 : Addr} {od7 an7 : Option Addr} {sl7 : Array (Option Value)} {oc7 kV7 dc7 pm7 cd7 ct7 : Value}
    {f8 : Addr} {od8 an8 : Option Addr} {sl8 : Array (Option Value)} {oc8 kV8 dc8 pm8 cd8 ct8 : Value}
    {f9 : Addr} {od9 an9 : Option Addr} {sl9 : Array (Option Value)} {oc9 kV9 dc9 pm9 cd9 ct9 : Value}
    {f10 : Addr} {od10 an10 : Option Addr} {sl10 : Array (Option Value)} {oc10 kV10 dc10 pm10 cd10 ct10 : Value}
    {f11 : Addr} {od11 an11 : Option Addr} {sl11 : Array (Option Value)} {oc11 kV11 dc11 pm11 cd11 ct11 : Value}
    {f12 : Addr} {od12 an12 : Option Addr} {sl12 : Array (Option Value)} {oc12 kV12 dc12 pm12 cd12 ct12 : Value}
    {f13 : Addr} {od13 an13 : Option Addr} {sl13 : Array (Option Value)} {oc13 kV13 dc13 pm13 cd13 ct13 : Value}
    {f14 : Addr} {od14 an14 : Option Addr} {sl14 : Array (Option Value)} {oc14 kV14 dc14 pm14 cd14 ct14 : Value}
    {f15 : Addr} {od15 an15 : Option Addr} {sl15 : Array (Option Value)} {oc15 kV15 dc15 pm15 cd15 ct15 : Value}
    {f16 : Addr} {od16 an16 : Option Addr} {sl16 : Array (Option Value)} {oc16 kV16 dc16 pm16 cd16 ct16 : Value}
    {f17 : Addr} {od17 an17 : Option Addr} {sl17 : Array (Option Value)} {oc17 kV17 dc17 pm17 cd17 ct17 : Value}
    {f18 : Addr} {od18 an18 : Option Addr} {sl18 : Array (Option Value)} {oc18 kV18 dc18 pm18 cd18 ct18 : Value}
    {f19 : Addr} {od19 an19 : Option Addr} {sl19 : Array (Option Value)} {oc19 kV19 dc19 pm19 cd19 ct19 : Value}
    {f20 : Addr} {od20 an20 : Option Addr} {sl20 : Array (Option Value)} {oc20 kV20 dc20 pm20 cd20 ct20 : Value}
    {f21 : Addr} {od21 an21 : Option Addr} {sl21 : Array (Option Value)} {oc21 kV21 dc21 pm21 cd21 ct21 : Value}
    {f22 : Addr} {od22 an22 : Option Addr} {sl22 : Array (Option Value)} {oc22 kV22 dc22 pm22 cd22 ct22 : Value}
    {f23 : Addr} {od23 an23 : Option Addr} {sl23 : Array (Option Value)} {oc23 kV23 dc23 pm23 cd23 ct23 : Value}
    (a0 : PySem.W.nsIn K mainGlobals "is_int" = some (some (.ref f0))) (l0 : K.lookup f0 = some ⟨oc0, od0, .func (PySem.W.fnOf "is_int" "is_int" (defArgs s_is_int) (defBody s_is_int) (defScope s_is_int) .none kV0 dc0 pm0 an0 cd0 ct0), sl0⟩) (c0 : PySem.W.codeIn K cd0 "is_int" = true) (k0 : PySem.W.keepIn K (.ref f0) = true)
    (a1 : PySem.W.nsIn K mainGlobals "is_number" = some (some (.ref f1))) (l1 : K.lookup f1 = some ⟨oc1, od1, .func (PySem.W.fnOf "is_number" "is_number" (defArgs s_is_number) (defBody s_is_number) (defScope s_is_number) .none kV1 dc1 pm1 an1 cd1 ct1), sl1⟩) (c1 : PySem.W.codeIn K cd1 "is_number" = true) (k1 : PySem.W.keepIn K (.ref f1) = true)
    (a2 : PySem.W.nsIn K mainGlobals "is_tuple_of" = some (some (.ref f2))) (l2 : K.lookup f2 = some ⟨oc2, od2, .func (PySem.W.fnOf "is_tuple_of" "is_tuple_of" (defArgs s_is_tuple_of) (defBody s_is_tuple_of) (defScope s_is_tuple_of) .none kV2 dc2 pm2 an2 cd2 ct2), sl2⟩) (c2 : PySem.W.codeIn K cd2 "is_tuple_of" = true) (k2 : PySem.W.keepIn K (.ref f2) = true)
    (a3 : PySem.W.nsIn K mainGlobals "sublots" = some (some (.ref f3))) (l3 : K.lookup f3 = some ⟨oc3, od3, .func (PySem.W.fnOf "sublots" "sublots" (defArgs s_sublots) (defBody s_sublots) (defScope s_sublots) .none kV3 dc3 pm3 an3 cd3 ct3), sl3⟩) (c3 : PySem.W.codeIn K cd3 "sublots" = true) (k3 : PySem.W.keepIn K (.ref f3) = true)
    (a4 : PySem.W.nsIn K mainGlobals "number_fault" = some (some (.ref f4))) (l4 : K.lookup f4 = some ⟨oc4, od4, .func (PySem.W.fnOf "number_fault" "number_fault" (defArgs s_number_fault) (defBody s_number_fault) (defScope s_number_fault) .none kV4 dc4 pm4 an4 cd4 ct4), sl4⟩) (c4 : PySem.W.codeIn K cd4 "number_fault" = true) (k4 : PySem.W.keepIn K (.ref f4) = true)
    (a5 : PySem.W.nsIn K mainGlobals "is_trips" = some (some (.ref f5))) (l5 : K.lookup f5 = some ⟨oc5, od5, .func (PySem.W.fnOf "is_trips" "is_trips" (defArgs s_is_trips) (defBody s_is_trips) (defScope s_is_trips) .none kV5 dc5 pm5 an5 cd5 ct5), sl5⟩) (c5 : PySem.W.codeIn K cd5 "is_trips" = true) (k5 : PySem.W.keepIn K (.ref f5) = true)
    (a6 : PySem.W.nsIn K mainGlobals "need_trips" = some (some (.ref f6))) (l6 : K.lookup f6 = some ⟨oc6, od6, .func (PySem.W.fnOf "need_trips" "need_trips" (defArgs s_need_trips) (defBody s_need_trips) (defScope s_need_trips) .none kV6 dc6 pm6 an6 cd6 ct6), sl6⟩) (c6 : PySem.W.codeIn K cd6 "need_trips" = true) (k6 : PySem.W.keepIn K (.ref f6) = true)
    (a7 : PySem.W.nsIn K mainGlobals "_nearest" = some (some (.ref f7))) (l7 : K.lookup f7 = some ⟨oc7, od7, .func (PySem.W.fnOf "_nearest" "_nearest" (defArgs s__nearest) (defBody s__nearest) (defScope s__nearest) .none kV7 dc7 pm7 an7 cd7 ct7), sl7⟩) (c7 : PySem.W.codeIn K cd7 "_nearest" = true) (k7 : PySem.W.keepIn K (.ref f7) = true)
    (a8 : PySem.W.nsIn K mainGlobals "nearest_open" = some (some (.ref f8))) (l8 : K.lookup f8 = some ⟨oc8, od8, .func (PySem.W.fnOf "nearest_open" "nearest_open" (defArgs s_nearest_open) (defBody s_nearest_open) (defScope s_nearest_open) .none kV8 dc8 pm8 an8 cd8 ct8), sl8⟩) (c8 : PySem.W.codeIn K cd8 "nearest_open" = true) (k8 : PySem.W.keepIn K (.ref f8) = true)
    (a9 : PySem.W.nsIn K mainGlobals "all_in" = some (some (.ref f9))) (l9 : K.lookup f9 = some ⟨oc9, od9, .func (PySem.W.fnOf "all_in" "all_in" (defArgs s_all_in) (defBody s_all_in) (defScope s_all_in) .none kV9 dc9 pm9 an9 cd9 ct9), sl9⟩) (c9 : PySem.W.codeIn K cd9 "all_in" = true) (k9 : PySem.W.keepIn K (.ref f9) = true)
    (a10 : PySem.W.nsIn K mainGlobals "least_all_in" = some (some (.ref f10))) (l10 : K.lookup f10 = some ⟨oc10, od10, .func (PySem.W.fnOf "least_all_in" "least_all_in" (defArgs s_least_all_in) (defBody s_least_all_in) (defScope s_least_all_in) .none kV10 dc10 pm10 an10 cd10 ct10), sl10⟩) (c10 : PySem.W.codeIn K cd10 "least_all_in" = true) (k10 : PySem.W.keepIn K (.ref f10) = true)
    (a11 : PySem.W.nsIn K mainGlobals "_law_deal" = some (some (.ref f11))) (l11 : K.lookup f11 = some ⟨oc11, od11, .func (PySem.W.fnOf "_law_deal" "_law_deal" (defArgs s__law_deal) (defBody s__law_deal) (defScope s__law_deal) .none kV11 dc11 pm11 an11 cd11 ct11), sl11⟩) (c11 : PySem.W.codeIn K cd11 "_law_deal" = true) (k11 : PySem.W.keepIn K (.ref f11) = true)
    (a12 : PySem.W.nsIn K mainGlobals "_law_any" = some (some (.ref f12))) (l12 : K.lookup f12 = some ⟨oc12, od12, .func (PySem.W.fnOf "_law_any" "_law_any" (defArgs s__law_any) (defBody s__law_any) (defScope s__law_any) .none kV12 dc12 pm12 an12 cd12 ct12), sl12⟩) (c12 : PySem.W.codeIn K cd12 "_law_any" = true) (k12 : PySem.W.keepIn K (.ref f12) = true)
    (a13 : PySem.W.nsIn K mainGlobals "_law_of" = some (some (.ref f13))) (l13 : K.lookup f13 = some ⟨oc13, od13, .func (PySem.W.fnOf "_law_of" "_law_of" (defArgs s__law_of) (defBody s__law_of) (defScope s__law_of) .none kV13 dc13 pm13 an13 cd13 ct13), sl13⟩) (c13 : PySem.W.codeIn K cd13 "_law_of" = true) (k13 : PySem.W.keepIn K (.ref f13) = true)
    (a14 : PySem.W.nsIn K mainGlobals "_law_trips" = some (some (.ref f14))) (l14 : K.lookup f14 = some ⟨oc14, od14, .func (PySem.W.fnOf "_law_trips" "_law_trips" (defArgs s__law_trips) (defBody s__law_trips) (defScope s__law_trips) .none kV14 dc14 pm14 an14 cd14 ct14), sl14⟩) (c14 : PySem.W.codeIn K cd14 "_law_trips" = true) (k14 : PySem.W.keepIn K (.ref f14) = true)
    (a15 : PySem.W.nsIn K mainGlobals "_law_tree" = some (some (.ref f15))) (l15 : K.lookup f15 = some ⟨oc15, od15, .func (PySem.W.fnOf "_law_tree" "_law_tree" (defArgs s__law_tree) (defBody s__law_tree) (defScope s__law_tree) .none kV15 dc15 pm15 an15 cd15 ct15), sl15⟩) (c15 : PySem.W.codeIn K cd15 "_law_tree" = true) (k15 : PySem.W.keepIn K (.ref f15) = true)
    (a16 : PySem.W.nsIn K mainGlobals "_law_tree_trips" = some (some (.ref f16))) (l16 : K.lookup f16 = some ⟨oc16, od16, .func (PySem.W.fnOf "_law_tree_trips" "_law_tree_trips" (defArgs s__law_tree_trips) (defBody s__law_tree_trips) (defScope s__law_tree_trips) .none kV16 dc16 pm16 an16 cd16 ct16), sl16⟩) (c16 : PySem.W.codeIn K cd16 "_law_tree_trips" = true) (k16 : PySem.W.keepIn K (.ref f16) = true)
    (a17 : PySem.W.nsIn K mainGlobals "_law_lots" = some (some (.ref f17))) (l17 : K.lookup f17 = some ⟨oc17, od17, .func (PySem.W.fnOf "_law_lots" "_law_lots" (defArgs s__law_lots) (defBody s__law_lots) (defScope s__law_lots) .none kV17 dc17 pm17 an17 cd17 ct17), sl17⟩) (c17 : PySem.W.codeIn K cd17 "_law_lots" = true) (k17 : PySem.W.keepIn K (.ref f17) = true)
    (a18 : PySem.W.nsIn K mainGlobals "_law_all_in" = some (some (.ref f18))) (l18 : K.lookup f18 = some ⟨oc18, od18, .func (PySem.W.fnOf "_law_all_in" "_law_all_in" (defArgs s__law_all_in) (defBody s__law_all_in) (defScope s__law_all_in) .none kV18 dc18 pm18 an18 cd18 ct18), sl18⟩) (c18 : PySem.W.codeIn K cd18 "_law_all_in" = true) (k18 : PySem.W.keepIn K (.ref f18) = true)
    (a19 : PySem.W.nsIn K mainGlobals "_law_prices" = some (some (.ref f19))) (l19 : K.lookup f19 = some ⟨oc19, od19, .func (PySem.W.fnOf "_law_prices" "_law_prices" (defArgs s__law_prices) (defBody s__law_prices) (defScope s__law_prices) .none kV19 dc19 pm19 an19 cd19 ct19), sl19⟩) (c19 : PySem.W.codeIn K cd19 "_law_prices" = true) (k19 : PySem.W.keepIn K (.ref f19) = true)
    (a20 : PySem.W.nsIn K mainGlobals "_law_turned" = some (some (.ref f20))) (l20 : K.lookup f20 = some ⟨oc20, od20, .func (PySem.W.fnOf "_law_turned" "_law_turned" (defArgs s__law_turned) (defBody s__law_turned) (defScope s__law_turned) .none kV20 dc20 pm20 an20 cd20 ct20), sl20⟩) (c20 : PySem.W.codeIn K cd20 "_law_turned" = true) (k20 : PySem.W.keepIn K (.ref f20) = true)
    (a21 : PySem.W.nsIn K mainGlobals "_law_are_trips" = some (some (.ref f21))) (l21 : K.lookup f21 = some ⟨oc21, od21, .func (PySem.W.fnOf "_law_are_trips" "_law_are_trips" (defArgs s__law_are_trips) (defBody s__law_are_trips) (defScope s__law_are_trips) .none kV21 dc21 pm21 an21 cd21 ct21), sl21⟩) (c21 : PySem.W.codeIn K cd21 "_law_are_trips" = true) (k21 : PySem.W.keepIn K (.ref f21) = true)
    (a22 : PySem.W.nsIn K mainGlobals "_law_word" = some (some (.ref f22))) (l22 : K.lookup f22 = some ⟨oc22, od22, .func (PySem.W.fnOf "_law_word" "_law_word" (defArgs s__law_word) (defBody s__law_word) (defScope s__law_word) .none kV22 dc22 pm22 an22 cd22 ct22), sl22⟩) (c22 : PySem.W.codeIn K cd22 "_law_word" = true) (k22 : PySem.W.keepIn K (.ref f22) = true)
    (a23 : PySem.W.nsIn K mainGlobals "law" = some (some (.ref f23))) (l23 : K.lookup f23 = some ⟨oc23, od23, .func (PySem.W.fnOf "law" "law" (defArgs s_law) (defBody s_law) (defScope s_law) .none kV23 dc23 pm23 an23 cd23 ct23), sl23⟩) (c23 : PySem.W.codeIn K cd23 "law" = true) (k23 : PySem.W.keepIn K (.ref f23) = true)
    (z0 : PySem.W.nsIn K mainGlobals "abs" = some none)
    (z1 : PySem.W.nsIn K mainGlobals "all" = some none)
    (z2 : PySem.W.nsIn K mainGlobals "bool" = some none)
    (z3 : PySem.W.nsIn K mainGlobals "enumerate" = some none)
    (z4 : PySem.W.nsIn K mainGlobals "int" = some none)
    (z5 : PySem.W.nsIn K mainGlobals "isinstance" = some none)
    (z6 : PySem.W.nsIn K mainGlobals "len" = some none)
    (z7 : PySem.W.nsIn K mainGlobals "list" = some none)
    (z8 : PySem.W.nsIn K mainGlobals "min" = some none)
    (z9 : PySem.W.nsIn K mainGlobals "range" = some none)
    (z10 : PySem.W.nsIn K mainGlobals "repr" = some none)
    (z11 : PySem.W.nsIn K mainGlobals "sum" = some none)
    (z12 : PySem.W.nsIn K mainGlobals "tuple" = some none)
    (z13 : PySem.W.nsIn K mainGlobals "zip" = some none) : Runs P w K mg fa a s₁ ns := by
  obtain ⟨T, hT⟩ := txt_mk X G a0 l0 c0 k0 a1 l1 c1 k1 a2 l2 c2 k2 a3 l3 c3 k3 a4 l4 c4 k4 a5 l5 c5 k5 a6 l6 c6 k6 a7 l7 c7 k7 a8 l8 c8 k8 a9 l9 c9 k9 a10 l10 c10 k10 a11 l11 c11 k11 a12 l12 c12 k12 a13 l13 c13 k13 a14 l14 c14 k14 a15 l15 c15 k15 a16 l16 c16 k16 a17 l17 c17 k17 a18 l18 c18 k18 a19 l19 c19 k19 a20 l20 c20 k20 a21 l21 c21 k21 a22 l22 c22 k22 a23 l23 c23 k23 z0 z1 z2 z3 z4 z5 z6 z7 z8 z9 z10 z11 z12 z13
  cases hfa.symm.trans hT
  have L : PySem.LowX.LowTxt K mg C fI :=
    { gC := PySem.W.mg_of X G aC, cls := ⟨nm, qq, Nn, bs, _, sn, sub, ab, col, dd, m0, m1, m2, m3, m5, xL, by rfl⟩, sa := sa, ga := ga, gg := gg, noN := nb, iC := iI, tC := tI, kC := kC, exC := eC, tyC := tC, hdC := hC, te := exm_own eC iC tC sC, fn := ⟨_, _, _, _, _, _, _, _, _, _, _, _, _, _, lI, cI⟩ }
  exact runs_law T L
end K58

open PySem PySem.W PyProof.Rows
set_option maxRecDepth 100000 in
set_option maxHeartbeats 0 in
theorem PySem.Challenge.cw_servedall_k58_trips_and_all_in_prices_holds : PySem.Challenge.rw_servedall_k58_trips_and_all_in_prices.Holds := by
  w_on; o_law; k_head; (case hw => w_witness2)
  k_fill
  refine Fx.walk_go (l := PySem.Challenge.rw_servedall_k58_trips_and_all_in_prices) (n := 63) rfl (by decide) rfl (fun w h Y => PySem.W.kIn_of Y) ?go
  case go =>
    intro w mg fa a s₁ ns hlen KX G hmg
    refine' K58.all_go KX G hmg ?aC ?xL ?sa ?ga ?gg ?nb ?iI ?tI ?lI ?cI ?kC ?eC ?tC ?hC ?iC ?sC ?a0 ?l0 ?c0 ?k0 ?a1 ?l1 ?c1 ?k1 ?a2 ?l2 ?c2 ?k2 ?a3 ?l3 ?c3 ?k3 ?a4 ?l4 ?c4 ?k4 ?a5 ?l5 ?c5 ?k5 ?a6 ?l6 ?c6 ?k6 ?a7 ?l7 ?c7 ?k7 ?a8 ?l8 ?c8 ?k8 ?a9 ?l9 ?c9 ?k9 ?a10 ?l10 ?c10 ?k10 ?a11 ?l11 ?c11 ?k11 ?a12 ?l12 ?c12 ?k12 ?a13 ?l13 ?c13 ?k13 ?a14 ?l14 ?c14 ?k14 ?a15 ?l15 ?c15 ?k15 ?a16 ?l16 ?c16 ?k16 ?a17 ?l17 ?c17 ?k17 ?a18 ?l18 ?c18 ?k18 ?a19 ?l19 ?c19 ?k19 ?a20 ?l20 ?c20 ?k20 ?a21 ?l21 ?c21 ?k21 ?a22 ?l22 ?c22 ?k22 ?a23 ?l23 ?c23 ?k23 ?z0 ?z1 ?z2 ?z3 ?z4 ?z5 ?z6 ?z7 ?z8 ?z9 ?z10 ?z11 ?z12 ?z13
    (case aC => k_is)
    (case xL => k_is)
    (case sa => k_is)
    (case ga => k_is)
    (case gg => k_is)
    (case nb => k_is)
    (case iI => k_is)
    (case tI => k_is)
    (case lI => k_is)
    (case cI => k_is)
    (case kC => k_is)
    (case eC => k_is)
    (case tC => k_is)
    (case hC => k_is)
    (case iC => k_is)
    (case sC => first | rfl | k_is)
    (case a0 => k_is)
    (case l0 => k_is)
    (case c0 => k_is)
    (case k0 => k_is)
    (case a1 => k_is)
    (case l1 => k_is)
    (case c1 => k_is)
    (case k1 => k_is)
    (case a2 => k_is)
    (case l2 => k_is)
    (case c2 => k_is)
    (case k2 => k_is)
    (case a3 => k_is)
    (case l3 => k_is)
    (case c3 => k_is)
    (case k3 => k_is)
    (case a4 => k_is)
    (case l4 => k_is)
    (case c4 => k_is)
    (case k4 => k_is)
    (case a5 => k_is)
    (case l5 => k_is)
    (case c5 => k_is)
    (case k5 => k_is)
    (case a6 => k_is)
    (case l6 => k_is)
    (case c6 => k_is)
    (case k6 => k_is)
    (case a7 => k_is)
    (case l7 => k_is)
    (case c7 => k_is)
    (case k7 => k_is)
    (case a8 => k_is)
    (case l8 => k_is)
    (case c8 => k_is)
    (case k8 => k_is)
    (case a9 => k_is)
    (case l9 => k_is)
    (case c9 => k_is)
    (case k9 => k_is)
    (case a10 => k_is)
    (case l10 => k_is)
    (case c10 => k_is)
    (case k10 => k_is)
    (case a11 => k_is)
    (case l11 => k_is)
    (case c11 => k_is)
    (case k11 => k_is)
    (case a12 => k_is)
    (case l12 => k_is)
    (case c12 => k_is)
    (case k12 => k_is)
    (case a13 => k_is)
    (case l13 => k_is)
    (case c13 => k_is)
    (case k13 => k_is)
    (case a14 => k_is)
    (case l14 => k_is)
    (case c14 => k_is)
    (case k14 => k_is)
    (case a15 => k_is)
    (case l15 => k_is)
    (case c15 => k_is)
    (case k15 => k_is)
    (case a16 => k_is)
    (case l16 => k_is)
    (case c16 => k_is)
    (case k16 => k_is)
    (case a17 => k_is)
    (case l17 => k_is)
    (case c17 => k_is)
    (case k17 => k_is)
    (case a18 => k_is)
    (case l18 => k_is)
    (case c18 => k_is)
    (case k18 => k_is)
    (case a19 => k_is)
    (case l19 => k_is)
    (case c19 => k_is)
    (case k19 => k_is)
    (case a20 => k_is)
    (case l20 => k_is)
    (case c20 => k_is)
    (case k20 => k_is)
    (case a21 => k_is)
    (case l21 => k_is)
    (case c21 => k_is)
    (case k21 => k_is)
    (case a22 => k_is)
    (case l22 => k_is)
    (case c22 => k_is)
    (case k22 => k_is)
    (case a23 => k_is)
    (case l23 => k_is)
    (case c23 => k_is)
    (case k23 => k_is)
    (case z0 => k_is)
    (case z1 => k_is)
    (case z2 => k_is)
    (case z3 => k_is)
    (case z4 => k_is)
    (case z5 => k_is)
    (case z6 => k_is)
    (case z7 => k_is)
    (case z8 => k_is)
    (case z9 => k_is)
    (case z10 => k_is)
    (case z11 => k_is)
    (case z12 => k_is)
    (case z13 => k_is)

