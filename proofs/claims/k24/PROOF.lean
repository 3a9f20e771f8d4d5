import PyProof.Rows.All
import Wide.All
import OpenK.AllK
import Wide.FinOn
import HandS.Base
import HandS.Call
import HandS.List
import HandS.Comp
import HandS.Ends
import HandS.Iter
import HandS.Words
import HandS.WordsList
import HandS.TupAny
import HandS.Walk
import HandS.Zip
import HandS.Flow
import HandS.Star
import HandS.IsInst
import HandS.Wide
import HandS.Style
import KE.GoesMore
import KE.GoesEnum
import PyProof.ReprRoads
import PyProof.CallFns
import HandS.ExcOwn
import HandS.WordsExc
import HandS.EndBits
import HandS.SetFor
import HandS.Strs
import KE.KRevSl
import KE.KTupSum
import HandS.Gcd
import PyProof.PureInt
import PyProof.NoPylong
import HandS.ExcIs
import HandS.More
import KE.SortData
import KE.GoesZip
import HandS.Conv
import HandS.DictComp
import HandS.DictTup
import KE.DataEq
import HandS.TryOnly
import PySem.Challenge.RW_servedall_k24_whole_payments_are_never_a
set_option Elab.async false
set_option linter.all false
set_option maxRecDepth 100000
set_option maxHeartbeats 8000000
namespace Fx
open PySem PySem.Spec PyProof.Rows L2

/-! ### heaps that grow -/
def Ex (H H' : Hp) : Prop := ∀ a o, H a = some o → H' a = some o
theorem Ex.refl (H : Hp) : Ex H H := fun _ _ h => h
theorem Ex.trans {H H1 H2 : Hp} (a : Ex H H1) (b : Ex H1 H2) : Ex H H2 := fun x o h => b x o (a x o h)
theorem Ex.new {H : Hp} {p : Addr} {o : HO} (h : H p = none) : Ex H (upd H p o) := fun a u e => by
  rw [upd_ne (ne_of_none e h)]
  exact e
theorem Ex.both {F H : Hp} {p : Addr} {o : HO} (e : Ex F H) : Ex (upd F p o) (upd H p o) := fun a u ha => by
  by_cases h : a = p
  · subst h; rw [upd_same] at ha ⊢; exact ha
  · rw [upd_ne h] at ha ⊢; exact e a u ha
theorem Ex.side {F H : Hp} {p : Addr} {o : HO} (e : Ex F H) (h : F p = none) : Ex F (upd H p o) := fun a u ha => by
  rw [upd_ne (ne_of_none ha h)]
  exact e a u ha
theorem ex_rd {H H' : Hp} {a : Addr} {u : HO} (e : Ex H H') (h : Rd H a u) : Rd H' a u := by
  rcases h with h | ⟨o, h⟩
  · exact Or.inl (e a _ h)
  · exact Or.inr ⟨o, e a _ h⟩
theorem ex_l {K : PySem.W.Frag} {H H' : Hp} {a : Addr} {xs : List V} (e : Ex H H') (h : SqL K H a xs) : SqL K H' a xs := by
  rcases h with h | h
  · exact Or.inl (ex_rd e h)
  · exact Or.inr h
theorem ex_t {K : PySem.W.Frag} {H H' : Hp} {a : Addr} {xs : List V} (e : Ex H H') (h : SqT K H a xs) : SqT K H' a xs := by
  rcases h with h | h
  · exact Or.inl (ex_rd e h)
  · exact Or.inr h
theorem fresh_back {H H' : Hp} {p : Addr} (e : Ex H H') (h : H' p = none) : H p = none := by
  cases h1 : H p with
  | none => rfl
  | some o => rw [e p o h1] at h; cases h

/-! ### data -/
mutual
inductive Dt (K : PySem.W.Frag) (F : Hp) : V → PyData → Prop
  | non : Dt K F .non .none
  | bl (b : Bool) : Dt K F (.bl b) (.bool b)
  | int (i : Int) : Dt K F (.int i) (.int i)
  | str (x : Str) : Dt K F (.str x) (.str x)
  | lst {a : Addr} {xs : List V} {ds : List PyData} : F a = some (.lst xs) → Dts K F xs ds → Dt K F (.ref a) (.list ds)
  | tup {a : Addr} {xs : List V} {ds : List PyData} : SqT K F a xs → Dts K F xs ds → Dt K F (.ref a) (.tuple ds)
inductive Dts (K : PySem.W.Frag) (F : Hp) : List V → List PyData → Prop
  | nil : Dts K F [] []
  | cons {v : V} {vs : List V} {d : PyData} {ds : List PyData} : Dt K F v d → Dts K F vs ds → Dts K F (v :: vs) (d :: ds)
end
section
variable {K : PySem.W.Frag} {F F' : Hp}
mutual
theorem Dt.mono (e : Ex F F') : ∀ (d : PyData) {v : V}, Dt K F v d → Dt K F' v d
  | .none, _, h => by cases h; exact .non
  | .bool b, _, h => by cases h; exact .bl b
  | .int i, _, h => by cases h; exact .int i
  | .str x, _, h => by cases h; exact .str x
  | .list ds, _, h => by
    cases h with
    | lst h1 h2 => exact .lst (e _ _ h1) (Dts.mono e ds h2)
  | .tuple ds, _, h => by
    cases h with
    | tup h1 h2 => exact .tup (ex_t e h1) (Dts.mono e ds h2)
  | .dict _, _, h => by cases h
theorem Dts.mono (e : Ex F F') : ∀ (ds : List PyData) {vs : List V}, Dts K F vs ds → Dts K F' vs ds
  | [], _, h => by cases h; exact .nil
  | d :: ds, _, h => by
    cases h with
    | cons h1 h2 => exact .cons (Dt.mono e d h1) (Dts.mono e ds h2)
end
mutual
theorem Dt.dp : ∀ (d : PyData) {v : V}, Dt K F v d → Dp K F v d
  | .none, _, h => by cases h; exact .non
  | .bool b, _, h => by cases h; exact .bl b
  | .int i, _, h => by cases h; exact .int i
  | .str x, _, h => by cases h; exact .str x
  | .list ds, _, h => by
    cases h with
    | lst h1 h2 => exact .lst (.inl (.inl h1)) (Dts.dp ds h2)
  | .tuple ds, _, h => by
    cases h with
    | tup h1 h2 => exact .tup h1 (Dts.dp ds h2)
  | .dict _, _, h => by cases h
theorem Dts.dp : ∀ (ds : List PyData) {vs : List V}, Dts K F vs ds → DpAll K F vs ds
  | [], _, h => by cases h; exact .nil
  | d :: ds, _, h => by
    cases h with
    | cons h1 h2 => exact .cons (Dt.dp d h1) (Dts.dp ds h2)
end
theorem Dts.len : ∀ {vs : List V} {ds : List PyData}, Dts K F vs ds → vs.length = ds.length
  | _, _, .nil => rfl
  | _, _, .cons _ h => by rw [List.length_cons, List.length_cons, h.len]
theorem Dts.get : ∀ {vs : List V} {ds : List PyData} {i : Nat} {d : PyData}, Dts K F vs ds → ds[i]? = some d → ∃ v, vs[i]? = some v ∧ Dt K F v d
  | _, _, _, _, .nil, e => by simp at e
  | _, _, 0, _, .cons h _, e => by simp at e; subst e; exact ⟨_, rfl, h⟩
  | _, _, i + 1, d, .cons _ h, e => by
    obtain ⟨v, h1, h2⟩ := h.get (i := i) (d := d) (by simpa using e)
    exact ⟨v, by simpa using h1, h2⟩
theorem Dts.append : ∀ {vs ws : List V} {ds es : List PyData}, Dts K F vs ds → Dts K F ws es → Dts K F (vs ++ ws) (ds ++ es)
  | _, _, _, _, .nil, h => h
  | _, _, _, _, .cons a b, h => .cons a (b.append h)
theorem Dts.take : ∀ {vs : List V} {ds : List PyData} (n : Nat), Dts K F vs ds → Dts K F (vs.take n) (ds.take n)
  | _, _, 0, _ => .nil
  | _, _, _ + 1, .nil => .nil
  | _, _, n + 1, .cons a b => .cons a (b.take n)
theorem Dts.drop : ∀ {vs : List V} {ds : List PyData} (n : Nat), Dts K F vs ds → Dts K F (vs.drop n) (ds.drop n)
  | _, _, 0, h => h
  | _, _, _ + 1, .nil => .nil
  | _, _, n + 1, .cons _ b => b.drop n
theorem Dts.ints {vs : List V} {ns : List Int} (h : Dts K F vs (ns.map .int)) : vs = ns.map V.int := by
  induction ns generalizing vs with
  | nil => cases h; rfl
  | cons n r ih =>
    cases h with
    | cons a b => cases a; rw [ih b]; rfl
theorem Dts.of_ints (ns : List Int) : Dts K F (ns.map V.int) (ns.map .int) := by
  induction ns with
  | nil => exact .nil
  | cons n r ih => exact .cons (.int n) ih
theorem Dts.bools {vs : List V} {ns : List Bool} (h : Dts K F vs (ns.map .bool)) : vs = ns.map V.bl := by
  induction ns generalizing vs with
  | nil => cases h; rfl
  | cons n r ih =>
    cases h with
    | cons a b => cases a; rw [ih b]; rfl
end

/-! ### entities: data, an owned object, unknown, or of which something is known that stays -/
structure PR where
  φ : PySem.W.Frag → Hp → V → Prop
  mono : ∀ {K : PySem.W.Frag} {F F' : Hp} {v : V}, Ex F F' → φ K F v → φ K F' v
inductive En where
  | d (x : PyData) | o (a : Addr) | v (w : V) | u | s (ds : List PyData) | ob (C : Addr) (fs : List (Str × PyData)) | g (p : PR)
/-- a list that is only read -/
def Seen (K : PySem.W.Frag) (F : Hp) (v : V) (ds : List PyData) : Prop := ∃ a vs, v = .ref a ∧ SqL K F a vs ∧ Dts K F vs ds
/-- fields -/
inductive Flds (K : PySem.W.Frag) (F : Hp) : List (Str × V) → List (Str × PyData) → Prop
  | nil : Flds K F [] []
  | cons {f : Str} {v : V} {d : PyData} {vs : List (Str × V)} {fs : List (Str × PyData)} : Dt K F v d → Flds K F vs fs → Flds K F ((f, v) :: vs) ((f, d) :: fs)
theorem Flds.mono {K : PySem.W.Frag} {F F' : Hp} (x : Ex F F') : ∀ {vs : List (Str × V)} {fs : List (Str × PyData)}, Flds K F vs fs → Flds K F' vs fs
  | _, _, .nil => .nil
  | _, _, .cons a b => .cons (Dt.mono x _ a) (b.mono x)
/-- an instance that never changes any more -/
def Inst (K : PySem.W.Frag) (F : Hp) (v : V) (C : Addr) (fs : List (Str × PyData)) : Prop := ∃ a dx vs, v = .ref a ∧ F a = some (.ins C dx vs) ∧ Flds K F vs fs
theorem Inst.mono {K : PySem.W.Frag} {F F' : Hp} {v : V} {C : Addr} {fs : List (Str × PyData)} (x : Ex F F') (h : Inst K F v C fs) : Inst K F' v C fs := by
  obtain ⟨a, dx, vs, e, h1, h2⟩ := h
  exact ⟨a, dx, vs, e, x _ _ h1, h2.mono x⟩
theorem Seen.mono {K : PySem.W.Frag} {F F' : Hp} {v : V} {ds : List PyData} (x : Ex F F') (h : Seen K F v ds) : Seen K F' v ds := by
  obtain ⟨a, vs, e, h1, h2⟩ := h
  exact ⟨a, vs, e, ex_l x h1, Dts.mono x ds h2⟩
def EnOk (K : PySem.W.Frag) (F : Hp) (v : V) : En → Prop
  | .d x => Dt K F v x
  | .o a => v = .ref a
  | .v w => v = w
  | .u => True
  | .s ds => Seen K F v ds
  | .ob C fs => Inst K F v C fs
  | .g p => p.φ K F v
theorem EnOk.mono {K : PySem.W.Frag} {F F' : Hp} {v : V} {e : En} (x : Ex F F') (h : EnOk K F v e) : EnOk K F' v e := by
  cases e with
  | d y => exact Dt.mono x y h
  | o a => exact h
  | v w => exact h
  | u => trivial
  | s ds => exact Seen.mono x h
  | ob C fs => exact Inst.mono x h
  | g p => exact p.mono x h
def SlOk (K : PySem.W.Frag) (F : Hp) (s : Option V) : En → Prop
  | .d x => ∃ v, s = some v ∧ Dt K F v x
  | .o a => s = some (.ref a)
  | .v w => s = some w
  | .u => True
  | .s ds => ∃ v, s = some v ∧ Seen K F v ds
  | .ob C fs => ∃ v, s = some v ∧ Inst K F v C fs
  | .g p => ∃ v, s = some v ∧ p.φ K F v
theorem SlOk.mono {K : PySem.W.Frag} {F F' : Hp} {s : Option V} {e : En} (x : Ex F F') (h : SlOk K F s e) : SlOk K F' s e := by
  cases e with
  | d y => obtain ⟨v, h1, h2⟩ := h; exact ⟨v, h1, Dt.mono x y h2⟩
  | o a => exact h
  | v w => exact h
  | u => trivial
  | s ds => obtain ⟨v, h1, h2⟩ := h; exact ⟨v, h1, Seen.mono x h2⟩
  | ob C fs => obtain ⟨v, h1, h2⟩ := h; exact ⟨v, h1, Inst.mono x h2⟩
  | g p => obtain ⟨v, h1, h2⟩ := h; exact ⟨v, h1, p.mono x h2⟩
theorem SlOk.of {K : PySem.W.Frag} {F : Hp} {v : V} {e : En} (h : EnOk K F v e) : SlOk K F (some v) e := by
  cases e with
  | d y => exact ⟨v, rfl, h⟩
  | o a => exact congrArg some h
  | v w => exact congrArg some h
  | u => trivial
  | s ds => exact ⟨v, rfl, h⟩
  | ob C fs => exact ⟨v, rfl, h⟩
  | g p => exact ⟨v, rfl, h⟩
inductive Sls (K : PySem.W.Frag) (F : Hp) : L2.St → List En → Prop
  | nil : Sls K F [] []
  | cons {s : Option V} {σ : L2.St} {e : En} {ρ : List En} : SlOk K F s e → Sls K F σ ρ → Sls K F (s :: σ) (e :: ρ)
inductive Ens (K : PySem.W.Frag) (F : Hp) : List V → List En → Prop
  | nil : Ens K F [] []
  | cons {v : V} {vs : List V} {e : En} {es : List En} : EnOk K F v e → Ens K F vs es → Ens K F (v :: vs) (e :: es)
section
variable {K : PySem.W.Frag} {F F' : Hp}
theorem Sls.mono (x : Ex F F') : ∀ {σ : L2.St} {ρ : List En}, Sls K F σ ρ → Sls K F' σ ρ
  | _, _, .nil => .nil
  | _, _, .cons a b => .cons (a.mono x) (b.mono x)
theorem Sls.get : ∀ {σ : L2.St} {ρ : List En} {i : Nat} {e : En}, Sls K F σ ρ → ρ[i]? = some e → ∃ s, σ[i]? = some s ∧ SlOk K F s e
  | _, _, _, _, .nil, h => by simp at h
  | _, _, 0, _, .cons a _, h => by simp at h; subst h; exact ⟨_, rfl, a⟩
  | _, _, i + 1, e, .cons _ b, h => by
    obtain ⟨s, h1, h2⟩ := b.get (i := i) (e := e) (by simpa using h)
    exact ⟨s, by simpa using h1, h2⟩
theorem Sls.set : ∀ {σ : L2.St} {ρ : List En} (i : Nat) {s : Option V} {e : En}, Sls K F σ ρ → SlOk K F s e → Sls K F (σ.set i s) (ρ.set i e)
  | _, _, _, _, _, .nil, _ => .nil
  | _, _, 0, _, _, .cons _ b, h => .cons h b
  | _, _, i + 1, _, _, .cons a b, h => .cons a (b.set i h)
theorem Sls.wipe {σ : L2.St} {ρ : List En} (h : Sls K F σ ρ) : ∀ vs : List Nat, Sls K F (L2.wipe σ vs) (vs.foldr (fun i r => r.set i .u) ρ)
  | [] => h
  | i :: vs => (h.wipe vs).set i trivial
theorem Ens.mono (x : Ex F F') : ∀ {vs : List V} {es : List En}, Ens K F vs es → Ens K F' vs es
  | _, _, .nil => .nil
  | _, _, .cons a b => .cons (a.mono x) (b.mono x)
theorem Ens.sls : ∀ {vs : List V} {es : List En}, Ens K F vs es → Sls K F (vs.map some) es
  | _, _, .nil => .nil
  | _, _, .cons a b => .cons (.of a) b.sls
theorem Ens.len : ∀ {vs : List V} {es : List En}, Ens K F vs es → vs.length = es.length
  | _, _, .nil => rfl
  | _, _, .cons _ b => by rw [List.length_cons, List.length_cons, b.len]
theorem Sls.append : ∀ {σ τ : L2.St} {ρ ξ : List En}, Sls K F σ ρ → Sls K F τ ξ → Sls K F (σ ++ τ) (ρ ++ ξ)
  | _, _, _, _, .nil, h => h
  | _, _, _, _, .cons a b, h => .cons a (b.append h)
theorem Sls.us : ∀ n : Nat, Sls K F (List.replicate n none) (List.replicate n .u)
  | 0 => .nil
  | n + 1 => .cons trivial (Sls.us n)
end

/-! ### owned objects -/
structure OP where
  φ : PySem.W.Frag → Hp → HO → Prop
  mono : ∀ {K : PySem.W.Frag} {F F' : Hp} {o : HO}, Ex F F' → φ K F o → φ K F' o
inductive Ow where
  | p (a : Addr) (q : OP)
  | ls (a : Addr) (ds : List PyData)
  | rw (a : Addr) (o : HO)
  | ob (a C dx : Addr) (fs : List (Str × PyData))
def Ow.ad : Ow → Addr
  | .p a _ => a
  | .ls a _ => a
  | .rw a _ => a
  | .ob a _ _ _ => a
def OwOk (K : PySem.W.Frag) (F H : Hp) : Ow → Prop
  | .p a q => ∃ o, H a = some o ∧ q.φ K F o
  | .ls a ds => ∃ vs, H a = some (.lst vs) ∧ Dts K F vs ds
  | .rw a o => H a = some o
  | .ob a C dx fs => ∃ vs, H a = some (.ins C dx vs) ∧ Flds K F vs fs
structure At (K : PySem.W.Frag) (F : Hp) (R : List Ow) (H : Hp) : Prop where
  ex : Ex F H
  nd : (R.map Ow.ad).Nodup
  own : ∀ r ∈ R, F r.ad = none ∧ OwOk K F H r
theorem OwOk.some {K : PySem.W.Frag} {F H : Hp} {r : Ow} (h : OwOk K F H r) : ∃ o, H r.ad = some o := by
  cases r with
  | p a q => obtain ⟨o, h1, _⟩ := h; exact ⟨_, h1⟩
  | ls a ds => obtain ⟨vs, h1, _⟩ := h; exact ⟨_, h1⟩
  | rw a o => exact ⟨_, h⟩
  | ob a C dx fs => obtain ⟨vs, h1, _⟩ := h; exact ⟨_, h1⟩
theorem OwOk.mono {K : PySem.W.Frag} {F F' H H' : Hp} {r : Ow} (x : Ex F F') (y : ∀ o, H r.ad = Option.some o → H' r.ad = Option.some o) (h : OwOk K F H r) : OwOk K F' H' r := by
  cases r with
  | p a q => obtain ⟨o, h1, h2⟩ := h; exact ⟨o, y _ h1, q.mono x h2⟩
  | ls a ds => obtain ⟨vs, h1, h2⟩ := h; exact ⟨vs, y _ h1, h2.mono x⟩
  | rw a o => exact y _ h
  | ob a C dx fs => obtain ⟨vs, h1, h2⟩ := h; exact ⟨vs, y _ h1, h2.mono x⟩
/-- a new frozen object -/
theorem At.new {K : PySem.W.Frag} {F H : Hp} {R : List Ow} {p : Addr} (o : HO) (A : At K F R H) (hp : H p = none) : Ex F (upd F p o) ∧ At K (upd F p o) R (upd H p o) := by
  have hF := fresh_back A.ex hp
  refine ⟨Ex.new hF, A.ex.both, A.nd, fun r hr => ?_⟩
  obtain ⟨h1, h2⟩ := A.own r hr
  obtain ⟨o', ho⟩ := h2.some
  have hne : r.ad ≠ p := ne_of_none ho hp
  exact ⟨by rw [upd_ne hne]; exact h1, h2.mono (Ex.new hF) fun u hu => by rw [upd_ne hne]; exact hu⟩
theorem At.perm {K : PySem.W.Frag} {F H : Hp} {R R' : List Ow} (A : At K F R H) (h : R.Perm R') : At K F R' H :=
  ⟨A.ex, (h.map _).nodup_iff.mp A.nd, fun r hr => A.own r (h.symm.subset hr)⟩

/-! ### the judgements -/
section
variable (K : PySem.W.Frag)
def Ev (te : TE) (ρ : List En) (R : List Ow) (e : En) (R' : List Ow) : Prop :=
  ∀ (R0 : List Ow) (F H : Hp) (σ : L2.St), Sls K F σ ρ → At K F (R ++ R0) H → ∀ Q : VK, (∀ v F1 H1, Ex F F1 → At K F1 (R' ++ R0) H1 → EnOk K F1 v e → Q v H1) → te σ H Q
def Et (tt : TT) (ρ : List En) (R : List Ow) (b : Bool) (R' : List Ow) : Prop :=
  ∀ (R0 : List Ow) (F H : Hp) (σ : L2.St), Sls K F σ ρ → At K F (R ++ R0) H → ∀ Q : Bool → Hp → Prop, (∀ F1 H1, Ex F F1 → At K F1 (R' ++ R0) H1 → Q b H1) → tt σ H Q
def Ea (ta : TA) (ρ : List En) (R : List Ow) (es : List En) (R' : List Ow) : Prop :=
  ∀ (R0 : List Ow) (F H : Hp) (σ : L2.St), Sls K F σ ρ → At K F (R ++ R0) H → ∀ Q : List V → Hp → Prop, (∀ vs F1 H1, Ex F F1 → At K F1 (R' ++ R0) H1 → Ens K F1 vs es → Q vs H1) → ta σ H Q
/-- an operation on values -/
def Rv (r : R2) (x y : En) (R : List Ow) (z : En) : Prop :=
  ∀ (R0 : List Ow) (F H : Hp) (v u : V), EnOk K F v x → EnOk K F u y → At K F (R ++ R0) H → ∀ Q : VK, (∀ w F1 H1, Ex F F1 → At K F1 (R ++ R0) H1 → EnOk K F1 w z → Q w H1) → r v u H Q
/-- a call on values -/
def RcK (r : List V → Hp → VK → Prop) (es : List En) (R : List Ow) (z : En) : Prop :=
  ∀ (R0 : List Ow) (F H : Hp) (vs : List V), Ens K F vs es → At K F (R ++ R0) H → ∀ Q : VK, (∀ w F1 H1, Ex F F1 → At K F1 (R ++ R0) H1 → EnOk K F1 w z → Q w H1) → r vs H Q
structure Post where
  nx : List En → List Ow → Prop := fun _ _ => False
  rt : En → List Ow → Prop := fun _ _ => False
  bk : List En → List Ow → Prop := fun _ _ => False
  ct : List En → List Ow → Prop := fun _ _ => False
structure PostOk (P : Post) (F : Hp) (R0 : List Ow) (D : Ends) : Prop where
  nx : ∀ ρ R σ F1 H1, P.nx ρ R → Ex F F1 → Sls K F1 σ ρ → At K F1 (R ++ R0) H1 → D.nx σ H1
  rt : ∀ e R v F1 H1, P.rt e R → Ex F F1 → EnOk K F1 v e → At K F1 (R ++ R0) H1 → D.rt v H1
  bk : ∀ ρ R σ F1 H1, P.bk ρ R → Ex F F1 → Sls K F1 σ ρ → At K F1 (R ++ R0) H1 → D.bk σ H1
  ct : ∀ ρ R σ F1 H1, P.ct ρ R → Ex F F1 → Sls K F1 σ ρ → At K F1 (R ++ R0) H1 → D.ct σ H1
def Es (ts : TS) (ρ : List En) (R : List Ow) (P : Post) : Prop :=
  ∀ (R0 : List Ow) (F H : Hp) (σ : L2.St) (D : Ends), Sls K F σ ρ → At K F (R ++ R0) H → PostOk K P F R0 D → ts D σ H
/-- a target -/
def Eg (g : TG) (e : En) (ρ ρ' : List En) : Prop :=
  ∀ (R : List Ow) (F H : Hp) (σ : L2.St) (v : V), Sls K F σ ρ → At K F R H → EnOk K F v e → ∀ Q : L2.St → Hp → Prop, (∀ σ', Sls K F σ' ρ' → Q σ' H) → g v σ H Q
/-- what is walked: the items are data -/
def Wk (J : It) (R0 : List Ow) (F : Hp) (xs : List PyData) : Prop :=
  ∃ (G : Hp → Prop) (Y : Nat → Hp → V → Hp → Prop), L2.Walk J xs.length G Y ∧ (∀ F1 R H, Ex F F1 → At K F1 R H → G H) ∧
    ∀ i x d F1 R H H', Ex F F1 → At K F1 R H → Y i H x H' → xs[i]? = some d → ∃ F2, Ex F1 F2 ∧ At K F2 R H' ∧ Dt K F2 x d
def Ei (wi : TI) (ρ : List En) (R : List Ow) (xs : List PyData) (R' : List Ow) : Prop :=
  ∀ (R0 : List Ow) (F H : Hp) (σ : L2.St), Sls K F σ ρ → At K F (R ++ R0) H → ∀ Q : It → Hp → Prop, (∀ J F1 H1, Ex F F1 → At K F1 (R' ++ R0) H1 → Wk K J R0 F1 xs → Q J H1) → wi σ H Q
end
end Fx

namespace Fx
open PySem PySem.Spec PyProof.Rows L2 StX RZ
section
variable {K : PySem.W.Frag} {ρ ρ' : List En} {R R1 Rz R3 : List Ow} {e e1 e2 x y z : En} {ta tb tc te : TE} {t u : TT} {r : L2.R2}

theorem ev_d {i : Nat} {x : PyData} (h : ρ[i]? = some (.d x)) : Ev K (tVar i) ρ R (.d x) R := fun R0 F H σ S A Q q => by
  obtain ⟨s, h1, v, rfl, h2⟩ := S.get h
  exact ⟨v, h1, q v F H (Ex.refl F) A h2⟩
theorem ev_o {i : Nat} {a : Addr} (h : ρ[i]? = some (.o a)) : Ev K (tVar i) ρ R (.o a) R := fun R0 F H σ S A Q q => by
  obtain ⟨s, h1, h2⟩ := S.get h
  cases h2
  exact ⟨_, h1, q _ F H (Ex.refl F) A rfl⟩
/-- an owned list is frozen -/
theorem At.freeze {F H : Hp} {a : Addr} {ds : List PyData} {Rb : List Ow} (A : At K F (.ls a ds :: Rb) H) : ∃ F1, Ex F F1 ∧ At K F1 Rb H ∧ Dt K F1 (.ref a) (.list ds) := by
  obtain ⟨hF, vs, hH, hd⟩ := A.own _ (List.mem_cons_self ..)
  have x := Ex.new (o := .lst vs) hF
  have nd := A.nd
  rw [List.map_cons, List.nodup_cons] at nd
  refine ⟨_, x, ⟨fun b o hb => ?_, nd.2, fun r hr => ?_⟩, .lst upd_same (hd.mono x)⟩
  · by_cases hba : b = a
    · subst hba; erw [upd_same] at hb; cases hb; exact hH
    · erw [upd_ne hba] at hb; exact A.ex _ _ hb
  · obtain ⟨h1, h2⟩ := A.own r (List.mem_cons_of_mem _ hr)
    have hne : r.ad ≠ a := fun e => nd.1 (by show a ∈ _; rw [← e]; exact List.mem_map_of_mem hr)
    exact ⟨by erw [upd_ne hne]; exact h1, h2.mono x fun _ h => h⟩
theorem ev_frz {i : Nat} {a : Addr} {ds : List PyData} {Ra Rb : List Ow} (h : ρ[i]? = some (.o a)) : Ev K (tVar i) ρ (Ra ++ .ls a ds :: Rb) (.d (.list ds)) (Ra ++ Rb) := fun R0 F H σ S A Q q => by
  obtain ⟨s, h1, h2⟩ := S.get h
  cases h2
  have A1 : At K F (.ls a ds :: (Ra ++ Rb ++ R0)) H := A.perm (by
    rw [List.append_assoc, List.cons_append]
    rw [List.append_assoc]
    exact List.perm_middle)
  obtain ⟨F1, x, A2, d⟩ := A1.freeze
  exact ⟨_, h1, q _ F1 H x A2 d⟩
theorem ev_int {i : Int} : Ev K (tC (.int i)) ρ R (.d (.int i)) R := fun R0 F H σ S A Q q => q _ F H (Ex.refl F) A (.int i)
theorem ev_bl {b : Bool} : Ev K (tC (.bl b)) ρ R (.d (.bool b)) R := fun R0 F H σ S A Q q => q _ F H (Ex.refl F) A (.bl b)
theorem ev_non : Ev K (tC .non) ρ R (.d .none) R := fun R0 F H σ S A Q q => q _ F H (Ex.refl F) A .non
theorem ev_str {s : Str} : Ev K (tC (.str s)) ρ R (.d (.str s)) R := fun R0 F H σ S A Q q => q _ F H (Ex.refl F) A (.str s)
theorem ev_op (ha : Ev K ta ρ R x R1) (hb : Ev K tb ρ R1 y Rz) (hr : Rv K r x y Rz z) : Ev K (tOp r ta tb) ρ R z Rz := fun R0 F H σ S A Q q =>
  ha R0 F H σ S A _ fun v F1 H1 x1 A1 e1 => hb R0 F1 H1 σ (S.mono x1) A1 _ fun u F2 H2 x2 A2 e2 => hr R0 F2 H2 v u (e1.mono x2) e2 A2 Q fun w F3 H3 x3 A3 e3 => q w F3 H3 (x1.trans (x2.trans x3)) A3 e3
theorem rv_int {g : Int → Int → Int} {i j : Int} : Rv K (rI0 fun i j => .int (g i j)) (.d (.int i)) (.d (.int j)) R (.d (.int (g i j))) := fun R0 F H v u hv hu A Q q => by
  cases hv; cases hu; exact ⟨i, j, rfl, rfl, q _ F H (Ex.refl F) A (.int _)⟩
theorem rv_bl {g : Int → Int → Bool} {i j : Int} : Rv K (rI0 fun i j => .bl (g i j)) (.d (.int i)) (.d (.int j)) R (.d (.bool (g i j))) := fun R0 F H v u hv hu A Q q => by
  cases hv; cases hu; exact ⟨i, j, rfl, rfl, q _ F H (Ex.refl F) A (.bl _)⟩
theorem rv_intC {C : Int → Int → Prop} {g : Int → Int → Int} {i j : Int} (hc : C i j) : Rv K (rI C fun i j => .int (g i j)) (.d (.int i)) (.d (.int j)) R (.d (.int (g i j))) := fun R0 F H v u hv hu A Q q => by
  cases hv; cases hu; exact ⟨i, j, rfl, rfl, hc, q _ F H (Ex.refl F) A (.int _)⟩
theorem rv_eqD {d e : PyData} (h1 : SeqAt.shaped d = true) (h2 : SeqAt.shaped e = true) : Rv K (rEqD K) (.d d) (.d e) R (.d (.bool (PyData.eqv d e))) := fun R0 F H v u hv hu A Q q =>
  ⟨d, e, (Dt.mono A.ex d hv).dp, (Dt.mono A.ex e hu).dp, h1, h2, q _ F H (Ex.refl F) A (.bl _)⟩
theorem rv_neD {d e : PyData} (h1 : SeqAt.shaped d = true) (h2 : SeqAt.shaped e = true) : Rv K (rNeD K) (.d d) (.d e) R (.d (.bool (!PyData.eqv d e))) := fun R0 F H v u hv hu A Q q =>
  ⟨d, e, (Dt.mono A.ex d hv).dp, (Dt.mono A.ex e hu).dp, h1, h2, q _ F H (Ex.refl F) A (.bl _)⟩
theorem Dts.atI {F : Hp} {vs : List V} {ds : List PyData} {i : Int} {d : PyData} (h : Dts K F vs ds) (e : L2.atI ds i = some d) : ∃ v, L2.atI vs i = some v ∧ Dt K F v d := by
  unfold L2.atI at e ⊢
  rw [h.len]
  cases q : L2.ixN ds.length i with
  | none => rw [q] at e; cases e
  | some j => rw [q] at e; exact h.get e
theorem rv_ixL {ds : List PyData} {i : Int} {d : PyData} (h : L2.atI ds i = some d) : Rv K (rIxL K) (.d (.list ds)) (.d (.int i)) R (.d d) := fun R0 F H v u hv hu A Q q => by
  cases hu
  cases hv with
  | lst h1 h2 =>
    obtain ⟨w, h3, h4⟩ := h2.atI h
    exact ⟨_, _, i, w, rfl, rfl, .inl (.inl (A.ex _ _ h1)), h3, q w F H (Ex.refl F) A h4⟩
theorem rv_ixT {ds : List PyData} {i : Int} {d : PyData} (h : L2.atI ds i = some d) : Rv K (rIxT K) (.d (.tuple ds)) (.d (.int i)) R (.d d) := fun R0 F H v u hv hu A Q q => by
  cases hu
  cases hv with
  | tup h1 h2 =>
    obtain ⟨w, h3, h4⟩ := h2.atI h
    exact ⟨_, _, i, w, rfl, rfl, ex_t A.ex h1, h3, q w F H (Ex.refl F) A h4⟩
/-- an item of an owned list (read) -/
theorem rv_ixO {Ra Rb : List Ow} {a : Addr} {ds : List PyData} {i : Int} {d : PyData} (h : L2.atI ds i = some d) : Rv K (rIxL K) (.o a) (.d (.int i)) (Ra ++ .ls a ds :: Rb) (.d d) := fun R0 F H v u hv hu A Q q => by
  cases hu
  cases hv
  obtain ⟨_, vs, h1, h2⟩ := A.own (.ls a ds) (by simp)
  obtain ⟨w, h3, h4⟩ := h2.atI h
  exact ⟨_, _, i, w, rfl, rfl, .inl (.inl h1), h3, q w F H (Ex.refl F) A h4⟩
theorem rv_cat {ds es : List PyData} (hl : ds.length + es.length ≤ sizeLine) : Rv K rCat (.d (.list ds)) (.d (.list es)) R (.d (.list (ds ++ es))) := fun R0 F H v u hv hu A Q q => by
  cases hv with
  | lst h1 h2 =>
    cases hu with
    | lst h3 h4 =>
      refine ⟨_, _, _, _, rfl, rfl, A.ex _ _ h1, A.ex _ _ h3, by rw [h2.len, h4.len]; exact hl, fun p hp => ?_⟩
      obtain ⟨x, A1⟩ := A.new (.lst (_ ++ _)) hp
      exact q _ _ _ x A1 (.lst upd_same ((h2.append h4).mono x))
theorem rv_catT {ds es : List PyData} (hl : ds.length + es.length ≤ sizeLine) : Rv K (rCatA K) (.d (.tuple ds)) (.d (.tuple es)) R (.d (.tuple (ds ++ es))) := fun R0 F H v u hv hu A Q q => by
  cases hv with
  | tup h1 h2 =>
    cases hu with
    | tup h3 h4 =>
      refine ⟨_, _, _, _, rfl, rfl, ex_t A.ex h1, ex_t A.ex h3, by rw [h2.len, h4.len]; exact hl, fun e => ?_, fun _ e => ?_, fun _ _ p hp => ?_⟩
      · subst e; cases h2; exact q _ F H (Ex.refl F) A (.tup h3 h4)
      · subst e; cases h4; rw [List.append_nil] at q; exact q _ F H (Ex.refl F) A (.tup h1 h2)
      · obtain ⟨x, A1⟩ := A.new (.tup (_ ++ _)) hp
        exact q _ _ _ x A1 (.tup (.inl (.inl upd_same)) ((h2.append h4).mono x))

/-! ### tests -/
theorem et_test {b : Bool} (h : Ev K te ρ R (.d (.bool b)) R1) : Et K (tTest te) ρ R b R1 := fun R0 F H σ S A Q q =>
  h R0 F H σ S A _ fun v F1 H1 x1 A1 e1 => by cases e1; exact ⟨b, rfl, q F1 H1 x1 A1⟩
theorem et_B {b : Bool} (h : Ev K te ρ R (.d (.bool b)) R1) : Et K (tB te) ρ R b R1 := fun R0 F H σ S A Q q =>
  h R0 F H σ S A _ fun v F1 H1 x1 A1 e1 => by cases e1; exact ⟨b, rfl, q F1 H1 x1 A1⟩
theorem et_andT {b : Bool} (h1 : Et K t ρ R true R1) (h2 : Et K u ρ R1 b Rz) : Et K (tAnd t u) ρ R b Rz := fun R0 F H σ S A Q q =>
  h1 R0 F H σ S A _ fun F1 H1 x1 A1 => by
    show u σ H1 Q
    exact h2 R0 F1 H1 σ (S.mono x1) A1 Q fun F2 H2 x2 A2 => q F2 H2 (x1.trans x2) A2
theorem et_andF (h1 : Et K t ρ R false R1) : Et K (tAnd t u) ρ R false R1 := fun R0 F H σ S A Q q => h1 R0 F H σ S A _ fun F1 H1 x1 A1 => q F1 H1 x1 A1
theorem et_orF {b : Bool} (h1 : Et K t ρ R false R1) (h2 : Et K u ρ R1 b Rz) : Et K (tOr t u) ρ R b Rz := fun R0 F H σ S A Q q =>
  h1 R0 F H σ S A _ fun F1 H1 x1 A1 => by
    show u σ H1 Q
    exact h2 R0 F1 H1 σ (S.mono x1) A1 Q fun F2 H2 x2 A2 => q F2 H2 (x1.trans x2) A2
theorem et_orT (h1 : Et K t ρ R true R1) : Et K (tOr t u) ρ R true R1 := fun R0 F H σ S A Q q => h1 R0 F H σ S A _ fun F1 H1 x1 A1 => q F1 H1 x1 A1
theorem et_not {b : Bool} (h1 : Et K t ρ R b R1) : Et K (tNot t) ρ R (!b) R1 := fun R0 F H σ S A Q q => h1 R0 F H σ S A _ fun F1 H1 x1 A1 => q F1 H1 x1 A1
/-- and, or: the second only where it is asked; nothing changes -/
theorem et_and {a b : Bool} (h1 : Et K t ρ R a R1) (h2 : a = true → Et K u ρ R1 b R1) : Et K (tAnd t u) ρ R (a && b) R1 := by
  cases a with
  | true => exact et_andT h1 (h2 rfl)
  | false => exact et_andF h1
theorem et_or {a b : Bool} (h1 : Et K t ρ R a R1) (h2 : a = false → Et K u ρ R1 b R1) : Et K (tOr t u) ρ R (a || b) R1 := by
  cases a with
  | false => exact et_orF h1 (h2 rfl)
  | true => exact et_orT h1
theorem ev_andV {a b : Bool} (h1 : Ev K ta ρ R (.d (.bool a)) R1) (h2 : a = true → Ev K tb ρ R1 (.d (.bool b)) R1) : Ev K (tAndV ta tb) ρ R (.d (.bool (a && b))) R1 := fun R0 F H σ S A Q q =>
  h1 R0 F H σ S A _ fun v F1 H1 x1 A1 e1 => by
    cases e1
    refine ⟨a, rfl, ?_⟩
    cases a with
    | true => exact h2 rfl R0 F1 H1 σ (S.mono x1) A1 Q fun w F2 H2 x2 A2 e2 => q w F2 H2 (x1.trans x2) A2 e2
    | false => exact q _ F1 H1 x1 A1 (.bl false)
theorem ev_orV {a b : Bool} (h1 : Ev K ta ρ R (.d (.bool a)) R1) (h2 : a = false → Ev K tb ρ R1 (.d (.bool b)) R1) : Ev K (tOrV ta tb) ρ R (.d (.bool (a || b))) R1 := fun R0 F H σ S A Q q =>
  h1 R0 F H σ S A _ fun v F1 H1 x1 A1 e1 => by
    cases e1
    refine ⟨a, rfl, ?_⟩
    cases a with
    | false => exact h2 rfl R0 F1 H1 σ (S.mono x1) A1 Q fun w F2 H2 x2 A2 e2 => q w F2 H2 (x1.trans x2) A2 e2
    | true => exact q _ F1 H1 x1 A1 (.bl true)
theorem ev_notV {a : Bool} (h1 : Ev K ta ρ R (.d (.bool a)) R1) : Ev K (tNotV ta) ρ R (.d (.bool (!a))) R1 := fun R0 F H σ S A Q q =>
  h1 R0 F H σ S A _ fun v F1 H1 x1 A1 e1 => by cases e1; exact ⟨a, rfl, q _ F1 H1 x1 A1 (.bl _)⟩
theorem ev_if {b : Bool} (h1 : Et K t ρ R b R1) (h2 : b = true → Ev K ta ρ R1 e Rz) (h3 : b = false → Ev K tb ρ R1 e Rz) : Ev K (tIf t ta tb) ρ R e Rz := fun R0 F H σ S A Q q =>
  h1 R0 F H σ S A _ fun F1 H1 x1 A1 => by
    cases b with
    | true => exact h2 rfl R0 F1 H1 σ (S.mono x1) A1 Q fun w F2 H2 x2 A2 e2 => q w F2 H2 (x1.trans x2) A2 e2
    | false => exact h3 rfl R0 F1 H1 σ (S.mono x1) A1 Q fun w F2 H2 x2 A2 e2 => q w F2 H2 (x1.trans x2) A2 e2
/-- is None -/
def isNoneD : PyData → Bool
  | .none => true
  | _ => false
theorem ev_isN {d : PyData} (h : Ev K ta ρ R (.d d) R1) : Ev K (tIsN ta) ρ R (.d (.bool (isNoneD d))) R1 := fun R0 F H σ S A Q q =>
  h R0 F H σ S A _ fun v F1 H1 x1 A1 e1 => by
    have : decide (v = .non) = isNoneD d := by cases e1 <;> rfl
    rw [this]
    exact q _ F1 H1 x1 A1 (.bl _)
theorem ev_notN {d : PyData} (h : Ev K ta ρ R (.d d) R1) : Ev K (tNotN ta) ρ R (.d (.bool (!isNoneD d))) R1 := fun R0 F H σ S A Q q =>
  h R0 F H σ S A _ fun v F1 H1 x1 A1 e1 => by
    have : decide (v = .non) = isNoneD d := by cases e1 <;> rfl
    rw [this]
    exact q _ F1 H1 x1 A1 (.bl _)
/-- truth -/
def truD : PyData → Bool
  | .none => false
  | .bool b => b
  | .int i => i != 0
  | .str s => s.cps.size != 0
  | .list xs => !xs.isEmpty
  | .tuple xs => !xs.isEmpty
  | .dict _ => false

/-! ### arguments, displays -/
theorem ea_nil : Ea K tNil ρ R [] R := fun R0 F H σ S A Q q => q [] F H (Ex.refl F) A .nil
theorem ea_cons {ts : TA} {es : List En} (h1 : Ev K ta ρ R e R1) (h2 : Ea K ts ρ R1 es Rz) : Ea K (tCons ta ts) ρ R (e :: es) Rz := fun R0 F H σ S A Q q =>
  h1 R0 F H σ S A _ fun v F1 H1 x1 A1 e1 => h2 R0 F1 H1 σ (S.mono x1) A1 _ fun vs F2 H2 x2 A2 e2 => q (v :: vs) F2 H2 (x1.trans x2) A2 (.cons (e1.mono x2) e2)
theorem Ens.dts {F : Hp} : ∀ {vs : List V} {ds : List PyData}, Ens K F vs (ds.map .d) → Dts K F vs ds
  | _, [], .nil => .nil
  | _, d :: ds, .cons a b => .cons a b.dts
theorem ev_lst {ts : TA} {ds : List PyData} (h : Ea K ts ρ R (ds.map .d) R1) (hl : ds.length ≤ sizeLine) : Ev K (tLst ts) ρ R (.d (.list ds)) R1 := fun R0 F H σ S A Q q =>
  h R0 F H σ S A _ fun vs F1 H1 x1 A1 e1 => ⟨by rw [e1.dts.len]; exact hl, fun p hp => by
    obtain ⟨x, A2⟩ := A1.new (.lst vs) hp
    exact q _ _ _ (x1.trans x) A2 (.lst upd_same (e1.dts.mono x))⟩
theorem ev_tup {ts : TA} {ds : List PyData} (h : Ea K ts ρ R (ds.map .d) R1) (hl : ds.length ≤ sizeLine) : Ev K (tTup ts) ρ R (.d (.tuple ds)) R1 := fun R0 F H σ S A Q q =>
  h R0 F H σ S A _ fun vs F1 H1 x1 A1 e1 => ⟨by rw [e1.dts.len]; exact hl, fun p hp => by
    obtain ⟨x, A2⟩ := A1.new (.tup vs) hp
    exact q _ _ _ (x1.trans x) A2 (.tup (.inl (.inl upd_same)) (e1.dts.mono x))⟩
theorem Ens.app {F : Hp} : ∀ {vs ws : List V} {ds : List PyData} {es : List En}, Dts K F vs ds → Ens K F ws es → Ens K F (vs ++ ws) (ds.map .d ++ es)
  | _, _, _, _, .nil, h => h
  | _, _, _, _, .cons a b, h => .cons a (Ens.app b h)
theorem ea_star {ts : TA} {es : List En} {ds : List PyData} (h1 : Ev K ta ρ R (.d (.tuple ds)) R1) (h2 : Ea K ts ρ R1 es Rz) : Ea K (tStar K ta ts) ρ R (ds.map .d ++ es) Rz := fun R0 F H σ S A Q q =>
  h1 R0 F H σ S A _ fun v F1 H1 x1 A1 e1 => by
    cases e1 with
    | tup h3 h4 =>
      exact ⟨_, _, rfl, .inl (ex_t A1.ex h3), h2 R0 F1 H1 σ (S.mono x1) A1 _ fun vs F2 H2 x2 A2 e2 => q _ F2 H2 (x1.trans x2) A2 (Ens.app (h4.mono x2) e2)⟩
/-! ### calls -/
theorem ev_cb {rc : List V → Hp → VK → Prop} {ts : TA} {es : List En} (h : Ea K ts ρ R es R1) (hr : RcK K rc es R1 z) : Ev K (tCB rc ts) ρ R z R1 := fun R0 F H σ S A Q q =>
  h R0 F H σ S A _ fun vs F1 H1 x1 A1 e1 => hr R0 F1 H1 vs e1 A1 Q fun w F2 H2 x2 A2 e2 => q w F2 H2 (x1.trans x2) A2 e2
/-- the promise of a def -/
def spS (K : PySem.W.Frag) (S : List En → List Ow → En → List Ow → Prop) : Sp := fun vs H Q _ => ∃ es R R0 F e R', S es R e R' ∧ Ens K F vs es ∧ At K F (R ++ R0) H ∧ ∀ v F1 H1, Ex F F1 → At K F1 (R' ++ R0) H1 → EnOk K F1 v e → Q v H1
theorem ev_call {Sf : List En → List Ow → En → List Ow → Prop} {ts : TA} {es : List En} {Rc Rc' Rf : List Ow} (hs : Sf es Rc e Rc') (h : Ea K ts ρ R es (Rc ++ Rf)) : Ev K (tCall (spS K Sf) [] E0 ts) ρ R e (Rc' ++ Rf) := fun R0 F H σ S A Q q =>
  h R0 F H σ S A _ fun vs F1 H1 x1 A1 e1 => by
    rw [List.append_nil]
    rw [List.append_assoc] at A1
    exact ⟨es, Rc, Rf ++ R0, F1, e, Rc', hs, e1, A1, fun v F2 H2 x2 A2 e2 => q v F2 H2 (x1.trans x2) (by rw [List.append_assoc]; exact A2) e2⟩
/-- .. that is pure -/
theorem ev_callP {Sf : List En → List Ow → En → List Ow → Prop} {ts : TA} {es : List En} (hs : Sf es [] e []) (h : Ea K ts ρ R es R1) : Ev K (tCall (spS K Sf) [] E0 ts) ρ R e R1 := ev_call (Rc := []) (Rc' := []) hs h
/-! ### statements -/
section
variable {P : Post} {ts us : TS}
theorem PostOk.mono {F F1 : Hp} {R0 : List Ow} {D : Ends} (x : Ex F F1) (h : PostOk K P F R0 D) : PostOk K P F1 R0 D :=
  ⟨fun ρ R σ F2 H2 a b c d => h.nx ρ R σ F2 H2 a (x.trans b) c d, fun e R v F2 H2 a b c d => h.rt e R v F2 H2 a (x.trans b) c d, fun ρ R σ F2 H2 a b c d => h.bk ρ R σ F2 H2 a (x.trans b) c d, fun ρ R σ F2 H2 a b c d => h.ct ρ R σ F2 H2 a (x.trans b) c d⟩
theorem es_seq (h : Es K ts ρ R { P with nx := fun ρ' R' => Es K us ρ' R' P }) : Es K (tSeq ts us) ρ R P := fun R0 F H σ D S A p =>
  h R0 F H σ _ S A ⟨fun ρ' R' σ' F1 H1 a b c d => a R0 F1 H1 σ' D c d (p.mono b), p.rt, p.bk, p.ct⟩
theorem es_next (h : P.nx ρ R) : Es K tNext ρ R P := fun R0 F H σ D S A p => p.nx ρ R σ F H h (Ex.refl F) S A
theorem es_asg {g : TG} (h : Ev K te ρ R e R1) (hg : Eg K g e ρ ρ') (hn : P.nx ρ' R1) : Es K (tAsg te g) ρ R P := fun R0 F H σ D S A p =>
  h R0 F H σ S A _ fun v F1 H1 x1 A1 e1 => hg _ F1 H1 σ v (S.mono x1) A1 e1 _ fun σ' S' => p.nx _ _ σ' F1 H1 hn x1 S' A1
theorem eg_name {i : Nat} : Eg K (gName i) e ρ (ρ.set i e) := fun R F H σ v S A hv Q q => q _ (S.set i (.of hv))
theorem es_set {i : Nat} (h : Ev K te ρ R e R1) (hn : P.nx (ρ.set i e) R1) : Es K (tAsg te (gName i)) ρ R P := es_asg h eg_name hn
theorem es_ret (h : Ev K te ρ R e R1) (hn : P.rt e R1) : Es K (tRet te) ρ R P := fun R0 F H σ D S A p =>
  h R0 F H σ S A _ fun v F1 H1 x1 A1 e1 => p.rt e R1 v F1 H1 hn x1 e1 A1
theorem es_retN (hn : P.rt (.d .none) R) : Es K tRetN ρ R P := fun R0 F H σ D S A p => p.rt _ R _ F H hn (Ex.refl F) .non A
theorem es_drop (h : Ev K te ρ R e R1) (hn : P.nx ρ R1) : Es K (tDrop te) ρ R P := fun R0 F H σ D S A p =>
  h R0 F H σ S A _ fun v F1 H1 x1 A1 e1 => p.nx ρ R1 σ F1 H1 hn x1 (S.mono x1) A1
theorem es_if {b : Bool} (h : Et K t ρ R b R1) (h1 : b = true → Es K ts ρ R1 P) (h2 : b = false → Es K us ρ R1 P) : Es K (tIfS t ts us) ρ R P := fun R0 F H σ D S A p =>
  h R0 F H σ S A _ fun F1 H1 x1 A1 => by
    cases b with
    | true => exact h1 rfl R0 F1 H1 σ D (S.mono x1) A1 (p.mono x1)
    | false => exact h2 rfl R0 F1 H1 σ D (S.mono x1) A1 (p.mono x1)
/-- a pair of names set at once -/
theorem es_par {i j : Nat} {ta : TA} {e1 e2 : En} (h : Ea K ta ρ R [e1, e2] R1) (hn : P.nx ((ρ.set i e1).set j e2) R1) : Es K (tPar i j ta) ρ R P := fun R0 F H σ D S A p =>
  h R0 F H σ S A _ fun vs F1 H1 x1 A1 ee => by
    cases ee with
    | cons a b =>
      cases b with
      | cons b c =>
        cases c
        exact ⟨_, _, rfl, p.nx _ R1 _ F1 H1 hn x1 (((S.mono x1).set i (.of a)).set j (.of b)) A1⟩
/-- while: I by a measure -/
theorem es_while {c : TT} (I : Nat → List En → List Ow → Prop) (h0 : ∃ m, I m ρ R)
    (hs : ∀ m ρ R, I m ρ R → ∃ b R1, Et K c ρ R b R1 ∧ (b = true → Es K ts ρ R1 { P with nx := fun ρ' R' => ∃ m', m' < m ∧ I m' ρ' R', ct := fun ρ' R' => ∃ m', m' < m ∧ I m' ρ' R', bk := P.nx }) ∧ (b = false → P.nx ρ R1)) : Es K (tWhile c ts) ρ R P := fun R0 F H σ D S A p => by
  refine ⟨fun m σ' H' => ∃ ρ' R' F', I m ρ' R' ∧ Ex F F' ∧ Sls K F' σ' ρ' ∧ At K F' (R' ++ R0) H', ?_, ?_⟩
  · obtain ⟨m, h⟩ := h0
    exact ⟨m, ρ, R, F, h, Ex.refl F, S, A⟩
  · rintro m σ' H' ⟨ρ', R', F', hI, x, S', A'⟩
    obtain ⟨b, R1, hc, h1, h2⟩ := hs m ρ' R' hI
    refine hc R0 F' H' σ' S' A' _ fun F1 H1 x1 A1 => ?_
    cases b with
    | false => exact p.nx ρ' R1 σ' F1 H1 (h2 rfl) (x.trans x1) (S'.mono x1) A1
    | true =>
      refine ⟨fun σ2 H2 => ∃ m', m' < m ∧ ∃ ρ' R' F', I m' ρ' R' ∧ Ex F F' ∧ Sls K F' σ2 ρ' ∧ At K F' (R' ++ R0) H2, fun σ2 H2 h => h, ?_⟩
      refine h1 rfl R0 F1 H1 σ' _ (S'.mono x1) A1 ⟨?_, fun e R v F2 H2 a b c d => p.rt e R v F2 H2 a ((x.trans x1).trans b) c d, fun ρ R σ F2 H2 a b c d => p.nx ρ R σ F2 H2 a ((x.trans x1).trans b) c d, ?_⟩
      · rintro ρ2 Rz σ2 F2 H2 ⟨m', hm, hI'⟩ b c d
        exact ⟨m', hm, ρ2, Rz, F2, hI', (x.trans x1).trans b, c, d⟩
      · rintro ρ2 Rz σ2 F2 H2 ⟨m', hm, hI'⟩ b c d
        exact ⟨m', hm, ρ2, Rz, F2, hI', (x.trans x1).trans b, c, d⟩
/-- for: I by the turn -/
theorem es_for {wi : TI} {g : TG} {xs : List PyData} (hw : Ei K wi ρ R xs R1) (I : Nat → List En → List Ow → Prop) (h0 : I 0 ρ R1)
    (hs : ∀ i d ρ R, xs[i]? = some d → I i ρ R → ∃ ρ', Eg K g (.d d) ρ ρ' ∧ Es K ts ρ' R { P with nx := I (i + 1), ct := I (i + 1), bk := P.nx })
    (hd : ∀ ρ R, I xs.length ρ R → P.nx ρ R) : Es K (tFor wi g ts) ρ R P := fun R0 F H σ D S A p => by
  refine hw R0 F H σ S A _ fun J F1 H1 x1 A1 W => ?_
  obtain ⟨G, Y, w, hG, hY⟩ := W
  refine L2.for_it w (fun i σ' H' => ∃ ρ' R' F', I i ρ' R' ∧ Ex F1 F' ∧ Sls K F' σ' ρ' ∧ At K F' (R' ++ R0) H') ⟨ρ, R1, F1, h0, Ex.refl F1, S.mono x1, A1⟩ ?_ ?_ ?_
  · rintro i σ' H' hi ⟨ρ', R', F', hI, x, S', A'⟩
    exact hG F' _ H' x A'
  · rintro i v σ' H' H'' hi ⟨ρ', R', F', hI, x, S', A'⟩ y
    obtain ⟨d, hd'⟩ : ∃ d, xs[i]? = some d := ⟨xs[i], List.getElem?_eq_getElem hi⟩
    obtain ⟨F2, x2, A2, d2⟩ := hY i v d F' _ H' H'' x A' y hd'
    obtain ⟨ρ2, hg, hb⟩ := hs i d ρ' R' hd' hI
    refine hg _ F2 H'' σ' v (S'.mono x2) A2 d2 _ fun σ2 S2 => ?_
    refine hb R0 F2 H'' σ2 _ S2 A2 ⟨?_, fun e R v F3 H3 a b c d => p.rt e R v F3 H3 a (((x1.trans x).trans x2).trans b) c d, fun ρ R σ F3 H3 a b c d => p.nx ρ R σ F3 H3 a (((x1.trans x).trans x2).trans b) c d, ?_⟩
    · intro ρ3 R3 σ3 F3 H3 a b c d
      exact ⟨ρ3, R3, F3, a, (x.trans x2).trans b, c, d⟩
    · intro ρ3 R3 σ3 F3 H3 a b c d
      exact ⟨ρ3, R3, F3, a, (x.trans x2).trans b, c, d⟩
  · rintro σ' H' ⟨ρ', R', F', hI, x, S', A'⟩
    exact p.nx ρ' R' σ' F' H' (hd ρ' R' hI) (x1.trans x) S' A'
end
end
end Fx

namespace Fx
open PySem PySem.Spec PyProof.Rows L2 StX RZ
section
variable {K : PySem.W.Frag} {ρ ρ' : List En} {R R1 Rz R3 : List Ow} {e e1 e2 x y z : En} {ta tb tc te tl : TE} {t u : TT} {r : L2.R2}

/-! ### what is walked -/
theorem wk_list {a : Addr} {vs : List V} {xs : List PyData} {F : Hp} {R0 : List Ow} (h : F a = some (.lst vs)) (hd : Dts K F vs xs) : Wk K (Itl K a) R0 F xs := by
  refine ⟨fun H => SqL K H a vs, YAt vs, by rw [← hd.len]; exact walk_list (xs := vs), fun F1 R H x A => .inl (.inl (A.ex _ _ (x _ _ h))), ?_⟩
  rintro i v d F1 R H H' x A ⟨rfl, hv⟩ hx
  obtain ⟨w, h1, h2⟩ := (hd.mono x).get hx
  rw [hv] at h1; cases h1
  exact ⟨F1, Ex.refl F1, A, h2⟩
theorem wk_tup {a : Addr} {vs : List V} {xs : List PyData} {F : Hp} {R0 : List Ow} (h : SqT K F a vs) (hd : Dts K F vs xs) : Wk K (Itt K a) R0 F xs := by
  refine ⟨fun H => SqT K H a vs, YAt vs, by rw [← hd.len]; exact walk_tup (xs := vs), fun F1 R H x A => ex_t A.ex (ex_t x h), ?_⟩
  rintro i v d F1 R H H' x A ⟨rfl, hv⟩ hx
  obtain ⟨w, h1, h2⟩ := (hd.mono x).get hx
  rw [hv] at h1; cases h1
  exact ⟨F1, Ex.refl F1, A, h2⟩
def rngD (lo : Int) (n : Nat) : List PyData := (List.range n).map fun (i : Nat) => PyData.int (lo + (i : Int))
theorem rngD_len {lo : Int} {n : Nat} : (rngD lo n).length = n := by simp [rngD]
theorem rngD_get {lo : Int} {n i : Nat} (h : i < n) : (rngD lo n)[i]? = some (.int (lo + (i : Int))) := by simp [rngD, h]
theorem wk_rng {lo : Int} {n : Nat} {F : Hp} {R0 : List Ow} : Wk K (Itr lo n) R0 F (rngD lo n) := by
  refine ⟨fun _ => True, _, by rw [rngD_len]; exact walk_range (lo := lo) (n := n), fun F1 R H x A => trivial, ?_⟩
  rintro i v d F1 R H H' x A ⟨rfl, rfl⟩ hx
  have hi : i < n := by
    have := (List.getElem?_eq_some_iff.mp hx).1
    rwa [rngD_len] at this
  rw [rngD_get hi] at hx; cases hx
  exact ⟨F1, Ex.refl F1, A, .int _⟩
def prs (xs ys : List PyData) : List PyData := List.zipWith (fun a b => .tuple [a, b]) xs ys
theorem wk_pair {J : It} {n : Nat} {xs ys : List PyData} {vx vy : Nat → Option V} {G : Hp → Prop} {F : Hp} {R0 : List Ow} (hn : n = (prs xs ys).length) (w : L2.Walk J n G (YPair vx vy)) (hG : ∀ F1 R H, Ex F F1 → At K F1 R H → G H)
    (h1 : ∀ i d F1, Ex F F1 → xs[i]? = some d → ∀ v, vx i = some v → Dt K F1 v d) (h2 : ∀ i d F1, Ex F F1 → ys[i]? = some d → ∀ v, vy i = some v → Dt K F1 v d) : Wk K J R0 F (prs xs ys) := by
  subst hn
  refine ⟨G, _, w, hG, ?_⟩
  rintro i v d F1 R H H' x A ⟨T, a, b, rfl, hT, rfl, ha, hb⟩ hx
  obtain ⟨y, A1⟩ := A.new (.tup [a, b]) hT
  have hx' : ∃ p q, xs[i]? = some p ∧ ys[i]? = some q ∧ d = .tuple [p, q] := by
    unfold prs at hx
    rw [List.getElem?_zipWith] at hx
    cases hp : xs[i]? with
    | none => rw [hp] at hx; simp at hx
    | some p =>
      cases hq : ys[i]? with
      | none => rw [hp, hq] at hx; simp at hx
      | some q => rw [hp, hq] at hx; simp at hx; exact ⟨p, q, rfl, rfl, hx.symm⟩
  obtain ⟨p, q, hp, hq, rfl⟩ := hx'
  exact ⟨_, y, A1, .tup (.inl (.inl upd_same)) (.cons (h1 i p _ (x.trans y) hp a ha) (.cons (h2 i q _ (x.trans y) hq b hb) .nil))⟩

theorem ei_list {xs : List PyData} (h : Ev K tl ρ R (.d (.list xs)) R1) : Ei K (iList K tl) ρ R xs R1 := fun R0 F H σ S A Q q =>
  h R0 F H σ S A _ fun v F1 H1 x1 A1 e1 => by
    cases e1 with
    | lst h1 h2 => exact ⟨_, rfl, ⟨_, .inl (.inl (A1.ex _ _ h1))⟩, q _ F1 H1 x1 A1 (wk_list h1 h2)⟩
theorem ei_tup {xs : List PyData} (h : Ev K tl ρ R (.d (.tuple xs)) R1) : Ei K (iTup K tl) ρ R xs R1 := fun R0 F H σ S A Q q =>
  h R0 F H σ S A _ fun v F1 H1 x1 A1 e1 => by
    cases e1 with
    | tup h1 h2 => exact ⟨_, rfl, ⟨_, ex_t A1.ex h1⟩, q _ F1 H1 x1 A1 (wk_tup h1 h2)⟩
theorem ei_rng1 {ts : TA} {j : Int} (h : Ea K ts ρ R [.d (.int j)] R1) (hj : -(2 ^ 62) ≤ j) (hj' : j < 2 ^ 62) : Ei K (iRng1 ts) ρ R (rngD 0 j.toNat) R1 := fun R0 F H σ S A Q q =>
  h R0 F H σ S A _ fun vs F1 H1 x1 A1 e1 => by
    cases e1 with
    | cons a b => cases a; cases b; exact ⟨j, rfl, hj, hj', q _ F1 H1 x1 A1 wk_rng⟩
theorem ei_rng2 {ts : TA} {i j : Int} (h : Ea K ts ρ R [.d (.int i), .d (.int j)] R1) (hb : -(2 ^ 62) ≤ i ∧ i < 2 ^ 62 ∧ -(2 ^ 62) ≤ j ∧ j < 2 ^ 62) : Ei K (iRng2 ts) ρ R (rngD i (j - i).toNat) R1 := fun R0 F H σ S A Q q =>
  h R0 F H σ S A _ fun vs F1 H1 x1 A1 e1 => by
    cases e1 with
    | cons a b =>
      cases a
      cases b with
      | cons a b => cases a; cases b; exact ⟨i, j, rfl, hb, q _ F1 H1 x1 A1 wk_rng⟩
theorem prs_len {xs ys : List PyData} : (prs xs ys).length = min xs.length ys.length := by simp [prs]
theorem ei_zipL {ts : TA} {xs ys : List PyData} (h : Ea K ts ρ R [.d (.list xs), .d (.list ys)] R1) : Ei K (iZipA K ts) ρ R (prs xs ys) R1 := fun R0 F H σ S A Q q =>
  h R0 F H σ S A _ fun vs F1 H1 x1 A1 e1 => by
    cases e1 with
    | cons a b =>
      cases b with
      | cons b c =>
        cases c
        cases a with
        | lst a1 a2 =>
          cases b with
          | lst b1 b2 =>
            refine ⟨_, _, _, _, rfl, .inl ⟨.inl (.inl (A1.ex _ _ a1)), .inl (.inl (A1.ex _ _ b1)), q _ F1 H1 x1 A1 ?_⟩⟩
            refine wk_pair (by rw [prs_len, ← a2.len, ← b2.len]) (walk_zip (K := K) rfl) (fun F2 R H x A => ⟨.inl (.inl (A.ex _ _ (x _ _ a1))), .inl (.inl (A.ex _ _ (x _ _ b1)))⟩) ?_ ?_
            · intro i d F2 x hd v hv
              obtain ⟨w, h1, h2⟩ := (a2.mono x).get hd
              rw [hv] at h1; cases h1; exact h2
            · intro i d F2 x hd v hv
              obtain ⟨w, h1, h2⟩ := (b2.mono x).get hd
              rw [hv] at h1; cases h1; exact h2
theorem walk_zipT {a b : Addr} {xs ys : List V} {n : Nat} (hn : n = min xs.length ys.length) : L2.Walk (ItzT K a b) n (fun H => SqT K H a xs ∧ SqT K H b ys) (YPair (fun i => xs[i]?) (fun i => ys[i]?)) := by
  subst hn
  refine ⟨fun i H hi q => ?_, fun H q => ?_, fun i H x H' hi q y => ?_⟩
  · have h1 : i < xs.length := by omega
    have h2 : i < ys.length := by omega
    exact ⟨xs, ys, xs[i], ys[i], q.1, q.2, List.getElem?_eq_getElem h1, List.getElem?_eq_getElem h2⟩
  · exact ⟨xs, ys, q.1, q.2, by omega⟩
  · obtain ⟨T, p, r, h1, h2, h3, h4, h5⟩ := y
    exact ⟨T, p, r, h1, h2, h3, h4 _ q.1, h5 _ q.2⟩
theorem ei_zipT {ts : TA} {xs ys : List PyData} (h : Ea K ts ρ R [.d (.tuple xs), .d (.tuple ys)] R1) : Ei K (iZipA K ts) ρ R (prs xs ys) R1 := fun R0 F H σ S A Q q =>
  h R0 F H σ S A _ fun vs F1 H1 x1 A1 e1 => by
    cases e1 with
    | cons a b =>
      cases b with
      | cons b c =>
        cases c
        cases a with
        | tup a1 a2 =>
          cases b with
          | tup b1 b2 =>
            refine ⟨_, _, _, _, rfl, .inr ⟨ex_t A1.ex a1, ex_t A1.ex b1, q _ F1 H1 x1 A1 ?_⟩⟩
            refine wk_pair (by rw [prs_len, ← a2.len, ← b2.len]) (walk_zipT (K := K) rfl) (fun F2 R H x A => ⟨ex_t A.ex (ex_t x a1), ex_t A.ex (ex_t x b1)⟩) ?_ ?_
            · intro i d F2 x hd v hv
              obtain ⟨w, h1, h2⟩ := (a2.mono x).get hd
              rw [hv] at h1; cases h1; exact h2
            · intro i d F2 x hd v hv
              obtain ⟨w, h1, h2⟩ := (b2.mono x).get hd
              rw [hv] at h1; cases h1; exact h2
theorem ei_enum {ts : TA} {xs : List PyData} (h : Ea K ts ρ R [.d (.list xs)] R1) : Ei K (iEnum K ts) ρ R (prs (rngD 0 xs.length) xs) R1 := fun R0 F H σ S A Q q =>
  h R0 F H σ S A _ fun vs F1 H1 x1 A1 e1 => by
    cases e1 with
    | cons a b =>
      cases b
      cases a with
      | lst a1 a2 =>
        refine ⟨_, _, rfl, .inl (.inl (A1.ex _ _ a1)), q _ F1 H1 x1 A1 ?_⟩
        refine wk_pair (by rw [prs_len, rngD_len, ← a2.len]; omega) (walk_enum (K := K)) (fun F2 R H x A => .inl (.inl (A.ex _ _ (x _ _ a1)))) ?_ ?_
        · intro i d F2 x hd v hv
          have hi : i < xs.length := by
            have := (List.getElem?_eq_some_iff.mp hd).1
            rwa [rngD_len] at this
          rw [rngD_get hi] at hd
          cases hd; cases hv
          rw [Int.zero_add]; exact .int _
        · intro i d F2 x hd v hv
          obtain ⟨w, h1, h2⟩ := (a2.mono x).get hd
          rw [hv] at h1; cases h1; exact h2

/-! ### comprehensions -/
def EgW (K : PySem.W.Frag) (g : TG) (vs : List Nat) (e : En) (ρ ρ' : List En) : Prop :=
  ∀ (R : List Ow) (F H : Hp) (σ : L2.St) (v : V), Sls K F σ ρ → At K F R H → EnOk K F v e → ∀ Q : L2.St → Hp → Prop, (∀ σ', Sls K F σ' ρ' → wipe σ' vs = wipe σ vs → Q σ' H) → g v σ H Q
theorem wipe_get (σ : L2.St) : ∀ (vs : List Nat) (j : Nat), (wipe σ vs)[j]? = if j ∈ vs then σ[j]?.map (fun _ => none) else σ[j]?
  | [], j => by simp [wipe]
  | v :: vs, j => by
    unfold wipe
    by_cases h : v = j
    · subst h
      by_cases hv : v < σ.length
      · rw [List.getElem?_set_self (by rw [wipe_length]; exact hv)]; simp [hv]
      · rw [List.getElem?_eq_none (by rw [List.length_set, wipe_length]; exact Nat.not_lt.mp hv)]; rw [List.getElem?_eq_none (Nat.not_lt.mp hv)]; simp
    · rw [List.getElem?_set_ne h, wipe_get σ vs j]
      have : (j ∈ v :: vs) ↔ j ∈ vs := by simp [List.mem_cons, Ne.symm h]
      simp only [this]
theorem wipe_idem (σ : L2.St) (vs : List Nat) : wipe (wipe σ vs) vs = wipe σ vs := by
  apply List.ext_getElem?
  intro j
  rw [wipe_get, wipe_get]
  by_cases h : j ∈ vs
  · simp only [h, if_true, Option.map_map]; cases σ[j]? <;> rfl
  · simp only [h, if_false]
theorem wipe_set {σ : L2.St} {vs : List Nat} {i : Nat} {s : Option V} (h : i ∈ vs) : wipe (σ.set i s) vs = wipe σ vs := by
  apply List.ext_getElem?
  intro j
  rw [wipe_get, wipe_get]
  by_cases hj : j ∈ vs
  · simp only [hj, if_true]
    by_cases hij : i = j
    · subst hij
      by_cases hv : i < σ.length
      · simp [hv]
      · simp [List.getElem?_eq_none (Nat.not_lt.mp hv), Nat.not_lt.mp hv]
    · rw [List.getElem?_set_ne hij]
  · have hij : i ≠ j := fun e => hj (e ▸ h)
    simp only [hj, if_false]
    rw [List.getElem?_set_ne hij]
theorem egw_name {i : Nat} {vs : List Nat} (h : i ∈ vs := by simp) : EgW K (gName i) vs e ρ (ρ.set i e) := fun R F H σ v S A hv Q q => q _ (S.set i (.of hv)) (wipe_set h)
theorem egw_pair {i j : Nat} {vs : List Nat} {d1 d2 : PyData} (hi : i ∈ vs := by simp) (hj : j ∈ vs := by simp) : EgW K (gTup K 2 (gCons (gName i) (gCons (gName j) gNil))) vs (.d (.tuple [d1, d2])) ρ ((ρ.set i (.d d1)).set j (.d d2)) := fun R F H σ v S A hv Q q => by
  cases hv with
  | tup h1 h2 =>
    cases h2 with
    | cons a b =>
      cases b with
      | cons b c =>
        cases c
        exact ⟨_, _, rfl, ex_t A.ex h1, rfl, _, _, rfl, _, _, rfl, rfl, q _ ((S.set i (.of (e := .d d1) a)).set j (.of (e := .d d2) b)) (by rw [wipe_set hj, wipe_set hi])⟩
theorem eg_pair {i j : Nat} {d1 d2 : PyData} : Eg K (gTup K 2 (gCons (gName i) (gCons (gName j) gNil))) (.d (.tuple [d1, d2])) ρ ((ρ.set i (.d d1)).set j (.d d2)) := fun R F H σ v S A hv Q q => by
  cases hv with
  | tup h1 h2 =>
    cases h2 with
    | cons a b =>
      cases b with
      | cons b c =>
        cases c
        exact ⟨_, _, rfl, ex_t A.ex h1, rfl, _, _, rfl, _, _, rfl, rfl, q _ ((S.set i (.of (e := .d d1) a)).set j (.of (e := .d d2) b))⟩
inductive LcR (K : PySem.W.Frag) (g : TG) (tt : TT) (te : TE) (vs : List Nat) (ρ : List En) : List PyData → List Ow → List PyData → List Ow → Prop
  | nil {R : List Ow} : LcR K g tt te vs ρ [] R [] R
  | keep {d y : PyData} {ds ys : List PyData} {R R1 R2 R3 : List Ow} {ρ' : List En} : EgW K g vs (.d d) ρ ρ' → Et K tt ρ' R true R1 → Ev K te ρ' R1 (.d y) R2 → LcR K g tt te vs ρ ds R2 ys R3 → LcR K g tt te vs ρ (d :: ds) R (y :: ys) R3
  | skip {d : PyData} {ds ys : List PyData} {R R1 R3 : List Ow} {ρ' : List En} : EgW K g vs (.d d) ρ ρ' → Et K tt ρ' R false R1 → LcR K g tt te vs ρ ds R1 ys R3 → LcR K g tt te vs ρ (d :: ds) R ys R3
theorem et_yes : Et K tYes ρ R true R := fun R0 F H σ S A Q q => q F H (Ex.refl F) A
def wiped (ρ : List En) (vs : List Nat) : List En := vs.foldr (fun i r => r.set i .u) ρ
theorem At.updL {F H : Hp} {a : Addr} {ds ds' : List PyData} {vs : List V} {Ra Rb : List Ow} (A : At K F (Ra ++ .ls a ds :: Rb) H) (h : Dts K F vs ds') : At K F (Ra ++ .ls a ds' :: Rb) (upd H a (.lst vs)) := by
  have hF : F a = none := (A.own (.ls a ds) (by simp)).1
  have nd : ((Ra ++ .ls a ds :: Rb).map Ow.ad).Nodup := A.nd
  refine ⟨A.ex.side hF, by simpa [Ow.ad] using nd, fun r hr => ?_⟩
  have key : ∀ r, r ∈ Ra ∨ r ∈ Rb → r.ad ≠ a := by
    intro r hr e
    rw [List.map_append, List.map_cons, List.nodup_append] at nd
    obtain ⟨n1, n2, n3⟩ := nd
    rcases hr with hr | hr
    · exact n3 r.ad (List.mem_map_of_mem hr) a (by simp [Ow.ad]) e
    · rw [List.nodup_cons] at n2
      exact n2.1 (by show a ∈ _; rw [← e]; exact List.mem_map_of_mem hr)
  simp only [List.mem_append, List.mem_cons] at hr
  rcases hr with hr | rfl | hr
  · obtain ⟨h1, h2⟩ := A.own r (by simp [hr])
    exact ⟨h1, h2.mono (Ex.refl F) fun o q => by rw [upd_ne (key r (.inl hr))]; exact q⟩
  · exact ⟨hF, vs, upd_same, h⟩
  · obtain ⟨h1, h2⟩ := A.own r (by simp [hr])
    exact ⟨h1, h2.mono (Ex.refl F) fun o q => by rw [upd_ne (key r (.inr hr))]; exact q⟩
/-- a new owned list -/
theorem At.own1 {F H : Hp} {p : Addr} {vs : List V} {ds : List PyData} (A : At K F R H) (hp : H p = none) (h : Dts K F vs ds) : At K F (.ls p ds :: R) (upd H p (.lst vs)) := by
  refine ⟨A.ex.side (fresh_back A.ex hp), ?_, fun r hr => ?_⟩
  · rw [List.map_cons, List.nodup_cons]
    refine ⟨fun hm => ?_, A.nd⟩
    obtain ⟨r, hr, e⟩ := List.mem_map.mp hm
    obtain ⟨o, ho⟩ := (A.own r hr).2.some
    rw [e] at ho
    rw [show (Ow.ls p ds).ad = p from rfl, hp] at ho; cases ho
  · rcases List.mem_cons.mp hr with rfl | hr
    · exact ⟨fresh_back A.ex hp, vs, upd_same, h⟩
    · obtain ⟨h1, h2⟩ := A.own r hr
      obtain ⟨o, ho⟩ := h2.some
      exact ⟨h1, h2.mono (Ex.refl F) fun u q => by rw [upd_ne (ne_of_none ho hp)]; exact q⟩
/-- the core: the new list stands owned -/
theorem lc_own {wi : TI} {g : TG} {tt : TT} {vs : List Nat} {xs ys : List PyData} (hw : Ei K wi ρ R xs R1) (hl : LcR K g tt te vs (wiped ρ vs) xs R1 ys Rz) (hz : xs.length ≤ sizeLine) :
    ∀ (R0 : List Ow) (F H : Hp) (σ : L2.St), Sls K F σ ρ → At K F (R ++ R0) H → ∀ Q : VK, (∀ p F1 H1, Ex F F1 → At K F1 (.ls p ys :: (Rz ++ R0)) H1 → Q (.ref p) H1) → tLc wi g tt te vs σ H Q := by
  intro R0 F H σ S A Q q
  refine hw R0 F H σ S A _ fun J F1 H1 x1 A1 W D hD => ?_
  obtain ⟨G, Y, w, hG, hY⟩ := W
  refine L2.lc_it w (fun i H' => ∃ F' R' acc rest, Ex F1 F' ∧ At K F' (.ls D acc :: (R' ++ R0)) H' ∧ LcR K g tt te vs (wiped ρ vs) (xs.drop i) R' rest Rz ∧ acc ++ rest = ys ∧ acc.length ≤ i) ?_ ?_ ?_ ?_
  · exact ⟨F1, R1, [], ys, Ex.refl F1, A1.own1 hD .nil, by simpa using hl, rfl, Nat.le_refl _⟩
  · rintro i H' hi ⟨F', R', acc, rest, x, A', _⟩
    exact hG F' _ H' x A'
  · rintro i v H' H'' hi ⟨F', R', acc, rest, x, A', hr, hy, hac⟩ y
    obtain ⟨d, hd⟩ : ∃ d, xs[i]? = some d := ⟨xs[i], List.getElem?_eq_getElem hi⟩
    obtain ⟨F2, x2, A2, d2⟩ := hY i v d F' _ H' H'' x A' y hd
    have hdrop : xs.drop i = d :: xs.drop (i + 1) := by
      rw [List.drop_eq_getElem_cons hi]
      rw [List.getElem?_eq_getElem hi] at hd
      cases hd; rfl
    rw [hdrop] at hr
    have S2 : Sls K F2 (wipe σ vs) (wiped ρ vs) := ((S.mono (x1.trans (x.trans x2))).wipe vs)
    cases hr with
    | keep hg ht he hr =>
      rename_i y0 ys0 R1' R2' ρ'
      refine hg _ F2 H'' _ v S2 A2 d2 _ fun σ2 S3 hwp => ⟨by rw [hwp, wipe_idem], ?_⟩
      have A3 : At K F2 (R' ++ (.ls D acc :: R0)) H'' := A2.perm List.perm_middle.symm
      refine ht (.ls D acc :: R0) F2 H'' σ2 S3 A3 _ fun F3 H3 x3 A3' => ?_
      refine iteT ?_
      refine he (.ls D acc :: R0) F3 H3 σ2 (S3.mono x3) A3' _ fun yv F4 H4 x4 A4 e4 => ?_
      obtain ⟨_, avs, ha1, ha2⟩ := A4.own (.ls D acc) (by simp)
      refine ⟨avs, ha1, ?_, ?_⟩
      · rw [ha2.len]; omega
      · refine ⟨F4, R2', acc ++ [y0], ys0, (x.trans x2).trans (x3.trans x4), ?_, hr, by rw [List.append_assoc]; exact hy, by rw [List.length_append]; simp; omega⟩
        exact (At.updL A4 (ha2.append (.cons e4 .nil))).perm List.perm_middle
    | skip hg ht hr =>
      rename_i R1' ρ'
      refine hg _ F2 H'' _ v S2 A2 d2 _ fun σ2 S3 hwp => ⟨by rw [hwp, wipe_idem], ?_⟩
      have A3 : At K F2 (R' ++ (.ls D acc :: R0)) H'' := A2.perm List.perm_middle.symm
      refine ht (.ls D acc :: R0) F2 H'' σ2 S3 A3 _ fun F3 H3 x3 A3' => ?_
      refine iteF ?_
      exact ⟨F3, R1', acc, rest, (x.trans x2).trans x3, A3'.perm List.perm_middle, hr, hy, by omega⟩
  · rintro H' ⟨F', R', acc, rest, x, A', hr, hy, hac⟩
    rw [List.drop_length] at hr
    cases hr
    rw [List.append_nil] at hy
    subst hy
    exact q D F' H' (x1.trans x) A'
theorem ev_lc {wi : TI} {g : TG} {tt : TT} {vs : List Nat} {xs ys : List PyData} (hw : Ei K wi ρ R xs R1) (hl : LcR K g tt te vs (wiped ρ vs) xs R1 ys Rz) (hz : xs.length ≤ sizeLine) : Ev K (tLc wi g tt te vs) ρ R (.d (.list ys)) Rz := fun R0 F H σ S A Q q =>
  lc_own hw hl hz R0 F H σ S A Q fun p F1 H1 x1 A1 => by
    obtain ⟨F2, x2, A2, d⟩ := A1.freeze
    exact q _ F2 H1 (x1.trans x2) A2 d
/-- x = [..], the list still owned -/
theorem es_setLcO {wi : TI} {g : TG} {tt : TT} {vs : List Nat} {xs ys : List PyData} {i : Nat} {P : Post} (hw : Ei K wi ρ R xs R1) (hl : LcR K g tt te vs (wiped ρ vs) xs R1 ys Rz) (hz : xs.length ≤ sizeLine) (hn : ∀ p, P.nx (ρ.set i (.o p)) (Rz ++ [.ls p ys])) : Es K (tAsg (tLc wi g tt te vs) (gName i)) ρ R P := fun R0 F H σ D S A p =>
  lc_own hw hl hz R0 F H σ S A _ fun a F1 H1 x1 A1 => p.nx _ _ _ F1 H1 (hn a) x1 ((S.mono x1).set i (e := .o a) rfl) (by
    rw [List.append_assoc]
    exact A1.perm List.perm_middle.symm)
theorem lcr_map {g : TG} {vs : List Nat} {f : PyData → PyData} {ds : List PyData} (h : ∀ d ∈ ds, ∃ ρ', EgW K g vs (.d d) ρ ρ' ∧ Ev K te ρ' R (.d (f d)) R) : LcR K g tYes te vs ρ ds R (ds.map f) R := by
  induction ds with
  | nil => exact .nil
  | cons d ds ih =>
    obtain ⟨ρ', h1, h2⟩ := h d (by simp)
    exact .keep h1 et_yes h2 (ih fun d hd => h d (by simp [hd]))
theorem lcr_filter {g : TG} {tt : TT} {vs : List Nat} {p : PyData → Bool} {f : PyData → PyData} {ds : List PyData} (h : ∀ d ∈ ds, ∃ ρ', EgW K g vs (.d d) ρ ρ' ∧ Et K tt ρ' R (p d) R ∧ (p d = true → Ev K te ρ' R (.d (f d)) R)) : LcR K g tt te vs ρ ds R ((ds.filter p).map f) R := by
  induction ds with
  | nil => exact .nil
  | cons d ds ih =>
    obtain ⟨ρ', h1, h2, h3⟩ := h d (by simp)
    have ih := ih fun d hd => h d (by simp [hd])
    cases hp : p d with
    | true => rw [hp] at h2; rw [List.filter_cons, if_pos hp]; exact .keep h1 h2 (h3 hp) ih
    | false => rw [hp] at h2; rw [List.filter_cons, if_neg (by rw [hp]; decide)]; exact .skip h1 h2 ih
end
end Fx

namespace Fx
open PySem PySem.Spec PyProof.Rows L2 StX RZ
section
variable {K : PySem.W.Frag} {ρ ρ' : List En} {R R1 Rz R3 : List Ow} {e e1 e2 x y z : En} {ta tb tc te tl : TE} {t u : TT} {r : L2.R2}

theorem ev_v {w : V} : Ev K (tC w) ρ R (.v w) R := fun R0 F H σ S A Q q => q _ F H (Ex.refl F) A rfl
theorem ens1 {F : Hp} {vs : List V} (h : Ens K F vs [x]) : ∃ v, vs = [v] ∧ EnOk K F v x := by
  cases h with
  | cons a b => cases b; exact ⟨_, rfl, a⟩
theorem ens2 {F : Hp} {vs : List V} (h : Ens K F vs [x, y]) : ∃ v w, vs = [v, w] ∧ EnOk K F v x ∧ EnOk K F w y := by
  cases h with
  | cons a b =>
    cases b with
    | cons b c => cases c; exact ⟨_, _, rfl, a, b⟩
theorem Dt.listD {F : Hp} {v : V} {ds : List PyData} (h : Dt K F v (.list ds)) : ∃ a vs, v = .ref a ∧ F a = some (.lst vs) ∧ Dts K F vs ds := by
  cases h with
  | lst a b => exact ⟨_, _, rfl, a, b⟩
theorem Dt.tupD {F : Hp} {v : V} {ds : List PyData} (h : Dt K F v (.tuple ds)) : ∃ a vs, v = .ref a ∧ SqT K F a vs ∧ Dts K F vs ds := by
  cases h with
  | tup a b => exact ⟨_, _, rfl, a, b⟩
theorem At.sqL {F H : Hp} {a : Addr} {vs : List V} (A : At K F R H) (h : F a = some (.lst vs)) : SqL K H a vs := .inl (.inl (A.ex _ _ h))
theorem At.sqT {F H : Hp} {a : Addr} {vs : List V} (A : At K F R H) (h : SqT K F a vs) : SqT K H a vs := ex_t A.ex h
/-! ### built-ins -/
def rLenS (K : PySem.W.Frag) : List V → Hp → VK → Prop := fun xs H Q => ∃ p ys, xs = [.ref p] ∧ (SqL K H p ys ∨ SqT K H p ys) ∧ Q (.int ys.length) H
theorem rc_lenL {ds : List PyData} : RcK K (rLenS K) [.d (.list ds)] R (.d (.int (ds.length : Int))) := fun R0 F H vs E A Q q => by
  obtain ⟨v, rfl, h⟩ := ens1 E
  obtain ⟨a, ws, rfl, h1, h2⟩ := Dt.listD h
  exact ⟨a, ws, rfl, .inl (A.sqL h1), by rw [h2.len]; exact q _ F H (Ex.refl F) A (.int _)⟩
theorem rc_lenT {ds : List PyData} : RcK K (rLenS K) [.d (.tuple ds)] R (.d (.int (ds.length : Int))) := fun R0 F H vs E A Q q => by
  obtain ⟨v, rfl, h⟩ := ens1 E
  obtain ⟨a, ws, rfl, h1, h2⟩ := Dt.tupD h
  exact ⟨a, ws, rfl, .inr (A.sqT h1), by rw [h2.len]; exact q _ F H (Ex.refl F) A (.int _)⟩
theorem rc_lenO {Ra Rb : List Ow} {a : Addr} {ds : List PyData} : RcK K (rLenS K) [.o a] (Ra ++ .ls a ds :: Rb) (.d (.int (ds.length : Int))) := fun R0 F H vs E A Q q => by
  obtain ⟨v, rfl, h⟩ := ens1 E
  cases h
  obtain ⟨_, ws, h1, h2⟩ := A.own (.ls a ds) (by simp)
  exact ⟨a, ws, rfl, .inl (.inl (.inl h1)), by rw [h2.len]; exact q _ F H (Ex.refl F) A (.int _)⟩
theorem rc_sum {ns : List Int} : RcK K (rSum K) [.d (.list (ns.map .int))] R (.d (.int ns.sum)) := fun R0 F H vs E A Q q => by
  obtain ⟨v, rfl, h⟩ := ens1 E
  obtain ⟨a, ws, rfl, h1, h2⟩ := Dt.listD h
  rw [h2.ints] at h1
  exact ⟨a, ns, rfl, A.sqL h1, q _ F H (Ex.refl F) A (.int _)⟩
def minI : List Int → Int
  | [] => 0
  | [x] => x
  | x :: y :: r => if x ≤ minI (y :: r) then x else minI (y :: r)
theorem minI_mem : ∀ {l : List Int}, l ≠ [] → minI l ∈ l
  | [], h => absurd rfl h
  | [x], _ => by simp [minI]
  | x :: y :: r, _ => by
    unfold minI
    split
    · exact List.mem_cons_self ..
    · exact List.mem_cons_of_mem _ (minI_mem (by simp))
theorem minI_le : ∀ {l : List Int} {y : Int}, y ∈ l → minI l ≤ y
  | [], y, h => by simp at h
  | [x], y, h => by simp at h; subst h; exact Int.le_refl _
  | x :: z :: r, y, h => by
    unfold minI
    rcases List.mem_cons.mp h with rfl | h
    · split
      · exact Int.le_refl _
      · omega
    · have := minI_le h
      split
      · omega
      · exact this
theorem minI_eq {l : List Int} {m : Int} (h : m ∈ l) (h2 : ∀ y ∈ l, m ≤ y) : m = minI l := Int.le_antisymm (h2 _ (minI_mem fun e => by simp [e] at h)) (minI_le h)
theorem rc_min {ns : List Int} (hn : ns ≠ []) : RcK K (rMin K) [.d (.list (ns.map .int))] R (.d (.int (minI ns))) := fun R0 F H vs E A Q q => by
  obtain ⟨v, rfl, h⟩ := ens1 E
  obtain ⟨a, ws, rfl, h1, h2⟩ := Dt.listD h
  rw [h2.ints] at h1
  refine ⟨a, ns, rfl, A.sqL h1, List.length_pos_iff.mpr hn, fun m h3 h4 => ?_⟩
  rw [minI_eq h3 h4]
  exact q _ F H (Ex.refl F) A (.int _)
def rListS (K : PySem.W.Frag) : List V → Hp → VK → Prop := fun xs H Q => ∃ p ys, xs = [.ref p] ∧ (SqL K H p ys ∨ SqT K H p ys) ∧ ∀ l, H l = none → Q (.ref l) (upd H l (.lst ys))
theorem rc_listT {ds : List PyData} : RcK K (rListS K) [.d (.tuple ds)] R (.d (.list ds)) := fun R0 F H vs E A Q q => by
  obtain ⟨v, rfl, h⟩ := ens1 E
  obtain ⟨a, ws, rfl, h1, h2⟩ := Dt.tupD h
  refine ⟨a, ws, rfl, .inr (A.sqT h1), fun p hp => ?_⟩
  obtain ⟨x, A1⟩ := A.new (.lst ws) hp
  exact q _ _ _ x A1 (.lst upd_same (h2.mono x _))
def rTupS (K : PySem.W.Frag) : List V → Hp → VK → Prop := fun xs H Q => ∃ p ys, xs = [.ref p] ∧ ((SqL K H p ys ∧ ∀ l, H l = none → Q (.ref l) (upd H l (.tup ys))) ∨ (SqT K H p ys ∧ Q (.ref p) H))
theorem rc_tupL {ds : List PyData} : RcK K (rTupS K) [.d (.list ds)] R (.d (.tuple ds)) := fun R0 F H vs E A Q q => by
  obtain ⟨v, rfl, h⟩ := ens1 E
  obtain ⟨a, ws, rfl, h1, h2⟩ := Dt.listD h
  refine ⟨a, ws, rfl, .inl ⟨A.sqL h1, fun p hp => ?_⟩⟩
  obtain ⟨x, A1⟩ := A.new (.tup ws) hp
  exact q _ _ _ x A1 (.tup (.inl (.inl upd_same)) (h2.mono x _))
theorem rc_tupO {Ra Rb : List Ow} {a : Addr} {ds : List PyData} : RcK K (rTupS K) [.o a] (Ra ++ .ls a ds :: Rb) (.d (.tuple ds)) := fun R0 F H vs E A Q q => by
  obtain ⟨v, rfl, h⟩ := ens1 E
  cases h
  obtain ⟨_, ws, h1, h2⟩ := A.own (.ls a ds) (by simp)
  refine ⟨a, ws, rfl, .inl ⟨.inl (.inl h1), fun p hp => ?_⟩⟩
  obtain ⟨x, A1⟩ := A.new (.tup ws) hp
  exact q _ _ _ x A1 (.tup (.inl (.inl upd_same)) (h2.mono x _))
theorem rc_all {bs : List Bool} : RcK K (rAll K) [.d (.list (bs.map .bool))] R (.d (.bool (bs.all id))) := fun R0 F H vs E A Q q => by
  obtain ⟨v, rfl, h⟩ := ens1 E
  obtain ⟨a, ws, rfl, h1, h2⟩ := Dt.listD h
  rw [h2.bools] at h1
  exact ⟨a, bs, rfl, A.sqL h1, q _ F H (Ex.refl F) A (.bl _)⟩
def rAbsS : List V → Hp → VK → Prop := fun xs H Q => ∃ i, xs = [.int i] ∧ Q (.int (if i < 0 then -i else i)) H
theorem rc_abs {i : Int} : RcK K rAbsS [.d (.int i)] R (.d (.int (if i < 0 then -i else i))) := fun R0 F H vs E A Q q => by
  obtain ⟨v, rfl, h⟩ := ens1 E
  cases h
  exact ⟨i, rfl, q _ F H (Ex.refl F) A (.int _)⟩
def rIntS : List V → Hp → VK → Prop := fun xs H Q => (∃ i, xs = [.int i] ∧ Q (.int i) H) ∨ ∃ k, xs = [.bl k] ∧ Q (.int (if k then 1 else 0)) H
theorem rc_int {i : Int} : RcK K rIntS [.d (.int i)] R (.d (.int i)) := fun R0 F H vs E A Q q => by
  obtain ⟨v, rfl, h⟩ := ens1 E
  cases h
  exact .inl ⟨i, rfl, q _ F H (Ex.refl F) A (.int _)⟩
/-! ### isinstance -/
def kindD : PyData → String
  | .none => "NoneType"
  | .bool _ => "bool"
  | .int _ => "int"
  | .str _ => "str"
  | .list _ => "list"
  | .tuple _ => "tuple"
  | .dict _ => "dict"
theorem rc_isi {d : PyData} {n : String} {b : Bool} (hb : kitB (kindD d) n = some b) : RcK K (rIsi K) [.d d, .v (.ty n)] R (.d (.bool b)) := fun R0 F H vs E A Q q => by
  obtain ⟨v, w, rfl, h, h'⟩ := ens2 E
  cases h'
  refine ⟨v, .ty n, .type (kindD d), .type n, b, rfl, .ty n, ?_, kit_ty hb, q _ F H (Ex.refl F) A (.bl _)⟩
  cases h with
  | non => exact .base .non
  | bl _ => exact .base (.bl _)
  | int _ => exact .base (.int _)
  | str _ => exact .base (.str _)
  | lst h1 h2 => exact .base (.lst (A.ex _ _ h1))
  | tup h1 h2 =>
    rcases A.sqT h1 with (h | ⟨o, h⟩) | ⟨o, _, _, h, hc, _⟩
    · exact .base (.tup h)
    · exact .fTuple h
    · exact .kTuple h hc
/-! ### truth of a value, as a test -/
theorem et_tru {d : PyData} (h : Ev K ta ρ R (.d d) R1) (hn : ∀ s, d = .str s → s.length ≤ sizeLine) : Et K (fun σ H Q => ta σ H fun x H' => ∃ k, TruV K x H' k ∧ Q k H') ρ R (truD d) R1 := fun R0 F H σ S A Q q =>
  h R0 F H σ S A _ fun v F1 H1 x1 A1 e1 => by
    refine ⟨truD d, ?_, q F1 H1 x1 A1⟩
    cases e1 with
    | non => exact rfl
    | bl _ => exact rfl
    | int _ => exact rfl
    | str s =>
      refine ⟨hn s rfl, ?_⟩
      show (s.cps.size != 0) = ((s.cps.size : Int) != 0)
      cases h : s.cps.size with
      | zero => rfl
      | succ n =>
        have h2 : ((n + 1 : Nat) : Int) ≠ 0 := by omega
        rw [bne_iff_ne.mpr (Nat.succ_ne_zero n), bne_iff_ne.mpr h2]
    | lst h1 h2 =>
      refine .inl ⟨_, A1.sqL h1, ?_⟩
      cases h2 <;> rfl
    | tup h1 h2 =>
      refine .inr (.inl ⟨_, A1.sqT h1, ?_⟩)
      cases h2 <;> rfl
/-! ### slices -/
def Eo (K : PySem.W.Frag) (to : TO) (ρ : List En) (R : List Ow) (o : Option Int) (R' : List Ow) : Prop :=
  ∀ (R0 : List Ow) (F H : Hp) (σ : L2.St), Sls K F σ ρ → At K F (R ++ R0) H → ∀ Q : Option Int → Hp → Prop, (∀ F1 H1, Ex F F1 → At K F1 (R' ++ R0) H1 → Q o H1) → to σ H Q
theorem eo_no : Eo K tNoPart ρ R none R := fun R0 F H σ S A Q q => q F H (Ex.refl F) A
theorem eo_some {i : Int} (h : Ev K te ρ R (.d (.int i)) R1) : Eo K (tPart te) ρ R (some i) R1 := fun R0 F H σ S A Q q =>
  h R0 F H σ S A _ fun v F1 H1 x1 A1 e1 => by cases e1; exact ⟨i, rfl, q F1 H1 x1 A1⟩
def cutD (xs : List PyData) (lo hi : Option Int) : List PyData := (xs.drop (HT.sIx xs.length 0 lo)).take (HT.sIx xs.length xs.length hi - HT.sIx xs.length 0 lo)
theorem Dts.cut {F : Hp} {vs : List V} {ds : List PyData} (h : Dts K F vs ds) (lo hi : Option Int) : Dts K F (cutV vs lo hi) (cutD ds lo hi) := by
  unfold cutV cutD
  rw [h.len]
  exact (h.drop _).take _
theorem ev_slL {t1 t2 : TO} {ds : List PyData} {lo hi : Option Int} (h : Ev K te ρ R (.d (.list ds)) R1) (h1 : Eo K t1 ρ R1 lo Rz) (h2 : Eo K t2 ρ Rz hi R3) : Ev K (tSl (rSlL K) te t1 t2) ρ R (.d (.list (cutD ds lo hi))) R3 := fun R0 F H σ S A Q q =>
  h R0 F H σ S A _ fun v F1 H1 x1 A1 e1 => h1 R0 F1 H1 σ (S.mono x1) A1 _ fun F2 H2 x2 A2 => h2 R0 F2 H2 σ (S.mono (x1.trans x2)) A2 _ fun F3 H3 x3 A3 => by
    obtain ⟨a, ws, rfl, h4, h5⟩ := Dt.listD (e1.mono (x2.trans x3))
    refine ⟨a, ws, rfl, A3.sqL h4, fun p hp => ?_⟩
    obtain ⟨x, A4⟩ := A3.new (.lst (cutV ws lo hi)) hp
    exact q _ _ _ (x1.trans (x2.trans (x3.trans x))) A4 (.lst upd_same ((h5.mono x _).cut lo hi))
theorem ev_slT {t1 t2 : TO} {ds : List PyData} {lo hi : Option Int} (h : Ev K te ρ R (.d (.tuple ds)) R1) (h1 : Eo K t1 ρ R1 lo Rz) (h2 : Eo K t2 ρ Rz hi R3) : Ev K (tSl (rSlA K) te t1 t2) ρ R (.d (.tuple (cutD ds lo hi))) R3 := fun R0 F H σ S A Q q =>
  h R0 F H σ S A _ fun v F1 H1 x1 A1 e1 => h1 R0 F1 H1 σ (S.mono x1) A1 _ fun F2 H2 x2 A2 => h2 R0 F2 H2 σ (S.mono (x1.trans x2)) A2 _ fun F3 H3 x3 A3 => by
    have e3 := EnOk.mono (x2.trans x3) e1
    obtain ⟨a, ws, rfl, h4, h5⟩ := Dt.tupD e3
    refine ⟨a, ws, rfl, A3.sqT h4, fun hw => ?_, fun _ p hp => ?_⟩
    · refine q _ _ _ (x1.trans (x2.trans x3)) A3 ?_
      rw [h5.len] at hw
      have : cutD ds lo hi = ds := by
        unfold cutD
        rw [hw.1, hw.2]
        simp
      rw [this]
      exact e3
    · obtain ⟨x, A4⟩ := A3.new (.tup (cutV ws lo hi)) hp
      exact q _ _ _ (x1.trans (x2.trans (x3.trans x))) A4 (.tup (.inl (.inl upd_same)) ((h5.mono x _).cut lo hi))
/-! ### owned lists: append, pop, store -/
theorem at_ls {F H : Hp} {a : Addr} {ds : List PyData} {Ra Rb R0 : List Ow} (A : At K F ((Ra ++ .ls a ds :: Rb) ++ R0) H) : ∃ vs, H a = some (.lst vs) ∧ Dts K F vs ds := by
  obtain ⟨_, vs, h1, h2⟩ := A.own (.ls a ds) (by simp)
  exact ⟨vs, h1, h2⟩
theorem ev_append {to : TE} {ts : TA} {a : Addr} {ds ds0 : List PyData} {d : PyData} {Ra Rb : List Ow} (ho : Ev K to ρ R (.o a) R1) (hm : .ls a ds0 ∈ R1) (hd : Ea K ts ρ R1 [.d d] (Ra ++ .ls a ds :: Rb)) (hl : ds.length < sizeLine) :
    Ev K (tBM K "list" rAppend to ts) ρ R (.d .none) (Ra ++ .ls a (ds ++ [d]) :: Rb) := fun R0 F H σ S A Q q =>
  ho R0 F H σ S A _ fun v F1 H1 x1 A1 e1 => by
    cases e1
    obtain ⟨_, ws, h1, h2⟩ := A1.own (.ls a ds0) (by simp [hm])
    refine ⟨.inl ⟨rfl, ws, .inl (.inl h1)⟩, hd R0 F1 H1 σ (S.mono x1) A1 _ fun vs F2 H2 x2 A2 e2 => ?_⟩
    obtain ⟨w, rfl, hw⟩ := ens1 e2
    obtain ⟨us, h3, h4⟩ := at_ls A2
    refine ⟨a, us, w, rfl, rfl, h3, by rw [h4.len]; exact hl, ?_⟩
    refine q _ F2 _ (x1.trans x2) ?_ .non
    rw [List.append_assoc, List.cons_append] at A2 ⊢
    exact A2.updL (h4.append (.cons hw .nil))
theorem ev_pop {to : TE} {a : Addr} {ds : List PyData} {d : PyData} {Ra Rb : List Ow} (ho : Ev K to ρ R (.o a) (Ra ++ .ls a (ds ++ [d]) :: Rb)) :
    Ev K (tBM0 K "list" rPop to) ρ R (.d d) (Ra ++ .ls a ds :: Rb) := fun R0 F H σ S A Q q =>
  ho R0 F H σ S A _ fun v F1 H1 x1 A1 e1 => by
    cases e1
    obtain ⟨ws, h3, h4⟩ := at_ls A1
    have hlen := h4.len
    rw [List.length_append, List.length_singleton] at hlen
    obtain ⟨w, hw, hd⟩ := h4.get (i := ws.length - 1) (d := d) (by rw [hlen]; simp)
    refine ⟨.inl ⟨rfl, ws, .inl (.inl h3)⟩, a, ws, w, rfl, rfl, h3, hw, ?_⟩
    refine q _ F1 _ x1 ?_ hd
    have h5 : Dts K F1 ws.dropLast ds := by
      rw [List.dropLast_eq_take, hlen]
      have := h4.take ds.length
      rw [List.take_left] at this
      exact this
    rw [List.append_assoc, List.cons_append] at A1 ⊢
    exact A1.updL h5
/-- an item of a raw list -/
theorem rv_ixR {a b : Addr} {vs : List V} {i : Int} (hm : .rw a (.lst vs) ∈ R) (h : L2.atI vs i = some (.ref b)) : Rv K (rIxL K) (.o a) (.d (.int i)) R (.o b) := fun R0 F H v u hv hu A Q q => by
  cases hu; cases hv
  obtain ⟨_, h1⟩ := A.own (.rw a (.lst vs)) (by simp [hm])
  exact ⟨a, vs, i, _, rfl, rfl, .inl (.inl h1), h, q _ F H (Ex.refl F) A rfl⟩
theorem rv_ixRi {a : Addr} {vs : List V} {i j : Int} (hm : .rw a (.lst vs) ∈ R) (h : L2.atI vs i = some (.int j)) : Rv K (rIxL K) (.o a) (.d (.int i)) R (.d (.int j)) := fun R0 F H v u hv hu A Q q => by
  cases hu; cases hv
  obtain ⟨_, h1⟩ := A.own (.rw a (.lst vs)) (by simp [hm])
  exact ⟨a, vs, i, _, rfl, rfl, .inl (.inl h1), h, q _ F H (Ex.refl F) A (.int j)⟩
theorem At.updR {F H : Hp} {a : Addr} {o o' : HO} {Ra Rb : List Ow} (A : At K F (Ra ++ .rw a o :: Rb) H) : At K F (Ra ++ .rw a o' :: Rb) (upd H a o') := by
  have hF : F a = none := (A.own (.rw a o) (by simp)).1
  have nd : ((Ra ++ .rw a o :: Rb).map Ow.ad).Nodup := A.nd
  refine ⟨A.ex.side hF, by simpa [Ow.ad] using nd, fun r hr => ?_⟩
  have key : ∀ r, r ∈ Ra ∨ r ∈ Rb → r.ad ≠ a := by
    intro r hr e
    rw [List.map_append, List.map_cons, List.nodup_append] at nd
    obtain ⟨n1, n2, n3⟩ := nd
    rcases hr with hr | hr
    · exact n3 r.ad (List.mem_map_of_mem hr) a (by simp [Ow.ad]) e
    · rw [List.nodup_cons] at n2
      exact n2.1 (by show a ∈ _; rw [← e]; exact List.mem_map_of_mem hr)
  simp only [List.mem_append, List.mem_cons] at hr
  rcases hr with hr | rfl | hr
  · obtain ⟨h1, h2⟩ := A.own r (by simp [hr])
    exact ⟨h1, h2.mono (Ex.refl F) fun o q => by rw [upd_ne (key r (.inl hr))]; exact q⟩
  · exact ⟨hF, upd_same⟩
  · obtain ⟨h1, h2⟩ := A.own r (by simp [hr])
    exact ⟨h1, h2.mono (Ex.refl F) fun o q => by rw [upd_ne (key r (.inr hr))]; exact q⟩
/-- a raw list's item stored: an int -/
theorem es_storeR {to ti : TE} {P : Post} {a : Addr} {vs : List V} {k i : Int} {j : Nat} {Ra Rb : List Ow} (h : Ev K te ρ R (.d (.int k)) R1) (ho : Ev K to ρ R1 (.o a) Rz) (hi : Ev K ti ρ Rz (.d (.int i)) (Ra ++ .rw a (.lst vs) :: Rb)) (hj : ixN vs.length i = some j)
    (hn : P.nx ρ (Ra ++ .rw a (.lst (vs.set j (.int k))) :: Rb)) : Es K (tAsg te (gSub to ti rSetL)) ρ R P := fun R0 F H σ D S A p =>
  h R0 F H σ S A _ fun v F1 H1 x1 A1 e1 => by
    cases e1
    exact ho R0 F1 H1 σ (S.mono x1) A1 _ fun w F2 H2 x2 A2 e2 => by
      cases e2
      exact hi R0 F2 H2 σ (S.mono (x1.trans x2)) A2 _ fun w3 F3 H3 x3 A3 e3 => by
        cases e3
        obtain ⟨_, h1⟩ := A3.own (.rw a (.lst vs)) (by simp)
        refine ⟨a, vs, i, j, rfl, rfl, h1, hj, p.nx _ _ σ F3 _ hn (x1.trans (x2.trans x3)) (S.mono (x1.trans (x2.trans x3))) ?_⟩
        rw [List.append_assoc, List.cons_append] at A3 ⊢
        exact A3.updR
/-- == of an owned list and data -/
theorem At.dpO {F H : Hp} {a : Addr} {ds : List PyData} {Ra Rb R0 : List Ow} (A : At K F ((Ra ++ .ls a ds :: Rb) ++ R0) H) : Dp K H (.ref a) (.list ds) := by
  obtain ⟨vs, h1, h2⟩ := at_ls A
  exact .lst (.inl (.inl h1)) (Dts.dp ds (Dts.mono A.ex ds h2))
theorem rv_neO {a : Addr} {ds : List PyData} {d : PyData} {Ra Rb : List Ow} (h1 : SeqAt.shaped (.list ds) = true) (h2 : SeqAt.shaped d = true) : Rv K (rNeD K) (.o a) (.d d) (Ra ++ .ls a ds :: Rb) (.d (.bool (!PyData.eqv (.list ds) d))) := fun R0 F H v u hv hu A Q q => by
  cases hv
  exact ⟨.list ds, d, A.dpO, (Dt.mono A.ex d hu).dp, h1, h2, q _ F H (Ex.refl F) A (.bl _)⟩
/-- a new empty list that will grow -/
theorem es_setO {P : Post} {i : Nat} (hn : ∀ p, P.nx (ρ.set i (.o p)) (R ++ [.ls p []])) : Es K (tAsg (tLst tNil) (gName i)) ρ R P := fun R0 F H σ D S A p =>
  ⟨Nat.zero_le _, fun a ha => p.nx _ _ _ F _ (hn a) (Ex.refl F) (S.set i (e := .o a) rfl) (by
    rw [List.append_assoc]
    exact (A.own1 ha .nil).perm List.perm_middle.symm)⟩
end
end Fx

namespace Fx
open PySem PySem.Spec PyProof.Rows L2 StX RZ
section
variable {X : Cx}
/-! ### one rule for all kinds -/
def rAddA (K : PySem.W.Frag) : L2.R2 := fun x y H Q => (rI0 (fun i j => .int (i + j)) x y H Q ∨ rCat x y H Q) ∨ rCatA K x y H Q
theorem opAdd {K : PySem.W.Frag} (h : X.K = K := by rfl) : OpR X (binaryOp .Add) (rAddA K) := by subst h; exact OpR.or (OpR.or op_add op_cat) op_catA
def rIxA (K : PySem.W.Frag) : L2.R2 := fun x y H Q => rIxL K x y H Q ∨ rIxT K x y H Q
theorem ixAny {K : PySem.W.Frag} (h : X.K = K := by rfl) : IxR X (rIxA K) := by subst h; exact IxR.or ix_list ix_tup
def rSlAny (K : PySem.W.Frag) : V → Option Int → Option Int → Hp → VK → Prop := fun x lo hi H Q => rSlL K x lo hi H Q ∨ rSlA K x lo hi H Q
theorem slAny {K : PySem.W.Frag} (h : X.K = K := by rfl) : SlR X (rSlAny K) := by subst h; exact SlR.or sl_list sl_tupA
def iAny (K : PySem.W.Frag) (te : TE) : TI := fun σ H R => iList K te σ H R ∨ iTup K te σ H R
theorem piAny {K : PySem.W.Frag} {tg l : Expr} {tl : TE} (hl : PE X l tl) (hK : X.K = K := by rfl) : PI X tg l (iAny K tl) := ⟨fun pins s σ H R I h => by
  subst hK
  rcases h with h | h
  · exact (pi_list hl).run pins s σ H R I h
  · exact (pi_tup hl).run pins s σ H R I h⟩
theorem opMul : OpR X (binaryOp .Mult) (rI CMulW fun i j => .int (i * j)) := op_mulW
theorem opDiv : OpR X (binaryOp .FloorDiv) (rI CDivW fun i j => .int (i / j)) := op_fdivW
theorem pe_rev {e : Expr} {te : TE} {k : Nat} {p1 p2 p3 pos : Pos} {K : PySem.W.Frag} (he : PE X e te) (hK : X.K = K := by rfl) : PE X (.Subscript e (.Slice none none (some (.UnaryOp .USub (.Constant (.int 1) k p1) p2)) p3) pos) (tRevL K te) := by subst hK; exact pe_revL he
/-! ### calls by names alone -/
section
variable {CX : CXT} {k : Nat} {f : Addr} {fd : FuncData} {ps ks : List Str} {sp : Sp} {E : XK} {x : Str} {p pos : Pos} {tk : TA} {kws : List Keyword}
  {g : List Value → List Value → List Value} {gV : List V → List V → List V}
def tCallKO (sp : Sp) (gV : List V → List V → List V) (E : XK) (tk : TA) : TE := fun σ H Q => tk σ H fun zs H2 => sp (gV [] zs) H2 Q E
theorem pe_callKO (F : FnOk X.prog X.w X.K X.mg X.base CX k f fd ps sp) (hr : Room k X.A) (hg : Gl X x) (hm : X.mg x = some (.ref f)) (hk : PySem.W.keepIn X.K (.ref f) = true) (hb : KBinds X.K fd ps ks g gV) (hx : Passes CX X E)
    (hkw : PK X kws tk) (hall : (backToKw pos (keywordEach kws X.env)).all (·.1.isSome) = true := by rfl) (hks : (backToKw pos (keywordEach kws X.env)).filterMap (·.1) = ks := by rfl)
    (hdb : (x == ("__debug__" : Str)) = false := by decide) (hpl : ((backTo pos (starEach [] X.env)).any (·.1) || (backToKw pos (keywordEach kws X.env)).any (·.1.isNone)) = false := by rfl) :
    PE X (.Call (.Name x p) [] kws pos) (tCallKO sp gV E tk) := by
  constructor
  intro pins s σ H Q I h
  apply wpAny_Call_Name_kw
  apply ld_glob I hg hm (hd := hdb)
  apply PySem.W.callWith_KW0 (h₀ := X.base) I.ok.mod.kin hk hall (hplain := hpl)
  refine thn (hkw.run pos pins s σ H _ I h) ?_
  rintro ws s2 ⟨zs, H2, I2, rz, q2⟩
  refine ⟨I2.kIn, ?_⟩
  rw [hks]
  exact run_fnk (us := []) (vs := []) F hr hb hx I2 .nil rz q2
end
/-! ### repr of data -/
def rRepr (K : PySem.W.Frag) : List V → Hp → VK → Prop := fun xs H Q => ∃ x d, xs = [x] ∧ Dp K H x d ∧ PyData.showable d = true ∧ PyData.hasDict d = false ∧ PyData.depth d ≤ 60 ∧ d.shown.length ≤ sizeLine ∧ Q (.str d.shown) H
theorem call_reprD {K : PySem.W.Frag} {k : Nat} (hr : Room k X.A) (hg : X.A.guards = some []) (hK : X.K = K := by rfl) : CallR X (.builtin "repr") (rRepr K) := by
  subst hK
  intro pins s σ H xs us Q I r h
  obtain ⟨x, d, rfl, hd, h1, h2, h3, h4, q⟩ := h
  cases r with
  | cons rx rr =>
    cases rr
    obtain ⟨as, hr'⟩ := Dp.reads I d x _ hd rx
    have hu := hr.un
    cases hd with
    | non =>
      cases rx
      exact PySem.P.repr_of_none ⟨.str _, H, I.tok _, ⟨_, rfl⟩, q⟩
    | bl b =>
      cases rx
      cases b with
      | true => exact PySem.P.repr_of_bool ⟨.str _, H, I.tok _, ⟨_, rfl⟩, q⟩
      | false => exact PySem.P.repr_of_bool ⟨.str _, H, I.tok _, ⟨_, rfl⟩, q⟩
    | int i =>
      obtain ⟨t, rfl⟩ := rx
      exact PySem.P.repr_of_int (of_decide_eq_true h1) ⟨.str _, H, I.tok _, ⟨_, rfl⟩, q⟩
    | str z =>
      obtain ⟨t, rfl⟩ := rx
      exact PySem.P.repr_of_str ⟨.str _, H, I.tok _, ⟨_, rfl⟩, q⟩ h4
    | lst ha hb =>
      cases rx
      exact repr_of_reads' hr' h1 (fun e => by rw [h2] at e; cases e) hg (by omega) (fun b o e => e) (fun h' u tk hk => ⟨.str _, H, I.kept hk, ⟨_, rfl⟩, q⟩) h4
    | tup ha hb =>
      cases rx
      exact repr_of_reads' hr' h1 (fun e => by rw [h2] at e; cases e) hg (by omega) (fun b o e => e) (fun h' u tk hk => ⟨.str _, H, I.kept hk, ⟨_, rfl⟩, q⟩) h4
/-! ### the same rules, the written part named -/
section
variable {K : PySem.W.Frag}
theorem callLen (hK : X.K = K := by rfl) : CallR X (.builtin "len") (rLenS K) := by subst hK; exact call_len_seq
theorem callTup (hK : X.K = K := by rfl) : CallR X (.type "tuple") (rTupS K) := by subst hK; exact call_tuple_of
theorem callLst (hK : X.K = K := by rfl) : CallR X (.type "list") (rListS K) := by subst hK; exact call_list_of
theorem callSum (hc : X.calm = true := by rfl) (hK : X.K = K := by rfl) : CallR X (.builtin "sum") (rSum K) := by subst hK; exact cr_sum hc
theorem callMin (hc : X.calm = true := by rfl) (hK : X.K = K := by rfl) : CallR X (.builtin "min") (rMin K) := by subst hK; exact cr_min hc
theorem callAll (hc : X.calm = true := by rfl) (hK : X.K = K := by rfl) : CallR X (.builtin "all") (rAll K) := by subst hK; exact cr_all hc
theorem callIsi (hK : X.K = K := by rfl) : CallR X (.builtin "isinstance") (rIsi K) := by subst hK; exact call_isi
theorem callInt : CallR X (.type "int") rIntS := call_int1
theorem callAbs : CallR X (.builtin "abs") rAbsS := call_abs
theorem opEqD {k : Nat} (hr : Room k X.A) (hK : X.K = K := by rfl) : OpR X (compareOp .Eq) (rEqD K) := by subst hK; exact op_eqD hr.units
theorem opNeD {k : Nat} (hr : Room k X.A) (hK : X.K = K := by rfl) : OpR X (compareOp .NotEq) (rNeD K) := by subst hK; exact op_neD hr.units
theorem piZip {e e2 : Expr} {ta : TA} {p pos tpos : Pos} {elts : List Expr} {kk : Nat} (hg : Gl X "zip") (hm : X.mg "zip" = none) (ha : PA X [e, e2] ta) (hs : starEach [e, e2] X.env = (false, eval e X.env) :: starEach [e2] X.env := by rfl)
    (hpl : (backTo pos (starEach [e2] X.env)).any (·.1) = false := by rfl) (hK : X.K = K := by rfl) : PI X (.Tuple elts kk tpos) (.Call (.Name "zip" p) [e, e2] [] pos) (iZipA K ta) := by subst hK; exact pi_zipA hg hm ha hs hpl
theorem peBm {o e : Expr} {es : List Expr} {to : TE} {t : TA} {name : Str} {apos cpos : Pos} {id : String} {r : V → List V → Hp → VK → Prop} (slot : Slot "list" name id) (hty : typeOf (.builtin id) = pure (.type "method_descriptor")) (hm : MtR X id r) (ho : PE X o to) (ha : PA X (e :: es) t)
    (hbase : attributeBase o name X.env (eval o X.env) = eval o X.env := by rfl)
    (hfew : ((backTo cpos (starEach (e :: es) X.env)).all (fun x => !x.1) && (backToKw cpos (keywordEach [] X.env)).all (fun x => x.1.isSome) && decide ((e :: es).length + ([] : List Keyword).length + (if ([] : List Keyword).isEmpty then 0 else 1) < 30)) = true := by rfl)
    (hline : (apos.endLine == cpos.line) = true := by rfl) (hs : starEach (e :: es) X.env = (false, eval e X.env) :: starEach es X.env := by rfl) (hplain : (backTo cpos (starEach es X.env)).any (·.1) = false := by rfl) (hK : X.K = K := by rfl) :
    PE X (.Call (.Attribute o name apos) (e :: es) [] cpos) (tBM K "list" r to t) := by subst hK; exact pe_bm PySem.F.plainAttrs_list slot hty hm ho ha hbase hfew hline hs hplain
theorem peBm0 {o : Expr} {to : TE} {name : Str} {apos cpos : Pos} {id : String} {r : V → List V → Hp → VK → Prop} (slot : Slot "list" name id) (hty : typeOf (.builtin id) = pure (.type "method_descriptor")) (hm : MtR X id r) (ho : PE X o to)
    (hbase : attributeBase o name X.env (eval o X.env) = eval o X.env := by rfl) (hline : (apos.endLine == cpos.line) = true := by rfl) (hK : X.K = K := by rfl) : PE X (.Call (.Attribute o name apos) [] [] cpos) (tBM0 K "list" r to) := by
  subst hK; exact pe_bm0 PySem.F.plainAttrs_list slot hty hm ho hbase hline
theorem ptTruth {a : Expr} {ta : TE} (ha : PE X a ta) (he : ∀ whole, isTrue a X.env whole = (do let v ← whole; standAt a.pos; holding [v] (truthy v)) := by intro _; rfl) (hK : X.K = K := by rfl) : PT X a (fun σ H Q => ta σ H fun x H' => ∃ k, TruV K x H' k ∧ Q k H') := by subst hK; exact pt_truth ha he
theorem pgTup {es : List Expr} {k : Nat} {pos : Pos} {t : TGs} {n : Nat} (hc : X.calm = true) (h : PGs X es t) (hn : (assignEach es X.env).length = n := by rfl) (hst : (assignEach es X.env).findIdx? (·.1) = none := by rfl) (hK : X.K = K := by rfl) : PG X (.Tuple es k pos) (gTup K n t) := by subst hK; exact pg_tup hc h hn hst
theorem paStar {e : Expr} {es : List Expr} {te : TE} {t : TA} {p : Pos} (he : PE X e te) (hr : PA X es t) (hs : starEach (.Starred e p :: es) X.env = (true, eval e X.env) :: starEach es X.env := by rfl) (hK : X.K = K := by rfl) : PA X (.Starred e p :: es) (tStar K te t) := by subst hK; exact pa_star he hr hs
end
end
section
variable {K : PySem.W.Frag} {ρ ρ' : List En} {R R1 Rz R3 : List Ow} {e e1 e2 x y z : En} {ta tb tc te tl : TE} {t u : TT} {r : L2.R2}
theorem rv_addI {i j : Int} : Rv K (rAddA K) (.d (.int i)) (.d (.int j)) R (.d (.int (i + j))) := fun R0 F H v u hv hu A Q q => .inl (.inl (rv_int (g := fun i j => i + j) R0 F H v u hv hu A Q q))
theorem rv_addL {ds es : List PyData} (hl : ds.length + es.length ≤ sizeLine) : Rv K (rAddA K) (.d (.list ds)) (.d (.list es)) R (.d (.list (ds ++ es))) := fun R0 F H v u hv hu A Q q => .inl (.inr (rv_cat hl R0 F H v u hv hu A Q q))
theorem rv_addT {ds es : List PyData} (hl : ds.length + es.length ≤ sizeLine) : Rv K (rAddA K) (.d (.tuple ds)) (.d (.tuple es)) R (.d (.tuple (ds ++ es))) := fun R0 F H v u hv hu A Q q => .inr (rv_catT hl R0 F H v u hv hu A Q q)
theorem rv_iL {ds : List PyData} {i : Int} {d : PyData} (h : L2.atI ds i = some d) : Rv K (rIxA K) (.d (.list ds)) (.d (.int i)) R (.d d) := fun R0 F H v u hv hu A Q q => .inl (rv_ixL h R0 F H v u hv hu A Q q)
theorem rv_iT {ds : List PyData} {i : Int} {d : PyData} (h : L2.atI ds i = some d) : Rv K (rIxA K) (.d (.tuple ds)) (.d (.int i)) R (.d d) := fun R0 F H v u hv hu A Q q => .inr (rv_ixT h R0 F H v u hv hu A Q q)
theorem rv_iO {Ra Rb : List Ow} {a : Addr} {ds : List PyData} {i : Int} {d : PyData} (h : L2.atI ds i = some d) : Rv K (rIxA K) (.o a) (.d (.int i)) (Ra ++ .ls a ds :: Rb) (.d d) := fun R0 F H v u hv hu A Q q => .inl (rv_ixO h R0 F H v u hv hu A Q q)
theorem rv_iR {a b : Addr} {vs : List V} {i : Int} (hm : .rw a (.lst vs) ∈ R) (h : L2.atI vs i = some (.ref b)) : Rv K (rIxA K) (.o a) (.d (.int i)) R (.o b) := fun R0 F H v u hv hu A Q q => .inl (rv_ixR hm h R0 F H v u hv hu A Q q)
theorem rv_iRi {a : Addr} {vs : List V} {i j : Int} (hm : .rw a (.lst vs) ∈ R) (h : L2.atI vs i = some (.int j)) : Rv K (rIxA K) (.o a) (.d (.int i)) R (.d (.int j)) := fun R0 F H v u hv hu A Q q => .inl (rv_ixRi hm h R0 F H v u hv hu A Q q)
theorem ei_L {xs : List PyData} (h : Ev K tl ρ R (.d (.list xs)) R1) : Ei K (iAny K tl) ρ R xs R1 := fun R0 F H σ S A Q q => .inl (ei_list h R0 F H σ S A Q q)
theorem ei_T {xs : List PyData} (h : Ev K tl ρ R (.d (.tuple xs)) R1) : Ei K (iAny K tl) ρ R xs R1 := fun R0 F H σ S A Q q => .inr (ei_tup h R0 F H σ S A Q q)
theorem ev_sL {t1 t2 : TO} {ds : List PyData} {lo hi : Option Int} (h : Ev K te ρ R (.d (.list ds)) R1) (h1 : Eo K t1 ρ R1 lo Rz) (h2 : Eo K t2 ρ Rz hi R3) : Ev K (tSl (rSlAny K) te t1 t2) ρ R (.d (.list (cutD ds lo hi))) R3 := fun R0 F H σ S A Q q =>
  h R0 F H σ S A _ fun v F1 H1 x1 A1 e1 => h1 R0 F1 H1 σ (S.mono x1) A1 _ fun F2 H2 x2 A2 => h2 R0 F2 H2 σ (S.mono (x1.trans x2)) A2 _ fun F3 H3 x3 A3 => by
    obtain ⟨a, ws, rfl, h4, h5⟩ := Dt.listD (e1.mono (x2.trans x3))
    refine .inl ⟨a, ws, rfl, A3.sqL h4, fun p hp => ?_⟩
    obtain ⟨x, A4⟩ := A3.new (.lst (cutV ws lo hi)) hp
    exact q _ _ _ (x1.trans (x2.trans (x3.trans x))) A4 (.lst upd_same ((h5.mono x _).cut lo hi))
theorem ev_sT {t1 t2 : TO} {ds : List PyData} {lo hi : Option Int} (h : Ev K te ρ R (.d (.tuple ds)) R1) (h1 : Eo K t1 ρ R1 lo Rz) (h2 : Eo K t2 ρ Rz hi R3) : Ev K (tSl (rSlAny K) te t1 t2) ρ R (.d (.tuple (cutD ds lo hi))) R3 := fun R0 F H σ S A Q q =>
  h R0 F H σ S A _ fun v F1 H1 x1 A1 e1 => h1 R0 F1 H1 σ (S.mono x1) A1 _ fun F2 H2 x2 A2 => h2 R0 F2 H2 σ (S.mono (x1.trans x2)) A2 _ fun F3 H3 x3 A3 => by
    have e3 := EnOk.mono (x2.trans x3) e1
    obtain ⟨a, ws, rfl, h4, h5⟩ := Dt.tupD e3
    refine .inr ⟨a, ws, rfl, A3.sqT h4, fun hw => ?_, fun _ p hp => ?_⟩
    · refine q _ _ _ (x1.trans (x2.trans x3)) A3 ?_
      rw [h5.len] at hw
      have : cutD ds lo hi = ds := by
        unfold cutD
        rw [hw.1, hw.2]
        simp
      rw [this]
      exact e3
    · obtain ⟨x, A4⟩ := A3.new (.tup (cutV ws lo hi)) hp
      exact q _ _ _ (x1.trans (x2.trans (x3.trans x))) A4 (.tup (.inl (.inl upd_same)) ((h5.mono x _).cut lo hi))
theorem ev_rev {ds : List PyData} (h : Ev K te ρ R (.d (.list ds)) R1) : Ev K (tRevL K te) ρ R (.d (.list ds.reverse)) R1 := fun R0 F H σ S A Q q =>
  h R0 F H σ S A _ fun v F1 H1 x1 A1 e1 => by
    obtain ⟨a, ws, rfl, h4, h5⟩ := Dt.listD e1
    refine ⟨a, ws, rfl, A1.sqL h4, fun p hp => ?_⟩
    obtain ⟨x, A4⟩ := A1.new (.lst ws.reverse) hp
    refine q _ _ _ (x1.trans x) A4 (.lst upd_same ?_)
    have h6 := Dts.mono x _ h5
    clear h4 h5
    have : ∀ {vs : List V} {es : List PyData}, Dts K (upd F1 p (.lst ws.reverse)) vs es → Dts K (upd F1 p (.lst ws.reverse)) vs.reverse es.reverse := by
      intro vs es
      induction vs generalizing es with
      | nil => intro h; cases h; exact .nil
      | cons v vs ih =>
        intro h
        cases h with
        | cons a b => rw [List.reverse_cons, List.reverse_cons]; exact (ih b).append (.cons a .nil)
    exact this h6
theorem rc_repr {d : PyData} (h1 : PyData.showable d = true) (h2 : PyData.hasDict d = false) (h3 : PyData.depth d ≤ 60) (h4 : d.shown.length ≤ sizeLine) : RcK K (rRepr K) [.d d] R (.d (.str d.shown)) := fun R0 F H vs E A Q q => by
  obtain ⟨v, rfl, h⟩ := ens1 E
  exact ⟨v, d, rfl, Dt.dp d (Dt.mono A.ex d h), h1, h2, h3, h4, q _ F H (Ex.refl F) A (.str _)⟩
theorem ev_callKO {Sf : List En → List Ow → En → List Ow → Prop} {tk : TA} {es es' : List En} {Rc Rc' Rf : List Ow} {gV : List V → List V → List V} (hs : Sf es' Rc e Rc') (h : Ea K tk ρ R es (Rc ++ Rf)) (hg : ∀ F vs, Ens K F vs es → Ens K F (gV [] vs) es') :
    Ev K (tCallKO (spS K Sf) gV E0 tk) ρ R e (Rc' ++ Rf) := fun R0 F H σ S A Q q =>
  h R0 F H σ S A _ fun vs F1 H1 x1 A1 e1 => by
    rw [List.append_assoc] at A1
    exact ⟨es', Rc, Rf ++ R0, F1, e, Rc', hs, hg F1 vs e1, A1, fun v F2 H2 x2 A2 e2 => q v F2 H2 (x1.trans x2) (by rw [List.append_assoc]; exact A2) e2⟩
/-- a def keeps its promise -/
theorem fn_es {P : Program} {w : World} {mg : Str → Option Value} {base : Heap} {xn qual : Str} {st : Stmt} {f : Addr} {fd : FuncData} {N ps : List Str} {k : Nat} {S : List En → List Ow → En → List Ow → Prop} (F : Fun K xn qual st f fd) (Sc : FnScope N ps (defScope st))
    (hlen : ∀ es R e R', S es R e R' → es.length = ps.length)
    (hb : ∀ (cdv : Value) (A : Around) (outer : List Env) (s : Shared) (H : Hp) (E : XK) (es : List En) (R : List Ow) (e : En) (R' : List Ow), Room k (A.deeper (envOfC qual (defScope st) s.heap.objs.size f cdv)) → S es R e R' →
      ∃ t, PSs (cxOf CX0 P w K mg base N qual (defScope st) f cdv A outer s H E).nox (defBody st) t ∧ Es K t (es ++ List.replicate (N.length - ps.length) .u) R { nx := fun _ R1 => e = .d .none ∧ R1 = R', rt := fun e1 R1 => e1 = e ∧ R1 = R' }) :
    FnOk P w K mg base CX0 (k + 1) f fd ps (spS K S) := by
  refine F.ok Sc (fun vs H Q E h => ?_) (fun cdv A outer s H vs Q E hr h => ?_)
  · obtain ⟨es, R, R0, F, e, R', h1, h2, _⟩ := h
    rw [h2.len]
    exact hlen _ _ _ _ h1
  · obtain ⟨es, R, R0, F, e, R', h1, h2, h3, q⟩ := h
    obtain ⟨t, ht, he⟩ := hb cdv A outer s H E es R e R' hr h1
    refine ⟨t, ht, he R0 F H _ _ ?_ h3 ⟨?_, ?_, ?_, ?_⟩⟩
    · unfold L2.start
      have hl : vs.length = ps.length := by rw [h2.len]; exact hlen _ _ _ _ h1
      rw [hl]
      exact h2.sls.append (Sls.us _)
    · rintro ρ R1 σ F1 H1 ⟨rfl, rfl⟩ x S1 A1
      exact q _ F1 H1 x A1 .non
    · rintro e1 R1 v F1 H1 ⟨rfl, rfl⟩ x e2 A1
      exact q _ F1 H1 x A1 e2
    · intro _ _ _ _ _ h; exact h.elim
    · intro _ _ _ _ _ h; exact h.elim
end
end Fx

namespace Fx
open PySem PySem.Spec PyProof.Rows L2 StX RZ
section
variable {K : PySem.W.Frag} {ρ ρ' : List En} {R R1 Rz R3 : List Ow} {e e1 e2 x y z : En} {ta tb tc te tl : TE} {t u : TT} {r : L2.R2} {α β : Type}
abbrev tI (ns : List Int) : PyData := .tuple (ns.map .int)
abbrev lI (ns : List Int) : PyData := .list (ns.map .int)
def isIntB : PyData → Bool
  | .int _ => true
  | .bool _ => true
  | _ => false
def isBoolB : PyData → Bool
  | .bool _ => true
  | _ => false
def isTupB : PyData → Bool
  | .tuple _ => true
  | _ => false
theorem kit_int (d : PyData) : kitB (kindD d) "int" = some (isIntB d) := by
  cases d
  · show kitB "NoneType" "int" = some false; decide +kernel
  · show kitB "bool" "int" = some true; decide +kernel
  · show kitB "int" "int" = some true; decide +kernel
  · show kitB "str" "int" = some false; decide +kernel
  · show kitB "list" "int" = some false; decide +kernel
  · show kitB "tuple" "int" = some false; decide +kernel
  · show kitB "dict" "int" = some false; decide +kernel
theorem kit_bool (d : PyData) : kitB (kindD d) "bool" = some (isBoolB d) := by
  cases d
  · show kitB "NoneType" "bool" = some false; decide +kernel
  · show kitB "bool" "bool" = some true; decide +kernel
  · show kitB "int" "bool" = some false; decide +kernel
  · show kitB "str" "bool" = some false; decide +kernel
  · show kitB "list" "bool" = some false; decide +kernel
  · show kitB "tuple" "bool" = some false; decide +kernel
  · show kitB "dict" "bool" = some false; decide +kernel
theorem kit_tup (d : PyData) : kitB (kindD d) "tuple" = some (isTupB d) := by
  cases d
  · show kitB "NoneType" "tuple" = some false; decide +kernel
  · show kitB "bool" "tuple" = some false; decide +kernel
  · show kitB "int" "tuple" = some false; decide +kernel
  · show kitB "str" "tuple" = some false; decide +kernel
  · show kitB "list" "tuple" = some false; decide +kernel
  · show kitB "tuple" "tuple" = some true; decide +kernel
  · show kitB "dict" "tuple" = some false; decide +kernel
/-! ### typed forms -/
theorem lcr_mapT {g : TG} {vs : List Nat} {enc f : α → PyData} {l : List α} (h : ∀ a ∈ l, ∃ ρ', EgW K g vs (.d (enc a)) ρ ρ' ∧ Ev K te ρ' R (.d (f a)) R) : LcR K g tYes te vs ρ (l.map enc) R (l.map f) R := by
  induction l with
  | nil => exact .nil
  | cons d ds ih =>
    obtain ⟨ρ', h1, h2⟩ := h d (by simp)
    exact .keep h1 et_yes h2 (ih fun d hd => h d (by simp [hd]))
theorem lcr_filterT {g : TG} {tt : TT} {vs : List Nat} {p : α → Bool} {enc f : α → PyData} {l : List α} (h : ∀ a ∈ l, ∃ ρ', EgW K g vs (.d (enc a)) ρ ρ' ∧ Et K tt ρ' R (p a) R ∧ (p a = true → Ev K te ρ' R (.d (f a)) R)) : LcR K g tt te vs ρ (l.map enc) R ((l.filter p).map f) R := by
  induction l with
  | nil => exact .nil
  | cons d ds ih =>
    obtain ⟨ρ', h1, h2, h3⟩ := h d (by simp)
    have ih := ih fun d hd => h d (by simp [hd])
    cases hp : p d with
    | true => rw [hp] at h2; rw [List.filter_cons, if_pos hp]; exact .keep h1 h2 (h3 hp) ih
    | false => rw [hp] at h2; rw [List.filter_cons, if_neg (by rw [hp]; decide)]; exact .skip h1 h2 ih
/-- a state is threaded: Rg tells the owned objects of a state -/
def mapS {σ : Type} (f : σ → α → β × σ) : σ → List α → List β × σ
  | s, [] => ([], s)
  | s, a :: l => let r := f s a; let q := mapS f r.2 l; (r.1 :: q.1, q.2)
theorem lcr_state {σ : Type} {g : TG} {vs : List Nat} {enc : α → PyData} {enc' : β → PyData} {Rg : σ → List Ow} {f : σ → α → β × σ} {Inv : σ → Prop} : ∀ {l : List α} {s : σ}, Inv s → (∀ s a, a ∈ l → Inv s → Inv (f s a).2 ∧ ∃ ρ', EgW K g vs (.d (enc a)) ρ ρ' ∧ Ev K te ρ' (Rg s) (.d (enc' (f s a).1)) (Rg (f s a).2)) →
    LcR K g tYes te vs ρ (l.map enc) (Rg s) ((mapS f s l).1.map enc') (Rg (mapS f s l).2)
  | [], s, hi, h => .nil
  | a :: l, s, hi, h => by
    obtain ⟨h0, ρ', h1, h2⟩ := h s a (by simp) hi
    exact .keep h1 et_yes h2 (lcr_state h0 fun s b hb => h s b (by simp [hb]))
theorem atI_map {enc : α → PyData} {l : List α} {j : Nat} {a : α} (h : l[j]? = some a) : L2.atI (l.map enc) (j : Int) = some (enc a) := atI_nat (by rw [List.getElem?_map, h]; rfl)
theorem atI_nat' {ds : List PyData} {i : Int} {j : Nat} {d : PyData} (e : i = (j : Int)) (h : ds[j]? = some d) : L2.atI ds i = some d := by rw [e]; exact atI_nat h
theorem get_getD {l : List α} {j : Nat} {d : α} (h : j < l.length) : l[j]? = some (l.getD j d) := by rw [List.getD_eq_getElem?_getD, List.getElem?_eq_getElem h]; rfl
theorem map_int {f : α → Int} {l : List α} : l.map (fun a => PyData.int (f a)) = (l.map f).map .int := by rw [List.map_map]; rfl
theorem map_bool {f : α → Bool} {l : List α} : l.map (fun a => PyData.bool (f a)) = (l.map f).map .bool := by rw [List.map_map]; rfl
theorem rc_minM {f : α → Int} {l : List α} (hl : l ≠ []) : RcK K (rMin K) [.d (.list (l.map fun a => .int (f a)))] R (.d (.int (minI (l.map f)))) := by
  rw [map_int]; exact rc_min (by simpa using hl)
theorem rc_sumM {f : α → Int} {l : List α} : RcK K (rSum K) [.d (.list (l.map fun a => .int (f a)))] R (.d (.int (l.map f).sum)) := by
  rw [map_int]; exact rc_sum
theorem rc_allM {f : α → Bool} {l : List α} : RcK K (rAll K) [.d (.list (l.map fun a => .bool (f a)))] R (.d (.bool ((l.map f).all id))) := by
  rw [map_bool]; exact rc_all
theorem eqv_int (i j : Int) : PyData.eqv (.int i) (.int j) = decide (i = j) := by
  by_cases h : i = j <;> simp [PyData.eqv, h]
theorem rv_eqI {i j : Int} : Rv K (rEqD K) (.d (.int i)) (.d (.int j)) R (.d (.bool (decide (i = j)))) := by
  have := rv_eqD (K := K) (R := R) (d := .int i) (e := .int j) (by rfl) (by rfl)
  rwa [eqv_int] at this
theorem rv_neI {i j : Int} : Rv K (rNeD K) (.d (.int i)) (.d (.int j)) R (.d (.bool (!decide (i = j)))) := by
  have := rv_neD (K := K) (R := R) (d := .int i) (e := .int j) (by rfl) (by rfl)
  rwa [eqv_int] at this
theorem ev_cast {d d' : PyData} (h : d = d') (hv : Ev K te ρ R (.d d) R1) : Ev K te ρ R (.d d') R1 := h ▸ hv
theorem rngD_nat (n : Nat) : rngD 0 n = (List.range n).map fun i => .int (i : Nat) := by
  unfold rngD
  apply List.map_congr_left
  intro i _
  rw [Int.zero_add]
theorem ei_rngN {ts : TA} {n : Nat} (h : Ea K ts ρ R [.d (.int (n : Int))] R1) (hn : n < 2 ^ 62) : Ei K (iRng1 ts) ρ R ((List.range n).map fun i => .int (i : Nat)) R1 := by
  have := ei_rng1 h (by omega) (by omega)
  rw [Int.toNat_natCast, rngD_nat] at this
  exact this
theorem ei_cast {wi : TI} {xs ys : List PyData} (h : xs = ys) (hw : Ei K wi ρ R xs R1) : Ei K wi ρ R ys R1 := h ▸ hw
theorem prs_map {f : α → PyData} {g : α → PyData} : ∀ l : List α, prs (l.map f) (l.map g) = l.map fun a => .tuple [f a, g a]
  | [] => rfl
  | a :: l => by
    have := prs_map (f := f) (g := g) l
    unfold prs at this ⊢
    rw [List.map_cons, List.map_cons, List.zipWith_cons_cons, this]; rfl
theorem ev_tupE {ts : TA} {es : List En} {ds : List PyData} (h : Ea K ts ρ R es R1) (he : es = ds.map .d) (hl : ds.length ≤ sizeLine) : Ev K (tTup ts) ρ R (.d (.tuple ds)) R1 := ev_tup (he ▸ h) hl
theorem ev_lstE {ts : TA} {es : List En} {ds : List PyData} (h : Ea K ts ρ R es R1) (he : es = ds.map .d) (hl : ds.length ≤ sizeLine) : Ev K (tLst ts) ρ R (.d (.list ds)) R1 := ev_lst (he ▸ h) hl
/-! ### results that are not told exactly -/
def Evp (K : PySem.W.Frag) (te : TE) (ρ : List En) (R : List Ow) (P : En → List Ow → Prop) : Prop :=
  ∀ (R0 : List Ow) (F H : Hp) (σ : L2.St), Sls K F σ ρ → At K F (R ++ R0) H → ∀ Q : VK, (∀ e R' v F1 H1, P e R' → Ex F F1 → At K F1 (R' ++ R0) H1 → EnOk K F1 v e → Q v H1) → te σ H Q
theorem evp_of {P : En → List Ow → Prop} (h : Ev K te ρ R e R1) (hp : P e R1) : Evp K te ρ R P := fun R0 F H σ S A Q q => h R0 F H σ S A Q fun v F1 H1 x1 A1 e1 => q e R1 v F1 H1 hp x1 A1 e1
theorem evp_mono {P P' : En → List Ow → Prop} (h : Evp K te ρ R P) (hp : ∀ e R', P e R' → P' e R') : Evp K te ρ R P' := fun R0 F H σ S A Q q => h R0 F H σ S A Q fun e R' v F1 H1 p x1 A1 e1 => q e R' v F1 H1 (hp e R' p) x1 A1 e1
theorem evp_if {P : En → List Ow → Prop} {b : Bool} (h1 : Et K t ρ R b R1) (h2 : b = true → Evp K ta ρ R1 P) (h3 : b = false → Evp K tb ρ R1 P) : Evp K (tIf t ta tb) ρ R P := fun R0 F H σ S A Q q =>
  h1 R0 F H σ S A _ fun F1 H1 x1 A1 => by
    cases b with
    | true => exact h2 rfl R0 F1 H1 σ (S.mono x1) A1 Q fun e R' w F2 H2 p x2 A2 e2 => q e R' w F2 H2 p (x1.trans x2) A2 e2
    | false => exact h3 rfl R0 F1 H1 σ (S.mono x1) A1 Q fun e R' w F2 H2 p x2 A2 e2 => q e R' w F2 H2 p (x1.trans x2) A2 e2
def spN (K : PySem.W.Frag) (Pre : List En → List Ow → (En → List Ow → Prop) → Prop) : Sp := fun vs H Q _ => ∃ es R R0 F Po, Pre es R Po ∧ Ens K F vs es ∧ At K F (R ++ R0) H ∧ ∀ e R' v F1 H1, Po e R' → Ex F F1 → At K F1 (R' ++ R0) H1 → EnOk K F1 v e → Q v H1
theorem evp_call {Pre : List En → List Ow → (En → List Ow → Prop) → Prop} {Po : En → List Ow → Prop} {ts : TA} {es : List En} {Rc Rf : List Ow} (hs : Pre es Rc Po) (h : Ea K ts ρ R es (Rc ++ Rf)) : Evp K (tCall (spN K Pre) [] E0 ts) ρ R (fun e R' => ∃ Rc', R' = Rc' ++ Rf ∧ Po e Rc') := fun R0 F H σ S A Q q =>
  h R0 F H σ S A _ fun vs F1 H1 x1 A1 e1 => by
    rw [List.append_nil]
    rw [List.append_assoc] at A1
    exact ⟨es, Rc, Rf ++ R0, F1, Po, hs, e1, A1, fun e R' v F2 H2 hp x2 A2 e2 => q e (R' ++ Rf) v F2 H2 ⟨R', rfl, hp⟩ (x1.trans x2) (by rw [List.append_assoc]; exact A2) e2⟩
theorem es_asgN {P : Post} {g : TG} {Po : En → List Ow → Prop} (h : Evp K te ρ R Po) (hn : ∀ e R', Po e R' → ∃ ρ', Eg K g e ρ ρ' ∧ P.nx ρ' R') : Es K (tAsg te g) ρ R P := fun R0 F H σ D S A p =>
  h R0 F H σ S A _ fun e R' v F1 H1 hp x1 A1 e1 => by
    obtain ⟨ρ', hg, hq⟩ := hn e R' hp
    exact hg _ F1 H1 σ v (S.mono x1) A1 e1 _ fun σ' S' => p.nx _ _ σ' F1 H1 hq x1 S' A1
theorem es_setN {P : Post} {i : Nat} {Po : En → List Ow → Prop} (h : Evp K te ρ R Po) (hn : ∀ e R', Po e R' → P.nx (ρ.set i e) R') : Es K (tAsg te (gName i)) ρ R P := es_asgN h fun e R' hp => ⟨_, eg_name, hn e R' hp⟩
theorem es_retN' {P : Post} {Po : En → List Ow → Prop} (h : Evp K te ρ R Po) (hn : ∀ e R', Po e R' → P.rt e R') : Es K (tRet te) ρ R P := fun R0 F H σ D S A p =>
  h R0 F H σ S A _ fun e R' v F1 H1 hp x1 A1 e1 => p.rt e R' v F1 H1 (hn e R' hp) x1 e1 A1
theorem fn_esN {P : Program} {w : World} {mg : Str → Option Value} {base : Heap} {xn qual : Str} {st : Stmt} {f : Addr} {fd : FuncData} {N ps : List Str} {k : Nat} {Pre : List En → List Ow → (En → List Ow → Prop) → Prop} (F : Fun K xn qual st f fd) (Sc : FnScope N ps (defScope st))
    (hlen : ∀ es R Po, Pre es R Po → es.length = ps.length)
    (hb : ∀ (cdv : Value) (A : Around) (outer : List Env) (s : Shared) (H : Hp) (E : XK) (es : List En) (R : List Ow) (Po : En → List Ow → Prop), Room k (A.deeper (envOfC qual (defScope st) s.heap.objs.size f cdv)) → Pre es R Po →
      ∃ t, PSs (cxOf CX0 P w K mg base N qual (defScope st) f cdv A outer s H E).nox (defBody st) t ∧ Es K t (es ++ List.replicate (N.length - ps.length) .u) R { nx := fun _ R1 => Po (.d .none) R1, rt := Po }) :
    FnOk P w K mg base CX0 (k + 1) f fd ps (spN K Pre) := by
  refine F.ok Sc (fun vs H Q E h => ?_) (fun cdv A outer s H vs Q E hr h => ?_)
  · obtain ⟨es, R, R0, F, Po, h1, h2, _⟩ := h
    rw [h2.len]
    exact hlen _ _ _ h1
  · obtain ⟨es, R, R0, F, Po, h1, h2, h3, q⟩ := h
    obtain ⟨t, ht, he⟩ := hb cdv A outer s H E es R Po hr h1
    refine ⟨t, ht, he R0 F H _ _ ?_ h3 ⟨?_, ?_, ?_, ?_⟩⟩
    · unfold L2.start
      have hl : vs.length = ps.length := by rw [h2.len]; exact hlen _ _ _ h1
      rw [hl]
      exact h2.sls.append (Sls.us _)
    · intro ρ R1 σ F1 H1 hp x S1 A1
      exact q _ R1 _ F1 H1 hp x A1 .non
    · intro e1 R1 v F1 H1 hp x e2 A1
      exact q e1 R1 v F1 H1 hp x A1 e2
    · intro _ _ _ _ _ h; exact h.elim
    · intro _ _ _ _ _ h; exact h.elim
theorem es_imp {P P' : Post} {ts : TS} (h : Es K ts ρ R P) (h1 : ∀ a b, P.nx a b → P'.nx a b) (h2 : ∀ a b, P.rt a b → P'.rt a b) (h3 : ∀ a b, P.bk a b → P'.bk a b) (h4 : ∀ a b, P.ct a b → P'.ct a b) : Es K ts ρ R P' := fun R0 F H σ D S A p =>
  h R0 F H σ D S A ⟨fun ρ R σ F1 H1 a => p.nx ρ R σ F1 H1 (h1 _ _ a), fun e R v F1 H1 a => p.rt e R v F1 H1 (h2 _ _ a), fun ρ R σ F1 H1 a => p.bk ρ R σ F1 H1 (h3 _ _ a), fun ρ R σ F1 H1 a => p.ct ρ R σ F1 H1 (h4 _ _ a)⟩
/-- a block in two parts, with what holds between -/
theorem es_seqM {P : Post} {ts us : TS} (Mid : List En → List Ow → Prop) (h : Es K ts ρ R { P with nx := Mid }) (h2 : ∀ a b, Mid a b → Es K us a b P) : Es K (tSeq ts us) ρ R P :=
  es_seq (es_imp h (fun a b m => h2 a b m) (fun _ _ x => x) (fun _ _ x => x) (fun _ _ x => x))
end
end Fx

/-! enumerate of a tuple: what is begun, each turn, the judgement's rule. -/
namespace Fx
open PySem PySem.Spec PyProof.Rows L2 StX RZ
abbrev enO (i : Addr) : Obj := { cls := .type "enumerate", data := .fields #[.none, .bool false, .ref i, rawInt 0, .none, .none] }
theorem enum1_meets {v : Value} {o : Obj} {G : Heap → Prop} (B : Begins v o G) :
    Meets (Builtin.«enumerate.__new__» ⟨[.type "enumerate", v], []⟩) fun _ R s =>
      G s.heap ∧ R (.ok (.ret (.ref (s.heap.push o).objs.size))) { s with heap := (s.heap.push o).push (enO s.heap.objs.size) } := by
  refine .of_wp fun prog w A R s hh => ?_
  rcases s with ⟨h0, ge, dr, tk, os⟩
  rcases hh with ⟨hG, hR⟩
  have hsub := sub_enumerate
  have it0 : ∀ {A' : Around} {E : Value → Shared → Prop} {Q : Value → Shared → Prop}, Q (.ref h0.objs.size) ⟨h0.push o, ge, dr, tk, os⟩ → wpAny (model prog w) A' (pyIter v) Q E ⟨h0, ge, dr, tk, os⟩ :=
    @fun A' E Q q => B.iter prog w A' E ⟨h0, ge, dr, tk, os⟩ Q hG q
  wp_walk using it0
  refine wpAny_stack_any fun st => wpAny_pure ?_
  split
  · rename_i c _ _ _ _ _
    by_cases hc : (c == Value.type "enumerate") = true
    · rw [hc]
      wp_walk using it0
      exact ⟨_, rfl, hR⟩
    · rw [Bool.not_eq_true] at hc
      rw [hc]
      wp_walk using it0
      exact ⟨_, rfl, hR⟩
  · wp_walk using it0
    exact ⟨_, rfl, hR⟩
theorem enum1_call {prog : Program} {w : World} {A : Around} {E : Value → Shared → Prop} {s : Shared} {v : Value} {o : Obj} {G : Heap → Prop} {Q : Value → Shared → Prop} (B : Begins v o G) (hG : G s.heap)
    (k : ∀ h', IsEnum h' (s.heap.objs.size + 1) s.heap.objs.size 0 .none → h'.get? s.heap.objs.size = some o → (∀ b u, s.heap.get? b = some u → h'.get? b = some u) → Q (.ref (s.heap.objs.size + 1)) { s with heap := h' }) :
    wpAny (model prog w) A (call (.type "enumerate") [v]) Q E s := by
  have sz : (s.heap.push o).objs.size = s.heap.objs.size + 1 := Heap.size_push ..
  have en : IsEnum ((s.heap.push o).push (enO s.heap.objs.size)) (s.heap.objs.size + 1) s.heap.objs.size 0 .none := by
    have q := Heap.get?_push_size (s.heap.push o) (o := enO s.heap.objs.size) rfl
    rw [sz] at q
    exact q
  refine callType_new F.called_enumerate (by decide) (F.typeCall_enumerate_1 _) (F.newCall_enumerate_1 _) (fun obj => F.args_object_init_2 obj _) F.entry_enumerate_new (enum1_meets B) ⟨hG, ?_⟩
  show _ ∧ _
  rw [sz]
  exact ⟨⟨_, en, rfl⟩, k _ en (Heap.get?_push_of_some _ (Heap.get?_push_size _ B.free)) fun b u q => Heap.get?_push_of_some _ (Heap.get?_push_of_some _ q)⟩
/-- the tuple at a, each item in a new pair with its place -/
def IteT (K : PySem.W.Frag) (a : Addr) : It where
  go i H := ∃ (xs : List V) (x : V), SqT K H a xs ∧ xs[i]? = some x
  yld i H v H' := ∃ T x, v = .ref T ∧ H T = none ∧ H' = upd H T (.tup [.int (i : Nat), x]) ∧ ∀ xs, SqT K H a xs → xs[i]? = some x
  stop i H := ∃ xs : List V, SqT K H a xs ∧ xs.length ≤ i
theorem turn_enumT {P : Program} {w : World} {K : PySem.W.Frag} {elts : List Expr} {kk : Nat} {tpos : Pos} (a e it : Addr) :
    Turn P w K (.Tuple elts kk tpos) (IteT K a) [e, it] e (fun i h => (∃ old, IsEnum h e it ((i : Nat) : Int) old) ∧ h.IsTupleIter it a i ∧ e ≠ it ∧ a ≠ it ∧ a ≠ e) := by
  constructor
  case mem => simp
  case obj =>
    rintro i h ⟨⟨old, he⟩, ⟨o, ho, hc, hd⟩, _⟩ b hb
    rcases (by simpa using hb : b = e ∨ b = it) with rfl | rfl
    · exact ⟨_, he, fun v q => nomatch q⟩
    · exact ⟨o, ho, fun v q => by rw [hd] at q; cases q⟩
  case keep =>
    rintro i h h' ⟨⟨old, he⟩, hi, hne⟩ k
    exact ⟨⟨old, k e (by simp) _ he⟩, hi.at (fun o q => k it (by simp) o q), hne⟩
  case self =>
    rintro A i s Q E ⟨⟨_, he⟩, _⟩ h
    exact wpAny_pyIter_enum he h
  case done =>
    intro X hP hw hK hc i pins s σ H E I hf st hg
    subst hP hw hK
    obtain ⟨⟨old, he⟩, hit, hne, hai, hae⟩ := st
    obtain ⟨xs, hq, hx⟩ := hg
    obtain ⟨its, rv, p, hz⟩ := I.tuple hq
    have hl := rv.length
    have hi : i = its.toArray.size ∨ its.toArray.size < i := by rw [List.size_toArray]; omega
    obtain ⟨f0, f1, f2, f3, f4, f5⟩ := hf it (by simp)
    -- the iterator may stand behind the end: then its own end is told by the library's rule for the place itself
    refine wpAny_pyNext_enum_endD (n := i) (P := fun _ _ => True) (St := fun j h => j = i ∧ h.IsTupleIter it a i ∧ h.IsTuple a its.toArray) (fp := [it, a]) ⟨?_, ?_, ?_, ?_⟩ he ⟨rfl, hit, p⟩ fun h' eb => ⟨rfl, I.turned (t' := s.toks) (fun b o hb q => eb b o hb q) f0 f1 f3 f4 f5⟩
    · rintro j h ⟨_, ⟨o, ho, _⟩, _⟩
      exact ⟨o, ho⟩
    · rintro j h h' ⟨rfl, h1, h2⟩ k
      exact ⟨rfl, h1.at (fun o q => k it (by simp) o q), h2.at (fun o q => k a (by simp) o q)⟩
    · rintro j s' Q' E' hlt ⟨rfl, _⟩ _
      exact absurd hlt (Nat.lt_irrefl _)
    · rintro s' Q' E' ⟨_, h1, h2⟩ hE
      exact wpAny_nextOf_tuple_end (I.ok.hd hc) h1 h2 (by rcases hi with q | q <;> simp at q ⊢ <;> omega) hE
  case item =>
    intro X hP hw hK hc i pins s σ H E I hf st hg
    subst hP hw hK
    obtain ⟨⟨old, he⟩, hit, hne, hai, hae⟩ := st
    obtain ⟨xs, x, hq, hx⟩ := hg
    obtain ⟨its, rv, p, hz⟩ := I.tuple hq
    obtain ⟨u, hu, ru⟩ := rv.get hx
    have hel : e < s.heap.objs.size := Heap.lt_size he
    have hil : it < s.heap.objs.size := by
      obtain ⟨_, q, _⟩ := hit
      exact Heap.lt_size q
    have hsz : i < its.toArray.size := by
      have := (List.getElem?_eq_some_iff.mp hu).1
      rwa [List.size_toArray]
    have D := Draws.tuple (prog := X.prog) (w := X.w) (A := X.A.in1) (I.ok.hd hc) it a hai its.toArray
    refine wpAny_pyNext_enum_itemD D he ⟨hit, p⟩ hsz hne (by simp; exact ⟨hne, fun q => hae q.symm⟩) ?_
    rintro y h' tk hy ho ⟨hit', _⟩ hT _ hk
    have hyu : y = u := by
      have q : its.toArray[i]? = some y := hy
      rw [List.getElem?_toArray, hu] at q
      exact (Option.some.inj q).symm
    subst hyu
    refine ⟨_, rfl, wpAny_letOwnedTupleGo_enum (s := { s with heap := h', toks := tk + 1 }) ho fun h2 he2 sb => ?_⟩
    have hT2 : h2.get? s.heap.objs.size = some { cls := .type "tuple", data := .seq #[.int i tk, y] } := (sb.2 _ (Nat.ne_of_gt hel)).trans hT
    have ob : ObjOk X.prog X.w (upd H s.heap.objs.size (.tup [.int (i : Nat), x])) h2 s.heap.objs.size (.tup [.int (i : Nat), x]) := by
      refine ⟨by show 2 ≤ sizeLine; decide, [.int i tk, y], .cons ⟨_, rfl⟩ (.cons ru .nil), _, hT2, rfl, _, rfl⟩
    have J : Inv X pins σ (upd H s.heap.objs.size (.tup [.int (i : Nat), x])) { s with heap := h2, toks := tk + 1 } := by
      refine I.turnedNew (ch := [e, it]) (fun b u hb q => ?_) hf (Nat.le_refl _) ob
      have b1 : b ≠ e := fun z => hb (by simp [z])
      have b2 : b ≠ it := fun z => hb (by simp [z])
      exact (sb.2 b b1).trans (hk b u b1 b2 q)
    refine ⟨.ref s.heap.objs.size, _, J, rfl, ⟨_, x, rfl, I.hok.fresh (Nat.le_refl _), rfl, fun ys hy' => ?_⟩, ⟨⟨y, ?_⟩, hit'.at (fun o q => (sb.2 it (Ne.symm hne)).trans q), hne, hai, hae⟩, fun b hb => ?_⟩
    · rw [I.tuple_inj hy' hq]
      exact hx
    · have e1 : ((i + 1 : Nat) : Int) = (i : Int) + 1 := by omega
      rw [e1]
      exact he2
    · have hb' : b < s.heap.objs.size := by
        rcases (by simpa using hb : b = e ∨ b = it) with rfl | rfl
        · exact hel
        · exact hil
      rw [upd_ne (Nat.ne_of_lt hb')]
      exact (hf b hb).1
def iEnumT (K : PySem.W.Frag) (ta : TA) : TI := fun σ H R => ta σ H fun vs H1 => ∃ a xs, vs = [.ref a] ∧ SqT K H1 a xs ∧ R (IteT K a) H1
def iEnumA (K : PySem.W.Frag) (ta : TA) : TI := fun σ H R => iEnum K ta σ H R ∨ iEnumT K ta σ H R
section
variable {X : Cx}
theorem pi_enumT {e : Expr} {ta : TA} {p pos tpos : Pos} {elts : List Expr} {kk : Nat} (hg : Gl X "enumerate") (hm : X.mg "enumerate" = none) (ha : PA X [e] ta) (hs : starEach [e] X.env = [(false, eval e X.env)] := by rfl) :
    PI X (.Tuple elts kk tpos) (.Call (.Name "enumerate" p) [e] [] pos) (iEnumT X.K ta) := by
  constructor
  intro pins s σ H R I h
  refine Call_ (ld_blt I hg hm boot_enumerate (PyProof.Rows.callWith_type1 (thn (ha.run pos pins s σ H _ I h) ?_) hs rfl))
  rintro us s1 ⟨vs, H1, I1, r1, a, xs, rfl, hq, q⟩
  cases r1 with
  | cons r rr =>
    cases rr
    cases r
    obtain ⟨its, rv, p', hz⟩ := I1.tuple hq
    have hat : a < s1.heap.objs.size := by
      obtain ⟨o, ho, _⟩ := p'
      exact Heap.lt_size ho
    refine enum1_call (begins_tuple a its.toArray) p' fun h' he hit hk => wpAny_pyIter_enum he ?_
    have I2 : Inv X pins σ H1 { s1 with heap := h' } := I1.kept (t' := s1.toks) hk
    have n1 : s1.heap.objs.size + 1 ≠ s1.heap.objs.size := Nat.succ_ne_self _
    refine ⟨s1.heap.objs.size + 1, [s1.heap.objs.size + 1, s1.heap.objs.size], _, _, H1, rfl, I2, turn_enumT a (s1.heap.objs.size + 1) s1.heap.objs.size, ⟨⟨.none, he⟩, ⟨_, hit, rfl, rfl⟩, n1, Nat.ne_of_lt hat, Nat.ne_of_lt (Nat.lt_succ_of_lt hat)⟩, fun b hb => ?_, q⟩
    have hle : s1.heap.objs.size ≤ b := by
      rcases (by simpa using hb : b = s1.heap.objs.size + 1 ∨ b = s1.heap.objs.size) with rfl | rfl
      · exact Nat.le_succ _
      · exact Nat.le_refl _
    exact I1.fpOk hle (I1.hok.fresh hle)
theorem piEnum {K : PySem.W.Frag} {e : Expr} {ta : TA} {p pos tpos : Pos} {elts : List Expr} {kk : Nat} (hg : Gl X "enumerate") (hm : X.mg "enumerate" = none) (ha : PA X [e] ta) (hs : starEach [e] X.env = [(false, eval e X.env)] := by rfl) (hK : X.K = K := by rfl) :
    PI X (.Tuple elts kk tpos) (.Call (.Name "enumerate" p) [e] [] pos) (iEnumA K ta) := ⟨fun pins s σ H R I h => by
  subst hK
  rcases h with h | h
  · exact (pi_enum hg hm ha hs).run pins s σ H R I h
  · exact (pi_enumT hg hm ha hs).run pins s σ H R I h⟩
end
section
variable {K : PySem.W.Frag} {ρ : List En} {R R1 : List Ow}
theorem walk_enumT {a : Addr} {xs : List V} : L2.Walk (IteT K a) xs.length (fun H => SqT K H a xs) (YPair (fun i => some (.int (i : Nat))) (fun i => xs[i]?)) := by
  refine ⟨fun i H hi q => ⟨xs, xs[i], q, List.getElem?_eq_getElem hi⟩, fun H q => ⟨xs, q, Nat.le_refl _⟩, fun i H x H' hi q y => ?_⟩
  obtain ⟨T, z, h1, h2, h3, h4⟩ := y
  exact ⟨T, _, z, h1, h2, h3, rfl, h4 _ q⟩
theorem ei_enumT {ts : TA} {xs : List PyData} (h : Ea K ts ρ R [.d (.tuple xs)] R1) : Ei K (iEnumA K ts) ρ R (prs (rngD 0 xs.length) xs) R1 := fun R0 F H σ S A Q q => .inr (h R0 F H σ S A _ fun vs F1 H1 x1 A1 e1 => by
    obtain ⟨v, rfl, e2⟩ := ens1 e1
    obtain ⟨a, ws, rfl, a1, a2⟩ := Dt.tupD e2
    refine ⟨_, _, rfl, ex_t A1.ex a1, q _ F1 H1 x1 A1 ?_⟩
    refine wk_pair (by rw [prs_len, rngD_len, ← a2.len]; omega) (walk_enumT (K := K)) (fun F2 R H x A => ex_t A.ex (ex_t x a1)) ?_ ?_
    · intro i d F2 x hd v hv
      have hi : i < xs.length := by
        have := (List.getElem?_eq_some_iff.mp hd).1
        rwa [rngD_len] at this
      rw [rngD_get hi] at hd
      cases hd; cases hv
      rw [Int.zero_add]; exact .int _
    · intro i d F2 x hd v hv
      obtain ⟨w, h1, h2⟩ := (a2.mono x).get hd
      rw [hv] at h1; cases h1; exact h2)
theorem ei_enumL {ts : TA} {xs : List PyData} (h : Ea K ts ρ R [.d (.list xs)] R1) : Ei K (iEnumA K ts) ρ R (prs (rngD 0 xs.length) xs) R1 := fun R0 F H σ S A Q q => .inl (ei_enum h R0 F H σ S A Q q)
theorem prs_get {xs ys : List PyData} {i : Nat} {d : PyData} (h : (prs xs ys)[i]? = some d) : ∃ a b, xs[i]? = some a ∧ ys[i]? = some b ∧ d = .tuple [a, b] := by
  unfold prs at h
  rw [List.getElem?_zipWith] at h
  cases hp : xs[i]? with
  | none => rw [hp] at h; simp at h
  | some p =>
    cases hq : ys[i]? with
    | none => rw [hp, hq] at h; simp at h
    | some q => rw [hp, hq] at h; simp at h; exact ⟨p, q, rfl, rfl, h.symm⟩
end
end Fx

namespace FxE
open PySem PySem.W PySem.Calls PyProof.Rows PySem.HandSPX Builtin Builtin.ObjectAttr
/-- own classes, then what Exception is made of -/
def tailE : List Value → Bool
  | .ref _ :: r => tailE r
  | l => l == [.type "Exception", .type "BaseException", .type "object"]
theorem tailE_of {P : List Value → Prop} (h0 : P [.type "Exception", .type "BaseException", .type "object"]) (hc : ∀ a r, P r → P (.ref a :: r)) : ∀ l, tailE l = true → P l
  | [], e => absurd e (by decide)
  | a :: r, e => by
    by_cases h : ∃ c, a = .ref c
    · obtain ⟨c, rfl⟩ := h
      exact hc c r (tailE_of h0 hc r e)
    · have : tailE (a :: r) = (a :: r == [.type "Exception", .type "BaseException", .type "object"]) := by
        cases a with
        | ref c => exact absurd ⟨c, rfl⟩ h
        | _ => rfl
      rw [this] at e
      rw [beq_iff_eq.mp e]
      exact h0
theorem tailE_pass (l : List Value) (e : tailE l = true) (me : Value) : refuseLoop me "__setattr__" l = pure () :=
  tailE_of (P := fun l => refuseLoop me "__setattr__" l = pure ()) (F.store_Exception.passes me) (fun a r h => by rw [refuseLoop_ref]; exact h) l e
theorem tailE_contains (X : String) (l : List Value) (e : tailE l = true) : l.contains (.type X) = ([.type "Exception", .type "BaseException", .type "object"] : List Value).contains (.type X) :=
  tailE_of (P := fun l => l.contains (.type X) = ([.type "Exception", .type "BaseException", .type "object"] : List Value).contains (.type X)) rfl (fun a r h => by rw [List.contains_cons, h]; rfl) l e
theorem tailE_obj (l : List Value) (e : tailE l = true) : l.contains (.type "object") = true := (tailE_contains "object" l e).trans (by decide +kernel)
section
variable {prog : Program} {w : World} {A : Around} {R : Result → Shared → Prop} {hp : Heap} {g : Array GenState} {d : Drawn} {t : Nat} {os : OsState}
/-- a field is laid in an error that has none yet -/
theorem laid {K : Frag} {nm : Str} {tk : Tok} {v : Value} {x C : Addr} {fs : Array Value} {cd : ClassData}
    (X : K.In hp) (hx : hp.get? x = some { cls := .ref C, data := .fields fs }) (hcd : clsIn K C = some cd) (hp1 : ∀ me, refuseLoop me "__setattr__" cd.mro = pure ()) (hob : cd.mro.contains (.type "object") = true) (hne : cd.mro.isEmpty = false)
    (hh : cd.hasDict = true) (ha : findIn K (.ref C) nm = some none)
    (kont : ∀ h' tk' dx, (∀ b o, b ≠ x → hp.get? b = some o → h'.get? b = some o) → hp.objs.size ≤ dx → dx ≠ x → h'.get? x = some { cls := .ref C, dict := some dx, data := .fields fs } →
      h'.Ns1 dx (fun y => if y = nm then some v else none) → R (.ok (.ret .none)) ⟨h', g, d, tk', os⟩) :
    codeAny (model prog w) A (.call (.builtin "object.__setattr__") ⟨[.ref x, .str nm tk, v], []⟩) R ⟨hp, g, d, t, os⟩ := by
  have inst : InstAt hp x { cls := .ref C, data := .fields fs } C none := ⟨hx, rfl, rfl, trivial⟩
  have apart : x ≠ hp.objs.size := fun z => Nat.lt_irrefl _ (Nat.lt_of_lt_of_eq (Heap.lt_size hx) z.symm)
  have isO : Looks (model prog w) hp (isInstance (.ref x) (.type "object")) true := inst.type.andThen <| looks_mroIn X <| by
    unfold mroIn
    rw [hcd, Option.bind_some, if_neg (by rw [hne]; exact Bool.false_ne_true), hob]
  have chain : Looks (model prog w) hp (mroOf (.ref C)) cd.mro := (looks_clsIn X hcd).andThen .now
  have nobody : Looks (model prog w) hp (storeTaker? none) none := .now
  have itsCls : Looks (model prog w) hp (classData C) cd := looks_clsIn X hcd
  refine codeAny_call_builtin F.store_object.slot.plain F.store_object.entry ?_
  refine @check_slot (model prog w) _ _ ⟨hp, g, d, t, os⟩ "object.__setattr__" "object" "__setattr__" (.ref x) [.str nm tk, v] [] _ F.store_object.kind F.store_object.split isO (F.store_object.args (.ref x) (.str nm tk) v) ?_
  rw [osa_eq, refuse_eq]
  refine wpAny_bind (wpAny_bind (inst.type.at (wpAny_bind (chain.at ?_))))
  rw [hp1]
  refine wpAny_pure (wpAny_bind (inst.type.at (wpAny_bind ((looks_findIn X ha).at (wpAny_bind (nobody.at ?_))))))
  show wpAny _ _ (storeInOwnDict (.ref x) (.ref C) (.str nm tk) nm v false) _ _ _
  obtain ⟨c1, c2, c3, c4, c5, hd, c6, c7, c8, c9, c10⟩ := cd
  change hd = true at hh
  subst hh
  unfold storeInOwnDict ownDictForStores
  repeat (first | with_reducible refine store_in_new ?_ ?_ | with_reducible refine wpAny_loadPart_at hx ?_ | with_reducible refine itsCls.at ?_ | wp_step)
  case _ => exact ⟨_, #[], _, (Heap.get?_update_ne _ _ _ _ apart.symm).trans (Heap.get?_push_at rfl rfl), rfl, fun e he => absurd he (by simp), fun _ => rfl⟩
  case _ =>
    intro h' tk' hns hsame
    refine kont h' tk' hp.objs.size (fun b o hb ho => ?_) (Nat.le_refl _) apart.symm ?_ hns
    · rw [hsame.2 b (fun z => Nat.lt_irrefl _ (Nat.lt_of_lt_of_eq (Heap.lt_size ho) z.symm)), Heap.get?_update_ne _ _ _ _ hb]
      exact Heap.get?_push_of_some _ ho
    · rw [hsame.2 x apart]
      exact Heap.get?_update_self _ (Heap.get?_push_of_some _ hx) rfl
end
end FxE
namespace PySem
namespace LowX
open PySem.W PySem.Calls PyProof.Rows PySem.HandSPX
/-! ### the text of __init__ -/
def iA (p1 p2 : Pos) : Arguments := { posonlyargs := [], args := [{ arg := "self", annotation := none, pos := p1 }, { arg := "word", annotation := none, pos := p2 }], vararg := none, kwonlyargs := [], kw_defaults := [], kwarg := none, defaults := [] }
def iB (q1 q2 q3 q4 : Pos) : List Stmt := [.Assign [.Attribute (.Name "self" q1) "word" q2] (.Name "word" q3) q4]
def iS : Scope := { kind := .function, names := [(PySem.Str.ofString "self", .local), (PySem.Str.ofString "word", .local)], isGenerator := false, isCoroutine := false, more := [] }
/-- what the written part says of Low, at C, and of its __init__, at fI -/
structure LowTxt (K : Frag) (mg : Str → Option Value) (C fI : Addr) : Prop where
  gC : mg "InvalidSize" = some (.ref C)
  cls : ∃ nm q N bs bm sn sub ab col dd k0 k1 k2 k3 k5, K.lookup C = some (excClassObj nm q C N bs bm true sn sub ab col dd k0 k1 k2 k3 k5 "Exception.__new__") ∧ FxE.tailE bm = true
  sa : findIn K (.ref C) "__setattr__" = some (some (.builtin "object.__setattr__"))
  ga : findIn K (.ref C) "__getattribute__" = some (some (.builtin "BaseException.__getattribute__"))
  gg : findIn K (.ref C) "__getattr__" = some none
  noN : findIn K (.ref C) "word" = some none
  iC : findIn K (.ref C) "__init__" = some (some (.ref fI))
  tC : typeIn K (.ref fI) = some (.type "function")
  kC : keepIn K (.ref C) = true
  exC : subIn K (.ref C) (.type "BaseException") = some true
  tyC : typeIn K (.ref C) = some (.type "type")
  hdC : hasDictIn K C = true
  te : exmOne K (.ref C) (.ref C) = some true
  fn : ∃ (oc : Value) (od : Option Addr) (doc pm : Value) (an : Option Addr) (cdv ct : Value) (osl : Array (Option Value)) (p1 p2 q1 q2 q3 q4 : Pos),
    K.lookup fI = some ⟨oc, od, .func (fnOf "__init__" "InvalidSize.__init__" (iA p1 p2) (iB q1 q2 q3 q4) iS .none .none doc pm an cdv ct), osl⟩ ∧ codeIn K cdv "InvalidSize.__init__" = true
theorem one_size (v : Value) : [v].length ≤ sizeLine := by
  rw [sizeLine_eq]
  exact (by decide : 1 ≤ 16777216)
theorem kept_but {K : Frag} {h h' : Heap} {x : Addr} (X : K.In h) (hx : K.lookup x = none) (k : ∀ b o, b ≠ x → h.get? b = some o → h'.get? b = some o) : K.In h' := fun a o e =>
  k a o (fun z => by rw [z, hx] at e; cases e) (X a o e)
theorem ldC {M : Model} {s : Shared} {name : Str} {scope : Scope} {L a : Addr} {cd : Value} {m : Str → Option Value} {x : Str} {pos : Pos} {v : Value} {Q : Value → Shared → Prop} {A : Around} {E : Value → Shared → Prop} (hn : s.heap.Ns L m) (hv : m x = some v) (h : Q v s)
    (hk : scope.kind = .function := by rfl) (hl : (envOfC name scope L a cd).kindOf x = some .local := by rfl) (hd : (x == ("__debug__" : Str)) = false := by decide) :
    wpAny M A (eval (.Name x pos) (envOfC name scope L a cd)) Q E s := wpAny_Name (wpAny_loadName_local hk hl hn hv h) hd
/-- what __init__ leaves of a fresh exception at x -/
structure InitEnd (h h' : Heap) (x C dx t1 : Addr) (v : Value) : Prop where
  keep : ∀ b o, b ≠ x → h.get? b = some o → h'.get? b = some o
  obj : h'.get? x = some { cls := .ref C, dict := some dx, data := .fields #[.ref t1, .none, .none, .none, .bool false, .none] }
  dbig : h.objs.size ≤ dx
  dne : dx ≠ x
  ns : h'.Ns1 dx (fun y => if y = "word" then some v else none)
/-- a made Low -/
structure OwnMade (h h' : Heap) (e C d : Addr) (v : Value) : Prop where
  keep : ∀ b o, h.get? b = some o → h'.get? b = some o
  new : h.objs.size ≤ e
  obj : ∃ oe vs, h'.get? e = some oe ∧ oe.cls = .ref C ∧ oe.dict = some d ∧ oe.data = .fields vs ∧ vs[1]? = some .none
  dbig : h.objs.size ≤ d
  dne : d ≠ e
  ns : h'.Ns1 d (fun y => if y = "word" then some v else none)
section
variable {prog : Program} {w : World} {A : Around} {E : Value → Shared → Prop} {R : Result → Shared → Prop} {s : Shared} {K : Frag} {mg : Str → Option Value} {C fI : Addr}
theorem low_init (T : LowTxt K mg C fI) {x t0 : Addr} {v : Value} (X : K.In s.heap) (hlim : s.heap.NoLimit) (hx : s.heap.get? x = some (excO C t0)) (hnx : K.lookup x = none) (hroom : A.depth < recursionLimit)
    (hq : ∀ h' tk dx, InitEnd s.heap h' x C dx t0 v → R (.ok (.ret .none)) { s with heap := h', toks := tk }) :
    codeAny (model prog w) A (.call (.ref fI) ⟨[.ref x, v], []⟩) R s := by
  obtain ⟨oc, od, doc, pm, an, cdv, ct, osl, p1, p2, q1, q2, q3, q4, ho, hcd⟩ := T.fn
  obtain ⟨nm, q, N, bs, bm, sn, sub, ab, col, dd, k0, k1, k2, k3, k5, hC, hbm⟩ := T.cls
  have hcl : clsIn K C = some { name := nm, bases := bs, mro := .ref C :: bm, ns := N, qualname := q, hasDict := true, slotNames := sn, subclasses := sub, abstract := ab, collection := col, hasDel := false } := by unfold clsIn; rw [hC] <;> rfl
  refine Att.call_fn (binds := [("self", .ref x), ("word", v)]) X hlim ho hcd hroom (BindsTo.of_eq (by first | rfl | with_unfolding_all rfl)) (by first | rfl | decide | with_unfolding_all rfl) (fun s₁ IC => ?_) rfl rfl rfl
  obtain ⟨h₁, tk₁, rfl⟩ := IC.toInCall.same
  have k : ∀ b o, s.heap.get? b = some o → h₁.get? b = some o := IC.toInCall.keep
  have hn := IC.toInCall.ns
  have hxL : s.heap.objs.size ≠ x := Nat.ne_of_gt (Heap.lt_size hx)
  have X₁ : K.In h₁ := X.keeps k
  have hx₁ := k _ _ hx
  -- self.by = by
  show wpAny _ _ (execs _ _) _ _ _
  refine wpAny_execs_cons (plainObj_wpAny_Assign_Attribute ?_)
  refine ldC (v := v) hn (by first | rfl | with_unfolding_all rfl | kernel_rfl) (ldC (v := .ref x) hn (by first | rfl | with_unfolding_all rfl | kernel_rfl) ?_)
  refine set_plain X₁ (ox := excO C t0) (od := none) ⟨hx₁, rfl, rfl, trivial⟩ T.sa ?_
  refine FxE.laid X₁ hx₁ hcl (FxE.tailE_pass (.ref C :: bm) hbm) (FxE.tailE_obj (.ref C :: bm) hbm) (by rfl) rfl T.noN (fun h₃ tk₃ dx k₃ dn dne hx₃ hn₃ => ?_)
  show wpAny _ _ (execs _ _) _ _ _
  have z : s.heap.objs.size < h₁.objs.size := hn.lt
  exact wpAny_execs_nil (hq h₃ tk₃ dx ⟨fun b o hb e => k₃ b o hb (k b o e), hx₃, Nat.le_of_lt (Nat.lt_of_lt_of_le z dn), dne, hn₃⟩)
theorem low_made (T : LowTxt K mg C fI) {v : Value} (X : K.In s.heap) (hlim : s.heap.NoLimit) (hroom : A.depth + 1 < recursionLimit)
    (hq : ∀ h' tk e d, OwnMade s.heap h' e C d v → R (.ok (.ret (.ref e))) { s with heap := h', toks := tk }) :
    codeAny (model prog w) A (.call (.ref C) ⟨[v], []⟩) R s := by
  obtain ⟨nm, q, N, bs, bm, sn, sub, ab, col, dd, k0, k1, k2, k3, k5, hC, hbm⟩ := T.cls
  obtain ⟨hp, g, dr, tk, os⟩ := s
  have k : ∀ b o, hp.get? b = some o → ((hp.push (kdv_tup [v])).push (excO C hp.objs.size)).get? b = some o := fun b o e => Heap.get?_push_of_some _ (Heap.get?_push_of_some _ e)
  have hget : ((hp.push (kdv_tup [v])).push (excO C hp.objs.size)).get? (hp.objs.size + 1) = some (excO C hp.objs.size) := by heap_get
  have hnx : K.lookup (hp.objs.size + 1) = none := by
    cases e : K.lookup (hp.objs.size + 1) with
    | none => rfl
    | some o =>
      have z : hp.get? (hp.objs.size + 1) = some o := X _ _ e
      exact absurd (Nat.lt_of_succ_lt (Heap.lt_size z)) (Nat.lt_irrefl _)
  refine call_own F.excBase_Exception (fun X => FxE.tailE_contains X bm hbm) (X _ _ hC) (looks_findIn X T.iC) (fun self => bind_fn X self T.tC) (one_size v) ?_
  refine low_init (s := ⟨(hp.push (kdv_tup [v])).push (excO C hp.objs.size), g, dr, tk, os⟩) T (X.keeps k) (hlim.keeps k) hget hnx ?_ fun h' tk' dx ⟨k', hx, dn, dne, hns⟩ => ?_
  · show A.depth + 1 < recursionLimit
    exact hroom
  · have old : ∀ b o, hp.get? b = some o → h'.get? b = some o := fun b o e => k' b o (Nat.ne_of_lt (Nat.lt_succ_of_lt (Heap.lt_size e))) (k b o e)
    have z : hp.objs.size + 1 + 1 ≤ dx := by
      first
        | (simpa only [Heap.size_push] using dn)
        | exact dn
        | (have q := dn; rw [Heap.size_push, Heap.size_push] at q; exact q)
    exact ⟨rfl, hq h' tk' (hp.objs.size + 1) dx ⟨old, Nat.le_succ _, ⟨_, _, hx, rfl, rfl, rfl, rfl⟩, Nat.le_trans (Nat.le_trans (Nat.le_succ _) (Nat.le_succ _)) z, dne, hns⟩⟩
end
end LowX
end PySem
namespace L2
open PySem PySem.Spec PyProof.Rows
theorem relO_low {v : V} {v' : Value} (r : RelV v v') (f : Str) : RelO (List.lookup f [(("word" : Str), v)]) (if f = "word" then some v' else none) := by
  by_cases hw : f = "word"
  · subst hw
    rw [if_pos rfl]
    have q : List.lookup ("word" : Str) [(("word" : Str), v)] = some v := by simp [List.lookup]
    rw [q]
    exact r
  · rw [if_neg hw]
    have qw : (f == ("word" : Str)) = false := by simpa using hw
    have q2 : List.lookup f [(("word" : Str), v)] = none := by simp [List.lookup, qw]
    rw [q2]
    trivial
section
variable {X : Cx} {C fI : Addr}
/-- Low(e) -/
def tMkLow (C : Addr) (ta : TA) : St → Hp → XK → Prop := fun σ H Q => ta σ H fun vs H1 => ∃ v, vs = [v] ∧ ∀ d, H1 d = none → Q (.ref C) (some d) (upd H1 d (.xd [(("word" : Str), v)]))
theorem pmk_low {a : Expr} {ta : TA} {p pos : Pos} {k : Nat} (T : PySem.LowX.LowTxt X.K X.mg C fI) (hr : Room k X.A) (ha : PA X [a] ta) (hg : Gl X "InvalidSize" := by rfl)
    (he : starEach (a :: []) X.env = (false, eval a X.env) :: starEach [] X.env := by rfl) (hpl : (backTo pos (starEach [] X.env)).any (·.1) = false := by rfl) :
    PMk X (.Call (.Name "InvalidSize" p) [a] [] pos) (tMkLow C ta) := by
  intro pins s σ H Q I h
  refine wpAny_Call_Name_kw (ld_glob I hg T.gC ?_)
  refine PySem.W.callWith_K (h₀ := X.base) I.ok.mod.kin T.kC (thn (ha.run pos pins s σ H _ I h) fun us s1 hh => ?_) he hpl
  obtain ⟨vs, H1, I1, r1, v, ev, q1⟩ := hh
  subst ev
  refine ⟨I1.kIn, ?_⟩
  cases r1 with
  | cons rv rn =>
    rename_i v' us'
    cases rn
    show wpAny _ _ (call (.ref C) [v']) _ _ _
    have hlim := I1.nolimit
    obtain ⟨hp, g, dr, tk, os⟩ := s1
    refine wpAny_call (PySem.LowX.low_made T I1.kIn hlim (by have := hr.dp; omega) fun h' tk' e d M => ?_)
    show MkP X pins σ Q (.ref e) ⟨h', g, dr, tk', os⟩
    obtain ⟨oe, fv, hoe, hc, hd, hdat, h1⟩ := M.obj
    have hns := M.ns
    obtain ⟨G', g1, g2⟩ := restrict h' fun b => decide (b ≠ e)
    have gk : ∀ b, b ≠ e → G'.get? b = h'.get? b := fun b hb => g1 b (decide_eq_true hb)
    have ge : G'.get? e = none := g2 e (by simp)
    have old : ∀ b o, hp.get? b = some o → G'.get? b = some o := fun b o q => (gk b (Nat.ne_of_lt (Nat.lt_of_lt_of_le (Heap.lt_size q) M.new))).trans (M.keep b o q)
    have ob : ObjOk X.prog X.w (upd H1 d (.xd [(("word" : Str), v)])) G' d (.xd [(("word" : Str), v)]) :=
      ⟨_, hns.at (fun o q => (gk d M.dne).trans q), fun f => relO_low rv f⟩
    have J : Inv X pins σ (upd H1 d (.xd [(("word" : Str), v)])) ⟨G', g, dr, tk', os⟩ := I1.laid (t' := tk') old M.dbig ob
    refine ⟨e, oe, fv, ⟨G', g, dr, tk', os⟩, _, .ref C, some d, rfl, J, fun b o q => ?_, ge, hoe, ⟨hc, hd⟩, hdat, h1, ?_, rfl, I1.bare, raises_own T.exC T.tyC, q1 d (I1.hok.fresh M.dbig)⟩
    · by_cases hb : b = e
      · have q' : G'.get? b = some o := q
        rw [hb, ge] at q'; cases q'
      · exact (gk b hb).symm.trans q
    · rw [upd_ne (Ne.symm M.dne)]
      exact I1.hok.fresh M.new
/-- raise Low(e) -/
def tRaiseLow (C : Addr) (W : WX) (ta : TA) : TS := fun _ σ H => tMkLow C ta σ H fun cls d H' => W cls d σ H'
theorem ps_raiseLow {a : Expr} {ta : TA} {W : WX} {p pos pos2 : Pos} {k : Nat} (hc : X.calm = true) (T : PySem.LowX.LowTxt X.K X.mg C fI) (hr : Room k X.A) (tk : Takes X W) (ha : PA X [a] ta) (hg : Gl X "InvalidSize" := by rfl)
    (he : starEach (a :: []) X.env = (false, eval a X.env) :: starEach [] X.env := by rfl) (hpl : (backTo pos (starEach [] X.env)).any (·.1) = false := by rfl) :
    PS X (.Raise (some (.Call (.Name "InvalidSize" p) [a] [] pos)) none pos2) (tRaiseLow C W ta) := ps_raise hc tk (pmk_low T hr ha hg he hpl)
/-- low.by, low the exception that the suite holds (at a; its class cls, its dict d) -/
def tByLow (C : Addr) (a : Addr) (cls : Value) (d : Option Addr) (te : TE) : TE := fun σ H Q => te σ H fun x H1 => x = .ref a ∧ cls = .ref C ∧ ∃ (dd : Addr) (v : V), d = some dd ∧ H1 dd = some (.xd [(("word" : Str), v)]) ∧ Q v H1
theorem pe_byLow {a : Addr} {oe : Obj} {cls : Value} {d : Option Addr} {pn : List (Addr × Obj)} {e : Expr} {te : TE} {pos : Pos} (T : PySem.LowX.LowTxt X.K X.mg C fI) (hz : Zc cls d oe) (hf : ∃ vs, oe.data = .fields vs) (he : PE (X.suite a ((a, oe) :: pn)) e te)
    (hb : attributeBase e "word" X.env (eval e X.env) = eval e X.env := by rfl) :
    PE (X.suite a ((a, oe) :: pn)) (.Attribute e "word" pos) (tByLow C a cls d te) := by
  refine ⟨fun pins s σ H Q I h => ?_⟩
  refine attr_of hb (thn (he.run pins s σ H _ I h) fun u s1 hh => ?_)
  obtain ⟨x, H1, I1, rx, ex, ec, dd, v, ed, ea, q⟩ := hh
  subst ex
  obtain rfl : u = Value.ref a := rx
  subst ec
  subst ed
  obtain ⟨ha, _⟩ := I1.pin (a, oe) (List.mem_append_left _ List.mem_cons_self)
  obtain ⟨vs, hd⟩ := hf
  have hx : ObjOk X.prog X.w H1 s1.heap dd (.xd [(("word" : Str), v)]) := I1.hok dd _ ea
  obtain ⟨mA, hns, hr⟩ := hx
  obtain ⟨od, ho, hl⟩ := lookIn_ns hns
  have l : List.lookup ("word" : Str) [(("word" : Str), v)] = some v := by simp [List.lookup]
  obtain ⟨u, hu, ru⟩ := RelO.some_of (v := v) (o := mA "word") (by rw [← l]; exact hr "word")
  have J : PySem.W.InstAt s1.heap a oe C (some od) := ⟨ha, hz.1, by unfold PySem.W.notCls; rw [hd] <;> rfl, by rw [hz.2]; exact ho⟩
  exact HandSPX.exc_get I1.kIn J T.ga T.gg T.exC (PySem.W.findObj_own T.hdC T.noN rfl (by rw [hl, hu])) (handed_of ru) ⟨v, H1, I1.tok _, ru, q⟩
end
end L2


namespace Fx
open PySem PySem.Spec PyProof.Rows L2
section
variable {X : Cx} {CX : CXT} {k : Nat} {f : Addr} {fd : FuncData} {ps ks : List Str} {sp : Sp} {E : L2.St → XK} {x : Str} {p pos : Pos} {tk : TA} {kws : List Keyword}
  {g : List Value → List Value → List Value} {gV : List V → List V → List V}
def tCallKOS (sp : Sp) (gV : List V → List V → List V) (E : L2.St → XK) (tk : TA) : TE := fun σ H Q => tk σ H fun zs H2 => sp (gV [] zs) H2 Q (E σ)
/-- a call by names alone of a def that may raise -/
theorem pe_callKOS (F : FnOk X.prog X.w X.K X.mg X.base CX k f fd ps sp) (hr : Room k X.A) (hg : Gl X x) (hm : X.mg x = some (.ref f)) (hk : PySem.W.keepIn X.K (.ref f) = true) (hb : KBinds X.K fd ps ks g gV) (hx : ∀ σ, PassesAt CX X σ (E σ))
    (hkw : PK X kws tk) (hall : (backToKw pos (keywordEach kws X.env)).all (·.1.isSome) = true := by rfl) (hks : (backToKw pos (keywordEach kws X.env)).filterMap (·.1) = ks := by rfl)
    (hdb : (x == ("__debug__" : Str)) = false := by decide) (hpl : ((backTo pos (starEach [] X.env)).any (·.1) || (backToKw pos (keywordEach kws X.env)).any (·.1.isNone)) = false := by rfl) :
    PE X (.Call (.Name x p) [] kws pos) (tCallKOS sp gV E tk) := by
  constructor
  intro pins s σ H Q I h
  apply wpAny_Call_Name_kw
  apply ld_glob I hg hm (hd := hdb)
  apply PySem.W.callWith_KW0 (h₀ := X.base) I.ok.mod.kin hk hall (hplain := hpl)
  refine thn (hkw.run pos pins s σ H _ I h) ?_
  rintro ws s2 ⟨zs, H2, I2, rz, q2⟩
  refine ⟨I2.kIn, ?_⟩
  rw [hks]
  have r2 := hb.rel .nil rz
  have hl : (g [] ws).length = ps.length := by rw [← r2.length]; exact F.len _ _ _ _ q2
  refine wpAny_call (codeAny_mono (F.run X.A X.stack s2 H2 ⟨[], ks.zip ws⟩ (g [] ws) (gV [] zs) Q (E σ) hr I2.env0 (hb.to s2 [] ws I2.kIn hl) r2 q2) ?_)
  rintro (e | (u | _ | _ | _)) s' hq
  · exact hx σ pins H2 s2 e s' I2 hq
  all_goals first | exact I2.after hq | exact hq.elim
/-- an if, told of the heap -/
theorem if_raw {K : PySem.W.Frag} {t : TT} {ts us : TS} {ρ : List En} {R R1 R0 : List Ow} {b : Bool} {F H : Hp} {σ : L2.St} {D : Ends} (h : Et K t ρ R b R1) (S : Sls K F σ ρ) (A : At K F (R ++ R0) H)
    (kk : ∀ F1 H1, Ex F F1 → At K F1 (R1 ++ R0) H1 → if b = true then ts D σ H1 else us D σ H1) : tIfS t ts us D σ H := h R0 F H σ S A _ kk
theorem retKOS_raw {K : PySem.W.Frag} {sp : Sp} {E : L2.St → XK} {tk : TA} {gV : List V → List V → List V} {ρ : List En} {R R1 R0 : List Ow} {es : List En} {F H : Hp} {σ : L2.St} {D : Ends} (h : Ea K tk ρ R es R1) (S : Sls K F σ ρ) (A : At K F (R ++ R0) H)
    (kk : ∀ vs F1 H1, Ex F F1 → At K F1 (R1 ++ R0) H1 → Ens K F1 vs es → sp (gV [] vs) H1 D.rt (E σ)) : tRet (tCallKOS sp gV E tk) D σ H := h R0 F H σ S A _ kk
end
section
variable {K : PySem.W.Frag} {ρ : List En} {R R1 Rz R3 : List Ow} {te : TE}
theorem ev_x {i : Nat} {ds : List PyData} (h : ρ[i]? = some (.s ds)) : Ev K (tVar i) ρ R (.s ds) R := fun R0 F H σ S A Q q => by
  obtain ⟨s, h1, v, rfl, h2⟩ := S.get h
  exact ⟨v, h1, q v F H (Ex.refl F) A h2⟩
theorem ev_sS {t1 t2 : TO} {ds : List PyData} {lo hi : Option Int} (h : Ev K te ρ R (.s ds) R1) (h1 : Eo K t1 ρ R1 lo Rz) (h2 : Eo K t2 ρ Rz hi R3) : Ev K (tSl (rSlAny K) te t1 t2) ρ R (.d (.list (cutD ds lo hi))) R3 := fun R0 F H σ S A Q q =>
  h R0 F H σ S A _ fun v F1 H1 x1 A1 e1 => h1 R0 F1 H1 σ (S.mono x1) A1 _ fun F2 H2 x2 A2 => h2 R0 F2 H2 σ (S.mono (x1.trans x2)) A2 _ fun F3 H3 x3 A3 => by
    obtain ⟨a, ws, rfl, h4, h5⟩ := Seen.mono (x2.trans x3) e1
    refine .inl ⟨a, ws, rfl, ex_l A3.ex h4, fun p hp => ?_⟩
    obtain ⟨x, A4⟩ := A3.new (.lst (cutV ws lo hi)) hp
    exact q _ _ _ (x1.trans (x2.trans (x3.trans x))) A4 (.lst upd_same ((h5.mono x _).cut lo hi))
theorem At.ownR {F H : Hp} {p : Addr} {o : HO} (A : At K F R H) (hp : H p = none) : At K F (.rw p o :: R) (upd H p o) := by
  have old : ∀ r ∈ R, r.ad ≠ p := fun r hr e => by
    obtain ⟨o', ho⟩ := (A.own r hr).2.some
    rw [e, hp] at ho
    cases ho
  refine ⟨A.ex.side (fresh_back A.ex hp), ?_, fun r hr => ?_⟩
  · rw [List.map_cons, List.nodup_cons]
    refine ⟨fun hm => ?_, A.nd⟩
    obtain ⟨r, hr, e⟩ := List.mem_map.mp hm
    exact old r hr e
  · rcases List.mem_cons.mp hr with rfl | hr
    · exact ⟨fresh_back A.ex hp, upd_same⟩
    · exact ⟨(A.own r hr).1, (A.own r hr).2.mono (Ex.refl F) fun o' ho => by rw [upd_ne (old r hr)]; exact ho⟩
theorem Dts.rev {F : Hp} : ∀ {vs : List V} {ds : List PyData}, Dts K F vs ds → Dts K F vs.reverse ds.reverse
  | _, _, .nil => .nil
  | _, _, .cons a b => by
    rw [List.reverse_cons, List.reverse_cons]
    exact b.rev.append (.cons a .nil)
theorem es_retPair {t1 : TE} {ds : List PyData} {m : Int} {j : Nat} {P : Post} (h : Ev K t1 ρ R (.d (.list ds)) R1) (hj : ρ[j]? = some (.d (.int m))) (hn : ∀ aD aC, P.rt (.o aD) (.rw aD (.lst [.ref aC, .int m]) :: .ls aC ds.reverse :: R1)) :
    Es K (tRet (tLst (tCons (tRevL K t1) (tCons (tVar j) tNil)))) ρ R P := fun R0 F H σ D S A p =>
  h R0 F H σ S A _ fun v F1 H1 x1 A1 e1 => by
    obtain ⟨a, ws, rfl, h4, h5⟩ := Dt.listD e1
    refine ⟨a, ws, rfl, A1.sqL h4, fun aC hC => ?_⟩
    have h6 : Dts K F1 ws.reverse ds.reverse := Dts.rev h5
    have A2 := A1.own1 hC h6
    obtain ⟨s, h7, u, rfl, h8⟩ := (S.mono x1).get hj
    cases h8
    refine ⟨_, h7, by show 2 ≤ sizeLine; decide, fun aD hD => ?_⟩
    have A3 := A2.ownR (o := .lst [.ref aC, .int m]) hD
    exact p.rt (.o aD) _ _ F1 _ (hn aD aC) x1 rfl A3
end
end Fx

namespace Fx
open PySem PySem.Spec PyProof.Rows L2
section
variable {CX : CXT} {P : Program} {w : World} {K : PySem.W.Frag} {mg mb : Str → Option Value} {base : Heap}
/-- a def called at one place: what stands around is known -/
theorem fn_at {k : Nat} {f : Addr} {name qual : Str} {params : Arguments} {body : List Stmt} {scope : Scope} {dV kV doc pm cdv ct oc : Value} {an od : Option Addr} {osl : Array (Option Value)} {N ps : List Str}
    {A : Around} {outer : List Env} {s : Shared} {H : Hp} {args : Args} {us : List Value} {vs : List V} {Q : VK} {E : XK}
    (lk : K.lookup f = some ⟨oc, od, .func (PySem.W.fnOf name qual params body scope dV kV doc pm an cdv ct), osl⟩) (hcd : PySem.W.codeIn K cdv qual = true) (Sc : FnScope N ps scope)
    (hr : Room (k + 1) A) (e0 : Env0 P w K mg base A outer s H) (hb : BindsTo s (PySem.W.fnOf name qual params body scope dV kV doc pm an cdv ct) args (ps.zip us)) (rv : Vals vs us) (hl : vs.length = ps.length)
    (hbody : ∃ t, PSs (cxOf CX P w K mg base N qual scope f cdv A outer s H E) body t ∧ t { nx := fun _ H' => Q .non H', rt := Q } (start N vs) H) :
    codeAny (model P w) A (.call (.ref f) args) (CR CX outer P w H s Q E) s := by
  obtain ⟨t, ht, hq⟩ := hbody
  have stays : ∀ b o, base.get? b = some o → s.heap.get? b = some o := fun b o e => (e0.bs b o e).1
  have KX : K.In s.heap := e0.mod.kin.keeps stays
  refine codeAny_call_function hr.depth (KX _ _ lk) rfl Sc.co Sc.gen rfl (PySem.W.codeRec_of KX hcd) (hb _ _ _ _ ?_)
  refine wpAny_newFunctionEnv_cells Sc.kind ?_ ?_
  · rintro ⟨n, v⟩ hy
    exact (Sc.par n (List.of_mem_zip hy).1).imp id fun q => ⟨q, PySem.W.cellsFrom_some _ _ _ (.inl q)⟩
  · rintro env he s1 x
    subst he
    refine ⟨(e0.mod.nolimit.keeps stays).keeps x.toInCall.keep, codeAny_func ?_⟩
    have I := inv_start (CX := CX) (E := E) Sc hr.hd e0 hl rv x
    refine wpAny_mono (ht.run [] s1 (start N vs) H _ I hq) ?_ fun _ _ h => h
    rintro fl s' hs
    cases fl with
    | next => obtain ⟨_, H', J, q⟩ := hs; exact (⟨.non, H', J.os, J.bare, J.base, J.hok, rfl, q⟩ : CE outer P w H s Q .none s')
    | ret u => obtain ⟨v, _, H', J, rel, q⟩ := hs; exact (⟨v, H', J.os, J.bare, J.base, J.hok, rel, q⟩ : CE outer P w H s Q u s')
    | brk => obtain ⟨_, _, _, q⟩ := hs; exact q.elim
    | cont => obtain ⟨_, _, _, q⟩ := hs; exact q.elim

/-- what the law's call is to give -/
def Gives (s₁ : Shared) (r : Result) (s' : Shared) : Prop := r = .ok (.ret (.bool true)) ∧ OldK s₁.heap s'.heap ∧ s'.os = s₁.os ∧ AllBare s'.gens
/-- the call of the law, told at one place -/
def Runs (P : Program) (w : World) (K : PySem.W.Frag) (mg : Str → Option Value) (fa a : Addr) (s₁ : Shared) (ns : List Int) : Prop :=
  ∀ (base : Heap) (H : Hp), K.In base → base.Ns mainGlobals mg → SqL K H a (ns.map V.int) → Env0 P w K mg base callerA [] s₁ H →
    codeAny (model P w) callerA (.call (.ref fa) ⟨[.ref a], []⟩) (CR CX0 [] P w H s₁ (fun v _ => v = .bl true) E0) s₁
theorem go_core {fa a : Addr} {s₁ : Shared} {vs : List Value} {ns : List Int} {H : Hp} (KX : K.In s₁.heap) (hns : s₁.heap.Ns mainGlobals mg) (hb : s₁.heap.Ns builtinsNs mb) (hbb : ∀ x : Str, x ≠ "__name__" → mb x = bootBuiltins x)
    (hlim : s₁.heap.NoLimit) (hg : s₁.gens = #[]) (ha : s₁.heap.get? a = some { cls := .type "list", data := .seq vs.toArray }) (go : Runs P w K mg fa a s₁ ns)
    (hO : Only H) (hS : SqL K H a (ns.map V.int)) (hok : HOk P w H s₁.heap) (hA : ∀ b, H b ≠ none → b = a) (hK : H a ≠ none → K.lookup a = none) :
    codeAny (model P w) callerA (.call (.ref fa) ⟨[.ref a], []⟩) (Gives s₁) s₁ := by
  have off : ∀ {b : Addr}, b ≠ a → H b = none := fun {b} h => Classical.byContradiction fun z => h (hA b z)
  have dict_off : ∀ {b : Addr} {o : Obj} {es : Array DictEntry} {ep : Nat}, s₁.heap.get? b = some o → o.data = .dict es ep → H b = none := fun {b o es ep} e d => off fun z => by
    subst z
    rw [ha] at e
    cases e
    exact (nomatch d)
  have ns_hid : ∀ {b : Addr} {m : Str → Option Value}, s₁.heap.Ns b m → (hidT s₁.heap H).Ns b m := by
    rintro b m ⟨o, es, ep, e, d, r⟩
    exact ⟨o, es, ep, hidT_get e (dict_off e d), d, r⟩
  have kin : K.In (hidT s₁.heap H) := by
    intro b o e
    refine hidT_get (KX b o e) (Classical.byContradiction fun z => ?_)
    have h1 := hA b z
    subst h1
    rw [hK z] at e
    cases e
  obtain ⟨mc, l1, l2⟩ := hlim
  have e0 : Env0 P w K mg (hidT s₁.heap H) callerA [] s₁ H :=
    ⟨rfl, ⟨kin, ns_hid hns, ⟨mb, ns_hid hb, hbb⟩, ⟨mc, ns_hid l1, l2⟩⟩, fun b o e => of_hidT e, Nat.le_of_eq (hidT_size _ _), trivial, by intro b hb; exact (nomatch hb), hok, .of_eq hg⟩
  refine codeAny_mono (go _ H kin (ns_hid hns) hS e0) ?_
  intro r s' h
  cases r with
  | error e => exact (show False from h).elim
  | ok fl =>
    cases fl with
    | next => exact (show False from h).elim
    | brk => exact (show False from h).elim
    | cont => exact (show False from h).elim
    | ret u =>
      obtain ⟨v, H', os, bare, un, hok', rel, q⟩ := h
      have q' : v = .bl true := q
      subst q'
      obtain rfl : u = Value.bool true := rel
      refine ⟨rfl, OldK.of_keep ?_, os, bare⟩
      intro b o e
      rcases hO b with z | ⟨ob, xs, z⟩
      · exact un.keep b o e z (fun m => nomatch m) (fun m => nomatch m)
      · obtain ⟨e1, _⟩ := hok b _ z
        obtain ⟨e2, _⟩ := hok' b _ (un.frzs b ob _ z)
        rw [e] at e1
        cases e1
        exact e2
theorem law_go {fa a : Addr} {s₁ : Shared} {vs : List Value} {ns : List Int} (KX : K.In s₁.heap) (hns : s₁.heap.Ns mainGlobals mg) (hb : s₁.heap.Ns builtinsNs mb) (hbb : ∀ x : Str, x ≠ "__name__" → mb x = bootBuiltins x)
    (hlim : s₁.heap.NoLimit) (hg : s₁.gens = #[]) (ha : s₁.heap.get? a = some { cls := .type "list", data := .seq vs.toArray }) (hi : IntsAre vs ns) (hl : ns.length ≤ sizeLine) (go : Runs P w K mg fa a s₁ ns) :
    codeAny (model P w) callerA (.call (.ref fa) ⟨[.ref a], []⟩) (Gives s₁) s₁ := by
  have rv : Vals (ns.map V.int) vs := vals_ints hi
  cases hk : K.lookup a with
  | some o =>
    have e := KX a o hk
    rw [ha] at e
    cases e
    have hS : SqL K (fun _ => none) a (ns.map V.int) := .inr ⟨_, vs.toArray, _, hk, rfl, rfl, rfl, by rw [List.size_toArray, hi.length]; exact hl, by simpa using rv⟩
    exact go_core KX hns hb hbb hlim hg ha go (H := fun _ => none) (fun _ => .inl rfl) hS (fun b u z => nomatch z) (fun b z => absurd rfl z) fun z => absurd rfl z
  | none =>
    let H : Hp := fun b => if b = a then some (.frz { cls := .type "list", data := .seq vs.toArray } (.lst (ns.map V.int))) else none
    have at_a : H a = some (.frz { cls := .type "list", data := .seq vs.toArray } (.lst (ns.map V.int))) := if_pos rfl
    have off : ∀ b, b ≠ a → H b = none := fun b h => if_neg h
    refine go_core (H := H) KX hns hb hbb hlim hg ha go ?_ (.inl (.inr ⟨_, at_a⟩)) ?_ ?_ fun _ => hk
    · intro b
      by_cases h : b = a
      · exact .inr ⟨_, _, by rw [h]; exact at_a⟩
      · exact .inl (off b h)
    · intro b u z
      by_cases h : b = a
      · subst h
        rw [at_a] at z
        cases z
        exact ⟨ha, by rw [List.length_map]; exact hl, vs, _, rv, ha⟩
      · rw [off b h] at z
        cases z
    · intro b z
      exact Classical.byContradiction fun h => z (off b h)
end
/-- the goal that k_head leaves -/
theorem walk_go {l : PySem.W.OpenLaw} {n : Nat} {q : Program} {loose : List Str} {XP : (Str → Option Value) → Heap → Prop} {YP : World → Heap → Prop} {d : DefRec} {K : Params → PySem.W.Frag}
    (hn : l.most = some n) (hn2 : n ≤ sizeLine) (hdf : d.params.defaults = []) (hY : ∀ (w : World) (h : Heap), YP w h → (K w.params).In h)
    (go : ∀ (w : World) (mg : Str → Option Value) (fa a : Addr) (s₁ : Shared) (ns : List Int), ns.length ≤ n → (K w.params).In s₁.heap → s₁.heap.Ns mainGlobals mg → mg d.name = some (.ref fa) → Runs l.prog w (K w.params) mg fa a s₁ ns) :
    PySem.W.WalkO q loose XP YP l.row.toRowW d [] (fun f vs => PySem.call f vs) := by
  apply Att.attach_call hn hdf
  intro w s₀ s₁ mg mb fa o pm cd doc a vs ns G Y ho hd hcd hmg hobj hints hlen hg
  have KX := hY w _ Y
  exact law_go KX G.T.g G.T.b G.T.builtins G.T.nolimit hg hobj hints (Nat.le_trans hlen hn2) (go w mg fa a s₁ ns hlen KX G.T.g hmg)
/-! ### what is owned may be forgotten; texts of data -/
section
variable {K : PySem.W.Frag} {ρ : List En} {R : List Ow}
theorem At.sub {F H : Hp} {R' : List Ow} (A : At K F R H) (h : List.Sublist R' R) : At K F R' H := ⟨A.ex, A.nd.sublist (h.map _), fun r hr => A.own r (h.subset hr)⟩
theorem es_forget {ts : TS} {P : Post} {R' : List Ow} (hs : List.Sublist R' R) (h : Es K ts ρ R' P) : Es K ts ρ R P := fun R0 F H σ D S A p => h R0 F H σ D S (A.sub (List.Sublist.append hs (List.Sublist.refl R0))) p
/-- not a huge number -/
def Wee (i : Int) : Prop := i.natAbs < 2 ^ 100
theorem Wee.log {i : Int} (h : Wee i) : i.natAbs.log2 < 1920 := by
  by_cases h0 : i.natAbs = 0
  · rw [h0]; decide
  · exact Nat.lt_trans ((Nat.log2_lt h0).mpr h) (by decide)
theorem wee_of {i : Int} (h0 : -(2 ^ 99 : Int) ≤ i) (h1 : i ≤ 2 ^ 99) : Wee i := by unfold Wee; omega
theorem Wee.len {i : Int} (h : Wee i) : (PyData.shown (.int i)).length ≤ 2000 := by
  have h2 := int_text_length_le10 (a := i) (k := 31) (by decide) (Nat.lt_of_lt_of_le h (by decide))
  show (Str.ofString (toString i)).length ≤ 2000
  rw [PySem.ofString_length]
  omega
theorem rc_reprI {i : Int} (h : Wee i) : RcK K (rRepr K) [.d (.int i)] R (.d (.str (PyData.shown (.int i)))) :=
  rc_repr (by show decide _ = true; exact decide_eq_true h.log) (by rfl) (by show 0 ≤ 60; omega) (Nat.le_trans h.len (by decide))
theorem wee_tup {ns : List Int} (h : ∀ x ∈ ns, Wee x) : PyData.showableAll (ns.map .int) = true ∧ PyData.hasDictAll (ns.map .int) = false ∧ PyData.depthAll (ns.map .int) = 0 ∧ PyData.leavesShortAll 2000 (ns.map .int) = true ∧ PyData.bulkAll (ns.map .int) = ns.length := by
  induction ns with
  | nil => exact ⟨rfl, rfl, rfl, rfl, rfl⟩
  | cons n r ih =>
    obtain ⟨h1, h2, h3, h4, h5⟩ := ih fun x hx => h x (by simp [hx])
    have hn := h n (by simp)
    refine ⟨?_, ?_, ?_, ?_, ?_⟩
    · show (PyData.showable (.int n) && PyData.showableAll (r.map .int)) = true
      rw [h1, show PyData.showable (.int n) = true from decide_eq_true hn.log]; rfl
    · show (PyData.hasDict (.int n) || PyData.hasDictAll (r.map .int)) = false
      rw [h2]; rfl
    · show max (PyData.depth (.int n)) (PyData.depthAll (r.map .int)) = 0
      rw [h3]; rfl
    · show (PyData.leavesShort 2000 (.int n) && PyData.leavesShortAll 2000 (r.map .int)) = true
      rw [h4, show PyData.leavesShort 2000 (.int n) = true from decide_eq_true hn.len]; rfl
    · show PyData.bulk (.int n) + 1 + PyData.bulkAll (r.map .int) = r.length + 1
      rw [h5, show PyData.bulk (.int n) = 0 from rfl]; omega
theorem rc_reprT {ns : List Int} (h : ∀ x ∈ ns, Wee x) (hl : ns.length ≤ 1000) : RcK K (rRepr K) [.d (.tuple (ns.map .int))] R (.d (.str (PyData.shown (.tuple (ns.map .int))))) := by
  obtain ⟨h1, h2, h3, h4, h5⟩ := wee_tup h
  refine rc_repr h1 h2 ?_ ?_
  · show PyData.depthAll (ns.map .int) + 1 ≤ 60
    omega
  · have := PyData.shown_le_bulk 2000 (by decide) (.tuple (ns.map .int)) h4
    rw [show PyData.bulk (.tuple (ns.map .int)) = ns.length from h5] at this
    refine Nat.le_trans this (Nat.le_trans (Nat.add_le_add_right (Nat.mul_le_mul_left _ hl) _) (by decide))
theorem rc_reprM {α : Type} {f : α → Int} {l : List α} (h : ∀ a ∈ l, Wee (f a)) (hl : l.length ≤ 1000) : RcK K (rRepr K) [.d (.tuple (l.map fun a => .int (f a)))] R (.d (.str (PyData.shown (.tuple (l.map fun a => .int (f a)))))) := by
  rw [map_int]
  exact rc_reprT (fun x hx => by obtain ⟨a, ha, rfl⟩ := List.mem_map.mp hx; exact h a ha) (by rw [List.length_map]; exact hl)
theorem rv_neSS {a : Str} : Rv K rNe (.d (.str a)) (.d (.str a)) R (.d (.bool false)) := fun R0 F H v u hv hu A Q q => by
  cases hv; cases hu
  refine ⟨rfl, ?_⟩
  rw [decide_eq_true (show V.str a = V.str a from rfl)]
  exact q _ F H (Ex.refl F) A (.bl _)
end
theorem kb_of {K : PySem.W.Frag} {x qual : Str} {st : Stmt} {f : Addr} {fd : FuncData} {ps ks : List Str} {g : List Value → List Value → List Value} {gV : List V → List V → List V} (F : Fun K x qual st f fd)
    (h : ∀ (kV doc pm : Value) (an : Option Addr) (cdv ct : Value) (us ws : List Value), (g us ws).length = ps.length → bindArgs (PySem.W.fnOf x qual (defArgs st) (defBody st) (defScope st) .none kV doc pm an cdv ct) ⟨us, ks.zip ws⟩ = pure (ps.zip (g us ws)))
    (r : ∀ {vs : List V} {us : List Value} {zs : List V} {ws : List Value}, Vals vs us → Vals zs ws → Vals (gV vs zs) (g us ws)) : KBinds K fd ps ks g gV := by
  obtain ⟨oc, od, kV, doc, pm, an, cdv, ct, osl, rfl, lk, hcd⟩ := F.ex
  exact ⟨fun s us ws _ hl => .of_eq (h kV doc pm an cdv ct us ws hl), r⟩
end Fx

namespace FxR
open PySem PySem.Spec PyProof.Rows L2 HT
section
variable {prog : Program} {w : World} {A : Around} {E : Value → Shared → Prop} {s : Shared}
/-- the parts of a slice that only has a step of -1 -/
theorem applied_rev {sl : Addr} {vl vu vs : Value} {n : Nat} {Q : Int × Int × Nat → Shared → Prop} (hs : s.heap.IsSliceOf sl vl vu vs) (pl : IsPart vl none) (pu : IsPart vu none) (ps : IsPart vs (some (-1)))
    (h : Q ((n : Int) - 1, -1, n) s) : wpAny (model prog w) A (Builtin.Slice.sliceApplied (.ref sl) (pure (n : Int))) Q E s := by
  obtain ⟨o, ho, hc, hd⟩ := id hs
  unfold Builtin.Slice.sliceApplied Builtin.Slice.sliceFields
  apply wpAny_bind
  apply wpAny_bind
  refine wpAny_field ho hd (x := vl) rfl ?_
  apply wpAny_bind
  refine wpAny_field ho hd (x := vu) rfl ?_
  apply wpAny_bind
  refine wpAny_field ho hd (x := vs) rfl (wpAny_pure ?_)
  apply wpAny_bind
  refine slicePart_ ps ?_
  show wpAny _ _ (if ((-1 : Int) == 0) = true then _ else _) _ _ s
  rw [if_neg (by decide)]
  apply wpAny_bind
  refine slicePart_ pl ?_
  apply wpAny_bind
  refine slicePart_ pu ?_
  apply wpAny_bind
  apply wpAny_pure
  have e1 : Builtin.Slice.sliceAdjust none none (-1) (n : Int) = ((n : Int) - 1, -1) := by unfold Builtin.Slice.sliceAdjust; simp
  have e2 : Builtin.Slice.slicePlaces ((n : Int) - 1) (-1) (-1) = n := by
    unfold Builtin.Slice.slicePlaces
    by_cases hn : n = 0
    · subst hn; decide
    · rw [if_neg (by decide), if_pos (by omega)]
      have : ((n : Int) - 1 - -1 - 1) / (- -1) + 1 = n := by
        rw [show (- -1 : Int) = 1 by decide, Int.ediv_one]; omega
      rw [this]; exact Int.toNat_natCast n
  show wpAny _ _ (match Builtin.Slice.sliceAdjust none none (-1) (n : Int) with | (lo, hi) => pure (lo, (-1 : Int), Builtin.Slice.slicePlaces lo hi (-1))) _ _ s
  rw [e1]
  show wpAny _ _ (pure ((n : Int) - 1, (-1 : Int), Builtin.Slice.slicePlaces ((n : Int) - 1) (-1) (-1))) _ _ s
  rw [e2]
  exact wpAny_pure h
theorem fm_congr {α β : Type} {f g : α → Option β} : ∀ {l : List α}, (∀ a ∈ l, f a = g a) → l.filterMap f = l.filterMap g
  | [], _ => rfl
  | a :: l, h => by
    rw [List.filterMap_cons, List.filterMap_cons, h a (by simp), fm_congr (l := l) fun b hb => h b (by simp [hb])]
theorem picked_rev (xs : List Value) : (List.range xs.length).filterMap (fun (m : Nat) => xs.toArray[((xs.length : Int) - 1 + (m : Int) * -1).toNat]?) = xs.reverse := by
  have e : ∀ m ∈ List.range xs.length, xs.toArray[((xs.length : Int) - 1 + (m : Int) * -1).toNat]? = xs.reverse[m]? := by
    intro m hm
    have hm' := List.mem_range.mp hm
    rw [List.getElem?_reverse hm', List.getElem?_toArray]
    congr 1
    omega
  rw [fm_congr e]
  have hr : xs.length = xs.reverse.length := (List.length_reverse).symm
  rw [hr]
  generalize xs.reverse = ys
  have : ∀ (k : Nat), k ≤ ys.length → (List.range k).filterMap (fun m => ys[m]?) = ys.take k := by
    intro k
    induction k with
    | zero => intro _; rfl
    | succ k ih =>
      intro hk
      rw [List.range_succ, List.filterMap_append, ih (by omega), List.take_succ]
      rw [List.getElem?_eq_getElem (by omega)]
      simp [List.getElem?_eq_getElem (show k < ys.length by omega)]
  rw [this _ (Nat.le_refl _), List.take_length]
theorem item_rev {t sl : Addr} {items : List Value} {vl vu vs : Value} {Q : Value → Shared → Prop} (ht : IsTup s.heap t items.toArray) (hs : s.heap.IsSliceOf sl vl vu vs) (pl : IsPart vl none) (pu : IsPart vu none) (ps : IsPart vs (some (-1)))
    (h : Q (.ref s.heap.objs.size) { s with heap := s.heap.push { cls := .type "tuple", data := .seq items.reverse.toArray } }) (hz : items.length ≤ sizeLine) : wpAny (model prog w) A (getItem (.ref t) (.ref sl)) Q E s := by
  have fit : sizeOk (.seq items.reverse.toArray) := by
    show items.reverse.toArray.size ≤ sizeLine
    rw [List.size_toArray, List.length_reverse]; exact hz
  obtain ⟨o, ho, hc, hd⟩ := id hs
  have isS : s.TypeIs (.ref sl) "slice" := ⟨o, ho, hc⟩
  unfold getItem
  try with_reducible apply wpAny_holding
  first | (refine wpAny_bind (wpAny_pure ?_)) | skip
  apply wpAny_bind
  refine wpAny_sequenceKey ht.typeIs (by decide) ?_
  apply wpAny_bind
  refine wpAny_callSpecial?_slot (name := Str.ofString "__getitem__") ht.typeIs PyProof.Rows.slot_tuple_getitem ?_
  refine wpAny_call_entry PyProof.Rows.slot_tuple_getitem ht.typeIs entry_tuple_getitem ?_ (args_tuple_getitem _ _)
  show wpAny _ _ (Builtin.Tuple.tupleItemsOf (.ref t) >>= _) _ _ s
  apply wpAny_bind
  refine tupleItemsOf_ ht ?_
  apply wpAny_bind
  refine wpAny_typeOf isS ?_
  rw [if_pos (by decide)]
  apply wpAny_bind
  refine applied_rev (n := items.toArray.size) hs pl pu ps ?_
  show wpAny _ _ (if (((items.toArray.size : Int) - 1) == 0 && (-1 : Int) == 1 && items.toArray.size == items.toArray.size) = true then _ else _) _ _ s
  rw [if_neg (by rw [show ((-1 : Int) == 1) = false from rfl, Bool.and_false, Bool.false_and]; exact Bool.false_ne_true)]
  have pk := picked_rev items
  rw [show items.length = items.toArray.size from (by rw [List.size_toArray])] at pk
  rw [pk]
  first
    | exact wpAny_bind (m := Builtin.Tuple.tupleExact _) (wpAny_newObj_type (wpAny_pure ⟨_, rfl, wpAny_pure h⟩) fit)
    | exact wpAny_bind (m := Builtin.Tuple.tupleExact _) (wpAny_newObj_type (wpAny_bind (wpAny_pure (wpAny_pure ⟨_, rfl, wpAny_pure h⟩))) fit)
    | exact wpAny_bind (wpAny_bind (m := Builtin.Tuple.tupleExact _) (wpAny_newObj_type (wpAny_pure (wpAny_pure ⟨_, rfl, wpAny_pure h⟩)) fit))
    | exact wpAny_bind (wpAny_bind (m := Builtin.Tuple.tupleExact _) (wpAny_newObj_type (wpAny_pure ⟨_, rfl, wpAny_pure h⟩) fit))
end
end FxR

namespace Fx
open PySem PySem.Spec PyProof.Rows L2
section
variable {X : Cx}
/-- t[::-1] -/
def tRevT (K : PySem.W.Frag) (te : TE) : TE := fun σ H Q => te σ H fun x H1 => ∃ a xs, x = .ref a ∧ SqT K H1 a xs ∧ ∀ p, H1 p = none → Q (.ref p) (upd H1 p (.tup xs.reverse))
theorem pe_revT {e : Expr} {te : TE} {k : Nat} {p1 p2 p3 pos : Pos} {K : PySem.W.Frag} (he : PE X e te) (hK : X.K = K := by rfl) : PE X (.Subscript e (.Slice none none (some (.UnaryOp .USub (.Constant (.int 1) k p1) p2)) p3) pos) (tRevT K te) := by
  subst hK
  constructor
  intro pins s σ H Q I h
  refine Subscript_ (thn (he.run pins s σ H _ I h) ?_)
  rintro v s1 ⟨x, H1, I1, r1, a, xs, rfl, hx, q⟩
  cases r1
  have hst : PO X (some (.UnaryOp .USub (.Constant (.int 1) k p1) p2)) (tPart (tUn (rU fun i => .int (-i)) (tC (.int 1)))) := po_some (pe_un un_neg pe_int)
  refine wpAny_Slice (thn (po_none.run pins s1 σ H1 (fun o H2 => o = none ∧ H2 = H1) I1 ⟨rfl, rfl⟩) ?_)
  rintro vl s2 ⟨l, H2, I2, pl, rfl, rfl⟩
  refine thn (po_none.run pins s2 σ H2 (fun o H3 => o = none ∧ H3 = H2) I2 ⟨rfl, rfl⟩) ?_
  rintro vu s3 ⟨u, H3, I3, pu, rfl, rfl⟩
  refine thn (hst.run pins s3 σ H3 (fun o H4 => o = some (-1) ∧ H4 = H3) I3 ⟨1, rfl, -1, rfl, rfl, rfl⟩) ?_
  rintro vs s4 ⟨o, H4, I4, ps, rfl, rfl⟩
  have I5 : Inv X pins σ H4 { s4 with heap := s4.heap.push { cls := .type "slice", data := .fields #[vl, vu, vs] } } := I4.kept (t' := s4.toks) fun b ob q => Heap.get?_push_of_some _ q
  obtain ⟨its, r, ht, hz⟩ := I5.tuple hx
  have hlen := r.length
  show wpAny (model X.prog X.w) X.A (subscriptTail e (.Slice none none (some (.UnaryOp .USub (.Constant (.int 1) k p1) p2)) p3) (.ref a) (.ref s4.heap.objs.size)) (EP X pins σ Q) X.xe { s4 with heap := s4.heap.push { cls := .type "slice", data := .fields #[vl, vu, vs] } }
  refine tail_any (ops := [.ref a, .ref s4.heap.objs.size]) ht.typeIs (PyProof.Rows.slot_tuple_getitem.lookup) ?_ (by with_unfolding_all rfl)
  refine FxR.item_rev ht (Heap.IsSliceOf.new _ vl vu vs) pl pu ps ?_ (by omega)
  refine ⟨.ref _, _, I5.laid (t' := s4.toks) (o := .tup xs.reverse) (fun b ob q => Heap.get?_push_of_some _ q) (Nat.le_refl _) ?_, rfl, q _ (I5.hok.fresh (Nat.le_refl _))⟩
  exact ⟨by rw [List.length_reverse]; exact hz, _, r.reverse, IsTup.new _ _⟩
/-! ### sorted(set(t)) -/
def rSetT (K : PySem.W.Frag) (w : World) : List V → Hp → VK → Prop := fun xs H Q => ∃ (a : Addr) (ns : List Int), xs = [.ref a] ∧ SqT K H a (ns.map V.int) ∧ ns.length ≤ 1000 ∧ ∀ (p : Addr) (c : Nat), c ≤ ns.length → H p = none → Q (.ref p) (upd H p (SetO w p (fun j => decide (j ∈ ns)) c))
theorem call_setT {K : PySem.W.Frag} {w : World} (hc : X.calm = true := by rfl) (hK : X.K = K := by rfl) (hw : X.w = w := by rfl) : CallR X (.type "set") (rSetT K w) := by
  subst hK hw
  intro pins s σ H xs us Q I r h
  obtain ⟨a, ns, rfl, hq, hl, q⟩ := h
  rw [Vals.ref1 r]
  obtain ⟨its, rv, pt, hz⟩ := I.tuple hq
  refine call_set_tupI ns (I.ok.hd hc) (show s.heap.IsTuple a its.toArray from pt) (ints_of_vals rv) (by unfold scanBound; omega) ?_
  intro h' tk c R1 hcn kk
  exact ⟨.ref s.heap.objs.size, _, I.laid (t' := tk) kk (Nat.le_refl _) (setO_new R1), rfl, q _ c hcn (I.hok.fresh (Nat.le_refl _))⟩
theorem callSortSet {w : World} (hc : X.calm = true := by rfl) (hw : X.w = w := by rfl) : CallR X (.builtin "sorted") (rSortedSet w) := by subst hw; exact cr_sortedSet hc
/-- sum(t) -/
def rSumT (K : PySem.W.Frag) : List V → Hp → VK → Prop := fun vs H Q => ∃ (a : Addr) (ns : List Int), vs = [V.ref a] ∧ SqT K H a (ns.map V.int) ∧ Q (.int ns.sum) H
theorem callSumT {K : PySem.W.Frag} (hc : X.calm = true := by rfl) (hK : X.K = K := by rfl) : CallR X (.builtin "sum") (rSumT K) := by
  subst hK
  intro pins s σ H vs us Q I r h
  obtain ⟨a, ns, rfl, hs, q⟩ := h
  obtain ⟨its, rv, ht, _⟩ := I.tuple hs
  rw [Vals.ref1 r]
  obtain ⟨xs, e⟩ := (rv.ints).allInts.items
  have hn : numsOf (intItems xs).toList = ns := by rw [← e]; exact (rv.ints).numsOf
  rw [nums_intItems] at hn
  have ht2 : s.heap.IsTuple a (intItems xs) := e ▸ (show s.heap.IsTuple a its.toArray from ht)
  refine PySem.W.ktm_sumG (I.ok.hd hc) ht2 fun h' tk t' hk => ?_
  rw [preSum_eq, List.take_of_length_le (by simp), hn]
  exact ⟨.int _, H, I.kept hk, ⟨_, rfl⟩, q⟩
end
section
variable {K : PySem.W.Frag} {w : World} {ρ : List En} {R R1 Rz : List Ow} {te tn to ti : TE}
theorem ev_revT {ds : List PyData} (h : Ev K te ρ R (.d (.tuple ds)) R1) : Ev K (tRevT K te) ρ R (.d (.tuple ds.reverse)) R1 := fun R0 F H σ S A Q q =>
  h R0 F H σ S A _ fun v F1 H1 x1 A1 e1 => by
    obtain ⟨a, ws, rfl, h4, h5⟩ := Dt.tupD e1
    refine ⟨a, ws, rfl, A1.sqT h4, fun p hp => ?_⟩
    obtain ⟨x, A4⟩ := A1.new (.tup ws.reverse) hp
    exact q _ _ _ (x1.trans x) A4 (.tup (.inl (.inl upd_same)) (Dts.rev (h5.mono x _)))
theorem rc_max2 {i j : Int} : RcK K (fun xs H Q => ∃ i j, xs = [V.int i, .int j] ∧ Q (.int (if j > i then j else i)) H) [.d (.int i), .d (.int j)] R (.d (.int (if j > i then j else i))) := fun R0 F H vs E A Q q => by
  obtain ⟨v, u, rfl, h, h'⟩ := ens2 E
  cases h; cases h'
  exact ⟨i, j, rfl, q _ F H (Ex.refl F) A (.int _)⟩
/-- in order, each once -/
def insU (i : Int) : List Int → List Int
  | [] => [i]
  | j :: r => if i < j then i :: j :: r else if i = j then j :: r else j :: insU i r
def asc (ns : List Int) : List Int := ns.foldr insU []
theorem insU_mem {i : Int} : ∀ {l : List Int} {k : Int}, k ∈ insU i l ↔ k = i ∨ k ∈ l
  | [], k => by simp [insU]
  | j :: r, k => by
    unfold insU
    split
    · simp
    · split
      · rename_i h; subst h; simp
      · simp only [List.mem_cons, insU_mem (l := r)]
        constructor
        · rintro (h | h | h) <;> simp [h]
        · rintro (h | h | h) <;> simp [h]
theorem insU_asc {i : Int} : ∀ {l : List Int}, l.Pairwise (· < ·) → (insU i l).Pairwise (· < ·)
  | [], _ => by simp [insU]
  | j :: r, h => by
    obtain ⟨h1, h2⟩ := List.pairwise_cons.mp h
    unfold insU
    split
    · rename_i hi
      exact List.pairwise_cons.mpr ⟨fun k hk => by rcases List.mem_cons.mp hk with rfl | hk; exact hi; have := h1 k hk; omega, h⟩
    · split
      · exact h
      · refine List.pairwise_cons.mpr ⟨fun k hk => ?_, insU_asc h2⟩
        rcases insU_mem.mp hk with rfl | hk
        · omega
        · exact h1 k hk
theorem asc_asc (ns : List Int) : (asc ns).Pairwise (· < ·) := by
  induction ns with
  | nil => exact .nil
  | cons i r ih => exact insU_asc ih
theorem asc_mem {ns : List Int} {k : Int} : k ∈ asc ns ↔ k ∈ ns := by
  induction ns with
  | nil => simp [asc]
  | cons i r ih =>
    show k ∈ insU i (asc r) ↔ _
    rw [insU_mem, ih, List.mem_cons]
theorem asc_only : ∀ {l m : List Int}, l.Pairwise (· < ·) → m.Pairwise (· < ·) → (∀ k, k ∈ l ↔ k ∈ m) → l = m
  | [], [], _, _, _ => rfl
  | [], b :: m, _, _, h => absurd ((h b).mpr (by simp)) (by simp)
  | a :: l, [], _, _, h => absurd ((h a).mp (by simp)) (by simp)
  | a :: l, b :: m, hl, hm, h => by
    obtain ⟨l1, l2⟩ := List.pairwise_cons.mp hl
    obtain ⟨m1, m2⟩ := List.pairwise_cons.mp hm
    have e : a = b := by
      rcases List.mem_cons.mp ((h a).mp (by simp)) with e | h1
      · exact e
      · rcases List.mem_cons.mp ((h b).mpr (by simp)) with e | h2
        · exact e.symm
        · have := l1 b h2
          have := m1 a h1
          omega
    subst e
    congr 1
    refine asc_only l2 m2 fun k => ⟨fun hk => ?_, fun hk => ?_⟩
    · rcases List.mem_cons.mp ((h k).mp (by simp [hk])) with rfl | h1
      · exact absurd (l1 _ hk) (by omega)
      · exact h1
    · rcases List.mem_cons.mp ((h k).mpr (by simp [hk])) with rfl | h1
      · exact absurd (m1 _ hk) (by omega)
      · exact h1
theorem asc_self {ns : List Int} : asc ns = ns ↔ ns.Pairwise (· < ·) := ⟨fun h => h ▸ asc_asc ns, fun h => asc_only (asc_asc ns) h fun k => asc_mem⟩
theorem ev_ss {ns : List Int} (h : Ev K te ρ R (.d (.tuple (ns.map .int))) R1) (hl : ns.length ≤ 60) : Ev K (tCB (rSortedSet w) (tCons (tCB (rSetT K w) (tCons te tNil)) tNil)) ρ R (.d (.list ((asc ns).map .int))) R1 := fun R0 F H σ S A Q q =>
  h R0 F H σ S A _ fun v F1 H1 x1 A1 e1 => by
    obtain ⟨a, ws, rfl, h4, h5⟩ := Dt.tupD e1
    rw [h5.ints] at h4
    refine ⟨a, ns, rfl, A1.sqT h4, by omega, fun p c hc hp => ?_⟩
    have A2 := A1.ownR (o := SetO w p (fun j => decide (j ∈ ns)) c) hp
    refine ⟨p, _, c, rfl, upd_same, by omega, fun out b hs hm hn hb => ?_⟩
    obtain ⟨x3, A3⟩ := A2.new (.lst (out.map V.int)) hb
    have eo : out = asc ns := asc_only hs (asc_asc ns) fun k => by rw [hm k, asc_mem, decide_eq_true_eq]
    subst eo
    exact q _ _ _ (x1.trans x3) (A3.sub (List.sublist_cons_self _ _)) (.lst upd_same (Dts.of_ints _))
/-- x = [k] * n -/
theorem es_setRep {P : Post} {i n : Nat} {k : Int} (h : Ev K tn ρ R (.d (.int (n : Int))) R1) (hn : n ≤ 1000000) (hx : ∀ p, P.nx (ρ.set i (.o p)) (R1 ++ [.ls p (List.replicate n (.int k))])) : Es K (tAsg (tOp rRep (tLst (tCons (tC (.int k)) tNil)) tn) (gName i)) ρ R P := fun R0 F H σ D S A p =>
  ⟨by show 1 ≤ sizeLine; decide, fun b hb => by
    obtain ⟨x1, A1⟩ := A.new (.lst [.int k]) hb
    refine h R0 _ _ σ (S.mono x1) A1 _ fun v F2 H2 x2 A2 e2 => ?_
    cases e2
    refine ⟨b, (n : Int), [.int k], rfl, rfl, A2.ex _ _ (x2 _ _ upd_same), by omega, by omega, ?_, fun a ha => ?_⟩
    · rw [Int.toNat_natCast]
      exact Nat.le_trans (by simp only [List.length_singleton]; omega) (show 1000000 ≤ sizeLine by decide)
    · have e : (List.replicate n [V.int k]).flatten = List.replicate n (V.int k) := by
        induction n with
        | zero => rfl
        | succ n ih => rw [List.replicate_succ, List.flatten_cons, List.replicate_succ]; simp
      rw [Int.toNat_natCast, e]
      have hd : Dts K F2 (List.replicate n (V.int k)) (List.replicate n (.int k)) := by
        clear e hx h
        induction n with
        | zero => exact .nil
        | succ n ih => rw [List.replicate_succ, List.replicate_succ]; exact .cons (.int k) (ih (by omega))
      have A3 := A2.own1 ha hd
      refine p.nx _ _ _ F2 _ (hx a) (x1.trans x2) ((S.mono (x1.trans x2)).set i (e := .o a) rfl) ?_
      rw [List.append_assoc]
      exact A3.perm List.perm_middle.symm⟩
theorem Dts.set {F : Hp} : ∀ {vs : List V} {ds : List PyData} (j : Nat) {v : V} {d : PyData}, Dts K F vs ds → Dt K F v d → Dts K F (vs.set j v) (ds.set j d)
  | _, _, _, _, _, .nil, _ => .nil
  | _, _, 0, _, _, .cons _ b, h => .cons h b
  | _, _, j + 1, _, _, .cons a b, h => .cons a (b.set j h)
/-- xs[i] = v, xs an owned list -/
theorem es_storeL {P : Post} {a : Addr} {ds : List PyData} {d : PyData} {i : Int} {j : Nat} {Ra Rb : List Ow} (h : Ev K te ρ R (.d d) R1) (ho : Ev K to ρ R1 (.o a) Rz) (hi : Ev K ti ρ Rz (.d (.int i)) (Ra ++ .ls a ds :: Rb)) (hj : ixN ds.length i = some j)
    (hn : P.nx ρ (Ra ++ .ls a (ds.set j d) :: Rb)) : Es K (tAsg te (gSub to ti rSetL)) ρ R P := fun R0 F H σ D S A p =>
  h R0 F H σ S A _ fun v F1 H1 x1 A1 e1 => ho R0 F1 H1 σ (S.mono x1) A1 _ fun u F2 H2 x2 A2 e2 => by
    cases e2
    exact hi R0 F2 H2 σ (S.mono (x1.trans x2)) A2 _ fun u3 F3 H3 x3 A3 e3 => by
      cases e3
      obtain ⟨_, ws, h1, h2⟩ := A3.own (.ls a ds) (by simp)
      refine ⟨a, ws, i, j, rfl, rfl, h1, by rw [h2.len]; exact hj, p.nx _ _ σ F3 _ hn (x1.trans (x2.trans x3)) (S.mono (x1.trans (x2.trans x3))) ?_⟩
      rw [List.append_assoc, List.cons_append] at A3 ⊢
      exact A3.updL (Dts.set j h2 (Dt.mono (x2.trans x3) d e1))
theorem rc_sumT {ns : List Int} : RcK K (rSumT K) [.d (.tuple (ns.map .int))] R (.d (.int ns.sum)) := fun R0 F H vs E A Q q => by
  obtain ⟨v, rfl, h⟩ := ens1 E
  obtain ⟨a, ws, rfl, h1, h2⟩ := Dt.tupD h
  rw [h2.ints] at h1
  exact ⟨a, ns, rfl, A.sqT h1, q _ F H (Ex.refl F) A (.int _)⟩
theorem rc_reprB {b : Bool} : RcK K (rRepr K) [.d (.bool b)] R (.d (.str (PyData.shown (.bool b)))) := by
  cases b <;> exact rc_repr (by rfl) (by rfl) (by decide) (by decide +kernel)
end
end Fx

namespace Fx
open PySem PySem.Spec PyProof.Rows L2
section
variable {K : PySem.W.Frag} {ρ : List En} {R R1 Rz : List Ow} {te to : TE} {ts : TA} {C : Addr}
/-! ### instances: made, their fields laid, then never changed -/
theorem Flds.get {F : Hp} : ∀ {vs : List (Str × V)} {fs : List (Str × PyData)} {f : Str} {d : PyData}, Flds K F vs fs → fs.lookup f = some d → ∃ v, vs.lookup f = some v ∧ Dt K F v d
  | _, _, _, _, .nil, h => by cases h
  | (g, v) :: vs, (_, d) :: fs, f, e, .cons a b, h => by
    rw [List.lookup_cons] at h ⊢
    cases hg : f == g with
    | true =>
      rw [hg] at h
      cases h
      exact ⟨v, rfl, a⟩
    | false =>
      rw [hg] at h
      exact b.get h
def putD (f : Str) (d : PyData) : List (Str × PyData) → List (Str × PyData)
  | [] => [(f, d)]
  | (g, e) :: r => if g = f then (g, d) :: r else (g, e) :: putD f d r
theorem Flds.put {F : Hp} {f : Str} {v : V} {d : PyData} (h : Dt K F v d) : ∀ {vs : List (Str × V)} {fs : List (Str × PyData)}, Flds K F vs fs → Flds K F (putF f v vs) (putD f d fs)
  | _, _, .nil => .cons h .nil
  | (g, _) :: _, _, .cons a b => by
    unfold putF putD
    by_cases hg : g = f
    · rw [if_pos hg, if_pos hg]; exact .cons h b
    · rw [if_neg hg, if_neg hg]; exact .cons a (b.put h)
theorem Flds.len {F : Hp} : ∀ {vs : List (Str × V)} {fs : List (Str × PyData)}, Flds K F vs fs → vs.length = fs.length
  | _, _, .nil => rfl
  | _, _, .cons _ b => by rw [List.length_cons, List.length_cons, b.len]
theorem ev_b {i : Nat} {fs : List (Str × PyData)} (h : ρ[i]? = some (.ob C fs)) : Ev K (tVar i) ρ R (.ob C fs) R := fun R0 F H σ S A Q q => by
  obtain ⟨s, h1, v, rfl, h2⟩ := S.get h
  exact ⟨v, h1, q v F H (Ex.refl F) A h2⟩
/-- e.f -/
theorem ev_fld {fs : List (Str × PyData)} {f : Str} {d : PyData} (h : Ev K te ρ R (.ob C fs) R1) (c : Cls K C) (n : NoAttr K C f) (hf : fs.lookup f = some d) : Ev K (tFld K te f) ρ R (.d d) R1 := fun R0 F H σ S A Q q =>
  h R0 F H σ S A _ fun v F1 H1 x1 A1 e1 => by
    obtain ⟨a, dx, vs, rfl, h1, h2⟩ := e1
    obtain ⟨u, h3, h4⟩ := h2.get hf
    exact ⟨a, C, dx, vs, u, rfl, A1.ex _ _ h1, c, n, h3, q u F1 H1 x1 A1 h4⟩
theorem At.updB {F H : Hp} {a C dx : Addr} {fs fs' : List (Str × PyData)} {vs : List (Str × V)} {Ra Rb : List Ow} (A : At K F (Ra ++ .ob a C dx fs :: Rb) H) (h : Flds K F vs fs') : At K F (Ra ++ .ob a C dx fs' :: Rb) (upd H a (.ins C dx vs)) := by
  have hF : F a = none := (A.own (.ob a C dx fs) (by simp)).1
  have nd : ((Ra ++ .ob a C dx fs :: Rb).map Ow.ad).Nodup := A.nd
  have others : ∀ r, r ∈ Ra ∨ r ∈ Rb → r.ad ≠ a := by
    intro r hr e
    rw [List.map_append, List.map_cons, List.nodup_append] at nd
    obtain ⟨n1, n2, n3⟩ := nd
    rcases hr with hr | hr
    · exact n3 r.ad (List.mem_map_of_mem hr) a (by simp [Ow.ad]) e
    · exact (List.nodup_cons.mp n2).1 (by show a ∈ _; rw [← e]; exact List.mem_map_of_mem hr)
  refine ⟨A.ex.side hF, by simpa [Ow.ad] using nd, fun r hr => ?_⟩
  rcases List.mem_append.mp hr with hr | hr
  · have hne := others r (.inl hr)
    obtain ⟨h1, h2⟩ := A.own r (by simp [hr])
    exact ⟨h1, h2.mono (Ex.refl F) fun o ho => by rw [upd_ne hne]; exact ho⟩
  · rcases List.mem_cons.mp hr with rfl | hr
    · exact ⟨hF, vs, upd_same, h⟩
    · have hne := others r (.inr hr)
      obtain ⟨h1, h2⟩ := A.own r (by simp [hr])
      exact ⟨h1, h2.mono (Ex.refl F) fun o ho => by rw [upd_ne hne]; exact ho⟩
/-- self.f = e, self still owned -/
theorem es_fld {P : Post} {a dx : Addr} {fs : List (Str × PyData)} {f : Str} {d : PyData} {Ra Rb : List Ow} (h : Ev K te ρ R (.d d) R1) (ho : Ev K to ρ R1 (.o a) (Ra ++ .ob a C dx fs :: Rb)) (c : Cls K C) (n : NoAttr K C f) (hl : fs.length < 1000)
    (hn : P.nx ρ (Ra ++ .ob a C dx (putD f d fs) :: Rb)) : Es K (sFld K to te f) ρ R P := fun R0 F H σ D S A p =>
  h R0 F H σ S A _ fun v F1 H1 x1 A1 e1 => ho R0 F1 H1 σ (S.mono x1) A1 _ fun u F2 H2 x2 A2 e2 => by
    cases e2
    obtain ⟨_, vs, h1, h2⟩ := A2.own (.ob a C dx fs) (by simp)
    refine ⟨a, C, dx, vs, rfl, h1, c, n, by rw [h2.len]; exact hl, p.nx _ _ σ F2 _ hn (x1.trans x2) (S.mono (x1.trans x2)) ?_⟩
    rw [List.append_assoc, List.cons_append] at A2 ⊢
    exact A2.updB (h2.put (Dt.mono x2 d e1))
theorem At.freezeB {F H : Hp} {a dx : Addr} {fs : List (Str × PyData)} {Rb : List Ow} (A : At K F (.ob a C dx fs :: Rb) H) : ∃ F1, Ex F F1 ∧ At K F1 Rb H ∧ Inst K F1 (.ref a) C fs := by
  obtain ⟨hF, vs, hH, hd⟩ := A.own _ (List.mem_cons_self ..)
  have x := Ex.new (o := .ins C dx vs) hF
  have nd := A.nd
  rw [List.map_cons, List.nodup_cons] at nd
  refine ⟨_, x, ⟨fun b o hb => ?_, nd.2, fun r hr => ?_⟩, a, dx, vs, rfl, upd_same, hd.mono x⟩
  · by_cases hba : b = a
    · subst hba
      erw [upd_same] at hb
      cases hb
      exact hH
    · erw [upd_ne hba] at hb
      exact A.ex _ _ hb
  · obtain ⟨h1, h2⟩ := A.own r (List.mem_cons_of_mem _ hr)
    have hne : r.ad ≠ a := fun e => nd.1 (by show a ∈ _; rw [← e]; exact List.mem_map_of_mem hr)
    exact ⟨by erw [upd_ne hne]; exact h1, h2.mono x fun _ h => h⟩
theorem At.ownB {F H : Hp} {p C dx : Addr} (A : At K F R H) (hp : H p = none) : At K F (.ob p C dx [] :: R) (upd H p (.ins C dx [])) := by
  have old : ∀ r ∈ R, r.ad ≠ p := fun r hr e => by
    obtain ⟨o', ho⟩ := (A.own r hr).2.some
    rw [e, hp] at ho
    cases ho
  refine ⟨A.ex.side (fresh_back A.ex hp), ?_, fun r hr => ?_⟩
  · rw [List.map_cons, List.nodup_cons]
    refine ⟨fun hm => ?_, A.nd⟩
    obtain ⟨r, hr, e⟩ := List.mem_map.mp hm
    exact old r hr e
  · rcases List.mem_cons.mp hr with rfl | hr
    · exact ⟨fresh_back A.ex hp, [], upd_same, .nil⟩
    · exact ⟨(A.own r hr).1, (A.own r hr).2.mono (Ex.refl F) fun o' ho => by rw [upd_ne (old r hr)]; exact ho⟩
/-- C(e, ..): what __init__ lays is what the instance holds -/
theorem ev_make {Sf : List En → List Ow → En → List Ow → Prop} {es : List En} {fs : List (Str × PyData)} (hs : ∀ x dx, Sf (.o x :: es) [.ob x C dx []] (.d .none) [.ob x C dx fs]) (h : Ea K ts ρ R es R1) : Ev K (tMake C (spS K Sf) [] E0 ts) ρ R (.ob C fs) R1 := fun R0 F H σ S A Q q =>
  h R0 F H σ S A _ fun vs F1 H1 x1 A1 e1 => by
    intro x dx hx hdx hne
    rw [List.append_nil]
    obtain ⟨y1, B1⟩ := A1.new (.own x) hdx
    have hx2 : upd H1 dx (.own x) x = none := by rw [upd_ne (Ne.symm hne)]; exact hx
    have B2 := B1.ownB (C := C) (dx := dx) hx2
    refine ⟨.o x :: es, [.ob x C dx []], R1 ++ R0, _, .d .none, [.ob x C dx fs], hs x dx, .cons rfl (e1.mono y1), B2, fun v F2 H2 x2 A2 e2 => ?_⟩
    cases e2
    obtain ⟨F3, x3, A3, hi⟩ := At.freezeB A2
    exact ⟨rfl, q _ F3 H2 (x1.trans (y1.trans (x2.trans x3))) A3 hi⟩
end
def isLstB : PyData → Bool
  | .list _ => true
  | _ => false
theorem kit_lst (d : PyData) : kitB (kindD d) "list" = some (isLstB d) := by
  cases d
  · show kitB "NoneType" "list" = some false; decide +kernel
  · show kitB "bool" "list" = some false; decide +kernel
  · show kitB "int" "list" = some false; decide +kernel
  · show kitB "str" "list" = some false; decide +kernel
  · show kitB "list" "list" = some true; decide +kernel
  · show kitB "tuple" "list" = some false; decide +kernel
  · show kitB "dict" "list" = some false; decide +kernel
end Fx

namespace FxB
open PySem PySem.Spec PyProof.Rows L2
section
variable {prog : Program} {w : World} {A : Around} {E : Value → Shared → Prop} {s : Shared}
theorem gives_bb (a b : Bool) : Gives (Builtin.«int.__sub__» ⟨[.bool a, .bool b], []⟩) (.int ((if a = true then (1 : Int) else 0) - if b = true then (1 : Int) else 0)) :=
  .of_wp fun M A E s Q h => by obtain ⟨hp, g, d, tk, os⟩ := s; wp_walk; exact ⟨_, rfl, h⟩
theorem sub_bb {a b : Bool} {Q : Value → Shared → Prop} (h : Q (.int ((if a = true then (1 : Int) else 0) - if b = true then (1 : Int) else 0) s.toks) { s with toks := s.toks + 1 }) : wpAny (model prog w) A (binaryOp .Sub (.bool a) (.bool b)) Q E s :=
  binaryOp_gives (op := .Sub) (T := "bool") (rfl : s.TypeIs (.bool a) "bool") (rfl : s.TypeIs (.bool b) "bool") F.fills_bool_sub F.slot_bool_sub F.entry_int_sub (F.args_int_sub_2 _ _) (gives_bb a b) trivial h
end
end FxB
namespace Fx
open PySem PySem.Spec PyProof.Rows L2
section
variable {X : Cx}
/-- a truth less a truth -/
def rSubB : L2.R2 := fun x y H Q => ∃ a b, x = .bl a ∧ y = .bl b ∧ Q (.int ((if a = true then (1 : Int) else 0) - if b = true then (1 : Int) else 0)) H
theorem op_subB : OpR X (binaryOp .Sub) rSubB := by
  intro pins s σ H x y v u Q I rx ry h
  obtain ⟨a, b, rfl, rfl, q⟩ := h
  cases rx
  cases ry
  exact FxB.sub_bb ⟨.int _, H, I.tok _, ⟨_, rfl⟩, q⟩
/-- // by anything but 0, rounded down -/
def CDivF (_ j : Int) : Prop := j ≠ 0 ∧ j.natAbs.log2 < 9000
theorem opDivF : OpR X (binaryOp .FloorDiv) (rI CDivF fun i j => .int (i.fdiv j)) := opI fun _ _ _ _ _ _ _ hc q => floordiv_int hc.1 q (.inl (PyProof.noPylong_of_log2 hc.2))
end
section
variable {K : PySem.W.Frag} {R : List Ow}
theorem rv_subB {a b : Bool} : Rv K rSubB (.d (.bool a)) (.d (.bool b)) R (.d (.int ((if a = true then (1 : Int) else 0) - if b = true then (1 : Int) else 0))) := fun R0 F H v u hv hu A Q q => by
  cases hv; cases hu
  exact ⟨a, b, rfl, rfl, q _ F H (Ex.refl F) A (.int _)⟩
theorem rc_gcd {a b : Int} : RcK K rGcd [.d (.int a), .d (.int b)] R (.d (.int ((Nat.gcd a.natAbs b.natAbs : Nat) : Int))) := fun R0 F H vs E A Q q => by
  obtain ⟨v, u, rfl, h, h'⟩ := ens2 E
  cases h; cases h'
  exact ⟨a, b, rfl, q _ F H (Ex.refl F) A (.int _)⟩
end
end Fx

namespace Fx
open PySem PySem.Spec PyProof.Rows L2
/-- a def's promise where nothing is being written out around it: so it may write things out (repr) -/
structure GnOk (P : Program) (w : World) (K : PySem.W.Frag) (mg : Str → Option Value) (base : Heap) (k : Nat) (f : Addr) (fd : FuncData) (ps : List Str) (sp : Sp) : Prop where
  len : ∀ vs H Q E, sp vs H Q E → vs.length = ps.length
  run : ∀ (A : Around) (outer : List Env) (s : Shared) (H : Hp) (args : Args) (us : List Value) (vs : List V) (Q : VK), Room k A → A.guards = some [] → Env0 P w K mg base A outer s H → BindsTo s fd args (ps.zip us) → Vals vs us → sp vs H Q E0 →
    codeAny (model P w) A (.call (.ref f) args) (CR CX0 outer P w H s Q E0) s
section
variable {X : Cx} {k : Nat} {f : Addr} {fd : FuncData} {ps : List Str} {sp : Sp} {x : Str} {p pos : Pos} {e : Expr} {es : List Expr} {t : TA}
theorem pe_callG (F : GnOk X.prog X.w X.K X.mg X.base k f fd ps sp) (hr : Room k X.A) (hq : X.A.guards = some []) (hg : Gl X x) (hm : X.mg x = some (.ref f)) (hk : PySem.W.keepIn X.K (.ref f) = true) (hb : Binds X.K fd ps [])
    (ha : PA X (e :: es) t) (hdb : (x == ("__debug__" : Str)) = false := by decide) (he : starEach (e :: es) X.env = (false, eval e X.env) :: starEach es X.env := by rfl) (hpl : (backTo pos (starEach es X.env)).any (·.1) = false := by rfl) :
    PE X (.Call (.Name x p) (e :: es) [] pos) (tCall sp [] E0 t) := by
  constructor
  intro pins s σ H Q I h
  apply wpAny_Call_Name_kw
  apply ld_glob I hg hm (hd := hdb)
  refine PySem.W.callWith_K (h₀ := X.base) I.ok.mod.kin hk (thn (ha.run pos pins s σ H _ I h) ?_) he hpl
  rintro us s1 ⟨vs, H1, I1, r, q⟩
  refine ⟨I1.kIn, ?_⟩
  rw [List.append_nil] at q
  have hl : us.length = ps.length := by rw [← r.length]; exact F.len _ _ _ _ q
  have b := hb s1 us I1.kIn (by rw [List.append_nil]; exact hl)
  rw [List.append_nil] at b
  refine wpAny_call (codeAny_mono (F.run X.A X.stack s1 H1 ⟨us, []⟩ us vs Q hr hq I1.env0 b r q) ?_)
  rintro (e | (u | _ | _ | _)) s' hh
  · exact (show False from hh).elim
  all_goals first | exact I1.after hh | exact (show False from hh).elim
end
theorem gn_es {P : Program} {w : World} {K : PySem.W.Frag} {mg : Str → Option Value} {base : Heap} {xn qual : Str} {st : Stmt} {f : Addr} {fd : FuncData} {N ps : List Str} {k : Nat} {S : List En → List Ow → En → List Ow → Prop} (F : Fun K xn qual st f fd) (Sc : FnScope N ps (defScope st))
    (hlen : ∀ es R e R', S es R e R' → es.length = ps.length)
    (hb : ∀ (cdv : Value) (A : Around) (outer : List Env) (s : Shared) (H : Hp) (E : XK) (es : List En) (R : List Ow) (e : En) (R' : List Ow), Room k (A.deeper (envOfC qual (defScope st) s.heap.objs.size f cdv)) → (A.deeper (envOfC qual (defScope st) s.heap.objs.size f cdv)).guards = some [] → S es R e R' →
      ∃ t, PSs (cxOf CX0 P w K mg base N qual (defScope st) f cdv A outer s H E).nox (defBody st) t ∧ Es K t (es ++ List.replicate (N.length - ps.length) .u) R { nx := fun _ R1 => e = .d .none ∧ R1 = R', rt := fun e1 R1 => e1 = e ∧ R1 = R' }) :
    GnOk P w K mg base (k + 1) f fd ps (spS K S) := by
  obtain ⟨oc, od, kV, doc, pm, an, cdv, ct, osl, rfl, lk, hcd⟩ := F.ex
  have len : ∀ vs H Q E, spS K S vs H Q E → vs.length = ps.length := by
    rintro vs H Q E ⟨es, R, R0, F1, e, R', h1, h2, _⟩
    rw [h2.len]
    exact hlen _ _ _ _ h1
  refine ⟨len, fun A outer s H args us vs Q hr hq e0 hbi rv h => ?_⟩
  have hl := len _ _ _ _ h
  refine fn_at lk hcd Sc hr e0 hbi rv hl ?_
  obtain ⟨es, R, R0, F1, e, R', h1, h2, h3, q⟩ := h
  obtain ⟨t, ht, he⟩ := hb cdv A outer s H E0 es R e R' (hr.deeper _) hq h1
  refine ⟨t, ht.nox, he R0 F1 H _ _ ?_ h3 ⟨?_, ?_, ?_, ?_⟩⟩
  · unfold L2.start
    rw [hl]
    exact h2.sls.append (Sls.us _)
  · rintro ρ R1 σ F2 H1 ⟨rfl, rfl⟩ x S1 A1
    exact q _ F2 H1 x A1 .non
  · rintro e1 R1 v F2 H1 ⟨rfl, rfl⟩ x e2 A1
    exact q _ F2 H1 x A1 e2
  · intro _ _ _ _ _ h; exact h.elim
  · intro _ _ _ _ _ h; exact h.elim
end Fx

namespace FxI
open PySem PySem.Spec PySem.Calls PySem.W PyProof.Rows
section
variable {prog : Program} {w : World} {A : Around} {E : Value → Shared → Prop} {s : Shared} {K : Frag} {x D : Addr} {ox : Obj}
/-- the class of an own error, asked of the error itself, whatever it keeps -/
theorem askCls (Z : L2.ExcC K D) {od : Option Obj} {Q : Option Value → Shared → Prop} (X : K.In s.heap) (I : InstAt s.heap x ox D od) (q : Q (some (.ref D)) { s with toks := s.toks + 1 }) :
    wpAny (model prog w) A (getAttr? (.ref x) "__class__") Q E s := by
  have found : findObj K D od "__class__" = some (.bind (.builtin "getset_descriptor.__get__") (.builtin "object.__class__")) := by
    obtain ⟨cd, hc, _⟩ := any_some Z.hd
    simp only [findObj, hc, Z.ha, Z.hn, Z.ht, Option.bind_some]
  obtain ⟨hp, g, d, t, os⟩ := s
  have k0 := I.type (M := model prog w)
  have k1 := looks_findIn (M := model prog w) X Z.hg
  have k2 := looks_findIn (M := model prog w) X Z.hk
  have k3 := looks_find (M := model prog w) X I found
  have isB : Looks (model prog w) hp (isInstance (.ref x) (.type "BaseException")) true := k0.andThen (looks_subIn X Z.hs)
  have n2 : (Value.builtin "BaseException.__getattribute__" == Value.builtin "object.__getattribute__") = false := by decide +kernel
  unfold getAttr? getAttrBy? getAttrBy
  refine wpAny_bind (wpAny_mkText (wpAny_bind (wpAny_attempt (wpAny_holding (wpAny_bind (k0.at (wpAny_bind (k1.at ?e1))))))))
  case e1 =>
  show wpAny _ _ (ite ((onTheHeap (Value.ref D) && Value.builtin "BaseException.__getattribute__" == Value.builtin "object.__getattribute__") = true) _ _) _ _ _
  rw [show (onTheHeap (Value.ref D) && Value.builtin "BaseException.__getattribute__" == Value.builtin "object.__getattribute__") = false by rw [n2]; rfl, if_neg (by decide)]
  unfold getAttrByItsOwn hookBefore
  refine wpAny_bind ?e2
  case e2 =>
  have onH : onTheHeap (Value.ref D) = true := rfl
  rw [if_pos onH]
  refine k2.at (wpAny_bind (wpAny_attempt (wpAny_holding ?e3)))
  case e3 =>
  unfold callGetattribute
  rw [show (false && onTheHeap (Value.builtin "BaseException.__getattribute__")) = false from rfl, if_neg (by decide)]
  unfold boundAndCalled
  rw [PySem.F.excAttr_ValueError.ga.bind (.ref x)]
  refine wpAny_bind (wpAny_pure ?e4)
  case e4 =>
  show wpAny _ _ (call (.builtin "BaseException.__getattribute__") [Value.ref x, Value.str "__class__" t]) _ _ _
  refine wpAny_call (codeAny_call_builtin (F.excAttr_ValueError.ga.plain) (F.entry_bexc_ga) ?e5)
  case e5 =>
  refine @check_slot (model prog w) _ _ (Shared.mk hp g d (t + 1) os) "BaseException.__getattribute__" "BaseException" "__getattribute__" (.ref x) [.str "__class__" t] [] _ (by decide +kernel) (by decide +kernel) isB (F.args_bexc_ga (.ref x) (.str "__class__" t)) ?e6
  case e6 =>
  unfold Builtin.«object.__getattribute__»
  refine wpAny_bind (wpAny_of_eq (a := (Value.ref x, [Value.str "__class__" t])) (by first | rfl | (simp only [slotArgs]; rfl)) (wpAny_bind (wpAny_pure (wpAny_bind (k0.at (wpAny_bind (k3.at ?e7)))))))
  case e7 =>
  show wpAny _ _ ((holding [Value.builtin "object.__class__"] (call (.builtin "getset_descriptor.__get__") [Value.builtin "object.__class__", Value.ref x, Value.ref D])) >>= ret) _ _ _
  refine wpAny_bind (wpAny_holding (wpAny_call (class_get (s := Shared.mk hp g d (t + 1) os) (ox := ox) (od := od) X I Z.hm ?e8)))
  case e8 =>
  refine wpAny_pure ?e9
  case e9 =>
  show wpAny _ _ (handedOut (Value.ref D)) _ _ _
  rw [handedOut_of (v := Value.ref D) rfl]
  first
    | (exact wpAny_pure (wpAny_pure q))
    | (exact wpAny_pure q)
    | (exact wpAny_pure (wpAny_bind (wpAny_pure (wpAny_pure q))))
theorem kitE (Z : L2.ExcC K D) : KitX K (.ref x) (.ref D) (fun h => ∃ od, InstAt h x ox D od) where
  ty := fun _ _ _ ⟨_, I⟩ => I.type
  it := fun M h X _ => by
    obtain ⟨cd, hc, _⟩ := any_some Z.hd
    unfold clsIn at hc
    split at hc
    · rename_i c' d' cd' sl' ho
      intro A' Q' E' s' k q
      unfold isType loadHead
      exact wpAny_bind (wpAny_loadPart (k _ _ (X _ _ ho)) (wpAny_pure q))
    · cases hc
  ne := (handS_kitx_exc (x := x) (ox := ox) Z.hg Z.hk Z.hs Z.hd Z.ha Z.hn Z.ht Z.hm).ne
  ca := fun X ⟨_, I⟩ q => askCls Z X I q
end
end FxI
namespace L2
open PySem PySem.Spec PyProof.Rows
/-- isinstance(e, C), e the error that the suite holds: its class, its dict -/
def rIsD (K : PySem.W.Frag) (C a : Addr) (cls : Value) (d : Option Addr) : List V → Hp → VK → Prop := fun xs H Q => ∃ (c : V) (cv : Value) (b : Bool) (dd : Addr) (o : List (Str × V)), xs = [.ref a, c] ∧ cls = .ref C ∧ d = some dd ∧ H dd = some (.xd o) ∧ (∀ u, RelV c u → u = cv) ∧ PySem.W.kitOne K (.ref C) cv = some b ∧ Q (.bl b) H
theorem call_isD {X : Cx} {a C : Addr} {cls : Value} {d : Option Addr} {oe : Obj} {pn : List (Addr × Obj)} (Z : ExcC X.K C) (hz : Zc cls d oe) (hf : ∃ vs, oe.data = .fields vs) :
    CallR (X.suite a ((a, oe) :: pn)) (.builtin "isinstance") (rIsD X.K C a cls d) := by
  intro pins s σ H xs us Q I r h
  obtain ⟨c, cv, b, dd, o, rfl, rfl, rfl, hdd, hcv, e, q⟩ := h
  cases r with
  | cons rx rr => cases rr with
    | cons rt rr =>
      cases rr; cases rx
      have ec := hcv _ rt
      subst ec
      obtain ⟨hget, _⟩ := I.pin (a, oe) (List.mem_append.mpr (Or.inl (List.mem_cons_self)))
      obtain ⟨vs, hv⟩ := hf
      obtain ⟨mA, hns, _⟩ : ObjOk X.prog X.w H s.heap dd (.xd o) := I.hok dd _ hdd
      obtain ⟨od, ho, _⟩ := lookIn_ns hns
      have J : PySem.W.InstAt s.heap a oe C (some od) := ⟨hget, hz.1, by unfold PySem.W.notCls; rw [hv] <;> rfl, by rw [hz.2]; exact ho⟩
      exact PySem.W.kia_one (FxI.kitE Z) I.kIn ⟨_, J⟩ e (fun z => nomatch z) fun tk => ⟨.bl b, H, I.kept (t' := tk) fun _ _ z => z, rfl, q⟩
end L2

namespace Fx
open PySem PySem.Spec PyProof.Rows L2
section
variable {K : PySem.W.Frag} {ρ ρ1 ρ2 ρ3 : List En} {R R1 Rz R3 : List Ow} {te ta tb : TE}
theorem eg_two {g1 g2 : TG} {d1 d2 : PyData} (h1 : Eg K g1 (.d d1) ρ ρ1) (h2 : Eg K g2 (.d d2) ρ1 ρ2) : Eg K (gTup K 2 (gCons g1 (gCons g2 gNil))) (.d (.tuple [d1, d2])) ρ ρ2 := fun R F H σ v S A hv Q q => by
  cases hv with
  | tup w1 w2 => cases w2 with
    | cons a b => cases b with
      | cons b c =>
        cases c
        exact ⟨_, _, rfl, ex_t A.ex w1, rfl, _, _, rfl, h1 R F H σ _ S A a _ fun σ1 S1 => ⟨_, _, rfl, h2 R F H σ1 _ S1 A b _ fun σ2 S2 => ⟨rfl, q σ2 S2⟩⟩⟩
theorem eg_three {g1 g2 g3 : TG} {d1 d2 d3 : PyData} (h1 : Eg K g1 (.d d1) ρ ρ1) (h2 : Eg K g2 (.d d2) ρ1 ρ2) (h3 : Eg K g3 (.d d3) ρ2 ρ3) : Eg K (gTup K 3 (gCons g1 (gCons g2 (gCons g3 gNil)))) (.d (.tuple [d1, d2, d3])) ρ ρ3 := fun R F H σ v S A hv Q q => by
  cases hv with
  | tup w1 w2 => cases w2 with
    | cons a b => cases b with
      | cons b c => cases c with
        | cons c e =>
          cases e
          exact ⟨_, _, rfl, ex_t A.ex w1, rfl, _, _, rfl, h1 R F H σ _ S A a _ fun σ1 S1 => ⟨_, _, rfl, h2 R F H σ1 _ S1 A b _ fun σ2 S2 => ⟨_, _, rfl, h3 R F H σ2 _ S2 A c _ fun σ3 S3 => ⟨rfl, q σ3 S3⟩⟩⟩⟩
/-- an owned list is only read from here on -/
theorem es_thaw {ts : TS} {P : Post} {i : Nat} {a : Addr} {ds : List PyData} {Ra Rb : List Ow} (hi : ρ[i]? = some (.o a)) (h : Es K ts (ρ.set i (.d (.list ds))) (Ra ++ Rb) P) : Es K ts ρ (Ra ++ .ls a ds :: Rb) P := fun R0 F H σ D S A p => by
  obtain ⟨s, h1, h2⟩ := S.get hi
  cases h2
  have A1 : At K F (.ls a ds :: (Ra ++ Rb ++ R0)) H := A.perm (by
    rw [List.append_assoc, List.cons_append, List.append_assoc]
    exact List.perm_middle)
  obtain ⟨F1, x, A2, d⟩ := A1.freeze
  have hs : σ.set i (some (.ref a)) = σ := by
    apply List.ext_getElem?
    intro j
    rw [List.getElem?_set]
    by_cases hj : i = j
    · subst hj
      have hlt : i < σ.length := (List.getElem?_eq_some_iff.mp h1).1
      rw [if_pos rfl, if_pos hlt]
      exact h1.symm
    · rw [if_neg hj]
  have S1 : Sls K F1 σ (ρ.set i (.d (.list ds))) := by
    have := (S.mono x).set i (s := some (.ref a)) (e := .d (.list ds)) ⟨_, rfl, d⟩
    rw [hs] at this
    exact this
  exact h R0 F1 H σ D S1 A2 (p.mono x)
def rInsert : V → List V → Hp → VK → Prop := fun x vs H Q => ∃ (l : Addr) (xs : List V) (i : Int) (y : V), x = .ref l ∧ vs = [.int i, y] ∧ H l = some (.lst xs) ∧ xs.length < sizeLine ∧ 0 ≤ i ∧ i < 2 ^ 63 ∧ Q .non (upd H l (.lst (xs.take i.toNat ++ [y] ++ xs.drop i.toNat)))
theorem ev_insert {to : TE} {ts : TA} {a : Addr} {ds ds0 : List PyData} {i : Int} {d : PyData} {Ra Rb : List Ow} (ho : Ev K to ρ R (.o a) R1) (hm : .ls a ds0 ∈ R1) (hd : Ea K ts ρ R1 [.d (.int i), .d d] (Ra ++ .ls a ds :: Rb)) (hl : ds.length < sizeLine) (h0 : 0 ≤ i) (h1 : i < 2 ^ 63) :
    Ev K (tBM K "list" rInsert to ts) ρ R (.d .none) (Ra ++ .ls a (ds.take i.toNat ++ [d] ++ ds.drop i.toNat) :: Rb) := fun R0 F H σ S A Q q =>
  ho R0 F H σ S A _ fun v F1 H1 x1 A1 e1 => by
    cases e1
    obtain ⟨_, ws, w1, w2⟩ := A1.own (.ls a ds0) (by simp [hm])
    refine ⟨.inl ⟨rfl, ws, .inl (.inl w1)⟩, hd R0 F1 H1 σ (S.mono x1) A1 _ fun vs F2 H2 x2 A2 e2 => ?_⟩
    obtain ⟨u, v, rfl, hu, hv⟩ := ens2 e2
    cases hu
    obtain ⟨us, w3, w4⟩ := at_ls A2
    refine ⟨a, us, i, v, rfl, rfl, w3, by rw [w4.len]; exact hl, h0, h1, ?_⟩
    refine q _ F2 _ (x1.trans x2) ?_ .non
    rw [List.append_assoc, List.cons_append] at A2 ⊢
    exact A2.updL (((w4.take _).append (.cons hv .nil)).append (w4.drop _))
theorem rc_listL {ds : List PyData} : RcK K (rListS K) [.d (.list ds)] R (.d (.list ds)) := fun R0 F H vs E A Q q => by
  obtain ⟨v, rfl, h⟩ := ens1 E
  obtain ⟨a, ws, rfl, h1, h2⟩ := Dt.listD h
  refine ⟨a, ws, rfl, .inl (A.sqL h1), fun p hp => ?_⟩
  obtain ⟨x, A1⟩ := A.new (.lst ws) hp
  exact q _ _ _ x A1 (.lst upd_same (h2.mono x _))
/-! ### what may be written out -/
structure Sh (d : PyData) (k n : Nat) : Prop where
  s : PyData.showable d = true
  h : PyData.hasDict d = false
  e : PyData.depth d ≤ k
  l : PyData.leavesShort 2000 d = true
  b : PyData.bulk d ≤ n
structure ShA (ds : List PyData) (k n : Nat) : Prop where
  s : PyData.showableAll ds = true
  h : PyData.hasDictAll ds = false
  e : PyData.depthAll ds ≤ k
  l : PyData.leavesShortAll 2000 ds = true
  b : PyData.bulkAll ds ≤ n
theorem Sh.mono {d : PyData} {k n k' n' : Nat} (h : Sh d k n) (h1 : k ≤ k' := by omega) (h2 : n ≤ n' := by omega) : Sh d k' n' := ⟨h.s, h.h, Nat.le_trans h.e h1, h.l, Nat.le_trans h.b h2⟩
theorem ShA.nil {k n : Nat} : ShA [] k n := ⟨rfl, rfl, Nat.zero_le _, rfl, Nat.zero_le _⟩
theorem ShA.cons {d : PyData} {ds : List PyData} {k n m : Nat} (h : Sh d k n) (t : ShA ds k m) : ShA (d :: ds) k (n + 1 + m) := by
  refine ⟨?_, ?_, ?_, ?_, ?_⟩
  · show (PyData.showable d && PyData.showableAll ds) = true
    rw [h.s, t.s]; rfl
  · show (PyData.hasDict d || PyData.hasDictAll ds) = false
    rw [h.h, t.h]; rfl
  · show max (PyData.depth d) (PyData.depthAll ds) ≤ k
    exact Nat.max_le.mpr ⟨h.e, t.e⟩
  · show (PyData.leavesShort 2000 d && PyData.leavesShortAll 2000 ds) = true
    rw [h.l, t.l]; rfl
  · show PyData.bulk d + 1 + PyData.bulkAll ds ≤ _
    have := h.b
    have := t.b
    omega
theorem ShA.all {α : Type} {f : α → PyData} {k n : Nat} : ∀ {l : List α}, (∀ a ∈ l, Sh (f a) k n) → ShA (l.map f) k ((n + 1) * l.length)
  | [], _ => .nil
  | a :: l, h => by
    have := ShA.cons (h a (by simp)) (ShA.all (l := l) fun b hb => h b (by simp [hb]))
    have e : n + 1 + (n + 1) * l.length = (n + 1) * (a :: l).length := by rw [List.length_cons, Nat.mul_succ]; omega
    rw [e] at this
    exact this
theorem ShA.list {ds : List PyData} {k n : Nat} (h : ShA ds k n) : Sh (.list ds) (k + 1) n := ⟨h.s, h.h, Nat.succ_le_succ h.e, h.l, h.b⟩
theorem ShA.tuple {ds : List PyData} {k n : Nat} (h : ShA ds k n) : Sh (.tuple ds) (k + 1) n := ⟨h.s, h.h, Nat.succ_le_succ h.e, h.l, h.b⟩
theorem Sh.int {i : Int} {k n : Nat} (h : i.natAbs < 2 ^ 1900) : Sh (.int i) k n := by
  have hl : (PyData.shown (.int i)).length ≤ 2000 := by
    have h2 := int_text_length_le10 (a := i) (k := 572) (by decide) (Nat.lt_of_lt_of_le h (by decide +kernel))
    show (Str.ofString (toString i)).length ≤ 2000
    rw [PySem.ofString_length]
    omega
  refine ⟨?_, rfl, Nat.zero_le _, decide_eq_true hl, Nat.zero_le _⟩
  show decide (i.natAbs.log2 < 1920) = true
  refine decide_eq_true ?_
  by_cases h0 : i.natAbs = 0
  · rw [h0]; decide
  · exact Nat.lt_trans ((Nat.log2_lt h0).mpr h) (by decide)
theorem rc_reprS {d : PyData} {k n : Nat} (h : Sh d k n) (hk : k ≤ 60 := by omega) (hn : n ≤ 1000 := by omega) : RcK K (rRepr K) [.d d] R (.d (.str (PyData.shown d))) := by
  refine rc_repr h.s h.h (Nat.le_trans h.e hk) ?_
  exact Nat.le_trans (PyData.shown_le_bulk 2000 (by decide) d h.l) (Nat.le_trans (Nat.add_le_add_right (Nat.mul_le_mul_left _ (Nat.le_trans h.b hn)) _) (by decide))
theorem eq_str {a b : Str} (h : a = b) : Rv K rNe (.d (.str a)) (.d (.str b)) R (.d (.bool false)) := by
  subst h
  exact rv_neSS
theorem eq_strT {a b : Str} (h : a = b) : Rv K rEq (.d (.str a)) (.d (.str b)) R (.d (.bool true)) := fun R0 F H v u hv hu A Q q => by
  subst h
  cases hv; cases hu
  refine ⟨rfl, ?_⟩
  rw [decide_eq_true (show V.str a = V.str a from rfl)]
  exact q _ F H (Ex.refl F) A (.bl _)
/-- one of some texts -/
theorem rv_notIn {a : Str} {l : List Str} (h : a ∈ l) : Rv K (rIn K true) (.d (.str a)) (.d (.list (l.map .str))) R (.d (.bool false)) := fun R0 F H v u hv hu A Q q => by
  cases hv
  obtain ⟨p, ws, rfl, h1, h2⟩ := Dt.listD hu
  have hw : ∀ {F : Hp} {ws : List V} {l : List Str}, Dts K F ws (l.map .str) → ws = l.map .str := by
    intro F ws l
    induction l generalizing ws with
    | nil => intro h; cases h; rfl
    | cons x l ih =>
      intro h
      cases h with
      | cons a b => cases a; rw [ih b]; rfl
  have e := hw h2
  subst e
  refine ⟨p, l.map .str, rfl, .inl (A.sqL h1), rfl, ?_, ?_⟩
  · rw [List.all_eq_true]
    intro x hx
    obtain ⟨y, _, rfl⟩ := List.mem_map.mp hx
    rfl
  · have hin : inV (.str a) (l.map .str) = true := by
      unfold inV
      rw [List.any_eq_true]
      exact ⟨.str a, List.mem_map.mpr ⟨a, h, rfl⟩, by simp [eqV]⟩
    rw [hin]
    exact q _ F H (Ex.refl F) A (.bl false)
theorem ev_callKOE {C : Addr} {Sg : List En → En → Prop} {Sx : List En → Str → Prop} {tk : TA} {es es' : List En} {e : En} {gV : List V → List V → List V} {sp : Sp} (hsp : ∀ vs H Q E F R0, Ens K F vs es' → At K F R0 H → (∀ v F1 H1, Ex F F1 → At K F1 R0 H1 → EnOk K F1 v e → Q v H1) → sp vs H Q E) (h : Ea K tk ρ R es R1) (hg : ∀ F vs, Ens K F vs es → Ens K F (gV [] vs) es') :
    Ev K (tCallKO sp gV E0 tk) ρ R e R1 := fun R0 F H σ S A Q q =>
  h R0 F H σ S A _ fun vs F1 H1 x1 A1 e1 => hsp _ _ _ _ F1 _ (hg F1 vs e1) A1 fun v F2 H2 x2 A2 e2 => q v F2 H2 (x1.trans x2) A2 e2
theorem ens_one {F : Hp} {vs : List V} {a : En} (h : Ens K F vs [a]) : Ens K F ((fun (us ws : List V) => match us, ws with | [], [u0] => [u0] | _, _ => []) [] vs) [a] := by
  cases h with
  | cons h1 h => cases h; exact .cons h1 .nil
theorem ens_two {F : Hp} {vs : List V} {a b : En} (h : Ens K F vs [a, b]) : Ens K F ((fun (us ws : List V) => match us, ws with | [], [u0, u1] => [u1, u0] | _, _ => []) [] vs) [b, a] := by
  cases h with
  | cons h1 h => cases h with
    | cons h2 h => cases h; exact .cons h2 (.cons h1 .nil)
theorem ev_callKP {Sf : List En → List Ow → En → List Ow → Prop} {tk : TA} {e : En} {es es' : List En} {gV : List V → List V → List V} (hs : Sf es' [] e []) (h : Ea K tk ρ R es R1) (hg : ∀ F vs, Ens K F vs es → Ens K F (gV [] vs) es') : Ev K (tCallKO (spS K Sf) gV E0 tk) ρ R e R1 := by
  have := ev_callKO (Rc := []) (Rc' := []) (Rf := R1) hs h hg
  exact this
theorem et_truB {b : Bool} (h : Ev K te ρ R (.d (.bool b)) R1) : Et K (fun σ H Q => te σ H fun x H' => ∃ k, TruV K x H' k ∧ Q k H') ρ R b R1 := et_tru h (by intro s hs; cases hs)
theorem es_par3 {P : Post} {i j l : Nat} {ta : TA} {e1 e2 e3 : En} (h : Ea K ta ρ R [e1, e2, e3] R1) (hn : P.nx (((ρ.set i e1).set j e2).set l e3) R1) : Es K (tPar3 i j l ta) ρ R P := fun R0 F H σ D S A p =>
  h R0 F H σ S A _ fun vs F1 H1 x1 A1 ee => by
    cases ee with
    | cons a b => cases b with
      | cons b c => cases c with
        | cons c e =>
          cases e
          exact ⟨_, _, _, rfl, p.nx _ R1 _ F1 H1 hn x1 ((((S.mono x1).set i (.of a)).set j (.of b)).set l (.of c)) A1⟩
end
end Fx

namespace Fx
open PySem PySem.Spec PyProof.Rows L2
/-! ### sorted(xs) of data that compare -/
section
variable {X : Cx}
open PySem.W (EachIs AllAlike Sortable dataLe)
abbrev byD : PyData × V → PyData × V → Bool := dataLe false (fun b : PyData × V => b.1)
def sortD (ds : List PyData) : List PyData := ds.mergeSort (dataLe false (fun d : PyData => d))
theorem sortD_perm (ds : List PyData) : (sortD ds).Perm ds := List.mergeSort_perm _ _
def rSortD (K : PySem.W.Frag) : List V → Hp → VK → Prop := fun vs H Q => ∃ (a : Addr) (bs : List (PyData × V)), vs = [.ref a] ∧ SqL K H a (bs.map (·.2)) ∧ (∀ b ∈ bs, Dp K H b.2 b.1) ∧ AllAlike (bs.map (·.1)) ∧ Sortable (bs.map (·.1)) ∧ (∀ b ∈ bs, b.1.depth ≤ 60) ∧
  ∀ p, H p = none → Q (.ref p) (upd H p (.lst ((bs.mergeSort byD).map (·.2))))
theorem each_rel : ∀ {bs : List (PyData × V)} {us : List Value}, Vals (bs.map (·.2)) us → EachIs (fun v b => RelV b.2 v) us bs
  | [], _, h => by cases h; exact .nil
  | b :: bs, _, h => by
    cases h with
    | cons h1 h2 => exact .cons h1 (each_rel h2)
theorem rel_each : ∀ {bs : List (PyData × V)} {us : List Value}, EachIs (fun v b => RelV b.2 v) us bs → Vals (bs.map (·.2)) us
  | [], _, h => by cases h; exact .nil
  | b :: bs, _, h => by
    cases h with
    | cons h1 h2 => exact .cons h1 (rel_each h2)
theorem callSortD {K : PySem.W.Frag} {k : Nat} (hr : Room k X.A) (hK : X.K = K := by rfl) : CallR X (.builtin "sorted") (rSortD K) := by
  subst hK
  intro pins s σ H vs us Q I r h
  obtain ⟨a, bs, rfl, hs, hd, hal, hk, hdep, q⟩ := h
  obtain ⟨its, rv, hl, hz⟩ := I.list hs
  rw [Vals.ref1 r]
  have e := each_rel rv
  have er : EachIs (fun v b => ∃ as, Reads s.heap v b.1 as) its bs := by
    clear hal hk hdep q hs hl hz
    induction e with
    | nil => exact .nil
    | cons h1 h2 ih =>
      rw [List.map_cons] at rv
      cases rv with
      | cons v1 v2 => exact .cons (Dp.reads I _ _ _ (hd _ (by simp)) h1) (ih (fun b hb => hd b (by simp [hb])) v2)
  have hlen : its.length = bs.length := by rw [← rv.length, List.length_map]
  have hz' : its.length ≤ sizeLine := by rw [← rv.length]; exact hz
  have hu := hr.units
  refine PySem.W.sorted_data (enc := fun b : PyData × V => b.1) hl.isList e er hal hk (by rw [← hlen]; exact hz') (fun b hb => by have := hdep b hb; show X.A.units + 2 + b.1.depth < cLine; omega) fun out ho eo => ?_
  obtain ⟨ep, he'⟩ := PyProof.Rows.sortedAll_at s.heap its (List.toArray out)
  have vo := rel_each eo
  refine ⟨.ref _, upd H (s.heap.objs.size + 1) (.lst ((bs.mergeSort byD).map (·.2))), I.laid (t' := s.toks) (fun _ _ => PyProof.Rows.sortedAll_old) (Nat.le_succ _) ⟨?_, out, ep, vo, he'⟩, rfl, q _ (I.hok.fresh (Nat.le_succ _))⟩
  rw [List.length_map, List.length_mergeSort, ← hlen]
  exact hz'
end
section
variable {K : PySem.W.Frag} {ρ ρ1 ρ2 : List En} {R R1 Rz : List Ow} {te to : TE} {ts : TA} {P : Post}
open PySem.W (AllAlike Sortable)
theorem dts_zip {F : Hp} : ∀ {vs : List V} {ds : List PyData}, Dts K F vs ds → (ds.zip vs).map (·.1) = ds ∧ (ds.zip vs).map (·.2) = vs ∧ ∀ b ∈ ds.zip vs, Dt K F b.2 b.1
  | _, _, .nil => ⟨rfl, rfl, fun b h => nomatch h⟩
  | _, _, .cons (v := v) (d := d) h1 h2 => by
    obtain ⟨a, b, c⟩ := dts_zip h2
    refine ⟨by rw [List.zip_cons_cons, List.map_cons, a], by rw [List.zip_cons_cons, List.map_cons, b], fun x hx => ?_⟩
    rw [List.zip_cons_cons] at hx
    rcases List.mem_cons.mp hx with rfl | hx
    · exact h1
    · exact c x hx
theorem dts_of {F : Hp} : ∀ {bs : List (PyData × V)}, (∀ b ∈ bs, Dt K F b.2 b.1) → Dts K F (bs.map (·.2)) (bs.map (·.1))
  | [], _ => .nil
  | b :: bs, h => .cons (h b (by simp)) (dts_of fun x hx => h x (by simp [hx]))
theorem sort_core {F H : Hp} {R0 : List Ow} {a : Addr} {vs : List V} {ds : List PyData} {Q : VK} (hal : AllAlike ds) (hk : Sortable ds) (hd : ∀ d ∈ ds, d.depth ≤ 60) (A : At K F R0 H) (hs : SqL K H a vs) (hv : Dts K F vs ds)
    (q : ∀ v F1 H1, Ex F F1 → At K F1 R0 H1 → Dt K F1 v (.list (sortD ds)) → Q v H1) : rSortD K [.ref a] H Q := by
  obtain ⟨e1, e2, e3⟩ := dts_zip hv
  refine ⟨a, ds.zip vs, rfl, by rw [e2]; exact hs, fun b hb => Dt.dp _ (Dt.mono A.ex _ (e3 b hb)), by rw [e1]; exact hal, by rw [e1]; exact hk, fun b hb => hd b.1 ?_, fun p hp => ?_⟩
  · have : b.1 ∈ (ds.zip vs).map (·.1) := List.mem_map.mpr ⟨b, hb, rfl⟩
    rw [e1] at this
    exact this
  · have hm : ∀ b ∈ (ds.zip vs).mergeSort byD, Dt K F b.2 b.1 := fun b hb => e3 b (List.mem_mergeSort.mp hb)
    have hf : ((ds.zip vs).mergeSort byD).map (·.1) = sortD ds := by
      have hmm := List.map_mergeSort (r := byD) (s := PySem.W.dataLe false (fun d : PyData => d)) (f := fun b : PyData × V => b.1) (l := ds.zip vs) (fun a _ b _ => rfl)
      rw [hmm, e1]
      rfl
    have hd2 := dts_of hm
    rw [hf] at hd2
    obtain ⟨x, A1⟩ := A.new (.lst (((ds.zip vs).mergeSort byD).map (·.2))) hp
    exact q _ _ _ x A1 (.lst upd_same (hd2.mono x _))
theorem rc_sortO {Ra Rb : List Ow} {a : Addr} {ds : List PyData} (hal : AllAlike ds) (hk : Sortable ds) (hd : ∀ d ∈ ds, d.depth ≤ 60) : RcK K (rSortD K) [.o a] (Ra ++ .ls a ds :: Rb) (.d (.list (sortD ds))) := fun R0 F H vs E A Q q => by
  obtain ⟨v, rfl, h⟩ := ens1 E
  cases h
  obtain ⟨_, ws, h1, h2⟩ := A.own (.ls a ds) (by simp)
  exact sort_core hal hk hd A (.inl (.inl h1)) h2 fun v F1 H1 x A1 e => q v F1 H1 x A1 e
theorem rc_sortL {ds : List PyData} (hal : AllAlike ds) (hk : Sortable ds) (hd : ∀ d ∈ ds, d.depth ≤ 60) : RcK K (rSortD K) [.d (.list ds)] R (.d (.list (sortD ds))) := fun R0 F H vs E A Q q => by
  obtain ⟨v, rfl, h⟩ := ens1 E
  obtain ⟨a, ws, rfl, h1, h2⟩ := Dt.listD h
  exact sort_core hal hk hd A (A.sqL h1) h2 fun v F1 H1 x A1 e => q v F1 H1 x A1 e
/-! ### a row of the text that is never reached -/
def tDead : TS := fun _ _ _ => False
theorem ps_dead {X : Cx} {st : Stmt} : PS X st tDead := ⟨fun _ _ _ _ _ _ h => h.elim⟩
/-! ### two names at once, new lists among them -/
theorem es_parOO {i j : Nat} {ds : List PyData} (h : Ea K ts ρ R (ds.map .d) R1) (hl : ds.length ≤ sizeLine) (hn : ∀ p q, P.nx ((ρ.set i (.o p)).set j (.o q)) (R1 ++ [.ls p ds, .ls q []])) : Es K (tPar i j (tCons (tLst ts) (tCons (tLst tNil) tNil))) ρ R P := fun R0 F H σ D S A p =>
  h R0 F H σ S A _ fun vs F1 H1 x1 A1 ee => by
    have hv := Ens.dts ee
    refine ⟨by rw [hv.len]; exact hl, fun a ha => ?_⟩
    have A2 := A1.own1 ha hv
    refine ⟨Nat.zero_le _, fun b hb => ?_⟩
    have A3 := A2.own1 hb .nil
    refine ⟨_, _, rfl, p.nx _ _ _ F1 _ (hn a b) x1 (((S.mono x1).set i (e := .o a) rfl).set j (e := .o b) rfl) ?_⟩
    rw [List.append_assoc]
    refine A3.perm ?_
    have : (R1 ++ ([Ow.ls a ds, Ow.ls b []] ++ R0)).Perm ([Ow.ls a ds, Ow.ls b []] ++ (R1 ++ R0)) := by
      rw [← List.append_assoc, ← List.append_assoc]
      exact List.Perm.append_right R0 List.perm_append_comm
    exact (this.trans (List.Perm.swap _ _ _)).symm
theorem es_parDO {i j : Nat} {e1 : En} (h : Ev K te ρ R e1 R1) (hn : ∀ q, P.nx ((ρ.set i e1).set j (.o q)) (R1 ++ [.ls q []])) : Es K (tPar i j (tCons te (tCons (tLst tNil) tNil))) ρ R P := fun R0 F H σ D S A p =>
  h R0 F H σ S A _ fun v F1 H1 x1 A1 ee => by
    refine ⟨Nat.zero_le _, fun b hb => ?_⟩
    have A3 := A1.own1 hb .nil
    refine ⟨_, _, rfl, p.nx _ _ _ F1 _ (hn b) x1 (((S.mono x1).set i (.of ee)).set j (e := .o b) rfl) ?_⟩
    rw [List.append_assoc]
    exact A3.perm List.perm_middle.symm
theorem Dts.eraseIdx {F : Hp} : ∀ {vs : List V} {ds : List PyData} (n : Nat), Dts K F vs ds → Dts K F (vs.eraseIdx n) (ds.eraseIdx n)
  | _, _, _, .nil => .nil
  | _, _, 0, .cons a b => b
  | _, _, n + 1, .cons a b => .cons a (Dts.eraseIdx n b)
/-- xs.pop(i) -/
theorem ev_popAt {a : Addr} {ds ds0 : List PyData} {k : Nat} {d : PyData} {Ra Rb : List Ow} (ho : Ev K to ρ R (.o a) R1) (hm : .ls a ds0 ∈ R1) (hd : Ea K ts ρ R1 [.d (.int (k : Int))] (Ra ++ .ls a ds :: Rb)) (hk : ds[k]? = some d) (hl : ds.length < 1000000) :
    Ev K (tBM K "list" rPopAt to ts) ρ R (.d d) (Ra ++ .ls a (ds.eraseIdx k) :: Rb) := fun R0 F H σ S A Q q =>
  ho R0 F H σ S A _ fun v F1 H1 x1 A1 e1 => by
    cases e1
    obtain ⟨_, ws, w1, w2⟩ := A1.own (.ls a ds0) (by simp [hm])
    refine ⟨.inl ⟨rfl, ws, .inl (.inl w1)⟩, hd R0 F1 H1 σ (S.mono x1) A1 _ fun vs F2 H2 x2 A2 e2 => ?_⟩
    obtain ⟨u, rfl, hu⟩ := ens1 e2
    cases hu
    obtain ⟨us, w3, w4⟩ := at_ls A2
    obtain ⟨y, hy, hyd⟩ : ∃ y, us[k]? = some y ∧ Dt K F2 y d := by
      have hz : L2.atI ds (k : Int) = some d := atI_nat hk
      obtain ⟨y, h1, h2⟩ := w4.atI hz
      refine ⟨y, ?_, h2⟩
      have hlen : us.length = ds.length := w4.len
      have hkl : k < us.length := by rw [hlen]; exact (List.getElem?_eq_some_iff.mp hk).1
      have h3 : L2.atI us (k : Int) = some us[k] := atI_nat (List.getElem?_eq_getElem hkl)
      rw [h3] at h1
      rw [List.getElem?_eq_getElem hkl]
      exact h1
    have hlt : k < ds.length := (List.getElem?_eq_some_iff.mp hk).1
    have hbig : ds.length < 2 ^ 63 := Nat.lt_trans hl (by decide)
    refine ⟨a, us, (k : Int), k, y, rfl, rfl, w3, by omega, by omega, ?_, hy, ?_⟩
    · rw [w4.len]
      unfold seqIndex?
      have e0 : ¬ ((k : Int) < 0) := by omega
      have e1 : (0 : Int) ≤ (k : Int) ∧ (k : Int) < (ds.length : Int) := ⟨by omega, by omega⟩
      simp [e0, e1]
    · refine q _ F2 _ (x1.trans x2) ?_ hyd
      rw [List.append_assoc, List.cons_append] at A2 ⊢
      exact A2.updL (w4.eraseIdx k)
/-! ### texts -/
theorem eqv_str (a b : Str) : PyData.eqv (.str a) (.str b) = decide (a = b) := by
  show (a == b) = decide (a = b)
  by_cases h : a = b
  · subst h; simp
  · simp [h]
theorem rv_eqS {a b : Str} (ha : SeqAt.shaped (.str a) = true) (hb : SeqAt.shaped (.str b) = true) : Rv K (rEqD K) (.d (.str a)) (.d (.str b)) R (.d (.bool (decide (a = b)))) := by
  rw [← eqv_str]; exact rv_eqD ha hb
theorem dts_str {F : Hp} {ws : List V} {l : List Str} : Dts K F ws (l.map .str) → ws = l.map .str := by
  induction l generalizing ws with
  | nil => intro h; cases h; rfl
  | cons x l ih =>
    intro h
    cases h with
    | cons a b => cases a; rw [ih b]; rfl
theorem inV_str (a : Str) (l : List Str) : inV (.str a) (l.map .str) = decide (a ∈ l) := by
  unfold inV
  rw [Bool.eq_iff_iff, List.any_eq_true, decide_eq_true_iff]
  constructor
  · rintro ⟨x, hx, he⟩
    obtain ⟨y, hy, rfl⟩ := List.mem_map.mp hx
    have : y = a := by simpa [eqV] using he
    rw [← this]; exact hy
  · intro h
    exact ⟨.str a, List.mem_map.mpr ⟨a, h, rfl⟩, by simp [eqV]⟩
theorem all_flat (l : List Str) : (l.map V.str).all flatV = true := by
  rw [List.all_eq_true]
  intro x hx
  obtain ⟨y, _, rfl⟩ := List.mem_map.mp hx
  rfl
theorem rv_inT (neg : Bool) {a : Str} {l : List Str} : Rv K (rIn K neg) (.d (.str a)) (.d (.tuple (l.map .str))) R (.d (.bool (if neg then !decide (a ∈ l) else decide (a ∈ l)))) := fun R0 F H v u hv hu A Q q => by
  cases hv
  obtain ⟨p, ws, rfl, h1, h2⟩ := Dt.tupD hu
  have e := dts_str h2
  subst e
  refine ⟨p, l.map .str, rfl, .inr (A.sqT h1), rfl, all_flat l, ?_⟩
  rw [inV_str]
  exact q _ F H (Ex.refl F) A (.bl _)
theorem rv_inL (neg : Bool) {a : Str} {l : List Str} : Rv K (rIn K neg) (.d (.str a)) (.d (.list (l.map .str))) R (.d (.bool (if neg then !decide (a ∈ l) else decide (a ∈ l)))) := fun R0 F H v u hv hu A Q q => by
  cases hv
  obtain ⟨p, ws, rfl, h1, h2⟩ := Dt.listD hu
  have e := dts_str h2
  subst e
  refine ⟨p, l.map .str, rfl, .inl (A.sqL h1), rfl, all_flat l, ?_⟩
  rw [inV_str]
  exact q _ F H (Ex.refl F) A (.bl _)
/-! ### a tuple of texts whose object is known -/
def isX (l : List Str) (F : Hp) (v : V) : Prop := ∃ a ob, v = .ref a ∧ F a = some (.frz ob (.tup (l.map V.str))) ∧ ob.cls = .type "tuple" ∧ ob.dict = none
def prX (l : List Str) : PR := ⟨fun _ F v => isX l F v, fun x ⟨a, ob, e, h1, h2, h3⟩ => ⟨a, ob, e, x _ _ h1, h2, h3⟩⟩
theorem str_dts {F : Hp} : ∀ l : List Str, Dts K F (l.map V.str) (l.map .str)
  | [] => .nil
  | s :: l => .cons (.str s) (str_dts l)
theorem isX.dt {l : List Str} {F : Hp} {v : V} (h : isX l F v) : Dt K F v (.tuple (l.map .str)) := by
  obtain ⟨a, ob, rfl, h1, _⟩ := h
  exact .tup (.inl (.inr ⟨ob, h1⟩)) (str_dts l)
theorem ev_xd {l : List Str} (h : Ev K te ρ R (.g (prX l)) R1) : Ev K te ρ R (.d (.tuple (l.map .str))) R1 := fun R0 F H σ S A Q q => h R0 F H σ S A Q fun v F1 H1 x1 A1 e1 => q v F1 H1 x1 A1 (isX.dt e1)
theorem ev_g {i : Nat} {p : PR} (h : ρ[i]? = some (.g p)) : Ev K (tVar i) ρ R (.g p) R := fun R0 F H σ S A Q q => by
  obtain ⟨s, h1, v, rfl, h2⟩ := S.get h
  exact ⟨v, h1, q v F H (Ex.refl F) A h2⟩
def rTupIx : V → List V → Hp → VK → Prop := fun x xs H Q => ∃ p ob, ∃ ys : List Str, ∃ z j, x = .ref p ∧ xs = [.str z] ∧ H p = some (.frz ob (.tup (ys.map V.str))) ∧ ob.cls = .type "tuple" ∧ ob.dict = none ∧ ys[j]? = some z ∧ (∀ m, m < j → ys[m]? ≠ some z) ∧ Q (.int (j : Nat)) H
def tBMX (r : V → List V → Hp → VK → Prop) (to : TE) (t : TA) : TE := fun σ H Q => to σ H fun x H1 => (∃ p ob u, x = .ref p ∧ H1 p = some (.frz ob u) ∧ ob.cls = .type "tuple" ∧ ob.dict = none) ∧ t σ H1 fun xs H2 => r x xs H2 Q
/-- t.index(x), a text -/
theorem ev_index {l : List Str} {a : Str} {j : Nat} (ho : Ev K to ρ R (.g (prX l)) R1) (h : Ea K ts ρ R1 [.d (.str a)] Rz) (hj : l[j]? = some a) (hf : ∀ m, m < j → l[m]? ≠ some a) : Ev K (tBMX rTupIx to ts) ρ R (.d (.int (j : Int))) Rz := fun R0 F H σ S A Q q =>
  ho R0 F H σ S A _ fun v F1 H1 x1 A1 e1 => by
    obtain ⟨p, ob, rfl, h1, h2, h3⟩ := e1
    refine ⟨⟨p, ob, _, rfl, A1.ex _ _ h1, h2, h3⟩, h R0 F1 H1 σ (S.mono x1) A1 _ fun vs F2 H2 x2 A2 e2 => ?_⟩
    obtain ⟨u, rfl, hu⟩ := ens1 e2
    cases hu
    exact ⟨p, ob, l, a, j, rfl, rfl, A2.ex _ _ (x2 _ _ h1), h2, h3, hj, hf, q _ F2 H2 (x1.trans x2) A2 (.int _)⟩
/-- tuple(xs), its object known -/
def rTupX (K : PySem.W.Frag) : List V → Hp → VK → Prop := fun xs H Q => ∃ p ys, xs = [.ref p] ∧ SqL K H p ys ∧ ∀ l ob, H l = none → ob.cls = .type "tuple" → ob.dict = none → Q (.ref l) (upd H l (.frz ob (.tup ys)))
theorem rc_tupX {l : List Str} : RcK K (rTupX K) [.d (.list (l.map .str))] R (.g (prX l)) := fun R0 F H vs E A Q q => by
  obtain ⟨v, rfl, h⟩ := ens1 E
  obtain ⟨a, ws, rfl, h1, h2⟩ := Dt.listD h
  have e := dts_str h2
  subst e
  refine ⟨a, _, rfl, A.sqL h1, fun p ob hp hc hd => ?_⟩
  obtain ⟨x, A1⟩ := A.new (.frz ob (.tup (l.map V.str))) hp
  exact q _ _ _ x A1 ⟨p, ob, rfl, upd_same, hc, hd⟩
end
section
variable {X : Cx}
theorem callTupX {K : PySem.W.Frag} (hK : X.K = K := by rfl) : CallR X (.type "tuple") (rTupX K) := by
  subst hK
  intro pins s σ H xs us Q I r h
  obtain ⟨p, ys, rfl, hq, q⟩ := h
  rw [Vals.ref1 r]
  obtain ⟨its, rv, pl, hz⟩ := I.list hq
  have hlen := rv.length
  refine call_tuple_list pl.isList (fun h' kp => ?_) (by simp only [List.size_toArray] <;> omega)
  have I1 : Inv X pins σ H { s with heap := h' } := I.kept (t' := s.toks) kp
  have ob := I1.laid (t' := s.toks) (a := h'.objs.size) (o := .frz { cls := .type "tuple", data := .seq its.toArray } (.tup ys)) (h' := h'.push { cls := .type "tuple", data := .seq its.toArray }) (fun b o e => Heap.get?_push_of_some _ e) (Nat.le_refl _) ⟨Heap.get?_push_size _ rfl, hz, its, rv, IsTup.new _ _⟩
  exact ⟨.ref h'.objs.size, _, ob, rfl, q _ _ (I1.hok.fresh (Nat.le_refl _)) rfl rfl⟩
theorem mt_indexX : MtR X "tuple.index" rTupIx := by
  intro pins s σ H x xs v us Q I rx rs h
  obtain ⟨p, ob, ys, z, j, rfl, rfl, hH, _, _, hy, hno, q⟩ := h
  exact mt_tup_index pins s σ H _ _ v us Q I rx rs ⟨p, ys, z, j, rfl, rfl, .inl (.inr ⟨ob, hH⟩), hy, hno, q⟩
theorem peBmX {o e : Expr} {es : List Expr} {to : TE} {t : TA} {name : Str} {apos cpos : Pos} {id : String} {r : V → List V → Hp → VK → Prop} (slot : Slot "tuple" name id) (hty : typeOf (.builtin id) = pure (.type "method_descriptor")) (hm : MtR X id r) (ho : PE X o to) (ha : PA X (e :: es) t)
    (hbase : attributeBase o name X.env (eval o X.env) = eval o X.env := by rfl)
    (hfew : ((backTo cpos (starEach (e :: es) X.env)).all (fun x => !x.1) && (backToKw cpos (keywordEach [] X.env)).all (fun x => x.1.isSome) && decide ((e :: es).length + ([] : List Keyword).length + (if ([] : List Keyword).isEmpty then 0 else 1) < 30)) = true := by rfl)
    (hline : (apos.endLine == cpos.line) = true := by rfl) (hs : starEach (e :: es) X.env = (false, eval e X.env) :: starEach es X.env := by rfl) (hplain : (backTo cpos (starEach es X.env)).any (·.1) = false := by rfl) :
    PE X (.Call (.Attribute o name apos) (e :: es) [] cpos) (tBMX r to t) := by
  refine ⟨fun pins s σ H Q I h => ?_⟩
  refine wpAny_Call_method_late hbase hfew hline rfl (thn (ho.run pins s σ H _ I h) fun v s1 hv => ?_)
  obtain ⟨x, H1, I1, r1, ⟨p, ob, u, rfl, hH, hc, hd⟩, q1⟩ := hv
  obtain rfl : v = Value.ref p := r1
  obtain ⟨hget, _⟩ := I1.hok p _ hH
  refine ⟨"tuple", id, PySem.F.plainAttrs_tuple, slot, hty, ⟨ob, hget, hc⟩, fun a ea => ?_, ?_⟩
  · cases ea
    exact ⟨ob, hget, hd⟩
  have hA := ha.run cpos pins s1 σ H1 _ I1 q1
  rw [hs] at hA ⊢
  refine Calls.callWith_builtin (by show (false || (backTo cpos (starEach es X.env)).any (·.1)) = false; rw [hplain] <;> rfl) (Calls.evalArgs_plain ?_)
  refine thn hA fun us s2 hh => ?_
  obtain ⟨vs, H2, I2, r2, q2⟩ := hh
  exact hm pins s2 σ H2 (.ref p) vs _ us Q I2 rfl r2 q2
end
end Fx

namespace Fx
open PySem PySem.Spec PyProof.Rows L2
section
variable {K : PySem.W.Frag} {ρ ρ1 ρ2 ρ3 : List En} {R R1 Rz : List Ow} {te ta tb : TE} {t u : TT} {ts us : TS} {P : Post} {I : List Ow → Prop}
/-! ### tests that keep something, whatever they answer -/
def EtI (K : PySem.W.Frag) (t : TT) (ρ : List En) (I : List Ow → Prop) : Prop :=
  ∀ (R R0 : List Ow) (F H : Hp) (σ : L2.St), I R → Sls K F σ ρ → At K F (R ++ R0) H → ∀ Q : Bool → Hp → Prop, (∀ b R' F1 H1, I R' → Ex F F1 → At K F1 (R' ++ R0) H1 → Q b H1) → t σ H Q
theorem eti_of (h : ∀ R, I R → ∃ b R', I R' ∧ Et K t ρ R b R') : EtI K t ρ I := fun R R0 F H σ hI S A Q q => by
  obtain ⟨b, R', h1, h2⟩ := h R hI
  exact h2 R0 F H σ S A _ fun F1 H1 x1 A1 => q b R' F1 H1 h1 x1 A1
theorem eti_and (h1 : EtI K t ρ I) (h2 : EtI K u ρ I) : EtI K (tAnd t u) ρ I := fun R R0 F H σ hI S A Q q =>
  h1 R R0 F H σ hI S A _ fun b R' F1 H1 hI1 x1 A1 => by
    cases b with
    | true => exact h2 R' R0 F1 H1 σ hI1 (S.mono x1) A1 _ fun b R2 F2 H2 hI2 x2 A2 => q b R2 F2 H2 hI2 (x1.trans x2) A2
    | false => exact q false R' F1 H1 hI1 x1 A1
theorem eti_or (h1 : EtI K t ρ I) (h2 : EtI K u ρ I) : EtI K (tOr t u) ρ I := fun R R0 F H σ hI S A Q q =>
  h1 R R0 F H σ hI S A _ fun b R' F1 H1 hI1 x1 A1 => by
    cases b with
    | false => exact h2 R' R0 F1 H1 σ hI1 (S.mono x1) A1 _ fun b R2 F2 H2 hI2 x2 A2 => q b R2 F2 H2 hI2 (x1.trans x2) A2
    | true => exact q true R' F1 H1 hI1 x1 A1
theorem eti_not (h1 : EtI K t ρ I) : EtI K (tNot t) ρ I := fun R R0 F H σ hI S A Q q => h1 R R0 F H σ hI S A _ fun b R' F1 H1 hI1 x1 A1 => q (!b) R' F1 H1 hI1 x1 A1
theorem es_ifI (hI : I R) (h : EtI K t ρ I) (h1 : ∀ R', I R' → Es K ts ρ R' P) (h2 : ∀ R', I R' → Es K us ρ R' P) : Es K (tIfS t ts us) ρ R P := fun R0 F H σ D S A p =>
  h R R0 F H σ hI S A _ fun b R' F1 H1 hI1 x1 A1 => by
    cases b with
    | true => exact h1 R' hI1 R0 F1 H1 σ D (S.mono x1) A1 (p.mono x1)
    | false => exact h2 R' hI1 R0 F1 H1 σ D (S.mono x1) A1 (p.mono x1)
/-- a truth that is made so -/
abbrev PoB (I : List Ow → Prop) : En → List Ow → Prop := fun e R' => (∃ b, e = .d (.bool b)) ∧ I R'
theorem evp_andI (h1 : Evp K ta ρ R (PoB I)) (h2 : ∀ R', I R' → Evp K tb ρ R' (PoB I)) : Evp K (tAndV ta tb) ρ R (PoB I) := fun R0 F H σ S A Q q =>
  h1 R0 F H σ S A _ fun e R' v F1 H1 hp x1 A1 e1 => by
    obtain ⟨⟨b, rfl⟩, hI⟩ := hp
    cases e1
    refine ⟨b, rfl, ?_⟩
    cases b with
    | true =>
      rw [if_pos rfl]
      exact h2 R' hI R0 F1 H1 σ (S.mono x1) A1 Q fun e2 R2 v2 F2 H2 hp2 x2 A2 e2' => q e2 R2 v2 F2 H2 hp2 (x1.trans x2) A2 e2'
    | false => exact q (.d (.bool false)) R' (.bl false) F1 H1 ⟨⟨false, rfl⟩, hI⟩ x1 A1 (.bl false)
/-- two names at once, by calls of which something is known -/
theorem es_parNN {i j : Nat} {Po1 : En → List Ow → Prop} {Po2 : En → En → List Ow → Prop} (h1 : Evp K ta ρ R Po1) (h2 : ∀ e R1, Po1 e R1 → Evp K tb ρ R1 (Po2 e)) (hn : ∀ e1 R1 e2 R2, Po1 e1 R1 → Po2 e1 e2 R2 → P.nx ((ρ.set i e1).set j e2) R2) : Es K (tPar i j (tCons ta (tCons tb tNil))) ρ R P := fun R0 F H σ D S A p =>
  h1 R0 F H σ S A _ fun e1 R1 v F1 H1 hp1 x1 A1 ee1 => h2 e1 R1 hp1 R0 F1 H1 σ (S.mono x1) A1 _ fun e2 R2 w F2 H2 hp2 x2 A2 ee2 =>
    ⟨v, w, rfl, p.nx _ _ _ F2 H2 (hn e1 R1 e2 R2 hp1 hp2) (x1.trans x2) (((S.mono (x1.trans x2)).set i (.of (ee1.mono x2))).set j (.of ee2)) A2⟩
/-! ### three things in one tuple -/
def isT (l1 l2 : List Str) (d : PyData) (K : PySem.W.Frag) (F : Hp) (v : V) : Prop := ∃ a v1 v2 v3, v = .ref a ∧ SqT K F a [v1, v2, v3] ∧ isX l1 F v1 ∧ isX l2 F v2 ∧ Dt K F v3 d
def prT (l1 l2 : List Str) (d : PyData) : PR := ⟨isT l1 l2 d, fun x ⟨a, v1, v2, v3, e, h1, h2, h3, h4⟩ => ⟨a, v1, v2, v3, e, ex_t x h1, (prX l1).mono (K := default) x h2, (prX l2).mono (K := default) x h3, Dt.mono x _ h4⟩⟩
theorem ev_tup3 {ta : TA} {l1 l2 : List Str} {d : PyData} (h : Ea K ta ρ R [.g (prX l1), .g (prX l2), .d d] R1) : Ev K (tTup ta) ρ R (.g (prT l1 l2 d)) R1 := fun R0 F H σ S A Q q =>
  h R0 F H σ S A _ fun vs F1 H1 x1 A1 ee => by
    cases ee with
    | cons a b => cases b with
      | cons b c => cases c with
        | cons c e =>
          cases e
          refine ⟨by show 3 ≤ sizeLine; decide, fun p hp => ?_⟩
          obtain ⟨x, A2⟩ := A1.new (.tup _) hp
          exact q _ _ _ (x1.trans x) A2 ⟨p, _, _, _, rfl, .inl (.inl upd_same), (prX l1).mono (K := K) x a, (prX l2).mono (K := K) x b, Dt.mono x _ c⟩
theorem eg_t3 {g1 g2 g3 : TG} {l1 l2 : List Str} {d : PyData} (h1 : Eg K g1 (.g (prX l1)) ρ ρ1) (h2 : Eg K g2 (.g (prX l2)) ρ1 ρ2) (h3 : Eg K g3 (.d d) ρ2 ρ3) : Eg K (gTup K 3 (gCons g1 (gCons g2 (gCons g3 gNil)))) (.g (prT l1 l2 d)) ρ ρ3 := fun R F H σ v S A hv Q q => by
  obtain ⟨a, v1, v2, v3, rfl, w, a1, a2, a3⟩ := hv
  exact ⟨_, _, rfl, ex_t A.ex w, rfl, _, _, rfl, h1 R F H σ _ S A a1 _ fun σ1 S1 => ⟨_, _, rfl, h2 R F H σ1 _ S1 A a2 _ fun σ2 S2 => ⟨_, _, rfl, h3 R F H σ2 _ S2 A a3 _ fun σ3 S3 => ⟨rfl, q σ3 S3⟩⟩⟩⟩
/-! ### a list that is owned, walked while it stays as it is -/
theorem lc_stay {a : Addr} {i : Nat} {g : TG} {tt : TT} {vs : List Nat} {ds : List PyData} {p : PyData → Bool} {f : PyData → PyData} {Ra Rb : List Ow} (hi : ρ[i]? = some (.o a)) (hz : ds.length ≤ sizeLine)
    (hb : ∀ R, ∀ d ∈ ds, ∃ ρ', EgW K g vs (.d d) (wiped ρ vs) ρ' ∧ Et K tt ρ' R (p d) R ∧ (p d = true → Ev K te ρ' R (.d (f d)) R)) :
    ∀ (R0 : List Ow) (F H : Hp) (σ : L2.St), Sls K F σ ρ → At K F ((Ra ++ .ls a ds :: Rb) ++ R0) H → ∀ Q : VK, (∀ p' F1 H1, Ex F F1 → At K F1 (.ls p' ((ds.filter p).map f) :: ((Ra ++ .ls a ds :: Rb) ++ R0)) H1 → Q (.ref p') H1) → tLc (iAny K (tVar i)) g tt te vs σ H Q := by
  intro R0 F H σ S A Q q
  obtain ⟨s, hs, h2⟩ := S.get hi
  cases h2
  obtain ⟨ws, w1, w2⟩ := at_ls A
  -- the region, told by its values
  have toR : ∀ {F H}, At K F ((Ra ++ .ls a ds :: Rb) ++ R0) H → H a = some (.lst ws) → At K F ((Ra ++ .rw a (.lst ws) :: Rb) ++ R0) H := fun {F H} A w1 => by
    refine ⟨A.ex, by simpa [Ow.ad] using A.nd, fun r hr => ?_⟩
    have hF := (A.own (.ls a ds) (by simp)).1
    rcases List.mem_append.mp hr with hr | hr
    · rcases List.mem_append.mp hr with hr | hr
      · exact A.own r (by simp [hr])
      · rcases List.mem_cons.mp hr with rfl | hr
        · exact ⟨hF, w1⟩
        · exact A.own r (by simp [hr])
    · exact A.own r (List.mem_append_right _ hr)
  have ofR : ∀ {F H L}, At K F (L ++ ((Ra ++ .rw a (.lst ws) :: Rb) ++ R0)) H → Dts K F ws ds → At K F (L ++ ((Ra ++ .ls a ds :: Rb) ++ R0)) H := fun {F H L} A w2 => by
    refine ⟨A.ex, by simpa [Ow.ad] using A.nd, fun r hr => ?_⟩
    obtain ⟨hF, hH⟩ := A.own (.rw a (.lst ws)) (by simp)
    have hH' : H a = some (.lst ws) := hH
    rcases List.mem_append.mp hr with hr | hr
    · exact A.own r (List.mem_append_left _ hr)
    rcases List.mem_append.mp hr with hr | hr
    · rcases List.mem_append.mp hr with hr | hr
      · exact A.own r (by simp [hr])
      · rcases List.mem_cons.mp hr with rfl | hr
        · exact ⟨hF, ws, hH', w2⟩
        · exact A.own r (by simp [hr])
    · exact A.own r (by simp [hr])
  have AR := toR A w1
  refine .inl ⟨_, hs, a, rfl, ⟨ws, .inl (.inl w1)⟩, fun D hD => ?_⟩
  have hlen : ws.length = ds.length := w2.len
  refine L2.lc_it (walk_list (K := K) (a := a) (xs := ws)) (fun n H' => ∃ F', Ex F F' ∧ At K F' (.ls D ((((ds.take n).filter p).map f)) :: ((Ra ++ .rw a (.lst ws) :: Rb) ++ R0)) H' ∧ n ≤ ds.length) ?_ ?_ ?_ ?_
  · exact ⟨F, Ex.refl F, AR.own1 hD .nil, Nat.zero_le _⟩
  · rintro n H' hn ⟨F', x, A', _⟩
    exact .inl (.inl (A'.own (.rw a (.lst ws)) (by simp)).2)
  · rintro n v H' H'' hn ⟨F', x, A', hnl⟩ ⟨rfl, hv⟩
    have hnd : n < ds.length := by rw [← hlen]; exact hn
    have hd : ds[n]? = some ds[n] := List.getElem?_eq_getElem hnd
    obtain ⟨v', e1, e2⟩ := (w2.mono x).get hd
    rw [hv] at e1
    cases e1
    obtain ⟨ρ', hg, ht, he⟩ := hb (.ls D (((ds.take n).filter p).map f) :: (Ra ++ .rw a (.lst ws) :: Rb)) ds[n] (List.getElem_mem hnd)
    have tk : ds.take (n + 1) = ds.take n ++ [ds[n]] := by rw [List.take_succ, hd]; rfl
    refine hg _ F' _ _ v ((S.mono x).wipe vs) A' e2 _ fun σ2 S3 hwp => ⟨by rw [hwp, wipe_idem], ?_⟩
    refine ht R0 F' _ σ2 S3 A' _ fun F3 H3 x3 A3 => ?_
    cases hp : p ds[n] with
    | true =>
      refine iteT ?_
      refine he hp R0 F3 H3 σ2 (S3.mono x3) A3 _ fun yv F4 H4 x4 A4 e4 => ?_
      obtain ⟨_, avs, ha1, ha2⟩ := A4.own (.ls D (((ds.take n).filter p).map f)) (by simp)
      refine ⟨avs, ha1, ?_, ?_⟩
      · rw [ha2.len, List.length_map]
        have := List.length_filter_le p (ds.take n)
        rw [List.length_take] at this
        omega
      · refine ⟨F4, x.trans (x3.trans x4), ?_, hnd⟩
        have e : ((ds.take (n + 1)).filter p).map f = ((ds.take n).filter p).map f ++ [f ds[n]] := by
          rw [tk, List.filter_append, List.map_append]
          simp [hp]
        rw [e]
        exact At.updL (Ra := []) A4 (ha2.append (.cons e4 .nil))
    | false =>
      refine iteF ?_
      refine ⟨F3, x.trans x3, ?_, hnd⟩
      have e : ((ds.take (n + 1)).filter p).map f = ((ds.take n).filter p).map f := by
        rw [tk, List.filter_append, List.map_append]
        simp [hp]
      rw [e]
      exact A3
  · rintro H' ⟨F', x, A', hn⟩
    rw [hlen, List.take_length] at A'
    exact q D F' H' x (ofR (L := [.ls D ((ds.filter p).map f)]) A' (w2.mono x))
theorem dts_mono {F F' : Hp} {vs : List V} {ds : List PyData} (x : Ex F F') (h : Dts K F vs ds) : Dts K F' vs ds := Dts.mono x ds h
/-- [.. for x in xs if ..] == [], xs owned -/
theorem et_none {a : Addr} {i : Nat} {g : TG} {tt : TT} {vs : List Nat} {ds : List PyData} {p : PyData → Bool} {f : PyData → PyData} {Ra Rb : List Ow} (hi : ρ[i]? = some (.o a)) (hz : ds.length ≤ sizeLine) (hs : SeqAt.shaped (.list ((ds.filter p).map f)) = true)
    (hb : ∀ R, ∀ d ∈ ds, ∃ ρ', EgW K g vs (.d d) (wiped ρ vs) ρ' ∧ Et K tt ρ' R (p d) R ∧ (p d = true → Ev K te ρ' R (.d (f d)) R)) :
    Et K (tTest (tOp (rEqD K) (tLc (iAny K (tVar i)) g tt te vs) (tLst tNil))) ρ (Ra ++ .ls a ds :: Rb) (ds.filter p).isEmpty (Ra ++ .ls a ds :: Rb) := fun R0 F H σ S A Q q => by
    show tLc (iAny K (tVar i)) g tt te vs σ H fun x H1 => tLst tNil σ H1 fun y H2 => rEqD K x y H2 fun z H3 => ∃ k, z = .bl k ∧ Q k H3
    refine lc_stay hi hz hb R0 F H σ S A _ ?_
    intro p' F1 H1 x1 A1
    refine ⟨Nat.zero_le _, fun e he => ?_⟩
    have A2 := A1.own1 he (ds := []) .nil
    have hd : Dp K (upd H1 e (.lst [])) (.ref p') (.list ((ds.filter p).map f)) := by
      obtain ⟨_, ws, h1, h2⟩ := A2.own (.ls p' ((ds.filter p).map f)) (by simp)
      exact .lst (.inl (.inl h1)) (Dts.dp _ (Dts.mono A2.ex _ h2))
    refine ⟨.list ((ds.filter p).map f), .list [], hd, .lst (.inl (.inl upd_same)) .nil, hs, by rfl, ?_⟩
    have ev : PyData.eqv (.list ((ds.filter p).map f)) (.list []) = (ds.filter p).isEmpty := by
      cases h : ds.filter p with
      | nil => rfl
      | cons a l => rfl
    refine ⟨_, rfl, ?_⟩
    rw [ev]
    exact q F1 _ x1 (A2.sub (R' := (Ra ++ .ls a ds :: Rb) ++ R0) (List.Sublist.trans (List.sublist_cons_self _ _) (List.sublist_cons_self _ _)))
end
section
variable {X : Cx}
theorem opIn {K : PySem.W.Frag} (hK : X.K = K := by rfl) : OpR X (compareOp .In) (rIn K false) := by subst hK; exact op_in_seq
theorem opNotIn {K : PySem.W.Frag} (hK : X.K = K := by rfl) : OpR X (compareOp .NotIn) (rIn K true) := by subst hK; exact op_notIn_seq
end
end Fx

namespace PySem
namespace LowA
open PySem.W PySem.Calls PyProof.Rows PySem.HandSPX
/-! ### the text of __init__ -/
def iA (p1 p2 : Pos) : Arguments := { posonlyargs := [], args := [{ arg := "self", annotation := none, pos := p1 }, { arg := "at", annotation := none, pos := p2 }], vararg := none, kwonlyargs := [], kw_defaults := [], kwarg := none, defaults := [] }
def iB (q1 q2 q3 q4 : Pos) : List Stmt := [.Assign [.Attribute (.Name "self" q1) "at" q2] (.Name "at" q3) q4]
def iS : Scope := { kind := .function, names := [(PySem.Str.ofString "self", .local), (PySem.Str.ofString "at", .local)], isGenerator := false, isCoroutine := false, more := [] }
/-- what the written part says of Low, at C, and of its __init__, at fI -/
structure LowTxt (K : Frag) (mg : Str → Option Value) (C fI : Addr) : Prop where
  gC : mg "InvalidOpening" = some (.ref C)
  cls : ∃ nm q N bs bm sn sub ab col dd k0 k1 k2 k3 k5, K.lookup C = some (excClassObj nm q C N bs bm true sn sub ab col dd k0 k1 k2 k3 k5 "Exception.__new__") ∧ FxE.tailE bm = true
  sa : findIn K (.ref C) "__setattr__" = some (some (.builtin "object.__setattr__"))
  ga : findIn K (.ref C) "__getattribute__" = some (some (.builtin "BaseException.__getattribute__"))
  gg : findIn K (.ref C) "__getattr__" = some none
  noN : findIn K (.ref C) "at" = some none
  iC : findIn K (.ref C) "__init__" = some (some (.ref fI))
  tC : typeIn K (.ref fI) = some (.type "function")
  kC : keepIn K (.ref C) = true
  exC : subIn K (.ref C) (.type "BaseException") = some true
  tyC : typeIn K (.ref C) = some (.type "type")
  hdC : hasDictIn K C = true
  te : exmOne K (.ref C) (.ref C) = some true
  fn : ∃ (oc : Value) (od : Option Addr) (doc pm : Value) (an : Option Addr) (cdv ct : Value) (osl : Array (Option Value)) (p1 p2 q1 q2 q3 q4 : Pos),
    K.lookup fI = some ⟨oc, od, .func (fnOf "__init__" "InvalidOpening.__init__" (iA p1 p2) (iB q1 q2 q3 q4) iS .none .none doc pm an cdv ct), osl⟩ ∧ codeIn K cdv "InvalidOpening.__init__" = true
theorem one_size (v : Value) : [v].length ≤ sizeLine := by
  rw [sizeLine_eq]
  exact (by decide : 1 ≤ 16777216)
theorem kept_but {K : Frag} {h h' : Heap} {x : Addr} (X : K.In h) (hx : K.lookup x = none) (k : ∀ b o, b ≠ x → h.get? b = some o → h'.get? b = some o) : K.In h' := fun a o e =>
  k a o (fun z => by rw [z, hx] at e; cases e) (X a o e)
theorem ldC {M : Model} {s : Shared} {name : Str} {scope : Scope} {L a : Addr} {cd : Value} {m : Str → Option Value} {x : Str} {pos : Pos} {v : Value} {Q : Value → Shared → Prop} {A : Around} {E : Value → Shared → Prop} (hn : s.heap.Ns L m) (hv : m x = some v) (h : Q v s)
    (hk : scope.kind = .function := by rfl) (hl : (envOfC name scope L a cd).kindOf x = some .local := by rfl) (hd : (x == ("__debug__" : Str)) = false := by decide) :
    wpAny M A (eval (.Name x pos) (envOfC name scope L a cd)) Q E s := wpAny_Name (wpAny_loadName_local hk hl hn hv h) hd
/-- what __init__ leaves of a fresh exception at x -/
structure InitEnd (h h' : Heap) (x C dx t1 : Addr) (v : Value) : Prop where
  keep : ∀ b o, b ≠ x → h.get? b = some o → h'.get? b = some o
  obj : h'.get? x = some { cls := .ref C, dict := some dx, data := .fields #[.ref t1, .none, .none, .none, .bool false, .none] }
  dbig : h.objs.size ≤ dx
  dne : dx ≠ x
  ns : h'.Ns1 dx (fun y => if y = "at" then some v else none)
/-- a made Low -/
structure OwnMade (h h' : Heap) (e C d : Addr) (v : Value) : Prop where
  keep : ∀ b o, h.get? b = some o → h'.get? b = some o
  new : h.objs.size ≤ e
  obj : ∃ oe vs, h'.get? e = some oe ∧ oe.cls = .ref C ∧ oe.dict = some d ∧ oe.data = .fields vs ∧ vs[1]? = some .none
  dbig : h.objs.size ≤ d
  dne : d ≠ e
  ns : h'.Ns1 d (fun y => if y = "at" then some v else none)
section
variable {prog : Program} {w : World} {A : Around} {E : Value → Shared → Prop} {R : Result → Shared → Prop} {s : Shared} {K : Frag} {mg : Str → Option Value} {C fI : Addr}
theorem low_init (T : LowTxt K mg C fI) {x t0 : Addr} {v : Value} (X : K.In s.heap) (hlim : s.heap.NoLimit) (hx : s.heap.get? x = some (excO C t0)) (hnx : K.lookup x = none) (hroom : A.depth < recursionLimit)
    (hq : ∀ h' tk dx, InitEnd s.heap h' x C dx t0 v → R (.ok (.ret .none)) { s with heap := h', toks := tk }) :
    codeAny (model prog w) A (.call (.ref fI) ⟨[.ref x, v], []⟩) R s := by
  obtain ⟨oc, od, doc, pm, an, cdv, ct, osl, p1, p2, q1, q2, q3, q4, ho, hcd⟩ := T.fn
  obtain ⟨nm, q, N, bs, bm, sn, sub, ab, col, dd, k0, k1, k2, k3, k5, hC, hbm⟩ := T.cls
  have hcl : clsIn K C = some { name := nm, bases := bs, mro := .ref C :: bm, ns := N, qualname := q, hasDict := true, slotNames := sn, subclasses := sub, abstract := ab, collection := col, hasDel := false } := by unfold clsIn; rw [hC] <;> rfl
  refine Att.call_fn (binds := [("self", .ref x), ("at", v)]) X hlim ho hcd hroom (BindsTo.of_eq (by first | rfl | with_unfolding_all rfl)) (by first | rfl | decide | with_unfolding_all rfl) (fun s₁ IC => ?_) rfl rfl rfl
  obtain ⟨h₁, tk₁, rfl⟩ := IC.toInCall.same
  have k : ∀ b o, s.heap.get? b = some o → h₁.get? b = some o := IC.toInCall.keep
  have hn := IC.toInCall.ns
  have hxL : s.heap.objs.size ≠ x := Nat.ne_of_gt (Heap.lt_size hx)
  have X₁ : K.In h₁ := X.keeps k
  have hx₁ := k _ _ hx
  -- self.by = by
  show wpAny _ _ (execs _ _) _ _ _
  refine wpAny_execs_cons (plainObj_wpAny_Assign_Attribute ?_)
  refine ldC (v := v) hn (by first | rfl | with_unfolding_all rfl | kernel_rfl) (ldC (v := .ref x) hn (by first | rfl | with_unfolding_all rfl | kernel_rfl) ?_)
  refine set_plain X₁ (ox := excO C t0) (od := none) ⟨hx₁, rfl, rfl, trivial⟩ T.sa ?_
  refine FxE.laid X₁ hx₁ hcl (FxE.tailE_pass (.ref C :: bm) hbm) (FxE.tailE_obj (.ref C :: bm) hbm) (by rfl) rfl T.noN (fun h₃ tk₃ dx k₃ dn dne hx₃ hn₃ => ?_)
  show wpAny _ _ (execs _ _) _ _ _
  have z : s.heap.objs.size < h₁.objs.size := hn.lt
  exact wpAny_execs_nil (hq h₃ tk₃ dx ⟨fun b o hb e => k₃ b o hb (k b o e), hx₃, Nat.le_of_lt (Nat.lt_of_lt_of_le z dn), dne, hn₃⟩)
theorem low_made (T : LowTxt K mg C fI) {v : Value} (X : K.In s.heap) (hlim : s.heap.NoLimit) (hroom : A.depth + 1 < recursionLimit)
    (hq : ∀ h' tk e d, OwnMade s.heap h' e C d v → R (.ok (.ret (.ref e))) { s with heap := h', toks := tk }) :
    codeAny (model prog w) A (.call (.ref C) ⟨[v], []⟩) R s := by
  obtain ⟨nm, q, N, bs, bm, sn, sub, ab, col, dd, k0, k1, k2, k3, k5, hC, hbm⟩ := T.cls
  obtain ⟨hp, g, dr, tk, os⟩ := s
  have k : ∀ b o, hp.get? b = some o → ((hp.push (kdv_tup [v])).push (excO C hp.objs.size)).get? b = some o := fun b o e => Heap.get?_push_of_some _ (Heap.get?_push_of_some _ e)
  have hget : ((hp.push (kdv_tup [v])).push (excO C hp.objs.size)).get? (hp.objs.size + 1) = some (excO C hp.objs.size) := by heap_get
  have hnx : K.lookup (hp.objs.size + 1) = none := by
    cases e : K.lookup (hp.objs.size + 1) with
    | none => rfl
    | some o =>
      have z : hp.get? (hp.objs.size + 1) = some o := X _ _ e
      exact absurd (Nat.lt_of_succ_lt (Heap.lt_size z)) (Nat.lt_irrefl _)
  refine call_own F.excBase_Exception (fun X => FxE.tailE_contains X bm hbm) (X _ _ hC) (looks_findIn X T.iC) (fun self => bind_fn X self T.tC) (one_size v) ?_
  refine low_init (s := ⟨(hp.push (kdv_tup [v])).push (excO C hp.objs.size), g, dr, tk, os⟩) T (X.keeps k) (hlim.keeps k) hget hnx ?_ fun h' tk' dx ⟨k', hx, dn, dne, hns⟩ => ?_
  · show A.depth + 1 < recursionLimit
    exact hroom
  · have old : ∀ b o, hp.get? b = some o → h'.get? b = some o := fun b o e => k' b o (Nat.ne_of_lt (Nat.lt_succ_of_lt (Heap.lt_size e))) (k b o e)
    have z : hp.objs.size + 1 + 1 ≤ dx := by
      first
        | (simpa only [Heap.size_push] using dn)
        | exact dn
        | (have q := dn; rw [Heap.size_push, Heap.size_push] at q; exact q)
    exact ⟨rfl, hq h' tk' (hp.objs.size + 1) dx ⟨old, Nat.le_succ _, ⟨_, _, hx, rfl, rfl, rfl, rfl⟩, Nat.le_trans (Nat.le_trans (Nat.le_succ _) (Nat.le_succ _)) z, dne, hns⟩⟩
end
end LowA
end PySem
namespace L2
open PySem PySem.Spec PyProof.Rows
theorem relO_lowA {v : V} {v' : Value} (r : RelV v v') (f : Str) : RelO (List.lookup f [(("at" : Str), v)]) (if f = "at" then some v' else none) := by
  by_cases hw : f = "at"
  · subst hw
    rw [if_pos rfl]
    have q : List.lookup ("at" : Str) [(("at" : Str), v)] = some v := by simp [List.lookup]
    rw [q]
    exact r
  · rw [if_neg hw]
    have qw : (f == ("at" : Str)) = false := by simpa using hw
    have q2 : List.lookup f [(("at" : Str), v)] = none := by simp [List.lookup, qw]
    rw [q2]
    trivial
section
variable {X : Cx} {C fI : Addr}
/-- Low(e) -/
def tMkLowA (C : Addr) (ta : TA) : St → Hp → XK → Prop := fun σ H Q => ta σ H fun vs H1 => ∃ v, vs = [v] ∧ ∀ d, H1 d = none → Q (.ref C) (some d) (upd H1 d (.xd [(("at" : Str), v)]))
theorem pmk_lowA {a : Expr} {ta : TA} {p pos : Pos} {k : Nat} (T : PySem.LowA.LowTxt X.K X.mg C fI) (hr : Room k X.A) (ha : PA X [a] ta) (hg : Gl X "InvalidOpening" := by rfl)
    (he : starEach (a :: []) X.env = (false, eval a X.env) :: starEach [] X.env := by rfl) (hpl : (backTo pos (starEach [] X.env)).any (·.1) = false := by rfl) :
    PMk X (.Call (.Name "InvalidOpening" p) [a] [] pos) (tMkLowA C ta) := by
  intro pins s σ H Q I h
  refine wpAny_Call_Name_kw (ld_glob I hg T.gC ?_)
  refine PySem.W.callWith_K (h₀ := X.base) I.ok.mod.kin T.kC (thn (ha.run pos pins s σ H _ I h) fun us s1 hh => ?_) he hpl
  obtain ⟨vs, H1, I1, r1, v, ev, q1⟩ := hh
  subst ev
  refine ⟨I1.kIn, ?_⟩
  cases r1 with
  | cons rv rn =>
    rename_i v' us'
    cases rn
    show wpAny _ _ (call (.ref C) [v']) _ _ _
    have hlim := I1.nolimit
    obtain ⟨hp, g, dr, tk, os⟩ := s1
    refine wpAny_call (PySem.LowA.low_made T I1.kIn hlim (by have := hr.dp; omega) fun h' tk' e d M => ?_)
    show MkP X pins σ Q (.ref e) ⟨h', g, dr, tk', os⟩
    obtain ⟨oe, fv, hoe, hc, hd, hdat, h1⟩ := M.obj
    have hns := M.ns
    obtain ⟨G', g1, g2⟩ := restrict h' fun b => decide (b ≠ e)
    have gk : ∀ b, b ≠ e → G'.get? b = h'.get? b := fun b hb => g1 b (decide_eq_true hb)
    have ge : G'.get? e = none := g2 e (by simp)
    have old : ∀ b o, hp.get? b = some o → G'.get? b = some o := fun b o q => (gk b (Nat.ne_of_lt (Nat.lt_of_lt_of_le (Heap.lt_size q) M.new))).trans (M.keep b o q)
    have ob : ObjOk X.prog X.w (upd H1 d (.xd [(("at" : Str), v)])) G' d (.xd [(("at" : Str), v)]) :=
      ⟨_, hns.at (fun o q => (gk d M.dne).trans q), fun f => relO_lowA rv f⟩
    have J : Inv X pins σ (upd H1 d (.xd [(("at" : Str), v)])) ⟨G', g, dr, tk', os⟩ := I1.laid (t' := tk') old M.dbig ob
    refine ⟨e, oe, fv, ⟨G', g, dr, tk', os⟩, _, .ref C, some d, rfl, J, fun b o q => ?_, ge, hoe, ⟨hc, hd⟩, hdat, h1, ?_, rfl, I1.bare, raises_own T.exC T.tyC, q1 d (I1.hok.fresh M.dbig)⟩
    · by_cases hb : b = e
      · have q' : G'.get? b = some o := q
        rw [hb, ge] at q'; cases q'
      · exact (gk b hb).symm.trans q
    · rw [upd_ne (Ne.symm M.dne)]
      exact I1.hok.fresh M.new
/-- raise Low(e) -/
def tRaiseLowA (C : Addr) (W : WX) (ta : TA) : TS := fun _ σ H => tMkLowA C ta σ H fun cls d H' => W cls d σ H'
theorem ps_raiseLowA {a : Expr} {ta : TA} {W : WX} {p pos pos2 : Pos} {k : Nat} (hc : X.calm = true) (T : PySem.LowA.LowTxt X.K X.mg C fI) (hr : Room k X.A) (tk : Takes X W) (ha : PA X [a] ta) (hg : Gl X "InvalidOpening" := by rfl)
    (he : starEach (a :: []) X.env = (false, eval a X.env) :: starEach [] X.env := by rfl) (hpl : (backTo pos (starEach [] X.env)).any (·.1) = false := by rfl) :
    PS X (.Raise (some (.Call (.Name "InvalidOpening" p) [a] [] pos)) none pos2) (tRaiseLowA C W ta) := ps_raise hc tk (pmk_lowA T hr ha hg he hpl)
/-- low.by, low the exception that the suite holds (at a; its class cls, its dict d) -/
def tByLowA (C : Addr) (a : Addr) (cls : Value) (d : Option Addr) (te : TE) : TE := fun σ H Q => te σ H fun x H1 => x = .ref a ∧ cls = .ref C ∧ ∃ (dd : Addr) (v : V), d = some dd ∧ H1 dd = some (.xd [(("at" : Str), v)]) ∧ Q v H1
theorem pe_byLowA {a : Addr} {oe : Obj} {cls : Value} {d : Option Addr} {pn : List (Addr × Obj)} {e : Expr} {te : TE} {pos : Pos} (T : PySem.LowA.LowTxt X.K X.mg C fI) (hz : Zc cls d oe) (hf : ∃ vs, oe.data = .fields vs) (he : PE (X.suite a ((a, oe) :: pn)) e te)
    (hb : attributeBase e "at" X.env (eval e X.env) = eval e X.env := by rfl) :
    PE (X.suite a ((a, oe) :: pn)) (.Attribute e "at" pos) (tByLowA C a cls d te) := by
  refine ⟨fun pins s σ H Q I h => ?_⟩
  refine attr_of hb (thn (he.run pins s σ H _ I h) fun u s1 hh => ?_)
  obtain ⟨x, H1, I1, rx, ex, ec, dd, v, ed, ea, q⟩ := hh
  subst ex
  obtain rfl : u = Value.ref a := rx
  subst ec
  subst ed
  obtain ⟨ha, _⟩ := I1.pin (a, oe) (List.mem_append_left _ List.mem_cons_self)
  obtain ⟨vs, hd⟩ := hf
  have hx : ObjOk X.prog X.w H1 s1.heap dd (.xd [(("at" : Str), v)]) := I1.hok dd _ ea
  obtain ⟨mA, hns, hr⟩ := hx
  obtain ⟨od, ho, hl⟩ := lookIn_ns hns
  have l : List.lookup ("at" : Str) [(("at" : Str), v)] = some v := by simp [List.lookup]
  obtain ⟨u, hu, ru⟩ := RelO.some_of (v := v) (o := mA "at") (by rw [← l]; exact hr "at")
  have J : PySem.W.InstAt s1.heap a oe C (some od) := ⟨ha, hz.1, by unfold PySem.W.notCls; rw [hd] <;> rfl, by rw [hz.2]; exact ho⟩
  exact HandSPX.exc_get I1.kIn J T.ga T.gg T.exC (PySem.W.findObj_own T.hdC T.noN rfl (by rw [hl, hu])) (handed_of ru) ⟨v, H1, I1.tok _, ru, q⟩
end
end L2

/-! zip of three rows, tuples and lists in any mix -/
namespace Fx
open PySem PySem.Spec PyProof.Rows L2 StX RZ
def SqK (K : PySem.W.Frag) (k : Bool) (H : Hp) (a : Addr) (xs : List V) : Prop := if k = true then SqT K H a xs else SqL K H a xs
def ItK (k : Bool) (h : Heap) (it a : Addr) (i : Nat) : Prop := if k = true then h.IsTupleIter it a i else h.IsListIter it a i
def SrcK (k : Bool) (h : Heap) (a : Addr) (its : Array Value) : Prop := if k = true then h.IsTuple a its else h.IsList a its
def objK (k : Bool) (a : Addr) : Obj := if k = true then { cls := .type "tuple_iterator", data := .fields #[.ref a, .int 0 0] } else { cls := .type "list_iterator", data := .fields #[.ref a, .int 0 0] }
section
variable {X : Cx} {pins : List (Addr × Obj)} {σ : L2.St} {H : Hp} {s : Shared} {k : Bool} {a it : Addr} {xs ys : List V}
theorem inv_src (I : Inv X pins σ H s) (h : SqK X.K k H a xs) : ∃ its : List Value, Vals xs its ∧ SrcK k s.heap a its.toArray ∧ a < s.heap.objs.size := by
  cases k with
  | true =>
    obtain ⟨its, r, p, _⟩ := I.tuple h
    obtain ⟨o1, ho1, _⟩ := id p
    exact ⟨its, r, p, Heap.lt_size ho1⟩
  | false =>
    obtain ⟨its, r, p, _⟩ := I.list h
    exact ⟨its, r, p.isList, p.lt⟩
theorem inv_src_inj (I : Inv X pins σ H s) (h : SqK X.K k H a xs) (h' : SqK X.K k H a ys) : xs = ys := by
  cases k with
  | true => exact I.tuple_inj h h'
  | false => exact I.list_inj h h'
theorem draws_src {prog : Program} {w : World} {A : Around} (hh : A.handled = none) (hne : a ≠ it) (items : Array Value) :
    Draws prog w A it [it, a] items.size (fun i v => items[i]? = some v) (fun i h => ItK k h it a i ∧ SrcK k h a items) := by
  cases k with
  | true => exact Draws.tuple hh it a hne items
  | false => exact Draws.list hh it a hne items
theorem begins_src (a : Addr) (items : Array Value) : Begins (.ref a) (objK k a) fun h => SrcK k h a items := by
  cases k with
  | true => exact begins_tuple a items
  | false => exact begins_list a items
theorem itK_obj {h : Heap} {i : Nat} (st : ItK k h it a i) : ∃ o, h.get? it = some o ∧ ∀ v, o.data ≠ .cell v := by
  cases k with
  | true => obtain ⟨o, e, _, d⟩ := st; exact ⟨o, e, fun v q => by rw [d] at q; cases q⟩
  | false => obtain ⟨o, e, _, d⟩ := st; exact ⟨o, e, fun v q => by rw [d] at q; cases q⟩
theorem itK_at {h h' : Heap} {i : Nat} (st : ItK k h it a i) (e : ∀ o, h.get? it = some o → h'.get? it = some o) : ItK k h' it a i := by
  cases k with
  | true => exact Heap.IsTupleIter.at st e
  | false => exact Heap.IsListIter.at st e
theorem itK_new {h : Heap} (e : h.get? it = some (objK k a)) : ItK k h it a 0 := by
  cases k with
  | true => exact ⟨_, e, rfl, rfl⟩
  | false => exact ⟨_, e, rfl, rfl⟩
end
def Itz3 (K : PySem.W.Frag) (k1 k2 k3 : Bool) (a b c : Addr) : It :=
  ⟨fun i H => ∃ (xs ys zs : List V) (x y z : V), SqK K k1 H a xs ∧ SqK K k2 H b ys ∧ SqK K k3 H c zs ∧ xs[i]? = some x ∧ ys[i]? = some y ∧ zs[i]? = some z,
    fun i H v H' => ∃ T x y z, v = .ref T ∧ H T = none ∧ H' = upd H T (.tup [x, y, z]) ∧ (∀ xs, SqK K k1 H a xs → xs[i]? = some x) ∧ (∀ ys, SqK K k2 H b ys → ys[i]? = some y) ∧ ∀ zs, SqK K k3 H c zs → zs[i]? = some z,
    fun i H => ∃ xs ys zs : List V, SqK K k1 H a xs ∧ SqK K k2 H b ys ∧ SqK K k3 H c zs ∧ i = min (min xs.length ys.length) zs.length⟩
def Tn3 (k1 k2 k3 : Bool) (N a b c : Addr) (i : Nat) (h : Heap) : Prop := IsZip h (N + 5 : Nat) (N + 3 : Nat) (N + 4 : Nat) .none ∧ IsTupOf3 h (N + 3 : Nat) (.ref N) (.ref (N + 1 : Nat)) (.ref (N + 2 : Nat)) ∧ (∃ x y z, IsTupOf3 h (N + 4 : Nat) x y z) ∧ ItK k1 h N a i ∧ ItK k2 h (N + 1 : Nat) b i ∧ ItK k3 h (N + 2 : Nat) c i
def fp3 (N : Addr) : List Addr := [(N + 5 : Nat), (N + 3 : Nat), (N + 4 : Nat), N, (N + 1 : Nat), (N + 2 : Nat)]
theorem fp3_cases {N c : Addr} (h : c ∈ fp3 N) : c = (N + 5 : Nat) ∨ c = (N + 3 : Nat) ∨ c = (N + 4 : Nat) ∨ c = N ∨ c = (N + 1 : Nat) ∨ c = (N + 2 : Nat) := by
  unfold fp3 at h
  simpa using h
theorem tn3_obj {k1 k2 k3 : Bool} {N a b c : Addr} {i : Nat} {h : Heap} (st : Tn3 k1 k2 k3 N a b c i h) : ∀ b ∈ fp3 N, ∃ o, h.get? b = some o ∧ ∀ v, o.data ≠ .cell v := by
  intro x hx
  obtain ⟨hz, hTI, ⟨_, _, _, hTO⟩, h1, h2, h3⟩ := st
  rcases fp3_cases hx with q | q | q | q | q | q
  · rw [q]; exact ⟨_, hz, fun v q => nomatch q⟩
  · rw [q]; exact ⟨_, hTI, fun v q => nomatch q⟩
  · rw [q]; exact ⟨_, hTO, fun v q => nomatch q⟩
  · rw [q]; exact itK_obj h1
  · rw [q]; exact itK_obj h2
  · rw [q]; exact itK_obj h3
theorem turn_zip3 {P : Program} {w : World} {K : PySem.W.Frag} {elts : List Expr} {kk : Nat} {tpos : Pos} {k1 k2 k3 : Bool} {N a b c : Addr} (la : a < N) (lb : b < N) (lc : c < N) :
    Turn P w K (.Tuple elts kk tpos) (Itz3 K k1 k2 k3 a b c) (fp3 N) (N + 5 : Nat) (Tn3 k1 k2 k3 N a b c) where
  mem := by unfold fp3; simp
  obj := fun i h st => tn3_obj st
  keep := fun i h h' st k => by
    obtain ⟨hz, hTI, ⟨x, y, z, hTO⟩, h1, h2, h3⟩ := st
    have m : ∀ {c}, c = (N + 5 : Nat) ∨ c = (N + 3 : Nat) ∨ c = (N + 4 : Nat) ∨ c = N ∨ c = (N + 1 : Nat) ∨ c = (N + 2 : Nat) → c ∈ fp3 N := fun h => by unfold fp3; simpa using h
    exact ⟨k _ (m (by simp)) _ hz, k _ (m (by simp)) _ hTI, ⟨x, y, z, k _ (m (by simp)) _ hTO⟩, itK_at h1 fun o q => k _ (m (by simp)) o q, itK_at h2 fun o q => k _ (m (by simp)) o q, itK_at h3 fun o q => k _ (m (by simp)) o q⟩
  item := by
    intro X hP hw hK hc i pins s σ H E I hf st hg
    subst hP hw hK
    obtain ⟨xs, ys, zs, x, y, z, hqx, hqy, hqz, hx, hy, hz⟩ := hg
    obtain ⟨its1, rv1, p1, _⟩ := inv_src I hqx
    obtain ⟨its2, rv2, p2, _⟩ := inv_src I hqy
    obtain ⟨its3, rv3, p3, _⟩ := inv_src I hqz
    obtain ⟨u1, hu1, r1⟩ := rv1.get hx
    obtain ⟨u2, hu2, r2⟩ := rv2.get hy
    obtain ⟨u3, hu3, r3⟩ := rv3.get hz
    have hd : X.A.in1.handled = none := I.ok.hd hc
    have W := WalksT.zipD3 (prog := X.prog) (w := X.w) (A := X.A) (zip_sep3 (N := N) (fp1 := [a]) (fp2 := [b]) (fp3 := [c]) (by simpa using la) (by simpa using lb) (by simpa using lc)) (draws_src (k := k1) hd (Nat.ne_of_lt la) its1.toArray) (draws_src (k := k2) hd (Nat.ne_of_lt (Nat.lt_succ_of_lt lb)) its2.toArray) (draws_src (k := k3) hd (Nat.ne_of_lt (Nat.lt_succ_of_lt (Nat.lt_succ_of_lt lc))) its3.toArray)
    have ob := tn3_obj st
    obtain ⟨t1, t2, t3, t4, t5, t6⟩ := st
    have g1 : its1.toArray[i]? = some u1 := by simpa using hu1
    have g2 : its2.toArray[i]? = some u2 := by simpa using hu2
    have g3 : its3.toArray[i]? = some u3 := by simpa using hu3
    have i1 : i < its1.toArray.size := (Array.getElem?_eq_some_iff.mp g1).1
    have i2 : i < its2.toArray.size := (Array.getElem?_eq_some_iff.mp g2).1
    have i3 : i < its3.toArray.size := (Array.getElem?_eq_some_iff.mp g3).1
    refine W.item i s _ E (by omega) ⟨t1, t2, t3, ⟨t4, p1⟩, ⟨t5, p2⟩, ⟨t6, p3⟩⟩ fun T vals h' tk hP hT hTup hM hk => ⟨_, rfl, W.go elts kk tpos i T _ _ E hM fun h'' hS hk2 => ?_⟩
    obtain ⟨x1, x2, x3, e1, e2, e3, rfl⟩ := hP
    rw [g1] at e1; cases e1
    rw [g2] at e2; cases e2
    rw [g3] at e3; cases e3
    have hT2 := hTup.at fun o e => hk2 T o (W.apart i T h' hM) e
    have new : ObjOk X.prog X.w (upd H T (.tup [x, y, z])) h'' T (.tup [x, y, z]) := ⟨by show 3 ≤ sizeLine; decide, [u1, u2, u3], .cons r1 (.cons r2 (.cons r3 .nil)), hT2⟩
    have sub : ∀ c, c ∈ ([(N + 5 : Nat), (N + 4 : Nat), N, (N + 1 : Nat), (N + 2 : Nat)] : List Addr) → c ∈ fp3 N := fun c h => by
      unfold fp3
      simp only [List.mem_cons, List.not_mem_nil, or_false] at h ⊢
      rcases h with h | h | h | h | h <;> simp [h]
    have I1 : Inv X pins σ (upd H T (.tup [x, y, z])) { s with heap := h'', toks := tk } :=
      I.turnedNew (t' := tk) (ch := fp3 N) (fun c o hb q => hk2 c o (fun m => hb (sub c m)) (hk c o (fun m => hb (sub c m)) q)) hf hT new
    refine ⟨.ref T, _, I1, rfl, ⟨T, x, y, z, rfl, I.hok.fresh hT, rfl, fun l hl => by rw [inv_src_inj I hl hqx]; exact hx, fun l hl => by rw [inv_src_inj I hl hqy]; exact hy, fun l hl => by rw [inv_src_inj I hl hqz]; exact hz⟩, ⟨hS.1, hS.2.1, hS.2.2.1, hS.2.2.2.1.1, hS.2.2.2.2.1.1, hS.2.2.2.2.2.1⟩, fun d hdm => ?_⟩
    obtain ⟨o, eo, _⟩ := ob d hdm
    rw [upd_ne (Nat.ne_of_lt (Nat.lt_of_lt_of_le (Heap.lt_size eo) hT))]
    exact (hf d hdm).1
  done := by
    intro X hP hw hK hc i pins s σ H E I hf st hg
    subst hP hw hK
    obtain ⟨xs, ys, zs, hqx, hqy, hqz, hi⟩ := hg
    obtain ⟨its1, rv1, p1, _⟩ := inv_src I hqx
    obtain ⟨its2, rv2, p2, _⟩ := inv_src I hqy
    obtain ⟨its3, rv3, p3, _⟩ := inv_src I hqz
    have hd : X.A.in1.handled = none := I.ok.hd hc
    have W := WalksT.zipD3 (prog := X.prog) (w := X.w) (A := X.A) (zip_sep3 (N := N) (fp1 := [a]) (fp2 := [b]) (fp3 := [c]) (by simpa using la) (by simpa using lb) (by simpa using lc)) (draws_src (k := k1) hd (Nat.ne_of_lt la) its1.toArray) (draws_src (k := k2) hd (Nat.ne_of_lt (Nat.lt_succ_of_lt lb)) its2.toArray) (draws_src (k := k3) hd (Nat.ne_of_lt (Nat.lt_succ_of_lt (Nat.lt_succ_of_lt lc))) its3.toArray)
    obtain ⟨t1, t2, t3, t4, t5, t6⟩ := st
    have l1 := rv1.length
    have l2 := rv2.length
    have l3 := rv3.length
    have hi' : i = min (min its1.toArray.size its2.toArray.size) its3.toArray.size := by
      rw [hi, List.size_toArray, List.size_toArray, List.size_toArray, l1, l2, l3]
    subst hi'
    have sub : ∀ c, c ∈ ([(N + 5 : Nat), (N + 4 : Nat), N, (N + 1 : Nat), (N + 2 : Nat)] : List Addr) → c ∈ fp3 N := fun c h => by
      unfold fp3
      simp only [List.mem_cons, List.not_mem_nil, or_false] at h ⊢
      rcases h with h | h | h | h | h <;> simp [h]
    exact W.done s _ E ⟨t1, t2, t3, ⟨t4, p1⟩, ⟨t5, p2⟩, ⟨t6, p3⟩⟩ fun h' tk hk => ⟨rfl, I.turnedL (t' := tk) (ch := fp3 N) (fun c o hb q => hk c o (fun m => hb (sub c m)) q) hf⟩
  self := fun A i s Q E st h => wpAny_pyIter_zip st.1 h
def iZip3 (K : PySem.W.Frag) (ta : TA) : TI := fun σ H R => ta σ H fun vs H1 => ∃ k1 k2 k3 a b c xs ys zs, vs = [.ref a, .ref b, .ref c] ∧ SqK K k1 H1 a xs ∧ SqK K k2 H1 b ys ∧ SqK K k3 H1 c zs ∧ R (Itz3 K k1 k2 k3 a b c) H1
theorem pi_zip3 {X : Cx} {K : PySem.W.Frag} {e e2 e3 : Expr} {ta : TA} {p pos tpos : Pos} {elts : List Expr} {kk : Nat} (hg : Gl X "zip") (hm : X.mg "zip" = none) (ha : PA X [e, e2, e3] ta)
    (hs : starEach [e, e2, e3] X.env = (false, eval e X.env) :: starEach [e2, e3] X.env := by rfl) (hpl : (backTo pos (starEach [e2, e3] X.env)).any (·.1) = false := by rfl) (hK : X.K = K := by rfl) :
    PI X (.Tuple elts kk tpos) (.Call (.Name "zip" p) [e, e2, e3] [] pos) (iZip3 K ta) := by
  subst hK
  refine ⟨fun pins s σ H R I h => ?_⟩
  refine Call_ (ld_blt I hg hm PyProof.Rows.boot_zip (PyProof.Rows.callWith_type1 (thn (ha.run pos pins s σ H _ I h) fun us s1 ⟨vs, H1, I1, r1, q1⟩ => ?_) hs hpl))
  obtain ⟨k1, k2, k3, a, b, c, xs, ys, zs, ex, hqx, hqy, hqz, q⟩ := q1
  subst ex
  cases r1 with
  | cons r rr =>
    cases rr with
    | cons r' rr =>
      cases rr with
      | cons r'' rr =>
        cases rr
        cases r
        cases r'
        cases r''
        have fresh6 : ∀ c, c ∈ fp3 s1.heap.objs.size → FpOk X pins H1 c := fun c hcm => by
          have hle : s1.heap.objs.size ≤ c := by
            rcases fp3_cases hcm with z | z | z | z | z | z
            · rw [z]; exact Nat.le_add_right _ _
            · rw [z]; exact Nat.le_add_right _ _
            · rw [z]; exact Nat.le_add_right _ _
            · rw [z]; exact Nat.le_refl _
            · rw [z]; exact Nat.le_add_right _ _
            · rw [z]; exact Nat.le_add_right _ _
          exact I1.fpOk hle (I1.hok.fresh hle)
        obtain ⟨its1, rv1, p1, l1⟩ := inv_src I1 hqx
        obtain ⟨its2, rv2, p2, l2⟩ := inv_src I1 hqy
        obtain ⟨its3, rv3, p3, l3⟩ := inv_src I1 hqz
        refine zip_begins3 (begins_src (k := k1) a its1.toArray) (begins_src (k := k2) b its2.toArray) (begins_src (k := k3) c its3.toArray) p1 p2 p3 fun h' hz hTI hTO g1 g2 g3 hsz hk => wpAny_pyIter_zip hz ?_
        have I2 : Inv X pins σ H1 { s1 with heap := h' } := I1.kept (t' := s1.toks) hk
        exact ⟨_, fp3 s1.heap.objs.size, _, _, H1, rfl, I2, turn_zip3 l1 l2 l3, ⟨hz, hTI, ⟨_, _, _, hTO⟩, itK_new g1, itK_new g2, itK_new g3⟩, fresh6, q⟩
end Fx

/-! zip of two and of three rows, tuples and lists in any mix, read as data -/
namespace Fx
open PySem PySem.Spec PyProof.Rows L2 StX RZ
def ItzM (K : PySem.W.Frag) (k1 k2 : Bool) (a b : Addr) : It :=
  ⟨fun i H => ∃ (xs ys : List V) (x y : V), SqK K k1 H a xs ∧ SqK K k2 H b ys ∧ xs[i]? = some x ∧ ys[i]? = some y,
    fun i H v H' => ∃ T x y, v = .ref T ∧ H T = none ∧ H' = upd H T (.tup [x, y]) ∧ (∀ xs, SqK K k1 H a xs → xs[i]? = some x) ∧ ∀ ys, SqK K k2 H b ys → ys[i]? = some y,
    fun i H => ∃ xs ys : List V, SqK K k1 H a xs ∧ SqK K k2 H b ys ∧ i = min xs.length ys.length⟩
def Tn2 (k1 k2 : Bool) (N a b : Addr) (i : Nat) (h : Heap) : Prop := IsZip h (N + 4 : Nat) (N + 2 : Nat) (N + 3 : Nat) .none ∧ IsTupOf2 h (N + 2 : Nat) (.ref N) (.ref (N + 1 : Nat)) ∧ (∃ x y, IsTupOf2 h (N + 3 : Nat) x y) ∧ ItK k1 h N a i ∧ ItK k2 h (N + 1 : Nat) b i
def fp2 (N : Addr) : List Addr := [(N + 4 : Nat), (N + 2 : Nat), (N + 3 : Nat), N, (N + 1 : Nat)]
theorem fp2_cases {N c : Addr} (h : c ∈ fp2 N) : c = (N + 4 : Nat) ∨ c = (N + 2 : Nat) ∨ c = (N + 3 : Nat) ∨ c = N ∨ c = (N + 1 : Nat) := by
  unfold fp2 at h
  simpa using h
theorem tn2_obj {k1 k2 : Bool} {N a b : Addr} {i : Nat} {h : Heap} (st : Tn2 k1 k2 N a b i h) : ∀ b ∈ fp2 N, ∃ o, h.get? b = some o ∧ ∀ v, o.data ≠ .cell v := by
  intro x hx
  obtain ⟨hz, hTI, ⟨_, _, hTO⟩, h1, h2⟩ := st
  rcases fp2_cases hx with q | q | q | q | q
  · rw [q]; exact ⟨_, hz, fun v q => nomatch q⟩
  · rw [q]; exact ⟨_, hTI, fun v q => nomatch q⟩
  · rw [q]; exact ⟨_, hTO, fun v q => nomatch q⟩
  · rw [q]; exact itK_obj h1
  · rw [q]; exact itK_obj h2
theorem turn_zipM {P : Program} {w : World} {K : PySem.W.Frag} {elts : List Expr} {kk : Nat} {tpos : Pos} {k1 k2 : Bool} {N a b : Addr} (la : a < N) (lb : b < N) :
    Turn P w K (.Tuple elts kk tpos) (ItzM K k1 k2 a b) (fp2 N) (N + 4 : Nat) (Tn2 k1 k2 N a b) where
  mem := by unfold fp2; simp
  obj := fun i h st => tn2_obj st
  keep := fun i h h' st k => by
    obtain ⟨hz, hTI, ⟨x, y, hTO⟩, h1, h2⟩ := st
    have m : ∀ {c}, c = (N + 4 : Nat) ∨ c = (N + 2 : Nat) ∨ c = (N + 3 : Nat) ∨ c = N ∨ c = (N + 1 : Nat) → c ∈ fp2 N := fun h => by unfold fp2; simpa using h
    exact ⟨k _ (m (by simp)) _ hz, k _ (m (by simp)) _ hTI, ⟨x, y, k _ (m (by simp)) _ hTO⟩, itK_at h1 fun o q => k _ (m (by simp)) o q, itK_at h2 fun o q => k _ (m (by simp)) o q⟩
  item := by
    intro X hP hw hK hc i pins s σ H E I hf st hg
    subst hP hw hK
    obtain ⟨xs, ys, x, y, hqx, hqy, hx, hy⟩ := hg
    obtain ⟨its1, rv1, p1, _⟩ := inv_src I hqx
    obtain ⟨its2, rv2, p2, _⟩ := inv_src I hqy
    obtain ⟨u1, hu1, r1⟩ := rv1.get hx
    obtain ⟨u2, hu2, r2⟩ := rv2.get hy
    have hd : X.A.in1.handled = none := I.ok.hd hc
    have W := WalksT.zipD2 (prog := X.prog) (w := X.w) (A := X.A) (zip_sep2 (N := N) (fp1 := [a]) (fp2 := [b]) (by simpa using la) (by simpa using lb)) (draws_src (k := k1) hd (Nat.ne_of_lt la) its1.toArray) (draws_src (k := k2) hd (Nat.ne_of_lt (Nat.lt_succ_of_lt lb)) its2.toArray)
    have ob := tn2_obj st
    obtain ⟨t1, t2, t3, t4, t5⟩ := st
    have g1 : its1.toArray[i]? = some u1 := by simpa using hu1
    have g2 : its2.toArray[i]? = some u2 := by simpa using hu2
    have i1 : i < its1.toArray.size := (Array.getElem?_eq_some_iff.mp g1).1
    have i2 : i < its2.toArray.size := (Array.getElem?_eq_some_iff.mp g2).1
    refine W.item i s _ E (by omega) ⟨t1, t2, t3, ⟨t4, p1⟩, ⟨t5, p2⟩⟩ fun T vals h' tk hP hT hTup hM hk => ⟨_, rfl, W.go elts kk tpos i T _ _ E hM fun h'' hS hk2 => ?_⟩
    obtain ⟨x1, x2, e1, e2, rfl⟩ := hP
    rw [g1] at e1; cases e1
    rw [g2] at e2; cases e2
    have hT2 := hTup.at fun o e => hk2 T o (W.apart i T h' hM) e
    have new : ObjOk X.prog X.w (upd H T (.tup [x, y])) h'' T (.tup [x, y]) := ⟨by show 2 ≤ sizeLine; decide, [u1, u2], .cons r1 (.cons r2 .nil), hT2⟩
    have sub : ∀ c, c ∈ ([(N + 4 : Nat), (N + 3 : Nat), N, (N + 1 : Nat)] : List Addr) → c ∈ fp2 N := fun c h => by
      unfold fp2
      simp only [List.mem_cons, List.not_mem_nil, or_false] at h ⊢
      rcases h with h | h | h | h <;> simp [h]
    have I1 : Inv X pins σ (upd H T (.tup [x, y])) { s with heap := h'', toks := tk } :=
      I.turnedNew (t' := tk) (ch := fp2 N) (fun c o hb q => hk2 c o (fun m => hb (sub c m)) (hk c o (fun m => hb (sub c m)) q)) hf hT new
    refine ⟨.ref T, _, I1, rfl, ⟨T, x, y, rfl, I.hok.fresh hT, rfl, fun l hl => by rw [inv_src_inj I hl hqx]; exact hx, fun l hl => by rw [inv_src_inj I hl hqy]; exact hy⟩, ⟨hS.1, hS.2.1, hS.2.2.1, hS.2.2.2.1.1, hS.2.2.2.2.1⟩, fun d hdm => ?_⟩
    obtain ⟨o, eo, _⟩ := ob d hdm
    rw [upd_ne (Nat.ne_of_lt (Nat.lt_of_lt_of_le (Heap.lt_size eo) hT))]
    exact (hf d hdm).1
  done := by
    intro X hP hw hK hc i pins s σ H E I hf st hg
    subst hP hw hK
    obtain ⟨xs, ys, hqx, hqy, hi⟩ := hg
    obtain ⟨its1, rv1, p1, _⟩ := inv_src I hqx
    obtain ⟨its2, rv2, p2, _⟩ := inv_src I hqy
    have hd : X.A.in1.handled = none := I.ok.hd hc
    have W := WalksT.zipD2 (prog := X.prog) (w := X.w) (A := X.A) (zip_sep2 (N := N) (fp1 := [a]) (fp2 := [b]) (by simpa using la) (by simpa using lb)) (draws_src (k := k1) hd (Nat.ne_of_lt la) its1.toArray) (draws_src (k := k2) hd (Nat.ne_of_lt (Nat.lt_succ_of_lt lb)) its2.toArray)
    obtain ⟨t1, t2, t3, t4, t5⟩ := st
    have l1 := rv1.length
    have l2 := rv2.length
    have hi' : i = min its1.toArray.size its2.toArray.size := by
      rw [hi, List.size_toArray, List.size_toArray, l1, l2]
    subst hi'
    have sub : ∀ c, c ∈ ([(N + 4 : Nat), (N + 3 : Nat), N, (N + 1 : Nat)] : List Addr) → c ∈ fp2 N := fun c h => by
      unfold fp2
      simp only [List.mem_cons, List.not_mem_nil, or_false] at h ⊢
      rcases h with h | h | h | h <;> simp [h]
    exact W.done s _ E ⟨t1, t2, t3, ⟨t4, p1⟩, ⟨t5, p2⟩⟩ fun h' tk hk => ⟨rfl, I.turnedL (t' := tk) (ch := fp2 N) (fun c o hb q => hk c o (fun m => hb (sub c m)) q) hf⟩
  self := fun A i s Q E st h => wpAny_pyIter_zip st.1 h
def iZipM (K : PySem.W.Frag) (ta : TA) : TI := fun σ H R => ta σ H fun vs H1 => ∃ k1 k2 a b xs ys, vs = [.ref a, .ref b] ∧ SqK K k1 H1 a xs ∧ SqK K k2 H1 b ys ∧ R (ItzM K k1 k2 a b) H1
theorem piZipM {X : Cx} {K : PySem.W.Frag} {e e2 : Expr} {ta : TA} {p pos tpos : Pos} {elts : List Expr} {kk : Nat} (hg : Gl X "zip") (hm : X.mg "zip" = none) (ha : PA X [e, e2] ta)
    (hs : starEach [e, e2] X.env = (false, eval e X.env) :: starEach [e2] X.env := by rfl) (hpl : (backTo pos (starEach [e2] X.env)).any (·.1) = false := by rfl) (hK : X.K = K := by rfl) :
    PI X (.Tuple elts kk tpos) (.Call (.Name "zip" p) [e, e2] [] pos) (iZipM K ta) := by
  subst hK
  refine ⟨fun pins s σ H R I h => ?_⟩
  refine Call_ (ld_blt I hg hm PyProof.Rows.boot_zip (PyProof.Rows.callWith_type1 (thn (ha.run pos pins s σ H _ I h) fun us s1 ⟨vs, H1, I1, r1, q1⟩ => ?_) hs hpl))
  obtain ⟨k1, k2, a, b, xs, ys, ex, hqx, hqy, q⟩ := q1
  subst ex
  cases r1 with
  | cons r rr =>
    cases rr with
    | cons r' rr =>
      cases rr
      cases r
      cases r'
      have fresh5 : ∀ c, c ∈ fp2 s1.heap.objs.size → FpOk X pins H1 c := fun c hcm => by
        have hle : s1.heap.objs.size ≤ c := by
          rcases fp2_cases hcm with z | z | z | z | z
          · rw [z]; exact Nat.le_add_right _ _
          · rw [z]; exact Nat.le_add_right _ _
          · rw [z]; exact Nat.le_add_right _ _
          · rw [z]; exact Nat.le_refl _
          · rw [z]; exact Nat.le_add_right _ _
        exact I1.fpOk hle (I1.hok.fresh hle)
      obtain ⟨its1, rv1, p1, l1⟩ := inv_src I1 hqx
      obtain ⟨its2, rv2, p2, l2⟩ := inv_src I1 hqy
      refine zip_begins2 (begins_src (k := k1) a its1.toArray) (begins_src (k := k2) b its2.toArray) p1 p2 fun h' hz hTI hTO g1 g2 hsz hk => wpAny_pyIter_zip hz ?_
      have I2 : Inv X pins σ H1 { s1 with heap := h' } := I1.kept (t' := s1.toks) hk
      exact ⟨_, fp2 s1.heap.objs.size, _, _, H1, rfl, I2, turn_zipM l1 l2, ⟨hz, hTI, ⟨_, _, hTO⟩, itK_new g1, itK_new g2⟩, fresh5, q⟩
/-! ### read as data -/
def rowD : Bool → List PyData → PyData
  | true, xs => .tuple xs
  | false, xs => .list xs
section
variable {K : PySem.W.Frag} {ρ : List En} {R R1 : List Ow}
theorem row_src {k : Bool} {F : Hp} {v : V} {xs : List PyData} (e : EnOk K F v (.d (rowD k xs))) : ∃ a vs, v = .ref a ∧ (∀ F2 R H, Ex F F2 → At K F2 R H → SqK K k H a vs) ∧ Dts K F vs xs := by
  cases k with
  | true =>
    cases e with
    | tup a1 a2 => exact ⟨_, _, rfl, fun F2 R H x A => ex_t A.ex (ex_t x a1), a2⟩
  | false =>
    cases e with
    | lst a1 a2 => exact ⟨_, _, rfl, fun F2 R H x A => .inl (.inl (A.ex _ _ (x _ _ a1))), a2⟩
theorem walk_zipM {k1 k2 : Bool} {a b : Addr} {xs ys : List V} {n : Nat} (hn : n = min xs.length ys.length) : L2.Walk (ItzM K k1 k2 a b) n (fun H => SqK K k1 H a xs ∧ SqK K k2 H b ys) (YPair (fun i => xs[i]?) (fun i => ys[i]?)) := by
  subst hn
  refine ⟨fun i H hi q => ?_, fun H q => ?_, fun i H x H' hi q y => ?_⟩
  · have h1 : i < xs.length := by omega
    have h2 : i < ys.length := by omega
    exact ⟨xs, ys, xs[i], ys[i], q.1, q.2, List.getElem?_eq_getElem h1, List.getElem?_eq_getElem h2⟩
  · exact ⟨xs, ys, q.1, q.2, rfl⟩
  · obtain ⟨T, p, r, h1, h2, h3, h4, h5⟩ := y
    exact ⟨T, p, r, h1, h2, h3, h4 _ q.1, h5 _ q.2⟩
theorem ei_zipM {k1 k2 : Bool} {ts : TA} {xs ys : List PyData} (h : Ea K ts ρ R [.d (rowD k1 xs), .d (rowD k2 ys)] R1) : Ei K (iZipM K ts) ρ R (prs xs ys) R1 := fun R0 F H σ S A Q q =>
  h R0 F H σ S A _ fun vs F1 H1 x1 A1 e1 => by
    cases e1 with
    | cons a b =>
      cases b with
      | cons b c =>
        cases c
        obtain ⟨p1, v1, rfl, a1, a2⟩ := row_src a
        obtain ⟨p2, v2, rfl, b1, b2⟩ := row_src b
        refine ⟨k1, k2, _, _, _, _, rfl, a1 _ _ _ (Ex.refl _) A1, b1 _ _ _ (Ex.refl _) A1, q _ F1 H1 x1 A1 ?_⟩
        refine wk_pair (by rw [prs_len, ← a2.len, ← b2.len]) (walk_zipM (K := K) rfl) (fun F2 R H x A => ⟨a1 _ _ _ x A, b1 _ _ _ x A⟩) ?_ ?_
        · intro i d F2 x hd v hv
          obtain ⟨w, h1, h2⟩ := (a2.mono x).get hd
          rw [hv] at h1; cases h1; exact h2
        · intro i d F2 x hd v hv
          obtain ⟨w, h1, h2⟩ := (b2.mono x).get hd
          rw [hv] at h1; cases h1; exact h2
def prs3 (xs ys zs : List PyData) : List PyData := List.zipWith (fun x (p : PyData × PyData) => .tuple [x, p.1, p.2]) xs (ys.zip zs)
theorem prs3_len {xs ys zs : List PyData} : (prs3 xs ys zs).length = min (min xs.length ys.length) zs.length := by
  unfold prs3
  rw [List.length_zipWith, List.length_zip]
  omega
theorem prs3_get {xs ys zs : List PyData} {i : Nat} {d : PyData} (h : (prs3 xs ys zs)[i]? = some d) : ∃ x y z, xs[i]? = some x ∧ ys[i]? = some y ∧ zs[i]? = some z ∧ d = .tuple [x, y, z] := by
  unfold prs3 at h
  rw [List.getElem?_zipWith] at h
  cases hp : xs[i]? with
  | none => rw [hp] at h; simp at h
  | some p =>
    cases hq : (ys.zip zs)[i]? with
    | none => rw [hp, hq] at h; simp at h
    | some q =>
      rw [hp, hq] at h
      simp at h
      obtain ⟨h1, h2⟩ := List.getElem?_zip_eq_some.mp hq
      exact ⟨p, q.1, q.2, rfl, h1, h2, h.symm⟩
theorem ei_zip3 {k1 k2 k3 : Bool} {ts : TA} {xs ys zs : List PyData} (h : Ea K ts ρ R [.d (rowD k1 xs), .d (rowD k2 ys), .d (rowD k3 zs)] R1) : Ei K (iZip3 K ts) ρ R (prs3 xs ys zs) R1 := fun R0 F H σ S A Q q =>
  h R0 F H σ S A _ fun vs F1 H1 x1 A1 e1 => by
    cases e1 with
    | cons a b =>
      cases b with
      | cons b c =>
        cases c with
        | cons c d =>
          cases d
          obtain ⟨p1, v1, rfl, a1, a2⟩ := row_src a
          obtain ⟨p2, v2, rfl, b1, b2⟩ := row_src b
          obtain ⟨p3, v3, rfl, c1, c2⟩ := row_src c
          refine ⟨k1, k2, k3, _, _, _, _, _, _, rfl, a1 _ _ _ (Ex.refl _) A1, b1 _ _ _ (Ex.refl _) A1, c1 _ _ _ (Ex.refl _) A1, q _ F1 H1 x1 A1 ?_⟩
          have hn : (prs3 xs ys zs).length = min (min v1.length v2.length) v3.length := by rw [prs3_len, ← a2.len, ← b2.len, ← c2.len]
          refine ⟨fun H => SqK K k1 H p1 v1 ∧ SqK K k2 H p2 v2 ∧ SqK K k3 H p3 v3, fun i H v H' => ∃ T x y z, v = .ref T ∧ H T = none ∧ H' = upd H T (.tup [x, y, z]) ∧ v1[i]? = some x ∧ v2[i]? = some y ∧ v3[i]? = some z, ?_, fun F2 R H x A => ⟨a1 _ _ _ x A, b1 _ _ _ x A, c1 _ _ _ x A⟩, ?_⟩
          · refine ⟨fun i H hi q => ?_, fun H q => ?_, fun i H x H' hi q y => ?_⟩
            · have h1 : i < v1.length := by omega
              have h2 : i < v2.length := by omega
              have h3 : i < v3.length := by omega
              exact ⟨v1, v2, v3, v1[i], v2[i], v3[i], q.1, q.2.1, q.2.2, List.getElem?_eq_getElem h1, List.getElem?_eq_getElem h2, List.getElem?_eq_getElem h3⟩
            · exact ⟨v1, v2, v3, q.1, q.2.1, q.2.2, hn⟩
            · obtain ⟨T, p, r, u, h1, h2, h3, h4, h5, h6⟩ := y
              exact ⟨T, p, r, u, h1, h2, h3, h4 _ q.1, h5 _ q.2.1, h6 _ q.2.2⟩
          · rintro i v d F2 R H H' x A ⟨T, p, r, u, rfl, hT, rfl, hp, hr, hu⟩ hx
            obtain ⟨y, A1⟩ := A.new (.tup [p, r, u]) hT
            obtain ⟨d1, d2, d3, g1, g2, g3, rfl⟩ := prs3_get hx
            have at1 : ∀ {vs : List V} {ds : List PyData} {w : V} {e : PyData}, Dts K F1 vs ds → vs[i]? = some w → ds[i]? = some e → Dt K (upd F2 T (.tup [p, r, u])) w e := fun hD hw he => by
              obtain ⟨w', h1, h2⟩ := (hD.mono (x.trans y)).get he
              rw [hw] at h1; cases h1; exact h2
            exact ⟨_, y, A1, .tup (.inl (.inl upd_same)) (.cons (at1 a2 hp g1) (.cons (at1 b2 hr g2) (.cons (at1 c2 hu g3) .nil)))⟩
theorem egw_three {i j l : Nat} {vs : List Nat} {d1 d2 d3 : PyData} (hi : i ∈ vs := by simp) (hj : j ∈ vs := by simp) (hl : l ∈ vs := by simp) : EgW K (gTup K 3 (gCons (gName i) (gCons (gName j) (gCons (gName l) gNil)))) vs (.d (.tuple [d1, d2, d3])) ρ (((ρ.set i (.d d1)).set j (.d d2)).set l (.d d3)) := fun R F H σ v S A hv Q q => by
  cases hv with
  | tup h1 h2 =>
    cases h2 with
    | cons a b =>
      cases b with
      | cons b c =>
        cases c with
        | cons c e =>
          cases e
          exact ⟨_, _, rfl, ex_t A.ex h1, rfl, _, _, rfl, _, _, rfl, _, _, rfl, rfl, q _ (((S.set i (.of (e := .d d1) a)).set j (.of (e := .d d2) b)).set l (.of (e := .d d3) c)) (by rw [wipe_set hl, wipe_set hj, wipe_set hi])⟩
end
end Fx

/-! parts[0], parts[1], parts[2] of three things known -/
namespace Fx
open PySem PySem.Spec PyProof.Rows L2 StX RZ
section
variable {K : PySem.W.Frag} {R : List Ow} {l1 l2 : List Str} {d : PyData}
theorem rv_t0 : Rv K (rIxA K) (.g (prT l1 l2 d)) (.d (.int 0)) R (.g (prX l1)) := fun R0 F H v u hv hu A Q q => by
  cases hu
  obtain ⟨a, v1, v2, v3, rfl, w, a1, a2, a3⟩ := hv
  exact .inr ⟨_, _, 0, v1, rfl, rfl, ex_t A.ex w, rfl, q v1 F H (Ex.refl F) A a1⟩
theorem rv_t1 : Rv K (rIxA K) (.g (prT l1 l2 d)) (.d (.int 1)) R (.g (prX l2)) := fun R0 F H v u hv hu A Q q => by
  cases hu
  obtain ⟨a, v1, v2, v3, rfl, w, a1, a2, a3⟩ := hv
  exact .inr ⟨_, _, 1, v2, rfl, rfl, ex_t A.ex w, rfl, q v2 F H (Ex.refl F) A a2⟩
theorem rv_t2 : Rv K (rIxA K) (.g (prT l1 l2 d)) (.d (.int 2)) R (.d d) := fun R0 F H v u hv hu A Q q => by
  cases hu
  obtain ⟨a, v1, v2, v3, rfl, w, a1, a2, a3⟩ := hv
  exact .inr ⟨_, _, 2, v3, rfl, rfl, ex_t A.ex w, rfl, q v3 F H (Ex.refl F) A a3⟩
end
end Fx

namespace Fx
open PySem PySem.Spec PyProof.Rows L2 StX RZ
section
variable {K : PySem.W.Frag} {ρ : List En} {R R1 : List Ow} {te : TE}
theorem rgV_nat (n : Nat) : rgV 0 (n : Int) = ((List.range n).map fun (i : Nat) => (i : Int)).map V.int := by
  unfold rgV
  rw [List.map_map]
  have : ((n : Int) - 0).toNat = n := by omega
  rw [this]
  refine List.map_congr_left fun i _ => ?_
  show V.int (0 + (i : Int)) = V.int (i : Int)
  rw [Int.zero_add]
/-- list(range(n)) -/
theorem ev_listRg {n : Nat} (h : Ev K te ρ R (.d (.int (n : Int))) R1) (hn : n ≤ 1000000) : Ev K (tLstRg (tRg1 te)) ρ R (.d (.list ((List.range n).map fun (i : Nat) => PyData.int (i : Int)))) R1 := fun R0 F H σ S A Q q => by
  refine h R0 F H σ S A _ fun v F1 H1 x1 A1 e1 => ?_
  cases e1
  refine ⟨_, rfl, RgOk.of_le (by omega) (by omega) (by omega) (by omega), fun p hp => ?_⟩
  obtain ⟨x, A2⟩ := A1.new (.lst (rgV 0 (n : Int))) hp
  refine q _ _ _ (x1.trans x) A2 (.lst upd_same ?_)
  have e : ((List.range n).map fun (i : Nat) => PyData.int (i : Int)) = ((List.range n).map fun (i : Nat) => (i : Int)).map .int := by rw [List.map_map]; rfl
  rw [e, rgV_nat]
  exact Dts.of_ints _
end
end Fx

namespace Fx
open PySem PySem.Spec PyProof.Rows L2 StX RZ
/-! ### the judgements once more, each with what is wanted behind it -/
section
variable (K : PySem.W.Frag)
def Eap (ta : TA) (ρ : List En) (R : List Ow) (Q : List En → List Ow → Prop) : Prop :=
  ∀ (R0 : List Ow) (F H : Hp) (σ : L2.St), Sls K F σ ρ → At K F (R ++ R0) H → ∀ Q' : List V → Hp → Prop, (∀ es R1 vs F1 H1, Q es R1 → Ex F F1 → At K F1 (R1 ++ R0) H1 → Ens K F1 vs es → Q' vs H1) → ta σ H Q'
def Etp (t : TT) (ρ : List En) (R : List Ow) (Q : Bool → List Ow → Prop) : Prop :=
  ∀ (R0 : List Ow) (F H : Hp) (σ : L2.St), Sls K F σ ρ → At K F (R ++ R0) H → ∀ Q' : Bool → Hp → Prop, (∀ b R1 F1 H1, Q b R1 → Ex F F1 → At K F1 (R1 ++ R0) H1 → Q' b H1) → t σ H Q'
def Eop (to : TO) (ρ : List En) (R : List Ow) (Q : Option Int → List Ow → Prop) : Prop :=
  ∀ (R0 : List Ow) (F H : Hp) (σ : L2.St), Sls K F σ ρ → At K F (R ++ R0) H → ∀ Q' : Option Int → Hp → Prop, (∀ o R1 F1 H1, Q o R1 → Ex F F1 → At K F1 (R1 ++ R0) H1 → Q' o H1) → to σ H Q'
def Eip (wi : TI) (ρ : List En) (R : List Ow) (Q : List PyData → List Ow → Prop) : Prop :=
  ∀ (R0 : List Ow) (F H : Hp) (σ : L2.St), Sls K F σ ρ → At K F (R ++ R0) H → ∀ Q' : It → Hp → Prop, (∀ xs R1 J F1 H1, Q xs R1 → Ex F F1 → At K F1 (R1 ++ R0) H1 → Wk K J R0 F1 xs → Q' J H1) → wi σ H Q'
def Rvp (r : R2) (x y : En) (R : List Ow) (Q : En → List Ow → Prop) : Prop :=
  ∀ (R0 : List Ow) (F H : Hp) (v u : V), EnOk K F v x → EnOk K F u y → At K F (R ++ R0) H → ∀ Q' : VK, (∀ z R1 w F1 H1, Q z R1 → Ex F F1 → At K F1 (R1 ++ R0) H1 → EnOk K F1 w z → Q' w H1) → r v u H Q'
def Rup (r : V → Hp → VK → Prop) (x : En) (R : List Ow) (Q : En → List Ow → Prop) : Prop :=
  ∀ (R0 : List Ow) (F H : Hp) (v : V), EnOk K F v x → At K F (R ++ R0) H → ∀ Q' : VK, (∀ z R1 w F1 H1, Q z R1 → Ex F F1 → At K F1 (R1 ++ R0) H1 → EnOk K F1 w z → Q' w H1) → r v H Q'
def Rcp (r : List V → Hp → VK → Prop) (es : List En) (R : List Ow) (Q : En → List Ow → Prop) : Prop :=
  ∀ (R0 : List Ow) (F H : Hp) (vs : List V), Ens K F vs es → At K F (R ++ R0) H → ∀ Q' : VK, (∀ z R1 w F1 H1, Q z R1 → Ex F F1 → At K F1 (R1 ++ R0) H1 → EnOk K F1 w z → Q' w H1) → r vs H Q'
end
/-- an owned list among what is owned: what stands when it is another, or no more -/
abbrev DR := List Ow
section
variable {K : PySem.W.Frag} {ρ ρ' : List En} {R R1 Rz R3 : List Ow} {e x y z : En} {ta tb tc te : TE} {t u : TT} {r : L2.R2} {Q : En → List Ow → Prop} {ts : TA} {P : Post} {b1 b2 : TS}
theorem SlOk.val {F : Hp} {s : Option V} {e : En} (h : SlOk K F s e) (hu : e ≠ .u) : ∃ v, s = some v ∧ EnOk K F v e := by
  cases e with
  | d y => exact h
  | o a => exact ⟨_, h, rfl⟩
  | v w => exact ⟨_, h, rfl⟩
  | u => exact absurd rfl hu
  | s ds => exact h
  | ob C fs => exact h
  | g p => exact h
theorem gp_var {i : Nat} {e : En} (h : ρ[i]? = some e) (hu : e ≠ .u) (q : Q e R) : Evp K (tVar i) ρ R Q := fun R0 F H σ S A Q' q' => by
  obtain ⟨s, h1, h2⟩ := S.get h
  obtain ⟨v, rfl, h3⟩ := h2.val hu
  exact ⟨v, h1, q' _ _ v F H q (Ex.refl F) A h3⟩
theorem gp_int {i : Int} (q : Q (.d (.int i)) R) : Evp K (tC (.int i)) ρ R Q := evp_of ev_int q
theorem gp_bl {b : Bool} (q : Q (.d (.bool b)) R) : Evp K (tC (.bl b)) ρ R Q := evp_of ev_bl q
theorem gp_non (q : Q (.d .none) R) : Evp K (tC .non) ρ R Q := evp_of ev_non q
theorem gp_str {s : Str} (q : Q (.d (.str s)) R) : Evp K (tC (.str s)) ρ R Q := evp_of ev_str q
theorem gp_ty {n : String} (q : Q (.v (.ty n)) R) : Evp K (tC (.ty n)) ρ R Q := evp_of ev_v q
theorem gp_op (h : Evp K ta ρ R fun x R1 => Evp K tb ρ R1 fun y R2 => Rvp K r x y R2 Q) : Evp K (tOp r ta tb) ρ R Q := fun R0 F H σ S A Q' q' =>
  h R0 F H σ S A _ fun x R1 v F1 H1 h1 x1 A1 e1 => h1 R0 F1 H1 σ (S.mono x1) A1 _ fun y R2 u F2 H2 h2 x2 A2 e2 => h2 R0 F2 H2 v u (e1.mono x2) e2 A2 Q' fun z R3 w F3 H3 h3 x3 A3 e3 => q' z R3 w F3 H3 h3 (x1.trans (x2.trans x3)) A3 e3
theorem gp_un {r : V → Hp → VK → Prop} (h : Evp K ta ρ R fun x R1 => Rup K r x R1 Q) : Evp K (tUn r ta) ρ R Q := fun R0 F H σ S A Q' q' =>
  h R0 F H σ S A _ fun x R1 v F1 H1 h1 x1 A1 e1 => h1 R0 F1 H1 v e1 A1 Q' fun z R3 w F3 H3 h3 x3 A3 e3 => q' z R3 w F3 H3 h3 (x1.trans x3) A3 e3
theorem rvp_of (h : Rv K r x y R z) (q : Q z R) : Rvp K r x y R Q := fun R0 F H v u e1 e2 A Q' q' => h R0 F H v u e1 e2 A Q' fun w F1 H1 x1 A1 e3 => q' z R w F1 H1 q x1 A1 e3
theorem rup_neg {i : Int} (q : Q (.d (.int (-i))) R) : Rup K (rU fun i => .int (-i)) (.d (.int i)) R Q := fun R0 F H v e1 A Q' q' => by
  cases e1; exact ⟨i, rfl, q' _ R _ F H q (Ex.refl F) A (.int _)⟩
theorem rcp_of {rc : List V → Hp → VK → Prop} {es : List En} (h : RcK K rc es R z) (q : Q z R) : Rcp K rc es R Q := fun R0 F H vs e1 A Q' q' => h R0 F H vs e1 A Q' fun w F1 H1 x1 A1 e3 => q' z R w F1 H1 q x1 A1 e3
theorem gp_cb {rc : List V → Hp → VK → Prop} (h : Eap K ts ρ R fun es R1 => Rcp K rc es R1 Q) : Evp K (tCB rc ts) ρ R Q := fun R0 F H σ S A Q' q' =>
  h R0 F H σ S A _ fun es R1 vs F1 H1 h1 x1 A1 e1 => h1 R0 F1 H1 vs e1 A1 Q' fun z R3 w F3 H3 h3 x3 A3 e3 => q' z R3 w F3 H3 h3 (x1.trans x3) A3 e3
theorem ap_nil {Q : List En → List Ow → Prop} (q : Q [] R) : Eap K tNil ρ R Q := fun R0 F H σ S A Q' q' => q' [] R [] F H q (Ex.refl F) A .nil
theorem ap_cons {Q : List En → List Ow → Prop} (h : Evp K ta ρ R fun e R1 => Eap K ts ρ R1 fun es R2 => Q (e :: es) R2) : Eap K (tCons ta ts) ρ R Q := fun R0 F H σ S A Q' q' =>
  h R0 F H σ S A _ fun e R1 v F1 H1 h1 x1 A1 e1 => h1 R0 F1 H1 σ (S.mono x1) A1 _ fun es R2 vs F2 H2 h2 x2 A2 e2 => q' _ R2 (v :: vs) F2 H2 h2 (x1.trans x2) A2 (.cons (e1.mono x2) e2)
theorem ap_star {Q : List En → List Ow → Prop} (h : Evp K ta ρ R fun e R1 => ∃ ds, e = .d (.tuple ds) ∧ Eap K ts ρ R1 fun es R2 => Q (ds.map .d ++ es) R2) : Eap K (tStar K ta ts) ρ R Q := fun R0 F H σ S A Q' q' =>
  h R0 F H σ S A _ fun e R1 v F1 H1 ⟨ds, he, h1⟩ x1 A1 e1 => by
    subst he
    cases e1 with
    | tup h3 h4 =>
      exact ⟨_, _, rfl, .inl (ex_t A1.ex h3), h1 R0 F1 H1 σ (S.mono x1) A1 _ fun es R2 vs F2 H2 h2 x2 A2 e2 => q' _ R2 _ F2 H2 h2 (x1.trans x2) A2 (Ens.app (h4.mono x2) e2)⟩
/-- items that are data -/
def allD : List En → Option (List PyData)
  | [] => some []
  | .d x :: es => (allD es).map (x :: ·)
  | _ => none
theorem allD_eq : ∀ {es : List En} {ds : List PyData}, allD es = some ds → es = ds.map .d
  | [], ds, h => by cases h; rfl
  | .d x :: es, ds, h => by
    unfold allD at h
    cases h1 : allD es with
    | none => rw [h1] at h; cases h
    | some l => rw [h1] at h; cases h; rw [allD_eq h1]; rfl
  | .o _ :: _, _, h => by cases h
  | .v _ :: _, _, h => by cases h
  | .u :: _, _, h => by cases h
  | .s _ :: _, _, h => by cases h
  | .ob _ _ :: _, _, h => by cases h
  | .g _ :: _, _, h => by cases h
def Disp (c : List PyData → PyData) (es : List En) (R : List Ow) (Q : En → List Ow → Prop) : Prop := ∃ ds, allD es = some ds ∧ ds.length ≤ sizeLine ∧ Q (.d (c ds)) R
theorem gp_tup (h : Eap K ts ρ R fun es R1 => Disp .tuple es R1 Q) : Evp K (tTup ts) ρ R Q := fun R0 F H σ S A Q' q' =>
  h R0 F H σ S A _ fun es R1 vs F1 H1 ⟨ds, h1, h2, h3⟩ x1 A1 e1 => by
    have e := allD_eq h1
    subst e
    refine ⟨by rw [e1.dts.len]; exact h2, fun p hp => ?_⟩
    obtain ⟨x, A2⟩ := A1.new (.tup vs) hp
    exact q' _ _ _ _ _ h3 (x1.trans x) A2 (.tup (.inl (.inl upd_same)) (e1.dts.mono x))
theorem gp_lst (h : Eap K ts ρ R fun es R1 => Disp .list es R1 Q) : Evp K (tLst ts) ρ R Q := fun R0 F H σ S A Q' q' =>
  h R0 F H σ S A _ fun es R1 vs F1 H1 ⟨ds, h1, h2, h3⟩ x1 A1 e1 => by
    have e := allD_eq h1
    subst e
    refine ⟨by rw [e1.dts.len]; exact h2, fun p hp => ?_⟩
    obtain ⟨x, A2⟩ := A1.new (.lst vs) hp
    exact q' _ _ _ _ _ h3 (x1.trans x) A2 (.lst upd_same (e1.dts.mono x))
theorem disp {c : List PyData → PyData} {es : List En} {ds : List PyData} (h1 : allD es = some ds) (h2 : ds.length ≤ 1000000) (q : Q (.d (c ds)) R) : Disp c es R Q := ⟨ds, h1, Nat.le_trans h2 (by decide), q⟩
/-! tests -/
def TestP : En → List Ow → (Bool → List Ow → Prop) → Prop
  | .d (.bool b), R, Q => Q b R
  | _, _, _ => False
theorem testp {Qb : Bool → List Ow → Prop} {b : Bool} (q : Qb b R) : TestP (.d (.bool b)) R Qb := q
theorem TestP.inv {Qb : Bool → List Ow → Prop} (h : TestP e R Qb) : ∃ b, e = .d (.bool b) ∧ Qb b R := by
  unfold TestP at h
  split at h
  · exact ⟨_, rfl, h⟩
  · exact h.elim
variable {Qb : Bool → List Ow → Prop}
theorem tp_test (h : Evp K te ρ R fun e R1 => TestP e R1 Qb) : Etp K (tTest te) ρ R Qb := fun R0 F H σ S A Q' q' =>
  h R0 F H σ S A _ fun e R1 v F1 H1 h1 x1 A1 e1 => by
    obtain ⟨b, rfl, hb⟩ := h1.inv
    cases e1
    exact ⟨b, rfl, q' b R1 F1 H1 hb x1 A1⟩
theorem tp_B (h : Evp K te ρ R fun e R1 => TestP e R1 Qb) : Etp K (tB te) ρ R Qb := fun R0 F H σ S A Q' q' =>
  h R0 F H σ S A _ fun e R1 v F1 H1 h1 x1 A1 e1 => by
    obtain ⟨b, rfl, hb⟩ := h1.inv
    cases e1
    exact ⟨b, rfl, q' b R1 F1 H1 hb x1 A1⟩
theorem tp_yes (q : Qb true R) : Etp K tYes ρ R Qb := fun R0 F H σ S A Q' q' => q' true R F H q (Ex.refl F) A
theorem tp_and (h : Etp K t ρ R fun b R1 => (b = true → Etp K u ρ R1 Qb) ∧ (b = false → Qb false R1)) : Etp K (tAnd t u) ρ R Qb := fun R0 F H σ S A Q' q' =>
  h R0 F H σ S A _ fun b R1 F1 H1 h1 x1 A1 => by
    cases b with
    | true => exact h1.1 rfl R0 F1 H1 σ (S.mono x1) A1 Q' fun c R2 F2 H2 h2 x2 A2 => q' c R2 F2 H2 h2 (x1.trans x2) A2
    | false => exact q' false R1 F1 H1 (h1.2 rfl) x1 A1
theorem tp_or (h : Etp K t ρ R fun b R1 => (b = true → Qb true R1) ∧ (b = false → Etp K u ρ R1 Qb)) : Etp K (tOr t u) ρ R Qb := fun R0 F H σ S A Q' q' =>
  h R0 F H σ S A _ fun b R1 F1 H1 h1 x1 A1 => by
    cases b with
    | false => exact h1.2 rfl R0 F1 H1 σ (S.mono x1) A1 Q' fun c R2 F2 H2 h2 x2 A2 => q' c R2 F2 H2 h2 (x1.trans x2) A2
    | true => exact q' true R1 F1 H1 (h1.1 rfl) x1 A1
theorem tp_not (h : Etp K t ρ R fun b R1 => Qb (!b) R1) : Etp K (tNot t) ρ R Qb := fun R0 F H σ S A Q' q' =>
  h R0 F H σ S A _ fun b R1 F1 H1 h1 x1 A1 => q' (!b) R1 F1 H1 h1 x1 A1
theorem gp_andV (h : Evp K ta ρ R fun e R1 => TestP e R1 fun b R2 => (b = true → Evp K tb ρ R2 Q) ∧ (b = false → Q (.d (.bool false)) R2)) : Evp K (tAndV ta tb) ρ R Q := fun R0 F H σ S A Q' q' =>
  h R0 F H σ S A _ fun e R1 v F1 H1 h1 x1 A1 e1 => by
    obtain ⟨b, rfl, hb⟩ := h1.inv
    cases e1
    refine ⟨b, rfl, ?_⟩
    cases b with
    | true => exact hb.1 rfl R0 F1 H1 σ (S.mono x1) A1 Q' fun e R2 w F2 H2 p x2 A2 e2 => q' e R2 w F2 H2 p (x1.trans x2) A2 e2
    | false => exact q' _ R1 _ F1 H1 (hb.2 rfl) x1 A1 (.bl false)
theorem gp_orV (h : Evp K ta ρ R fun e R1 => TestP e R1 fun b R2 => (b = true → Q (.d (.bool true)) R2) ∧ (b = false → Evp K tb ρ R2 Q)) : Evp K (tOrV ta tb) ρ R Q := fun R0 F H σ S A Q' q' =>
  h R0 F H σ S A _ fun e R1 v F1 H1 h1 x1 A1 e1 => by
    obtain ⟨b, rfl, hb⟩ := h1.inv
    cases e1
    refine ⟨b, rfl, ?_⟩
    cases b with
    | false => exact hb.2 rfl R0 F1 H1 σ (S.mono x1) A1 Q' fun e R2 w F2 H2 p x2 A2 e2 => q' e R2 w F2 H2 p (x1.trans x2) A2 e2
    | true => exact q' _ R1 _ F1 H1 (hb.1 rfl) x1 A1 (.bl true)
theorem gp_notV (h : Evp K ta ρ R fun e R1 => TestP e R1 fun b R2 => Q (.d (.bool (!b))) R2) : Evp K (tNotV ta) ρ R Q := fun R0 F H σ S A Q' q' =>
  h R0 F H σ S A _ fun e R1 v F1 H1 h1 x1 A1 e1 => by
    obtain ⟨b, rfl, hb⟩ := h1.inv
    cases e1
    exact ⟨b, rfl, q' _ R1 _ F1 H1 hb x1 A1 (.bl _)⟩
theorem gp_if (h : Etp K t ρ R fun b R1 => (b = true → Evp K ta ρ R1 Q) ∧ (b = false → Evp K tb ρ R1 Q)) : Evp K (tIf t ta tb) ρ R Q := fun R0 F H σ S A Q' q' =>
  h R0 F H σ S A _ fun b R1 F1 H1 h1 x1 A1 => by
    cases b with
    | true => exact h1.1 rfl R0 F1 H1 σ (S.mono x1) A1 Q' fun e R2 w F2 H2 p x2 A2 e2 => q' e R2 w F2 H2 p (x1.trans x2) A2 e2
    | false => exact h1.2 rfl R0 F1 H1 σ (S.mono x1) A1 Q' fun e R2 w F2 H2 p x2 A2 e2 => q' e R2 w F2 H2 p (x1.trans x2) A2 e2
/-- None or not -/
def IsNP (n : Bool) : En → List Ow → (En → List Ow → Prop) → Prop
  | .d x, R, Q => Q (.d (.bool (if n then isNoneD x else !isNoneD x))) R
  | .o _, R, Q => Q (.d (.bool (!n))) R
  | _, _, _ => False
theorem gp_isN (h : Evp K ta ρ R fun e R1 => IsNP true e R1 Q) : Evp K (tIsN ta) ρ R Q := fun R0 F H σ S A Q' q' =>
  h R0 F H σ S A _ fun e R1 v F1 H1 h1 x1 A1 e1 => by
    cases e with
    | d x =>
      have : decide (v = .non) = isNoneD x := by cases e1 <;> rfl
      rw [this]
      exact q' _ R1 _ F1 H1 h1 x1 A1 (.bl _)
    | o a => cases e1; exact q' _ R1 _ F1 H1 h1 x1 A1 (.bl _)
    | _ => exact h1.elim
theorem gp_notN (h : Evp K ta ρ R fun e R1 => IsNP false e R1 Q) : Evp K (tNotN ta) ρ R Q := fun R0 F H σ S A Q' q' =>
  h R0 F H σ S A _ fun e R1 v F1 H1 h1 x1 A1 e1 => by
    cases e with
    | d x =>
      have : decide (v = .non) = isNoneD x := by cases e1 <;> rfl
      rw [this]
      exact q' _ R1 _ F1 H1 h1 x1 A1 (.bl _)
    | o a => cases e1; exact q' _ R1 _ F1 H1 h1 x1 A1 (.bl _)
    | _ => exact h1.elim
/-- by truth -/
def TruP : En → List Ow → (Bool → List Ow → Prop) → Prop
  | .d x, R, Q => (∀ s, x = .str s → s.length ≤ sizeLine) ∧ Q (truD x) R
  | _, _, _ => False
theorem trup_i {i : Int} (q : Qb (i != 0) R) : TruP (.d (.int i)) R Qb := ⟨fun s h => PyData.noConfusion h, q⟩
theorem trup_b {b : Bool} (q : Qb b R) : TruP (.d (.bool b)) R Qb := ⟨fun s h => PyData.noConfusion h, q⟩
theorem trup_l {l : List PyData} (q : Qb (!l.isEmpty) R) : TruP (.d (.list l)) R Qb := ⟨fun s h => PyData.noConfusion h, q⟩
theorem trup_t {l : List PyData} (q : Qb (!l.isEmpty) R) : TruP (.d (.tuple l)) R Qb := ⟨fun s h => PyData.noConfusion h, q⟩
theorem tp_tru (h : Evp K ta ρ R fun e R1 => TruP e R1 Qb) : Etp K (fun σ H Q => ta σ H fun x H' => ∃ k, TruV K x H' k ∧ Q k H') ρ R Qb := fun R0 F H σ S A Q' q' =>
  h R0 F H σ S A _ fun e R1 v F1 H1 h1 x1 A1 e1 => by
    cases e with
    | d x =>
      have hv := et_tru (K := K) (R := R1) (R1 := R1) (ρ := [.d x]) (ta := tVar 0) (d := x) (ev_d rfl) h1.1 R0 F1 H1 [some v] (.cons ⟨v, rfl, e1⟩ .nil) A1 Q' fun F2 H2 x2 A2 => q' _ R1 F2 H2 h1.2 (x1.trans x2) A2
      obtain ⟨w, hw, hk⟩ := hv
      cases hw
      exact hk
    | _ => exact h1.elim
/-! parts of slices -/
theorem op_no {Qo : Option Int → List Ow → Prop} (q : Qo none R) : Eop K tNoPart ρ R Qo := fun R0 F H σ S A Q' q' => q' none R F H q (Ex.refl F) A
def IntP : En → List Ow → (Int → List Ow → Prop) → Prop
  | .d (.int i), R, Q => Q i R
  | _, _, _ => False
theorem intp {Qi : Int → List Ow → Prop} {i : Int} (q : Qi i R) : IntP (.d (.int i)) R Qi := q
theorem IntP.inv {Qi : Int → List Ow → Prop} (h : IntP e R Qi) : ∃ i, e = .d (.int i) ∧ Qi i R := by
  unfold IntP at h
  split at h
  · exact ⟨_, rfl, h⟩
  · exact h.elim
theorem op_some {Qo : Option Int → List Ow → Prop} (h : Evp K te ρ R fun e R1 => IntP e R1 fun i R2 => Qo (some i) R2) : Eop K (tPart te) ρ R Qo := fun R0 F H σ S A Q' q' =>
  h R0 F H σ S A _ fun e R1 v F1 H1 h1 x1 A1 e1 => by
    obtain ⟨i, rfl, hi⟩ := h1.inv
    cases e1
    exact ⟨i, rfl, q' _ R1 F1 H1 hi x1 A1⟩
/-! statements -/
theorem sp_set {i : Nat} (h : Evp K te ρ R fun e R1 => P.nx (ρ.set i e) R1) : Es K (tAsg te (gName i)) ρ R P := es_asgN h fun e R' hp => ⟨_, eg_name, hp⟩
theorem sp_asg {g : TG} (h : Evp K te ρ R fun e R1 => ∃ ρ', Eg K g e ρ ρ' ∧ P.nx ρ' R1) : Es K (tAsg te g) ρ R P := es_asgN h fun e R' hp => hp
theorem sp_ret (h : Evp K te ρ R fun e R1 => P.rt e R1) : Es K (tRet te) ρ R P := es_retN' h fun e R' hp => hp
theorem sp_drop (h : Evp K te ρ R fun _ R1 => P.nx ρ R1) : Es K (tDrop te) ρ R P := fun R0 F H σ D S A p =>
  h R0 F H σ S A _ fun e R' v F1 H1 hp x1 A1 e1 => p.nx ρ R' σ F1 H1 hp x1 (S.mono x1) A1
theorem sp_if (h : Etp K t ρ R fun b R1 => (b = true → Es K b1 ρ R1 P) ∧ (b = false → Es K b2 ρ R1 P)) : Es K (tIfS t b1 b2) ρ R P := fun R0 F H σ D S A p =>
  h R0 F H σ S A _ fun b R1 F1 H1 h1 x1 A1 => by
    cases b with
    | true => exact h1.1 rfl R0 F1 H1 σ D (S.mono x1) A1 (p.mono x1)
    | false => exact h1.2 rfl R0 F1 H1 σ D (S.mono x1) A1 (p.mono x1)
theorem sp_brk (h : P.bk ρ R) : Es K tBreak ρ R P := fun R0 F H σ D S A p => p.bk ρ R σ F H h (Ex.refl F) S A
theorem sp_cnt (h : P.ct ρ R) : Es K tCont ρ R P := fun R0 F H σ D S A p => p.ct ρ R σ F H h (Ex.refl F) S A
def Two : List En → List Ow → (En → En → List Ow → Prop) → Prop
  | [a, b], R, Q => Q a b R
  | _, _, _ => False
def Three : List En → List Ow → (En → En → En → List Ow → Prop) → Prop
  | [a, b, c], R, Q => Q a b c R
  | _, _, _ => False
theorem two {Q2 : En → En → List Ow → Prop} (q : Q2 x y R) : Two [x, y] R Q2 := q
theorem three {Q3 : En → En → En → List Ow → Prop} (q : Q3 x y z R) : Three [x, y, z] R Q3 := q
theorem sp_par {i j : Nat} (h : Eap K ts ρ R fun es R1 => Two es R1 fun a b R2 => P.nx ((ρ.set i a).set j b) R2) : Es K (tPar i j ts) ρ R P := fun R0 F H σ D S A p =>
  h R0 F H σ S A _ fun es R1 vs F1 H1 h1 x1 A1 ee => by
    cases ee with
    | nil => exact h1.elim
    | cons a b =>
      cases b with
      | nil => exact h1.elim
      | cons b c =>
        cases c with
        | nil => exact ⟨_, _, rfl, p.nx _ R1 _ F1 H1 h1 x1 (((S.mono x1).set i (.of a)).set j (.of b)) A1⟩
        | cons _ _ => exact h1.elim
theorem sp_par3 {i j l : Nat} (h : Eap K ts ρ R fun es R1 => Three es R1 fun a b c R2 => P.nx (((ρ.set i a).set j b).set l c) R2) : Es K (tPar3 i j l ts) ρ R P := fun R0 F H σ D S A p =>
  h R0 F H σ S A _ fun es R1 vs F1 H1 h1 x1 A1 ee => by
    cases ee with
    | nil => exact h1.elim
    | cons a b =>
      cases b with
      | nil => exact h1.elim
      | cons b c =>
        cases c with
        | nil => exact h1.elim
        | cons c d =>
          cases d with
          | nil => exact ⟨_, _, _, rfl, p.nx _ R1 _ F1 H1 h1 x1 ((((S.mono x1).set i (.of a)).set j (.of b)).set l (.of c)) A1⟩
          | cons _ _ => exact h1.elim
end
end Fx

namespace Fx
open PySem PySem.Spec PyProof.Rows L2 StX RZ
/-! ### the source of all draws, beside what else is owned -/
structure DS where
  cs : List Int
  m : Int
  ok : 0 ≤ m ∧ m < 2147483647 ∧ cs.length ≤ 1000
abbrev dlR (aD aC : Addr) (s : DS) : List Ow := [.rw aD (.lst [.ref aC, .int s.m]), .ls aC (s.cs.map .int)]
def DX (aD aC : Addr) (s : DS) (X : List Ow) : List Ow := dlR aD aC s ++ X
/-- an owned list stands among what is owned: with another one in its place, and without it -/
inductive Hold (a : Addr) : List Ow → List PyData → (List PyData → List Ow) → List Ow → Prop
  | here {ds : List PyData} {R : List Ow} : Hold a (.ls a ds :: R) ds (fun d => .ls a d :: R) R
  | skip {x : Ow} {R rest : List Ow} {ds : List PyData} {up : List PyData → List Ow} : Hold a R ds up rest → Hold a (x :: R) ds (fun d => x :: up d) (x :: rest)
  | deal {aD aC : Addr} {s : DS} {X rest : List Ow} {ds : List PyData} {up : List PyData → List Ow} : Hold a X ds up rest → Hold a (DX aD aC s X) ds (fun d => DX aD aC s (up d)) (DX aD aC s rest)
theorem Hold.split {a : Addr} {R rest : List Ow} {ds : List PyData} {up : List PyData → List Ow} (h : Hold a R ds up rest) : ∃ Ra Rb, R = Ra ++ .ls a ds :: Rb ∧ (∀ d, up d = Ra ++ .ls a d :: Rb) ∧ rest = Ra ++ Rb := by
  induction h with
  | here => exact ⟨[], _, rfl, fun _ => rfl, rfl⟩
  | @skip x _ _ _ _ _ ih =>
    obtain ⟨Ra, Rb, h1, h2, h3⟩ := ih
    exact ⟨x :: Ra, Rb, by rw [h1]; rfl, fun d => by show x :: _ = _; rw [h2]; rfl, by rw [h3]; rfl⟩
  | @deal aD aC s _ _ _ _ _ ih =>
    obtain ⟨Ra, Rb, h1, h2, h3⟩ := ih
    exact ⟨dlR aD aC s ++ Ra, Rb, by rw [h1]; unfold DX; rw [List.append_assoc], fun d => by show DX aD aC s _ = _; rw [h2]; unfold DX; rw [List.append_assoc], by rw [h3]; unfold DX; rw [List.append_assoc]⟩
/-- a new thing that is owned stands ahead -/
inductive New (o : Ow) : List Ow → List Ow → Prop
  | deal {aD aC : Addr} {s : DS} {X : List Ow} : New o (DX aD aC s X) (DX aD aC s (o :: X))
  | here {R : List Ow} : New o R (o :: R)
theorem New.perm {o : Ow} {R R' : List Ow} (h : New o R R') : R'.Perm (o :: R) := by
  cases h with
  | deal => exact List.perm_middle
  | here => exact List.Perm.refl _
/-- what is known less of the slots -/
inductive Weak : List En → List En → Prop
  | nil : Weak [] []
  | keep {e : En} {ρ ρ' : List En} : Weak ρ ρ' → Weak (e :: ρ) (e :: ρ')
  | drop {e : En} {ρ ρ' : List En} : Weak ρ ρ' → Weak (e :: ρ) (.u :: ρ')
theorem Weak.rfl : ∀ {ρ : List En}, Weak ρ ρ
  | [] => .nil
  | _ :: _ => .keep Weak.rfl
theorem Weak.sls {K : PySem.W.Frag} {F : Hp} : ∀ {ρ ρ' : List En} {σ : L2.St}, Weak ρ ρ' → Sls K F σ ρ → Sls K F σ ρ'
  | _, _, _, .nil, h => h
  | _, _, _, .keep w, .cons a b => .cons a (w.sls b)
  | _, _, _, .drop w, .cons a b => .cons trivial (w.sls b)
section
variable {K : PySem.W.Frag} {ρ ρ' : List En} {R R1 Rz R3 : List Ow} {e x y z : En} {ta tb tc te to : TE} {t u tt : TT} {r : L2.R2} {Q : En → List Ow → Prop} {ts : TA} {P : Post} {b1 b2 : TS} {g : TG} {wi : TI}
theorem At.eqv {F H : Hp} {R R' R0 : List Ow} (A : At K F (R ++ R0) H) (h : R.Perm R') : At K F (R' ++ R0) H := A.perm (h.append_right R0)
theorem At.less {F H : Hp} {R R' R0 : List Ow} (A : At K F (R ++ R0) H) (h : List.Sublist R' R) : At K F (R' ++ R0) H := A.sub (List.Sublist.append h (List.Sublist.refl R0))
theorem sp_weak {ts : TS} (w : Weak ρ ρ') (h : Es K ts ρ' R P) : Es K ts ρ R P := fun R0 F H σ D S A p => h R0 F H σ D (w.sls S) A p
theorem sp_frz {ts : TS} {i : Nat} {a : Addr} {ds : List PyData} {up : List PyData → List Ow} {rest : List Ow} (hi : ρ[i]? = some (.o a)) (hd : Hold a R ds up rest) (h : Es K ts (ρ.set i (.d (.list ds))) rest P) : Es K ts ρ R P := fun R0 F H σ D S A p => by
  obtain ⟨Ra, Rb, h1, _, h3⟩ := hd.split
  subst h1 h3
  have A1 : At K F (.ls a ds :: (Ra ++ Rb ++ R0)) H := A.perm (by
    rw [List.append_assoc, List.cons_append, List.append_assoc]
    exact List.perm_middle)
  obtain ⟨F1, x, A2, d⟩ := A1.freeze
  obtain ⟨s, hs, hv⟩ := S.get hi
  cases hv
  have S1 := (S.mono x).set i (s := some (.ref a)) (e := .d (.list ds)) ⟨_, rfl, d⟩
  have e : σ.set i (some (.ref a)) = σ := by
    apply List.ext_getElem?
    intro j
    by_cases hj : i = j
    · subst hj
      by_cases hl : i < σ.length
      · rw [List.getElem?_set_self hl, hs]
      · rw [List.getElem?_eq_none (by omega)] at hs; cases hs
    · rw [List.getElem?_set_ne hj]
  rw [e] at S1
  exact h R0 F1 H σ D S1 A2 (p.mono x)
/-- x = [..], the list still owned -/
theorem sp_own {i : Nat} (h : Eap K ts ρ R fun es R1 => ∃ ds, allD es = some ds ∧ ds.length ≤ sizeLine ∧ ∀ p, ∃ R2, New (.ls p ds) R1 R2 ∧ P.nx (ρ.set i (.o p)) R2) : Es K (tAsg (tLst ts) (gName i)) ρ R P := fun R0 F H σ D S A p =>
  h R0 F H σ S A _ fun es R1 vs F1 H1 ⟨ds, h1, h2, h3⟩ x1 A1 e1 => by
    have e := allD_eq h1
    subst e
    refine ⟨by rw [e1.dts.len]; exact h2, fun a ha => ?_⟩
    obtain ⟨R2, n, q⟩ := h3 a
    exact p.nx _ R2 _ F1 _ q x1 ((S.mono x1).set i (e := .o a) rfl) ((A1.own1 ha e1.dts).perm (n.perm.append_right R0).symm)
/-! walks -/
def IterL : En → List Ow → (List PyData → List Ow → Prop) → Prop
  | .d (.list xs), R, Q => Q xs R
  | _, _, _ => False
def IterT : En → List Ow → (List PyData → List Ow → Prop) → Prop
  | .d (.tuple xs), R, Q => Q xs R
  | _, _, _ => False
variable {Qi : List PyData → List Ow → Prop}
theorem iterl {xs : List PyData} (q : Qi xs R) : IterL (.d (.list xs)) R Qi := q
theorem itert {xs : List PyData} (q : Qi xs R) : IterT (.d (.tuple xs)) R Qi := q
theorem IterL.inv (h : IterL e R Qi) : ∃ xs, e = .d (.list xs) ∧ Qi xs R := by
  unfold IterL at h
  split at h
  · exact ⟨_, rfl, h⟩
  · exact h.elim
theorem IterT.inv (h : IterT e R Qi) : ∃ xs, e = .d (.tuple xs) ∧ Qi xs R := by
  unfold IterT at h
  split at h
  · exact ⟨_, rfl, h⟩
  · exact h.elim
theorem ip_l (h : Evp K te ρ R fun e R1 => IterL e R1 Qi) : Eip K (iAny K te) ρ R Qi := fun R0 F H σ S A Q' q' =>
  .inl (h R0 F H σ S A _ fun e R1 v F1 H1 h1 x1 A1 e1 => by
    obtain ⟨xs, rfl, hq⟩ := h1.inv
    cases e1 with
    | lst h3 h4 => exact ⟨_, rfl, ⟨_, A1.sqL h3⟩, q' xs R1 _ F1 H1 hq x1 A1 (wk_list h3 h4)⟩)
theorem ip_t (h : Evp K te ρ R fun e R1 => IterT e R1 Qi) : Eip K (iAny K te) ρ R Qi := fun R0 F H σ S A Q' q' =>
  .inr (h R0 F H σ S A _ fun e R1 v F1 H1 h1 x1 A1 e1 => by
    obtain ⟨xs, rfl, hq⟩ := h1.inv
    cases e1 with
    | tup h3 h4 => exact ⟨_, rfl, ⟨_, A1.sqT h3⟩, q' xs R1 _ F1 H1 hq x1 A1 (wk_tup h3 h4)⟩)
theorem ip_of {xs : List PyData} (h : Ei K wi ρ R xs R1) (q : Qi xs R1) : Eip K wi ρ R Qi := fun R0 F H σ S A Q' q' => h R0 F H σ S A Q' fun J F1 H1 x1 A1 w => q' xs R1 J F1 H1 q x1 A1 w
/-- by arguments -/
def Rng1P (es : List En) (R : List Ow) (Q : List PyData → List Ow → Prop) : Prop := ∃ j : Int, es = [.d (.int j)] ∧ -(2 ^ 62) ≤ j ∧ j < 2 ^ 62 ∧ Q (rngD 0 j.toNat) R
def Rng2P (es : List En) (R : List Ow) (Q : List PyData → List Ow → Prop) : Prop := ∃ i j : Int, es = [.d (.int i), .d (.int j)] ∧ (-(2 ^ 62) ≤ i ∧ i < 2 ^ 62 ∧ -(2 ^ 62) ≤ j ∧ j < 2 ^ 62) ∧ Q (rngD i (j - i).toNat) R
theorem rngs1 {n : Nat} {j : Int} (e : j = (n : Int)) (hn : n < 2 ^ 62) (q : Qi ((List.range n).map fun (i : Nat) => .int (i : Int)) R) : Rng1P [.d (.int j)] R Qi := by
  subst e
  refine ⟨_, rfl, by omega, by omega, ?_⟩
  rw [show ((n : Nat) : Int).toNat = n by omega, rngD_nat]
  exact q
theorem rngs2 {a n : Nat} {i j : Int} (e : i = (a : Int)) (e2 : j = ((a + n : Nat) : Int)) (hn : a + n < 2 ^ 62) (q : Qi ((List.range n).map fun (k : Nat) => .int ((a + k : Nat) : Int)) R) : Rng2P [.d (.int i), .d (.int j)] R Qi := by
  subst e e2
  refine ⟨_, _, rfl, by omega, ?_⟩
  rw [show (((a + n : Nat) : Int) - (a : Int)).toNat = n by omega]
  have : rngD (a : Int) n = (List.range n).map fun (k : Nat) => .int ((a + k : Nat) : Int) := by
    unfold rngD
    refine List.map_congr_left fun k _ => ?_
    congr 1
  rw [this]
  exact q
theorem ip_rng1 (h : Eap K ts ρ R fun es R1 => Rng1P es R1 Qi) : Eip K (iRng1 ts) ρ R Qi := fun R0 F H σ S A Q' q' =>
  h R0 F H σ S A _ fun es R1 vs F1 H1 ⟨j, he, h1, h2, hq⟩ x1 A1 e1 => by
    subst he
    obtain ⟨v, rfl, hv⟩ := ens1 e1
    cases hv
    exact ⟨j, rfl, h1, h2, q' _ R1 _ F1 H1 hq x1 A1 wk_rng⟩
theorem ip_rng2 (h : Eap K ts ρ R fun es R1 => Rng2P es R1 Qi) : Eip K (iRng2 ts) ρ R Qi := fun R0 F H σ S A Q' q' =>
  h R0 F H σ S A _ fun es R1 vs F1 H1 ⟨i, j, he, h1, hq⟩ x1 A1 e1 => by
    subst he
    obtain ⟨v, w, rfl, hv, hw⟩ := ens2 e1
    cases hv; cases hw
    exact ⟨i, j, rfl, h1, q' _ R1 _ F1 H1 hq x1 A1 wk_rng⟩
/-- for, from what is walked on -/
def ForP (K : PySem.W.Frag) (g : TG) (b : TS) (xs : List PyData) (ρ : List En) (R : List Ow) (P : Post) : Prop :=
  ∃ I : Nat → List En → List Ow → Prop, I 0 ρ R ∧ (∀ i d ρ R, xs[i]? = some d → I i ρ R → ∃ ρ', Eg K g (.d d) ρ ρ' ∧ Es K b ρ' R { P with nx := I (i + 1), ct := I (i + 1), bk := P.nx }) ∧ ∀ ρ R, I xs.length ρ R → P.nx ρ R
theorem sp_for (h : Eip K wi ρ R fun xs R1 => ForP K g b1 xs ρ R1 P) : Es K (tFor wi g b1) ρ R P := fun R0 F H σ D S A p => by
  refine h R0 F H σ S A _ fun xs R1 J F1 H1 ⟨I, h0, hs, hd⟩ x1 A1 W => ?_
  obtain ⟨G, Y, w, hG, hY⟩ := W
  refine L2.for_it w (fun i σ' H' => ∃ ρ' R' F', I i ρ' R' ∧ Ex F1 F' ∧ Sls K F' σ' ρ' ∧ At K F' (R' ++ R0) H') ⟨ρ, R1, F1, h0, Ex.refl F1, S.mono x1, A1⟩ ?_ ?_ ?_
  · rintro i σ' H' hi ⟨ρ', R', F', hI, x, S', A'⟩
    exact hG F' _ H' x A'
  · rintro i v σ' H' H'' hi ⟨ρ', R', F', hI, x, S', A'⟩ y
    obtain ⟨d, hd'⟩ : ∃ d, xs[i]? = some d := ⟨xs[i], List.getElem?_eq_getElem hi⟩
    obtain ⟨F2, x2, A2, d2⟩ := hY i v d F' _ H' H'' x A' y hd'
    obtain ⟨ρ2, hg, hb⟩ := hs i d ρ' R' hd' hI
    refine hg _ F2 H'' σ' v (S'.mono x2) A2 d2 _ fun σ2 S2 => ?_
    refine hb R0 F2 H'' σ2 _ S2 A2 ⟨?_, fun e R v F3 H3 a b c d => p.rt e R v F3 H3 a (((x1.trans x).trans x2).trans b) c d, fun ρ R σ F3 H3 a b c d => p.nx ρ R σ F3 H3 a (((x1.trans x).trans x2).trans b) c d, ?_⟩
    · intro ρ3 R3 σ3 F3 H3 a b c d
      exact ⟨ρ3, R3, F3, a, (x.trans x2).trans b, c, d⟩
    · intro ρ3 R3 σ3 F3 H3 a b c d
      exact ⟨ρ3, R3, F3, a, (x.trans x2).trans b, c, d⟩
  · rintro σ' H' ⟨ρ', R', F', hI, x, S', A'⟩
    exact p.nx ρ' R' σ' F' H' (hd ρ' R' hI) (x1.trans x) S' A'
/-- weakening behind a block -/
theorem es_weakN {ts : TS} {N : List En → List Ow → Prop} (h : Es K ts ρ R { P with nx := fun ρ R => ∃ ρ', Weak ρ ρ' ∧ N ρ' R }) : Es K ts ρ R { P with nx := N } := fun R0 F H σ D S A p =>
  h R0 F H σ D S A ⟨fun ρ R σ F1 H1 ⟨ρ', w, hn⟩ a b c => p.nx ρ' R σ F1 H1 hn a (w.sls b) c, p.rt, p.bk, p.ct⟩
theorem es_weakC {ts : TS} {N C : List En → List Ow → Prop} (h : Es K ts ρ R { P with nx := fun ρ R => ∃ ρ', Weak ρ ρ' ∧ N ρ' R, ct := fun ρ R => ∃ ρ', Weak ρ ρ' ∧ C ρ' R, bk := fun ρ R => ∃ ρ', Weak ρ ρ' ∧ P.bk ρ' R }) : Es K ts ρ R { P with nx := N, ct := C } := fun R0 F H σ D S A p =>
  h R0 F H σ D S A ⟨fun ρ R σ F1 H1 ⟨ρ', w, hn⟩ a b c => p.nx ρ' R σ F1 H1 hn a (w.sls b) c, p.rt, fun ρ R σ F1 H1 ⟨ρ', w, hn⟩ a b c => p.bk ρ' R σ F1 H1 hn a (w.sls b) c, fun ρ R σ F1 H1 ⟨ρ', w, hn⟩ a b c => p.ct ρ' R σ F1 H1 hn a (w.sls b) c⟩
/-- for, with a state of one's own: T, U tell the slots and what is owned -/
theorem forp {S : Type} {xs : List PyData} (T : S → List En) (U : S → List Ow) (Inv : Nat → S → Prop) (s0 : S) (h0 : Inv 0 s0) (hT : T s0 = ρ) (hU : U s0 = R)
    (hs : ∀ i d s, xs[i]? = some d → Inv i s → ∃ ρ', Eg K g (.d d) (T s) ρ' ∧ Es K b1 ρ' (U s) { P with nx := fun ρ R => ∃ s', Weak ρ (T s') ∧ R = U s' ∧ Inv (i + 1) s', ct := fun ρ R => ∃ s', Weak ρ (T s') ∧ R = U s' ∧ Inv (i + 1) s', bk := P.nx })
    (hd : ∀ s, Inv xs.length s → P.nx (T s) (U s)) : ForP K g b1 xs ρ R P := by
  refine ⟨fun i ρ R => ∃ s, T s = ρ ∧ R = U s ∧ Inv i s, ⟨s0, hT, hU.symm, h0⟩, ?_, ?_⟩
  · rintro i d _ _ hx ⟨s, rfl, rfl, hi⟩
    obtain ⟨ρ', h1, h2⟩ := hs i d s hx hi
    refine ⟨ρ', h1, fun R0 F H σ D S A p => h2 R0 F H σ D S A ⟨?_, p.rt, p.bk, ?_⟩⟩
    · rintro ρ R σ F1 H1 ⟨s', w, rfl, hi'⟩ a b c
      exact p.nx _ _ σ F1 H1 ⟨s', rfl, rfl, hi'⟩ a (w.sls b) c
    · rintro ρ R σ F1 H1 ⟨s', w, rfl, hi'⟩ a b c
      exact p.ct _ _ σ F1 H1 ⟨s', rfl, rfl, hi'⟩ a (w.sls b) c
  · rintro _ _ ⟨s, rfl, rfl, hi⟩
    exact hd s hi
/-- .. over typed things -/
theorem forT {S α : Type} {enc : α → PyData} {l : List α} (T : S → List En) (U : S → List Ow) (Inv : Nat → S → Prop) (s0 : S) (h0 : Inv 0 s0) (hT : T s0 = ρ) (hU : U s0 = R)
    (hs : ∀ i a s, l[i]? = some a → a ∈ l → i < l.length → Inv i s → ∃ ρ', Eg K g (.d (enc a)) (T s) ρ' ∧ Es K b1 ρ' (U s) { P with nx := fun ρ R => ∃ s', Weak ρ (T s') ∧ R = U s' ∧ Inv (i + 1) s', ct := fun ρ R => ∃ s', Weak ρ (T s') ∧ R = U s' ∧ Inv (i + 1) s', bk := P.nx })
    (hd : ∀ s, Inv l.length s → P.nx (T s) (U s)) : ForP K g b1 (l.map enc) ρ R P := by
  refine forp T U Inv s0 h0 hT hU ?_ ?_
  · intro i d s hx hi
    rw [List.getElem?_map] at hx
    cases e : l[i]? with
    | none => rw [e] at hx; cases hx
    | some a =>
      rw [e] at hx
      cases hx
      exact hs i a s e (List.mem_of_getElem? e) (List.getElem?_eq_some_iff.mp e).1 hi
  · rw [List.length_map]; exact hd
/-- [.. for .. in .. if ..], from what is walked on -/
def LcP (K : PySem.W.Frag) (g : TG) (tt : TT) (te : TE) (vs : List Nat) (ρ : List En) (xs : List PyData) (R : List Ow) (Q : List PyData → List Ow → Prop) : Prop :=
  ∃ I : Nat → List PyData → List Ow → Prop, I 0 [] R ∧ (∀ i d ys R, xs[i]? = some d → ys.length ≤ i → I i ys R → ∃ ρ', EgW K g vs (.d d) ρ ρ' ∧ Etp K tt ρ' R fun b R1 => (b = true → Evp K te ρ' R1 fun e R2 => ∃ y, e = .d y ∧ I (i + 1) (ys ++ [y]) R2) ∧ (b = false → I (i + 1) ys R1)) ∧ ∀ ys R, I xs.length ys R → Q ys R
theorem lc_core {vs : List Nat} {Ql : List PyData → List Ow → Prop} (h : Eip K wi ρ R fun xs R1 => xs.length ≤ sizeLine ∧ LcP K g tt te vs (wiped ρ vs) xs R1 Ql) :
    ∀ (R0 : List Ow) (F H : Hp) (σ : L2.St), Sls K F σ ρ → At K F (R ++ R0) H → ∀ Q : VK, (∀ p ys R1 F1 H1, Ql ys R1 → Ex F F1 → At K F1 (.ls p ys :: (R1 ++ R0)) H1 → Q (.ref p) H1) → tLc wi g tt te vs σ H Q := by
  intro R0 F H σ S A Q q
  refine h R0 F H σ S A _ fun xs R1 J F1 H1 ⟨hz, I, h0, hs, hd⟩ x1 A1 W D hD => ?_
  obtain ⟨G, Y, w, hG, hY⟩ := W
  refine L2.lc_it w (fun i H' => ∃ F' R' acc, Ex F1 F' ∧ At K F' (.ls D acc :: (R' ++ R0)) H' ∧ I i acc R' ∧ acc.length ≤ i) ?_ ?_ ?_ ?_
  · exact ⟨F1, R1, [], Ex.refl F1, A1.own1 hD .nil, h0, Nat.le_refl _⟩
  · rintro i H' hi ⟨F', R', acc, x, A', _⟩
    exact hG F' _ H' x A'
  · rintro i v H' H'' hi ⟨F', R', acc, x, A', hI, hac⟩ y
    obtain ⟨d, hdx⟩ : ∃ d, xs[i]? = some d := ⟨xs[i], List.getElem?_eq_getElem hi⟩
    obtain ⟨F2, x2, A2, d2⟩ := hY i v d F' _ H' H'' x A' y hdx
    have S2 : Sls K F2 (wipe σ vs) (wiped ρ vs) := ((S.mono (x1.trans (x.trans x2))).wipe vs)
    obtain ⟨ρ', hg, ht⟩ := hs i d acc R' hdx hac hI
    refine hg _ F2 H'' _ v S2 A2 d2 _ fun σ2 S3 hwp => ⟨by rw [hwp, wipe_idem], ?_⟩
    have A3 : At K F2 (R' ++ (.ls D acc :: R0)) H'' := A2.perm List.perm_middle.symm
    refine ht (.ls D acc :: R0) F2 H'' σ2 S3 A3 _ fun b R3 F3 H3 hb x3 A3' => ?_
    cases b with
    | true =>
      refine iteT ?_
      refine hb.1 rfl (.ls D acc :: R0) F3 H3 σ2 (S3.mono x3) A3' _ fun e R4 yv F4 H4 ⟨y, he, hI'⟩ x4 A4 e4 => ?_
      subst he
      obtain ⟨_, avs, ha1, ha2⟩ := A4.own (.ls D acc) (by simp)
      refine ⟨avs, ha1, ?_, ?_⟩
      · rw [ha2.len]; omega
      · refine ⟨F4, R4, acc ++ [y], (x.trans x2).trans (x3.trans x4), ?_, hI', by rw [List.length_append]; simp; omega⟩
        exact (At.updL A4 (ha2.append (.cons e4 .nil))).perm List.perm_middle
    | false =>
      refine iteF ?_
      exact ⟨F3, R3, acc, (x.trans x2).trans x3, A3'.perm List.perm_middle, hb.2 rfl, by omega⟩
  · rintro H' ⟨F', R', acc, x, A', hI, hac⟩
    exact q D acc R' F' H' (hd acc R' hI) (x1.trans x) A'
theorem gp_lc {vs : List Nat} (h : Eip K wi ρ R fun xs R1 => xs.length ≤ sizeLine ∧ LcP K g tt te vs (wiped ρ vs) xs R1 fun ys R2 => Q (.d (.list ys)) R2) : Evp K (tLc wi g tt te vs) ρ R Q := fun R0 F H σ S A Q' q' =>
  lc_core h R0 F H σ S A Q' fun p ys R1 F1 H1 hq x1 A1 => by
    obtain ⟨F2, x2, A2, d⟩ := A1.freeze
    exact q' _ R1 _ F2 H1 hq (x1.trans x2) A2 d
theorem sp_lcO {vs : List Nat} {i : Nat} (h : Eip K wi ρ R fun xs R1 => xs.length ≤ sizeLine ∧ LcP K g tt te vs (wiped ρ vs) xs R1 fun ys R2 => ∀ p, ∃ R3, New (.ls p ys) R2 R3 ∧ P.nx (ρ.set i (.o p)) R3) : Es K (tAsg (tLc wi g tt te vs) (gName i)) ρ R P := fun R0 F H σ D S A p =>
  lc_core h R0 F H σ S A _ fun a ys R1 F1 H1 hq x1 A1 => by
    obtain ⟨R3, n, hn⟩ := hq a
    exact p.nx _ _ _ F1 H1 hn x1 ((S.mono x1).set i (e := .o a) rfl) (A1.perm (n.perm.append_right R0).symm)
/-- .. of typed things, nothing changes -/
theorem lcp_map {α : Type} {vs : List Nat} {enc : α → PyData} {f : α → PyData} {l : List α} {Ql : List PyData → List Ow → Prop} (h : ∀ a ∈ l, ∃ ρ', EgW K g vs (.d (enc a)) ρ ρ' ∧ Evp K te ρ' R fun e R1 => e = .d (f a) ∧ R1 = R) (q : Ql (l.map f) R) : LcP K g tYes te vs ρ (l.map enc) R Ql := by
  refine ⟨fun i ys R' => R' = R ∧ ys = (l.take i).map f, ⟨rfl, rfl⟩, ?_, ?_⟩
  · rintro i d _ R' hx _ ⟨rfl, rfl⟩
    rw [List.getElem?_map] at hx
    cases e : l[i]? with
    | none => rw [e] at hx; cases hx
    | some a =>
      rw [e] at hx
      cases hx
      obtain ⟨ρ', h1, h2⟩ := h a (List.mem_of_getElem? e)
      refine ⟨ρ', h1, tp_yes ⟨fun _ => evp_mono h2 ?_, fun h => nomatch h⟩⟩
      rintro _ _ ⟨rfl, rfl⟩
      exact ⟨_, rfl, rfl, by rw [List.take_succ, e, Option.toList_some, List.map_append]; rfl⟩
  · rintro _ _ ⟨rfl, rfl⟩
    rw [List.length_map, List.take_length]
    exact q
theorem lcp_filter {α : Type} {vs : List Nat} {enc : α → PyData} {p : α → Bool} {f : α → PyData} {l : List α} {Ql : List PyData → List Ow → Prop} (h : ∀ a ∈ l, ∃ ρ', EgW K g vs (.d (enc a)) ρ ρ' ∧ Etp K tt ρ' R fun b R1 => b = p a ∧ R1 = R ∧ (p a = true → Evp K te ρ' R fun e R1 => e = .d (f a) ∧ R1 = R)) (q : Ql ((l.filter p).map f) R) : LcP K g tt te vs ρ (l.map enc) R Ql := by
  refine ⟨fun i ys R' => R' = R ∧ ys = ((l.take i).filter p).map f, ⟨rfl, rfl⟩, ?_, ?_⟩
  · rintro i d _ R' hx _ ⟨rfl, rfl⟩
    rw [List.getElem?_map] at hx
    cases e : l[i]? with
    | none => rw [e] at hx; cases hx
    | some a =>
      rw [e] at hx
      cases hx
      obtain ⟨ρ', h1, h2⟩ := h a (List.mem_of_getElem? e)
      refine ⟨ρ', h1, fun R0 F H σ S A Q' q' => h2 R0 F H σ S A Q' fun b R1 F1 H1 hb x1 A1 => q' b R1 F1 H1 ?_ x1 A1⟩
      obtain ⟨hb1, rfl, hb2⟩ := hb
      refine ⟨fun hb => evp_mono (hb2 (hb1 ▸ hb)) ?_, fun hb => ⟨rfl, ?_⟩⟩
      · rintro _ _ ⟨rfl, rfl⟩
        exact ⟨_, rfl, rfl, by rw [List.take_succ, e, Option.toList_some, List.filter_append, List.filter_cons, if_pos (hb1 ▸ hb), List.filter_nil, List.map_append]; rfl⟩
      · rw [List.take_succ, e, Option.toList_some, List.filter_append, List.filter_cons, if_neg (by rw [← hb1, hb]; decide), List.filter_nil, List.append_nil]
  · rintro _ _ ⟨rfl, rfl⟩
    rw [List.length_map, List.take_length]
    exact q
end
end Fx

namespace Fx
open PySem PySem.Spec PyProof.Rows L2 StX RZ
/-! ### calls of defs: what is promised of their results -/
abbrev PT := List En → (En → Prop) → Prop
abbrev DT := List En → DS → (En → DS → Prop) → Prop
def preP (N : PT) : List En → List Ow → (En → List Ow → Prop) → Prop := fun es R Po => R = [] ∧ N es (fun e => Po e [])
def preD (N : DT) : List En → List Ow → (En → List Ow → Prop) → Prop := fun es R Po => ∃ aD aC s es', es = .o aD :: es' ∧ R = DX aD aC s [] ∧ N es' s (fun e s' => Po e (DX aD aC s' []))
abbrev spP (K : PySem.W.Frag) (N : PT) : Sp := spN K (preP N)
abbrev spD (K : PySem.W.Frag) (N : DT) : Sp := spN K (preD N)
def CallD (N : DT) (es : List En) (R : List Ow) (Q : En → List Ow → Prop) : Prop := ∃ aD aC s X es', es = .o aD :: es' ∧ R = DX aD aC s X ∧ N es' s (fun e s' => Q e (DX aD aC s' X))
section
variable {K : PySem.W.Frag} {ρ ρ' : List En} {R R1 Rz R3 : List Ow} {e x y z : En} {ta tb tc te to ti : TE} {t u tt : TT} {r : L2.R2} {Q : En → List Ow → Prop} {ts : TA} {P : Post} {b1 b2 : TS} {g : TG} {wi : TI}
theorem gp_callN {Pre : List En → List Ow → (En → List Ow → Prop) → Prop} (h : Eap K ts ρ R fun es R1 => ∃ Rc Rf, R1 = Rc ++ Rf ∧ Pre es Rc fun e R' => Q e (R' ++ Rf)) : Evp K (tCall (spN K Pre) [] E0 ts) ρ R Q := fun R0 F H σ S A Q' q' =>
  h R0 F H σ S A _ fun es R1 vs F1 H1 ⟨Rc, Rf, hR, hp⟩ x1 A1 e1 => by
    subst hR
    rw [List.append_nil]
    rw [List.append_assoc] at A1
    exact ⟨es, Rc, Rf ++ R0, F1, _, hp, e1, A1, fun e R' v F2 H2 hq x2 A2 e2 => q' e (R' ++ Rf) v F2 H2 hq (x1.trans x2) (by rw [List.append_assoc]; exact A2) e2⟩
theorem gp_callKN {Pre : List En → List Ow → (En → List Ow → Prop) → Prop} {gV : List V → List V → List V} (h : Eap K ts ρ R fun es R1 => ∃ es' Rc Rf, R1 = Rc ++ Rf ∧ (∀ F vs, Ens K F vs es → Ens K F (gV [] vs) es') ∧ Pre es' Rc fun e R' => Q e (R' ++ Rf)) : Evp K (tCallKO (spN K Pre) gV E0 ts) ρ R Q := fun R0 F H σ S A Q' q' =>
  h R0 F H σ S A _ fun es R1 vs F1 H1 ⟨es', Rc, Rf, hR, hg, hp⟩ x1 A1 e1 => by
    subst hR
    rw [List.append_assoc] at A1
    exact ⟨es', Rc, Rf ++ R0, F1, _, hp, hg F1 vs e1, A1, fun e R' v F2 H2 hq x2 A2 e2 => q' e (R' ++ Rf) v F2 H2 hq (x1.trans x2) (by rw [List.append_assoc]; exact A2) e2⟩
theorem gp_callP {N : PT} (h : Eap K ts ρ R fun es R1 => N es fun e => Q e R1) : Evp K (tCall (spP K N) [] E0 ts) ρ R Q := gp_callN fun R0 F H σ S A Q' q' => h R0 F H σ S A Q' fun es R1 vs F1 H1 hn => q' es R1 vs F1 H1 ⟨[], R1, rfl, rfl, hn⟩
theorem gp_callD {N : DT} (h : Eap K ts ρ R fun es R1 => CallD N es R1 Q) : Evp K (tCall (spD K N) [] E0 ts) ρ R Q := gp_callN fun R0 F H σ S A Q' q' => h R0 F H σ S A Q' fun es R1 vs F1 H1 ⟨aD, aC, s, X, es', he, hR, hn⟩ => q' es R1 vs F1 H1 ⟨DX aD aC s [], X, hR, aD, aC, s, es', he, rfl, hn⟩
theorem gp_callKP {N : PT} {gV : List V → List V → List V} (h : Eap K ts ρ R fun es R1 => ∃ es', (∀ F vs, Ens K F vs es → Ens K F (gV [] vs) es') ∧ N es' fun e => Q e R1) : Evp K (tCallKO (spP K N) gV E0 ts) ρ R Q := gp_callKN fun R0 F H σ S A Q' q' => h R0 F H σ S A Q' fun es R1 vs F1 H1 ⟨es', hg, hn⟩ => q' es R1 vs F1 H1 ⟨es', [], R1, rfl, hg, rfl, hn⟩
theorem calld {N : DT} {aD aC : Addr} {s : DS} {X : List Ow} {es : List En} (h : N es s fun e s' => Q e (DX aD aC s' X)) : CallD N (.o aD :: es) (DX aD aC s X) Q := ⟨aD, aC, s, X, es, rfl, rfl, h⟩
/-- what is left over is forgotten at the end -/
theorem es_end {ts : TS} {A : En → List Ow → Prop} (sub : ∀ e R, P.rt e R → ∃ R', List.Sublist R' R ∧ A e R') (subn : ∀ ρ R, P.nx ρ R → ∃ R', List.Sublist R' R ∧ A (.d .none) R') (h : Es K ts ρ R { nx := P.nx, rt := P.rt }) : Es K ts ρ R { nx := fun _ R1 => A (.d .none) R1, rt := A } := fun R0 F H σ D S A1 p =>
  h R0 F H σ D S A1 ⟨fun ρ R σ F1 H1 a b c d => by
    obtain ⟨R', hs, ha⟩ := subn ρ R a
    exact p.nx ρ R' σ F1 H1 ha b c (d.less hs), fun e R v F1 H1 a b c d => by
    obtain ⟨R', hs, ha⟩ := sub e R a
    exact p.rt e R' v F1 H1 ha b c (d.less hs), fun _ _ _ _ _ h => h.elim, fun _ _ _ _ _ h => h.elim⟩
theorem fn_P {P : Program} {w : World} {mg : Str → Option Value} {base : Heap} {xn qual : Str} {st : Stmt} {f : Addr} {fd : FuncData} {N ps : List Str} {k : Nat} {Pr : PT} (F : Fun K xn qual st f fd) (Sc : FnScope N ps (defScope st))
    (hlen : ∀ es Q, Pr es Q → es.length = ps.length)
    (hb : ∀ (cdv : Value) (A : Around) (outer : List Env) (s : Shared) (H : Hp) (E : XK) (es : List En) (Q : En → Prop), Room k (A.deeper (envOfC qual (defScope st) s.heap.objs.size f cdv)) → Pr es Q →
      ∃ t, PSs (cxOf CX0 P w K mg base N qual (defScope st) f cdv A outer s H E).nox (defBody st) t ∧ Es K t (es ++ List.replicate (N.length - ps.length) .u) [] { nx := fun _ _ => Q (.d .none), rt := fun e _ => Q e }) :
    FnOk P w K mg base CX0 (k + 1) f fd ps (spP K Pr) := by
  refine fn_esN F Sc (fun es R Po h => hlen _ _ h.2) fun cdv A outer s H E es R Po hr h => ?_
  obtain ⟨rfl, hn⟩ := h
  obtain ⟨t, ht, he⟩ := hb cdv A outer s H E es _ hr hn
  exact ⟨t, ht, es_end (P := { nx := fun _ _ => Po (.d .none) [], rt := fun e _ => Po e [] }) (fun e R h => ⟨[], List.nil_sublist _, h⟩) (fun ρ R h => ⟨[], List.nil_sublist _, h⟩) he⟩
theorem fn_D {P : Program} {w : World} {mg : Str → Option Value} {base : Heap} {xn qual : Str} {st : Stmt} {f : Addr} {fd : FuncData} {N ps : List Str} {k : Nat} {Pr : DT} (F : Fun K xn qual st f fd) (Sc : FnScope N ps (defScope st))
    (hlen : ∀ es s Q, Pr es s Q → es.length + 1 = ps.length)
    (hb : ∀ (cdv : Value) (A : Around) (outer : List Env) (s : Shared) (H : Hp) (E : XK) (es : List En) (aD aC : Addr) (d : DS) (Q : En → DS → Prop), Room k (A.deeper (envOfC qual (defScope st) s.heap.objs.size f cdv)) → Pr es d Q →
      ∃ t, PSs (cxOf CX0 P w K mg base N qual (defScope st) f cdv A outer s H E).nox (defBody st) t ∧ Es K t (.o aD :: es ++ List.replicate (N.length - ps.length) .u) (DX aD aC d []) { nx := fun _ R => ∃ d' X, R = DX aD aC d' X ∧ Q (.d .none) d', rt := fun e R => ∃ d' X, R = DX aD aC d' X ∧ Q e d' }) :
    FnOk P w K mg base CX0 (k + 1) f fd ps (spD K Pr) := by
  refine fn_esN F Sc (fun es R Po h => ?_) fun cdv A outer s H E es R Po hr h => ?_
  · obtain ⟨aD, aC, s, es', rfl, _, h⟩ := h
    exact hlen _ _ _ h
  · obtain ⟨aD, aC, d, es', rfl, rfl, hn⟩ := h
    obtain ⟨t, ht, he⟩ := hb cdv A outer s H E es' aD aC d _ hr hn
    refine ⟨t, ht, es_end (P := { nx := fun _ R => ∃ d' X, R = DX aD aC d' X ∧ Po (.d .none) (DX aD aC d' []), rt := fun e R => ∃ d' X, R = DX aD aC d' X ∧ Po e (DX aD aC d' []) }) ?_ ?_ he⟩
    · rintro e R ⟨d', X, rfl, h⟩
      exact ⟨_, List.Sublist.append (List.Sublist.refl _) (List.nil_sublist _), h⟩
    · rintro ρ R ⟨d', X, rfl, h⟩
      exact ⟨_, List.Sublist.append (List.Sublist.refl _) (List.nil_sublist _), h⟩
/-! ### owned lists -/
def OwnP (e : En) (R : List Ow) (Q : Addr → List PyData → (List PyData → List Ow) → Prop) : Prop := ∃ a ds up rest, e = .o a ∧ Hold a R ds up rest ∧ Q a ds up
theorem ownp {a : Addr} {ds : List PyData} {up : List PyData → List Ow} {rest : List Ow} {Qo : Addr → List PyData → (List PyData → List Ow) → Prop} (h : Hold a R ds up rest) (q : Qo a ds up) : OwnP (.o a) R Qo := ⟨a, ds, up, rest, rfl, h, q⟩
theorem gp_append (ho : Evp K to ρ R fun e R1 => OwnP e R1 fun a ds0 up0 => Eap K ts ρ R1 fun es R2 => ∃ d ds up rest, es = [.d d] ∧ Hold a R2 ds up rest ∧ ds.length < sizeLine ∧ Q (.d .none) (up (ds ++ [d]))) : Evp K (tBM K "list" rAppend to ts) ρ R Q := fun R0 F H σ S A Q' q' =>
  ho R0 F H σ S A _ fun e R1 v F1 H1 ⟨a, ds0, up0, rest0, he, h0, hd⟩ x1 A1 e1 => by
    subst he
    cases e1
    obtain ⟨Ra, Rb, rfl, _, _⟩ := h0.split
    obtain ⟨_, ws, h1, h2⟩ := A1.own (.ls a ds0) (by simp)
    refine ⟨.inl ⟨rfl, ws, .inl (.inl h1)⟩, hd R0 F1 H1 σ (S.mono x1) A1 _ fun es R2 vs F2 H2 ⟨d, ds, up, rest, he, h3, hl, hq⟩ x2 A2 e2 => ?_⟩
    subst he
    obtain ⟨w, rfl, hw⟩ := ens1 e2
    obtain ⟨Sa, Sb, rfl, hu, _⟩ := h3.split
    obtain ⟨us, h3, h4⟩ := at_ls A2
    refine ⟨a, us, w, rfl, rfl, h3, by rw [h4.len]; exact hl, ?_⟩
    refine q' _ _ _ F2 _ hq (x1.trans x2) ?_ .non
    rw [hu]
    rw [List.append_assoc, List.cons_append] at A2 ⊢
    exact A2.updL (h4.append (.cons hw .nil))
theorem gp_insert (ho : Evp K to ρ R fun e R1 => OwnP e R1 fun a ds0 up0 => Eap K ts ρ R1 fun es R2 => ∃ i d ds up rest, es = [.d (.int i), .d d] ∧ Hold a R2 ds up rest ∧ ds.length < sizeLine ∧ 0 ≤ i ∧ i < 2 ^ 63 ∧ Q (.d .none) (up (ds.take i.toNat ++ [d] ++ ds.drop i.toNat))) : Evp K (tBM K "list" rInsert to ts) ρ R Q := fun R0 F H σ S A Q' q' =>
  ho R0 F H σ S A _ fun e R1 v F1 H1 ⟨a, ds0, up0, rest0, he, h0, hd⟩ x1 A1 e1 => by
    subst he
    cases e1
    obtain ⟨Ra, Rb, rfl, _, _⟩ := h0.split
    obtain ⟨_, ws, h1, h2⟩ := A1.own (.ls a ds0) (by simp)
    refine ⟨.inl ⟨rfl, ws, .inl (.inl h1)⟩, hd R0 F1 H1 σ (S.mono x1) A1 _ fun es R2 vs F2 H2 ⟨i, d, ds, up, rest, he, h3, hl, hi0, hi1, hq⟩ x2 A2 e2 => ?_⟩
    subst he
    obtain ⟨u, w, rfl, hu', hw⟩ := ens2 e2
    cases hu'
    obtain ⟨Sa, Sb, rfl, hu, _⟩ := h3.split
    obtain ⟨us, h3, h4⟩ := at_ls A2
    refine ⟨a, us, i, w, rfl, rfl, h3, by rw [h4.len]; exact hl, hi0, hi1, ?_⟩
    refine q' _ _ _ F2 _ hq (x1.trans x2) ?_ .non
    rw [hu]
    rw [List.append_assoc, List.cons_append] at A2 ⊢
    exact A2.updL (((h4.take _).append (.cons hw .nil)).append (h4.drop _))
theorem sp_store (h : Evp K te ρ R fun e R1 => ∃ d, e = .d d ∧ Evp K to ρ R1 fun e2 R2 => ∃ a, e2 = .o a ∧ Evp K ti ρ R2 fun e3 R3 => ∃ i j ds up rest, e3 = .d (.int i) ∧ Hold a R3 ds up rest ∧ ixN ds.length i = some j ∧ P.nx ρ (up (ds.set j d))) : Es K (tAsg te (gSub to ti rSetL)) ρ R P := fun R0 F H σ D S A p =>
  h R0 F H σ S A _ fun e R1 v F1 H1 ⟨d, he, h1⟩ x1 A1 e1 => by
    subst he
    exact h1 R0 F1 H1 σ (S.mono x1) A1 _ fun e2 R2 u F2 H2 ⟨a, he2, h2⟩ x2 A2 e2 => by
      subst he2
      cases e2
      exact h2 R0 F2 H2 σ (S.mono (x1.trans x2)) A2 _ fun e3 R3 u3 F3 H3 ⟨i, j, ds, up, rest, he3, hh, hj, hn⟩ x3 A3 e3 => by
        subst he3
        cases e3
        obtain ⟨Ra, Rb, rfl, hu, _⟩ := hh.split
        obtain ⟨_, ws, h3, h4⟩ := A3.own (.ls a ds) (by simp)
        refine ⟨a, ws, i, j, rfl, rfl, h3, by rw [h4.len]; exact hj, p.nx _ _ σ F3 _ hn (x1.trans (x2.trans x3)) (S.mono (x1.trans (x2.trans x3))) ?_⟩
        rw [hu]
        rw [List.append_assoc, List.cons_append] at A3 ⊢
        exact A3.updL (Dts.set j h4 (Dt.mono (x2.trans x3) d e1))
theorem rv_iH {a : Addr} {ds : List PyData} {up : List PyData → List Ow} {rest : List Ow} {i : Int} {d : PyData} (hh : Hold a R ds up rest) (h : L2.atI ds i = some d) : Rv K (rIxA K) (.o a) (.d (.int i)) R (.d d) := by
  obtain ⟨Ra, Rb, rfl, _, _⟩ := hh.split
  exact rv_iO h
theorem rc_lenH {a : Addr} {ds : List PyData} {up : List PyData → List Ow} {rest : List Ow} (hh : Hold a R ds up rest) : RcK K (rLenS K) [.o a] R (.d (.int (ds.length : Int))) := by
  obtain ⟨Ra, Rb, rfl, _, _⟩ := hh.split
  exact rc_lenO
theorem rc_tupH {a : Addr} {ds : List PyData} {up : List PyData → List Ow} {rest : List Ow} (hh : Hold a R ds up rest) : RcK K (rTupS K) [.o a] R (.d (.tuple ds)) := by
  obtain ⟨Ra, Rb, rfl, _, _⟩ := hh.split
  exact rc_tupO
/-- an attribute -/
theorem gp_fld {C : Addr} {f : Str} (c : Cls K C) (n : NoAttr K C f) (h : Evp K te ρ R fun e R1 => ∃ fs d, e = .ob C fs ∧ fs.lookup f = some d ∧ Q (.d d) R1) : Evp K (tFld K te f) ρ R Q := fun R0 F H σ S A Q' q' =>
  h R0 F H σ S A _ fun e R1 v F1 H1 ⟨fs, d, he, hf, hq⟩ x1 A1 e1 => by
    subst he
    have h2 := ev_fld (K := K) (ρ := [.ob C fs]) (R := R1) (R1 := R1) (te := tVar 0) (ev_b rfl) c n hf R0 F1 H1 [some v] (.cons ⟨v, rfl, e1⟩ .nil) A1 Q' fun w F2 H2 x2 A2 e2 => q' _ R1 w F2 H2 hq (x1.trans x2) A2 e2
    obtain ⟨w, hw, hk⟩ := h2
    cases hw
    exact hk
/-! ### slices -/
theorem gp_sl {t1 t2 : TO} (h : Evp K te ρ R fun e R1 => Eop K t1 ρ R1 fun lo R2 => Eop K t2 ρ R2 fun hi R3 => (∃ ds, e = .d (.list ds) ∧ Q (.d (.list (cutD ds lo hi))) R3) ∨ ∃ ds, e = .d (.tuple ds) ∧ Q (.d (.tuple (cutD ds lo hi))) R3) : Evp K (tSl (rSlAny K) te t1 t2) ρ R Q := fun R0 F H σ S A Q' q' =>
  h R0 F H σ S A _ fun e R1 v F1 H1 h1 x1 A1 e1 => h1 R0 F1 H1 σ (S.mono x1) A1 _ fun lo R2 F2 H2 h2 x2 A2 => h2 R0 F2 H2 σ (S.mono (x1.trans x2)) A2 _ fun hi R3 F3 H3 h3 x3 A3 => by
    have e3 := e1.mono (x2.trans x3)
    have s3 : Sls K F3 [some v] [e] := .cons (.of e3) .nil
    rcases h3 with ⟨ds, rfl, hq⟩ | ⟨ds, rfl, hq⟩
    · have h4 := ev_sL (K := K) (ρ := [.d (.list ds)]) (R := R3) (R1 := R3) (Rz := R3) (R3 := R3) (te := tVar 0) (t1 := fun _ H Q => Q lo H) (t2 := fun _ H Q => Q hi H) (ds := ds) (lo := lo) (hi := hi) (ev_d rfl) (fun R0 F H σ S A Q q => q F H (Ex.refl F) A) (fun R0 F H σ S A Q q => q F H (Ex.refl F) A) R0 F3 H3 [some v] s3 A3 Q' fun w F4 H4 x4 A4 e4 => q' _ R3 w F4 H4 hq (x1.trans (x2.trans (x3.trans x4))) A4 e4
      obtain ⟨w, hw, hk⟩ := h4
      cases hw
      exact hk
    · have h4 := ev_sT (K := K) (ρ := [.d (.tuple ds)]) (R := R3) (R1 := R3) (Rz := R3) (R3 := R3) (te := tVar 0) (t1 := fun _ H Q => Q lo H) (t2 := fun _ H Q => Q hi H) (ds := ds) (lo := lo) (hi := hi) (ev_d rfl) (fun R0 F H σ S A Q q => q F H (Ex.refl F) A) (fun R0 F H σ S A Q q => q F H (Ex.refl F) A) R0 F3 H3 [some v] s3 A3 Q' fun w F4 H4 x4 A4 e4 => q' _ R3 w F4 H4 hq (x1.trans (x2.trans (x3.trans x4))) A4 e4
      obtain ⟨w, hw, hk⟩ := h4
      cases hw
      exact hk
/-! ### names -/
end
structure Nm where
  s : Str
  ok : PyData.strOk s = true
  len : s.length ≤ 100
  deriving DecidableEq
theorem Nm.ext {a b : Nm} (h : a.s = b.s) : a = b := by cases a; cases b; cases h; rfl
theorem Nm.shaped (a : Nm) : SeqAt.shaped (.str a.s) = true := by
  unfold SeqAt.shaped
  simp [PyData.canLay0, PyData.depth, a.ok]
abbrev nS (a : Nm) : PyData := .str a.s
abbrev nP (p : Nm × Nm) : PyData := .tuple [.str p.1.s, .str p.2.s]
section
variable {K : PySem.W.Frag} {R : List Ow}
theorem rv_eqN {a b : Nm} : Rv K (rEqD K) (.d (.str a.s)) (.d (.str b.s)) R (.d (.bool (decide (a = b)))) := by
  have e : decide (a = b) = decide (a.s = b.s) := by
    by_cases h : a = b
    · subst h; simp
    · rw [decide_eq_false h, decide_eq_false (fun q => h (Nm.ext q))]
  rw [e]
  exact rv_eqS a.shaped b.shaped
theorem mem_nm {a : Nm} {l : List Nm} : a.s ∈ l.map (·.s) ↔ a ∈ l := by
  constructor
  · intro h
    obtain ⟨b, hb, e⟩ := List.mem_map.mp h
    rw [← Nm.ext e]; exact hb
  · exact fun h => List.mem_map_of_mem h
theorem rv_inN (neg k : Bool) {a : Nm} {l : List Nm} : Rv K (rIn K neg) (.d (.str a.s)) (.d (rowD k (l.map nS))) R (.d (.bool (if neg then !decide (a ∈ l) else decide (a ∈ l)))) := by
  have e : l.map nS = (l.map (·.s)).map .str := by rw [List.map_map]; rfl
  have e2 : decide (a ∈ l) = decide (a.s ∈ l.map (·.s)) := by
    by_cases h : a ∈ l
    · rw [decide_eq_true h, decide_eq_true (mem_nm.mpr h)]
    · rw [decide_eq_false h, decide_eq_false (fun q => h (mem_nm.mp q))]
  rw [e, e2]
  cases k with
  | true => exact rv_inT neg
  | false => exact rv_inL neg
end
end Fx

namespace Fx
open PySem PySem.Spec PyProof.Rows L2 StX RZ
/-! ### the first defs of all laws: one draw, one of a row -/
abbrev rD (aD aC : Addr) (c : List Int) (m : Int) : List Ow := [.rw aD (.lst [.ref aC, .int m]), .ls aC (c.map .int)]
section
variable {K : PySem.W.Frag} {ρ : List En} {R R1 : List Ow} {te : TE} {aD aC : Addr} {c : List Int} {m : Int} {i : Nat}
theorem small {n : Nat} (h : n ≤ 1000000) : n ≤ sizeLine := Nat.le_trans h (by decide)
theorem smallL {n : Nat} (h : n < 1000000) : n < sizeLine := Nat.lt_of_lt_of_le h (by decide)
theorem ev_neg {j : Int} (h : Ev K te ρ R (.d (.int j)) R1) : Ev K (tUn (rU fun i => .int (-i)) te) ρ R (.d (.int (-j))) R1 := fun R0 F H σ S A Q q =>
  h R0 F H σ S A _ fun v F1 H1 x1 A1 e1 => by cases e1; exact ⟨j, rfl, q _ F1 H1 x1 A1 (.int _)⟩
theorem shaped_ints (ns : List Int) : SeqAt.shaped (.list (ns.map .int)) = true := by
  have h1 : ∀ ns : List Int, PyData.canLayAll0 (ns.map .int) = true := by
    intro ns; induction ns with
    | nil => rfl
    | cons n r ih => simp [PyData.canLayAll0, PyData.canLay0, ih]
  have h2 : ∀ ns : List Int, PyData.depthAll (ns.map .int) = 0 := by
    intro ns; induction ns with
    | nil => rfl
    | cons n r ih => simp [PyData.depthAll, PyData.depth, ih]
  unfold SeqAt.shaped
  simp [PyData.canLay0, PyData.depth, h1, h2]
theorem eqv_nilL (ds : List PyData) : PyData.eqv (.list ds) (.list []) = ds.isEmpty := by cases ds <;> simp [PyData.eqv, PyData.eqvAll]
theorem deal0 (h : ρ[i]? = some (.o aD)) : Ev K (tOp (rIxA K) (tVar i) (tC (.int 0))) ρ (rD aD aC c m) (.o aC) (rD aD aC c m) :=
  ev_op (ev_o h) ev_int (rv_iR (vs := [.ref aC, .int m]) (by simp) rfl)
theorem deal1 (h : ρ[i]? = some (.o aD)) : Ev K (tOp (rIxA K) (tVar i) (tC (.int 1))) ρ (rD aD aC c m) (.d (.int m)) (rD aD aC c m) :=
  ev_op (ev_o h) ev_int (rv_iRi (vs := [.ref aC, .int m]) (by simp) rfl)
theorem dealNe (h : ρ[i]? = some (.o aD)) : Et K (tTest (tOp (rNeD K) (tOp (rIxA K) (tVar i) (tC (.int 0))) (tLst tNil))) ρ (rD aD aC c m) (!c.isEmpty) (rD aD aC c m) := by
  have h1 := ev_op (deal0 (K := K) (aC := aC) (c := c) (m := m) h) (ev_lstE (ds := []) ea_nil rfl (small (by simp))) (rv_neO (Ra := [.rw aD (.lst [.ref aC, .int m])]) (Rb := []) (shaped_ints c) (by rfl))
  rw [eqv_nilL] at h1
  have e : (c.map PyData.int).isEmpty = c.isEmpty := by cases c <;> rfl
  rw [e] at h1
  exact et_test h1
end
/-- one draw below b -/
def N_any : DT := fun es s Q => ∃ b : Int, es = [.d (.int b)] ∧ 0 < b ∧ b < 2 ^ 1000 ∧ ∀ (v : Nat) (s' : DS), (v : Int) < b → Q (.d (.int (v : Int))) s'
def tAnyW (K : PySem.W.Frag) : TS := tWhile (tAnd (tTest (tOp (rNeD K) (tOp (rIxA K) (tVar 0) (tC (.int 0))) (tLst tNil))) (tTest (tOp (rEqD K) (tOp (rIxA K) (tOp (rIxA K) (tVar 0) (tC (.int 0))) (tUn (rU fun i => .int (-i)) (tC (.int 1)))) (tC (.int 0))))) (tDrop (tBM0 K "list" rPop (tOp (rIxA K) (tVar 0) (tC (.int 0)))))
theorem es_any {K : PySem.W.Frag} {aD aC : Addr} {d : DS} {k : Int} {es : List En} {Q : En → DS → Prop} (hk : 0 ≤ k ∧ k < 1000) (h : N_any es d Q) :
    Es K (tSeq (tAnyW K) (tSeq (tIfS (tTest (tOp (rNeD K) (tOp (rIxA K) (tVar 0) (tC (.int 0))) (tLst tNil)))
      (tSeq (tAsg (tCB rIntS (tCons (tBM0 K "list" rPop (tOp (rIxA K) (tVar 0) (tC (.int 0)))) tNil)) (gName 2))
        (tSeq (tDrop (tBM K "list" rAppend (tOp (rIxA K) (tVar 0) (tC (.int 0))) (tCons (tOp (rI CDivW fun i j => .int (i / j)) (tVar 2) (tVar 1)) tNil))) (tRet (tOp (rI (fun _ j => 0 < j) fun i j => .int (i % j)) (tVar 2) (tVar 1))))) tNext)
      (tSeq (tAsg (tOp (rI (fun _ j => 0 < j) fun i j => .int (i % j)) (tCB rIntS (tCons (tOp (rAddA K) (tOp (rI CMulW fun i j => .int (i * j)) (tOp (rIxA K) (tVar 0) (tC (.int 1))) (tC (.int 48271))) (tC (.int k))) tNil)) (tC (.int 2147483647))) (gSub (tVar 0) (tC (.int 1)) rSetL))
        (tRet (tOp (rI (fun _ j => 0 < j) fun i j => .int (i % j)) (tCB rIntS (tCons (tOp (rI CDivW fun i j => .int (i / j)) (tOp (rIxA K) (tVar 0) (tC (.int 1))) (tC (.int 64))) tNil)) (tVar 1))))))
      (.o aD :: es ++ [.u]) (DX aD aC d []) { nx := fun _ R => ∃ d' X, R = DX aD aC d' X ∧ Q (.d .none) d', rt := fun e R => ∃ d' X, R = DX aD aC d' X ∧ Q e d' } := by
  obtain ⟨b, rfl, hb, hb2, hq⟩ := h
  have hok := d.ok
  have hdiv : ∀ i, CDivW i b := fun i => wide_div hb (b := 1000) (by omega) (by omega) (by omega)
  have hqi : ∀ (v : Int) (s' : DS), 0 ≤ v → v < b → Q (.d (.int v)) s' := fun v s' h0 h1 => by
    have := hq v.toNat s' (by omega)
    rw [show ((v.toNat : Nat) : Int) = v by omega] at this
    exact this
  show Es K _ [.o aD, .d (.int b), .u] (rD aD aC d.cs d.m) _
  refine es_seqM (fun ρ R => ρ = [.o aD, .d (.int b), .u] ∧ ∃ c, R = rD aD aC c d.m ∧ c.length ≤ 1000) ?_ ?_
  · refine es_while (fun n ρ R => ρ = [.o aD, .d (.int b), .u] ∧ ∃ c, R = rD aD aC c d.m ∧ n = c.length ∧ c.length ≤ 1000) ⟨_, rfl, d.cs, rfl, rfl, hok.2.2⟩ ?_
    rintro n ρ R ⟨rfl, c, rfl, rfl, hcl⟩
    by_cases hne : c = []
    · subst hne
      exact ⟨false, _, et_andF (dealNe rfl), fun h => (nomatch h), fun _ => ⟨rfl, [], rfl, by simp⟩⟩
    · obtain ⟨c0, x, rfl⟩ : ∃ c0 x, c = c0 ++ [x] := ⟨c.dropLast, c.getLast hne, (List.dropLast_concat_getLast hne).symm⟩
      have h1 := dealNe (K := K) (aD := aD) (aC := aC) (c := c0 ++ [x]) (m := d.m) (i := 0) (ρ := [.o aD, .d (.int b), .u]) rfl
      have e1 : (!(c0 ++ [x]).isEmpty) = true := by cases c0 <;> rfl
      rw [e1] at h1
      have h2 := et_test (ev_op (ev_op (deal0 (K := K) (aD := aD) (aC := aC) (c := c0 ++ [x]) (m := d.m) (i := 0) (ρ := [.o aD, .d (.int b), .u]) rfl) (ev_neg (ev_int (i := 1))) (rv_iO (Ra := [.rw aD (.lst [.ref aC, .int d.m])]) (Rb := []) (ds := (c0 ++ [x]).map .int) (d := .int x) (by rw [List.map_append]; exact atI_last _ _))) (ev_int (i := 0)) rv_eqI)
      have ht := et_andT h1 h2
      by_cases hx : x = 0
      · subst hx
        refine ⟨true, _, ht, fun _ => ?_, fun h => (nomatch h)⟩
        have hm : rD aD aC (c0 ++ [0]) d.m = [.rw aD (.lst [.ref aC, .int d.m])] ++ .ls aC (c0.map .int ++ [.int 0]) :: [] := by simp
        rw [hm]
        exact es_drop (ev_pop (a := aC) (ds := c0.map .int) (d := .int 0) (Ra := [.rw aD (.lst [.ref aC, .int d.m])]) (Rb := []) (ev_op (ev_o rfl) ev_int (rv_iR (b := aC) (vs := [.ref aC, .int d.m]) (by simp) rfl))) ⟨c0.length, by simp, rfl, c0, rfl, rfl, by simp at hcl; omega⟩
      · refine ⟨false, _, ?_, fun h => (nomatch h), fun _ => ⟨rfl, c0 ++ [x], rfl, hcl⟩⟩
        have e : decide (x = 0) = false := by simp [hx]
        rw [← e]
        exact ht
  · rintro ρ R ⟨rfl, c, rfl, hcl⟩
    refine es_seq (es_if (dealNe rfl) (fun hne => ?_) (fun he => es_next ?_))
    · obtain ⟨c0, x, rfl⟩ : ∃ c0 x, c = c0 ++ [x] := by
        cases c with
        | nil => cases hne
        | cons a r => exact ⟨(a :: r).dropLast, (a :: r).getLast (by simp), (List.dropLast_concat_getLast (by simp)).symm⟩
      have hm : rD aD aC (c0 ++ [x]) d.m = [.rw aD (.lst [.ref aC, .int d.m])] ++ .ls aC (c0.map .int ++ [.int x]) :: [] := by simp
      rw [hm]
      refine es_seq (es_set (ev_cb (ea_cons (ev_pop (a := aC) (ds := c0.map .int) (d := .int x) (Ra := [.rw aD (.lst [.ref aC, .int d.m])]) (Rb := []) ?p0) ea_nil) rc_int) ?_)
      case p0 => exact ev_op (ev_o rfl) ev_int (rv_iR (b := aC) (vs := [.ref aC, .int d.m]) (by simp) rfl)
      refine es_seq (es_drop (ev_append (a := aC) (ds := c0.map .int) (ds0 := c0.map .int) (d := .int (x / b)) (Ra := [.rw aD (.lst [.ref aC, .int d.m])]) (Rb := []) (deal0 (c := c0) rfl) (by simp) (ea_cons (ev_op (ev_d rfl) (ev_d rfl) (rv_intC (hdiv x))) ea_nil) (smallL ?_)) ?_)
      · rw [List.length_map]; simp at hcl; omega
      · refine es_ret (ev_op (ev_d rfl) (ev_d rfl) (rv_intC hb)) ⟨⟨c0 ++ [x / b], d.m, hok.1, hok.2.1, by simp at hcl ⊢; omega⟩, [], ?_, hqi _ _ (Int.emod_nonneg _ (by omega)) (Int.emod_lt_of_pos _ hb)⟩
        unfold DX
        simp
    · have hcn : c = [] := by cases c with
        | nil => rfl
        | cons a r => cases he
      subst hcn
      have hmul : CMulW d.m 48271 := wide_mul (a := 31) (b := 16) (by omega) (by decide) (by omega) (by omega) (by omega)
      have h0 := Int.emod_nonneg (d.m * 48271 + k) (show (2147483647 : Int) ≠ 0 by decide)
      have h1 := Int.emod_lt_of_pos (d.m * 48271 + k) (show (0 : Int) < 2147483647 by decide)
      refine es_seq (es_storeR (Ra := []) (Rb := [.ls aC []]) (vs := [.ref aC, .int d.m]) (k := (d.m * 48271 + k) % 2147483647) (i := 1) (j := 1) (ev_op (ev_cb (ea_cons (ev_op (ev_op (deal1 (c := []) (m := d.m) rfl) ev_int (rv_intC hmul)) ev_int rv_addI) ea_nil) rc_int) ev_int (rv_intC (by decide))) (ev_o rfl) ev_int rfl ?_)
      exact es_ret (ev_op (ev_cb (ea_cons (ev_op (deal1 (c := []) (m := (d.m * 48271 + k) % 2147483647) rfl) ev_int (rv_intC (wide_div (b := 7) (by decide) (by decide) (by omega) (by omega)))) ea_nil) rc_int) (ev_d rfl) (rv_intC hb)) ⟨⟨[], (d.m * 48271 + k) % 2147483647, h0, h1, by simp⟩, [], rfl, hqi _ _ (Int.emod_nonneg _ (by omega)) (Int.emod_lt_of_pos _ hb)⟩
/-- one of a row -/
def N_of : DT := fun es s Q => ∃ (k : Bool) (ds : List PyData), es = [.d (rowD k ds)] ∧ ds ≠ [] ∧ ds.length ≤ 1000000 ∧ ∀ (x : PyData) (s' : DS), x ∈ ds → Q (.d x) s'
section
variable {K : PySem.W.Frag} {Q : En → List Ow → Prop} {aD aC : Addr} {s : DS} {X : List Ow}
theorem use_any {b : Int} (h0 : 0 < b) (h1 : b < 2 ^ 1000) (q : ∀ (v : Nat) (s' : DS), (v : Int) < b → Q (.d (.int (v : Int))) (DX aD aC s' X)) : CallD N_any [.o aD, .d (.int b)] (DX aD aC s X) Q := calld ⟨b, rfl, h0, h1, q⟩
theorem use_ofL {ds : List PyData} (h0 : ds ≠ []) (h1 : ds.length ≤ 1000000) (q : ∀ (x : PyData) (s' : DS), x ∈ ds → Q (.d x) (DX aD aC s' X)) : CallD N_of [.o aD, .d (.list ds)] (DX aD aC s X) Q := calld ⟨false, ds, rfl, h0, h1, q⟩
theorem use_ofT {ds : List PyData} (h0 : ds ≠ []) (h1 : ds.length ≤ 1000000) (q : ∀ (x : PyData) (s' : DS), x ∈ ds → Q (.d x) (DX aD aC s' X)) : CallD N_of [.o aD, .d (.tuple ds)] (DX aD aC s X) Q := calld ⟨true, ds, rfl, h0, h1, q⟩
end
end Fx

namespace Fx
open PySem PySem.Spec PyProof.Rows L2 StX RZ
/-! ### {k: v for .. in ..}, the keys tuples of texts and ints -/
/-- one entry more, or another value in its place -/
theorem set_tupKey {Y : Cx} {pn : List (Addr × Obj)} {τ : L2.St} {G : Hp} {q : Shared} {E : Value → Shared → Prop} {D b : Addr} {rows : List (List Key × V)} {ks : List Key} {z : V} {zv : Value} {W : Unit → Shared → Prop} (hu : Y.A.units + 1 < cLine)
    (J : Inv Y pn τ G q) (hD : G D = some (.dT rows)) (hb : G b = some (.tup (ks.map kV))) (hn : rows.length < sizeLine) (rz : RelV z zv)
    (fin : ∀ q', Inv Y pn τ (upd G D (.dT (putK rows ks z))) q' → W () q') : wpAny (model Y.prog Y.w) Y.A (dictSet D (.ref b) zv) W E q := by
  have whole := dt_of J.hok hD
  obtain ⟨le, sm, ents, rel, dd⟩ := whole
  have many : ents.length ≤ sizeLine := (Paired.length rel) ▸ le
  have more : (putK rows ks z).length ≤ sizeLine := Nat.le_trans (length_putK rows ks z) hn
  refine wpAny_dictSet_heap (show (tupleKind (mixKind Y.prog Y.w)).room Y.A from Nat.lt_of_succ_lt hu) (key_of J.hok hb) dd (hsz := many) fun g dd2 but => fin _ ?_
  obtain ⟨ob, es, ep, at1, at2, at3, at4, -, at6⟩ := dd2
  have keep : ∀ c ys, G c = some (.tup ys) → upd G D (.dT (putK rows ks z)) c = some (.tup ys) := fun c ys hc => by
    have off : c ≠ D := ne_of hc hD (fun w => nomatch w)
    rw [upd_ne off, hc]
  exact d_write J (by rw [hD]; exact True.intro) but ⟨ob, at1⟩ ⟨more, sm, _, KT.keeps (KT.put rel ks hb rz) keep, ob, es, ep, at1, at2, at3, at4, at6⟩
/-- what it asks -/
def tDcT (wi : TI) (g : TG) (tt : TT) (tk tv : TE) (vs : List Nat) : TE := fun σ H Q => wi σ H fun J H1 => ∀ D, H1 D = none → ∃ W : Nat → Nat → Hp → Prop, (∃ m, W 0 m (upd H1 D (.dT []))) ∧ ∀ i m H, W i m H →
  (J.stop i H ∧ Q (.ref D) H) ∨ (J.go i H ∧ ∃ Nx : Hp → Prop, (∀ H', Nx H' → ∃ m', m' < m ∧ W (i + 1) m' H') ∧ ∀ x H', J.yld i H x H' → g x (wipe σ vs) H' fun σ2 H2 => wipe σ2 vs = wipe σ vs ∧ tt σ2 H2 fun b H3 =>
    if b = true then tk σ2 H3 fun y H4 => tv σ2 H4 fun z H5 => ∃ rows ks kb, y = .ref kb ∧ H5 kb = some (.tup (ks.map kV)) ∧ H5 D = some (.dT rows) ∧ rows.length < sizeLine ∧ Nx (upd H5 D (.dT (putK rows ks z))) else Nx H3)
section
variable {X : Cx} {kx vx tg iter : Expr} {ifs : List Expr} {scope : Scope} {own : List (Str × Nat)} {pos : Pos} {wi : TI} {g : TG} {tt : TT} {tk tv : TE} {K0 : Nat}
/-- a comprehension of this kind, as a value -/
theorem pe_dcT (hu : X.A.units + 1 < cLine) (hc : X.calm = true) (hN : X.N.Nodup) (hi : PI X tg iter wi) (ok : BlkOk X.N X.env.scope scope own)
    (hg : ∀ (q : Shared) (G : Hp) (C : Addr) (cl : List (Str × Addr)) (fp : List Addr), PG (X.blk q G scope (compEnvC scope cl C X.env) fp) tg g)
    (ht : ∀ (q : Shared) (G : Hp) (C : Addr) (cl : List (Str × Addr)) (fp : List Addr), PTs (X.blk q G scope (compEnvC scope cl C X.env) fp) ifs tt)
    (hk : ∀ (q : Shared) (G : Hp) (C : Addr) (cl : List (Str × Addr)) (fp : List Addr), PE (X.blk q G scope (compEnvC scope cl C X.env) fp) kx tk)
    (he : ∀ (q : Shared) (G : Hp) (C : Addr) (cl : List (Str × Addr)) (fp : List Addr), PE (X.blk q G scope (compEnvC scope cl C X.env) fp) vx tv)
    (hf : ∀ x, foldedSetIterable iter X.env x = pure x := by intro _; rfl) :
    PE X (.DictComp kx vx [⟨tg, iter, ifs, 0⟩] scope pos) (tDcT wi g tt tk tv (own.map (·.2))) := by
  refine ⟨fun pins s σ H Q I want => ?_⟩
  rw [arm_eval_DictComp]
  have cls : ∀ y ∈ scope.names, y.2 = .free → ∃ c, X.env.cells.lookup y.1 = some c := fun y hy e =>
    (ok.free y hy e).elim (fun l => I.ok.has _ (.inl l)) fun r => I.ok.has _ (.inr r)
  refine wpAny_comprehension_free (use := none) rfl hf (closure_ok cls) ok.kind (fun y hy e => by rw [ok.uniq y hy, e]) (thn (hi.run pins s σ H _ I want) fun xv q1 hx => thn hx fun itv q2 h2 => ?_)
  obtain ⟨it, fp, tn, J, G2, rfl, J2, T, stand, clear, go⟩ := h2
  refine wpAny_newObj_type (newEnv_comp ?_)
  obtain ⟨D, eD⟩ : ∃ D, q2.heap.objs.size = D := ⟨_, rfl⟩
  rw [eD]
  have dn : G2 D = none := J2.hok.fresh (Nat.le_of_eq eD)
  obtain ⟨W, ⟨m0, w0⟩, turn⟩ := go D dn
  -- the dict, new and empty
  obtain ⟨q3, e3⟩ : ∃ q : Shared, ({ q2 with heap := q2.heap.push { cls := .type "dict", data := .dict #[] } } : Shared) = q := ⟨_, rfl⟩
  rw [e3]
  have p3 : q3.heap = q2.heap.push { cls := .type "dict", data := .dict #[] } := e3 ▸ rfl
  have up3 : ∀ b o, q2.heap.get? b = some o → q3.heap.get? b = some o := fun b o e => p3 ▸ Heap.get?_push_of_some _ e
  have J3 : Inv X pins σ (upd G2 D (.dT [])) q3 := by
    subst e3 eD
    exact J2.laid (t' := q2.toks) (fun b o e => Heap.get?_push_of_some _ e) (Nat.le_refl _) (dt_empty q2.heap J2.big)
  have low : ∀ b ∈ fp, b < D := fun b hb => by
    obtain ⟨o, e, _⟩ := T.obj _ _ stand b hb
    exact eD ▸ Heap.lt_size e
  have clear3 : ∀ b ∈ fp, FpOk X pins (upd G2 D (.dT [])) b ∧ b < q3.heap.objs.size := fun b hb => by
    have l := low b hb
    refine ⟨⟨by rw [upd_ne (Nat.ne_of_lt l)]; exact (clear b hb).1, (clear b hb).2⟩, ?_⟩
    rw [p3, Heap.size_push, eD]
    exact Nat.lt_succ_of_lt l
  have stand3 : tn 0 q3.heap := T.keep _ _ _ stand fun b _ o e => up3 b o e
  have J4 := block_start J3 ok hN clear3
  obtain ⟨cells, ec⟩ : ∃ c, cellsFrom (q3.heap.objs.size + 1) scope.names (cloFrom X.env.cells scope.names []) = c := ⟨_, rfl⟩
  rw [ec] at J4
  have ag := hg q3 (upd G2 D (.dT [])) q3.heap.objs.size cells fp
  have at' := ht q3 (upd G2 D (.dT [])) q3.heap.objs.size cells fp
  have ak := hk q3 (upd G2 D (.dT [])) q3.heap.objs.size cells fp
  have av := he q3 (upd G2 D (.dT [])) q3.heap.objs.size cells fp
  have none3 : ∀ b ∈ fp, (upd G2 D (.dT [])) b = none := fun b hb => (clear3 b hb).1.1
  rw [ec]
  obtain ⟨G3, eG⟩ : ∃ G, upd G2 D (.dT []) = G := ⟨_, rfl⟩
  rw [eG] at J3 J4 ag at' ak av w0 none3 clear3
  obtain ⟨ce, ece⟩ : ∃ c, compEnvC scope cells q3.heap.objs.size X.env = c := ⟨_, rfl⟩
  have lce : ce.locals = q3.heap.objs.size := by rw [← ece]; rfl
  rw [ece] at J4 ag at' ak av
  change codeAny _ _ (.compStart (.DictComp kx vx [⟨tg, iter, ifs, 0⟩] scope pos) 0 (.ref it) (.ref D) (compEnvC scope cells q3.heap.objs.size X.env)) (compPost (model X.prog X.w) X.A X.xe none (EP X pins σ Q) (.ref D) q3.heap.objs.size) { q3 with heap := pushCells (q3.heap.push { cls := .type "dict", data := .dict #[] }) scope.names }
  rw [ece]
  obtain ⟨q4, e4⟩ : ∃ q : Shared, ({ q3 with heap := pushCells (q3.heap.push { cls := .type "dict", data := .dict #[] }) scope.names } : Shared) = q := ⟨_, rfl⟩
  rw [e4] at J4
  have stand4 : tn 0 q4.heap := T.keep _ _ _ stand3 fun b _ o e => e4 ▸ pushCells_keeps _ _ _ _ (Heap.get?_push_of_some _ e)
  have cl : ∀ {τ : L2.St} {G : Hp} {q : Shared}, Inv (X.blk q3 G3 scope ce fp) [] τ G q → (∀ b ∈ fp, G b = none) → ∀ b ∈ fp, FpOk (X.blk q3 G3 scope ce fp) [] G b := fun {τ G q} J' hn b hb =>
    ⟨hn b hb, (J'.ok.exf b hb).1, J'.ok.exfs b hb, .inl hb, fun x c e => (J'.ok.exf b hb).2 x c e, fun p hp => by
      rw [List.nil_append] at hp
      exact (List.not_mem_nil hp).elim⟩
  have loop : codeAny (model X.prog X.w) X.A (.compLoop (.DictComp kx vx [⟨tg, iter, ifs, 0⟩] scope pos) 0 (.ref it) (.ref D) ce) (compPost (model X.prog X.w) X.A X.xe none (EP X pins σ Q) (.ref D) q3.heap.objs.size) q4 := by
    refine compLoop_anyD (fun n q => ∃ i G, Inv (X.blk q3 G3 scope ce fp) [] (wipe σ (own.map (·.2))) G q ∧ tn i q.heap ∧ (∀ b ∈ fp, G b = none) ∧ W i n G) ?_ m0 ⟨0, G3, J4, stand4, none3, w0⟩
    rintro n q5 ⟨i, G5, J5, stand5, none5, w5⟩
    rcases turn i n G5 w5 with ⟨stop, fin⟩ | ⟨go5, Nx, next, step⟩
    · refine thnF (T.done (X.blk q3 G3 scope ce fp) rfl rfl rfl hc i [] q5 _ G5 (fun _ _ => False) J5 (cl J5 none5) stand5 stop) ?_
      rintro r q6 ⟨rfl, J6⟩
      have J7 : Inv X pins σ G5 q6 := J3.call' (ch := fp) J6.os J6.base J6.hok J6.bare fun b hb => by
        obtain ⟨_, c2, c3, c4, c5, c6⟩ := (clear3 b hb).1
        exact ⟨c4, c2, c5, c6⟩
      have free6 : G5 q3.heap.objs.size = none := lce ▸ J6.free
      obtain ⟨m, ns6, _⟩ := J6.loc
      have ns6 : q6.heap.Ns ce.locals m := ns6
      rw [lce] at ns6
      obtain ⟨f0, f1, f2, f3, f4, f5⟩ := J3.fpOk (Nat.le_refl _) free6
      exact ⟨m, ns6, fun h2 but => ⟨.ref D, G5, J7.turned (t' := q6.toks) (fun b o hb e => (but.2 b hb).trans e) f0 f1 f3 f4 f5, rfl, fin⟩⟩
    · refine thnF (T.item (X.blk q3 G3 scope ce fp) rfl rfl rfl hc i [] q5 _ G5 (fun _ _ => False) J5 (cl J5 none5) stand5 go5) ?_
      rintro r q6 ⟨u, rfl, after⟩
      refine thnF after ?_
      rintro _ q7 ⟨x, G7, J7, rx, yld, stand7, none7⟩
      have objs7 := T.obj _ _ stand7
      refine thnF (ag.run _ q7 _ G7 x u _ (J7.pinned (cl J7 none7) objs7) rx (step x G7 yld)) ?_
      rintro _ q8 ⟨τ, G8, J8, wiped8, rest8⟩
      refine thnF (at'.run _ q8 τ G8 _ J8 rest8) ?_
      rintro b q9 ⟨G9, J9, rest9⟩
      have fin : ∀ {q : Shared} {G : Hp}, Inv (X.blk q3 G3 scope ce fp) ([] ++ pinsAt fp q7.heap) τ G q → Nx G → ∃ m, m < n ∧ ∃ i G, Inv (X.blk q3 G3 scope ce fp) [] (wipe σ (own.map (·.2))) G q ∧ tn i q.heap ∧ (∀ b ∈ fp, G b = none) ∧ W i m G := fun {q G} J' nx => by
        obtain ⟨m', lt, w'⟩ := next G nx
        have pin : ∀ b ∈ fp, ∀ o, q7.heap.get? b = some o → q.heap.get? b = some o ∧ G b = none := fun b hb o e => by
          have z := J'.pin (b, o) (List.mem_append_right _ (List.mem_append_right _ (mem_pinsAt hb e)))
          exact ⟨z.1, z.2.1⟩
        have len : (wipe σ (own.map (·.2))).length = τ.length := by rw [← wiped8]; exact (wipe_length _ _).symm ▸ rfl
        have weak := (J'.unpinned (pins := [])).weak len (fun j v e => (wipe_some (wiped8 ▸ e)).1)
        refine ⟨m', lt, i + 1, G, weak, T.keep _ _ _ stand7 fun b hb o e => (pin b hb o e).1, fun b hb => ?_, w'⟩
        obtain ⟨o, e, _⟩ := objs7 b hb
        exact (pin b hb o e).2
      cases b with
      | false => exact fin J9 rest9
      | true =>
        refine thnF (ak.run _ q9 τ G9 _ J9 rest9) ?_
        rintro kvv q10 ⟨yk, G10, J10, rk, rest10⟩
        refine thnF (av.run _ q10 τ G10 _ J10 rest10) ?_
        rintro vvv q11 ⟨yv, G11, J11, rv, rows, ks, kb, rfl, atK, atD, less, nx⟩
        cases (show kvv = Value.ref kb from rk)
        exact set_tupKey (Y := X.blk q3 G3 scope ce fp) hu J11 atD atK less rv fun q12 J12 => fin J12 nx
  subst e4
  exact codeAny_compStart_dict loop (T.self X.A 0 _ _ _ stand4 loop)
end
end Fx

namespace Fx
open PySem PySem.Spec PyProof.Rows L2 StX RZ
/-! ### data whose tuples stand on the heap as such -/
mutual
inductive Dq (F : Hp) : V → PyData → Prop
  | non : Dq F .non .none
  | bl (b : Bool) : Dq F (.bl b) (.bool b)
  | int (i : Int) : Dq F (.int i) (.int i)
  | str (x : Str) : Dq F (.str x) (.str x)
  | lst {a : Addr} {xs : List V} {ds : List PyData} : F a = some (.lst xs) → Dqs F xs ds → Dq F (.ref a) (.list ds)
  | tup {a : Addr} {xs : List V} {ds : List PyData} : F a = some (.tup xs) → Dqs F xs ds → Dq F (.ref a) (.tuple ds)
inductive Dqs (F : Hp) : List V → List PyData → Prop
  | nil : Dqs F [] []
  | cons {v : V} {vs : List V} {d : PyData} {ds : List PyData} : Dq F v d → Dqs F vs ds → Dqs F (v :: vs) (d :: ds)
end
section
variable {K : PySem.W.Frag} {F F' : Hp}
mutual
theorem Dq.mono (e : Ex F F') : ∀ (d : PyData) {v : V}, Dq F v d → Dq F' v d
  | .none, _, h => by cases h; exact .non
  | .bool b, _, h => by cases h; exact .bl b
  | .int i, _, h => by cases h; exact .int i
  | .str x, _, h => by cases h; exact .str x
  | .list ds, _, h => by
    cases h with
    | lst h1 h2 => exact .lst (e _ _ h1) (Dqs.mono e ds h2)
  | .tuple ds, _, h => by
    cases h with
    | tup h1 h2 => exact .tup (e _ _ h1) (Dqs.mono e ds h2)
  | .dict _, _, h => by cases h
theorem Dqs.mono (e : Ex F F') : ∀ (ds : List PyData) {vs : List V}, Dqs F vs ds → Dqs F' vs ds
  | [], _, h => by cases h; exact .nil
  | d :: ds, _, h => by
    cases h with
    | cons h1 h2 => exact .cons (Dq.mono e d h1) (Dqs.mono e ds h2)
end
mutual
theorem Dq.dt : ∀ (d : PyData) {v : V}, Dq F v d → Dt K F v d
  | .none, _, h => by cases h; exact .non
  | .bool b, _, h => by cases h; exact .bl b
  | .int i, _, h => by cases h; exact .int i
  | .str x, _, h => by cases h; exact .str x
  | .list ds, _, h => by
    cases h with
    | lst h1 h2 => exact .lst h1 (Dqs.dts ds h2)
  | .tuple ds, _, h => by
    cases h with
    | tup h1 h2 => exact .tup (.inl (.inl h1)) (Dqs.dts ds h2)
  | .dict _, _, h => by cases h
theorem Dqs.dts : ∀ (ds : List PyData) {vs : List V}, Dqs F vs ds → Dts K F vs ds
  | [], _, h => by cases h; exact .nil
  | d :: ds, _, h => by
    cases h with
    | cons h1 h2 => exact .cons (Dq.dt d h1) (Dqs.dts ds h2)
end
theorem Dqs.len : ∀ {vs : List V} {ds : List PyData}, Dqs F vs ds → vs.length = ds.length
  | _, _, .nil => rfl
  | _, _, .cons _ h => by rw [List.length_cons, List.length_cons, h.len]
theorem Dqs.get : ∀ {vs : List V} {ds : List PyData} {i : Nat} {v : V}, Dqs F vs ds → vs[i]? = some v → ∃ d, ds[i]? = some d ∧ Dq F v d
  | _, _, _, _, .nil, e => by simp at e
  | _, _, 0, _, .cons h _, e => by simp at e; subst e; exact ⟨_, rfl, h⟩
  | _, _, i + 1, v, .cons _ h, e => by
    obtain ⟨d, h1, h2⟩ := h.get (i := i) (v := v) (by simpa using e)
    exact ⟨d, by simpa using h1, h2⟩
theorem Dqs.snoc : ∀ {vs : List V} {ds : List PyData} {v : V} {d : PyData}, Dqs F vs ds → Dq F v d → Dqs F (vs ++ [v]) (ds ++ [d])
  | _, _, _, _, .nil, h => .cons h .nil
  | _, _, _, _, .cons a b, h => .cons a (b.snoc h)
end
def dqP (d : PyData) : PR := ⟨fun _ F v => Dq F v d, fun x h => Dq.mono x d h⟩
/-- a pair of names, to ask a dict with -/
abbrev nKey (p : Nm × Nm) : List Key := [.inr p.1.s, .inr p.2.s]
theorem Dq.key {F : Hp} {v : V} {p : Nm × Nm} (h : Dq F v (nP p)) : ∃ b, v = .ref b ∧ F b = some (.tup ((nKey p).map kV)) := by
  cases h with
  | tup h1 h2 =>
    cases h2 with
    | cons a b =>
      cases b with
      | cons b c => cases a; cases b; cases c; exact ⟨_, rfl, h1⟩
theorem nKey_inj {p q : Nm × Nm} (h : nKey p = nKey q) : p = q := by
  obtain ⟨a, b⟩ := p
  obtain ⟨c, d⟩ := q
  have h1 : a.s = c.s := by
    have := List.head_eq_of_cons_eq h
    exact Sum.inr.inj this
  have h2 : b.s = d.s := by
    have := List.head_eq_of_cons_eq (List.tail_eq_of_cons_eq h)
    exact Sum.inr.inj this
  rw [Nm.ext h1, Nm.ext h2]
/-- a dict that never changes any more: which pairs are in it -/
def prDT (l : List (Nm × Nm)) : PR := ⟨fun _ F v => ∃ a rows, v = .ref a ∧ F a = some (.dT rows) ∧ ∀ p : Nm × Nm, (valV rows (nKey p)).isSome = decide (p ∈ l), fun x ⟨a, rows, e, h1, h2⟩ => ⟨a, rows, e, x _ _ h1, h2⟩⟩
/-- fields -/
inductive FldQ (K : PySem.W.Frag) (F : Hp) : List (Str × V) → List (Str × PR) → Prop
  | nil : FldQ K F [] []
  | cons {f : Str} {v : V} {q : PR} {vs : List (Str × V)} {fs : List (Str × PR)} : q.φ K F v → FldQ K F vs fs → FldQ K F ((f, v) :: vs) ((f, q) :: fs)
section
variable {K : PySem.W.Frag} {F F' : Hp}
theorem FldQ.mono (x : Ex F F') : ∀ {vs : List (Str × V)} {fs : List (Str × PR)}, FldQ K F vs fs → FldQ K F' vs fs
  | _, _, .nil => .nil
  | _, _, .cons (q := q) a b => .cons (q.mono x a) (b.mono x)
theorem FldQ.get : ∀ {vs : List (Str × V)} {fs : List (Str × PR)} {f : Str} {q : PR}, FldQ K F vs fs → fs.lookup f = some q → ∃ v, vs.lookup f = some v ∧ q.φ K F v
  | _, _, _, _, .nil, e => by cases e
  | _, _, f, q, .cons (f := g) (v := v) (q := q') a b, e => by
    rw [List.lookup_cons] at e ⊢
    split at e
    · rename_i h; cases e; exact ⟨v, rfl, a⟩
    · rename_i h; exact b.get e
theorem FldQ.len : ∀ {vs : List (Str × V)} {fs : List (Str × PR)}, FldQ K F vs fs → vs.length = fs.length
  | _, _, .nil => rfl
  | _, _, .cons _ b => by rw [List.length_cons, List.length_cons, b.len]
def putQ (f : Str) (q : PR) : List (Str × PR) → List (Str × PR)
  | [] => [(f, q)]
  | (g, r) :: fs => if g = f then (g, q) :: fs else (g, r) :: putQ f q fs
end
def insQ (C dx : Addr) (fs : List (Str × PR)) : OP := ⟨fun K F o => ∃ vs, o = .ins C dx vs ∧ FldQ K F vs fs, fun x ⟨vs, e, h⟩ => ⟨vs, e, h.mono x⟩⟩
def instP (C : Addr) (fs : List (Str × PR)) : PR := ⟨fun K F v => ∃ a dx vs, v = .ref a ∧ F a = some (.ins C dx vs) ∧ FldQ K F vs fs, fun x ⟨a, dx, vs, e, h1, h2⟩ => ⟨a, dx, vs, e, x _ _ h1, h2.mono x⟩⟩
section
variable {K : PySem.W.Frag} {F H : Hp} {R Ra Rb : List Ow} {a : Addr}
theorem At.updP {q q' : OP} {o : HO} (A : At K F (Ra ++ .p a q :: Rb) H) (h : q'.φ K F o) : At K F (Ra ++ .p a q' :: Rb) (upd H a o) := by
  have hF : F a = none := (A.own (.p a q) (by simp)).1
  have nd := A.nd
  rw [List.map_append, List.map_cons, List.nodup_append] at nd
  obtain ⟨n1, n2, n3⟩ := nd
  rw [List.nodup_cons] at n2
  refine ⟨A.ex.side hF, by rw [List.map_append, List.map_cons, List.nodup_append]; exact ⟨n1, List.nodup_cons.mpr n2, n3⟩, fun r hr => ?_⟩
  have key : r ∈ Ra ∨ r ∈ Rb → r.ad ≠ a := by
    rintro (hr | hr) e
    · exact n3 r.ad (List.mem_map_of_mem hr) a (by simp [Ow.ad]) e
    · exact n2.1 (by show a ∈ _; rw [← e]; exact List.mem_map_of_mem hr)
  simp only [List.mem_append, List.mem_cons] at hr
  rcases hr with hr | rfl | hr
  · obtain ⟨h1, h2⟩ := A.own r (by simp [hr])
    exact ⟨h1, h2.mono (Ex.refl F) fun u q => by rw [upd_ne (key (.inl hr))]; exact q⟩
  · exact ⟨hF, o, upd_same, h⟩
  · obtain ⟨h1, h2⟩ := A.own r (by simp [hr])
    exact ⟨h1, h2.mono (Ex.refl F) fun u q => by rw [upd_ne (key (.inr hr))]; exact q⟩
theorem At.newP {q : OP} {o : HO} (A : At K F R H) (hp : H a = none) (h : q.φ K F o) : At K F (.p a q :: R) (upd H a o) := by
  refine ⟨A.ex.side (fresh_back A.ex hp), ?_, fun r hr => ?_⟩
  · rw [List.map_cons, List.nodup_cons]
    refine ⟨fun hm => ?_, A.nd⟩
    obtain ⟨r, hr, e⟩ := List.mem_map.mp hm
    obtain ⟨u, ho⟩ := (A.own r hr).2.some
    rw [e] at ho
    rw [show (Ow.p a q).ad = a from rfl, hp] at ho; cases ho
  · rcases List.mem_cons.mp hr with rfl | hr
    · exact ⟨fresh_back A.ex hp, o, upd_same, h⟩
    · obtain ⟨h1, h2⟩ := A.own r hr
      obtain ⟨u, ho⟩ := h2.some
      exact ⟨h1, h2.mono (Ex.refl F) fun w q => by rw [upd_ne (ne_of_none ho hp)]; exact q⟩
/-- what is owned is frozen, whatever it is -/
theorem At.frz {r : Ow} {o : HO} (A : At K F (r :: R) H) (ho : H r.ad = some o) : Ex F (upd F r.ad o) ∧ At K (upd F r.ad o) R H := by
  have hF : F r.ad = none := (A.own r (by simp)).1
  have x := Ex.new (o := o) hF
  have nd := A.nd
  rw [List.map_cons, List.nodup_cons] at nd
  refine ⟨x, ⟨fun b u hb => ?_, nd.2, fun r' hr => ?_⟩⟩
  · by_cases hba : b = r.ad
    · subst hba; rw [upd_same] at hb; cases hb; exact ho
    · rw [upd_ne hba] at hb; exact A.ex _ _ hb
  · obtain ⟨h1, h2⟩ := A.own r' (List.mem_cons_of_mem _ hr)
    have hne : r'.ad ≠ r.ad := fun e => nd.1 (by rw [← e]; exact List.mem_map_of_mem hr)
    exact ⟨by rw [upd_ne hne]; exact h1, h2.mono x fun _ h => h⟩
theorem At.drop1 {r : Ow} (A : At K F (r :: R) H) : At K F R H := A.sub (List.sublist_cons_self r R)
end
section
variable {K : PySem.W.Frag} {ρ ρ' : List En} {R R1 Rz R3 : List Ow} {e x y z : En} {ta tb tc te to ti td : TE} {t u tt : TT} {Q : En → List Ow → Prop} {ts : TA} {P : Post} {b1 b2 : TS} {g : TG} {wi : TI}
/-- an entity is read otherwise -/
theorem evp_conv {e e' : En} (h : ∀ F v, EnOk K F v e → EnOk K F v e') (q : Evp K te ρ R fun x R => x = e ∧ Q e' R) : Evp K te ρ R Q := fun R0 F H σ S A Q' q' =>
  q R0 F H σ S A Q' fun x R1 v F1 H1 ⟨hx, hq⟩ x1 A1 e1 => by subst hx; exact q' _ _ v F1 H1 hq x1 A1 (h _ _ e1)
theorem gp_asD {d : PyData} (h : Evp K te ρ R fun e R1 => e = .g (dqP d) ∧ Q (.d d) R1) : Evp K te ρ R Q := evp_conv (e := .g (dqP d)) (e' := .d d) (fun F v h => Dq.dt d h) h
/-- an attribute -/
theorem gp_fldG {C : Addr} {f : Str} (c : Cls K C) (n : NoAttr K C f) (h : Evp K te ρ R fun e R1 => ∃ fs q, e = .g (instP C fs) ∧ fs.lookup f = some q ∧ Q (.g q) R1) : Evp K (tFld K te f) ρ R Q := fun R0 F H σ S A Q' q' =>
  h R0 F H σ S A _ fun e R1 v F1 H1 ⟨fs, q, he, hf, hq⟩ x1 A1 e1 => by
    subst he
    obtain ⟨a, dx, vs, rfl, h1, h2⟩ := e1
    obtain ⟨w, h3, h4⟩ := h2.get hf
    exact ⟨a, C, dx, vs, w, rfl, A1.ex _ _ h1, c, n, h3, q' _ R1 w F1 H1 hq x1 A1 h4⟩
theorem gp_fldD {C : Addr} {f : Str} (c : Cls K C) (n : NoAttr K C f) (h : Evp K te ρ R fun e R1 => ∃ fs d, e = .g (instP C fs) ∧ fs.lookup f = some (dqP d) ∧ Q (.d d) R1) : Evp K (tFld K te f) ρ R Q := fun R0 F H σ S A Q' q' =>
  gp_fldG c n (Q := fun e R1 => ∃ d, e = .g (dqP d) ∧ Q (.d d) R1) (fun R0 F H σ S A Q' q' => h R0 F H σ S A Q' fun e R1 v F1 H1 ⟨fs, d, he, hf, hq⟩ => q' e R1 v F1 H1 ⟨fs, _, he, hf, d, rfl, hq⟩) R0 F H σ S A Q' fun e R1 v F1 H1 ⟨d, he, hq⟩ x1 A1 e1 => by
    subst he
    exact q' _ R1 v F1 H1 hq x1 A1 (Dq.dt d e1)
/-- x.f = e, x being made -/
theorem sp_fld {C dx a : Addr} {f : Str} {fs : List (Str × PR)} {Ra Rb : List Ow} (c : Cls K C) (n : NoAttr K C f) (hl : fs.length < 1000) (hno : fs.lookup f = none) (h : Evp K te ρ R fun e R1 => ∃ q, e = .g q ∧ Evp K to ρ R1 fun e2 R2 => e2 = .o a ∧ R2 = Ra ++ .p a (insQ C dx fs) :: Rb ∧ P.nx ρ (Ra ++ .p a (insQ C dx (fs ++ [(f, q)])) :: Rb)) : Es K (sFld K to te f) ρ R P := fun R0 F H σ D S A p =>
  h R0 F H σ S A _ fun e R1 v F1 H1 ⟨q, he, h1⟩ x1 A1 e1 => by
    subst he
    exact h1 R0 F1 H1 σ (S.mono x1) A1 _ fun e2 R2 u F2 H2 ⟨he2, hR, hn⟩ x2 A2 e2 => by
      subst he2 hR
      cases e2
      obtain ⟨_, o, ho, vs, rfl, hv⟩ := A2.own (.p a (insQ C dx fs)) (by simp)
      refine ⟨a, C, dx, vs, rfl, ho, c, n, by rw [hv.len]; exact hl, p.nx _ _ σ F2 _ hn (x1.trans x2) (S.mono (x1.trans x2)) ?_⟩
      rw [List.append_assoc, List.cons_append] at A2 ⊢
      refine A2.updP ⟨_, rfl, ?_⟩
      have put : ∀ {vs : List (Str × V)} {fs : List (Str × PR)}, FldQ K F2 vs fs → fs.lookup f = none → FldQ K F2 (putF f v vs) (fs ++ [(f, q)]) := by
        intro vs fs hf
        induction hf with
        | nil => intro _; exact .cons (q.mono x2 e1) .nil
        | @cons g w r vs fs h1 h2 ih =>
          intro hn
          rw [List.lookup_cons] at hn
          split at hn
          · cases hn
          · rename_i hne
            have hg : ¬ g = f := fun e => by subst e; simp at hne
            have : putF f v ((g, w) :: vs) = (g, w) :: putF f v vs := by simp [putF, hg]
            rw [this]
            exact .cons h1 (ih hn)
      exact put hv hno
/-- C(..) -/
theorem gp_make {C : Addr} {Pre : List En → List Ow → (En → List Ow → Prop) → Prop} (h : Eap K ts ρ R fun es R1 => ∃ fs, (∀ x dx, Pre (.o x :: es) [.p x (insQ C dx [])] fun e R' => e = .d .none ∧ R' = [.p x (insQ C dx fs)]) ∧ Q (.g (instP C fs)) R1) : Evp K (tMake C (spN K Pre) [] E0 ts) ρ R Q := fun R0 F H σ S A Q' q' =>
  h R0 F H σ S A _ fun es R1 vs F1 H1 ⟨fs, hp, hq⟩ x1 A1 e1 => by
    intro x dx hx hdx hne
    rw [List.append_nil]
    obtain ⟨y1, B1⟩ := A1.new (.own x) hdx
    have hx2 : upd H1 dx (.own x) x = none := by rw [upd_ne (Ne.symm hne)]; exact hx
    have B2 := B1.newP (q := insQ C dx []) (o := .ins C dx []) hx2 ⟨[], rfl, .nil⟩
    refine ⟨.o x :: es, [.p x (insQ C dx [])], R1 ++ R0, _, _, hp x dx, .cons rfl (e1.mono y1), B2, fun e R' v F2 H2 ⟨he, hR⟩ x2 A2 e2 => ?_⟩
    subst he hR
    cases e2
    obtain ⟨_, o, ho, vs2, rfl, hv⟩ := A2.own (.p x (insQ C dx fs)) (by simp)
    obtain ⟨x3, A3⟩ := At.frz (r := .p x (insQ C dx fs)) A2 ho
    exact ⟨rfl, q' _ R1 _ _ H2 hq (x1.trans (y1.trans (x2.trans x3))) A3 ⟨x, dx, vs2, rfl, upd_same, hv.mono x3⟩⟩
/-- tuple([.. for x in ..]), the items strict -/
theorem gp_tupQ {vs : List Nat} {ds : List PyData} (h : Eip K wi ρ R fun xs R1 => xs = ds ∧ xs.length ≤ sizeLine ∧ (∀ d ∈ ds, ∃ ρ', EgW K g vs (.d d) (wiped ρ vs) ρ' ∧ Evp K te ρ' R1 fun e R2 => e = .g (dqP d) ∧ R2 = R1) ∧ Q (.g (dqP (.tuple ds))) R1) : Evp K (tCB (rTupS K) (tCons (tLc wi g tYes te vs) tNil)) ρ R Q := by
  intro R0 F H σ S A Q' q'
  show tLc wi g tYes te vs σ H fun x H1 => rTupS K [x] H1 Q'
  refine h R0 F H σ S A _ fun xs R1 J F1 H1 ⟨hxs, hz, he, hq⟩ x1 A1 W D hD => ?_
  subst hxs
  obtain ⟨G, Y, w, hG, hY⟩ := W
  refine L2.lc_it w (fun i H' => ∃ F' acc, Ex F1 F' ∧ At K F' (.rw D (.lst acc) :: (R1 ++ R0)) H' ∧ Dqs F' acc (xs.take i)) ?_ ?_ ?_ ?_
  · exact ⟨F1, [], Ex.refl F1, A1.ownR hD, .nil⟩
  · rintro i H' hi ⟨F', acc, x, A', _⟩
    exact hG F' _ H' x A'
  · rintro i v H' H'' hi ⟨F', acc, x, A', hacc⟩ y
    obtain ⟨d, hdx⟩ : ∃ d, xs[i]? = some d := ⟨xs[i], List.getElem?_eq_getElem hi⟩
    obtain ⟨F2, x2, A2, d2⟩ := hY i v d F' _ H' H'' x A' y hdx
    have S2 : Sls K F2 (wipe σ vs) (wiped ρ vs) := ((S.mono (x1.trans (x.trans x2))).wipe vs)
    obtain ⟨ρ', hg, ht⟩ := he d (List.mem_of_getElem? hdx)
    refine hg _ F2 H'' _ v S2 A2 d2 _ fun σ2 S3 hwp => ⟨by rw [hwp, wipe_idem], ?_⟩
    unfold tYes
    dsimp only
    try rw [if_pos rfl]
    have A3 : At K F2 (R1 ++ (.rw D (.lst acc) :: R0)) H'' := A2.perm List.perm_middle.symm
    refine ht (.rw D (.lst acc) :: R0) F2 H'' σ2 S3 A3 _ fun e R4 yv F4 H4 ⟨hee, hR⟩ x4 A4 e4 => ?_
    subst hee hR
    have hD4 : H4 D = some (.lst acc) := (A4.own (.rw D (.lst acc)) (by simp)).2
    have hlen : acc.length = i := by rw [hacc.len, List.length_take]; omega
    refine ⟨acc, hD4, by omega, F4, acc ++ [yv], (x.trans x2).trans x4, ?_, ?_⟩
    · exact (At.updR A4).perm List.perm_middle
    · have : xs.take (i + 1) = xs.take i ++ [d] := by rw [List.take_succ, hdx]; rfl
      rw [this]
      exact (Dqs.mono (x2.trans x4) _ hacc).snoc e4
  · rintro H' ⟨F', acc, x, A', hacc⟩
    rw [List.take_length] at hacc
    have hD' : H' D = some (.lst acc) := (A'.own (.rw D (.lst acc)) (by simp)).2
    refine ⟨D, acc, rfl, .inl ⟨.inl (.inl hD'), fun l hl => ?_⟩⟩
    obtain ⟨x3, A3⟩ := A'.drop1.new (.tup acc) hl
    exact q' _ R1 _ _ _ hq (x1.trans (x.trans x3)) A3 (.tup upd_same (Dqs.mono x3 _ hacc))
/-- walks of dict comprehensions -/
theorem dcT_it {J : It} {n : Nat} {G : Hp → Prop} {Y : Nat → Hp → V → Hp → Prop} (w : L2.Walk J n G Y) {tk tv : TE} {vs : List Nat} {σ : L2.St} {H1 : Hp} {D : Addr} {Qd : Hp → Prop} (Pv : Nat → Hp → Prop) (h0 : Pv 0 (upd H1 D (.dT []))) (hG : ∀ i H, i ≤ n → Pv i H → G H)
    (hs : ∀ i x H H', i < n → Pv i H → Y i H x H' → g x (wipe σ vs) H' fun σ2 H2 => wipe σ2 vs = wipe σ vs ∧ tt σ2 H2 fun b H3 =>
      if b = true then tk σ2 H3 fun y H4 => tv σ2 H4 fun z H5 => ∃ rows ks kb, y = .ref kb ∧ H5 kb = some (.tup (ks.map kV)) ∧ H5 D = some (.dT rows) ∧ rows.length < sizeLine ∧ Pv (i + 1) (upd H5 D (.dT (putK rows ks z))) else Pv (i + 1) H3) (hd : ∀ H, Pv n H → Qd H) :
    ∃ W : Nat → Nat → Hp → Prop, (∃ m, W 0 m (upd H1 D (.dT []))) ∧ ∀ i m H, W i m H →
      (J.stop i H ∧ Qd H) ∨ (J.go i H ∧ ∃ Nx : Hp → Prop, (∀ H', Nx H' → ∃ m', m' < m ∧ W (i + 1) m' H') ∧ ∀ x H', J.yld i H x H' → g x (wipe σ vs) H' fun σ2 H2 => wipe σ2 vs = wipe σ vs ∧ tt σ2 H2 fun b H3 =>
        if b = true then tk σ2 H3 fun y H4 => tv σ2 H4 fun z H5 => ∃ rows ks kb, y = .ref kb ∧ H5 kb = some (.tup (ks.map kV)) ∧ H5 D = some (.dT rows) ∧ rows.length < sizeLine ∧ Nx (upd H5 D (.dT (putK rows ks z))) else Nx H3) := by
  refine ⟨fun i m H => n = i + m ∧ Pv i H, ⟨n, by omega, h0⟩, fun i m H ⟨hm, p⟩ => ?_⟩
  have q := hG i H (by omega) p
  cases m with
  | zero =>
    have e : n = i := by omega
    subst e
    exact .inl ⟨w.stops H q, hd H p⟩
  | succ m =>
    have lt : i < n := by omega
    exact .inr ⟨w.goes i H lt q, Pv (i + 1), fun H' p' => ⟨m, Nat.lt_succ_self m, by omega, p'⟩, fun x H' y => hs i x H H' lt p (w.yields i H x H' lt q y)⟩
/-- {pair: True for pair in pairs} -/
theorem gp_dcPairs {i : Nat} {l : List (Nm × Nm)} (hl : l.length ≤ 1000000) (hi : i < ρ.length) (h : Evp K te ρ R fun e R1 => e = .g (dqP (.tuple (l.map nP))) ∧ Q (.g (prDT l)) R1) : Evp K (tDcT (iAny K te) (gName i) tYes (tVar i) (tC (.bl true)) [i]) ρ R Q := by
  intro R0 F H σ S A Q' q'
  refine .inr (h R0 F H σ S A _ fun e R1 v F1 H1 ⟨he, hq⟩ x1 A1 e1 => ?_)
  subst he
  have hslen : ∀ {σ : L2.St} {ρ : List En}, Sls K F σ ρ → σ.length = ρ.length := by
    intro σ ρ h
    induction h with
    | nil => rfl
    | cons _ _ ih => rw [List.length_cons, List.length_cons, ih]
  have hil : i < σ.length := by rw [hslen S]; exact hi
  cases e1 with
  | @tup a xs _ hT hd =>
  refine ⟨a, rfl, ⟨_, A1.sqT (.inl (.inl hT))⟩, fun D hD => ?_⟩
  have hlen := hd.len
  rw [List.length_map] at hlen
  refine dcT_it (walk_tup (K := K) (a := a) (xs := xs)) (fun j H' => ∃ rows, At K F1 (.rw D (.dT rows) :: (R1 ++ R0)) H' ∧ rows.length ≤ j ∧ ∀ p : Nm × Nm, (valV rows (nKey p)).isSome = decide (p ∈ l.take j)) ?_ ?_ ?_ ?_
  · exact ⟨[], A1.ownR hD, Nat.le_refl _, fun p => by simp [valV_nil]⟩
  · rintro j H' _ ⟨rows, A', _⟩
    exact A'.sqT (.inl (.inl hT))
  · rintro j x H' H'' hj ⟨rows, A', hr, hp⟩ ⟨rfl, hx⟩
    obtain ⟨d, hd1, hd2⟩ := hd.get hx
    rw [List.getElem?_map] at hd1
    obtain ⟨p, hpj, rfl⟩ : ∃ p, l[j]? = some p ∧ d = nP p := by
      cases e : l[j]? with
      | none => rw [e] at hd1; cases hd1
      | some p => rw [e] at hd1; exact ⟨p, rfl, (Option.some.inj hd1).symm⟩
    obtain ⟨b, rfl, hb⟩ := hd2.key
    have hw : ((wipe σ [i]).set i (some (V.ref b)))[i]? = some (some (V.ref b)) := List.getElem?_set_self (by rw [wipe_length]; exact hil)
    refine ⟨by rw [wipe_set (by simp), wipe_idem], ?_⟩
    unfold tYes
    dsimp only
    try rw [if_pos rfl]
    refine ⟨_, hw, rows, nKey p, b, rfl, A'.ex _ _ hb, (A'.own (.rw D (.dT rows)) (by simp)).2, Nat.lt_of_le_of_lt hr (Nat.lt_of_lt_of_le (Nat.lt_of_lt_of_le hj (by omega)) (show 1000000 ≤ sizeLine by decide)), _, At.updR (Ra := []) A', ?_, fun q => ?_⟩
    · have := length_putK rows (nKey p) (.bl true)
      omega
    · rw [valV_put, List.take_succ, hpj, Option.toList_some]
      by_cases e : nKey q = nKey p
      · have := nKey_inj e
        subst this
        rw [if_pos rfl]
        simp
      · rw [if_neg e, hp]
        have : q ≠ p := fun h => e (by rw [h])
        simp [this]
  · rintro H' ⟨rows, A', hr, hp⟩
    obtain ⟨x3, A3⟩ := At.frz (r := .rw D (.dT rows)) A' (A'.own (.rw D (.dT rows)) (by simp)).2
    refine q' _ R1 _ _ H' hq (x1.trans x3) A3 ⟨D, rows, rfl, upd_same, fun p => ?_⟩
    rw [hp, hlen, List.take_length]
/-- (a, b) in pairs -/
theorem gp_inPair {neg : Bool} {tD : TE → TE → TE} (hD : tD = if neg then tDNotIn else tDIn) (h : Evp K ta ρ R fun e1 R1 => Evp K tb ρ R1 fun e2 R2 => ∃ a b : Nm, e1 = .d (nS a) ∧ e2 = .d (nS b) ∧ Evp K td ρ R2 fun e3 R3 => ∃ l, e3 = .g (prDT l) ∧ Q (.d (.bool (if neg then !decide ((a, b) ∈ l) else decide ((a, b) ∈ l)))) R3) : Evp K (tD (tTup (tCons ta (tCons tb tNil))) td) ρ R Q := by
  subst hD
  intro R0 F H σ S A Q' q'
  have core : ∀ (Q2 : V → Hp → Prop), (∀ (k b : Addr) (o : Option V) (F3 H3 : Hp) (R3 : List Ow) (l : List (Nm × Nm)) (pa pb : Nm), DGet H3 k (.ref b) o → o.isSome = decide ((pa, pb) ∈ l) → Ex F F3 → At K F3 (R3 ++ R0) H3 → Q (.d (.bool (if neg then !decide ((pa, pb) ∈ l) else decide ((pa, pb) ∈ l)))) R3 → ∃ a o, V.ref k = .ref a ∧ DGet H3 a (.ref b) o ∧ Q' (.bl (if neg then !o.isSome else o.isSome)) H3) → tTup (tCons ta (tCons tb tNil)) σ H (fun y H1 => td σ H1 fun x H2 => ∃ a o, x = .ref a ∧ DGet H2 a y o ∧ Q' (.bl (if neg then !o.isSome else o.isSome)) H2) := by
    intro _ fin
    refine h R0 F H σ S A _ fun e1 R1 v1 F1 H1 h1 x1 A1 o1 => h1 R0 F1 H1 σ (S.mono x1) A1 _ fun e2 R2 v2 F2 H2 h2 x2 A2 o2 => ?_
    obtain ⟨a, b, rfl, rfl, h3⟩ := h2
    have o1' := EnOk.mono x2 o1
    cases o1'
    cases o2
    refine ⟨by show 2 ≤ sizeLine; decide, fun p hp => ?_⟩
    obtain ⟨x3, A3⟩ := A2.new (.tup [V.str a.s, V.str b.s]) hp
    refine h3 R0 _ _ σ (S.mono (x1.trans (x2.trans x3))) A3 _ fun e3 R3 v3 F4 H4 h4 x4 A4 o4 => ?_
    obtain ⟨l, rfl, hq⟩ := h4
    obtain ⟨k, rows, rfl, hk, hm⟩ := o4
    have hb : H4 p = some (.tup ((nKey (a, b)).map kV)) := A4.ex _ _ (x4 _ _ upd_same)
    exact fin k p _ F4 H4 R3 l a b (.t (A4.ex _ _ hk) hb) (hm (a, b)) (x1.trans (x2.trans (x3.trans x4))) A4 hq
  cases neg with
  | true =>
    refine core (fun _ _ => True) fun k b o F3 H3 R3 l pa pb hg ho x A3 hq => ⟨k, o, rfl, hg, ?_⟩
    rw [ho]
    exact q' _ R3 _ F3 H3 hq x A3 (.bl _)
  | false =>
    refine core (fun _ _ => True) fun k b o F3 H3 R3 l pa pb hg ho x A3 hq => ⟨k, o, rfl, hg, ?_⟩
    rw [ho]
    exact q' _ R3 _ F3 H3 hq x A3 (.bl _)
end
end Fx

namespace Fx
open PySem PySem.Spec PyProof.Rows L2 StX RZ
/-! ### marks: a list that is changed later is owned from the start -/
def tLstO (ts : TA) : TE := tLst ts
def tLcO (wi : TI) (g : TG) (tt : TT) (te : TE) (vs : List Nat) : TE := tLc wi g tt te vs
def tRepO (ta te : TE) : TE := tOp rRep ta te
/-! ### + and [] of texts, too -/
def rAddS : L2.R2 := fun x y H Q => ∃ i j, x = .str i ∧ y = .str j ∧ i.length + j.length ≤ sizeLine ∧ Q (.str (i ++ j)) H
def rAddB (K : PySem.W.Frag) : L2.R2 := fun x y H Q => rAddA K x y H Q ∨ rAddS x y H Q
def rIxB (K : PySem.W.Frag) : L2.R2 := fun x y H Q => rIxA K x y H Q ∨ rIxS x y H Q
section
variable {X : Cx} {K : PySem.W.Frag}
theorem peO {e : Expr} {ts : TA} (h : PE X e (tLst ts)) : PE X e (tLstO ts) := h
theorem peRepO {e : Expr} {ta te : TE} (h : PE X e (tOp rRep ta te)) : PE X e (tRepO ta te) := h
theorem peLcO {e : Expr} {wi : TI} {g : TG} {tt : TT} {te : TE} {vs : List Nat} (h : PE X e (tLc wi g tt te vs)) : PE X e (tLcO wi g tt te vs) := h
theorem psLcO {st : Stmt} {wi : TI} {g : TG} {tt : TT} {te : TE} {vs : List Nat} {i : Nat} (h : PS X st (tAsg (tLc wi g tt te vs) (gName i))) : PS X st (tAsg (tLcO wi g tt te vs) (gName i)) := h
theorem opAddB (hK : X.K = K := by rfl) : OpR X (binaryOp .Add) (rAddB K) := by subst hK; exact OpR.or opAdd op_add_str
theorem ixB (hK : X.K = K := by rfl) : IxR X (rIxB K) := by subst hK; exact IxR.or ixAny ix_str
/-- sum of a list or of a tuple -/
def rSumB (K : PySem.W.Frag) : List V → Hp → VK → Prop := fun vs H Q => rSum K vs H Q ∨ rSumT K vs H Q
theorem callSumB (hc : X.calm = true := by rfl) (hK : X.K = K := by rfl) : CallR X (.builtin "sum") (rSumB K) := by subst hK; exact CallR.or (cr_sum hc) (callSumT hc)
end
section
variable {K : PySem.W.Frag} {ρ ρ' : List En} {R R1 Rz R3 : List Ow} {e x y z : En} {ta tb tc te to ti td : TE} {t u tt : TT} {Q : En → List Ow → Prop} {ts : TA} {P : Post} {b1 b2 : TS} {g : TG} {wi : TI}
theorem rv_bA {r : En} (h : Rv K (rAddA K) x y R r) : Rv K (rAddB K) x y R r := fun R0 F H v u hv hu A Q q => .inl (h R0 F H v u hv hu A Q q)
theorem rv_bI {r : En} (h : Rv K (rIxA K) x y R r) : Rv K (rIxB K) x y R r := fun R0 F H v u hv hu A Q q => .inl (h R0 F H v u hv hu A Q q)
theorem rv_bS {a b : Str} (hl : a.length + b.length ≤ sizeLine) : Rv K (rAddB K) (.d (.str a)) (.d (.str b)) R (.d (.str (a ++ b))) := fun R0 F H v u hv hu A Q q => by
  cases hv; cases hu
  exact .inr ⟨a, b, rfl, rfl, hl, q _ F H (Ex.refl F) A (.str _)⟩
theorem rv_bC {a : Str} {i : Int} {c : Nat} (hl : a.length ≤ sizeLine) (h : L2.atI a.cps.toList i = some c) : Rv K (rIxB K) (.d (.str a)) (.d (.int i)) R (.d (.str ⟨#[c]⟩)) := fun R0 F H v u hv hu A Q q => by
  cases hv; cases hu
  exact .inr ⟨a, i, c, rfl, rfl, hl, h, q _ F H (Ex.refl F) A (.str _)⟩
/-! operators, each result as a rule to go on with -/
theorem op_bI {i j : Int} (q : Q (.d (.int (i + j))) R) : Rvp K (rAddB K) (.d (.int i)) (.d (.int j)) R Q := rvp_of (rv_bA rv_addI) q
theorem op_bL {l m : List PyData} (hl : l.length + m.length ≤ 1000000) (q : Q (.d (.list (l ++ m))) R) : Rvp K (rAddB K) (.d (.list l)) (.d (.list m)) R Q := rvp_of (rv_bA (rv_addL (small hl))) q
theorem op_bT {l m : List PyData} (hl : l.length + m.length ≤ 1000000) (q : Q (.d (.tuple (l ++ m))) R) : Rvp K (rAddB K) (.d (.tuple l)) (.d (.tuple m)) R Q := rvp_of (rv_bA (rv_addT (small hl))) q
theorem op_bS {a b : Str} (hl : a.length + b.length ≤ 1000000) (q : Q (.d (.str (a ++ b))) R) : Rvp K (rAddB K) (.d (.str a)) (.d (.str b)) R Q := rvp_of (rv_bS (small hl)) q
theorem op_iL {l : List PyData} {i : Int} {d : PyData} (h : L2.atI l i = some d) (q : Q (.d d) R) : Rvp K (rIxB K) (.d (.list l)) (.d (.int i)) R Q := rvp_of (rv_bI (rv_iL h)) q
theorem op_iT {l : List PyData} {i : Int} {d : PyData} (h : L2.atI l i = some d) (q : Q (.d d) R) : Rvp K (rIxB K) (.d (.tuple l)) (.d (.int i)) R Q := rvp_of (rv_bI (rv_iT h)) q
theorem op_iLm {α : Type} {enc : α → PyData} {l : List α} {j : Nat} {a : α} (h : l[j]? = some a) (q : Q (.d (enc a)) R) : Rvp K (rIxB K) (.d (.list (l.map enc))) (.d (.int (j : Int))) R Q := op_iL (atI_map h) q
theorem op_iTm {α : Type} {enc : α → PyData} {l : List α} {j : Nat} {a : α} (h : l[j]? = some a) (q : Q (.d (enc a)) R) : Rvp K (rIxB K) (.d (.tuple (l.map enc))) (.d (.int (j : Int))) R Q := op_iT (atI_map h) q
theorem op_iH {a : Addr} {ds : List PyData} {up : List PyData → List Ow} {rest : List Ow} {i : Int} {d : PyData} (hh : Hold a R ds up rest) (h : L2.atI ds i = some d) (q : Q (.d d) R) : Rvp K (rIxB K) (.o a) (.d (.int i)) R Q := rvp_of (rv_bI (rv_iH hh h)) q
theorem op_i0 {g : Int → Int → Int} {i j : Int} (q : Q (.d (.int (g i j))) R) : Rvp K (rI0 fun i j => .int (g i j)) (.d (.int i)) (.d (.int j)) R Q := rvp_of rv_int q
theorem op_b0 {g : Int → Int → Bool} {i j : Int} (q : Q (.d (.bool (g i j))) R) : Rvp K (rI0 fun i j => .bl (g i j)) (.d (.int i)) (.d (.int j)) R Q := rvp_of rv_bl q
theorem op_c {C : Int → Int → Prop} {g : Int → Int → Int} {i j : Int} (hc : C i j) (q : Q (.d (.int (g i j))) R) : Rvp K (rI C fun i j => .int (g i j)) (.d (.int i)) (.d (.int j)) R Q := rvp_of (rv_intC hc) q
theorem op_eqI {i j : Int} (q : Q (.d (.bool (decide (i = j)))) R) : Rvp K (rEqD K) (.d (.int i)) (.d (.int j)) R Q := rvp_of rv_eqI q
theorem op_neI {i j : Int} (q : Q (.d (.bool (!decide (i = j)))) R) : Rvp K (rNeD K) (.d (.int i)) (.d (.int j)) R Q := rvp_of rv_neI q
theorem op_eqN {a b : Nm} (q : Q (.d (.bool (decide (a = b)))) R) : Rvp K (rEqD K) (.d (.str a.s)) (.d (.str b.s)) R Q := rvp_of rv_eqN q
theorem op_eqD {d f : PyData} (h1 : SeqAt.shaped d = true) (h2 : SeqAt.shaped f = true) (q : Q (.d (.bool (PyData.eqv d f))) R) : Rvp K (rEqD K) (.d d) (.d f) R Q := rvp_of (rv_eqD h1 h2) q
theorem op_neD {d f : PyData} (h1 : SeqAt.shaped d = true) (h2 : SeqAt.shaped f = true) (q : Q (.d (.bool (!PyData.eqv d f))) R) : Rvp K (rNeD K) (.d d) (.d f) R Q := rvp_of (rv_neD h1 h2) q
theorem op_inT {a : Nm} {l : List Nm} (q : Q (.d (.bool (decide (a ∈ l)))) R) : Rvp K (rIn K false) (.d (.str a.s)) (.d (.tuple (l.map nS))) R Q := rvp_of (rv_inN false true) q
theorem op_inL {a : Nm} {l : List Nm} (q : Q (.d (.bool (decide (a ∈ l)))) R) : Rvp K (rIn K false) (.d (.str a.s)) (.d (.list (l.map nS))) R Q := rvp_of (rv_inN false false) q
theorem op_niT {a : Nm} {l : List Nm} (q : Q (.d (.bool (!decide (a ∈ l)))) R) : Rvp K (rIn K true) (.d (.str a.s)) (.d (.tuple (l.map nS))) R Q := rvp_of (rv_inN true true) q
theorem op_niL {a : Nm} {l : List Nm} (q : Q (.d (.bool (!decide (a ∈ l)))) R) : Rvp K (rIn K true) (.d (.str a.s)) (.d (.list (l.map nS))) R Q := rvp_of (rv_inN true false) q
/-! built-ins -/
theorem bi_lenL {ds : List PyData} (q : Q (.d (.int (ds.length : Int))) R) : Rcp K (rLenS K) [.d (.list ds)] R Q := rcp_of rc_lenL q
theorem bi_lenT {ds : List PyData} (q : Q (.d (.int (ds.length : Int))) R) : Rcp K (rLenS K) [.d (.tuple ds)] R Q := rcp_of rc_lenT q
theorem bi_lenLm {α : Type} {enc : α → PyData} {l : List α} (q : Q (.d (.int (l.length : Int))) R) : Rcp K (rLenS K) [.d (.list (l.map enc))] R Q := bi_lenL (by rw [List.length_map]; exact q)
theorem bi_lenTm {α : Type} {enc : α → PyData} {l : List α} (q : Q (.d (.int (l.length : Int))) R) : Rcp K (rLenS K) [.d (.tuple (l.map enc))] R Q := bi_lenT (by rw [List.length_map]; exact q)
theorem bi_lenH {a : Addr} {ds : List PyData} {up : List PyData → List Ow} {rest : List Ow} (hh : Hold a R ds up rest) (q : Q (.d (.int (ds.length : Int))) R) : Rcp K (rLenS K) [.o a] R Q := rcp_of (rc_lenH hh) q
theorem bi_tupL {ds : List PyData} (q : Q (.d (.tuple ds)) R) : Rcp K (rTupS K) [.d (.list ds)] R Q := rcp_of rc_tupL q
theorem bi_tupH {a : Addr} {ds : List PyData} {up : List PyData → List Ow} {rest : List Ow} (hh : Hold a R ds up rest) (q : Q (.d (.tuple ds)) R) : Rcp K (rTupS K) [.o a] R Q := rcp_of (rc_tupH hh) q
theorem bi_listT {ds : List PyData} (q : Q (.d (.list ds)) R) : Rcp K (rListS K) [.d (.tuple ds)] R Q := rcp_of rc_listT q
theorem bi_sum {α : Type} {f : α → Int} {l : List α} (q : Q (.d (.int (l.map f).sum)) R) : Rcp K (rSum K) [.d (.list (l.map fun a => .int (f a)))] R Q := rcp_of rc_sumM q
theorem bi_sumL {ns : List Int} (q : Q (.d (.int ns.sum)) R) : Rcp K (rSumB K) [.d (.list (ns.map .int))] R Q := fun R0 F H vs e1 A Q' q' => .inl (rc_sum R0 F H vs e1 A Q' fun w F1 H1 x1 A1 e3 => q' _ R w F1 H1 q x1 A1 e3)
theorem bi_sumT {ns : List Int} (q : Q (.d (.int ns.sum)) R) : Rcp K (rSumB K) [.d (.tuple (ns.map .int))] R Q := fun R0 F H vs e1 A Q' q' => .inr (rc_sumT R0 F H vs e1 A Q' fun w F1 H1 x1 A1 e3 => q' _ R w F1 H1 q x1 A1 e3)
theorem bi_sumH {a : Addr} {ds : List PyData} {up : List PyData → List Ow} {rest : List Ow} {ns : List Int} (hh : Hold a R ds up rest) (e : ds = ns.map .int) (q : Q (.d (.int ns.sum)) R) : Rcp K (rSumB K) [.o a] R Q := fun R0 F H vs e1 A Q' q' => by
  subst e
  obtain ⟨Ra, Rb, rfl, _, _⟩ := hh.split
  obtain ⟨v, rfl, hv⟩ := ens1 e1
  cases hv
  obtain ⟨ws, h3, h4⟩ := at_ls A
  have := h4.ints
  subst this
  exact .inl ⟨a, ns, rfl, .inl (.inl h3), q' _ _ _ F H q (Ex.refl F) A (.int _)⟩
theorem bi_all {α : Type} {f : α → Bool} {l : List α} (q : Q (.d (.bool ((l.map f).all id))) R) : Rcp K (rAll K) [.d (.list (l.map fun a => .bool (f a)))] R Q := rcp_of rc_allM q
theorem bi_int {i : Int} (q : Q (.d (.int i)) R) : Rcp K rIntS [.d (.int i)] R Q := rcp_of rc_int q
theorem bi_isi {d : PyData} {n : String} {b : Bool} (hb : kitB (kindD d) n = some b) (q : Q (.d (.bool b)) R) : Rcp K (rIsi K) [.d d, .v (.ty n)] R Q := rcp_of (rc_isi hb) q
theorem bi_isiT {d : PyData} (q : Q (.d (.bool (isTupB d))) R) : Rcp K (rIsi K) [.d d, .v (.ty "tuple")] R Q := bi_isi (kit_tup d) q
theorem bi_isiL {d : PyData} (q : Q (.d (.bool (isLstB d))) R) : Rcp K (rIsi K) [.d d, .v (.ty "list")] R Q := bi_isi (kit_lst d) q
theorem bi_sortL {ds : List PyData} (hal : PySem.W.AllAlike ds) (hk : PySem.W.Sortable ds) (hd : ∀ d ∈ ds, d.depth ≤ 60) (q : Q (.d (.list (sortD ds))) R) : Rcp K (rSortD K) [.d (.list ds)] R Q := rcp_of (rc_sortL hal hk hd) q
/-! owned from the start -/
theorem gp_lstO (h : Eap K ts ρ R fun es R1 => ∃ ds, allD es = some ds ∧ ds.length ≤ 1000000 ∧ ∀ p, ∃ R2, New (.ls p ds) R1 R2 ∧ Q (.o p) R2) : Evp K (tLstO ts) ρ R Q := fun R0 F H σ S A Q' q' =>
  h R0 F H σ S A _ fun es R1 vs F1 H1 ⟨ds, h1, h2, h3⟩ x1 A1 e1 => by
    have e := allD_eq h1
    subst e
    refine ⟨by rw [e1.dts.len]; exact small h2, fun a ha => ?_⟩
    obtain ⟨R2, n, q⟩ := h3 a
    exact q' _ R2 _ F1 _ q x1 ((A1.own1 ha e1.dts).perm (n.perm.append_right R0).symm) rfl
theorem gp_lcO {vs : List Nat} (h : Eip K wi ρ R fun xs R1 => xs.length ≤ sizeLine ∧ LcP K g tt te vs (wiped ρ vs) xs R1 fun ys R2 => ∀ p, ∃ R3, New (.ls p ys) R2 R3 ∧ Q (.o p) R3) : Evp K (tLcO wi g tt te vs) ρ R Q := fun R0 F H σ S A Q' q' =>
  lc_core h R0 F H σ S A _ fun a ys R1 F1 H1 hq x1 A1 => by
    obtain ⟨R3, n, hn⟩ := hq a
    exact q' _ R3 _ F1 H1 hn x1 (A1.perm (n.perm.append_right R0).symm) rfl
theorem rep_flat (k : Int) : ∀ n : Nat, (List.replicate n [V.int k]).flatten = List.replicate n (V.int k)
  | 0 => rfl
  | n + 1 => by rw [List.replicate_succ, List.flatten_cons, List.replicate_succ, rep_flat k n]; rfl
theorem rep_dts {F : Hp} (k : Int) : ∀ n : Nat, Dts K F (List.replicate n (V.int k)) (List.replicate n (.int k))
  | 0 => .nil
  | n + 1 => by rw [List.replicate_succ, List.replicate_succ]; exact .cons (.int k) (rep_dts k n)
theorem gp_repO {k : Int} (h : Evp K te ρ R fun e R1 => ∃ n : Nat, e = .d (.int (n : Int)) ∧ n ≤ 1000000 ∧ ∀ p, ∃ R2, New (.ls p (List.replicate n (.int k))) R1 R2 ∧ Q (.o p) R2) : Evp K (tRepO (tLst (tCons (tC (.int k)) tNil)) te) ρ R Q := fun R0 F H σ S A Q' q' => by
  refine ⟨by show 1 ≤ sizeLine; decide, fun b hb => ?_⟩
  obtain ⟨x1, A1⟩ := A.new (.lst [.int k]) hb
  refine h R0 _ _ σ (S.mono x1) A1 _ fun e R1 v F2 H2 hh x2 A2 e2 => ?_
  obtain ⟨n, he, hn, hx⟩ := hh
  subst he
  cases e2
  have flat := rep_flat k n
  have hd := rep_dts (K := K) (F := F2) k n
  refine ⟨b, (n : Int), [.int k], rfl, rfl, A2.ex _ _ (x2 _ _ upd_same), by omega, by omega, ?_, fun a ha => ?_⟩
  · rw [Int.toNat_natCast]
    exact Nat.le_trans (by simp only [List.length_singleton]; omega) (show 1000000 ≤ sizeLine by decide)
  · rw [Int.toNat_natCast, flat]
    obtain ⟨R2, nw, hq⟩ := hx a
    exact q' _ R2 _ F2 _ hq (x1.trans x2) ((A2.own1 ha hd).perm (nw.perm.append_right R0).symm) rfl
/-- [k] * n, data -/
theorem gp_rep {k : Int} (h : Evp K te ρ R fun e R1 => ∃ n : Nat, e = .d (.int (n : Int)) ∧ n ≤ 1000000 ∧ Q (.d (.list (List.replicate n (.int k)))) R1) : Evp K (tOp rRep (tLst (tCons (tC (.int k)) tNil)) te) ρ R Q := fun R0 F H σ S A Q' q' => by
  refine ⟨by show 1 ≤ sizeLine; decide, fun b hb => ?_⟩
  obtain ⟨x1, A1⟩ := A.new (.lst [.int k]) hb
  refine h R0 _ _ σ (S.mono x1) A1 _ fun e R1 v F2 H2 hh x2 A2 e2 => ?_
  obtain ⟨n, he, hn, hx⟩ := hh
  subst he
  cases e2
  have flat := rep_flat k n
  refine ⟨b, (n : Int), [.int k], rfl, rfl, A2.ex _ _ (x2 _ _ upd_same), by omega, by omega, ?_, fun a ha => ?_⟩
  · rw [Int.toNat_natCast]
    exact Nat.le_trans (by simp only [List.length_singleton]; omega) (show 1000000 ≤ sizeLine by decide)
  · rw [Int.toNat_natCast, flat]
    obtain ⟨x3, A3⟩ := A2.new (.lst (List.replicate n (V.int k))) ha
    exact q' _ R1 _ _ _ hx (x1.trans (x2.trans x3)) A3 (.lst upd_same (rep_dts k n))
/-- a, b = e, f through a tuple -/
theorem sp_tup2 {i j : Nat} (h : Evp K ta ρ R fun e R1 => Evp K tb ρ R1 fun f R2 => P.nx ((ρ.set i e).set j f) R2) : Es K (tAsg (tTup (tCons ta (tCons tb tNil))) (gTup K 2 (gCons (gName i) (gCons (gName j) gNil)))) ρ R P := fun R0 F H σ D S A p =>
  h R0 F H σ S A _ fun e R1 v F1 H1 h1 x1 A1 e1 => h1 R0 F1 H1 σ (S.mono x1) A1 _ fun f R2 u F2 H2 h2 x2 A2 e2 => ⟨by show 2 ≤ sizeLine; decide, fun a ha => by
    obtain ⟨x3, A3⟩ := A2.new (.tup [v, u]) ha
    have S3 := S.mono (x1.trans (x2.trans x3))
    exact ⟨a, [v, u], rfl, .inl (.inl upd_same), rfl, _, _, rfl, _, _, rfl, rfl, p.nx _ _ _ _ _ h2 (x1.trans (x2.trans x3)) ((S3.set i (.of (e1.mono (x2.trans x3)))).set j (.of (e2.mono x3))) A3⟩⟩
theorem sp_tup3 {i j l : Nat} (h : Evp K ta ρ R fun e R1 => Evp K tb ρ R1 fun f R2 => Evp K tc ρ R2 fun k R3 => P.nx (((ρ.set i e).set j f).set l k) R3) : Es K (tAsg (tTup (tCons ta (tCons tb (tCons tc tNil)))) (gTup K 3 (gCons (gName i) (gCons (gName j) (gCons (gName l) gNil))))) ρ R P := fun R0 F H σ D S A p =>
  h R0 F H σ S A _ fun e R1 v F1 H1 h1 x1 A1 e1 => h1 R0 F1 H1 σ (S.mono x1) A1 _ fun f R2 u F2 H2 h2 x2 A2 e2 => h2 R0 F2 H2 σ (S.mono (x1.trans x2)) A2 _ fun k R3 w F3 H3 h3 x3 A3 e3 => ⟨by show 3 ≤ sizeLine; decide, fun a ha => by
    obtain ⟨x4, A4⟩ := A3.new (.tup [v, u, w]) ha
    have S3 := S.mono (x1.trans (x2.trans (x3.trans x4)))
    exact ⟨a, [v, u, w], rfl, .inl (.inl upd_same), rfl, _, _, rfl, _, _, rfl, _, _, rfl, rfl, p.nx _ _ _ _ _ h3 (x1.trans (x2.trans (x3.trans x4))) (((S3.set i (.of (e1.mono (x2.trans (x3.trans x4))))).set j (.of (e2.mono (x3.trans x4)))).set l (.of (e3.mono x4))) A4⟩⟩
end
end Fx

namespace Fx
open PySem PySem.Spec PyProof.Rows L2 StX RZ
/-! ### names in their order -/
def Nm.k (a : Nm) : List Nat := a.s.cps.toList
theorem Nm.k_inj {a b : Nm} (h : a.k = b.k) : a = b := by
  refine Nm.ext ?_
  have : a.s.cps = b.s.cps := Array.toList_inj.mp h
  cases ha : a.s; cases hb : b.s
  rw [ha, hb] at this
  cases this; rfl
def nmLe (a b : Nm) : Bool := decide (a.k ≤ b.k)
def sortN (l : List Nm) : List Nm := l.mergeSort nmLe
/-- ascending, without duplicates -/
def Asc (l : List Nm) : Prop := l.Pairwise fun a b => a.k < b.k
theorem nmLe_trans (a b c : Nm) (h1 : nmLe a b = true) (h2 : nmLe b c = true) : nmLe a c = true := decide_eq_true (List.le_trans (of_decide_eq_true h1) (of_decide_eq_true h2))
theorem nmLe_total (a b : Nm) : (nmLe a b || nmLe b a) = true := by
  rcases List.le_total a.k b.k with h | h
  · rw [Bool.or_eq_true]; exact .inl (decide_eq_true h)
  · rw [Bool.or_eq_true]; exact .inr (decide_eq_true h)
theorem sortN_perm (l : List Nm) : (sortN l).Perm l := List.mergeSort_perm _ _
theorem sort_map {α : Type} (f : α → PyData) (l : List α) : sortD (l.map f) = (l.mergeSort (PySem.W.dataLe false f)).map f := (List.map_mergeSort (r := PySem.W.dataLe false f) (s := PySem.W.dataLe false fun d : PyData => d) (f := f) (l := l) (fun a _ b _ => rfl)).symm
theorem sort_nS (l : List Nm) : sortD (l.map nS) = (sortN l).map nS := by
  rw [sort_map]
  unfold sortN nmLe Nm.k
  rw [show (nS : Nm → PyData) = fun b => .str b.s from rfl, PySem.W.dataLe_str (fun b : Nm => b.s)]
theorem Asc.nodup {l : List Nm} (h : Asc l) : l.Nodup := h.imp fun {a b} hab e => by subst e; exact List.lt_irrefl _ hab
theorem asc_sort {l : List Nm} (h : l.Nodup) : Asc (sortN l) := by
  have h1 := List.pairwise_mergeSort (le := nmLe) nmLe_trans nmLe_total l
  have h2 : (sortN l).Nodup := (sortN_perm l).nodup_iff.mpr h
  refine List.Pairwise.imp₂ ?_ h1 h2
  intro a b hab hne
  have : a.k ≤ b.k := of_decide_eq_true hab
  rcases Decidable.em (a.k < b.k) with h | h
  · exact h
  · exact absurd (Nm.k_inj (List.le_antisymm this (List.not_lt.mp h))) hne
theorem Asc.ext {l m : List Nm} (hl : Asc l) (hm : Asc m) (h : l.Perm m) : l = m := by
  refine List.Perm.eq_of_pairwise (le := fun a b : Nm => a.k < b.k) ?_ hl hm h
  intro a b _ _ h1 h2
  exact absurd h2 (List.lt_asymm h1)
theorem sortN_of {l m : List Nm} (hm : Asc m) (h : l.Perm m) : sortN l = m :=
  (asc_sort (h.nodup_iff.mpr hm.nodup)).ext hm ((sortN_perm l).trans h)
theorem alike_nS (l : List Nm) : PySem.W.AllAlike (l.map nS) := PySem.W.AllAlike.of fun a b => by rfl
theorem sortable_nS (l : List Nm) : PySem.W.Sortable (l.map nS) := PySem.W.Sortable.others fun b => ⟨(fun h => by cases h), fun xs h => by cases h⟩
theorem alike_nP (l : List (Nm × Nm)) : PySem.W.AllAlike (l.map nP) := PySem.W.AllAlike.of fun a b => by rfl
theorem sortable_nP (l : List (Nm × Nm)) : PySem.W.Sortable (l.map nP) := PySem.W.Sortable.tuples fun b => ⟨_, _, rfl⟩
theorem depth_nS {l : List Nm} : ∀ d ∈ l.map nS, d.depth ≤ 60 := fun d hd => by
  obtain ⟨a, _, rfl⟩ := List.mem_map.mp hd
  simp [PyData.depth]
theorem depth_nP {l : List (Nm × Nm)} : ∀ d ∈ l.map nP, d.depth ≤ 60 := fun d hd => by
  obtain ⟨a, _, rfl⟩ := List.mem_map.mp hd
  simp [PyData.depth, PyData.depthAll]
theorem sort_nP (l : List (Nm × Nm)) : ∃ m : List (Nm × Nm), sortD (l.map nP) = m.map nP ∧ m.Perm l := ⟨_, sort_map nP l, List.mergeSort_perm _ _⟩
/-! texts -/
theorem strOk_app {a b : Str} (h1 : PyData.strOk a = true) (h2 : PyData.strOk b = true) : PyData.strOk (a ++ b) = true := by
  unfold PyData.strOk at *
  show (a.cps ++ b.cps).all _ = true
  rw [Array.all_append, h1, h2]; rfl
theorem len_app (a b : Str) : (a ++ b).length = a.length + b.length := Array.size_append ..
theorem cps_app (a b : Str) : (a ++ b).cps.toList = a.cps.toList ++ b.cps.toList := Array.toList_append ..
/-! ### what append, insert want at their end -/
theorem mt_insR {X : Cx} : MtR X "list.insert" rInsert := mt_insert
def AppP (a : Addr) (es : List En) (R : List Ow) (Q : En → List Ow → Prop) : Prop := ∃ d ds up rest, es = [.d d] ∧ Hold a R ds up rest ∧ ds.length < sizeLine ∧ Q (.d .none) (up (ds ++ [d]))
def InsP (a : Addr) (es : List En) (R : List Ow) (Q : En → List Ow → Prop) : Prop := ∃ i d ds up rest, es = [.d (.int i), .d d] ∧ Hold a R ds up rest ∧ ds.length < sizeLine ∧ 0 ≤ i ∧ i < 2 ^ 63 ∧ Q (.d .none) (up (ds.take i.toNat ++ [d] ++ ds.drop i.toNat))
section
variable {K : PySem.W.Frag} {ρ ρ' : List En} {R R1 Rz R3 : List Ow} {e x y z : En} {ta tb tc te to ti td : TE} {t u tt : TT} {Q : En → List Ow → Prop} {ts : TA} {P : Post} {b1 b2 : TS} {g : TG} {wi : TI}
theorem gp_app (ho : Evp K to ρ R fun e R1 => OwnP e R1 fun a _ _ => Eap K ts ρ R1 fun es R2 => AppP a es R2 Q) : Evp K (tBM K "list" rAppend to ts) ρ R Q := gp_append ho
theorem gp_ins (ho : Evp K to ρ R fun e R1 => OwnP e R1 fun a _ _ => Eap K ts ρ R1 fun es R2 => InsP a es R2 Q) : Evp K (tBM K "list" rInsert to ts) ρ R Q := gp_insert ho
theorem appp {a : Addr} {d : PyData} {ds : List PyData} {up : List PyData → List Ow} {rest : List Ow} (hh : Hold a R ds up rest) (hl : ds.length < 1000000) (q : Q (.d .none) (up (ds ++ [d]))) : AppP a [.d d] R Q := ⟨d, ds, up, rest, rfl, hh, smallL hl, q⟩
theorem insp {a : Addr} {i : Int} {d : PyData} {ds : List PyData} {up : List PyData → List Ow} {rest : List Ow} (hh : Hold a R ds up rest) (hl : ds.length < 1000000) (h0 : 0 ≤ i) (h1 : i < 2 ^ 63) (q : Q (.d .none) (up (ds.take i.toNat ++ [d] ++ ds.drop i.toNat))) : InsP a [.d (.int i), .d d] R Q := ⟨i, d, ds, up, rest, rfl, hh, smallL hl, h0, h1, q⟩
/-- ds[i] = d, at the end of its evaluation -/
def StP (a : Addr) (d : PyData) (e : En) (R : List Ow) (Q : List Ow → Prop) : Prop := ∃ i j ds up rest, e = .d (.int i) ∧ Hold a R ds up rest ∧ ixN ds.length i = some j ∧ Q (up (ds.set j d))
def DatP : En → (PyData → Prop) → Prop
  | .d d, Q => Q d
  | _, _ => False
def AdrP : En → (Addr → Prop) → Prop
  | .o a, Q => Q a
  | _, _ => False
theorem datp {d : PyData} {Q : PyData → Prop} (q : Q d) : DatP (.d d) Q := q
theorem adrp {a : Addr} {Q : Addr → Prop} (q : Q a) : AdrP (.o a) Q := q
theorem DatP.inv {e : En} {Q : PyData → Prop} (h : DatP e Q) : ∃ d, e = .d d ∧ Q d := by
  unfold DatP at h
  split at h
  · exact ⟨_, rfl, h⟩
  · exact h.elim
theorem AdrP.inv {e : En} {Q : Addr → Prop} (h : AdrP e Q) : ∃ a, e = .o a ∧ Q a := by
  unfold AdrP at h
  split at h
  · exact ⟨_, rfl, h⟩
  · exact h.elim
theorem sp_sto (h : Evp K te ρ R fun e R1 => DatP e fun d => Evp K to ρ R1 fun e2 R2 => AdrP e2 fun a => Evp K ti ρ R2 fun e3 R3 => StP a d e3 R3 fun R4 => P.nx ρ R4) : Es K (tAsg te (gSub to ti rSetL)) ρ R P :=
  sp_store (evp_mono h fun e R1 h1 => by
    obtain ⟨d, he, h2⟩ := h1.inv
    exact ⟨d, he, evp_mono h2 fun e2 R2 h3 => by
      obtain ⟨a, he2, h4⟩ := h3.inv
      exact ⟨a, he2, h4⟩⟩)
def DispO (es : List En) (R : List Ow) (Q : En → List Ow → Prop) : Prop := ∃ ds, allD es = some ds ∧ ds.length ≤ 1000000 ∧ ∀ p, ∃ R2, New (.ls p ds) R R2 ∧ Q (.o p) R2
theorem dispO {es : List En} {ds : List PyData} (h1 : allD es = some ds) (h2 : ds.length ≤ 1000000) (q : ∀ p, ∃ R2, New (.ls p ds) R R2 ∧ Q (.o p) R2) : DispO es R Q := ⟨ds, h1, h2, q⟩
theorem gp_lsO (h : Eap K ts ρ R fun es R1 => DispO es R1 Q) : Evp K (tLstO ts) ρ R Q := gp_lstO h
theorem ixN_nat {n j : Nat} (h : j < n) : ixN n (j : Int) = some j := by
  unfold ixN
  simp [h]
theorem stp {a : Addr} {d : PyData} {j : Nat} {ds : List PyData} {up : List PyData → List Ow} {rest : List Ow} {Qr : List Ow → Prop} (hh : Hold a R ds up rest) (hj : j < ds.length) (q : Qr (up (ds.set j d))) : StP a d (.d (.int (j : Int))) R Qr := ⟨_, j, ds, up, rest, rfl, hh, ixN_nat hj, q⟩
theorem op_iC {a : Str} {i : Int} {c : Nat} (hl : a.length ≤ 1000000) (h : L2.atI a.cps.toList i = some c) (q : Q (.d (.str ⟨#[c]⟩)) R) : Rvp K (rIxB K) (.d (.str a)) (.d (.int i)) R Q := rvp_of (rv_bC (small hl) h) q
theorem bi_repr {d : PyData} (h1 : PyData.showable d = true) (h2 : PyData.hasDict d = false) (h3 : PyData.depth d ≤ 60) (h4 : d.shown.length ≤ sizeLine) (q : Q (.d (.str d.shown)) R) : Rcp K (rRepr K) [.d d] R Q := rcp_of (rc_repr h1 h2 h3 h4) q
/-- comprehensions of typed things whose parts draw -/
theorem lcp_gen {α β : Type} {vs : List Nat} {enc : α → PyData} {enc' : β → PyData} {l : List α} {Ql : List PyData → List Ow → Prop} (Inv : Nat → List β → List Ow → Prop) (h0 : Inv 0 [] R)
    (hs : ∀ i a ys R, l[i]? = some a → i < l.length → ys.length ≤ i → Inv i ys R → ∃ ρ', EgW K g vs (.d (enc a)) ρ ρ' ∧ Etp K tt ρ' R fun b R1 => (b = true → Evp K te ρ' R1 fun e R2 => ∃ y, e = .d (enc' y) ∧ Inv (i + 1) (ys ++ [y]) R2) ∧ (b = false → Inv (i + 1) ys R1))
    (hd : ∀ ys R, ys.length ≤ l.length → Inv l.length ys R → Ql (ys.map enc') R) : LcP K g tt te vs ρ (l.map enc) R Ql := by
  refine ⟨fun i zs R => zs.length ≤ i ∧ ∃ ys, zs = ys.map enc' ∧ Inv i ys R, ⟨Nat.le_refl _, [], rfl, h0⟩, ?_, ?_⟩
  · rintro i d _ R hx hl ⟨_, ys, rfl, hi⟩
    rw [List.getElem?_map] at hx
    cases e : l[i]? with
    | none => rw [e] at hx; cases hx
    | some a =>
      rw [e] at hx
      cases hx
      rw [List.length_map] at hl
      obtain ⟨ρ', h1, h2⟩ := hs i a ys R e (List.getElem?_eq_some_iff.mp e).1 hl hi
      refine ⟨ρ', h1, fun R0 F H σ S A Q' q' => h2 R0 F H σ S A Q' fun b R1 F1 H1 hb x1 A1 => q' b R1 F1 H1 ⟨fun ht => evp_mono (hb.1 ht) ?_, fun hf => ⟨by rw [List.length_map]; omega, ys, rfl, hb.2 hf⟩⟩ x1 A1⟩
      rintro e R2 ⟨y, rfl, hy⟩
      exact ⟨_, rfl, by simp; omega, ys ++ [y], by simp, hy⟩
  · rintro _ R ⟨hl, ys, rfl, hi⟩
    rw [List.length_map] at hi hl
    exact hd ys R (by simpa using hl) hi
theorem lcp_deal {α β : Type} {vs : List Nat} {enc : α → PyData} {enc' : β → PyData} {l : List α} {Ql : List PyData → List Ow → Prop} {aD aC : Addr} {s0 : DS} {X : List Ow} (Pv : Nat → List β → Prop) (h0 : Pv 0 [])
    (hs : ∀ i a ys s, l[i]? = some a → i < l.length → ys.length ≤ i → Pv i ys → ∃ ρ', EgW K g vs (.d (enc a)) ρ ρ' ∧ Etp K tt ρ' (DX aD aC s X) fun b R1 => (b = true → Evp K te ρ' R1 fun e R2 => ∃ y s', e = .d (enc' y) ∧ R2 = DX aD aC s' X ∧ Pv (i + 1) (ys ++ [y])) ∧ (b = false → ∃ s', R1 = DX aD aC s' X ∧ Pv (i + 1) ys))
    (hd : ∀ ys s, ys.length ≤ l.length → Pv l.length ys → Ql (ys.map enc') (DX aD aC s X)) : LcP K g tt te vs ρ (l.map enc) (DX aD aC s0 X) Ql := by
  refine lcp_gen (enc' := enc') (fun i ys R => ∃ s, R = DX aD aC s X ∧ Pv i ys) ⟨s0, rfl, h0⟩ ?_ ?_
  · rintro i a ys _ ha hl hy ⟨s, rfl, hp⟩
    obtain ⟨ρ', h1, h2⟩ := hs i a ys s ha hl hy hp
    refine ⟨ρ', h1, fun R0 F H σ S A Q' q' => h2 R0 F H σ S A Q' fun b R1 F1 H1 hb x1 A1 => q' b R1 F1 H1 ⟨fun ht => evp_mono (hb.1 ht) ?_, fun hf => ?_⟩ x1 A1⟩
    · rintro e R2 ⟨y, s', rfl, rfl, hy⟩
      exact ⟨y, rfl, s', rfl, hy⟩
    · exact hb.2 hf
  · rintro ys _ hy ⟨s, rfl, hp⟩
    exact hd ys s hy hp
/-- branches by a statement -/
theorem brd {p : Prop} [Decidable p] {A B : Prop} (h1 : p → A) (h2 : ¬ p → B) : (decide p = true → A) ∧ (decide p = false → B) := ⟨fun h => h1 (of_decide_eq_true h), fun h => h2 (of_decide_eq_false h)⟩
theorem brn {p : Prop} [Decidable p] {A B : Prop} (h1 : ¬ p → A) (h2 : p → B) : ((!decide p) = true → A) ∧ ((!decide p) = false → B) := ⟨fun h => h1 (by simpa using h), fun h => h2 (by simpa using h)⟩
theorem br_t {A B : Prop} (h : A) : (true = true → A) ∧ (true = false → B) := ⟨fun _ => h, fun h => nomatch h⟩
theorem br_f {A B : Prop} (h : B) : (false = true → A) ∧ (false = false → B) := ⟨fun h => (nomatch h), fun _ => h⟩
end
end Fx

namespace Fx
open PySem PySem.Spec PyProof.Rows L2 StX RZ
/-! ### rows of noughts and ones -/
def bI (b : Bool) : Int := if b then 1 else 0
abbrev bD (b : Bool) : PyData := .int (bI b)
abbrev rwB (r : List Bool) : PyData := .list (r.map bD)
theorem map_bD (r : List Bool) : r.map bD = (r.map bI).map .int := by rw [List.map_map]; rfl
theorem sum_bI (r : List Bool) : (r.map bI).sum = 0 ↔ ∀ b ∈ r, b = false := by
  have h0 : ∀ r : List Bool, 0 ≤ (r.map bI).sum := fun r => by
    induction r with
    | nil => exact Int.le_refl 0
    | cons b r ih => rw [List.map_cons, List.sum_cons]; have : 0 ≤ bI b := by unfold bI; split <;> omega
                     omega
  induction r with
  | nil => simp
  | cons b r ih =>
    rw [List.map_cons, List.sum_cons]
    have := h0 r
    cases b with
    | true =>
      have : bI true = 1 := rfl
      constructor
      · intro h; omega
      · intro h; exact nomatch h true List.mem_cons_self
    | false =>
      have : bI false = 0 := rfl
      rw [this, Int.zero_add]
      exact ih.trans (by simp)
structure GridOk (most : Nat) (rows : List (List Bool)) : Prop where
  n0 : 0 < rows.length
  n1 : rows.length ≤ most
  wide : ∃ w, 0 < w ∧ w ≤ most ∧ ∀ r ∈ rows, r.length = w
  full : ∀ r ∈ rows, true ∈ r
section
variable {K : PySem.W.Frag} {ρ ρ' : List En} {R R1 Rz R3 : List Ow} {e x y z : En} {ta tb tc te to ti td : TE} {t u tt : TT} {Q : En → List Ow → Prop} {ts : TA} {P : Post} {b1 b2 : TS} {g : TG} {wi : TI}
theorem sp_tuq2 {i j n : Nat} (hn : n = 2) (h : Evp K ta ρ R fun e R1 => Evp K tb ρ R1 fun f R2 => P.nx ((ρ.set i e).set j f) R2) : Es K (tAsg (tTup (tCons ta (tCons tb tNil))) (gTup K n (gCons (gName i) (gCons (gName j) gNil)))) ρ R P := by subst hn; exact sp_tup2 h
theorem sp_tuq3 {i j l n : Nat} (hn : n = 3) (h : Evp K ta ρ R fun e R1 => Evp K tb ρ R1 fun f R2 => Evp K tc ρ R2 fun k R3 => P.nx (((ρ.set i e).set j f).set l k) R3) : Es K (tAsg (tTup (tCons ta (tCons tb (tCons tc tNil)))) (gTup K n (gCons (gName i) (gCons (gName j) (gCons (gName l) gNil))))) ρ R P := by subst hn; exact sp_tup3 h
end
end Fx

namespace Fx
open PySem PySem.Spec PyProof.Rows L2 StX RZ
/-! ### a row of rows, all owned -/
def gridL : List Addr → List (List PyData) → List Ow
  | b :: bs, r :: rs => .ls b r :: gridL bs rs
  | _, _ => []
theorem gridL_snoc {b : Addr} {r : List PyData} : ∀ {bs : List Addr} {rs : List (List PyData)}, bs.length = rs.length → gridL (bs ++ [b]) (rs ++ [r]) = gridL bs rs ++ [.ls b r]
  | [], [], _ => rfl
  | _ :: bs, _ :: rs, h => by
    show _ :: gridL (bs ++ [b]) (rs ++ [r]) = _ :: (gridL bs rs ++ [.ls b r])
    rw [gridL_snoc (by simpa using h)]
theorem gridHold {b : Addr} {r : List PyData} {X : List Ow} : ∀ {bs : List Addr} {rows : List (List PyData)} {j : Nat}, bs[j]? = some b → rows[j]? = some r → ∃ rest, Hold b (gridL bs rows ++ X) r (fun d => gridL bs (rows.set j d) ++ X) rest
  | [], _, _, h, _ => by simp at h
  | _ :: _, [], _, _, h => by simp at h
  | c :: bs, q :: rows, 0, h1, h2 => by
    simp at h1 h2
    subst h1 h2
    exact ⟨_, .here⟩
  | c :: bs, q :: rows, j + 1, h1, h2 => by
    rw [List.getElem?_cons_succ] at h1 h2
    obtain ⟨rest, h⟩ := gridHold (X := X) h1 h2
    exact ⟨_, .skip h⟩
section
variable {K : PySem.W.Frag} {ρ ρ' : List En} {R R1 Rz R3 : List Ow} {e x y z : En} {ta tb tc te to ti td : TE} {t u tt : TT} {Q : En → List Ow → Prop} {ts : TA} {P : Post} {b1 b2 : TS} {g : TG} {wi : TI}
theorem gp_lcG {vs : List Nat} {n : Nat} {row : List PyData} (h : Eip K wi ρ R fun xs R1 => xs.length = n ∧ n ≤ sizeLine ∧ (∀ d ∈ xs, ∀ R2, ∃ ρ', EgW K g vs (.d d) (wiped ρ vs) ρ' ∧ Evp K te ρ' R2 fun e R3 => ∃ b, e = .o b ∧ R3 = .ls b row :: R2) ∧ ∀ p bs, bs.length = n → ∃ R4, R4.Perm (.rw p (.lst (bs.map .ref)) :: (gridL bs (List.replicate n row) ++ R1)) ∧ Q (.o p) R4) : Evp K (tLcO wi g tYes te vs) ρ R Q := by
  intro R0 F H σ S A Q' q'
  refine h R0 F H σ S A _ fun xs R1 J F1 H1 ⟨hn, hz, hb, hq⟩ x1 A1 W D hD => ?_
  obtain ⟨G, Y, w, hG, hY⟩ := W
  refine L2.lc_it w (fun i H' => ∃ F' bs, Ex F1 F' ∧ bs.length = i ∧ At K F' (.rw D (.lst (bs.map .ref)) :: (gridL bs (List.replicate i row) ++ (R1 ++ R0))) H') ?_ ?_ ?_ ?_
  · exact ⟨F1, [], Ex.refl F1, rfl, A1.ownR hD⟩
  · rintro i H' hi ⟨F', bs, x, _, A'⟩
    exact hG F' _ H' x A'
  · rintro i v H' H'' hi ⟨F', bs, x, hbl, A'⟩ y
    obtain ⟨d, hdx⟩ : ∃ d, xs[i]? = some d := ⟨xs[i], List.getElem?_eq_getElem hi⟩
    obtain ⟨F2, x2, A2, d2⟩ := hY i v d F' _ H' H'' x A' y hdx
    have S2 : Sls K F2 (wipe σ vs) (wiped ρ vs) := ((S.mono (x1.trans (x.trans x2))).wipe vs)
    obtain ⟨ρ', hg, ht⟩ := hb d (List.mem_of_getElem? hdx) (.rw D (.lst (bs.map .ref)) :: (gridL bs (List.replicate i row) ++ R1))
    refine hg _ F2 H'' _ v S2 A2 d2 _ fun σ2 S3 hwp => ⟨by rw [hwp, wipe_idem], ?_⟩
    have A3 : At K F2 ((.rw D (.lst (bs.map .ref)) :: (gridL bs (List.replicate i row) ++ R1)) ++ R0) H'' := by
      rw [List.cons_append, List.append_assoc]; exact A2
    show te σ2 H'' _
    refine ht R0 F2 H'' σ2 S3 A3 _ fun e R4 yv F4 H4 ⟨b, he, hR⟩ x4 A4 e4 => ?_
    subst he hR
    cases e4
    obtain ⟨_, hD4⟩ := A4.own (.rw D (.lst (bs.map .ref))) (by simp)
    refine ⟨bs.map .ref, hD4, by rw [List.length_map]; omega, F4, bs ++ [b], x.trans (x2.trans x4), by simp [hbl], ?_⟩
    have A5 := At.updR (o' := .lst (bs.map .ref ++ [.ref b])) (Ra := [.ls b row]) (Rb := (gridL bs (List.replicate i row) ++ R1) ++ R0) A4
    rw [List.map_append]
    refine A5.perm ?_
    rw [List.replicate_succ', gridL_snoc (by simp [hbl]), List.append_assoc, List.append_assoc]
    refine (List.Perm.swap _ _ _).trans (List.Perm.cons _ ?_)
    exact List.perm_middle.symm
  · rintro H' ⟨F', bs, x, hbl, A'⟩
    obtain ⟨R4, hp, hq'⟩ := hq D bs (by omega)
    refine q' _ R4 _ F' H' hq' (x1.trans x) (A'.perm ?_) rfl
    rw [hn, ← List.append_assoc, ← List.cons_append]
    exact (hp.append_right R0).symm
/-- for row in rows, each row owned -/
theorem sp_forG {S : Type} {i : Nat} {a : Addr} {bs : List Addr} (hi : ρ[i]? = some (.o a)) (T : S → List En) (U : S → List Ow) (Inv : Nat → S → Prop) (s0 : S) (h0 : Inv 0 s0) (hT : T s0 = ρ) (hU : U s0 = R)
    (hown : ∀ s, .rw a (.lst (bs.map .ref)) ∈ U s)
    (hs : ∀ k b s, bs[k]? = some b → Inv k s → ∃ ρ', Eg K g (.o b) (T s) ρ' ∧ Es K b1 ρ' (U s) { P with nx := fun ρ R => ∃ s', Weak ρ (T s') ∧ R = U s' ∧ Inv (k + 1) s', ct := fun ρ R => ∃ s', Weak ρ (T s') ∧ R = U s' ∧ Inv (k + 1) s', bk := P.nx })
    (hd : ∀ s, Inv bs.length s → P.nx (T s) (U s)) : Es K (tFor (iAny K (tVar i)) g b1) ρ R P := fun R0 F H σ D S A p => by
  subst hT hU
  obtain ⟨s, hs', h2⟩ := S.get hi
  cases h2
  have w1 : H a = some (.lst (bs.map .ref)) := (A.own (.rw a (.lst (bs.map .ref))) (List.mem_append_left _ (hown s0))).2
  refine .inl ⟨_, hs', a, rfl, ⟨_, .inl (.inl w1)⟩, ?_⟩
  refine L2.for_it (walk_list (K := K) (a := a) (xs := bs.map .ref)) (fun k σ' H' => ∃ s F', Inv k s ∧ Ex F F' ∧ Sls K F' σ' (T s) ∧ At K F' (U s ++ R0) H') ?_ ?_ ?_ ?_
  · exact ⟨s0, F, h0, Ex.refl F, S, A⟩
  · rintro k σ' H' hk ⟨s, F', hI, x, S', A'⟩
    exact .inl (.inl (A'.own (.rw a (.lst (bs.map .ref))) (List.mem_append_left _ (hown s))).2)
  · rintro k v σ' H' H'' hk ⟨s, F', hI, x, S', A'⟩ ⟨rfl, hv⟩
    rw [List.getElem?_map] at hv
    cases hb : bs[k]? with
    | none => rw [hb] at hv; cases hv
    | some b =>
      rw [hb] at hv
      cases hv
      obtain ⟨ρ', hg, hb'⟩ := hs k b s hb hI
      refine hg _ F' H'' σ' (.ref b) S' A' rfl _ fun σ2 S2 => ?_
      refine hb' R0 F' H'' σ2 _ S2 A' ⟨?_, fun e R v F3 H3 a b c d => p.rt e R v F3 H3 a (x.trans b) c d, fun ρ R σ F3 H3 a b c d => p.nx ρ R σ F3 H3 a (x.trans b) c d, ?_⟩
      · rintro ρ3 R3 σ3 F3 H3 ⟨s', hw, rfl, hI'⟩ b c d
        exact ⟨s', F3, hI', x.trans b, hw.sls c, d⟩
      · rintro ρ3 R3 σ3 F3 H3 ⟨s', hw, rfl, hI'⟩ b c d
        exact ⟨s', F3, hI', x.trans b, hw.sls c, d⟩
  · rintro σ' H' ⟨s, F', hI, x, S', A'⟩
    rw [List.length_map] at hI
    exact p.nx _ _ σ' F' H' (hd s hI) x S' A'
theorem At.freezeG {X : List Ow} : ∀ {bs : List Addr} {rows : List (List PyData)} {F H : Hp}, bs.length = rows.length → At K F (gridL bs rows ++ X) H → ∃ F1, Ex F F1 ∧ At K F1 X H ∧ Dts K F1 (bs.map .ref) (rows.map .list)
  | [], [], F, H, _, A => ⟨F, Ex.refl F, A, .nil⟩
  | b :: bs, r :: rows, F, H, hl, A => by
    obtain ⟨F1, x1, A1, d1⟩ := At.freeze (Rb := gridL bs rows ++ X) A
    obtain ⟨F2, x2, A2, d2⟩ := At.freezeG (by simpa using hl) A1
    exact ⟨F2, x1.trans x2, A2, .cons (Dt.mono x2 _ d1) d2⟩
theorem At.rwls {F H : Hp} {a : Addr} {vs : List V} {ds : List PyData} {X : List Ow} (A : At K F (.rw a (.lst vs) :: X) H) (h : Dts K F vs ds) : At K F (.ls a ds :: X) H := by
  refine ⟨A.ex, A.nd, fun r hr => ?_⟩
  rcases List.mem_cons.mp hr with rfl | hr
  · obtain ⟨h1, h2⟩ := A.own (.rw a (.lst vs)) List.mem_cons_self
    exact ⟨h1, vs, h2, h⟩
  · exact A.own r (List.mem_cons_of_mem _ hr)
theorem sp_frzG {ts : TS} {i : Nat} {a : Addr} {bs : List Addr} {rows : List (List PyData)} {rest : List Ow} (hi : ρ[i]? = some (.o a)) (hR : R.Perm (.rw a (.lst (bs.map .ref)) :: (gridL bs rows ++ rest))) (hl : bs.length = rows.length) (h : Es K ts (ρ.set i (.d (.list (rows.map .list)))) rest P) : Es K ts ρ R P := fun R0 F H σ D S A p => by
  have A1 : At K F (gridL bs rows ++ (.rw a (.lst (bs.map .ref)) :: (rest ++ R0))) H := (A.perm (hR.append_right R0)).perm (by
    rw [List.cons_append, List.append_assoc]
    exact List.perm_middle.symm)
  obtain ⟨F1, x1, A2, d⟩ := A1.freezeG hl
  obtain ⟨F2, x2, A3, d2⟩ := (A2.rwls d).freeze
  obtain ⟨s, hs, hv⟩ := S.get hi
  cases hv
  have S1 := (S.mono (x1.trans x2)).set i (s := some (.ref a)) (e := .d (.list (rows.map .list))) ⟨_, rfl, d2⟩
  have e : σ.set i (some (.ref a)) = σ := by
    apply List.ext_getElem?
    intro j
    by_cases hj : i = j
    · subst hj
      by_cases hl : i < σ.length
      · rw [List.getElem?_set_self hl, hs]
      · rw [List.getElem?_eq_none (by omega)] at hs; cases hs
    · rw [List.getElem?_set_ne hj]
  rw [e] at S1
  exact h R0 F2 H σ D S1 A3 (p.mono (x1.trans x2))
/-- rows[at], a row that is owned -/
theorem op_ixG {a b : Addr} {vs : List V} {i : Int} (hm : .rw a (.lst vs) ∈ R) (h : L2.atI vs i = some (.ref b)) (q : Q (.o b) R) : Rvp K (rIxB K) (.o a) (.d (.int i)) R Q := rvp_of (rv_bI (rv_iR hm h)) q
theorem atI_refs {bs : List Addr} {j : Nat} {b : Addr} (h : bs[j]? = some b) : L2.atI (bs.map V.ref) ((j : Nat) : Int) = some (.ref b) := by
  refine atI_nat ?_
  rw [List.getElem?_map, h]; rfl
theorem bi_min2 {i j : Int} (q : Q (.d (.int (if j < i then j else i))) R) : Rcp K (fun xs H Q => ∃ i j, xs = [V.int i, .int j] ∧ Q (.int (if j < i then j else i)) H) [.d (.int i), .d (.int j)] R Q := fun R0 F H vs E A Q' q' => by
  obtain ⟨v, u, rfl, h, h'⟩ := ens2 E
  cases h; cases h'
  exact ⟨i, j, rfl, q' _ R _ F H q (Ex.refl F) A (.int _)⟩
theorem bi_max2 {i j : Int} (q : Q (.d (.int (if j > i then j else i))) R) : Rcp K (fun xs H Q => ∃ i j, xs = [V.int i, .int j] ∧ Q (.int (if j > i then j else i)) H) [.d (.int i), .d (.int j)] R Q := fun R0 F H vs E A Q' q' => by
  obtain ⟨v, u, rfl, h, h'⟩ := ens2 E
  cases h; cases h'
  exact ⟨i, j, rfl, q' _ R _ F H q (Ex.refl F) A (.int _)⟩
end
end Fx

namespace Fx
open PySem PySem.Spec PyProof.Rows L2 StX RZ
theorem perm_map_inv {α β : Type} {f : α → β} {ys m : List β} (h : ys.Perm m) : ∀ {l : List α}, l.map f = m → ∃ l' : List α, l'.Perm l ∧ ys = l'.map f := by
  induction h with
  | nil =>
    intro l hm
    cases l with
    | nil => exact ⟨[], .refl _, rfl⟩
    | cons _ _ => cases hm
  | cons x _ ih =>
    intro l hm
    cases l with
    | nil => cases hm
    | cons a t =>
      rw [List.map_cons] at hm
      obtain ⟨h1, h2⟩ := List.cons.inj hm
      obtain ⟨l', hp, rfl⟩ := ih h2
      exact ⟨a :: l', hp.cons a, by rw [List.map_cons, h1]⟩
  | swap x y zs =>
    intro l hm
    cases l with
    | nil => cases hm
    | cons a t =>
      cases t with
      | nil => cases hm
      | cons b t =>
        rw [List.map_cons, List.map_cons] at hm
        obtain ⟨h1, h2⟩ := List.cons.inj hm
        obtain ⟨h3, h4⟩ := List.cons.inj h2
        exact ⟨b :: a :: t, .swap _ _ _, by rw [List.map_cons, List.map_cons, h1, h3, h4]⟩
  | trans _ _ ih1 ih2 =>
    intro l hm
    obtain ⟨l2, hp2, e2⟩ := ih2 hm
    obtain ⟨l1, hp1, e1⟩ := ih1 e2.symm
    exact ⟨l1, hp1.trans hp2, e1⟩
/-! list(range(n)) -/
def RgP : En → List Ow → (En → List Ow → Prop) → Prop := fun e R Q => ∃ n : Nat, e = .d (.int (n : Int)) ∧ n ≤ 1000000 ∧ Q (.d (.list ((List.range n).map fun (i : Nat) => PyData.int (i : Int)))) R
section
variable {K : PySem.W.Frag} {ρ ρ' : List En} {R R1 Rz R3 : List Ow} {e x y z : En} {ta tb tc te to ti td : TE} {t u tt : TT} {Q : En → List Ow → Prop} {ts : TA} {P : Post} {b1 b2 : TS} {g : TG} {wi : TI}
theorem gp_listRg (h : Evp K te ρ R fun e R1 => RgP e R1 Q) : Evp K (tLstRg (tRg1 te)) ρ R Q := fun R0 F H σ S A Q' q' =>
  h R0 F H σ S A _ fun e R1 v F1 H1 ⟨n, he, hn, hq⟩ x1 A1 e1 => by
    subst he
    cases e1
    refine ⟨_, rfl, RgOk.of_le (by omega) (by omega) (by omega) (by omega), fun p hp => ?_⟩
    obtain ⟨x, A2⟩ := A1.new (.lst (rgV 0 (n : Int))) hp
    refine q' _ R1 _ _ _ hq (x1.trans x) A2 (.lst upd_same ?_)
    have e : ((List.range n).map fun (i : Nat) => PyData.int (i : Int)) = ((List.range n).map fun (i : Nat) => (i : Int)).map .int := by rw [List.map_map]; rfl
    rw [e, rgV_nat]
    exact Dts.of_ints _
theorem rgp {n : Nat} {j : Int} (e : j = (n : Int)) (hn : n ≤ 1000000) (q : Q (.d (.list ((List.range n).map fun (i : Nat) => PyData.int (i : Int)))) R) : RgP (.d (.int j)) R Q := by
  subst e
  exact ⟨n, rfl, hn, q⟩
end
end Fx

namespace Fx
open PySem PySem.Spec PyProof.Rows L2 StX RZ
theorem peFld {X : Cx} {K : PySem.W.Frag} {e : Expr} {f : Str} {pos : Pos} {ta : TE} (h : PE X e ta) (h2 : attributeBase e f X.env (eval e X.env) = eval e X.env) (hK : X.K = K := by rfl) : PE X (e.Attribute f pos) (tFld K ta f) := by subst hK; exact pe_fld h h2
/-! ### in, not in, over any data -/
def rInD (K : PySem.W.Frag) (neg : Bool) : L2.R2 := fun x y H Q => ∃ d k xs, Dp K H x d ∧ Dp K H y (rowD k xs) ∧ PyData.plainAll xs = true ∧ d.plain = true ∧ d.depth ≤ 60 ∧ Q (.bl (if neg then !(xs.any fun y => PyData.eqv y d) else xs.any fun y => PyData.eqv y d)) H
def rInB (K : PySem.W.Frag) (neg : Bool) : L2.R2 := fun x y H Q => rIn K neg x y H Q ∨ rInD K neg x y H Q
section
variable {X : Cx} {K : PySem.W.Frag}
theorem op_inD (hu : X.A.units + 64 < cLine) : OpR X (compareOp .In) (rInD X.K false) := by
  intro pins s σ H x y v u Q I rx ry h
  obtain ⟨d, k, xs, hd, he, sd, se, hdp, q⟩ := h
  obtain ⟨as, r1⟩ := Dp.reads I d x v hd rx
  obtain ⟨bs, r2⟩ := Dp.reads I (rowD k xs) y u he ry
  have hm : X.A.units + 1 + min (PyData.depthAll xs) d.depth < cLine := by
    have := Nat.min_le_right (PyData.depthAll xs) d.depth
    omega
  cases k with
  | true => exact SeqAt.in_tuple_data r2 r1 sd se hm ⟨.bl _, H, I, rfl, q⟩
  | false => exact SeqAt.in_list_data r2 r1 sd se hm ⟨.bl _, H, I, rfl, q⟩
theorem op_notInD (hu : X.A.units + 64 < cLine) : OpR X (compareOp .NotIn) (rInD X.K true) := by
  intro pins s σ H x y v u Q I rx ry h
  obtain ⟨d, k, xs, hd, he, sd, se, hdp, q⟩ := h
  obtain ⟨as, r1⟩ := Dp.reads I d x v hd rx
  obtain ⟨bs, r2⟩ := Dp.reads I (rowD k xs) y u he ry
  have hm : X.A.units + 1 + min (PyData.depthAll xs) d.depth < cLine := by
    have := Nat.min_le_right (PyData.depthAll xs) d.depth
    omega
  cases k with
  | true => exact SeqAt.notIn_tuple_data r2 r1 sd se hm ⟨.bl _, H, I, rfl, q⟩
  | false => exact SeqAt.notIn_list_data r2 r1 sd se hm ⟨.bl _, H, I, rfl, q⟩
theorem opInB {k : Nat} (hr : Room k X.A) (hK : X.K = K := by rfl) : OpR X (compareOp .In) (rInB K false) := by subst hK; exact OpR.or opIn (op_inD hr.units)
theorem opNotInB {k : Nat} (hr : Room k X.A) (hK : X.K = K := by rfl) : OpR X (compareOp .NotIn) (rInB K true) := by subst hK; exact OpR.or opNotIn (op_notInD hr.units)
end
section
variable {K : PySem.W.Frag} {ρ ρ' : List En} {R R1 Rz R3 : List Ow} {e x y z : En} {ta tb tc te to ti td : TE} {t u tt : TT} {Q : En → List Ow → Prop} {ts : TA} {P : Post} {b1 b2 : TS} {g : TG} {wi : TI}
theorem rv_bN {neg : Bool} {r : En} (h : Rv K (rIn K neg) x y R r) : Rv K (rInB K neg) x y R r := fun R0 F H v u hv hu A Q q => .inl (h R0 F H v u hv hu A Q q)
theorem op_jnT {a : Nm} {l : List Nm} (q : Q (.d (.bool (decide (a ∈ l)))) R) : Rvp K (rInB K false) (.d (.str a.s)) (.d (.tuple (l.map nS))) R Q := rvp_of (rv_bN (rv_inN false true)) q
theorem op_jnL {a : Nm} {l : List Nm} (q : Q (.d (.bool (decide (a ∈ l)))) R) : Rvp K (rInB K false) (.d (.str a.s)) (.d (.list (l.map nS))) R Q := rvp_of (rv_bN (rv_inN false false)) q
theorem op_kiT {a : Nm} {l : List Nm} (q : Q (.d (.bool (!decide (a ∈ l)))) R) : Rvp K (rInB K true) (.d (.str a.s)) (.d (.tuple (l.map nS))) R Q := rvp_of (rv_bN (rv_inN true true)) q
theorem op_kiL {a : Nm} {l : List Nm} (q : Q (.d (.bool (!decide (a ∈ l)))) R) : Rvp K (rInB K true) (.d (.str a.s)) (.d (.list (l.map nS))) R Q := rvp_of (rv_bN (rv_inN true false)) q
/-- d in xs, of any data -/
theorem rv_jnD {neg k : Bool} {d : PyData} {xs : List PyData} (h1 : PyData.plainAll xs = true) (h2 : d.plain = true) (h3 : d.depth ≤ 60) : Rv K (rInB K neg) (.d d) (.d (rowD k xs)) R (.d (.bool (if neg then !(xs.any fun y => PyData.eqv y d) else xs.any fun y => PyData.eqv y d))) := fun R0 F H v u hv hu A Q q =>
  .inr ⟨d, k, xs, (Dt.dp _ (Dt.mono A.ex _ hv)), (Dt.dp _ (Dt.mono A.ex _ hu)), h1, h2, h3, q _ F H (Ex.refl F) A (.bl _)⟩
theorem op_jnD {neg k : Bool} {d : PyData} {xs : List PyData} (h1 : PyData.plainAll xs = true) (h2 : d.plain = true) (h3 : d.depth ≤ 60) (q : Q (.d (.bool (if neg then !(xs.any fun y => PyData.eqv y d) else xs.any fun y => PyData.eqv y d))) R) : Rvp K (rInB K neg) (.d d) (.d (rowD k xs)) R Q := rvp_of (rv_jnD h1 h2 h3) q
theorem plainAll_nP (l : List (Nm × Nm)) : PyData.plainAll (l.map nP) = true := by
  induction l with
  | nil => rfl
  | cons a l ih => rw [List.map_cons]; simp [PyData.plainAll, PyData.plain]; exact ih
theorem eqv_nP (p q : Nm × Nm) : PyData.eqv (nP p) (nP q) = decide (p = q) := by
  obtain ⟨a, b⟩ := p
  obtain ⟨c, d⟩ := q
  by_cases h : (a, b) = (c, d)
  · cases h
    rw [decide_eq_true rfl]
    exact SeqAt.eqv_refl_plain _ (by rfl)
  · rw [decide_eq_false h]
    simp [PyData.eqv, PyData.eqvAll]
    intro h1 h2
    exact h (by rw [Nm.ext h1, Nm.ext h2])
theorem any_nP (p : Nm × Nm) (l : List (Nm × Nm)) : ((l.map nP).any fun y => PyData.eqv y (nP p)) = decide (p ∈ l) := by
  rw [List.any_map]
  have : ((fun y => PyData.eqv y (nP p)) ∘ nP) = fun q => decide (q = p) := by funext q; exact eqv_nP q p
  rw [this]
  induction l with
  | nil => rfl
  | cons a l ih =>
    rw [List.any_cons, ih]
    by_cases h : a = p
    · subst h; simp
    · have : p ≠ a := fun e => h e.symm
      simp [h, this]
theorem op_jnP {a b : Nm} {l : List (Nm × Nm)} (q : Q (.d (.bool (decide ((a, b) ∈ l)))) R) : Rvp K (rInB K false) (.d (.tuple [.str a.s, .str b.s])) (.d (.tuple (l.map nP))) R Q := by
  refine op_jnD (neg := false) (k := true) (plainAll_nP l) (by rfl) (by simp [PyData.depth, PyData.depthAll]) ?_
  have := any_nP (a, b) l
  rw [if_neg (by decide)]
  rw [this]; exact q
theorem op_kiP {a b : Nm} {l : List (Nm × Nm)} (q : Q (.d (.bool (!decide ((a, b) ∈ l)))) R) : Rvp K (rInB K true) (.d (.tuple [.str a.s, .str b.s])) (.d (.tuple (l.map nP))) R Q := by
  refine op_jnD (neg := true) (k := true) (plainAll_nP l) (by rfl) (by simp [PyData.depth, PyData.depthAll]) ?_
  have := any_nP (a, b) l
  rw [if_pos rfl]
  rw [this]; exact q
/-! fields of what is made -/
def FldF (C : Addr) (f : Str) (e : En) (R : List Ow) (Q : En → List Ow → Prop) : Prop := ∃ fs d, e = .g (instP C fs) ∧ fs.lookup f = some (dqP d) ∧ Q (.d d) R
theorem gp_fldF {C : Addr} {f : Str} (c : Cls K C) (n : NoAttr K C f) (h : Evp K te ρ R fun e R1 => FldF C f e R1 Q) : Evp K (tFld K te f) ρ R Q := gp_fldD c n h
theorem fldf {C : Addr} {f : Str} {fs : List (Str × PR)} {d : PyData} (h : fs.lookup f = some (dqP d)) (q : Q (.d d) R) : FldF C f (.g (instP C fs)) R Q := ⟨fs, d, rfl, h, q⟩
end
/-! ### rows by their numbers -/
theorem flat_len {α : Type} {f : Nat → List α} {c : Nat} (h : ∀ i, (f i).length ≤ c) : ∀ n, ((List.range n).flatMap f).length ≤ n * c
  | 0 => by simp
  | n + 1 => by
    rw [List.range_succ, List.flatMap_append, List.length_append, Nat.succ_mul]
    have := flat_len h n
    have := h n
    simp at *
    omega
theorem flat_succ {α : Type} {f : Nat → List α} {n : Nat} : (List.range (n + 1)).flatMap f = (List.range n).flatMap f ++ f n := by
  rw [List.range_succ, List.flatMap_append]
  simp
end Fx

namespace Fx
open PySem PySem.Spec PyProof.Rows L2 StX RZ
open PySem.W (AllAlike Sortable EachIs EachIs.mono sortingHeap sortingHeap_old SortsAt.data each_map bound_map dataKind list_sort_vals sortVals_length sortVals_data sortVals)
/-! ### sorted of a tuple -/
def rSortT (K : PySem.W.Frag) : List V → Hp → VK → Prop := fun vs H Q => ∃ (a : Addr) (bs : List (PyData × V)), vs = [V.ref a] ∧ SqT K H a (bs.map (·.2)) ∧ (∀ b ∈ bs, Dp K H b.2 b.1) ∧ AllAlike (bs.map (·.1)) ∧ Sortable (bs.map (·.1)) ∧ (∀ b ∈ bs, b.1.depth ≤ 60) ∧ ∀ p : Addr, H p = none → Q (V.ref p) (upd H p (.lst ((bs.mergeSort byD).map (·.2))))
section
variable {X : Cx}
theorem callSortT {K : PySem.W.Frag} {k : Nat} (hr : Room k X.A) (hK : X.K = K := by rfl) : CallR X (.builtin "sorted") (rSortT K) := by
  subst hK
  intro pins s σ H vs us Q I r h
  obtain ⟨a, bs, rfl, hs, hd, hal, hk, hdep, q⟩ := h
  obtain ⟨its, rv, ⟨o, ho, hc, n, hdt⟩, hz⟩ := I.tuple hs
  rw [Vals.ref1 r]
  have e := each_rel rv
  have er : EachIs (fun v b => ∃ as, Reads s.heap v b.1 as) its bs := by
    clear hal hk hdep q hs hdt hz
    induction e with
    | nil => exact .nil
    | cons h1 h2 ih =>
      rw [List.map_cons] at rv
      cases rv with
      | cons v1 v2 => exact .cons (Dp.reads I _ _ _ (hd _ (by simp)) h1) (ih (fun b hb => hd b (by simp [hb])) v2)
  have hlen : its.length = bs.length := by rw [← rv.length, List.length_map]
  have hz' : its.length ≤ sizeLine := by rw [← rv.length]; exact hz
  have hu := hr.units
  refine PySem.Calls.call_function_entry PyProof.Rows.kind_sorted PyProof.Rows.plain_sorted PyProof.Rows.entry_sorted (PyProof.Rows.args_sorted1 _) ?_
  unfold Builtin.«sorted»
  refine wpAny_bind (m := checkCount "sorted" 1 1 _) (wpAny_pure ?_)
  refine wpAny_bind (wpAny_collect_seq a (.inr rfl) ho hc hdt (fun h' hkeep => ?_) (by rw [List.size_toArray]; exact hz'))
  rw [show its.toArray.toList = its by simp]
  refine wpAny_bind (wpAny_newList ?_ hz')
  have I2 := I.kept (t' := s.toks) hkeep
  generalize hD : h'.objs.size = D
  have ho2 : (h'.push { cls := .type "list", data := .seq its.toArray }).get? D = some (seqObj "list" its.toArray 0) := by rw [← hD]; exact Heap.get?_push_size _ rfl
  have hold : ∀ b u, h'.get? b = some u → b ≠ D ∧ (h'.push { cls := .type "list", data := .seq its.toArray }).get? b = some u := fun b u e => by
    have hlt : b < D := hD ▸ Heap.lt_size e
    exact ⟨Nat.ne_of_lt hlt, by rw [Heap.get?_push_ne _ _ _ (by rw [hD]; exact Nat.ne_of_lt hlt)]; exact e⟩
  have er' : EachIs (fun v b => ∃ as, Reads (sortingHeap (h'.push { cls := .type "list", data := .seq its.toArray }) D its) v b.1 as) its bs :=
    er.mono fun _ _ ⟨as, r⟩ => ⟨as, PyProof.Rows.Reads.keeps (fun b u e => by
      obtain ⟨h1, h2⟩ := hold b u (hkeep b u e)
      exact sortingHeap_old h1 h2) r⟩
  refine wpAny_bind (wpAny_holding (wpAny_call_entry PyProof.Rows.slot_list_sort ⟨_, ho2, rfl⟩ PyProof.Rows.entry_list_sort (list_sort_vals (κ := dataKind (sortingHeap (h'.push { cls := .type "list", data := .seq its.toArray }) D its) (bs.map (·.1))) ho2 (SortsAt.data (each_map (R := fun v d => ∃ as, Reads (sortingHeap (h'.push { cls := .type "list", data := .seq its.toArray }) D its) v d as) (fun b : PyData × V => b.1) er') hal hk (bound_map fun b hb => ?_)) hz' ?_) (PyProof.Rows.args_list_sort _)))
  · have := hdep b hb
    show X.A.units + 2 + b.1.depth < cLine
    omega
  · generalize hout : sortVals (dataKind (sortingHeap (h'.push { cls := .type "list", data := .seq its.toArray }) D its) (bs.map (·.1))) false its its = out
    have hol : out.length = its.length := by rw [← hout]; exact sortVals_length false rfl
    have eo : EachIs (fun v b => RelV b.2 v) out (bs.mergeSort byD) := by rw [← hout]; exact sortVals_data (enc := fun b : PyData × V => b.1) false e er' hal
    obtain ⟨ep, hat⟩ := PyProof.Rows.sortedHeap_at (out := out.toArray) ho2
    have vo := rel_each eo
    refine ⟨.none, rfl, wpAny_pure ⟨_, rfl, .ref D, upd H D (.lst ((bs.mergeSort byD).map (·.2))), I2.laid (t' := s.toks) (fun b u e => ?_) (Nat.le_of_eq hD) ⟨?_, out, ep, vo, hat⟩, rfl, q _ (I2.hok.fresh (Nat.le_of_eq hD))⟩⟩
    · obtain ⟨h1, h2⟩ := hold b u e
      rw [PyProof.Rows.sortedHeap_old h1 (Heap.lt_size h2)]
      exact h2
    · rw [List.length_map, List.length_mergeSort, ← hlen]
      exact hz'
def rSortB (K : PySem.W.Frag) : List V → Hp → VK → Prop := fun vs H Q => rSortD K vs H Q ∨ rSortT K vs H Q
theorem callSortB {K : PySem.W.Frag} {k : Nat} (hr : Room k X.A) (hK : X.K = K := by rfl) : CallR X (.builtin "sorted") (rSortB K) := by subst hK; exact CallR.or (callSortD hr) (callSortT hr)
end
section
variable {K : PySem.W.Frag} {ρ ρ' : List En} {R R1 Rz R3 : List Ow} {e x y z : En} {ta tb tc te to ti td : TE} {t u tt : TT} {Q : En → List Ow → Prop} {ts : TA} {P : Post} {b1 b2 : TS} {g : TG} {wi : TI}
theorem rc_sortT {ds : List PyData} (hal : AllAlike ds) (hk : Sortable ds) (hd : ∀ d ∈ ds, d.depth ≤ 60) : RcK K (rSortT K) [.d (.tuple ds)] R (.d (.list (sortD ds))) := fun R0 F H vs E A Q q => by
  obtain ⟨v, rfl, h⟩ := ens1 E
  obtain ⟨a, ws, rfl, h1, hv⟩ := Dt.tupD h
  obtain ⟨e1, e2, e3⟩ := dts_zip hv
  refine ⟨a, ds.zip ws, rfl, by rw [e2]; exact A.sqT h1, fun b hb => Dt.dp _ (Dt.mono A.ex _ (e3 b hb)), by rw [e1]; exact hal, by rw [e1]; exact hk, fun b hb => hd b.1 ?_, fun p hp => ?_⟩
  · have : b.1 ∈ (ds.zip ws).map (·.1) := List.mem_map.mpr ⟨b, hb, rfl⟩
    rw [e1] at this
    exact this
  · have hm : ∀ b ∈ (ds.zip ws).mergeSort byD, Dt K F b.2 b.1 := fun b hb => e3 b (List.mem_mergeSort.mp hb)
    have hf : ((ds.zip ws).mergeSort byD).map (·.1) = sortD ds := by
      have hmm := List.map_mergeSort (r := byD) (s := PySem.W.dataLe false (fun d : PyData => d)) (f := fun b : PyData × V => b.1) (l := ds.zip ws) (fun a _ b _ => rfl)
      rw [hmm, e1]
      rfl
    have hd2 := dts_of hm
    rw [hf] at hd2
    obtain ⟨x, A1⟩ := A.new (.lst (((ds.zip ws).mergeSort byD).map (·.2))) hp
    exact q _ _ _ x A1 (.lst upd_same (hd2.mono x _))
theorem bi_srtL {ds : List PyData} (hal : AllAlike ds) (hk : Sortable ds) (hd : ∀ d ∈ ds, d.depth ≤ 60) (q : Q (.d (.list (sortD ds))) R) : Rcp K (rSortB K) [.d (.list ds)] R Q := fun R0 F H vs e1 A Q' q' => .inl (rc_sortL hal hk hd R0 F H vs e1 A Q' fun w F1 H1 x1 A1 e3 => q' _ R w F1 H1 q x1 A1 e3)
theorem bi_srtT {ds : List PyData} (hal : AllAlike ds) (hk : Sortable ds) (hd : ∀ d ∈ ds, d.depth ≤ 60) (q : Q (.d (.list (sortD ds))) R) : Rcp K (rSortB K) [.d (.tuple ds)] R Q := fun R0 F H vs e1 A Q' q' => .inr (rc_sortT hal hk hd R0 F H vs e1 A Q' fun w F1 H1 x1 A1 e3 => q' _ R w F1 H1 q x1 A1 e3)
/-! texts or not -/
def isStrB : PyData → Bool
  | .str _ => true
  | _ => false
theorem kit_str (d : PyData) : kitB (kindD d) "str" = some (isStrB d) := by
  cases d
  · show kitB "NoneType" "str" = some false; decide +kernel
  · show kitB "bool" "str" = some false; decide +kernel
  · show kitB "int" "str" = some false; decide +kernel
  · show kitB "str" "str" = some true; decide +kernel
  · show kitB "list" "str" = some false; decide +kernel
  · show kitB "tuple" "str" = some false; decide +kernel
  · show kitB "dict" "str" = some false; decide +kernel
theorem bi_isiS {d : PyData} (q : Q (.d (.bool (isStrB d))) R) : Rcp K (rIsi K) [.d d, .v (.ty "str")] R Q := bi_isi (kit_str d) q
theorem lcp_filterD {vs : List Nat} {p : PyData → Bool} {f : PyData → PyData} {ds : List PyData} {Ql : List PyData → List Ow → Prop} (h : ∀ d ∈ ds, ∃ ρ', EgW K g vs (.d d) ρ ρ' ∧ Etp K tt ρ' R fun b R1 => b = p d ∧ R1 = R ∧ (p d = true → Evp K te ρ' R fun e R1 => e = .d (f d) ∧ R1 = R)) (q : Ql ((ds.filter p).map f) R) : LcP K g tt te vs ρ ds R Ql := by
  have := lcp_filter (K := K) (g := g) (tt := tt) (te := te) (ρ := ρ) (R := R) (vs := vs) (enc := fun d : PyData => d) (p := p) (f := f) (l := ds) (Ql := Ql) h q
  rwa [List.map_id'] at this
theorem lcp_mapD {vs : List Nat} {f : PyData → PyData} {ds : List PyData} {Ql : List PyData → List Ow → Prop} (h : ∀ d ∈ ds, ∃ ρ', EgW K g vs (.d d) ρ ρ' ∧ Evp K te ρ' R fun e R1 => e = .d (f d) ∧ R1 = R) (q : Ql (ds.map f) R) : LcP K g tYes te vs ρ ds R Ql := by
  have := lcp_map (K := K) (g := g) (te := te) (ρ := ρ) (R := R) (vs := vs) (enc := fun d : PyData => d) (f := f) (l := ds) (Ql := Ql) h q
  rwa [List.map_id'] at this
end
theorem lay_filter {p : PyData → Bool} : ∀ {ds : List PyData}, PyData.canLayAll0 ds = true → PyData.canLayAll0 (ds.filter p) = true
  | [], h => h
  | d :: ds, h => by
    have h' : (d.canLay0 && PyData.canLayAll0 ds) = true := h
    rw [Bool.and_eq_true] at h'
    rw [List.filter_cons]
    split
    · show (d.canLay0 && PyData.canLayAll0 (ds.filter p)) = true
      rw [h'.1, lay_filter h'.2]; rfl
    · exact lay_filter h'.2
theorem depth_filter {p : PyData → Bool} : ∀ {ds : List PyData}, PyData.depthAll (ds.filter p) ≤ PyData.depthAll ds
  | [] => Nat.le_refl _
  | d :: ds => by
    have ih := depth_filter (p := p) (ds := ds)
    have e : PyData.depthAll (d :: ds) = max d.depth (PyData.depthAll ds) := rfl
    rw [List.filter_cons, e]
    split
    · have e2 : PyData.depthAll (d :: ds.filter p) = max d.depth (PyData.depthAll (ds.filter p)) := rfl
      rw [e2]; omega
    · omega
theorem shaped_list {ds : List PyData} (h1 : PyData.canLayAll0 ds = true) (h2 : PyData.depthAll ds ≤ 50) : SeqAt.shaped (.list ds) = true := by
  unfold SeqAt.shaped
  have e : (PyData.list ds).canLay0 = PyData.canLayAll0 ds := rfl
  have e2 : (PyData.list ds).depth = PyData.depthAll ds + 1 := rfl
  rw [e, h1, e2, Bool.true_and]
  exact decide_eq_true (by omega)
theorem lay_nS : ∀ l : List Nm, PyData.canLayAll0 (l.map nS) = true
  | [] => rfl
  | a :: l => by
    show ((nS a).canLay0 && PyData.canLayAll0 (l.map nS)) = true
    rw [lay_nS l, Bool.and_true]
    exact a.ok
theorem depth_nS2 : ∀ l : List Nm, PyData.depthAll (l.map nS) ≤ 1
  | [] => by decide
  | a :: l => by
    have e : PyData.depthAll ((a :: l).map nS) = max (nS a).depth (PyData.depthAll (l.map nS)) := rfl
    have e2 : (nS a).depth ≤ 1 := by simp [PyData.depth]
    have := depth_nS2 l
    rw [e]; omega
theorem shaped_nS (l : List Nm) : SeqAt.shaped (.list (l.map nS)) = true := shaped_list (lay_nS l) (by have := depth_nS2 l; omega)
end Fx

namespace Fx
open PySem PySem.Spec PyProof.Rows L2 StX RZ
/-! a tuple taken apart -/
def Pr2 (e : En) (Q : PyData → PyData → Prop) : Prop := ∃ a b, e = .d (.tuple [a, b]) ∧ Q a b
theorem pr2 {a b : PyData} {Q : PyData → PyData → Prop} (q : Q a b) : Pr2 (.d (.tuple [a, b])) Q := ⟨a, b, rfl, q⟩
def Pr4 (e : En) (Q : PyData → PyData → PyData → PyData → Prop) : Prop := ∃ a b c d, e = .d (.tuple [a, b, c, d]) ∧ Q a b c d
theorem pr4 {a b c d : PyData} {Q : PyData → PyData → PyData → PyData → Prop} (q : Q a b c d) : Pr4 (.d (.tuple [a, b, c, d])) Q := ⟨a, b, c, d, rfl, q⟩
section
variable {K : PySem.W.Frag} {ρ ρ' : List En} {R R1 Rz R3 : List Ow} {e x y z : En} {ta tb tc te to ti td : TE} {t u tt : TT} {Q : En → List Ow → Prop} {ts : TA} {P : Post} {b1 b2 : TS} {g : TG} {wi : TI} {Qi : List PyData → List Ow → Prop}
theorem sp_unp2 {i j n : Nat} (hn : n = 2) (h : Evp K te ρ R fun e R1 => Pr2 e fun a b => P.nx ((ρ.set i (.d a)).set j (.d b)) R1) : Es K (tAsg te (gTup K n (gCons (gName i) (gCons (gName j) gNil)))) ρ R P := by
  subst hn
  refine sp_asg (evp_mono h ?_)
  rintro e R1 ⟨a, b, rfl, hq⟩
  exact ⟨_, eg_pair, hq⟩
theorem eg_quad {i j k l : Nat} {d1 d2 d3 d4 : PyData} : Eg K (gTup K 4 (gCons (gName i) (gCons (gName j) (gCons (gName k) (gCons (gName l) gNil))))) (.d (.tuple [d1, d2, d3, d4])) ρ ((((ρ.set i (.d d1)).set j (.d d2)).set k (.d d3)).set l (.d d4)) := fun R F H σ v S A hv Q q => by
  cases hv with
  | tup h1 h2 =>
    cases h2 with
    | cons a b =>
      cases b with
      | cons b c =>
        cases c with
        | cons c d =>
          cases d with
          | cons d f =>
            cases f
            exact ⟨_, _, rfl, A.sqT h1, rfl, _, _, rfl, _, _, rfl, _, _, rfl, _, _, rfl, rfl, q _ ((((S.set i (.of (e := .d d1) a)).set j (.of (e := .d d2) b)).set k (.of (e := .d d3) c)).set l (.of (e := .d d4) d))⟩
theorem sp_unp4 {i j k l n : Nat} (hn : n = 4) (h : Evp K te ρ R fun e R1 => Pr4 e fun a b c d => P.nx ((((ρ.set i (.d a)).set j (.d b)).set k (.d c)).set l (.d d)) R1) : Es K (tAsg te (gTup K n (gCons (gName i) (gCons (gName j) (gCons (gName k) (gCons (gName l) gNil)))))) ρ R P := by
  subst hn
  refine sp_asg (evp_mono h ?_)
  rintro e R1 ⟨a, b, c, d, rfl, hq⟩
  exact ⟨_, eg_quad, hq⟩
/-! enumerate -/
theorem ip_enumL (h : Eap K ts ρ R fun es R1 => ∃ xs, es = [.d (.list xs)] ∧ Qi (prs (rngD 0 xs.length) xs) R1) : Eip K (iEnumA K ts) ρ R Qi := fun R0 F H σ S A Q' q' => .inl (h R0 F H σ S A _ fun es R1 vs F1 H1 ⟨xs, he, hq⟩ x1 A1 e1 => by
  subst he
  obtain ⟨v, rfl, hv⟩ := ens1 e1
  have s3 : Sls K F1 [some v] [.d (.list xs)] := .cons (.of hv) .nil
  have h4 := ei_enum (K := K) (ρ := [.d (.list xs)]) (R := R1) (R1 := R1) (ts := tCons (tVar 0) tNil) (xs := xs) (ea_cons (ev_d rfl) ea_nil) R0 F1 H1 [some v] s3 A1 Q' fun J F2 H2 x2 A2 w => q' _ R1 J F2 H2 hq (x1.trans x2) A2 w
  obtain ⟨w, hw, hk⟩ := h4
  cases hw
  exact hk)
theorem prs_enum {α : Type} {enc : α → PyData} (l : List α) : prs (rngD 0 (l.map enc).length) (l.map enc) = l.zipIdx.map fun x : α × Nat => PyData.tuple [.int (x.2 : Int), enc x.1] := by
  apply List.ext_getElem?
  intro i
  unfold prs
  rw [List.getElem?_zipWith, List.getElem?_map, List.getElem?_map, List.getElem?_zipIdx]
  cases h : l[i]? with
  | none => simp
  | some a =>
    have hi : i < (l.map enc).length := by rw [List.length_map]; exact (List.getElem?_eq_some_iff.mp h).1
    rw [rngD_get hi]
    simp
/-! slices -/
def SlP (e : En) (lo hi : Option Int) (R : List Ow) (Q : En → List Ow → Prop) : Prop := (∃ ds, e = .d (.list ds) ∧ Q (.d (.list (cutD ds lo hi))) R) ∨ ∃ ds, e = .d (.tuple ds) ∧ Q (.d (.tuple (cutD ds lo hi))) R
theorem gp_slP {t1 t2 : TO} (h : Evp K te ρ R fun e R1 => Eop K t1 ρ R1 fun lo R2 => Eop K t2 ρ R2 fun hi R3 => SlP e lo hi R3 Q) : Evp K (tSl (rSlAny K) te t1 t2) ρ R Q := gp_sl h
theorem slp_t {ds : List PyData} {lo hi : Option Int} (q : Q (.d (.tuple (cutD ds lo hi))) R) : SlP (.d (.tuple ds)) lo hi R Q := .inr ⟨ds, rfl, q⟩
theorem slp_l {ds : List PyData} {lo hi : Option Int} (q : Q (.d (.list (cutD ds lo hi))) R) : SlP (.d (.list ds)) lo hi R Q := .inl ⟨ds, rfl, q⟩
/-! min -/
theorem bi_minL {ns : List Int} (hn : ns ≠ []) (q : Q (.d (.int (minI ns))) R) : Rcp K (rMin K) [.d (.list (ns.map .int))] R Q := rcp_of (rc_min hn) q
end
/-! is None -/
section
variable {n : Bool} {Q : En → List Ow → Prop} {R : List Ow}
theorem isn_n (q : Q (.d (.bool n)) R) : IsNP n (.d .none) R Q := by cases n <;> exact q
theorem isn_t {l : List PyData} (q : Q (.d (.bool (!n))) R) : IsNP n (.d (.tuple l)) R Q := by cases n <;> exact q
theorem isn_l {l : List PyData} (q : Q (.d (.bool (!n))) R) : IsNP n (.d (.list l)) R Q := by cases n <;> exact q
theorem isn_i {i : Int} (q : Q (.d (.bool (!n))) R) : IsNP n (.d (.int i)) R Q := by cases n <;> exact q
theorem isn_s {s : Str} (q : Q (.d (.bool (!n))) R) : IsNP n (.d (.str s)) R Q := by cases n <;> exact q
theorem isn_b {b : Bool} (q : Q (.d (.bool (!n))) R) : IsNP n (.d (.bool b)) R Q := by cases n <;> exact q
theorem isn_o {a : Addr} (q : Q (.d (.bool (!n))) R) : IsNP n (.o a) R Q := by cases n <;> exact q
end
theorem atI_some {α : Type} {l : List α} {v : Nat} (h : v < l.length) : ∃ d ∈ l, L2.atI l ((v : Int) - 1) = some d := by
  cases v with
  | zero =>
    rcases List.eq_nil_or_concat l with e | ⟨l', x, e⟩
    · subst e; simp at h
    · rw [List.concat_eq_append] at e
      subst e
      exact ⟨x, by simp, atI_last _ _⟩
  | succ v =>
    refine ⟨l[v], List.getElem_mem _, ?_⟩
    have e : ((v + 1 : Nat) : Int) - 1 = (v : Int) := by omega
    rw [e]
    exact atI_nat (List.getElem?_eq_getElem (by omega))
theorem cut_mem {d : PyData} {ds : List PyData} {lo hi : Option Int} (h : d ∈ cutD ds lo hi) : d ∈ ds := List.mem_of_mem_drop (List.mem_of_mem_take h)
theorem cut_len (ds : List PyData) (lo hi : Option Int) : (cutD ds lo hi).length ≤ ds.length := by
  unfold cutD
  rw [List.length_take, List.length_drop]
  omega
end Fx

namespace Fx
open PySem PySem.Spec PyProof.Rows L2 StX RZ
/-! a list taken apart -/
theorem pgLst {X : Cx} {K : PySem.W.Frag} {es : List Expr} {k : Nat} {pos : Pos} {t : TGs} {n : Nat} (hc : X.calm = true) (h : PGs X es t) (hn : (assignEach es X.env).length = n := by rfl) (hst : (assignEach es X.env).findIdx? (·.1) = none := by rfl) (hK : X.K = K := by rfl) : PG X (.Tuple es k pos) (gLst K n t) := by subst hK; exact pg_lst hc h hn hst
def Pr2L (e : En) (Q : PyData → PyData → Prop) : Prop := ∃ a b, e = .d (.list [a, b]) ∧ Q a b
theorem pr2l {a b : PyData} {Q : PyData → PyData → Prop} (q : Q a b) : Pr2L (.d (.list [a, b])) Q := ⟨a, b, rfl, q⟩
section
variable {K : PySem.W.Frag} {ρ ρ' : List En} {R R1 Rz R3 : List Ow} {e x y z : En} {ta tb tc te to ti td : TE} {t u tt : TT} {Q : En → List Ow → Prop} {ts : TA} {P : Post} {b1 b2 : TS} {g : TG} {wi : TI}
theorem eg_pairL {i j : Nat} {d1 d2 : PyData} : Eg K (gLst K 2 (gCons (gName i) (gCons (gName j) gNil))) (.d (.list [d1, d2])) ρ ((ρ.set i (.d d1)).set j (.d d2)) := fun R F H σ v S A hv Q q => by
  cases hv with
  | lst h1 h2 =>
    cases h2 with
    | cons a b =>
      cases b with
      | cons b c =>
        cases c
        exact ⟨_, _, rfl, A.sqL h1, rfl, _, _, rfl, _, _, rfl, rfl, q _ ((S.set i (.of (e := .d d1) a)).set j (.of (e := .d d2) b))⟩
theorem sp_unl2 {i j n : Nat} (hn : n = 2) (h : Evp K te ρ R fun e R1 => Pr2L e fun a b => P.nx ((ρ.set i (.d a)).set j (.d b)) R1) : Es K (tAsg te (gLst K n (gCons (gName i) (gCons (gName j) gNil)))) ρ R P := by
  subst hn
  refine sp_asg (evp_mono h ?_)
  rintro e R1 ⟨a, b, rfl, hq⟩
  exact ⟨_, eg_pairL, hq⟩
/-! what may be written out: names -/
theorem Sh.nm (a : Nm) {k : Nat} : Sh (nS a) k 100 := by
  refine ⟨rfl, rfl, by simp [PyData.depth], ?_, a.len⟩
  have h := a.ok
  unfold PyData.strOk at h
  show (a.s.cps.toList.all fun c => decide (c < 16 ^ 8)) = true
  rw [List.all_eq_true]
  intro c hc
  rw [Array.all_eq_true'] at h
  have := h c (by simpa using hc)
  simp at this
  exact decide_eq_true (by omega)
theorem Sh.none {k n : Nat} : Sh .none k n := ⟨rfl, rfl, Nat.zero_le _, rfl, Nat.zero_le _⟩
theorem Sh.bool {b : Bool} {k n : Nat} : Sh (.bool b) k n := ⟨rfl, rfl, Nat.zero_le _, rfl, Nat.zero_le _⟩
theorem bi_reprS {d : PyData} {k n : Nat} (h : Sh d k n) (hk : k ≤ 60) (hn : n ≤ 8000) (q : Q (.d (.str d.shown)) R) : Rcp K (rRepr K) [.d d] R Q := by
  refine bi_repr h.s h.h (Nat.le_trans h.e hk) ?_ q
  exact Nat.le_trans (PyData.shown_le_bulk 2000 (by decide) d h.l) (Nat.le_trans (Nat.add_le_add_right (Nat.mul_le_mul_left _ (Nat.le_trans h.b hn)) _) (by decide))
theorem op_neSS {a : Str} (q : Q (.d (.bool false)) R) : Rvp K rNe (.d (.str a)) (.d (.str a)) R Q := rvp_of rv_neSS q
/-! arguments by names -/
theorem ens_id2 {F : Hp} {vs : List V} {a b : En} (h : Ens K F vs [a, b]) : Ens K F ((fun (us ws : List V) => match us, ws with | [], [u0, u1] => [u0, u1] | _, _ => []) [] vs) [a, b] := by
  cases h with
  | cons h1 h =>
    cases h with
    | cons h2 h => cases h; exact .cons h1 (.cons h2 .nil)
theorem ens_sw2 {F : Hp} {vs : List V} {a b : En} (h : Ens K F vs [a, b]) : Ens K F ((fun (us ws : List V) => match us, ws with | [], [u0, u1] => [u1, u0] | _, _ => []) [] vs) [b, a] := by
  cases h with
  | cons h1 h =>
    cases h with
    | cons h2 h => cases h; exact .cons h2 (.cons h1 .nil)
theorem ens_021 {F : Hp} {vs : List V} {a b c : En} (h : Ens K F vs [a, b, c]) : Ens K F ((fun (us ws : List V) => match us, ws with | [], [u0, u1, u2] => [u0, u2, u1] | _, _ => []) [] vs) [a, c, b] := by
  cases h with
  | cons h1 h =>
    cases h with
    | cons h2 h =>
      cases h with
      | cons h3 h => cases h; exact .cons h1 (.cons h3 (.cons h2 .nil))
/-! two branches, one value -/
theorem br_evp {c : Bool} (V : En → List Ow → Prop) (h : (c = true → Evp K ta ρ R V) ∧ (c = false → Evp K tb ρ R V)) (k : ∀ e R, V e R → Q e R) : (c = true → Evp K ta ρ R Q) ∧ (c = false → Evp K tb ρ R Q) := ⟨fun hc => evp_mono (h.1 hc) k, fun hc => evp_mono (h.2 hc) k⟩
theorem br_and {c : Bool} (V : En → List Ow → Prop) (h : (c = true → Evp K ta ρ R V) ∧ (c = false → V (.d (.bool false)) R)) (k : ∀ e R, V e R → Q e R) : (c = true → Evp K ta ρ R Q) ∧ (c = false → Q (.d (.bool false)) R) := ⟨fun hc => evp_mono (h.1 hc) k, fun hc => k _ _ (h.2 hc)⟩
theorem br_or {c : Bool} (V : En → List Ow → Prop) (h : (c = true → V (.d (.bool true)) R) ∧ (c = false → Evp K ta ρ R V)) (k : ∀ e R, V e R → Q e R) : (c = true → Q (.d (.bool true)) R) ∧ (c = false → Evp K ta ρ R Q) := ⟨fun hc => k _ _ (h.1 hc), fun hc => evp_mono (h.2 hc) k⟩
theorem callkp {N : PT} {gV : List V → List V → List V} {es es' : List En} (hg : ∀ F vs, Ens K F vs es → Ens K F (gV [] vs) es') (h : N es' fun e => Q e R) : ∃ es', (∀ F vs, Ens K F vs es → Ens K F (gV [] vs) es') ∧ N es' fun e => Q e R := ⟨es', hg, h⟩
end
end Fx

namespace Fx
open PySem PySem.Spec PyProof.Rows L2 StX RZ
/-! calls whose promises were told in the first layer -/
def CallW (Pre : List En → List Ow → (En → List Ow → Prop) → Prop) (es : List En) (R : List Ow) (Q : En → List Ow → Prop) : Prop := ∃ Rc Rf Po, R = Rc ++ Rf ∧ Pre es Rc Po ∧ ∀ e R', Po e R' → Q e (R' ++ Rf)
def CallS (Sf : List En → List Ow → En → List Ow → Prop) (es : List En) (R : List Ow) (Q : En → List Ow → Prop) : Prop := ∃ e Rc R' Rf, R = Rc ++ Rf ∧ Sf es Rc e R' ∧ Q e (R' ++ Rf)
def CallKS (K : PySem.W.Frag) (gV : List V → List V → List V) (Sf : List En → List Ow → En → List Ow → Prop) (es : List En) (R : List Ow) (Q : En → List Ow → Prop) : Prop := ∃ es' e, (∀ F vs, Ens K F vs es → Ens K F (gV [] vs) es') ∧ Sf es' [] e [] ∧ Q e R
section
variable {K : PySem.W.Frag} {ρ ρ' : List En} {R R1 Rz R3 : List Ow} {e x y z : En} {ta tb tc te to ti td : TE} {t u tt : TT} {Q : En → List Ow → Prop} {ts : TA} {P : Post} {b1 b2 : TS} {g : TG} {wi : TI}
theorem gp_callW {Pre : List En → List Ow → (En → List Ow → Prop) → Prop} (h : Eap K ts ρ R fun es R1 => CallW Pre es R1 Q) : Evp K (tCall (spN K Pre) [] E0 ts) ρ R Q := fun R0 F H σ S A Q' q' =>
  h R0 F H σ S A _ fun es R1 vs F1 H1 ⟨Rc, Rf, Po, hR, hp, hk⟩ x1 A1 e1 => by
    subst hR
    rw [List.append_nil]
    rw [List.append_assoc] at A1
    exact ⟨es, Rc, Rf ++ R0, F1, Po, hp, e1, A1, fun e R' v F2 H2 hq x2 A2 e2 => q' e (R' ++ Rf) v F2 H2 (hk e R' hq) (x1.trans x2) (by rw [List.append_assoc]; exact A2) e2⟩
theorem callW0 {Pre : List En → List Ow → (En → List Ow → Prop) → Prop} {es : List En} {Po : En → List Ow → Prop} (h : Pre es R Po) (k : ∀ e R', Po e R' → Q e R') : CallW Pre es R Q := ⟨R, [], Po, (List.append_nil _).symm, h, fun e R' p => by rw [List.append_nil]; exact k e R' p⟩
theorem gp_callS {Sf : List En → List Ow → En → List Ow → Prop} (h : Eap K ts ρ R fun es R1 => CallS Sf es R1 Q) : Evp K (tCall (Fx.spS K Sf) [] E0 ts) ρ R Q := fun R0 F H σ S A Q' q' =>
  h R0 F H σ S A _ fun es R1 vs F1 H1 ⟨e, Rc, R', Rf, hR, hs, hq⟩ x1 A1 e1 => by
    subst hR
    rw [List.append_nil]
    rw [List.append_assoc] at A1
    exact ⟨es, Rc, Rf ++ R0, F1, e, R', hs, e1, A1, fun v F2 H2 x2 A2 e2 => q' e (R' ++ Rf) v F2 H2 hq (x1.trans x2) (by rw [List.append_assoc]; exact A2) e2⟩
/-- nothing is owned -/
theorem callS0 {Sf : List En → List Ow → En → List Ow → Prop} {es : List En} {e : En} (h : Sf es [] e []) (q : Q e R) : CallS Sf es R Q := ⟨e, [], [], R, rfl, h, q⟩
/-- all that is owned goes in -/
theorem callS1 {Sf : List En → List Ow → En → List Ow → Prop} {es : List En} {e : En} {R' : List Ow} (h : Sf es R e R') (q : Q e R') : CallS Sf es R Q := ⟨e, R, R', [], (List.append_nil _).symm, h, by rw [List.append_nil]; exact q⟩
theorem gp_callKS {Sf : List En → List Ow → En → List Ow → Prop} {gV : List V → List V → List V} (h : Eap K ts ρ R fun es R1 => CallKS K gV Sf es R1 Q) : Evp K (tCallKO (Fx.spS K Sf) gV E0 ts) ρ R Q := fun R0 F H σ S A Q' q' =>
  h R0 F H σ S A _ fun es R1 vs F1 H1 ⟨es', e, hg, hs, hq⟩ x1 A1 e1 =>
    ⟨es', [], R1 ++ R0, F1, e, [], hs, hg F1 vs e1, A1, fun v F2 H2 x2 A2 e2 => q' e R1 v F2 H2 hq (x1.trans x2) A2 e2⟩
theorem callKS0 {gV : List V → List V → List V} {Sf : List En → List Ow → En → List Ow → Prop} {es es' : List En} {e : En} (hg : ∀ F vs, Ens K F vs es → Ens K F (gV [] vs) es') (h : Sf es' [] e []) (q : Q e R) : CallKS K gV Sf es R Q := ⟨es', e, hg, h, q⟩
end
end Fx

/-! fractions in lowest terms: plain mathematics -/
namespace Fr
/-- the quotient in lowest terms, the bottom above 0 -/
def norm (t b : Int) : Int × Int :=
  let g := ((Nat.gcd t.natAbs b.natAbs : Nat) : Int)
  if b < 0 then (t.fdiv (-g), b.fdiv (-g)) else (t.fdiv g, b.fdiv g)
structure Low (p : Int × Int) : Prop where
  pos : 0 < p.2
  cop : Nat.gcd p.1.natAbs p.2.natAbs = 1
theorem parts {t b : Int} (hb : b ≠ 0) : ∃ g x y : Int, 0 < g ∧ ((Nat.gcd t.natAbs b.natAbs : Nat) : Int) = g ∧ t = g * x ∧ b = g * y ∧ Nat.gcd x.natAbs y.natAbs = 1 := by
  have hg : 0 < Nat.gcd t.natAbs b.natAbs := Nat.gcd_pos_of_pos_right _ (by omega)
  obtain ⟨x, hx⟩ : ((Nat.gcd t.natAbs b.natAbs : Nat) : Int) ∣ t := Int.ofNat_dvd_left.mpr (Nat.gcd_dvd_left _ _)
  obtain ⟨y, hy⟩ : ((Nat.gcd t.natAbs b.natAbs : Nat) : Int) ∣ b := Int.ofNat_dvd_left.mpr (Nat.gcd_dvd_right _ _)
  refine ⟨_, x, y, by omega, rfl, hx, hy, ?_⟩
  generalize hgg : Nat.gcd t.natAbs b.natAbs = g at *
  have h1 : t.natAbs = g * x.natAbs := by rw [hx, Int.natAbs_mul, Int.natAbs_natCast]
  have h2 : b.natAbs = g * y.natAbs := by rw [hy, Int.natAbs_mul, Int.natAbs_natCast]
  rw [h1, h2, Nat.gcd_mul_left] at hgg
  exact Nat.eq_of_mul_eq_mul_left hg (by rw [hgg, Nat.mul_one])
theorem norm_of {t b : Int} (hb : b ≠ 0) : Low (norm t b) ∧ (norm t b).1 * b = t * (norm t b).2 := by
  obtain ⟨g, x, y, hg, eg, rfl, rfl, hc⟩ := parts (t := t) hb
  have hy : y ≠ 0 := fun h => hb (by rw [h, Int.mul_zero])
  unfold norm
  simp only
  rw [eg]
  have d1 : ∀ z : Int, (g * z).fdiv g = z := fun z => Int.mul_fdiv_cancel_left z (by omega)
  have d2 : ∀ z : Int, (g * z).fdiv (-g) = -z := fun z => by
    rw [show g * z = (-g) * (-z) by rw [Int.neg_mul_neg]]
    exact Int.mul_fdiv_cancel_left _ (by omega)
  by_cases h0 : g * y < 0
  · rw [if_pos h0, d2, d2]
    have hyn : y < 0 := by
      rcases Int.lt_or_gt_of_ne hy with h | h
      · exact h
      · exact absurd (Int.mul_pos hg h) (by omega)
    refine ⟨⟨by show 0 < -y; omega, by show Nat.gcd (-x).natAbs (-y).natAbs = 1; rw [Int.natAbs_neg, Int.natAbs_neg]; exact hc⟩, ?_⟩
    show -x * (g * y) = g * x * -y
    grind
  · rw [if_neg h0, d1, d1]
    have hyp : 0 < y := by
      rcases Int.lt_or_gt_of_ne hy with h | h
      · exact absurd (Int.mul_neg_of_pos_of_neg hg h) h0
      · exact h
    refine ⟨⟨hyp, hc⟩, ?_⟩
    show x * (g * y) = g * x * y
    grind
theorem low_one {p q : Int × Int} (hp : Low p) (hq : Low q) (h : p.1 * q.2 = q.1 * p.2) : p = q := by
  obtain ⟨a, b⟩ := p
  obtain ⟨c, d⟩ := q
  obtain ⟨b0, hab⟩ := hp
  obtain ⟨d0, hcd⟩ := hq
  simp only at *
  have hn : a.natAbs * d.natAbs = c.natAbs * b.natAbs := by rw [← Int.natAbs_mul, ← Int.natAbs_mul, h]
  have h1 : b.natAbs ∣ d.natAbs := by
    have : b.natAbs ∣ a.natAbs * d.natAbs := by rw [hn]; exact Nat.dvd_mul_left _ _
    exact Nat.Coprime.dvd_of_dvd_mul_left (Nat.Coprime.symm (show Nat.Coprime a.natAbs b.natAbs from hab)) this
  have h2 : d.natAbs ∣ b.natAbs := by
    have : d.natAbs ∣ c.natAbs * b.natAbs := by rw [← hn]; exact Nat.dvd_mul_left _ _
    exact Nat.Coprime.dvd_of_dvd_mul_left (Nat.Coprime.symm (show Nat.Coprime c.natAbs d.natAbs from hcd)) this
  have hbd : b = d := by
    have := Nat.dvd_antisymm h1 h2
    omega
  subst hbd
  have : a = c := Int.eq_of_mul_eq_mul_right (by omega) h
  rw [this]
/-- two quotients are one fraction just if the products crosswise are alike -/
theorem norm_eq {t b t' b' : Int} (hb : b ≠ 0) (hb' : b' ≠ 0) (h : t * b' = t' * b) : norm t b = norm t' b' := by
  obtain ⟨l1, e1⟩ := norm_of (t := t) hb
  obtain ⟨l2, e2⟩ := norm_of (t := t') hb'
  refine low_one l1 l2 ?_
  generalize norm t b = p at *
  generalize norm t' b' = q at *
  have h3 : (p.1 * q.2 - q.1 * p.2) * (b * b') = 0 := by grind
  rcases Int.mul_eq_zero.mp h3 with h4 | h4
  · omega
  · rcases Int.mul_eq_zero.mp h4 with h5 | h5
    · exact absurd h5 hb
    · exact absurd h5 hb'
theorem norm_low {p : Int × Int} (h : Low p) : norm p.1 p.2 = p := by
  have hb : p.2 ≠ 0 := by have := h.pos; omega
  obtain ⟨l, e⟩ := norm_of (t := p.1) hb
  exact low_one l h e
def plusF (p q : Int × Int) : Int × Int := norm (p.1 * q.2 + q.1 * p.2) (p.2 * q.2)
def minusF (p q : Int × Int) : Int × Int := norm (p.1 * q.2 - q.1 * p.2) (p.2 * q.2)
def timesF (p q : Int × Int) : Int × Int := norm (p.1 * q.1) (p.2 * q.2)
def overF (p q : Int × Int) : Int × Int := norm (p.1 * q.2) (p.2 * q.1)
theorem mul_ne {a b : Int} (ha : a ≠ 0) (hb : b ≠ 0) : a * b ≠ 0 := fun h => (Int.mul_eq_zero.mp h).elim ha hb
/-- a sum of fractions is a fraction with the crosswise sum -/
theorem plus_of {p q : Int × Int} (hp : Low p) (hq : Low q) : Low (plusF p q) ∧ (plusF p q).1 * (p.2 * q.2) = (p.1 * q.2 + q.1 * p.2) * (plusF p q).2 :=
  norm_of (mul_ne (by have := hp.pos; omega) (by have := hq.pos; omega))
theorem minus_of {p q : Int × Int} (hp : Low p) (hq : Low q) : Low (minusF p q) ∧ (minusF p q).1 * (p.2 * q.2) = (p.1 * q.2 - q.1 * p.2) * (minusF p q).2 :=
  norm_of (mul_ne (by have := hp.pos; omega) (by have := hq.pos; omega))
theorem times_of {p q : Int × Int} (hp : Low p) (hq : Low q) : Low (timesF p q) ∧ (timesF p q).1 * (p.2 * q.2) = (p.1 * q.1) * (timesF p q).2 :=
  norm_of (mul_ne (by have := hp.pos; omega) (by have := hq.pos; omega))
theorem over_of {p q : Int × Int} (hp : Low p) (hq : Low q) (h0 : q.1 ≠ 0) : Low (overF p q) ∧ (overF p q).1 * (p.2 * q.1) = (p.1 * q.2) * (overF p q).2 :=
  norm_of (mul_ne (by have := hp.pos; omega) h0)
/-- alike crosswise, whatever stands beside it -/
theorem low_eq {p q : Int × Int} {k : Int} (hp : Low p) (hq : Low q) (hk : k ≠ 0) (h : p.1 * q.2 * k = q.1 * p.2 * k) : p = q := low_one hp hq (Int.eq_of_mul_eq_mul_right hk h)
end Fr
namespace Fr
/-! what the law asks of three fractions -/
section
variable {p q r : Int × Int}
theorem plus_minus (hp : Low p) (hq : Low q) : minusF (plusF p q) q = p := by
  obtain ⟨l1, e1⟩ := plus_of hp hq
  obtain ⟨l2, e2⟩ := minus_of l1 hq
  have a := hp.pos; have b := hq.pos; have c := l1.pos
  refine low_eq (k := q.2 * q.2 * (plusF p q).2) l2 hp (mul_ne (mul_ne (by omega) (by omega)) (by omega)) ?_
  generalize minusF (plusF p q) q = m at *
  generalize plusF p q = s at *
  grind
theorem minus_plus (hp : Low p) (hq : Low q) : plusF (minusF p q) q = p := by
  obtain ⟨l1, e1⟩ := minus_of hp hq
  obtain ⟨l2, e2⟩ := plus_of l1 hq
  have a := hp.pos; have b := hq.pos; have c := l1.pos
  refine low_eq (k := q.2 * q.2 * (minusF p q).2) l2 hp (mul_ne (mul_ne (by omega) (by omega)) (by omega)) ?_
  generalize plusF (minusF p q) q = m at *
  generalize minusF p q = s at *
  grind
theorem plus_neg (hp : Low p) : plusF p (-p.1, p.2) = (0, 1) := by
  have hn : Low (-p.1, p.2) := ⟨hp.pos, by show Nat.gcd (-p.1).natAbs p.2.natAbs = 1; rw [Int.natAbs_neg]; exact hp.cop⟩
  obtain ⟨l1, e1⟩ := plus_of hp hn
  have a := hp.pos
  refine low_one l1 ⟨by decide, by decide⟩ ?_
  generalize plusF p (-p.1, p.2) = s at *
  simp only at *
  have h : s.1 * (p.2 * p.2) = 0 := by grind
  rcases Int.mul_eq_zero.mp h with h | h
  · rw [h]; simp
  · exact absurd h (mul_ne (by omega) (by omega))
theorem times_over (hp : Low p) (hq : Low q) (h0 : q.1 ≠ 0) : overF (timesF p q) q = p := by
  obtain ⟨l1, e1⟩ := times_of hp hq
  obtain ⟨l2, e2⟩ := over_of l1 hq h0
  have a := hp.pos; have b := hq.pos; have c := l1.pos
  refine low_eq (k := q.1 * q.2 * (timesF p q).2) l2 hp (mul_ne (mul_ne h0 (by omega)) (by omega)) ?_
  generalize overF (timesF p q) q = m at *
  generalize timesF p q = s at *
  grind
theorem over_times (hp : Low p) (hq : Low q) (h0 : q.1 ≠ 0) : timesF q (overF p q) = p := by
  obtain ⟨l1, e1⟩ := over_of hp hq h0
  obtain ⟨l2, e2⟩ := times_of hq l1
  have a := hp.pos; have b := hq.pos; have c := l1.pos
  refine low_eq (k := q.1 * q.2 * (overF p q).2) l2 hp (mul_ne (mul_ne h0 (by omega)) (by omega)) ?_
  generalize timesF q (overF p q) = m at *
  generalize overF p q = s at *
  grind
theorem spread (hp : Low p) (hq : Low q) (hr : Low r) : timesF r (plusF p q) = plusF (timesF r p) (timesF r q) := by
  obtain ⟨l1, e1⟩ := plus_of hp hq
  obtain ⟨l2, e2⟩ := times_of hr l1
  obtain ⟨l3, e3⟩ := times_of hr hp
  obtain ⟨l4, e4⟩ := times_of hr hq
  obtain ⟨l5, e5⟩ := plus_of l3 l4
  have a := hp.pos; have b := hq.pos; have c := hr.pos; have d := l1.pos; have e := l3.pos; have f := l4.pos
  generalize plusF (timesF r p) (timesF r q) = m at *
  generalize timesF r (plusF p q) = n at *
  generalize timesF r p = x at *
  generalize timesF r q = y at *
  generalize plusF p q = s at *
  have n1 : n.1 * (r.2 * p.2 * q.2) * s.2 = r.1 * (p.1 * q.2 + q.1 * p.2) * n.2 * s.2 := by
    have : n.1 * (r.2 * s.2) * (p.2 * q.2) = r.1 * (s.1 * (p.2 * q.2)) * n.2 := by rw [e2]; grind
    rw [e1] at this
    grind
  have m1 : m.1 * (r.2 * p.2 * q.2) * (r.2 * x.2 * y.2) = r.1 * (p.1 * q.2 + q.1 * p.2) * m.2 * (r.2 * x.2 * y.2) := by
    have h1 : m.1 * (x.2 * y.2) * (r.2 * p.2) * (r.2 * q.2) = (x.1 * (r.2 * p.2) * y.2 * (r.2 * q.2) + y.1 * (r.2 * q.2) * x.2 * (r.2 * p.2)) * m.2 := by rw [e5]; grind
    rw [e3, e4] at h1
    grind
  have n2 : n.1 * (r.2 * p.2 * q.2) = r.1 * (p.1 * q.2 + q.1 * p.2) * n.2 := Int.eq_of_mul_eq_mul_right (by omega) n1
  have m2 : m.1 * (r.2 * p.2 * q.2) = r.1 * (p.1 * q.2 + q.1 * p.2) * m.2 := Int.eq_of_mul_eq_mul_right (mul_ne (mul_ne (by omega) (by omega)) (by omega)) m1
  refine low_eq (k := r.2 * p.2 * q.2) l2 l5 (mul_ne (mul_ne (by omega) (by omega)) (by omega)) ?_
  grind
end
end Fr
namespace Fr
section
variable {p q r : Int × Int}
theorem plus_assoc (hp : Low p) (hq : Low q) (hr : Low r) : plusF (plusF p q) r = plusF p (plusF q r) := by
  obtain ⟨l1, e1⟩ := plus_of hp hq
  obtain ⟨l2, e2⟩ := plus_of l1 hr
  obtain ⟨l3, e3⟩ := plus_of hq hr
  obtain ⟨l4, e4⟩ := plus_of hp l3
  have a := hp.pos; have b := hq.pos; have c := hr.pos; have d := l1.pos; have e := l3.pos
  generalize plusF (plusF p q) r = m at *
  generalize plusF p (plusF q r) = n at *
  generalize plusF p q = s at *
  generalize plusF q r = t at *
  have m1 : m.1 * (p.2 * q.2 * r.2) * s.2 = (p.1 * q.2 * r.2 + q.1 * p.2 * r.2 + r.1 * p.2 * q.2) * m.2 * s.2 := by
    have : m.1 * (s.2 * r.2) * (p.2 * q.2) = (s.1 * (p.2 * q.2) * r.2 + r.1 * s.2 * (p.2 * q.2)) * m.2 := by rw [e2]; grind
    rw [e1] at this
    grind
  have n1 : n.1 * (p.2 * q.2 * r.2) * t.2 = (p.1 * q.2 * r.2 + q.1 * p.2 * r.2 + r.1 * p.2 * q.2) * n.2 * t.2 := by
    have : n.1 * (p.2 * t.2) * (q.2 * r.2) = (p.1 * t.2 * (q.2 * r.2) + t.1 * (q.2 * r.2) * p.2) * n.2 := by rw [e4]; grind
    rw [e3] at this
    grind
  have m2 := Int.eq_of_mul_eq_mul_right (by omega) m1
  have n2 := Int.eq_of_mul_eq_mul_right (by omega) n1
  refine low_eq (k := p.2 * q.2 * r.2) l2 l4 (mul_ne (mul_ne (by omega) (by omega)) (by omega)) ?_
  grind
theorem times_assoc (hp : Low p) (hq : Low q) (hr : Low r) : timesF (timesF p q) r = timesF p (timesF q r) := by
  obtain ⟨l1, e1⟩ := times_of hp hq
  obtain ⟨l2, e2⟩ := times_of l1 hr
  obtain ⟨l3, e3⟩ := times_of hq hr
  obtain ⟨l4, e4⟩ := times_of hp l3
  have a := hp.pos; have b := hq.pos; have c := hr.pos; have d := l1.pos; have e := l3.pos
  generalize timesF (timesF p q) r = m at *
  generalize timesF p (timesF q r) = n at *
  generalize timesF p q = s at *
  generalize timesF q r = t at *
  have m1 : m.1 * (p.2 * q.2 * r.2) * s.2 = (p.1 * q.1 * r.1) * m.2 * s.2 := by
    have : m.1 * (s.2 * r.2) * (p.2 * q.2) = s.1 * (p.2 * q.2) * r.1 * m.2 := by rw [e2]; grind
    rw [e1] at this
    grind
  have n1 : n.1 * (p.2 * q.2 * r.2) * t.2 = (p.1 * q.1 * r.1) * n.2 * t.2 := by
    have : n.1 * (p.2 * t.2) * (q.2 * r.2) = p.1 * (t.1 * (q.2 * r.2)) * n.2 := by rw [e4]; grind
    rw [e3] at this
    grind
  have m2 := Int.eq_of_mul_eq_mul_right (by omega) m1
  have n2 := Int.eq_of_mul_eq_mul_right (by omega) n1
  refine low_eq (k := p.2 * q.2 * r.2) l2 l4 (mul_ne (mul_ne (by omega) (by omega)) (by omega)) ?_
  grind
/-! order -/
def sgn (x : Int) : Int := (if 0 < x then 1 else 0) - (if x < 0 then 1 else 0)
def cmp (p q : Int × Int) : Int := sgn (p.1 * q.2 - q.1 * p.2)
theorem sgn_mul (x y : Int) : sgn (x * y) = sgn x * sgn y := by
  unfold sgn
  rcases Int.lt_trichotomy x 0 with h | h | h
  · rcases Int.lt_trichotomy y 0 with k | k | k
    · have := Int.mul_pos_of_neg_of_neg h k
      rw [if_pos this, if_neg (by omega), if_neg (by omega), if_pos h, if_neg (by omega), if_pos k]; decide
    · subst k; rw [Int.mul_zero]; simp
    · have := Int.mul_neg_of_neg_of_pos h k
      rw [if_neg (by omega), if_pos this, if_neg (by omega), if_pos h, if_pos k, if_neg (by omega)]; decide
  · subst h; rw [Int.zero_mul]; simp
  · rcases Int.lt_trichotomy y 0 with k | k | k
    · have := Int.mul_neg_of_pos_of_neg h k
      rw [if_neg (by omega), if_pos this, if_pos h, if_neg (by omega), if_neg (by omega), if_pos k]; decide
    · subst k; rw [Int.mul_zero]; simp
    · have := Int.mul_pos h k
      rw [if_pos this, if_neg (by omega), if_pos h, if_neg (by omega), if_pos k, if_neg (by omega)]; decide
theorem sgn_pos {x : Int} (h : 0 < x) : sgn x = 1 := by unfold sgn; rw [if_pos h, if_neg (by omega)]; decide
theorem sgn_like {x y a b : Int} (ha : 0 < a) (hb : 0 < b) (h : x * a = y * b) : sgn x = sgn y := by
  have h1 := sgn_mul x a
  have h2 := sgn_mul y b
  rw [sgn_pos ha, Int.mul_one] at h1
  rw [sgn_pos hb, Int.mul_one] at h2
  rw [← h1, ← h2, h]
theorem sgn_neg (x : Int) : sgn (-x) = - sgn x := by
  have := sgn_mul (-1) x
  rw [show (-1 : Int) * x = -x by omega, show sgn (-1) = -1 by decide] at this
  omega
theorem cmp_swap (p q : Int × Int) : cmp q p = - cmp p q := by
  unfold cmp
  rw [← sgn_neg]
  congr 1
  omega
theorem cmp_plus (hp : Low p) (hq : Low q) (hr : Low r) : cmp (plusF p r) (plusF q r) = cmp p q := by
  obtain ⟨l1, e1⟩ := plus_of hp hr
  obtain ⟨l2, e2⟩ := plus_of hq hr
  have a := hp.pos; have b := hq.pos; have c := hr.pos; have d := l1.pos; have e := l2.pos
  unfold cmp
  generalize plusF p r = s at *
  generalize plusF q r = u at *
  refine sgn_like (a := p.2 * q.2 * r.2 * r.2) (b := s.2 * u.2 * r.2 * r.2) (Int.mul_pos (Int.mul_pos (Int.mul_pos a b) c) c) (Int.mul_pos (Int.mul_pos (Int.mul_pos d e) c) c) ?_
  have h1 : s.1 * (p.2 * r.2) * u.2 * (q.2 * r.2) = (p.1 * r.2 + r.1 * p.2) * s.2 * u.2 * (q.2 * r.2) := by rw [e1]
  have h2 : u.1 * (q.2 * r.2) * s.2 * (p.2 * r.2) = (q.1 * r.2 + r.1 * q.2) * u.2 * s.2 * (p.2 * r.2) := by rw [e2]
  grind
theorem cmp_times (hp : Low p) (hq : Low q) (hr : Low r) : cmp (timesF p r) (timesF q r) = cmp p q * sgn r.1 := by
  obtain ⟨l1, e1⟩ := times_of hp hr
  obtain ⟨l2, e2⟩ := times_of hq hr
  have a := hp.pos; have b := hq.pos; have c := hr.pos; have d := l1.pos; have e := l2.pos
  unfold cmp
  generalize timesF p r = s at *
  generalize timesF q r = u at *
  rw [← sgn_mul]
  refine sgn_like (a := p.2 * q.2 * r.2 * r.2) (b := s.2 * u.2 * r.2) (Int.mul_pos (Int.mul_pos (Int.mul_pos a b) c) c) (Int.mul_pos (Int.mul_pos d e) c) ?_
  have h1 : s.1 * (p.2 * r.2) * u.2 * (q.2 * r.2) = p.1 * r.1 * s.2 * u.2 * (q.2 * r.2) := by rw [e1]
  have h2 : u.1 * (q.2 * r.2) * s.2 * (p.2 * r.2) = q.1 * r.1 * u.2 * s.2 * (p.2 * r.2) := by rw [e2]
  grind
/-! sums of rows -/
theorem plus_norm {t b : Int} (hb : b ≠ 0) (hp : Low p) : plusF (norm t b) p = norm (t * p.2 + p.1 * b) (b * p.2) := by
  obtain ⟨l1, e1⟩ := norm_of (t := t) hb
  obtain ⟨l2, e2⟩ := plus_of l1 hp
  have a := hp.pos; have c := l1.pos
  have hn : b * p.2 ≠ 0 := mul_ne hb (by omega)
  obtain ⟨l3, e3⟩ := norm_of (t := t * p.2 + p.1 * b) hn
  generalize plusF (norm t b) p = m at *
  generalize norm t b = s at *
  generalize norm (t * p.2 + p.1 * b) (b * p.2) = n at *
  have m1 : m.1 * (b * p.2) * s.2 = (t * p.2 + p.1 * b) * m.2 * s.2 := by
    have : m.1 * (s.2 * p.2) * b = (s.1 * b * p.2 + p.1 * s.2 * b) * m.2 := by rw [e2]; grind
    rw [e1] at this
    grind
  have m2 := Int.eq_of_mul_eq_mul_right (by omega) m1
  refine low_eq (k := b * p.2) l2 l3 hn ?_
  grind
def crossF (l : List (Int × Int)) (s : Int × Int) : Int × Int := l.foldl (fun s p => (s.1 * p.2 + p.1 * s.2, s.2 * p.2)) s
theorem total_norm : ∀ (l : List (Int × Int)) (t b : Int), 0 < b → (∀ p ∈ l, Low p) → l.foldl plusF (norm t b) = norm (crossF l (t, b)).1 (crossF l (t, b)).2 ∧ 0 < (crossF l (t, b)).2
  | [], t, b, hb, _ => ⟨rfl, hb⟩
  | p :: l, t, b, hb, h => by
    have hp := h p (by simp)
    have a := hp.pos
    rw [List.foldl_cons, plus_norm (by omega) hp]
    exact total_norm l _ _ (Int.mul_pos hb a) fun x hx => h x (by simp [hx])
/-! the law's own way to lowest terms: Euclid's steps -/
def euc : Nat → Nat → Nat → Nat
  | 0, a, _ => a
  | k + 1, a, b => if b = 0 then a else euc k b (a % b)
theorem euc_gcd : ∀ (k n a b : Nat), b < 2 ^ k → 2 * k + 1 ≤ n → euc n a b = Nat.gcd a b
  | 0, n, a, b, hb, hn => by
    obtain ⟨n, rfl⟩ : ∃ m, n = m + 1 := ⟨n - 1, by omega⟩
    have : b = 0 := by simpa using hb
    subst this
    simp [euc]
  | k + 1, n, a, b, hb, hn => by
    obtain ⟨n, rfl⟩ : ∃ m, n = m + 2 := ⟨n - 2, by omega⟩
    unfold euc
    by_cases h0 : b = 0
    · rw [if_pos h0, h0, Nat.gcd_zero_right]
    · rw [if_neg h0]
      unfold euc
      have hm : a % b < b := Nat.mod_lt _ (by omega)
      by_cases h1 : a % b = 0
      · rw [if_pos h1]
        have : b ∣ a := Nat.dvd_of_mod_eq_zero h1
        rw [Nat.gcd_comm]
        exact (Nat.gcd_eq_left this).symm
      · rw [if_neg h1]
        have h2 : b % (a % b) < a % b := Nat.mod_lt _ (by omega)
        have h4 : b % (a % b) < 2 ^ k := by
          have h3 := Nat.div_add_mod b (a % b)
          have h5 : a % b * 1 ≤ a % b * (b / (a % b)) := Nat.mul_le_mul_left _ (Nat.div_pos (by omega) (by omega))
          rw [Nat.pow_succ] at hb
          omega
        have g1 : Nat.gcd a b = Nat.gcd (a % b) (b % (a % b)) := by
          rw [Nat.gcd_comm a b, Nat.gcd_rec b a, Nat.gcd_rec (a % b) b, Nat.gcd_comm]
        rw [g1]
        exact euc_gcd k n _ _ h4 (by omega)
/-- what the law divides by -/
def lowF (t b : Int) : Int × Int := (t / ((Nat.gcd t.natAbs b.natAbs : Nat) : Int), b / ((Nat.gcd t.natAbs b.natAbs : Nat) : Int))
theorem lowF_norm {t b : Int} (hb : 0 < b) : lowF t b = norm t b := by
  have hg : 0 < Nat.gcd t.natAbs b.natAbs := Nat.gcd_pos_of_pos_right _ (by omega)
  unfold lowF norm
  simp only
  rw [if_neg (by omega), Int.fdiv_eq_ediv_of_nonneg _ (by omega), Int.fdiv_eq_ediv_of_nonneg _ (by omega)]
end
end Fr

/-! fractions in lowest terms, read as rational numbers: sums, products, order -/
namespace Fr
def val (p : Int × Int) : Rat := (p.1 : Rat) / (p.2 : Rat)
theorem cast_ne {b : Int} (h : b ≠ 0) : (b : Rat) ≠ 0 := by
  intro e
  exact h (by exact_mod_cast e)
theorem cast_pos {b : Int} (h : 0 < b) : (0 : Rat) < (b : Rat) := by exact_mod_cast h
theorem val_norm {t b : Int} (hb : b ≠ 0) : val (norm t b) = (t : Rat) / (b : Rat) := by
  obtain ⟨hl, he⟩ := norm_of (t := t) hb
  have h1 := cast_ne hb
  have h2 := cast_ne (show (norm t b).2 ≠ 0 by have := hl.pos; omega)
  unfold val
  generalize (norm t b).1 = x at *
  generalize (norm t b).2 = y at *
  have h3 : (x : Rat) * (b : Rat) = (t : Rat) * (y : Rat) := by
    have := congrArg (fun z : Int => (z : Rat)) he
    simpa [Rat.intCast_mul] using this
  grind
theorem val_plus {p q : Int × Int} (hp : 0 < p.2) (hq : 0 < q.2) : val (plusF p q) = val p + val q := by
  unfold plusF
  rw [val_norm (mul_ne (by omega) (by omega))]
  have h1 := cast_ne (show p.2 ≠ 0 by omega)
  have h2 := cast_ne (show q.2 ≠ 0 by omega)
  unfold val
  simp only [Rat.intCast_add, Rat.intCast_mul]
  grind
theorem val_minus {p q : Int × Int} (hp : 0 < p.2) (hq : 0 < q.2) : val (minusF p q) = val p - val q := by
  unfold minusF
  rw [val_norm (mul_ne (by omega) (by omega))]
  have h1 := cast_ne (show p.2 ≠ 0 by omega)
  have h2 := cast_ne (show q.2 ≠ 0 by omega)
  unfold val
  simp only [Rat.intCast_sub, Rat.intCast_mul]
  grind
theorem val_times {p q : Int × Int} (hp : 0 < p.2) (hq : 0 < q.2) : val (timesF p q) = val p * val q := by
  unfold timesF
  rw [val_norm (mul_ne (by omega) (by omega))]
  have h1 := cast_ne (show p.2 ≠ 0 by omega)
  have h2 := cast_ne (show q.2 ≠ 0 by omega)
  unfold val
  simp only [Rat.intCast_mul]
  grind
theorem val_whole (x : Int) : val (x, 1) = (x : Rat) := by
  unfold val
  have : ((1 : Int) : Rat) = 1 := rfl
  show (x : Rat) / ((1 : Int) : Rat) = x
  rw [this]
  grind
/-- two in lowest terms are alike exactly if their values are -/
theorem val_eq {p q : Int × Int} (hp : Low p) (hq : Low q) : p = q ↔ val p = val q := by
  refine ⟨fun h => by rw [h], fun h => low_one hp hq ?_⟩
  have h1 := cast_ne (show p.2 ≠ 0 by have := hp.pos; omega)
  have h2 := cast_ne (show q.2 ≠ 0 by have := hq.pos; omega)
  unfold val at h
  have h3 : (p.1 : Rat) * (q.2 : Rat) = (q.1 : Rat) * (p.2 : Rat) := by grind
  exact_mod_cast h3
theorem val_mul {p : Int × Int} (hp : 0 < p.2) : (p.1 : Rat) = val p * (p.2 : Rat) := by
  have h1 := cast_ne (show p.2 ≠ 0 by omega)
  unfold val
  grind
theorem val_lt {p q : Int × Int} (hp : 0 < p.2) (hq : 0 < q.2) : val p < val q ↔ p.1 * q.2 < q.1 * p.2 := by
  have h1 := cast_pos hp
  have h2 := cast_pos hq
  have e1 := val_mul hp
  have e2 := val_mul hq
  have e : (val p < val q) ↔ (p.1 : Rat) * q.2 < (q.1 : Rat) * p.2 := by
    have h3 : (0 : Rat) < (p.2 : Rat) * (q.2 : Rat) := Rat.mul_pos h1 h2
    rw [e1, e2, show val p * (p.2 : Rat) * (q.2 : Rat) = val p * ((p.2 : Rat) * (q.2 : Rat)) by grind, show val q * (q.2 : Rat) * (p.2 : Rat) = val q * ((p.2 : Rat) * (q.2 : Rat)) by grind]
    exact (Rat.mul_lt_mul_right h3).symm
  rw [e]
  constructor
  · intro h; exact_mod_cast h
  · intro h; exact_mod_cast h
theorem val_neg {p : Int × Int} (hp : 0 < p.2) : val p < 0 ↔ p.1 < 0 := by
  have := val_lt hp (q := (0, 1)) (by decide)
  rw [val_whole] at this
  simpa using this
theorem val_zero {p : Int × Int} (hp : Low p) : val p = 0 ↔ p = (0, 1) := by
  have := val_eq hp (q := (0, 1)) ⟨by decide, by decide⟩
  rw [val_whole] at this
  exact this.symm
theorem val_lt1 {p : Int × Int} (hp : 0 < p.2) : val p < 1 ↔ p.1 < p.2 := by
  have := val_lt hp (q := (1, 1)) (by decide)
  rw [val_whole] at this
  simpa using this
/-! ### sums -/
def rs (l : List Rat) : Rat := l.foldr (· + ·) 0
theorem rs_nil : rs [] = 0 := rfl
theorem rs_cons (x : Rat) (l : List Rat) : rs (x :: l) = x + rs l := rfl
theorem rs_append : ∀ (l m : List Rat), rs (l ++ m) = rs l + rs m
  | [], m => by rw [List.nil_append, rs_nil]; grind
  | x :: l, m => by rw [List.cons_append, rs_cons, rs_cons, rs_append l m]; grind
theorem plus_low {p q : Int × Int} (hp : 0 < p.2) (hq : 0 < q.2) : Low (plusF p q) := (norm_of (mul_ne (by omega) (by omega))).1
theorem val_fold : ∀ (l : List (Int × Int)) (a : Int × Int), 0 < a.2 → (∀ p ∈ l, 0 < p.2) → val (l.foldl plusF a) = val a + rs (l.map val) ∧ 0 < (l.foldl plusF a).2
  | [], a, ha, _ => ⟨by show val a = val a + rs []; rw [rs_nil]; grind, ha⟩
  | p :: l, a, ha, h => by
    obtain ⟨h1, h2⟩ := val_fold l (plusF a p) (plus_low ha (h p (by simp))).pos fun q hq => h q (by simp [hq])
    refine ⟨?_, h2⟩
    rw [List.foldl_cons, h1, List.map_cons, rs_cons, val_plus ha (h p (by simp))]
    grind
theorem val_sum {l : List (Int × Int)} (h : ∀ p ∈ l, 0 < p.2) : val (l.foldl plusF (0, 1)) = rs (l.map val) := by
  rw [(val_fold l (0, 1) (by decide) h).1, val_whole]
  have : ((0 : Int) : Rat) = 0 := rfl
  rw [this]
  grind
theorem fold_low : ∀ (l : List (Int × Int)) (a : Int × Int), Low a → (∀ p ∈ l, 0 < p.2) → Low (l.foldl plusF a)
  | [], a, ha, _ => ha
  | p :: l, a, ha, h => fold_low l (plusF a p) (plus_low ha.pos (h p (by simp))) fun q hq => h q (by simp [hq])
theorem rs_congr {α : Type} {f g : α → Rat} {l : List α} (h : ∀ a ∈ l, f a = g a) : rs (l.map f) = rs (l.map g) := by
  rw [List.map_congr_left h]
theorem rs_add {α : Type} (f g : α → Rat) : ∀ l : List α, rs (l.map fun a => f a + g a) = rs (l.map f) + rs (l.map g)
  | [] => by simp only [List.map_nil, rs_nil]; grind
  | a :: l => by simp only [List.map_cons, rs_cons]; rw [rs_add f g l]; grind
theorem rs_mul {α : Type} (c : Rat) (f : α → Rat) : ∀ l : List α, rs (l.map fun a => c * f a) = c * rs (l.map f)
  | [] => by simp only [List.map_nil, rs_nil]; grind
  | a :: l => by simp only [List.map_cons, rs_cons]; rw [rs_mul c f l]; grind
theorem rs_sub {α : Type} (f g : α → Rat) : ∀ l : List α, rs (l.map fun a => f a - g a) = rs (l.map f) - rs (l.map g)
  | [] => by simp only [List.map_nil, rs_nil]; grind
  | a :: l => by simp only [List.map_cons, rs_cons]; rw [rs_sub f g l]; grind
theorem rs_zero {α : Type} : ∀ {l : List α} {f : α → Rat}, (∀ a ∈ l, f a = 0) → rs (l.map f) = 0
  | [], _, _ => rfl
  | a :: l, f, h => by rw [List.map_cons, rs_cons, h a (by simp), rs_zero (l := l) fun b hb => h b (by simp [hb])]; grind
theorem rs_one {α β : Type} [DecidableEq β] {k : β} : ∀ {keys : List β} {c : Rat}, keys.Nodup → k ∈ keys → rs (keys.map fun h => if k = h then c else 0) = c
  | x :: keys, c, nd, hm => by
    rw [List.map_cons, rs_cons]
    by_cases h : k = x
    · subst h
      rw [if_pos rfl, rs_zero fun a ha => if_neg fun e => (List.nodup_cons.mp nd).1 (by rw [e]; exact ha)]
      grind
    · rw [if_neg h, rs_one (α := α) (List.nodup_cons.mp nd).2 ((List.mem_cons.mp hm).resolve_left h)]
      grind
/-- a sum, put into lots by a key -/
theorem rs_group {α β : Type} [DecidableEq β] {key : α → β} {f : α → Rat} {keys : List β} (nd : keys.Nodup) : ∀ {l : List α}, (∀ x ∈ l, key x ∈ keys) → rs (keys.map fun h => rs ((l.filter fun x => decide (key x = h)).map f)) = rs (l.map f)
  | [], _ => by
    show rs (keys.map fun _ => (0 : Rat)) = 0
    exact rs_zero fun _ _ => rfl
  | x :: l, hm => by
    have ih := rs_group (f := f) nd (l := l) fun y hy => hm y (by simp [hy])
    rw [List.map_cons, rs_cons, ← ih, ← rs_one (α := α) (c := f x) nd (hm x (by simp)), ← rs_add]
    refine rs_congr fun h hh => ?_
    rw [List.filter_cons]
    by_cases e : key x = h
    · rw [decide_eq_true e, if_pos rfl, if_pos e, List.map_cons, rs_cons]
    · rw [decide_eq_false e, if_neg (by decide), if_neg e]
      grind
theorem rs_nonneg : ∀ {l : List Rat}, (∀ x ∈ l, 0 ≤ x) → 0 ≤ rs l
  | [], _ => by rw [rs_nil]; grind
  | x :: l, h => by
    have h1 := h x (by simp)
    have h2 := rs_nonneg (l := l) fun y hy => h y (by simp [hy])
    rw [rs_cons]
    grind
theorem rs_all0 : ∀ {l : List Rat}, (∀ x ∈ l, 0 ≤ x) → (rs l = 0 ↔ ∀ x ∈ l, x = 0)
  | [], _ => ⟨fun _ x hx => by simp at hx, fun _ => rfl⟩
  | x :: l, h => by
    have h1 := h x (by simp)
    have h3 : ∀ y ∈ l, 0 ≤ y := fun y hy => h y (by simp [hy])
    have h2 := rs_nonneg h3
    have ih := rs_all0 h3
    rw [rs_cons]
    constructor
    · intro e
      have hx : x = 0 := by grind
      have hl : rs l = 0 := by grind
      intro y hy
      rcases List.mem_cons.mp hy with rfl | hy
      · exact hx
      · exact ih.mp hl y hy
    · intro e
      rw [e x (by simp), ih.mpr fun y hy => e y (by simp [hy])]
      grind
/-! ### how great the bottoms become -/
/-- x times D is whole -/
def IsD (D : Int) (x : Rat) : Prop := ∃ n : Int, x * (D : Rat) = (n : Rat)
theorem IsD.add {D : Int} {x y : Rat} (hx : IsD D x) (hy : IsD D y) : IsD D (x + y) := by
  obtain ⟨n, hn⟩ := hx
  obtain ⟨m, hm⟩ := hy
  exact ⟨n + m, by rw [Rat.intCast_add, ← hn, ← hm]; grind⟩
theorem IsD.sub {D : Int} {x y : Rat} (hx : IsD D x) (hy : IsD D y) : IsD D (x - y) := by
  obtain ⟨n, hn⟩ := hx
  obtain ⟨m, hm⟩ := hy
  exact ⟨n - m, by rw [Rat.intCast_sub, ← hn, ← hm]; grind⟩
theorem IsD.mul {D E : Int} {x y : Rat} (hx : IsD D x) (hy : IsD E y) : IsD (D * E) (x * y) := by
  obtain ⟨n, hn⟩ := hx
  obtain ⟨m, hm⟩ := hy
  exact ⟨n * m, by rw [Rat.intCast_mul, Rat.intCast_mul, ← hn, ← hm]; grind⟩
theorem IsD.int {D : Int} (n : Int) : IsD D (n : Rat) := ⟨n * D, by rw [Rat.intCast_mul]⟩
theorem IsD.up {D : Int} {x : Rat} (k : Int) (hx : IsD D x) : IsD (D * k) x := by
  obtain ⟨n, hn⟩ := hx
  exact ⟨n * k, by rw [Rat.intCast_mul, Rat.intCast_mul, ← hn]; grind⟩
theorem IsD.sum {D : Int} : ∀ {l : List Rat}, (∀ x ∈ l, IsD D x) → IsD D (rs l)
  | [], _ => ⟨0, by rw [rs_nil]; show (0 : Rat) * _ = ((0 : Int) : Rat); have : ((0 : Int) : Rat) = 0 := rfl; rw [this]; grind⟩
  | x :: l, h => by rw [rs_cons]; exact (h x (by simp)).add (IsD.sum (l := l) fun y hy => h y (by simp [hy]))
/-- in lowest terms the bottom divides D -/
theorem den_dvd {D : Int} {p : Int × Int} (hp : Low p) (h : IsD D (val p)) : p.2 ∣ D := by
  obtain ⟨n, hn⟩ := h
  have e1 := val_mul hp.pos
  have h3 : (p.1 : Rat) * (D : Rat) = (n : Rat) * (p.2 : Rat) := by rw [e1, ← hn]; grind
  have h4 : p.1 * D = n * p.2 := by exact_mod_cast h3
  have h5 : p.2.natAbs ∣ p.1.natAbs * D.natAbs := by rw [← Int.natAbs_mul, h4, Int.natAbs_mul]; exact Nat.dvd_mul_left _ _
  have h6 : p.2.natAbs ∣ D.natAbs := Nat.Coprime.dvd_of_dvd_mul_left (Nat.Coprime.symm (show Nat.Coprime p.1.natAbs p.2.natAbs from hp.cop)) h5
  exact Int.natAbs_dvd_natAbs.mp h6
/-- between -B and B -/
def Btw (B : Rat) (x : Rat) : Prop := -B ≤ x ∧ x ≤ B
theorem Btw.add {B C x y : Rat} (hx : Btw B x) (hy : Btw C y) : Btw (B + C) (x + y) := by
  obtain ⟨a, b⟩ := hx
  obtain ⟨c, d⟩ := hy
  exact ⟨by grind, by grind⟩
theorem Btw.sub {B C x y : Rat} (hx : Btw B x) (hy : Btw C y) : Btw (B + C) (x - y) := by
  obtain ⟨a, b⟩ := hx
  obtain ⟨c, d⟩ := hy
  exact ⟨by grind, by grind⟩
theorem Btw.mono {B C x : Rat} (hx : Btw B x) (h : B ≤ C) : Btw C x := by
  obtain ⟨a, b⟩ := hx
  exact ⟨by grind, by grind⟩
theorem Btw.sum {B : Rat} (hB : 0 ≤ B) : ∀ {l : List Rat}, (∀ x ∈ l, Btw B x) → Btw ((l.length : Rat) * B) (rs l)
  | [], _ => by
    rw [rs_nil]
    show Btw (((0 : Nat) : Rat) * B) 0
    have : ((0 : Nat) : Rat) = 0 := rfl
    rw [this]
    exact ⟨by grind, by grind⟩
  | x :: l, h => by
    have h1 := h x (by simp)
    have h2 := Btw.sum hB (l := l) fun y hy => h y (by simp [hy])
    have h3 := h1.add h2
    rw [rs_cons, List.length_cons]
    have e : (((l.length + 1 : Nat)) : Rat) = (l.length : Rat) + 1 := Rat.natCast_add _ _
    rw [e]
    have : B + (l.length : Rat) * B = ((l.length : Rat) + 1) * B := by grind
    rw [← this]
    exact h3
/-- the top of a fraction that is bounded -/
theorem top_le {p : Int × Int} {B D : Int} (hp : 0 < p.2) (hd : p.2 ≤ D) (hB : 0 ≤ B) (h : Btw (B : Rat) (val p)) : -(B * D) ≤ p.1 ∧ p.1 ≤ B * D := by
  have e1 := val_mul hp
  have c2 := cast_pos hp
  obtain ⟨a, b⟩ := h
  have u : (p.1 : Rat) ≤ (B : Rat) * (p.2 : Rat) := by rw [e1]; exact Rat.mul_le_mul_of_nonneg_right b (Rat.le_of_lt c2)
  have l : -(B : Rat) * (p.2 : Rat) ≤ (p.1 : Rat) := by rw [e1]; exact Rat.mul_le_mul_of_nonneg_right a (Rat.le_of_lt c2)
  have u' : p.1 ≤ B * p.2 := by exact_mod_cast u
  have l' : -B * p.2 ≤ p.1 := by exact_mod_cast l
  have m : B * p.2 ≤ B * D := Int.mul_le_mul_of_nonneg_left hd hB
  have m2 : -B * p.2 = -(B * p.2) := Int.neg_mul _ _
  omega
/-! ### two sides of one sum -/
/-- what is left at the houses and at the people, put together: the cost less what is paid -/
theorem two_sides {α β : Type} [DecidableEq α] [DecidableEq β] {people : List α} {houses : List β} {pairs : List (α × β)} {y : α → Rat} {s c : β → Rat} (n1 : people.Nodup) (n2 : houses.Nodup) (hm : ∀ x ∈ pairs, x.1 ∈ people ∧ x.2 ∈ houses) :
    rs (houses.map fun h => s h * (c h - rs ((pairs.filter fun x => decide (x.2 = h)).map fun x => y x.1))) + rs (people.map fun p => y p * (rs ((pairs.filter fun x => decide (x.1 = p)).map fun x => s x.2) - 1)) = rs (houses.map fun h => s h * c h) - rs (people.map y) := by
  have e1 : rs (houses.map fun h => s h * (c h - rs ((pairs.filter fun x => decide (x.2 = h)).map fun x => y x.1))) = rs (houses.map fun h => s h * c h) - rs (pairs.map fun x => s x.2 * y x.1) := by
    rw [← rs_group (key := fun x : α × β => x.2) (f := fun x => s x.2 * y x.1) n2 fun x hx => (hm x hx).2, ← rs_sub]
    refine rs_congr fun h hh => ?_
    have : rs ((pairs.filter fun x => decide (x.2 = h)).map fun x => s x.2 * y x.1) = s h * rs ((pairs.filter fun x => decide (x.2 = h)).map fun x => y x.1) := by
      rw [← rs_mul]
      refine rs_congr fun x hx => ?_
      have := of_decide_eq_true (List.mem_filter.mp hx).2
      rw [this]
    rw [this]
    grind
  have e2 : rs (people.map fun p => y p * (rs ((pairs.filter fun x => decide (x.1 = p)).map fun x => s x.2) - 1)) = rs (pairs.map fun x => s x.2 * y x.1) - rs (people.map y) := by
    rw [← rs_group (key := fun x : α × β => x.1) (f := fun x => s x.2 * y x.1) n1 fun x hx => (hm x hx).1, ← rs_sub]
    refine rs_congr fun p hp => ?_
    have : rs ((pairs.filter fun x => decide (x.1 = p)).map fun x => s x.2 * y x.1) = y p * rs ((pairs.filter fun x => decide (x.1 = p)).map fun x => s x.2) := by
      rw [← rs_mul]
      refine rs_congr fun x hx => ?_
      have := of_decide_eq_true (List.mem_filter.mp hx).2
      rw [this]
      grind
    rw [this]
    grind
  rw [e1, e2]
  grind
end Fr

open PySem PySem.Spec PyProof.Rows L2 StX RZ Fx
local macro_rules | `(tactic| walk_at "e1") => `(tactic| first
  | ((with_reducible refine gp_var (e := ?e) ?h ?n ?k); (case h => exact rfl); (case n => exact (fun q => nomatch q)))
  | with_reducible refine gp_int ?_
  | with_reducible refine gp_str ?_
  | with_reducible refine gp_non ?_
  | with_reducible refine gp_bl ?_
  | with_reducible refine gp_ty ?_
  | with_reducible refine ap_cons ?_
  | with_reducible refine ap_nil ?_
  | with_reducible refine gp_op ?_
  | with_reducible refine gp_callP ?_
  | with_reducible refine gp_callD ?_
  | with_reducible refine gp_cb ?_
  | with_reducible refine op_bI ?_
  | with_reducible refine op_eqI ?_
  | with_reducible refine op_neI ?_
  | with_reducible refine op_i0 ?_
  | with_reducible refine op_b0 ?_
  | with_reducible refine op_eqN ?_
  | with_reducible refine op_inT ?_
  | with_reducible refine op_inL ?_
  | with_reducible refine op_niT ?_
  | with_reducible refine op_niL ?_
  | ((with_reducible refine op_iLm (a := ?a) ?h ?k); (case h => assumption))
  | ((with_reducible refine op_iTm (a := ?a) ?h ?k); (case h => assumption))
  | ((with_reducible refine op_iT (d := ?d) ?h ?k); (case h => exact rfl))
  | ((with_reducible refine op_iL (d := ?d) ?h ?k); (case h => exact rfl))
  | with_reducible refine gp_tup ?_
  | with_reducible refine gp_lst ?_
  | ((with_reducible refine disp (ds := ?ds) ?h ?l ?k); (case h => exact rfl); (case l => exact Nat.le_of_ble_eq_true rfl))
  | with_reducible refine testp ?_
  | with_reducible refine tp_test ?_
  | with_reducible refine tp_B ?_
  | with_reducible refine gp_if ?_
  | with_reducible refine tp_and ?_
  | with_reducible refine tp_or ?_
  | with_reducible refine tp_not ?_
  | with_reducible refine tp_tru ?_
  | with_reducible refine trup_i ?_
  | with_reducible refine trup_b ?_
  | with_reducible refine trup_l ?_
  | with_reducible refine trup_t ?_
  | with_reducible refine gp_andV ?_
  | with_reducible refine gp_orV ?_
  | with_reducible refine gp_notV ?_
  | with_reducible refine gp_isN ?_
  | with_reducible refine gp_notN ?_
  | with_reducible refine gp_un ?_
  | with_reducible refine rup_neg ?_
  | with_reducible refine bi_lenLm ?_
  | with_reducible refine bi_lenTm ?_
  | with_reducible refine bi_lenL ?_
  | with_reducible refine bi_lenT ?_
  | ((with_reducible refine bi_lenH (ds := ?ds) (up := ?up) (rest := ?rest) ?h ?k); (case h => walk_at "hold"))
  | with_reducible refine bi_tupL ?_
  | ((with_reducible refine bi_tupH (ds := ?ds) (up := ?up) (rest := ?rest) ?h ?k); (case h => walk_at "hold"))
  | with_reducible refine bi_listT ?_
  | with_reducible refine bi_isiT ?_
  | with_reducible refine bi_isiL ?_
  | with_reducible refine bi_isiS ?_
  | with_reducible refine bi_int ?_
  | with_reducible refine bi_sumL ?_
  | with_reducible refine bi_sumT ?_
  | ((with_reducible refine bi_sumH (ds := ?ds) (up := ?up) (rest := ?rest) (ns := ?ns) ?h ?e ?k); (case h => walk_at "hold"); (case e => exact rfl))
  | with_reducible refine gp_lcO ?_
  | with_reducible refine bi_min2 ?_
  | with_reducible refine bi_max2 ?_
  | with_reducible refine two ?_
  | with_reducible refine three ?_
  | with_reducible refine op_no ?_
  | with_reducible refine op_some ?_
  | with_reducible refine intp ?_
  | with_reducible refine iterl ?_
  | with_reducible refine itert ?_
  | with_reducible refine es_seq ?_
  | with_reducible refine es_next ?_
  | with_reducible refine sp_ret ?_
  | with_reducible refine sp_tup2 ?_
  | with_reducible refine sp_tup3 ?_
  | ((with_reducible refine sp_tuq2 (n := ?n) ?hn ?k); (case hn => exact rfl))
  | ((with_reducible refine sp_tuq3 (n := ?n) ?hn ?k); (case hn => exact rfl))
  | ((with_reducible refine sp_unp2 (n := ?n) ?hn ?k); (case hn => exact rfl))
  | ((with_reducible refine sp_unp4 (n := ?n) ?hn ?k); (case hn => exact rfl))
  | with_reducible refine gp_slP ?_
  | with_reducible refine slp_t ?_
  | with_reducible refine slp_l ?_
  | ((with_reducible refine sp_unl2 (n := ?n) ?hn ?k); (case hn => exact rfl))
  | with_reducible refine pr2l ?_
  | with_reducible refine gp_callKP ?_
  | with_reducible refine gp_callS ?_
  | with_reducible refine gp_callKS ?_
  | with_reducible refine pr2 ?_
  | with_reducible refine isn_n ?_
  | with_reducible refine isn_t ?_
  | with_reducible refine isn_l ?_
  | with_reducible refine isn_i ?_
  | with_reducible refine isn_s ?_
  | with_reducible refine isn_b ?_
  | with_reducible refine isn_o ?_
  | with_reducible refine pr4 ?_
  | (with_reducible refine sp_set ?_)
  | with_reducible refine sp_par ?_
  | with_reducible refine sp_par3 ?_
  | with_reducible refine sp_drop ?_
  | with_reducible refine sp_if ?_
  | with_reducible refine sp_for ?_
  | with_reducible refine sp_brk ?_
  | with_reducible refine sp_cnt ?_
  | with_reducible refine gp_lc ?_
  | with_reducible refine ip_rng1 ?_
  | with_reducible refine ip_rng2 ?_
  | ((with_reducible refine rngs1 (j := (Nat.cast ?n)) (n := ?n) ?e ?h ?k); (case e => exact rfl); (case h => omega))
  | with_reducible refine op_jnT ?_
  | with_reducible refine op_jnL ?_
  | with_reducible refine op_kiT ?_
  | with_reducible refine op_kiL ?_
  | with_reducible refine op_jnP ?_
  | with_reducible refine op_kiP ?_
  | ((with_reducible refine gp_fldF (C := ?C) (f := ?f) ?c ?n ?k); (case c => assumption); (case n => assumption))
  | ((with_reducible refine fldf (d := ?d) ?h ?k); (case h => exact rfl))
  | with_reducible refine gp_listRg ?_
  | ((with_reducible refine rgp (j := (Nat.cast ?n)) (n := ?n) ?e ?h ?k); (case e => exact rfl); (case h => omega))
  | with_reducible refine gp_lsO ?_
  | ((with_reducible refine dispO (ds := ?ds) ?h ?l ?k); (case h => exact rfl); (case l => exact Nat.le_of_ble_eq_true rfl); (case' k => (intro p; refine ⟨?r, ?n, ?q⟩; (case n => walk_at "new"))))
  | with_reducible refine gp_app ?_
  | with_reducible refine gp_ins ?_
  | ((with_reducible refine ownp (ds := ?ds) (up := ?up) (rest := ?rest) ?h ?k); (case h => walk_at "hold"))
  | with_reducible refine sp_sto ?_
  | with_reducible refine datp ?_
  | with_reducible refine adrp ?_)
local macro_rules | `(tactic| walk_at "hold") => `(tactic| first
  | exact .here
  | exact .deal .here
  | exact .deal (.skip .here)
  | exact .deal (.skip (.skip .here))
  | exact .skip .here
  | exact .skip (.skip .here))
local macro_rules | `(tactic| walk_at "new") => `(tactic| first | exact .deal | exact .here)
local macro_rules | `(tactic| walk_at "wk") => `(tactic| (repeat (first | exact .nil | exact Weak.rfl | refine .keep ?_ | refine .drop ?_)))
local macro_rules | `(tactic| walk_at "ev") => `(tactic| (repeat walk_at "e1"))
local macro_rules | `(tactic| walk_at "st") => `(tactic| dsimp only [List.length_cons, List.length_nil, Nat.reduceAdd, Nat.reduceSub, List.replicate_succ, List.replicate_zero, List.replicate, List.cons_append, List.nil_append, List.append_nil])
local macro_rules | `(tactic| walk_at "eo") => `(tactic| (repeat ((fail_if_success (with_reducible apply gp_lcO)); walk_at "e1")))
local macro_rules | `(tactic| walk_at "eb") => `(tactic| (repeat (first | walk_at "e1" | with_reducible refine br_t ?_ | with_reducible refine br_f ?_)))
local macro_rules | `(tactic| walk_at "es") => `(tactic| (repeat ((fail_if_success (with_reducible apply es_seq)); (first | walk_at "e1" | with_reducible refine br_t ?_ | with_reducible refine br_f ?_))))

namespace K24
open PySem PySem.Spec PyProof.Rows L2 StX RZ Fx
def topS (i : Nat) : Stmt := PySem.Challenge.pw_servedall_k24_whole_payments_are_never_a.main.body.getD i (.Pass ⟨0, 0, 0, 0⟩)
abbrev s_kept : Stmt := topS 6
abbrev s_fraction : Stmt := topS 10
abbrev s_whole : Stmt := topS 11
abbrev s_plus : Stmt := topS 12
abbrev s_minus : Stmt := topS 13
abbrev s_times : Stmt := topS 14
abbrev s_total_of : Stmt := topS 15
abbrev s_served_by : Stmt := topS 18
abbrev s_serves : Stmt := topS 19
abbrev s_sum_of : Stmt := topS 21
abbrev s_asked_of : Stmt := topS 22
abbrev s_supplies : Stmt := topS 24
abbrev s_cost_of : Stmt := topS 25
abbrev s_paid_to : Stmt := topS 26
abbrev s_share_gaps : Stmt := topS 27
abbrev s_do_meet : Stmt := topS 28
abbrev s__law_source : Stmt := topS 30
abbrev s__law_any : Stmt := topS 31
abbrev s__law_of : Stmt := topS 32
abbrev s__law_common : Stmt := topS 33
abbrev s__law_low : Stmt := topS 34
abbrev s__law_same : Stmt := topS 35
abbrev s__law_plus : Stmt := topS 36
abbrev s__law_times : Stmt := topS 37
abbrev s__law_less : Stmt := topS 38
abbrev s__law_sum : Stmt := topS 39
abbrev s__law_names : Stmt := topS 40
abbrev s__law_table : Stmt := topS 41
abbrev s__law_prices : Stmt := topS 42
abbrev s__law_supplies : Stmt := topS 43
abbrev s__law_paid : Stmt := topS 44
abbrev s__law_are_right : Stmt := topS 45
abbrev s__law_pays_right : Stmt := topS 46
abbrev s__law_cost : Stmt := topS 47
abbrev s__law_shares : Stmt := topS 48
abbrev s__law_payments : Stmt := topS 49
abbrev s_law : Stmt := topS 50

structure Txt (K : PySem.W.Frag) (mg : Str → Option Value) where
  a_kept : Addr
  d_kept : FuncData
  f_kept : Fun K "kept" "kept" s_kept a_kept d_kept
  g_kept : mg "kept" = some (.ref a_kept)
  b_kept : Binds K d_kept ["value"] []
  a_fraction : Addr
  d_fraction : FuncData
  f_fraction : Fun K "fraction" "fraction" s_fraction a_fraction d_fraction
  g_fraction : mg "fraction" = some (.ref a_fraction)
  b_fraction : Binds K d_fraction ["top", "bottom"] []
  a_whole : Addr
  d_whole : FuncData
  f_whole : Fun K "whole" "whole" s_whole a_whole d_whole
  g_whole : mg "whole" = some (.ref a_whole)
  b_whole : Binds K d_whole ["number"] []
  a_plus : Addr
  d_plus : FuncData
  f_plus : Fun K "plus" "plus" s_plus a_plus d_plus
  g_plus : mg "plus" = some (.ref a_plus)
  b_plus : Binds K d_plus ["one", "other"] []
  a_minus : Addr
  d_minus : FuncData
  f_minus : Fun K "minus" "minus" s_minus a_minus d_minus
  g_minus : mg "minus" = some (.ref a_minus)
  b_minus : Binds K d_minus ["one", "other"] []
  a_times : Addr
  d_times : FuncData
  f_times : Fun K "times" "times" s_times a_times d_times
  g_times : mg "times" = some (.ref a_times)
  b_times : Binds K d_times ["one", "other"] []
  a_total_of : Addr
  d_total_of : FuncData
  f_total_of : Fun K "total_of" "total_of" s_total_of a_total_of d_total_of
  g_total_of : mg "total_of" = some (.ref a_total_of)
  b_total_of : Binds K d_total_of ["some"] []
  a_served_by : Addr
  d_served_by : FuncData
  f_served_by : Fun K "served_by" "served_by" s_served_by a_served_by d_served_by
  g_served_by : mg "served_by" = some (.ref a_served_by)
  b_served_by : Binds K d_served_by ["table", "person"] []
  a_serves : Addr
  d_serves : FuncData
  f_serves : Fun K "serves" "serves" s_serves a_serves d_serves
  g_serves : mg "serves" = some (.ref a_serves)
  b_serves : Binds K d_serves ["table", "house"] []
  a_sum_of : Addr
  d_sum_of : FuncData
  f_sum_of : Fun K "sum_of" "sum_of" s_sum_of a_sum_of d_sum_of
  g_sum_of : mg "sum_of" = some (.ref a_sum_of)
  b_sum_of : Binds K d_sum_of ["payments"] []
  a_asked_of : Addr
  d_asked_of : FuncData
  f_asked_of : Fun K "asked_of" "asked_of" s_asked_of a_asked_of d_asked_of
  g_asked_of : mg "asked_of" = some (.ref a_asked_of)
  b_asked_of : Binds K d_asked_of ["table", "payments", "house"] []
  a_supplies : Addr
  d_supplies : FuncData
  f_supplies : Fun K "supplies" "supplies" s_supplies a_supplies d_supplies
  g_supplies : mg "supplies" = some (.ref a_supplies)
  b_supplies : Binds K d_supplies ["table", "shares"] []
  a_cost_of : Addr
  d_cost_of : FuncData
  f_cost_of : Fun K "cost_of" "cost_of" s_cost_of a_cost_of d_cost_of
  g_cost_of : mg "cost_of" = some (.ref a_cost_of)
  b_cost_of : Binds K d_cost_of ["prices", "shares"] []
  a_paid_to : Addr
  d_paid_to : FuncData
  f_paid_to : Fun K "paid_to" "paid_to" s_paid_to a_paid_to d_paid_to
  g_paid_to : mg "paid_to" = some (.ref a_paid_to)
  b_paid_to : Binds K d_paid_to ["table", "payments"] []
  a_share_gaps : Addr
  d_share_gaps : FuncData
  f_share_gaps : Fun K "share_gaps" "share_gaps" s_share_gaps a_share_gaps d_share_gaps
  g_share_gaps : mg "share_gaps" = some (.ref a_share_gaps)
  b_share_gaps : Binds K d_share_gaps ["table", "prices", "shares", "payments"] []
  a_do_meet : Addr
  d_do_meet : FuncData
  f_do_meet : Fun K "do_meet" "do_meet" s_do_meet a_do_meet d_do_meet
  g_do_meet : mg "do_meet" = some (.ref a_do_meet)
  b_do_meet : Binds K d_do_meet ["table", "prices", "shares", "payments"] []
  a__law_source : Addr
  d__law_source : FuncData
  f__law_source : Fun K "_law_source" "_law_source" s__law_source a__law_source d__law_source
  g__law_source : mg "_law_source" = some (.ref a__law_source)
  b__law_source : Binds K d__law_source ["script"] []
  a__law_any : Addr
  d__law_any : FuncData
  f__law_any : Fun K "_law_any" "_law_any" s__law_any a__law_any d__law_any
  g__law_any : mg "_law_any" = some (.ref a__law_any)
  b__law_any : Binds K d__law_any ["deal", "bound"] []
  a__law_of : Addr
  d__law_of : FuncData
  f__law_of : Fun K "_law_of" "_law_of" s__law_of a__law_of d__law_of
  g__law_of : mg "_law_of" = some (.ref a__law_of)
  b__law_of : Binds K d__law_of ["deal", "some"] []
  a__law_common : Addr
  d__law_common : FuncData
  f__law_common : Fun K "_law_common" "_law_common" s__law_common a__law_common d__law_common
  g__law_common : mg "_law_common" = some (.ref a__law_common)
  b__law_common : Binds K d__law_common ["one", "other"] []
  a__law_low : Addr
  d__law_low : FuncData
  f__law_low : Fun K "_law_low" "_law_low" s__law_low a__law_low d__law_low
  g__law_low : mg "_law_low" = some (.ref a__law_low)
  b__law_low : Binds K d__law_low ["top", "bottom"] []
  a__law_same : Addr
  d__law_same : FuncData
  f__law_same : Fun K "_law_same" "_law_same" s__law_same a__law_same d__law_same
  g__law_same : mg "_law_same" = some (.ref a__law_same)
  b__law_same : Binds K d__law_same ["told", "due"] []
  a__law_plus : Addr
  d__law_plus : FuncData
  f__law_plus : Fun K "_law_plus" "_law_plus" s__law_plus a__law_plus d__law_plus
  g__law_plus : mg "_law_plus" = some (.ref a__law_plus)
  b__law_plus : Binds K d__law_plus ["one", "other"] []
  a__law_times : Addr
  d__law_times : FuncData
  f__law_times : Fun K "_law_times" "_law_times" s__law_times a__law_times d__law_times
  g__law_times : mg "_law_times" = some (.ref a__law_times)
  b__law_times : Binds K d__law_times ["one", "other"] []
  a__law_less : Addr
  d__law_less : FuncData
  f__law_less : Fun K "_law_less" "_law_less" s__law_less a__law_less d__law_less
  g__law_less : mg "_law_less" = some (.ref a__law_less)
  b__law_less : Binds K d__law_less ["one", "other"] []
  a__law_sum : Addr
  d__law_sum : FuncData
  f__law_sum : Fun K "_law_sum" "_law_sum" s__law_sum a__law_sum d__law_sum
  g__law_sum : mg "_law_sum" = some (.ref a__law_sum)
  b__law_sum : Binds K d__law_sum ["some"] []
  a__law_names : Addr
  d__law_names : FuncData
  f__law_names : Fun K "_law_names" "_law_names" s__law_names a__law_names d__law_names
  g__law_names : mg "_law_names" = some (.ref a__law_names)
  b__law_names : Binds K d__law_names ["deal", "many"] []
  a__law_table : Addr
  d__law_table : FuncData
  f__law_table : Fun K "_law_table" "_law_table" s__law_table a__law_table d__law_table
  g__law_table : mg "_law_table" = some (.ref a__law_table)
  b__law_table : Binds K d__law_table ["deal", "people", "houses"] []
  a__law_prices : Addr
  d__law_prices : FuncData
  f__law_prices : Fun K "_law_prices" "_law_prices" s__law_prices a__law_prices d__law_prices
  g__law_prices : mg "_law_prices" = some (.ref a__law_prices)
  b__law_prices : Binds K d__law_prices ["deal", "houses"] []
  a__law_supplies : Addr
  d__law_supplies : FuncData
  f__law_supplies : Fun K "_law_supplies" "_law_supplies" s__law_supplies a__law_supplies d__law_supplies
  g__law_supplies : mg "_law_supplies" = some (.ref a__law_supplies)
  b__law_supplies : Binds K d__law_supplies ["parts", "shares"] []
  a__law_paid : Addr
  d__law_paid : FuncData
  f__law_paid : Fun K "_law_paid" "_law_paid" s__law_paid a__law_paid d__law_paid
  g__law_paid : mg "_law_paid" = some (.ref a__law_paid)
  b__law_paid : Binds K d__law_paid ["parts", "payments"] []
  a__law_are_right : Addr
  d__law_are_right : FuncData
  f__law_are_right : Fun K "_law_are_right" "_law_are_right" s__law_are_right a__law_are_right d__law_are_right
  g__law_are_right : mg "_law_are_right" = some (.ref a__law_are_right)
  b__law_are_right : Binds K d__law_are_right ["parts", "shares"] []
  a__law_pays_right : Addr
  d__law_pays_right : FuncData
  f__law_pays_right : Fun K "_law_pays_right" "_law_pays_right" s__law_pays_right a__law_pays_right d__law_pays_right
  g__law_pays_right : mg "_law_pays_right" = some (.ref a__law_pays_right)
  b__law_pays_right : Binds K d__law_pays_right ["parts", "prices", "payments"] []
  a__law_cost : Addr
  d__law_cost : FuncData
  f__law_cost : Fun K "_law_cost" "_law_cost" s__law_cost a__law_cost d__law_cost
  g__law_cost : mg "_law_cost" = some (.ref a__law_cost)
  b__law_cost : Binds K d__law_cost ["prices", "shares"] []
  a__law_shares : Addr
  d__law_shares : FuncData
  f__law_shares : Fun K "_law_shares" "_law_shares" s__law_shares a__law_shares d__law_shares
  g__law_shares : mg "_law_shares" = some (.ref a__law_shares)
  b__law_shares : Binds K d__law_shares ["deal", "parts"] []
  a__law_payments : Addr
  d__law_payments : FuncData
  f__law_payments : Fun K "_law_payments" "_law_payments" s__law_payments a__law_payments d__law_payments
  g__law_payments : mg "_law_payments" = some (.ref a__law_payments)
  b__law_payments : Binds K d__law_payments ["deal", "parts", "prices"] []
  a_law : Addr
  d_law : FuncData
  f_law : Fun K "law" "law" s_law a_law d_law
  g_law : mg "law" = some (.ref a_law)
  b_law : Binds K d_law ["script"] []
  k_do_meet_payments_shares_prices_table : KBinds K d_do_meet ["table", "prices", "shares", "payments"] ["payments", "shares", "prices", "table"] (fun us ws => match us, ws with | [], [u0, u1, u2, u3] => [u3, u2, u1, u0] | _, _ => []) (fun us ws => match us, ws with | [], [u0, u1, u2, u3] => [u3, u2, u1, u0] | _, _ => [])
  k_paid_to_payments_table : KBinds K d_paid_to ["table", "payments"] ["payments", "table"] (fun us ws => match us, ws with | [], [u0, u1] => [u1, u0] | _, _ => []) (fun us ws => match us, ws with | [], [u0, u1] => [u1, u0] | _, _ => [])
  k_share_gaps_payments_shares_prices_table : KBinds K d_share_gaps ["table", "prices", "shares", "payments"] ["payments", "shares", "prices", "table"] (fun us ws => match us, ws with | [], [u0, u1, u2, u3] => [u3, u2, u1, u0] | _, _ => []) (fun us ws => match us, ws with | [], [u0, u1, u2, u3] => [u3, u2, u1, u0] | _, _ => [])
  n_abs : mg "abs" = none
  n_int : mg "int" = none
  n_isinstance : mg "isinstance" = none
  n_len : mg "len" = none
  n_list : mg "list" = none
  n_range : mg "range" = none
  n_repr : mg "repr" = none
  n_sorted : mg "sorted" = none
  n_tuple : mg "tuple" = none
  n_zip : mg "zip" = none

theorem small {n : Nat} (h : n ≤ 1000000) : n ≤ sizeLine := Nat.le_trans h (by decide)
theorem smallL {n : Nat} (h : n < 1000000) : n < sizeLine := Nat.lt_of_lt_of_le h (by decide)
def isIntD : PyData → Bool
  | .int _ => true
  | _ => false
def isNumD : PyData → Bool
  | .int i => decide (0 ≤ i)
  | _ => false
end K24

namespace K24
open PySem PySem.Spec PyProof.Rows L2 StX RZ Fx
section
variable {P : Program} {w : World} {K : PySem.W.Frag} {mg : Str → Option Value} {base : Heap}
theorem shaped_ints (ns : List Int) : SeqAt.shaped (tI ns) = true := by
  have h1 : ∀ ns : List Int, PyData.canLayAll0 (ns.map .int) = true := by
    intro ns; induction ns with
    | nil => rfl
    | cons n r ih => simp [PyData.canLayAll0, PyData.canLay0, ih]
  have h2 : ∀ ns : List Int, PyData.depthAll (ns.map .int) = 0 := by
    intro ns; induction ns with
    | nil => rfl
    | cons n r ih => simp [PyData.depthAll, PyData.depth, ih]
  unfold SeqAt.shaped
  simp [PyData.canLay0, PyData.depth, h1, h2]
structure DS where
  cs : List Int
  m : Int
def StOk (s : DS) : Prop := 0 ≤ s.m ∧ s.m < 2147483647 ∧ s.cs.length ≤ 1000
abbrev dR (aD aC : Addr) (s : DS) : List Ow := [.rw aD (.lst [.ref aC, .int s.m]), .ls aC (s.cs.map .int)]
def popZ (cs : List Int) : List Int := (cs.reverse.dropWhile fun c => decide (c = 0)).reverse
def mixF (m : Int) : Int := (m * 48271 + 41) % 2147483647
@[irreducible] def anyF (b : Int) (s : DS) : Int × DS :=
  match popZ s.cs with
  | [] => (mixF s.m / 64 % b, ⟨[], mixF s.m⟩)
  | c :: r => ((c :: r).getLast (by simp) % b, ⟨(c :: r).dropLast ++ [(c :: r).getLast (by simp) / b], s.m⟩)
theorem anyF_lt {b : Int} (hb : 0 < b) (s : DS) : 0 ≤ (anyF b s).1 ∧ (anyF b s).1 < b := by
  unfold anyF
  split
  · exact ⟨Int.emod_nonneg _ (by omega), Int.emod_lt_of_pos _ hb⟩
  · exact ⟨Int.emod_nonneg _ (by omega), Int.emod_lt_of_pos _ hb⟩
theorem popZ_len (cs : List Int) : (popZ cs).length ≤ cs.length := by
  unfold popZ
  rw [List.length_reverse]
  have h1 : ∀ l : List Int, (l.dropWhile fun c => decide (c = 0)).length ≤ l.length := by
    intro l
    induction l with
    | nil => exact Nat.le_refl _
    | cons a r ih =>
      rw [List.dropWhile_cons]
      split
      · exact Nat.le_succ_of_le ih
      · exact Nat.le_refl _
  have := h1 cs.reverse
  rw [List.length_reverse] at this
  exact this
theorem anyF_ok {b : Int} {s : DS} (h : StOk s) : StOk (anyF b s).2 := by
  unfold anyF
  have hp := popZ_len s.cs
  split
  · exact ⟨Int.emod_nonneg _ (by omega), Int.emod_lt_of_pos _ (by omega), by simp⟩
  · rename_i c r hc
    refine ⟨h.1, h.2.1, ?_⟩
    rw [hc, List.length_cons] at hp
    have := h.2.2
    simp
    omega
theorem popZ_snoc0 (cs : List Int) : popZ (cs ++ [0]) = popZ cs := by
  unfold popZ; simp
theorem popZ_snoc {cs : List Int} {c : Int} (h : c ≠ 0) : popZ (cs ++ [c]) = cs ++ [c] := by
  unfold popZ; simp [h]
theorem ev_neg {ρ : List En} {R R1 : List Ow} {te : TE} {i : Int} (h : Ev K te ρ R (.d (.int i)) R1) : Ev K (tUn (rU fun i => .int (-i)) te) ρ R (.d (.int (-i))) R1 := fun R0 F H σ S A Q q =>
  h R0 F H σ S A _ fun v F1 H1 x1 A1 e1 => by cases e1; exact ⟨i, rfl, q _ F1 H1 x1 A1 (.int _)⟩
theorem eqv_nilL (ds : List PyData) : PyData.eqv (.list ds) (.list []) = ds.isEmpty := by cases ds <;> simp [PyData.eqv, PyData.eqvAll]
theorem shaped_lI (ns : List Int) : SeqAt.shaped (.list (ns.map .int)) = true := by
  have := shaped_ints ns
  unfold SeqAt.shaped at this ⊢
  simpa [PyData.canLay0, PyData.depth] using this
theorem deal0 {aD aC : Addr} {s : DS} {i : Nat} {ρ : List En} (h : ρ[i]? = some (.o aD)) : Ev K (tOp (rIxA K) (tVar i) (tC (.int 0))) ρ (dR aD aC s) (.o aC) (dR aD aC s) :=
  ev_op (ev_o h) ev_int (rv_iR (vs := [.ref aC, .int s.m]) (by simp) rfl)
theorem deal1 {aD aC : Addr} {s : DS} {i : Nat} {ρ : List En} (h : ρ[i]? = some (.o aD)) : Ev K (tOp (rIxA K) (tVar i) (tC (.int 1))) ρ (dR aD aC s) (.d (.int s.m)) (dR aD aC s) :=
  ev_op (ev_o h) ev_int (rv_iRi (vs := [.ref aC, .int s.m]) (by simp) rfl)
theorem dealNe {aD aC : Addr} {s : DS} {i : Nat} {ρ : List En} (h : ρ[i]? = some (.o aD)) : Et K (tTest (tOp (rNeD K) (tOp (rIxA K) (tVar i) (tC (.int 0))) (tLst tNil))) ρ (dR aD aC s) (!s.cs.isEmpty) (dR aD aC s) := by
  have h1 := ev_op (deal0 (K := K) (aC := aC) (s := s) h) (ev_lstE (ds := []) ea_nil rfl (small (by simp))) (rv_neO (Ra := [.rw aD (.lst [.ref aC, .int s.m])]) (Rb := []) (shaped_lI s.cs) (by rfl))
  rw [eqv_nilL] at h1
  have e : (s.cs.map PyData.int).isEmpty = s.cs.isEmpty := by cases s.cs <;> rfl
  rw [e] at h1
  exact et_test h1
theorem sc__law_any : FnScope ["deal", "bound", "rest"] ["deal", "bound"] (defScope s__law_any) := ⟨rfl, rfl, rfl, by decide +kernel, rfl, by decide +kernel, by decide +kernel⟩

def S__law_any : List En → List Ow → En → List Ow → Prop := fun es R e R' => ∃ aD aC s b, es = [.o aD, .d (.int b)] ∧ R = dR aD aC s ∧ R' = dR aD aC (anyF b s).2 ∧ e = .d (.int (anyF b s).1) ∧ 0 < b ∧ b < 2 ^ 1000 ∧ StOk s
theorem ok__law_any (T : Txt K mg) : FnOk P w K mg base CX0 1 T.a__law_any T.d__law_any ["deal", "bound"] (spS K S__law_any) := by
  refine fn_es T.f__law_any sc__law_any ?len (fun cdv A outer s H E es R e R' hr hS => ?body)
  case len => rintro _ _ _ _ ⟨aD, aC, s, b, rfl, _⟩; rfl
  case body =>
    obtain ⟨aD, aC, st, b, rfl, rfl, rfl, rfl, hb, hb2, hok⟩ := hS
    have hlen := hok.2.2
    refine ⟨_, (pss_cons (ps_while PassesOwn.never ((pw_and (pt_cmpR (opNeD (K := K) hr) (pe_ix (ixAny (K := K)) (pv 0) pe_int (fun _ _ => rfl)) (pe_lst pa_nil) (nomark _)) (pw_and1 (pt_cmpR (opEqD (K := K) hr) (pe_ix (ixAny (K := K)) (pe_ix (ixAny (K := K)) (pv 0) pe_int (fun _ _ => rfl)) (pe_un un_neg pe_int) (fun _ _ => rfl)) pe_int (nomark _))))).pt (pss_one (ps_expr (peBm0 (K := K) PySem.F.slot_list_pop PySem.F.type_list_pop mt_pop (pe_ix (ixAny (K := K)) (pv 0) pe_int (fun _ _ => rfl))))))
      (pss_cons (ps_if (pt_cmpR (opNeD (K := K) hr) (pe_ix (ixAny (K := K)) (pv 0) pe_int (fun _ _ => rfl)) (pe_lst pa_nil) (nomark _)) (pss_cons (ps_set (i := 2) sc__law_any.nd rfl (.inl rfl) (pe_callTy callInt (by rfl) T.n_int (by decide +kernel) (pa_cons (peBm0 (K := K) PySem.F.slot_list_pop PySem.F.type_list_pop mt_pop (pe_ix (ixAny (K := K)) (pv 0) pe_int (fun _ _ => rfl))) pa_nil)))
      (pss_cons (ps_expr (peBm (K := K) PySem.F.slot_list_append PySem.F.type_list_append mt_append (pe_ix (ixAny (K := K)) (pv 0) pe_int (fun _ _ => rfl)) (pa_cons (pe_op opDiv (pv 2) (pv 1)) pa_nil)))
      (pss_one (ps_ret (pe_op op_mod (pv 2) (pv 1)))))) pss_nil)
      (pss_cons (ps_asg (pe_op op_mod (pe_callTy callInt (by rfl) T.n_int (by decide +kernel) (pa_cons (pe_op (opAdd (K := K)) (pe_op opMul (pe_ix (ixAny (K := K)) (pv 0) pe_int (fun _ _ => rfl)) pe_int) pe_int) pa_nil)) pe_int) (pg_sub (pv 0) pe_int set_list (fun _ => rfl)))
      (pss_one (ps_ret (pe_op op_mod (pe_callTy callInt (by rfl) T.n_int (by decide +kernel) (pa_cons (pe_op opDiv (pe_ix (ixAny (K := K)) (pv 0) pe_int (fun _ _ => rfl)) pe_int) pa_nil)) (pv 1))))))), ?_⟩
    have hdiv : ∀ i, CDivW i b := fun i => wide_div hb (b := 1000) (by omega) (by omega) (by omega)
    refine es_seqM (fun ρ R => ρ = [.o aD, .d (.int b), .u] ∧ ∃ c, R = dR aD aC ⟨c, st.m⟩ ∧ popZ c = popZ st.cs ∧ popZ c = c ∧ c.length ≤ 1000) ?_ ?_
    · refine es_while (fun m ρ R => ρ = [.o aD, .d (.int b), .u] ∧ ∃ c, R = dR aD aC ⟨c, st.m⟩ ∧ popZ c = popZ st.cs ∧ m = c.length ∧ c.length ≤ 1000) ⟨_, rfl, st.cs, rfl, rfl, rfl, hlen⟩ ?_
      rintro m ρ R ⟨rfl, c, rfl, hc, rfl, hcl⟩
      by_cases hne : c = []
      · subst hne
        exact ⟨false, _, et_andF (dealNe (s := ⟨[], st.m⟩) rfl), fun h => (nomatch h), fun _ => ⟨rfl, [], rfl, hc, rfl, by simp⟩⟩
      · obtain ⟨d, x, rfl⟩ : ∃ d x, c = d ++ [x] := ⟨c.dropLast, c.getLast hne, (List.dropLast_concat_getLast hne).symm⟩
        have h1 := dealNe (K := K) (aD := aD) (aC := aC) (s := ⟨d ++ [x], st.m⟩) (i := 0) (ρ := [.o aD, .d (.int b), .u]) rfl
        have e1 : (!(d ++ [x]).isEmpty) = true := by cases d <;> rfl
        rw [show (!(DS.mk (d ++ [x]) st.m).cs.isEmpty) = true from e1] at h1
        have h2 := et_test (ev_op (ev_op (deal0 (K := K) (aD := aD) (aC := aC) (s := ⟨d ++ [x], st.m⟩) (i := 0) (ρ := [.o aD, .d (.int b), .u]) rfl) (ev_neg (ev_int (i := 1))) (rv_iO (Ra := [.rw aD (.lst [.ref aC, .int st.m])]) (Rb := []) (ds := (d ++ [x]).map .int) (d := .int x) (by rw [List.map_append]; exact atI_last _ _))) (ev_int (i := 0)) rv_eqI)
        have ht := et_andT h1 h2
        by_cases hx : x = 0
        · subst hx
          refine ⟨true, _, ht, fun _ => ?_, fun h => (nomatch h)⟩
          have hm : dR aD aC ⟨d ++ [0], st.m⟩ = [.rw aD (.lst [.ref aC, .int st.m])] ++ .ls aC (d.map .int ++ [.int 0]) :: [] := by simp
          rw [hm]
          exact es_drop (ev_pop (a := aC) (ds := d.map .int) (d := .int 0) (Ra := [.rw aD (.lst [.ref aC, .int st.m])]) (Rb := []) (ev_op (ev_o rfl) ev_int (rv_iR (b := aC) (vs := [.ref aC, .int st.m]) (by simp) rfl))) ⟨d.length, by simp, rfl, d, rfl, by rw [← hc, popZ_snoc0], rfl, by simp at hcl; omega⟩
        · refine ⟨false, _, ?_, fun h => (nomatch h), fun _ => ⟨rfl, d ++ [x], rfl, hc, popZ_snoc hx, hcl⟩⟩
          have e : decide (x = 0) = false := by simp [hx]
          rw [← e]
          exact ht
    · rintro ρ R ⟨rfl, c, rfl, hc, hz, hcl⟩
      refine es_seq (es_if (dealNe rfl) (fun hne => ?_) (fun he => es_next ?_))
      · obtain ⟨d, x, rfl⟩ : ∃ d x, c = d ++ [x] := by
          cases c with
          | nil => cases hne
          | cons a r => exact ⟨(a :: r).dropLast, (a :: r).getLast (by simp), (List.dropLast_concat_getLast (by simp)).symm⟩
        have hany : anyF b st = (x % b, ⟨d ++ [x / b], st.m⟩) := by
          unfold anyF
          rw [← hc, hz]
          cases hd : d ++ [x] with
          | nil => simp at hd
          | cons a r =>
            simp only [← hd]
            simp
        rw [hany]
        have hm : dR aD aC ⟨d ++ [x], st.m⟩ = [.rw aD (.lst [.ref aC, .int st.m])] ++ .ls aC (d.map .int ++ [.int x]) :: [] := by simp
        rw [hm]
        refine es_seq (es_set (ev_cb (ea_cons (ev_pop (a := aC) (ds := d.map .int) (d := .int x) (Ra := [.rw aD (.lst [.ref aC, .int st.m])]) (Rb := []) ?p0) ea_nil) rc_int) ?_)
        case p0 => exact ev_op (ev_o rfl) ev_int (rv_iR (b := aC) (vs := [.ref aC, .int st.m]) (by simp) rfl)
        refine es_seq (es_drop (ev_append (a := aC) (ds := d.map .int) (ds0 := d.map .int) (d := .int (x / b)) (Ra := [.rw aD (.lst [.ref aC, .int st.m])]) (Rb := []) (deal0 (s := ⟨d, st.m⟩) rfl) (by simp) (ea_cons (ev_op (ev_d rfl) (ev_d rfl) (rv_intC (hdiv x))) ea_nil) (smallL ?_)) ?_)
        · rw [List.length_map]; simp at hcl; omega
        · refine es_ret (ev_op (ev_d rfl) (ev_d rfl) (rv_intC hb)) ⟨rfl, ?_⟩
          simp
      · have hcn : c = [] := by cases c with
          | nil => rfl
          | cons a r => cases he
        subst hcn
        have hany : anyF b st = (mixF st.m / 64 % b, ⟨[], mixF st.m⟩) := by
          unfold anyF
          rw [← hc, hz]
        rw [hany]
        have hmul : CMulW st.m 48271 := wide_mul (a := 31) (b := 16) (by have := hok; unfold StOk at this; omega) (by decide) (by omega) (by omega) (by omega)
        refine es_seq (es_storeR (Ra := []) (Rb := [.ls aC []]) (vs := [.ref aC, .int st.m]) (k := mixF st.m) (i := 1) (j := 1) (ev_op (ev_cb (ea_cons (ev_op (ev_op (deal1 (s := ⟨[], st.m⟩) rfl) ev_int (rv_intC hmul)) ev_int rv_addI) ea_nil) rc_int) ev_int (rv_intC (by decide))) (ev_o rfl) ev_int rfl ?_)
        exact es_ret (ev_op (ev_cb (ea_cons (ev_op (deal1 (s := ⟨[], mixF st.m⟩) rfl) ev_int (rv_intC (wide_div (b := 7) (by decide) (by decide) (by omega) (by omega)))) ea_nil) rc_int) (ev_d rfl) (rv_intC hb)) ⟨rfl, rfl⟩
theorem ev_any {aD aC : Addr} {s s' : DS} {b : Int} {i : Nat} {ρ : List En} {tb : TE} (hd : ρ[i]? = some (.o aD)) (hb : Ev K tb ρ (dR aD aC s) (.d (.int b)) (dR aD aC s')) (h0 : 0 < b) (h1 : b < 2 ^ 1000) (ok : StOk s') :
    Ev K (tCall (spS K S__law_any) [] E0 (tCons (tVar i) (tCons tb tNil))) ρ (dR aD aC s) (.d (.int (anyF b s').1)) (dR aD aC (anyF b s').2) := by
  have := ev_call (Rf := []) (Rc := dR aD aC s') (Rc' := dR aD aC (anyF b s').2) (Sf := S__law_any) (e := .d (.int (anyF b s').1)) (ts := tCons (tVar i) (tCons tb tNil)) (R := dR aD aC s) (ρ := ρ) (K := K) ⟨aD, aC, s', b, rfl, rfl, rfl, rfl, h0, h1, ok⟩ (ea_cons (ev_o hd) (ea_cons hb ea_nil))
  exact this
@[irreducible] def ofF (ds : List PyData) (s : DS) : PyData × DS := (ds.getD (anyF ds.length s).1.toNat .none, (anyF ds.length s).2)
theorem ofF_ix {ds : List PyData} (h : ds ≠ []) (s : DS) : L2.atI ds (anyF ds.length s).1 = some (ofF ds s).1 ∧ (ofF ds s).1 ∈ ds := by
  have h0 : (0 : Int) < ds.length := by have := List.length_pos_iff.mpr h; omega
  have h1 := anyF_lt h0 s
  have h2 : (anyF ds.length s).1.toNat < ds.length := by omega
  unfold ofF
  refine ⟨atI_nat' (j := (anyF ds.length s).1.toNat) (by omega) (get_getD h2), ?_⟩
  show ds.getD _ _ ∈ ds
  rw [List.getD_eq_getElem?_getD, List.getElem?_eq_getElem h2]
  exact List.getElem_mem _
theorem ofF_snd (ds : List PyData) (s : DS) : (ofF ds s).2 = (anyF ds.length s).2 := by unfold ofF; rfl
theorem ofF_ok {ds : List PyData} {s : DS} (h : StOk s) : StOk (ofF ds s).2 := by rw [ofF_snd]; exact anyF_ok h
def SeqD (d : PyData) (xs : List PyData) : Prop := d = .tuple xs ∨ d = .list xs
theorem ev_lenS {ρ : List En} {R R1 : List Ow} {te : TE} {d : PyData} {xs : List PyData} (hd : SeqD d xs) (h : Ev K te ρ R (.d d) R1) : Ev K (tCB (rLenS K) (tCons te tNil)) ρ R (.d (.int (xs.length : Int))) R1 := by
  rcases hd with rfl | rfl
  · exact ev_cb (ea_cons h ea_nil) rc_lenT
  · exact ev_cb (ea_cons h ea_nil) rc_lenL
theorem ev_atS {ρ : List En} {R R1 R2 : List Ow} {te ti : TE} {d x : PyData} {xs : List PyData} {i : Int} (hd : SeqD d xs) (h : Ev K te ρ R (.d d) R1) (hi : Ev K ti ρ R1 (.d (.int i)) R2) (hx : L2.atI xs i = some x) : Ev K (tOp (rIxA K) te ti) ρ R (.d x) R2 := by
  rcases hd with rfl | rfl
  · exact ev_op h hi (rv_iT hx)
  · exact ev_op h hi (rv_iL hx)
theorem ev_anyR {aD aC : Addr} {s s' : DS} {b : Int} {i : Nat} {ρ : List En} {tb : TE} {Rf : List Ow} (hd : ρ[i]? = some (.o aD)) (hb : Ev K tb ρ (dR aD aC s ++ Rf) (.d (.int b)) (dR aD aC s' ++ Rf)) (h0 : 0 < b) (h1 : b < 2 ^ 1000) (ok : StOk s') :
    Ev K (tCall (spS K S__law_any) [] E0 (tCons (tVar i) (tCons tb tNil))) ρ (dR aD aC s ++ Rf) (.d (.int (anyF b s').1)) (dR aD aC (anyF b s').2 ++ Rf) := by
  have := ev_call (Rf := Rf) (Rc := dR aD aC s') (Rc' := dR aD aC (anyF b s').2) (Sf := S__law_any) (e := .d (.int (anyF b s').1)) (ts := tCons (tVar i) (tCons tb tNil)) (R := dR aD aC s ++ Rf) (ρ := ρ) (K := K) ⟨aD, aC, s', b, rfl, rfl, rfl, rfl, h0, h1, ok⟩ (ea_cons (ev_o hd) (ea_cons hb ea_nil))
  exact this
theorem sc__law_of : FnScope ["deal", "some"] ["deal", "some"] (defScope s__law_of) := ⟨rfl, rfl, rfl, by decide +kernel, rfl, by decide +kernel, by decide +kernel⟩

def S__law_of : List En → List Ow → En → List Ow → Prop := fun es R e R' => ∃ aD aC s d ds, es = [.o aD, .d d] ∧ R = dR aD aC s ∧ R' = dR aD aC (ofF ds s).2 ∧ e = .d (ofF ds s).1 ∧ SeqD d ds ∧ ds ≠ [] ∧ ds.length ≤ 1000000 ∧ StOk s
theorem ok__law_of (T : Txt K mg) : FnOk P w K mg base CX0 2 T.a__law_of T.d__law_of ["deal", "some"] (spS K S__law_of) := by
  refine fn_es T.f__law_of sc__law_of ?len (fun cdv A outer s H E es R e R' hr hS => ?body)
  case len => rintro _ _ _ _ ⟨aD, aC, s, d, ds, rfl, _⟩; rfl
  case body =>
    obtain ⟨aD, aC, st, d, ds, rfl, rfl, rfl, rfl, hd, hne, hl, hok⟩ := hS
    refine ⟨_, (pss_one (ps_ret (pe_ix (ixAny (K := K)) (pv 1) (pe_call (ok__law_any T) (hr.mono (by decide)) (by rfl) T.g__law_any T.f__law_any.kp T.b__law_any .nil pass0 (pa_cons (pv 0) (pa_cons (pe_callB (callLen (K := K)) (by rfl) T.n_len (by decide +kernel) (pa_cons (pv 1) pa_nil)) pa_nil))) (fun _ _ => rfl)))), ?_⟩
    have hp := List.length_pos_iff.mpr hne
    exact es_ret (ev_atS hd (ev_d rfl) (ev_any rfl (ev_lenS hd (ev_d rfl)) (by omega) (by omega) hok) (ofF_ix hne st).1) ⟨rfl, by rw [ofF_snd]⟩
theorem ev_ofR {aD aC : Addr} {s s' : DS} {d : PyData} {ds : List PyData} {i : Nat} {ρ : List En} {tb : TE} {Rf : List Ow} (hd : ρ[i]? = some (.o aD)) (hq : SeqD d ds) (hb : Ev K tb ρ (dR aD aC s ++ Rf) (.d d) (dR aD aC s' ++ Rf)) (hne : ds ≠ []) (hl : ds.length ≤ 1000000) (ok : StOk s') :
    Ev K (tCall (spS K S__law_of) [] E0 (tCons (tVar i) (tCons tb tNil))) ρ (dR aD aC s ++ Rf) (.d (ofF ds s').1) (dR aD aC (ofF ds s').2 ++ Rf) := by
  have := ev_call (Rf := Rf) (Rc := dR aD aC s') (Rc' := dR aD aC (ofF ds s').2) (Sf := S__law_of) (e := .d (ofF ds s').1) (ts := tCons (tVar i) (tCons tb tNil)) (R := dR aD aC s ++ Rf) (ρ := ρ) (K := K) ⟨aD, aC, s', d, ds, rfl, rfl, rfl, rfl, hq, hne, hl, ok⟩ (ea_cons (ev_o hd) (ea_cons hb ea_nil))
  exact this
/-- a menu of ints -/
theorem ofF_ints {ns : List Int} (h : ns ≠ []) (s : DS) : ∃ n ∈ ns, (ofF (ns.map .int) s).1 = .int n := by
  have := (ofF_ix (ds := ns.map .int) (by simpa using h) s).2
  obtain ⟨n, h1, h2⟩ := List.mem_map.mp this
  exact ⟨n, h1, h2.symm⟩
theorem one_any {s : DS} {b : Nat} (hb : 0 < b) : ∃ n : Nat, 1 + (anyF (b : Int) s).1 = (n : Int) ∧ 0 < n ∧ n ≤ b := by
  have h := anyF_lt (b := (b : Int)) (by omega) s
  exact ⟨(1 + (anyF (b : Int) s).1).toNat, by omega, by omega, by omega⟩
theorem mapS_all {α β σ : Type} {f : σ → α → β × σ} {Iv : σ → Prop} {Q : β → Prop} (h : ∀ s a, Iv s → Q (f s a).1 ∧ Iv (f s a).2) : ∀ (l : List α) (s : σ), Iv s → (∀ y ∈ (mapS f s l).1, Q y) ∧ Iv (mapS f s l).2 ∧ (mapS f s l).1.length = l.length
  | [], s, hi => ⟨by intro y hy; simp [mapS] at hy, hi, rfl⟩
  | a :: l, s, hi => by
    have h1 := h s a hi
    have h2 := mapS_all h l (f s a).2 h1.2
    refine ⟨fun y hy => ?_, h2.2.1, by simp [mapS, h2.2.2]⟩
    simp only [mapS, List.mem_cons] at hy
    rcases hy with rfl | hy
    · exact h1.1
    · exact h2.1 y hy
def PoD : En → List Ow → Prop := fun e R' => ∃ aD aC s', e = .o aD ∧ R' = dR aD aC s' ∧ StOk s'
def N_source : List En → List Ow → (En → List Ow → Prop) → Prop := fun es R Po => ∃ ns : List Int, es = [.s (ns.map .int)] ∧ R = [] ∧ Po = PoD
theorem cut63 (ns : List Int) : ∃ ms : List Int, Fx.cutD (ns.map .int) none (some 63) = ms.map .int ∧ ms.length ≤ 63 := by
  refine ⟨ns.take (min 63 ns.length), ?_, ?_⟩
  · unfold Fx.cutD
    rw [show (some 63 : Option Int) = some ((63 : Nat) : Int) from rfl, HT.sIx_nat, HT.sIx_none, List.length_map, List.drop_zero, Nat.sub_zero, List.map_take]
  · rw [List.length_take]; omega
theorem sc__law_source : FnScope ["script", "cells", "blend", "cell"] ["script"] (defScope s__law_source) := ⟨rfl, rfl, rfl, by decide +kernel, rfl, by decide +kernel, by decide +kernel⟩

theorem ok__law_source (T : Txt K mg) : FnOk P w K mg base CX0 1 T.a__law_source T.d__law_source ["script"] (spN K N_source) := by
  refine fn_esN T.f__law_source sc__law_source ?len (fun cdv A outer s H E es R Po hr hS => ?body)
  case len => rintro _ _ _ ⟨ns, rfl, _⟩; rfl
  case body =>
    obtain ⟨ns, rfl, rfl, rfl⟩ := hS
    refine ⟨_, (pss_cons (ps_setLc (i := 1) (own := [("cell", 3)]) (g := gName 3) rfl sc__law_source.nd rfl rfl (sw_true rfl rfl rfl (by decide +kernel)) (piAny (K := K) (pe_slice (slAny (K := K)) (pv 0) po_none (po_some pe_int))) (blkOk_by (N := ["script", "cells", "blend", "cell"]) (sc := defScope s__law_source) (by decide +kernel)) (fun _ _ _ _ _ => (pg_name (i := 3) sc__law_source.nd rfl (by first | exact .inl rfl | exact .inr rfl))) (fun _ _ _ _ _ => pts_nil) (fun _ _ _ _ _ => (pe_callB callAbs (by rfl) T.n_abs (by decide +kernel) (pa_cons (pe_callTy callInt (by rfl) T.n_int (by decide +kernel) (pa_cons (pv 3) pa_nil)) pa_nil))))
      (pss_cons (ps_set (i := 2) sc__law_source.nd rfl (.inl rfl) pe_int)
      (pss_cons (ps_for PassesOwn.never rfl (piAny (K := K) (pv 1)) (pg_name (i := 3) sc__law_source.nd rfl (.inl rfl)) (pss_one (ps_set (i := 2) sc__law_source.nd rfl (.inl rfl) (pe_op op_mod (pe_callTy callInt (by rfl) T.n_int (by decide +kernel) (pa_cons (pe_op (opAdd (K := K)) (pe_op (opAdd (K := K)) (pe_op opMul (pv 2) pe_int) (pe_op op_mod (pv 3) pe_int)) pe_int) pa_nil)) pe_int))))
      (pss_one (ps_ret (pe_lst (pa_cons (pe_rev (K := K) (pe_lc (own := [("cell", 3)]) (g := gName 3) rfl sc__law_source.nd (piAny (K := K) (pv 1)) (blkOk_by (N := ["script", "cells", "blend", "cell"]) (sc := defScope s__law_source) (by decide +kernel)) (fun _ _ _ _ _ => (pg_name (i := 3) sc__law_source.nd rfl (by first | exact .inl rfl | exact .inr rfl))) (fun _ _ _ _ _ => (pts_one (pt_cmpR op_ge (pv 3) (pe_op op_pow pe_int pe_int) (nomark _)))) (fun _ _ _ _ _ => (pv 3)))) (pa_cons (pv 2) pa_nil)))))))), ?_⟩
    obtain ⟨ms, e1, l1⟩ := cut63 ns
    refine es_seq (es_set (ev_lc (ei_cast e1 (ei_L (ev_sS (ev_x rfl) eo_no (eo_some ev_int)))) (lcr_mapT (f := fun x : Int => PyData.int (if x < 0 then -x else x)) fun x hx => ⟨_, egw_name, ev_cb (ea_cons (ev_cb (ea_cons (ev_d rfl) ea_nil) rc_int) ea_nil) rc_abs⟩) (small (by rw [List.length_map]; omega))) ?_)
    rw [map_int (f := fun x : Int => if x < 0 then -x else x)]
    generalize hcs : ms.map (fun x : Int => if x < 0 then -x else x) = cs
    have lc : cs.length ≤ 63 := by rw [← hcs, List.length_map]; exact l1
    refine es_seq (es_set ev_int ?_)
    refine es_seq (es_for (ei_L (ev_d rfl)) (fun i ρ R => R = [] ∧ ∃ e4, ∃ m : Int, ρ = [.s (ns.map .int), .d (lI cs), .d (.int m), e4] ∧ 0 ≤ m ∧ m < 2147483647) ⟨rfl, _, _, rfl, by decide, by decide⟩ ?_ ?_)
    · rintro i d ρ R hd ⟨rfl, e4, m, rfl, m0, m1⟩
      obtain ⟨c, hc, rfl⟩ : ∃ c, c ∈ cs ∧ d = .int c := by
        obtain ⟨c, hc, e⟩ := List.mem_map.mp (List.mem_of_getElem? hd)
        exact ⟨c, hc, e.symm⟩
      refine ⟨_, eg_name, ?_⟩
      refine es_set (ev_op (ev_cb (ea_cons (ev_op (ev_op (ev_op (ev_d rfl) ev_int (rv_intC (wide_mul (a := 31) (b := 16) (by omega) (by omega) (by omega) (by omega) (by omega)))) (ev_op (ev_d rfl) ev_int (rv_intC (by decide))) rv_addI) ev_int rv_addI) ea_nil) rc_int) ev_int (rv_intC (by decide))) ⟨rfl, _, _, rfl, Int.emod_nonneg _ (by omega), Int.emod_lt_of_pos _ (by omega)⟩
    · rintro ρ R ⟨rfl, e4, m, rfl, m0, m1⟩
      refine es_retPair (ev_lc (ei_L (ev_d rfl)) (lcr_filterT (p := fun c : Int => decide ((10 : Int) ^ 18 ≤ c)) (f := fun c => PyData.int c) fun c hc => ⟨_, egw_name, et_test (ev_op (ev_d rfl) (ev_op ev_int ev_int (rv_intC (by unfold CPow; decide))) (rv_bl (g := fun i j : Int => decide (j ≤ i)))), fun _ => ev_d rfl⟩) (small (by rw [List.length_map]; omega))) rfl fun aD aC => ⟨aD, aC, ⟨(cs.filter fun c : Int => decide ((10 : Int) ^ 18 ≤ c)).reverse, m⟩, rfl, ?_, m0, m1, ?_⟩
      · rw [← List.map_reverse]
      · rw [List.length_reverse]
        have := List.length_filter_le (fun c : Int => decide ((10 : Int) ^ 18 ≤ c)) cs
        omega
end
end K24

namespace K24
open PySem PySem.Spec PyProof.Rows L2 StX RZ Fx Fr
section
variable {P : Program} {w : World} {K : PySem.W.Frag} {mg : Str → Option Value} {base : Heap}
structure Zs (K : PySem.W.Frag) (mg : Str → Option Value) where
  a_ZERO : Addr
  g_ZERO : mg "ZERO" = some (.ref a_ZERO)
  z_ZERO : ∀ H : Hp, SqT K H a_ZERO [.int 0, .int 1]
  a_ONE : Addr
  g_ONE : mg "ONE" = some (.ref a_ONE)
  z_ONE : ∀ H : Hp, SqT K H a_ONE [.int 1, .int 1]
  m_gcd : mg "gcd" = some (.builtin "math.gcd")
def inClass : Stmt → List Stmt
  | .ClassDef _ _ _ b _ _ _ _ _ _ _ => b
  | _ => []
abbrev s_Table_init : Stmt := (inClass (topS 17)).getD 0 (.Pass ⟨0, 0, 0, 0⟩)
structure ClsTxt (K : PySem.W.Frag) (mg : Str → Option Value) where
  C : Addr
  f : Addr
  d : FuncData
  cls : Cls K C
  n1 : NoAttr K C "people"
  n2 : NoAttr K C "houses"
  n3 : NoAttr K C "pairs"
  makes : Mk K C f
  gC : mg "Table" = some (.ref C)
  fn : Fun K "__init__" "Table.__init__" s_Table_init f d
  b : Binds K d ["self", "people", "houses", "pairs"] []
abbrev frD (p : Int × Int) : PyData := .tuple [.int p.1, .int p.2]
def Sz (n : Nat) (x : Int) : Prop := x.natAbs < 2 ^ n
theorem Sz.mono {n m : Nat} {x : Int} (h : Sz n x) (l : n ≤ m) : Sz m x := Nat.lt_of_lt_of_le h (Nat.pow_le_pow_right (by omega) l)
theorem Sz.mul {n m : Nat} {x y : Int} (h : Sz n x) (h2 : Sz m y) : Sz (n + m) (x * y) := wide_lt h h2
theorem Sz.add {n : Nat} {x y : Int} (h : Sz n x) (h2 : Sz n y) : Sz (n + 1) (x + y) := by
  unfold Sz at *
  rw [Nat.pow_succ]
  omega
theorem Sz.sub {n : Nat} {x y : Int} (h : Sz n x) (h2 : Sz n y) : Sz (n + 1) (x - y) := by
  unfold Sz at *
  rw [Nat.pow_succ]
  omega
theorem Sz.cmul {n m : Nat} {x y : Int} (h : Sz n x) (h2 : Sz m y) (h0 : 0 < n) (h1 : 0 < m) (hs : n + m ≤ 1000000) : CMulW x y := wide_mul h h2 h0 h1 hs
theorem divOk {i j : Int} (h : j ≠ 0) (hs : Sz 8000 j) : CDivF i j := ⟨h, Nat.lt_trans ((Nat.log2_lt (by omega)).mpr hs) (by decide)⟩
/-- a quotient of so many bits, its bottom above 0 -/
structure Q (n : Nat) (p : Int × Int) : Prop where
  top : Sz n p.1
  bot : Sz n p.2
  pos : 0 < p.2
theorem Q.mono {n m : Nat} {p : Int × Int} (h : Q n p) (l : n ≤ m) : Q m p := ⟨h.top.mono l, h.bot.mono l, h.pos⟩
theorem norm_sz {n : Nat} {t b : Int} (hb : b ≠ 0) (ht : Sz n t) (hbs : Sz n b) : Q n (norm t b) := by
  obtain ⟨l, e⟩ := norm_of (t := t) hb
  obtain ⟨g, x, y, hg, eg, rfl, rfl, hc⟩ := parts (t := t) hb
  have hu : ∀ z : Int, (g * z).natAbs = g.natAbs * z.natAbs := fun z => Int.natAbs_mul g z
  have h1 : x.natAbs ≤ (g * x).natAbs := by rw [hu]; exact Nat.le_mul_of_pos_left _ (by omega)
  have h2 : y.natAbs ≤ (g * y).natAbs := by rw [hu]; exact Nat.le_mul_of_pos_left _ (by omega)
  have hn : (norm (g * x) (g * y)).1.natAbs = x.natAbs ∧ (norm (g * x) (g * y)).2.natAbs = y.natAbs := by
    unfold norm
    rw [eg]
    have d1 : ∀ z : Int, (g * z).fdiv g = z := fun z => Int.mul_fdiv_cancel_left z (by omega)
    have d2 : ∀ z : Int, (g * z).fdiv (-g) = -z := fun z => by
      rw [show g * z = (-g) * (-z) by rw [Int.neg_mul_neg]]
      exact Int.mul_fdiv_cancel_left _ (by omega)
    split
    · exact ⟨by show ((g * x).fdiv (-g)).natAbs = _; rw [d2, Int.natAbs_neg], by show ((g * y).fdiv (-g)).natAbs = _; rw [d2, Int.natAbs_neg]⟩
    · exact ⟨by show ((g * x).fdiv g).natAbs = _; rw [d1], by show ((g * y).fdiv g).natAbs = _; rw [d1]⟩
  exact ⟨by unfold Sz at *; rw [hn.1]; omega, by unfold Sz at *; rw [hn.2]; omega, l.pos⟩
theorem plus_normP {t b : Int} {p : Int × Int} (hb : b ≠ 0) (hp : 0 < p.2) : plusF (norm t b) p = norm (t * p.2 + p.1 * b) (b * p.2) := by
  obtain ⟨l, e⟩ := norm_of (t := t) hb
  have := l.pos
  unfold plusF
  refine norm_eq (mul_ne (by omega) (by omega)) (mul_ne hb (by omega)) ?_
  generalize norm t b = s at *
  grind
theorem total_normP : ∀ (l : List (Int × Int)) (t b : Int), 0 < b → (∀ p ∈ l, 0 < p.2) → l.foldl plusF (norm t b) = norm (crossF l (t, b)).1 (crossF l (t, b)).2 ∧ 0 < (crossF l (t, b)).2
  | [], t, b, hb, _ => ⟨rfl, hb⟩
  | p :: l, t, b, hb, h => by
    have hp := h p (by simp)
    rw [List.foldl_cons, plus_normP (by omega) hp]
    exact total_normP l (t * p.2 + p.1 * b) (b * p.2) (Int.mul_pos hb hp) fun x hx => h x (by simp [hx])
theorem cross_sz : ∀ (l : List (Int × Int)) (s : Int × Int) (n : Nat), Sz n s.1 → Sz n s.2 → (∀ p ∈ l, Sz 70 p.1 ∧ Sz 70 p.2) → Sz (n + 71 * l.length) (crossF l s).1 ∧ Sz (n + 71 * l.length) (crossF l s).2
  | [], s, n, h1, h2, _ => ⟨h1, h2⟩
  | p :: l, s, n, h1, h2, h => by
    obtain ⟨a, b⟩ := h p (by simp)
    have := cross_sz l (s.1 * p.2 + p.1 * s.2, s.2 * p.2) (n + 71) ((h1.mul b).add ((a.mul h2).mono (by omega))) ((h2.mul b).mono (by omega)) fun x hx => h x (by simp [hx])
    have e : n + 71 + 71 * l.length = n + 71 * (p :: l).length := by rw [List.length_cons]; omega
    rw [e] at this
    exact this
def sumF (l : List (Int × Int)) : Int × Int := l.foldl plusF (0, 1)
theorem sum_is {l : List (Int × Int)} (h : ∀ p ∈ l, Q 70 p) : sumF l = norm (crossF l (0, 1)).1 (crossF l (0, 1)).2 ∧ Q (1 + 71 * l.length) (sumF l) := by
  have h1 := total_normP l 0 1 (by decide) fun p hp => (h p hp).pos
  rw [show norm 0 1 = (0, 1) by decide] at h1
  have h2 := cross_sz l (0, 1) 1 (show (0 : Int).natAbs < 2 ^ 1 by decide) (show (1 : Int).natAbs < 2 ^ 1 by decide) fun p hp => ⟨(h p hp).top, (h p hp).bot⟩
  refine ⟨h1.1, ?_⟩
  unfold sumF
  rw [h1.1]
  exact norm_sz (by omega) h2.1 h2.2
/-! ### what is read of a pair -/
theorem f0 {ρ : List En} {R : List Ow} {i : Nat} {p : Int × Int} (h : ρ[i]? = some (.d (frD p))) : Ev K (tOp (rIxA K) (tVar i) (tC (.int 0))) ρ R (.d (.int p.1)) R := ev_op (ev_d h) ev_int (rv_iT rfl)
theorem f1 {ρ : List En} {R : List Ow} {i : Nat} {p : Int × Int} (h : ρ[i]? = some (.d (frD p))) : Ev K (tOp (rIxA K) (tVar i) (tC (.int 1))) ρ R (.d (.int p.2)) R := ev_op (ev_d h) ev_int (rv_iT rfl)
theorem ev_mulS {ρ : List En} {R R1 R2 : List Ow} {ta tb : TE} {x y : Int} {n m : Nat} (ha : Ev K ta ρ R (.d (.int x)) R1) (hb : Ev K tb ρ R1 (.d (.int y)) R2) (hx : Sz n x) (hy : Sz m y) (h0 : 0 < n := by omega) (h1 : 0 < m := by omega) (hs : n + m ≤ 1000000 := by omega) : Ev K (tOp (rI CMulW fun i j => .int (i * j)) ta tb) ρ R (.d (.int (x * y))) R2 := ev_op ha hb (rv_intC (g := fun i j : Int => i * j) (hx.cmul hy h0 h1 hs))
theorem ev_const {ρ : List En} {R : List Ow} {a : Addr} {ns : List Int} (h : ∀ H : Hp, SqT K H a (ns.map V.int)) : Ev K (tC (.ref a)) ρ R (.d (.tuple (ns.map .int))) R := fun R0 F H σ S A Q q => q _ F H (Ex.refl F) A (.tup (h F) (Dts.of_ints ns))
theorem es_brk {ρ : List En} {R : List Ow} {P : Post} (h : P.bk ρ R) : Es K tBreak ρ R P := fun R0 F H σ D S A p => p.bk ρ R σ F H h (Ex.refl F) S A
theorem et_cast {t : TT} {ρ : List En} {R R1 : List Ow} {b b' : Bool} (e : b = b') (h : Et K t ρ R b R1) : Et K t ρ R b' R1 := e ▸ h
def S2 (n : Nat) (f : Int × Int → Int × Int → PyData) : List En → List Ow → En → List Ow → Prop := fun es R e R' => ∃ p q, es = [.d (frD p), .d (frD q)] ∧ R = [] ∧ R' = [] ∧ e = .d (f p q) ∧ Q n p ∧ Q n q
/-! ### fraction and what it serves -/
theorem sc_fraction : FnScope ["top", "bottom", "divisor"] ["top", "bottom"] (defScope s_fraction) := ⟨rfl, rfl, rfl, by decide +kernel, rfl, by decide +kernel, by decide +kernel⟩

def S_fraction : List En → List Ow → En → List Ow → Prop := fun es R e R' => ∃ t b, es = [.d (.int t), .d (.int b)] ∧ R = [] ∧ R' = [] ∧ e = .d (frD (norm t b)) ∧ 0 < b ∧ Sz 8000 t ∧ Sz 8000 b
theorem ok_fraction (T : Txt K mg) (Z : Zs K mg) (B : ClsTxt K mg) : FnOk P w K mg base CX0 2 T.a_fraction T.d_fraction ["top", "bottom"] (spS K S_fraction) := by
  refine fn_es T.f_fraction sc_fraction ?len (fun cdv A outer s H E es R e R' hr hS => ?body)
  case len => rintro _ _ _ _ ⟨t, b, rfl, _⟩; rfl
  case body =>
    obtain ⟨t, b, rfl, rfl, rfl, rfl, hb, ht, hbs⟩ := hS
    refine ⟨_, (pss_cons (ps_if (pt_cmpR (opEqD (K := K) hr) (pv 1) pe_int (nomark _)) (pss_one ps_dead) pss_nil)
      (pss_cons (ps_set (i := 2) sc_fraction.nd rfl (.inl rfl) (pe_callBfun cr_gcd (by rfl) Z.m_gcd (pa_cons (pv 0) (pa_cons (pv 1) pa_nil))))
      (pss_cons (ps_if (pt_cmpR op_lt (pv 1) pe_int (nomark _)) (pss_one (ps_set (i := 2) sc_fraction.nd rfl (.inl rfl) (pe_un un_neg (pv 2)))) pss_nil)
      (pss_one (ps_ret (pe_tup (pa_cons (pe_op opDivF (pv 0) (pv 2)) (pa_cons (pe_op opDivF (pv 1) (pv 2)) pa_nil)))))))), ?_⟩
    have hg : 0 < Nat.gcd t.natAbs b.natAbs := Nat.gcd_pos_of_pos_right _ (by omega)
    have hgs : Sz 8000 ((Nat.gcd t.natAbs b.natAbs : Nat) : Int) := by
      show ((Nat.gcd t.natAbs b.natAbs : Nat) : Int).natAbs < _
      rw [Int.natAbs_natCast]
      exact Nat.lt_of_le_of_lt (Nat.gcd_le_right _ (by omega)) hbs
    have hn : norm t b = (t.fdiv ((Nat.gcd t.natAbs b.natAbs : Nat) : Int), b.fdiv ((Nat.gcd t.natAbs b.natAbs : Nat) : Int)) := by
      unfold norm
      rw [if_neg (by omega)]
    rw [hn]
    have e0 := et_test (ev_op (K := K) (R := []) (ρ := [En.d (.int t), .d (.int b), .u]) (ev_d (i := 1) rfl) (ev_int (i := 0)) rv_eqI)
    refine es_seq (es_if (b := false) (et_cast (decide_eq_false (by omega)) e0) (fun h => nomatch h) (fun _ => es_next ?_))
    refine es_seq (es_set (ev_cb (ea_cons (ev_d rfl) (ea_cons (ev_d rfl) ea_nil)) rc_gcd) ?_)
    generalize Nat.gcd t.natAbs b.natAbs = g at hg hgs
    refine es_seq (es_if (b := false) (et_cast (decide_eq_false (by omega)) (et_test (ev_op (ev_d rfl) (ev_int (i := 0)) (rv_bl (g := fun i j : Int => decide (i < j)))))) (fun h => nomatch h) (fun _ => es_next ?_))
    exact es_ret (ev_tupE (ds := [.int _, .int _]) (ea_cons (ev_op (ev_d rfl) (ev_d rfl) (rv_intC (g := fun i j : Int => i.fdiv j) (divOk (by omega) hgs))) (ea_cons (ev_op (ev_d rfl) (ev_d rfl) (rv_intC (g := fun i j : Int => i.fdiv j) (divOk (by omega) hgs))) ea_nil)) rfl (small (by simp))) ⟨rfl, rfl⟩
theorem sc_whole : FnScope ["number"] ["number"] (defScope s_whole) := ⟨rfl, rfl, rfl, by decide +kernel, rfl, by decide +kernel, by decide +kernel⟩

def S_whole : List En → List Ow → En → List Ow → Prop := fun es R e R' => ∃ t, es = [.d (.int t)] ∧ R = [] ∧ R' = [] ∧ e = .d (frD (t, 1))
theorem ok_whole (T : Txt K mg) (Z : Zs K mg) (B : ClsTxt K mg) : FnOk P w K mg base CX0 1 T.a_whole T.d_whole ["number"] (spS K S_whole) := by
  refine fn_es T.f_whole sc_whole ?len (fun cdv A outer s H E es R e R' hr hS => ?body)
  case len => rintro _ _ _ _ ⟨t, rfl, _⟩; rfl
  case body =>
    obtain ⟨t, rfl, rfl, rfl, rfl⟩ := hS
    refine ⟨_, (pss_one (ps_ret (pe_tup (pa_cons (pv 0) (pa_cons pe_int pa_nil))))), ?_⟩
    exact es_ret (ev_tupE (ds := [.int t, .int 1]) (ea_cons (ev_d rfl) (ea_cons ev_int ea_nil)) rfl (small (by simp))) ⟨rfl, rfl⟩
def S_plus := S2 3000 fun p q => frD (plusF p q)
def S_times := S2 3000 fun p q => frD (timesF p q)
def S_minus := S2 3000 fun p q => frD (minusF p q)
theorem sc_plus : FnScope ["one", "other"] ["one", "other"] (defScope s_plus) := ⟨rfl, rfl, rfl, by decide +kernel, rfl, by decide +kernel, by decide +kernel⟩

theorem ok_plus (T : Txt K mg) (Z : Zs K mg) (B : ClsTxt K mg) : FnOk P w K mg base CX0 3 T.a_plus T.d_plus ["one", "other"] (spS K S_plus) := by
  refine fn_es T.f_plus sc_plus ?len (fun cdv A outer s H E es R e R' hr hS => ?body)
  case len => rintro _ _ _ _ ⟨p, q, rfl, _⟩; rfl
  case body =>
    obtain ⟨p, q, rfl, rfl, rfl, rfl, hp, hq⟩ := hS
    refine ⟨_, (pss_one (ps_ret (pe_call (ok_fraction T Z B) (hr.mono (by decide)) (by rfl) T.g_fraction T.f_fraction.kp T.b_fraction .nil pass0 (pa_cons (pe_op (opAdd (K := K)) (pe_op opMul (pe_ix (ixAny (K := K)) (pv 0) pe_int (fun _ _ => rfl)) (pe_ix (ixAny (K := K)) (pv 1) pe_int (fun _ _ => rfl))) (pe_op opMul (pe_ix (ixAny (K := K)) (pv 1) pe_int (fun _ _ => rfl)) (pe_ix (ixAny (K := K)) (pv 0) pe_int (fun _ _ => rfl)))) (pa_cons (pe_op opMul (pe_ix (ixAny (K := K)) (pv 0) pe_int (fun _ _ => rfl)) (pe_ix (ixAny (K := K)) (pv 1) pe_int (fun _ _ => rfl))) pa_nil))))), ?_⟩
    exact es_ret (ev_callP ⟨_, _, rfl, rfl, rfl, rfl, Int.mul_pos hp.pos hq.pos, ((hp.top.mul hq.bot).add (hq.top.mul hp.bot)).mono (by omega), (hp.bot.mul hq.bot).mono (by omega)⟩ (ea_cons (ev_op (ev_mulS (f0 rfl) (f1 rfl) hp.top hq.bot) (ev_mulS (f0 rfl) (f1 rfl) hq.top hp.bot) rv_addI) (ea_cons (ev_mulS (f1 rfl) (f1 rfl) hp.bot hq.bot) ea_nil))) ⟨rfl, rfl⟩
theorem sc_times : FnScope ["one", "other"] ["one", "other"] (defScope s_times) := ⟨rfl, rfl, rfl, by decide +kernel, rfl, by decide +kernel, by decide +kernel⟩

theorem ok_times (T : Txt K mg) (Z : Zs K mg) (B : ClsTxt K mg) : FnOk P w K mg base CX0 3 T.a_times T.d_times ["one", "other"] (spS K S_times) := by
  refine fn_es T.f_times sc_times ?len (fun cdv A outer s H E es R e R' hr hS => ?body)
  case len => rintro _ _ _ _ ⟨p, q, rfl, _⟩; rfl
  case body =>
    obtain ⟨p, q, rfl, rfl, rfl, rfl, hp, hq⟩ := hS
    refine ⟨_, (pss_one (ps_ret (pe_call (ok_fraction T Z B) (hr.mono (by decide)) (by rfl) T.g_fraction T.f_fraction.kp T.b_fraction .nil pass0 (pa_cons (pe_op opMul (pe_ix (ixAny (K := K)) (pv 0) pe_int (fun _ _ => rfl)) (pe_ix (ixAny (K := K)) (pv 1) pe_int (fun _ _ => rfl))) (pa_cons (pe_op opMul (pe_ix (ixAny (K := K)) (pv 0) pe_int (fun _ _ => rfl)) (pe_ix (ixAny (K := K)) (pv 1) pe_int (fun _ _ => rfl))) pa_nil))))), ?_⟩
    exact es_ret (ev_callP ⟨_, _, rfl, rfl, rfl, rfl, Int.mul_pos hp.pos hq.pos, (hp.top.mul hq.top).mono (by omega), (hp.bot.mul hq.bot).mono (by omega)⟩ (ea_cons (ev_mulS (f0 rfl) (f0 rfl) hp.top hq.top) (ea_cons (ev_mulS (f1 rfl) (f1 rfl) hp.bot hq.bot) ea_nil))) ⟨rfl, rfl⟩
theorem sc_minus : FnScope ["one", "other"] ["one", "other"] (defScope s_minus) := ⟨rfl, rfl, rfl, by decide +kernel, rfl, by decide +kernel, by decide +kernel⟩

theorem ok_minus (T : Txt K mg) (Z : Zs K mg) (B : ClsTxt K mg) : FnOk P w K mg base CX0 3 T.a_minus T.d_minus ["one", "other"] (spS K S_minus) := by
  refine fn_es T.f_minus sc_minus ?len (fun cdv A outer s H E es R e R' hr hS => ?body)
  case len => rintro _ _ _ _ ⟨p, q, rfl, _⟩; rfl
  case body =>
    obtain ⟨p, q, rfl, rfl, rfl, rfl, hp, hq⟩ := hS
    refine ⟨_, (pss_one (ps_ret (pe_call (ok_fraction T Z B) (hr.mono (by decide)) (by rfl) T.g_fraction T.f_fraction.kp T.b_fraction .nil pass0 (pa_cons (pe_op op_sub (pe_op opMul (pe_ix (ixAny (K := K)) (pv 0) pe_int (fun _ _ => rfl)) (pe_ix (ixAny (K := K)) (pv 1) pe_int (fun _ _ => rfl))) (pe_op opMul (pe_ix (ixAny (K := K)) (pv 1) pe_int (fun _ _ => rfl)) (pe_ix (ixAny (K := K)) (pv 0) pe_int (fun _ _ => rfl)))) (pa_cons (pe_op opMul (pe_ix (ixAny (K := K)) (pv 0) pe_int (fun _ _ => rfl)) (pe_ix (ixAny (K := K)) (pv 1) pe_int (fun _ _ => rfl))) pa_nil))))), ?_⟩
    exact es_ret (ev_callP ⟨_, _, rfl, rfl, rfl, rfl, Int.mul_pos hp.pos hq.pos, ((hp.top.mul hq.bot).sub (hq.top.mul hp.bot)).mono (by omega), (hp.bot.mul hq.bot).mono (by omega)⟩ (ea_cons (ev_op (ev_mulS (f0 rfl) (f1 rfl) hp.top hq.bot) (ev_mulS (f0 rfl) (f1 rfl) hq.top hp.bot) (rv_int (g := fun i j : Int => i - j))) (ea_cons (ev_mulS (f1 rfl) (f1 rfl) hp.bot hq.bot) ea_nil))) ⟨rfl, rfl⟩
end
end K24

namespace K24
open PySem PySem.Spec PyProof.Rows L2 StX RZ Fx Fr
section
variable {P : Program} {w : World} {K : PySem.W.Frag} {mg : Str → Option Value} {base : Heap}
theorem get_fr {l : List (Int × Int)} {i : Nat} {d : PyData} (h : (l.map frD)[i]? = some d) : ∃ p, l[i]? = some p ∧ p ∈ l ∧ d = frD p := by
  rw [List.getElem?_map] at h
  cases e : l[i]? with
  | none => rw [e] at h; cases h
  | some p => rw [e] at h; exact ⟨p, rfl, List.mem_of_getElem? e, (Option.some.inj h).symm⟩
theorem sum_take {l : List (Int × Int)} {i : Nat} {p : Int × Int} (h : l[i]? = some p) : sumF (l.take (i + 1)) = plusF (sumF (l.take i)) p := by
  unfold sumF
  rw [List.take_succ, h, Option.toList_some, List.foldl_append, List.foldl_cons, List.foldl_nil]
theorem sum_q {l : List (Int × Int)} (h : ∀ p ∈ l, Q 70 p) (hl : l.length ≤ 40) (i : Nat) : Q 3000 (sumF (l.take i)) := by
  have := (sum_is (l := l.take i) fun p hp => h p (List.mem_of_mem_take hp)).2
  exact this.mono (by rw [List.length_take]; omega)
theorem sc_total_of : FnScope ["some", "total", "one"] ["some"] (defScope s_total_of) := ⟨rfl, rfl, rfl, by decide +kernel, rfl, by decide +kernel, by decide +kernel⟩

theorem ei_row {k : Bool} {ρ : List En} {R R1 : List Ow} {te : TE} {xs : List PyData} (h : Ev K te ρ R (.d (rowD k xs)) R1) : Ei K (iAny K te) ρ R xs R1 := by
  cases k with
  | true => exact ei_T h
  | false => exact ei_L h
def S_total_of : List En → List Ow → En → List Ow → Prop := fun es R e R' => ∃ (k : Bool) (l : List (Int × Int)), es = [.d (rowD k (l.map frD))] ∧ R = [] ∧ R' = [] ∧ e = .d (frD (sumF l)) ∧ l.length ≤ 40 ∧ (∀ p ∈ l, Q 70 p)
theorem ok_total_of (T : Txt K mg) (Z : Zs K mg) (B : ClsTxt K mg) : FnOk P w K mg base CX0 4 T.a_total_of T.d_total_of ["some"] (spS K S_total_of) := by
  refine fn_es T.f_total_of sc_total_of ?len (fun cdv A outer s H E es R e R' hr hS => ?body)
  case len => rintro _ _ _ _ ⟨k, l, rfl, _⟩; rfl
  case body =>
    obtain ⟨k, l, rfl, rfl, rfl, rfl, hl, hp⟩ := hS
    refine ⟨_, (pss_cons (ps_set (i := 1) sc_total_of.nd rfl (.inl rfl) (pe_glob (v := .ref Z.a_ZERO) (by rfl) Z.g_ZERO rfl))
      (pss_cons (ps_for PassesOwn.never rfl (piAny (K := K) (pv 0)) (pg_name (i := 2) sc_total_of.nd rfl (.inl rfl)) (pss_one (ps_set (i := 1) sc_total_of.nd rfl (.inl rfl) (pe_call (ok_plus T Z B) (hr.mono (by decide)) (by rfl) T.g_plus T.f_plus.kp T.b_plus .nil pass0 (pa_cons (pv 1) (pa_cons (pv 2) pa_nil))))))
      (pss_one (ps_ret (pv 1))))), ?_⟩
    refine es_seq (es_set (ev_const (ns := [0, 1]) Z.z_ZERO) ?_)
    refine es_seq (es_for (ei_row (ev_d rfl)) (fun i ρ R => R = [] ∧ ∃ e2, ρ = [.d (rowD k (l.map frD)), .d (frD (sumF (l.take i))), e2]) ⟨rfl, _, rfl⟩ ?_ ?_)
    · rintro i dx ρ R hdx ⟨rfl, e2, rfl⟩
      obtain ⟨p, hpi, hm, rfl⟩ := get_fr hdx
      rw [sum_take hpi]
      exact ⟨_, eg_name, es_set (ev_callP ⟨_, p, rfl, rfl, rfl, rfl, sum_q hp hl i, (hp p hm).mono (by omega)⟩ (ea_cons (ev_d rfl) (ea_cons (ev_d rfl) ea_nil))) ⟨rfl, .d (frD p), rfl⟩⟩
    · rintro ρ R ⟨rfl, e2, rfl⟩
      rw [List.length_map, List.take_length]
      exact es_ret (ev_d rfl) ⟨rfl, rfl⟩
theorem sc__law_common : FnScope ["one", "other", "step"] ["one", "other"] (defScope s__law_common) := ⟨rfl, rfl, rfl, by decide +kernel, rfl, by decide +kernel, by decide +kernel⟩

def S__law_common : List En → List Ow → En → List Ow → Prop := fun es R e R' => ∃ a b : Int, es = [.d (.int a), .d (.int b)] ∧ R = [] ∧ R' = [] ∧ e = .d (.int ((Nat.gcd a.natAbs b.natAbs : Nat) : Int)) ∧ Sz 4400 b
theorem euc_one : ∀ (k a b : Nat), euc (k + 1) a b = if b = 0 then a else euc k b (a % b) := fun k a b => rfl
theorem ok__law_common (T : Txt K mg) (Z : Zs K mg) (B : ClsTxt K mg) : FnOk P w K mg base CX0 1 T.a__law_common T.d__law_common ["one", "other"] (spS K S__law_common) := by
  refine fn_es T.f__law_common sc__law_common ?len (fun cdv A outer s H E es R e R' hr hS => ?body)
  case len => rintro _ _ _ _ ⟨a, b, rfl, _⟩; rfl
  case body =>
    obtain ⟨a, b, rfl, rfl, rfl, rfl, hb⟩ := hS
    refine ⟨_, (pss_cons (ps_par (i := 0) (j := 1) rfl sc__law_common.nd rfl rfl (by decide) rfl rfl (pa_cons (pe_callB callAbs (by rfl) T.n_abs (by decide +kernel) (pa_cons (pe_callTy callInt (by rfl) T.n_int (by decide +kernel) (pa_cons (pv 0) pa_nil)) pa_nil)) (pa_cons (pe_callB callAbs (by rfl) T.n_abs (by decide +kernel) (pa_cons (pe_callTy callInt (by rfl) T.n_int (by decide +kernel) (pa_cons (pv 1) pa_nil)) pa_nil)) pa_nil)) rfl)
      (pss_cons (ps_for PassesOwn.never rfl (pi_range1 rfl T.n_range (pa_cons pe_int pa_nil)) (pg_name (i := 2) sc__law_common.nd rfl (.inl rfl)) (pss_cons (ps_if (pt_cmpR (opEqD (K := K) hr) (pv 1) pe_int (nomark _)) (pss_one ps_break) pss_nil)
      (pss_one (ps_par (i := 0) (j := 1) rfl sc__law_common.nd rfl rfl (by decide) rfl rfl (pa_cons (pv 1) (pa_cons (pe_op op_mod (pe_callTy callInt (by rfl) T.n_int (by decide +kernel) (pa_cons (pv 0) pa_nil)) (pv 1)) pa_nil)) rfl))))
      (pss_one (ps_ret (pv 0))))), ?_⟩
    have ab : ∀ x : Int, (if x < 0 then -x else x) = ((x.natAbs : Nat) : Int) := fun x => by split <;> omega
    refine es_seq (es_par (e1 := .d (.int (a.natAbs : Int))) (e2 := .d (.int (b.natAbs : Int))) (ea_cons (ev_cast (congrArg PyData.int (ab a)) (ev_cb (ea_cons (ev_cb (ea_cons (ev_d rfl) ea_nil) rc_int) ea_nil) rc_abs)) (ea_cons (ev_cast (congrArg PyData.int (ab b)) (ev_cb (ea_cons (ev_cb (ea_cons (ev_d rfl) ea_nil) rc_int) ea_nil) rc_abs)) ea_nil)) ?_)
    have hb' : b.natAbs < 2 ^ 4400 := hb
    generalize a.natAbs = x at *
    generalize b.natAbs = y at *
    have g0 : euc 9000 x y = Nat.gcd x y := euc_gcd 4400 9000 x y hb' (by omega)
    rw [← g0]
    refine es_seq (es_for (ei_rngN (n := 9000) (ea_cons ev_int ea_nil) (by omega)) (fun i ρ R => R = [] ∧ ∃ (u v : Nat), ∃ e2, ρ = [.d (.int (u : Int)), .d (.int (v : Int)), e2] ∧ euc (9000 - i) u v = euc 9000 x y) ⟨rfl, x, y, _, rfl, rfl⟩ ?_ ?_)
    · rintro i d ρ R hd ⟨rfl, u, v, e2, rfl, he⟩
      have hi : i < 9000 := by have := (List.getElem?_eq_some_iff.mp hd).1; simpa using this
      have hs : 9000 - i = (9000 - (i + 1)) + 1 := by omega
      rw [hs, euc_one] at he
      refine ⟨_, eg_name, ?_⟩
      have e0 := et_test (ev_op (K := K) (R := []) (ρ := [En.d (.int (u : Int)), .d (.int (v : Int)), .d d]) (ev_d (i := 1) rfl) (ev_int (i := 0)) rv_eqI)
      by_cases h0 : v = 0
      · rw [if_pos h0] at he
        refine es_seq (es_if (b := true) (et_cast (decide_eq_true (by omega)) e0) (fun _ => es_brk ?_) (fun h => nomatch h))
        rw [← he]
        exact es_ret (ev_d rfl) ⟨rfl, rfl⟩
      · rw [if_neg h0] at he
        refine es_seq (es_if (b := false) (et_cast (decide_eq_false (by omega)) e0) (fun h => nomatch h) (fun _ => es_next ?_))
        exact es_par (e1 := .d (.int (v : Int))) (e2 := .d (.int ((u % v : Nat) : Int))) (ea_cons (ev_d rfl) (ea_cons (ev_cast (by rw [Int.natCast_emod]) (ev_op (ev_cb (ea_cons (ev_d rfl) ea_nil) rc_int) (ev_d rfl) (rv_intC (g := fun i j : Int => i % j) (show (0 : Int) < (v : Int) by omega)))) ea_nil)) ⟨rfl, v, u % v, _, rfl, he⟩
    · rintro ρ R ⟨rfl, u, v, e2, rfl, he⟩
      rw [List.length_map, List.length_range] at he
      rw [← he]
      exact es_ret (ev_d rfl) ⟨rfl, rfl⟩
theorem sc__law_low : FnScope ["top", "bottom", "common"] ["top", "bottom"] (defScope s__law_low) := ⟨rfl, rfl, rfl, by decide +kernel, rfl, by decide +kernel, by decide +kernel⟩

def S__law_low : List En → List Ow → En → List Ow → Prop := fun es R e R' => ∃ t b : Int, es = [.d (.int t), .d (.int b)] ∧ R = [] ∧ R' = [] ∧ e = .d (frD (norm t b)) ∧ 0 < b ∧ Sz 4400 b
theorem ok__law_low (T : Txt K mg) (Z : Zs K mg) (B : ClsTxt K mg) : FnOk P w K mg base CX0 2 T.a__law_low T.d__law_low ["top", "bottom"] (spS K S__law_low) := by
  refine fn_es T.f__law_low sc__law_low ?len (fun cdv A outer s H E es R e R' hr hS => ?body)
  case len => rintro _ _ _ _ ⟨t, b, rfl, _⟩; rfl
  case body =>
    obtain ⟨t, b, rfl, rfl, rfl, rfl, h0, hb⟩ := hS
    refine ⟨_, (pss_cons (ps_set (i := 2) sc__law_low.nd rfl (.inl rfl) (pe_call (ok__law_common T Z B) (hr.mono (by decide)) (by rfl) T.g__law_common T.f__law_common.kp T.b__law_common .nil pass0 (pa_cons (pv 0) (pa_cons (pv 1) pa_nil))))
      (pss_one (ps_ret (pe_tup (pa_cons (pe_op opDiv (pe_callTy callInt (by rfl) T.n_int (by decide +kernel) (pa_cons (pv 0) pa_nil)) (pv 2)) (pa_cons (pe_op opDiv (pe_callTy callInt (by rfl) T.n_int (by decide +kernel) (pa_cons (pv 1) pa_nil)) (pv 2)) pa_nil)))))), ?_⟩
    rw [← lowF_norm h0]
    have hg : 0 < Nat.gcd t.natAbs b.natAbs := Nat.gcd_pos_of_pos_right _ (by omega)
    have hgs : Sz 4400 ((Nat.gcd t.natAbs b.natAbs : Nat) : Int) := by
      show ((Nat.gcd t.natAbs b.natAbs : Nat) : Int).natAbs < _
      rw [Int.natAbs_natCast]
      exact Nat.lt_of_le_of_lt (Nat.gcd_le_right _ (by omega)) hb
    refine es_seq (es_set (ev_callP ⟨t, b, rfl, rfl, rfl, rfl, hb⟩ (ea_cons (ev_d rfl) (ea_cons (ev_d rfl) ea_nil))) ?_)
    unfold lowF
    generalize Nat.gcd t.natAbs b.natAbs = g at hg hgs
    have dv : ∀ i : Int, CDivW i (g : Int) := fun i => wide_div (by omega) hgs (by omega) (by omega)
    exact es_ret (ev_tupE (ds := [.int (t / (g : Int)), .int (b / (g : Int))]) (ea_cons (ev_op (ev_cb (ea_cons (ev_d rfl) ea_nil) rc_int) (ev_d rfl) (rv_intC (g := fun i j : Int => i / j) (dv t))) (ea_cons (ev_op (ev_cb (ea_cons (ev_d rfl) ea_nil) rc_int) (ev_d rfl) (rv_intC (g := fun i j : Int => i / j) (dv b))) ea_nil)) rfl (small (by simp))) ⟨rfl, rfl⟩
theorem sc__law_plus : FnScope ["one", "other"] ["one", "other"] (defScope s__law_plus) := ⟨rfl, rfl, rfl, by decide +kernel, rfl, by decide +kernel, by decide +kernel⟩

def S__law_plus := S2 2000 fun p q => frD (plusF p q)
theorem ok__law_plus (T : Txt K mg) (Z : Zs K mg) (B : ClsTxt K mg) : FnOk P w K mg base CX0 3 T.a__law_plus T.d__law_plus ["one", "other"] (spS K S__law_plus) := by
  refine fn_es T.f__law_plus sc__law_plus ?len (fun cdv A outer s H E es R e R' hr hS => ?body)
  case len => rintro _ _ _ _ ⟨p, q, rfl, _⟩; rfl
  case body =>
    obtain ⟨p, q, rfl, rfl, rfl, rfl, hp, hq⟩ := hS
    refine ⟨_, (pss_one (ps_ret (pe_call (ok__law_low T Z B) (hr.mono (by decide)) (by rfl) T.g__law_low T.f__law_low.kp T.b__law_low .nil pass0 (pa_cons (pe_op (opAdd (K := K)) (pe_op opMul (pe_ix (ixAny (K := K)) (pv 0) pe_int (fun _ _ => rfl)) (pe_ix (ixAny (K := K)) (pv 1) pe_int (fun _ _ => rfl))) (pe_op opMul (pe_ix (ixAny (K := K)) (pv 1) pe_int (fun _ _ => rfl)) (pe_ix (ixAny (K := K)) (pv 0) pe_int (fun _ _ => rfl)))) (pa_cons (pe_op opMul (pe_ix (ixAny (K := K)) (pv 0) pe_int (fun _ _ => rfl)) (pe_ix (ixAny (K := K)) (pv 1) pe_int (fun _ _ => rfl))) pa_nil))))), ?_⟩
    exact es_ret (ev_callP ⟨_, _, rfl, rfl, rfl, rfl, Int.mul_pos hp.pos hq.pos, (hp.bot.mul hq.bot).mono (by omega)⟩ (ea_cons (ev_op (ev_mulS (f0 rfl) (f1 rfl) hp.top hq.bot) (ev_mulS (f0 rfl) (f1 rfl) hq.top hp.bot) rv_addI) (ea_cons (ev_mulS (f1 rfl) (f1 rfl) hp.bot hq.bot) ea_nil))) ⟨rfl, rfl⟩
theorem sc__law_sum : FnScope ["some", "found", "one"] ["some"] (defScope s__law_sum) := ⟨rfl, rfl, rfl, by decide +kernel, rfl, by decide +kernel, by decide +kernel⟩

theorem sums_q {l : List (Int × Int)} (hl : l.length ≤ 20) (h : ∀ p ∈ l, Q 70 p) : (∀ i, Q 2000 (sumF (l.take i))) ∧ ∀ p ∈ l, Q 2000 p := ⟨fun i => by
  have := (sum_is (l := l.take i) fun p hp => h p (List.mem_of_mem_take hp)).2
  exact this.mono (by rw [List.length_take]; omega), fun p hp => (h p hp).mono (by omega)⟩
def S__law_sum : List En → List Ow → En → List Ow → Prop := fun es R e R' => ∃ (k : Bool) (l : List (Int × Int)), es = [.d (rowD k (l.map frD))] ∧ R = [] ∧ R' = [] ∧ e = .d (frD (sumF l)) ∧ (∀ i, Q 2000 (sumF (l.take i))) ∧ (∀ p ∈ l, Q 2000 p)
theorem ok__law_sum (T : Txt K mg) (Z : Zs K mg) (B : ClsTxt K mg) : FnOk P w K mg base CX0 4 T.a__law_sum T.d__law_sum ["some"] (spS K S__law_sum) := by
  refine fn_es T.f__law_sum sc__law_sum ?len (fun cdv A outer s H E es R e R' hr hS => ?body)
  case len => rintro _ _ _ _ ⟨k, l, rfl, _⟩; rfl
  case body =>
    obtain ⟨k, l, rfl, rfl, rfl, rfl, hq, hp⟩ := hS
    refine ⟨_, (pss_cons (ps_set (i := 1) sc__law_sum.nd rfl (.inl rfl) (pe_tup (pa_cons pe_int (pa_cons pe_int pa_nil))))
      (pss_cons (ps_for PassesOwn.never rfl (piAny (K := K) (pv 0)) (pg_name (i := 2) sc__law_sum.nd rfl (.inl rfl)) (pss_one (ps_set (i := 1) sc__law_sum.nd rfl (.inl rfl) (pe_call (ok__law_plus T Z B) (hr.mono (by decide)) (by rfl) T.g__law_plus T.f__law_plus.kp T.b__law_plus .nil pass0 (pa_cons (pv 1) (pa_cons (pv 2) pa_nil))))))
      (pss_one (ps_ret (pv 1))))), ?_⟩
    refine es_seq (es_set (ev_tupE (ds := [.int 0, .int 1]) (ea_cons ev_int (ea_cons ev_int ea_nil)) rfl (small (by simp))) ?_)
    refine es_seq (es_for (ei_row (ev_d rfl)) (fun i ρ R => R = [] ∧ ∃ e2, ρ = [.d (rowD k (l.map frD)), .d (frD (sumF (l.take i))), e2]) ⟨rfl, _, rfl⟩ ?_ ?_)
    · rintro i dx ρ R hdx ⟨rfl, e2, rfl⟩
      obtain ⟨p, hpi, hm, rfl⟩ := get_fr hdx
      rw [sum_take hpi]
      exact ⟨_, eg_name, es_set (ev_callP ⟨_, p, rfl, rfl, rfl, rfl, hq i, (hp p hm).mono (by omega)⟩ (ea_cons (ev_d rfl) (ea_cons (ev_d rfl) ea_nil))) ⟨rfl, .d (frD p), rfl⟩⟩
    · rintro ρ R ⟨rfl, e2, rfl⟩
      rw [List.length_map, List.take_length]
      exact es_ret (ev_d rfl) ⟨rfl, rfl⟩
/-! ### two sums of like things -/
theorem prs_zip {α β : Type} (f : α → PyData) (g : β → PyData) : ∀ (xs : List α) (ys : List β), prs (xs.map f) (ys.map g) = (xs.zip ys).map fun z => .tuple [f z.1, g z.2]
  | [], _ => by simp [prs]
  | _ :: _, [] => by simp [prs]
  | x :: xs, y :: ys => by
    have := prs_zip f g xs ys
    unfold prs at this ⊢
    simp only [List.map_cons, List.zipWith_cons_cons, List.zip_cons_cons, this]
theorem cross_like {α : Type} {f g : α → Int × Int} : ∀ (l : List α) (s s' : Int × Int), (∀ a ∈ l, (f a).1 * (g a).2 = (g a).1 * (f a).2) → s.1 * s'.2 = s'.1 * s.2 → (crossF (l.map f) s).1 * (crossF (l.map g) s').2 = (crossF (l.map g) s').1 * (crossF (l.map f) s).2
  | [], s, s', _, h => h
  | a :: l, s, s', hl, h => by
    have ha := hl a (by simp)
    refine cross_like l (s.1 * (f a).2 + (f a).1 * s.2, s.2 * (f a).2) (s'.1 * (g a).2 + (g a).1 * s'.2, s'.2 * (g a).2) (fun x hx => hl x (by simp [hx])) ?_
    show (s.1 * (f a).2 + (f a).1 * s.2) * (s'.2 * (g a).2) = (s'.1 * (g a).2 + (g a).1 * s'.2) * (s.2 * (f a).2)
    grind
theorem sum_like {α : Type} {f g : α → Int × Int} {l : List α} (h : ∀ a ∈ l, (f a).1 * (g a).2 = (g a).1 * (f a).2) (hf : ∀ a ∈ l, 0 < (f a).2) (hg : ∀ a ∈ l, 0 < (g a).2) : sumF (l.map f) = sumF (l.map g) := by
  have h1 := total_normP (l.map f) 0 1 (by decide) fun p hp => by obtain ⟨a, ha, rfl⟩ := List.mem_map.mp hp; exact hf a ha
  have h2 := total_normP (l.map g) 0 1 (by decide) fun p hp => by obtain ⟨a, ha, rfl⟩ := List.mem_map.mp hp; exact hg a ha
  rw [show norm 0 1 = (0, 1) by decide] at h1 h2
  unfold sumF
  rw [h1.1, h2.1]
  exact norm_eq (by omega) (by omega) (cross_like l (0, 1) (0, 1) h rfl)
theorem sum_perm {l m : List (Int × Int)} (h : l.Perm m) (hp : ∀ p ∈ l, 0 < p.2) : sumF l = sumF m := by
  have h1 := total_normP l 0 1 (by decide) hp
  have h2 := total_normP m 0 1 (by decide) fun p hm => hp p (h.mem_iff.mpr hm)
  rw [show norm 0 1 = (0, 1) by decide] at h1 h2
  unfold sumF
  rw [h1.1, h2.1]
  have hc : crossF l (0, 1) = crossF m (0, 1) := by
    unfold crossF
    refine List.Perm.foldl_eq' h (fun x _ y _ z => ?_) _
    refine Prod.ext ?_ ?_
    · show (z.1 * x.2 + x.1 * z.2) * y.2 + y.1 * (z.2 * x.2) = (z.1 * y.2 + y.1 * z.2) * x.2 + x.1 * (z.2 * y.2)
      grind
    · show z.2 * x.2 * y.2 = z.2 * y.2 * x.2
      grind
  rw [hc]
/-! ### what shares cost -/
def costL (zs : List (Int × (Int × Int))) : List (Int × Int) := zs.map fun z => (z.1 * z.2.1, z.2.2)
def costF (zs : List (Int × (Int × Int))) : Int × Int := sumF (costL zs)
def CostOk (zs : List (Int × (Int × Int))) : Prop := zs.length ≤ 12 ∧ ∀ z ∈ zs, Sz 12 z.1 ∧ Q 40 z.2
theorem cost_q {zs : List (Int × (Int × Int))} (h : CostOk zs) : ∀ p ∈ costL zs, Q 70 p := fun p hp => by
  obtain ⟨z, hz, rfl⟩ := List.mem_map.mp hp
  obtain ⟨h1, h2⟩ := h.2 z hz
  exact ⟨(h1.mul h2.top).mono (by omega), h2.bot.mono (by omega), h2.pos⟩
def S_cost : List En → List Ow → En → List Ow → Prop := fun es R e R' => ∃ (ps : List Int) (ss : List (Int × Int)), es = [.d (.tuple (ps.map .int)), .d (.tuple (ss.map frD))] ∧ R = [] ∧ R' = [] ∧ e = .d (frD (costF (ps.zip ss))) ∧ CostOk (ps.zip ss)
def S_cost_of := S_cost
def S__law_cost := S_cost
theorem sc_cost_of : FnScope ["prices", "shares", "price", "share"] ["prices", "shares"] (defScope s_cost_of) := ⟨rfl, rfl, rfl, by decide +kernel, rfl, by decide +kernel, by decide +kernel⟩

theorem ok_cost_of (T : Txt K mg) (Z : Zs K mg) (B : ClsTxt K mg) : FnOk P w K mg base CX0 5 T.a_cost_of T.d_cost_of ["prices", "shares"] (spS K S_cost_of) := by
  refine fn_es T.f_cost_of sc_cost_of ?len (fun cdv A outer s H E es R e R' hr hS => ?body)
  case len => rintro _ _ _ _ ⟨ps, ss, rfl, _⟩; rfl
  case body =>
    obtain ⟨ps, ss, rfl, rfl, rfl, rfl, h⟩ := hS
    refine ⟨_, (pss_one (ps_ret (pe_call (ok_total_of T Z B) (hr.mono (by decide)) (by rfl) T.g_total_of T.f_total_of.kp T.b_total_of .nil pass0 (pa_cons (pe_lc (own := [("price", 2), ("share", 3)]) (g := gTup K 2 (gCons (gName 2) (gCons (gName 3) gNil))) rfl sc_cost_of.nd (piZip (K := K) (by rfl) T.n_zip (pa_cons (pv 0) (pa_cons (pv 1) pa_nil))) (blkOk_by (N := ["prices", "shares", "price", "share"]) (sc := defScope s_cost_of) (by decide +kernel)) (fun _ _ _ _ _ => (pgTup (K := K) rfl (pgs_cons (pg_name (i := 2) sc_cost_of.nd rfl (by first | exact .inl rfl | exact .inr rfl)) (pgs_cons (pg_name (i := 3) sc_cost_of.nd rfl (by first | exact .inl rfl | exact .inr rfl)) pgs_nil)))) (fun _ _ _ _ _ => pts_nil) (fun _ _ _ _ _ => (pe_call (ok_times T Z B) (hr.mono (by decide)) (by rfl) T.g_times T.f_times.kp T.b_times .nil pass0 (pa_cons (pe_call (ok_whole T Z B) (hr.mono (by decide)) (by rfl) T.g_whole T.f_whole.kp T.b_whole .nil pass0 (pa_cons (pv 2) pa_nil)) (pa_cons (pv 3) pa_nil))))) pa_nil)))), ?_⟩
    have h12 := h.1
    have hq : ∀ z ∈ ps.zip ss, Q 60 (timesF (z.1, 1) z.2) := fun z hz => by
      obtain ⟨h1, h2⟩ := h.2 z hz
      have hp := h2.pos
      unfold timesF
      exact norm_sz (by show 1 * z.2.2 ≠ 0; omega) ((h1.mul h2.top).mono (by omega)) (by show Sz 60 (1 * z.2.2); rw [Int.one_mul]; exact h2.bot.mono (by omega))
    have e1 : costF (ps.zip ss) = sumF ((ps.zip ss).map fun z => timesF (z.1, 1) z.2) := by
      unfold costF costL
      refine sum_like (fun z hz => ?_) (fun z hz => (h.2 z hz).2.pos) (fun z hz => (hq z hz).pos)
      have hp := (h.2 z hz).2.pos
      obtain ⟨l, e⟩ := norm_of (t := z.1 * z.2.1) (b := 1 * z.2.2) (by omega)
      have e' : (timesF (z.1, 1) z.2).1 * (1 * z.2.2) = z.1 * z.2.1 * (timesF (z.1, 1) z.2).2 := e
      rw [Int.one_mul] at e'
      exact e'.symm
    rw [e1]
    refine es_ret (ev_callP (Sf := S_total_of) ⟨false, (ps.zip ss).map fun z => timesF (z.1, 1) z.2, rfl, rfl, rfl, rfl, by rw [List.length_map]; omega, fun p hp => ?_⟩ (ea_cons (ev_cast ?d (ev_lc (ei_cast (prs_zip .int frD ps ss) (ei_zipT (ea_cons (ev_d rfl) (ea_cons (ev_d rfl) ea_nil)))) (lcr_mapT (f := fun z : Int × (Int × Int) => frD (timesF (z.1, 1) z.2)) fun z hz => ⟨_, egw_pair, ev_callP (Sf := S_times) ⟨(z.1, 1), z.2, rfl, rfl, rfl, rfl, ⟨(h.2 z hz).1.mono (by omega), by show Sz 3000 1; exact Nat.lt_of_lt_of_le (show (1 : Int).natAbs < 2 ^ 1 by decide) (Nat.pow_le_pow_right (by omega) (by omega)), (show (0 : Int) < 1 by decide)⟩, (h.2 z hz).2.mono (by omega)⟩ (ea_cons (ev_callP ⟨z.1, rfl, rfl, rfl, rfl⟩ (ea_cons (ev_d rfl) ea_nil)) (ea_cons (ev_d rfl) ea_nil))⟩) (small (by rw [List.length_map]; omega)))) ea_nil)) ⟨rfl, rfl⟩
    · obtain ⟨z, hz, rfl⟩ := List.mem_map.mp hp
      exact (hq z hz).mono (by omega)
    case d => rw [List.map_map]; rfl
theorem sc__law_cost : FnScope ["prices", "shares", "price", "share"] ["prices", "shares"] (defScope s__law_cost) := ⟨rfl, rfl, rfl, by decide +kernel, rfl, by decide +kernel, by decide +kernel⟩

theorem ok__law_cost (T : Txt K mg) (Z : Zs K mg) (B : ClsTxt K mg) : FnOk P w K mg base CX0 5 T.a__law_cost T.d__law_cost ["prices", "shares"] (spS K S__law_cost) := by
  refine fn_es T.f__law_cost sc__law_cost ?len (fun cdv A outer s H E es R e R' hr hS => ?body)
  case len => rintro _ _ _ _ ⟨ps, ss, rfl, _⟩; rfl
  case body =>
    obtain ⟨ps, ss, rfl, rfl, rfl, rfl, h⟩ := hS
    refine ⟨_, (pss_one (ps_ret (pe_call (ok__law_sum T Z B) (hr.mono (by decide)) (by rfl) T.g__law_sum T.f__law_sum.kp T.b__law_sum .nil pass0 (pa_cons (pe_lc (own := [("price", 2), ("share", 3)]) (g := gTup K 2 (gCons (gName 2) (gCons (gName 3) gNil))) rfl sc__law_cost.nd (piZip (K := K) (by rfl) T.n_zip (pa_cons (pv 0) (pa_cons (pv 1) pa_nil))) (blkOk_by (N := ["prices", "shares", "price", "share"]) (sc := defScope s__law_cost) (by decide +kernel)) (fun _ _ _ _ _ => (pgTup (K := K) rfl (pgs_cons (pg_name (i := 2) sc__law_cost.nd rfl (by first | exact .inl rfl | exact .inr rfl)) (pgs_cons (pg_name (i := 3) sc__law_cost.nd rfl (by first | exact .inl rfl | exact .inr rfl)) pgs_nil)))) (fun _ _ _ _ _ => pts_nil) (fun _ _ _ _ _ => (pe_tup (pa_cons (pe_op opMul (pv 2) (pe_ix (ixAny (K := K)) (pv 3) pe_int (fun _ _ => rfl))) (pa_cons (pe_ix (ixAny (K := K)) (pv 3) pe_int (fun _ _ => rfl)) pa_nil))))) pa_nil)))), ?_⟩
    have h12 := h.1
    refine es_ret (ev_callP (Sf := S__law_sum) ⟨false, costL (ps.zip ss), rfl, rfl, rfl, rfl, (sums_q (by unfold costL; rw [List.length_map]; omega) (cost_q h)).1, (sums_q (by unfold costL; rw [List.length_map]; omega) (cost_q h)).2⟩ (ea_cons (ev_cast ?d (ev_lc (ei_cast (prs_zip .int frD ps ss) (ei_zipT (ea_cons (ev_d rfl) (ea_cons (ev_d rfl) ea_nil)))) (lcr_mapT (f := fun z : Int × (Int × Int) => frD (z.1 * z.2.1, z.2.2)) fun z hz => ⟨_, egw_pair, ev_tupE (ds := [.int (z.1 * z.2.1), .int z.2.2]) (ea_cons (ev_mulS (ev_d rfl) (f0 rfl) (h.2 z hz).1 (h.2 z hz).2.top) (ea_cons (f1 rfl) ea_nil)) rfl (small (by simp))⟩) (small (by rw [List.length_map]; omega)))) ea_nil)) ⟨rfl, rfl⟩
    case d => unfold costL; rw [List.map_map]; rfl
theorem sc__law_same : FnScope ["told", "due"] ["told", "due"] (defScope s__law_same) := ⟨rfl, rfl, rfl, by decide +kernel, rfl, by decide +kernel, by decide +kernel⟩

def S__law_same : List En → List Ow → En → List Ow → Prop := fun es R e R' => ∃ d, es = [.d d, .d d] ∧ R = [] ∧ R' = [] ∧ e = .d (.bool true) ∧ Sh d 20 900
theorem ok__law_same (T : Txt K mg) (Z : Zs K mg) (B : ClsTxt K mg) : GnOk P w K mg base 1 T.a__law_same T.d__law_same ["told", "due"] (spS K S__law_same) := by
  refine gn_es T.f__law_same sc__law_same ?len (fun cdv A outer s H E es R e R' hr hg hS => ?body)
  case len => rintro _ _ _ _ ⟨d, rfl, _⟩; rfl
  case body =>
    obtain ⟨d, rfl, rfl, rfl, rfl, hd⟩ := hS
    refine ⟨_, (pss_one (ps_ret (pe_cmpR op_eq (pe_callB (call_reprD (K := K) hr hg) (by rfl) T.n_repr (by decide +kernel) (pa_cons (pv 0) pa_nil)) (pe_callB (call_reprD (K := K) hr hg) (by rfl) T.n_repr (by decide +kernel) (pa_cons (pv 1) pa_nil)) (nomark _)))), ?_⟩
    exact es_ret (ev_op (ev_cb (ea_cons (ev_d rfl) ea_nil) (rc_reprS hd)) (ev_cb (ea_cons (ev_d rfl) ea_nil) (rc_reprS hd)) (eq_strT rfl)) ⟨rfl, rfl⟩
end
end K24

namespace K24
open PySem PySem.Spec PyProof.Rows L2 StX RZ Fx Fr
section
variable {P : Program} {w : World} {K : PySem.W.Frag} {mg : Str → Option Value} {base : Heap}
/-! ### names -/
def POOL : List Str := ["a", "b", "ab", "ba", "abc", "m", "zz", "y", "x", "xy", "yx", "n"]
def NmOk (l : List Str) : Prop := l.Nodup ∧ ∀ s ∈ l, s ∈ POOL
theorem pool_nodup : POOL.Nodup := by unfold POOL; decide
theorem shaped_pool {s : Str} (h : s ∈ POOL) : SeqAt.shaped (.str s) = true := by
  have hall : ∀ s ∈ POOL, SeqAt.shaped (.str s) = true := by unfold POOL; decide +kernel
  exact hall s h
theorem sort_map {α : Type} (f : α → PyData) (l : List α) : sortD (l.map f) = (l.mergeSort (PySem.W.dataLe false f)).map f := (List.map_mergeSort (r := PySem.W.dataLe false f) (s := PySem.W.dataLe false fun d : PyData => d) (f := f) (l := l) (fun a _ b _ => rfl)).symm
theorem erase_map {α β : Type} (f : α → β) : ∀ (l : List α) (k : Nat), (l.map f).eraseIdx k = (l.eraseIdx k).map f
  | [], _ => by simp
  | a :: l, 0 => by simp
  | a :: l, k + 1 => by simp [erase_map f l k]
theorem erase_perm {α : Type} : ∀ (l : List α) (k : Nat) (h : k < l.length), (l[k] :: l.eraseIdx k).Perm l
  | a :: l, 0, _ => by simp
  | a :: l, k + 1, h => by
    have := erase_perm l k (by simpa using h)
    simp only [List.getElem_cons_succ, List.eraseIdx_cons_succ]
    exact (List.Perm.swap _ _ _).trans (List.Perm.cons a this)
def N_names : List En → List Ow → (En → List Ow → Prop) → Prop := fun es R Po => ∃ aD aC s, ∃ n : Nat, es = [.o aD, .d (.int (n : Int))] ∧ R = dR aD aC s ∧ StOk s ∧ n ≤ 8 ∧ Po = fun e R' => ∃ l s', e = .g (prX l) ∧ R' = dR aD aC s' ∧ StOk s' ∧ NmOk l ∧ l.length = n
theorem sc__law_names : FnScope ["deal", "many", "pool", "found", "step"] ["deal", "many"] (defScope s__law_names) := ⟨rfl, rfl, rfl, by decide +kernel, rfl, by decide +kernel, by decide +kernel⟩

theorem ok__law_names (T : Txt K mg) (Z : Zs K mg) (B : ClsTxt K mg) : FnOk P w K mg base CX0 2 T.a__law_names T.d__law_names ["deal", "many"] (spN K N_names) := by
  refine fn_esN T.f__law_names sc__law_names ?len (fun cdv A outer s H E es R Po hr hS => ?body)
  case len => rintro _ _ _ ⟨aD, aC, s, n, rfl, _⟩; rfl
  case body =>
    obtain ⟨aD, aC, st, n, rfl, rfl, hok, hn, rfl⟩ := hS
    refine ⟨_, (pss_cons (ps_par (i := 2) (j := 3) rfl sc__law_names.nd rfl rfl (by decide) rfl rfl (pa_cons (pe_lst (pa_cons pe_str (pa_cons pe_str (pa_cons pe_str (pa_cons pe_str (pa_cons pe_str (pa_cons pe_str (pa_cons pe_str (pa_cons pe_str (pa_cons pe_str (pa_cons pe_str (pa_cons pe_str (pa_cons pe_str pa_nil))))))))))))) (pa_cons (pe_lst pa_nil) pa_nil)) rfl)
      (pss_cons (ps_for PassesOwn.never rfl (pi_range1 rfl T.n_range (pa_cons (pv 1) pa_nil)) (pg_name (i := 4) sc__law_names.nd rfl (.inl rfl)) (pss_one (ps_expr (peBm (K := K) PySem.F.slot_list_append PySem.F.type_list_append mt_append (pv 3) (pa_cons (peBm (K := K) PySem.F.slot_list_pop PySem.F.type_list_pop mt_popAt (pv 2) (pa_cons (pe_call (ok__law_any T) (hr.mono (by decide)) (by rfl) T.g__law_any T.f__law_any.kp T.b__law_any .nil pass0 (pa_cons (pv 0) (pa_cons (pe_callB (callLen (K := K)) (by rfl) T.n_len (by decide +kernel) (pa_cons (pv 2) pa_nil)) pa_nil))) pa_nil)) pa_nil)))))
      (pss_one (ps_ret (pe_callTy (callTupX (K := K)) (by rfl) T.n_tuple (by decide +kernel) (pa_cons (pe_callB (callSortD (K := K) hr) (by rfl) T.n_sorted (by decide +kernel) (pa_cons (pv 3) pa_nil)) pa_nil)))))), ?_⟩
    refine es_seq (es_parOO (ds := POOL.map .str) (ea_cons ev_str (ea_cons ev_str (ea_cons ev_str (ea_cons ev_str (ea_cons ev_str (ea_cons ev_str (ea_cons ev_str (ea_cons ev_str (ea_cons ev_str (ea_cons ev_str (ea_cons ev_str (ea_cons ev_str ea_nil)))))))))))) (small (by unfold POOL; decide)) fun pP pF => ?_)
    refine es_seq (es_for (ei_rngN (n := n) (ea_cons (ev_d rfl) ea_nil) (by omega)) (fun i ρ R => ∃ e4 s pool found, ρ = [.o aD, .d (.int (n : Int)), .o pP, .o pF, e4] ∧ R = dR aD aC s ++ [.ls pP (pool.map .str), .ls pF (found.map .str)] ∧ StOk s ∧ found.length = i ∧ (found ++ pool).Perm POOL) ⟨_, st, POOL, [], rfl, rfl, hok, rfl, List.Perm.refl _⟩ ?_ ?_)
    · rintro i d ρ R hd ⟨e4, s, pool, found, rfl, rfl, ok, hf, hp⟩
      have hi : i < n := by have := (List.getElem?_eq_some_iff.mp hd).1; simpa using this
      have hpl : pool.length = 12 - i := by
        have := hp.length_eq
        rw [List.length_append] at this
        have h12 : POOL.length = 12 := by decide
        omega
      refine ⟨_, eg_name, ?_⟩
      have h0 := anyF_lt (b := (pool.length : Int)) (by omega) s
      have ok' := anyF_ok (b := (pool.length : Int)) ok
      obtain ⟨k, hk⟩ : ∃ k : Nat, (anyF (pool.length : Int) s).1 = (k : Int) := ⟨(anyF (pool.length : Int) s).1.toNat, by omega⟩
      have hkl : k < pool.length := by omega
      have ix : ∀ {ρ : List En}, ρ[0]? = some (.o aD) → ρ[2]? = some (.o pP) → Ev K (tCall (spS K S__law_any) [] E0 (tCons (tVar 0) (tCons (tCB (rLenS K) (tCons (tVar 2) tNil)) tNil))) ρ (dR aD aC s ++ [.ls pP (pool.map .str), .ls pF (found.map .str)]) (.d (.int (k : Int))) (dR aD aC (anyF (pool.length : Int) s).2 ++ [.ls pP (pool.map .str), .ls pF (found.map .str)]) := fun {ρ} h0 h2 => ev_cast (congrArg PyData.int hk) (ev_anyR h0 (ev_cast (d := .int ((pool.map PyData.str).length : Int)) (by rw [List.length_map]) (ev_cb (ea_cons (ev_o h2) ea_nil) (rc_lenO (Ra := dR aD aC s) (Rb := [.ls pF (found.map .str)])))) (by omega) (by omega) ok)
      generalize (anyF (pool.length : Int) s).2 = s' at ok' ix
      have hget : (pool.map PyData.str)[k]? = some (.str pool[k]) := by rw [List.getElem?_map, List.getElem?_eq_getElem hkl]; rfl
      have hpop : ∀ {ρ : List En}, ρ[0]? = some (.o aD) → ρ[2]? = some (.o pP) → Ev K (tBM K "list" rPopAt (tVar 2) (tCons (tCall (spS K S__law_any) [] E0 (tCons (tVar 0) (tCons (tCB (rLenS K) (tCons (tVar 2) tNil)) tNil))) tNil)) ρ (dR aD aC s ++ [.ls pP (pool.map .str), .ls pF (found.map .str)]) (.d (.str pool[k])) (dR aD aC s' ++ .ls pP ((pool.map .str).eraseIdx k) :: [.ls pF (found.map .str)]) := fun {ρ} h0 h2 => ev_popAt (a := pP) (ds := pool.map .str) (ds0 := pool.map .str) (Ra := dR aD aC s') (Rb := [.ls pF (found.map .str)]) (ev_o h2) (by simp) (ea_cons (ix h0 h2) ea_nil) hget (by rw [List.length_map]; omega)
      refine es_drop (ev_append (a := pF) (ds := found.map .str) (ds0 := found.map .str) (d := .str pool[k]) (Ra := dR aD aC s' ++ [.ls pP ((pool.map .str).eraseIdx k)]) (Rb := []) (ev_o rfl) (by simp) (ea_cons (hpop rfl rfl) ea_nil) (smallL (by rw [List.length_map]; omega))) ⟨_, s', pool.eraseIdx k, found ++ [pool[k]], rfl, ?_, ok', by rw [List.length_append, hf]; rfl, ?_⟩
      · rw [erase_map, List.map_append]
        rfl
      · refine List.Perm.trans ?_ hp
        rw [List.append_assoc]
        exact List.Perm.append_left found (erase_perm pool k hkl)
    · rintro ρ R ⟨e4, s, pool, found, rfl, rfl, ok, hf, hp⟩
      rw [List.length_map, List.length_range] at hf
      show Es K _ _ ((dR aD aC s ++ [.ls pP (pool.map .str)]) ++ .ls pF (found.map .str) :: []) _
      refine es_thaw (i := 3) (ρ := [.o aD, .d (.int (n : Int)), .o pP, .o pF, e4]) (Ra := dR aD aC s ++ [.ls pP (pool.map .str)]) rfl ?_
      refine es_forget (R' := dR aD aC s) (by rw [List.append_nil]; exact List.sublist_append_left _ _) ?_
      have hnd : (found ++ pool).Nodup := hp.nodup_iff.mpr pool_nodup
      refine es_ret (ev_cb (ea_cons (ev_cast (congrArg PyData.list (sort_map .str found)) (ev_cb (ea_cons (ev_d rfl) ea_nil) (rc_sortL ?al ?so ?de))) ea_nil) rc_tupX) ⟨_, s, rfl, rfl, ok, ⟨?_, fun x hx => ?_⟩, ?_⟩
      case al => exact PySem.W.AllAlike.of fun b b' => by simp [PySem.W.alike]
      case so => exact PySem.W.Sortable.others fun b => ⟨by simp, fun xs => by simp⟩
      case de =>
        intro d hd
        obtain ⟨x, _, rfl⟩ := List.mem_map.mp hd
        exact Nat.zero_le _
      · exact (List.mergeSort_perm found _).nodup_iff.mpr (List.nodup_append.mp hnd).1
      · exact hp.mem_iff.mp (List.mem_append_left _ (List.mem_mergeSort.mp hx))
      · rw [List.length_mergeSort]
        exact hf
end
end K24

namespace K24
open PySem PySem.Spec PyProof.Rows L2 StX RZ Fx Fr
section
variable {P : Program} {w : World} {K : PySem.W.Frag} {mg : Str → Option Value} {base : Heap}
/-! ### tables -/
abbrev pD (x : Str × Str) : PyData := .tuple [.str x.1, .str x.2]
abbrev tP (l : List (Str × Str)) : PyData := .tuple (l.map pD)
abbrev tS (l : List Str) : PyData := .tuple (l.map .str)
structure TabOk (people houses : List Str) (pairs : List (Str × Str)) : Prop where
  n1 : NmOk people
  n2 : NmOk houses
  l1 : people.length ≤ 8
  l2 : houses.length ≤ 8
  nd : pairs.Nodup
  mem : ∀ x ∈ pairs, x.1 ∈ people ∧ x.2 ∈ houses
  pl : pairs.length ≤ 100
  full : houses ≠ [] → ∀ p ∈ people, ∃ h, (p, h) ∈ pairs
def N_table : List En → List Ow → (En → List Ow → Prop) → Prop := fun es R Po => ∃ aD aC s, ∃ n m : Nat, es = [.o aD, .d (.int (n : Int)), .d (.int (m : Int))] ∧ R = dR aD aC s ∧ StOk s ∧ n ≤ 8 ∧ m ≤ 8 ∧ Po = fun e R' => ∃ people houses pairs s', e = .g (prT people houses (tP pairs)) ∧ R' = dR aD aC s' ∧ StOk s' ∧ TabOk people houses pairs ∧ people.length = n ∧ houses.length = m
/-- the pairs found up to a place -/
structure Pr1 (people houses : List Str) (prs : List (Str × Str)) (i j : Nat) : Prop where
  nd : prs.Nodup
  mem : ∀ x ∈ prs, ∃ a o, people[a]? = some x.1 ∧ houses[o]? = some x.2 ∧ (a < i ∨ (a = i ∧ o < j))
  len : prs.length ≤ i * 8 + j
theorem Pr1.next {people houses : List Str} {prs : List (Str × Str)} {i j : Nat} (h : Pr1 people houses prs i j) : Pr1 people houses prs i (j + 1) := ⟨h.nd, fun x hx => by obtain ⟨a, o, h1, h2, h3⟩ := h.mem x hx; exact ⟨a, o, h1, h2, by omega⟩, by have := h.len; omega⟩
theorem Pr1.row {people houses : List Str} {prs : List (Str × Str)} {i j : Nat} (h : Pr1 people houses prs i j) (hj : j ≤ 8) : Pr1 people houses prs (i + 1) 0 := ⟨h.nd, fun x hx => by obtain ⟨a, o, h1, h2, h3⟩ := h.mem x hx; exact ⟨a, o, h1, h2, by omega⟩, by have := h.len; omega⟩
theorem Pr1.more {people houses : List Str} {prs : List (Str × Str)} {i j : Nat} (h : Pr1 people houses prs i j) (n1 : people.Nodup) (n2 : houses.Nodup) {p q : Str} (hp : people[i]? = some p) (hq : houses[j]? = some q) : Pr1 people houses (prs ++ [(p, q)]) i (j + 1) := by
  refine ⟨?_, fun x hx => ?_, by rw [List.length_append]; have := h.len; simp; omega⟩
  · rw [List.nodup_append]
    refine ⟨h.nd, by simp, fun x hx y hy e => ?_⟩
    simp only [List.mem_singleton] at hy
    subst e
    subst hy
    obtain ⟨a, o, h1, h2, h3⟩ := h.mem _ hx
    have ea : a = i := (List.getElem?_inj (List.getElem?_eq_some_iff.mp h1).1 n1).mp (h1.trans hp.symm)
    have eo : o = j := (List.getElem?_inj (List.getElem?_eq_some_iff.mp h2).1 n2).mp (h2.trans hq.symm)
    omega
  · rcases List.mem_append.mp hx with hx | hx
    · obtain ⟨a, o, h1, h2, h3⟩ := h.mem x hx
      exact ⟨a, o, h1, h2, by omega⟩
    · simp only [List.mem_singleton] at hx
      subst hx
      exact ⟨i, j, hp, hq, by omega⟩
theorem shaped_tS {l : List Str} (h : ∀ s ∈ l, s ∈ POOL) : SeqAt.shaped (tS l) = true := by
  have h1 : PyData.canLayAll0 (l.map .str) = true ∧ PyData.depthAll (l.map .str) = 0 := by
    induction l with
    | nil => exact ⟨rfl, rfl⟩
    | cons a r ih =>
      obtain ⟨i1, i2⟩ := ih fun s hs => h s (by simp [hs])
      have ha := SeqAt.canLay_of_shaped (shaped_pool (h a (by simp)))
      exact ⟨by show (PyData.canLay0 (.str a) && PyData.canLayAll0 (r.map .str)) = true; rw [ha, i1]; rfl, by show max (PyData.depth (.str a)) (PyData.depthAll (r.map .str)) = 0; rw [i2]; rfl⟩
  unfold SeqAt.shaped
  have e1 : PyData.canLay0 (tS l) = true := by
    first
      | exact h1.1
      | (simp only [PyData.canLay0]; exact h1.1)
  have e2 : PyData.depth (tS l) = 1 := by show PyData.depthAll (l.map .str) + 1 = 1; rw [h1.2]
  rw [e1, e2]; rfl
theorem shaped_pairs {l : List (Str × Str)} (h : ∀ x ∈ l, x.1 ∈ POOL ∧ x.2 ∈ POOL) : SeqAt.shaped (.list (l.map pD)) = true := by
  have h1 : PyData.canLayAll0 (l.map pD) = true ∧ PyData.depthAll (l.map pD) ≤ 1 := by
    induction l with
    | nil => exact ⟨rfl, Nat.zero_le _⟩
    | cons a r ih =>
      obtain ⟨i1, i2⟩ := ih fun s hs => h s (by simp [hs])
      have ha := SeqAt.canLay_of_shaped (shaped_pool (h a (by simp)).1)
      have hb := SeqAt.canLay_of_shaped (shaped_pool (h a (by simp)).2)
      have c : PyData.canLay0 (pD a) = true := by
        simp only [PyData.canLay0, PyData.canLayAll0] at ha hb ⊢
        rw [ha, hb]; rfl
      have dd : PyData.depth (pD a) = 1 := by simp [PyData.depth, PyData.depthAll]
      exact ⟨by show (PyData.canLay0 (pD a) && PyData.canLayAll0 (r.map pD)) = true; rw [c, i1]; rfl, by show max (PyData.depth (pD a)) (PyData.depthAll (r.map pD)) ≤ 1; rw [dd]; omega⟩
  unfold SeqAt.shaped
  have e1 : PyData.canLay0 (.list (l.map pD)) = true := by
    first
      | exact h1.1
      | (simp only [PyData.canLay0]; exact h1.1)
  have e2 : PyData.depth (.list (l.map pD)) ≤ 2 := by show PyData.depthAll (l.map pD) + 1 ≤ 2; omega
  rw [e1]
  simp only [Bool.true_and]
  exact decide_eq_true (by omega)
theorem ix_x {l : List Str} {ρ : List En} {R R1 : List Ow} {i j : Nat} {s : Str} {ti : TE} (h : ρ[i]? = some (.g (prX l))) (hi : Ev K ti ρ R (.d (.int (j : Int))) R1) (hj : l[j]? = some s) : Ev K (tOp (rIxA K) (tVar i) ti) ρ R (.d (.str s)) R1 := ev_op (ev_xd (ev_g h)) hi (rv_iT (atI_map (enc := PyData.str) hj))
def isP (p : Str) : PyData → Bool
  | .tuple [.str a, _] => decide (a = p)
  | _ => false
theorem sc__law_table : FnScope ["deal", "people", "houses", "share", "pairs", "is_ring", "at", "other", "person", "pair"] ["deal", "people", "houses"] (defScope s__law_table) := ⟨rfl, rfl, rfl, by decide +kernel, rfl, by decide +kernel, by decide +kernel⟩

theorem ok__law_table (T : Txt K mg) (Z : Zs K mg) (B : ClsTxt K mg) : FnOk P w K mg base CX0 3 T.a__law_table T.d__law_table ["deal", "people", "houses"] (spN K N_table) := by
  refine fn_esN T.f__law_table sc__law_table ?len (fun cdv A outer s H E es R Po hr hS => ?body)
  case len => rintro _ _ _ ⟨aD, aC, s, n, m, rfl, _⟩; rfl
  case body =>
    obtain ⟨aD, aC, st, n, m, rfl, rfl, hok, hn, hm, rfl⟩ := hS
    refine ⟨_, (pss_cons (ps_par (i := 1) (j := 2) rfl sc__law_table.nd rfl rfl (by decide) rfl rfl (pa_cons (pe_call (ok__law_names T Z B) (hr.mono (by decide)) (by rfl) T.g__law_names T.f__law_names.kp T.b__law_names .nil pass0 (pa_cons (pv 0) (pa_cons (pv 1) pa_nil))) (pa_cons (pe_call (ok__law_names T Z B) (hr.mono (by decide)) (by rfl) T.g__law_names T.f__law_names.kp T.b__law_names .nil pass0 (pa_cons (pv 0) (pa_cons (pv 2) pa_nil))) pa_nil)) rfl)
      (pss_cons (ps_par (i := 3) (j := 4) rfl sc__law_table.nd rfl rfl (by decide) rfl rfl (pa_cons (pe_call (ok__law_of T) (hr.mono (by decide)) (by rfl) T.g__law_of T.f__law_of.kp T.b__law_of .nil pass0 (pa_cons (pv 0) (pa_cons (pe_lst (pa_cons pe_int (pa_cons pe_int (pa_cons pe_int (pa_cons pe_int pa_nil))))) pa_nil))) (pa_cons (pe_lst pa_nil) pa_nil)) rfl)
      (pss_cons (ps_set (i := 5) sc__law_table.nd rfl (.inl rfl) (pe_and (pe_cmpR (opEqD (K := K) hr) (pe_callB (callLen (K := K)) (by rfl) T.n_len (by decide +kernel) (pa_cons (pv 1) pa_nil)) (pe_callB (callLen (K := K)) (by rfl) T.n_len (by decide +kernel) (pa_cons (pv 2) pa_nil)) (nomark _)) (pe_and (pe_cmpR op_gt (pe_callB (callLen (K := K)) (by rfl) T.n_len (by decide +kernel) (pa_cons (pv 1) pa_nil)) pe_int (nomark _)) (pe_one (pe_cmpR (opEqD (K := K) hr) (pe_call (ok__law_any T) (hr.mono (by decide)) (by rfl) T.g__law_any T.f__law_any.kp T.b__law_any .nil pass0 (pa_cons (pv 0) (pa_cons pe_int pa_nil))) pe_int (nomark _))))))
      (pss_cons (ps_for PassesOwn.never rfl (pi_range1 rfl T.n_range (pa_cons (pe_callB (callLen (K := K)) (by rfl) T.n_len (by decide +kernel) (pa_cons (pv 1) pa_nil)) pa_nil)) (pg_name (i := 6) sc__law_table.nd rfl (.inl rfl)) (pss_one (ps_for PassesOwn.never rfl (pi_range1 rfl T.n_range (pa_cons (pe_callB (callLen (K := K)) (by rfl) T.n_len (by decide +kernel) (pa_cons (pv 2) pa_nil)) pa_nil)) (pg_name (i := 7) sc__law_table.nd rfl (.inl rfl)) (pss_one (ps_if ((pw_or ((pw_and (ptTruth (K := K) (pv 5)) (pw_and1 ((pw_or (pt_cmpR (opEqD (K := K) hr) (pv 6) (pv 7) (nomark _)) (pw_or1 (pt_cmpR (opEqD (K := K) hr) (pv 6) (pe_op op_mod (pe_callTy callInt (by rfl) T.n_int (by decide +kernel) (pa_cons (pe_op (opAdd (K := K)) (pv 7) pe_int) pa_nil)) (pe_callB (callLen (K := K)) (by rfl) T.n_len (by decide +kernel) (pa_cons (pv 2) pa_nil))) (nomark _))))).pt))).pt (pw_or1 ((pw_and (pt_not (ptTruth (K := K) (pv 5))) (pw_and1 (pt_cmpR (opEqD (K := K) hr) (pe_call (ok__law_any T) (hr.mono (by decide)) (by rfl) T.g__law_any T.f__law_any.kp T.b__law_any .nil pass0 (pa_cons (pv 0) (pa_cons (pv 3) pa_nil))) pe_int (nomark _))))).pt))).pt (pss_one (ps_expr (peBm (K := K) PySem.F.slot_list_append PySem.F.type_list_append mt_append (pv 4) (pa_cons (pe_tup (pa_cons (pe_ix (ixAny (K := K)) (pv 1) (pv 6) (fun _ _ => rfl)) (pa_cons (pe_ix (ixAny (K := K)) (pv 2) (pv 7) (fun _ _ => rfl)) pa_nil))) pa_nil)))) pss_nil)))))
      (pss_cons (ps_for PassesOwn.never rfl (piAny (K := K) (pv 1)) (pg_name (i := 8) sc__law_table.nd rfl (.inr rfl)) (pss_one (ps_if ((pw_and (pt_cmpR (opNeD (K := K) hr) (pv 2) (pe_tup pa_nil) (nomark _)) (pw_and1 (pt_cmpR (opEqD (K := K) hr) (pe_lc (own := [("pair", 9)]) (g := gName 9) rfl sc__law_table.nd (piAny (K := K) (pv 4)) (blkOk_by (N := ["deal", "people", "houses", "share", "pairs", "is_ring", "at", "other", "person", "pair"]) (sc := defScope s__law_table) (by decide +kernel)) (fun _ _ _ _ _ => (pg_name (i := 9) sc__law_table.nd rfl (by first | exact .inl rfl | exact .inr rfl))) (fun _ _ _ _ _ => (pts_one (pt_cmpR (opEqD (K := K) hr) (pe_ix (ixAny (K := K)) (pv 9) pe_int (fun _ _ => rfl)) (pv 8) (nomark _)))) (fun _ _ _ _ _ => (pv 9))) (pe_lst pa_nil) (nomark _))))).pt (pss_one (ps_expr (peBm (K := K) PySem.F.slot_list_append PySem.F.type_list_append mt_append (pv 4) (pa_cons (pe_tup (pa_cons (pv 8) (pa_cons (pe_call (ok__law_of T) (hr.mono (by decide)) (by rfl) T.g__law_of T.f__law_of.kp T.b__law_of .nil pass0 (pa_cons (pv 0) (pa_cons (pv 2) pa_nil))) pa_nil))) pa_nil)))) pss_nil)))
      (pss_one (ps_ret (pe_tup (pa_cons (pv 1) (pa_cons (pv 2) (pa_cons (pe_callTy (callTup (K := K)) (by rfl) T.n_tuple (by decide +kernel) (pa_cons (pe_callB (callSortD (K := K) hr) (by rfl) T.n_sorted (by decide +kernel) (pa_cons (pv 4) pa_nil)) pa_nil)) pa_nil))))))))))), ?_⟩
    refine es_seq (es_parNN (evp_call (Rc := dR aD aC st) (Rf := []) (Pre := N_names) ⟨aD, aC, st, n, rfl, rfl, hok, hn, rfl⟩ (ea_cons (ev_o rfl) (ea_cons (ev_d rfl) ea_nil))) (Po2 := fun _ e R' => ∃ l s', e = .g (prX l) ∧ R' = dR aD aC s' ∧ StOk s' ∧ NmOk l ∧ l.length = m) (fun e R1 h => ?_) ?_)
    · obtain ⟨_, rfl, l, s1, rfl, rfl, ok1, nm1, len1⟩ := h
      refine evp_mono (evp_call (Rc := dR aD aC s1) (Rf := []) (Pre := N_names) ⟨aD, aC, s1, m, rfl, rfl, ok1, hm, rfl⟩ (ea_cons (ev_o rfl) (ea_cons (ev_d rfl) ea_nil))) ?_
      rintro e R' ⟨_, rfl, l2, s2, rfl, rfl, ok2, nm2, len2⟩
      exact ⟨l2, s2, rfl, by rw [List.append_nil], ok2, nm2, len2⟩
    rintro _ _ _ _ ⟨_, rfl, people, s1, rfl, rfl, ok1, nm1, len1⟩ ⟨houses, s2, rfl, rfl, ok2, nm2, len2⟩
    obtain ⟨share, hsh, esh⟩ := ofF_ints (ns := [2, 2, 3, 4]) (by simp) s2
    have ok3 := ofF_ok (ds := [2, 2, 3, 4].map PyData.int) ok2
    have hshb : 0 < share ∧ share < 2 ^ 1000 := by
      simp only [List.mem_cons, List.not_mem_nil, or_false] at hsh
      rcases hsh with rfl | rfl | rfl | rfl <;> exact ⟨by decide, by decide +kernel⟩
    refine es_seq (es_parDO (ev_cast esh (ev_ofR (Rf := []) (s := s2) rfl (.inr rfl) (ev_lstE (ds := [2, 2, 3, 4].map PyData.int) (ea_cons ev_int (ea_cons ev_int (ea_cons ev_int (ea_cons ev_int ea_nil)))) rfl (small (by simp))) (by simp) (by simp) ok2)) fun pP => ?_)
    generalize (ofF ([2, 2, 3, 4].map PyData.int) s2).2 = s3 at ok3
    have hI : ∀ prs : List (Str × Str), True := fun _ => trivial
    refine es_seq (es_setN (Po := PoB fun R => ∃ s, R = dR aD aC s ++ .ls pP [] :: [] ∧ StOk s) (evp_andI (evp_of (ev_op (ev_cb (ea_cons (ev_xd (ev_g rfl)) ea_nil) rc_lenT) (ev_cb (ea_cons (ev_xd (ev_g rfl)) ea_nil) rc_lenT) rv_eqI) ⟨⟨_, rfl⟩, s3, rfl, ok3⟩) ?ring) ?_)
    case ring =>
      rintro R' ⟨s, rfl, ok⟩
      refine evp_andI (evp_of (ev_op (ev_cb (ea_cons (ev_xd (ev_g rfl)) ea_nil) rc_lenT) ev_int (rv_bl (g := fun i j : Int => decide (j < i)))) ⟨⟨_, rfl⟩, s, rfl, ok⟩) ?_
      rintro R' ⟨s, rfl, ok⟩
      exact evp_of (ev_op (ev_anyR (b := 3) (Rf := .ls pP [] :: []) rfl ev_int (by omega) (by omega) ok) ev_int rv_eqI) ⟨⟨_, rfl⟩, _, rfl, anyF_ok ok⟩
    rintro _ _ ⟨⟨ring, rfl⟩, s4, rfl, ok4⟩
    refine es_seq (es_for (ei_rngN (n := people.length) (ea_cons (ev_cast (d := .int ((people.map PyData.str).length : Int)) (by rw [List.length_map]) (ev_cb (ea_cons (ev_xd (ev_g rfl)) ea_nil) rc_lenT)) ea_nil) (by omega)) (fun i ρ R => ∃ e6 e7 e9 s prs, ρ = [.o aD, .g (prX people), .g (prX houses), .d (.int share), .o pP, .d (.bool ring), e6, e7, .u, e9] ∧ R = dR aD aC s ++ .ls pP (prs.map pD) :: [] ∧ StOk s ∧ Pr1 people houses prs i 0) ⟨_, _, _, s4, [], rfl, rfl, ok4, ⟨by simp, (fun x hx => (nomatch hx)), by simp⟩⟩ ?_ ?_)
    · rintro i d ρ R hd ⟨e6, e7, e9, s, prs, rfl, rfl, ok, hp⟩
      obtain ⟨hi, rfl⟩ : i < people.length ∧ d = .int (i : Int) := by
        have h1 := List.getElem?_eq_some_iff.mp hd
        obtain ⟨h1, h2⟩ := h1
        have h1' : i < people.length := by simpa using h1
        refine ⟨h1', ?_⟩
        rw [← h2]; simp
      refine ⟨_, eg_name, ?_⟩
      refine es_for (ei_rngN (n := houses.length) (ea_cons (ev_cast (d := .int ((houses.map PyData.str).length : Int)) (by rw [List.length_map]) (ev_cb (ea_cons (ev_xd (ev_g rfl)) ea_nil) rc_lenT)) ea_nil) (by omega)) (fun j ρ R => ∃ e7 e9 s prs, ρ = [.o aD, .g (prX people), .g (prX houses), .d (.int share), .o pP, .d (.bool ring), .d (.int (i : Int)), e7, .u, e9] ∧ R = dR aD aC s ++ .ls pP (prs.map pD) :: [] ∧ StOk s ∧ Pr1 people houses prs i j) ⟨_, _, s, prs, rfl, rfl, ok, hp⟩ ?_ ?_
      · rintro j d ρ R hd ⟨e7, e9, s, prs, rfl, rfl, ok, hp⟩
        obtain ⟨hj, rfl⟩ : j < houses.length ∧ d = .int (j : Int) := by
          have h1 := List.getElem?_eq_some_iff.mp hd
          obtain ⟨h1, h2⟩ := h1
          have h1' : j < houses.length := by simpa using h1
          refine ⟨h1', ?_⟩
          rw [← h2]; simp
        have gi : people[i]? = some people[i] := List.getElem?_eq_getElem hi
        have gj : houses[j]? = some houses[j] := List.getElem?_eq_getElem hj
        refine ⟨_, eg_name, es_ifI (I := fun R => ∃ s, R = dR aD aC s ++ .ls pP (prs.map pD) :: [] ∧ StOk s) ⟨s, rfl, ok⟩ ?_ ?_ ?_⟩
        · refine eti_or (eti_and (eti_of ?_) (eti_or (eti_of ?_) (eti_of ?_))) (eti_and (eti_not (eti_of ?_)) (eti_of ?_))
          · rintro _ ⟨s, rfl, ok⟩
            exact ⟨ring, _, ⟨s, rfl, ok⟩, et_truB (ev_d rfl)⟩
          · rintro _ ⟨s, rfl, ok⟩
            exact ⟨_, _, ⟨s, rfl, ok⟩, et_test (ev_op (ev_d rfl) (ev_d rfl) rv_eqI)⟩
          · rintro _ ⟨s, rfl, ok⟩
            exact ⟨_, _, ⟨s, rfl, ok⟩, et_test (ev_op (ev_d rfl) (ev_op (ev_cb (ea_cons (ev_op (ev_d rfl) ev_int rv_addI) ea_nil) rc_int) (ev_cb (ea_cons (ev_xd (ev_g rfl)) ea_nil) rc_lenT) (rv_intC (g := fun i j : Int => i % j) (show (0 : Int) < ((houses.map PyData.str).length : Int) by rw [List.length_map]; omega))) rv_eqI)⟩
          · rintro _ ⟨s, rfl, ok⟩
            exact ⟨ring, _, ⟨s, rfl, ok⟩, et_truB (ev_d rfl)⟩
          · rintro _ ⟨s, rfl, ok⟩
            exact ⟨_, _, ⟨_, rfl, anyF_ok ok⟩, et_test (ev_op (ev_anyR (b := share) (Rf := .ls pP (prs.map pD) :: []) rfl (ev_d rfl) hshb.1 hshb.2 ok) ev_int rv_eqI)⟩
        · rintro _ ⟨s, rfl, ok⟩
          have hl := hp.len
          refine es_drop (ev_append (a := pP) (ds := prs.map pD) (ds0 := prs.map pD) (d := pD (people[i], houses[j])) (Ra := dR aD aC s) (Rb := []) (ev_o rfl) (by simp) (ea_cons (ev_tupE (ds := [.str people[i], .str houses[j]]) (ea_cons (ix_x rfl (ev_d rfl) gi) (ea_cons (ix_x rfl (ev_d rfl) gj) ea_nil)) rfl (small (by simp))) ea_nil) (smallL (by rw [List.length_map]; omega))) ⟨_, _, s, prs ++ [(people[i], houses[j])], rfl, by simp, ok, hp.more nm1.1 nm2.1 gi gj⟩
        · rintro _ ⟨s, rfl, ok⟩
          exact es_next ⟨_, _, s, prs, rfl, rfl, ok, hp.next⟩
      · rintro ρ R ⟨e7, e9, s, prs, rfl, rfl, ok, hp⟩
        rw [List.length_map, List.length_range] at hp
        exact ⟨_, _, _, s, prs, rfl, rfl, ok, hp.row (by omega)⟩
    · rintro ρ R ⟨e6, e7, e9, s, prs, rfl, rfl, ok, hp⟩
      have hl0 := hp.len
      rw [List.length_map, List.length_range] at hl0
      have pool1 : ∀ x ∈ people, x ∈ POOL := nm1.2
      have pool2 : ∀ x ∈ houses, x ∈ POOL := nm2.2
      refine es_seq (es_for (ei_T (ev_xd (ev_g rfl))) (fun i ρ R => ∃ e8 e9 s prs, ρ = [.o aD, .g (prX people), .g (prX houses), .d (.int share), .o pP, .d (.bool ring), e6, e7, e8, e9] ∧ R = dR aD aC s ++ .ls pP (prs.map pD) :: [] ∧ StOk s ∧ prs.Nodup ∧ (∀ x ∈ prs, x.1 ∈ people ∧ x.2 ∈ houses) ∧ prs.length ≤ 64 + i ∧ (houses ≠ [] → ∀ q ∈ people.take i, ∃ h, (q, h) ∈ prs)) ⟨_, _, s, prs, rfl, rfl, ok, hp.nd, fun x hx => ?_, by omega, fun _ q hq => by simp at hq⟩ ?_ ?_)
      · obtain ⟨a, o, h1, h2, _⟩ := hp.mem x hx
        exact ⟨List.mem_of_getElem? h1, List.mem_of_getElem? h2⟩
      · clear hp hl0 ok
        rintro i d ρ R hd ⟨e8, e9, s, prs, rfl, rfl, ok, nd, hmem, hlen, hfull⟩
        have hil : i < people.length := by have := (List.getElem?_eq_some_iff.mp hd).1; simpa using this
        obtain ⟨person, hpi, hpm, rfl⟩ : ∃ p, people[i]? = some p ∧ p ∈ people ∧ d = .str p := by
          rw [List.getElem?_map] at hd
          cases e : people[i]? with
          | none => rw [e] at hd; cases hd
          | some p => rw [e] at hd; exact ⟨p, rfl, List.mem_of_getElem? e, (Option.some.inj hd).symm⟩
        have hnext : ∀ prs' : List (Str × Str), (∀ x ∈ prs, x ∈ prs') → (houses ≠ [] → ∃ h, (person, h) ∈ prs') → (houses ≠ [] → ∀ q ∈ people.take (i + 1), ∃ h, (q, h) ∈ prs') := fun prs' h1 h2 hne q hq => by
          rw [List.take_succ, hpi, Option.toList_some] at hq
          rcases List.mem_append.mp hq with hq | hq
          · obtain ⟨h, hh⟩ := hfull hne q hq
            exact ⟨h, h1 _ hh⟩
          · rw [List.mem_singleton.mp hq]
            exact h2 hne
        refine ⟨_, eg_name, ?_⟩
        have sp := shaped_pool (pool1 _ hpm)
        have t1 := fun (ρ : List En) (h : ρ[2]? = some (.g (prX houses))) => et_test (ev_op (K := K) (R := dR aD aC s ++ .ls pP (prs.map pD) :: []) (ev_xd (ev_g h)) (ev_tupE (ds := []) ea_nil rfl (small (by simp))) (rv_neD (shaped_tS pool2) (by rfl)))
        have ee : (!PyData.eqv (tS houses) (.tuple [])) = !houses.isEmpty := by cases houses <;> rfl
        have hsub : ∀ x ∈ prs.filter (fun x => isP person (pD x)), x.1 ∈ POOL ∧ x.2 ∈ POOL := fun x hx => by
          have := hmem x (List.mem_filter.mp hx).1
          exact ⟨pool1 _ this.1, pool2 _ this.2⟩
        have hfil : (prs.map pD).filter (isP person) = (prs.filter fun x => isP person (pD x)).map pD := by rw [List.filter_map]; rfl
        have t2 := fun (ρ : List En) (h4 : ρ[4]? = some (.o pP)) (h8 : (wiped ρ [9])[8]? = some (.d (.str person))) (h9 : 9 < ρ.length) => et_none (K := K) (te := tVar 9) (tt := tTest (tOp (rEqD K) (tOp (rIxA K) (tVar 9) (tC (.int 0))) (tVar 8))) (g := gName 9) (vs := [9]) (f := fun d => d) (p := isP person) (ds := prs.map pD) (a := pP) (Ra := dR aD aC s) (Rb := []) h4 (small (by rw [List.length_map]; omega)) (by rw [List.map_id', hfil]; exact shaped_pairs hsub) (fun R d hd => by
          obtain ⟨x, hx, rfl⟩ := List.mem_map.mp hd
          have hx1 := shaped_pool (pool1 _ (hmem x hx).1)
          have h8' : ((wiped ρ [9]).set 9 (En.d (pD x)))[8]? = some (.d (.str person)) := by rw [List.getElem?_set_ne (by decide)]; exact h8
          have h9' : ((wiped ρ [9]).set 9 (En.d (pD x)))[9]? = some (.d (pD x)) := by
            have : 9 < (wiped ρ [9]).length := by simpa [wiped] using h9
            rw [List.getElem?_set_self this]
          exact ⟨_, egw_name, et_test (ev_op (ev_op (ev_d h9') ev_int (rv_iT (atI_nat (j := 0) rfl))) (ev_d h8') (rv_eqS hx1 sp)), fun _ => ev_d h9'⟩)
        refine es_if (b := (!PyData.eqv (tS houses) (.tuple [])) && ((prs.map pD).filter (isP person)).isEmpty) (R1 := dR aD aC s ++ .ls pP (prs.map pD) :: []) (et_and (t1 _ rfl) fun _ => ?t2) (fun hb => ?_) (fun hb => es_next ⟨_, _, s, prs, rfl, rfl, ok, nd, hmem, by omega, hnext prs (fun _ h => h) fun hne => ?fa⟩)
        case t2 => exact t2 _ rfl rfl (by simp)
        case fa =>
          rw [Bool.and_eq_false_iff, ee] at hb
          rcases hb with hb | hb
          · cases houses with
            | nil => exact absurd rfl hne
            | cons a r => cases hb
          · rw [hfil] at hb
            cases e : prs.filter fun x => isP person (pD x) with
            | nil => rw [e] at hb; cases hb
            | cons x r =>
              have hx : x ∈ prs.filter fun x => isP person (pD x) := by rw [e]; simp
              obtain ⟨h1, h2⟩ := List.mem_filter.mp hx
              have h3 : x.1 = person := of_decide_eq_true h2
              exact ⟨x.2, by rw [← h3]; exact h1⟩
        rw [Bool.and_eq_true, ee] at hb
        have hne : houses ≠ [] := by rintro rfl; exact absurd hb.1 (by decide)
        have hno : ∀ x ∈ prs, x.1 ≠ person := fun x hx e => by
          have h2 := hb.2
          rw [hfil, List.isEmpty_iff, List.map_eq_nil_iff, List.filter_eq_nil_iff] at h2
          exact h2 x hx (by show decide (x.1 = person) = true; exact decide_eq_true e)
        obtain ⟨h, hhm, eh⟩ : ∃ h ∈ houses, (ofF (houses.map .str) s).1 = .str h := by
          obtain ⟨h, h1, h2⟩ := List.mem_map.mp (ofF_ix (ds := houses.map PyData.str) (by simpa using hne) s).2
          exact ⟨h, h1, h2.symm⟩
        have ok' := ofF_ok (ds := houses.map PyData.str) ok
        refine es_drop (ev_append (a := pP) (ds := prs.map pD) (ds0 := prs.map pD) (d := pD (person, h)) (Ra := dR aD aC (ofF (houses.map .str) s).2) (Rb := []) (ev_o rfl) (by simp) (ea_cons (ev_tupE (ds := [.str person, .str h]) (ea_cons (ev_d rfl) (ea_cons (ev_cast eh (ev_ofR (Rf := .ls pP (prs.map pD) :: []) rfl (.inl rfl) (ev_xd (ev_g rfl)) (by simpa using hne) (by rw [List.length_map]; omega) ok)) ea_nil)) rfl (small (by simp))) ea_nil) (smallL (by rw [List.length_map]; omega))) ⟨_, _, _, prs ++ [(person, h)], rfl, by simp, ok', ?_, fun x hx => ?_, by rw [List.length_append]; simp; omega, hnext _ (fun x hx => List.mem_append_left _ hx) fun _ => ⟨h, by simp⟩⟩
        · rw [List.nodup_append]
          refine ⟨nd, by simp, fun x hx y hy e => ?_⟩
          simp only [List.mem_singleton] at hy
          subst hy
          subst e
          exact hno _ hx rfl
        · rcases List.mem_append.mp hx with hx | hx
          · exact hmem x hx
          · simp only [List.mem_singleton] at hx
            subst hx
            exact ⟨hpm, hhm⟩
      · clear hp hl0 ok
        rintro ρ R ⟨e8, e9, s, prs, rfl, rfl, ok, nd, hmem, hlen, hfull⟩
        rw [List.length_map] at hlen hfull
        rw [List.take_length] at hfull
        refine es_thaw (i := 4) rfl ?_
        rw [List.append_nil]
        refine es_ret (ev_tup3 (ea_cons (ev_g rfl) (ea_cons (ev_g rfl) (ea_cons (ev_cb (ea_cons (ev_cast (congrArg PyData.list (sort_map pD prs)) (ev_cb (ea_cons (ev_d rfl) ea_nil) (rc_sortL ?al ?so ?de))) ea_nil) rc_tupL) ea_nil)))) ⟨people, houses, _, s, rfl, rfl, ok, ⟨nm1, nm2, by omega, by omega, ?_, fun x hx => ?_, ?_, fun hne p hp => (hfull hne p hp).imp fun h hh => List.mem_mergeSort.mpr hh⟩, len1, len2⟩
        case al => exact PySem.W.AllAlike.of fun b b' => by simp [PySem.W.alike, PySem.W.alikeAll]
        case so => exact PySem.W.Sortable.tuples fun b => ⟨_, _, rfl⟩
        case de =>
          intro d hd
          obtain ⟨x, _, rfl⟩ := List.mem_map.mp hd
          simp [PyData.depth, PyData.depthAll]
        · exact (List.mergeSort_perm prs _).nodup_iff.mpr nd
        · exact hmem x (List.mem_mergeSort.mp hx)
        · rw [List.length_mergeSort]; omega
/-! ### prices -/
def N_prices : List En → List Ow → (En → List Ow → Prop) → Prop := fun es R Po => ∃ aD aC s, ∃ l : List Str, es = [.o aD, .g (prX l)] ∧ R = dR aD aC s ∧ StOk s ∧ l.length ≤ 8 ∧ Po = fun e R' => ∃ (ps : List Int) (s' : DS), e = .d (.tuple (ps.map .int)) ∧ R' = dR aD aC s' ∧ StOk s' ∧ ps.length = l.length ∧ ∀ p ∈ ps, 0 ≤ p ∧ p < 1000
theorem sc__law_prices : FnScope ["deal", "houses", "form", "most", "house"] ["deal", "houses"] (defScope s__law_prices) := ⟨rfl, rfl, rfl, by decide +kernel, rfl, by decide +kernel, by decide +kernel⟩

theorem ok__law_prices (T : Txt K mg) (Z : Zs K mg) (B : ClsTxt K mg) : FnOk P w K mg base CX0 2 T.a__law_prices T.d__law_prices ["deal", "houses"] (spN K N_prices) := by
  refine fn_esN T.f__law_prices sc__law_prices ?len (fun cdv A outer s H E es R Po hr hS => ?body)
  case len => rintro _ _ _ ⟨aD, aC, s, l, rfl, _⟩; rfl
  case body =>
    obtain ⟨aD, aC, st, l, rfl, rfl, hok, hl, rfl⟩ := hS
    refine ⟨_, (pss_cons (ps_set (i := 2) sc__law_prices.nd rfl (.inr rfl) (pe_call (ok__law_any T) (hr.mono (by decide)) (by rfl) T.g__law_any T.f__law_any.kp T.b__law_any .nil pass0 (pa_cons (pv 0) (pa_cons pe_int pa_nil))))
      (pss_cons (ps_set (i := 3) sc__law_prices.nd rfl (.inr rfl) (pe_ix (ixAny (K := K)) (pe_lst (pa_cons pe_int (pa_cons pe_int (pa_cons pe_int (pa_cons pe_int pa_nil))))) (pv 2) (fun _ _ => rfl)))
      (pss_one (ps_ret (pe_callTy (callTup (K := K)) (by rfl) T.n_tuple (by decide +kernel) (pa_cons (pe_lc (own := [("house", 4)]) (g := gName 4) rfl sc__law_prices.nd (piAny (K := K) (pv 1)) (blkOk_by (N := ["deal", "houses", "form", "most", "house"]) (sc := defScope s__law_prices) (by decide +kernel)) (fun _ _ _ _ _ => (pg_name (i := 4) sc__law_prices.nd rfl (by first | exact .inl rfl | exact .inr rfl))) (fun _ _ _ _ _ => pts_nil) (fun _ _ _ _ _ => (pe_ifExp (pt_cmpR (opEqD (K := K) hr) (pv 2) pe_int (nomark _)) pe_int (pe_call (ok__law_any T) (hr.mono (by decide)) (by rfl) T.g__law_any T.f__law_any.kp T.b__law_any .nil pass0 (pa_cons (pv 0) (pa_cons (pv 3) pa_nil)))))) pa_nil)))))), ?_⟩
    have h4 := anyF_lt (b := 4) (by omega) st
    have ok1 := anyF_ok (b := 4) hok
    refine es_seq (es_set (ev_any rfl ev_int (by omega) (by omega) hok) ?_)
    generalize (anyF 4 st).1 = form at h4
    generalize (anyF 4 st).2 = s1 at ok1
    obtain ⟨most, hm, hmost⟩ : ∃ most : Int, L2.atI [PyData.int 2, .int 5, .int 40, .int 1000] form = some (.int most) ∧ 0 < most ∧ most ≤ 1000 := by
      have : form = 0 ∨ form = 1 ∨ form = 2 ∨ form = 3 := by omega
      rcases this with rfl | rfl | rfl | rfl
      · exact ⟨2, rfl, by omega, by omega⟩
      · exact ⟨5, rfl, by omega, by omega⟩
      · exact ⟨40, rfl, by omega, by omega⟩
      · exact ⟨1000, rfl, by omega, by omega⟩
    refine es_seq (es_set (ev_op (ev_lstE (ds := [.int 2, .int 5, .int 40, .int 1000]) (ea_cons ev_int (ea_cons ev_int (ea_cons ev_int (ea_cons ev_int ea_nil)))) rfl (small (by simp))) (ev_d rfl) (rv_iL hm)) ?_)
    have hall := mapS_all (f := fun s (_ : Str) => if form = 0 then ((1 : Int), s) else anyF most s) (Iv := StOk) (Q := fun p => 0 ≤ p ∧ p < 1000 ∨ p = 1) (fun s _ hs => by
      by_cases h0 : form = 0
      · rw [if_pos h0]; exact ⟨.inr rfl, hs⟩
      · rw [if_neg h0]
        have := anyF_lt hmost.1 s
        exact ⟨.inl ⟨this.1, by omega⟩, anyF_ok hs⟩) l s1 ok1
    refine es_ret (ev_cb (ea_cons (ev_lc (ei_T (ev_xd (ev_g rfl))) (lcr_state (β := Int) (enc := PyData.str) (enc' := PyData.int) (Rg := dR aD aC) (s := s1) (Inv := StOk) (f := fun s (_ : Str) => if form = 0 then ((1 : Int), s) else anyF most s) ok1 fun s a _ hs => ⟨?inv, _, egw_name, ?el⟩) (small (by rw [List.length_map]; omega))) ea_nil) rc_tupL) ⟨_, _, rfl, rfl, hall.2.1, hall.2.2, fun p hp => ?_⟩
    case inv =>
      by_cases h0 : form = 0
      · rw [if_pos h0]; exact hs
      · rw [if_neg h0]; exact anyF_ok hs
    case el =>
      have t0 := fun (ρ : List En) (h : ρ[2]? = some (.d (.int form))) => et_test (ev_op (K := K) (R := dR aD aC s) (ev_d h) (ev_int (i := 0)) rv_eqI)
      by_cases h0 : form = 0
      · rw [if_pos h0]
        exact ev_if (b := true) (et_cast (decide_eq_true h0) (t0 _ rfl)) (fun _ => ev_int) (fun h => nomatch h)
      · rw [if_neg h0]
        exact ev_if (b := false) (et_cast (decide_eq_false h0) (t0 _ rfl)) (fun h => nomatch h) (fun _ => ev_any rfl (ev_d rfl) hmost.1 (Int.lt_of_le_of_lt hmost.2 (by decide +kernel)) hs)
    · have := hall.1 p hp
      omega
end
end K24

namespace K24
open PySem PySem.Spec PyProof.Rows L2 StX RZ Fx
section
variable {P : Program} {w : World} {K : PySem.W.Frag} {mg : Str → Option Value} {base : Heap}
/-- all sequences are short -/
inductive Narrow : PyData → Prop
  | non : Narrow .none
  | bl (b : Bool) : Narrow (.bool b)
  | int (i : Int) : Narrow (.int i)
  | str (s : Str) : Narrow (.str s)
  | lst {xs : List PyData} : xs.length ≤ 1000 → (∀ x ∈ xs, Narrow x) → Narrow (.list xs)
  | tup {xs : List PyData} : xs.length ≤ 1000 → (∀ x ∈ xs, Narrow x) → Narrow (.tuple xs)
theorem depth_in : ∀ {xs : List PyData} {x : PyData}, x ∈ xs → x.depth ≤ PyData.depthAll xs
  | y :: ys, x, h => by
    show _ ≤ max y.depth (PyData.depthAll ys)
    rcases List.mem_cons.mp h with rfl | h
    · omega
    · have := depth_in h
      omega
theorem sc_kept : FnScope ["value", "thing"] ["value"] (defScope s_kept) := ⟨rfl, rfl, rfl, by decide +kernel, rfl, by decide +kernel, by decide +kernel⟩

def S_kept (k : Nat) : List En → List Ow → En → List Ow → Prop := fun es R e R' => ∃ d, es = [.d d] ∧ R = [] ∧ R' = [] ∧ e = .d d ∧ Narrow d ∧ PyData.depth d < k
theorem ok_keptN (T : Txt K mg) : ∀ k, FnOk P w K mg base CX0 k T.a_kept T.d_kept ["value"] (spS K (S_kept k))
  | 0 => ⟨fun vs H Q E h => by obtain ⟨_, _, _, _, _, _, ⟨_, _, _, _, _, _, h⟩, _⟩ := h; omega, fun A outer s H args us vs Q E hr he hb hv h => by obtain ⟨_, _, _, _, _, _, ⟨_, _, _, _, _, _, h⟩, _⟩ := h; omega⟩
  | k + 1 => by
    have F0 := ok_keptN T k
    refine fn_es T.f_kept sc_kept ?len (fun cdv A outer s H E es R e R' hr hS => ?body)
    case len => rintro _ _ _ _ ⟨d, rfl, _⟩; rfl
    case body =>
      obtain ⟨d, rfl, rfl, rfl, rfl, hn, hd⟩ := hS
      refine ⟨_, (pss_cons (ps_if (ptTruth (K := K) (pe_callB (callIsi (K := K)) (by rfl) T.n_isinstance (by decide +kernel) (pa_cons (pv 0) (pa_cons (pe_bltn (by rfl) T.n_list (by decide +kernel) (v := .ty "list") rfl) pa_nil)))) (pss_one (ps_ret (pe_lc (own := [("thing", 1)]) (g := gName 1) rfl sc_kept.nd (piAny (K := K) (pv 0)) (blkOk_by (N := ["value", "thing"]) (sc := defScope s_kept) (by decide +kernel)) (fun _ _ _ _ _ => (pg_name (i := 1) sc_kept.nd rfl (by first | exact .inl rfl | exact .inr rfl))) (fun _ _ _ _ _ => pts_nil) (fun _ _ _ _ _ => (pe_call F0 hr (by rfl) T.g_kept T.f_kept.kp T.b_kept .nil pass0 (pa_cons (pv 1) pa_nil)))))) pss_nil)
      (pss_cons (ps_if (ptTruth (K := K) (pe_callB (callIsi (K := K)) (by rfl) T.n_isinstance (by decide +kernel) (pa_cons (pv 0) (pa_cons (pe_bltn (by rfl) T.n_tuple (by decide +kernel) (v := .ty "tuple") rfl) pa_nil)))) (pss_one (ps_ret (pe_callTy (callTup (K := K)) (by rfl) T.n_tuple (by decide +kernel) (pa_cons (pe_lc (own := [("thing", 1)]) (g := gName 1) rfl sc_kept.nd (piAny (K := K) (pv 0)) (blkOk_by (N := ["value", "thing"]) (sc := defScope s_kept) (by decide +kernel)) (fun _ _ _ _ _ => (pg_name (i := 1) sc_kept.nd rfl (by first | exact .inl rfl | exact .inr rfl))) (fun _ _ _ _ _ => pts_nil) (fun _ _ _ _ _ => (pe_call F0 hr (by rfl) T.g_kept T.f_kept.kp T.b_kept .nil pass0 (pa_cons (pv 1) pa_nil)))) pa_nil)))) pss_nil)
      (pss_one (ps_ret (pv 0))))), ?_⟩
      have isL : Et K _ [En.d d, .u] [] (isLstB d) [] := et_truB (ev_cb (ea_cons (ev_d (i := 0) rfl) (ea_cons (ev_v (w := .ty "list")) ea_nil)) (rc_isi (kit_lst d)))
      have isT : Et K _ [En.d d, .u] [] (isTupB d) [] := et_truB (ev_cb (ea_cons (ev_d (i := 0) rfl) (ea_cons (ev_v (w := .ty "tuple")) ea_nil)) (rc_isi (kit_tup d)))
      have one : ∀ {xs : List PyData} {x : PyData}, PyData.depthAll xs < k → (∀ x ∈ xs, Narrow x) → x ∈ xs → S_kept k [.d x] [] (.d x) [] := fun h1 h2 h3 => ⟨_, rfl, rfl, rfl, rfl, h2 _ h3, Nat.lt_of_le_of_lt (depth_in h3) h1⟩
      cases hn with
      | lst hl hx =>
        rename_i xs
        have hd' : PyData.depthAll xs < k := by have : PyData.depthAll xs + 1 < k + 1 := hd; omega
        exact es_seq (es_if (b := true) isL (fun _ => es_ret (ev_cast (congrArg PyData.list (List.map_id' xs)) (ev_lc (ei_L (ev_d rfl)) (lcr_map (f := fun x => x) fun x hm => ⟨_, egw_name, ev_callP (one hd' hx hm) (ea_cons (ev_d rfl) ea_nil)⟩) (small (by omega)))) ⟨rfl, rfl⟩) (fun h => nomatch h))
      | tup hl hx =>
        rename_i xs
        have hd' : PyData.depthAll xs < k := by have : PyData.depthAll xs + 1 < k + 1 := hd; omega
        exact es_seq (es_if (b := false) isL (fun h => nomatch h) (fun _ => es_next (es_seq (es_if (b := true) isT (fun _ => es_ret (ev_cb (ea_cons (ev_cast (congrArg PyData.list (List.map_id' xs)) (ev_lc (ei_T (ev_d rfl)) (lcr_map (f := fun x => x) fun x hm => ⟨_, egw_name, ev_callP (one hd' hx hm) (ea_cons (ev_d rfl) ea_nil)⟩) (small (by omega)))) ea_nil) rc_tupL) ⟨rfl, rfl⟩) (fun h => nomatch h)))))
      | _ => exact es_seq (es_if (b := false) isL (fun h => nomatch h) (fun _ => es_next (es_seq (es_if (b := false) isT (fun h => nomatch h) (fun _ => es_next (es_ret (ev_d rfl) ⟨rfl, rfl⟩))))))
theorem sc_Table_init : FnScope ["self", "people", "houses", "pairs"] ["self", "people", "houses", "pairs"] (defScope s_Table_init) := ⟨rfl, rfl, rfl, by decide +kernel, rfl, by decide +kernel, by decide +kernel⟩
def flds (d1 d2 d3 : PyData) : List (Str × PyData) := [("people", d1), ("houses", d2), ("pairs", d3)]
def S_Table_init (C : Addr) : List En → List Ow → En → List Ow → Prop := fun es R e R' => ∃ x dx d1 d2 d3, es = [.o x, .d d1, .d d2, .d d3] ∧ R = [.ob x C dx []] ∧ R' = [.ob x C dx (flds d1 d2 d3)] ∧ e = .d .none ∧ (Narrow d1 ∧ d1.depth < 4) ∧ (Narrow d2 ∧ d2.depth < 4) ∧ (Narrow d3 ∧ d3.depth < 4)
theorem ok_Table_init (T : Txt K mg) (B : ClsTxt K mg) : FnOk P w K mg base CX0 5 B.f B.d ["self", "people", "houses", "pairs"] (spS K (S_Table_init B.C)) := by
  refine fn_es B.fn sc_Table_init ?len (fun cdv A outer s H E es R e R' hr hS => ?body)
  case len => rintro _ _ _ _ ⟨x, dx, d1, d2, d3, rfl, _⟩; rfl
  case body =>
    obtain ⟨x, dx, d1, d2, d3, rfl, rfl, rfl, rfl, ⟨n1, h1⟩, ⟨n2, h2⟩, n3, h3⟩ := hS
    refine ⟨_, (pss_cons (ps_fld (pv 0) (pe_call (ok_keptN T 4) (hr.mono (by decide)) (by rfl) T.g_kept T.f_kept.kp T.b_kept .nil pass0 (pa_cons (pv 1) pa_nil)) rfl)
      (pss_cons (ps_fld (pv 0) (pe_call (ok_keptN T 4) (hr.mono (by decide)) (by rfl) T.g_kept T.f_kept.kp T.b_kept .nil pass0 (pa_cons (pv 2) pa_nil)) rfl)
      (pss_one (ps_fld (pv 0) (pe_call (ok_keptN T 4) (hr.mono (by decide)) (by rfl) T.g_kept T.f_kept.kp T.b_kept .nil pass0 (pa_cons (pv 3) pa_nil)) rfl)))), ?_⟩
    refine es_seq (es_fld (a := x) (C := B.C) (dx := dx) (fs := []) (Ra := []) (Rb := []) (ev_callP ⟨d1, rfl, rfl, rfl, rfl, n1, h1⟩ (ea_cons (ev_d rfl) ea_nil)) (ev_o rfl) B.cls B.n1 (by decide) ?_)
    refine es_seq (es_fld (a := x) (C := B.C) (dx := dx) (fs := [("people", d1)]) (Ra := []) (Rb := []) (ev_callP ⟨d2, rfl, rfl, rfl, rfl, n2, h2⟩ (ea_cons (ev_d rfl) ea_nil)) (ev_o rfl) B.cls B.n2 (by simp) ?_)
    exact es_fld (a := x) (C := B.C) (dx := dx) (fs := [("people", d1), ("houses", d2)]) (Ra := []) (Rb := []) (ev_callP ⟨d3, rfl, rfl, rfl, rfl, n3, h3⟩ (ea_cons (ev_d rfl) ea_nil)) (ev_o rfl) B.cls B.n3 (by simp) ⟨rfl, rfl⟩
/-- Table(e1, e2, e3) -/
theorem ev_Table {ρ : List En} {R R1 : List Ow} {ts : TA} {B : ClsTxt K mg} {d1 d2 d3 : PyData} (h1 : Narrow d1 ∧ d1.depth < 4) (h2 : Narrow d2 ∧ d2.depth < 4) (h3 : Narrow d3 ∧ d3.depth < 4) (h : Ea K ts ρ R [.d d1, .d d2, .d d3] R1) :
    Ev K (tMake B.C (spS K (S_Table_init B.C)) [] E0 ts) ρ R (.ob B.C (flds d1 d2 d3)) R1 := ev_make (fun x dx => ⟨x, dx, d1, d2, d3, rfl, rfl, rfl, rfl, h1, h2, h3⟩) h
end
end K24

namespace K24
open PySem PySem.Spec PyProof.Rows L2 StX RZ Fx Fr
section
variable {P : Program} {w : World} {K : PySem.W.Frag} {mg : Str → Option Value} {base : Heap}
/-! ### who is served -/
def served (pairs : List (Str × Str)) (p : Str) : List Str := (pairs.filter fun x => decide (x.1 = p)).map (·.2)
abbrev tab (B : ClsTxt K mg) (people houses : List Str) (pairs : List (Str × Str)) : En := .ob B.C (flds (tS people) (tS houses) (tP pairs))
theorem sc_served_by : FnScope ["table", "person", "other", "house"] ["table", "person"] (defScope s_served_by) := ⟨rfl, rfl, rfl, by decide +kernel, rfl, by decide +kernel, by decide +kernel⟩

def S_served_by (B : ClsTxt K mg) : List En → List Ow → En → List Ow → Prop := fun es R e R' => ∃ people houses pairs p, es = [tab B people houses pairs, .d (.str p)] ∧ R = [] ∧ R' = [] ∧ e = .d (tS (served pairs p)) ∧ TabOk people houses pairs ∧ p ∈ people
theorem ok_served_by (T : Txt K mg) (Z : Zs K mg) (B : ClsTxt K mg) : FnOk P w K mg base CX0 2 T.a_served_by T.d_served_by ["table", "person"] (spS K (S_served_by B)) := by
  refine fn_es T.f_served_by sc_served_by ?len (fun cdv A outer s H E es R e R' hr hS => ?body)
  case len => rintro _ _ _ _ ⟨people, houses, pairs, p, rfl, _⟩; rfl
  case body =>
    obtain ⟨people, houses, pairs, p, rfl, rfl, rfl, rfl, tk, hp⟩ := hS
    refine ⟨_, (pss_cons (ps_if (pt_cmpR (opNotIn (K := K)) (pv 1) (pe_fld (pv 0) rfl) (by rfl)) (pss_one ps_dead) pss_nil)
      (pss_one (ps_ret (pe_callTy (callTup (K := K)) (by rfl) T.n_tuple (by decide +kernel) (pa_cons (pe_lc (own := [("other", 2), ("house", 3)]) (g := gTup K 2 (gCons (gName 2) (gCons (gName 3) gNil))) rfl sc_served_by.nd (piAny (K := K) (pe_fld (pv 0) rfl)) (blkOk_by (N := ["table", "person", "other", "house"]) (sc := defScope s_served_by) (by decide +kernel)) (fun _ _ _ _ _ => (pgTup (K := K) rfl (pgs_cons (pg_name (i := 2) sc_served_by.nd rfl (by first | exact .inl rfl | exact .inr rfl)) (pgs_cons (pg_name (i := 3) sc_served_by.nd rfl (by first | exact .inl rfl | exact .inr rfl)) pgs_nil)))) (fun _ _ _ _ _ => (pts_one (pt_cmpR (opEqD (K := K) hr) (pv 2) (pv 1) (nomark _)))) (fun _ _ _ _ _ => (pv 3))) pa_nil))))), ?_⟩
    refine es_seq (es_if (b := false) (et_cast (b := !decide (p ∈ people)) (by rw [decide_eq_true hp]; rfl) (et_test (ev_op (ev_d rfl) (ev_fld (ev_b rfl) B.cls B.n1 rfl) (rv_inT true)))) (fun h => nomatch h) (fun _ => es_next ?_))
    have sp := shaped_pool (tk.n1.2 p hp)
    have hpl := tk.pl
    refine es_ret (ev_cast ?d (ev_cb (ea_cons (ev_lc (ei_T (ev_fld (ev_b rfl) B.cls B.n3 rfl)) (lcr_filterT (enc := pD) (p := fun x : Str × Str => decide (x.1 = p)) (f := fun x : Str × Str => PyData.str x.2) fun x hx => ⟨_, egw_pair, et_test (ev_op (ev_d rfl) (ev_d rfl) (rv_eqS (shaped_pool (tk.n1.2 _ (tk.mem x hx).1)) sp)), fun _ => ev_d rfl⟩) (small (by rw [List.length_map]; omega))) ea_nil) rc_tupL)) ⟨rfl, rfl⟩
    case d =>
      simp only [served, tS, List.map_map]
      rfl
/-! ### what stands at the place of a name -/
def gO (d : Int × Int) : List Str → List (Int × Int) → Str → Int × Int
  | h :: hs, s :: ss, x => if h = x then s else gO d hs ss x
  | _, _, _ => d
theorem gO_map {d : Int × Int} : ∀ {hs : List Str} {ss : List (Int × Int)}, hs.Nodup → ss.length = hs.length → ss = hs.map (gO d hs ss)
  | [], [], _, _ => rfl
  | h :: hs, s :: ss, nd, hl => by
    have ih := gO_map (d := d) (List.nodup_cons.mp nd).2 (by simpa using hl)
    rw [List.map_cons]
    have h1 : gO d (h :: hs) (s :: ss) h = s := by unfold gO; rw [if_pos rfl]
    have h2 : hs.map (gO d (h :: hs) (s :: ss)) = hs.map (gO d hs ss) := List.map_congr_left fun x hx => by
      show (if h = x then s else gO d hs ss x) = _
      rw [if_neg (fun e => (List.nodup_cons.mp nd).1 (by rw [e]; exact hx))]
    rw [h1, h2, ← ih]
theorem gO_zip {d : Int × Int} {hs : List Str} {ss : List (Int × Int)} (nd : hs.Nodup) (hl : ss.length = hs.length) : hs.zip ss = hs.map fun h => (h, gO d hs ss h) := by
  have e := gO_map (d := d) nd hl
  generalize gO d hs ss = g at e
  subst e
  clear hl nd
  induction hs with
  | nil => rfl
  | cons h hs ih => rw [List.map_cons, List.zip_cons_cons, ih, List.map_cons]
theorem gO_at {d : Int × Int} {hs : List Str} {ss : List (Int × Int)} {j : Nat} {x : Str} (nd : hs.Nodup) (hl : ss.length = hs.length) (h : hs[j]? = some x) : ss[j]? = some (gO d hs ss x) := by
  have e := gO_map (d := d) nd hl
  have : (hs.map (gO d hs ss))[j]? = some (gO d hs ss x) := by rw [List.getElem?_map, h]; rfl
  rw [← e] at this
  exact this
theorem gO_mem {d : Int × Int} {hs : List Str} {ss : List (Int × Int)} {x : Str} (nd : hs.Nodup) (hl : ss.length = hs.length) (h : x ∈ hs) : gO d hs ss x ∈ ss := by
  obtain ⟨j, hj⟩ := List.getElem?_of_mem h
  exact List.mem_of_getElem? (gO_at nd hl hj)
theorem perm_nodup {α : Type} [DecidableEq α] : ∀ {l m : List α}, l.Nodup → m.Nodup → (∀ x, x ∈ l ↔ x ∈ m) → l.Perm m
  | [], m, _, _, h => by
    have : m = [] := List.eq_nil_iff_forall_not_mem.mpr fun x hx => by simpa using (h x).mpr hx
    rw [this]
  | a :: l, m, nl, nm, h => by
    have ha : a ∈ m := (h a).mp (by simp)
    have hp := List.perm_cons_erase ha
    refine List.Perm.trans (List.Perm.cons a ?_) hp.symm
    refine perm_nodup (List.nodup_cons.mp nl).2 (nm.erase a) fun x => ?_
    rw [nm.mem_erase_iff]
    constructor
    · intro hx
      exact ⟨fun e => (List.nodup_cons.mp nl).1 (e ▸ hx), (h x).mp (by simp [hx])⟩
    · rintro ⟨hne, hx⟩
      rcases List.mem_cons.mp ((h x).mpr hx) with e | hx
      · exact absurd e hne
      · exact hx
/-! ### supplies -/
def ShOk (houses : List Str) (ss : List (Int × Int)) : Prop := ss.length = houses.length ∧ ∀ p ∈ ss, Q 40 p
def supF (houses : List Str) (pairs : List (Str × Str)) (ss : List (Int × Int)) (p : Str) : Int × Int := sumF ((served pairs p).map (gO (0, 1) houses ss))
theorem served_nodup {people houses : List Str} {pairs : List (Str × Str)} (tk : TabOk people houses pairs) (p : Str) : (served pairs p).Nodup ∧ (∀ h ∈ served pairs p, h ∈ houses) ∧ (served pairs p).length ≤ 8 := by
  have hm : ∀ h ∈ served pairs p, h ∈ houses := fun h hh => by
    obtain ⟨x, hx, rfl⟩ := List.mem_map.mp hh
    exact (tk.mem x (List.mem_filter.mp hx).1).2
  have nd : (served pairs p).Nodup := by
    unfold served
    have h1 : (pairs.filter fun x => decide (x.1 = p)).Nodup := tk.nd.filter _
    have h2 : ∀ x ∈ pairs.filter (fun x => decide (x.1 = p)), x.1 = p := fun x hx => of_decide_eq_true (List.mem_filter.mp hx).2
    clear hm
    generalize (pairs.filter fun x => decide (x.1 = p)) = l at h1 h2
    induction l with
    | nil => simp
    | cons a l ih =>
      rw [List.map_cons, List.nodup_cons]
      refine ⟨fun hm => ?_, ih (List.nodup_cons.mp h1).2 fun x hx => h2 x (by simp [hx])⟩
      obtain ⟨b, hb, e⟩ := List.mem_map.mp hm
      have ea := h2 a (by simp)
      have eb := h2 b (by simp [hb])
      have : b = a := Prod.ext (eb.trans ea.symm) e
      exact (List.nodup_cons.mp h1).1 (this ▸ hb)
  refine ⟨nd, hm, ?_⟩
  have hperm := perm_nodup (l := houses.filter fun h => decide (h ∈ served pairs p)) (m := served pairs p) (tk.n2.1.filter _) nd fun x => by
    rw [List.mem_filter, decide_eq_true_iff]
    exact ⟨fun h => h.2, fun h => ⟨hm x h, h⟩⟩
  have := hperm.length_eq
  have h2 := List.length_filter_le (fun h => decide (h ∈ served pairs p)) houses
  have := tk.l2
  omega
theorem sup_is {people houses : List Str} {pairs : List (Str × Str)} {ss : List (Int × Int)} (tk : TabOk people houses pairs) (so : ShOk houses ss) (p : Str) : sumF (((houses.zip ss).filter fun z => decide (z.1 ∈ served pairs p)).map (·.2)) = supF houses pairs ss p := by
  obtain ⟨nd, hm, _⟩ := served_nodup tk p
  rw [gO_zip (d := (0, 1)) tk.n2.1 so.1]
  have e1 : ((houses.map fun h => (h, gO (0, 1) houses ss h)).filter fun z => decide (z.1 ∈ served pairs p)).map (·.2) = (houses.filter fun h => decide (h ∈ served pairs p)).map (gO (0, 1) houses ss) := by
    rw [List.filter_map, List.map_map]
    rfl
  rw [e1]
  have hperm := perm_nodup (l := houses.filter fun h => decide (h ∈ served pairs p)) (m := served pairs p) (tk.n2.1.filter _) nd fun x => by
    rw [List.mem_filter, decide_eq_true_iff]
    exact ⟨fun h => h.2, fun h => ⟨hm x h, h⟩⟩
  refine sum_perm (hperm.map _) fun q hq => ?_
  obtain ⟨h, hh, rfl⟩ := List.mem_map.mp hq
  exact (so.2 _ (gO_mem tk.n2.1 so.1 (List.mem_filter.mp hh).1)).pos
theorem sup_q {people houses : List Str} {pairs : List (Str × Str)} {ss : List (Int × Int)} (tk : TabOk people houses pairs) (so : ShOk houses ss) (p : Str) : Q 600 (supF houses pairs ss p) := by
  obtain ⟨nd, hm, hl⟩ := served_nodup tk p
  have := (sum_is (l := (served pairs p).map (gO (0, 1) houses ss)) fun q hq => by
    obtain ⟨h, hh, rfl⟩ := List.mem_map.mp hq
    exact (so.2 _ (gO_mem tk.n2.1 so.1 (hm h hh))).mono (by omega)).2
  exact this.mono (by rw [List.length_map]; omega)
theorem sc_supplies : FnScope ["table", "shares", "found", "person", "houses", "house", "share"] ["table", "shares"] (defScope s_supplies) := ⟨rfl, rfl, rfl, by decide +kernel, rfl, by decide +kernel, by decide +kernel⟩

def S_supplies (B : ClsTxt K mg) : List En → List Ow → En → List Ow → Prop := fun es R e R' => ∃ people houses pairs, ∃ ss : List (Int × Int), es = [tab B people houses pairs, .d (.tuple (ss.map frD))] ∧ R = [] ∧ R' = [] ∧ e = .d (.tuple ((people.map (supF houses pairs ss)).map frD)) ∧ TabOk people houses pairs ∧ ShOk houses ss
theorem ok_supplies (T : Txt K mg) (Z : Zs K mg) (B : ClsTxt K mg) : FnOk P w K mg base CX0 5 T.a_supplies T.d_supplies ["table", "shares"] (spS K (S_supplies B)) := by
  refine fn_es T.f_supplies sc_supplies ?len (fun cdv A outer s H E es R e R' hr hS => ?body)
  case len => rintro _ _ _ _ ⟨people, houses, pairs, ss, rfl, _⟩; rfl
  case body =>
    obtain ⟨people, houses, pairs, ss, rfl, rfl, rfl, rfl, tk, so⟩ := hS
    refine ⟨_, (pss_cons (ps_set (i := 2) sc_supplies.nd rfl (.inl rfl) (pe_lst pa_nil))
      (pss_cons (ps_for PassesOwn.never rfl (piAny (K := K) (pe_fld (pv 0) rfl)) (pg_name (i := 3) sc_supplies.nd rfl (.inl rfl)) (pss_cons (ps_set (i := 4) sc_supplies.nd rfl (.inr rfl) (pe_call (ok_served_by T Z B) (hr.mono (by decide)) (by rfl) T.g_served_by T.f_served_by.kp T.b_served_by .nil pass0 (pa_cons (pv 0) (pa_cons (pv 3) pa_nil))))
      (pss_one (ps_expr (peBm (K := K) PySem.F.slot_list_append PySem.F.type_list_append mt_append (pv 2) (pa_cons (pe_call (ok_total_of T Z B) (hr.mono (by decide)) (by rfl) T.g_total_of T.f_total_of.kp T.b_total_of .nil pass0 (pa_cons (pe_lc (own := [("house", 5), ("share", 6)]) (g := gTup K 2 (gCons (gName 5) (gCons (gName 6) gNil))) rfl sc_supplies.nd (piZip (K := K) (by rfl) T.n_zip (pa_cons (pe_fld (pv 0) rfl) (pa_cons (pv 1) pa_nil))) (blkOk_by (N := ["table", "shares", "found", "person", "houses", "house", "share"]) (sc := defScope s_supplies) (by decide +kernel)) (fun _ _ _ _ _ => (pgTup (K := K) rfl (pgs_cons (pg_name (i := 5) sc_supplies.nd rfl (by first | exact .inl rfl | exact .inr rfl)) (pgs_cons (pg_name (i := 6) sc_supplies.nd rfl (by first | exact .inl rfl | exact .inr rfl)) pgs_nil)))) (fun _ _ _ _ _ => (pts_one (pt_cmpR (opIn (K := K)) (pv 5) (pv 4) (by rfl)))) (fun _ _ _ _ _ => (pv 6))) pa_nil)) pa_nil))))))
      (pss_one (ps_ret (pe_callTy (callTup (K := K)) (by rfl) T.n_tuple (by decide +kernel) (pa_cons (pv 2) pa_nil)))))), ?_⟩
    have h1 := tk.l1
    have h2 := tk.l2
    refine es_seq (es_setO fun pF => ?_)
    refine es_seq (es_for (ei_T (ev_fld (ev_b rfl) B.cls B.n1 rfl)) (fun i ρ R => ∃ e3 e4 e5 e6, ρ = [tab B people houses pairs, .d (.tuple (ss.map frD)), .o pF, e3, e4, e5, e6] ∧ R = [] ++ .ls pF (((people.take i).map (supF houses pairs ss)).map frD) :: []) ⟨_, _, _, _, rfl, rfl⟩ ?_ ?_)
    · rintro i d ρ R hd ⟨e3, e4, e5, e6, rfl, rfl⟩
      obtain ⟨p, hpi, hpm, rfl⟩ : ∃ p, people[i]? = some p ∧ p ∈ people ∧ d = .str p := by
        rw [List.getElem?_map] at hd
        cases e : people[i]? with
        | none => rw [e] at hd; cases hd
        | some p => rw [e] at hd; exact ⟨p, rfl, List.mem_of_getElem? e, (Option.some.inj hd).symm⟩
      have hil : i < people.length := (List.getElem?_eq_some_iff.mp hpi).1
      refine ⟨_, eg_name, ?_⟩
      refine es_seq (es_set (ev_callP (Sf := S_served_by B) ⟨people, houses, pairs, p, rfl, rfl, rfl, rfl, tk, hpm⟩ (ea_cons (ev_b rfl) (ea_cons (ev_d rfl) ea_nil))) ?_)
      have hzl : (houses.zip ss).length ≤ 8 := by rw [List.length_zip]; omega
      have hq : ∀ q ∈ ((houses.zip ss).filter fun z => decide (z.1 ∈ served pairs p)).map (·.2), Q 70 q := fun q hq => by
        obtain ⟨z, hz, rfl⟩ := List.mem_map.mp hq
        exact (so.2 _ (List.of_mem_zip (List.mem_filter.mp hz).1).2).mono (by omega)
      have hql : (((houses.zip ss).filter fun z => decide (z.1 ∈ served pairs p)).map (·.2)).length ≤ 40 := by
        rw [List.length_map]
        exact Nat.le_trans (List.length_filter_le _ _) (by omega)
      have hval : ∀ {ρ : List En} {R : List Ow}, ρ[0]? = some (tab B people houses pairs) → ρ[1]? = some (.d (.tuple (ss.map frD))) → ρ[4]? = some (.d (tS (served pairs p))) → ρ.length = 7 → Ev K (tCall (spS K S_total_of) [] E0 (tCons (tLc (iZipA K (tCons (tFld K (tVar 0) "houses") (tCons (tVar 1) tNil))) (gTup K 2 (gCons (gName 5) (gCons (gName 6) gNil))) (tTest (tOp (rIn K false) (tVar 5) (tVar 4))) (tVar 6) [5, 6]) tNil)) ρ R (.d (frD (supF houses pairs ss p))) R := fun {ρ R} h0 h1 h4 hl => by
        rw [← sup_is tk so p]
        refine ev_callP (Sf := S_total_of) ⟨false, _, rfl, rfl, rfl, rfl, hql, hq⟩ (ea_cons (ev_cast ?d (ev_lc (ei_cast (prs_zip .str frD houses ss) (ei_zipT (ea_cons (ev_fld (ev_b h0) B.cls B.n2 rfl) (ea_cons (ev_d h1) ea_nil)))) (lcr_filterT (enc := fun z : Str × (Int × Int) => .tuple [.str z.1, frD z.2]) (p := fun z : Str × (Int × Int) => decide (z.1 ∈ served pairs p)) (f := fun z : Str × (Int × Int) => frD z.2) fun z hz => ⟨_, egw_pair, et_test (ev_op (ev_d ?i5) (ev_d ?i4) (rv_inT false)), fun _ => ev_d ?i6⟩) (small (by rw [List.length_map]; omega)))) ea_nil)
        case d => rw [List.map_map]; rfl
        case i5 => 
          rw [List.getElem?_set_ne (by decide), List.getElem?_set_self (by simp [wiped, hl])]
        case i6 =>
          rw [List.getElem?_set_self (by simp [wiped, hl])]
        case i4 =>
          rw [List.getElem?_set_ne (by decide), List.getElem?_set_ne (by decide)]
          show (((ρ.set 6 En.u).set 5 En.u))[4]? = _
          rw [List.getElem?_set_ne (by decide), List.getElem?_set_ne (by decide)]
          exact h4
      refine es_drop (ev_append (a := pF) (ds := ((people.take i).map (supF houses pairs ss)).map frD) (ds0 := ((people.take i).map (supF houses pairs ss)).map frD) (d := frD (supF houses pairs ss p)) (Ra := []) (Rb := []) (ev_o rfl) (by simp) (ea_cons (hval rfl rfl rfl rfl) ea_nil) (smallL (by rw [List.length_map, List.length_map, List.length_take]; omega))) ⟨_, _, _, _, rfl, ?_⟩
      rw [List.take_succ, hpi, Option.toList_some, List.map_append, List.map_append]
      rfl
    · rintro ρ R ⟨e3, e4, e5, e6, rfl, rfl⟩
      rw [List.length_map, List.take_length]
      refine es_thaw (i := 2) rfl ?_
      exact es_ret (ev_cb (ea_cons (ev_d rfl) ea_nil) rc_tupL) ⟨rfl, rfl⟩
end
end K24

namespace K24
open PySem PySem.Spec PyProof.Rows L2 StX RZ Fx Fr
section
variable {P : Program} {w : World} {K : PySem.W.Frag} {mg : Str → Option Value} {base : Heap}
theorem get_str {l : List Str} {i : Nat} {d : PyData} (h : (l.map PyData.str)[i]? = some d) : ∃ p, l[i]? = some p ∧ p ∈ l ∧ d = .str p := by
  rw [List.getElem?_map] at h
  cases e : l[i]? with
  | none => rw [e] at h; cases h
  | some p => rw [e] at h; exact ⟨p, rfl, List.mem_of_getElem? e, (Option.some.inj h).symm⟩
theorem shaped_rows {l : List (Int × Int)} : SeqAt.shaped (.list (l.map frD)) = true := by
  have h0 : ∀ p : Int × Int, PyData.canLay0 (frD p) = true ∧ PyData.depth (frD p) = 1 := fun p => ⟨by simp [PyData.canLay0, PyData.canLayAll0], by simp [PyData.depth, PyData.depthAll]⟩
  have h1 : ∀ l : List (Int × Int), PyData.canLayAll0 (l.map frD) = true ∧ PyData.depthAll (l.map frD) ≤ 1 := by
    intro l
    induction l with
    | nil => exact ⟨rfl, Nat.zero_le _⟩
    | cons p r ih =>
      refine ⟨?_, ?_⟩
      · show (PyData.canLay0 (frD p) && PyData.canLayAll0 (r.map frD)) = true
        rw [(h0 p).1, ih.1]; rfl
      · show max (PyData.depth (frD p)) (PyData.depthAll (r.map frD)) ≤ 1
        rw [(h0 p).2]
        omega
  obtain ⟨a, b⟩ := h1 l
  unfold SeqAt.shaped
  have e1 : PyData.canLay0 (.list (l.map frD)) = true := by
    first
      | exact a
      | (simp only [PyData.canLay0]; exact a)
  have e2 : PyData.depth (.list (l.map frD)) ≤ 2 := Nat.succ_le_succ b
  rw [e1]
  simp only [Bool.true_and]
  exact decide_eq_true (by omega)
theorem shaped_rowT {l : List (Int × Int)} : SeqAt.shaped (.tuple (l.map frD)) = true := by
  have := shaped_rows (l := l)
  unfold SeqAt.shaped at this ⊢
  simpa [PyData.canLay0, PyData.depth] using this
theorem shE : SeqAt.shaped (.list []) = true := by rfl
theorem eqv_nil {l : List (Int × Int)} : PyData.eqv (.list (l.map frD)) (.list []) = l.isEmpty := by rw [eqv_nilL]; cases l <;> rfl
theorem ev_isE {ρ : List En} {R R1 : List Ow} {te : TE} {l : List (Int × Int)} (h : Ev K te ρ R (.d (.list (l.map frD))) R1) : Ev K (tOp (rEqD K) te (tLst tNil)) ρ R (.d (.bool l.isEmpty)) R1 := by
  have := ev_op h (ev_lstE (ds := []) ea_nil rfl (small (by simp))) (rv_eqD shaped_rows shE)
  rw [eqv_nil] at this
  exact this
abbrev prt (people houses : List Str) (pairs : List (Str × Str)) : En := .g (prT people houses (tP pairs))
theorem first_of {l : List Str} (nd : l.Nodup) {j : Nat} {a : Str} (h : l[j]? = some a) : ∀ m, m < j → l[m]? ≠ some a := fun m hm e => by
  have := (List.getElem?_inj (List.getElem?_eq_some_iff.mp e).1 nd).mp (e.trans h.symm)
  omega
/-- a row that is read: data, or a list that is owned -/
def RowIn (e : En) (R : List Ow) (xs : List PyData) : Prop := (∃ k : Bool, e = .d (rowD k xs) ∧ R = []) ∨ ∃ p, e = .o p ∧ R = [.ls p xs]
theorem ix_row {e : En} {R0 Rf : List Ow} {xs : List PyData} {ρ : List En} {i : Nat} {ti : TE} {j : Int} {d : PyData} (hr : RowIn e R0 xs) (h : ρ[i]? = some e) (hi : Ev K ti ρ (R0 ++ Rf) (.d (.int j)) (R0 ++ Rf)) (hx : L2.atI xs j = some d) :
    Ev K (tOp (rIxA K) (tVar i) ti) ρ (R0 ++ Rf) (.d d) (R0 ++ Rf) := by
  rcases hr with ⟨k, rfl, rfl⟩ | ⟨p, rfl, rfl⟩
  · cases k with
    | true => exact ev_op (ev_d h) hi (rv_iT hx)
    | false => exact ev_op (ev_d h) hi (rv_iL hx)
  · exact ev_op (ev_o h) hi (rv_iO (Ra := []) (Rb := Rf) hx)
theorem row_tup {xs : List PyData} : RowIn (.d (.tuple xs)) [] xs := .inl ⟨true, rfl, rfl⟩
theorem sc__law_supplies : FnScope ["parts", "shares", "people", "houses", "pairs", "found", "person", "one", "house"] ["parts", "shares"] (defScope s__law_supplies) := ⟨rfl, rfl, rfl, by decide +kernel, rfl, by decide +kernel, by decide +kernel⟩

def S__law_supplies : List En → List Ow → En → List Ow → Prop := fun es R e R' => ∃ people houses pairs, ∃ ss : List (Int × Int), (∃ er R0, RowIn er R0 (ss.map frD) ∧ es = [prt people houses pairs, er] ∧ R = R0 ∧ R' = R0) ∧ e = .d (.list ((people.map (supF houses pairs ss)).map frD)) ∧ TabOk people houses pairs ∧ ShOk houses ss
theorem ok__law_supplies (T : Txt K mg) (Z : Zs K mg) (B : ClsTxt K mg) : FnOk P w K mg base CX0 5 T.a__law_supplies T.d__law_supplies ["parts", "shares"] (spS K S__law_supplies) := by
  refine fn_es T.f__law_supplies sc__law_supplies ?len (fun cdv A outer s H E es R e R' hr hS => ?body)
  case len => rintro _ _ _ _ ⟨people, houses, pairs, ss, ⟨er, R0, _, rfl, _⟩, _⟩; rfl
  case body =>
    obtain ⟨people, houses, pairs, ss, ⟨er, R0, hrow, rfl, rfl, rfl⟩, rfl, tk, so⟩ := hS
    refine ⟨_, (pss_cons (ps_asg (pv 0) (pgTup (K := K) rfl (pgs_cons (pg_name (i := 2) sc__law_supplies.nd rfl (.inl rfl)) (pgs_cons (pg_name (i := 3) sc__law_supplies.nd rfl (.inr rfl)) (pgs_cons (pg_name (i := 4) sc__law_supplies.nd rfl (.inl rfl)) pgs_nil)))))
      (pss_cons (ps_set (i := 5) sc__law_supplies.nd rfl (.inl rfl) (pe_lst pa_nil))
      (pss_cons (ps_for PassesOwn.never rfl (piAny (K := K) (pv 2)) (pg_name (i := 6) sc__law_supplies.nd rfl (.inr rfl)) (pss_one (ps_expr (peBm (K := K) PySem.F.slot_list_append PySem.F.type_list_append mt_append (pv 5) (pa_cons (pe_call (ok__law_sum T Z B) (hr.mono (by decide)) (by rfl) T.g__law_sum T.f__law_sum.kp T.b__law_sum .nil pass0 (pa_cons (pe_lc (own := [("one", 7), ("house", 8)]) (g := gTup K 2 (gCons (gName 7) (gCons (gName 8) gNil))) rfl sc__law_supplies.nd (piAny (K := K) (pv 4)) (blkOk_by (N := ["parts", "shares", "people", "houses", "pairs", "found", "person", "one", "house"]) (sc := defScope s__law_supplies) (by decide +kernel)) (fun _ _ _ _ _ => (pgTup (K := K) rfl (pgs_cons (pg_name (i := 7) sc__law_supplies.nd rfl (by first | exact .inl rfl | exact .inr rfl)) (pgs_cons (pg_name (i := 8) sc__law_supplies.nd rfl (by first | exact .inl rfl | exact .inr rfl)) pgs_nil)))) (fun _ _ _ _ _ => (pts_one (pt_cmpR (opEqD (K := K) hr) (pv 7) (pv 6) (nomark _)))) (fun _ _ _ _ _ => (pe_ix (ixAny (K := K)) (pv 1) (peBmX PySem.F.slot_tuple_index PySem.F.type_tuple_index mt_indexX (pv 3) (pa_cons (pv 8) pa_nil)) (fun _ _ => rfl)))) pa_nil)) pa_nil)))))
      (pss_one (ps_ret (pv 5)))))), ?_⟩
    have h1 := tk.l1
    have h2 := tk.l2
    have h3 := tk.pl
    refine es_seq (es_asg (ev_g rfl) (eg_t3 eg_name eg_name eg_name) ?_)
    refine es_seq (es_setO fun pF => ?_)
    refine es_seq (es_for (ei_T (ev_xd (ev_g rfl))) (fun i ρ R => ∃ e6 e7 e8, ρ = [prt people houses pairs, er, .g (prX people), .g (prX houses), .d (tP pairs), .o pF, e6, e7, e8] ∧ R = R' ++ .ls pF (((people.take i).map (supF houses pairs ss)).map frD) :: []) ⟨_, _, _, rfl, rfl⟩ ?_ ?_)
    · rintro i d ρ R hd ⟨e6, e7, e8, rfl, rfl⟩
      obtain ⟨p, hpi, hpm, rfl⟩ := get_str hd
      have hil : i < people.length := (List.getElem?_eq_some_iff.mp hpi).1
      refine ⟨_, eg_name, ?_⟩
      obtain ⟨nd, hm, hl8⟩ := served_nodup tk p
      have sp := shaped_pool (tk.n1.2 p hpm)
      have hq : ∀ q ∈ (served pairs p).map (gO (0, 1) houses ss), Q 70 q := fun q hq => by
        obtain ⟨h, hh, rfl⟩ := List.mem_map.mp hq
        exact (so.2 _ (gO_mem tk.n2.1 so.1 (hm h hh))).mono (by omega)
      have hval : ∀ {ρ : List En} {Rf : List Ow}, ρ[1]? = some er → ρ[3]? = some (.g (prX houses)) → ρ[4]? = some (.d (tP pairs)) → ρ[6]? = some (.d (.str p)) → ρ.length = 9 → Ev K (tCall (spS K S__law_sum) [] E0 (tCons (tLc (iAny K (tVar 4)) (gTup K 2 (gCons (gName 7) (gCons (gName 8) gNil))) (tTest (tOp (rEqD K) (tVar 7) (tVar 6))) (tOp (rIxA K) (tVar 1) (tBMX rTupIx (tVar 3) (tCons (tVar 8) tNil))) [7, 8]) tNil)) ρ (R' ++ Rf) (.d (frD (supF houses pairs ss p))) (R' ++ Rf) := fun {ρ Rf} g1 g3 g4 g6 hl => by
        have ws : ∀ (j : Nat) (d1 d2 : PyData), j ≠ 7 → j ≠ 8 → (((wiped ρ [7, 8]).set 7 (.d d1)).set 8 (.d d2))[j]? = ρ[j]? := fun j d1 d2 h7 h8 => by
          rw [List.getElem?_set_ne (Ne.symm h8), List.getElem?_set_ne (Ne.symm h7)]
          show ((ρ.set 8 En.u).set 7 En.u)[j]? = _
          rw [List.getElem?_set_ne (Ne.symm h7), List.getElem?_set_ne (Ne.symm h8)]
        refine ev_callP (Sf := S__law_sum) ⟨false, (served pairs p).map (gO (0, 1) houses ss), rfl, rfl, rfl, rfl, (sums_q (by rw [List.length_map]; omega) hq).1, (sums_q (by rw [List.length_map]; omega) hq).2⟩ (ea_cons (ev_cast ?d (ev_lc (ei_T (ev_d g4)) (lcr_filterT (enc := pD) (p := fun x : Str × Str => decide (x.1 = p)) (f := fun x : Str × Str => frD (gO (0, 1) houses ss x.2)) fun x hx => ⟨_, egw_pair, et_test (ev_op (ev_d ?i7) (ev_d ?i6) (rv_eqS (shaped_pool (tk.n1.2 _ (tk.mem x hx).1)) sp)), fun _ => ?el⟩) (small (by rw [List.length_map]; omega)))) ea_nil)
        case d =>
          simp only [served, List.map_map]
          rfl
        case i7 => rw [List.getElem?_set_ne (by decide), List.getElem?_set_self (by simp [wiped, hl])]
        case i6 => rw [ws 6 _ _ (by decide) (by decide)]; exact g6
        case el =>
          obtain ⟨j, hj⟩ := List.getElem?_of_mem (tk.mem x hx).2
          refine ix_row hrow (by rw [ws 1 _ _ (by decide) (by decide)]; exact g1) (ev_index (ev_g (by rw [ws 3 _ _ (by decide) (by decide)]; exact g3)) (ea_cons (ev_d ?i8) ea_nil) hj (first_of tk.n2.1 hj)) (atI_map (enc := frD) (gO_at tk.n2.1 so.1 hj))
          rw [List.getElem?_set_self (by simp [wiped, hl])]
      refine es_drop (ev_append (a := pF) (ds := ((people.take i).map (supF houses pairs ss)).map frD) (ds0 := ((people.take i).map (supF houses pairs ss)).map frD) (d := frD (supF houses pairs ss p)) (Ra := R') (Rb := []) (ev_o rfl) (by simp) (ea_cons (hval rfl rfl rfl rfl rfl) ea_nil) (smallL (by rw [List.length_map, List.length_map, List.length_take]; omega))) ⟨_, _, _, rfl, ?_⟩
      rw [List.take_succ, hpi, Option.toList_some, List.map_append, List.map_append]
      rfl
    · rintro ρ R ⟨e6, e7, e8, rfl, rfl⟩
      rw [List.length_map, List.take_length]
      exact es_ret (ev_frz (Ra := R') (Rb := []) rfl) ⟨rfl, List.append_nil _⟩
/-! ### right shares -/
def rightF (people houses : List Str) (pairs : List (Str × Str)) (ss : List (Int × Int)) : Bool := ((people.map (supF houses pairs ss)).filter fun q => decide (q.1 < q.2)).isEmpty
theorem sc__law_are_right : FnScope ["parts", "shares", "one"] ["parts", "shares"] (defScope s__law_are_right) := ⟨rfl, rfl, rfl, by decide +kernel, rfl, by decide +kernel, by decide +kernel⟩

def S__law_are_right : List En → List Ow → En → List Ow → Prop := fun es R e R' => ∃ people houses pairs, ∃ ss : List (Int × Int), es = [prt people houses pairs, .d (.tuple (ss.map frD))] ∧ R = [] ∧ R' = [] ∧ e = .d (.bool ((ss.filter fun q => decide (q.1 < 0)).isEmpty && rightF people houses pairs ss)) ∧ TabOk people houses pairs ∧ ShOk houses ss
theorem ok__law_are_right (T : Txt K mg) (Z : Zs K mg) (B : ClsTxt K mg) : FnOk P w K mg base CX0 6 T.a__law_are_right T.d__law_are_right ["parts", "shares"] (spS K S__law_are_right) := by
  refine fn_es T.f__law_are_right sc__law_are_right ?len (fun cdv A outer s H E es R e R' hr hS => ?body)
  case len => rintro _ _ _ _ ⟨people, houses, pairs, ss, rfl, _⟩; rfl
  case body =>
    obtain ⟨people, houses, pairs, ss, rfl, rfl, rfl, rfl, tk, so⟩ := hS
    refine ⟨_, (pss_one (ps_ret (pe_and (pe_cmpR (opEqD (K := K) hr) (pe_lc (own := [("one", 2)]) (g := gName 2) rfl sc__law_are_right.nd (piAny (K := K) (pv 1)) (blkOk_by (N := ["parts", "shares", "one"]) (sc := defScope s__law_are_right) (by decide +kernel)) (fun _ _ _ _ _ => (pg_name (i := 2) sc__law_are_right.nd rfl (by first | exact .inl rfl | exact .inr rfl))) (fun _ _ _ _ _ => (pts_one (pt_cmpR op_lt (pe_ix (ixAny (K := K)) (pv 2) pe_int (fun _ _ => rfl)) pe_int (nomark _)))) (fun _ _ _ _ _ => (pv 2))) (pe_lst pa_nil) (nomark _)) (pe_one (pe_cmpR (opEqD (K := K) hr) (pe_lc (own := [("one", 2)]) (g := gName 2) rfl sc__law_are_right.nd (piAny (K := K) (pe_call (ok__law_supplies T Z B) (hr.mono (by decide)) (by rfl) T.g__law_supplies T.f__law_supplies.kp T.b__law_supplies .nil pass0 (pa_cons (pv 0) (pa_cons (pv 1) pa_nil)))) (blkOk_by (N := ["parts", "shares", "one"]) (sc := defScope s__law_are_right) (by decide +kernel)) (fun _ _ _ _ _ => (pg_name (i := 2) sc__law_are_right.nd rfl (by first | exact .inl rfl | exact .inr rfl))) (fun _ _ _ _ _ => (pts_one (pt_cmpR op_lt (pe_ix (ixAny (K := K)) (pv 2) pe_int (fun _ _ => rfl)) (pe_ix (ixAny (K := K)) (pv 2) pe_int (fun _ _ => rfl)) (nomark _)))) (fun _ _ _ _ _ => (pv 2))) (pe_lst pa_nil) (nomark _)))))), ?_⟩
    have h1 := tk.l1
    have h2 := tk.l2
    have hlen := so.1
    refine es_ret (ev_andV ((ev_isE (l := ss.filter fun q => decide (q.1 < 0)) (ev_lc (ei_T (ev_d rfl)) (lcr_filterT (enc := frD) (p := fun q : Int × Int => decide (q.1 < 0)) (f := frD) fun q hq => ⟨_, egw_name, et_test (ev_op (f0 rfl) ev_int (rv_bl (g := fun i j : Int => decide (i < j)))), fun _ => ev_d rfl⟩) (small (by rw [List.length_map]; omega))))) fun _ => ev_isE (l := (people.map (supF houses pairs ss)).filter fun q => decide (q.1 < q.2)) (ev_lc (ei_L (ev_callP (Sf := S__law_supplies) ⟨people, houses, pairs, ss, ⟨_, _, row_tup, rfl, rfl, rfl⟩, rfl, tk, so⟩ (ea_cons (ev_g rfl) (ea_cons (ev_d rfl) ea_nil)))) (lcr_filterT (enc := frD) (p := fun q : Int × Int => decide (q.1 < q.2)) (f := frD) fun q hq => ⟨_, egw_name, et_test (ev_op (f0 rfl) (f1 rfl) (rv_bl (g := fun i j : Int => decide (i < j)))), fun _ => ev_d rfl⟩) (small (by rw [List.length_map, List.length_map]; omega)))) ⟨rfl, rfl⟩
end
end K24

namespace K24
open PySem PySem.Spec PyProof.Rows L2 StX RZ Fx Fr
section
variable {P : Program} {w : World} {K : PySem.W.Frag} {mg : Str → Option Value} {base : Heap}
/-! ### whom a house serves, and what they pay -/
def serving (pairs : List (Str × Str)) (h : Str) : List Str := (pairs.filter fun x => decide (x.2 = h)).map (·.1)
def paidF (people : List Str) (pairs : List (Str × Str)) (ys : List (Int × Int)) (h : Str) : Int × Int := sumF ((serving pairs h).map (gO (0, 1) people ys))
def PyOk (people : List Str) (ys : List (Int × Int)) : Prop := ys.length = people.length ∧ ∀ p ∈ ys, Q 60 p
theorem serving_nodup {people houses : List Str} {pairs : List (Str × Str)} (tk : TabOk people houses pairs) (h : Str) : (serving pairs h).Nodup ∧ (∀ p ∈ serving pairs h, p ∈ people) ∧ (serving pairs h).length ≤ 8 := by
  have hm : ∀ p ∈ serving pairs h, p ∈ people := fun p hh => by
    obtain ⟨x, hx, rfl⟩ := List.mem_map.mp hh
    exact (tk.mem x (List.mem_filter.mp hx).1).1
  have nd : (serving pairs h).Nodup := by
    unfold serving
    have h1 : (pairs.filter fun x => decide (x.2 = h)).Nodup := tk.nd.filter _
    have h2 : ∀ x ∈ pairs.filter (fun x => decide (x.2 = h)), x.2 = h := fun x hx => of_decide_eq_true (List.mem_filter.mp hx).2
    clear hm
    generalize (pairs.filter fun x => decide (x.2 = h)) = l at h1 h2
    induction l with
    | nil => simp
    | cons a l ih =>
      rw [List.map_cons, List.nodup_cons]
      refine ⟨fun hm => ?_, ih (List.nodup_cons.mp h1).2 fun x hx => h2 x (by simp [hx])⟩
      obtain ⟨b, hb, e⟩ := List.mem_map.mp hm
      have ea := h2 a (by simp)
      have eb := h2 b (by simp [hb])
      have : b = a := Prod.ext e (eb.trans ea.symm)
      exact (List.nodup_cons.mp h1).1 (this ▸ hb)
  refine ⟨nd, hm, ?_⟩
  have hperm := perm_nodup (l := people.filter fun p => decide (p ∈ serving pairs h)) (m := serving pairs h) (tk.n1.1.filter _) nd fun x => by
    rw [List.mem_filter, decide_eq_true_iff]
    exact ⟨fun h => h.2, fun h => ⟨hm x h, h⟩⟩
  have := hperm.length_eq
  have h2 := List.length_filter_le (fun p => decide (p ∈ serving pairs h)) people
  have := tk.l1
  omega
theorem paid_is {people houses : List Str} {pairs : List (Str × Str)} {ys : List (Int × Int)} (tk : TabOk people houses pairs) (so : PyOk people ys) (h : Str) : sumF (((people.zip ys).filter fun z => decide (z.1 ∈ serving pairs h)).map (·.2)) = paidF people pairs ys h := by
  obtain ⟨nd, hm, _⟩ := serving_nodup tk h
  rw [gO_zip (d := (0, 1)) tk.n1.1 so.1]
  have e1 : ((people.map fun p => (p, gO (0, 1) people ys p)).filter fun z => decide (z.1 ∈ serving pairs h)).map (·.2) = (people.filter fun p => decide (p ∈ serving pairs h)).map (gO (0, 1) people ys) := by
    rw [List.filter_map, List.map_map]
    rfl
  rw [e1]
  have hperm := perm_nodup (l := people.filter fun p => decide (p ∈ serving pairs h)) (m := serving pairs h) (tk.n1.1.filter _) nd fun x => by
    rw [List.mem_filter, decide_eq_true_iff]
    exact ⟨fun h => h.2, fun h => ⟨hm x h, h⟩⟩
  refine sum_perm (hperm.map _) fun q hq => ?_
  obtain ⟨p, hp, rfl⟩ := List.mem_map.mp hq
  exact (so.2 _ (gO_mem tk.n1.1 so.1 (List.mem_filter.mp hp).1)).pos
theorem paid_q {people houses : List Str} {pairs : List (Str × Str)} {ys : List (Int × Int)} (tk : TabOk people houses pairs) (so : PyOk people ys) (h : Str) : Q 600 (paidF people pairs ys h) := by
  obtain ⟨nd, hm, hl⟩ := serving_nodup tk h
  have := (sum_is (l := (serving pairs h).map (gO (0, 1) people ys)) fun q hq => by
    obtain ⟨p, hp, rfl⟩ := List.mem_map.mp hq
    exact (so.2 _ (gO_mem tk.n1.1 so.1 (hm p hp))).mono (by omega)).2
  exact this.mono (by rw [List.length_map]; omega)
theorem sc_serves : FnScope ["table", "house", "person", "other"] ["table", "house"] (defScope s_serves) := ⟨rfl, rfl, rfl, by decide +kernel, rfl, by decide +kernel, by decide +kernel⟩

def S_serves (B : ClsTxt K mg) : List En → List Ow → En → List Ow → Prop := fun es R e R' => ∃ people houses pairs h, es = [tab B people houses pairs, .d (.str h)] ∧ R = [] ∧ R' = [] ∧ e = .d (tS (serving pairs h)) ∧ TabOk people houses pairs ∧ h ∈ houses
theorem ok_serves (T : Txt K mg) (Z : Zs K mg) (B : ClsTxt K mg) : FnOk P w K mg base CX0 2 T.a_serves T.d_serves ["table", "house"] (spS K (S_serves B)) := by
  refine fn_es T.f_serves sc_serves ?len (fun cdv A outer s H E es R e R' hr hS => ?body)
  case len => rintro _ _ _ _ ⟨people, houses, pairs, p, rfl, _⟩; rfl
  case body =>
    obtain ⟨people, houses, pairs, h, rfl, rfl, rfl, rfl, tk, hp⟩ := hS
    refine ⟨_, (pss_cons (ps_if (pt_cmpR (opNotIn (K := K)) (pv 1) (pe_fld (pv 0) rfl) (by rfl)) (pss_one ps_dead) pss_nil)
      (pss_one (ps_ret (pe_callTy (callTup (K := K)) (by rfl) T.n_tuple (by decide +kernel) (pa_cons (pe_lc (own := [("person", 2), ("other", 3)]) (g := gTup K 2 (gCons (gName 2) (gCons (gName 3) gNil))) rfl sc_serves.nd (piAny (K := K) (pe_fld (pv 0) rfl)) (blkOk_by (N := ["table", "house", "person", "other"]) (sc := defScope s_serves) (by decide +kernel)) (fun _ _ _ _ _ => (pgTup (K := K) rfl (pgs_cons (pg_name (i := 2) sc_serves.nd rfl (by first | exact .inl rfl | exact .inr rfl)) (pgs_cons (pg_name (i := 3) sc_serves.nd rfl (by first | exact .inl rfl | exact .inr rfl)) pgs_nil)))) (fun _ _ _ _ _ => (pts_one (pt_cmpR (opEqD (K := K) hr) (pv 3) (pv 1) (nomark _)))) (fun _ _ _ _ _ => (pv 2))) pa_nil))))), ?_⟩
    refine es_seq (es_if (b := false) (et_cast (b := !decide (h ∈ houses)) (by rw [decide_eq_true hp]; rfl) (et_test (ev_op (ev_d rfl) (ev_fld (ev_b rfl) B.cls B.n2 rfl) (rv_inT true)))) (fun h => nomatch h) (fun _ => es_next ?_))
    have sp := shaped_pool (tk.n2.2 h hp)
    have hpl := tk.pl
    refine es_ret (ev_cast ?d (ev_cb (ea_cons (ev_lc (ei_T (ev_fld (ev_b rfl) B.cls B.n3 rfl)) (lcr_filterT (enc := pD) (p := fun x : Str × Str => decide (x.2 = h)) (f := fun x : Str × Str => PyData.str x.1) fun x hx => ⟨_, egw_pair, et_test (ev_op (ev_d rfl) (ev_d rfl) (rv_eqS (shaped_pool (tk.n2.2 _ (tk.mem x hx).2)) sp)), fun _ => ev_d rfl⟩) (small (by rw [List.length_map]; omega))) ea_nil) rc_tupL)) ⟨rfl, rfl⟩
    case d =>
      simp only [serving, tS, List.map_map]
      rfl
theorem sc_asked_of : FnScope ["table", "payments", "house", "people", "person", "pays"] ["table", "payments", "house"] (defScope s_asked_of) := ⟨rfl, rfl, rfl, by decide +kernel, rfl, by decide +kernel, by decide +kernel⟩

def S_asked_of (B : ClsTxt K mg) : List En → List Ow → En → List Ow → Prop := fun es R e R' => ∃ people houses pairs, ∃ ys : List (Int × Int), ∃ h, es = [tab B people houses pairs, .d (.tuple (ys.map frD)), .d (.str h)] ∧ R = [] ∧ R' = [] ∧ e = .d (frD (paidF people pairs ys h)) ∧ TabOk people houses pairs ∧ PyOk people ys ∧ h ∈ houses
theorem ok_asked_of (T : Txt K mg) (Z : Zs K mg) (B : ClsTxt K mg) : FnOk P w K mg base CX0 5 T.a_asked_of T.d_asked_of ["table", "payments", "house"] (spS K (S_asked_of B)) := by
  refine fn_es T.f_asked_of sc_asked_of ?len (fun cdv A outer s H E es R e R' hr hS => ?body)
  case len => rintro _ _ _ _ ⟨people, houses, pairs, ys, h, rfl, _⟩; rfl
  case body =>
    obtain ⟨people, houses, pairs, ys, h, rfl, rfl, rfl, rfl, tk, so, hh⟩ := hS
    refine ⟨_, (pss_cons (ps_set (i := 3) sc_asked_of.nd rfl (.inr rfl) (pe_call (ok_serves T Z B) (hr.mono (by decide)) (by rfl) T.g_serves T.f_serves.kp T.b_serves .nil pass0 (pa_cons (pv 0) (pa_cons (pv 2) pa_nil))))
      (pss_one (ps_ret (pe_call (ok_total_of T Z B) (hr.mono (by decide)) (by rfl) T.g_total_of T.f_total_of.kp T.b_total_of .nil pass0 (pa_cons (pe_lc (own := [("person", 4), ("pays", 5)]) (g := gTup K 2 (gCons (gName 4) (gCons (gName 5) gNil))) rfl sc_asked_of.nd (piZip (K := K) (by rfl) T.n_zip (pa_cons (pe_fld (pv 0) rfl) (pa_cons (pv 1) pa_nil))) (blkOk_by (N := ["table", "payments", "house", "people", "person", "pays"]) (sc := defScope s_asked_of) (by decide +kernel)) (fun _ _ _ _ _ => (pgTup (K := K) rfl (pgs_cons (pg_name (i := 4) sc_asked_of.nd rfl (by first | exact .inl rfl | exact .inr rfl)) (pgs_cons (pg_name (i := 5) sc_asked_of.nd rfl (by first | exact .inl rfl | exact .inr rfl)) pgs_nil)))) (fun _ _ _ _ _ => (pts_one (pt_cmpR (opIn (K := K)) (pv 4) (pv 3) (by rfl)))) (fun _ _ _ _ _ => (pv 5))) pa_nil))))), ?_⟩
    have h1 := tk.l1
    refine es_seq (es_set (ev_callP (Sf := S_serves B) ⟨people, houses, pairs, h, rfl, rfl, rfl, rfl, tk, hh⟩ (ea_cons (ev_b rfl) (ea_cons (ev_d rfl) ea_nil))) ?_)
    have hzl : (people.zip ys).length ≤ 8 := by rw [List.length_zip]; omega
    have hq : ∀ q ∈ ((people.zip ys).filter fun z => decide (z.1 ∈ serving pairs h)).map (·.2), Q 70 q := fun q hq => by
      obtain ⟨z, hz, rfl⟩ := List.mem_map.mp hq
      exact (so.2 _ (List.of_mem_zip (List.mem_filter.mp hz).1).2).mono (by omega)
    have hql : (((people.zip ys).filter fun z => decide (z.1 ∈ serving pairs h)).map (·.2)).length ≤ 40 := by
      rw [List.length_map]
      exact Nat.le_trans (List.length_filter_le _ _) (by omega)
    rw [← paid_is tk so h]
    refine es_ret (ev_callP (Sf := S_total_of) ⟨false, _, rfl, rfl, rfl, rfl, hql, hq⟩ (ea_cons (ev_cast ?d (ev_lc (ei_cast (prs_zip .str frD people ys) (ei_zipT (ea_cons (ev_fld (ev_b rfl) B.cls B.n1 rfl) (ea_cons (ev_d rfl) ea_nil)))) (lcr_filterT (enc := fun z : Str × (Int × Int) => .tuple [.str z.1, frD z.2]) (p := fun z : Str × (Int × Int) => decide (z.1 ∈ serving pairs h)) (f := fun z : Str × (Int × Int) => frD z.2) fun z hz => ⟨_, egw_pair, et_test (ev_op (ev_d rfl) (ev_d rfl) (rv_inT false)), fun _ => ev_d rfl⟩) (small (by rw [List.length_map]; omega)))) ea_nil)) ⟨rfl, rfl⟩
    case d => rw [List.map_map]; rfl
theorem sc_paid_to : FnScope ["table", "payments", "house"] ["table", "payments"] (defScope s_paid_to) := ⟨rfl, rfl, rfl, by decide +kernel, rfl, by decide +kernel, by decide +kernel⟩

def S_paid_to (B : ClsTxt K mg) : List En → List Ow → En → List Ow → Prop := fun es R e R' => ∃ people houses pairs, ∃ ys : List (Int × Int), es = [tab B people houses pairs, .d (.tuple (ys.map frD))] ∧ R = [] ∧ R' = [] ∧ e = .d (.tuple ((houses.map (paidF people pairs ys)).map frD)) ∧ TabOk people houses pairs ∧ PyOk people ys
theorem ok_paid_to (T : Txt K mg) (Z : Zs K mg) (B : ClsTxt K mg) : FnOk P w K mg base CX0 6 T.a_paid_to T.d_paid_to ["table", "payments"] (spS K (S_paid_to B)) := by
  refine fn_es T.f_paid_to sc_paid_to ?len (fun cdv A outer s H E es R e R' hr hS => ?body)
  case len => rintro _ _ _ _ ⟨people, houses, pairs, ys, rfl, _⟩; rfl
  case body =>
    obtain ⟨people, houses, pairs, ys, rfl, rfl, rfl, rfl, tk, so⟩ := hS
    refine ⟨_, (pss_one (ps_ret (pe_callTy (callTup (K := K)) (by rfl) T.n_tuple (by decide +kernel) (pa_cons (pe_lc (own := [("house", 2)]) (g := gName 2) rfl sc_paid_to.nd (piAny (K := K) (pe_fld (pv 0) rfl)) (blkOk_by (N := ["table", "payments", "house"]) (sc := defScope s_paid_to) (by decide +kernel)) (fun _ _ _ _ _ => (pg_name (i := 2) sc_paid_to.nd rfl (by first | exact .inl rfl | exact .inr rfl))) (fun _ _ _ _ _ => pts_nil) (fun _ _ _ _ _ => (pe_call (ok_asked_of T Z B) (hr.mono (by decide)) (by rfl) T.g_asked_of T.f_asked_of.kp T.b_asked_of .nil pass0 (pa_cons (pv 0) (pa_cons (pv 1) (pa_cons (pv 2) pa_nil)))))) pa_nil)))), ?_⟩
    have h2 := tk.l2
    refine es_ret (ev_cb (ea_cons (ev_cast ?dd (ev_lc (ei_T (ev_fld (ev_b rfl) B.cls B.n2 rfl)) (lcr_mapT (enc := PyData.str) (f := fun h : Str => frD (paidF people pairs ys h)) fun h hh => ⟨_, egw_name, ev_callP (Sf := S_asked_of B) ⟨people, houses, pairs, ys, h, rfl, rfl, rfl, rfl, tk, so, hh⟩ (ea_cons (ev_b rfl) (ea_cons (ev_d rfl) (ea_cons (ev_d rfl) ea_nil)))⟩) (small (by rw [List.length_map]; omega)))) ea_nil) rc_tupL) ⟨rfl, rfl⟩
    case dd => rw [List.map_map]; rfl
/-! ### the gaps -/
theorem prs3_zip {α β γ : Type} (f : α → PyData) (g : β → PyData) (k : γ → PyData) (xs : List α) (ys : List β) (zs : List γ) : prs3 (xs.map f) (ys.map g) (zs.map k) = (xs.zip (ys.zip zs)).map fun z => .tuple [f z.1, g z.2.1, k z.2.2] := by
  unfold prs3
  rw [List.zip_map, List.zipWith_map]
  generalize ys.zip zs = ws
  induction xs generalizing ws with
  | nil => rfl
  | cons x xs ih =>
    cases ws with
    | nil => rfl
    | cons w ws => rw [List.zipWith_cons_cons, ih, List.zip_cons_cons, List.map_cons]; rfl
def hgaps (ps : List Int) (ss pd : List (Int × Int)) : List (Int × Int) := (ps.zip (ss.zip pd)).map fun z => timesF z.2.1 (minusF (z.1, 1) z.2.2)
def pgaps (ys su : List (Int × Int)) : List (Int × Int) := (ys.zip su).map fun z => timesF z.1 (minusF z.2 (1, 1))
def PrOk (ps : List Int) : Prop := ∀ p ∈ ps, 0 ≤ p ∧ p < 1000
theorem row_t {xs : List PyData} : PyData.tuple xs = rowD true xs := rfl
theorem sc_sum_of : FnScope ["payments"] ["payments"] (defScope s_sum_of) := ⟨rfl, rfl, rfl, by decide +kernel, rfl, by decide +kernel, by decide +kernel⟩

def S_sum_of : List En → List Ow → En → List Ow → Prop := fun es R e R' => ∃ l : List (Int × Int), es = [.d (.tuple (l.map frD))] ∧ R = [] ∧ R' = [] ∧ e = .d (frD (sumF l)) ∧ l.length ≤ 40 ∧ (∀ p ∈ l, Q 70 p)
theorem ok_sum_of (T : Txt K mg) (Z : Zs K mg) (B : ClsTxt K mg) : FnOk P w K mg base CX0 5 T.a_sum_of T.d_sum_of ["payments"] (spS K S_sum_of) := by
  refine fn_es T.f_sum_of sc_sum_of ?len (fun cdv A outer s H E es R e R' hr hS => ?body)
  case len => rintro _ _ _ _ ⟨l, rfl, _⟩; rfl
  case body =>
    obtain ⟨l, rfl, rfl, rfl, rfl, hl, hp⟩ := hS
    refine ⟨_, (pss_one (ps_ret (pe_call (ok_total_of T Z B) (hr.mono (by decide)) (by rfl) T.g_total_of T.f_total_of.kp T.b_total_of .nil pass0 (pa_cons (pv 0) pa_nil)))), ?_⟩
    exact es_ret (ev_callP (Sf := S_total_of) ⟨true, l, rfl, rfl, rfl, rfl, hl, hp⟩ (ea_cons (ev_d rfl) ea_nil)) ⟨rfl, rfl⟩
theorem shaped_frD (p : Int × Int) : SeqAt.shaped (frD p) = true := by
  unfold SeqAt.shaped
  simp [PyData.canLay0, PyData.canLayAll0, PyData.depth, PyData.depthAll]
theorem eqv_frD (p q : Int × Int) : PyData.eqv (frD p) (frD q) = decide (p = q) := by
  obtain ⟨a, b⟩ := p
  obtain ⟨c, d⟩ := q
  by_cases h : (a, b) = (c, d)
  · rw [decide_eq_true h]
    cases h
    exact SeqAt.eqv_refl _ (SeqAt.canLay_of_shaped (shaped_frD _))
  · rw [decide_eq_false h]
    simp only [PyData.eqv, PyData.eqvAll, Prod.mk.injEq] at h ⊢
    simpa using h
theorem sc_do_meet : FnScope ["table", "prices", "shares", "payments"] ["table", "prices", "shares", "payments"] (defScope s_do_meet) := ⟨rfl, rfl, rfl, by decide +kernel, rfl, by decide +kernel, by decide +kernel⟩

def S_do_meet (B : ClsTxt K mg) : List En → List Ow → En → List Ow → Prop := fun es R e R' => ∃ people houses pairs, ∃ (ps : List Int) (ss ys : List (Int × Int)), es = [tab B people houses pairs, .d (.tuple (ps.map .int)), .d (.tuple (ss.map frD)), .d (.tuple (ys.map frD))] ∧ R = [] ∧ R' = [] ∧ e = .d (.bool (decide (costF (ps.zip ss) = sumF ys))) ∧ CostOk (ps.zip ss) ∧ ys.length ≤ 40 ∧ (∀ p ∈ ys, Q 70 p)
theorem ok_do_meet (T : Txt K mg) (Z : Zs K mg) (B : ClsTxt K mg) : FnOk P w K mg base CX0 6 T.a_do_meet T.d_do_meet ["table", "prices", "shares", "payments"] (spS K (S_do_meet B)) := by
  refine fn_es T.f_do_meet sc_do_meet ?len (fun cdv A outer s H E es R e R' hr hS => ?body)
  case len => rintro _ _ _ _ ⟨people, houses, pairs, ps, ss, ys, rfl, _⟩; rfl
  case body =>
    obtain ⟨people, houses, pairs, ps, ss, ys, rfl, rfl, rfl, rfl, co, hl, hp⟩ := hS
    refine ⟨_, (pss_one (ps_ret (pe_cmpR (opEqD (K := K) hr) (pe_call (ok_cost_of T Z B) (hr.mono (by decide)) (by rfl) T.g_cost_of T.f_cost_of.kp T.b_cost_of .nil pass0 (pa_cons (pv 1) (pa_cons (pv 2) pa_nil))) (pe_call (ok_sum_of T Z B) (hr.mono (by decide)) (by rfl) T.g_sum_of T.f_sum_of.kp T.b_sum_of .nil pass0 (pa_cons (pv 3) pa_nil)) (nomark _)))), ?_⟩
    refine es_ret (ev_cast (congrArg PyData.bool (eqv_frD _ _)) (ev_op (ev_callP (Sf := S_cost_of) ⟨ps, ss, rfl, rfl, rfl, rfl, co⟩ (ea_cons (ev_d rfl) (ea_cons (ev_d rfl) ea_nil))) (ev_callP (Sf := S_sum_of) ⟨ys, rfl, rfl, rfl, rfl, hl, hp⟩ (ea_cons (ev_d rfl) ea_nil)) (rv_eqD (shaped_frD _) (shaped_frD _)))) ⟨rfl, rfl⟩
theorem q11 {n : Nat} (h : 1 ≤ n) : Q n (1, 1) := ⟨Nat.one_lt_two_pow (by omega), Nat.one_lt_two_pow (by omega), by decide⟩
theorem gap_q {n : Nat} {p q r : Int × Int} (hn : 1 ≤ n) (hp : Q n p) (hq : Q n q) (hr : Q n r) : Q (3 * n + 1) (timesF p (minusF q r)) := by
  have h1 : Q (2 * n + 1) (minusF q r) := norm_sz (mul_ne (by have := hq.pos; omega) (by have := hr.pos; omega)) (((hq.top.mul hr.bot).sub (hr.top.mul hq.bot)).mono (by omega)) ((hq.bot.mul hr.bot).mono (by omega))
  exact norm_sz (mul_ne (by have := hp.pos; omega) (by have := h1.pos; omega)) ((hp.top.mul h1.top).mono (by omega)) ((hp.bot.mul h1.bot).mono (by omega))
theorem sc_share_gaps : FnScope ["table", "prices", "shares", "payments", "houses", "people", "price", "share", "paid", "pays", "supply"] ["table", "prices", "shares", "payments"] (defScope s_share_gaps) := ⟨rfl, rfl, rfl, by decide +kernel, rfl, by decide +kernel, by decide +kernel⟩

def S_share_gaps (B : ClsTxt K mg) : List En → List Ow → En → List Ow → Prop := fun es R e R' => ∃ people houses pairs, ∃ (ps : List Int) (ss ys : List (Int × Int)), es = [tab B people houses pairs, .d (.tuple (ps.map .int)), .d (.tuple (ss.map frD)), .d (.tuple (ys.map frD))] ∧ R = [] ∧ R' = [] ∧ e = .d (.tuple [.tuple ((hgaps ps ss (houses.map (paidF people pairs ys))).map frD), .tuple ((pgaps ys (people.map (supF houses pairs ss))).map frD)]) ∧ TabOk people houses pairs ∧ ShOk houses ss ∧ PyOk people ys ∧ PrOk ps ∧ ps.length = houses.length
theorem ok_share_gaps (T : Txt K mg) (Z : Zs K mg) (B : ClsTxt K mg) : FnOk P w K mg base CX0 7 T.a_share_gaps T.d_share_gaps ["table", "prices", "shares", "payments"] (spS K (S_share_gaps B)) := by
  refine fn_es T.f_share_gaps sc_share_gaps ?len (fun cdv A outer s H E es R e R' hr hS => ?body)
  case len => rintro _ _ _ _ ⟨people, houses, pairs, ps, ss, ys, rfl, _⟩; rfl
  case body =>
    obtain ⟨people, houses, pairs, ps, ss, ys, rfl, rfl, rfl, rfl, tk, so, yo, pr, hpl⟩ := hS
    refine ⟨_, (pss_cons (ps_setLc (i := 4) (own := [("price", 6), ("share", 7), ("paid", 8)]) (g := gTup K 3 (gCons (gName 6) (gCons (gName 7) (gCons (gName 8) gNil)))) rfl sc_share_gaps.nd rfl rfl (sw_true rfl rfl rfl (by decide +kernel)) (pi_zip3 (K := K) (by rfl) T.n_zip (pa_cons (pv 1) (pa_cons (pv 2) (pa_cons (pe_call (ok_paid_to T Z B) (hr.mono (by decide)) (by rfl) T.g_paid_to T.f_paid_to.kp T.b_paid_to .nil pass0 (pa_cons (pv 0) (pa_cons (pv 3) pa_nil))) pa_nil)))) (blkOk_by (N := ["table", "prices", "shares", "payments", "houses", "people", "price", "share", "paid", "pays", "supply"]) (sc := defScope s_share_gaps) (by decide +kernel)) (fun _ _ _ _ _ => (pgTup (K := K) rfl (pgs_cons (pg_name (i := 6) sc_share_gaps.nd rfl (by first | exact .inl rfl | exact .inr rfl)) (pgs_cons (pg_name (i := 7) sc_share_gaps.nd rfl (by first | exact .inl rfl | exact .inr rfl)) (pgs_cons (pg_name (i := 8) sc_share_gaps.nd rfl (by first | exact .inl rfl | exact .inr rfl)) pgs_nil))))) (fun _ _ _ _ _ => pts_nil) (fun _ _ _ _ _ => (pe_call (ok_times T Z B) (hr.mono (by decide)) (by rfl) T.g_times T.f_times.kp T.b_times .nil pass0 (pa_cons (pv 7) (pa_cons (pe_call (ok_minus T Z B) (hr.mono (by decide)) (by rfl) T.g_minus T.f_minus.kp T.b_minus .nil pass0 (pa_cons (pe_call (ok_whole T Z B) (hr.mono (by decide)) (by rfl) T.g_whole T.f_whole.kp T.b_whole .nil pass0 (pa_cons (pv 6) pa_nil)) (pa_cons (pv 8) pa_nil))) pa_nil)))))
      (pss_cons (ps_setLc (i := 5) (own := [("pays", 9), ("supply", 10)]) (g := gTup K 2 (gCons (gName 9) (gCons (gName 10) gNil))) rfl sc_share_gaps.nd rfl rfl (sw_true rfl rfl rfl (by decide +kernel)) (piZip (K := K) (by rfl) T.n_zip (pa_cons (pv 3) (pa_cons (pe_call (ok_supplies T Z B) (hr.mono (by decide)) (by rfl) T.g_supplies T.f_supplies.kp T.b_supplies .nil pass0 (pa_cons (pv 0) (pa_cons (pv 2) pa_nil))) pa_nil))) (blkOk_by (N := ["table", "prices", "shares", "payments", "houses", "people", "price", "share", "paid", "pays", "supply"]) (sc := defScope s_share_gaps) (by decide +kernel)) (fun _ _ _ _ _ => (pgTup (K := K) rfl (pgs_cons (pg_name (i := 9) sc_share_gaps.nd rfl (by first | exact .inl rfl | exact .inr rfl)) (pgs_cons (pg_name (i := 10) sc_share_gaps.nd rfl (by first | exact .inl rfl | exact .inr rfl)) pgs_nil)))) (fun _ _ _ _ _ => pts_nil) (fun _ _ _ _ _ => (pe_call (ok_times T Z B) (hr.mono (by decide)) (by rfl) T.g_times T.f_times.kp T.b_times .nil pass0 (pa_cons (pv 9) (pa_cons (pe_call (ok_minus T Z B) (hr.mono (by decide)) (by rfl) T.g_minus T.f_minus.kp T.b_minus .nil pass0 (pa_cons (pv 10) (pa_cons (pe_glob (v := .ref Z.a_ONE) (by rfl) Z.g_ONE rfl) pa_nil))) pa_nil)))))
      (pss_one (ps_ret (pe_tup (pa_cons (pe_callTy (callTup (K := K)) (by rfl) T.n_tuple (by decide +kernel) (pa_cons (pv 4) pa_nil)) (pa_cons (pe_callTy (callTup (K := K)) (by rfl) T.n_tuple (by decide +kernel) (pa_cons (pv 5) pa_nil)) pa_nil))))))), ?_⟩
    have h1 := tk.l1
    have h2 := tk.l2
    have qm : ∀ {n : Nat} {p : Int × Int}, Q n p → n ≤ 600 → Q 600 p := fun h l => h.mono l
    have up : ∀ {p : Int × Int}, Q 600 p → Q 3000 p := fun h => h.mono (by omega)
    refine es_seq (es_set (ev_cast (d := .list ((ps.zip (ss.zip (houses.map (paidF people pairs ys)))).map fun z => frD (timesF z.2.1 (minusF (z.1, 1) z.2.2)))) (d' := .list ((hgaps ps ss (houses.map (paidF people pairs ys))).map frD)) ?d1 (ev_lc (ei_cast (prs3_zip .int frD frD ps ss (houses.map (paidF people pairs ys))) (ei_zip3 (k1 := true) (k2 := true) (k3 := true) (ea_cons (ev_d rfl) (ea_cons (ev_d rfl) (ea_cons (ev_callP (Sf := S_paid_to B) ⟨people, houses, pairs, ys, rfl, rfl, rfl, rfl, tk, yo⟩ (ea_cons (ev_b rfl) (ea_cons (ev_d rfl) ea_nil))) ea_nil))))) (lcr_mapT (enc := fun z : Int × ((Int × Int) × (Int × Int)) => .tuple [.int z.1, frD z.2.1, frD z.2.2]) (f := fun z : Int × ((Int × Int) × (Int × Int)) => frD (timesF z.2.1 (minusF (z.1, 1) z.2.2))) fun z hz => ⟨_, egw_three, ?e1⟩) (small (by rw [List.length_map, List.length_zip]; omega)))) ?_)
    case d1 => rw [hgaps, List.map_map]; rfl
    case e1 =>
      obtain ⟨m1, m2⟩ := List.of_mem_zip hz
      obtain ⟨m2, m3⟩ := List.of_mem_zip m2
      have q1 : Q 600 z.2.1 := (so.2 _ m2).mono (by omega)
      have q3 : Q 600 z.2.2 := by
        obtain ⟨h, _, e⟩ := List.mem_map.mp m3
        rw [← e]; exact paid_q tk yo h
      have q2 : Q 600 (z.1, 1) := ⟨by have := pr _ m1; exact Nat.lt_of_lt_of_le (show z.1.natAbs < 2 ^ 10 by omega) (Nat.pow_le_pow_right (by omega) (by omega)), Nat.one_lt_two_pow (by omega), (show (0 : Int) < 1 by decide)⟩
      have qg := norm_sz (n := 1201) (t := z.1 * z.2.2.2 - z.2.2.1 * 1) (b := 1 * z.2.2.2) (by have := q3.pos; omega) (((q2.top.mul q3.bot).sub (q3.top.mul q2.bot)).mono (by omega)) ((q2.bot.mul q3.bot).mono (by omega))
      exact ev_callP (Sf := S_times) ⟨_, _, rfl, rfl, rfl, rfl, up q1, qg.mono (by omega)⟩ (ea_cons (ev_d rfl) (ea_cons (ev_callP (Sf := S_minus) ⟨(z.1, 1), z.2.2, rfl, rfl, rfl, rfl, up q2, up q3⟩ (ea_cons (ev_callP (Sf := S_whole) ⟨z.1, rfl, rfl, rfl, rfl⟩ (ea_cons (ev_d rfl) ea_nil)) (ea_cons (ev_d rfl) ea_nil))) ea_nil))
    refine es_seq (es_set (ev_cast (d := .list ((ys.zip (people.map (supF houses pairs ss))).map fun z => frD (timesF z.1 (minusF z.2 (1, 1))))) (d' := .list ((pgaps ys (people.map (supF houses pairs ss))).map frD)) ?d2 (ev_lc (ei_cast (prs_zip frD frD ys (people.map (supF houses pairs ss))) (ei_zipT (ea_cons (ev_d rfl) (ea_cons (ev_callP (Sf := S_supplies B) ⟨people, houses, pairs, ss, rfl, rfl, rfl, rfl, tk, so⟩ (ea_cons (ev_b rfl) (ea_cons (ev_d rfl) ea_nil))) ea_nil)))) (lcr_mapT (enc := fun z : (Int × Int) × (Int × Int) => .tuple [frD z.1, frD z.2]) (f := fun z : (Int × Int) × (Int × Int) => frD (timesF z.1 (minusF z.2 (1, 1)))) fun z hz => ⟨_, egw_pair, ?e2⟩) (small (by rw [List.length_map, List.length_zip]; have := yo.1; omega)))) ?_)
    case d2 => rw [pgaps, List.map_map]; rfl
    case e2 =>
      obtain ⟨m1, m2⟩ := List.of_mem_zip hz
      have q1 : Q 600 z.1 := (yo.2 _ m1).mono (by omega)
      have q2 : Q 600 z.2 := by
        obtain ⟨p, _, e⟩ := List.mem_map.mp m2
        rw [← e]; exact sup_q tk so p
      have q3 : Q 600 (1, 1) := q11 (by omega)
      have qg := norm_sz (n := 1201) (t := z.2.1 * 1 - 1 * z.2.2) (b := z.2.2 * 1) (by have := q2.pos; omega) (((q2.top.mul q3.bot).sub (q3.top.mul q2.bot)).mono (by omega)) ((q2.bot.mul q3.bot).mono (by omega))
      exact ev_callP (Sf := S_times) ⟨_, _, rfl, rfl, rfl, rfl, up q1, qg.mono (by omega)⟩ (ea_cons (ev_d rfl) (ea_cons (ev_callP (Sf := S_minus) ⟨z.2, (1, 1), rfl, rfl, rfl, rfl, up q2, up q3⟩ (ea_cons (ev_d rfl) (ea_cons (ev_const (ns := [1, 1]) Z.z_ONE) ea_nil))) ea_nil))
    exact es_ret (ev_tupE (ds := [.tuple _, .tuple _]) (ea_cons (ev_cb (ea_cons (ev_d rfl) ea_nil) rc_tupL) (ea_cons (ev_cb (ea_cons (ev_d rfl) ea_nil) rc_tupL) ea_nil)) rfl (small (by simp))) ⟨rfl, rfl⟩
end
end K24

namespace K24
open PySem PySem.Spec PyProof.Rows L2 StX RZ Fx Fr
section
variable {P : Program} {w : World} {K : PySem.W.Frag} {mg : Str → Option Value} {base : Heap}
theorem sc__law_less : FnScope ["one", "other"] ["one", "other"] (defScope s__law_less) := ⟨rfl, rfl, rfl, by decide +kernel, rfl, by decide +kernel, by decide +kernel⟩

def S__law_less := S2 2000 fun p q => frD (minusF p q)
theorem ok__law_less (T : Txt K mg) (Z : Zs K mg) (B : ClsTxt K mg) : FnOk P w K mg base CX0 3 T.a__law_less T.d__law_less ["one", "other"] (spS K S__law_less) := by
  refine fn_es T.f__law_less sc__law_less ?len (fun cdv A outer s H E es R e R' hr hS => ?body)
  case len => rintro _ _ _ _ ⟨p, q, rfl, _⟩; rfl
  case body =>
    obtain ⟨p, q, rfl, rfl, rfl, rfl, hp, hq⟩ := hS
    refine ⟨_, (pss_one (ps_ret (pe_call (ok__law_low T Z B) (hr.mono (by decide)) (by rfl) T.g__law_low T.f__law_low.kp T.b__law_low .nil pass0 (pa_cons (pe_op op_sub (pe_op opMul (pe_ix (ixAny (K := K)) (pv 0) pe_int (fun _ _ => rfl)) (pe_ix (ixAny (K := K)) (pv 1) pe_int (fun _ _ => rfl))) (pe_op opMul (pe_ix (ixAny (K := K)) (pv 1) pe_int (fun _ _ => rfl)) (pe_ix (ixAny (K := K)) (pv 0) pe_int (fun _ _ => rfl)))) (pa_cons (pe_op opMul (pe_ix (ixAny (K := K)) (pv 0) pe_int (fun _ _ => rfl)) (pe_ix (ixAny (K := K)) (pv 1) pe_int (fun _ _ => rfl))) pa_nil))))), ?_⟩
    exact es_ret (ev_callP ⟨_, _, rfl, rfl, rfl, rfl, Int.mul_pos hp.pos hq.pos, (hp.bot.mul hq.bot).mono (by omega)⟩ (ea_cons (ev_op (ev_mulS (f0 rfl) (f1 rfl) hp.top hq.bot) (ev_mulS (f0 rfl) (f1 rfl) hq.top hp.bot) (rv_int (g := fun i j : Int => i - j))) (ea_cons (ev_mulS (f1 rfl) (f1 rfl) hp.bot hq.bot) ea_nil))) ⟨rfl, rfl⟩
theorem sc__law_times : FnScope ["one", "other"] ["one", "other"] (defScope s__law_times) := ⟨rfl, rfl, rfl, by decide +kernel, rfl, by decide +kernel, by decide +kernel⟩

def S__law_times := S2 2000 fun p q => frD (timesF p q)
theorem ok__law_times (T : Txt K mg) (Z : Zs K mg) (B : ClsTxt K mg) : FnOk P w K mg base CX0 3 T.a__law_times T.d__law_times ["one", "other"] (spS K S__law_times) := by
  refine fn_es T.f__law_times sc__law_times ?len (fun cdv A outer s H E es R e R' hr hS => ?body)
  case len => rintro _ _ _ _ ⟨p, q, rfl, _⟩; rfl
  case body =>
    obtain ⟨p, q, rfl, rfl, rfl, rfl, hp, hq⟩ := hS
    refine ⟨_, (pss_one (ps_ret (pe_call (ok__law_low T Z B) (hr.mono (by decide)) (by rfl) T.g__law_low T.f__law_low.kp T.b__law_low .nil pass0 (pa_cons (pe_op opMul (pe_ix (ixAny (K := K)) (pv 0) pe_int (fun _ _ => rfl)) (pe_ix (ixAny (K := K)) (pv 1) pe_int (fun _ _ => rfl))) (pa_cons (pe_op opMul (pe_ix (ixAny (K := K)) (pv 0) pe_int (fun _ _ => rfl)) (pe_ix (ixAny (K := K)) (pv 1) pe_int (fun _ _ => rfl))) pa_nil))))), ?_⟩
    exact es_ret (ev_callP ⟨_, _, rfl, rfl, rfl, rfl, Int.mul_pos hp.pos hq.pos, (hp.bot.mul hq.bot).mono (by omega)⟩ (ea_cons (ev_mulS (f0 rfl) (f0 rfl) hp.top hq.top) (ea_cons (ev_mulS (f1 rfl) (f1 rfl) hp.bot hq.bot) ea_nil))) ⟨rfl, rfl⟩
theorem sc__law_paid : FnScope ["parts", "payments", "people", "houses", "pairs", "found", "house", "person", "one"] ["parts", "payments"] (defScope s__law_paid) := ⟨rfl, rfl, rfl, by decide +kernel, rfl, by decide +kernel, by decide +kernel⟩

def S__law_paid : List En → List Ow → En → List Ow → Prop := fun es R e R' => ∃ people houses pairs, ∃ ys : List (Int × Int), (∃ er R0, RowIn er R0 (ys.map frD) ∧ es = [prt people houses pairs, er] ∧ R = R0 ∧ R' = R0) ∧ e = .d (.list ((houses.map (paidF people pairs ys)).map frD)) ∧ TabOk people houses pairs ∧ PyOk people ys
theorem ok__law_paid (T : Txt K mg) (Z : Zs K mg) (B : ClsTxt K mg) : FnOk P w K mg base CX0 5 T.a__law_paid T.d__law_paid ["parts", "payments"] (spS K S__law_paid) := by
  refine fn_es T.f__law_paid sc__law_paid ?len (fun cdv A outer s H E es R e R' hr hS => ?body)
  case len => rintro _ _ _ _ ⟨people, houses, pairs, ys, ⟨er, R0, _, rfl, _⟩, _⟩; rfl
  case body =>
    obtain ⟨people, houses, pairs, ys, ⟨er, R0, hrow, rfl, rfl, rfl⟩, rfl, tk, so⟩ := hS
    refine ⟨_, (pss_cons (ps_asg (pv 0) (pgTup (K := K) rfl (pgs_cons (pg_name (i := 2) sc__law_paid.nd rfl (.inr rfl)) (pgs_cons (pg_name (i := 3) sc__law_paid.nd rfl (.inl rfl)) (pgs_cons (pg_name (i := 4) sc__law_paid.nd rfl (.inl rfl)) pgs_nil)))))
      (pss_cons (ps_set (i := 5) sc__law_paid.nd rfl (.inl rfl) (pe_lst pa_nil))
      (pss_cons (ps_for PassesOwn.never rfl (piAny (K := K) (pv 3)) (pg_name (i := 6) sc__law_paid.nd rfl (.inr rfl)) (pss_one (ps_expr (peBm (K := K) PySem.F.slot_list_append PySem.F.type_list_append mt_append (pv 5) (pa_cons (pe_call (ok__law_sum T Z B) (hr.mono (by decide)) (by rfl) T.g__law_sum T.f__law_sum.kp T.b__law_sum .nil pass0 (pa_cons (pe_lc (own := [("person", 7), ("one", 8)]) (g := gTup K 2 (gCons (gName 7) (gCons (gName 8) gNil))) rfl sc__law_paid.nd (piAny (K := K) (pv 4)) (blkOk_by (N := ["parts", "payments", "people", "houses", "pairs", "found", "house", "person", "one"]) (sc := defScope s__law_paid) (by decide +kernel)) (fun _ _ _ _ _ => (pgTup (K := K) rfl (pgs_cons (pg_name (i := 7) sc__law_paid.nd rfl (by first | exact .inl rfl | exact .inr rfl)) (pgs_cons (pg_name (i := 8) sc__law_paid.nd rfl (by first | exact .inl rfl | exact .inr rfl)) pgs_nil)))) (fun _ _ _ _ _ => (pts_one (pt_cmpR (opEqD (K := K) hr) (pv 8) (pv 6) (nomark _)))) (fun _ _ _ _ _ => (pe_ix (ixAny (K := K)) (pv 1) (peBmX PySem.F.slot_tuple_index PySem.F.type_tuple_index mt_indexX (pv 2) (pa_cons (pv 7) pa_nil)) (fun _ _ => rfl)))) pa_nil)) pa_nil)))))
      (pss_one (ps_ret (pv 5)))))), ?_⟩
    have h1 := tk.l1
    have h2 := tk.l2
    have h3 := tk.pl
    refine es_seq (es_asg (ev_g rfl) (eg_t3 eg_name eg_name eg_name) ?_)
    refine es_seq (es_setO fun pF => ?_)
    refine es_seq (es_for (ei_T (ev_xd (ev_g rfl))) (fun i ρ R => ∃ e6 e7 e8, ρ = [prt people houses pairs, er, .g (prX people), .g (prX houses), .d (tP pairs), .o pF, e6, e7, e8] ∧ R = R' ++ .ls pF (((houses.take i).map (paidF people pairs ys)).map frD) :: []) ⟨_, _, _, rfl, rfl⟩ ?_ ?_)
    · rintro i d ρ R hd ⟨e6, e7, e8, rfl, rfl⟩
      obtain ⟨h, hpi, hpm, rfl⟩ := get_str hd
      have hil : i < houses.length := (List.getElem?_eq_some_iff.mp hpi).1
      refine ⟨_, eg_name, ?_⟩
      obtain ⟨nd, hm, hl8⟩ := serving_nodup tk h
      have sp := shaped_pool (tk.n2.2 h hpm)
      have hq : ∀ q ∈ (serving pairs h).map (gO (0, 1) people ys), Q 70 q := fun q hq => by
        obtain ⟨p, hh, rfl⟩ := List.mem_map.mp hq
        exact (so.2 _ (gO_mem tk.n1.1 so.1 (hm p hh))).mono (by omega)
      have hval : ∀ {ρ : List En} {Rf : List Ow}, ρ[1]? = some er → ρ[2]? = some (.g (prX people)) → ρ[4]? = some (.d (tP pairs)) → ρ[6]? = some (.d (.str h)) → ρ.length = 9 → Ev K (tCall (spS K S__law_sum) [] E0 (tCons (tLc (iAny K (tVar 4)) (gTup K 2 (gCons (gName 7) (gCons (gName 8) gNil))) (tTest (tOp (rEqD K) (tVar 8) (tVar 6))) (tOp (rIxA K) (tVar 1) (tBMX rTupIx (tVar 2) (tCons (tVar 7) tNil))) [7, 8]) tNil)) ρ (R' ++ Rf) (.d (frD (paidF people pairs ys h))) (R' ++ Rf) := fun {ρ Rf} g1 g3 g4 g6 hl => by
        have ws : ∀ (j : Nat) (d1 d2 : PyData), j ≠ 7 → j ≠ 8 → (((wiped ρ [7, 8]).set 7 (.d d1)).set 8 (.d d2))[j]? = ρ[j]? := fun j d1 d2 h7 h8 => by
          rw [List.getElem?_set_ne (Ne.symm h8), List.getElem?_set_ne (Ne.symm h7)]
          show ((ρ.set 8 En.u).set 7 En.u)[j]? = _
          rw [List.getElem?_set_ne (Ne.symm h7), List.getElem?_set_ne (Ne.symm h8)]
        refine ev_callP (Sf := S__law_sum) ⟨false, (serving pairs h).map (gO (0, 1) people ys), rfl, rfl, rfl, rfl, (sums_q (by rw [List.length_map]; omega) hq).1, (sums_q (by rw [List.length_map]; omega) hq).2⟩ (ea_cons (ev_cast ?d (ev_lc (ei_T (ev_d g4)) (lcr_filterT (enc := pD) (p := fun x : Str × Str => decide (x.2 = h)) (f := fun x : Str × Str => frD (gO (0, 1) people ys x.1)) fun x hx => ⟨_, egw_pair, et_test (ev_op (ev_d ?i7) (ev_d ?i6) (rv_eqS (shaped_pool (tk.n2.2 _ (tk.mem x hx).2)) sp)), fun _ => ?el⟩) (small (by rw [List.length_map]; omega)))) ea_nil)
        case d =>
          simp only [serving, List.map_map]
          rfl
        case i7 => rw [List.getElem?_set_self (by simp [wiped, hl])]
        case i6 => rw [ws 6 _ _ (by decide) (by decide)]; exact g6
        case el =>
          obtain ⟨j, hj⟩ := List.getElem?_of_mem (tk.mem x hx).1
          refine ix_row hrow (by rw [ws 1 _ _ (by decide) (by decide)]; exact g1) (ev_index (ev_g (by rw [ws 2 _ _ (by decide) (by decide)]; exact g3)) (ea_cons (ev_d ?i8) ea_nil) hj (first_of tk.n1.1 hj)) (atI_map (enc := frD) (gO_at tk.n1.1 so.1 hj))
          rw [List.getElem?_set_ne (by decide), List.getElem?_set_self (by simp [wiped, hl])]
      refine es_drop (ev_append (a := pF) (ds := ((houses.take i).map (paidF people pairs ys)).map frD) (ds0 := ((houses.take i).map (paidF people pairs ys)).map frD) (d := frD (paidF people pairs ys h)) (Ra := R') (Rb := []) (ev_o rfl) (by simp) (ea_cons (hval rfl rfl rfl rfl rfl) ea_nil) (smallL (by rw [List.length_map, List.length_map, List.length_take]; omega))) ⟨_, _, _, rfl, ?_⟩
      rw [List.take_succ, hpi, Option.toList_some, List.map_append, List.map_append]
      rfl
    · rintro ρ R ⟨e6, e7, e8, rfl, rfl⟩
      rw [List.length_map, List.take_length]
      exact es_ret (ev_frz (Ra := R') (Rb := []) rfl) ⟨rfl, List.append_nil _⟩
/-! ### right payments -/
def paysF (people houses : List Str) (pairs : List (Str × Str)) (ps : List Int) (ys : List (Int × Int)) : Bool := (ys.filter fun q => decide (q.1 < 0)).isEmpty && ((ps.zip (houses.map (paidF people pairs ys))).filter fun z => decide (z.1 * z.2.2 < z.2.1)).isEmpty
theorem ones_eqv {α : Type} (l : List α) : PyData.eqv (.list (l.map fun _ => PyData.int 1)) (.list []) = l.isEmpty := by rw [eqv_nilL]; cases l <;> rfl
theorem sc__law_pays_right : FnScope ["parts", "prices", "payments", "one", "price", "paid"] ["parts", "prices", "payments"] (defScope s__law_pays_right) := ⟨rfl, rfl, rfl, by decide +kernel, rfl, by decide +kernel, by decide +kernel⟩

def S__law_pays_right : List En → List Ow → En → List Ow → Prop := fun es R e R' => ∃ people houses pairs, ∃ (ps : List Int) (ys : List (Int × Int)), es = [prt people houses pairs, .d (.tuple (ps.map .int)), .d (.tuple (ys.map frD))] ∧ R = [] ∧ R' = [] ∧ e = .d (.bool (paysF people houses pairs ps ys)) ∧ TabOk people houses pairs ∧ PyOk people ys ∧ PrOk ps
theorem shaped_ones {α : Type} (l : List α) : SeqAt.shaped (.list (l.map fun _ => PyData.int 1)) = true := by
  have h1 : PyData.canLayAll0 (l.map fun _ => PyData.int 1) = true ∧ PyData.depthAll (l.map fun _ => PyData.int 1) = 0 := by
    induction l with
    | nil => exact ⟨rfl, rfl⟩
    | cons a r ih => exact ⟨by show (PyData.canLay0 (.int 1) && PyData.canLayAll0 (r.map fun _ => PyData.int 1)) = true; rw [ih.1]; rfl, by show max (PyData.depth (.int 1)) (PyData.depthAll (r.map fun _ => PyData.int 1)) = 0; rw [ih.2]; rfl⟩
  unfold SeqAt.shaped
  have e1 : PyData.canLay0 (.list (l.map fun _ => PyData.int 1)) = true := by
    first
      | exact h1.1
      | (simp only [PyData.canLay0]; exact h1.1)
  have e2 : PyData.depth (.list (l.map fun _ => PyData.int 1)) = 1 := by show PyData.depthAll (l.map fun _ => PyData.int 1) + 1 = 1; rw [h1.2]
  rw [e1, e2]; rfl
theorem ok__law_pays_right (T : Txt K mg) (Z : Zs K mg) (B : ClsTxt K mg) : FnOk P w K mg base CX0 6 T.a__law_pays_right T.d__law_pays_right ["parts", "prices", "payments"] (spS K S__law_pays_right) := by
  refine fn_es T.f__law_pays_right sc__law_pays_right ?len (fun cdv A outer s H E es R e R' hr hS => ?body)
  case len => rintro _ _ _ _ ⟨people, houses, pairs, ps, ys, rfl, _⟩; rfl
  case body =>
    obtain ⟨people, houses, pairs, ps, ys, rfl, rfl, rfl, rfl, tk, yo, pr⟩ := hS
    refine ⟨_, (pss_cons (ps_if (pt_cmpR (opNeD (K := K) hr) (pe_lc (own := [("one", 3)]) (g := gName 3) rfl sc__law_pays_right.nd (piAny (K := K) (pv 2)) (blkOk_by (N := ["parts", "prices", "payments", "one", "price", "paid"]) (sc := defScope s__law_pays_right) (by decide +kernel)) (fun _ _ _ _ _ => (pg_name (i := 3) sc__law_pays_right.nd rfl (by first | exact .inl rfl | exact .inr rfl))) (fun _ _ _ _ _ => (pts_one (pt_cmpR op_lt (pe_ix (ixAny (K := K)) (pv 3) pe_int (fun _ _ => rfl)) pe_int (nomark _)))) (fun _ _ _ _ _ => (pv 3))) (pe_lst pa_nil) (nomark _)) (pss_one (ps_ret pe_bl)) pss_nil)
      (pss_one (ps_ret (pe_cmpR (opEqD (K := K) hr) (pe_lc (own := [("price", 4), ("paid", 5)]) (g := gTup K 2 (gCons (gName 4) (gCons (gName 5) gNil))) rfl sc__law_pays_right.nd (piZipM (K := K) (by rfl) T.n_zip (pa_cons (pv 1) (pa_cons (pe_call (ok__law_paid T Z B) (hr.mono (by decide)) (by rfl) T.g__law_paid T.f__law_paid.kp T.b__law_paid .nil pass0 (pa_cons (pv 0) (pa_cons (pv 2) pa_nil))) pa_nil))) (blkOk_by (N := ["parts", "prices", "payments", "one", "price", "paid"]) (sc := defScope s__law_pays_right) (by decide +kernel)) (fun _ _ _ _ _ => (pgTup (K := K) rfl (pgs_cons (pg_name (i := 4) sc__law_pays_right.nd rfl (by first | exact .inl rfl | exact .inr rfl)) (pgs_cons (pg_name (i := 5) sc__law_pays_right.nd rfl (by first | exact .inl rfl | exact .inr rfl)) pgs_nil)))) (fun _ _ _ _ _ => (pts_one (pt_cmpR op_gt (pe_ix (ixAny (K := K)) (pv 5) pe_int (fun _ _ => rfl)) (pe_op opMul (pv 4) (pe_ix (ixAny (K := K)) (pv 5) pe_int (fun _ _ => rfl))) (nomark _)))) (fun _ _ _ _ _ => pe_int)) (pe_lst pa_nil) (nomark _))))), ?_⟩
    have h1 := tk.l1
    have h2 := tk.l2
    have hyl := yo.1
    have l1 := ev_lc (K := K) (R := []) (ρ := [prt people houses pairs, .d (.tuple (ps.map .int)), .d (.tuple (ys.map frD)), .u, .u, .u]) (ei_T (ev_d (i := 2) rfl)) (lcr_filterT (g := gName 3) (vs := [3]) (te := tVar 3) (tt := tTest (tOp (rI0 fun i j => .bl (decide (i < j))) (tOp (rIxA K) (tVar 3) (tC (.int 0))) (tC (.int 0)))) (enc := frD) (p := fun q : Int × Int => decide (q.1 < 0)) (f := frD) fun q hq => ⟨_, egw_name, et_test (ev_op (f0 rfl) ev_int (rv_bl (g := fun i j : Int => decide (i < j)))), fun _ => ev_d rfl⟩) (small (by rw [List.length_map]; omega))
    refine es_seq (es_if (b := !(ys.filter fun q => decide (q.1 < 0)).isEmpty) (et_test (ev_cast (by rw [eqv_nil]) (ev_op l1 (ev_lstE (ds := []) ea_nil rfl (small (by simp))) (rv_neD shaped_rows shE)))) (fun h => es_ret ev_bl ⟨?_, rfl⟩) (fun h => es_next ?_))
    · unfold paysF
      rw [show (ys.filter fun q => decide (q.1 < 0)).isEmpty = false by simpa using h]
      rfl
    · have e0 : paysF people houses pairs ps ys = ((ps.zip (houses.map (paidF people pairs ys))).filter fun z => decide (z.1 * z.2.2 < z.2.1)).isEmpty := by
        unfold paysF
        rw [show (ys.filter fun q => decide (q.1 < 0)).isEmpty = true by simpa using h]
        rfl
      rw [e0]
      refine es_ret (ev_cast (congrArg PyData.bool (ones_eqv _)) (ev_op (ev_lc (ei_cast (prs_zip .int frD ps (houses.map (paidF people pairs ys))) (ei_zipM (k1 := true) (k2 := false) (ea_cons (ev_d rfl) (ea_cons (ev_callP (Sf := S__law_paid) ⟨people, houses, pairs, ys, ⟨_, _, row_tup, rfl, rfl, rfl⟩, rfl, tk, yo⟩ (ea_cons (ev_g rfl) (ea_cons (ev_d rfl) ea_nil))) ea_nil)))) (lcr_filterT (enc := fun z : Int × (Int × Int) => .tuple [.int z.1, frD z.2]) (p := fun z : Int × (Int × Int) => decide (z.1 * z.2.2 < z.2.1)) (f := fun _ => PyData.int 1) fun z hz => ⟨_, egw_pair, et_test (ev_op (f0 rfl) (ev_mulS (n := 10) (m := 600) (ev_d rfl) (f1 rfl) ?s1 ?s2) (rv_bl (g := fun i j : Int => decide (j < i)))), fun _ => ev_int⟩) (small (by rw [List.length_map, List.length_zip, List.length_map]; omega))) (ev_lstE (ds := []) ea_nil rfl (small (by simp))) (rv_eqD (shaped_ones _) shE))) ⟨rfl, rfl⟩
      case s1 =>
        have := pr _ (List.of_mem_zip hz).1
        show z.1.natAbs < 2 ^ 10
        omega
      case s2 =>
        obtain ⟨h, _, e⟩ := List.mem_map.mp (List.of_mem_zip hz).2
        rw [← e]
        exact (paid_q tk yo h).bot
end
end K24

namespace K24
open PySem PySem.Spec PyProof.Rows L2 StX RZ Fx Fr
section
variable {P : Program} {w : World} {K : PySem.W.Frag} {mg : Str → Option Value} {base : Heap}
theorem ev_callRow {Sf : List En → List Ow → En → List Ow → Prop} {ts : TA} {es : List En} {e : En} {ρ : List En} {R Ra Rb : List Ow} {o : Ow} (hs : Sf es [o] e [o]) (h : Ea K ts ρ R es (Ra ++ o :: Rb)) : Ev K (tCall (spS K Sf) [] E0 ts) ρ R e (Ra ++ o :: Rb) := fun R0 F H σ S A Q q =>
  h R0 F H σ S A _ fun vs F1 H1 x1 A1 e1 => by
    have pm : (Ra ++ o :: Rb ++ R0).Perm ([o] ++ (Ra ++ Rb ++ R0)) := by
      rw [List.append_assoc, List.cons_append, List.append_assoc]
      exact List.perm_middle
    rw [List.append_nil]
    exact ⟨es, [o], Ra ++ Rb ++ R0, F1, e, [o], hs, e1, A1.perm pm, fun v F2 H2 x2 A2 e2 => q v F2 H2 (x1.trans x2) (A2.perm pm.symm) e2⟩
/-- one of a row that is made up: in lowest terms, with a bottom that divides D, between -b and b -/
structure Fine (D b : Int) (p : Int × Int) : Prop where
  low : Low p
  isD : IsD D (val p)
  btw : Btw (b : Rat) (val p)
theorem Fine.q {D b : Int} {p : Int × Int} (h : Fine D b p) (hD : 0 < D) (hb : 0 ≤ b) (n : Nat) (hs : Sz n D) (hs2 : Sz n (b * D)) : Q n p := by
  have h1 := Int.le_of_dvd hD (den_dvd h.low h.isD)
  have h2 := top_le h.low.pos h1 hb h.btw
  have hp := h.low.pos
  exact ⟨by unfold Sz at *; omega, by unfold Sz at *; omega, hp⟩
theorem Fine.mono {D b c : Int} {p : Int × Int} (h : Fine D b p) (hc : b ≤ c) : Fine D c p := ⟨h.low, h.isD, h.btw.mono (by exact_mod_cast hc)⟩
theorem val_supF {people houses : List Str} {pairs : List (Str × Str)} {ss : List (Int × Int)} (tk : TabOk people houses pairs) (so : ShOk houses ss) (p : Str) : val (supF houses pairs ss p) = rs ((served pairs p).map fun h => val (gO (0, 1) houses ss h)) := by
  obtain ⟨nd, hm, hl⟩ := served_nodup tk p
  have := val_sum (l := (served pairs p).map (gO (0, 1) houses ss)) fun q hq => by
    obtain ⟨h, hh, rfl⟩ := List.mem_map.mp hq
    exact (so.2 _ (gO_mem tk.n2.1 so.1 (hm h hh))).pos
  rw [List.map_map] at this
  exact this
theorem val_paidF {people houses : List Str} {pairs : List (Str × Str)} {ys : List (Int × Int)} (tk : TabOk people houses pairs) (yo : PyOk people ys) (h : Str) : val (paidF people pairs ys h) = rs ((serving pairs h).map fun p => val (gO (0, 1) people ys p)) := by
  obtain ⟨nd, hm, hl⟩ := serving_nodup tk h
  have := val_sum (l := (serving pairs h).map (gO (0, 1) people ys)) fun q hq => by
    obtain ⟨p, hp, rfl⟩ := List.mem_map.mp hq
    exact (yo.2 _ (gO_mem tk.n1.1 yo.1 (hm p hp))).pos
  rw [List.map_map] at this
  exact this
theorem sum_fine {D b : Int} (hb : 0 ≤ b) {l : List Rat} (hl : l.length ≤ 8) (h1 : ∀ x ∈ l, IsD D x) (h2 : ∀ x ∈ l, Btw (b : Rat) x) : IsD D (rs l) ∧ Btw ((8 * b : Int) : Rat) (rs l) := by
  refine ⟨IsD.sum h1, (Btw.sum (by exact_mod_cast hb) h2).mono ?_⟩
  have : (l.length : Int) * b ≤ 8 * b := Int.mul_le_mul_of_nonneg_right (by omega) hb
  exact_mod_cast this
/-! ### shares that are drawn -/
def shareF (s : DS) (_ : Str) : (Int × Int) × DS := (norm (anyF 5 s).1 (1 + (anyF 5 (anyF 5 s).2).1), (anyF 5 (anyF 5 s).2).2)
theorem small_fine {t b D c : Int} (hb : 0 < b) (ht : 0 ≤ t) (hc : t ≤ c) (hd : b ∣ D) : Fine D c (norm t b) := by
  have hv := val_norm (t := t) (b := b) (by omega)
  have cb := cast_pos hb
  have e : val (norm t b) * (b : Rat) = (t : Rat) := by rw [hv]; have := cast_ne (show b ≠ 0 by omega); grind
  refine ⟨(norm_of (by omega)).1, ?_, ?_⟩
  · obtain ⟨k, rfl⟩ := hd
    exact ⟨t * k, by rw [Rat.intCast_mul, Rat.intCast_mul, ← e]; grind⟩
  · have t0 : (0 : Rat) ≤ (t : Rat) := by exact_mod_cast ht
    have tc : (t : Rat) ≤ (c : Rat) := by exact_mod_cast hc
    have c0 : (0 : Rat) ≤ (c : Rat) := by exact_mod_cast Int.le_trans ht hc
    have b1 : (1 : Rat) ≤ (b : Rat) := by exact_mod_cast (show (1 : Int) ≤ b by omega)
    have v0 : 0 ≤ val (norm t b) := by
      refine Rat.not_lt.mp fun h => ?_
      have := Rat.mul_lt_mul_of_pos_right h cb
      grind
    have v1 : val (norm t b) ≤ val (norm t b) * (b : Rat) := by
      have := Rat.mul_le_mul_of_nonneg_left b1 v0
      grind
    exact ⟨by grind, by grind⟩
theorem share_ok {s : DS} (x : Str) (h : StOk s) : Fine 60 4 (shareF s x).1 ∧ StOk (shareF s x).2 := by
  have h7 := anyF_lt (b := 5) (by omega) s
  have h6 := anyF_lt (b := 5) (by omega) (anyF 5 s).2
  refine ⟨small_fine (by omega) h7.1 (by omega) ?_, anyF_ok (anyF_ok h)⟩
  generalize (anyF 5 (anyF 5 s).2).1 = z at *
  have : z = 0 ∨ z = 1 ∨ z = 2 ∨ z = 3 ∨ z = 4 := by omega
  rcases this with rfl | rfl | rfl | rfl | rfl <;> decide
theorem less_fine {D b c : Int} {p q : Int × Int} (hp : Fine D b p) (hq : Fine D c q) : Fine D (b + c) (minusF p q) := by
  have hv := val_minus hp.low.pos hq.low.pos
  refine ⟨(minus_of hp.low hq.low).1, ?_, ?_⟩
  · rw [hv]; exact hp.isD.sub hq.isD
  · rw [hv, Rat.intCast_add]; exact hp.btw.sub hq.btw
theorem plus_fine {D b c : Int} {p q : Int × Int} (hp : Fine D b p) (hq : Fine D c q) : Fine D (b + c) (plusF p q) := by
  have hv := val_plus hp.low.pos hq.low.pos
  refine ⟨(plus_of hp.low hq.low).1, ?_, ?_⟩
  · rw [hv]; exact hp.isD.add hq.isD
  · rw [hv, Rat.intCast_add]; exact hp.btw.add hq.btw
theorem int_fine {D c : Int} (n : Int) (h : -c ≤ n ∧ n ≤ c) : Fine D c (n, 1) := by
  refine ⟨⟨(show (0 : Int) < 1 by decide), by simp⟩, by rw [val_whole]; exact IsD.int n, ?_⟩
  rw [val_whole]
  have h1 : ((-c : Int) : Rat) ≤ (n : Rat) := by exact_mod_cast h.1
  have h2 : (n : Rat) ≤ (c : Rat) := by exact_mod_cast h.2
  rw [Rat.intCast_neg] at h1
  exact ⟨h1, h2⟩
theorem sup_fine {D b : Int} (hb : 0 ≤ b) {people houses : List Str} {pairs : List (Str × Str)} {ss : List (Int × Int)} (tk : TabOk people houses pairs) (so : ShOk houses ss) (hf : ∀ p ∈ ss, Fine D b p) (p : Str) : Fine D (8 * b) (supF houses pairs ss p) := by
  obtain ⟨nd, hm, hl⟩ := served_nodup tk p
  have hx : ∀ x ∈ (served pairs p).map (fun h => val (gO (0, 1) houses ss h)), IsD D x ∧ Btw (b : Rat) x := fun x hx => by
    obtain ⟨h, hh, rfl⟩ := List.mem_map.mp hx
    have := hf _ (gO_mem (d := (0, 1)) tk.n2.1 so.1 (hm h hh))
    exact ⟨this.isD, this.btw⟩
  have := sum_fine (D := D) hb (l := (served pairs p).map fun h => val (gO (0, 1) houses ss h)) (by rw [List.length_map]; exact hl) (fun x h => (hx x h).1) (fun x h => (hx x h).2)
  rw [← val_supF tk so p] at this
  refine ⟨?_, this.1, this.2⟩
  exact fold_low _ _ ⟨by decide, by decide⟩ fun q hq => by
    obtain ⟨h, hh, rfl⟩ := List.mem_map.mp hq
    exact (so.2 _ (gO_mem tk.n2.1 so.1 (hm h hh))).pos
theorem paid_fine {D b : Int} (hb : 0 ≤ b) {people houses : List Str} {pairs : List (Str × Str)} {ys : List (Int × Int)} (tk : TabOk people houses pairs) (yo : PyOk people ys) (hf : ∀ p ∈ ys, Fine D b p) (h : Str) : Fine D (8 * b) (paidF people pairs ys h) := by
  obtain ⟨nd, hm, hl⟩ := serving_nodup tk h
  have hx : ∀ x ∈ (serving pairs h).map (fun p => val (gO (0, 1) people ys p)), IsD D x ∧ Btw (b : Rat) x := fun x hx => by
    obtain ⟨p, hp, rfl⟩ := List.mem_map.mp hx
    have := hf _ (gO_mem (d := (0, 1)) tk.n1.1 yo.1 (hm p hp))
    exact ⟨this.isD, this.btw⟩
  have := sum_fine (D := D) hb (l := (serving pairs h).map fun p => val (gO (0, 1) people ys p)) (by rw [List.length_map]; exact hl) (fun x h => (hx x h).1) (fun x h => (hx x h).2)
  rw [← val_paidF tk yo h] at this
  refine ⟨?_, this.1, this.2⟩
  exact fold_low _ _ ⟨by decide, by decide⟩ fun q hq => by
    obtain ⟨p, hp, rfl⟩ := List.mem_map.mp hq
    exact (yo.2 _ (gO_mem tk.n1.1 yo.1 (hm p hp))).pos
/-- how great shares are behind i people -/
def bS (i : Nat) : Int := 4 * 10 ^ i
theorem bS_pos (i : Nat) : 4 ≤ bS i := by
  unfold bS
  have : (0 : Int) < 10 ^ i := Int.pow_pos (by decide)
  omega
theorem bS_next (i : Nat) : bS i + (1 + 8 * bS i) ≤ bS (i + 1) := by
  have := bS_pos i
  have e : bS (i + 1) = 10 * bS i := by unfold bS; rw [Int.pow_succ]; omega
  omega
theorem bS_le {i : Nat} (h : i ≤ 8) : bS i ≤ 400000000 := by
  have : i = 0 ∨ i = 1 ∨ i = 2 ∨ i = 3 ∨ i = 4 ∨ i = 5 ∨ i = 6 ∨ i = 7 ∨ i = 8 := by omega
  rcases this with rfl | rfl | rfl | rfl | rfl | rfl | rfl | rfl | rfl <;> decide
theorem fineS_q {i : Nat} (h : i ≤ 8) {p : Int × Int} (hp : Fine 60 (bS i) p) : Q 40 p := by
  have h1 := bS_le h
  have h2 := bS_pos i
  exact hp.q (by decide) (by omega) 40 (by unfold Sz; decide) (by unfold Sz; omega)
end
end K24

namespace K24
open PySem PySem.Spec PyProof.Rows L2 StX RZ Fx Fr
section
variable {P : Program} {w : World} {K : PySem.W.Frag} {mg : Str → Option Value} {base : Heap}
theorem fine11 {D : Int} : Fine D 1 (1, 1) := int_fine 1 ⟨by decide, by decide⟩
theorem bS_mono {i : Nat} (hi : i ≤ 8) : bS i ≤ bS 8 := by
  have : i = 0 ∨ i = 1 ∨ i = 2 ∨ i = 3 ∨ i = 4 ∨ i = 5 ∨ i = 6 ∨ i = 7 ∨ i = 8 := by omega
  rcases this with rfl | rfl | rfl | rfl | rfl | rfl | rfl | rfl | rfl <;> decide
theorem sh_of_fine {i : Nat} (hi : i ≤ 8) {houses : List Str} {ss : List (Int × Int)} (hl : ss.length = houses.length) (hf : ∀ p ∈ ss, Fine 60 (bS i) p) : ShOk houses ss := ⟨hl, fun p hp => fineS_q hi (hf p hp)⟩
theorem sc__law_shares : FnScope ["deal", "parts", "shares", "at", "supply", "house", "number", "person"] ["deal", "parts"] (defScope s__law_shares) := ⟨rfl, rfl, rfl, by decide +kernel, rfl, by decide +kernel, by decide +kernel⟩

def N_shares : List En → List Ow → (En → List Ow → Prop) → Prop := fun es R Po => ∃ aD aC s people houses pairs, es = [.o aD, prt people houses pairs] ∧ R = dR aD aC s ∧ StOk s ∧ TabOk people houses pairs ∧ houses ≠ [] ∧ Po = fun e R' => ∃ (ss : List (Int × Int)) (s' : DS), e = .d (.tuple (ss.map frD)) ∧ R' = dR aD aC s' ∧ StOk s' ∧ ss.length = houses.length ∧ ∀ p ∈ ss, Fine 60 (bS 8) p
theorem ok__law_shares (T : Txt K mg) (Z : Zs K mg) (B : ClsTxt K mg) : FnOk P w K mg base CX0 6 T.a__law_shares T.d__law_shares ["deal", "parts"] (spN K N_shares) := by
  refine fn_esN T.f__law_shares sc__law_shares ?len (fun cdv A outer s H E es R Po hr hS => ?body)
  case len => rintro _ _ _ ⟨aD, aC, s, people, houses, pairs, rfl, _⟩; rfl
  case body =>
    obtain ⟨aD, aC, st, people, houses, pairs, rfl, rfl, hok, tk, hne, rfl⟩ := hS
    refine ⟨_, (pss_cons (ps_setLc (i := 2) (own := [("house", 5)]) (g := gName 5) rfl sc__law_shares.nd rfl rfl (sw_true rfl rfl rfl (by decide +kernel)) (piAny (K := K) (pe_ix (ixAny (K := K)) (pv 1) pe_int (fun _ _ => rfl))) (blkOk_by (N := ["deal", "parts", "shares", "at", "supply", "house", "number", "person"]) (sc := defScope s__law_shares) (by decide +kernel)) (fun _ _ _ _ _ => (pg_name (i := 5) sc__law_shares.nd rfl (by first | exact .inl rfl | exact .inr rfl))) (fun _ _ _ _ _ => pts_nil) (fun _ _ _ _ _ => (pe_call (ok__law_low T Z B) (hr.mono (by decide)) (by rfl) T.g__law_low T.f__law_low.kp T.b__law_low .nil pass0 (pa_cons (pe_call (ok__law_any T) (hr.mono (by decide)) (by rfl) T.g__law_any T.f__law_any.kp T.b__law_any .nil pass0 (pa_cons (pv 0) (pa_cons pe_int pa_nil))) (pa_cons (pe_op (opAdd (K := K)) pe_int (pe_call (ok__law_any T) (hr.mono (by decide)) (by rfl) T.g__law_any T.f__law_any.kp T.b__law_any .nil pass0 (pa_cons (pv 0) (pa_cons pe_int pa_nil)))) pa_nil)))))
      (pss_cons (ps_if (pt_cmpR (opEqD (K := K) hr) (pe_call (ok__law_any T) (hr.mono (by decide)) (by rfl) T.g__law_any T.f__law_any.kp T.b__law_any .nil pass0 (pa_cons (pv 0) (pa_cons pe_int pa_nil))) pe_int (nomark _)) (pss_one (ps_ret (pe_callTy (callTup (K := K)) (by rfl) T.n_tuple (by decide +kernel) (pa_cons (pv 2) pa_nil)))) pss_nil)
      (pss_cons (ps_for PassesOwn.never rfl (pi_range1 rfl T.n_range (pa_cons (pe_callB (callLen (K := K)) (by rfl) T.n_len (by decide +kernel) (pa_cons (pe_ix (ixAny (K := K)) (pv 1) pe_int (fun _ _ => rfl)) pa_nil)) pa_nil)) (pg_name (i := 3) sc__law_shares.nd rfl (.inr rfl)) (pss_cons (ps_set (i := 4) sc__law_shares.nd rfl (.inl rfl) (pe_ix (ixAny (K := K)) (pe_call (ok__law_supplies T Z B) (hr.mono (by decide)) (by rfl) T.g__law_supplies T.f__law_supplies.kp T.b__law_supplies .nil pass0 (pa_cons (pv 1) (pa_cons (pv 2) pa_nil))) (pv 3) (fun _ _ => rfl)))
      (pss_one (ps_if (pt_cmpR op_lt (pe_ix (ixAny (K := K)) (pv 4) pe_int (fun _ _ => rfl)) (pe_ix (ixAny (K := K)) (pv 4) pe_int (fun _ _ => rfl)) (nomark _)) (pss_cons (ps_set (i := 5) sc__law_shares.nd rfl (.inl rfl) (pe_ix (ixAny (K := K)) (pe_lc (own := [("person", 7), ("house", 5)]) (g := gTup K 2 (gCons (gName 7) (gCons (gName 5) gNil))) rfl sc__law_shares.nd (piAny (K := K) (pe_ix (ixAny (K := K)) (pv 1) pe_int (fun _ _ => rfl))) (blkOk_by (N := ["deal", "parts", "shares", "at", "supply", "house", "number", "person"]) (sc := defScope s__law_shares) (by decide +kernel)) (fun _ _ _ _ _ => (pgTup (K := K) rfl (pgs_cons (pg_name (i := 7) sc__law_shares.nd rfl (by first | exact .inl rfl | exact .inr rfl)) (pgs_cons (pg_name (i := 5) sc__law_shares.nd rfl (by first | exact .inl rfl | exact .inr rfl)) pgs_nil)))) (fun _ _ _ _ _ => (pts_one (pt_cmpR (opEqD (K := K) hr) (pv 7) (pe_ix (ixAny (K := K)) (pe_ix (ixAny (K := K)) (pv 1) pe_int (fun _ _ => rfl)) (pv 3) (fun _ _ => rfl)) (nomark _)))) (fun _ _ _ _ _ => (pv 5))) (pe_un un_neg pe_int) (fun _ _ => rfl)))
      (pss_cons (ps_set (i := 6) sc__law_shares.nd rfl (.inl rfl) (peBmX PySem.F.slot_tuple_index PySem.F.type_tuple_index mt_indexX (pe_ix (ixAny (K := K)) (pv 1) pe_int (fun _ _ => rfl)) (pa_cons (pv 5) pa_nil)))
      (pss_one (ps_asg (pe_call (ok__law_plus T Z B) (hr.mono (by decide)) (by rfl) T.g__law_plus T.f__law_plus.kp T.b__law_plus .nil pass0 (pa_cons (pe_ix (ixAny (K := K)) (pv 2) (pv 6) (fun _ _ => rfl)) (pa_cons (pe_call (ok__law_less T Z B) (hr.mono (by decide)) (by rfl) T.g__law_less T.f__law_less.kp T.b__law_less .nil pass0 (pa_cons (pe_tup (pa_cons pe_int (pa_cons pe_int pa_nil))) (pa_cons (pv 4) pa_nil))) pa_nil))) (pg_sub (pv 2) (pv 6) set_list (fun _ => rfl)))))) pss_nil))))
      (pss_one (ps_ret (pe_callTy (callTup (K := K)) (by rfl) T.n_tuple (by decide +kernel) (pa_cons (pv 2) pa_nil))))))), ?_⟩
    have h1 := tk.l1
    have h2 := tk.l2
    have h3 := tk.pl
    have hall := mapS_all (f := shareF) (Iv := StOk) (Q := Fine 60 4) (fun s x hs => share_ok x hs) houses st hok
    refine es_seq (es_setLcO (ei_T (ev_xd (ev_op (ev_g rfl) ev_int rv_t1))) (lcr_state (β := Int × Int) (enc := PyData.str) (enc' := frD) (Rg := dR aD aC) (s := st) (Inv := StOk) (f := shareF) hok fun s a _ hs => ⟨(share_ok a hs).2, _, egw_name, ?el⟩) (small (by rw [List.length_map]; omega)) fun pS => ?_)
    case el =>
      have h6 := anyF_lt (b := 5) (by omega) (anyF 5 s).2
      exact ev_callP (Sf := S__law_low) ⟨(anyF 5 s).1, 1 + (anyF 5 (anyF 5 s).2).1, rfl, rfl, rfl, rfl, by omega, by
        unfold Sz
        generalize (anyF 5 (anyF 5 s).2).1 = z at *
        exact Nat.lt_of_lt_of_le (show (1 + z).natAbs < 2 ^ 3 by omega) (Nat.pow_le_pow_right (by omega) (by omega))⟩ (ea_cons (ev_any rfl ev_int (by omega) (by omega) hs) (ea_cons (ev_op ev_int (ev_any rfl ev_int (by omega) (by omega) (anyF_ok hs)) rv_addI) ea_nil))
    obtain ⟨hf0, ok1, hl0⟩ := hall
    generalize (mapS shareF st houses).1 = ss0 at hf0 hl0
    generalize (mapS shareF st houses).2 = s1 at ok1
    have done : ∀ {ss : List (Int × Int)} {i : Nat} {s : DS}, i ≤ 8 → StOk s → ss.length = houses.length → (∀ p ∈ ss, Fine 60 (bS i) p) → ∃ (ss' : List (Int × Int)) (s' : DS), En.d (.tuple (ss.map frD)) = .d (.tuple (ss'.map frD)) ∧ dR aD aC s = dR aD aC s' ∧ StOk s' ∧ ss'.length = houses.length ∧ ∀ p ∈ ss', Fine 60 (bS 8) p := fun {ss i s} hi ok hl hf => ⟨ss, s, rfl, rfl, ok, hl, fun p hp => (hf p hp).mono (bS_mono hi)⟩
    have hfS : ∀ p ∈ ss0, Fine 60 (bS 0) p := fun p hp => (hf0 p hp).mono (by decide)
    refine es_seq (es_if (b := decide ((anyF 4 s1).1 = 0)) (R1 := dR aD aC (anyF 4 s1).2 ++ [.ls pS (ss0.map frD)]) (et_test (ev_op (ev_anyR (Rf := [.ls pS (ss0.map frD)]) rfl ev_int (by omega) (by omega) ok1) ev_int rv_eqI)) (fun _ => ?_) (fun _ => es_next ?_))
    · refine es_thaw (i := 2) rfl ?_
      exact es_ret (ev_cb (ea_cons (ev_d rfl) ea_nil) rc_tupL) (by rw [List.append_nil]; exact done (i := 0) (by omega) (anyF_ok ok1) hl0 hfS)
    have ok2 := anyF_ok (b := 4) ok1
    generalize (anyF 4 s1).2 = s2 at ok2
    refine es_seq (es_for (ei_rngN (n := people.length) (ea_cons (ev_cast (d := .int ((people.map PyData.str).length : Int)) (by rw [List.length_map]) (ev_cb (ea_cons (ev_xd (ev_op (ev_g rfl) ev_int rv_t0)) ea_nil) rc_lenT)) ea_nil) (by omega)) (fun i ρ R => ∃ ss e3 e4 e5 e6 e7, ρ = [.o aD, prt people houses pairs, .o pS, e3, e4, e5, e6, e7] ∧ R = dR aD aC s2 ++ .ls pS (ss.map frD) :: [] ∧ ss.length = houses.length ∧ ∀ p ∈ ss, Fine 60 (bS i) p) ⟨ss0, _, _, _, _, _, rfl, rfl, hl0, hfS⟩ ?_ ?_)
    · rintro i d ρ R hd ⟨ss, e3, e4, e5, e6, e7, rfl, rfl, hl, hf⟩
      obtain ⟨hil, rfl⟩ : i < people.length ∧ d = .int ((i : Nat) : Int) := by
        rw [List.getElem?_map] at hd
        by_cases h : i < people.length
        · rw [List.getElem?_range h] at hd
          exact ⟨h, (Option.some.inj hd).symm⟩
        · rw [List.getElem?_eq_none (by rw [List.length_range]; omega)] at hd; cases hd
      obtain ⟨p, hp⟩ : ∃ p, people[i]? = some p := ⟨_, List.getElem?_eq_getElem hil⟩
      have hpm := List.mem_of_getElem? hp
      have hi8 : i ≤ 8 := by omega
      have so := sh_of_fine hi8 hl hf
      refine ⟨_, eg_name, ?_⟩
      refine es_seq (es_set (ev_op (ev_callRow (Ra := dR aD aC s2) (Rb := []) (o := .ls pS (ss.map frD)) (Sf := S__law_supplies) ⟨people, houses, pairs, ss, ⟨_, _, .inr ⟨pS, rfl, rfl⟩, rfl, rfl, rfl⟩, rfl, tk, so⟩ (ea_cons (ev_g rfl) (ea_cons (ev_o rfl) ea_nil))) (ev_d rfl) (rv_iL (atI_map (enc := frD) (l := people.map (supF houses pairs ss)) (j := i) (by rw [List.getElem?_map, hp]; rfl)))) ?_)
      have sq := sup_q tk so p
      have sf := sup_fine (by have := bS_pos i; omega) tk so hf p
      have hmono : ∀ q ∈ ss, Fine 60 (bS (i + 1)) q := fun q hq => (hf q hq).mono (by have := bS_next i; have := bS_pos i; omega)
      refine es_if (b := decide ((supF houses pairs ss p).1 < (supF houses pairs ss p).2)) (et_test (ev_op (f0 rfl) (f1 rfl) (rv_bl (g := fun i j : Int => decide (i < j))))) (fun _ => ?_) (fun _ => es_next ⟨ss, _, _, _, _, _, rfl, rfl, hl, hmono⟩)
      obtain ⟨h0, hh0⟩ := tk.full hne p hpm
      have hsv : h0 ∈ served pairs p := by
        unfold served
        exact List.mem_map.mpr ⟨(p, h0), List.mem_filter.mpr ⟨hh0, by simp⟩, rfl⟩
      have hsn : served pairs p ≠ [] := by rintro e; rw [e] at hsv; simp at hsv
      have hlast : L2.atI ((served pairs p).map PyData.str) (-1) = some (.str ((served pairs p).getLast hsn)) := by
        have hl1 : 0 < (served pairs p).length := List.length_pos_iff.mpr hsn
        have e : ixN ((served pairs p).map PyData.str).length (-1) = some ((served pairs p).length - 1) := by
          rw [List.length_map]
          unfold ixN
          rw [if_neg (by omega), if_pos (by omega)]
          congr 1
          omega
        unfold L2.atI
        rw [e, List.getLast_eq_getElem]
        show ((served pairs p).map PyData.str)[(served pairs p).length - 1]? = _
        rw [List.getElem?_map, List.getElem?_eq_getElem (by omega)]
        rfl
      have hlm : (served pairs p).getLast hsn ∈ houses := (served_nodup tk p).2.1 _ (List.getLast_mem hsn)
      generalize (served pairs p).getLast hsn = h at hlast hlm
      have sp := shaped_pool (tk.n1.2 p hpm)
      have hlc : ∀ {R : List Ow} {ρ : List En}, ρ[1]? = some (prt people houses pairs) → ρ[3]? = some (.d (.int (i : Int))) → ρ.length = 8 → Ev K (tLc (iAny K (tOp (rIxA K) (tVar 1) (tC (.int 2)))) (gTup K 2 (gCons (gName 7) (gCons (gName 5) gNil))) (tTest (tOp (rEqD K) (tVar 7) (tOp (rIxA K) (tOp (rIxA K) (tVar 1) (tC (.int 0))) (tVar 3)))) (tVar 5) [7, 5]) ρ R (.d (.list ((served pairs p).map .str))) R := fun {R ρ} g1 g3 hlen => by
        have ws : ∀ (j : Nat) (d1 d2 : PyData), j ≠ 7 → j ≠ 5 → (((wiped ρ [7, 5]).set 7 (.d d1)).set 5 (.d d2))[j]? = ρ[j]? := fun j d1 d2 h7 h8 => by
          rw [List.getElem?_set_ne (Ne.symm h8), List.getElem?_set_ne (Ne.symm h7)]
          show ((ρ.set 5 En.u).set 7 En.u)[j]? = _
          rw [List.getElem?_set_ne (Ne.symm h7), List.getElem?_set_ne (Ne.symm h8)]
        refine ev_cast ?dd (ev_lc (ei_T (ev_op (ev_g g1) ev_int rv_t2)) (lcr_filterT (enc := pD) (p := fun x : Str × Str => decide (x.1 = p)) (f := fun x : Str × Str => PyData.str x.2) fun x hx => ⟨_, egw_pair, et_test (ev_op (ev_d ?i7) (ev_op (ev_xd (ev_op (ev_g ?i1) ev_int (rv_t0 (l1 := people) (l2 := houses) (d := tP pairs)))) (ev_d ?i3) (rv_iT (atI_map (enc := PyData.str) hp))) (rv_eqS (shaped_pool (tk.n1.2 _ (tk.mem x hx).1)) sp)), fun _ => ev_d ?i5⟩) (small (by rw [List.length_map]; omega)))
        case dd => simp only [served, List.map_map]; rfl
        case i7 => rw [List.getElem?_set_ne (by decide), List.getElem?_set_self (by simp [wiped, hlen])]
        case i1 => rw [ws 1 _ _ (by decide) (by decide)]; exact g1
        case i3 => rw [ws 3 _ _ (by decide) (by decide)]; exact g3
        case i5 => rw [List.getElem?_set_self (by simp [wiped, hlen])]
      refine es_seq (es_set (ev_op (hlc rfl rfl rfl) (ev_neg ev_int) (rv_iL hlast)) ?_)
      obtain ⟨j, hj⟩ := List.getElem?_of_mem hlm
      refine es_seq (es_set (ev_index (ev_op (ev_g rfl) ev_int rv_t1) (ea_cons (ev_d rfl) ea_nil) hj (first_of tk.n2.1 hj)) ?_)
      have hjl : j < ss.length := by rw [hl]; exact (List.getElem?_eq_some_iff.mp hj).1
      obtain ⟨x, hx⟩ : ∃ x, ss[j]? = some x := ⟨_, List.getElem?_eq_getElem hjl⟩
      have xf := hf x (List.mem_of_getElem? hx)
      have xq := fineS_q hi8 xf
      have lf := less_fine (fine11 (D := 60)) sf
      have nf := plus_fine xf lf
      have lq : Q 1300 (minusF (1, 1) (supF houses pairs ss p)) := norm_sz (mul_ne (by decide) (by have := sq.pos; omega)) ((((q11 (n := 600) (by omega)).top.mul sq.bot).sub (sq.top.mul (q11 (n := 600) (by omega)).bot)).mono (by omega)) (((q11 (n := 600) (by omega)).bot.mul sq.bot).mono (by omega))
      refine es_storeL (Ra := dR aD aC s2) (Rb := []) (d := frD (plusF x (minusF (1, 1) (supF houses pairs ss p)))) (j := j) (ev_callP (Sf := S__law_plus) ⟨x, minusF (1, 1) (supF houses pairs ss p), rfl, rfl, rfl, rfl, xq.mono (by omega), lq.mono (by omega)⟩ (ea_cons (ev_op (ev_o rfl) (ev_d rfl) (rv_iO (Ra := dR aD aC s2) (Rb := []) (atI_map (enc := frD) hx))) (ea_cons (ev_callP (Sf := S__law_less) ⟨(1, 1), supF houses pairs ss p, rfl, rfl, rfl, rfl, q11 (by omega), sq.mono (by omega)⟩ (ea_cons (ev_tupE (ds := [.int 1, .int 1]) (ea_cons ev_int (ea_cons ev_int ea_nil)) rfl (small (by simp))) (ea_cons (ev_d rfl) ea_nil))) ea_nil))) (ev_o rfl) (ev_d rfl) ?ix ⟨ss.set j (plusF x (minusF (1, 1) (supF houses pairs ss p))), _, _, _, _, _, rfl, by rw [List.map_set], by rw [List.length_set]; exact hl, fun q hq => ?_⟩
      case ix =>
        rw [List.length_map]
        unfold ixN
        simp [hjl]
      rcases List.mem_or_eq_of_mem_set hq with hq | rfl
      · exact hmono q hq
      · exact nf.mono (bS_next i)
    · rintro ρ R ⟨ss, e3, e4, e5, e6, e7, rfl, rfl, hl, hf⟩
      rw [List.length_map, List.length_range] at hf
      refine es_thaw (i := 2) rfl ?_
      exact es_ret (ev_cb (ea_cons (ev_d rfl) ea_nil) rc_tupL) (by rw [List.append_nil]; exact done (i := people.length) (by omega) ok2 hl hf)
end
end K24

namespace K24
open PySem PySem.Spec PyProof.Rows L2 StX RZ Fx Fr
section
variable {P : Program} {w : World} {K : PySem.W.Frag} {mg : Str → Option Value} {base : Heap}
def bP (i : Nat) : Int := 1000 * 10 ^ i
def dP (i : Nat) : Int := 6 ^ i
theorem bP_pos (i : Nat) : 1000 ≤ bP i := by
  unfold bP
  have : (0 : Int) < 10 ^ i := Int.pow_pos (by decide)
  omega
theorem dP_pos (i : Nat) : 0 < dP i := Int.pow_pos (by decide)
theorem bP_next (i : Nat) : bP (i + 1) = 10 * bP i := by unfold bP; rw [Int.pow_succ]; omega
theorem dP_next (i : Nat) : dP (i + 1) = dP i * 6 := by unfold dP; rw [Int.pow_succ]
theorem bdP_le {i : Nat} (h : i ≤ 8) : bP i ≤ 100000000000 ∧ dP i ≤ 1679616 ∧ (1000 + 8 * bP i) * dP i ≤ 1600000000000000000 := by
  have : i = 0 ∨ i = 1 ∨ i = 2 ∨ i = 3 ∨ i = 4 ∨ i = 5 ∨ i = 6 ∨ i = 7 ∨ i = 8 := by omega
  rcases this with rfl | rfl | rfl | rfl | rfl | rfl | rfl | rfl | rfl <;> decide
theorem fineP_q {i : Nat} (h : i ≤ 8) {p : Int × Int} (hp : Fine (dP i) (bP i) p) : Q 60 p := by
  obtain ⟨h1, h2, h3⟩ := bdP_le h
  have h4 := bP_pos i
  have h5 := dP_pos i
  refine hp.q h5 (by omega) 60 (by unfold Sz; omega) ?_
  have : bP i * dP i ≤ 100000000000 * 1679616 := Int.mul_le_mul h1 h2 (by omega) (by omega)
  have h6 : 0 ≤ bP i * dP i := Int.mul_nonneg (by omega) (by omega)
  unfold Sz
  omega
theorem fineR_q {i : Nat} (h : i ≤ 8) {p : Int × Int} (hp : Fine (dP i) (1000 + 8 * bP i) p) : Q 64 p := by
  obtain ⟨h1, h2, h3⟩ := bdP_le h
  have h4 := bP_pos i
  have h5 := dP_pos i
  refine hp.q h5 (by omega) 64 (by unfold Sz; omega) ?_
  have h6 : 0 ≤ (1000 + 8 * bP i) * dP i := Int.mul_nonneg (by omega) (by omega)
  unfold Sz
  omega
theorem btw_mul {B x y : Rat} (h : Btw B x) (h0 : 0 ≤ y) (h1 : y ≤ 1) : Btw B (x * y) := by
  obtain ⟨a, b⟩ := h
  by_cases hx : 0 ≤ x
  · have e1 := Rat.mul_le_mul_of_nonneg_left h1 hx
    have e2 := Rat.mul_nonneg hx h0
    exact ⟨by grind, by grind⟩
  · have hx' : 0 ≤ -x := by grind
    have e1 := Rat.mul_le_mul_of_nonneg_left h1 hx'
    have e2 := Rat.mul_nonneg hx' h0
    exact ⟨by grind, by grind⟩
def PARTL : List (Int × Int) := [(1, 1), (1, 1), (1, 2), (0, 1), (2, 3)]
theorem part_ok : ∀ q ∈ PARTL, Low q ∧ Q 3 q ∧ IsD 6 (val q) ∧ 0 ≤ val q ∧ val q ≤ 1 := by
  intro q hq
  unfold PARTL at hq
  simp only [List.mem_cons, List.not_mem_nil, or_false] at hq
  have v : ∀ (t b n : Int), 0 < b → t * (6 : Int) = n * b → 0 ≤ t → t ≤ b → IsD 6 (val (t, b)) ∧ 0 ≤ val (t, b) ∧ val (t, b) ≤ 1 := fun t b n hb he h0 h1 => by
    have cb := cast_pos hb
    have cn := cast_ne (show b ≠ 0 by omega)
    have e := val_mul (p := (t, b)) hb
    simp only at e
    have h0' : (0 : Rat) ≤ (t : Rat) := by exact_mod_cast h0
    have h1' : (t : Rat) ≤ (b : Rat) := by exact_mod_cast h1
    have he' : (t : Rat) * ((6 : Int) : Rat) = (n : Rat) * (b : Rat) := by exact_mod_cast he
    refine ⟨⟨n, ?_⟩, ?_, ?_⟩
    · grind
    · refine Rat.not_lt.mp fun h => ?_
      have := Rat.mul_lt_mul_of_pos_right h cb
      grind
    · refine Rat.not_lt.mp fun h => ?_
      have := Rat.mul_lt_mul_of_pos_right h cb
      grind
  have qq : ∀ (t b : Int), 0 < b → b < 8 → 0 ≤ t → t < 8 → Q 3 (t, b) := fun t b h1 h2 h3 h4 => ⟨by unfold Sz; omega, by unfold Sz; omega, h1⟩
  rcases hq with rfl | rfl | rfl | rfl | rfl
  · exact ⟨⟨by decide, by decide⟩, qq 1 1 (by decide) (by decide) (by decide) (by decide), v 1 1 6 (by decide) (by decide) (by decide) (by decide)⟩
  · exact ⟨⟨by decide, by decide⟩, qq 1 1 (by decide) (by decide) (by decide) (by decide), v 1 1 6 (by decide) (by decide) (by decide) (by decide)⟩
  · exact ⟨⟨by decide, by decide⟩, qq 1 2 (by decide) (by decide) (by decide) (by decide), v 1 2 3 (by decide) (by decide) (by decide) (by decide)⟩
  · exact ⟨⟨by decide, by decide⟩, qq 0 1 (by decide) (by decide) (by decide) (by decide), v 0 1 0 (by decide) (by decide) (by decide) (by decide)⟩
  · exact ⟨⟨by decide, by decide⟩, qq 2 3 (by decide) (by decide) (by decide) (by decide), v 2 3 4 (by decide) (by decide) (by decide) (by decide)⟩
theorem times_part {i : Nat} {p q : Int × Int} (hp : Fine (dP i) (1000 + 8 * bP i) p) (hq : q ∈ PARTL) : Fine (dP (i + 1)) (bP (i + 1)) (timesF p q) := by
  obtain ⟨ql, _, qd, q0, q1⟩ := part_ok q hq
  have hv := val_times hp.low.pos ql.pos
  have h4 := bP_pos i
  refine ⟨(times_of hp.low ql).1, ?_, ?_⟩
  · rw [hv, dP_next]; exact hp.isD.mul qd
  · rw [hv, bP_next]
    refine (btw_mul hp.btw q0 q1).mono ?_
    exact_mod_cast (show 1000 + 8 * bP i ≤ 10 * bP i by omega)
def payF (s : DS) (_ : Str) : (Int × Int) × DS := (norm (anyF 9 s).1 (1 + (anyF 3 (anyF 9 s).2).1), (anyF 3 (anyF 9 s).2).2)
theorem fine_up {i : Nat} (hi : i ≤ 8) {p : Int × Int} (h : Fine (dP i) (bP i) p) : Fine (dP 8) (bP 8) p := by
  have e1 : dP 8 = dP i * 6 ^ (8 - i) := by unfold dP; rw [← Int.pow_add]; congr 1; omega
  have e2 : bP i ≤ bP 8 := by
    have : bP 8 = bP i * 10 ^ (8 - i) := by unfold bP; rw [Int.mul_assoc, ← Int.pow_add]; congr 2; omega
    rw [this]
    have h1 := bP_pos i
    have h2 : (0 : Int) < 10 ^ (8 - i) := Int.pow_pos (by decide)
    have := Int.mul_le_mul_of_nonneg_left (show (1 : Int) ≤ 10 ^ (8 - i) by omega) (show 0 ≤ bP i by omega)
    omega
  exact ⟨h.low, by rw [e1]; exact h.isD.up _, h.btw.mono (by exact_mod_cast e2)⟩
theorem pay_ok {s : DS} (x : Str) (h : StOk s) : Fine (dP 8) (bP 8) (payF s x).1 ∧ StOk (payF s x).2 := by
  have h7 := anyF_lt (b := 9) (by omega) s
  have h6 := anyF_lt (b := 3) (by omega) (anyF 9 s).2
  refine ⟨(small_fine (c := 8) (by omega) h7.1 (by omega) ?_).mono (by decide), anyF_ok (anyF_ok h)⟩
  generalize (anyF 3 (anyF 9 s).2).1 = z at *
  have : z = 0 ∨ z = 1 ∨ z = 2 := by omega
  rcases this with rfl | rfl | rfl <;> decide
def restF (ps : List Int) (pd : List (Int × Int)) : List (Int × Int) := (ps.zip pd).map fun z => minusF (z.1, 1) z.2
theorem sc__law_payments : FnScope ["deal", "parts", "prices", "found", "at", "houses", "rest", "some", "least", "one", "part", "person", "house", "price", "paid"] ["deal", "parts", "prices"] (defScope s__law_payments) := ⟨rfl, rfl, rfl, by decide +kernel, rfl, by decide +kernel, by decide +kernel⟩

def N_payments : List En → List Ow → (En → List Ow → Prop) → Prop := fun es R Po => ∃ aD aC s people houses pairs, ∃ ps : List Int, es = [.o aD, prt people houses pairs, .d (.tuple (ps.map .int))] ∧ R = dR aD aC s ∧ StOk s ∧ TabOk people houses pairs ∧ houses ≠ [] ∧ PrOk ps ∧ ps.length = houses.length ∧ Po = fun e R' => ∃ (ys : List (Int × Int)) (s' : DS), e = .d (.tuple (ys.map frD)) ∧ R' = dR aD aC s' ∧ StOk s' ∧ ys.length = people.length ∧ ∀ p ∈ ys, Fine (dP 8) (bP 8) p
theorem ok__law_payments (T : Txt K mg) (Z : Zs K mg) (B : ClsTxt K mg) : FnOk P w K mg base CX0 6 T.a__law_payments T.d__law_payments ["deal", "parts", "prices"] (spN K N_payments) := by
  refine fn_esN T.f__law_payments sc__law_payments ?len (fun cdv A outer s H E es R Po hr hS => ?body)
  case len => rintro _ _ _ ⟨aD, aC, s, people, houses, pairs, ps, rfl, _⟩; rfl
  case body =>
    obtain ⟨aD, aC, st, people, houses, pairs, ps, rfl, rfl, hok, tk, hne, pr, hpl, rfl⟩ := hS
    refine ⟨_, (pss_cons (ps_setLc (i := 3) (own := [("person", 11)]) (g := gName 11) rfl sc__law_payments.nd rfl rfl (sw_true rfl rfl rfl (by decide +kernel)) (piAny (K := K) (pe_ix (ixAny (K := K)) (pv 1) pe_int (fun _ _ => rfl))) (blkOk_by (N := ["deal", "parts", "prices", "found", "at", "houses", "rest", "some", "least", "one", "part", "person", "house", "price", "paid"]) (sc := defScope s__law_payments) (by decide +kernel)) (fun _ _ _ _ _ => (pg_name (i := 11) sc__law_payments.nd rfl (by first | exact .inl rfl | exact .inr rfl))) (fun _ _ _ _ _ => pts_nil) (fun _ _ _ _ _ => (pe_tup (pa_cons pe_int (pa_cons pe_int pa_nil)))))
      (pss_cons (ps_for PassesOwn.never rfl (pi_range1 rfl T.n_range (pa_cons (pe_callB (callLen (K := K)) (by rfl) T.n_len (by decide +kernel) (pa_cons (pe_ix (ixAny (K := K)) (pv 1) pe_int (fun _ _ => rfl)) pa_nil)) pa_nil)) (pg_name (i := 4) sc__law_payments.nd rfl (.inr rfl)) (pss_cons (ps_setLc (i := 5) (own := [("person", 11), ("house", 12)]) (g := gTup K 2 (gCons (gName 11) (gCons (gName 12) gNil))) rfl sc__law_payments.nd rfl rfl (sw_true rfl rfl rfl (by decide +kernel)) (piAny (K := K) (pe_ix (ixAny (K := K)) (pv 1) pe_int (fun _ _ => rfl))) (blkOk_by (N := ["deal", "parts", "prices", "found", "at", "houses", "rest", "some", "least", "one", "part", "person", "house", "price", "paid"]) (sc := defScope s__law_payments) (by decide +kernel)) (fun _ _ _ _ _ => (pgTup (K := K) rfl (pgs_cons (pg_name (i := 11) sc__law_payments.nd rfl (by first | exact .inl rfl | exact .inr rfl)) (pgs_cons (pg_name (i := 12) sc__law_payments.nd rfl (by first | exact .inl rfl | exact .inr rfl)) pgs_nil)))) (fun _ _ _ _ _ => (pts_one (pt_cmpR (opEqD (K := K) hr) (pv 11) (pe_ix (ixAny (K := K)) (pe_ix (ixAny (K := K)) (pv 1) pe_int (fun _ _ => rfl)) (pv 4) (fun _ _ => rfl)) (nomark _)))) (fun _ _ _ _ _ => (pv 12)))
      (pss_cons (ps_set (i := 6) sc__law_payments.nd rfl (.inr rfl) (pe_lc (own := [("price", 13), ("paid", 14)]) (g := gTup K 2 (gCons (gName 13) (gCons (gName 14) gNil))) rfl sc__law_payments.nd (piZipM (K := K) (by rfl) T.n_zip (pa_cons (pv 2) (pa_cons (pe_call (ok__law_paid T Z B) (hr.mono (by decide)) (by rfl) T.g__law_paid T.f__law_paid.kp T.b__law_paid .nil pass0 (pa_cons (pv 1) (pa_cons (pv 3) pa_nil))) pa_nil))) (blkOk_by (N := ["deal", "parts", "prices", "found", "at", "houses", "rest", "some", "least", "one", "part", "person", "house", "price", "paid"]) (sc := defScope s__law_payments) (by decide +kernel)) (fun _ _ _ _ _ => (pgTup (K := K) rfl (pgs_cons (pg_name (i := 13) sc__law_payments.nd rfl (by first | exact .inl rfl | exact .inr rfl)) (pgs_cons (pg_name (i := 14) sc__law_payments.nd rfl (by first | exact .inl rfl | exact .inr rfl)) pgs_nil)))) (fun _ _ _ _ _ => pts_nil) (fun _ _ _ _ _ => (pe_call (ok__law_less T Z B) (hr.mono (by decide)) (by rfl) T.g__law_less T.f__law_less.kp T.b__law_less .nil pass0 (pa_cons (pe_tup (pa_cons (pv 13) (pa_cons pe_int pa_nil))) (pa_cons (pv 14) pa_nil))))))
      (pss_cons (ps_setLc (i := 7) (own := [("house", 12)]) (g := gName 12) rfl sc__law_payments.nd rfl rfl (sw_true rfl rfl rfl (by decide +kernel)) (piAny (K := K) (pv 5)) (blkOk_by (N := ["deal", "parts", "prices", "found", "at", "houses", "rest", "some", "least", "one", "part", "person", "house", "price", "paid"]) (sc := defScope s__law_payments) (by decide +kernel)) (fun _ _ _ _ _ => (pg_name (i := 12) sc__law_payments.nd rfl (by first | exact .inl rfl | exact .inr rfl))) (fun _ _ _ _ _ => pts_nil) (fun _ _ _ _ _ => (pe_ix (ixAny (K := K)) (pv 6) (peBmX PySem.F.slot_tuple_index PySem.F.type_tuple_index mt_indexX (pe_ix (ixAny (K := K)) (pv 1) pe_int (fun _ _ => rfl)) (pa_cons (pv 12) pa_nil)) (fun _ _ => rfl))))
      (pss_cons (ps_set (i := 8) sc__law_payments.nd rfl (.inl rfl) (pe_ix (ixAny (K := K)) (pv 7) pe_int (fun _ _ => rfl)))
      (pss_cons (ps_for PassesOwn.never rfl (piAny (K := K) (pv 7)) (pg_name (i := 9) sc__law_payments.nd rfl (.inl rfl)) (pss_one (ps_set (i := 8) sc__law_payments.nd rfl (.inl rfl) (pe_ifExp (pt_cmpR op_lt (pe_ix (ixAny (K := K)) (pe_call (ok__law_less T Z B) (hr.mono (by decide)) (by rfl) T.g__law_less T.f__law_less.kp T.b__law_less .nil pass0 (pa_cons (pv 9) (pa_cons (pv 8) pa_nil))) pe_int (fun _ _ => rfl)) pe_int (nomark _)) (pv 9) (pv 8)))))
      (pss_cons (ps_set (i := 10) sc__law_payments.nd rfl (.inl rfl) (pe_call (ok__law_of T) (hr.mono (by decide)) (by rfl) T.g__law_of T.f__law_of.kp T.b__law_of .nil pass0 (pa_cons (pv 0) (pa_cons (pe_lst (pa_cons (pe_tup (pa_cons pe_int (pa_cons pe_int pa_nil))) (pa_cons (pe_tup (pa_cons pe_int (pa_cons pe_int pa_nil))) (pa_cons (pe_tup (pa_cons pe_int (pa_cons pe_int pa_nil))) (pa_cons (pe_tup (pa_cons pe_int (pa_cons pe_int pa_nil))) (pa_cons (pe_tup (pa_cons pe_int (pa_cons pe_int pa_nil))) pa_nil)))))) pa_nil))))
      (pss_one (ps_asg (pe_call (ok__law_times T Z B) (hr.mono (by decide)) (by rfl) T.g__law_times T.f__law_times.kp T.b__law_times .nil pass0 (pa_cons (pv 8) (pa_cons (pv 10) pa_nil))) (pg_sub (pv 3) (pv 4) set_list (fun _ => rfl)))))))))))
      (pss_cons (ps_if (pt_cmpR (opEqD (K := K) hr) (pe_call (ok__law_any T) (hr.mono (by decide)) (by rfl) T.g__law_any T.f__law_any.kp T.b__law_any .nil pass0 (pa_cons (pv 0) (pa_cons pe_int pa_nil))) pe_int (nomark _)) (pss_one (ps_setLc (i := 3) (own := [("person", 11)]) (g := gName 11) rfl sc__law_payments.nd rfl rfl (sw_true rfl rfl rfl (by decide +kernel)) (piAny (K := K) (pe_ix (ixAny (K := K)) (pv 1) pe_int (fun _ _ => rfl))) (blkOk_by (N := ["deal", "parts", "prices", "found", "at", "houses", "rest", "some", "least", "one", "part", "person", "house", "price", "paid"]) (sc := defScope s__law_payments) (by decide +kernel)) (fun _ _ _ _ _ => (pg_name (i := 11) sc__law_payments.nd rfl (by first | exact .inl rfl | exact .inr rfl))) (fun _ _ _ _ _ => pts_nil) (fun _ _ _ _ _ => (pe_call (ok__law_low T Z B) (hr.mono (by decide)) (by rfl) T.g__law_low T.f__law_low.kp T.b__law_low .nil pass0 (pa_cons (pe_call (ok__law_any T) (hr.mono (by decide)) (by rfl) T.g__law_any T.f__law_any.kp T.b__law_any .nil pass0 (pa_cons (pv 0) (pa_cons pe_int pa_nil))) (pa_cons (pe_op (opAdd (K := K)) pe_int (pe_call (ok__law_any T) (hr.mono (by decide)) (by rfl) T.g__law_any T.f__law_any.kp T.b__law_any .nil pass0 (pa_cons (pv 0) (pa_cons pe_int pa_nil)))) pa_nil)))))) pss_nil)
      (pss_one (ps_ret (pe_callTy (callTup (K := K)) (by rfl) T.n_tuple (by decide +kernel) (pa_cons (pv 3) pa_nil))))))), ?_⟩
    have h1 := tk.l1
    have h2 := tk.l2
    have h3 := tk.pl
    refine es_seq (es_setLcO (ei_T (ev_xd (ev_op (ev_g rfl) ev_int rv_t0))) (lcr_mapT (enc := PyData.str) (f := fun _ : Str => frD (0, 1)) fun a _ => ⟨_, egw_name, ev_tupE (ds := [.int 0, .int 1]) (ea_cons ev_int (ea_cons ev_int ea_nil)) rfl (small (by simp))⟩) (small (by rw [List.length_map]; omega)) fun pF => ?_)
    have f0' : ∀ p ∈ people.map (fun _ => ((0 : Int), (1 : Int))), Fine (dP 0) (bP 0) p := fun p hp => by
      obtain ⟨_, _, rfl⟩ := List.mem_map.mp hp
      exact int_fine 0 (by decide)
    refine es_seq (es_for (ei_rngN (n := people.length) (ea_cons (ev_cast (d := .int ((people.map PyData.str).length : Int)) (by rw [List.length_map]) (ev_cb (ea_cons (ev_xd (ev_op (ev_g rfl) ev_int rv_t0)) ea_nil) rc_lenT)) ea_nil) (by omega)) (fun i ρ R => ∃ (ys : List (Int × Int)) (s : DS), ∃ e4 e5 e6 e7 e8 e9 e10 e11 e12 e13 e14, ρ = [.o aD, prt people houses pairs, .d (.tuple (ps.map .int)), .o pF, e4, e5, e6, e7, e8, e9, e10, e11, e12, e13, e14] ∧ R = dR aD aC s ++ .ls pF (ys.map frD) :: [] ∧ StOk s ∧ ys.length = people.length ∧ ∀ p ∈ ys, Fine (dP i) (bP i) p) ⟨people.map (fun _ => (0, 1)), st, _, _, _, _, _, _, _, _, _, _, _, rfl, by rw [List.map_map]; rfl, hok, List.length_map _, f0'⟩ ?_ ?_)
    · rintro i d ρ R hd ⟨ys, s, e4, e5, e6, e7, e8, e9, e10, e11, e12, e13, e14, rfl, rfl, ok, hl, hf⟩
      obtain ⟨hil, rfl⟩ : i < people.length ∧ d = .int ((i : Nat) : Int) := by
        rw [List.getElem?_map] at hd
        by_cases h : i < people.length
        · rw [List.getElem?_range h] at hd
          exact ⟨h, (Option.some.inj hd).symm⟩
        · rw [List.getElem?_eq_none (by rw [List.length_range]; omega)] at hd; cases hd
      obtain ⟨p, hp⟩ : ∃ p, people[i]? = some p := ⟨_, List.getElem?_eq_getElem hil⟩
      have hpm := List.mem_of_getElem? hp
      have hi8 : i ≤ 8 := by omega
      have yo : PyOk people ys := ⟨hl, fun q hq => fineP_q hi8 (hf q hq)⟩
      refine ⟨_, eg_name, ?_⟩
      have sp := shaped_pool (tk.n1.2 p hpm)
      have hlc : ∀ {R : List Ow} {ρ : List En}, ρ[1]? = some (prt people houses pairs) → ρ[4]? = some (.d (.int (i : Int))) → ρ.length = 15 → Ev K (tLc (iAny K (tOp (rIxA K) (tVar 1) (tC (.int 2)))) (gTup K 2 (gCons (gName 11) (gCons (gName 12) gNil))) (tTest (tOp (rEqD K) (tVar 11) (tOp (rIxA K) (tOp (rIxA K) (tVar 1) (tC (.int 0))) (tVar 4)))) (tVar 12) [11, 12]) ρ R (.d (.list ((served pairs p).map .str))) R := fun {R ρ} g1 g3 hlen => by
        have ws : ∀ (j : Nat) (d1 d2 : PyData), j ≠ 11 → j ≠ 12 → (((wiped ρ [11, 12]).set 11 (.d d1)).set 12 (.d d2))[j]? = ρ[j]? := fun j d1 d2 h7 h8 => by
          rw [List.getElem?_set_ne (Ne.symm h8), List.getElem?_set_ne (Ne.symm h7)]
          show ((ρ.set 12 En.u).set 11 En.u)[j]? = _
          rw [List.getElem?_set_ne (Ne.symm h7), List.getElem?_set_ne (Ne.symm h8)]
        refine ev_cast ?dd (ev_lc (ei_T (ev_op (ev_g g1) ev_int rv_t2)) (lcr_filterT (enc := pD) (p := fun x : Str × Str => decide (x.1 = p)) (f := fun x : Str × Str => PyData.str x.2) fun x hx => ⟨_, egw_pair, et_test (ev_op (ev_d ?i7) (ev_op (ev_xd (ev_op (ev_g ?i1) ev_int (rv_t0 (l1 := people) (l2 := houses) (d := tP pairs)))) (ev_d ?i3) (rv_iT (atI_map (enc := PyData.str) hp))) (rv_eqS (shaped_pool (tk.n1.2 _ (tk.mem x hx).1)) sp)), fun _ => ev_d ?i5⟩) (small (by rw [List.length_map]; omega)))
        case dd => simp only [served, List.map_map]; rfl
        case i7 => rw [List.getElem?_set_ne (by decide), List.getElem?_set_self (by simp [wiped, hlen])]
        case i1 => rw [ws 1 _ _ (by decide) (by decide)]; exact g1
        case i3 => rw [ws 4 _ _ (by decide) (by decide)]; exact g3
        case i5 => rw [List.getElem?_set_self (by simp [wiped, hlen])]
      refine es_seq (es_set (hlc rfl rfl rfl) ?_)
      have pf : ∀ q ∈ houses.map (paidF people pairs ys), Fine (dP i) (8 * bP i) q ∧ Q 600 q := fun q hq => by
        obtain ⟨h, _, rfl⟩ := List.mem_map.mp hq
        exact ⟨paid_fine (by have := bP_pos i; omega) tk yo hf h, paid_q tk yo h⟩
      have prf : ∀ c ∈ ps, Fine (dP i) 1000 (c, 1) ∧ Q 10 (c, 1) := fun c hc => by
        have := pr c hc
        exact ⟨int_fine c (by omega), ⟨by unfold Sz; omega, (show (1 : Int).natAbs < 2 ^ 10 by decide), (show (0 : Int) < 1 by decide)⟩⟩
      refine es_seq (es_set (ev_cast (d := .list ((ps.zip (houses.map (paidF people pairs ys))).map fun z => frD (minusF (z.1, 1) z.2))) (d' := .list ((restF ps (houses.map (paidF people pairs ys))).map frD)) (by rw [restF, List.map_map]; rfl) (ev_lc (ei_cast (prs_zip .int frD ps (houses.map (paidF people pairs ys))) (ei_zipM (k1 := true) (k2 := false) (ea_cons (ev_d rfl) (ea_cons (ev_callRow (Ra := dR aD aC s) (Rb := []) (o := .ls pF (ys.map frD)) (Sf := S__law_paid) ⟨people, houses, pairs, ys, ⟨_, _, .inr ⟨pF, rfl, rfl⟩, rfl, rfl, rfl⟩, rfl, tk, yo⟩ (ea_cons (ev_g rfl) (ea_cons (ev_o rfl) ea_nil))) ea_nil)))) (lcr_mapT (enc := fun z : Int × (Int × Int) => .tuple [.int z.1, frD z.2]) (f := fun z : Int × (Int × Int) => frD (minusF (z.1, 1) z.2)) fun z hz => ⟨_, egw_pair, ev_callP (Sf := S__law_less) ⟨(z.1, 1), z.2, rfl, rfl, rfl, rfl, (prf _ (List.of_mem_zip hz).1).2.mono (by omega), (pf _ (List.of_mem_zip hz).2).2.mono (by omega)⟩ (ea_cons (ev_tupE (ds := [.int z.1, .int 1]) (ea_cons (ev_d rfl) (ea_cons ev_int ea_nil)) rfl (small (by simp))) (ea_cons (ev_d rfl) ea_nil))⟩) (small (by rw [List.length_map, List.length_zip, List.length_map]; omega)))) ?_)
      have rf : ∀ q ∈ restF ps (houses.map (paidF people pairs ys)), Fine (dP i) (1000 + 8 * bP i) q := fun q hq => by
        obtain ⟨z, hz, rfl⟩ := List.mem_map.mp hq
        exact less_fine (prf _ (List.of_mem_zip hz).1).1 (pf _ (List.of_mem_zip hz).2).1
      have rl : (restF ps (houses.map (paidF people pairs ys))).length = houses.length := by
        unfold restF
        rw [List.length_map, List.length_zip, List.length_map]
        omega
      generalize restF ps (houses.map (paidF people pairs ys)) = rest at rf rl
      obtain ⟨nd, hsm, hs8⟩ := served_nodup tk p
      refine es_seq (es_set (ev_cast (d := .list ((served pairs p).map fun h => frD (gO (0, 1) houses rest h))) (d' := .list (((served pairs p).map (gO (0, 1) houses rest)).map frD)) (by rw [List.map_map]; rfl) (ev_lc (ei_L (ev_d rfl)) (lcr_mapT (enc := PyData.str) (f := fun h : Str => frD (gO (0, 1) houses rest h)) fun h hh => ?so) (small (by rw [List.length_map]; omega)))) ?_)
      case so =>
        obtain ⟨j, hj⟩ := List.getElem?_of_mem (hsm h hh)
        exact ⟨_, egw_name, ev_op (ev_d rfl) (ev_index (ev_op (ev_g rfl) ev_int rv_t1) (ea_cons (ev_d rfl) ea_nil) hj (first_of tk.n2.1 hj)) (rv_iL (atI_map (enc := frD) (gO_at tk.n2.1 rl hj)))⟩
      have smf : ∀ q ∈ (served pairs p).map (gO (0, 1) houses rest), Fine (dP i) (1000 + 8 * bP i) q := fun q hq => by
        obtain ⟨h, hh, rfl⟩ := List.mem_map.mp hq
        exact rf _ (gO_mem tk.n2.1 rl (hsm h hh))
      obtain ⟨h0, hh0⟩ := tk.full hne p hpm
      have hsv : h0 ∈ served pairs p := by
        unfold served
        exact List.mem_map.mpr ⟨(p, h0), List.mem_filter.mpr ⟨hh0, by simp⟩, rfl⟩
      have hsn : (served pairs p).map (gO (0, 1) houses rest) ≠ [] := by rintro e; rw [List.map_eq_nil_iff] at e; rw [e] at hsv; simp at hsv
      generalize (served pairs p).map (gO (0, 1) houses rest) = sm at smf hsn
      obtain ⟨x0, sm', rfl⟩ : ∃ x r, sm = x :: r := by
        cases sm with
        | nil => exact absurd rfl hsn
        | cons x r => exact ⟨x, r, rfl⟩
      refine es_seq (es_set (ev_op (ev_d rfl) ev_int (rv_iL (atI_nat (j := 0) rfl))) ?_)
      refine es_seq (es_for (ei_L (ev_d rfl)) (fun k ρ R => ∃ l e9, ρ = [.o aD, prt people houses pairs, .d (.tuple (ps.map .int)), .o pF, .d (.int (i : Int)), .d (.list ((served pairs p).map .str)), .d (.list (rest.map frD)), .d (.list ((x0 :: sm').map frD)), .d (frD l), e9, e10, e11, e12, e13, e14] ∧ R = dR aD aC s ++ .ls pF (ys.map frD) :: [] ∧ l ∈ x0 :: sm') ⟨x0, _, rfl, rfl, by simp⟩ ?_ ?_)
      · rintro k d ρ R hd ⟨l, e9, rfl, rfl, hlm⟩
        obtain ⟨z, _, hzm, rfl⟩ := get_fr hd
        have zq := fineR_q hi8 (smf z hzm)
        have lq := fineR_q hi8 (smf l hlm)
        refine ⟨_, eg_name, ?_⟩
        by_cases hlt : (minusF z l).1 < 0
        · exact es_set (ev_if (b := true) (et_cast (decide_eq_true hlt) (et_test (ev_op (ev_op (ev_callP (Sf := S__law_less) ⟨z, l, rfl, rfl, rfl, rfl, zq.mono (by omega), lq.mono (by omega)⟩ (ea_cons (ev_d rfl) (ea_cons (ev_d rfl) ea_nil))) ev_int (rv_iT (atI_nat (j := 0) rfl))) ev_int (rv_bl (g := fun i j : Int => decide (i < j)))))) (fun _ => ev_d rfl) (fun h => nomatch h)) ⟨z, _, rfl, rfl, hzm⟩
        · exact es_set (ev_if (b := false) (et_cast (decide_eq_false hlt) (et_test (ev_op (ev_op (ev_callP (Sf := S__law_less) ⟨z, l, rfl, rfl, rfl, rfl, zq.mono (by omega), lq.mono (by omega)⟩ (ea_cons (ev_d rfl) (ea_cons (ev_d rfl) ea_nil))) ev_int (rv_iT (atI_nat (j := 0) rfl))) ev_int (rv_bl (g := fun i j : Int => decide (i < j)))))) (fun h => nomatch h) (fun _ => ev_d rfl)) ⟨l, _, rfl, rfl, hlm⟩
      · rintro ρ R ⟨l, e9, rfl, rfl, hlm⟩
        have lq := fineR_q hi8 (smf l hlm)
        have lf := smf l hlm
        have two : ∀ (t b : Int) {ρ : List En} {R : List Ow}, Ev K (tTup (tCons (tC (.int t)) (tCons (tC (.int b)) tNil))) ρ R (.d (frD (t, b))) R := fun t b {ρ R} => ev_tupE (ds := [.int t, .int b]) (ea_cons ev_int (ea_cons ev_int ea_nil)) rfl (small (by simp))
        refine es_seq (es_set (ev_ofR (Rf := [.ls pF (ys.map frD)]) (ds := PARTL.map frD) rfl (.inr rfl) (ev_lstE (ds := PARTL.map frD) (ea_cons (two 1 1) (ea_cons (two 1 1) (ea_cons (two 1 2) (ea_cons (two 0 1) (ea_cons (two 2 3) ea_nil))))) rfl (small (by show 5 ≤ 1000000; decide))) (by unfold PARTL; simp) (by show 5 ≤ 1000000; decide) ok) ?_)
        have ok' := ofF_ok (ds := PARTL.map frD) ok
        obtain ⟨c, hc, ec⟩ : ∃ c ∈ PARTL, (ofF (PARTL.map frD) s).1 = frD c := by
          obtain ⟨c, h1, h2⟩ := List.mem_map.mp (ofF_ix (ds := PARTL.map frD) (by unfold PARTL; simp) s).2
          exact ⟨c, h1, h2.symm⟩
        generalize (ofF (PARTL.map frD) s).2 = s' at ok'
        rw [ec]
        have cq := (part_ok c hc).2.1
        refine es_storeL (Ra := dR aD aC s') (Rb := []) (d := frD (timesF l c)) (j := i) (ev_callP (Sf := S__law_times) ⟨l, c, rfl, rfl, rfl, rfl, lq.mono (by omega), cq.mono (by omega)⟩ (ea_cons (ev_d rfl) (ea_cons (ev_d rfl) ea_nil))) (ev_o rfl) (ev_d rfl) ?ix ⟨ys.set i (timesF l c), s', _, _, _, _, _, _, _, _, _, _, _, rfl, by rw [List.map_set], ok', by rw [List.length_set]; exact hl, fun q hq => ?_⟩
        case ix =>
          rw [List.length_map]
          unfold ixN
          simp [hl, hil]
        rcases List.mem_or_eq_of_mem_set hq with hq | rfl
        · have := hf q hq
          refine ⟨this.low, by rw [dP_next]; exact this.isD.up 6, this.btw.mono ?_⟩
          rw [bP_next]
          exact_mod_cast (show bP i ≤ 10 * bP i by have := bP_pos i; omega)
        · exact times_part lf hc
    · rintro ρ R ⟨ys, s, e4, e5, e6, e7, e8, e9, e10, e11, e12, e13, e14, rfl, rfl, ok, hl, hf⟩
      rw [List.length_map, List.length_range] at hf
      have ok2 := anyF_ok (b := 4) ok
      refine es_seq (es_if (b := decide ((anyF 4 s).1 = 0)) (R1 := dR aD aC (anyF 4 s).2 ++ [.ls pF (ys.map frD)]) (et_test (ev_op (ev_anyR (Rf := [.ls pF (ys.map frD)]) rfl ev_int (by omega) (by omega) ok) ev_int rv_eqI)) (fun _ => ?_) (fun _ => es_next ?_))
      · have hall := mapS_all (f := payF) (Iv := StOk) (Q := Fine (dP 8) (bP 8)) (fun s x hs => pay_ok x hs) people (anyF 4 s).2 ok2
        refine es_forget (R' := dR aD aC (anyF 4 s).2) (List.sublist_append_left _ _) (es_setLcO (ei_T (ev_xd (ev_op (ev_g rfl) ev_int rv_t0))) (lcr_state (β := Int × Int) (enc := PyData.str) (enc' := frD) (Rg := dR aD aC) (s := (anyF 4 s).2) (Inv := StOk) (f := payF) ok2 fun s a _ hs => ⟨(pay_ok a hs).2, _, egw_name, ?el⟩) (small (by rw [List.length_map]; omega)) fun pG => ?_)
        case el =>
          have h6 := anyF_lt (b := 3) (by omega) (anyF 9 s).2
          exact ev_callP (Sf := S__law_low) ⟨(anyF 9 s).1, 1 + (anyF 3 (anyF 9 s).2).1, rfl, rfl, rfl, rfl, by omega, by
            unfold Sz
            generalize (anyF 3 (anyF 9 s).2).1 = z at *
            exact Nat.lt_of_lt_of_le (show (1 + z).natAbs < 2 ^ 3 by omega) (Nat.pow_le_pow_right (by omega) (by omega))⟩ (ea_cons (ev_any rfl ev_int (by omega) (by omega) hs) (ea_cons (ev_op ev_int (ev_any rfl ev_int (by omega) (by omega) (anyF_ok hs)) rv_addI) ea_nil))
        refine es_thaw (i := 3) rfl ?_
        exact es_ret (ev_cb (ea_cons (ev_d rfl) ea_nil) rc_tupL) ⟨_, _, rfl, List.append_nil _, hall.2.1, hall.2.2, hall.1⟩
      · refine es_thaw (i := 3) rfl ?_
        exact es_ret (ev_cb (ea_cons (ev_d rfl) ea_nil) rc_tupL) ⟨ys, _, rfl, List.append_nil _, ok2, hl, fun q hq => fine_up (by omega) (hf q hq)⟩
end
end K24

namespace K24
open PySem PySem.Spec PyProof.Rows L2 StX RZ Fx Fr
/-! ### what the gaps add up to -/
theorem fun_of {α β : Type} [DecidableEq α] (d : β) : ∀ {hs : List α} {l : List β}, hs.Nodup → l.length = hs.length → ∃ f : α → β, l = hs.map f
  | [], [], _, _ => ⟨fun _ => d, rfl⟩
  | h :: hs, x :: l, nd, hl => by
    obtain ⟨f, e⟩ := fun_of d (List.nodup_cons.mp nd).2 (show l.length = hs.length by simpa using hl)
    refine ⟨fun a => if a = h then x else f a, ?_⟩
    rw [List.map_cons, if_pos rfl, e]
    congr 1
    exact List.map_congr_left fun a ha => by rw [if_neg (fun e => (List.nodup_cons.mp nd).1 (by rw [← e]; exact ha))]
/-- all of one drawing -/
structure Drawn (people houses : List Str) (pairs : List (Str × Str)) (ps : List Int) (ss ys : List (Int × Int)) : Prop where
  tk : TabOk people houses pairs
  so : ShOk houses ss
  yo : PyOk people ys
  sl : ∀ p ∈ ss, Low p
  yl : ∀ p ∈ ys, Low p
  pl : ps.length = houses.length
section
variable {people houses : List Str} {pairs : List (Str × Str)} {ps : List Int} {ss ys : List (Int × Int)}
abbrev paidL (people houses : List Str) (pairs : List (Str × Str)) (ys : List (Int × Int)) : List (Int × Int) := houses.map (paidF people pairs ys)
abbrev supL (people houses : List Str) (pairs : List (Str × Str)) (ss : List (Int × Int)) : List (Int × Int) := people.map (supF houses pairs ss)
abbrev partsL (people houses : List Str) (pairs : List (Str × Str)) (ps : List Int) (ss ys : List (Int × Int)) : List (Int × Int) := hgaps ps ss (paidL people houses pairs ys) ++ pgaps ys (supL people houses pairs ss)
theorem hgaps_map (D : Drawn people houses pairs ps ss ys) : ∃ c : Str → Int, ps = houses.map c ∧ hgaps ps ss (paidL people houses pairs ys) = houses.map fun h => timesF (gO (0, 1) houses ss h) (minusF (c h, 1) (paidF people pairs ys h)) := by
  obtain ⟨c, hc⟩ := fun_of (0 : Int) D.tk.n2.1 D.pl
  refine ⟨c, hc, ?_⟩
  have hs := gO_map (d := (0, 1)) D.tk.n2.1 D.so.1
  unfold hgaps paidL
  generalize gO (0, 1) houses ss = g at hs
  rw [hc, hs, List.zip_map', List.zip_map', List.map_map]
  rfl
theorem pgaps_map (D : Drawn people houses pairs ps ss ys) : pgaps ys (supL people houses pairs ss) = people.map fun p => timesF (gO (0, 1) people ys p) (minusF (supF houses pairs ss p) (1, 1)) := by
  have hy := gO_map (d := (0, 1)) D.tk.n1.1 D.yo.1
  unfold pgaps supL
  generalize gO (0, 1) people ys = g at hy
  rw [hy, List.zip_map', List.map_map]
  rfl
theorem Drawn.s_pos (D : Drawn people houses pairs ps ss ys) {h : Str} (hh : h ∈ houses) : Low (gO (0, 1) houses ss h) := D.sl _ (gO_mem D.tk.n2.1 D.so.1 hh)
theorem Drawn.y_pos (D : Drawn people houses pairs ps ss ys) {p : Str} (hp : p ∈ people) : Low (gO (0, 1) people ys p) := D.yl _ (gO_mem D.tk.n1.1 D.yo.1 hp)
theorem Drawn.sup_low (D : Drawn people houses pairs ps ss ys) (p : Str) : Low (supF houses pairs ss p) := fold_low _ _ ⟨by decide, by decide⟩ fun q hq => by
  obtain ⟨h, hh, rfl⟩ := List.mem_map.mp hq
  exact (D.so.2 _ (gO_mem D.tk.n2.1 D.so.1 ((served_nodup D.tk p).2.1 h hh))).pos
theorem Drawn.paid_low (D : Drawn people houses pairs ps ss ys) (h : Str) : Low (paidF people pairs ys h) := fold_low _ _ ⟨by decide, by decide⟩ fun q hq => by
  obtain ⟨p, hp, rfl⟩ := List.mem_map.mp hq
  exact (D.yo.2 _ (gO_mem D.tk.n1.1 D.yo.1 ((serving_nodup D.tk h).2.1 p hp))).pos
theorem low_int (c : Int) : Low (c, 1) := ⟨(show (0 : Int) < 1 by decide), by simp⟩
theorem parts_low (D : Drawn people houses pairs ps ss ys) : ∀ q ∈ partsL people houses pairs ps ss ys, Low q := by
  intro q hq
  rcases List.mem_append.mp hq with hq | hq
  · obtain ⟨c, _, e⟩ := hgaps_map D
    rw [e] at hq
    obtain ⟨h, hh, rfl⟩ := List.mem_map.mp hq
    exact (times_of (D.s_pos hh) (minus_of (low_int _) (D.paid_low h)).1).1
  · rw [pgaps_map D] at hq
    obtain ⟨p, hp, rfl⟩ := List.mem_map.mp hq
    exact (times_of (D.y_pos hp) (minus_of (D.sup_low p) (low_int 1)).1).1
theorem val_parts (D : Drawn people houses pairs ps ss ys) : rs ((partsL people houses pairs ps ss ys).map val) = val (costF (ps.zip ss)) - val (sumF ys) := by
  obtain ⟨c, hc, e⟩ := hgaps_map D
  rw [List.map_append, rs_append, e, pgaps_map D, List.map_map, List.map_map]
  have t := two_sides (y := fun p => val (gO (0, 1) people ys p)) (s := fun h => val (gO (0, 1) houses ss h)) (c := fun h => ((c h : Int) : Rat)) D.tk.n1.1 D.tk.n2.1 D.tk.mem
  have a1 : rs (houses.map (val ∘ fun h => timesF (gO (0, 1) houses ss h) (minusF (c h, 1) (paidF people pairs ys h)))) = rs (houses.map fun h => val (gO (0, 1) houses ss h) * (((c h : Int) : Rat) - rs ((pairs.filter fun x => decide (x.2 = h)).map fun x => val (gO (0, 1) people ys x.1)))) := by
    refine rs_congr fun h hh => ?_
    show val (timesF (gO (0, 1) houses ss h) (minusF (c h, 1) (paidF people pairs ys h))) = _
    have hm := (minus_of (low_int (c h)) (D.paid_low h)).1
    rw [val_times (D.s_pos hh).pos hm.pos, val_minus (low_int (c h)).pos (D.paid_low h).pos, val_whole, val_paidF D.tk D.yo h]
    unfold serving
    rw [List.map_map]
    rfl
  have a2 : rs (people.map (val ∘ fun p => timesF (gO (0, 1) people ys p) (minusF (supF houses pairs ss p) (1, 1)))) = rs (people.map fun p => val (gO (0, 1) people ys p) * (rs ((pairs.filter fun x => decide (x.1 = p)).map fun x => val (gO (0, 1) houses ss x.2)) - 1)) := by
    refine rs_congr fun p hp => ?_
    show val (timesF (gO (0, 1) people ys p) (minusF (supF houses pairs ss p) (1, 1))) = _
    have hm := (minus_of (D.sup_low p) (low_int 1)).1
    rw [val_times (D.y_pos hp).pos hm.pos, val_minus (D.sup_low p).pos (low_int 1).pos, val_whole, val_supF D.tk D.so p]
    unfold served
    rw [List.map_map]
    rfl
  have a3 : val (costF (ps.zip ss)) = rs (houses.map fun h => val (gO (0, 1) houses ss h) * ((c h : Int) : Rat)) := by
    have hs := gO_map (d := (0, 1)) D.tk.n2.1 D.so.1
    have hpos : ∀ h ∈ houses, 0 < (gO (0, 1) houses ss h).2 := fun h hh => (D.s_pos hh).pos
    generalize gO (0, 1) houses ss = g at hs hpos
    have hl : costL (ps.zip ss) = houses.map fun h => (c h * (g h).1, (g h).2) := by
      unfold costL
      rw [hc, hs, List.zip_map', List.map_map]
      rfl
    have := val_sum (l := costL (ps.zip ss)) fun q hq => by
      rw [hl] at hq
      obtain ⟨h, hh, rfl⟩ := List.mem_map.mp hq
      exact hpos h hh
    unfold costF sumF
    rw [this, hl, List.map_map]
    refine rs_congr fun h hh => ?_
    show val (c h * (g h).1, (g h).2) = val (g h) * ((c h : Int) : Rat)
    unfold val
    simp only [Rat.intCast_mul]
    have := cast_ne (show (g h).2 ≠ 0 by have := hpos h hh; omega)
    grind
  have a4 : val (sumF ys) = rs (people.map fun p => val (gO (0, 1) people ys p)) := by
    have hy := gO_map (d := (0, 1)) D.tk.n1.1 D.yo.1
    have := val_sum (l := ys) fun q hq => (D.yl q hq).pos
    unfold sumF
    rw [this]
    generalize gO (0, 1) people ys = g at hy
    rw [hy, List.map_map]
    rfl
  rw [a1, a2, t, a3, a4]
abbrev gapF (ps : List Int) (ss ys : List (Int × Int)) : Int × Int := minusF (costF (ps.zip ss)) (sumF ys)
theorem cost_low (D : Drawn people houses pairs ps ss ys) : Low (costF (ps.zip ss)) := fold_low _ _ ⟨by decide, by decide⟩ fun q hq => by
  obtain ⟨z, hz, rfl⟩ := List.mem_map.mp hq
  exact (D.so.2 _ (List.of_mem_zip hz).2).pos
theorem pay_low (D : Drawn people houses pairs ps ss ys) : Low (sumF ys) := fold_low _ _ ⟨by decide, by decide⟩ fun q hq => (D.yl q hq).pos
theorem gap_low (D : Drawn people houses pairs ps ss ys) : Low (gapF ps ss ys) := (minus_of (cost_low D) (pay_low D)).1
theorem val_gap (D : Drawn people houses pairs ps ss ys) : val (gapF ps ss ys) = rs ((partsL people houses pairs ps ss ys).map val) := by
  rw [val_parts D, val_minus (cost_low D).pos (pay_low D).pos]
theorem sum_parts (D : Drawn people houses pairs ps ss ys) : sumF (partsL people houses pairs ps ss ys) = gapF ps ss ys := by
  have hl : Low (sumF (partsL people houses pairs ps ss ys)) := fold_low _ _ ⟨by decide, by decide⟩ fun q hq => (parts_low D q hq).pos
  rw [val_eq hl (gap_low D), val_gap D]
  exact val_sum fun q hq => (parts_low D q hq).pos
theorem cost_back (D : Drawn people houses pairs ps ss ys) : plusF (gapF ps ss ys) (sumF ys) = costF (ps.zip ss) := minus_plus (cost_low D) (pay_low D)
theorem meets_gap (D : Drawn people houses pairs ps ss ys) : decide (gapF ps ss ys = (0, 1)) = decide (costF (ps.zip ss) = sumF ys) := by
  refine decide_eq_decide.mpr ?_
  rw [← val_zero (gap_low D), val_minus (cost_low D).pos (pay_low D).pos, val_eq (cost_low D) (pay_low D)]
  constructor
  · intro h; grind
  · intro h; grind
/-- right shares and right payments: nothing of it is below 0 -/
theorem parts_nonneg (D : Drawn people houses pairs ps ss ys) (h1 : (ss.filter fun q => decide (q.1 < 0)).isEmpty = true) (h2 : rightF people houses pairs ss = true) (h3 : paysF people houses pairs ps ys = true) : ∀ q ∈ partsL people houses pairs ps ss ys, 0 ≤ val q := by
  have s0 : ∀ q ∈ ss, 0 ≤ val q := fun q hq => by
    rw [List.isEmpty_iff, List.filter_eq_nil_iff] at h1
    have h := h1 q hq
    refine Rat.not_lt.mp fun hn => h ?_
    exact decide_eq_true ((val_neg (D.sl q hq).pos).mp hn)
  unfold paysF at h3
  rw [Bool.and_eq_true] at h3
  have y0 : ∀ q ∈ ys, 0 ≤ val q := fun q hq => by
    have h4 := h3.1
    rw [List.isEmpty_iff, List.filter_eq_nil_iff] at h4
    have h := h4 q hq
    refine Rat.not_lt.mp fun hn => h ?_
    exact decide_eq_true ((val_neg (D.yl q hq).pos).mp hn)
  obtain ⟨c, hc, e⟩ := hgaps_map D
  intro q hq
  rcases List.mem_append.mp hq with hq | hq
  · rw [e] at hq
    obtain ⟨h, hh, rfl⟩ := List.mem_map.mp hq
    have hm := (minus_of (low_int (c h)) (D.paid_low h)).1
    rw [val_times (D.s_pos hh).pos hm.pos, val_minus (low_int (c h)).pos (D.paid_low h).pos]
    have a := s0 _ (gO_mem (d := (0, 1)) D.tk.n2.1 D.so.1 hh)
    have b : 0 ≤ val (c h, 1) - val (paidF people pairs ys h) := by
      have h4 := h3.2
      rw [List.isEmpty_iff, List.filter_eq_nil_iff] at h4
      have hz : (c h, paidF people pairs ys h) ∈ ps.zip (houses.map (paidF people pairs ys)) := by
        rw [hc, List.zip_map']
        exact List.mem_map.mpr ⟨h, hh, rfl⟩
      have h5 := h4 _ hz
      have h6 : ¬ val (c h, 1) < val (paidF people pairs ys h) := fun hn => h5 (decide_eq_true (by
        have := (val_lt (low_int (c h)).pos (D.paid_low h).pos).mp hn
        simpa using this))
      have := Rat.not_lt.mp h6
      grind
    exact Rat.mul_nonneg a b
  · rw [pgaps_map D] at hq
    obtain ⟨p, hp, rfl⟩ := List.mem_map.mp hq
    have hm := (minus_of (D.sup_low p) (low_int 1)).1
    rw [val_times (D.y_pos hp).pos hm.pos, val_minus (D.sup_low p).pos (low_int 1).pos]
    have a := y0 _ (gO_mem (d := (0, 1)) D.tk.n1.1 D.yo.1 hp)
    have b : 0 ≤ val (supF houses pairs ss p) - val (1, 1) := by
      unfold rightF at h2
      rw [List.isEmpty_iff, List.filter_eq_nil_iff] at h2
      have h5 := h2 _ (List.mem_map.mpr ⟨p, hp, rfl⟩)
      have h6 : ¬ val (supF houses pairs ss p) < 1 := fun hn => h5 (decide_eq_true ((val_lt1 (D.sup_low p).pos).mp hn))
      have := Rat.not_lt.mp h6
      have e1 : val (1, 1) = 1 := val_whole 1
      grind
    exact Rat.mul_nonneg a b
theorem gap_up (D : Drawn people houses pairs ps ss ys) (h : ∀ q ∈ partsL people houses pairs ps ss ys, 0 ≤ val q) : ¬ (gapF ps ss ys).1 < 0 := by
  rw [← val_neg (gap_low D).pos, val_gap D]
  have := rs_nonneg (l := (partsL people houses pairs ps ss ys).map val) fun x hx => by
    obtain ⟨q, hq, rfl⟩ := List.mem_map.mp hx
    exact h q hq
  exact Rat.not_lt.mpr this
theorem none_below (D : Drawn people houses pairs ps ss ys) (h : ∀ q ∈ partsL people houses pairs ps ss ys, 0 ≤ val q) : ((partsL people houses pairs ps ss ys).filter fun q => decide (q.1 < 0)).isEmpty = true := by
  rw [List.isEmpty_iff, List.filter_eq_nil_iff]
  intro q hq hn
  have := (val_neg (parts_low D q hq).pos).mpr (of_decide_eq_true hn)
  exact absurd (h q hq) (Rat.not_le.mpr this)
theorem meets_parts (D : Drawn people houses pairs ps ss ys) (h : ∀ q ∈ partsL people houses pairs ps ss ys, 0 ≤ val q) : decide (gapF ps ss ys = (0, 1)) = ((partsL people houses pairs ps ss ys).filter fun q => !decide (q = (0, 1))).isEmpty := by
  have hn : ∀ x ∈ (partsL people houses pairs ps ss ys).map val, 0 ≤ x := fun x hx => by
    obtain ⟨q, hq, rfl⟩ := List.mem_map.mp hx
    exact h q hq
  have e : gapF ps ss ys = (0, 1) ↔ ∀ q ∈ partsL people houses pairs ps ss ys, q = (0, 1) := by
    rw [← val_zero (gap_low D), val_gap D, rs_all0 hn]
    constructor
    · intro h q hq
      exact (val_zero (parts_low D q hq)).mp (h _ (List.mem_map.mpr ⟨q, hq, rfl⟩))
    · intro h x hx
      obtain ⟨q, hq, rfl⟩ := List.mem_map.mp hx
      exact (val_zero (parts_low D q hq)).mpr (h q hq)
  by_cases hg : gapF ps ss ys = (0, 1)
  · rw [decide_eq_true hg]
    symm
    rw [List.isEmpty_iff, List.filter_eq_nil_iff]
    intro q hq
    have := e.mp hg q hq
    simp [this]
  · rw [decide_eq_false hg]
    symm
    cases hf : (partsL people houses pairs ps ss ys).filter fun q => !decide (q = (0, 1)) with
    | nil =>
      rw [List.filter_eq_nil_iff] at hf
      exact absurd (e.mpr fun q hq => by simpa using hf q hq) hg
    | cons a r => rfl
end
end K24

namespace K24
open PySem PySem.Spec PyProof.Rows L2 StX RZ Fx Fr
section
variable {P : Program} {w : World} {K : PySem.W.Frag} {mg : Str → Option Value} {base : Heap}
theorem ne_self {d : PyData} {R : List Ow} (h : SeqAt.shaped d = true) : Rv K (rNeD K) (.d d) (.d d) R (.d (.bool false)) := by
  have := rv_neD (K := K) (R := R) h h
  rw [SeqAt.eqv_refl _ (SeqAt.canLay_of_shaped h)] at this
  exact this
theorem sh_bool (b : Bool) : Sh (.bool b) 20 900 := by
  cases b <;> exact ⟨by decide +kernel, by decide +kernel, by decide +kernel, by decide +kernel, by decide +kernel⟩
theorem small_int {n : Nat} {x : Int} {k m : Nat} (h : Sz n x) (hn : n ≤ 1900 := by omega) : Sh (.int x) k m := Sh.int (Nat.lt_of_lt_of_le h (Nat.pow_le_pow_right (by omega) hn))
theorem sh_two {a b : PyData} (h1 : Sh a 9 0) (h2 : Sh b 9 0) : Sh (.tuple [a, b]) 10 20 := (ShA.tuple (ShA.cons h1 (ShA.cons h2 (ShA.nil (n := 0))))).mono
theorem frs_sh {l : List (Int × Int)} (h : ∀ p ∈ l, Q 1900 p) (hl : l.length ≤ 16) : Sh (.tuple (l.map frD)) 12 400 := by
  have h1 : ∀ p ∈ l, Sh (frD p) 10 20 := fun p hp => sh_two (small_int (h p hp).top) (small_int (h p hp).bot)
  exact (ShA.tuple (ShA.all h1)).mono (by omega) (by omega)
theorem fr_sh {p : Int × Int} (h : Q 1900 p) : Sh (frD p) 20 900 := (sh_two (small_int h.top) (small_int h.bot)).mono
theorem rows_facts (l : List (Int × Int)) : PyData.canLay0 (.tuple (l.map frD)) = true ∧ PyData.depth (.tuple (l.map frD)) ≤ 2 := by
  have h0 : ∀ p : Int × Int, PyData.canLay0 (frD p) = true ∧ PyData.depth (frD p) = 1 := fun p => ⟨by simp [PyData.canLay0, PyData.canLayAll0], by simp [PyData.depth, PyData.depthAll]⟩
  have h1 : ∀ l : List (Int × Int), PyData.canLayAll0 (l.map frD) = true ∧ PyData.depthAll (l.map frD) ≤ 1 := by
    intro l
    induction l with
    | nil => exact ⟨rfl, Nat.zero_le _⟩
    | cons p r ih =>
      refine ⟨?_, ?_⟩
      · show (PyData.canLay0 (frD p) && PyData.canLayAll0 (r.map frD)) = true
        rw [(h0 p).1, ih.1]; rfl
      · show max (PyData.depth (frD p)) (PyData.depthAll (r.map frD)) ≤ 1
        rw [(h0 p).2]
        omega
  obtain ⟨a, b⟩ := h1 l
  refine ⟨?_, Nat.succ_le_succ b⟩
  first
    | exact a
    | (simp only [PyData.canLay0]; exact a)
theorem shaped_two (l m : List (Int × Int)) : SeqAt.shaped (.tuple [.tuple (l.map frD), .tuple (m.map frD)]) = true := by
  obtain ⟨a1, a2⟩ := rows_facts l
  obtain ⟨b1, b2⟩ := rows_facts m
  unfold SeqAt.shaped
  have e1 : PyData.canLay0 (.tuple [.tuple (l.map frD), .tuple (m.map frD)]) = true := by
    have : PyData.canLayAll0 [.tuple (l.map frD), .tuple (m.map frD)] = true := by
      show (PyData.canLay0 (.tuple (l.map frD)) && (PyData.canLay0 (.tuple (m.map frD)) && true)) = true
      rw [a1, b1]; rfl
    first
      | exact this
      | (simp only [PyData.canLay0]; exact this)
  have e2 : PyData.depth (.tuple [.tuple (l.map frD), .tuple (m.map frD)]) ≤ 3 := by
    show max (PyData.depth (.tuple (l.map frD))) (max (PyData.depth (.tuple (m.map frD))) 0) + 1 ≤ 3
    omega
  rw [e1]
  simp only [Bool.true_and]
  exact decide_eq_true (by omega)
theorem btw_mul2 {B C x y : Rat} (hx : Btw B x) (hy : Btw C y) : Btw (B * C) (x * y) := by
  obtain ⟨a, b⟩ := hx
  obtain ⟨c, d⟩ := hy
  have e1 := Rat.mul_nonneg (show 0 ≤ B - x by grind) (show 0 ≤ C + y by grind)
  have e2 := Rat.mul_nonneg (show 0 ≤ B + x by grind) (show 0 ≤ C - y by grind)
  have e3 := Rat.mul_nonneg (show 0 ≤ B - x by grind) (show 0 ≤ C - y by grind)
  have e4 := Rat.mul_nonneg (show 0 ≤ B + x by grind) (show 0 ≤ C + y by grind)
  exact ⟨by grind, by grind⟩
theorem times_fine {D E b c : Int} {p q : Int × Int} (hp : Fine D b p) (hq : Fine E c q) : Fine (D * E) (b * c) (timesF p q) := by
  have hv := val_times hp.low.pos hq.low.pos
  refine ⟨(times_of hp.low hq.low).1, ?_, ?_⟩
  · rw [hv]; exact hp.isD.mul hq.isD
  · rw [hv, Rat.intCast_mul]; exact btw_mul2 hp.btw hq.btw
theorem sum_fine16 {D b : Int} (hb : 0 ≤ b) {l : List (Int × Int)} (hl : l.length ≤ 16) (h : ∀ p ∈ l, Fine D b p) : Fine D (16 * b) (sumF l) := by
  have hv := val_sum (l := l) fun q hq => (h q hq).low.pos
  have hx : ∀ x ∈ l.map val, IsD D x ∧ Btw (b : Rat) x := fun x hx => by
    obtain ⟨q, hq, rfl⟩ := List.mem_map.mp hx
    exact ⟨(h q hq).isD, (h q hq).btw⟩
  refine ⟨fold_low _ _ ⟨by decide, by decide⟩ fun q hq => (h q hq).low.pos, ?_, ?_⟩
  · show IsD _ (val (l.foldl plusF (0, 1)))
    rw [hv]; exact IsD.sum fun x h => (hx x h).1
  · show Btw _ (val (l.foldl plusF (0, 1)))
    rw [hv]
    refine (Btw.sum (by exact_mod_cast hb) fun x h => (hx x h).2).mono ?_
    rw [List.length_map]
    have : (l.length : Int) * b ≤ 16 * b := Int.mul_le_mul_of_nonneg_right (by omega) hb
    exact_mod_cast this
theorem fines_sums {l : List (Int × Int)} (hl : l.length ≤ 16) (h : ∀ p ∈ l, Fine (60 * dP 8) 400000000000000000000 p) : (∀ i, Q 2000 (sumF (l.take i))) ∧ ∀ p ∈ l, Q 2000 p := by
  have one : ∀ {p : Int × Int}, Fine (60 * dP 8) (16 * 400000000000000000000) p → Q 2000 p := fun h => (h.q (by decide) (by decide) 110 (by unfold Sz; decide) (by unfold Sz; decide)).mono (by omega)
  exact ⟨fun i => one (sum_fine16 (by decide) (by rw [List.length_take]; omega) fun p hp => h p (List.mem_of_mem_take hp)), fun p hp => one ((h p hp).mono (by decide))⟩
theorem ens_four {F : Hp} {vs : List V} {a b c d : En} (h : Ens K F vs [a, b, c, d]) : Ens K F ((fun (us ws : List V) => match us, ws with | [], [u0, u1, u2, u3] => [u3, u2, u1, u0] | _, _ => []) [] vs) [d, c, b, a] := by
  cases h with
  | cons h1 h => cases h with
    | cons h2 h => cases h with
      | cons h3 h => cases h with
        | cons h4 h => cases h; exact .cons h4 (.cons h3 (.cons h2 (.cons h1 .nil)))
theorem hg_swap : ∀ (ps : List Int) (ss pd : List (Int × Int)), (ss.zip (ps.zip pd)).map (fun z => timesF z.1 (minusF (z.2.1, 1) z.2.2)) = hgaps ps ss pd
  | [], [], _ => rfl
  | [], _ :: _, _ => by simp [hgaps]
  | _ :: _, [], _ => by simp [hgaps]
  | _ :: _, _ :: _, [] => by simp [hgaps]
  | p :: ps, s :: ss, d :: pd => by
    have := hg_swap ps ss pd
    unfold hgaps at this ⊢
    rw [List.zip_cons_cons, List.zip_cons_cons, List.map_cons, this, List.zip_cons_cons, List.zip_cons_cons, List.map_cons]
theorem tS_ok {l : List Str} (h : l.length ≤ 8) : Narrow (tS l) ∧ (tS l).depth < 4 := by
  refine ⟨.tup (by rw [List.length_map]; omega) (fun x hx => ?_), ?_⟩
  · obtain ⟨s, _, rfl⟩ := List.mem_map.mp hx
    exact .str s
  · have : PyData.depthAll (l.map .str) = 0 := by
      clear h
      induction l with
      | nil => rfl
      | cons a r ih => show max (PyData.depth (.str a)) (PyData.depthAll (r.map .str)) = 0; rw [ih]; rfl
    show PyData.depthAll (l.map .str) + 1 < 4
    omega
theorem tP_ok {l : List (Str × Str)} (h : l.length ≤ 100) : Narrow (tP l) ∧ (tP l).depth < 4 := by
  refine ⟨.tup (by rw [List.length_map]; omega) (fun x hx => ?_), ?_⟩
  · obtain ⟨s, _, rfl⟩ := List.mem_map.mp hx
    refine .tup (by simp) fun y hy => ?_
    simp only [List.mem_cons, List.not_mem_nil, or_false] at hy
    rcases hy with rfl | rfl <;> exact .str _
  · have : PyData.depthAll (l.map pD) ≤ 1 := by
      clear h
      induction l with
      | nil => exact Nat.zero_le _
      | cons a r ih =>
        show max (PyData.depth (pD a)) (PyData.depthAll (r.map pD)) ≤ 1
        have dd : PyData.depth (pD a) = 1 := by simp [PyData.depth, PyData.depthAll]
        omega
    show PyData.depthAll (l.map pD) + 1 < 4
    omega
theorem parts_sums {people houses : List Str} {pairs : List (Str × Str)} {ps : List Int} {ss ys : List (Int × Int)} (D : Drawn people houses pairs ps ss ys) (pr : PrOk ps) (fs : ∀ p ∈ ss, Fine 60 (bS 8) p) (fy : ∀ p ∈ ys, Fine (dP 8) (bP 8) p) : (∀ i, Q 2000 (sumF ((partsL people houses pairs ps ss ys).take i))) ∧ ∀ p ∈ partsL people houses pairs ps ss ys, Q 2000 p := by
  have l1 := D.tk.l1
  have l2 := D.tk.l2
  obtain ⟨c, hc, e⟩ := hgaps_map D
  refine fines_sums ?_ fun q hq => ?_
  · rw [List.length_append, e, pgaps_map D, List.length_map, List.length_map]
    omega
  · rcases List.mem_append.mp hq with hq | hq
    · rw [e] at hq
      obtain ⟨h, hh, rfl⟩ := List.mem_map.mp hq
      have hcp := pr (c h) (by rw [hc]; exact List.mem_map.mpr ⟨h, hh, rfl⟩)
      exact (times_fine (fs _ (gO_mem D.tk.n2.1 D.so.1 hh)) (less_fine (int_fine (c := 1000) (c h) (by omega)) (paid_fine (by decide) D.tk D.yo fy h))).mono (by decide)
    · rw [pgaps_map D] at hq
      obtain ⟨p, hp, rfl⟩ := List.mem_map.mp hq
      have := (times_fine (fy _ (gO_mem (d := (0, 1)) D.tk.n1.1 D.yo.1 hp)) (less_fine (sup_fine (by decide) D.tk D.so fs p) (fine11 (D := 60)))).mono (c := 400000000000000000000) (by decide)
      rw [Int.mul_comm] at this
      exact this
end
end K24

open PySem PySem.Spec PyProof.Rows L2 StX RZ Fx
namespace K24
open PySem PySem.Spec PyProof.Rows L2 StX RZ Fx Fr
section
variable {P : Program} {w : World} {K : PySem.W.Frag} {mg : Str → Option Value} {base : Heap}
theorem sc_law : FnScope ["script", "deal", "turn", "parts", "people", "houses", "pairs", "table", "prices", "shares", "payments", "shown", "paid", "supplied", "one", "other", "gap", "meets", "share", "price", "much", "payment", "supply", "part"] ["script"] (defScope s_law) := ⟨rfl, rfl, rfl, by decide +kernel, rfl, by decide +kernel, by decide +kernel⟩

theorem es_law (T : Txt K mg) (Z : Zs K mg) (B : ClsTxt K mg) {A : Around} {outer : List Env} {s : Shared} {H : Hp} {E : XK} {cdv : Value} {ns : List Int} (hr : Room 8 (A.deeper (envOfC "law" (defScope s_law) s.heap.objs.size T.a_law cdv)))
    (hg : (A.deeper (envOfC "law" (defScope s_law) s.heap.objs.size T.a_law cdv)).guards = some []) :
    ∃ t, PSs (cxOf CX0 P w K mg base ["script", "deal", "turn", "parts", "people", "houses", "pairs", "table", "prices", "shares", "payments", "shown", "paid", "supplied", "one", "other", "gap", "meets", "share", "price", "much", "payment", "supply", "part"] "law" (defScope s_law) T.a_law cdv A outer s H E).nox (defBody s_law) t ∧
      Es K t [.s (ns.map .int), .u, .u, .u, .u, .u, .u, .u, .u, .u, .u, .u, .u, .u, .u, .u, .u, .u, .u, .u, .u, .u, .u, .u] [] { rt := fun e _ => e = .d (.bool true) } := by
  refine ⟨_, (pss_cons (ps_set (i := 1) sc_law.nd rfl (.inl rfl) (pe_call (ok__law_source T) (hr.mono (by decide)) (by rfl) T.g__law_source T.f__law_source.kp T.b__law_source .nil pass0 (pa_cons (pv 0) pa_nil)))
      (pss_cons (ps_for PassesOwn.never rfl (pi_range1 rfl T.n_range (pa_cons pe_int pa_nil)) (pg_name (i := 2) sc_law.nd rfl (.inl rfl)) (pss_cons (ps_set (i := 3) sc_law.nd rfl (.inl rfl) (pe_call (ok__law_table T Z B) (hr.mono (by decide)) (by rfl) T.g__law_table T.f__law_table.kp T.b__law_table .nil pass0 (pa_cons (pv 1) (pa_cons (pe_call (ok__law_any T) (hr.mono (by decide)) (by rfl) T.g__law_any T.f__law_any.kp T.b__law_any .nil pass0 (pa_cons (pv 1) (pa_cons pe_int pa_nil))) (pa_cons (pe_op (opAddB (K := K)) pe_int (pe_call (ok__law_any T) (hr.mono (by decide)) (by rfl) T.g__law_any T.f__law_any.kp T.b__law_any .nil pass0 (pa_cons (pv 1) (pa_cons pe_int pa_nil)))) pa_nil)))))
      (pss_cons (ps_asg (pv 3) (pgTup (K := K) rfl (pgs_cons (pg_name (i := 4) sc_law.nd rfl (.inl rfl)) (pgs_cons (pg_name (i := 5) sc_law.nd rfl (.inl rfl)) (pgs_cons (pg_name (i := 6) sc_law.nd rfl (.inl rfl)) pgs_nil)))))
      (pss_cons (ps_par (i := 7) (j := 8) rfl sc_law.nd rfl rfl (by decide) rfl rfl (pa_cons (pe_make (C := B.C) B.makes (ok_Table_init T B) (hr.mono (by decide)) (by rfl) B.gC B.b .nil pass0 (pa_cons (pv 4) (pa_cons (pv 5) (pa_cons (pv 6) pa_nil)))) (pa_cons (pe_call (ok__law_prices T Z B) (hr.mono (by decide)) (by rfl) T.g__law_prices T.f__law_prices.kp T.b__law_prices .nil pass0 (pa_cons (pv 1) (pa_cons (pv 5) pa_nil))) pa_nil)) rfl)
      (pss_cons (ps_par (i := 9) (j := 10) rfl sc_law.nd rfl rfl (by decide) rfl rfl (pa_cons (pe_call (ok__law_shares T Z B) (hr.mono (by decide)) (by rfl) T.g__law_shares T.f__law_shares.kp T.b__law_shares .nil pass0 (pa_cons (pv 1) (pa_cons (pv 3) pa_nil))) (pa_cons (pe_call (ok__law_payments T Z B) (hr.mono (by decide)) (by rfl) T.g__law_payments T.f__law_payments.kp T.b__law_payments .nil pass0 (pa_cons (pv 1) (pa_cons (pv 3) (pa_cons (pv 8) pa_nil)))) pa_nil)) rfl)
      (pss_cons (ps_set (i := 11) sc_law.nd rfl (.inl rfl) (pe_callB (call_reprD (K := K) hr hg) (by rfl) T.n_repr (by decide +kernel) (pa_cons (pe_lst (pa_cons (pv 9) (pa_cons (pv 10) pa_nil))) pa_nil)))
      (pss_cons (ps_par (i := 12) (j := 13) rfl sc_law.nd rfl rfl (by decide) rfl rfl (pa_cons (pe_call (ok__law_paid T Z B) (hr.mono (by decide)) (by rfl) T.g__law_paid T.f__law_paid.kp T.b__law_paid .nil pass0 (pa_cons (pv 3) (pa_cons (pv 10) pa_nil))) (pa_cons (pe_call (ok__law_supplies T Z B) (hr.mono (by decide)) (by rfl) T.g__law_supplies T.f__law_supplies.kp T.b__law_supplies .nil pass0 (pa_cons (pv 3) (pa_cons (pv 9) pa_nil))) pa_nil)) rfl)
      (pss_cons (ps_if ((pw_or (pt_not (ptTruth (K := K) (pe_callG (ok__law_same T Z B) (hr.mono (by decide)) hg (by rfl) T.g__law_same T.f__law_same.kp T.b__law_same (pa_cons (pe_call (ok_paid_to T Z B) (hr.mono (by decide)) (by rfl) T.g_paid_to T.f_paid_to.kp T.b_paid_to .nil pass0 (pa_cons (pv 7) (pa_cons (pv 10) pa_nil))) (pa_cons (pe_callTy (callTup (K := K)) (by rfl) T.n_tuple (by decide +kernel) (pa_cons (pv 12) pa_nil)) pa_nil))))) (pw_or1 (pt_cmpR (opNeD (K := K) hr) (pe_callKO (ok_paid_to T Z B) (hr.mono (by decide)) (by rfl) T.g_paid_to T.f_paid_to.kp T.k_paid_to_payments_table pass0 (pk_cons (pv 10) (pk_cons (pv 7) pk_nil))) (pe_callTy (callTup (K := K)) (by rfl) T.n_tuple (by decide +kernel) (pa_cons (pv 12) pa_nil)) (nomark _))))).pt (pss_one (ps_ret pe_bl)) pss_nil)
      (pss_cons (ps_set (i := 14) sc_law.nd rfl (.inl rfl) (pe_callTy (callTup (K := K)) (by rfl) T.n_tuple (by decide +kernel) (pa_cons (pe_lc (own := [("share", 18), ("price", 19), ("much", 20)]) (g := gTup K 3 (gCons (gName 18) (gCons (gName 19) (gCons (gName 20) gNil)))) rfl sc_law.nd (pi_zip3 (K := K) (by rfl) T.n_zip (pa_cons (pv 9) (pa_cons (pv 8) (pa_cons (pv 12) pa_nil)))) (blkOk_by (N := ["script", "deal", "turn", "parts", "people", "houses", "pairs", "table", "prices", "shares", "payments", "shown", "paid", "supplied", "one", "other", "gap", "meets", "share", "price", "much", "payment", "supply", "part"]) (sc := defScope s_law) (by decide +kernel)) (fun _ _ _ _ _ => (pgTup (K := K) rfl (pgs_cons (pg_name (i := 18) sc_law.nd rfl (by first | exact .inl rfl | exact .inr rfl)) (pgs_cons (pg_name (i := 19) sc_law.nd rfl (by first | exact .inl rfl | exact .inr rfl)) (pgs_cons (pg_name (i := 20) sc_law.nd rfl (by first | exact .inl rfl | exact .inr rfl)) pgs_nil))))) (fun _ _ _ _ _ => pts_nil) (fun _ _ _ _ _ => (pe_call (ok__law_times T Z B) (hr.mono (by decide)) (by rfl) T.g__law_times T.f__law_times.kp T.b__law_times .nil pass0 (pa_cons (pv 18) (pa_cons (pe_call (ok__law_less T Z B) (hr.mono (by decide)) (by rfl) T.g__law_less T.f__law_less.kp T.b__law_less .nil pass0 (pa_cons (pe_tup (pa_cons (pv 19) (pa_cons pe_int pa_nil))) (pa_cons (pv 20) pa_nil))) pa_nil))))) pa_nil)))
      (pss_cons (ps_set (i := 15) sc_law.nd rfl (.inl rfl) (pe_callTy (callTup (K := K)) (by rfl) T.n_tuple (by decide +kernel) (pa_cons (pe_lc (own := [("payment", 21), ("supply", 22)]) (g := gTup K 2 (gCons (gName 21) (gCons (gName 22) gNil))) rfl sc_law.nd (piZipM (K := K) (by rfl) T.n_zip (pa_cons (pv 10) (pa_cons (pv 13) pa_nil))) (blkOk_by (N := ["script", "deal", "turn", "parts", "people", "houses", "pairs", "table", "prices", "shares", "payments", "shown", "paid", "supplied", "one", "other", "gap", "meets", "share", "price", "much", "payment", "supply", "part"]) (sc := defScope s_law) (by decide +kernel)) (fun _ _ _ _ _ => (pgTup (K := K) rfl (pgs_cons (pg_name (i := 21) sc_law.nd rfl (by first | exact .inl rfl | exact .inr rfl)) (pgs_cons (pg_name (i := 22) sc_law.nd rfl (by first | exact .inl rfl | exact .inr rfl)) pgs_nil)))) (fun _ _ _ _ _ => pts_nil) (fun _ _ _ _ _ => (pe_call (ok__law_times T Z B) (hr.mono (by decide)) (by rfl) T.g__law_times T.f__law_times.kp T.b__law_times .nil pass0 (pa_cons (pv 21) (pa_cons (pe_call (ok__law_less T Z B) (hr.mono (by decide)) (by rfl) T.g__law_less T.f__law_less.kp T.b__law_less .nil pass0 (pa_cons (pv 22) (pa_cons (pe_tup (pa_cons pe_int (pa_cons pe_int pa_nil))) pa_nil))) pa_nil))))) pa_nil)))
      (pss_cons (ps_if (pt_not (ptTruth (K := K) (pe_callG (ok__law_same T Z B) (hr.mono (by decide)) hg (by rfl) T.g__law_same T.f__law_same.kp T.b__law_same (pa_cons (pe_call (ok_share_gaps T Z B) (hr.mono (by decide)) (by rfl) T.g_share_gaps T.f_share_gaps.kp T.b_share_gaps .nil pass0 (pa_cons (pv 7) (pa_cons (pv 8) (pa_cons (pv 9) (pa_cons (pv 10) pa_nil))))) (pa_cons (pe_tup (pa_cons (pv 14) (pa_cons (pv 15) pa_nil))) pa_nil))))) (pss_one (ps_ret pe_bl)) pss_nil)
      (pss_cons (ps_if (pt_cmpR (opNeD (K := K) hr) (pe_callKO (ok_share_gaps T Z B) (hr.mono (by decide)) (by rfl) T.g_share_gaps T.f_share_gaps.kp T.k_share_gaps_payments_shares_prices_table pass0 (pk_cons (pv 10) (pk_cons (pv 9) (pk_cons (pv 8) (pk_cons (pv 7) pk_nil))))) (pe_tup (pa_cons (pv 14) (pa_cons (pv 15) pa_nil))) (nomark _)) (pss_one (ps_ret pe_bl)) pss_nil)
      (pss_cons (ps_set (i := 16) sc_law.nd rfl (.inl rfl) (pe_call (ok__law_less T Z B) (hr.mono (by decide)) (by rfl) T.g__law_less T.f__law_less.kp T.b__law_less .nil pass0 (pa_cons (pe_call (ok__law_cost T Z B) (hr.mono (by decide)) (by rfl) T.g__law_cost T.f__law_cost.kp T.b__law_cost .nil pass0 (pa_cons (pv 8) (pa_cons (pv 9) pa_nil))) (pa_cons (pe_call (ok__law_sum T Z B) (hr.mono (by decide)) (by rfl) T.g__law_sum T.f__law_sum.kp T.b__law_sum .nil pass0 (pa_cons (pv 10) pa_nil)) pa_nil))))
      (pss_cons (ps_if ((pw_or (pt_cmpR (opNeD (K := K) hr) (pe_call (ok__law_sum T Z B) (hr.mono (by decide)) (by rfl) T.g__law_sum T.f__law_sum.kp T.b__law_sum .nil pass0 (pa_cons (pe_op (opAddB (K := K)) (pv 14) (pv 15)) pa_nil)) (pv 16) (nomark _)) (pw_or1 (pt_cmpR (opNeD (K := K) hr) (pe_call (ok_cost_of T Z B) (hr.mono (by decide)) (by rfl) T.g_cost_of T.f_cost_of.kp T.b_cost_of .nil pass0 (pa_cons (pv 8) (pa_cons (pv 9) pa_nil))) (pe_call (ok__law_plus T Z B) (hr.mono (by decide)) (by rfl) T.g__law_plus T.f__law_plus.kp T.b__law_plus .nil pass0 (pa_cons (pv 16) (pa_cons (pe_call (ok__law_sum T Z B) (hr.mono (by decide)) (by rfl) T.g__law_sum T.f__law_sum.kp T.b__law_sum .nil pass0 (pa_cons (pv 10) pa_nil)) pa_nil))) (nomark _))))).pt (pss_one (ps_ret pe_bl)) pss_nil)
      (pss_cons (ps_set (i := 17) sc_law.nd rfl (.inl rfl) (pe_cmpR (opEqD (K := K) hr) (pv 16) (pe_tup (pa_cons pe_int (pa_cons pe_int pa_nil))) (nomark _)))
      (pss_cons (ps_if (pt_cmpR op_ne (pe_callB (call_reprD (K := K) hr hg) (by rfl) T.n_repr (by decide +kernel) (pa_cons (pe_call (ok_do_meet T Z B) (hr.mono (by decide)) (by rfl) T.g_do_meet T.f_do_meet.kp T.b_do_meet .nil pass0 (pa_cons (pv 7) (pa_cons (pv 8) (pa_cons (pv 9) (pa_cons (pv 10) pa_nil))))) pa_nil)) (pe_callB (call_reprD (K := K) hr hg) (by rfl) T.n_repr (by decide +kernel) (pa_cons (pv 17) pa_nil)) (nomark _)) (pss_one (ps_ret pe_bl)) pss_nil)
      (pss_cons (ps_if ((pw_or (pt_cmpR (opNeD (K := K) hr) (pe_callKO (ok_do_meet T Z B) (hr.mono (by decide)) (by rfl) T.g_do_meet T.f_do_meet.kp T.k_do_meet_payments_shares_prices_table pass0 (pk_cons (pv 10) (pk_cons (pv 9) (pk_cons (pv 8) (pk_cons (pv 7) pk_nil))))) (pv 17) (nomark _)) (pw_or1 (pt_cmpR op_ne (pe_callB (call_reprD (K := K) hr hg) (by rfl) T.n_repr (by decide +kernel) (pa_cons (pe_lst (pa_cons (pv 9) (pa_cons (pv 10) pa_nil))) pa_nil)) (pv 11) (nomark _))))).pt (pss_one (ps_ret pe_bl)) pss_nil)
      (pss_one (ps_if ((pw_and (ptTruth (K := K) (pe_call (ok__law_are_right T Z B) (hr.mono (by decide)) (by rfl) T.g__law_are_right T.f__law_are_right.kp T.b__law_are_right .nil pass0 (pa_cons (pv 3) (pa_cons (pv 9) pa_nil)))) (pw_and1 (ptTruth (K := K) (pe_call (ok__law_pays_right T Z B) (hr.mono (by decide)) (by rfl) T.g__law_pays_right T.f__law_pays_right.kp T.b__law_pays_right .nil pass0 (pa_cons (pv 3) (pa_cons (pv 8) (pa_cons (pv 10) pa_nil)))))))).pt (pss_cons (ps_if ((pw_or (pt_cmpR op_lt (pe_ix (ixB (K := K)) (pv 16) pe_int (fun _ _ => rfl)) pe_int (nomark _)) (pw_or1 (pt_cmpR (opNeD (K := K) hr) (pe_lc (own := [("part", 23)]) (g := gName 23) rfl sc_law.nd (piAny (K := K) (pe_op (opAddB (K := K)) (pv 14) (pv 15))) (blkOk_by (N := ["script", "deal", "turn", "parts", "people", "houses", "pairs", "table", "prices", "shares", "payments", "shown", "paid", "supplied", "one", "other", "gap", "meets", "share", "price", "much", "payment", "supply", "part"]) (sc := defScope s_law) (by decide +kernel)) (fun _ _ _ _ _ => (pg_name (i := 23) sc_law.nd rfl (by first | exact .inl rfl | exact .inr rfl))) (fun _ _ _ _ _ => (pts_one (pt_cmpR op_lt (pe_ix (ixB (K := K)) (pv 23) pe_int (fun _ _ => rfl)) pe_int (nomark _)))) (fun _ _ _ _ _ => (pv 23))) (pe_lst pa_nil) (nomark _))))).pt (pss_one (ps_ret pe_bl)) pss_nil)
      (pss_one (ps_if (pt_cmpR (opNeD (K := K) hr) (pv 17) (pe_cmpR (opEqD (K := K) hr) (pe_lc (own := [("part", 23)]) (g := gName 23) rfl sc_law.nd (piAny (K := K) (pe_op (opAddB (K := K)) (pv 14) (pv 15))) (blkOk_by (N := ["script", "deal", "turn", "parts", "people", "houses", "pairs", "table", "prices", "shares", "payments", "shown", "paid", "supplied", "one", "other", "gap", "meets", "share", "price", "much", "payment", "supply", "part"]) (sc := defScope s_law) (by decide +kernel)) (fun _ _ _ _ _ => (pg_name (i := 23) sc_law.nd rfl (by first | exact .inl rfl | exact .inr rfl))) (fun _ _ _ _ _ => (pts_one (pt_cmpR (opNeD (K := K) hr) (pv 23) (pe_tup (pa_cons pe_int (pa_cons pe_int pa_nil))) (nomark _)))) (fun _ _ _ _ _ => (pv 23))) (pe_lst pa_nil) (nomark _)) (nomark _)) (pss_one (ps_ret pe_bl)) pss_nil))) pss_nil)))))))))))))))))))
      (pss_one (ps_ret pe_bl)))), ?_⟩
  walk_at "ev"
  refine gp_callW ?_
  walk_at "ev"
  refine callW0 (⟨ns, rfl, rfl, rfl⟩) ?_
  rintro _ _ ⟨aD, aC, s0, rfl, rfl, ok0⟩
  walk_at "ev"
  refine rngs1 (n := 3) rfl (by decide) ?_
  refine forT (S := K24.DS) (fun _ => [.s (ns.map .int), .o aD, .u, .u, .u, .u, .u, .u, .u, .u, .u, .u, .u, .u, .u, .u, .u, .u, .u, .u, .u, .u, .u, .u]) (fun s => dR aD aC s) (fun _ s => StOk s) s0 ok0 rfl rfl ?_ ?_
  · rintro i a s1 hi _ hlt ok1
    refine ⟨_, eg_name, ?_⟩
    have l1 := anyF_lt (b := 7) (by omega) s1
    have ok2 := anyF_ok (b := 7) ok1
    have l2 := anyF_lt (b := 6) (by omega) (anyF 7 s1).2
    have ok3 := anyF_ok (b := 6) ok2
    walk_at "ev"
    refine gp_callW ?_
    walk_at "ev"
    refine callS1 ⟨aD, aC, s1, 7, rfl, rfl, rfl, rfl, by omega, by omega, ok1⟩ ?_
    walk_at "ev"
    refine callS1 ⟨aD, aC, _, 6, rfl, rfl, rfl, rfl, by omega, by omega, ok2⟩ ?_
    walk_at "ev"
    refine callW0 (⟨aD, aC, _, (anyF 7 s1).1.toNat, (1 + (anyF 6 (anyF 7 s1).2).1).toNat, by rw [Int.toNat_of_nonneg l1.1, Int.toNat_of_nonneg (by omega)], rfl, ok3, by omega, by omega, rfl⟩) ?_
    rintro _ _ ⟨people, houses, pairs, s4, rfl, rfl, ok4, tk, -, hhl⟩
    have hne : houses ≠ [] := by
      rintro rfl
      rw [List.length_nil] at hhl
      omega
    walk_at "ev"
    refine sp_asg ?_
    walk_at "ev"
    refine ⟨_, eg_t3 eg_name eg_name eg_name, ?_⟩
    walk_at "ev"
    refine evp_of (ev_Table (tS_ok tk.l1) (tS_ok tk.l2) (tP_ok tk.pl) (ea_cons (ev_xd (ev_g rfl)) (ea_cons (ev_xd (ev_g rfl)) (ea_cons (ev_d rfl) ea_nil)))) ?_
    walk_at "ev"
    refine gp_callW ?_
    walk_at "ev"
    refine callW0 (⟨aD, aC, s4, houses, rfl, rfl, ok4, tk.l2, rfl⟩) ?_
    rintro _ _ ⟨ps, s5, rfl, rfl, ok5, hps, hpr⟩
    walk_at "ev"
    refine gp_callW ?_
    walk_at "ev"
    refine callW0 (⟨aD, aC, s5, people, houses, pairs, rfl, rfl, ok5, tk, hne, rfl⟩) ?_
    rintro _ _ ⟨ss, s6, rfl, rfl, ok6, hsl, hfs⟩
    walk_at "ev"
    refine gp_callW ?_
    walk_at "ev"
    refine callW0 (⟨aD, aC, s6, people, houses, pairs, ps, rfl, rfl, ok6, tk, hne, hpr, hps, rfl⟩) ?_
    rintro _ _ ⟨ys, s7, rfl, rfl, ok7, hyl, hfy⟩
    have tl1 := tk.l1
    have tl2 := tk.l2
    have so : ShOk houses ss := ⟨hsl, fun p hp => fineS_q (by omega) (hfs p hp)⟩
    have yo : PyOk people ys := ⟨hyl, fun p hp => fineP_q (by omega) (hfy p hp)⟩
    have D : Drawn people houses pairs ps ss ys := ⟨tk, so, yo, fun p hp => (hfs p hp).low, fun p hp => (hfy p hp).low, hps⟩
    have shSY : Sh (.list [.tuple (ss.map frD), .tuple (ys.map frD)]) 20 900 := (ShA.list (ShA.cons (frs_sh (fun p hp => (so.2 p hp).mono (by omega)) (by omega)) (ShA.cons (frs_sh (fun p hp => (yo.2 p hp).mono (by omega)) (by omega)) (ShA.nil (n := 0))))).mono
    walk_at "ev"
    refine rcp_of (rc_reprS shSY) ?_
    walk_at "ev"
    refine callS0 (e := .d (.list ((paidL people houses pairs ys).map frD))) ⟨people, houses, pairs, ys, ⟨_, _, row_tup, rfl, rfl, rfl⟩, rfl, tk, yo⟩ ?_
    walk_at "ev"
    refine callS0 (e := .d (.list ((supL people houses pairs ss).map frD))) ⟨people, houses, pairs, ss, ⟨_, _, row_tup, rfl, rfl, rfl⟩, rfl, tk, so⟩ ?_
    walk_at "ev"
    have pdq : ∀ q ∈ paidL people houses pairs ys, Q 600 q := fun q hq => by
      obtain ⟨h, _, rfl⟩ := List.mem_map.mp hq
      exact paid_q tk yo h
    have suq : ∀ q ∈ supL people houses pairs ss, Q 600 q := fun q hq => by
      obtain ⟨p, _, rfl⟩ := List.mem_map.mp hq
      exact sup_q tk so p
    have pdl : (paidL people houses pairs ys).length = houses.length := List.length_map _
    have sul : (supL people houses pairs ss).length = people.length := List.length_map _
    have pdS : Sh (.tuple ((paidL people houses pairs ys).map frD)) 20 900 := (frs_sh (fun p hp => (pdq p hp).mono (by omega)) (by omega)).mono
    refine callS0 (e := .d (.tuple ((paidL people houses pairs ys).map frD))) ⟨people, houses, pairs, ys, rfl, rfl, rfl, rfl, tk, yo⟩ ?_
    walk_at "ev"
    refine callS0 (e := .d (.bool true)) ⟨_, rfl, rfl, rfl, rfl, pdS⟩ ?_
    walk_at "ev"
    refine ⟨fun h => (nomatch h), fun _ => ?_⟩
    walk_at "eb"
    refine callKS0 (es' := [tab B people houses pairs, .d (.tuple (ys.map frD))]) (e := .d (.tuple ((paidL people houses pairs ys).map frD))) (fun F vs h => ens_two h) ⟨people, houses, pairs, ys, rfl, rfl, rfl, rfl, tk, yo⟩ ?_
    walk_at "ev"
    refine rvp_of (ne_self shaped_rowT) ?_
    walk_at "es"
    refine sp_weak (ρ' := [.s (ns.map .int), .o aD, .u, .g (prT people houses (tP pairs)), .u, .u, .u, tab B people houses pairs, .d (.tuple (ps.map .int)), .d (.tuple (ss.map frD)), .d (.tuple (ys.map frD)), .d (.str (PyData.shown (.list [.tuple (ss.map frD), .tuple (ys.map frD)]))), .d (.list ((paidL people houses pairs ys).map frD)), .d (.list ((supL people houses pairs ss).map frD)), .u, .u, .u, .u, .u, .u, .u, .u, .u, .u]) (by walk_at "wk") ?_
    walk_at "ev"
    have prq : ∀ c ∈ ps, Q 10 (c, 1) := fun c hc => by
      have := hpr c hc
      exact ⟨by unfold Sz; omega, (show (1 : Int).natAbs < 2 ^ 10 by decide), (show (0 : Int) < 1 by decide)⟩
    have subq : ∀ {q r : Int × Int}, Q 600 q → Q 600 r → Q 1201 (minusF q r) := fun {q r} h1 h2 => norm_sz (mul_ne (by have := h1.pos; omega) (by have := h2.pos; omega)) (((h1.top.mul h2.bot).sub (h2.top.mul h1.bot)).mono (by omega)) ((h1.bot.mul h2.bot).mono (by omega))
    generalize hpd : paidL people houses pairs ys = pd at pdq pdl pdS ⊢
    generalize hsu : supL people houses pairs ss = su at suq sul ⊢
    refine ip_of (ei_cast (prs3_zip frD .int frD ss ps pd) (ei_zip3 (k1 := true) (k2 := true) (k3 := false) (ea_cons (ev_d rfl) (ea_cons (ev_d rfl) (ea_cons (ev_d rfl) ea_nil))))) ?_
    refine ⟨small (by rw [List.length_map, List.length_zip]; omega), lcp_map (enc := fun z : (Int × Int) × (Int × (Int × Int)) => .tuple [frD z.1, .int z.2.1, frD z.2.2]) (f := fun z : (Int × Int) × (Int × (Int × Int)) => frD (timesF z.1 (minusF (z.2.1, 1) z.2.2))) (fun z hz => ⟨_, egw_three, ?_⟩) ?_⟩
    · obtain ⟨m1, m2⟩ := List.of_mem_zip hz
      obtain ⟨m2, m3⟩ := List.of_mem_zip m2
      have q2 := (prq _ m2).mono (show 10 ≤ 600 by omega)
      walk_at "ev"
      refine callS0 (e := .d (frD (minusF (z.2.1, 1) z.2.2))) ⟨(z.2.1, 1), z.2.2, rfl, rfl, rfl, rfl, q2.mono (by omega), (pdq _ m3).mono (by omega)⟩ ?_
      walk_at "ev"
      exact callS0 (e := .d (frD (timesF z.1 (minusF (z.2.1, 1) z.2.2)))) ⟨z.1, minusF (z.2.1, 1) z.2.2, rfl, rfl, rfl, rfl, (so.2 _ m1).mono (by omega), (subq q2 (pdq _ m3)).mono (by omega)⟩ ⟨rfl, rfl⟩
    rw [show (ss.zip (ps.zip pd)).map (fun z => frD (timesF z.1 (minusF (z.2.1, 1) z.2.2))) = (hgaps ps ss pd).map frD by rw [← hg_swap, List.map_map]; rfl]
    walk_at "ev"
    refine ip_of (ei_cast (prs_zip frD frD ys su) (ei_zipM (k1 := true) (k2 := false) (ea_cons (ev_d rfl) (ea_cons (ev_d rfl) ea_nil)))) ?_
    refine ⟨small (by rw [List.length_map, List.length_zip]; omega), lcp_map (enc := fun z : (Int × Int) × (Int × Int) => .tuple [frD z.1, frD z.2]) (f := fun z : (Int × Int) × (Int × Int) => frD (timesF z.1 (minusF z.2 (1, 1)))) (fun z hz => ⟨_, egw_pair, ?_⟩) ?_⟩
    · have q600 : Q 600 (1, 1) := q11 (by omega)
      have q2k : Q 2000 (1, 1) := q11 (by omega)
      obtain ⟨m1, m2⟩ := List.of_mem_zip hz
      walk_at "ev"
      refine callS0 (e := .d (frD (minusF z.2 (1, 1)))) ⟨z.2, (1, 1), rfl, rfl, rfl, rfl, (suq _ m2).mono (by omega), q2k⟩ ?_
      walk_at "ev"
      exact callS0 (e := .d (frD (timesF z.1 (minusF z.2 (1, 1))))) ⟨z.1, minusF z.2 (1, 1), rfl, rfl, rfl, rfl, (yo.2 _ m1).mono (by omega), (subq (suq _ m2) q600).mono (by omega)⟩ ⟨rfl, rfl⟩
    rw [show (ys.zip su).map (fun z => frD (timesF z.1 (minusF z.2 (1, 1)))) = (pgaps ys su).map frD by rw [pgaps, List.map_map]; rfl]
    walk_at "ev"
    subst hpd
    subst hsu
    have hPS := parts_sums D hpr hfs hfy
    have q2000 := hPS.2
    have hgl : (hgaps ps ss (paidL people houses pairs ys)).length ≤ 8 := by unfold hgaps; rw [List.length_map, List.length_zip]; omega
    have pgl : (pgaps ys (supL people houses pairs ss)).length ≤ 8 := by unfold pgaps; rw [List.length_map, List.length_zip]; omega
    have q1 : ∀ p ∈ partsL people houses pairs ps ss ys, Q 1900 p := fun p hp => by
      have fp := hp
      rcases List.mem_append.mp hp with hp | hp
      · obtain ⟨z, hz, rfl⟩ := List.mem_map.mp hp
        obtain ⟨m1, m2⟩ := List.of_mem_zip hz
        obtain ⟨m2, m3⟩ := List.of_mem_zip m2
        exact (gap_q (n := 600) (by omega) ((so.2 _ m2).mono (by omega)) ((prq _ m1).mono (by omega)) (pdq _ m3)).mono (by omega)
      · obtain ⟨z, hz, rfl⟩ := List.mem_map.mp hp
        obtain ⟨m1, m2⟩ := List.of_mem_zip hz
        exact (gap_q (n := 600) (by omega) ((yo.2 _ m1).mono (by omega)) (suq _ m2) (show Q 600 (1, 1) from q11 (by omega))).mono (by omega)
    have shG : Sh (.tuple [.tuple ((hgaps ps ss (paidL people houses pairs ys)).map frD), .tuple ((pgaps ys (supL people houses pairs ss)).map frD)]) 20 900 := (ShA.tuple (ShA.cons (frs_sh (fun p hp => q1 p (List.mem_append_left _ hp)) (by omega)) (ShA.cons (frs_sh (fun p hp => q1 p (List.mem_append_right _ hp)) (by omega)) (ShA.nil (n := 0))))).mono
    have plen : (partsL people houses pairs ps ss ys).length ≤ 16 := by rw [List.length_append]; omega
    refine callS0 (e := .d (.tuple [.tuple ((hgaps ps ss (paidL people houses pairs ys)).map frD), .tuple ((pgaps ys (supL people houses pairs ss)).map frD)])) ⟨people, houses, pairs, ps, ss, ys, rfl, rfl, rfl, rfl, tk, so, yo, hpr, hps⟩ ?_
    walk_at "ev"
    refine callS0 (e := .d (.bool true)) ⟨_, rfl, rfl, rfl, rfl, shG⟩ ?_
    walk_at "ev"
    refine ⟨fun h => (nomatch h), fun _ => ?_⟩
    walk_at "eb"
    refine callKS0 (es' := [tab B people houses pairs, .d (.tuple (ps.map .int)), .d (.tuple (ss.map frD)), .d (.tuple (ys.map frD))]) (e := .d (.tuple [.tuple ((hgaps ps ss (paidL people houses pairs ys)).map frD), .tuple ((pgaps ys (supL people houses pairs ss)).map frD)])) (fun F vs h => ens_four h) ⟨people, houses, pairs, ps, ss, ys, rfl, rfl, rfl, rfl, tk, so, yo, hpr, hps⟩ ?_
    walk_at "ev"
    refine rvp_of (ne_self (shaped_two _ _)) ?_
    walk_at "eb"
    have co : CostOk (ps.zip ss) := ⟨by rw [List.length_zip]; omega, fun z hz => by
      obtain ⟨m1, m2⟩ := List.of_mem_zip hz
      have := hpr _ m1
      exact ⟨by unfold Sz; omega, so.2 _ m2⟩⟩
    have cq : Q 900 (costF (ps.zip ss)) := by
      have := (sum_is (l := costL (ps.zip ss)) fun p hp => cost_q co p hp).2
      refine this.mono ?_
      unfold costL
      rw [List.length_map]
      have := co.1
      omega
    have yq70 : ∀ p ∈ ys, Q 70 p := fun p hp => (yo.2 p hp).mono (by omega)
    have yq : Q 900 (sumF ys) := (sum_is yq70).2.mono (by omega)
    have gq : Q 1801 (gapF ps ss ys) := norm_sz (mul_ne (by have := cq.pos; omega) (by have := yq.pos; omega)) (((cq.top.mul yq.bot).sub (yq.top.mul cq.bot)).mono (by omega)) ((cq.bot.mul yq.bot).mono (by omega))
    have hsY := sums_q (by omega) yq70
    refine callS0 (e := .d (frD (costF (ps.zip ss)))) ⟨ps, ss, rfl, rfl, rfl, rfl, co⟩ ?_
    walk_at "ev"
    refine callS0 (e := .d (frD (sumF ys))) ⟨true, ys, rfl, rfl, rfl, rfl, hsY.1, hsY.2⟩ ?_
    walk_at "ev"
    refine callS0 (e := .d (frD (gapF ps ss ys))) ⟨costF (ps.zip ss), sumF ys, rfl, rfl, rfl, rfl, cq.mono (by omega), yq.mono (by omega)⟩ ?_
    have hse := sum_parts D
    have hcb := cost_back D
    have hmg := meets_gap D
    walk_at "ev"
    refine op_bT (by rw [List.length_map, List.length_map]; omega) ?_
    walk_at "ev"
    refine callS0 (e := .d (frD (gapF ps ss ys))) ⟨true, partsL people houses pairs ps ss ys, by rw [partsL, List.map_append]; rfl, rfl, rfl, by rw [hse], hPS.1, hPS.2⟩ ?_
    walk_at "ev"
    refine rvp_of (ne_self (shaped_frD _)) ?_
    walk_at "eb"
    refine callS0 (e := .d (frD (costF (ps.zip ss)))) ⟨ps, ss, rfl, rfl, rfl, rfl, co⟩ ?_
    walk_at "ev"
    refine callS0 (e := .d (frD (sumF ys))) ⟨true, ys, rfl, rfl, rfl, rfl, hsY.1, hsY.2⟩ ?_
    walk_at "ev"
    refine callS0 (e := .d (frD (costF (ps.zip ss)))) ⟨gapF ps ss ys, sumF ys, rfl, rfl, rfl, congrArg (fun x => En.d (frD x)) hcb.symm, gq.mono (by omega), yq.mono (by omega)⟩ ?_
    walk_at "ev"
    refine rvp_of (ne_self (shaped_frD _)) ?_
    walk_at "eb"
    refine op_eqD (f := frD (0, 1)) (shaped_frD _) (shaped_frD _) ?_
    rw [show PyData.eqv (frD (gapF ps ss ys)) (frD (0, 1)) = decide (costF (ps.zip ss) = sumF ys) from (eqv_frD _ _).trans hmg]
    walk_at "es"
    refine sp_weak (ρ' := [.s (ns.map .int), .o aD, .u, .g (prT people houses (tP pairs)), .u, .u, .u, tab B people houses pairs, .d (.tuple (ps.map .int)), .d (.tuple (ss.map frD)), .d (.tuple (ys.map frD)), .d (.str (PyData.shown (.list [.tuple (ss.map frD), .tuple (ys.map frD)]))), .u, .u, .d (.tuple ((hgaps ps ss (paidL people houses pairs ys)).map frD)), .d (.tuple ((pgaps ys (supL people houses pairs ss)).map frD)), .d (frD (gapF ps ss ys)), .d (.bool (decide (costF (ps.zip ss) = sumF ys))), .u, .u, .u, .u, .u, .u]) (by walk_at "wk") ?_
    have shM := sh_bool (decide (costF (ps.zip ss) = sumF ys))
    walk_at "ev"
    refine callS0 (e := .d (.bool (decide (costF (ps.zip ss) = sumF ys)))) ⟨people, houses, pairs, ps, ss, ys, rfl, rfl, rfl, rfl, co, by omega, yq70⟩ ?_
    walk_at "ev"
    refine rcp_of (rc_reprS shM) ?_
    walk_at "ev"
    refine rcp_of (rc_reprS shM) ?_
    walk_at "ev"
    refine op_neSS ?_
    walk_at "eb"
    refine callKS0 (es' := [tab B people houses pairs, .d (.tuple (ps.map .int)), .d (.tuple (ss.map frD)), .d (.tuple (ys.map frD))]) (e := .d (.bool (decide (costF (ps.zip ss) = sumF ys)))) (fun F vs h => ens_four h) ⟨people, houses, pairs, ps, ss, ys, rfl, rfl, rfl, rfl, co, by omega, yq70⟩ ?_
    walk_at "ev"
    refine rvp_of (ne_self (by rfl)) ?_
    walk_at "eb"
    refine rcp_of (rc_reprS shSY) ?_
    walk_at "ev"
    refine op_neSS ?_
    walk_at "eb"
    refine callS0 (e := .d (.bool ((ss.filter fun q => decide (q.1 < 0)).isEmpty && rightF people houses pairs ss))) ⟨people, houses, pairs, ss, rfl, rfl, rfl, rfl, tk, so⟩ ?_
    walk_at "ev"
    refine ⟨fun hb1 => ?_, fun _ => ?_⟩
    · walk_at "ev"
      refine callS0 (e := .d (.bool (paysF people houses pairs ps ys))) ⟨people, houses, pairs, ps, ys, rfl, rfl, rfl, rfl, tk, yo, hpr⟩ ?_
      walk_at "ev"
      refine ⟨fun hb2 => ?_, fun _ => ?_⟩
      · rw [Bool.and_eq_true] at hb1
        have hnn := parts_nonneg D hb1.1 hb1.2 hb2
        have hgu := gap_up D hnn
        have hnb := none_below D hnn
        have hmp := hmg.symm.trans (meets_parts D hnn)
        walk_at "ev"
        refine brd (fun h => absurd h hgu) (fun _ => ?_)
        walk_at "eb"
        refine ip_t ?_
        walk_at "ev"
        refine op_bT (by rw [List.length_map, List.length_map]; omega) ?_
        rw [show (hgaps ps ss (paidL people houses pairs ys)).map frD ++ (pgaps ys (supL people houses pairs ss)).map frD = (partsL people houses pairs ps ss ys).map frD from List.map_append.symm]
        walk_at "ev"
        refine ⟨small (by rw [List.length_map]; omega), lcp_filter (enc := frD) (p := fun q : Int × Int => decide (q.1 < 0)) (f := frD) (fun q hq => ⟨_, egw_name, ?_⟩) ?_⟩
        · walk_at "ev"
          refine ⟨rfl, rfl, fun _ => ?_⟩
          walk_at "ev"
          exact ⟨rfl, rfl⟩
        walk_at "ev"
        refine op_neD shaped_rows shE ?_
        rw [eqv_nil, hnb]
        walk_at "ev"
        refine ⟨fun h => (nomatch h), fun _ => ?_⟩
        walk_at "eb"
        refine ip_t ?_
        walk_at "ev"
        refine op_bT (by rw [List.length_map, List.length_map]; omega) ?_
        rw [show (hgaps ps ss (paidL people houses pairs ys)).map frD ++ (pgaps ys (supL people houses pairs ss)).map frD = (partsL people houses pairs ps ss ys).map frD from List.map_append.symm]
        walk_at "ev"
        refine ⟨small (by rw [List.length_map]; omega), lcp_filter (enc := frD) (p := fun q : Int × Int => !decide (q = (0, 1))) (f := frD) (fun q hq => ⟨_, egw_name, ?_⟩) ?_⟩
        · walk_at "ev"
          refine op_neD (f := frD (0, 1)) (shaped_frD _) (shaped_frD _) ?_
          rw [eqv_frD]
          walk_at "ev"
          refine ⟨rfl, rfl, fun _ => ?_⟩
          walk_at "ev"
          exact ⟨rfl, rfl⟩
        walk_at "ev"
        refine op_eqD shaped_rows shE ?_
        rw [eqv_nil, ← hmp]
        walk_at "ev"
        refine rvp_of (ne_self (by rfl)) ?_
        walk_at "eb"
        exact ⟨s7, by walk_at "wk", rfl, ok7⟩
      · walk_at "eb"
        exact ⟨s7, by walk_at "wk", rfl, ok7⟩
    · walk_at "eb"
      exact ⟨s7, by walk_at "wk", rfl, ok7⟩
  · rintro s1 _
    walk_at "ev"
    rfl
end
end K24

namespace K24
open PySem PySem.Spec PyProof.Rows L2 StX RZ Fx
section
variable {P : Program} {w : World} {K : PySem.W.Frag} {mg : Str → Option Value} {C fI : Addr}
theorem runs_law (T : Txt K mg) (Z : Zs K mg) (B : ClsTxt K mg) {a : Addr} {s₁ : Shared} {ns : List Int} : Runs P w K mg T.a_law a s₁ ns := by
  intro base H hK hN hS e0
  obtain ⟨oc, od, kV, doc, pm, an, cdv, ct, osl, hfd, lk, hcd⟩ := T.f_law.ex
  have hr : Room (8 + 1) callerA := ⟨rfl, by decide, by decide⟩
  have KX : K.In s₁.heap := e0.mod.kin.keeps fun b o e => (e0.bs b o e).1
  have b := T.b_law s₁ [.ref a] KX rfl
  rw [List.append_nil, hfd] at b
  rw [hfd] at lk
  refine fn_at (k := 8) (vs := [.ref a]) (us := [.ref a]) lk hcd sc_law hr e0 b (.cons rfl .nil) rfl ?_
  obtain ⟨t, ht, he⟩ := es_law (P := P) (w := w) (base := base) T Z B (ns := ns) (A := callerA) (outer := []) (s := s₁) (H := H) (E := E0) (cdv := cdv) (hr.deeper _) rfl
  refine ⟨t, ht.nox, ?_⟩
  refine he [] H H _ _ (.cons ⟨.ref a, rfl, a, _, rfl, hS, Dts.of_ints ns⟩ (Sls.us 23)) ⟨Ex.refl H, List.nodup_nil, fun r hr => nomatch hr⟩ ⟨?_, ?_, ?_, ?_⟩
  · intro _ _ _ _ _ h; exact h.elim
  · rintro e R v F1 H1 rfl x e1 A1
    cases e1
    rfl
  · intro _ _ _ _ _ h; exact h.elim
  · intro _ _ _ _ _ h; exact h.elim
end
theorem exm_own {K : PySem.W.Frag} {S : Addr} (h1 : PySem.W.subIn K (.ref S) (.type "BaseException") = some true) (h2 : PySem.W.isClsIn K S = true) (h3 : PySem.W.typeIn K (.ref S) = some (.type "type")) (h4 : PySem.W.subIn K (.ref S) (.ref S) = some true) :
    PySem.W.exmOne K (.ref S) (.ref S) = some true := by
  have h2' : (PySem.W.clsIn K S).isSome = true := h2
  unfold PySem.W.exmOne
  simp [PySem.W.kitCls, h1, h2', h3, h4]
theorem txt_mk {K : PySem.W.Frag} {h : Heap} {mg : Str → Option Value} (X : K.In h) (G : h.Ns mainGlobals mg)
    {f0 : Addr} {od0 an0 : Option Addr} {sl0 : Array (Option Value)} {oc0 kV0 dc0 pm0 cd0 ct0 : Value}
    {f1 : Addr} {od1 an1 : Option Addr} {sl1 : Array (Option Value)} {oc1 kV1 dc1 pm1 cd1 ct1 : Value}
    {f2 : Addr} {od2 an2 : Option Addr} {sl2 : Array (Option Value)} {oc2 kV2 dc2 pm2 cd2 ct2 : Value}
    {f3 : Addr} {od3 an3 : Option Addr} {sl3 : Array (Option Value)} {oc3 kV3 dc3 pm3 cd3 ct3 : Value}
    {f4 : Addr} {od4 an4 : Option Addr} {sl4 : Array (Option Value)} {oc4 kV4 dc4 pm4 cd4 ct4 : Value}
    {f5 : Addr} {od5 an5 : Option Addr} {sl5 : Array (Option Value)} {oc5 kV5 dc5 pm5 cd5 ct5 : Value}
    {f6 : Addr} {od6 an6 : Option Addr} {sl6 : Array (Option Value)} {oc6 kV6 dc6 pm6 cd6 ct6 : Value}
    {f7 : Addr} {od7 an7 : Option Addr} {sl7 : Array (Option Value)} {oc7 kV7 dc7 pm7 cd7 ct7 : Value}
    {f8 : Addr} {od8 an8 : Option Addr} {sl8 : Array (Option Value)} {oc8 kV8 dc8 pm8 cd8 ct8 : Value}
    {f9 : Addr} {od9 an9 : Option Addr} {sl9 : Array (Option Value)} {oc9 kV9 dc9 pm9 cd9 ct9 : Value}
    {f10 : Addr} {od10 an10 : Option Addr} {sl10 : Array (Option Value)} {oc10 kV10 dc10 pm10 cd10 ct10 : Value}
    {f11 : Addr} {od11 an11 : Option Addr} {sl11 : Array (Option Value)} {oc11 kV11 dc11 pm11 cd11 ct11 : Value}
    {f12 : Addr} {od12 an12 : Option Addr} {sl12 : Array (Option Value)} {oc12 kV12 dc12 pm12 cd12 ct12 : Value}
    {f13 : Addr} {od13 an13 : Option Addr} {sl13 : Array (Option Value)} {oc13 kV13 dc13 pm13 cd13 ct13 : Value}
    {f14 : Addr} {od14 an14 : Option Addr} {sl14 : Array (Option Value)} {oc14 kV14 dc14 pm14 cd14 ct14 : Value}
    {f15 : Addr} {od15 an15 : Option Addr} {sl15 : Array (Option Value)} {oc15 kV15 dc15 pm15 cd15 ct15 : Value}
    {f16 : Addr} {od16 an16 : Option Addr} {sl16 : Array (Option Value)} {oc16 kV16 dc16 pm16 cd16 ct16 : Value}
    {f17 : Addr} {od17 an17 : Option Addr} {sl17 : Array (Option Value)} {oc17 kV17 dc17 pm17 cd17 ct17 : Value}
    {f18 : Addr} {od18 an18 : Option Addr} {sl18 : Array (Option Value)} {oc18 kV18 dc18 pm18 cd18 ct18 : Value}
    {f19 : Addr} {od19 an19 : Option Addr} {sl19 : Array (Option Value)} {oc19 kV19 dc19 pm19 cd19 ct19 : Value}
    {f20 : Addr} {od20 an20 : Option Addr} {sl20 : Array (Option Value)} {oc20 kV20 dc20 pm20 cd20 ct20 : Value}
    {f21 : Addr} {od21 an21 : Option Addr} {sl21 : Array (Option Value)} {oc21 kV21 dc21 pm21 cd21 ct21 : Value}
    {f22 : Addr} {od22 an22 : Option Addr} {sl22 : Array (Option Value)} {oc22 kV22 dc22 pm22 cd22 ct22 : Value}
    {f23 : Addr} {od23 an23 : Option Addr} {sl23 : Array (Option Value)} {oc23 kV23 dc23 pm23 cd23 ct23 : Value}
    {f24 : Addr} {od24 an24 : Option Addr} {sl24 : Array (Option Value)} {oc24 kV24 dc24 pm24 cd24 ct24 : Value}
    {f25 : Addr} {od25 an25 : Option Addr} {sl25 : Array (Option Value)} {oc25 kV25 dc25 pm25 cd25 ct25 : Value}
    {f26 : Addr} {od26 an26 : Option Addr} {sl26 : Array (Option Value)} {oc26 kV26 dc26 pm26 cd26 ct26 : Value}
    {f27 : Addr} {od27 an27 : Option Addr} {sl27 : Array (Option Value)} {oc27 kV27 dc27 pm27 cd27 ct27 : Value}
    {f28 : Addr} {od28 an28 : Option Addr} {sl28 : Array (Option Value)} {oc28 kV28 dc28 pm28 cd28 ct28 : Value}
    {f29 : Addr} {od29 an29 : Option Addr} {sl29 : Array (Option Value)} {oc29 kV29 dc29 pm29 cd29 ct29 : Value}
    {f30 : Addr} {od30 an30 : Option Addr} {sl30 : Array (Option Value)} {oc30 kV30 dc30 pm30 cd30 ct30 : Value}
    {f31 : Addr} {od31 an31 : Option Addr} {sl31 : Array (Option Value)} {oc31 kV31 dc31 pm31 cd31 ct31 : Value}
    {f32 : Addr} {od32 an32 : Option Addr} {sl32 : Array (Option Value)} {oc32 kV32 dc32 pm32 cd32 ct32 : Value}
    {f33 : Addr} {od33 an33 : Option Addr} {sl33 : Array (Option Value)} {oc33 kV33 dc33 pm33 cd33 ct33 : Value}
    {f34 : Addr} {od34 an34 : Option Addr} {sl34 : Array (Option Value)} {oc34 kV34 dc34 pm34 cd34 ct34 : Value}
    {f35 : Addr} {od35 an35 : Option Addr} {sl35 : Array (Option Value)} {oc35 kV35 dc35 pm35 cd35 ct35 : Value}
    {f36 : Addr} {od36 an36 : Option Addr} {sl36 : Array (Option Value)} {oc36 kV36 dc36 pm36 cd36 ct36 : Value}
    (a0 : PySem.W.nsIn K mainGlobals "kept" = some (some (.ref f0))) (l0 : K.lookup f0 = some ⟨oc0, od0, .func (PySem.W.fnOf "kept" "kept" (defArgs s_kept) (defBody s_kept) (defScope s_kept) .none kV0 dc0 pm0 an0 cd0 ct0), sl0⟩) (c0 : PySem.W.codeIn K cd0 "kept" = true) (k0 : PySem.W.keepIn K (.ref f0) = true)
    (a1 : PySem.W.nsIn K mainGlobals "fraction" = some (some (.ref f1))) (l1 : K.lookup f1 = some ⟨oc1, od1, .func (PySem.W.fnOf "fraction" "fraction" (defArgs s_fraction) (defBody s_fraction) (defScope s_fraction) .none kV1 dc1 pm1 an1 cd1 ct1), sl1⟩) (c1 : PySem.W.codeIn K cd1 "fraction" = true) (k1 : PySem.W.keepIn K (.ref f1) = true)
    (a2 : PySem.W.nsIn K mainGlobals "whole" = some (some (.ref f2))) (l2 : K.lookup f2 = some ⟨oc2, od2, .func (PySem.W.fnOf "whole" "whole" (defArgs s_whole) (defBody s_whole) (defScope s_whole) .none kV2 dc2 pm2 an2 cd2 ct2), sl2⟩) (c2 : PySem.W.codeIn K cd2 "whole" = true) (k2 : PySem.W.keepIn K (.ref f2) = true)
    (a3 : PySem.W.nsIn K mainGlobals "plus" = some (some (.ref f3))) (l3 : K.lookup f3 = some ⟨oc3, od3, .func (PySem.W.fnOf "plus" "plus" (defArgs s_plus) (defBody s_plus) (defScope s_plus) .none kV3 dc3 pm3 an3 cd3 ct3), sl3⟩) (c3 : PySem.W.codeIn K cd3 "plus" = true) (k3 : PySem.W.keepIn K (.ref f3) = true)
    (a4 : PySem.W.nsIn K mainGlobals "minus" = some (some (.ref f4))) (l4 : K.lookup f4 = some ⟨oc4, od4, .func (PySem.W.fnOf "minus" "minus" (defArgs s_minus) (defBody s_minus) (defScope s_minus) .none kV4 dc4 pm4 an4 cd4 ct4), sl4⟩) (c4 : PySem.W.codeIn K cd4 "minus" = true) (k4 : PySem.W.keepIn K (.ref f4) = true)
    (a5 : PySem.W.nsIn K mainGlobals "times" = some (some (.ref f5))) (l5 : K.lookup f5 = some ⟨oc5, od5, .func (PySem.W.fnOf "times" "times" (defArgs s_times) (defBody s_times) (defScope s_times) .none kV5 dc5 pm5 an5 cd5 ct5), sl5⟩) (c5 : PySem.W.codeIn K cd5 "times" = true) (k5 : PySem.W.keepIn K (.ref f5) = true)
    (a6 : PySem.W.nsIn K mainGlobals "total_of" = some (some (.ref f6))) (l6 : K.lookup f6 = some ⟨oc6, od6, .func (PySem.W.fnOf "total_of" "total_of" (defArgs s_total_of) (defBody s_total_of) (defScope s_total_of) .none kV6 dc6 pm6 an6 cd6 ct6), sl6⟩) (c6 : PySem.W.codeIn K cd6 "total_of" = true) (k6 : PySem.W.keepIn K (.ref f6) = true)
    (a7 : PySem.W.nsIn K mainGlobals "served_by" = some (some (.ref f7))) (l7 : K.lookup f7 = some ⟨oc7, od7, .func (PySem.W.fnOf "served_by" "served_by" (defArgs s_served_by) (defBody s_served_by) (defScope s_served_by) .none kV7 dc7 pm7 an7 cd7 ct7), sl7⟩) (c7 : PySem.W.codeIn K cd7 "served_by" = true) (k7 : PySem.W.keepIn K (.ref f7) = true)
    (a8 : PySem.W.nsIn K mainGlobals "serves" = some (some (.ref f8))) (l8 : K.lookup f8 = some ⟨oc8, od8, .func (PySem.W.fnOf "serves" "serves" (defArgs s_serves) (defBody s_serves) (defScope s_serves) .none kV8 dc8 pm8 an8 cd8 ct8), sl8⟩) (c8 : PySem.W.codeIn K cd8 "serves" = true) (k8 : PySem.W.keepIn K (.ref f8) = true)
    (a9 : PySem.W.nsIn K mainGlobals "sum_of" = some (some (.ref f9))) (l9 : K.lookup f9 = some ⟨oc9, od9, .func (PySem.W.fnOf "sum_of" "sum_of" (defArgs s_sum_of) (defBody s_sum_of) (defScope s_sum_of) .none kV9 dc9 pm9 an9 cd9 ct9), sl9⟩) (c9 : PySem.W.codeIn K cd9 "sum_of" = true) (k9 : PySem.W.keepIn K (.ref f9) = true)
    (a10 : PySem.W.nsIn K mainGlobals "asked_of" = some (some (.ref f10))) (l10 : K.lookup f10 = some ⟨oc10, od10, .func (PySem.W.fnOf "asked_of" "asked_of" (defArgs s_asked_of) (defBody s_asked_of) (defScope s_asked_of) .none kV10 dc10 pm10 an10 cd10 ct10), sl10⟩) (c10 : PySem.W.codeIn K cd10 "asked_of" = true) (k10 : PySem.W.keepIn K (.ref f10) = true)
    (a11 : PySem.W.nsIn K mainGlobals "supplies" = some (some (.ref f11))) (l11 : K.lookup f11 = some ⟨oc11, od11, .func (PySem.W.fnOf "supplies" "supplies" (defArgs s_supplies) (defBody s_supplies) (defScope s_supplies) .none kV11 dc11 pm11 an11 cd11 ct11), sl11⟩) (c11 : PySem.W.codeIn K cd11 "supplies" = true) (k11 : PySem.W.keepIn K (.ref f11) = true)
    (a12 : PySem.W.nsIn K mainGlobals "cost_of" = some (some (.ref f12))) (l12 : K.lookup f12 = some ⟨oc12, od12, .func (PySem.W.fnOf "cost_of" "cost_of" (defArgs s_cost_of) (defBody s_cost_of) (defScope s_cost_of) .none kV12 dc12 pm12 an12 cd12 ct12), sl12⟩) (c12 : PySem.W.codeIn K cd12 "cost_of" = true) (k12 : PySem.W.keepIn K (.ref f12) = true)
    (a13 : PySem.W.nsIn K mainGlobals "paid_to" = some (some (.ref f13))) (l13 : K.lookup f13 = some ⟨oc13, od13, .func (PySem.W.fnOf "paid_to" "paid_to" (defArgs s_paid_to) (defBody s_paid_to) (defScope s_paid_to) .none kV13 dc13 pm13 an13 cd13 ct13), sl13⟩) (c13 : PySem.W.codeIn K cd13 "paid_to" = true) (k13 : PySem.W.keepIn K (.ref f13) = true)
    (a14 : PySem.W.nsIn K mainGlobals "share_gaps" = some (some (.ref f14))) (l14 : K.lookup f14 = some ⟨oc14, od14, .func (PySem.W.fnOf "share_gaps" "share_gaps" (defArgs s_share_gaps) (defBody s_share_gaps) (defScope s_share_gaps) .none kV14 dc14 pm14 an14 cd14 ct14), sl14⟩) (c14 : PySem.W.codeIn K cd14 "share_gaps" = true) (k14 : PySem.W.keepIn K (.ref f14) = true)
    (a15 : PySem.W.nsIn K mainGlobals "do_meet" = some (some (.ref f15))) (l15 : K.lookup f15 = some ⟨oc15, od15, .func (PySem.W.fnOf "do_meet" "do_meet" (defArgs s_do_meet) (defBody s_do_meet) (defScope s_do_meet) .none kV15 dc15 pm15 an15 cd15 ct15), sl15⟩) (c15 : PySem.W.codeIn K cd15 "do_meet" = true) (k15 : PySem.W.keepIn K (.ref f15) = true)
    (a16 : PySem.W.nsIn K mainGlobals "_law_source" = some (some (.ref f16))) (l16 : K.lookup f16 = some ⟨oc16, od16, .func (PySem.W.fnOf "_law_source" "_law_source" (defArgs s__law_source) (defBody s__law_source) (defScope s__law_source) .none kV16 dc16 pm16 an16 cd16 ct16), sl16⟩) (c16 : PySem.W.codeIn K cd16 "_law_source" = true) (k16 : PySem.W.keepIn K (.ref f16) = true)
    (a17 : PySem.W.nsIn K mainGlobals "_law_any" = some (some (.ref f17))) (l17 : K.lookup f17 = some ⟨oc17, od17, .func (PySem.W.fnOf "_law_any" "_law_any" (defArgs s__law_any) (defBody s__law_any) (defScope s__law_any) .none kV17 dc17 pm17 an17 cd17 ct17), sl17⟩) (c17 : PySem.W.codeIn K cd17 "_law_any" = true) (k17 : PySem.W.keepIn K (.ref f17) = true)
    (a18 : PySem.W.nsIn K mainGlobals "_law_of" = some (some (.ref f18))) (l18 : K.lookup f18 = some ⟨oc18, od18, .func (PySem.W.fnOf "_law_of" "_law_of" (defArgs s__law_of) (defBody s__law_of) (defScope s__law_of) .none kV18 dc18 pm18 an18 cd18 ct18), sl18⟩) (c18 : PySem.W.codeIn K cd18 "_law_of" = true) (k18 : PySem.W.keepIn K (.ref f18) = true)
    (a19 : PySem.W.nsIn K mainGlobals "_law_common" = some (some (.ref f19))) (l19 : K.lookup f19 = some ⟨oc19, od19, .func (PySem.W.fnOf "_law_common" "_law_common" (defArgs s__law_common) (defBody s__law_common) (defScope s__law_common) .none kV19 dc19 pm19 an19 cd19 ct19), sl19⟩) (c19 : PySem.W.codeIn K cd19 "_law_common" = true) (k19 : PySem.W.keepIn K (.ref f19) = true)
    (a20 : PySem.W.nsIn K mainGlobals "_law_low" = some (some (.ref f20))) (l20 : K.lookup f20 = some ⟨oc20, od20, .func (PySem.W.fnOf "_law_low" "_law_low" (defArgs s__law_low) (defBody s__law_low) (defScope s__law_low) .none kV20 dc20 pm20 an20 cd20 ct20), sl20⟩) (c20 : PySem.W.codeIn K cd20 "_law_low" = true) (k20 : PySem.W.keepIn K (.ref f20) = true)
    (a21 : PySem.W.nsIn K mainGlobals "_law_same" = some (some (.ref f21))) (l21 : K.lookup f21 = some ⟨oc21, od21, .func (PySem.W.fnOf "_law_same" "_law_same" (defArgs s__law_same) (defBody s__law_same) (defScope s__law_same) .none kV21 dc21 pm21 an21 cd21 ct21), sl21⟩) (c21 : PySem.W.codeIn K cd21 "_law_same" = true) (k21 : PySem.W.keepIn K (.ref f21) = true)
    (a22 : PySem.W.nsIn K mainGlobals "_law_plus" = some (some (.ref f22))) (l22 : K.lookup f22 = some ⟨oc22, od22, .func (PySem.W.fnOf "_law_plus" "_law_plus" (defArgs s__law_plus) (defBody s__law_plus) (defScope s__law_plus) .none kV22 dc22 pm22 an22 cd22 ct22), sl22⟩) (c22 : PySem.W.codeIn K cd22 "_law_plus" = true) (k22 : PySem.W.keepIn K (.ref f22) = true)
    (a23 : PySem.W.nsIn K mainGlobals "_law_times" = some (some (.ref f23))) (l23 : K.lookup f23 = some ⟨oc23, od23, .func (PySem.W.fnOf "_law_times" "_law_times" (defArgs s__law_times) (defBody s__law_times) (defScope s__law_times) .none kV23 dc23 pm23 an23 cd23 ct23), sl23⟩) (c23 : PySem.W.codeIn K cd23 "_law_times" = true) (k23 : PySem.W.keepIn K (.ref f23) = true)
    (a24 : PySem.W.nsIn K mainGlobals "_law_less" = some (some (.ref f24))) (l24 : K.lookup f24 = some ⟨oc24, od24, .func (PySem.W.fnOf "_law_less" "_law_less" (defArgs s__law_less) (defBody s__law_less) (defScope s__law_less) .none kV24 dc24 pm24 an24 cd24 ct24), sl24⟩) (c24 : PySem.W.codeIn K cd24 "_law_less" = true) (k24 : PySem.W.keepIn K (.ref f24) = true)
    (a25 : PySem.W.nsIn K mainGlobals "_law_sum" = some (some (.ref f25))) (l25 : K.lookup f25 = some ⟨oc25, od25, .func (PySem.W.fnOf "_law_sum" "_law_sum" (defArgs s__law_sum) (defBody s__law_sum) (defScope s__law_sum) .none kV25 dc25 pm25 an25 cd25 ct25), sl25⟩) (c25 : PySem.W.codeIn K cd25 "_law_sum" = true) (k25 : PySem.W.keepIn K (.ref f25) = true)
    (a26 : PySem.W.nsIn K mainGlobals "_law_names" = some (some (.ref f26))) (l26 : K.lookup f26 = some ⟨oc26, od26, .func (PySem.W.fnOf "_law_names" "_law_names" (defArgs s__law_names) (defBody s__law_names) (defScope s__law_names) .none kV26 dc26 pm26 an26 cd26 ct26), sl26⟩) (c26 : PySem.W.codeIn K cd26 "_law_names" = true) (k26 : PySem.W.keepIn K (.ref f26) = true)
    (a27 : PySem.W.nsIn K mainGlobals "_law_table" = some (some (.ref f27))) (l27 : K.lookup f27 = some ⟨oc27, od27, .func (PySem.W.fnOf "_law_table" "_law_table" (defArgs s__law_table) (defBody s__law_table) (defScope s__law_table) .none kV27 dc27 pm27 an27 cd27 ct27), sl27⟩) (c27 : PySem.W.codeIn K cd27 "_law_table" = true) (k27 : PySem.W.keepIn K (.ref f27) = true)
    (a28 : PySem.W.nsIn K mainGlobals "_law_prices" = some (some (.ref f28))) (l28 : K.lookup f28 = some ⟨oc28, od28, .func (PySem.W.fnOf "_law_prices" "_law_prices" (defArgs s__law_prices) (defBody s__law_prices) (defScope s__law_prices) .none kV28 dc28 pm28 an28 cd28 ct28), sl28⟩) (c28 : PySem.W.codeIn K cd28 "_law_prices" = true) (k28 : PySem.W.keepIn K (.ref f28) = true)
    (a29 : PySem.W.nsIn K mainGlobals "_law_supplies" = some (some (.ref f29))) (l29 : K.lookup f29 = some ⟨oc29, od29, .func (PySem.W.fnOf "_law_supplies" "_law_supplies" (defArgs s__law_supplies) (defBody s__law_supplies) (defScope s__law_supplies) .none kV29 dc29 pm29 an29 cd29 ct29), sl29⟩) (c29 : PySem.W.codeIn K cd29 "_law_supplies" = true) (k29 : PySem.W.keepIn K (.ref f29) = true)
    (a30 : PySem.W.nsIn K mainGlobals "_law_paid" = some (some (.ref f30))) (l30 : K.lookup f30 = some ⟨oc30, od30, .func (PySem.W.fnOf "_law_paid" "_law_paid" (defArgs s__law_paid) (defBody s__law_paid) (defScope s__law_paid) .none kV30 dc30 pm30 an30 cd30 ct30), sl30⟩) (c30 : PySem.W.codeIn K cd30 "_law_paid" = true) (k30 : PySem.W.keepIn K (.ref f30) = true)
    (a31 : PySem.W.nsIn K mainGlobals "_law_are_right" = some (some (.ref f31))) (l31 : K.lookup f31 = some ⟨oc31, od31, .func (PySem.W.fnOf "_law_are_right" "_law_are_right" (defArgs s__law_are_right) (defBody s__law_are_right) (defScope s__law_are_right) .none kV31 dc31 pm31 an31 cd31 ct31), sl31⟩) (c31 : PySem.W.codeIn K cd31 "_law_are_right" = true) (k31 : PySem.W.keepIn K (.ref f31) = true)
    (a32 : PySem.W.nsIn K mainGlobals "_law_pays_right" = some (some (.ref f32))) (l32 : K.lookup f32 = some ⟨oc32, od32, .func (PySem.W.fnOf "_law_pays_right" "_law_pays_right" (defArgs s__law_pays_right) (defBody s__law_pays_right) (defScope s__law_pays_right) .none kV32 dc32 pm32 an32 cd32 ct32), sl32⟩) (c32 : PySem.W.codeIn K cd32 "_law_pays_right" = true) (k32 : PySem.W.keepIn K (.ref f32) = true)
    (a33 : PySem.W.nsIn K mainGlobals "_law_cost" = some (some (.ref f33))) (l33 : K.lookup f33 = some ⟨oc33, od33, .func (PySem.W.fnOf "_law_cost" "_law_cost" (defArgs s__law_cost) (defBody s__law_cost) (defScope s__law_cost) .none kV33 dc33 pm33 an33 cd33 ct33), sl33⟩) (c33 : PySem.W.codeIn K cd33 "_law_cost" = true) (k33 : PySem.W.keepIn K (.ref f33) = true)
    (a34 : PySem.W.nsIn K mainGlobals "_law_shares" = some (some (.ref f34))) (l34 : K.lookup f34 = some ⟨oc34, od34, .func (PySem.W.fnOf "_law_shares" "_law_shares" (defArgs s__law_shares) (defBody s__law_shares) (defScope s__law_shares) .none kV34 dc34 pm34 an34 cd34 ct34), sl34⟩) (c34 : PySem.W.codeIn K cd34 "_law_shares" = true) (k34 : PySem.W.keepIn K (.ref f34) = true)
    (a35 : PySem.W.nsIn K mainGlobals "_law_payments" = some (some (.ref f35))) (l35 : K.lookup f35 = some ⟨oc35, od35, .func (PySem.W.fnOf "_law_payments" "_law_payments" (defArgs s__law_payments) (defBody s__law_payments) (defScope s__law_payments) .none kV35 dc35 pm35 an35 cd35 ct35), sl35⟩) (c35 : PySem.W.codeIn K cd35 "_law_payments" = true) (k35 : PySem.W.keepIn K (.ref f35) = true)
    (a36 : PySem.W.nsIn K mainGlobals "law" = some (some (.ref f36))) (l36 : K.lookup f36 = some ⟨oc36, od36, .func (PySem.W.fnOf "law" "law" (defArgs s_law) (defBody s_law) (defScope s_law) .none kV36 dc36 pm36 an36 cd36 ct36), sl36⟩) (c36 : PySem.W.codeIn K cd36 "law" = true) (k36 : PySem.W.keepIn K (.ref f36) = true)
    (z0 : PySem.W.nsIn K mainGlobals "abs" = some none)
    (z1 : PySem.W.nsIn K mainGlobals "int" = some none)
    (z2 : PySem.W.nsIn K mainGlobals "isinstance" = some none)
    (z3 : PySem.W.nsIn K mainGlobals "len" = some none)
    (z4 : PySem.W.nsIn K mainGlobals "list" = some none)
    (z5 : PySem.W.nsIn K mainGlobals "range" = some none)
    (z6 : PySem.W.nsIn K mainGlobals "repr" = some none)
    (z7 : PySem.W.nsIn K mainGlobals "sorted" = some none)
    (z8 : PySem.W.nsIn K mainGlobals "tuple" = some none)
    (z9 : PySem.W.nsIn K mainGlobals "zip" = some none) :
    ∃ T : Txt K mg, mg "law" = some (.ref T.a_law) := by
  have F0 := fun_mk (st := s_kept) l0 c0 k0
  have F1 := fun_mk (st := s_fraction) l1 c1 k1
  have F2 := fun_mk (st := s_whole) l2 c2 k2
  have F3 := fun_mk (st := s_plus) l3 c3 k3
  have F4 := fun_mk (st := s_minus) l4 c4 k4
  have F5 := fun_mk (st := s_times) l5 c5 k5
  have F6 := fun_mk (st := s_total_of) l6 c6 k6
  have F7 := fun_mk (st := s_served_by) l7 c7 k7
  have F8 := fun_mk (st := s_serves) l8 c8 k8
  have F9 := fun_mk (st := s_sum_of) l9 c9 k9
  have F10 := fun_mk (st := s_asked_of) l10 c10 k10
  have F11 := fun_mk (st := s_supplies) l11 c11 k11
  have F12 := fun_mk (st := s_cost_of) l12 c12 k12
  have F13 := fun_mk (st := s_paid_to) l13 c13 k13
  have F14 := fun_mk (st := s_share_gaps) l14 c14 k14
  have F15 := fun_mk (st := s_do_meet) l15 c15 k15
  have F16 := fun_mk (st := s__law_source) l16 c16 k16
  have F17 := fun_mk (st := s__law_any) l17 c17 k17
  have F18 := fun_mk (st := s__law_of) l18 c18 k18
  have F19 := fun_mk (st := s__law_common) l19 c19 k19
  have F20 := fun_mk (st := s__law_low) l20 c20 k20
  have F21 := fun_mk (st := s__law_same) l21 c21 k21
  have F22 := fun_mk (st := s__law_plus) l22 c22 k22
  have F23 := fun_mk (st := s__law_times) l23 c23 k23
  have F24 := fun_mk (st := s__law_less) l24 c24 k24
  have F25 := fun_mk (st := s__law_sum) l25 c25 k25
  have F26 := fun_mk (st := s__law_names) l26 c26 k26
  have F27 := fun_mk (st := s__law_table) l27 c27 k27
  have F28 := fun_mk (st := s__law_prices) l28 c28 k28
  have F29 := fun_mk (st := s__law_supplies) l29 c29 k29
  have F30 := fun_mk (st := s__law_paid) l30 c30 k30
  have F31 := fun_mk (st := s__law_are_right) l31 c31 k31
  have F32 := fun_mk (st := s__law_pays_right) l32 c32 k32
  have F33 := fun_mk (st := s__law_cost) l33 c33 k33
  have F34 := fun_mk (st := s__law_shares) l34 c34 k34
  have F35 := fun_mk (st := s__law_payments) l35 c35 k35
  have F36 := fun_mk (st := s_law) l36 c36 k36
  have kb15 : KBinds K _ ["table", "prices", "shares", "payments"] ["payments", "shares", "prices", "table"] (fun us ws => match us, ws with | [], [u0, u1, u2, u3] => [u3, u2, u1, u0] | _, _ => []) (fun us ws => match us, ws with | [], [u0, u1, u2, u3] => [u3, u2, u1, u0] | _, _ => []) := kb_of F15 (fun kV doc pm an cdv ct us ws hl => by
      rcases us with _ | ⟨u, us⟩
      · skip
        rcases ws with _ | ⟨w0, ws⟩
        · exact absurd (show (0 : Nat) = 4 from hl) (by decide)
        · skip
          rcases ws with _ | ⟨w1, ws⟩
          · exact absurd (show (0 : Nat) = 4 from hl) (by decide)
          · skip
            rcases ws with _ | ⟨w2, ws⟩
            · exact absurd (show (0 : Nat) = 4 from hl) (by decide)
            · skip
              rcases ws with _ | ⟨w3, ws⟩
              · exact absurd (show (0 : Nat) = 4 from hl) (by decide)
              · skip
                rcases ws with _ | ⟨w4, ws⟩
                · rfl
                · exact absurd (show (0 : Nat) = 4 from hl) (by decide)
      · exact absurd (show (0 : Nat) = 4 from hl) (by decide)) (fun {vs us zs ws} h1 h2 => by
      cases h1 with
      | nil =>
        cases h2 with
        | nil => exact .nil
        | cons r0 h2 =>
          cases h2 with
          | nil => exact .nil
          | cons r1 h2 =>
            cases h2 with
            | nil => exact .nil
            | cons r2 h2 =>
              cases h2 with
              | nil => exact .nil
              | cons r3 h2 =>
                cases h2 with
                | nil => exact (.cons r3 (.cons r2 (.cons r1 (.cons r0 .nil))))
                | cons _ _ => exact .nil
      | cons _ _ => exact .nil)
  have kb13 : KBinds K _ ["table", "payments"] ["payments", "table"] (fun us ws => match us, ws with | [], [u0, u1] => [u1, u0] | _, _ => []) (fun us ws => match us, ws with | [], [u0, u1] => [u1, u0] | _, _ => []) := kb_of F13 (fun kV doc pm an cdv ct us ws hl => by
      rcases us with _ | ⟨u, us⟩
      · skip
        rcases ws with _ | ⟨w0, ws⟩
        · exact absurd (show (0 : Nat) = 2 from hl) (by decide)
        · skip
          rcases ws with _ | ⟨w1, ws⟩
          · exact absurd (show (0 : Nat) = 2 from hl) (by decide)
          · skip
            rcases ws with _ | ⟨w2, ws⟩
            · rfl
            · exact absurd (show (0 : Nat) = 2 from hl) (by decide)
      · exact absurd (show (0 : Nat) = 2 from hl) (by decide)) (fun {vs us zs ws} h1 h2 => by
      cases h1 with
      | nil =>
        cases h2 with
        | nil => exact .nil
        | cons r0 h2 =>
          cases h2 with
          | nil => exact .nil
          | cons r1 h2 =>
            cases h2 with
            | nil => exact (.cons r1 (.cons r0 .nil))
            | cons _ _ => exact .nil
      | cons _ _ => exact .nil)
  have kb14 : KBinds K _ ["table", "prices", "shares", "payments"] ["payments", "shares", "prices", "table"] (fun us ws => match us, ws with | [], [u0, u1, u2, u3] => [u3, u2, u1, u0] | _, _ => []) (fun us ws => match us, ws with | [], [u0, u1, u2, u3] => [u3, u2, u1, u0] | _, _ => []) := kb_of F14 (fun kV doc pm an cdv ct us ws hl => by
      rcases us with _ | ⟨u, us⟩
      · skip
        rcases ws with _ | ⟨w0, ws⟩
        · exact absurd (show (0 : Nat) = 4 from hl) (by decide)
        · skip
          rcases ws with _ | ⟨w1, ws⟩
          · exact absurd (show (0 : Nat) = 4 from hl) (by decide)
          · skip
            rcases ws with _ | ⟨w2, ws⟩
            · exact absurd (show (0 : Nat) = 4 from hl) (by decide)
            · skip
              rcases ws with _ | ⟨w3, ws⟩
              · exact absurd (show (0 : Nat) = 4 from hl) (by decide)
              · skip
                rcases ws with _ | ⟨w4, ws⟩
                · rfl
                · exact absurd (show (0 : Nat) = 4 from hl) (by decide)
      · exact absurd (show (0 : Nat) = 4 from hl) (by decide)) (fun {vs us zs ws} h1 h2 => by
      cases h1 with
      | nil =>
        cases h2 with
        | nil => exact .nil
        | cons r0 h2 =>
          cases h2 with
          | nil => exact .nil
          | cons r1 h2 =>
            cases h2 with
            | nil => exact .nil
            | cons r2 h2 =>
              cases h2 with
              | nil => exact .nil
              | cons r3 h2 =>
                cases h2 with
                | nil => exact (.cons r3 (.cons r2 (.cons r1 (.cons r0 .nil))))
                | cons _ _ => exact .nil
      | cons _ _ => exact .nil)
  exact ⟨{
    a_kept := f0,
    d_kept := _,
    f_kept := F0,
    g_kept := PySem.W.mg_of X G a0,
    b_kept := (F0.binds (ps := ["value"]) fun _ _ _ _ _ _ us hl => match us, hl with | [_], _ => rfl),
    a_fraction := f1,
    d_fraction := _,
    f_fraction := F1,
    g_fraction := PySem.W.mg_of X G a1,
    b_fraction := (F1.binds (ps := ["top", "bottom"]) fun _ _ _ _ _ _ us hl => match us, hl with | [_, _], _ => rfl),
    a_whole := f2,
    d_whole := _,
    f_whole := F2,
    g_whole := PySem.W.mg_of X G a2,
    b_whole := (F2.binds (ps := ["number"]) fun _ _ _ _ _ _ us hl => match us, hl with | [_], _ => rfl),
    a_plus := f3,
    d_plus := _,
    f_plus := F3,
    g_plus := PySem.W.mg_of X G a3,
    b_plus := (F3.binds (ps := ["one", "other"]) fun _ _ _ _ _ _ us hl => match us, hl with | [_, _], _ => rfl),
    a_minus := f4,
    d_minus := _,
    f_minus := F4,
    g_minus := PySem.W.mg_of X G a4,
    b_minus := (F4.binds (ps := ["one", "other"]) fun _ _ _ _ _ _ us hl => match us, hl with | [_, _], _ => rfl),
    a_times := f5,
    d_times := _,
    f_times := F5,
    g_times := PySem.W.mg_of X G a5,
    b_times := (F5.binds (ps := ["one", "other"]) fun _ _ _ _ _ _ us hl => match us, hl with | [_, _], _ => rfl),
    a_total_of := f6,
    d_total_of := _,
    f_total_of := F6,
    g_total_of := PySem.W.mg_of X G a6,
    b_total_of := (F6.binds (ps := ["some"]) fun _ _ _ _ _ _ us hl => match us, hl with | [_], _ => rfl),
    a_served_by := f7,
    d_served_by := _,
    f_served_by := F7,
    g_served_by := PySem.W.mg_of X G a7,
    b_served_by := (F7.binds (ps := ["table", "person"]) fun _ _ _ _ _ _ us hl => match us, hl with | [_, _], _ => rfl),
    a_serves := f8,
    d_serves := _,
    f_serves := F8,
    g_serves := PySem.W.mg_of X G a8,
    b_serves := (F8.binds (ps := ["table", "house"]) fun _ _ _ _ _ _ us hl => match us, hl with | [_, _], _ => rfl),
    a_sum_of := f9,
    d_sum_of := _,
    f_sum_of := F9,
    g_sum_of := PySem.W.mg_of X G a9,
    b_sum_of := (F9.binds (ps := ["payments"]) fun _ _ _ _ _ _ us hl => match us, hl with | [_], _ => rfl),
    a_asked_of := f10,
    d_asked_of := _,
    f_asked_of := F10,
    g_asked_of := PySem.W.mg_of X G a10,
    b_asked_of := (F10.binds (ps := ["table", "payments", "house"]) fun _ _ _ _ _ _ us hl => match us, hl with | [_, _, _], _ => rfl),
    a_supplies := f11,
    d_supplies := _,
    f_supplies := F11,
    g_supplies := PySem.W.mg_of X G a11,
    b_supplies := (F11.binds (ps := ["table", "shares"]) fun _ _ _ _ _ _ us hl => match us, hl with | [_, _], _ => rfl),
    a_cost_of := f12,
    d_cost_of := _,
    f_cost_of := F12,
    g_cost_of := PySem.W.mg_of X G a12,
    b_cost_of := (F12.binds (ps := ["prices", "shares"]) fun _ _ _ _ _ _ us hl => match us, hl with | [_, _], _ => rfl),
    a_paid_to := f13,
    d_paid_to := _,
    f_paid_to := F13,
    g_paid_to := PySem.W.mg_of X G a13,
    b_paid_to := (F13.binds (ps := ["table", "payments"]) fun _ _ _ _ _ _ us hl => match us, hl with | [_, _], _ => rfl),
    a_share_gaps := f14,
    d_share_gaps := _,
    f_share_gaps := F14,
    g_share_gaps := PySem.W.mg_of X G a14,
    b_share_gaps := (F14.binds (ps := ["table", "prices", "shares", "payments"]) fun _ _ _ _ _ _ us hl => match us, hl with | [_, _, _, _], _ => rfl),
    a_do_meet := f15,
    d_do_meet := _,
    f_do_meet := F15,
    g_do_meet := PySem.W.mg_of X G a15,
    b_do_meet := (F15.binds (ps := ["table", "prices", "shares", "payments"]) fun _ _ _ _ _ _ us hl => match us, hl with | [_, _, _, _], _ => rfl),
    a__law_source := f16,
    d__law_source := _,
    f__law_source := F16,
    g__law_source := PySem.W.mg_of X G a16,
    b__law_source := (F16.binds (ps := ["script"]) fun _ _ _ _ _ _ us hl => match us, hl with | [_], _ => rfl),
    a__law_any := f17,
    d__law_any := _,
    f__law_any := F17,
    g__law_any := PySem.W.mg_of X G a17,
    b__law_any := (F17.binds (ps := ["deal", "bound"]) fun _ _ _ _ _ _ us hl => match us, hl with | [_, _], _ => rfl),
    a__law_of := f18,
    d__law_of := _,
    f__law_of := F18,
    g__law_of := PySem.W.mg_of X G a18,
    b__law_of := (F18.binds (ps := ["deal", "some"]) fun _ _ _ _ _ _ us hl => match us, hl with | [_, _], _ => rfl),
    a__law_common := f19,
    d__law_common := _,
    f__law_common := F19,
    g__law_common := PySem.W.mg_of X G a19,
    b__law_common := (F19.binds (ps := ["one", "other"]) fun _ _ _ _ _ _ us hl => match us, hl with | [_, _], _ => rfl),
    a__law_low := f20,
    d__law_low := _,
    f__law_low := F20,
    g__law_low := PySem.W.mg_of X G a20,
    b__law_low := (F20.binds (ps := ["top", "bottom"]) fun _ _ _ _ _ _ us hl => match us, hl with | [_, _], _ => rfl),
    a__law_same := f21,
    d__law_same := _,
    f__law_same := F21,
    g__law_same := PySem.W.mg_of X G a21,
    b__law_same := (F21.binds (ps := ["told", "due"]) fun _ _ _ _ _ _ us hl => match us, hl with | [_, _], _ => rfl),
    a__law_plus := f22,
    d__law_plus := _,
    f__law_plus := F22,
    g__law_plus := PySem.W.mg_of X G a22,
    b__law_plus := (F22.binds (ps := ["one", "other"]) fun _ _ _ _ _ _ us hl => match us, hl with | [_, _], _ => rfl),
    a__law_times := f23,
    d__law_times := _,
    f__law_times := F23,
    g__law_times := PySem.W.mg_of X G a23,
    b__law_times := (F23.binds (ps := ["one", "other"]) fun _ _ _ _ _ _ us hl => match us, hl with | [_, _], _ => rfl),
    a__law_less := f24,
    d__law_less := _,
    f__law_less := F24,
    g__law_less := PySem.W.mg_of X G a24,
    b__law_less := (F24.binds (ps := ["one", "other"]) fun _ _ _ _ _ _ us hl => match us, hl with | [_, _], _ => rfl),
    a__law_sum := f25,
    d__law_sum := _,
    f__law_sum := F25,
    g__law_sum := PySem.W.mg_of X G a25,
    b__law_sum := (F25.binds (ps := ["some"]) fun _ _ _ _ _ _ us hl => match us, hl with | [_], _ => rfl),
    a__law_names := f26,
    d__law_names := _,
    f__law_names := F26,
    g__law_names := PySem.W.mg_of X G a26,
    b__law_names := (F26.binds (ps := ["deal", "many"]) fun _ _ _ _ _ _ us hl => match us, hl with | [_, _], _ => rfl),
    a__law_table := f27,
    d__law_table := _,
    f__law_table := F27,
    g__law_table := PySem.W.mg_of X G a27,
    b__law_table := (F27.binds (ps := ["deal", "people", "houses"]) fun _ _ _ _ _ _ us hl => match us, hl with | [_, _, _], _ => rfl),
    a__law_prices := f28,
    d__law_prices := _,
    f__law_prices := F28,
    g__law_prices := PySem.W.mg_of X G a28,
    b__law_prices := (F28.binds (ps := ["deal", "houses"]) fun _ _ _ _ _ _ us hl => match us, hl with | [_, _], _ => rfl),
    a__law_supplies := f29,
    d__law_supplies := _,
    f__law_supplies := F29,
    g__law_supplies := PySem.W.mg_of X G a29,
    b__law_supplies := (F29.binds (ps := ["parts", "shares"]) fun _ _ _ _ _ _ us hl => match us, hl with | [_, _], _ => rfl),
    a__law_paid := f30,
    d__law_paid := _,
    f__law_paid := F30,
    g__law_paid := PySem.W.mg_of X G a30,
    b__law_paid := (F30.binds (ps := ["parts", "payments"]) fun _ _ _ _ _ _ us hl => match us, hl with | [_, _], _ => rfl),
    a__law_are_right := f31,
    d__law_are_right := _,
    f__law_are_right := F31,
    g__law_are_right := PySem.W.mg_of X G a31,
    b__law_are_right := (F31.binds (ps := ["parts", "shares"]) fun _ _ _ _ _ _ us hl => match us, hl with | [_, _], _ => rfl),
    a__law_pays_right := f32,
    d__law_pays_right := _,
    f__law_pays_right := F32,
    g__law_pays_right := PySem.W.mg_of X G a32,
    b__law_pays_right := (F32.binds (ps := ["parts", "prices", "payments"]) fun _ _ _ _ _ _ us hl => match us, hl with | [_, _, _], _ => rfl),
    a__law_cost := f33,
    d__law_cost := _,
    f__law_cost := F33,
    g__law_cost := PySem.W.mg_of X G a33,
    b__law_cost := (F33.binds (ps := ["prices", "shares"]) fun _ _ _ _ _ _ us hl => match us, hl with | [_, _], _ => rfl),
    a__law_shares := f34,
    d__law_shares := _,
    f__law_shares := F34,
    g__law_shares := PySem.W.mg_of X G a34,
    b__law_shares := (F34.binds (ps := ["deal", "parts"]) fun _ _ _ _ _ _ us hl => match us, hl with | [_, _], _ => rfl),
    a__law_payments := f35,
    d__law_payments := _,
    f__law_payments := F35,
    g__law_payments := PySem.W.mg_of X G a35,
    b__law_payments := (F35.binds (ps := ["deal", "parts", "prices"]) fun _ _ _ _ _ _ us hl => match us, hl with | [_, _, _], _ => rfl),
    a_law := f36,
    d_law := _,
    f_law := F36,
    g_law := PySem.W.mg_of X G a36,
    b_law := (F36.binds (ps := ["script"]) fun _ _ _ _ _ _ us hl => match us, hl with | [_], _ => rfl),
    k_do_meet_payments_shares_prices_table := kb15,
    k_paid_to_payments_table := kb13,
    k_share_gaps_payments_shares_prices_table := kb14,
    n_abs := PySem.W.mg_none_of X G z0,
    n_int := PySem.W.mg_none_of X G z1,
    n_isinstance := PySem.W.mg_none_of X G z2,
    n_len := PySem.W.mg_none_of X G z3,
    n_list := PySem.W.mg_none_of X G z4,
    n_range := PySem.W.mg_none_of X G z5,
    n_repr := PySem.W.mg_none_of X G z6,
    n_sorted := PySem.W.mg_none_of X G z7,
    n_tuple := PySem.W.mg_none_of X G z8,
    n_zip := PySem.W.mg_none_of X G z9 }, PySem.W.mg_of X G a36⟩
theorem all_go {P : Program} {w : World} {fa a : Addr} {s₁ : Shared} {ns : List Int} {K : PySem.W.Frag} {h : Heap} {mg : Str → Option Value} (X : K.In h) (G : h.Ns mainGlobals mg) (hfa : mg "law" = some (.ref fa))
    {z zO : Addr} {odz odz1 : Option Addr} {slz slz1 : Array (Option Value)} {nz nz1 : Nat} {tz0 tz1 tz2 tz3 : Tok}
    {Ct fT : Addr} {odT anT : Option Addr} {slT : Array (Option Value)} {ocT kVT dcT pmT cdT ctT : Value}
    (aZ : PySem.W.nsIn K mainGlobals "ZERO" = some (some (.ref z))) (lZ : K.lookup z = some ⟨.type "tuple", odz, .seq #[.int 0 tz0, .int 1 tz1] nz, slz⟩)
    (aO : PySem.W.nsIn K mainGlobals "ONE" = some (some (.ref zO))) (lO : K.lookup zO = some ⟨.type "tuple", odz1, .seq #[.int 1 tz2, .int 1 tz3] nz1, slz1⟩)
    (aG : PySem.W.nsIn K mainGlobals "gcd" = some (some (.builtin "math.gcd")))
    (tA : PySem.W.nsIn K mainGlobals "Table" = some (some (.ref Ct))) (tpg : PySem.W.plainGet K Ct Str.empty = true) (thd : PySem.W.hasDictIn K Ct = true) (tpo : PySem.W.plainOver K Ct = true) (tsa : PySem.W.findIn K (.ref Ct) "__setattr__" = some (some (.builtin "object.__setattr__"))) (tmk : PySem.W.makesIn K Ct = true) (tkc : PySem.W.keepIn K (.ref Ct) = true)
    (ti : PySem.W.findIn K (.ref Ct) "__init__" = some (some (.ref fT))) (tif : PySem.W.isFn K (.ref fT) = true) (tl : K.lookup fT = some ⟨ocT, odT, .func (PySem.W.fnOf "__init__" "Table.__init__" (defArgs s_Table_init) (defBody s_Table_init) (defScope s_Table_init) .none kVT dcT pmT anT cdT ctT), slT⟩) (tc : PySem.W.codeIn K cdT "Table.__init__" = true) (tk : PySem.W.keepIn K (.ref fT) = true)
    (tn1 : PySem.W.findIn K (.ref Ct) "people" = some none) (tn2 : PySem.W.findIn K (.ref Ct) "houses" = some none) (tn3 : PySem.W.findIn K (.ref Ct) "pairs" = some none)
    {f0 : Addr} {od0 an0 : Option Addr} {sl0 : Array (Option Value)} {oc0 kV0 dc0 pm0 cd0 ct0 : Value}
    {f1 : Addr} {od1 an1 : Option Addr} {sl1 : Array (Option Value)} {oc1 kV1 dc1 pm1 cd1 ct1 : Value}
    {f2 : Addr} {od2 an2 : Option Addr} {sl2 : Array (Option Value)} {oc2 kV2 dc2 pm2 cd2 ct2 : Value}
    {f3 : Addr} {od3 an3 : Option Addr} {sl3 : Array (Option Value)} {oc3 kV3 dc3 pm3 cd3 ct3 : Value}
    {f4 : Addr} {od4 an4 : Option Addr} {sl4 : Array (Option Value)} {oc4 kV4 dc4 pm4 cd4 ct4 : Value}
    {f5 : Addr} {od5 an5 : Option Addr} {sl5 : Array (Option Value)} {oc5 kV5 dc5 pm5 cd5 ct5 : Value}
    {f6 : Addr} {od6 an6 : Option Addr} {sl6 : Array (Option Value)} {oc6 kV6 dc6 pm6 cd6 ct6 : Value}
    {f7 : Addr} {od7 an7 : Option Addr} {sl7 : Array (Option Value)} {oc7 kV7 dc7 pm7 cd7 ct7 : Value}
    {f8 : Addr} {od8 an8 : Option Addr} {sl8 : Array (Option Value)} {oc8 kV8 dc8 pm8 cd8 ct8 : Value}
    {f9 : Addr} {od9 an9 : Option Addr} {sl9 : Array (Option Value)} {oc9 kV9 dc9 pm9 cd9 ct9 : Value}
    {f10 : Addr} {od10 an10 : Option Addr} {sl10 : Array (Option Value)} {oc10 kV10 dc10 pm10 cd10 ct10 : Value}
    {f11 : Addr} {od11 an11 : Option Addr} {sl11 : Array (Option Value)} {oc11 kV11 dc11 pm11 cd11 ct11 : Value}
    {f12 : Addr} {od12 an12 : Option Addr} {sl12 : Array (Option Value)} {oc12 kV12 dc12 pm12 cd12 ct12 : Value}
    {f13 : Addr} {od13 an13 : Option Addr} {sl13 : Array (Option Value)} {oc13 kV13 dc13 pm13 cd13 ct13 : Value}
    {f14 : Addr} {od14 an14 : Option Addr} {sl14 : Array (Option Value)} {oc14 kV14 dc14 pm14 cd14 ct14 : Value}
    {f15 : Addr} {od15 an15 : Option Addr} {sl15 : Array (Option Value)} {oc15 kV15 dc15 pm15 cd15 ct15 : Value}
    {f16 : Addr} {od16 an16 : Option Addr} {sl16 : Array (Option Value)} {oc16 kV16 dc16 pm16 cd16 ct16 : Value}
    {f17 : Addr} {od17 an17 : Option Addr} {sl17 : Array (Option Value)} {oc17 kV17 dc17 pm17 cd17 ct17 : Value}
    {f18 : Addr} {od18 an18 : Option Addr} {sl18 : Array (Option Value)} {oc18 kV18 dc18 pm18 cd18 ct18 : Value}
    {f19 : Addr} {od19 an19 : Option Addr} {sl19 : Array (Option Value)} {oc19 kV19 dc19 pm19 cd19 ct19 : Value}
    {f20 : Addr} {od20 an20 : Option Addr} {sl20 : Array (Option Value)} {oc20 kV20 dc20 pm20 cd20 ct20 : Value}
    {f21 : Addr} {od21 an21 : Option Addr} {sl21 : Array (Option Value)} {oc21 kV21 dc21 pm21 cd21 ct21 : Value}
    {f22 : Addr} {od22 an22 : Option Addr} {sl22 : Array (Option Value)} {oc22 kV22 dc22 pm22 cd22 ct22 : Value}
    {f23 : Addr} {od23 an23 : Option Addr} {sl23 : Array (Option Value)} {oc23 kV23 dc23 pm23 cd23 ct23 : Value}
    {f24 : Addr} {od24 an24 : Option Addr} {sl24 : Array (Option Value)} {oc24 kV24 dc24 pm24 cd24 ct24 : Value}
    {f25 : Addr} {od25 an25 : Option Addr} {sl25 : Array (Option Value)} {oc25 kV25 dc25 pm25 cd25 ct25 : Value}
    {f26 : Addr} {od26 an26 : Option Addr} {sl26 : Array (Option Value)} {oc26 kV26 dc26 pm26 cd26 ct26 : Value}
    {f27 : Addr} {od27 an27 : Option Addr} {sl27 : Array (Option Value)} {oc27 kV27 dc27 pm27 cd27 ct27 : Value}
    {f28 : Addr} {od28 an28 : Option Addr} {sl28 : Array (Option Value)} {oc28 kV28 dc28 pm28 cd28 ct28 : Value}
    {f29 : Addr} {od29 an29 : Option Addr} {sl29 : Array (Option Value)} {oc29 kV29 dc29 pm29 cd29 ct29 : Value}
    {f30 : Addr} {od30 an30 : Option Addr} {sl30 : Array (Option Value)} {oc30 kV30 dc30 pm30 cd30 ct30 : Value}
    {f31 : Addr} {od31 an31 : Option Addr} {sl31 : Array (Option Value)} {oc31 kV31 dc31 pm31 cd31 ct31 : Value}
    {f32 : Addr} {od32 an32 : Option Addr} {sl32 : Array (Option Value)} {oc32 kV32 dc32 pm32 cd32 ct32 : Value}
    {f33 : Addr} {od33 an33 : Option Addr} {sl33 : Array (Option Value)} {oc33 kV33 dc33 pm33 cd33 ct33 : Value}
    {f34 : Addr} {od34 an34 : Option Addr} {sl34 : Array (Option Value)} {oc34 kV34 dc34 pm34 cd34 ct34 : Value}
    {f35 : Addr} {od35 an35 : Option Addr} {sl35 : Array (Option Value)} {oc35 kV35 dc35 pm35 cd35 ct35 : Value}
    {f36 : Addr} {od36 an36 : Option Addr} {sl36 : Array (Option Value)} {oc36 kV36 dc36 pm36 cd36 ct36 : Value}
    (a0 : PySem.W.nsIn K mainGlobals "kept" = some (some (.ref f0))) (l0 : K.lookup f0 = some ⟨oc0, od0, .func (PySem.W.fnOf "kept" "kept" (defArgs s_kept) (defBody s_kept) (defScope s_kept) .none kV0 dc0 pm0 an0 cd0 ct0), sl0⟩) (c0 : PySem.W.codeIn K cd0 "kept" = true) (k0 : PySem.W.keepIn K (.ref f0) = true)
    (a1 : PySem.W.nsIn K mainGlobals "fraction" = some (some (.ref f1))) (l1 : K.lookup f1 = some ⟨oc1, od1, .func (PySem.W.fnOf "fraction" "fraction" (defArgs s_fraction) (defBody s_fraction) (defScope s_fraction) .none kV1 dc1 pm1 an1 cd1 ct1), sl1⟩) (c1 : PySem.W.codeIn K cd1 "fraction" = true) (k1 : PySem.W.keepIn K (.ref f1) = true)
    (a2 : PySem.W.nsIn K mainGlobals "whole" = some (some (.ref f2))) (l2 : K.lookup f2 = some ⟨oc2, od2, .func (PySem.W.fnOf "whole" "whole" (defArgs s_whole) (defBody s_whole) (defScope s_whole) .none kV2 dc2 pm2 an2 cd2 ct2), sl2⟩) (c2 : PySem.W.codeIn K cd2 "whole" = true) (k2 : PySem.W.keepIn K (.ref f2) = true)
    (a3 : PySem.W.nsIn K mainGlobals "plus" = some (some (.ref f3))) (l3 : K.lookup f3 = some ⟨oc3, od3, .func (PySem.W.fnOf "plus" "plus" (defArgs s_plus) (defBody s_plus) (defScope s_plus) .none kV3 dc3 pm3 an3 cd3 ct3), sl3⟩) (c3 : PySem.W.codeIn K cd3 "plus" = true) (k3 : PySem.W.keepIn K (.ref f3) = true)
    (a4 : PySem.W.nsIn K mainGlobals "minus" = some (some (.ref f4))) (l4 : K.lookup f4 = some ⟨oc4, od4, .func (PySem.W.fnOf "minus" "minus" (defArgs s_minus) (defBody s_minus) (defScope s_minus) .none kV4 dc4 pm4 an4 cd4 ct4), sl4⟩) (c4 : PySem.W.codeIn K cd4 "minus" = true) (k4 : PySem.W.keepIn K (.ref f4) = true)
    (a5 : PySem.W.nsIn K mainGlobals "times" = some (some (.ref f5))) (l5 : K.lookup f5 = some ⟨oc5, od5, .func (PySem.W.fnOf "times" "times" (defArgs s_times) (defBody s_times) (defScope s_times) .none kV5 dc5 pm5 an5 cd5 ct5), sl5⟩) (c5 : PySem.W.codeIn K cd5 "times" = true) (k5 : PySem.W.keepIn K (.ref f5) = true)
    (a6 : PySem.W.nsIn K mainGlobals "total_of" = some (some (.ref f6))) (l6 : K.lookup f6 = some ⟨oc6, od6, .func (PySem.W.fnOf "total_of" "total_of" (defArgs s_total_of) (defBody s_total_of) (defScope s_total_of) .none kV6 dc6 pm6 an6 cd6 ct6), sl6⟩) (c6 : PySem.W.codeIn K cd6 "total_of" = true) (k6 : PySem.W.keepIn K (.ref f6) = true)
    (a7 : PySem.W.nsIn K mainGlobals "served_by" = some (some (.ref f7))) (l7 : K.lookup f7 = some ⟨oc7, od7, .func (PySem.W.fnOf "served_by" "served_by" (defArgs s_served_by) (defBody s_served_by) (defScope s_served_by) .none kV7 dc7 pm7 an7 cd7 ct7), sl7⟩) (c7 : PySem.W.codeIn K cd7 "served_by" = true) (k7 : PySem.W.keepIn K (.ref f7) = true)
    (a8 : PySem.W.nsIn K mainGlobals "serves" = some (some (.ref f8))) (l8 : K.lookup f8 = some ⟨oc8, od8, .func (PySem.W.fnOf "serves" "serves" (defArgs s_serves) (defBody s_serves) (defScope s_serves) .none kV8 dc8 pm8 an8 cd8 ct8), sl8⟩) (c8 : PySem.W.codeIn K cd8 "serves" = true) (k8 : PySem.W.keepIn K (.ref f8) = true)
    (a9 : PySem.W.nsIn K mainGlobals "sum_of" = some (some (.ref f9))) (l9 : K.lookup f9 = some ⟨oc9, od9, .func (PySem.W.fnOf "sum_of" "sum_of" (defArgs s_sum_of) (defBody s_sum_of) (defScope s_sum_of) .none kV9 dc9 pm9 an9 cd9 ct9), sl9⟩) (c9 : PySem.W.codeIn K cd9 "sum_of" = true) (k9 : PySem.W.keepIn K (.ref f9) = true)
    (a10 : PySem.W.nsIn K mainGlobals "asked_of" = some (some (.ref f10))) (l10 : K.lookup f10 = some ⟨oc10, od10, .func (PySem.W.fnOf "asked_of" "asked_of" (defArgs s_asked_of) (defBody s_asked_of) (defScope s_asked_of) .none kV10 dc10 pm10 an10 cd10 ct10), sl10⟩) (c10 : PySem.W.codeIn K cd10 "asked_of" = true) (k10 : PySem.W.keepIn K (.ref f10) = true)
    (a11 : PySem.W.nsIn K mainGlobals "supplies" = some (some (.ref f11))) (l11 : K.lookup f11 = some ⟨oc11, od11, .func (PySem.W.fnOf "supplies" "supplies" (defArgs s_supplies) (defBody s_supplies) (defScope s_supplies) .none kV11 dc11 pm11 an11 cd11 ct11), sl11⟩) (c11 : PySem.W.codeIn K cd11 "supplies" = true) (k11 : PySem.W.keepIn K (.ref f11) = true)
    (a12 : PySem.W.nsIn K mainGlobals "cost_of" = some (some (.ref f12))) (l12 : K.lookup f12 = some ⟨oc12, od12, .func (PySem.W.fnOf "cost_of" "cost_of" (defArgs s_cost_of) (defBody s_cost_of) (defScope s_cost_of) .none kV12 dc12 pm12 an12 cd12 ct12), sl12⟩) (c12 : PySem.W.codeIn K cd12 "cost_of" = true) (k12 : PySem.W.keepIn K (.ref f12) = true)
    (a13 : PySem.W.nsIn K mainGlobals "paid_to" = some (some (.ref f13))) (l13 : K.lookup f13 = some ⟨oc13, od13, .func (PySem.W.fnOf "paid_to" "paid_to" (defArgs s_paid_to) (defBody s_paid_to) (defScope s_paid_to) .none kV13 dc13 pm13 an13 cd13 ct13), sl13⟩) (c13 : PySem.W.codeIn K cd13 "paid_to" = true) (k13 : PySem.W.keepIn K (.ref f13) = true)
    (a14 : PySem.W.nsIn K mainGlobals "share_gaps" = some (some (.ref f14))) (l14 : K.lookup f14 = some ⟨oc14, od14, .func (PySem.W.fnOf "share_gaps" "share_gaps" (defArgs s_share_gaps) (defBody s_share_gaps) (defScope s_share_gaps) .none kV14 dc14 pm14 an14 cd14 ct14), sl14⟩) (c14 : PySem.W.codeIn K cd14 "share_gaps" = true) (k14 : PySem.W.keepIn K (.ref f14) = true)
    (a15 : PySem.W.nsIn K mainGlobals "do_meet" = some (some (.ref f15))) (l15 : K.lookup f15 = some ⟨oc15, od15, .func (PySem.W.fnOf "do_meet" "do_meet" (defArgs s_do_meet) (defBody s_do_meet) (defScope s_do_meet) .none kV15 dc15 pm15 an15 cd15 ct15), sl15⟩) (c15 : PySem.W.codeIn K cd15 "do_meet" = true) (k15 : PySem.W.keepIn K (.ref f15) = true)
    (a16 : PySem.W.nsIn K mainGlobals "_law_source" = some (some (.ref f16))) (l16 : K.lookup f16 = some ⟨oc16, od16, .func (PySem.W.fnOf "_law_source" "_law_source" (defArgs s__law_source) (defBody s__law_source) (defScope s__law_source) .none kV16 dc16 pm16 an16 cd16 ct16), sl16⟩) (c16 : PySem.W.codeIn K cd16 "_law_source" = true) (k16 : PySem.W.keepIn K (.ref f16) = true)
    (a17 : PySem.W.nsIn K mainGlobals "_law_any" = some (some (.ref f17))) (l17 : K.lookup f17 = some ⟨oc17, od17, .func (PySem.W.fnOf "_law_any" "_law_any" (defArgs s__law_any) (defBody s__law_any) (defScope s__law_any) .none kV17 dc17 pm17 an17 cd17 ct17), sl17⟩) (c17 : PySem.W.codeIn K cd17 "_law_any" = true) (k17 : PySem.W.keepIn K (.ref f17) = true)
    (a18 : PySem.W.nsIn K mainGlobals "_law_of" = some (some (.ref f18))) (l18 : K.lookup f18 = some ⟨oc18, od18, .func (PySem.W.fnOf "_law_of" "_law_of" (defArgs s__law_of) (defBody s__law_of) (defScope s__law_of) .none kV18 dc18 pm18 an18 cd18 ct18), sl18⟩) (c18 : PySem.W.codeIn K cd18 "_law_of" = true) (k18 : PySem.W.keepIn K (.ref f18) = true)
    (a19 : PySem.W.nsIn K mainGlobals "_law_common" = some (some (.ref f19))) (l19 : K.lookup f19 = some ⟨oc19, od19, .func (PySem.W.fnOf "_law_common" "_law_common" (defArgs s__law_common) (defBody s__law_common) (defScope s__law_common) .none kV19 dc19 pm19 an19 cd19 ct19), sl19⟩) (c19 : PySem.W.codeIn K cd19 "_law_common" = true) (k19 : PySem.W.keepIn K (.ref f19) = true)
    (a20 : PySem.W.nsIn K mainGlobals "_law_low" = some (some (.ref f20))) (l20 : K.lookup f20 = some ⟨oc20, od20, .func (PySem.W.fnOf "_law_low" "_law_low" (defArgs s__law_low) (defBody s__law_low) (defScope s__law_low) .none kV20 dc20 pm20 an20 cd20 ct20), sl20⟩) (c20 : PySem.W.codeIn K cd20 "_law_low" = true) (k20 : PySem.W.keepIn K (.ref f20) = true)
    (a21 : PySem.W.nsIn K mainGlobals "_law_same" = some (some (.ref f21))) (l21 : K.lookup f21 = some ⟨oc21, od21, .func (PySem.W.fnOf "_law_same" "_law_same" (defArgs s__law_same) (defBody s__law_same) (defScope s__law_same) .none kV21 dc21 pm21 an21 cd21 ct21), sl21⟩) (c21 : PySem.W.codeIn K cd21 "_law_same" = true) (k21 : PySem.W.keepIn K (.ref f21) = true)
    (a22 : PySem.W.nsIn K mainGlobals "_law_plus" = some (some (.ref f22))) (l22 : K.lookup f22 = some ⟨oc22, od22, .func (PySem.W.fnOf "_law_plus" "_law_plus" (defArgs s__law_plus) (defBody s__law_plus) (defScope s__law_plus) .none kV22 dc22 pm22 an22 cd22 ct22), sl22⟩) (c22 : PySem.W.codeIn K cd22 "_law_plus" = true) (k22 : PySem.W.keepIn K (.ref f22) = true)
    (a23 : PySem.W.nsIn K mainGlobals "_law_times" = some (some (.ref f23))) (l23 : K.lookup f23 = some ⟨oc23, od23, .func (PySem.W.fnOf "_law_times" "_law_times" (defArgs s__law_times) (defBody s__law_times) (defScope s__law_times) .none kV23 dc23 pm23 an23 cd23 ct23), sl23⟩) (c23 : PySem.W.codeIn K cd23 "_law_times" = true) (k23 : PySem.W.keepIn K (.ref f23) = true)
    (a24 : PySem.W.nsIn K mainGlobals "_law_less" = some (some (.ref f24))) (l24 : K.lookup f24 = some ⟨oc24, od24, .func (PySem.W.fnOf "_law_less" "_law_less" (defArgs s__law_less) (defBody s__law_less) (defScope s__law_less) .none kV24 dc24 pm24 an24 cd24 ct24), sl24⟩) (c24 : PySem.W.codeIn K cd24 "_law_less" = true) (k24 : PySem.W.keepIn K (.ref f24) = true)
    (a25 : PySem.W.nsIn K mainGlobals "_law_sum" = some (some (.ref f25))) (l25 : K.lookup f25 = some ⟨oc25, od25, .func (PySem.W.fnOf "_law_sum" "_law_sum" (defArgs s__law_sum) (defBody s__law_sum) (defScope s__law_sum) .none kV25 dc25 pm25 an25 cd25 ct25), sl25⟩) (c25 : PySem.W.codeIn K cd25 "_law_sum" = true) (k25 : PySem.W.keepIn K (.ref f25) = true)
    (a26 : PySem.W.nsIn K mainGlobals "_law_names" = some (some (.ref f26))) (l26 : K.lookup f26 = some ⟨oc26, od26, .func (PySem.W.fnOf "_law_names" "_law_names" (defArgs s__law_names) (defBody s__law_names) (defScope s__law_names) .none kV26 dc26 pm26 an26 cd26 ct26), sl26⟩) (c26 : PySem.W.codeIn K cd26 "_law_names" = true) (k26 : PySem.W.keepIn K (.ref f26) = true)
    (a27 : PySem.W.nsIn K mainGlobals "_law_table" = some (some (.ref f27))) (l27 : K.lookup f27 = some ⟨oc27, od27, .func (PySem.W.fnOf "_law_table" "_law_table" (defArgs s__law_table) (defBody s__law_table) (defScope s__law_table) .none kV27 dc27 pm27 an27 cd27 ct27), sl27⟩) (c27 : PySem.W.codeIn K cd27 "_law_table" = true) (k27 : PySem.W.keepIn K (.ref f27) = true)
    (a28 : PySem.W.nsIn K mainGlobals "_law_prices" = some (some (.ref f28))) (l28 : K.lookup f28 = some ⟨oc28, od28, .func (PySem.W.fnOf "_law_prices" "_law_prices" (defArgs s__law_prices) (defBody s__law_prices) (defScope s__law_prices) .none kV28 dc28 pm28 an28 cd28 ct28), sl28⟩) (c28 : PySem.W.codeIn K cd28 "_law_prices" = true) (k28 : PySem.W.keepIn K (.ref f28) = true)
    (a29 : PySem.W.nsIn K mainGlobals "_law_supplies" = some (some (.ref f29))) (l29 : K.lookup f29 = some ⟨oc29, od29, .func (PySem.W.fnOf "_law_supplies" "_law_supplies" (defArgs s__law_supplies) (defBody s__law_supplies) (defScope s__law_supplies) .none kV29 dc29 pm29 an29 cd29 ct29), sl29⟩) (c29 : PySem.W.codeIn K cd29 "_law_supplies" = true) (k29 : PySem.W.keepIn K (.ref f29) = true)
    (a30 : PySem.W.nsIn K mainGlobals "_law_paid" = some (some (.ref f30))) (l30 : K.lookup f30 = some ⟨oc30, od30, .func (PySem.W.fnOf "_law_paid" "_law_paid" (defArgs s__law_paid) (defBody s__law_paid) (defScope s__law_paid) .none kV30 dc30 pm30 an30 cd30 ct30), sl30⟩) (c30 : PySem.W.codeIn K cd30 "_law_paid" = true) (k30 : PySem.W.keepIn K (.ref f30) = true)
    (a31 : PySem.W.nsIn K mainGlobals "_law_are_right" = some (some (.ref f31))) (l31 : K.lookup f31 = some ⟨oc31, od31, .func (PySem.W.fnOf "_law_are_right" "_law_are_right" (defArgs s__law_are_right) (defBody s__law_are_right) (defScope s__law_are_right) .none kV31 dc31 pm31 an31 cd31 ct31), sl31⟩) (c31 : PySem.W.codeIn K cd31 "_law_are_right" = true) (k31 : PySem.W.keepIn K (.ref f31) = true)
    (a32 : PySem.W.nsIn K mainGlobals "_law_pays_right" = some (some (.ref f32))) (l32 : K.lookup f32 = some ⟨oc32, od32, .func (PySem.W.fnOf "_law_pays_right" "_law_pays_right" (defArgs s__law_pays_right) (defBody s__law_pays_right) (defScope s__law_pays_right) .none kV32 dc32 pm32 an32 cd32 ct32), sl32⟩) (c32 : PySem.W.codeIn K cd32 "_law_pays_right" = true) (k32 : PySem.W.keepIn K (.ref f32) = true)
    (a33 : PySem.W.nsIn K mainGlobals "_law_cost" = some (some (.ref f33))) (l33 : K.lookup f33 = some ⟨oc33, od33, .func (PySem.W.fnOf "_law_cost" "_law_cost" (defArgs s__law_cost) (defBody s__law_cost) (defScope s__law_cost) .none kV33 dc33 pm33 an33 cd33 ct33), sl33⟩) (c33 : PySem.W.codeIn K cd33 "_law_cost" = true) (k33 : PySem.W.keepIn K (.ref f33) = true)
    (a34 : PySem.W.nsIn K mainGlobals "_law_shares" = some (some (.ref f34))) (l34 : K.lookup f34 = some ⟨oc34, od34, .func (PySem.W.fnOf "_law_shares" "_law_shares" (defArgs s__law_shares) (defBody s__law_shares) (defScope s__law_shares) .none kV34 dc34 pm34 an34 cd34 ct34), sl34⟩) (c34 : PySem.W.codeIn K cd34 "_law_shares" = true) (k34 : PySem.W.keepIn K (.ref f34) = true)
    (a35 : PySem.W.nsIn K mainGlobals "_law_payments" = some (some (.ref f35))) (l35 : K.lookup f35 = some ⟨oc35, od35, .func (PySem.W.fnOf "_law_payments" "_law_payments" (defArgs s__law_payments) (defBody s__law_payments) (defScope s__law_payments) .none kV35 dc35 pm35 an35 cd35 ct35), sl35⟩) (c35 : PySem.W.codeIn K cd35 "_law_payments" = true) (k35 : PySem.W.keepIn K (.ref f35) = true)
    (a36 : PySem.W.nsIn K mainGlobals "law" = some (some (.ref f36))) (l36 : K.lookup f36 = some ⟨oc36, od36, .func (PySem.W.fnOf "law" "law" (defArgs s_law) (defBody s_law) (defScope s_law) .none kV36 dc36 pm36 an36 cd36 ct36), sl36⟩) (c36 : PySem.W.codeIn K cd36 "law" = true) (k36 : PySem.W.keepIn K (.ref f36) = true)
    (z0 : PySem.W.nsIn K mainGlobals "abs" = some none)
    (z1 : PySem.W.nsIn K mainGlobals "int" = some none)
    (z2 : PySem.W.nsIn K mainGlobals "isinstance" = some none)
    (z3 : PySem.W.nsIn K mainGlobals "len" = some none)
    (z4 : PySem.W.nsIn K mainGlobals "list" = some none)
    (z5 : PySem.W.nsIn K mainGlobals "range" = some none)
    (z6 : PySem.W.nsIn K mainGlobals "repr" = some none)
    (z7 : PySem.W.nsIn K mainGlobals "sorted" = some none)
    (z8 : PySem.W.nsIn K mainGlobals "tuple" = some none)
    (z9 : PySem.W.nsIn K mainGlobals "zip" = some none) : Runs P w K mg fa a s₁ ns := by
  obtain ⟨T, hT⟩ := txt_mk X G a0 l0 c0 k0 a1 l1 c1 k1 a2 l2 c2 k2 a3 l3 c3 k3 a4 l4 c4 k4 a5 l5 c5 k5 a6 l6 c6 k6 a7 l7 c7 k7 a8 l8 c8 k8 a9 l9 c9 k9 a10 l10 c10 k10 a11 l11 c11 k11 a12 l12 c12 k12 a13 l13 c13 k13 a14 l14 c14 k14 a15 l15 c15 k15 a16 l16 c16 k16 a17 l17 c17 k17 a18 l18 c18 k18 a19 l19 c19 k19 a20 l20 c20 k20 a21 l21 c21 k21 a22 l22 c22 k22 a23 l23 c23 k23 a24 l24 c24 k24 a25 l25 c25 k25 a26 l26 c26 k26 a27 l27 c27 k27 a28 l28 c28 k28 a29 l29 c29 k29 a30 l30 c30 k30 a31 l31 c31 k31 a32 l32 c32 k32 a33 l33 c33 k33 a34 l34 c34 k34 a35 l35 c35 k35 a36 l36 c36 k36 z0 z1 z2 z3 z4 z5 z6 z7 z8 z9
  cases hfa.symm.trans hT
  have Z : Zs K mg := { a_ZERO := z, g_ZERO := PySem.W.mg_of X G aZ, z_ZERO := fun H => .inr ⟨_, _, _, lZ, rfl, rfl, (by show 2 ≤ sizeLine; decide), .cons ⟨tz0, rfl⟩ (.cons ⟨tz1, rfl⟩ .nil)⟩, a_ONE := zO, g_ONE := PySem.W.mg_of X G aO, z_ONE := fun H => .inr ⟨_, _, _, lO, rfl, rfl, (by show 2 ≤ sizeLine; decide), .cons ⟨tz2, rfl⟩ (.cons ⟨tz3, rfl⟩ .nil)⟩, m_gcd := PySem.W.mg_of X G aG }
  have FT := fun_mk (st := s_Table_init) tl tc tk
  have B : ClsTxt K mg := { C := Ct, f := fT, d := _, cls := ⟨tpg, thd, tpo, tsa⟩, n1 := tn1, n2 := tn2, n3 := tn3, makes := ⟨tmk, ti, tif, tkc⟩, gC := PySem.W.mg_of X G tA, fn := FT, b := FT.binds (ps := ["self", "people", "houses", "pairs"]) fun _ _ _ _ _ _ us hl => match us, hl with | [_, _, _, _], _ => rfl }
  exact runs_law T Z B
end K24

open PySem PySem.W PyProof.Rows
set_option maxRecDepth 100000 in
set_option maxHeartbeats 0 in
theorem PySem.Challenge.cw_servedall_k24_whole_payments_are_never_a_holds : PySem.Challenge.rw_servedall_k24_whole_payments_are_never_a.Holds := by
  w_on; o_law; k_head; (case hw => w_witness2)
  k_fill
  refine Fx.walk_go (l := PySem.Challenge.rw_servedall_k24_whole_payments_are_never_a) (n := 63) rfl (by decide) rfl (fun w h Y => PySem.W.kIn_of Y) ?go
  case go =>
    intro w mg fa a s₁ ns hlen KX G hmg
    refine' K24.all_go KX G hmg ?aZ ?lZ ?aO ?lO ?aG ?tA ?tpg ?thd ?tpo ?tsa ?tmk ?tkc ?ti ?tif ?tl ?tc ?tk ?tn1 ?tn2 ?tn3 ?a0 ?l0 ?c0 ?k0 ?a1 ?l1 ?c1 ?k1 ?a2 ?l2 ?c2 ?k2 ?a3 ?l3 ?c3 ?k3 ?a4 ?l4 ?c4 ?k4 ?a5 ?l5 ?c5 ?k5 ?a6 ?l6 ?c6 ?k6 ?a7 ?l7 ?c7 ?k7 ?a8 ?l8 ?c8 ?k8 ?a9 ?l9 ?c9 ?k9 ?a10 ?l10 ?c10 ?k10 ?a11 ?l11 ?c11 ?k11 ?a12 ?l12 ?c12 ?k12 ?a13 ?l13 ?c13 ?k13 ?a14 ?l14 ?c14 ?k14 ?a15 ?l15 ?c15 ?k15 ?a16 ?l16 ?c16 ?k16 ?a17 ?l17 ?c17 ?k17 ?a18 ?l18 ?c18 ?k18 ?a19 ?l19 ?c19 ?k19 ?a20 ?l20 ?c20 ?k20 ?a21 ?l21 ?c21 ?k21 ?a22 ?l22 ?c22 ?k22 ?a23 ?l23 ?c23 ?k23 ?a24 ?l24 ?c24 ?k24 ?a25 ?l25 ?c25 ?k25 ?a26 ?l26 ?c26 ?k26 ?a27 ?l27 ?c27 ?k27 ?a28 ?l28 ?c28 ?k28 ?a29 ?l29 ?c29 ?k29 ?a30 ?l30 ?c30 ?k30 ?a31 ?l31 ?c31 ?k31 ?a32 ?l32 ?c32 ?k32 ?a33 ?l33 ?c33 ?k33 ?a34 ?l34 ?c34 ?k34 ?a35 ?l35 ?c35 ?k35 ?a36 ?l36 ?c36 ?k36 ?z0 ?z1 ?z2 ?z3 ?z4 ?z5 ?z6 ?z7 ?z8 ?z9
    (case aZ => k_is)
    (case lZ => k_is)
    (case aO => k_is)
    (case lO => k_is)
    (case aG => k_is)
    (case tA => k_is)
    (case tpg => k_is)
    (case thd => k_is)
    (case tpo => k_is)
    (case tsa => k_is)
    (case tmk => k_is)
    (case tkc => k_is)
    (case ti => k_is)
    (case tif => k_is)
    (case tl => k_is)
    (case tc => k_is)
    (case tk => k_is)
    (case tn1 => k_is)
    (case tn2 => k_is)
    (case tn3 => k_is)
    (case a0 => k_is)
    (case l0 => k_is)
    (case c0 => k_is)
    (case k0 => k_is)
    (case a1 => k_is)
    (case l1 => k_is)
    (case c1 => k_is)
    (case k1 => k_is)
    (case a2 => k_is)
    (case l2 => k_is)
    (case c2 => k_is)
    (case k2 => k_is)
    (case a3 => k_is)
    (case l3 => k_is)
    (case c3 => k_is)
    (case k3 => k_is)
    (case a4 => k_is)
    (case l4 => k_is)
    (case c4 => k_is)
    (case k4 => k_is)
    (case a5 => k_is)
    (case l5 => k_is)
    (case c5 => k_is)
    (case k5 => k_is)
    (case a6 => k_is)
    (case l6 => k_is)
    (case c6 => k_is)
    (case k6 => k_is)
    (case a7 => k_is)
    (case l7 => k_is)
    (case c7 => k_is)
    (case k7 => k_is)
    (case a8 => k_is)
    (case l8 => k_is)
    (case c8 => k_is)
    (case k8 => k_is)
    (case a9 => k_is)
    (case l9 => k_is)
    (case c9 => k_is)
    (case k9 => k_is)
    (case a10 => k_is)
    (case l10 => k_is)
    (case c10 => k_is)
    (case k10 => k_is)
    (case a11 => k_is)
    (case l11 => k_is)
    (case c11 => k_is)
    (case k11 => k_is)
    (case a12 => k_is)
    (case l12 => k_is)
    (case c12 => k_is)
    (case k12 => k_is)
    (case a13 => k_is)
    (case l13 => k_is)
    (case c13 => k_is)
    (case k13 => k_is)
    (case a14 => k_is)
    (case l14 => k_is)
    (case c14 => k_is)
    (case k14 => k_is)
    (case a15 => k_is)
    (case l15 => k_is)
    (case c15 => k_is)
    (case k15 => k_is)
    (case a16 => k_is)
    (case l16 => k_is)
    (case c16 => k_is)
    (case k16 => k_is)
    (case a17 => k_is)
    (case l17 => k_is)
    (case c17 => k_is)
    (case k17 => k_is)
    (case a18 => k_is)
    (case l18 => k_is)
    (case c18 => k_is)
    (case k18 => k_is)
    (case a19 => k_is)
    (case l19 => k_is)
    (case c19 => k_is)
    (case k19 => k_is)
    (case a20 => k_is)
    (case l20 => k_is)
    (case c20 => k_is)
    (case k20 => k_is)
    (case a21 => k_is)
    (case l21 => k_is)
    (case c21 => k_is)
    (case k21 => k_is)
    (case a22 => k_is)
    (case l22 => k_is)
    (case c22 => k_is)
    (case k22 => k_is)
    (case a23 => k_is)
    (case l23 => k_is)
    (case c23 => k_is)
    (case k23 => k_is)
    (case a24 => k_is)
    (case l24 => k_is)
    (case c24 => k_is)
    (case k24 => k_is)
    (case a25 => k_is)
    (case l25 => k_is)
    (case c25 => k_is)
    (case k25 => k_is)
    (case a26 => k_is)
    (case l26 => k_is)
    (case c26 => k_is)
    (case k26 => k_is)
    (case a27 => k_is)
    (case l27 => k_is)
    (case c27 => k_is)
    (case k27 => k_is)
    (case a28 => k_is)
    (case l28 => k_is)
    (case c28 => k_is)
    (case k28 => k_is)
    (case a29 => k_is)
    (case l29 => k_is)
    (case c29 => k_is)
    (case k29 => k_is)
    (case a30 => k_is)
    (case l30 => k_is)
    (case c30 => k_is)
    (case k30 => k_is)
    (case a31 => k_is)
    (case l31 => k_is)
    (case c31 => k_is)
    (case k31 => k_is)
    (case a32 => k_is)
    (case l32 => k_is)
    (case c32 => k_is)
    (case k32 => k_is)
    (case a33 => k_is)
    (case l33 => k_is)
    (case c33 => k_is)
    (case k33 => k_is)
    (case a34 => k_is)
    (case l34 => k_is)
    (case c34 => k_is)
    (case k34 => k_is)
    (case a35 => k_is)
    (case l35 => k_is)
    (case c35 => k_is)
    (case k35 => k_is)
    (case a36 => k_is)
    (case l36 => k_is)
    (case c36 => k_is)
    (case k36 => k_is)
    (case z0 => k_is)
    (case z1 => k_is)
    (case z2 => k_is)
    (case z3 => k_is)
    (case z4 => k_is)
    (case z5 => k_is)
    (case z6 => k_is)
    (case z7 => k_is)
    (case z8 => k_is)
    (case z9 => k_is)
#print axioms PySem.Challenge.cw_servedall_k24_whole_payments_are_never_a_holds

