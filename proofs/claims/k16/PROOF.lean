import PyProof.Rows.All
import Wide.All
import OpenK.AllK
import Wide.FinOn
import HandS.ForMost
import HandS.ForExc
import HandS.IsInst
import HandS.Star
import HandS.Style
import HandS.TupMul
import HandS.TupAny
import HandS.Wide
import HandS.Walk
import HandS.Conv
import HandS.Zip
import PySem.Challenge.RW_latecomers_k16_whole_differences
set_option Elab.async false
set_option linter.all false
set_option maxRecDepth 100000
set_option maxHeartbeats 2000000
/-! Plain layer: values as data, code as functions of data. -/
namespace PL
open PySem L2

/-- data -/
inductive D where
  | non | bl (b : Bool) | int (i : Int) | str (x : Str) | lst (xs : List D) | tup (xs : List D) | ins (C : Nat) (fs : List (Str × D))

/-- an exception: its class, its fields -/
structure Xc where
  C : Nat
  fs : List (Str × D)

/-- what a slot holds -/
inductive Sl where
  | un | fz (d : D) | ow (ds : List D) | pool | scr (ns : List Int) | oi (a dx : Addr) (C : Nat) (fs : List (Str × D))
/-- what may change: of this def's own making, or a pool -/
def Sl.own : Sl → Bool
  | .ow _ => true | .pool => true | .oi _ _ _ _ => true | _ => false
def Sl.uniq : Sl → Bool
  | .ow _ => true | .oi _ _ _ _ => true | _ => false

abbrev Env := List Sl

/-- computations: what must hold for an end, for an exception -/
def W (α : Type) := (α → Prop) → (Xc → Prop) → Prop
namespace W
def pure {α : Type} (a : α) : W α := fun Q _ => Q a
def bind {α β : Type} (m : W α) (f : α → W β) : W β := fun Q E => m (fun a => f a Q E) E
def fail {α : Type} : W α := fun _ _ => False
def throw {α : Type} (x : Xc) : W α := fun _ E => E x
def any {α : Type} (P : α → Prop) : W α := fun Q _ => ∀ a, P a → Q a
def need {α : Type} (P : Prop) (m : W α) : W α := fun Q E => P ∧ m Q E
end W
instance : Monad W where
  pure := W.pure
  bind := W.bind

structure Ctx where
  K : PySem.W.Frag
  cn : Nat → Addr
  pi : List V → Prop

mutual
inductive Rp (cn : Nat → Addr) (H : Hp) : V → D → Prop
  | non : Rp cn H .non .non
  | bl (b : Bool) : Rp cn H (.bl b) (.bl b)
  | int (i : Int) : Rp cn H (.int i) (.int i)
  | str (x : Str) : Rp cn H (.str x) (.str x)
  | lst {p : Addr} {vs : List V} {ds : List D} : H p = some (.lst vs) → Rps cn H vs ds → Rp cn H (.ref p) (.lst ds)
  | tup {p : Addr} {vs : List V} {ds : List D} : H p = some (.tup vs) → Rps cn H vs ds → Rp cn H (.ref p) (.tup ds)
  | ins {p dx : Addr} {C : Nat} {gs : List (Str × V)} {fs : List (Str × D)} : H p = some (.ins (cn C) dx gs) → Rpf cn H gs fs → Rp cn H (.ref p) (.ins C fs)
inductive Rps (cn : Nat → Addr) (H : Hp) : List V → List D → Prop
  | nil : Rps cn H [] []
  | cons {v : V} {d : D} {vs : List V} {ds : List D} : Rp cn H v d → Rps cn H vs ds → Rps cn H (v :: vs) (d :: ds)
inductive Rpf (cn : Nat → Addr) (H : Hp) : List (Str × V) → List (Str × D) → Prop
  | nil : Rpf cn H [] []
  | cons {f : Str} {v : V} {d : D} {vs : List (Str × V)} {ds : List (Str × D)} : Rp cn H v d → Rpf cn H vs ds → Rpf cn H ((f, v) :: vs) ((f, d) :: ds)
end
section
variable {cn : Nat → Addr} {H H' : Hp}
mutual
theorem Rp.mono (e : Same H H') : ∀ {v : V} {d : D}, Rp cn H v d → Rp cn H' v d
  | _, _, .non => .non
  | _, _, .bl b => .bl b
  | _, _, .int i => .int i
  | _, _, .str x => .str x
  | _, _, .lst h r => .lst (e _ _ h) (Rps.mono e r)
  | _, _, .tup h r => .tup (e _ _ h) (Rps.mono e r)
  | _, _, .ins h r => .ins (e _ _ h) (Rpf.mono e r)
theorem Rps.mono (e : Same H H') : ∀ {vs : List V} {ds : List D}, Rps cn H vs ds → Rps cn H' vs ds
  | _, _, .nil => .nil
  | _, _, .cons r t => .cons (Rp.mono e r) (Rps.mono e t)
theorem Rpf.mono (e : Same H H') : ∀ {vs : List (Str × V)} {ds : List (Str × D)}, Rpf cn H vs ds → Rpf cn H' vs ds
  | _, _, .nil => .nil
  | _, _, .cons r t => .cons (Rp.mono e r) (Rpf.mono e t)
end
theorem Rps.length : ∀ {vs : List V} {ds : List D}, Rps cn H vs ds → vs.length = ds.length
  | _, _, .nil => rfl
  | _, _, .cons _ t => congrArg (· + 1) (Rps.length t)
theorem Rps.get : ∀ {vs : List V} {ds : List D} {i : Nat} {d : D}, Rps cn H vs ds → ds[i]? = some d → ∃ v, vs[i]? = some v ∧ Rp cn H v d
  | _, _, _, _, .nil, e => by simp at e
  | _, _, 0, d, .cons r _, e => by simp at e; subst e; exact ⟨_, rfl, r⟩
  | _, _, i + 1, d, .cons _ t, e => by
    obtain ⟨v, h1, h2⟩ := Rps.get (i := i) (d := d) t (by simpa using e)
    exact ⟨v, by simpa using h1, h2⟩
theorem Rps.getV : ∀ {vs : List V} {ds : List D} {i : Nat} {v : V}, Rps cn H vs ds → vs[i]? = some v → ∃ d, ds[i]? = some d ∧ Rp cn H v d
  | _, _, _, _, .nil, e => by simp at e
  | _, _, 0, v, .cons r _, e => by simp at e; subst e; exact ⟨_, rfl, r⟩
  | _, _, i + 1, v, .cons _ t, e => by
    obtain ⟨d, h1, h2⟩ := Rps.getV (i := i) (v := v) t (by simpa using e)
    exact ⟨d, by simpa using h1, h2⟩
theorem Rps.append : ∀ {vs us : List V} {ds es : List D}, Rps cn H vs ds → Rps cn H us es → Rps cn H (vs ++ us) (ds ++ es)
  | _, _, _, _, .nil, s => s
  | _, _, _, _, .cons r t, s => .cons r (Rps.append t s)
theorem Rps.take : ∀ {vs : List V} {ds : List D} (n : Nat), Rps cn H vs ds → Rps cn H (vs.take n) (ds.take n)
  | _, _, 0, _ => .nil
  | _, _, _ + 1, .nil => .nil
  | _, _, n + 1, .cons r t => .cons r (Rps.take n t)
theorem Rps.drop : ∀ {vs : List V} {ds : List D} (n : Nat), Rps cn H vs ds → Rps cn H (vs.drop n) (ds.drop n)
  | _, _, 0, r => r
  | _, _, _ + 1, .nil => .nil
  | _, _, n + 1, .cons _ t => Rps.drop n t
theorem Rps.set {v : V} {d : D} (r : Rp cn H v d) : ∀ {vs : List V} {ds : List D} (i : Nat), Rps cn H vs ds → Rps cn H (vs.set i v) (ds.set i d)
  | _, _, _, .nil => .nil
  | _, _, 0, .cons _ t => .cons r t
  | _, _, i + 1, .cons q t => .cons q (Rps.set r i t)
theorem Rps.ints : ∀ {vs : List V} {ns : List Int}, Rps cn H vs (ns.map D.int) → vs = ns.map V.int
  | _, [], .nil => rfl
  | _, n :: ns, .cons (.int _) t => by rw [Rps.ints t]; rfl
theorem Rps.bls : ∀ {vs : List V} {ns : List Bool}, Rps cn H vs (ns.map D.bl) → vs = ns.map V.bl
  | _, [], .nil => rfl
  | _, n :: ns, .cons (.bl _) t => by rw [Rps.bls t]; rfl
theorem Rps.one {v : V} {d : D} (r : Rp cn H v d) : Rps cn H [v] [d] := .cons r .nil
theorem Rpf.lookup : ∀ {gs : List (Str × V)} {fs : List (Str × D)} {f : Str} {d : D}, Rpf cn H gs fs → fs.lookup f = some d → ∃ v, gs.lookup f = some v ∧ Rp cn H v d
  | _, _, _, _, .nil, e => by simp at e
  | _, _, f, d, .cons (f := g) r t, e => by
    by_cases h : (f == g) = true
    · simp only [List.lookup, h] at e ⊢
      cases e
      exact ⟨_, rfl, r⟩
    · have h' : (f == g) = false := by simpa using h
      simp only [List.lookup, h'] at e ⊢
      exact Rpf.lookup t e
theorem Rpf.none : ∀ {gs : List (Str × V)} {fs : List (Str × D)} {f : Str}, Rpf cn H gs fs → fs.lookup f = none → gs.lookup f = none
  | _, _, _, .nil, _ => rfl
  | _, _, f, .cons (f := g) r t, e => by
    by_cases h : (f == g) = true
    · simp only [List.lookup, h] at e
      cases e
    · have h' : (f == g) = false := by simpa using h
      simp only [List.lookup, h'] at e ⊢
      exact Rpf.none t e
end

theorem Same.new {H : Hp} {p : Addr} {o : HO} (h : H p = none) : Same H (upd H p o) := fun a u e => by
  rw [upd_ne (ne_of_none e h)]
  exact e

/-- the ground on which a body runs: the pools that it was handed, the heaps at its entry -/
structure Bs where
  P : Addr → Prop
  Hf : Hp
  H : Hp

def PoolAt (G : Ctx) (H : Hp) (p : Addr) : Prop := ∃ vs, H p = some (.lst vs) ∧ G.pi vs

def SlR (G : Ctx) (B : Bs) (v : Option (Option V)) (Hf H : Hp) : Sl → Prop
  | .un => True
  | .fz d => ∃ x, v = some (some x) ∧ Rp G.cn Hf x d
  | .ow ds => ∃ p vs, v = some (some (.ref p)) ∧ Hf p = none ∧ B.H p = none ∧ H p = some (.lst vs) ∧ Rps G.cn Hf vs ds
  | .pool => ∃ p, v = some (some (.ref p)) ∧ Hf p = none ∧ (B.P p ∨ B.H p = none) ∧ PoolAt G H p
  | .scr ns => ∃ p, v = some (some (.ref p)) ∧ SqL G.K Hf p (ns.map V.int)
  | .oi p dx C fs => ∃ gs, v = some (some (.ref p)) ∧ Hf p = none ∧ B.H p = none ∧ H p = some (.ins (G.cn C) dx gs) ∧ Rpf G.cn Hf gs fs

structure Rep (G : Ctx) (B : Bs) (ρ : Env) (σ : St) (Hf H : Hp) : Prop where
  len : σ.length = ρ.length
  sm : Same Hf H
  sm0 : Same B.Hf Hf
  unf : ∀ b o, B.H b = some o → B.Hf b = none → Hf b = none
  kp : ∀ b o, B.H b = some o → ¬ B.P b → H b = some o
  pl : ∀ b, B.P b → Hf b = none ∧ PoolAt G H b
  p0 : ∀ b, B.P b → B.H b ≠ none ∧ B.Hf b = none
  sl : ∀ (i : Nat) (s : Sl), ρ[i]? = some s → SlR G B σ[i]? Hf H s
  ds : ∀ (i j : Nat) (p : Addr) (s s' : Sl), i ≠ j → ρ[i]? = some s → s.uniq = true → ρ[j]? = some s' → s'.own = true → σ[i]? = some (some (.ref p)) → σ[j]? = some (some (.ref p)) → False

section
variable {G : Ctx} {B : Bs} {ρ : Env} {σ : St} {Hf H Hf' H' : Hp}

/-- a new object, frozen at once -/
theorem Rep.new {p : Addr} {o : HO} (R : Rep G B ρ σ Hf H) (hp : H p = none) : Rep G B ρ σ (upd Hf p o) (upd H p o) := by
  have hfp : Hf p = none := R.sm.free hp
  have s1 : Same Hf (upd Hf p o) := Same.new hfp
  have s2 : Same H (upd H p o) := Same.new hp
  have ne : ∀ {b u}, H b = some u → b ≠ p := fun e => ne_of_none e hp
  refine ⟨R.len, fun b u e => ?_, R.sm0.trans s1, fun b u e n => ?_, fun b u e n => s2 _ _ (R.kp b u e n), fun b hb => ?_, R.p0, fun i s e => ?_, R.ds⟩
  · by_cases hb : b = p
    · subst hb; rw [upd_same] at e ⊢; exact e
    · rw [upd_ne hb] at e ⊢; exact R.sm _ _ e
  · by_cases hb : B.P b
    · obtain ⟨vs, q, _⟩ := (R.pl b hb).2
      rw [upd_ne (ne q)]; exact R.unf b u e n
    · rw [upd_ne (ne (R.kp b u e hb))]; exact R.unf b u e n
  · obtain ⟨h1, vs, q, r⟩ := R.pl b hb
    exact ⟨by rw [upd_ne (ne q)]; exact h1, vs, s2 _ _ q, r⟩
  · have q := R.sl i s e
    cases s with
    | un => trivial
    | fz d => obtain ⟨x, e1, r⟩ := q; exact ⟨x, e1, r.mono s1⟩
    | ow ds => obtain ⟨a, vs, e1, h1, h2, h3, r⟩ := q; exact ⟨a, vs, e1, by rw [upd_ne (ne h3)]; exact h1, h2, s2 _ _ h3, r.mono s1⟩
    | pool => obtain ⟨a, e1, h1, h2, vs, h3, r⟩ := q; exact ⟨a, e1, by rw [upd_ne (ne h3)]; exact h1, h2, vs, s2 _ _ h3, r⟩
    | scr ns => obtain ⟨a, e1, h1⟩ := q; exact ⟨a, e1, s1.seq h1⟩
    | oi a dx C fs => obtain ⟨gs, e1, h1, h2, h3, r⟩ := q; exact ⟨gs, e1, by rw [upd_ne (ne h3)]; exact h1, h2, s2 _ _ h3, r.mono s1⟩
/-- a new object, not frozen -/
theorem Rep.laid {p : Addr} {o : HO} (R : Rep G B ρ σ Hf H) (hp : H p = none) : Rep G B ρ σ Hf (upd H p o) := by
  have hfp : Hf p = none := R.sm.free hp
  have s2 : Same H (upd H p o) := Same.new hp
  refine ⟨R.len, R.sm.trans s2, R.sm0, R.unf, fun b u e n => s2 _ _ (R.kp b u e n), fun b hb => ?_, R.p0, fun i s e => ?_, R.ds⟩
  · obtain ⟨h1, vs, q, r⟩ := R.pl b hb
    exact ⟨h1, vs, s2 _ _ q, r⟩
  · have q := R.sl i s e
    cases s with
    | un => trivial
    | fz d => exact q
    | ow ds => obtain ⟨a, vs, e1, h1, h2, h3, r⟩ := q; exact ⟨a, vs, e1, h1, h2, s2 _ _ h3, r⟩
    | pool => obtain ⟨a, e1, h1, h2, vs, h3, r⟩ := q; exact ⟨a, e1, h1, h2, vs, s2 _ _ h3, r⟩
    | scr ns => exact q
    | oi a dx C fs => obtain ⟨gs, e1, h1, h2, h3, r⟩ := q; exact ⟨gs, e1, h1, h2, s2 _ _ h3, r⟩
/-- an object that is laid but no one's is frozen -/
theorem Rep.frz {p : Addr} {o : HO} (R : Rep G B ρ σ Hf H) (hp : H p = some o) (hf : Hf p = none) (hb : B.H p = none) (hn : ∀ (i : Nat) (s : Sl), ρ[i]? = some s → s.own = true → σ[i]? ≠ some (some (.ref p))) : Rep G B ρ σ (upd Hf p o) H := by
  have s1 : Same Hf (upd Hf p o) := Same.new hf
  refine ⟨R.len, fun b u e => ?_, R.sm0.trans s1, fun b u e n => ?_, R.kp, fun b hb' => ?_, R.p0, fun i s e => ?_, R.ds⟩
  · by_cases hb : b = p
    · subst hb; rw [upd_same] at e; rw [hp]; exact e
    · rw [upd_ne hb] at e; exact R.sm _ _ e
  · rw [upd_ne (ne_of_none e hb)]; exact R.unf b u e n
  · obtain ⟨h1, vs, q, r⟩ := R.pl b hb'
    have : b ≠ p := fun z => (R.p0 b hb').1 (by rw [z]; exact hb)
    exact ⟨by rw [upd_ne this]; exact h1, vs, q, r⟩
  · have q := R.sl i s e
    cases s with
    | un => trivial
    | fz d => obtain ⟨x, e1, r⟩ := q; exact ⟨x, e1, r.mono s1⟩
    | ow ds =>
      obtain ⟨a, vs, e1, h1, h2, h3, r⟩ := q
      have : a ≠ p := fun z => hn i _ e rfl (by rw [← z]; exact e1)
      exact ⟨a, vs, e1, by rw [upd_ne this]; exact h1, h2, h3, r.mono s1⟩
    | pool =>
      obtain ⟨a, e1, h1, h2, vs, h3, r⟩ := q
      have : a ≠ p := fun z => hn i _ e rfl (by rw [← z]; exact e1)
      exact ⟨a, e1, by rw [upd_ne this]; exact h1, h2, vs, h3, r⟩
    | scr ns => obtain ⟨a, e1, h1⟩ := q; exact ⟨a, e1, s1.seq h1⟩
    | oi a dx C fs =>
      obtain ⟨gs, e1, h1, h2, h3, r⟩ := q
      have : a ≠ p := fun z => hn i _ e rfl (by rw [← z]; exact e1)
      exact ⟨gs, e1, by rw [upd_ne this]; exact h1, h2, h3, r.mono s1⟩
end

/-- the slots that hold pools -/
def IsPool (ρ : Env) (σ : St) (b : Addr) : Prop := ∃ i : Nat, ρ[i]? = some Sl.pool ∧ σ[i]? = some (some (V.ref b))
/-- from one state on to a later one: nothing is lost, nothing that was not frozen is frozen, only pools change -/
structure Nx (ρ : Env) (σ : St) (Hf H Hf' H' : Hp) : Prop where
  sm : Same Hf Hf'
  kp : ∀ b o, H b = some o → Hf b = none → Hf' b = none ∧ ∃ o', H' b = some o' ∧ (¬ IsPool ρ σ b → o' = o)
theorem Nx.refl {ρ : Env} {σ : St} {Hf H : Hp} : Nx ρ σ Hf H Hf H := ⟨Same.refl _, fun b o e n => ⟨n, o, e, fun _ => rfl⟩⟩
theorem Nx.trans {ρ : Env} {σ : St} {Hf H Hf1 H1 Hf2 H2 : Hp} (a : Nx ρ σ Hf H Hf1 H1) (b : Nx ρ σ Hf1 H1 Hf2 H2) : Nx ρ σ Hf H Hf2 H2 :=
  ⟨a.sm.trans b.sm, fun c o e n => by
    obtain ⟨n1, o1, e1, q1⟩ := a.kp c o e n
    obtain ⟨n2, o2, e2, q2⟩ := b.kp c o1 e1 n1
    exact ⟨n2, o2, e2, fun z => (q2 z).trans (q1 z)⟩⟩
theorem Nx.new {ρ : Env} {σ : St} {Hf H : Hp} {p : Addr} {o : HO} (sm : Same Hf H) (hp : H p = none) : Nx ρ σ Hf H (upd Hf p o) (upd H p o) :=
  ⟨Same.new (sm.free hp), fun b u e n => ⟨by rw [upd_ne (ne_of_none e hp)]; exact n, u, Same.new hp _ _ e, fun _ => rfl⟩⟩

/-! ### expressions -/
/-- a wish of exceptions -/
def XRep (G : Ctx) (Hf : Hp) (x : Xc) (cls : Value) (d : Option Addr) : Prop :=
  cls = .ref (G.cn x.C) ∧ ((x.fs = [] ∧ d = none) ∨ (x.fs ≠ [] ∧ ∃ dd gs, d = some dd ∧ Hf dd = some (.xd gs) ∧ Rpf G.cn Hf gs x.fs))
def XPost (G : Ctx) (Wx : WX) (σ : St) (Hf H : Hp) (B : Bs) (ρ : Env) (E : Xc → Prop) : Prop :=
  ∀ x cls d Hf' H', Rep G B ρ σ Hf' H' → Nx ρ σ Hf H Hf' H' → XRep G Hf' x cls d → E x → Wx cls d σ H'

def EvT (G : Ctx) (Wx : WX) (t : TE) (g : Env → W D) : Prop :=
  ∀ (B : Bs) (ρ : Env) (σ : St) (Hf H : Hp) (Q' : D → Prop) (E' : Xc → Prop) (Q : VK), Rep G B ρ σ Hf H → g ρ Q' E' →
    (∀ v d Hf' H', Rep G B ρ σ Hf' H' → Nx ρ σ Hf H Hf' H' → Rp G.cn Hf' v d → Q' d → Q v H') → XPost G Wx σ Hf H B ρ E' → t σ H Q
structure Ev (G : Ctx) (X : Cx) (Wx : WX) (e : Expr) (g : Env → W D) : Prop where
  ex : ∃ t, PE X e t ∧ EvT G Wx t g
/-- tests -/
def EbT (G : Ctx) (Wx : WX) (t : TT) (g : Env → W Bool) : Prop :=
  ∀ (B : Bs) (ρ : Env) (σ : St) (Hf H : Hp) (Q' : Bool → Prop) (E' : Xc → Prop) (Q : Bool → Hp → Prop), Rep G B ρ σ Hf H → g ρ Q' E' →
    (∀ b Hf' H', Rep G B ρ σ Hf' H' → Nx ρ σ Hf H Hf' H' → Q' b → Q b H') → XPost G Wx σ Hf H B ρ E' → t σ H Q
structure Eb (G : Ctx) (X : Cx) (Wx : WX) (e : Expr) (g : Env → W Bool) : Prop where
  ex : ∃ t, PT X e t ∧ EbT G Wx t g
structure Ew (G : Ctx) (X : Cx) (Wx : WX) (e : Expr) (g : Env → W Bool) : Prop where
  ex : ∃ t, PW X e t ∧ EbT G Wx t g
/-- argument lists -/
def EaT (G : Ctx) (Wx : WX) (t : TA) (g : Env → W (List D)) : Prop :=
  ∀ (B : Bs) (ρ : Env) (σ : St) (Hf H : Hp) (Q' : List D → Prop) (E' : Xc → Prop) (Q : List V → Hp → Prop), Rep G B ρ σ Hf H → g ρ Q' E' →
    (∀ vs ds Hf' H', Rep G B ρ σ Hf' H' → Nx ρ σ Hf H Hf' H' → Rps G.cn Hf' vs ds → Q' ds → Q vs H') → XPost G Wx σ Hf H B ρ E' → t σ H Q
structure Ea (G : Ctx) (X : Cx) (Wx : WX) (es : List Expr) (g : Env → W (List D)) : Prop where
  ex : ∃ t, PA X es t ∧ EaT G Wx t g
theorem XPost.mono {G : Ctx} {Wx : WX} {σ : St} {Hf H Hf' H' : Hp} {B : Bs} {ρ : Env} {E : Xc → Prop} (h : XPost G Wx σ Hf H B ρ E) (s : Nx ρ σ Hf H Hf' H') : XPost G Wx σ Hf' H' B ρ E :=
  fun x cls d Hf2 H2 R s2 xr e => h x cls d Hf2 H2 R (s.trans s2) xr e

/-- operations by values -/
def Op2 (G : Ctx) (r : R2) (f : D → D → W D) : Prop :=
  ∀ (B : Bs) (ρ : Env) (σ : St) (Hf H : Hp) (x y : V) (a b : D) (Q' : D → Prop) (E' : Xc → Prop) (Q : VK), Rep G B ρ σ Hf H → Rp G.cn Hf x a → Rp G.cn Hf y b → f a b Q' E' →
    (∀ v d Hf' H', Rep G B ρ σ Hf' H' → Nx ρ σ Hf H Hf' H' → Rp G.cn Hf' v d → Q' d → Q v H') → r x y H Q
def Op1 (G : Ctx) (r : V → Hp → VK → Prop) (f : D → W D) : Prop :=
  ∀ (B : Bs) (ρ : Env) (σ : St) (Hf H : Hp) (x : V) (a : D) (Q' : D → Prop) (E' : Xc → Prop) (Q : VK), Rep G B ρ σ Hf H → Rp G.cn Hf x a → f a Q' E' →
    (∀ v d Hf' H', Rep G B ρ σ Hf' H' → Nx ρ σ Hf H Hf' H' → Rp G.cn Hf' v d → Q' d → Q v H') → r x H Q
def OpN (G : Ctx) (r : List V → Hp → VK → Prop) (f : List D → W D) : Prop :=
  ∀ (B : Bs) (ρ : Env) (σ : St) (Hf H : Hp) (xs : List V) (as : List D) (Q' : D → Prop) (E' : Xc → Prop) (Q : VK), Rep G B ρ σ Hf H → Rps G.cn Hf xs as → f as Q' E' →
    (∀ v d Hf' H', Rep G B ρ σ Hf' H' → Nx ρ σ Hf H Hf' H' → Rp G.cn Hf' v d → Q' d → Q v H') → r xs H Q
def rOr (r r' : R2) : R2 := fun x y H Q => r x y H Q ∨ r' x y H Q
theorem op_or2 {X : Cx} {f : Value → Value → Sem Value} {r r' : R2} (h : OpR X f r) (h' : OpR X f r') : OpR X f (rOr r r') := fun pins s σ H x y v u Q I rx ry q => q.elim (h pins s σ H x y v u Q I rx ry) (h' pins s σ H x y v u Q I rx ry)
def cOr (r r' : List V → Hp → VK → Prop) : List V → Hp → VK → Prop := fun x H Q => r x H Q ∨ r' x H Q
theorem call_or {X : Cx} {f : Value} {r r' : List V → Hp → VK → Prop} (h : CallR X f r) (h' : CallR X f r') : CallR X f (cOr r r') := fun pins s σ H xs us Q I rv q => q.elim (h pins s σ H xs us Q I rv) (h' pins s σ H xs us Q I rv)

section
variable {G : Ctx} {X : Cx} {Wx : WX} {a b c e : Expr} {es : List Expr} {ga gb gc g : Env → W D} {pos : Pos}

def bin2 (f : D → D → W D) (ga gb : Env → W D) : Env → W D := fun ρ => do let x ← ga ρ; let y ← gb ρ; f x y
theorem evt_op {r : R2} {f : D → D → W D} {ta tb : TE} (ho : Op2 G r f) (ha : EvT G Wx ta ga) (hb : EvT G Wx tb gb) : EvT G Wx (tOp r ta tb) (bin2 f ga gb) := by
  intro B ρ σ Hf H Q' E' Q R q k kx
  refine ha B ρ σ Hf H _ E' _ R q (fun v d Hf1 H1 R1 s1 r1 q1 => ?_) kx
  refine hb B ρ σ Hf1 H1 _ E' _ R1 q1 (fun u e Hf2 H2 R2 s2 r2 q2 => ?_) (kx.mono s1)
  exact ho B ρ σ Hf2 H2 v u d e Q' E' Q R2 (r1.mono s2.sm) r2 q2 fun w z Hf3 H3 R3 s3 r3 q3 => k w z Hf3 H3 R3 ((s1.trans s2).trans s3) r3 q3
theorem ev_bin {op : Operator} {r : R2} {f : D → D → W D} (hr : OpR X (binaryOp op) r) (ho : Op2 G r f) (ha : Ev G X Wx a ga) (hb : Ev G X Wx b gb) : Ev G X Wx (.BinOp a op b pos) (bin2 f ga gb) := by
  obtain ⟨ta, pa, ea⟩ := ha.ex
  obtain ⟨tb, pb, eb⟩ := hb.ex
  exact ⟨_, pe_op hr pa pb, evt_op ho ea eb⟩
theorem ev_cmp {op : CmpOp} {r : R2} {f : D → D → W D} (hr : OpR X (compareOp op) r) (ho : Op2 G r f) (ha : Ev G X Wx a ga) (hb : Ev G X Wx b gb) (hm : behindInMarks op b = false) : Ev G X Wx (.Compare a [op] [b] pos) (bin2 f ga gb) := by
  obtain ⟨ta, pa, ea⟩ := ha.ex
  obtain ⟨tb, pb, eb⟩ := hb.ex
  exact ⟨_, pe_cmpR hr pa pb hm, evt_op ho ea eb⟩
/-- a value as a truth value -/
def asB (d : D) : W Bool := match d with | .bl b => W.pure b | _ => W.fail
def testB (g : Env → W D) : Env → W Bool := fun ρ => do let d ← g ρ; asB d
theorem ebt_test {t : TE} (h : EvT G Wx t g) : EbT G Wx (tTest t) (testB g) := by
  intro B ρ σ Hf H Q' E' Q R q k kx
  refine h B ρ σ Hf H _ E' _ R q (fun v d Hf1 H1 R1 s1 r1 q1 => ?_) kx
  cases r1 with
  | bl b => exact ⟨b, rfl, k b Hf1 H1 R1 s1 q1⟩
  | _ => exact False.elim q1
theorem eb_cmp {op : CmpOp} {r : R2} {f : D → D → W D} (hr : OpR X (compareOp op) r) (ho : Op2 G r f) (ha : Ev G X Wx a ga) (hb : Ev G X Wx b gb) (hm : behindInMarks op b = false) : Eb G X Wx (.Compare a [op] [b] pos) (testB (bin2 f ga gb)) := by
  obtain ⟨ta, pa, ea⟩ := ha.ex
  obtain ⟨tb, pb, eb⟩ := hb.ex
  exact ⟨_, pt_cmpR hr pa pb hm, ebt_test (evt_op ho ea eb)⟩
/-- a chain of two comparisons -/
def chain2 (f f' : D → D → W D) (ga gb gc : Env → W D) : Env → W D := fun ρ => do
  let x ← ga ρ
  let y ← gb ρ
  let z ← f x y
  let k ← asB z
  if k = true then do
    let w ← gc ρ
    f' y w
  else W.pure (.bl false)
theorem evt_chain {r r' : R2} {f f' : D → D → W D} {ta tb tc : TE} (ho : Op2 G r f) (ho' : Op2 G r' f') (ha : EvT G Wx ta ga) (hb : EvT G Wx tb gb) (hc : EvT G Wx tc gc) : EvT G Wx (tChain r r' ta tb tc) (chain2 f f' ga gb gc) := by
  intro B ρ σ Hf H Q' E' Q R q k kx
  refine ha B ρ σ Hf H _ E' _ R q (fun v d Hf1 H1 R1 s1 r1 q1 => ?_) kx
  refine hb B ρ σ Hf1 H1 _ E' _ R1 q1 (fun u e Hf2 H2 R2 s2 r2 q2 => ?_) (kx.mono s1)
  refine ho B ρ σ Hf2 H2 v u d e _ E' _ R2 (r1.mono s2.sm) r2 q2 fun w z Hf3 H3 R3 s3 r3 q3 => ?_
  cases r3 with
  | bl kk =>
    refine ⟨kk, rfl, ?_⟩
    cases kk with
    | false => exact iteF (k _ _ Hf3 H3 R3 ((s1.trans s2).trans s3) (.bl false) q3)
    | true =>
      refine iteT ?_
      refine hc B ρ σ Hf3 H3 _ E' _ R3 q3 (fun w' z' Hf4 H4 R4 s4 r4 q4 => ?_) (((kx.mono s1).mono s2).mono s3)
      exact ho' B ρ σ Hf4 H4 u w' e z' Q' E' Q R4 ((r2.mono s3.sm).mono s4.sm) r4 q4 fun w5 z5 Hf5 H5 R5 s5 r5 q5 => k w5 z5 Hf5 H5 R5 ((((s1.trans s2).trans s3).trans s4).trans s5) r5 q5
  | _ => exact False.elim q3
theorem ev_chain {op op' : CmpOp} {r r' : R2} {f f' : D → D → W D} (hr : OpR X (compareOp op) r) (hr' : OpR X (compareOp op') r') (ho : Op2 G r f) (ho' : Op2 G r' f') (ha : Ev G X Wx a ga) (hb : Ev G X Wx b gb) (hc : Ev G X Wx c gc)
    (hm : lastMarks [op, op'] [b, c] = false := by with_unfolding_all rfl) : Ev G X Wx (.Compare a [op, op'] [b, c] pos) (chain2 f f' ga gb gc) := by
  obtain ⟨ta, pa, ea⟩ := ha.ex
  obtain ⟨tb, pb, eb⟩ := hb.ex
  obtain ⟨tc, pc, ec⟩ := hc.ex
  exact ⟨_, pe_chain hr hr' pa pb pc hm, evt_chain ho ho' ea eb ec⟩
theorem eb_chain {op op' : CmpOp} {r r' : R2} {f f' : D → D → W D} (hr : OpR X (compareOp op) r) (hr' : OpR X (compareOp op') r') (ho : Op2 G r f) (ho' : Op2 G r' f') (ha : Ev G X Wx a ga) (hb : Ev G X Wx b gb) (hc : Ev G X Wx c gc)
    (hm : lastMarks [op, op'] [b, c] = false := by with_unfolding_all rfl) : Eb G X Wx (.Compare a [op, op'] [b, c] pos) (testB (chain2 f f' ga gb gc)) := by
  obtain ⟨ta, pa, ea⟩ := ha.ex
  obtain ⟨tb, pb, eb⟩ := hb.ex
  obtain ⟨tc, pc, ec⟩ := hc.ex
  exact ⟨_, pt_chain hr hr' pa pb pc hm, ebt_test (evt_chain ho ho' ea eb ec)⟩

/-! names, constants -/
def rdS : Option Sl → W D
  | some (.fz d) => W.pure d
  | _ => W.fail
def rd (i : Nat) : Env → W D := fun ρ => rdS ρ[i]?
theorem ev_var (i : Nat) {x : Str} (h : PE X (.Name x pos) (tVar i)) : Ev G X Wx (.Name x pos) (rd i) := by
  refine ⟨_, h, ?_⟩
  intro B ρ σ Hf H Q' E' Q R q k kx
  have q' : rdS ρ[i]? Q' E' := q
  cases e : ρ[i]? with
  | none => rw [e] at q'; exact False.elim q'
  | some s =>
    rw [e] at q'
    cases s with
    | fz d =>
      obtain ⟨v, e1, r⟩ := R.sl i _ e
      exact ⟨v, e1, k v d Hf H R (Nx.refl) r q'⟩
    | _ => exact False.elim q'
def kst (d : D) : Env → W D := fun _ => W.pure d
theorem ev_const {v : V} {d : D} (h : PE X e (tC v)) (r : ∀ cn H, Rp cn H v d) : Ev G X Wx e (kst d) :=
  ⟨_, h, fun B ρ σ Hf H Q' E' Q R q k kx => k v d Hf H R (Nx.refl) (r _ _) q⟩
theorem ev_int {i j} : Ev G X Wx (.Constant (.int i) j pos) (kst (.int i)) := ev_const pe_int fun _ _ => .int i
theorem ev_bl {i j} : Ev G X Wx (.Constant (.bool i) j pos) (kst (.bl i)) := ev_const pe_bl fun _ _ => .bl i
theorem ev_non {j} : Ev G X Wx (.Constant .none j pos) (kst .non) := ev_const pe_non fun _ _ => .non
theorem ev_str {x j} : Ev G X Wx (.Constant (.str x) j pos) (kst (.str x)) := ev_const pe_str fun _ _ => .str x
/-- a module's int -/
theorem ev_globI {x : Str} {i : Int} {t : Tok} (hg : Gl X x) (hm : X.mg x = some (.int i t)) (hd : (x == ("__debug__" : Str)) = false := by decide) : Ev G X Wx (.Name x pos) (kst (.int i)) :=
  ev_const (v := .int i) (pe_glob hg hm ⟨_, rfl⟩ hd) fun _ _ => .int i

/-! tests from values; and, or, not -/
theorem eb_val {t : Env → W D} (h : Ev G X Wx e t) (he : ∀ whole, isTrue e X.env whole = (do let v ← whole; standAt e.pos; holding [v] (truthy v)) := by intro _; rfl) : Eb G X Wx e (testB t) := by
  obtain ⟨ta, pa, ea⟩ := h.ex
  exact ⟨_, pt_val pa he, fun B ρ σ Hf H Q' E' Q R q k kx => ebt_test ea B ρ σ Hf H Q' E' Q R q k kx⟩
theorem eb_w {t : Env → W Bool} (h : Ew G X Wx e t) : Eb G X Wx e t := by
  obtain ⟨ta, pa, ea⟩ := h.ex
  exact ⟨_, pa.pt, ea⟩
variable {ba bb bc : Env → W Bool}
theorem ew_and1 (h : Eb G X Wx a ba) : Ew G X Wx (.BoolOp .And [a] pos) ba := by
  obtain ⟨ta, pa, ea⟩ := h.ex
  exact ⟨_, pw_and1 pa, ea⟩
theorem ew_or1 (h : Eb G X Wx a ba) : Ew G X Wx (.BoolOp .Or [a] pos) ba := by
  obtain ⟨ta, pa, ea⟩ := h.ex
  exact ⟨_, pw_or1 pa, ea⟩
def andB (f g : Env → W Bool) : Env → W Bool := fun ρ => do let x ← f ρ; if x = true then g ρ else W.pure false
def orB (f g : Env → W Bool) : Env → W Bool := fun ρ => do let x ← f ρ; if x = true then W.pure true else g ρ
def notB (f : Env → W Bool) : Env → W Bool := fun ρ => do let x ← f ρ; W.pure (!x)
theorem ew_and {rest : List Expr} (h : Eb G X Wx a ba) (h2 : Ew G X Wx (.BoolOp .And (b :: rest) pos) bb) : Ew G X Wx (.BoolOp .And (a :: b :: rest) pos) (andB ba bb) := by
  obtain ⟨ta, pa, ea⟩ := h.ex
  obtain ⟨tb, pb, eb⟩ := h2.ex
  refine ⟨_, pw_and pa pb, ?_⟩
  intro B ρ σ Hf H Q' E' Q R q k kx
  refine ea B ρ σ Hf H _ E' _ R q (fun x Hf1 H1 R1 s1 q1 => ?_) kx
  cases x with
  | true => exact iteT (eb B ρ σ Hf1 H1 Q' E' Q R1 q1 (fun y Hf2 H2 R2 s2 q2 => k y Hf2 H2 R2 (s1.trans s2) q2) (kx.mono s1))
  | false => exact iteF (k false Hf1 H1 R1 s1 q1)
theorem ew_or {rest : List Expr} (h : Eb G X Wx a ba) (h2 : Ew G X Wx (.BoolOp .Or (b :: rest) pos) bb) : Ew G X Wx (.BoolOp .Or (a :: b :: rest) pos) (orB ba bb) := by
  obtain ⟨ta, pa, ea⟩ := h.ex
  obtain ⟨tb, pb, eb⟩ := h2.ex
  refine ⟨_, pw_or pa pb, ?_⟩
  intro B ρ σ Hf H Q' E' Q R q k kx
  refine ea B ρ σ Hf H _ E' _ R q (fun x Hf1 H1 R1 s1 q1 => ?_) kx
  cases x with
  | false => exact iteF (eb B ρ σ Hf1 H1 Q' E' Q R1 q1 (fun y Hf2 H2 R2 s2 q2 => k y Hf2 H2 R2 (s1.trans s2) q2) (kx.mono s1))
  | true => exact iteT (k true Hf1 H1 R1 s1 q1)
theorem eb_not (h : Eb G X Wx a ba) : Eb G X Wx (.UnaryOp .Not a pos) (notB ba) := by
  obtain ⟨ta, pa, ea⟩ := h.ex
  exact ⟨_, pt_not pa, fun B ρ σ Hf H Q' E' Q R q k kx => ea B ρ σ Hf H _ E' _ R q (fun x Hf1 H1 R1 s1 q1 => k (!x) Hf1 H1 R1 s1 q1) kx⟩
/-- .. as values -/
def andV (f g : Env → W D) : Env → W D := fun ρ => do let x ← f ρ; let k ← asB x; if k = true then g ρ else W.pure (.bl false)
def orV (f g : Env → W D) : Env → W D := fun ρ => do let x ← f ρ; let k ← asB x; if k = true then W.pure (.bl true) else g ρ
def notV (f : Env → W D) : Env → W D := fun ρ => do let x ← f ρ; let k ← asB x; W.pure (.bl (!k))
theorem ev_one {op} (h : Ev G X Wx a ga) : Ev G X Wx (.BoolOp op [a] pos) ga := by
  obtain ⟨ta, pa, ea⟩ := h.ex
  exact ⟨_, pe_one pa, ea⟩
theorem ev_and {rest : List Expr} (h : Ev G X Wx a ga) (h2 : Ev G X Wx (.BoolOp .And (b :: rest) pos) gb) : Ev G X Wx (.BoolOp .And (a :: b :: rest) pos) (andV ga gb) := by
  obtain ⟨ta, pa, ea⟩ := h.ex
  obtain ⟨tb, pb, eb⟩ := h2.ex
  refine ⟨_, pe_and pa pb, ?_⟩
  intro B ρ σ Hf H Q' E' Q R q k kx
  refine ea B ρ σ Hf H _ E' _ R q (fun v d Hf1 H1 R1 s1 r1 q1 => ?_) kx
  cases r1 with
  | bl x =>
    refine ⟨x, rfl, ?_⟩
    cases x with
    | true => exact iteT (eb B ρ σ Hf1 H1 Q' E' Q R1 q1 (fun y d Hf2 H2 R2 s2 r2 q2 => k y d Hf2 H2 R2 (s1.trans s2) r2 q2) (kx.mono s1))
    | false => exact iteF (k _ _ Hf1 H1 R1 s1 (.bl false) q1)
  | _ => exact False.elim q1
theorem ev_or {rest : List Expr} (h : Ev G X Wx a ga) (h2 : Ev G X Wx (.BoolOp .Or (b :: rest) pos) gb) : Ev G X Wx (.BoolOp .Or (a :: b :: rest) pos) (orV ga gb) := by
  obtain ⟨ta, pa, ea⟩ := h.ex
  obtain ⟨tb, pb, eb⟩ := h2.ex
  refine ⟨_, pe_or pa pb, ?_⟩
  intro B ρ σ Hf H Q' E' Q R q k kx
  refine ea B ρ σ Hf H _ E' _ R q (fun v d Hf1 H1 R1 s1 r1 q1 => ?_) kx
  cases r1 with
  | bl x =>
    refine ⟨x, rfl, ?_⟩
    cases x with
    | false => exact iteF (eb B ρ σ Hf1 H1 Q' E' Q R1 q1 (fun y d Hf2 H2 R2 s2 r2 q2 => k y d Hf2 H2 R2 (s1.trans s2) r2 q2) (kx.mono s1))
    | true => exact iteT (k _ _ Hf1 H1 R1 s1 (.bl true) q1)
  | _ => exact False.elim q1
theorem ev_not (h : Ev G X Wx a ga) : Ev G X Wx (.UnaryOp .Not a pos) (notV ga) := by
  obtain ⟨ta, pa, ea⟩ := h.ex
  refine ⟨_, pe_not pa, ?_⟩
  intro B ρ σ Hf H Q' E' Q R q k kx
  refine ea B ρ σ Hf H _ E' _ R q (fun v d Hf1 H1 R1 s1 r1 q1 => ?_) kx
  cases r1 with
  | bl x => exact ⟨x, rfl, k _ _ Hf1 H1 R1 s1 (.bl _) q1⟩
  | _ => exact False.elim q1
/-- a conditional expression -/
def iteV (c : Env → W Bool) (f g : Env → W D) : Env → W D := fun ρ => do let x ← c ρ; if x = true then f ρ else g ρ
theorem ev_ite (h : Eb G X Wx c bc) (h1 : Ev G X Wx a ga) (h2 : Ev G X Wx b gb) : Ev G X Wx (.IfExp c a b pos) (iteV bc ga gb) := by
  obtain ⟨tc, pc, ec⟩ := h.ex
  obtain ⟨ta, pa, ea⟩ := h1.ex
  obtain ⟨tb, pb, eb⟩ := h2.ex
  refine ⟨_, pe_ifExp pc pa pb, ?_⟩
  intro B ρ σ Hf H Q' E' Q R q k kx
  refine ec B ρ σ Hf H _ E' _ R q (fun x Hf1 H1 R1 s1 q1 => ?_) kx
  cases x with
  | true => exact iteT (ea B ρ σ Hf1 H1 Q' E' Q R1 q1 (fun y d Hf2 H2 R2 s2 r2 q2 => k y d Hf2 H2 R2 (s1.trans s2) r2 q2) (kx.mono s1))
  | false => exact iteF (eb B ρ σ Hf1 H1 Q' E' Q R1 q1 (fun y d Hf2 H2 R2 s2 r2 q2 => k y d Hf2 H2 R2 (s1.trans s2) r2 q2) (kx.mono s1))

/-! argument lists, displays -/
theorem ea_nil : Ea G X Wx [] (fun _ => W.pure []) := ⟨_, pa_nil, fun B ρ σ Hf H Q' E' Q R q k kx => k [] [] Hf H R (Nx.refl) .nil q⟩
def consA (f : Env → W D) (g : Env → W (List D)) : Env → W (List D) := fun ρ => do let x ← f ρ; let xs ← g ρ; W.pure (x :: xs)
theorem ea_cons {gs : Env → W (List D)} (h : Ev G X Wx e g) (hr : Ea G X Wx es gs) (hs : starEach (e :: es) X.env = (false, eval e X.env) :: starEach es X.env := by rfl) : Ea G X Wx (e :: es) (consA g gs) := by
  obtain ⟨ta, pa, ea⟩ := h.ex
  obtain ⟨tb, pb, eb⟩ := hr.ex
  refine ⟨_, pa_cons pa pb hs, ?_⟩
  intro B ρ σ Hf H Q' E' Q R q k kx
  refine ea B ρ σ Hf H _ E' _ R q (fun v d Hf1 H1 R1 s1 r1 q1 => ?_) kx
  exact eb B ρ σ Hf1 H1 _ E' _ R1 q1 (fun vs ds Hf2 H2 R2 s2 r2 q2 => k _ _ Hf2 H2 R2 (s1.trans s2) (.cons (r1.mono s2.sm) r2) q2) (kx.mono s1)
def starA (f : Env → W D) (g : Env → W (List D)) : Env → W (List D) := fun ρ => do
  let x ← f ρ
  match x with
  | .lst ds => do let xs ← g ρ; W.pure (ds ++ xs)
  | .tup ds => do let xs ← g ρ; W.pure (ds ++ xs)
  | _ => W.fail
def dispL (f : List D → D) (g : Env → W (List D)) : Env → W D := fun ρ => do let xs ← g ρ; W.need (xs.length ≤ sizeLine) (W.pure (f xs))
theorem ev_tup {x1} {gs : Env → W (List D)} (h : Ea G X Wx es gs) : Ev G X Wx (.Tuple es x1 pos) (dispL D.tup gs) := by
  obtain ⟨ta, pa, ea⟩ := h.ex
  refine ⟨_, pe_tup pa, ?_⟩
  intro B ρ σ Hf H Q' E' Q R q k kx
  refine ea B ρ σ Hf H _ E' _ R q (fun vs ds Hf1 H1 R1 s1 r1 q1 => ⟨by rw [r1.length]; exact q1.1, fun p hp => ?_⟩) kx
  have s2 : Nx ρ σ Hf1 H1 (upd Hf1 p (.tup vs)) (upd H1 p (.tup vs)) := Nx.new R1.sm hp
  exact k _ _ _ _ (R1.new hp) (s1.trans s2) (.tup upd_same (r1.mono s2.sm)) q1.2
theorem ev_lst {gs : Env → W (List D)} (h : Ea G X Wx es gs) : Ev G X Wx (.List es pos) (dispL D.lst gs) := by
  obtain ⟨ta, pa, ea⟩ := h.ex
  refine ⟨_, pe_lst pa, ?_⟩
  intro B ρ σ Hf H Q' E' Q R q k kx
  refine ea B ρ σ Hf H _ E' _ R q (fun vs ds Hf1 H1 R1 s1 r1 q1 => ⟨by rw [r1.length]; exact q1.1, fun p hp => ?_⟩) kx
  have s2 : Nx ρ σ Hf1 H1 (upd Hf1 p (.lst vs)) (upd H1 p (.lst vs)) := Nx.new R1.sm hp
  exact k _ _ _ _ (R1.new hp) (s1.trans s2) (.lst upd_same (r1.mono s2.sm)) q1.2
end
end PL

set_option Elab.async false
set_option linter.all false
set_option maxRecDepth 100000
set_option maxHeartbeats 2000000
namespace PL
open PySem L2

/-! ### operations on ints, lists, tuples -/
section
open PySem.Spec PyProof.Rows
theorem tuple_once (l : Addr) (its : Array Value) (n : Nat) (dd : Option Addr) (sl : Array (Option Value)) (u : Tok) :
    Meets (Builtin.«tuple.__mul__» ⟨[.ref l, .int 1 u], []⟩) (fun _ R s => s.heap.get? l = some { cls := .type "tuple", dict := dd, data := .seq its n, slots := sl } ∧ R (.ok (.ret (.ref l))) s) :=
  .of_wp fun prog w A R s h => by
    obtain ⟨hp, g, d, tk, os⟩ := s
    obtain ⟨hg, h⟩ := h
    have idx := AutoSeq1.idx_int
    have one : (its.isEmpty || (1 : Int) == 1) = true := by cases its.isEmpty <;> rfl
    wp_walk using wpAny_loadPart' hg
    exact ⟨_, rfl, h⟩
def rOnce (K : PySem.W.Frag) : R2 := fun x y H Q => ∃ l xs, x = .ref l ∧ y = .int 1 ∧ SqT K H l xs ∧ Q (.ref l) H
theorem op_once {X : Cx} : OpR X (binaryOp .Mult) (rOnce X.K) := by
  intro pins s σ H x y v u Q I rx ry h
  obtain ⟨l, xs, rfl, rfl, hT, q⟩ := h
  cases rx
  obtain ⟨t, rfl⟩ := ry
  obtain ⟨its, r, ⟨⟨cls, dd, data, sl⟩, ho, hc, n, hd⟩, hs⟩ := I.tuple hT
  simp only at hc hd
  subst hc hd
  have isT : s.TypeIs (.ref l) "tuple" := ⟨_, ho, rfl⟩
  have fin : EP X pins σ Q (.ref l) s := ⟨.ref l, H, I, rfl, q⟩
  refine wpAny_binaryOp_repeat_ref (T := "tuple") (hTU := by decide) (ha := isT) (hn := fun s' => typeIs_int s' 1 t)
    (hfT := noFill_tuple_mul) (hfU := F.fills_int_mul) (hr := F.slot_int_rmul) (hrep := repeat_tuple) (hix := F.slot_int_index.lookup) (hc := ?_)
  refine call_meets (slot := F.slot_int_rmul) (hT := typeIs_int s 1 t) (entry := F.entry_int_rmul) (args := F.args_int_rmul_2 _ _)
    (g := int_rmul_tuple 1 t l its.toArray n dd sl) (h := ⟨ho, rfl, isT, ?_⟩)
  exact call_meets (slot := F.slot_tuple_mul) (hT := isT) (entry := F.entry_tuple_mul) (args := F.args_tuple_mul_2 _ _)
    (g := tuple_once l its.toArray n dd sl t) (h := ⟨ho, fin⟩)
end
def addD : D → D → W D
  | .int i, .int j => W.pure (.int (i + j))
  | .lst a, .lst b => W.need (a.length + b.length ≤ sizeLine) (W.pure (.lst (a ++ b)))
  | .tup a, .tup b => W.need (a.length + b.length ≤ sizeLine) (W.pure (.tup (a ++ b)))
  | _, _ => W.fail
def subD : D → D → W D
  | .int i, .int j => W.pure (.int (i - j))
  | _, _ => W.fail
def mulD : D → D → W D
  | .int i, .int j => W.need (CMul i j ∨ CMulW i j) (W.pure (.int (i * j)))
  | .lst a, .int k => W.need (-(2 ^ 63) ≤ k ∧ k < 2 ^ 63 ∧ a.length * k.toNat ≤ sizeLine) (W.pure (.lst (List.replicate k.toNat a).flatten))
  | .tup a, .int k => W.need (k = 1 ∨ (a ≠ [] ∧ 2 ≤ k ∧ k ≤ 1000 ∧ a.length ≤ 1000)) (W.pure (.tup (List.replicate k.toNat a).flatten))
  | _, _ => W.fail
def divD : D → D → W D
  | .int i, .int j => W.need (CDiv i j ∨ CDivW i j) (W.pure (.int (i / j)))
  | _, _ => W.fail
def modD : D → D → W D
  | .int i, .int j => W.need (0 < j) (W.pure (.int (i % j)))
  | _, _ => W.fail
def powD : D → D → W D
  | .int i, .int j => W.need (CPow i j) (W.pure (.int (i ^ j.toNat)))
  | _, _ => W.fail
def cmpD (f : Int → Int → Bool) : D → D → W D
  | .int i, .int j => W.pure (.bl (f i j))
  | _, _ => W.fail
def ltD := cmpD fun i j => decide (i < j)
def leD := cmpD fun i j => decide (i ≤ j)
def gtD := cmpD fun i j => decide (j < i)
def geD := cmpD fun i j => decide (j ≤ i)

section
variable {G : Ctx} {cn : Nat → Addr} {H : Hp}
/-- to split a product of two data -/
theorem rI0_op {g : Int → Int → V} {gd : Int → Int → D} {f : D → D → W D} (hg : ∀ i j H, Rp G.cn H (g i j) (gd i j)) (hf : ∀ a b Q E, f a b Q E → ∃ i j, a = .int i ∧ b = .int j ∧ Q (gd i j)) : Op2 G (rI0 g) f := by
  intro B ρ σ Hf H x y a b Q' E' Q R rx ry q k
  obtain ⟨i, j, e1, e2, q2⟩ := hf _ _ _ _ q
  subst e1 e2
  cases rx
  cases ry
  exact ⟨i, j, rfl, rfl, k _ _ Hf H R Nx.refl (hg i j _) q2⟩
theorem rI_op {C : Int → Int → Prop} {g : Int → Int → V} {gd : Int → Int → D} {f : D → D → W D} (hg : ∀ i j H, Rp G.cn H (g i j) (gd i j)) (hf : ∀ a b Q E, f a b Q E → ∃ i j, a = .int i ∧ b = .int j ∧ C i j ∧ Q (gd i j)) : Op2 G (rI C g) f := by
  intro B ρ σ Hf H x y a b Q' E' Q R rx ry q k
  obtain ⟨i, j, e1, e2, c, q2⟩ := hf _ _ _ _ q
  subst e1 e2
  cases rx
  cases ry
  exact ⟨i, j, rfl, rfl, c, k _ _ Hf H R Nx.refl (hg i j _) q2⟩
theorem o_sub : Op2 G (rI0 fun i j => .int (i - j)) subD := rI0_op (gd := fun i j => .int (i - j)) (fun _ _ _ => .int _) fun a b Q E q => by
  cases a <;> cases b <;> first | exact ⟨_, _, rfl, rfl, q⟩ | exact q.elim
theorem o_mod : Op2 G (rI (fun _ j => 0 < j) fun i j => .int (i % j)) modD := rI_op (gd := fun i j => .int (i % j)) (fun _ _ _ => .int _) fun a b Q E q => by
  cases a <;> cases b <;> first | exact ⟨_, _, rfl, rfl, q.1, q.2⟩ | exact q.elim
theorem o_pow : Op2 G (rI CPow fun i j => .int (i ^ j.toNat)) powD := rI_op (gd := fun i j => .int (i ^ j.toNat)) (fun _ _ _ => .int _) fun a b Q E q => by
  cases a <;> cases b <;> first | exact ⟨_, _, rfl, rfl, q.1, q.2⟩ | exact q.elim
theorem o_cmp {f : Int → Int → Bool} : Op2 G (rI0 fun i j => .bl (f i j)) (cmpD f) := rI0_op (gd := fun i j => .bl (f i j)) (fun _ _ _ => .bl _) fun a b Q E q => by
  cases a <;> cases b <;> first | exact ⟨_, _, rfl, rfl, q⟩ | exact q.elim
abbrev rDiv : R2 := rOr (rI CDiv fun i j => .int (i / j)) (rI CDivW fun i j => .int (i / j))
theorem op_divs {X : Cx} : OpR X (binaryOp .FloorDiv) rDiv := op_or2 op_fdiv op_fdivW
theorem o_div : Op2 G rDiv divD := by
  intro B ρ σ Hf H x y a b Q' E' Q R rx ry q k
  cases a <;> cases b <;> first | exact q.elim | skip
  rename_i i j
  cases rx
  cases ry
  obtain ⟨c, q⟩ := q
  rcases c with c | c
  · exact .inl ⟨i, j, rfl, rfl, c, k _ _ Hf H R Nx.refl (.int _) q⟩
  · exact .inr ⟨i, j, rfl, rfl, c, k _ _ Hf H R Nx.refl (.int _) q⟩
abbrev rAddX (K : PySem.W.Frag) : R2 := rOr (rI0 fun i j => .int (i + j)) (rOr rCat (rCatA K))
theorem op_adds {X : Cx} : OpR X (binaryOp .Add) (rAddX X.K) := op_or2 op_add (op_or2 op_cat op_catA)
theorem o_add : Op2 G (rAddX G.K) addD := by
  intro B ρ σ Hf H x y a b Q' E' Q R rx ry q k
  cases a <;> cases b <;> first | exact False.elim q | skip
  · rename_i i j
    cases rx
    cases ry
    exact .inl ⟨i, j, rfl, rfl, k _ _ Hf H R Nx.refl (.int _) q⟩
  · cases rx with
    | lst h1 r1 =>
      cases ry with
      | lst h2 r2 =>
        obtain ⟨c, q⟩ := q
        exact .inr (.inl ⟨_, _, _, _, rfl, rfl, R.sm _ _ h1, R.sm _ _ h2, by rw [r1.length, r2.length]; exact c, fun p hp =>
          k _ _ _ _ (R.new hp) (Nx.new R.sm hp) (.lst upd_same ((r1.append r2).mono (Same.new (R.sm.free hp)))) q⟩)
  · cases rx with
    | tup h1 r1 =>
      cases ry with
      | tup h2 r2 =>
        obtain ⟨c, q⟩ := q
        have q : Q' (.tup _) := q
        refine .inr (.inr ⟨_, _, _, _, rfl, rfl, SqT.of (R.sm _ _ h1), SqT.of (R.sm _ _ h2), by rw [r1.length, r2.length]; exact c, fun e => ?_, fun _ e => ?_, fun _ _ p hp =>
          k _ _ _ _ (R.new hp) (Nx.new R.sm hp) (.tup upd_same ((r1.append r2).mono (Same.new (R.sm.free hp)))) q⟩)
        · subst e
          cases r1
          exact k _ _ Hf H R Nx.refl (.tup h2 r2) q
        · subst e
          cases r2
          rw [List.append_nil] at q
          exact k _ _ Hf H R Nx.refl (.tup h1 r1) q
abbrev rMulX (K : PySem.W.Frag) : R2 := rOr (rOr (rI CMul fun i j => .int (i * j)) (rI CMulW fun i j => .int (i * j))) (rOr rRep (rOr (rRepT K) (rOnce K)))
theorem op_muls {X : Cx} : OpR X (binaryOp .Mult) (rMulX X.K) := op_or2 (op_or2 op_mul op_mulW) (op_or2 op_rep (op_or2 op_repT op_once))
theorem Rps.rep {vs : List V} {ds : List D} (r : Rps cn H vs ds) : ∀ n : Nat, Rps cn H (List.replicate n vs).flatten (List.replicate n ds).flatten
  | 0 => .nil
  | n + 1 => by rw [List.replicate_succ, List.replicate_succ, List.flatten_cons, List.flatten_cons]; exact r.append (Rps.rep r n)
theorem rep_one {ds : List D} : (List.replicate (1 : Int).toNat ds).flatten = ds := by simp
theorem o_mul : Op2 G (rMulX G.K) mulD := by
  intro B ρ σ Hf H x y a b Q' E' Q R rx ry q k
  cases a <;> cases b <;> first | exact False.elim q | skip
  · rename_i i j
    cases rx
    cases ry
    obtain ⟨c, q⟩ := q
    rcases c with c | c
    · exact .inl (.inl ⟨i, j, rfl, rfl, c, k _ _ Hf H R Nx.refl (.int _) q⟩)
    · exact .inl (.inr ⟨i, j, rfl, rfl, c, k _ _ Hf H R Nx.refl (.int _) q⟩)
  · cases rx with
    | lst h1 r1 =>
      cases ry
      obtain ⟨⟨c1, c2, c3⟩, q⟩ := q
      exact .inr (.inl ⟨_, _, _, rfl, rfl, R.sm _ _ h1, c1, c2, by rw [r1.length]; exact c3, fun p hp =>
          k _ _ _ _ (R.new hp) (Nx.new R.sm hp) (.lst upd_same ((r1.rep _).mono (Same.new (R.sm.free hp)))) q⟩)
  · cases rx with
    | tup h1 r1 =>
      cases ry
      obtain ⟨c, q⟩ := q
      have q : Q' (D.tup (List.replicate _ _).flatten) := q
      rcases c with c | ⟨c0, c1, c2, c3⟩
      · subst c
        rw [rep_one] at q
        exact .inr (.inr (.inr ⟨_, _, rfl, rfl, SqT.of (R.sm _ _ h1), k _ _ Hf H R Nx.refl (.tup h1 r1) q⟩))
      · exact .inr (.inr (.inl ⟨_, _, _, rfl, rfl, SqT.of (R.sm _ _ h1), (fun e => by subst e; cases r1; exact c0 rfl), c1, c2, by rw [r1.length]; exact c3, fun p hp =>
          k _ _ _ _ (R.new hp) (Nx.new R.sm hp) (.tup upd_same ((r1.rep _).mono (Same.new (R.sm.free hp)))) q⟩))
def negD : D → W D
  | .int i => W.pure (.int (-i))
  | _ => W.fail
theorem o_neg : Op1 G (rU fun i => .int (-i)) negD := by
  intro B ρ σ Hf H x a Q' E' Q R rx q k
  cases a <;> first | exact False.elim q | skip
  cases rx
  exact ⟨_, rfl, k _ _ Hf H R Nx.refl (.int _) q⟩

/-! ### == -/
mutual
def toPy : D → Option PyData
  | .non => some .none
  | .bl b => some (.bool b)
  | .int i => some (.int i)
  | .str x => some (.str x)
  | .lst xs => (toPys xs).map .list
  | .tup xs => (toPys xs).map .tuple
  | .ins _ _ => none
def toPys : List D → Option (List PyData)
  | [] => some []
  | d :: ds => (toPy d).bind fun x => (toPys ds).map fun xs => x :: xs
end
mutual
theorem Rp.dp (K : PySem.W.Frag) {Hf : Hp} (s : Same Hf H) : ∀ {v : V} {d : D} {x : PyData}, Rp cn Hf v d → toPy d = some x → Dp K H v x
  | _, _, _, .non, e => by simp only [toPy, Option.some.injEq] at e; subst e; exact .non
  | _, _, _, .bl b, e => by simp only [toPy, Option.some.injEq] at e; subst e; exact .bl b
  | _, _, _, .int i, e => by simp only [toPy, Option.some.injEq] at e; subst e; exact .int i
  | _, _, _, .str x, e => by simp only [toPy, Option.some.injEq] at e; subst e; exact .str x
  | _, _, _, .lst h r, e => by
    simp only [toPy, Option.map_eq_some_iff] at e
    obtain ⟨xs, e, rfl⟩ := e
    exact .lst (SqL.of (s _ _ h)) (Rps.dp K s r e)
  | _, _, _, .tup h r, e => by
    simp only [toPy, Option.map_eq_some_iff] at e
    obtain ⟨xs, e, rfl⟩ := e
    exact .tup (SqT.of (s _ _ h)) (Rps.dp K s r e)
  | _, _, _, .ins h r, e => by simp [toPy] at e
theorem Rps.dp (K : PySem.W.Frag) {Hf : Hp} (s : Same Hf H) : ∀ {vs : List V} {ds : List D} {xs : List PyData}, Rps cn Hf vs ds → toPys ds = some xs → DpAll K H vs xs
  | _, _, _, .nil, e => by simp only [toPys, Option.some.injEq] at e; subst e; exact .nil
  | _, _, _, .cons r t, e => by
    simp only [toPys, Option.bind_eq_some_iff, Option.map_eq_some_iff] at e
    obtain ⟨x, e1, xs, e2, rfl⟩ := e
    exact .cons (Rp.dp K s r e1) (Rps.dp K s t e2)
end
def eqD (a b : D) : W D := fun Q _ => ∃ x y, toPy a = some x ∧ toPy b = some y ∧ SeqAt.shaped x = true ∧ SeqAt.shaped y = true ∧ Q (.bl (PyData.eqv x y))
def neD (a b : D) : W D := fun Q _ => ∃ x y, toPy a = some x ∧ toPy b = some y ∧ SeqAt.shaped x = true ∧ SeqAt.shaped y = true ∧ Q (.bl (!PyData.eqv x y))
theorem o_eq : Op2 G (rEqD G.K) eqD := by
  intro B ρ σ Hf H x y a b Q' E' Q R rx ry q k
  obtain ⟨x', y', e1, e2, s1, s2, q⟩ := q
  exact ⟨x', y', rx.dp _ R.sm e1, ry.dp _ R.sm e2, s1, s2, k _ _ Hf H R Nx.refl (.bl _) q⟩
theorem o_ne : Op2 G (rNeD G.K) neD := by
  intro B ρ σ Hf H x y a b Q' E' Q R rx ry q k
  obtain ⟨x', y', e1, e2, s1, s2, q⟩ := q
  exact ⟨x', y', rx.dp _ R.sm e1, ry.dp _ R.sm e2, s1, s2, k _ _ Hf H R Nx.refl (.bl _) q⟩
/-- is True, is False, is not .. -/
def isBD : D → D → W D
  | .bl a, .bl b => W.pure (.bl (decide (a = b)))
  | _, _ => W.fail
def notBD : D → D → W D
  | .bl a, .bl b => W.pure (.bl (!decide (a = b)))
  | _, _ => W.fail
/-- is None -/
def isNo : D → Bool
  | .non => true
  | _ => false
def isND : D → D → W D
  | a, .non => W.pure (.bl (isNo a))
  | _, _ => W.fail
def notND : D → D → W D
  | a, .non => W.pure (.bl (!isNo a))
  | _, _ => W.fail
theorem Rp.isNo {H : Hp} {v : V} {d : D} (r : Rp cn H v d) : decide (v = .non) = isNo d := by
  cases r <;> first | exact decide_eq_true rfl | exact decide_eq_false (fun e => nomatch e)
theorem o_isN : Op2 G (fun x y H Q => y = .non ∧ Q (.bl (decide (x = .non))) H) isND := by
  intro B ρ σ Hf H x y a b Q' E' Q R rx ry q k
  cases b <;> first | exact False.elim q | skip
  cases ry
  refine ⟨rfl, ?_⟩
  rw [rx.isNo]
  exact k _ _ Hf H R Nx.refl (.bl _) q
theorem o_isB : Op2 G rIsB isBD := by
  intro B ρ σ Hf H x y a b Q' E' Q R rx ry q k
  cases a <;> cases b <;> first | exact False.elim q | skip
  cases rx
  cases ry
  exact ⟨_, _, rfl, rfl, k _ _ Hf H R Nx.refl (.bl _) q⟩
theorem o_notB : Op2 G rNotB notBD := by
  intro B ρ σ Hf H x y a b Q' E' Q R rx ry q k
  cases a <;> cases b <;> first | exact False.elim q | skip
  cases rx
  cases ry
  exact ⟨_, _, rfl, rfl, k _ _ Hf H R Nx.refl (.bl _) q⟩

/-! ### subscripts, slices -/
def ixD : D → D → W D
  | .lst xs, .int i => fun Q _ => ∃ d, atI xs i = some d ∧ Q d
  | .tup xs, .int i => fun Q _ => ∃ d, atI xs i = some d ∧ Q d
  | _, _ => W.fail
theorem Rps.atI {vs : List V} {ds : List D} {i : Int} {d : D} (r : Rps cn H vs ds) (h : L2.atI ds i = some d) : ∃ v, L2.atI vs i = some v ∧ Rp cn H v d := by
  unfold L2.atI at h ⊢
  rw [r.length]
  cases e : ixN ds.length i with
  | none => rw [e] at h; cases h
  | some j =>
    rw [e] at h
    obtain ⟨v, h1, h2⟩ := r.get (i := j) h
    exact ⟨v, h1, h2⟩
theorem op_ix {X : Cx} : IxR X (rOr (rIxL X.K) (rIxT X.K)) := IxR.or ix_list ix_tup
theorem o_ix : Op2 G (rOr (rIxL G.K) (rIxT G.K)) ixD := by
  intro B ρ σ Hf H x y a b Q' E' Q R rx ry q k
  cases a <;> cases b <;> first | exact False.elim q | skip
  · cases ry
    cases rx with
    | lst h r =>
      obtain ⟨d, e, q⟩ := q
      obtain ⟨v, e1, r1⟩ := r.atI e
      exact .inl ⟨_, _, _, v, rfl, rfl, SqL.of (R.sm _ _ h), e1, k _ _ Hf H R Nx.refl r1 q⟩
  · cases ry
    cases rx with
    | tup h r =>
      obtain ⟨d, e, q⟩ := q
      obtain ⟨v, e1, r1⟩ := r.atI e
      exact .inr ⟨_, _, _, v, rfl, rfl, SqT.of (R.sm _ _ h), e1, k _ _ Hf H R Nx.refl r1 q⟩
def cutD (xs : List D) (lo hi : Option Int) : List D := (xs.drop (HT.sIx xs.length 0 lo)).take (HT.sIx xs.length xs.length hi - HT.sIx xs.length 0 lo)
theorem Rps.cut {vs : List V} {ds : List D} (r : Rps cn H vs ds) (lo hi : Option Int) : Rps cn H (cutV vs lo hi) (cutD ds lo hi) := by
  unfold cutV cutD
  rw [r.length]
  exact (r.drop _).take _
def optD : Option D → W (Option Int)
  | none => W.pure none
  | some (.int i) => W.pure (some i)
  | _ => W.fail
/-- an optional part of a slice -/
def EoT (G : Ctx) (Wx : WX) (t : TO) (g : Env → W (Option Int)) : Prop :=
  ∀ (B : Bs) (ρ : Env) (σ : St) (Hf H : Hp) (Q' : Option Int → Prop) (E' : Xc → Prop) (Q : Option Int → Hp → Prop), Rep G B ρ σ Hf H → g ρ Q' E' →
    (∀ o Hf' H', Rep G B ρ σ Hf' H' → Nx ρ σ Hf H Hf' H' → Q' o → Q o H') → XPost G Wx σ Hf H B ρ E' → t σ H Q
structure Eo (G : Ctx) (X : Cx) (Wx : WX) (e : Option Expr) (g : Env → W (Option Int)) : Prop where
  ex : ∃ t, PO X e t ∧ EoT G Wx t g
end
section
variable {G : Ctx} {X : Cx} {Wx : WX} {a b c e l : Expr} {es : List Expr} {ga gb gc g : Env → W D} {pos p2 : Pos}
def intO (g : Env → W D) : Env → W (Option Int) := fun ρ => do let d ← g ρ; (match d with | .int i => W.pure (some i) | _ => W.fail)
theorem eo_none : Eo G X Wx none (fun _ => W.pure none) := ⟨_, po_none, fun B ρ σ Hf H Q' E' Q R q k kx => k none Hf H R Nx.refl q⟩
theorem eo_some (h : Ev G X Wx e g) : Eo G X Wx (some e) (intO g) := by
  obtain ⟨t, p, ev⟩ := h.ex
  refine ⟨_, po_some p, ?_⟩
  intro B ρ σ Hf H Q' E' Q R q k kx
  refine ev B ρ σ Hf H _ E' _ R q (fun v d Hf1 H1 R1 s1 r1 q1 => ?_) kx
  cases r1 with
  | int i => exact ⟨i, rfl, k (some i) Hf1 H1 R1 s1 q1⟩
  | _ => exact False.elim q1
def slL (g : Env → W D) (lo hi : Env → W (Option Int)) : Env → W D := fun ρ => do
  let d ← g ρ
  let i ← lo ρ
  let j ← hi ρ
  match d with
  | .lst xs => W.pure (.lst (cutD xs i j))
  | _ => W.fail
theorem ev_sliceL {lo hi : Option Expr} {gl gh : Env → W (Option Int)} (h : Ev G X Wx e g) (h1 : Eo G X Wx lo gl) (h2 : Eo G X Wx hi gh) (hK : X.K = G.K) : Ev G X Wx (.Subscript e (.Slice lo hi none p2) pos) (slL g gl gh) := by
  obtain ⟨t, p, ev⟩ := h.ex
  obtain ⟨t1, p1, e1⟩ := h1.ex
  obtain ⟨t2, p3, e2⟩ := h2.ex
  refine ⟨_, pe_slice sl_list p p1 p3, ?_⟩
  intro B ρ σ Hf H Q' E' Q R q k kx
  refine ev B ρ σ Hf H _ E' _ R q (fun v d Hf1 H1 R1 s1 r1 q1 => ?_) kx
  refine e1 B ρ σ Hf1 H1 _ E' _ R1 q1 (fun i Hf2 H2 R2 s2 q2 => ?_) (kx.mono s1)
  refine e2 B ρ σ Hf2 H2 _ E' _ R2 q2 (fun j Hf3 H3 R3 s3 q3 => ?_) ((kx.mono s1).mono s2)
  have r3 := (r1.mono s2.sm).mono s3.sm
  cases r3 with
  | lst hx r =>
    exact ⟨_, _, rfl, SqL.of (R3.sm _ _ hx), fun p hp => k _ _ _ _ (R3.new hp) (((s1.trans s2).trans s3).trans (Nx.new R3.sm hp)) (.lst upd_same ((r.cut i j).mono (Same.new (R3.sm.free hp)))) q3⟩
  | _ => exact False.elim q3
theorem ev_ix (ha : Ev G X Wx a ga) (hb : Ev G X Wx b gb) (hK : X.K = G.K) (hs : PlainIx b) : Ev G X Wx (.Subscript a b pos) (bin2 ixD ga gb) := by
  obtain ⟨ta, pa, ea⟩ := ha.ex
  obtain ⟨tb, pb, eb⟩ := hb.ex
  exact ⟨_, pe_ix op_ix pa pb hs, evt_op (hK ▸ o_ix) ea eb⟩
def un1 (f : D → W D) (g : Env → W D) : Env → W D := fun ρ => do let x ← g ρ; f x
theorem ev_un {op : UnaryOp} {r : V → Hp → VK → Prop} {f : D → W D} (hr : UnR X (unaryOp op) r) (ho : Op1 G r f) (ha : Ev G X Wx a ga) : Ev G X Wx (.UnaryOp op a pos) (un1 f ga) := by
  obtain ⟨ta, pa, ea⟩ := ha.ex
  refine ⟨_, pe_un hr pa, ?_⟩
  intro B ρ σ Hf H Q' E' Q R q k kx
  refine ea B ρ σ Hf H _ E' _ R q (fun v d Hf1 H1 R1 s1 r1 q1 => ?_) kx
  exact ho B ρ σ Hf1 H1 v d Q' E' Q R1 r1 q1 fun w z Hf2 H2 R2 s2 r2 q2 => k w z Hf2 H2 R2 (s1.trans s2) r2 q2

/-! ### calls of built-ins -/
def callN (f : List D → W D) (g : Env → W (List D)) : Env → W D := fun ρ => do let xs ← g ρ; f xs
theorem evt_call {r : List V → Hp → VK → Prop} {f : List D → W D} {t : TA} {gs : Env → W (List D)} (ho : OpN G r f) (ha : EaT G Wx t gs) : EvT G Wx (tCB r t) (callN f gs) := by
  intro B ρ σ Hf H Q' E' Q R q k kx
  refine ha B ρ σ Hf H _ E' _ R q (fun vs ds Hf1 H1 R1 s1 r1 q1 => ?_) kx
  exact ho B ρ σ Hf1 H1 vs ds Q' E' Q R1 r1 q1 fun w z Hf2 H2 R2 s2 r2 q2 => k w z Hf2 H2 R2 (s1.trans s2) r2 q2
theorem ev_callB {x : Str} {p : Pos} {id : String} {r : List V → Hp → VK → Prop} {f : List D → W D} {gs : Env → W (List D)} (hc : CallR X (.builtin id) r) (ho : OpN G r f) (hg : Gl X x) (hm : X.mg x = none) (hv : bootBuiltins x = some (.builtin id)) (ha : Ea G X Wx (e :: es) gs)
    (hn : x ≠ "__name__" := by decide) (hdb : (x == ("__debug__" : Str)) = false := by decide)
    (he : starEach (e :: es) X.env = (false, eval e X.env) :: starEach es X.env := by rfl) (hpl : (backTo pos (starEach es X.env)).any (·.1) = false := by rfl) : Ev G X Wx (.Call (.Name x p) (e :: es) [] pos) (callN f gs) := by
  obtain ⟨ta, pa, ea⟩ := ha.ex
  exact ⟨_, pe_callB hc hg hm hv pa hn hdb he hpl, evt_call ho ea⟩
theorem ev_callTy {x : Str} {p : Pos} {T : String} {r : List V → Hp → VK → Prop} {f : List D → W D} {gs : Env → W (List D)} (hc : CallR X (.type T) r) (ho : OpN G r f) (hg : Gl X x) (hm : X.mg x = none) (hv : bootBuiltins x = some (.type T)) (ha : Ea G X Wx (e :: es) gs)
    (hn : x ≠ "__name__" := by decide) (hdb : (x == ("__debug__" : Str)) = false := by decide)
    (he : starEach (e :: es) X.env = (false, eval e X.env) :: starEach es X.env := by rfl) (hpl : (backTo pos (starEach es X.env)).any (·.1) = false := by rfl) : Ev G X Wx (.Call (.Name x p) (e :: es) [] pos) (callN f gs) := by
  obtain ⟨ta, pa, ea⟩ := ha.ex
  exact ⟨_, pe_callTy hc hg hm hv pa hn hdb he hpl, evt_call ho ea⟩

def lenD : List D → W D
  | [.lst xs] => W.pure (.int xs.length)
  | [.tup xs] => W.pure (.int xs.length)
  | _ => W.fail
abbrev rLenX (K : PySem.W.Frag) : List V → Hp → VK → Prop := fun xs H Q => ∃ p ys, xs = [.ref p] ∧ (SqL K H p ys ∨ SqT K H p ys) ∧ Q (.int ys.length) H
theorem o_len : OpN G (rLenX G.K) lenD := by
  intro B ρ σ Hf H xs as Q' E' Q R r q k
  unfold lenD at q
  split at q
  · cases r with
    | cons r t =>
      cases t
      cases r with
      | lst h r =>
        exact ⟨_, _, rfl, .inl (SqL.of (R.sm _ _ h)), k _ _ Hf H R Nx.refl (by rw [r.length]; exact .int _) q⟩
  · cases r with
    | cons r t =>
      cases t
      cases r with
      | tup h r =>
        exact ⟨_, _, rfl, .inr (SqT.of (R.sm _ _ h)), k _ _ Hf H R Nx.refl (by rw [r.length]; exact .int _) q⟩
  · exact False.elim q
/-- a list of ints, of bools -/
def ints? : List D → Option (List Int)
  | [] => some []
  | .int i :: r => (ints? r).map (i :: ·)
  | _ :: _ => none
def bls? : List D → Option (List Bool)
  | [] => some []
  | .bl i :: r => (bls? r).map (i :: ·)
  | _ :: _ => none
theorem ints_of : ∀ {ds : List D} {ns : List Int}, ints? ds = some ns → ds = ns.map D.int
  | [], ns, e => by simp only [ints?, Option.some.injEq] at e; subst e; rfl
  | .int i :: r, ns, e => by
    simp only [ints?, Option.map_eq_some_iff] at e
    obtain ⟨ms, e, rfl⟩ := e
    rw [ints_of e]; rfl
  | .non :: r, ns, e => by simp [ints?] at e
  | .bl _ :: r, ns, e => by simp [ints?] at e
  | .str _ :: r, ns, e => by simp [ints?] at e
  | .lst _ :: r, ns, e => by simp [ints?] at e
  | .tup _ :: r, ns, e => by simp [ints?] at e
  | .ins _ _ :: r, ns, e => by simp [ints?] at e
theorem ints_map : ∀ ns : List Int, ints? (ns.map D.int) = some ns
  | [] => rfl
  | n :: ns => by simp only [List.map_cons, ints?, ints_map ns, Option.map_some]
theorem bls_of : ∀ {ds : List D} {ns : List Bool}, bls? ds = some ns → ds = ns.map D.bl
  | [], ns, e => by simp only [bls?, Option.some.injEq] at e; subst e; rfl
  | .bl i :: r, ns, e => by
    simp only [bls?, Option.map_eq_some_iff] at e
    obtain ⟨ms, e, rfl⟩ := e
    rw [bls_of e]; rfl
  | .non :: r, ns, e => by simp [bls?] at e
  | .int _ :: r, ns, e => by simp [bls?] at e
  | .str _ :: r, ns, e => by simp [bls?] at e
  | .lst _ :: r, ns, e => by simp [bls?] at e
  | .tup _ :: r, ns, e => by simp [bls?] at e
  | .ins _ _ :: r, ns, e => by simp [bls?] at e
theorem bls_map : ∀ ns : List Bool, bls? (ns.map D.bl) = some ns
  | [] => rfl
  | n :: ns => by simp only [List.map_cons, bls?, bls_map ns, Option.map_some]
def sumD (as : List D) : W D := fun Q _ => ∃ ns : List Int, as = [.lst (ns.map D.int)] ∧ Q (.int ns.sum)
theorem o_sum : OpN G (rSum G.K) sumD := by
  intro B ρ σ Hf H xs as Q' E' Q R r q k
  obtain ⟨ns, e, q⟩ := q
  subst e
  cases r with
  | cons r t =>
    cases t
    cases r with
    | lst h r =>
      have e := r.ints
      subst e
      exact ⟨_, ns, rfl, SqL.of (R.sm _ _ h), k _ _ Hf H R Nx.refl (.int _) q⟩
def allD (f : List Bool → Bool) (as : List D) : W D := fun Q _ => ∃ ns : List Bool, as = [.lst (ns.map D.bl)] ∧ Q (.bl (f ns))
theorem o_all : OpN G (rAll G.K) (allD fun bs => bs.all id) := by
  intro B ρ σ Hf H xs as Q' E' Q R r q k
  obtain ⟨ns, e, q⟩ := q
  subst e
  cases r with
  | cons r t =>
    cases t
    cases r with
    | lst h r =>
      have e := r.bls
      subst e
      exact ⟨_, ns, rfl, SqL.of (R.sm _ _ h), k _ _ Hf H R Nx.refl (.bl _) q⟩
theorem o_any : OpN G (rAny G.K) (allD fun bs => bs.any id) := by
  intro B ρ σ Hf H xs as Q' E' Q R r q k
  obtain ⟨ns, e, q⟩ := q
  subst e
  cases r with
  | cons r t =>
    cases t
    cases r with
    | lst h r =>
      have e := r.bls
      subst e
      exact ⟨_, ns, rfl, SqL.of (R.sm _ _ h), k _ _ Hf H R Nx.refl (.bl _) q⟩
def absD : List D → W D
  | [.int i] => W.pure (.int (if i < 0 then -i else i))
  | _ => W.fail
theorem o_abs : OpN G (fun xs H Q => ∃ i, xs = [.int i] ∧ Q (.int (if i < 0 then -i else i)) H) absD := by
  intro B ρ σ Hf H xs as Q' E' Q R r q k
  unfold absD at q
  split at q
  · cases r with
    | cons r t =>
      cases t
      cases r
      exact ⟨_, rfl, k _ _ Hf H R Nx.refl (.int _) q⟩
  · exact False.elim q
def max2D : List D → W D
  | [.int i, .int j] => W.pure (.int (if j > i then j else i))
  | _ => W.fail
def min2D : List D → W D
  | [.int i, .int j] => W.pure (.int (if j < i then j else i))
  | _ => W.fail
theorem o_max2 : OpN G (fun xs H Q => ∃ i j, xs = [.int i, .int j] ∧ Q (.int (if j > i then j else i)) H) max2D := by
  intro B ρ σ Hf H xs as Q' E' Q R r q k
  unfold max2D at q
  split at q
  · cases r with
    | cons r t =>
      cases t with
      | cons r' t =>
        cases t
        cases r
        cases r'
        exact ⟨_, _, rfl, k _ _ Hf H R Nx.refl (.int _) q⟩
  · exact False.elim q
theorem o_min2 : OpN G (fun xs H Q => ∃ i j, xs = [.int i, .int j] ∧ Q (.int (if j < i then j else i)) H) min2D := by
  intro B ρ σ Hf H xs as Q' E' Q R r q k
  unfold min2D at q
  split at q
  · cases r with
    | cons r t =>
      cases t with
      | cons r' t =>
        cases t
        cases r
        cases r'
        exact ⟨_, _, rfl, k _ _ Hf H R Nx.refl (.int _) q⟩
  · exact False.elim q
def intD : List D → W D
  | [.int i] => W.pure (.int i)
  | [.bl b] => W.pure (.int (if b then 1 else 0))
  | _ => W.fail
theorem o_int : OpN G (fun xs H Q => (∃ i, xs = [.int i] ∧ Q (.int i) H) ∨ ∃ k, xs = [.bl k] ∧ Q (.int (if k then 1 else 0)) H) intD := by
  intro B ρ σ Hf H xs as Q' E' Q R r q k
  unfold intD at q
  split at q
  · cases r with
    | cons r t =>
      cases t
      cases r
      exact .inl ⟨_, rfl, k _ _ Hf H R Nx.refl (.int _) q⟩
  · cases r with
    | cons r t =>
      cases t
      cases r
      exact .inr ⟨_, rfl, k _ _ Hf H R Nx.refl (.int _) q⟩
  · exact False.elim q
def listD : List D → W D
  | [.lst xs] => W.pure (.lst xs)
  | [.tup xs] => W.pure (.lst xs)
  | _ => W.fail
theorem o_list : OpN G (fun xs H Q => ∃ p ys, xs = [.ref p] ∧ (SqL G.K H p ys ∨ SqT G.K H p ys) ∧ ∀ l, H l = none → Q (.ref l) (upd H l (.lst ys))) listD := by
  intro B ρ σ Hf H xs as Q' E' Q R r q k
  unfold listD at q
  split at q
  · cases r with
    | cons r t =>
      cases t
      cases r with
      | lst h r => exact ⟨_, _, rfl, .inl (SqL.of (R.sm _ _ h)), fun p hp => k _ _ _ _ (R.new hp) (Nx.new R.sm hp) (.lst upd_same (r.mono (Same.new (R.sm.free hp)))) q⟩
  · cases r with
    | cons r t =>
      cases t
      cases r with
      | tup h r => exact ⟨_, _, rfl, .inr (SqT.of (R.sm _ _ h)), fun p hp => k _ _ _ _ (R.new hp) (Nx.new R.sm hp) (.lst upd_same (r.mono (Same.new (R.sm.free hp)))) q⟩
  · exact False.elim q
def tupleD : List D → W D
  | [.lst xs] => W.pure (.tup xs)
  | [.tup xs] => W.pure (.tup xs)
  | _ => W.fail
theorem o_tuple : OpN G (fun xs H Q => ∃ p ys, xs = [.ref p] ∧ ((SqL G.K H p ys ∧ ∀ l, H l = none → Q (.ref l) (upd H l (.tup ys))) ∨ (SqT G.K H p ys ∧ Q (.ref p) H))) tupleD := by
  intro B ρ σ Hf H xs as Q' E' Q R r q k
  unfold tupleD at q
  split at q
  · cases r with
    | cons r t =>
      cases t
      cases r with
      | lst h r => exact ⟨_, _, rfl, .inl ⟨SqL.of (R.sm _ _ h), fun p hp => k _ _ _ _ (R.new hp) (Nx.new R.sm hp) (.tup upd_same (r.mono (Same.new (R.sm.free hp)))) q⟩⟩
  · cases r with
    | cons r t =>
      cases t
      cases r with
      | tup h r => exact ⟨_, _, rfl, .inr ⟨SqT.of (R.sm _ _ h), k _ _ Hf H R Nx.refl (.tup h r) q⟩⟩
  · exact False.elim q
/-- isinstance(x, T), T a built-in type -/
def tyD : D → Option String
  | .non => some "NoneType" | .bl _ => some "bool" | .int _ => some "int" | .str _ => some "str" | .lst _ => some "list" | .tup _ => some "tuple" | .ins _ _ => none
def isiD (T : String) (d : D) : W D := fun Q _ => ∃ t b, tyD d = some t ∧ kitB t T = some b ∧ Q (.bl b)
theorem Rp.ty {K : PySem.W.Frag} {cn : Nat → Addr} {H : Hp} {v : V} {d : D} {t : String} (r : Rp cn H v d) (e : tyD d = some t) : TyX K H v (.type t) := by
  cases r <;> simp only [tyD, Option.some.injEq, reduceCtorEq] at e <;> subst e
  · exact .base .non
  · exact .base (.bl _)
  · exact .base (.int _)
  · exact .base (.str _)
  · exact .base (.lst (by assumption))
  · exact .base (.tup (by assumption))
theorem Rp.same {cn : Nat → Addr} {H H' : Hp} {v : V} {d : D} (r : Rp cn H v d) (s : Same H H') : Rp cn H' v d := r.mono s
theorem ev_isi {T : String} {p : Pos} {te : Expr} (hT : PE X te (tC (.ty T))) (ha : Ev G X Wx e g) (hK : X.K = G.K) (hg : Gl X "isinstance") (hm : X.mg "isinstance" = none)
    (he : starEach (e :: [te]) X.env = (false, eval e X.env) :: starEach [te] X.env := by rfl) (he2 : starEach (te :: []) X.env = (false, eval te X.env) :: starEach [] X.env := by rfl) (hpl : (backTo pos (starEach [te] X.env)).any (·.1) = false := by rfl) :
    Ev G X Wx (.Call (.Name "isinstance" p) [e, te] [] pos) (un1 (isiD T) g) := by
  obtain ⟨ta, pa, ea⟩ := ha.ex
  refine ⟨_, pe_callB call_isi hg hm (by decide +kernel) (pa_cons pa (pa_cons hT pa_nil he2) he) (by decide) (by decide) he hpl, ?_⟩
  intro B ρ σ Hf H Q' E' Q R q k kx
  refine ea B ρ σ Hf H _ E' _ R q (fun v d Hf1 H1 R1 s1 r1 q1 => ?_) kx
  obtain ⟨t, b, e1, e2, q1⟩ := q1
  exact ⟨v, .ty T, .type t, .type T, b, rfl, .ty T, (r1.same R1.sm).ty e1, kit_ty e2, k _ _ Hf1 H1 R1 s1 (.bl b) q1⟩
/-- star in a display -/
theorem ea_star {gs : Env → W (List D)} {p : Pos} (h : Ev G X Wx e g) (hr : Ea G X Wx es gs) (hs : starEach (.Starred e p :: es) X.env = (true, eval e X.env) :: starEach es X.env := by rfl) : Ea G X Wx (.Starred e p :: es) (starA g gs) := by
  obtain ⟨ta, pa, ea⟩ := h.ex
  obtain ⟨tb, pb, eb⟩ := hr.ex
  refine ⟨_, StX.pa_star pa pb hs, ?_⟩
  intro B ρ σ Hf H Q' E' Q R q k kx
  refine ea B ρ σ Hf H _ E' _ R q (fun v d Hf1 H1 R1 s1 r1 q1 => ?_) kx
  cases r1 with
  | lst h r =>
    refine ⟨_, _, rfl, .inr (SqL.of (R1.sm _ _ h)), ?_⟩
    exact eb B ρ σ Hf1 H1 _ E' _ R1 q1 (fun vs ds Hf2 H2 R2 s2 r2 q2 => k _ _ Hf2 H2 R2 (s1.trans s2) ((r.mono s2.sm).append r2) q2) (kx.mono s1)
  | tup h r =>
    refine ⟨_, _, rfl, .inl (SqT.of (R1.sm _ _ h)), ?_⟩
    exact eb B ρ σ Hf1 H1 _ E' _ R1 q1 (fun vs ds Hf2 H2 R2 s2 r2 q2 => k _ _ Hf2 H2 R2 (s1.trans s2) ((r.mono s2.sm).append r2) q2) (kx.mono s1)
  | _ => exact False.elim q1
/-- a field of an instance -/
def fldD (f : Str) : D → W D
  | .ins C fs => fun Q _ => ∃ d, fs.lookup f = some d ∧ Q d
  | _ => W.fail
theorem ev_fld {f : Str} {C : Nat} (ha : Ev G X Wx e g) (hC : Cls X.K (G.cn C)) (hN : NoAttr X.K (G.cn C) f) (hb : attributeBase e f X.env (eval e X.env) = eval e X.env) :
    Ev G X Wx (.Attribute e f pos) (un1 (fun d => W.need (∃ fs, d = .ins C fs) (fldD f d)) g) := by
  obtain ⟨ta, pa, ea⟩ := ha.ex
  refine ⟨_, pe_fld pa hb, ?_⟩
  intro B ρ σ Hf H Q' E' Q R q k kx
  refine ea B ρ σ Hf H _ E' _ R q (fun v d Hf1 H1 R1 s1 r1 q1 => ?_) kx
  obtain ⟨⟨fs, rfl⟩, q1⟩ := q1
  obtain ⟨d, e1, q1⟩ := q1
  cases r1 with
  | ins h r =>
    obtain ⟨w, e2, r2⟩ := r.lookup e1
    exact ⟨_, _, _, _, w, rfl, R1.sm _ _ h, hC, hN, e2, k _ _ Hf1 H1 R1 s1 r2 q1⟩
end
end PL

set_option Elab.async false
set_option linter.all false
set_option maxRecDepth 100000
set_option maxHeartbeats 2000000
namespace PL
open PySem L2

def wipeE (ρ : Env) : List Nat → Env
  | [] => ρ
  | v :: vs => (wipeE ρ vs).set v .un
def okW (ρ : Env) (vs : List Nat) : Bool := vs.all fun i => match ρ[i]? with | some s => !s.own | none => true
structure Agree (vs : List Nat) (ρ : Env) (σ : St) (ρ2 : Env) (σ2 : St) : Prop where
  lr : ρ2.length = ρ.length
  ls : σ2.length = σ.length
  out : ∀ i : Nat, i ∉ vs → ρ2[i]? = ρ[i]? ∧ σ2[i]? = σ[i]?
  ins : ∀ i ∈ vs, ∀ s, ρ2[i]? = some s → s.own = false
theorem wipe_get {σ : St} {i : Nat} : ∀ {vs : List Nat}, (wipe σ vs)[i]? = if i ∈ vs then (if i < σ.length then some none else none) else σ[i]?
  | [] => by simp [wipe]
  | v :: vs => by
    have ih := wipe_get (σ := σ) (i := i) (vs := vs)
    unfold wipe
    by_cases h : v = i
    · subst h
      by_cases hl : v < σ.length
      · rw [List.getElem?_set_self (by rw [wipe_length]; exact hl)]; simp [hl]
      · rw [List.getElem?_eq_none (by rw [List.length_set, wipe_length]; omega)]; simp [hl]
    · rw [List.getElem?_set_ne h, ih]
      have h2 : i ≠ v := fun z => h z.symm
      simp [h2]
theorem wipeE_len (ρ : Env) : ∀ vs : List Nat, (wipeE ρ vs).length = ρ.length
  | [] => rfl
  | v :: vs => by unfold wipeE; rw [List.length_set, wipeE_len ρ vs]
theorem wipeE_get {ρ : Env} {i : Nat} : ∀ {vs : List Nat}, (wipeE ρ vs)[i]? = if i ∈ vs then (if i < ρ.length then some Sl.un else none) else ρ[i]?
  | [] => by simp [wipeE]
  | v :: vs => by
    have ih := wipeE_get (ρ := ρ) (i := i) (vs := vs)
    unfold wipeE
    by_cases h : v = i
    · subst h
      by_cases hl : v < ρ.length
      · rw [List.getElem?_set_self (by rw [wipeE_len]; exact hl)]; simp [hl]
      · rw [List.getElem?_eq_none (by rw [List.length_set, wipeE_len]; omega)]; simp [hl]
    · rw [List.getElem?_set_ne h, ih]
      have h2 : i ≠ v := fun z => h z.symm
      simp [h2]
theorem Agree.wipe {vs ws : List Nat} {ρ : Env} {σ : St} {ρ2 : Env} {σ2 : St} (a : Agree vs ρ σ ρ2 σ2) (h : ∀ i ∈ vs, i ∈ ws) : L2.wipe σ2 ws = L2.wipe σ ws := by
  apply List.ext_getElem?
  intro i
  rw [wipe_get, wipe_get, a.ls]
  by_cases hi : i ∈ ws
  · simp [hi]
  · rw [if_neg hi, if_neg hi]; exact (a.out i fun z => hi (h i z)).2
theorem Agree.trans {vs ws : List Nat} {ρ ρ2 ρ3 : Env} {σ σ2 σ3 : St} (a : Agree vs ρ σ ρ2 σ2) (b : Agree ws ρ2 σ2 ρ3 σ3) : Agree (vs ++ ws) ρ σ ρ3 σ3 :=
  ⟨b.lr.trans a.lr, b.ls.trans a.ls, fun i hi => by
    simp only [List.mem_append, not_or] at hi
    obtain ⟨h1, h2⟩ := a.out i hi.1
    obtain ⟨h3, h4⟩ := b.out i hi.2
    exact ⟨h3.trans h1, h4.trans h2⟩, fun i hi => by
    by_cases hw : i ∈ ws
    · exact b.ins i hw
    · have hv : i ∈ vs := (List.mem_append.mp hi).resolve_right hw
      rw [(b.out i hw).1]
      exact a.ins i hv⟩
section
variable {G : Ctx} {B : Bs} {ρ ρ2 : Env} {σ σ2 : St} {Hf H Hf' H' : Hp}
/-- a slot that owns nothing is given -/
theorem Rep.setSl {i : Nat} {s : Sl} {x : Option V} (R : Rep G B ρ σ Hf H) (hs : i < ρ.length → SlR G B (some x) Hf H s) (hn : s.own = false) : Rep G B (ρ.set i s) (σ.set i x) Hf H := by
  refine ⟨by simp [R.len], R.sm, R.sm0, R.unf, R.kp, R.pl, R.p0, fun j u e => ?_, fun j l p u u' ne e1 ku e2 k e3 e4 => ?_⟩
  · by_cases h : i = j
    · subst h
      have hl : i < ρ.length := by
        have := (List.getElem?_eq_some_iff.mp e).1
        simpa using this
      rw [List.getElem?_set_self hl] at e
      cases e
      rw [List.getElem?_set_self (by rw [R.len]; exact hl)]
      exact hs hl
    · rw [List.getElem?_set_ne h] at e ⊢
      exact R.sl j u e
  · have aux : ∀ {j : Nat} {u : Sl}, (ρ.set i s)[j]? = some u → u.own = true → i ≠ j ∧ ρ[j]? = some u := fun {j u} e k => by
      by_cases h : i = j
      · subst h
        have hl : i < ρ.length := by
          have := (List.getElem?_eq_some_iff.mp e).1
          simpa using this
        rw [List.getElem?_set_self hl] at e
        cases e
        rw [hn] at k; cases k
      · rw [List.getElem?_set_ne h] at e
        exact ⟨h, e⟩
    obtain ⟨n1, e1'⟩ := aux e1 (by cases u <;> first | rfl | cases ku)
    obtain ⟨n2, e2'⟩ := aux e2 k
    rw [List.getElem?_set_ne n1] at e3
    rw [List.getElem?_set_ne n2] at e4
    exact R.ds j l p u u' ne e1' ku e2' k e3 e4
theorem Rep.set {i : Nat} {v : V} {d : D} (R : Rep G B ρ σ Hf H) (r : Rp G.cn Hf v d) : Rep G B (ρ.set i (.fz d)) (σ.set i (some v)) Hf H :=
  R.setSl (fun _ => ⟨v, rfl, r⟩) rfl
theorem Rep.wiped (R : Rep G B ρ σ Hf H) : ∀ vs : List Nat, Rep G B (wipeE ρ vs) (L2.wipe σ vs) Hf H
  | [] => R
  | v :: vs => (Rep.wiped R vs).setSl (fun _ => trivial) rfl
/-- from a block's state back to the def's -/
theorem Rep.back (R : Rep G B ρ σ Hf H) (R2 : Rep G B ρ2 σ2 Hf' H') (n : Nx ρ σ Hf H Hf' H') (hp : ∀ i : Nat, ρ[i]? = some .pool → ρ2[i]? = some .pool ∧ σ2[i]? = σ[i]?) : Rep G B ρ σ Hf' H' := by
  refine ⟨R.len, R2.sm, R2.sm0, R2.unf, R2.kp, R2.pl, R2.p0, fun i s e => ?_, R.ds⟩
  have q := R.sl i s e
  cases s with
  | un => trivial
  | fz d => obtain ⟨x, e1, r⟩ := q; exact ⟨x, e1, r.mono n.sm⟩
  | ow ds =>
    obtain ⟨a, vs, e1, h1, h2, h3, r⟩ := q
    obtain ⟨n1, o', e2, q2⟩ := n.kp a _ h3 h1
    have : o' = .lst vs := q2 fun ⟨j, z1, z2⟩ => by
      by_cases hj : i = j
      · subst hj; rw [e] at z1; cases z1
      · exact R.ds i j a _ _ hj e rfl z1 rfl e1 z2
    subst this
    exact ⟨a, vs, e1, n1, h2, e2, r.mono n.sm⟩
  | pool =>
    obtain ⟨a, e1, h1, h2, h3⟩ := q
    obtain ⟨z1, z2⟩ := hp i e
    obtain ⟨a', e1', h1', _, h3'⟩ := R2.sl i _ z1
    rw [z2, e1] at e1'
    cases e1'
    exact ⟨a, e1, h1', h2, h3'⟩
  | scr ns => obtain ⟨a, e1, h1⟩ := q; exact ⟨a, e1, n.sm.seq h1⟩
  | oi a dx C fs =>
    obtain ⟨gs, e1, h1, h2, h3, r⟩ := q
    obtain ⟨n1, o', e2, q2⟩ := n.kp a _ h3 h1
    have : o' = .ins (G.cn C) dx gs := q2 fun ⟨j, z1, z2⟩ => by
      by_cases hj : i = j
      · subst hj; rw [e] at z1; cases z1
      · exact R.ds i j a _ _ hj e rfl z1 rfl e1 z2
    subst this
    exact ⟨gs, e1, n1, h2, e2, r.mono n.sm⟩
theorem Nx.weak (n : Nx ρ2 σ2 Hf H Hf' H') (h : ∀ b, IsPool ρ2 σ2 b → IsPool ρ σ b) : Nx ρ σ Hf H Hf' H' :=
  ⟨n.sm, fun b o e z => by
    obtain ⟨n1, o', e2, q⟩ := n.kp b o e z
    exact ⟨n1, o', e2, fun k => q fun w => k (h b w)⟩⟩
/-- an object of no one's is changed -/
theorem Rep.other {p : Addr} {o : HO} (R : Rep G B ρ σ Hf H) (hf : Hf p = none) (hb : B.H p = none) (hn : ∀ (i : Nat) (s : Sl), ρ[i]? = some s → s.own = true → σ[i]? ≠ some (some (.ref p))) : Rep G B ρ σ Hf (upd H p o) := by
  refine ⟨R.len, fun b u e => ?_, R.sm0, R.unf, fun b u e n => ?_, fun b hb' => ?_, R.p0, fun i s e => ?_, R.ds⟩
  · rw [upd_ne (ne_of_none e hf)]; exact R.sm _ _ e
  · rw [upd_ne (ne_of_none e hb)]; exact R.kp b u e n
  · obtain ⟨h1, vs, q, r⟩ := R.pl b hb'
    have : b ≠ p := fun z => (R.p0 b hb').1 (by rw [z]; exact hb)
    exact ⟨h1, vs, by rw [upd_ne this]; exact q, r⟩
  · have q := R.sl i s e
    cases s with
    | un => trivial
    | fz d => exact q
    | ow ds =>
      obtain ⟨a, vs, e1, h1, h2, h3, r⟩ := q
      have : a ≠ p := fun z => hn i _ e rfl (by rw [← z]; exact e1)
      exact ⟨a, vs, e1, h1, h2, by rw [upd_ne this]; exact h3, r⟩
    | pool =>
      obtain ⟨a, e1, h1, h2, vs, h3, r⟩ := q
      have : a ≠ p := fun z => hn i _ e rfl (by rw [← z]; exact e1)
      exact ⟨a, e1, h1, h2, vs, by rw [upd_ne this]; exact h3, r⟩
    | scr ns => exact q
    | oi a dx C fs =>
      obtain ⟨gs, e1, h1, h2, h3, r⟩ := q
      have : a ≠ p := fun z => hn i _ e rfl (by rw [← z]; exact e1)
      exact ⟨gs, e1, h1, h2, by rw [upd_ne this]; exact h3, r⟩
/-- what was not there is of no one's -/
theorem Rep.freeB {p : Addr} (R : Rep G B ρ σ Hf H) (hp : H p = none) : B.H p = none := by
  cases e : B.H p with
  | none => rfl
  | some o =>
    by_cases h : B.P p
    · obtain ⟨_, vs, q, _⟩ := R.pl p h
      rw [hp] at q; cases q
    · rw [R.kp p o e h] at hp; cases hp
theorem Rep.freeS {p : Addr} (R : Rep G B ρ σ Hf H) (hp : H p = none) : ∀ (i : Nat) (s : Sl), ρ[i]? = some s → s.own = true → σ[i]? ≠ some (some (.ref p)) := fun i s e k z => by
  have q := R.sl i s e
  cases s with
  | pool =>
    obtain ⟨a, e1, _, _, vs, h3, _⟩ := q
    rw [z] at e1; cases e1; rw [hp] at h3; cases h3
  | ow es =>
    obtain ⟨a, vs, e1, _, _, h3, _⟩ := q
    rw [z] at e1; cases e1; rw [hp] at h3; cases h3
  | oi a dx C fs =>
    obtain ⟨gs, e1, _, _, h3, _⟩ := q
    rw [z] at e1; cases e1; rw [hp] at h3; cases h3
  | _ => cases k
end

/-! ### targets -/
def EgT (G : Ctx) (t : TG) (sl : List Nat) (g : D → Env → W Env) : Prop :=
  ∀ (B : Bs) (ρ : Env) (σ : St) (Hf H : Hp) (v : V) (d : D) (Q' : Env → Prop) (E' : Xc → Prop) (Q : St → Hp → Prop), Rep G B ρ σ Hf H → Rp G.cn Hf v d → g d ρ Q' E' →
    (∀ ρ' σ', Rep G B ρ' σ' Hf H → Agree sl ρ σ ρ' σ' → Q' ρ' → Q σ' H) → t v σ H Q
structure Eg (G : Ctx) (X : Cx) (tg : Expr) (sl : List Nat) (g : D → Env → W Env) : Prop where
  ex : ∃ t, PG X tg t ∧ EgT G t sl g
def EgsT (G : Ctx) (t : TGs) (sl : List Nat) (g : List D → Env → W Env) : Prop :=
  ∀ (B : Bs) (ρ : Env) (σ : St) (Hf H : Hp) (vs : List V) (ds : List D) (Q' : Env → Prop) (E' : Xc → Prop) (Q : St → Hp → Prop), Rep G B ρ σ Hf H → Rps G.cn Hf vs ds → g ds ρ Q' E' →
    (∀ ρ' σ', Rep G B ρ' σ' Hf H → Agree sl ρ σ ρ' σ' → Q' ρ' → Q σ' H) → t vs σ H Q
structure Egs (G : Ctx) (X : Cx) (tgs : List Expr) (sl : List Nat) (g : List D → Env → W Env) : Prop where
  ex : ∃ t, PGs X tgs t ∧ EgsT G t sl g
def nameG (i : Nat) : D → Env → W Env := fun d ρ => W.pure (ρ.set i (.fz d))
def nilG : List D → Env → W Env := fun ds ρ => W.need (ds = []) (W.pure ρ)
def consG (f : D → Env → W Env) (g : List D → Env → W Env) : List D → Env → W Env := fun ds ρ => match ds with
  | [] => W.fail
  | d :: r => do let ρ1 ← f d ρ; g r ρ1
def tupG (n : Nat) (g : List D → Env → W Env) : D → Env → W Env := fun d ρ => match d with
  | .tup ds => W.need (ds.length = n) (g ds ρ)
  | _ => W.fail
section
variable {G : Ctx} {X : Cx} {Wx : WX} {a b c e tg iter : Expr} {es ts : List Expr} {ga gb gc g : Env → W D} {pos : Pos}
theorem eg_name {i : Nat} {x : Str} (h : PG X (.Name x pos) (gName i)) : Eg G X (.Name x pos) [i] (nameG i) := by
  refine ⟨_, h, ?_⟩
  intro B ρ σ Hf H v d Q' E' Q R r q k
  refine k _ _ (R.set r) ⟨by simp, by simp, fun j hj => ?_, fun j hj => ?_⟩ q
  · have : i ≠ j := fun z => hj (by simp [z])
    exact ⟨List.getElem?_set_ne this, List.getElem?_set_ne this⟩
  · have : j = i := by simpa using hj
    subst this
    by_cases hl : j < ρ.length
    · rw [List.getElem?_set_self hl]; intro s e; cases e; rfl
    · rw [List.getElem?_eq_none (by simpa using hl)]; intro s e; cases e
theorem egs_nil : Egs G X [] [] nilG := by
  refine ⟨_, pgs_nil, ?_⟩
  intro B ρ σ Hf H vs ds Q' E' Q R r q k
  obtain ⟨e, q⟩ := q
  subst e
  cases r
  exact ⟨rfl, k ρ σ R ⟨rfl, rfl, fun i _ => ⟨rfl, rfl⟩, fun i hi => by simp at hi⟩ q⟩
theorem egs_cons {sl sr : List Nat} {f : D → Env → W Env} {gs : List D → Env → W Env} (h : Eg G X e sl f) (hr : Egs G X es sr gs)
    (hs : (assignEach (e :: es) X.env).map (·.2) = assign e X.env :: (assignEach es X.env).map (·.2) := by rfl) : Egs G X (e :: es) (sl ++ sr) (consG f gs) := by
  obtain ⟨t, p, ev⟩ := h.ex
  obtain ⟨t2, p2, ev2⟩ := hr.ex
  refine ⟨_, pgs_cons p p2 hs, ?_⟩
  intro B ρ σ Hf H vs ds Q' E' Q R r q k
  cases r with
  | nil => exact False.elim q
  | cons r rr =>
    refine ⟨_, _, rfl, ?_⟩
    refine ev B ρ σ Hf H _ _ _ E' _ R r q fun ρ1 σ1 R1 a1 q1 => ?_
    exact ev2 B ρ1 σ1 Hf H _ _ Q' E' Q R1 rr q1 fun ρ2 σ2 R2 a2 q2 => k ρ2 σ2 R2 (a1.trans a2) q2
theorem eg_tup {k n : Nat} {sl : List Nat} {gs : List D → Env → W Env} (hc : X.calm = true) (h : Egs G X es sl gs) (hK : X.K = G.K)
    (hn : (assignEach es X.env).length = n := by rfl) (hst : (assignEach es X.env).findIdx? (·.1) = none := by rfl) : Eg G X (.Tuple es k pos) sl (tupG n gs) := by
  obtain ⟨t, p, ev⟩ := h.ex
  refine ⟨_, pg_tup hc p hn hst, ?_⟩
  intro B ρ σ Hf H v d Q' E' Q R r q k
  cases r with
  | tup hx r =>
    obtain ⟨hl, q⟩ := q
    exact ⟨_, _, rfl, SqT.of (R.sm _ _ hx), by rw [r.length]; exact hl, ev B ρ σ Hf H _ _ Q' E' Q R r q k⟩
  | _ => exact False.elim q

/-! ### what is walked -/
structure Wk (G : Ctx) (J : It) (Hf : Hp) (ds : List D) : Prop where
  go : ∀ i H, Same Hf H → i < ds.length → J.go i H
  stop : ∀ H, Same Hf H → J.stop ds.length H
  yld : ∀ (i : Nat) H x H' d, Same Hf H → ds[i]? = some d → J.yld i H x H' → ∀ Hf2, Same Hf Hf2 → Same Hf2 H →
    ∃ Hf3, Rp G.cn Hf3 x d ∧ ((H' = H ∧ Hf3 = Hf2) ∨ ∃ T o, H T = none ∧ H' = upd H T o ∧ Hf3 = upd Hf2 T o)
theorem Wk.step {J : It} {Hf : Hp} {ds : List D} (w : Wk G J Hf ds) {i : Nat} {H H' Hf2 : Hp} {x : V} {d : D} {B : Bs} {ρ : Env} {σ : St} (s : Same Hf Hf2) (R : Rep G B ρ σ Hf2 H) (e : ds[i]? = some d) (y : J.yld i H x H') :
    ∃ Hf3, Rep G B ρ σ Hf3 H' ∧ Nx ρ σ Hf2 H Hf3 H' ∧ Rp G.cn Hf3 x d := by
  obtain ⟨Hf3, r, h | ⟨T, o, h1, h2, h3⟩⟩ := w.yld i H x H' d (s.trans R.sm) e y Hf2 s R.sm
  · obtain ⟨rfl, rfl⟩ := h
    exact ⟨_, R, Nx.refl, r⟩
  · subst h2 h3
    exact ⟨_, R.new h1, Nx.new R.sm h1, r⟩
def EiT (G : Ctx) (Wx : WX) (wi : TI) (g : Env → W (List D)) : Prop :=
  ∀ (B : Bs) (ρ : Env) (σ : St) (Hf H : Hp) (Q' : List D → Prop) (E' : Xc → Prop) (Q : It → Hp → Prop), Rep G B ρ σ Hf H → g ρ Q' E' →
    (∀ J ds Hf' H', Rep G B ρ σ Hf' H' → Nx ρ σ Hf H Hf' H' → Wk G J Hf' ds → Q' ds → Q J H') → XPost G Wx σ Hf H B ρ E' → wi σ H Q
structure Ei (G : Ctx) (X : Cx) (Wx : WX) (tg iter : Expr) (g : Env → W (List D)) : Prop where
  ex : ∃ wi, PI X tg iter wi ∧ EiT G Wx wi g
def lstI (g : Env → W D) : Env → W (List D) := fun ρ => do let d ← g ρ; (match d with | .lst ds => W.pure ds | _ => W.fail)
def tupI (g : Env → W D) : Env → W (List D) := fun ρ => do let d ← g ρ; (match d with | .tup ds => W.pure ds | _ => W.fail)
theorem wk_list {Hf : Hp} {a : Addr} {vs : List V} {ds : List D} (h : Hf a = some (.lst vs)) (r : Rps G.cn Hf vs ds) : Wk G (Itl G.K a) Hf ds where
  go := fun i H s hi => by
    obtain ⟨v, e, _⟩ := r.get (i := i) (d := ds[i]) (by simp [hi])
    exact ⟨vs, v, SqL.of (s _ _ h), e⟩
  stop := fun H s => ⟨vs, SqL.of (s _ _ h), by rw [r.length]; exact Nat.le_refl _⟩
  yld := fun i H x H' d s e y Hf2 s1 s2 => by
    obtain ⟨rfl, y⟩ := y
    obtain ⟨v, e1, r1⟩ := r.get e
    have e2 := y vs (SqL.of (s _ _ h))
    rw [e1] at e2
    cases e2
    exact ⟨Hf2, r1.mono s1, .inl ⟨rfl, rfl⟩⟩
theorem wk_tup {Hf : Hp} {a : Addr} {vs : List V} {ds : List D} (h : Hf a = some (.tup vs)) (r : Rps G.cn Hf vs ds) : Wk G (Itt G.K a) Hf ds where
  go := fun i H s hi => by
    obtain ⟨v, e, _⟩ := r.get (i := i) (d := ds[i]) (by simp [hi])
    exact ⟨vs, v, SqT.of (s _ _ h), e⟩
  stop := fun H s => ⟨vs, SqT.of (s _ _ h), by rw [r.length]; exact Nat.le_refl _⟩
  yld := fun i H x H' d s e y Hf2 s1 s2 => by
    obtain ⟨rfl, y⟩ := y
    obtain ⟨v, e1, r1⟩ := r.get e
    have e2 := y vs (SqT.of (s _ _ h))
    rw [e1] at e2
    cases e2
    exact ⟨Hf2, r1.mono s1, .inl ⟨rfl, rfl⟩⟩
theorem wk_zip {Hf : Hp} {a b : Addr} {vs us : List V} {ds es : List D} (h : Hf a = some (.lst vs)) (r : Rps G.cn Hf vs ds) (h' : Hf b = some (.lst us)) (r' : Rps G.cn Hf us es) : Wk G (Itz G.K a b) Hf (List.zipWith (fun x y => D.tup [x, y]) ds es) where
  go := fun i H s hi => by
    rw [List.length_zipWith] at hi
    obtain ⟨v, e, _⟩ := r.get (i := i) (d := ds[i]) (List.getElem?_eq_getElem (by omega))
    obtain ⟨u, e', _⟩ := r'.get (i := i) (d := es[i]) (List.getElem?_eq_getElem (by omega))
    exact ⟨vs, us, v, u, SqL.of (s _ _ h), SqL.of (s _ _ h'), e, e'⟩
  stop := fun H s => ⟨vs, us, SqL.of (s _ _ h), SqL.of (s _ _ h'), by rw [List.length_zipWith, r.length, r'.length]; omega⟩
  yld := fun i H x H' d s e y Hf2 s1 s2 => by
    obtain ⟨T, v, u, rfl, hT, rfl, y1, y2⟩ := y
    have e1 := y1 vs (SqL.of (s _ _ h))
    have e2 := y2 us (SqL.of (s _ _ h'))
    obtain ⟨d1, f1, r1⟩ := r.getV e1
    obtain ⟨d2, f2, r2⟩ := r'.getV e2
    rw [List.getElem?_zipWith, f1, f2] at e
    cases e
    have s3 : Same Hf (upd Hf2 T (.tup [v, u])) := s1.trans (Same.new (s2.free hT))
    exact ⟨_, .tup upd_same (.cons (r1.mono s3) (.cons (r2.mono s3) .nil)), .inr ⟨T, _, hT, rfl, rfl⟩⟩
theorem wk_enum {Hf : Hp} {a : Addr} {vs : List V} {ds : List D} (h : Hf a = some (.lst vs)) (r : Rps G.cn Hf vs ds) : Wk G (Ite G.K a) Hf (ds.zipIdx.map fun p => D.tup [.int (p.2 : Nat), p.1]) where
  go := fun i H s hi => by
    rw [List.length_map, List.length_zipIdx] at hi
    obtain ⟨v, e, _⟩ := r.get (i := i) (d := ds[i]) (by simp [hi])
    exact ⟨vs, v, SqL.of (s _ _ h), e⟩
  stop := fun H s => ⟨vs, SqL.of (s _ _ h), by rw [List.length_map, List.length_zipIdx, r.length]; omega⟩
  yld := fun i H x H' d s e y Hf2 s1 s2 => by
    obtain ⟨T, v, rfl, hT, rfl, y1⟩ := y
    have e1 := y1 vs (SqL.of (s _ _ h))
    obtain ⟨d1, f1, r1⟩ := r.getV e1
    rw [List.getElem?_map, List.getElem?_zipIdx, f1] at e
    simp only [Option.map_some, Nat.zero_add, Option.some.injEq] at e
    subst e
    have s3 : Same Hf (upd Hf2 T (.tup [.int (i : Nat), v])) := s1.trans (Same.new (s2.free hT))
    exact ⟨_, .tup upd_same (.cons (.int _) (.cons (r1.mono s3) .nil)), .inr ⟨T, _, hT, rfl, rfl⟩⟩
theorem wk_range {Hf : Hp} {lo : Int} {n : Nat} : Wk G (Itr lo n) Hf ((List.range n).map fun k => D.int (lo + (k : Nat))) where
  go := fun i H s hi => by show i < n; simpa using hi
  stop := fun H s => by show n ≤ _; simp
  yld := fun i H x H' d s e y Hf2 s1 s2 => by
    obtain ⟨rfl, rfl⟩ := y
    rw [List.getElem?_map] at e
    by_cases hi : i < n
    · rw [List.getElem?_range hi] at e
      cases e
      exact ⟨Hf2, .int _, .inl ⟨rfl, rfl⟩⟩
    · rw [List.getElem?_eq_none (by simpa using hi)] at e
      cases e
theorem ei_list (h : Ev G X Wx iter g) (hK : X.K = G.K) : Ei G X Wx tg iter (lstI g) := by
  obtain ⟨t, p, ev⟩ := h.ex
  refine ⟨_, pi_list p, ?_⟩
  intro B ρ σ Hf H Q' E' Q R q k kx
  refine ev B ρ σ Hf H _ E' _ R q (fun v d Hf1 H1 R1 s1 r1 q1 => ?_) kx
  cases r1 with
  | lst hx r => exact ⟨_, rfl, ⟨_, SqL.of (R1.sm _ _ hx)⟩, k _ _ Hf1 H1 R1 s1 (hK ▸ wk_list hx r) q1⟩
  | _ => exact False.elim q1
theorem ei_tup (h : Ev G X Wx iter g) (hK : X.K = G.K) : Ei G X Wx tg iter (tupI g) := by
  obtain ⟨t, p, ev⟩ := h.ex
  refine ⟨_, pi_tup p, ?_⟩
  intro B ρ σ Hf H Q' E' Q R q k kx
  refine ev B ρ σ Hf H _ E' _ R q (fun v d Hf1 H1 R1 s1 r1 q1 => ?_) kx
  cases r1 with
  | tup hx r => exact ⟨_, rfl, ⟨_, SqT.of (R1.sm _ _ hx)⟩, k _ _ Hf1 H1 R1 s1 (hK ▸ wk_tup hx r) q1⟩
  | _ => exact False.elim q1
def rng1 (g : Env → W D) : Env → W (List D) := fun ρ => do
  let d ← g ρ
  (match d with | .int j => W.need (-(2 ^ 62) ≤ j ∧ j < 2 ^ 62) (W.pure ((List.range j.toNat).map fun k => D.int (0 + (k : Nat)))) | _ => W.fail)
def rng2 (f g : Env → W D) : Env → W (List D) := fun ρ => do
  let c ← f ρ
  let d ← g ρ
  (match c, d with | .int i, .int j => W.need (-(2 ^ 62) ≤ i ∧ i < 2 ^ 62 ∧ -(2 ^ 62) ≤ j ∧ j < 2 ^ 62) (W.pure ((List.range (j - i).toNat).map fun k => D.int (i + (k : Nat)))) | _, _ => W.fail)
theorem ei_rng1 {p : Pos} (h : Ev G X Wx a g) (hg : Gl X "range") (hm : X.mg "range" = none) (hs : starEach [a] X.env = [(false, eval a X.env)] := by rfl) : Ei G X Wx tg (.Call (.Name "range" p) [a] [] pos) (rng1 g) := by
  obtain ⟨t, pe, ev⟩ := h.ex
  refine ⟨_, pi_range1 hg hm (pa_cons pe pa_nil hs) hs, ?_⟩
  intro B ρ σ Hf H Q' E' Q R q k kx
  refine ev B ρ σ Hf H _ E' _ R q (fun v d Hf1 H1 R1 s1 r1 q1 => ?_) kx
  cases r1 with
  | int j => exact ⟨j, rfl, q1.1.1, q1.1.2, k _ _ Hf1 H1 R1 s1 wk_range q1.2⟩
  | _ => exact False.elim q1
theorem ei_rng2 {p : Pos} (h : Ev G X Wx a ga) (h2 : Ev G X Wx b gb) (hg : Gl X "range") (hm : X.mg "range" = none) (hs : starEach [a, b] X.env = [(false, eval a X.env), (false, eval b X.env)] := by rfl) (hs2 : starEach [b] X.env = [(false, eval b X.env)] := by rfl) :
    Ei G X Wx tg (.Call (.Name "range" p) [a, b] [] pos) (rng2 ga gb) := by
  obtain ⟨t, pe, ev⟩ := h.ex
  obtain ⟨t2, pe2, ev2⟩ := h2.ex
  refine ⟨_, pi_range2 hg hm (pa_cons pe (pa_cons pe2 pa_nil hs2) (by rw [hs, hs2])) hs hs2, ?_⟩
  intro B ρ σ Hf H Q' E' Q R q k kx
  refine ev B ρ σ Hf H _ E' _ R q (fun v d Hf1 H1 R1 s1 r1 q1 => ?_) kx
  refine ev2 B ρ σ Hf1 H1 _ E' _ R1 q1 (fun u d2 Hf2 H2 R2 s2 r2 q2 => ?_) (kx.mono s1)
  cases r1 <;> cases r2 <;> first | exact False.elim q2 | skip
  exact ⟨_, _, rfl, q2.1, k _ _ Hf2 H2 R2 (s1.trans s2) wk_range q2.2⟩
def zipI (f g : Env → W D) : Env → W (List D) := fun ρ => do
  let c ← f ρ
  let d ← g ρ
  (match c, d with | .lst xs, .lst ys => W.pure (List.zipWith (fun x y => D.tup [x, y]) xs ys) | _, _ => W.fail)
theorem ei_zip {p tpos : Pos} {elts : List Expr} {kk : Nat} (h : Ev G X Wx a ga) (h2 : Ev G X Wx b gb) (hK : X.K = G.K) (hg : Gl X "zip") (hm : X.mg "zip" = none)
    (hs : starEach [a, b] X.env = (false, eval a X.env) :: starEach [b] X.env := by rfl) (hs2 : starEach [b] X.env = (false, eval b X.env) :: starEach [] X.env := by rfl) (hpl : (backTo pos (starEach [b] X.env)).any (·.1) = false := by rfl) :
    Ei G X Wx (.Tuple elts kk tpos) (.Call (.Name "zip" p) [a, b] [] pos) (zipI ga gb) := by
  obtain ⟨t, pe, ev⟩ := h.ex
  obtain ⟨t2, pe2, ev2⟩ := h2.ex
  refine ⟨_, pi_zip hg hm (pa_cons pe (pa_cons pe2 pa_nil hs2) hs) hs hpl, ?_⟩
  intro B ρ σ Hf H Q' E' Q R q k kx
  refine ev B ρ σ Hf H _ E' _ R q (fun v d Hf1 H1 R1 s1 r1 q1 => ?_) kx
  refine ev2 B ρ σ Hf1 H1 _ E' _ R1 q1 (fun u d2 Hf2 H2 R2 s2 r2 q2 => ?_) (kx.mono s1)
  have r1' := r1.mono s2.sm
  cases r1' <;> cases r2 <;> first | exact False.elim q2 | skip
  rename_i hx rx _ _ _ hy ry
  exact ⟨_, _, _, _, rfl, SqL.of (R2.sm _ _ hx), SqL.of (R2.sm _ _ hy), k _ _ Hf2 H2 R2 (s1.trans s2) (hK ▸ wk_zip hx rx hy ry) q2⟩
def enumI (g : Env → W D) : Env → W (List D) := fun ρ => do
  let d ← g ρ
  (match d with | .lst xs => W.pure (xs.zipIdx.map fun p => D.tup [.int (p.2 : Nat), p.1]) | _ => W.fail)
theorem ei_enum {p tpos : Pos} {elts : List Expr} {kk : Nat} (h : Ev G X Wx a g) (hK : X.K = G.K) (hg : Gl X "enumerate") (hm : X.mg "enumerate" = none) (hs : starEach [a] X.env = [(false, eval a X.env)] := by rfl) :
    Ei G X Wx (.Tuple elts kk tpos) (.Call (.Name "enumerate" p) [a] [] pos) (enumI g) := by
  obtain ⟨t, pe, ev⟩ := h.ex
  refine ⟨_, pi_enum hg hm (pa_cons pe pa_nil hs) hs, ?_⟩
  intro B ρ σ Hf H Q' E' Q R q k kx
  refine ev B ρ σ Hf H _ E' _ R q (fun v d Hf1 H1 R1 s1 r1 q1 => ?_) kx
  cases r1 with
  | lst hx r => exact ⟨_, _, rfl, SqL.of (R1.sm _ _ hx), k _ _ Hf1 H1 R1 s1 (hK ▸ wk_enum hx r) q1⟩
  | _ => exact False.elim q1
end
end PL

set_option Elab.async false
set_option linter.all false
set_option maxRecDepth 100000
set_option maxHeartbeats 2000000
namespace PL
open PySem L2

/-! ### families of contexts: a comprehension's block -/
abbrev WF : WX := fun _ _ _ _ => False
abbrev bk (X : Cx) (sc : Scope) (s : Shared) (H : Hp) (C : Addr) (cl : List (Str × Addr)) (fp : List Addr) : Cx := X.blk s H sc (compEnvC sc cl C X.env) fp
def gFam (X : Cx) (sc : Scope) (tg : Expr) : TG := fun v σ H Q => ∀ s H0 C cl fp, ∃ t, PG (bk X sc s H0 C cl fp) tg t ∧ t v σ H Q
theorem pg_fam {X : Cx} {sc : Scope} {tg : Expr} (s : Shared) (H0 : Hp) (C : Addr) (cl : List (Str × Addr)) (fp : List Addr) : PG (bk X sc s H0 C cl fp) tg (gFam X sc tg) :=
  ⟨fun pins s1 σ H v u Q I r h => by
    obtain ⟨t, p, q⟩ := h s H0 C cl fp
    exact p.run pins s1 σ H v u Q I r q⟩
def eFam (X : Cx) (sc : Scope) (e : Expr) : TE := fun σ H Q => ∀ s H0 C cl fp, ∃ t, PE (bk X sc s H0 C cl fp) e t ∧ t σ H Q
theorem pe_fam {X : Cx} {sc : Scope} {e : Expr} (s : Shared) (H0 : Hp) (C : Addr) (cl : List (Str × Addr)) (fp : List Addr) : PE (bk X sc s H0 C cl fp) e (eFam X sc e) :=
  ⟨fun pins s1 σ H Q I h => by
    obtain ⟨t, p, q⟩ := h s H0 C cl fp
    exact p.run pins s1 σ H Q I q⟩
def tFam (X : Cx) (sc : Scope) (es : List Expr) : TT := fun σ H Q => ∀ s H0 C cl fp, ∃ t, PTs (bk X sc s H0 C cl fp) es t ∧ t σ H Q
theorem pts_fam {X : Cx} {sc : Scope} {es : List Expr} (s : Shared) (H0 : Hp) (C : Addr) (cl : List (Str × Addr)) (fp : List Addr) : PTs (bk X sc s H0 C cl fp) es (tFam X sc es) :=
  ⟨fun pins s1 σ H Q I h => by
    obtain ⟨t, p, q⟩ := h s H0 C cl fp
    exact p.run pins s1 σ H Q I q⟩
/-- the tests of a comprehension -/
structure Ets (G : Ctx) (X : Cx) (Wx : WX) (es : List Expr) (g : Env → W Bool) : Prop where
  ex : ∃ t, PTs X es t ∧ EbT G Wx t g
def yesB : Env → W Bool := fun _ => W.pure true
theorem ets_nil {G : Ctx} {X : Cx} {Wx : WX} : Ets G X Wx [] yesB := ⟨_, pts_nil, fun B ρ σ Hf H Q' E' Q R q k kx => k true Hf H R Nx.refl q⟩
theorem ets_one {G : Ctx} {X : Cx} {Wx : WX} {e : Expr} {g : Env → W Bool} (h : Eb G X Wx e g) : Ets G X Wx [e] g := by
  obtain ⟨t, p, ev⟩ := h.ex
  exact ⟨_, pts_one p, ev⟩

/-- a new list that is no one's yet -/
structure Fresh (G : Ctx) (B : Bs) (ρ : Env) (σ : St) (H : Hp) (p : Addr) (vs : List V) (ds : List D) (Hf' H' : Hp) : Prop where
  h0 : H p = none
  hf : Hf' p = none
  hp : H' p = some (.lst vs)
  hb : B.H p = none
  hs : ∀ (i : Nat) (s : Sl), ρ[i]? = some s → s.own = true → σ[i]? ≠ some (some (.ref p))
  r : Rps G.cn Hf' vs ds
def EnT (G : Ctx) (Wx : WX) (t : TE) (g : Env → W (List D)) : Prop :=
  ∀ (B : Bs) (ρ : Env) (σ : St) (Hf H : Hp) (Q' : List D → Prop) (E' : Xc → Prop) (Q : VK), Rep G B ρ σ Hf H → g ρ Q' E' →
    (∀ p vs ds Hf' H', Rep G B ρ σ Hf' H' → Nx ρ σ Hf H Hf' H' → Fresh G B ρ σ H p vs ds Hf' H' → Q' ds → Q (.ref p) H') → XPost G Wx σ Hf H B ρ E' → t σ H Q
structure En (G : Ctx) (X : Cx) (Wx : WX) (e : Expr) (g : Env → W (List D)) : Prop where
  ex : ∃ t, PE X e t ∧ EnT G Wx t g
def lstV (g : Env → W (List D)) : Env → W D := fun ρ => do let ds ← g ρ; W.pure (.lst ds)
section
variable {G : Ctx} {B : Bs} {ρ ρ2 : Env} {σ σ2 : St} {Hf H Hf' H' : Hp}
theorem Nx.frz {p : Addr} {o : HO} (n : Nx ρ σ Hf H Hf' H') (h0 : H p = none) (hf : Hf' p = none) : Nx ρ σ Hf H (upd Hf' p o) H' :=
  ⟨n.sm.trans (Same.new hf), fun b u e z => by
    obtain ⟨n1, o', e2, q⟩ := n.kp b u e z
    exact ⟨by rw [upd_ne (ne_of_none e h0)]; exact n1, o', e2, q⟩⟩
theorem Nx.other {p : Addr} {o : HO} (n : Nx ρ σ Hf H Hf' H') (h0 : H p = none) : Nx ρ σ Hf H Hf' (upd H' p o) :=
  ⟨n.sm, fun b u e z => by
    obtain ⟨n1, o', e2, q⟩ := n.kp b u e z
    exact ⟨n1, o', by rw [upd_ne (ne_of_none e h0)]; exact e2, q⟩⟩
theorem EnT.ev {Wx : WX} {t : TE} {g : Env → W (List D)} (h : EnT G Wx t g) : EvT G Wx t (lstV g) := by
  intro B ρ σ Hf H Q' E' Q R q k kx
  refine h B ρ σ Hf H _ E' _ R q (fun p vs ds Hf1 H1 R1 s1 f q1 => ?_) kx
  exact k _ _ _ _ (R1.frz f.hp f.hf f.hb f.hs) (s1.frz f.h0 f.hf) (.lst upd_same (f.r.mono (Same.new f.hf))) q1
end
theorem En.ev {G : Ctx} {X : Cx} {Wx : WX} {e : Expr} {g : Env → W (List D)} (h : En G X Wx e g) : Ev G X Wx e (lstV g) := by
  obtain ⟨t, p, ev⟩ := h.ex
  exact ⟨t, p, ev.ev⟩

/-! ### list comprehensions -/
def lcL (vs : List Nat) (gt : D → Env → W Env) (gb : Env → W Bool) (ge : Env → W D) (ρ : Env) : List D → W (List D)
  | [] => W.pure []
  | d :: ds => fun Q E => gt d (wipeE ρ vs) (fun ρ2 => gb ρ2 (fun b => if b = true then ge ρ2 (fun y => lcL vs gt gb ge ρ ds (fun r => Q (y :: r)) E) (fun _ => False) else lcL vs gt gb ge ρ ds Q E) (fun _ => False)) (fun _ => False)
def lcN (gi : Env → W (List D)) (vs : List Nat) (gt : D → Env → W Env) (gb : Env → W Bool) (ge : Env → W D) : Env → W (List D) := fun ρ => do
  let ds ← gi ρ
  W.need (okW ρ vs = true ∧ ds.length ≤ sizeLine) (lcL vs gt gb ge ρ ds)
theorem okW_at {ρ : Env} {vs : List Nat} (h : okW ρ vs = true) {i : Nat} {s : Sl} (hi : i ∈ vs) (e : ρ[i]? = some s) : s.own = false := by
  unfold okW at h
  have q := List.all_eq_true.mp h i hi
  rw [e] at q
  simpa using q
theorem wipe_wipe {σ : St} {vs : List Nat} : L2.wipe (L2.wipe σ vs) vs = L2.wipe σ vs := by
  apply List.ext_getElem?
  intro i
  rw [wipe_get, wipe_get, wipe_length]
  by_cases h : i ∈ vs <;> simp [h]
section
variable {G : Ctx} {X : Cx} {Wx : WX} {elt tg iter : Expr} {ifs : List Expr} {sc : Scope} {own : List (Str × Nat)} {pos : Pos} {gi : Env → W (List D)} {gt : D → Env → W Env} {gb : Env → W Bool} {ge : Env → W D} {sl : List Nat}
theorem ent_lc {wi : TI} (hi : EiT G Wx wi gi) (hg : ∀ s H0 C cl fp, Eg G (bk X sc s H0 C cl fp) tg sl gt) (ht : ∀ s H0 C cl fp, Ets G (bk X sc s H0 C cl fp) WF ifs gb)
    (he : ∀ s H0 C cl fp, Ev G (bk X sc s H0 C cl fp) WF elt ge) {vs : List Nat} (hsl : ∀ i ∈ sl, i ∈ vs) : EnT G Wx (tLc wi (gFam X sc tg) (tFam X sc ifs) (eFam X sc elt) vs) (lcN gi vs gt gb ge) := by
  intro B ρ σ Hf H Q' E' Q R q k kx
  refine hi B ρ σ Hf H _ E' _ R q (fun J ds Hf1 H1 R1 s1 wk q1 => ?_) kx
  obtain ⟨⟨ok1, hlen⟩, q1⟩ := q1
  intro D0 hD
  have hB := R1.freeB hD
  have hS := R1.freeS hD
  have hfD := R1.sm.free hD
  have hH : H D0 = none := by
    cases e : H D0 with
    | none => rfl
    | some o =>
      by_cases z : Hf D0 = none
      · obtain ⟨_, o', e', _⟩ := s1.kp _ _ e z
        rw [hD] at e'; cases e'
      · cases e2 : Hf D0 with
        | none => exact absurd e2 z
        | some u => rw [R1.sm _ _ (s1.sm _ _ e2)] at hD; cases hD
  have noP : ¬ IsPool ρ σ D0 := fun ⟨i, z1, z2⟩ => hS i _ z1 rfl z2
  refine lc_it (n := ds.length) (G := fun H => Same Hf1 H) (Y := fun i H x H' => J.yld i H x H') ⟨fun i H hi s => wk.go i H s hi, fun H s => wk.stop H s, fun i H x H' _ _ y => y⟩
    (fun i H => ∃ Hf2 us outs, Rep G B ρ σ Hf2 H ∧ Nx ρ σ Hf1 H1 Hf2 H ∧ Hf2 D0 = none ∧ H D0 = some (.lst us) ∧ Rps G.cn Hf2 us outs ∧ outs.length ≤ i ∧ lcL vs gt gb ge ρ (ds.drop i) (fun r => Q' (outs ++ r)) E') ?_ ?_ ?_ ?_
  · exact ⟨Hf1, [], [], R1.laid hD, Nx.refl.other hD, hfD, upd_same, .nil, Nat.le_refl _, q1⟩
  · rintro i H' _ ⟨Hf2, us, outs, R2, n2, _⟩
    exact n2.sm.trans R2.sm
  · rintro i x H2 H3 hi ⟨Hf2, us, outs, R2, n2, hfd, hd, r, ho, q2⟩ y
    obtain ⟨d, hdd⟩ : ∃ d, ds[i]? = some d := ⟨ds[i], by simp [hi]⟩
    obtain ⟨Hf3, R3, n3, rx⟩ := wk.step n2.sm R2 hdd y
    have hdrop : ds.drop i = d :: ds.drop (i + 1) := by
      rw [List.drop_eq_getElem_cons hi]
      have : ds[i] = d := by
        rw [List.getElem?_eq_getElem hi] at hdd
        exact Option.some.inj hdd
      rw [this]
    rw [hdrop] at q2
    have q2 : gt d (wipeE ρ vs) (fun ρ2 => gb ρ2 (fun b => if b = true then ge ρ2 (fun y => lcL vs gt gb ge ρ (ds.drop (i + 1)) (fun r => Q' (outs ++ y :: r)) E') (fun _ => False) else lcL vs gt gb ge ρ (ds.drop (i + 1)) (fun r => Q' (outs ++ r)) E') (fun _ => False)) (fun _ => False) := q2
    have Rw := R3.wiped vs
    intro z1 z2 z3 z4 z5
    obtain ⟨t, pt, et⟩ := (hg z1 z2 z3 z4 z5).ex
    refine ⟨t, pt, et B _ _ Hf3 H3 x d _ _ _ Rw rx q2 fun ρ2 σ2 R4 ag q4 => ?_⟩
    refine ⟨by rw [ag.wipe hsl, wipe_wipe], ?_⟩
    -- pools and other slots agree
    have hp : ∀ j : Nat, ρ[j]? = some .pool → ρ2[j]? = some .pool ∧ σ2[j]? = σ[j]? := fun j e => by
      have hj : j ∉ vs := fun z => by
        have := okW_at ok1 z e
        cases this
      obtain ⟨a1, a2⟩ := ag.out j fun z => hj (hsl j z)
      rw [wipeE_get, if_neg hj] at a1
      rw [wipe_get, if_neg hj] at a2
      exact ⟨a1.trans e, a2⟩
    have hpw : ∀ b, IsPool ρ2 σ2 b → IsPool ρ σ b := fun b ⟨j, e1, e2⟩ => by
      have hj : j ∉ sl := fun z => by
        have := ag.ins j z _ e1
        cases this
      obtain ⟨a1, a2⟩ := ag.out j hj
      rw [a1, wipeE_get] at e1
      rw [a2, wipe_get] at e2
      by_cases hv : j ∈ vs
      · rw [if_pos hv] at e1
        split at e1 <;> cases e1
      · rw [if_neg hv] at e1 e2
        exact ⟨j, e1, e2⟩
    intro y1 y2 y3 y4 y5
    obtain ⟨tt, ptt, ett⟩ := (ht y1 y2 y3 y4 y5).ex
    refine ⟨tt, ptt, ett B ρ2 σ2 Hf3 H3 _ _ _ R4 q4 (fun b Hf5 H5 R5 n5 q5 => ?_) fun _ _ _ _ _ _ _ _ e => e.elim⟩
    have fin : ∀ {Hf6 H6 : Hp}, Rep G B ρ2 σ2 Hf6 H6 → Nx ρ2 σ2 Hf3 H3 Hf6 H6 → Rep G B ρ σ Hf6 H6 ∧ Nx ρ σ Hf1 H1 Hf6 H6 ∧ Hf6 D0 = none ∧ H6 D0 = some (.lst us) ∧ Rps G.cn Hf6 us outs := fun {Hf6 H6} R6 n6 => by
      have n6' := n6.weak hpw
      obtain ⟨n31, o', n32, n33⟩ := n3.kp D0 _ hd hfd
      obtain ⟨n61, o'', n62, n63⟩ := n6'.kp D0 _ n32 n31
      refine ⟨R3.back R6 n6' hp, (n2.trans n3).trans n6', n61, ?_, (r.mono n3.sm).mono n6.sm⟩
      rw [n62, n63 noP, n33 noP]
    cases b with
    | true =>
      refine iteT ?_
      intro w1 w2 w3 w4 w5
      obtain ⟨te, pe, ee⟩ := (he w1 w2 w3 w4 w5).ex
      refine ⟨te, pe, ee B ρ2 σ2 Hf5 H5 _ _ _ R5 (show ge ρ2 _ _ from q5) (fun v d' Hf6 H6 R6 n6 r6 q6 => ?_) fun _ _ _ _ _ _ _ _ e => e.elim⟩
      obtain ⟨R7, n7, f7, d7, r7⟩ := fin R6 (n5.trans n6)
      refine ⟨us, d7, Nat.lt_of_le_of_lt (by rw [r7.length]; exact ho) (Nat.lt_of_lt_of_le hi hlen), Hf6, us ++ [v], outs ++ [d'], R7.other f7 hB hS, n7.other hD, f7, upd_same, r7.append (.one r6), by simp; omega, ?_⟩
      have : (fun r => Q' (outs ++ [d'] ++ r)) = (fun r => Q' (outs ++ d' :: r)) := by
        funext r
        rw [List.append_assoc]; rfl
      rw [this]
      exact q6
    | false =>
      refine iteF ?_
      obtain ⟨R7, n7, f7, d7, r7⟩ := fin R5 n5
      exact ⟨Hf5, us, outs, R7, n7, f7, d7, r7, by omega, q5⟩
  · rintro H2 ⟨Hf2, us, outs, R2, n2, hfd, hd, r, ho, q2⟩
    have e : ds.drop ds.length = [] := by simp
    rw [e] at q2
    have q2 : Q' (outs ++ []) := q2
    rw [List.append_nil] at q2
    exact k D0 us outs Hf2 H2 R2 (s1.trans n2) ⟨hH, hfd, hd, hB, hS, r⟩ q2
theorem en_lc (hc : X.calm = true) (hN : X.N.Nodup) (hi : Ei G X Wx tg iter gi) (ok : BlkOk X.N X.env.scope sc own) (hg : ∀ s H0 C cl fp, Eg G (bk X sc s H0 C cl fp) tg sl gt) (ht : ∀ s H0 C cl fp, Ets G (bk X sc s H0 C cl fp) WF ifs gb)
    (he : ∀ s H0 C cl fp, Ev G (bk X sc s H0 C cl fp) WF elt ge) (hsl : ∀ i ∈ sl, i ∈ own.map (·.2)) (hs : ∀ x, foldedSetIterable iter X.env x = pure x := by intro _; rfl) :
    En G X Wx (.ListComp elt [⟨tg, iter, ifs, 0⟩] sc pos) (lcN gi (own.map (·.2)) gt gb ge) := by
  obtain ⟨wi, pi, ei⟩ := hi.ex
  exact ⟨_, pe_lc hc hN pi ok pg_fam pts_fam pe_fam hs, ent_lc ei hg ht he hsl⟩
end

/-! ### statements -/
inductive Fl where
  | nx | rt (d : D) | bk | ct
abbrev Ws := (Fl → Env → Prop) → (Xc → Env → Prop) → Prop
structure SPost (G : Ctx) (B : Bs) (Hf : Hp) (Q' : Fl → Env → Prop) (Dd : Ends) : Prop where
  nx : ∀ ρ' σ' Hf' H', Rep G B ρ' σ' Hf' H' → Same Hf Hf' → Q' .nx ρ' → Dd.nx σ' H'
  rt : ∀ ρ' σ' v d Hf' H', Rep G B ρ' σ' Hf' H' → Same Hf Hf' → Rp G.cn Hf' v d → Q' (.rt d) ρ' → Dd.rt v H'
  bk : ∀ ρ' σ' Hf' H', Rep G B ρ' σ' Hf' H' → Same Hf Hf' → Q' .bk ρ' → Dd.bk σ' H'
  ct : ∀ ρ' σ' Hf' H', Rep G B ρ' σ' Hf' H' → Same Hf Hf' → Q' .ct ρ' → Dd.ct σ' H'
theorem SPost.mono {G : Ctx} {B : Bs} {Hf Hf1 : Hp} {Q' : Fl → Env → Prop} {Dd : Ends} (p : SPost G B Hf Q' Dd) (s : Same Hf Hf1) : SPost G B Hf1 Q' Dd :=
  ⟨fun ρ' σ' Hf' H' R s' q => p.nx ρ' σ' Hf' H' R (s.trans s') q, fun ρ' σ' v d Hf' H' R s' r q => p.rt ρ' σ' v d Hf' H' R (s.trans s') r q, fun ρ' σ' Hf' H' R s' q => p.bk ρ' σ' Hf' H' R (s.trans s') q, fun ρ' σ' Hf' H' R s' q => p.ct ρ' σ' Hf' H' R (s.trans s') q⟩
def XPostS (G : Ctx) (Wx : WX) (B : Bs) (Hf : Hp) (E' : Xc → Env → Prop) : Prop :=
  ∀ x cls d ρ' σ' Hf' H', Rep G B ρ' σ' Hf' H' → Same Hf Hf' → XRep G Hf' x cls d → E' x ρ' → Wx cls d σ' H'
theorem XPostS.mono {G : Ctx} {Wx : WX} {B : Bs} {Hf Hf1 : Hp} {E' : Xc → Env → Prop} (p : XPostS G Wx B Hf E') (s : Same Hf Hf1) : XPostS G Wx B Hf1 E' :=
  fun x cls d ρ' σ' Hf' H' R s' xr e => p x cls d ρ' σ' Hf' H' R (s.trans s') xr e
theorem XPostS.at {G : Ctx} {Wx : WX} {B : Bs} {Hf H : Hp} {E' : Xc → Env → Prop} {ρ : Env} {σ : St} (p : XPostS G Wx B Hf E') : XPost G Wx σ Hf H B ρ (fun x => E' x ρ) :=
  fun x cls d Hf' H' R n xr e => p x cls d ρ σ Hf' H' R n.sm xr e
def EsT (G : Ctx) (Wx : WX) (t : TS) (g : Env → Ws) : Prop :=
  ∀ (B : Bs) (ρ : Env) (σ : St) (Hf H : Hp) (Q' : Fl → Env → Prop) (E' : Xc → Env → Prop) (Dd : Ends), Rep G B ρ σ Hf H → g ρ Q' E' → SPost G B Hf Q' Dd → XPostS G Wx B Hf E' → t Dd σ H
structure Es (G : Ctx) (X : Cx) (Wx : WX) (st : Stmt) (g : Env → Ws) : Prop where
  ex : ∃ t, PS X st t ∧ EsT G Wx t g
structure Ess (G : Ctx) (X : Cx) (Wx : WX) (sts : List Stmt) (g : Env → Ws) : Prop where
  ex : ∃ t, PSs X sts t ∧ EsT G Wx t g
def sNx : Env → Ws := fun ρ Q _ => Q .nx ρ
def sSeq (f g : Env → Ws) : Env → Ws := fun ρ Q E => f ρ (fun fl ρ1 => match fl with | .nx => g ρ1 Q E | o => Q o ρ1) E
def sBk : Env → Ws := fun ρ Q _ => Q .bk ρ
def sCt : Env → Ws := fun ρ Q _ => Q .ct ρ
def sRet (g : Env → W D) : Env → Ws := fun ρ Q E => g ρ (fun d => Q (.rt d) ρ) (fun x => E x ρ)
def sRetN : Env → Ws := fun ρ Q _ => Q (.rt .non) ρ
def sDrop (g : Env → W D) : Env → Ws := fun ρ Q E => g ρ (fun _ => Q .nx ρ) (fun x => E x ρ)
def sIf (c : Env → W Bool) (f g : Env → Ws) : Env → Ws := fun ρ Q E => c ρ (fun b => if b = true then f ρ Q E else g ρ Q E) (fun x => E x ρ)
def sSet (i : Nat) (g : Env → W D) : Env → Ws := fun ρ Q E => g ρ (fun d => Q .nx (ρ.set i (.fz d))) (fun x => E x ρ)
def sSetN (i : Nat) (g : Env → W (List D)) : Env → Ws := fun ρ Q E => g ρ (fun ds => Q .nx (ρ.set i (.ow ds))) (fun x => E x ρ)
def sAsg (g : Env → W D) (t : D → Env → W Env) : Env → Ws := fun ρ Q E => g ρ (fun d => t d ρ (fun ρ' => Q .nx ρ') (fun _ => False)) (fun x => E x ρ)
def sNever : Env → Ws := fun _ _ _ => False
def sFrz (i : Nat) (g : Env → Ws) : Env → Ws := fun ρ Q E => match ρ[i]? with
  | some (.ow ds) => g (ρ.set i (.fz (.lst ds))) Q E
  | _ => False
section
variable {G : Ctx} {X : Cx} {Wx : WX} {a b c e tg iter : Expr} {st : Stmt} {sts ts : List Stmt} {ga gb gc g : Env → W D} {f h : Env → Ws} {pos : Pos}
theorem ess_nil : Ess G X Wx [] sNx := ⟨_, pss_nil, fun B ρ σ Hf H Q' E' Dd R q k kx => k.nx ρ σ Hf H R (Same.refl _) q⟩
theorem ess_one (h1 : Es G X Wx st f) : Ess G X Wx [st] f := by
  obtain ⟨t, p, ev⟩ := h1.ex
  exact ⟨_, pss_one p, ev⟩
theorem ess_cons (h1 : Es G X Wx st f) (h2 : Ess G X Wx sts h) : Ess G X Wx (st :: sts) (sSeq f h) := by
  obtain ⟨t, p, ev⟩ := h1.ex
  obtain ⟨t2, p2, ev2⟩ := h2.ex
  refine ⟨_, pss_cons p p2, ?_⟩
  intro B ρ σ Hf H Q' E' Dd R q k kx
  refine ev B ρ σ Hf H _ E' _ R q ⟨fun ρ' σ' Hf' H' R' s' q' => ?_, fun ρ' σ' v d Hf' H' R' s' r' q' => k.rt ρ' σ' v d Hf' H' R' s' r' q', fun ρ' σ' Hf' H' R' s' q' => k.bk ρ' σ' Hf' H' R' s' q', fun ρ' σ' Hf' H' R' s' q' => k.ct ρ' σ' Hf' H' R' s' q'⟩ kx
  exact ev2 B ρ' σ' Hf' H' Q' E' Dd R' q' (k.mono s') (kx.mono s')
theorem es_pass : Es G X Wx (.Pass pos) sNx := ⟨_, ps_pass, fun B ρ σ Hf H Q' E' Dd R q k kx => k.nx ρ σ Hf H R (Same.refl _) q⟩
theorem es_break : Es G X Wx (.Break pos) sBk := ⟨_, ps_break, fun B ρ σ Hf H Q' E' Dd R q k kx => k.bk ρ σ Hf H R (Same.refl _) q⟩
theorem es_cont : Es G X Wx (.Continue pos) sCt := ⟨_, ps_continue, fun B ρ σ Hf H Q' E' Dd R q k kx => k.ct ρ σ Hf H R (Same.refl _) q⟩
theorem es_never : Es G X Wx st sNever := ⟨_, ps_never, fun B ρ σ Hf H Q' E' Dd R q k kx => q.elim⟩
theorem ess_never : Ess G X Wx sts sNever := ⟨_, pss_never, fun B ρ σ Hf H Q' E' Dd R q k kx => q.elim⟩
theorem es_doc {x j pos'} : Es G X Wx (.Expr (.Constant (.str x) j pos) pos') sNx := ⟨_, ps_doc, fun B ρ σ Hf H Q' E' Dd R q k kx => k.nx ρ σ Hf H R (Same.refl _) q⟩
theorem es_ret (h1 : Ev G X Wx e g) : Es G X Wx (.Return (some e) pos) (sRet g) := by
  obtain ⟨t, p, ev⟩ := h1.ex
  exact ⟨_, ps_ret p, fun B ρ σ Hf H Q' E' Dd R q k kx => ev B ρ σ Hf H _ _ _ R q (fun v d Hf' H' R' n r q' => k.rt ρ σ v d Hf' H' R' n.sm r q') kx.at⟩
theorem es_retN : Es G X Wx (.Return none pos) sRetN := ⟨_, ps_retN, fun B ρ σ Hf H Q' E' Dd R q k kx => k.rt ρ σ _ _ Hf H R (Same.refl _) .non q⟩
theorem es_drop (h1 : Ev G X Wx e g) (hs : swapsWith e none pos.line X.env = pure false := by rfl) : Es G X Wx (.Expr e pos) (sDrop g) := by
  obtain ⟨t, p, ev⟩ := h1.ex
  exact ⟨_, ps_expr p hs, fun B ρ σ Hf H Q' E' Dd R q k kx => ev B ρ σ Hf H _ _ _ R q (fun v d Hf' H' R' n r q' => k.nx ρ σ Hf' H' R' n.sm q') kx.at⟩
theorem es_if {bc : Env → W Bool} (h1 : Eb G X Wx c bc) (h2 : Ess G X Wx sts f) (h3 : Ess G X Wx ts h) : Es G X Wx (.If c sts ts pos) (sIf bc f h) := by
  obtain ⟨t, p, ev⟩ := h1.ex
  obtain ⟨t2, p2, ev2⟩ := h2.ex
  obtain ⟨t3, p3, ev3⟩ := h3.ex
  refine ⟨_, ps_if p p2 p3, ?_⟩
  intro B ρ σ Hf H Q' E' Dd R q k kx
  refine ev B ρ σ Hf H _ _ _ R q (fun x Hf' H' R' n q' => ?_) kx.at
  cases x with
  | true => exact iteT (ev2 B ρ σ Hf' H' Q' E' Dd R' q' (k.mono n.sm) (kx.mono n.sm))
  | false => exact iteF (ev3 B ρ σ Hf' H' Q' E' Dd R' q' (k.mono n.sm) (kx.mono n.sm))
theorem est_set {i : Nat} {t : TE} (ev : EvT G Wx t g) : EsT G Wx (tAsg t (gName i)) (sSet i g) := by
  intro B ρ σ Hf H Q' E' Dd R q k kx
  exact ev B ρ σ Hf H _ _ _ R q (fun v d Hf' H' R' n r q' => k.nx _ _ Hf' H' (R'.set r) n.sm q') kx.at
theorem Rep.setN {B : Bs} {ρ : Env} {σ : St} {Hf H0 H : Hp} {i : Nat} {p : Addr} {vs : List V} {ds : List D} (R : Rep G B ρ σ Hf H) (f : Fresh G B ρ σ H0 p vs ds Hf H) : Rep G B (ρ.set i (.ow ds)) (σ.set i (some (.ref p))) Hf H := by
  refine ⟨by simp [R.len], R.sm, R.sm0, R.unf, R.kp, R.pl, R.p0, fun j u e => ?_, fun j l q u u' ne e1 ku e2 k e3 e4 => ?_⟩
  · by_cases h : i = j
    · subst h
      have hl : i < ρ.length := by
        have := (List.getElem?_eq_some_iff.mp e).1
        simpa using this
      rw [List.getElem?_set_self hl] at e
      cases e
      rw [List.getElem?_set_self (by rw [R.len]; exact hl)]
      exact ⟨p, vs, rfl, f.hf, f.hb, f.hp, f.r⟩
    · rw [List.getElem?_set_ne h] at e ⊢
      exact R.sl j u e
  · have at_ : ∀ {j : Nat}, i = j → (σ.set i (some (V.ref p)))[j]? = some (some (.ref q)) → q = p := fun {j} h e => by
      subst h
      by_cases hl : i < σ.length
      · rw [List.getElem?_set_self hl] at e; cases e; rfl
      · rw [List.getElem?_eq_none (by simpa using hl)] at e; cases e
    by_cases h1 : i = j
    · have eq := at_ h1 e3
      subst eq
      have h2 : i ≠ l := fun z => ne (h1.symm.trans z)
      rw [List.getElem?_set_ne h2] at e2 e4
      exact f.hs l u' e2 k e4
    · rw [List.getElem?_set_ne h1] at e1 e3
      by_cases h2 : i = l
      · have eq := at_ h2 e4
        subst eq
        exact f.hs j u e1 (by cases u <;> first | rfl | cases ku) e3
      · rw [List.getElem?_set_ne h2] at e2 e4
        exact R.ds j l q u u' ne e1 ku e2 k e3 e4
theorem est_setN {i : Nat} {t : TE} {gn : Env → W (List D)} (ev : EnT G Wx t gn) : EsT G Wx (tAsg t (gName i)) (sSetN i gn) := by
  intro B ρ σ Hf H Q' E' Dd R q k kx
  exact ev B ρ σ Hf H _ _ _ R q (fun p vs ds Hf' H' R' n f q' => k.nx _ _ Hf' H' (R'.setN f) n.sm q') kx.at
theorem es_set {i : Nat} {x : Str} {p' : Pos} (h1 : Ev G X Wx e g) (hp : ∀ t, PE X e t → PS X (.Assign [.Name x p'] e pos) (tAsg t (gName i))) : Es G X Wx (.Assign [.Name x p'] e pos) (sSet i g) := by
  obtain ⟨t, p, ev⟩ := h1.ex
  exact ⟨_, hp t p, est_set ev⟩
theorem es_setN {i : Nat} {x : Str} {p' : Pos} {gn : Env → W (List D)} (h1 : En G X Wx e gn) (hp : ∀ t, PE X e t → PS X (.Assign [.Name x p'] e pos) (tAsg t (gName i))) : Es G X Wx (.Assign [.Name x p'] e pos) (sSetN i gn) := by
  obtain ⟨t, p, ev⟩ := h1.ex
  exact ⟨_, hp t p, est_setN ev⟩
theorem es_asg {sl : List Nat} {gt : D → Env → W Env} (h1 : Ev G X Wx e g) (h2 : Eg G X tg sl gt) (hs : swapsWithSole [tg] e pos.line X.env = pure false := by rfl) (hw : swappedStores [tg] e X.env = pure none := by rfl)
    (h3 : (assignEach [tg] X.env).map (·.2) = [assign tg X.env] := by rfl) : Es G X Wx (.Assign [tg] e pos) (sAsg g gt) := by
  obtain ⟨t, p, ev⟩ := h1.ex
  obtain ⟨t2, p2, ev2⟩ := h2.ex
  refine ⟨_, ps_asg p p2 hs hw h3, ?_⟩
  intro B ρ σ Hf H Q' E' Dd R q k kx
  refine ev B ρ σ Hf H _ _ _ R q (fun v d Hf' H' R' n r q' => ?_) kx.at
  exact ev2 B ρ σ Hf' H' v d _ _ _ R' r q' fun ρ2 σ2 R2 _ q2 => k.nx ρ2 σ2 Hf' H' R2 n.sm q2
theorem ess_frz (i : Nat) (h1 : Ess G X Wx sts f) : Ess G X Wx sts (sFrz i f) := by
  obtain ⟨t, p, ev⟩ := h1.ex
  refine ⟨_, p, ?_⟩
  intro B ρ σ Hf H Q' E' Dd R q k kx
  unfold sFrz at q
  cases e : ρ[i]? with
  | none => rw [e] at q; exact q.elim
  | some s =>
    rw [e] at q
    cases s with
    | ow ds =>
      obtain ⟨a, vs, e1, h1, h2, h3, r⟩ := R.sl i _ e
      have hl : i < ρ.length := (List.getElem?_eq_some_iff.mp e).1
      -- first forget the slot, then freeze, then give it again
      have R1 : Rep G B (ρ.set i .un) (σ.set i none) Hf H := R.setSl (fun _ => trivial) rfl
      have fr : ∀ (j : Nat) (s : Sl), (ρ.set i .un)[j]? = some s → s.own = true → (σ.set i none)[j]? ≠ some (some (.ref a)) := fun j s ej k z => by
        by_cases hj : i = j
        · subst hj
          rw [List.getElem?_set_self hl] at ej
          cases ej; cases k
        · rw [List.getElem?_set_ne hj] at ej z
          exact R.ds i j a _ s hj e rfl ej k e1 z
      have R2 := R1.frz h3 h1 h2 fr
      have R3 : Rep G B (ρ.set i (.fz (.lst ds))) (σ.set i (some (.ref a))) (upd Hf a (.lst vs)) H := by
        have := R2.set (i := i) (v := .ref a) (d := .lst ds) (.lst upd_same (r.mono (Same.new h1)))
        rw [List.set_set, List.set_set] at this
        exact this
      have e4 : σ.set i (some (.ref a)) = σ := List.ext_getElem? fun j => by
        by_cases hj : i = j
        · subst hj; rw [List.getElem?_set_self (by rw [R.len]; exact hl), e1]
        · rw [List.getElem?_set_ne hj]
      rw [e4] at R3
      exact ev B _ σ _ H Q' E' Dd R3 q (k.mono (Same.new h1)) (kx.mono (Same.new h1))
    | _ => exact q.elim
end
end PL

set_option Elab.async false
set_option linter.all false
set_option maxRecDepth 100000
set_option maxHeartbeats 2000000
namespace PL
open PySem L2
open PyProof.Rows (envOfC)

/-! ### what a slot's own list is asked, told -/
def sApp (i : Nat) (g : Env → W D) : Env → Ws := fun ρ Q E => ∃ ds, ρ[i]? = some (.ow ds) ∧ ds.length < sizeLine ∧ g ρ (fun d => Q .nx (ρ.set i (.ow (ds ++ [d])))) (fun x => E x ρ)
def sSetIx (i : Nat) (gk gv : Env → W D) : Env → Ws := fun ρ Q E => ∃ ds, ρ[i]? = some (.ow ds) ∧ gv ρ (fun d => gk ρ (fun k => ∃ j n, k = .int j ∧ ixN ds.length j = some n ∧ Q .nx (ρ.set i (.ow (ds.set n d)))) (fun x => E x ρ)) (fun x => E x ρ)
def putD (f : Str) (v : D) : List (Str × D) → List (Str × D)
  | [] => [(f, v)]
  | (g, x) :: r => if g = f then (g, v) :: r else (g, x) :: putD f v r
def sFld (i : Nat) (f : Str) (C : Nat) (g : Env → W D) : Env → Ws := fun ρ Q E => ∃ a dx fs, ρ[i]? = some (.oi a dx C fs) ∧ fs.length < 1000 ∧ g ρ (fun d => Q .nx (ρ.set i (.oi a dx C (putD f d fs)))) (fun x => E x ρ)
theorem Rpf.put {cn : Nat → Addr} {H : Hp} {f : Str} {v : V} {d : D} (r : Rp cn H v d) : ∀ {gs : List (Str × V)} {fs : List (Str × D)}, Rpf cn H gs fs → Rpf cn H (putF f v gs) (putD f d fs)
  | _, _, .nil => .cons r .nil
  | _, _, .cons (f := g) r' t => by
    unfold putF putD
    by_cases h : g = f
    · rw [if_pos h, if_pos h]; exact .cons r t
    · rw [if_neg h, if_neg h]; exact .cons r' (Rpf.put r t)
theorem Rpf.length {cn : Nat → Addr} {H : Hp} : ∀ {gs : List (Str × V)} {fs : List (Str × D)}, Rpf cn H gs fs → gs.length = fs.length
  | _, _, .nil => rfl
  | _, _, .cons _ t => congrArg (· + 1) (Rpf.length t)
section
variable {G : Ctx} {B : Bs} {ρ : Env} {σ : St} {Hf H : Hp}
/-- the slot's own object is written -/
theorem Rep.write {i : Nat} {p : Addr} {s s' : Sl} {o : HO} (R : Rep G B ρ σ Hf H) (e : ρ[i]? = some s) (u : s.uniq = true) (e1 : σ[i]? = some (some (.ref p))) (hf : Hf p = none) (hb : B.H p = none) (u' : s'.uniq = true)
    (hs : SlR G B (some (some (.ref p))) Hf (upd H p o) s') : Rep G B (ρ.set i s') σ Hf (upd H p o) := by
  have hl : i < ρ.length := (List.getElem?_eq_some_iff.mp e).1
  -- without the slot the object is no one's
  have R1 : Rep G B (ρ.set i .un) (σ.set i none) Hf H := R.setSl (fun _ => trivial) rfl
  have fr : ∀ (j : Nat) (t : Sl), (ρ.set i .un)[j]? = some t → t.own = true → (σ.set i none)[j]? ≠ some (some (.ref p)) := fun j t ej k z => by
    by_cases hj : i = j
    · subst hj
      rw [List.getElem?_set_self hl] at ej
      cases ej; cases k
    · rw [List.getElem?_set_ne hj] at ej z
      exact R.ds i j p s t hj e u ej k e1 z
  have R2 := R1.other (o := o) hf hb fr
  refine ⟨by simp [R.len], R2.sm, R2.sm0, R2.unf, R2.kp, R2.pl, R2.p0, fun j t ej => ?_, fun j l q t t' ne ej kt el k e3 e4 => ?_⟩
  · by_cases h : i = j
    · subst h
      rw [List.getElem?_set_self hl] at ej
      cases ej
      rw [e1]; exact hs
    · rw [List.getElem?_set_ne h] at ej
      have := R2.sl j t (by rw [List.getElem?_set_ne h]; exact ej)
      rw [List.getElem?_set_ne h] at this
      exact this
  · by_cases h1 : i = j
    · subst h1
      have : q = p := by rw [e1] at e3; cases e3; rfl
      subst this
      have h2 : i ≠ l := ne
      rw [List.getElem?_set_ne h2] at el
      exact R.ds i l q s t' ne e u el k e1 e4
    · rw [List.getElem?_set_ne h1] at ej
      by_cases h2 : i = l
      · subst h2
        have : q = p := by rw [e1] at e4; cases e4; rfl
        subst this
        exact R.ds i j q s t (fun z => ne z.symm) e u ej (by cases t <;> first | rfl | cases kt) e1 e3
      · rw [List.getElem?_set_ne h2] at el
        exact R.ds j l q t t' ne ej kt el k e3 e4
end
section
variable {G : Ctx} {X : Cx} {Wx : WX} {a b c e k tg iter : Expr} {st : Stmt} {sts ts : List Stmt} {ga gb gc g : Env → W D} {f h : Env → Ws} {pos apos p' : Pos}
theorem est_app {i : Nat} {t : TE} (hK : X.K = G.K) (ev : EvT G Wx t g) : EsT G Wx (tDrop (tBM X.K "list" rAppend (tVar i) (tCons t tNil))) (sApp i g) := by
  intro B ρ σ Hf H Q' E' Dd R q k kx
  obtain ⟨ds, e, hlen, q⟩ := q
  obtain ⟨p, vs, e1, h1, h2, h3, r⟩ := R.sl i _ e
  refine ⟨_, e1, .inl ⟨rfl, _, SqL.of h3⟩, ?_⟩
  refine ev B ρ σ Hf H _ _ _ R q (fun v d Hf' H' R' n r' q' => ?_) kx.at
  obtain ⟨p2, vs2, e2, h1', h2', h3', r2⟩ := R'.sl i _ e
  rw [e1] at e2
  cases e2
  refine ⟨p, vs2, v, rfl, rfl, h3', by rw [r2.length]; exact hlen, ?_⟩
  exact k.nx _ σ Hf' _ (R'.write (s' := .ow (ds ++ [d])) e rfl e1 h1' h2' rfl ⟨p, _, rfl, h1', h2', upd_same, r2.append (.one r')⟩) n.sm q'
theorem es_app {i : Nat} (hp : ∀ t, PE X e t → PS X st (tDrop (tBM X.K "list" rAppend (tVar i) (tCons t tNil)))) (hK : X.K = G.K) (h1 : Ev G X Wx e g) : Es G X Wx st (sApp i g) := by
  obtain ⟨t, p, ev⟩ := h1.ex
  exact ⟨_, hp t p, est_app hK ev⟩
theorem es_setIx {i : Nat} (hv : Ev G X Wx e gb) (hk : Ev G X Wx k ga)
    (hp : ∀ tk tv, PE X k tk → PE X e tv → PS X st (tAsg tv (gSub (tVar i) tk rSetL))) : Es G X Wx st (sSetIx i ga gb) := by
  obtain ⟨tv, pv, ev⟩ := hv.ex
  obtain ⟨tk, pk, ek⟩ := hk.ex
  refine ⟨_, hp tk tv pk pv, ?_⟩
  intro B ρ σ Hf H Q' E' Dd R q k kx
  obtain ⟨ds, e, q⟩ := q
  refine ev B ρ σ Hf H _ _ _ R q (fun v d Hf1 H1 R1 n1 r1 q1 => ?_) kx.at
  obtain ⟨p, vs, e1, h1, h2, h3, r⟩ := R1.sl i _ e
  refine ⟨_, e1, ?_⟩
  refine ek B ρ σ Hf1 H1 _ _ _ R1 q1 (fun w d2 Hf2 H2 R2 n2 r2 q2 => ?_) (kx.at.mono n1)
  obtain ⟨j, n, rfl, hn, q2⟩ := q2
  obtain ⟨p2, vs2, e2, h1', h2', h3', r'⟩ := R2.sl i _ e
  rw [e1] at e2
  cases e2
  cases r2
  refine ⟨p, vs2, j, n, rfl, rfl, h3', by rw [r'.length]; exact hn, ?_⟩
  exact k.nx _ σ Hf2 _ (R2.write (s' := .ow (ds.set n d)) e rfl e1 h1' h2' rfl ⟨p, _, rfl, h1', h2', upd_same, r'.set (r1.mono n2.sm) n⟩) (n1.sm.trans n2.sm) q2
theorem es_fld {i : Nat} {o : Expr} {fn : Str} {C : Nat} (ho : PE X o (tVar i)) (hv : Ev G X Wx e g) (hC : Cls X.K (G.cn C)) (hN : NoAttr X.K (G.cn C) fn) (hs : swapsWith e (some (.Attribute o fn p')) pos.line X.env = pure false := by rfl) :
    Es G X Wx (.Assign [.Attribute o fn p'] e pos) (sFld i fn C g) := by
  obtain ⟨tv, pv, ev⟩ := hv.ex
  refine ⟨_, ps_fld ho pv hs, ?_⟩
  intro B ρ σ Hf H Q' E' Dd R q k kx
  obtain ⟨p, dx, fs, e, hlen, q⟩ := q
  refine ev B ρ σ Hf H _ _ _ R q (fun v d Hf1 H1 R1 n1 r1 q1 => ?_) kx.at
  obtain ⟨gs, e1, h1, h2, h3, r⟩ := R1.sl i _ e
  refine ⟨_, e1, p, _, dx, gs, rfl, h3, hC, hN, by rw [r.length]; exact hlen, ?_⟩
  exact k.nx _ σ Hf1 _ (R1.write (s' := .oi p dx C (putD fn d fs)) e rfl e1 h1 h2 rfl ⟨_, rfl, h1, h2, upd_same, r.put r1⟩) n1.sm q1
/-- the length of an own list -/
def lenO (i : Nat) : Env → W D := fun ρ Q _ => ∃ ds, ρ[i]? = some (.ow ds) ∧ Q (.int ds.length)
theorem ev_lenO {i : Nat} {x : Str} {p p2 : Pos} (hp : PE X (.Call (.Name "len" p) [.Name x p2] [] pos) (tCB (rLenX X.K) (tCons (tVar i) tNil))) (hK : X.K = G.K) : Ev G X Wx (.Call (.Name "len" p) [.Name x p2] [] pos) (lenO i) := by
  refine ⟨_, hp, ?_⟩
  intro B ρ σ Hf H Q' E' Q R q k kx
  obtain ⟨ds, e, q⟩ := q
  obtain ⟨p, vs, e1, h1, h2, h3, r⟩ := R.sl i _ e
  exact ⟨_, e1, p, vs, rfl, .inl (SqL.of h3), k _ _ Hf H R Nx.refl (by rw [r.length]; exact .int _) q⟩
/-- an item of an own list -/
def ixO (i : Nat) (g : Env → W D) : Env → W D := fun ρ Q E => ∃ ds, ρ[i]? = some (.ow ds) ∧ g ρ (fun k => ∃ j d, k = .int j ∧ atI ds j = some d ∧ Q d) E
theorem ev_ixO {i : Nat} {x : Str} {p2 : Pos} (ho : PE X (.Name x p2) (tVar i)) (hk : Ev G X Wx k ga) (hs : PlainIx k) : Ev G X Wx (.Subscript (.Name x p2) k pos) (ixO i ga) := by
  obtain ⟨tk, pk, ek⟩ := hk.ex
  refine ⟨_, pe_ix op_ix ho pk hs, ?_⟩
  intro B ρ σ Hf H Q' E' Q R q kk kx
  obtain ⟨ds, e, q⟩ := q
  obtain ⟨p, vs, e1, h1, h2, h3, r⟩ := R.sl i _ e
  refine ⟨_, e1, ?_⟩
  refine ek B ρ σ Hf H _ _ _ R q (fun v d Hf1 H1 R1 n1 r1 q1 => ?_) kx
  obtain ⟨j, d, rfl, ha, q1⟩ := q1
  obtain ⟨p2, vs2, e2, h1', h2', h3', r'⟩ := R1.sl i _ e
  rw [e1] at e2
  cases e2
  cases r1
  obtain ⟨v, hv, rv⟩ := r'.atI ha
  exact .inl ⟨p, vs2, j, v, rfl, rfl, SqL.of h3', hv, kk _ _ Hf1 H1 R1 n1 rv q1⟩

/-! ### loops -/
def forE (gt : D → Env → W Env) (body : Env → Ws) : List D → Env → Ws
  | [], ρ => fun Q _ => Q .nx ρ
  | d :: ds, ρ => fun Q E => gt d ρ (fun ρ2 => body ρ2 (fun fl ρ3 => match fl with | .nx => forE gt body ds ρ3 Q E | .ct => forE gt body ds ρ3 Q E | .bk => Q .nx ρ3 | .rt v => Q (.rt v) ρ3) E) (fun _ => False)
def sFor (gi : Env → W (List D)) (gt : D → Env → W Env) (body : Env → Ws) : Env → Ws := fun ρ Q E => gi ρ (fun ds => forE gt body ds ρ Q E) (fun x => E x ρ)
theorem es_for {sl : List Nat} {gi : Env → W (List D)} {gt : D → Env → W Env} (hp : PassesOwn (model X.prog X.w) X.A X.env X.xe) (hc : X.calm = true) (h1 : Ei G X Wx tg iter gi) (h2 : Eg G X tg sl gt) (h3 : Ess G X Wx sts f) (hs : ∀ x, foldedSetIterable iter X.env x = pure x := by intro _; rfl) : Es G X Wx (.For tg iter sts [] pos) (sFor gi gt f) := by
  obtain ⟨wi, pi, ei⟩ := h1.ex
  obtain ⟨t2, p2, e2⟩ := h2.ex
  obtain ⟨t3, p3, e3⟩ := h3.ex
  refine ⟨_, ps_for hp hc pi p2 p3 hs, ?_⟩
  intro B ρ σ Hf H Q' E' Dd R q k kx
  refine ei B ρ σ Hf H _ _ _ R q (fun J ds Hf1 H1 R1 n1 wk q1 => ?_) kx.at
  refine for_it (n := ds.length) (G := fun H => Same Hf1 H) (Y := fun i H x H' => J.yld i H x H') ⟨fun i H hi s => wk.go i H s hi, fun H s => wk.stop H s, fun i H x H' _ _ y => y⟩
    (fun i σ H => ∃ ρ' Hf2, Rep G B ρ' σ Hf2 H ∧ Same Hf1 Hf2 ∧ forE gt f (ds.drop i) ρ' Q' E') ?_ ?_ ?_ ?_
  · exact ⟨ρ, Hf1, R1, Same.refl _, q1⟩
  · rintro i σ' H' _ ⟨ρ', Hf2, R2, s2, _⟩
    exact s2.trans R2.sm
  · rintro i x σ' H2 H3 hi ⟨ρ', Hf2, R2, s2, q2⟩ y
    obtain ⟨d, hdd⟩ : ∃ d, ds[i]? = some d := ⟨ds[i], by simp [hi]⟩
    obtain ⟨Hf3, R3, n3, rx⟩ := wk.step s2 R2 hdd y
    have hdrop : ds.drop i = d :: ds.drop (i + 1) := by
      rw [List.drop_eq_getElem_cons hi]
      have : ds[i] = d := by
        rw [List.getElem?_eq_getElem hi] at hdd
        exact Option.some.inj hdd
      rw [this]
    rw [hdrop] at q2
    have s3 := s2.trans n3.sm
    refine e2 B ρ' σ' Hf3 H3 x d _ _ _ R3 rx q2 fun ρ2 σ2 R4 _ q4 => ?_
    refine e3 B ρ2 σ2 Hf3 H3 _ _ _ R4 q4 ⟨fun ρ5 σ5 Hf5 H5 R5 s5 q5 => ⟨ρ5, Hf5, R5, s3.trans s5, q5⟩, fun ρ5 σ5 v d Hf5 H5 R5 s5 r5 q5 => k.rt ρ5 σ5 v d Hf5 H5 R5 ((n1.sm.trans s3).trans s5) r5 q5,
      fun ρ5 σ5 Hf5 H5 R5 s5 q5 => k.nx ρ5 σ5 Hf5 H5 R5 ((n1.sm.trans s3).trans s5) q5, fun ρ5 σ5 Hf5 H5 R5 s5 q5 => ⟨ρ5, Hf5, R5, s3.trans s5, q5⟩⟩ (kx.mono (n1.sm.trans s3))
  · rintro σ' H2 ⟨ρ', Hf2, R2, s2, q2⟩
    have e : ds.drop ds.length = [] := by simp
    rw [e] at q2
    exact k.nx ρ' σ' Hf2 H2 R2 (n1.sm.trans s2) q2
def whN (c : Env → W Bool) (body : Env → Ws) : Nat → Env → Ws
  | 0, _ => fun _ _ => False
  | n + 1, ρ => fun Q E => c ρ (fun b => if b = true then body ρ (fun fl ρ3 => match fl with | .nx => whN c body n ρ3 Q E | .ct => whN c body n ρ3 Q E | .bk => Q .nx ρ3 | .rt v => Q (.rt v) ρ3) E else Q .nx ρ) (fun x => E x ρ)
def sWhile (c : Env → W Bool) (body : Env → Ws) : Env → Ws := fun ρ Q E => ∃ n, whN c body n ρ Q E
theorem es_while {bc : Env → W Bool} (hp : PassesOwn (model X.prog X.w) X.A X.env X.xe) (h1 : Eb G X Wx c bc) (h3 : Ess G X Wx sts f) : Es G X Wx (.While c sts [] pos) (sWhile bc f) := by
  obtain ⟨tc, pc, ec⟩ := h1.ex
  obtain ⟨t3, p3, e3⟩ := h3.ex
  refine ⟨_, ps_while hp pc p3, ?_⟩
  intro B ρ σ Hf H Q' E' Dd R q k kx
  obtain ⟨n, q⟩ := q
  refine ⟨fun m σ' H' => ∃ ρ' Hf2, Rep G B ρ' σ' Hf2 H' ∧ Same Hf Hf2 ∧ whN bc f m ρ' Q' E', ⟨n, ρ, Hf, R, Same.refl _, q⟩, ?_⟩
  rintro m σ' H' ⟨ρ', Hf2, R2, s2, q2⟩
  cases m with
  | zero => exact False.elim q2
  | succ m =>
    refine ec B ρ' σ' Hf2 H' _ _ _ R2 q2 (fun b Hf3 H3 R3 n3 q3 => ?_) (kx.mono s2).at
    have s3 := s2.trans n3.sm
    cases b with
    | true =>
      refine iteT ⟨fun σ5 H5 => ∃ ρ5 Hf5, Rep G B ρ5 σ5 Hf5 H5 ∧ Same Hf Hf5 ∧ whN bc f m ρ5 Q' E', fun σ5 H5 z => ⟨m, Nat.lt_succ_self _, z⟩, ?_⟩
      exact e3 B ρ' σ' Hf3 H3 _ _ _ R3 q3 ⟨fun ρ5 σ5 Hf5 H5 R5 s5 q5 => ⟨ρ5, Hf5, R5, s3.trans s5, q5⟩, fun ρ5 σ5 v d Hf5 H5 R5 s5 r5 q5 => k.rt ρ5 σ5 v d Hf5 H5 R5 (s3.trans s5) r5 q5,
        fun ρ5 σ5 Hf5 H5 R5 s5 q5 => k.nx ρ5 σ5 Hf5 H5 R5 (s3.trans s5) q5, fun ρ5 σ5 Hf5 H5 R5 s5 q5 => ⟨ρ5, Hf5, R5, s3.trans s5, q5⟩⟩ (kx.mono s3)
    | false => exact iteF (k.nx ρ' σ' Hf3 H3 R3 s3 q3)
end

/-! ### defs -/
/-- arguments as a callee sees them -/
def A1 (G : Ctx) (Hf H : Hp) (v : V) : Sl → Prop
  | .fz d => Rp G.cn Hf v d
  | .pool => ∃ p, v = .ref p ∧ Hf p = none ∧ PoolAt G H p
  | .scr ns => ∃ p, v = .ref p ∧ SqL G.K Hf p (ns.map V.int)
  | .un => True
  | _ => False
inductive As (G : Ctx) (Hf H : Hp) : List V → List Sl → Prop
  | nil : As G Hf H [] []
  | cons {v : V} {s : Sl} {vs : List V} {ss : List Sl} : A1 G Hf H v s → As G Hf H vs ss → As G Hf H (v :: vs) (s :: ss)
theorem As.length {G : Ctx} {Hf H : Hp} : ∀ {vs : List V} {ss : List Sl}, As G Hf H vs ss → vs.length = ss.length
  | _, _, .nil => rfl
  | _, _, .cons _ t => congrArg (· + 1) (As.length t)
theorem As.get {G : Ctx} {Hf H : Hp} : ∀ {vs : List V} {ss : List Sl} {i : Nat} {s : Sl}, As G Hf H vs ss → ss[i]? = some s → ∃ v, vs[i]? = some v ∧ A1 G Hf H v s
  | _, _, _, _, .nil, e => by simp at e
  | _, _, 0, s, .cons r _, e => by simp at e; subst e; exact ⟨_, rfl, r⟩
  | _, _, i + 1, s, .cons _ t, e => by
    obtain ⟨v, h1, h2⟩ := As.get (i := i) (s := s) t (by simpa using e)
    exact ⟨v, by simpa using h1, h2⟩
/-- behind a call -/
structure CNx (G : Ctx) (as : List Sl) (vs : List V) (Hf H Hf' H' : Hp) : Prop where
  nx : Nx as (vs.map some) Hf H Hf' H'
  sm : Same Hf' H'
  pl : ∀ b, IsPool as (vs.map some) b → Hf' b = none ∧ PoolAt G H' b
def PSp (G : Ctx) (m : List Sl → W D) : Sp := fun vs H Q E => ∃ Hf as Q' E', Same Hf H ∧ As G Hf H vs as ∧ m as Q' E' ∧ (∀ v d Hf' H', CNx G as vs Hf H Hf' H' → Rp G.cn Hf' v d → Q' d → Q v H') ∧
  (∀ x cls d Hf' H', CNx G as vs Hf H Hf' H' → XRep G Hf' x cls d → E' x → E cls d H')
/-- a def's function, from its body's -/
def mFun (n N : Nat) (g : Env → Ws) : List Sl → W D := fun as Q E => as.length = n ∧ g (as ++ List.replicate (N - n) .un) (fun fl _ => match fl with | .rt d => Q d | .nx => Q .non | _ => False) (fun x _ => E x)
theorem start_get {N : List Str} {vs : List V} {i : Nat} : (L2.start N vs)[i]? = if i < vs.length then (vs.map some)[i]? else if i < vs.length + (N.length - vs.length) then some none else none := by
  unfold L2.start
  by_cases h : i < vs.length
  · rw [List.getElem?_append_left (by simpa using h), if_pos h]
  · rw [List.getElem?_append_right (by simpa using h), if_neg h, List.getElem?_replicate, List.length_map]
    by_cases h2 : i < vs.length + (N.length - vs.length)
    · rw [if_pos h2, if_pos (by omega)]
    · rw [if_neg h2, if_neg (by omega)]
theorem rep_start {G : Ctx} {N : List Str} {vs : List V} {as : List Sl} {Hf H : Hp} (s : Same Hf H) (A : As G Hf H vs as) (hn : as.length ≤ N.length) :
    Rep G ⟨IsPool as (vs.map some), Hf, H⟩ (as ++ List.replicate (N.length - as.length) .un) (L2.start N vs) Hf H := by
  have hl := A.length
  have own_lt : ∀ {i : Nat} {t : Sl}, (as ++ List.replicate (N.length - as.length) Sl.un)[i]? = some t → t ≠ .un → as[i]? = some t := fun {i t} e z => by
    by_cases h : i < as.length
    · rw [List.getElem?_append_left h] at e; exact e
    · rw [List.getElem?_append_right (by omega), List.getElem?_replicate] at e
      split at e
      · cases e; exact absurd rfl z
      · cases e
  refine ⟨?_, s, Same.refl _, fun b o _ n => n, fun b o e _ => e, fun b hb => ?_, fun b hb => ?_, fun i t e => ?_, fun i j p t t' ne e1 ku e2 k e3 e4 => ?_⟩
  · unfold L2.start; simp; omega
  · obtain ⟨i, h1, h2⟩ := hb
    obtain ⟨v, h3, p, rfl, h4, h5⟩ := A.get h1
    rw [List.getElem?_map, h3] at h2
    cases h2
    exact ⟨h4, h5⟩
  · obtain ⟨i, h1, h2⟩ := hb
    obtain ⟨v, h3, p, rfl, h4, us, h5, _⟩ := A.get h1
    rw [List.getElem?_map, h3] at h2
    cases h2
    exact ⟨(show H b ≠ none by rw [h5]; simp), h4⟩
  · cases t with
    | un => trivial
    | fz d =>
      obtain ⟨v, h1, h2⟩ := A.get (own_lt e (by simp))
      have hi : i < vs.length := (List.getElem?_eq_some_iff.mp h1).1
      exact ⟨v, by rw [start_get, if_pos hi, List.getElem?_map, h1]; rfl, h2⟩
    | pool =>
      have e' := own_lt e (by simp)
      obtain ⟨v, h1, p, rfl, h3, h4⟩ := A.get e'
      have hi : i < vs.length := (List.getElem?_eq_some_iff.mp h1).1
      exact ⟨p, by rw [start_get, if_pos hi, List.getElem?_map, h1]; rfl, h3, .inl ⟨i, e', by rw [List.getElem?_map, h1]; rfl⟩, h4⟩
    | scr ns =>
      obtain ⟨v, h1, p, rfl, h3⟩ := A.get (own_lt e (by simp))
      have hi : i < vs.length := (List.getElem?_eq_some_iff.mp h1).1
      exact ⟨p, by rw [start_get, if_pos hi, List.getElem?_map, h1]; rfl, h3⟩
    | ow ds => obtain ⟨v, h1, h2⟩ := A.get (own_lt e (by simp)); exact h2.elim
    | oi _ _ C fs => obtain ⟨v, h1, h2⟩ := A.get (own_lt e (by simp)); exact h2.elim
  · cases t with
    | ow ds => obtain ⟨v, h1, h2⟩ := A.get (own_lt e1 (by simp)); exact h2.elim
    | oi _ _ C fs => obtain ⟨v, h1, h2⟩ := A.get (own_lt e1 (by simp)); exact h2.elim
    | _ => cases ku
theorem Rep.cnx {G : Ctx} {as : List Sl} {vs : List V} {ρ : Env} {σ : St} {Hf H Hf' H' : Hp} (R : Rep G ⟨IsPool as (vs.map some), Hf, H⟩ ρ σ Hf' H') : CNx G as vs Hf H Hf' H' :=
  ⟨⟨R.sm0, fun b o e n => ⟨R.unf b o e n, by
    by_cases h : IsPool as (vs.map some) b
    · obtain ⟨_, us, q, _⟩ := R.pl b h
      exact ⟨_, q, fun z => absurd h z⟩
    · exact ⟨o, R.kp b o e h, fun _ => rfl⟩⟩⟩, R.sm, R.pl⟩
section
variable {P : Program} {w : World} {K : PySem.W.Frag} {mg : Str → Option Value} {base : Heap} {G : Ctx}
theorem body_ok {X : Cx} {Wx : WX} {N : List Str} {body : List Stmt} {g : Env → Ws} {n : Nat} {vs : List V} {H : Hp} {Q : VK} {E : XK} (hb : Ess G X Wx body g) (hn : n ≤ N.length) (hW : ∀ cls d σ H, E cls d H → Wx cls d σ H)
    (h : PSp G (mFun n N.length g) vs H Q E) : ∃ t, PSs X body t ∧ t { nx := fun _ H' => Q .non H', rt := Q } (L2.start N vs) H := by
  obtain ⟨Hf, as, Q', E', s, A, ⟨hl, q⟩, k, kx⟩ := h
  obtain ⟨t, p, ev⟩ := hb.ex
  refine ⟨t, p, ?_⟩
  subst hl
  have R := rep_start (N := N) s A hn
  refine ev _ _ _ Hf H _ _ _ R q ⟨fun ρ' σ' Hf' H' R' s' q' => k _ _ Hf' H' R'.cnx .non q', fun ρ' σ' v d Hf' H' R' s' r q' => k v d Hf' H' R'.cnx r q', fun ρ' σ' Hf' H' R' s' q' => q'.elim, fun ρ' σ' Hf' H' R' s' q' => q'.elim⟩ ?_
  intro x cls d ρ' σ' Hf' H' R' s' xr e
  exact hW _ _ _ _ (kx x cls d Hf' H' R'.cnx xr e)
theorem sp_len {m : List Sl → W D} {n : Nat} (hm : ∀ as Q E, m as Q E → as.length = n) {vs : List V} {H : Hp} {Q : VK} {E : XK} (h : PSp G m vs H Q E) : vs.length = n := by
  obtain ⟨Hf, as, Q', E', s, A, q, _⟩ := h
  rw [A.length]; exact hm _ _ _ q
theorem fn_ok {x qual : Str} {st : Stmt} {f : Addr} {fd : FuncData} {N ps : List Str} {k : Nat} {g : Env → Ws} (F : Fun K x qual st f fd) (S : FnScope N ps (defScope st))
    (hb : ∀ (cdv : Value) (A : Around) (outer : List PySem.Env) (s : Shared) (H : Hp) (E : XK), Room k (A.deeper (envOfC qual (defScope st) s.heap.objs.size f cdv)) → Takes (cxOf (L2.CX P w) P w K mg base N qual (defScope st) f cdv A outer s H E) (fun cls d _ H => E cls d H) →
      Ess G (cxOf (L2.CX P w) P w K mg base N qual (defScope st) f cdv A outer s H E) (fun cls d _ H => E cls d H) (defBody st) g) : FnOk P w K mg base (L2.CX P w) (k + 1) f fd ps (PSp G (mFun ps.length N.length g)) := by
  have hn : ps.length ≤ N.length := by have := congrArg List.length S.pre; rw [List.length_take] at this; omega
  refine F.okX S (fun vs H Q E h => sp_len (fun as Q E q => q.1) h) fun cdv A outer s H vs Q E hr h => ?_
  exact body_ok (hb cdv A outer s H E hr (takes_of rfl rfl rfl rfl)) hn (fun _ _ _ _ z => z) h
/-- .. the law: no exception leaves it -/
theorem law_ok {x qual : Str} {st : Stmt} {f : Addr} {fd : FuncData} {N : List Str} {p : Str} {k n : Nat} {g : Env → Ws} (F : Fun K x qual st f fd) (S : FnScope N [p] (defScope st)) (hGK : G.K = K)
    (hb : ∀ (cdv : Value) (A : Around) (outer : List PySem.Env) (s : Shared) (H : Hp), Room k (A.deeper (envOfC qual (defScope st) s.heap.objs.size f cdv)) →
      Ess G (cxOf CX0 P w K mg base N qual (defScope st) f cdv A outer s H E0).nox WF (defBody st) g)
    (hm : ∀ ns : List Int, ns.length ≤ n → mFun 1 N.length g [.scr ns] (fun d => d = .bl true) (fun _ => False)) :
    FnOk P w K mg base CX0 (k + 1) f fd [p] (fun vs H Q _ => ∃ (a : Addr) (ns : List Int), vs = [.ref a] ∧ SqL K H a (ns.map V.int) ∧ ns.length ≤ n ∧ ∀ H', Q (.bl true) H') := by
  have hn : 1 ≤ N.length := by have := congrArg List.length S.pre; rw [List.length_take] at this; simp at this; omega
  refine F.ok S (fun vs H Q E h => ?_) fun cdv A outer s H vs Q E hr h => ?_
  · obtain ⟨a, ns, rfl, _⟩ := h
    rfl
  · obtain ⟨a, ns, rfl, hS, hl, k⟩ := h
    subst hGK
    refine body_ok (E := E0) (hb cdv A outer s H hr) hn (fun _ _ _ _ z => z) ⟨H, [.scr ns], _, _, Same.refl _, .cons ⟨a, rfl, hS⟩ .nil, hm ns hl, fun v d Hf' H' _ r e => ?_, fun _ _ _ _ _ _ _ e => e.elim⟩
    subst e
    cases r
    exact k _
end
end PL

set_option Elab.async false
set_option linter.all false
set_option maxRecDepth 100000
set_option maxHeartbeats 2000000
namespace PL
open PySem L2
open PyProof.Rows (envOfC)

/-! ### arguments of a def's call -/
def NoOne (ρ : Env) (σ : St) (p : Addr) : Prop := ∀ (i : Nat) (s : Sl), ρ[i]? = some s → s.own = true → σ[i]? ≠ some (some (.ref p))
def PA1 (G : Ctx) (B : Bs) (ρ : Env) (σ : St) (H Hf' H' : Hp) (v : V) : Sl → Prop
  | .fz d => Rp G.cn Hf' v d
  | .pool => ∃ p, v = .ref p ∧ Hf' p = none ∧ PoolAt G H' p ∧ (IsPool ρ σ p ∨ (H p = none ∧ B.H p = none ∧ NoOne ρ σ p))
  | .scr ns => ∃ p, v = .ref p ∧ SqL G.K Hf' p (ns.map V.int)
  | .un => True
  | _ => False
inductive PAs (G : Ctx) (B : Bs) (ρ : Env) (σ : St) (H Hf' H' : Hp) : List V → List Sl → Prop
  | nil : PAs G B ρ σ H Hf' H' [] []
  | cons {v : V} {s : Sl} {vs : List V} {ss : List Sl} : PA1 G B ρ σ H Hf' H' v s → PAs G B ρ σ H Hf' H' vs ss → PAs G B ρ σ H Hf' H' (v :: vs) (s :: ss)
section
variable {G : Ctx} {B : Bs} {ρ : Env} {σ : St} {H Hf1 H1 Hf' H' : Hp}
theorem PA1.mono {v : V} {s : Sl} (a : PA1 G B ρ σ H Hf1 H1 v s) (R : Rep G B ρ σ Hf' H') (n : Nx ρ σ Hf1 H1 Hf' H') : PA1 G B ρ σ H Hf' H' v s := by
  cases s with
  | fz d => exact Rp.mono n.sm a
  | pool =>
    obtain ⟨p, e, h1, ⟨vs, h2, h3⟩, h4⟩ := a
    obtain ⟨n1, o', n2, n3⟩ := n.kp p _ h2 h1
    refine ⟨p, e, n1, ?_, h4⟩
    by_cases hp : IsPool ρ σ p
    · obtain ⟨i, i1, i2⟩ := hp
      obtain ⟨p2, e2, _, _, q⟩ := R.sl i _ i1
      rw [i2] at e2
      cases e2
      exact q
    · rw [n3 hp] at n2
      exact ⟨vs, n2, h3⟩
  | scr ns => obtain ⟨p, e, h⟩ := a; exact ⟨p, e, n.sm.seq h⟩
  | un => trivial
  | _ => exact a.elim
theorem PAs.mono (R : Rep G B ρ σ Hf' H') (n : Nx ρ σ Hf1 H1 Hf' H') : ∀ {vs : List V} {ss : List Sl}, PAs G B ρ σ H Hf1 H1 vs ss → PAs G B ρ σ H Hf' H' vs ss
  | _, _, .nil => .nil
  | _, _, .cons a t => .cons (a.mono R n) (PAs.mono R n t)
theorem PA1.a1 {v : V} {s : Sl} (a : PA1 G B ρ σ H Hf1 H1 v s) : A1 G Hf1 H1 v s := by
  cases s with
  | pool => obtain ⟨p, e, h1, h2, _⟩ := a; exact ⟨p, e, h1, h2⟩
  | _ => exact a
theorem PAs.as : ∀ {vs : List V} {ss : List Sl}, PAs G B ρ σ H Hf1 H1 vs ss → As G Hf1 H1 vs ss
  | _, _, .nil => .nil
  | _, _, .cons a t => .cons a.a1 (PAs.as t)
theorem PAs.pool : ∀ {vs : List V} {ss : List Sl}, PAs G B ρ σ H Hf1 H1 vs ss → ∀ b, IsPool ss (vs.map some) b → (IsPool ρ σ b ∨ (H b = none ∧ B.H b = none ∧ NoOne ρ σ b))
  | _, _, .nil, b, ⟨i, e, _⟩ => by simp at e
  | _, _, .cons a t, b, ⟨0, e1, e2⟩ => by
    simp only [List.getElem?_cons_zero, Option.some.injEq] at e1
    subst e1
    obtain ⟨p, e, _, _, h⟩ := a
    simp only [List.map_cons, List.getElem?_cons_zero, Option.some.injEq] at e2
    rw [e] at e2
    cases e2
    exact h
  | _, _, .cons a t, b, ⟨i + 1, e1, e2⟩ => PAs.pool t b ⟨i, by simpa using e1, by simpa using e2⟩
theorem PAs.move {Hf2 H2 : Hp} (k : ∀ b, H1 b = none → H b = none) : ∀ {vs : List V} {ss : List Sl}, PAs G B ρ σ H1 Hf2 H2 vs ss → PAs G B ρ σ H Hf2 H2 vs ss
  | _, _, .nil => .nil
  | _, _, .cons (s := s) a t => .cons (by
    cases s with
    | pool => obtain ⟨p, e, h1, h2, h3⟩ := a; exact ⟨p, e, h1, h2, h3.elim .inl fun z => .inr ⟨k _ z.1, z.2⟩⟩
    | _ => exact a) (PAs.move k t)
/-- behind a call -/
theorem Rep.call {vs : List V} {as : List Sl} (R : Rep G B ρ σ Hf1 H1) (A : PAs G B ρ σ H Hf1 H1 vs as) (c : CNx G as vs Hf1 H1 Hf' H') : Rep G B ρ σ Hf' H' := by
  refine ⟨R.len, c.sm, R.sm0.trans c.nx.sm, fun b o e n => ?_, fun b o e n => ?_, fun b hb => ?_, R.p0, fun i s e => ?_, R.ds⟩
  · have h1 := R.unf b o e n
    by_cases hb : B.P b
    · obtain ⟨_, us, q, _⟩ := R.pl b hb
      exact (c.nx.kp b _ q h1).1
    · exact (c.nx.kp b _ (R.kp b o e hb) h1).1
  · have e1 := R.kp b o e n
    by_cases hf : Hf1 b = none
    · obtain ⟨_, o', e2, q⟩ := c.nx.kp b _ e1 hf
      rw [e2, q fun z => ?_]
      rcases A.pool b z with ⟨i, z1, z2⟩ | ⟨_, z, _⟩
      · obtain ⟨p, y1, _, y2, _⟩ := R.sl i _ z1
        rw [z2] at y1
        cases y1
        rcases y2 with y | y
        · exact n y
        · rw [e] at y; cases y
      · rw [e] at z; cases z
    · cases q : Hf1 b with
      | none => exact absurd q hf
      | some u =>
        have := R.sm _ _ q
        rw [e1] at this
        cases this
        exact c.sm _ _ (c.nx.sm _ _ q)
  · obtain ⟨h1, us, q, r⟩ := R.pl b hb
    obtain ⟨n1, o', e2, q2⟩ := c.nx.kp b _ q h1
    refine ⟨n1, ?_⟩
    by_cases hp : IsPool as (vs.map some) b
    · exact (c.pl b hp).2
    · rw [q2 hp] at e2; exact ⟨us, e2, r⟩
  · have q := R.sl i s e
    have keep : ∀ {a : Addr} {o : HO}, s.uniq = true → σ[i]? = some (some (.ref a)) → H1 a = some o → Hf1 a = none → Hf' a = none ∧ H' a = some o := fun {a o} u e1 h1 h2 => by
      obtain ⟨n1, o', e2, q2⟩ := c.nx.kp a _ h1 h2
      refine ⟨n1, ?_⟩
      rw [e2, q2 fun z => ?_]
      rcases A.pool a z with ⟨j, z1, z2⟩ | ⟨_, _, z⟩
      · by_cases hj : i = j
        · subst hj; rw [e] at z1; cases z1; cases u
        · exact R.ds i j a _ _ hj e u z1 rfl e1 z2
      · exact z i s e (by cases s <;> first | rfl | cases u) e1
    cases s with
    | un => trivial
    | fz d => obtain ⟨x, e1, r⟩ := q; exact ⟨x, e1, r.mono c.nx.sm⟩
    | ow ds =>
      obtain ⟨a, us, e1, h1, h2, h3, r⟩ := q
      obtain ⟨k1, k2⟩ := keep rfl e1 h3 h1
      exact ⟨a, us, e1, k1, h2, k2, r.mono c.nx.sm⟩
    | oi a dx C fs =>
      obtain ⟨gs, e1, h1, h2, h3, r⟩ := q
      obtain ⟨k1, k2⟩ := keep rfl e1 h3 h1
      exact ⟨gs, e1, k1, h2, k2, r.mono c.nx.sm⟩
    | pool =>
      obtain ⟨a, e1, h1, h2, us, h3, h4⟩ := q
      obtain ⟨n1, o', e2, q2⟩ := c.nx.kp a _ h3 h1
      refine ⟨a, e1, n1, h2, ?_⟩
      by_cases hp : IsPool as (vs.map some) a
      · exact (c.pl a hp).2
      · rw [q2 hp] at e2; exact ⟨us, e2, h4⟩
    | scr ns => obtain ⟨a, e1, h1⟩ := q; exact ⟨a, e1, c.nx.sm.seq h1⟩
theorem Nx.none {b : Addr} (R1 : Rep G B ρ σ Hf1 H1) (s : Same Hf' H') (n : Nx ρ σ Hf' H' Hf1 H1) (h : H1 b = none) : H' b = none := by
  cases e : H' b with
  | none => rfl
  | some o =>
    cases z : Hf' b with
    | none =>
      obtain ⟨_, o', e', _⟩ := n.kp _ _ e z
      rw [h] at e'; cases e'
    | some u => rw [R1.sm _ _ (n.sm _ _ z)] at h; cases h
theorem Nx.call {vs : List V} {as : List Sl} {Hf0 : Hp} (n : Nx ρ σ Hf0 H Hf1 H1) (A : PAs G B ρ σ H Hf1 H1 vs as) (c : CNx G as vs Hf1 H1 Hf' H') : Nx ρ σ Hf0 H Hf' H' :=
  ⟨n.sm.trans c.nx.sm, fun b o e z => by
    obtain ⟨n1, o1, e1, q1⟩ := n.kp b o e z
    obtain ⟨n2, o2, e2, q2⟩ := c.nx.kp b o1 e1 n1
    refine ⟨n2, o2, e2, fun hp => ?_⟩
    rw [q2 fun y => ?_, q1 hp]
    rcases A.pool b y with y | ⟨y, _⟩
    · exact hp y
    · rw [e] at y; cases y⟩
end
def EcT (G : Ctx) (Wx : WX) (t : TA) (g : Env → W (List Sl)) : Prop :=
  ∀ (B : Bs) (ρ : Env) (σ : St) (Hf H : Hp) (Q' : List Sl → Prop) (E' : Xc → Prop) (Q : List V → Hp → Prop), Rep G B ρ σ Hf H → g ρ Q' E' →
    (∀ vs as Hf' H', Rep G B ρ σ Hf' H' → Nx ρ σ Hf H Hf' H' → PAs G B ρ σ H Hf' H' vs as → Q' as → Q vs H') → XPost G Wx σ Hf H B ρ E' → t σ H Q
structure Ec (G : Ctx) (X : Cx) (Wx : WX) (es : List Expr) (g : Env → W (List Sl)) : Prop where
  ex : ∃ t, PA X es t ∧ EcT G Wx t g
def nilC : Env → W (List Sl) := fun _ => W.pure []
def dC (g : Env → W D) (gs : Env → W (List Sl)) : Env → W (List Sl) := fun ρ => do let d ← g ρ; let r ← gs ρ; W.pure (.fz d :: r)
def slC (i : Nat) (gs : Env → W (List Sl)) : Env → W (List Sl) := fun ρ Q E => (ρ[i]? = some .pool ∧ gs ρ (fun r => Q (.pool :: r)) E) ∨ (∃ ns, ρ[i]? = some (.scr ns) ∧ gs ρ (fun r => Q (.scr ns :: r)) E)
def newC (g : Env → W Unit) (gs : Env → W (List Sl)) : Env → W (List Sl) := fun ρ => do let _ ← g ρ; let r ← gs ρ; W.pure (.pool :: r)
/-- a new pool -/
def EpT (G : Ctx) (Wx : WX) (t : TE) (g : Env → W Unit) : Prop :=
  ∀ (B : Bs) (ρ : Env) (σ : St) (Hf H : Hp) (Q' : Unit → Prop) (E' : Xc → Prop) (Q : VK), Rep G B ρ σ Hf H → g ρ Q' E' →
    (∀ p Hf' H', Rep G B ρ σ Hf' H' → Nx ρ σ Hf H Hf' H' → H p = none → Hf' p = none → PoolAt G H' p → B.H p = none → NoOne ρ σ p → Q' () → Q (.ref p) H') → XPost G Wx σ Hf H B ρ E' → t σ H Q
structure Ep (G : Ctx) (X : Cx) (Wx : WX) (e : Expr) (g : Env → W Unit) : Prop where
  ex : ∃ t, PE X e t ∧ EpT G Wx t g
section
variable {G : Ctx} {X : Cx} {Wx : WX} {a b c e o : Expr} {es : List Expr} {ga gb gc g : Env → W D} {gs : Env → W (List Sl)} {pos apos p : Pos}
theorem ec_nil : Ec G X Wx [] nilC := ⟨_, pa_nil, fun B ρ σ Hf H Q' E' Q R q k kx => k [] [] Hf H R Nx.refl .nil q⟩
theorem ec_d (h : Ev G X Wx e g) (hr : Ec G X Wx es gs) (hs : starEach (e :: es) X.env = (false, eval e X.env) :: starEach es X.env := by rfl) : Ec G X Wx (e :: es) (dC g gs) := by
  obtain ⟨ta, pa, ea⟩ := h.ex
  obtain ⟨tb, pb, eb⟩ := hr.ex
  refine ⟨_, pa_cons pa pb hs, ?_⟩
  intro B ρ σ Hf H Q' E' Q R q k kx
  refine ea B ρ σ Hf H _ E' _ R q (fun v d Hf1 H1 R1 s1 r1 q1 => ?_) kx
  exact eb B ρ σ Hf1 H1 _ E' _ R1 q1 (fun vs ds Hf2 H2 R2 s2 r2 q2 => k _ _ Hf2 H2 R2 (s1.trans s2) (.cons (s := .fz d) (r1.mono s2.sm) (r2.move fun b z => Nx.none R1 R.sm s1 z)) q2) (kx.mono s1)
theorem ec_slot {i : Nat} {x : Str} (h : PE X (.Name x p) (tVar i)) (hr : Ec G X Wx es gs) (hs : starEach (.Name x p :: es) X.env = (false, eval (.Name x p) X.env) :: starEach es X.env := by rfl) : Ec G X Wx (.Name x p :: es) (slC i gs) := by
  obtain ⟨tb, pb, eb⟩ := hr.ex
  refine ⟨_, pa_cons h pb hs, ?_⟩
  intro B ρ σ Hf H Q' E' Q R q k kx
  rcases q with ⟨e, q⟩ | ⟨ns, e, q⟩
  · obtain ⟨p, e1, h1, h2, h3⟩ := R.sl i _ e
    refine ⟨_, e1, eb B ρ σ Hf H _ E' _ R q (fun vs ds Hf2 H2 R2 s2 r2 q2 => k _ _ Hf2 H2 R2 s2 (.cons ?_ r2) q2) kx⟩
    obtain ⟨p', e1', h1', _, h3'⟩ := R2.sl i _ e
    rw [e1] at e1'
    cases e1'
    exact ⟨p, rfl, h1', h3', .inl ⟨i, e, e1⟩⟩
  · obtain ⟨p, e1, h1⟩ := R.sl i _ e
    exact ⟨_, e1, eb B ρ σ Hf H _ E' _ R q (fun vs ds Hf2 H2 R2 s2 r2 q2 => k _ _ Hf2 H2 R2 s2 (.cons (s := .scr ns) ⟨p, rfl, s2.sm.seq h1⟩ r2) q2) kx⟩
theorem ec_new {gp : Env → W Unit} (h : Ep G X Wx e gp) (hr : Ec G X Wx es gs) (hs : starEach (e :: es) X.env = (false, eval e X.env) :: starEach es X.env := by rfl) : Ec G X Wx (e :: es) (newC gp gs) := by
  obtain ⟨ta, pa, ea⟩ := h.ex
  obtain ⟨tb, pb, eb⟩ := hr.ex
  refine ⟨_, pa_cons pa pb hs, ?_⟩
  intro B ρ σ Hf H Q' E' Q R q k kx
  refine ea B ρ σ Hf H _ E' _ R q (fun p Hf1 H1 R1 s1 h0 h1 h2 h3 h4 q1 => ?_) kx
  refine eb B ρ σ Hf1 H1 _ E' _ R1 q1 (fun vs ds Hf2 H2 R2 s2 r2 q2 => k _ _ Hf2 H2 R2 (s1.trans s2) (.cons ?_ (r2.move fun b z => Nx.none R1 R.sm s1 z)) q2) (kx.mono s1)
  have a : PA1 G B ρ σ H Hf1 H1 (.ref p) .pool := ⟨p, rfl, h1, h2, .inr ⟨h0, h3, h4⟩⟩
  exact a.mono R2 s2

/-! ### calls of defs -/
def callF (m : List Sl → W D) (gs : Env → W (List Sl)) : Env → W D := fun ρ => do let as ← gs ρ; m as
theorem evt_callF {t : TA} {m : List Sl → W D} (hs : EcT G Wx t gs) : EvT G Wx (tCallS (PSp G m) (WE Wx) t) (callF m gs) := by
  intro B ρ σ Hf H Q' E' Q R q k kx
  refine hs B ρ σ Hf H _ E' _ R q (fun vs as Hf1 H1 R1 n1 A q1 => ?_) kx
  exact ⟨Hf1, as, Q', E', R1.sm, A.as, q1, fun v d Hf' H' c r q' => k v d Hf' H' (R1.call A c) (n1.call A c) r q', fun x cls d Hf' H' c xr e => kx x cls d Hf' H' (R1.call A c) (n1.call A c) xr e⟩
theorem ev_call {x : Str} {m : List Sl → W D} {kk : Nat} {f : Addr} {fd : FuncData} {ps : List Str} (F : FnOk X.prog X.w X.K X.mg X.base (L2.CX X.prog X.w) kk f fd ps (PSp G m)) (hr : Room kk X.A) (hg : Gl X x) (hm : X.mg x = some (.ref f)) (hk : PySem.W.keepIn X.K (.ref f) = true)
    (hb : Binds X.K fd ps []) (tk : Takes X Wx) (ha : Ec G X Wx (e :: es) gs) (hdb : (x == ("__debug__" : Str)) = false := by decide) (he : starEach (e :: es) X.env = (false, eval e X.env) :: starEach es X.env := by rfl)
    (hpl : (backTo pos (starEach es X.env)).any (·.1) = false := by rfl) : Ev G X Wx (.Call (.Name x p) (e :: es) [] pos) (callF m gs) := by
  obtain ⟨t, pa, ea⟩ := ha.ex
  exact ⟨_, pe_callS F hr hg hm hk hb (fun σ => passAt tk σ) pa hdb he hpl, evt_callF ea⟩
/-- a def that hands back a new pool -/
def PSpP (G : Ctx) (m : List Sl → W Unit) : Sp := fun vs H Q E => ∃ Hf as Q' E', Same Hf H ∧ As G Hf H vs as ∧ m as Q' E' ∧ (∀ p Hf' H', CNx G as vs Hf H Hf' H' → H p = none → Hf' p = none → PoolAt G H' p → Q' () → Q (.ref p) H') ∧
  (∀ x cls d Hf' H', CNx G as vs Hf H Hf' H' → XRep G Hf' x cls d → E' x → E cls d H')
def callP (m : List Sl → W Unit) (gs : Env → W (List Sl)) : Env → W Unit := fun ρ => do let as ← gs ρ; m as
theorem ep_call {x : Str} {m : List Sl → W Unit} {kk : Nat} {f : Addr} {fd : FuncData} {ps : List Str} (F : FnOk X.prog X.w X.K X.mg X.base (L2.CX X.prog X.w) kk f fd ps (PSpP G m)) (hr : Room kk X.A) (hg : Gl X x) (hm : X.mg x = some (.ref f)) (hk : PySem.W.keepIn X.K (.ref f) = true)
    (hb : Binds X.K fd ps []) (tk : Takes X Wx) (ha : Ec G X Wx (e :: es) gs) (hdb : (x == ("__debug__" : Str)) = false := by decide) (he : starEach (e :: es) X.env = (false, eval e X.env) :: starEach es X.env := by rfl)
    (hpl : (backTo pos (starEach es X.env)).any (·.1) = false := by rfl) : Ep G X Wx (.Call (.Name x p) (e :: es) [] pos) (callP m gs) := by
  obtain ⟨t, pa, ea⟩ := ha.ex
  refine ⟨_, pe_callS F hr hg hm hk hb (fun σ => passAt tk σ) pa hdb he hpl, ?_⟩
  intro B ρ σ Hf H Q' E' Q R q k kx
  refine ea B ρ σ Hf H _ E' _ R q (fun vs as Hf1 H1 R1 n1 A q1 => ?_) kx
  exact ⟨Hf1, as, Q', E', R1.sm, A.as, q1, fun p Hf' H' c h1 h2 h3 q' => k p Hf' H' (R1.call A c) (n1.call A c) (Nx.none R1 R.sm n1 h1) h2 h3 (R1.freeB h1) (R1.freeS h1) q', fun x cls d Hf' H' c xr e => kx x cls d Hf' H' (R1.call A c) (n1.call A c) xr e⟩
/-- name = a new pool -/
def sSetP (i : Nat) (g : Env → W Unit) : Env → Ws := fun ρ Q E => g ρ (fun _ => Q .nx (ρ.set i .pool)) (fun x => E x ρ)
theorem es_setP {i : Nat} {x : Str} {p' : Pos} {gp : Env → W Unit} (h1 : Ep G X Wx e gp) (hp : ∀ t, PE X e t → PS X (.Assign [.Name x p'] e pos) (tAsg t (gName i))) : Es G X Wx (.Assign [.Name x p'] e pos) (sSetP i gp) := by
  obtain ⟨t, pe, ev⟩ := h1.ex
  refine ⟨_, hp t pe, ?_⟩
  intro B ρ σ Hf H Q' E' Dd R q k kx
  refine ev B ρ σ Hf H _ _ _ R q (fun p Hf1 H1 R1 n1 h0 h1 h2 h3 h4 q1 => k.nx _ _ Hf1 H1 ?_ n1.sm q1) kx.at
  refine ⟨by simp [R1.len], R1.sm, R1.sm0, R1.unf, R1.kp, R1.pl, R1.p0, fun j u e => ?_, fun j l q u u' ne e1 ku e2 k e3 e4 => ?_⟩
  · by_cases h : i = j
    · subst h
      have hl : i < ρ.length := by
        have := (List.getElem?_eq_some_iff.mp e).1
        simpa using this
      rw [List.getElem?_set_self hl] at e
      cases e
      rw [List.getElem?_set_self (by rw [R1.len]; exact hl)]
      exact ⟨p, rfl, h1, .inr h3, h2⟩
    · rw [List.getElem?_set_ne h] at e ⊢
      exact R1.sl j u e
  · have n1 : i ≠ j := fun z => by
      subst z
      have hl : i < ρ.length := by
        have := (List.getElem?_eq_some_iff.mp e1).1
        simpa using this
      rw [List.getElem?_set_self hl] at e1
      cases e1; cases ku
    rw [List.getElem?_set_ne n1] at e1 e3
    by_cases h2 : i = l
    · subst h2
      have : q = p := by
        by_cases hl : i < σ.length
        · rw [List.getElem?_set_self hl] at e4; cases e4; rfl
        · rw [List.getElem?_eq_none (by simpa using hl)] at e4; cases e4
      subst this
      exact h4 j u e1 (by cases u <;> first | rfl | cases ku) e3
    · rw [List.getElem?_set_ne h2] at e2 e4
      exact R1.ds j l q u u' ne e1 ku e2 k e3 e4

/-! ### methods, new instances -/
def tMethX (C : Addr) (m : Str) (sp : Sp) (E : St → XK) (ta : TE) (t : TA) : TE := fun σ H Q => ta σ H fun x H1 => ∃ a dx fs, x = .ref a ∧ H1 a = some (.ins C dx fs) ∧ fs.lookup m = none ∧ t σ H1 fun vs H2 => sp (x :: vs) H2 Q (E σ)
theorem pe_methX {C f : Addr} {m : Str} {CX : CXT} {kk : Nat} {fd : FuncData} {ps : List Str} {sp : Sp} {E : St → XK} {ta : TE} {t : TA} {pl : Sem Bool} (he : PE X o ta) (c : Cls X.K C) (hm : Meth X.K C m f) (F : FnOk X.prog X.w X.K X.mg X.base CX kk f fd ps sp) (hr : Room kk X.A) (hb : Binds X.K fd ps [])
    (hx : ∀ σ, PassesAt CX X σ (E σ)) (ha : PA X (e :: es) t)
    (hst : starEach (e :: es) X.env = (false, eval e X.env) :: starEach es X.env := by rfl) (hpl : (backTo pos (starEach es X.env)).any (·.1) = false := by rfl)
    (ht : eval (.Call (.Attribute o m apos) (e :: es) [] pos) X.env = (do
      let ov ← eval o X.env
      standAt apos.atName
      let (f, first) ← holding [ov] (getMethod ov m pl)
      callWith pos f first (backTo pos (starEach (e :: es) X.env)) (backToKw pos (keywordEach [] X.env))) := by rfl) :
    PE X (.Call (.Attribute o m apos) (e :: es) [] pos) (tMethX C m sp E ta t) := by
  refine ⟨fun pins s σ H Q I h => ?_⟩
  refine PySem.W.methodCall_KW (pl := pl) (thn (he.run pins s σ H _ I h) fun u s1 ⟨x, H1, I1, rx, a, dx, fs, ex, ea, l, q⟩ => ?_) ht
  subst ex
  obtain rfl : u = Value.ref a := rx
  refine getmeth_ok I1 ea c hm l ?_
  refine PySem.W.callWith_K (first := [.ref a]) (h₀ := X.base) I.ok.mod.kin hm.kp (thn (ha.run pos pins s1 σ H1 _ I1 q) fun us s2 ⟨vs, H2, I2, r, q2⟩ => ⟨I2.kIn, ?_⟩) hst hpl
  exact run_fnS (us := .ref a :: us) (vs := .ref a :: vs) F hr hb (hx σ) I2 (.cons rfl r) q2
theorem pe_meth0X {C f : Addr} {m : Str} {CX : CXT} {kk : Nat} {fd : FuncData} {ps : List Str} {sp : Sp} {E : St → XK} {ta : TE} {pl : Sem Bool} (he : PE X o ta) (c : Cls X.K C) (hm : Meth X.K C m f) (F : FnOk X.prog X.w X.K X.mg X.base CX kk f fd ps sp) (hr : Room kk X.A) (hb : Binds X.K fd ps [])
    (hx : ∀ σ, PassesAt CX X σ (E σ))
    (ht : eval (.Call (.Attribute o m apos) [] [] pos) X.env = (do
      let ov ← eval o X.env
      standAt apos.atName
      let (f, first) ← holding [ov] (getMethod ov m pl)
      callWith pos f first (backTo pos (starEach [] X.env)) (backToKw pos (keywordEach [] X.env))) := by rfl) :
    PE X (.Call (.Attribute o m apos) [] [] pos) (tMethX C m sp E ta tNil) := by
  refine ⟨fun pins s σ H Q I h => ?_⟩
  refine PySem.W.methodCall_KW (pl := pl) (thn (he.run pins s σ H _ I h) fun u s1 ⟨x, H1, I1, rx, a, dx, fs, ex, ea, l, q⟩ => ?_) ht
  subst ex
  obtain rfl : u = Value.ref a := rx
  refine getmeth_ok I1 ea c hm l ?_
  exact PySem.W.callWith_K0 (first := [.ref a]) I1.kIn hm.kp (run_fnS (us := [.ref a]) (vs := [.ref a]) F hr hb (hx σ) I1 (.cons rfl .nil) q)
def callM (C : Nat) (mn : Str) (m : List Sl → W D) (go : Env → W D) (gs : Env → W (List Sl)) : Env → W D := fun ρ => do
  let r ← go ρ
  W.need (∃ fs, r = .ins C fs ∧ fs.lookup mn = none) (do let as ← gs ρ; m (.fz r :: as))
theorem evt_meth {C : Nat} {mn : Str} {m : List Sl → W D} {ta : TE} {t : TA} (ho : EvT G Wx ta g) (hs : EcT G Wx t gs) : EvT G Wx (tMethX (G.cn C) mn (PSp G m) (WE Wx) ta t) (callM C mn m g gs) := by
  intro B ρ σ Hf H Q' E' Q R q k kx
  refine ho B ρ σ Hf H _ E' _ R q (fun v d Hf1 H1 R1 n1 r1 q1 => ?_) kx
  obtain ⟨⟨fs, rfl, hl⟩, q1⟩ := q1
  cases r1 with
  | ins h r =>
    refine ⟨_, _, _, rfl, R1.sm _ _ h, r.none hl, ?_⟩
    refine hs B ρ σ Hf1 H1 _ E' _ R1 q1 (fun vs as Hf2 H2 R2 n2 A q2 => ?_) (kx.mono n1)
    have A2 : PAs G B ρ σ H1 Hf2 H2 (.ref _ :: vs) (.fz (.ins C fs) :: as) := .cons (Rp.mono n2.sm (.ins h r)) A
    exact ⟨Hf2, _, Q', E', R2.sm, A2.as, q2, fun v d Hf' H' c r q' => k v d Hf' H' (R2.call A2 c) (n1.trans (n2.call A2 c)) r q', fun x cls d Hf' H' c xr e => kx x cls d Hf' H' (R2.call A2 c) (n1.trans (n2.call A2 c)) xr e⟩
theorem ev_meth {C : Nat} {mn : Str} {m : List Sl → W D} {kk : Nat} {f : Addr} {fd : FuncData} {ps : List Str} {pl : Sem Bool} (ho : Ev G X Wx o g) (c : Cls X.K (G.cn C)) (hm : Meth X.K (G.cn C) mn f) (F : FnOk X.prog X.w X.K X.mg X.base (L2.CX X.prog X.w) kk f fd ps (PSp G m)) (hr : Room kk X.A)
    (hb : Binds X.K fd ps []) (tk : Takes X Wx) (ha : Ec G X Wx (e :: es) gs)
    (hst : starEach (e :: es) X.env = (false, eval e X.env) :: starEach es X.env := by rfl) (hpl : (backTo pos (starEach es X.env)).any (·.1) = false := by rfl)
    (ht : eval (.Call (.Attribute o mn apos) (e :: es) [] pos) X.env = (do
      let ov ← eval o X.env
      standAt apos.atName
      let (f, first) ← holding [ov] (getMethod ov mn pl)
      callWith pos f first (backTo pos (starEach (e :: es) X.env)) (backToKw pos (keywordEach [] X.env))) := by rfl) :
    Ev G X Wx (.Call (.Attribute o mn apos) (e :: es) [] pos) (callM C mn m g gs) := by
  obtain ⟨to, po, eo⟩ := ho.ex
  obtain ⟨t, pa, ea⟩ := ha.ex
  exact ⟨_, pe_methX po c hm F hr hb (fun σ => passAt tk σ) pa hst hpl ht, evt_meth eo ea⟩
theorem ev_meth0 {C : Nat} {mn : Str} {m : List Sl → W D} {kk : Nat} {f : Addr} {fd : FuncData} {ps : List Str} {pl : Sem Bool} (ho : Ev G X Wx o g) (c : Cls X.K (G.cn C)) (hm : Meth X.K (G.cn C) mn f) (F : FnOk X.prog X.w X.K X.mg X.base (L2.CX X.prog X.w) kk f fd ps (PSp G m)) (hr : Room kk X.A)
    (hb : Binds X.K fd ps []) (tk : Takes X Wx)
    (ht : eval (.Call (.Attribute o mn apos) [] [] pos) X.env = (do
      let ov ← eval o X.env
      standAt apos.atName
      let (f, first) ← holding [ov] (getMethod ov mn pl)
      callWith pos f first (backTo pos (starEach [] X.env)) (backToKw pos (keywordEach [] X.env))) := by rfl) :
    Ev G X Wx (.Call (.Attribute o mn apos) [] [] pos) (callM C mn m g nilC) := by
  obtain ⟨to, po, eo⟩ := ho.ex
  refine ⟨_, pe_meth0X po c hm F hr hb (fun σ => passAt tk σ) ht, evt_meth eo fun B ρ σ Hf H Q' E' Q R q k kx => k [] [] Hf H R Nx.refl .nil q⟩
/-- an __init__'s promise: the fields that it stores -/
def PSpI (G : Ctx) (C : Nat) (m : List Sl → W (List (Str × D))) : Sp := fun vs H Q E => ∃ x dx ws H0 Hf as Q' E', vs = .ref x :: ws ∧ H0 x = none ∧ H0 dx = none ∧ dx ≠ x ∧ H = upd (upd H0 dx (.own x)) x (.ins (G.cn C) dx []) ∧ Same Hf H0 ∧ As G Hf H0 ws as ∧ m as Q' E' ∧
  (∀ fs gs Hf' H', CNx G as ws Hf H0 Hf' H' → Hf' x = none → H' x = some (.ins (G.cn C) dx gs) → Rpf G.cn Hf' gs fs → Q' fs → Q .non H') ∧ (∀ x cls d Hf' H', CNx G as ws Hf H0 Hf' H' → XRep G Hf' x cls d → E' x → E cls d H')
def mInit (n N C : Nat) (g : Env → Ws) : List Sl → W (List (Str × D)) := fun as Q E => as.length + 1 = n ∧ ∀ a dx, g ((Sl.oi a dx C [] :: as) ++ List.replicate (N - n) .un) (fun fl ρ => (fl = .nx ∨ fl = .rt .non) ∧ ∃ fs, ρ[0]? = some (.oi a dx C fs) ∧ Q fs) (fun x _ => E x)
theorem Rep.gain {B : Bs} {ρ : Env} {σ : St} {Hf H : Hp} {i : Nat} {p : Addr} {s : Sl} (R : Rep G B ρ σ Hf H) (e : σ[i]? = some (some (.ref p))) (hs : SlR G B (some (some (.ref p))) Hf H s) (no : NoOne ρ σ p) : Rep G B (ρ.set i s) σ Hf H := by
  refine ⟨by simp [R.len], R.sm, R.sm0, R.unf, R.kp, R.pl, R.p0, fun j u ej => ?_, fun j l q u u' ne e1 ku e2 k e3 e4 => ?_⟩
  · by_cases h : i = j
    · subst h
      have hl : i < ρ.length := by
        have := (List.getElem?_eq_some_iff.mp ej).1
        simpa using this
      rw [List.getElem?_set_self hl] at ej
      cases ej
      rw [e]; exact hs
    · rw [List.getElem?_set_ne h] at ej
      exact R.sl j u ej
  · by_cases h1 : i = j
    · subst h1
      rw [e] at e3
      cases e3
      have h2 : i ≠ l := ne
      rw [List.getElem?_set_ne h2] at e2
      exact no l u' e2 k e4
    · rw [List.getElem?_set_ne h1] at e1
      by_cases h2 : i = l
      · subst h2
        rw [e] at e4
        cases e4
        exact no j u e1 (by cases u <;> first | rfl | cases ku) e3
      · rw [List.getElem?_set_ne h2] at e2
        exact R.ds j l q u u' ne e1 ku e2 k e3 e4
theorem init_ok {P : Program} {w : World} {K : PySem.W.Frag} {mg : Str → Option Value} {base : Heap} {x qual : Str} {st : Stmt} {f : Addr} {fd : FuncData} {N ps : List Str} {k C : Nat} {h : Env → Ws} (F : Fun K x qual st f fd) (S : FnScope N ps (defScope st))
    (hb : ∀ (cdv : Value) (A : Around) (outer : List PySem.Env) (s : Shared) (H : Hp) (E : XK), Room k (A.deeper (envOfC qual (defScope st) s.heap.objs.size f cdv)) → Takes (cxOf (L2.CX P w) P w K mg base N qual (defScope st) f cdv A outer s H E) (fun cls d _ H => E cls d H) →
      Ess G (cxOf (L2.CX P w) P w K mg base N qual (defScope st) f cdv A outer s H E) (fun cls d _ H => E cls d H) (defBody st) h) : FnOk P w K mg base (L2.CX P w) (k + 1) f fd ps (PSpI G C (mInit ps.length N.length C h)) := by
  have hn : ps.length ≤ N.length := by have := congrArg List.length S.pre; rw [List.length_take] at this; omega
  refine F.okX S (fun vs H Q E z => ?_) fun cdv A outer s H vs Q E hr z => ?_
  · obtain ⟨x, dx, ws, H0, Hf, as, Q', E', rfl, _, _, _, _, _, A, ⟨hl, _⟩, _⟩ := z
    rw [List.length_cons, A.length]; exact hl
  · obtain ⟨x, dx, ws, H0, Hf, as, Q', E', rfl, h1, h2, h3, rfl, sm, As_, ⟨hl, q⟩, k1, kx⟩ := z
    obtain ⟨t, p, ev⟩ := (hb cdv A outer s _ E hr (takes_of rfl rfl rfl rfl)).ex
    refine ⟨t, p, ?_⟩
    have A2 : As G Hf H0 (.ref x :: ws) (.un :: as) := .cons trivial As_
    have R0 := rep_start (N := N) sm A2 (by rw [List.length_cons]; omega)
    have hP : ∀ b, IsPool (.un :: as) ((V.ref x :: ws).map some) b ↔ IsPool as (ws.map some) b := fun b => ⟨fun ⟨i, e1, e2⟩ => by
      cases i with
      | zero => simp at e1
      | succ i => exact ⟨i, by simpa using e1, by simpa using e2⟩, fun ⟨i, e1, e2⟩ => ⟨i + 1, by simpa using e1, by simpa using e2⟩⟩
    have eP : IsPool (.un :: as) ((V.ref x :: ws).map some) = IsPool as (ws.map some) := funext fun b => propext (hP b)
    rw [eP] at R0
    have R1 := R0.laid (o := .own x) h2
    have hx1 : (upd H0 dx (.own x)) x = none := by rw [upd_ne h3.symm]; exact h1
    have R2 := R1.laid (o := .ins (G.cn C) dx []) hx1
    have hf : Hf x = none := sm.free h1
    have e0 : (L2.start N (V.ref x :: ws))[0]? = some (some (.ref x)) := by rw [start_get, if_pos (by simp)]; rfl
    have R3 := R2.gain (s := .oi x dx C []) e0 ⟨[], rfl, hf, h1, upd_same, .nil⟩ (R0.freeS h1)
    have e3 : ((Sl.un :: as) ++ List.replicate (N.length - (Sl.un :: as).length) Sl.un).set 0 (.oi x dx C []) = (Sl.oi x dx C [] :: as) ++ List.replicate (N.length - ps.length) Sl.un := by
      rw [List.length_cons, hl]; rfl
    rw [e3] at R3
    have cn : ∀ {ρ' σ' Hf' H'}, Rep G ⟨IsPool as (ws.map some), Hf, H0⟩ ρ' σ' Hf' H' → CNx G as ws Hf H0 Hf' H' := fun R => R.cnx
    refine ev _ _ _ Hf _ _ _ _ R3 (q x dx) ⟨fun ρ' σ' Hf' H' R' s' q' => ?_, fun ρ' σ' v d Hf' H' R' s' r q' => ?_, fun ρ' σ' Hf' H' R' s' q' => ?_, fun ρ' σ' Hf' H' R' s' q' => ?_⟩ ?_
    · obtain ⟨_, fs, e, q'⟩ := q'
      obtain ⟨gs, _, y1, _, y3, r⟩ := R'.sl 0 _ e
      exact k1 fs gs Hf' H' R'.cnx y1 y3 r q'
    · obtain ⟨z, fs, e, q'⟩ := q'
      have : d = .non := by
        rcases z with z | z
        · cases z
        · cases z; rfl
      subst this
      cases r
      obtain ⟨gs, _, y1, _, y3, r⟩ := R'.sl 0 _ e
      exact k1 fs gs Hf' H' R'.cnx y1 y3 r q'
    · rcases q'.1 with z | z <;> cases z
    · rcases q'.1 with z | z <;> cases z
    · intro y cls d ρ' σ' Hf' H' R' s' xr e
      exact kx y cls d Hf' H' R'.cnx xr e
/-- C(..) -/
def tMakeX (C : Addr) (sp : Sp) (E : St → XK) (t : TA) : TE := fun σ H Q => t σ H fun vs H1 => ∀ x dx, H1 x = none → H1 dx = none → dx ≠ x →
  sp (.ref x :: vs) (upd (upd H1 dx (.own x)) x (.ins C dx [])) (fun v H2 => v = .non ∧ Q (.ref x) H2) (E σ)
theorem run_makeX {C f : Addr} {CX : CXT} {k : Nat} {fd : FuncData} {ps : List Str} {sp : Sp} {E : St → XK} {pins : List (Addr × Obj)} {σ : St} {H : Hp} {s : Shared} {Q : VK} {us : List Value} {vs : List V} (M : Mk X.K C f) (F : FnOk X.prog X.w X.K X.mg X.base CX k f fd ps sp) (hr : Room (k + 1) X.A) (hb : Binds X.K fd ps [])
    (hx : PassesAt CX X σ (E σ)) (I : Inv X pins σ H s) (r : Vals vs us)
    (h : ∀ x dx, H x = none → H dx = none → dx ≠ x → sp (.ref x :: vs) (upd (upd H dx (.own x)) x (.ins C dx [])) (fun v H2 => v = .non ∧ Q (.ref x) H2) (E σ)) :
    wpAny (model X.prog X.w) X.A (call (.ref C) us) (EP X pins σ Q) X.xe s := by
  have hq := h (s.heap.objs.size + 1) s.heap.objs.size (I.hok.fresh (Nat.le_succ _)) (I.hok.fresh (Nat.le_refl _)) (Nat.ne_of_lt (Nat.lt_succ_self _))
  have I2 := Inv.made (C := C) I
  have r2 : Vals (V.ref (s.heap.objs.size + 1) :: vs) (Value.ref (s.heap.objs.size + 1) :: us) := .cons rfl r
  have hl : (Value.ref (s.heap.objs.size + 1) :: us).length = ps.length := by
    have e := r2.length
    rw [F.len _ _ _ _ hq] at e
    exact e.symm
  have b := hb _ (Value.ref (s.heap.objs.size + 1) :: us) I2.kIn (by rw [List.append_nil]; exact hl)
  rw [List.append_nil] at b
  refine wpAny_call (make_map (f := f) I.kIn M.makes M.init (beq_iff_eq.mp M.fn) (codeAny_mono (F.run _ X.stack _ _ ⟨Value.ref (s.heap.objs.size + 1) :: us, []⟩ (Value.ref (s.heap.objs.size + 1) :: us) _ _ (E σ) (hr.make C us [])
    (I2.env0.make C us []) b r2 hq) fun r s' hq' => ?_))
  cases r with
  | error e => exact hx pins _ _ e s' I2 hq'
  | ok fl =>
    cases fl with
    | ret u =>
      obtain ⟨v, H', I3, rv, ev, q3⟩ := I2.after hq'
      subst ev
      exact ⟨rv, ⟨V.ref (s.heap.objs.size + 1), H', I3, rfl, q3⟩⟩
    | next => exact False.elim hq'
    | brk => exact False.elim hq'
    | cont => exact False.elim hq'
theorem pe_makeX {C f : Addr} {x : Str} {CX : CXT} {k : Nat} {fd : FuncData} {ps : List Str} {sp : Sp} {E : St → XK} {t : TA} (M : Mk X.K C f) (F : FnOk X.prog X.w X.K X.mg X.base CX k f fd ps sp) (hr : Room (k + 1) X.A) (hg : Gl X x) (hm : X.mg x = some (.ref C)) (hb : Binds X.K fd ps []) (hx : ∀ σ, PassesAt CX X σ (E σ))
    (ha : PA X (e :: es) t) (hdb : (x == ("__debug__" : Str)) = false := by decide) (he : starEach (e :: es) X.env = (false, eval e X.env) :: starEach es X.env := by rfl) (hpl : (backTo pos (starEach es X.env)).any (·.1) = false := by rfl) :
    PE X (.Call (.Name x p) (e :: es) [] pos) (tMakeX C sp E t) := by
  refine ⟨fun pins s σ H Q I h => ?_⟩
  refine wpAny_Call_Name_kw (ld_glob I hg hm ?_ hdb)
  refine PySem.W.callWith_K (h₀ := X.base) I.ok.mod.kin M.kp (thn (ha.run pos pins s σ H _ I h) fun us s1 ⟨vs, H1, I1, r, q⟩ => ⟨I1.kIn, ?_⟩) he hpl
  exact run_makeX M F hr hb (hx σ) I1 r q
def makeF (C : Nat) (m : List Sl → W (List (Str × D))) (gs : Env → W (List Sl)) : Env → W D := fun ρ => do let as ← gs ρ; let fs ← m as; W.pure (.ins C fs)
theorem ev_make {C : Nat} {x : Str} {m : List Sl → W (List (Str × D))} {kk : Nat} {f : Addr} {fd : FuncData} {ps : List Str} (M : Mk X.K (G.cn C) f) (F : FnOk X.prog X.w X.K X.mg X.base (L2.CX X.prog X.w) kk f fd ps (PSpI G C m)) (hr : Room (kk + 1) X.A) (hg : Gl X x) (hm : X.mg x = some (.ref (G.cn C)))
    (hb : Binds X.K fd ps []) (tk : Takes X Wx) (ha : Ec G X Wx (e :: es) gs) (hdb : (x == ("__debug__" : Str)) = false := by decide) (he : starEach (e :: es) X.env = (false, eval e X.env) :: starEach es X.env := by rfl)
    (hpl : (backTo pos (starEach es X.env)).any (·.1) = false := by rfl) : Ev G X Wx (.Call (.Name x p) (e :: es) [] pos) (makeF C m gs) := by
  obtain ⟨t, pa, ea⟩ := ha.ex
  refine ⟨_, pe_makeX M F hr hg hm hb (fun σ => passAt tk σ) pa hdb he hpl, ?_⟩
  intro B ρ σ Hf H Q' E' Q R q k kx
  refine ea B ρ σ Hf H _ E' _ R q (fun vs as Hf1 H1 R1 n1 A q1 => ?_) kx
  intro y dx h1 h2 h3
  refine ⟨y, dx, vs, H1, Hf1, as, _, E', rfl, h1, h2, h3, rfl, R1.sm, A.as, q1, fun fs gs Hf' H' c y1 y3 r q' => ⟨rfl, ?_⟩, fun x cls d Hf' H' c xr e => kx x cls d Hf' H' (R1.call A c) (n1.call A c) xr e⟩
  have R2 := (R1.call A c).frz y3 y1 (R1.freeB h1) (R1.freeS h1)
  exact k _ _ _ _ R2 ((n1.call A c).frz (Nx.none R1 R.sm n1 h1) y1) (.ins upd_same (r.mono (Same.new y1))) q'
end
end PL

set_option Elab.async false
set_option linter.all false
set_option maxRecDepth 100000
set_option maxHeartbeats 2000000
namespace PL
open PySem L2
open PyProof.Rows (envOfC)

/-! ### pools: lists of four ints of which nothing else is told -/
def pi4 (vs : List V) : Prop := ∃ a b c d : Int, vs = [.int a, .int b, .int c, .int d]
theorem pi4_len {vs : List V} (h : pi4 vs) : vs.length = 4 := by obtain ⟨a, b, c, d, rfl⟩ := h; rfl
theorem pi4_at {vs : List V} (h : pi4 vs) {j : Int} (h0 : 0 ≤ j) (h4 : j < 4) : ∃ z, atI vs j = some (.int z) := by
  obtain ⟨a, b, c, d, rfl⟩ := h
  have : j = 0 ∨ j = 1 ∨ j = 2 ∨ j = 3 := by omega
  rcases this with rfl | rfl | rfl | rfl
  · exact ⟨a, rfl⟩
  · exact ⟨b, rfl⟩
  · exact ⟨c, rfl⟩
  · exact ⟨d, rfl⟩
theorem pi4_set {vs : List V} (h : pi4 vs) {j : Int} (h0 : 0 ≤ j) (h4 : j < 4) (z : Int) : ∃ n, ixN vs.length j = some n ∧ pi4 (vs.set n (.int z)) := by
  obtain ⟨a, b, c, d, rfl⟩ := h
  have : j = 0 ∨ j = 1 ∨ j = 2 ∨ j = 3 := by omega
  rcases this with rfl | rfl | rfl | rfl
  · exact ⟨0, rfl, z, b, c, d, rfl⟩
  · exact ⟨1, rfl, a, z, c, d, rfl⟩
  · exact ⟨2, rfl, a, b, z, d, rfl⟩
  · exact ⟨3, rfl, a, b, c, z, rfl⟩
def ixP (i : Nat) (g : Env → W D) : Env → W D := fun ρ Q E => ρ[i]? = some .pool ∧ g ρ (fun k => ∃ j : Int, k = .int j ∧ 0 ≤ j ∧ j < 4 ∧ ∀ z : Int, Q (.int z)) E
def sSetPl (i : Nat) (gk gv : Env → W D) : Env → Ws := fun ρ Q E => ρ[i]? = some .pool ∧ gv ρ (fun d => gk ρ (fun k => ∃ j z : Int, k = .int j ∧ d = .int z ∧ 0 ≤ j ∧ j < 4 ∧ Q .nx ρ) (fun x => E x ρ)) (fun x => E x ρ)
section
variable {G : Ctx} {B : Bs} {ρ : Env} {σ : St} {Hf H : Hp}
theorem Rep.writePl {i : Nat} {p : Addr} {vs : List V} (R : Rep G B ρ σ Hf H) (e : ρ[i]? = some .pool) (e1 : σ[i]? = some (some (.ref p))) (hp : G.pi vs) : Rep G B ρ σ Hf (upd H p (.lst vs)) := by
  obtain ⟨p', e1', hf, hb, _⟩ := R.sl i _ e
  rw [e1] at e1'
  cases e1'
  refine ⟨R.len, fun b u z => by rw [upd_ne (ne_of_none z hf)]; exact R.sm _ _ z, R.sm0, R.unf, fun b u z n => ?_, fun b hb' => ?_, R.p0, fun j s ej => ?_, R.ds⟩
  · have : b ≠ p := fun y => by
      subst y
      rcases hb with h | h
      · exact n h
      · rw [z] at h; cases h
    rw [upd_ne this]
    exact R.kp b u z n
  · obtain ⟨h1, us, q, r⟩ := R.pl b hb'
    by_cases hbp : b = p
    · subst hbp; exact ⟨h1, vs, upd_same, hp⟩
    · exact ⟨h1, us, by rw [upd_ne hbp]; exact q, r⟩
  · have q := R.sl j s ej
    have ne : s.uniq = true → ∀ a : Addr, σ[j]? = some (some (.ref a)) → a ≠ p := fun u a ea z => by
      subst z
      by_cases h : j = i
      · subst h; rw [e] at ej; cases ej; cases u
      · exact R.ds j i a s _ h ej u e rfl ea e1
    cases s with
    | un => trivial
    | fz d => exact q
    | ow ds =>
      obtain ⟨a, us, f1, h1, h2, h3, r⟩ := q
      exact ⟨a, us, f1, h1, h2, by rw [upd_ne (ne rfl a f1)]; exact h3, r⟩
    | oi a dx C fs =>
      obtain ⟨gs, f1, h1, h2, h3, r⟩ := q
      exact ⟨gs, f1, h1, h2, by rw [upd_ne (ne rfl a f1)]; exact h3, r⟩
    | pool =>
      obtain ⟨a, f1, h1, h2, us, h3, r⟩ := q
      by_cases h : a = p
      · subst h; exact ⟨a, f1, h1, h2, vs, upd_same, hp⟩
      · exact ⟨a, f1, h1, h2, us, by rw [upd_ne h]; exact h3, r⟩
    | scr ns => exact q
variable {X : Cx} {Wx : WX} {e k : Expr} {st : Stmt} {ga gb g : Env → W D} {pos : Pos}
theorem ev_ixP {i : Nat} {x : Str} {p2 : Pos} (hG : G.pi = pi4) (ho : PE X (.Name x p2) (tVar i)) (hk : Ev G X Wx k ga) (hs : PlainIx k) : Ev G X Wx (.Subscript (.Name x p2) k pos) (ixP i ga) := by
  obtain ⟨tk, pk, ek⟩ := hk.ex
  refine ⟨_, pe_ix op_ix ho pk hs, ?_⟩
  intro B ρ σ Hf H Q' E' Q R q kk kx
  obtain ⟨e, q⟩ := q
  obtain ⟨p, e1, _⟩ := R.sl i _ e
  refine ⟨_, e1, ?_⟩
  refine ek B ρ σ Hf H _ _ _ R q (fun v d Hf1 H1 R1 n1 r1 q1 => ?_) kx
  obtain ⟨j, rfl, h0, h4, q1⟩ := q1
  obtain ⟨p2, e2, _, _, vs, h3, hp⟩ := R1.sl i _ e
  rw [e1] at e2
  cases e2
  cases r1
  rw [hG] at hp
  obtain ⟨z, hz⟩ := pi4_at hp h0 h4
  exact .inl ⟨p, vs, j, _, rfl, rfl, SqL.of h3, hz, kk _ _ Hf1 H1 R1 n1 (.int z) (q1 z)⟩
theorem es_setPl {i : Nat} (hG : G.pi = pi4) (hv : Ev G X Wx e gb) (hk : Ev G X Wx k ga)
    (hp : ∀ tk tv, PE X k tk → PE X e tv → PS X st (tAsg tv (gSub (tVar i) tk rSetL))) : Es G X Wx st (sSetPl i ga gb) := by
  obtain ⟨tv, pv, ev⟩ := hv.ex
  obtain ⟨tk, pk, ek⟩ := hk.ex
  refine ⟨_, hp tk tv pk pv, ?_⟩
  intro B ρ σ Hf H Q' E' Dd R q k kx
  obtain ⟨e, q⟩ := q
  refine ev B ρ σ Hf H _ _ _ R q (fun v d Hf1 H1 R1 n1 r1 q1 => ?_) kx.at
  obtain ⟨p, e1, _⟩ := R1.sl i _ e
  refine ⟨_, e1, ?_⟩
  refine ek B ρ σ Hf1 H1 _ _ _ R1 q1 (fun w d2 Hf2 H2 R2 n2 r2 q2 => ?_) (kx.at.mono n1)
  obtain ⟨j, z, rfl, rfl, h0, h4, q2⟩ := q2
  obtain ⟨p2, e2, _, _, vs2, h3', hp'⟩ := R2.sl i _ e
  rw [e1] at e2
  cases e2
  cases r2
  cases r1
  rw [hG] at hp'
  obtain ⟨n, hn, hp2⟩ := pi4_set hp' h0 h4 z
  refine ⟨p, vs2, j, n, rfl, rfl, h3', hn, ?_⟩
  exact k.nx _ σ Hf2 _ (R2.writePl e e1 (by rw [hG]; exact hp2)) (n1.sm.trans n2.sm) q2
end
/-- a def and how its arguments bind, where its name stands -/
structure Hd (K : PySem.W.Frag) (mg : Str → Option Value) (x : Str) (st : Stmt) (ps : List Str) (f : Addr) (fd : FuncData) : Prop where
  F : Fun K x x st f fd
  b : Binds K fd ps []
  m : mg x = some (.ref f)
/-- a method -/
structure Hm (K : PySem.W.Frag) (C : Addr) (x qual : Str) (st : Stmt) (ps : List Str) (f : Addr) (fd : FuncData) : Prop where
  F : Fun K x qual st f fd
  b : Binds K fd ps []
  m : Meth K C x f
end PL

set_option Elab.async false
set_option linter.all false
set_option maxRecDepth 100000
set_option maxHeartbeats 2000000
namespace PL
open PySem L2
open PyProof.Rows (envOfC)
namespace Bt
theorem sum : bootBuiltins "sum" = some (.builtin "sum") := by decide +kernel
theorem all : bootBuiltins "all" = some (.builtin "all") := by decide +kernel
theorem any : bootBuiltins "any" = some (.builtin "any") := by decide +kernel
theorem abs : bootBuiltins "abs" = some (.builtin "abs") := by decide +kernel
theorem max : bootBuiltins "max" = some (.builtin "max") := by decide +kernel
theorem min : bootBuiltins "min" = some (.builtin "min") := by decide +kernel
theorem t_int : bootBuiltins "int" = some (.type "int") := by decide +kernel
theorem t_bool : bootBuiltins "bool" = some (.type "bool") := by decide +kernel
theorem t_list : bootBuiltins "list" = some (.type "list") := by decide +kernel
theorem t_tuple : bootBuiltins "tuple" = some (.type "tuple") := by decide +kernel
theorem t_str : bootBuiltins "str" = some (.type "str") := by decide +kernel
theorem t_dict : bootBuiltins "dict" = some (.type "dict") := by decide +kernel
end Bt
/-- an __init__ as a def -/
structure Hi (K : PySem.W.Frag) (x qual : Str) (st : Stmt) (ps : List Str) (f : Addr) (fd : FuncData) : Prop where
  F : Fun K x qual st f fd
  b : Binds K fd ps []
def nilA : Env → W (List D) := fun _ => W.pure []
def fldC (C : Nat) (f : Str) : D → W D := fun d => W.need (∃ fs, d = .ins C fs) (fldD f d)
def dispN (g : Env → W (List D)) : Env → W (List D) := fun ρ => do let xs ← g ρ; W.need (xs.length ≤ sizeLine) (W.pure xs)
def listN (g : Env → W (List D)) : Env → W (List D) := fun ρ => do
  let xs ← g ρ
  (match xs with | [.lst ds] => W.pure ds | [.tup ds] => W.pure ds | _ => W.fail)
section
variable {G : Ctx} {X : Cx} {Wx : WX} {e : Expr} {es : List Expr} {gs : Env → W (List D)} {pos p : Pos}
theorem ea_nil' : Ea G X Wx [] nilA := ea_nil
theorem ev_globI' {x : Str} {i : Int} (hg : Gl X x) (hm : ∃ t, X.mg x = some (.int i t)) (hd : (x == ("__debug__" : Str)) = false := by decide) : Ev G X Wx (.Name x pos) (kst (.int i)) := by
  obtain ⟨t, hm⟩ := hm
  exact ev_globI hg hm hd
theorem fresh_new {B : Bs} {ρ : Env} {σ : St} {Hf H Hf1 H1 : Hp} {p : Addr} {vs : List V} {ds : List D} (R : Rep G B ρ σ Hf H) (R1 : Rep G B ρ σ Hf1 H1) (n : Nx ρ σ Hf H Hf1 H1) (hp : H1 p = none) (r : Rps G.cn Hf1 vs ds) :
    Rep G B ρ σ Hf1 (upd H1 p (.lst vs)) ∧ Nx ρ σ Hf H Hf1 (upd H1 p (.lst vs)) ∧ Fresh G B ρ σ H p vs ds Hf1 (upd H1 p (.lst vs)) :=
  ⟨R1.laid hp, n.other (Nx.none R1 R.sm n hp), Nx.none R1 R.sm n hp, R1.sm.free hp, upd_same, R1.freeB hp, R1.freeS hp, r⟩
theorem en_lst (h : Ea G X Wx es gs) : En G X Wx (.List es pos) (dispN gs) := by
  obtain ⟨ta, pa, ea⟩ := h.ex
  refine ⟨_, pe_lst pa, ?_⟩
  intro B ρ σ Hf H Q' E' Q R q k kx
  refine ea B ρ σ Hf H _ E' _ R q (fun vs ds Hf1 H1 R1 s1 r1 q1 => ⟨by rw [r1.length]; exact q1.1, fun p hp => ?_⟩) kx
  obtain ⟨R2, n2, f⟩ := fresh_new R R1 s1 hp r1
  exact k p vs ds _ _ R2 n2 f q1.2
theorem en_list {x : Str} (hK : X.K = G.K) (hg : Gl X x) (hm : X.mg x = none) (hv : bootBuiltins x = some (.type "list")) (ha : Ea G X Wx (e :: es) gs)
    (hn : x ≠ "__name__" := by decide) (hdb : (x == ("__debug__" : Str)) = false := by decide)
    (he : starEach (e :: es) X.env = (false, eval e X.env) :: starEach es X.env := by rfl) (hpl : (backTo pos (starEach es X.env)).any (·.1) = false := by rfl) : En G X Wx (.Call (.Name x p) (e :: es) [] pos) (listN gs) := by
  obtain ⟨ta, pa, ea⟩ := ha.ex
  refine ⟨_, pe_callTy call_list_of hg hm hv pa hn hdb he hpl, ?_⟩
  intro B ρ σ Hf H Q' E' Q R q k kx
  refine ea B ρ σ Hf H _ E' _ R q (fun vs ds Hf1 H1 R1 s1 r1 q1 => ?_) kx
  have q2 : (match ds with | [.lst ds] => W.pure ds | [.tup ds] => W.pure ds | _ => W.fail) Q' E' := q1
  split at q2
  · cases r1 with
    | cons r t =>
      cases t
      cases r with
      | lst h r =>
        refine ⟨_, _, rfl, .inl (SqL.of (R1.sm _ _ h)), fun p hp => ?_⟩
        obtain ⟨R2, n2, f⟩ := fresh_new R R1 s1 hp r
        exact k p _ _ _ _ R2 n2 f q2
  · cases r1 with
    | cons r t =>
      cases t
      cases r with
      | tup h r =>
        refine ⟨_, _, rfl, .inr (SqT.of (R1.sm _ _ h)), fun p hp => ?_⟩
        obtain ⟨R2, n2, f⟩ := fresh_new R R1 s1 hp r
        exact k p _ _ _ _ R2 n2 f q2
  · exact q2.elim
/-- the script's length, an item -/
def lenS (i : Nat) : Env → W D := fun ρ Q _ => ∃ ns : List Int, ρ[i]? = some (.scr ns) ∧ Q (.int ns.length)
theorem ev_lenS {i : Nat} {x : Str} {p p2 : Pos} (hp : PE X (.Call (.Name "len" p) [.Name x p2] [] pos) (tCB (rLenX X.K) (tCons (tVar i) tNil))) (hK : X.K = G.K) : Ev G X Wx (.Call (.Name "len" p) [.Name x p2] [] pos) (lenS i) := by
  refine ⟨_, hp, ?_⟩
  intro B ρ σ Hf H Q' E' Q R q k kx
  obtain ⟨ns, e, q⟩ := q
  obtain ⟨p, e1, h1⟩ := R.sl i _ e
  exact ⟨_, e1, p, _, rfl, .inl (hK ▸ R.sm.seq h1), k _ _ Hf H R Nx.refl (by rw [List.length_map]; exact .int _) q⟩
variable {elt tg iter : Expr} {ifs : List Expr} {sc : Scope} {own : List (Str × Nat)} {gi : Env → W (List D)} {gt : D → Env → W Env} {gb : Env → W Bool} {ge : Env → W D} {sl : List Nat} {i : Nat} {y : Str} {py spos : Pos}
theorem es_setLcN (hc : X.calm = true) (hN : X.N.Nodup) (hy : X.N[i]? = some y) (hyl : X.env.scope.names.lookup y = some .local)
    (hsw : swapsWith (.ListComp elt [⟨tg, iter, ifs, 0⟩] sc pos) (some (.Name y py)) spos.line X.env = pure true) (hi : Ei G X Wx tg iter gi) (ok : BlkOk X.N X.env.scope sc own) (hg : ∀ s H0 C cl fp, Eg G (bk X sc s H0 C cl fp) tg sl gt)
    (ht : ∀ s H0 C cl fp, Ets G (bk X sc s H0 C cl fp) WF ifs gb) (he : ∀ s H0 C cl fp, Ev G (bk X sc s H0 C cl fp) WF elt ge) (hsl : ∀ i ∈ sl, i ∈ own.map (·.2)) (hs : ∀ x, foldedSetIterable iter X.env x = pure x := by intro _; rfl) :
    Es G X Wx (.Assign [.Name y py] (.ListComp elt [⟨tg, iter, ifs, 0⟩] sc pos) spos) (sSetN i (lcN gi (own.map (·.2)) gt gb ge)) := by
  obtain ⟨wi, pi, ei⟩ := hi.ex
  exact ⟨_, ps_setLc hc hN hy hyl hsw pi ok pg_fam pts_fam pe_fam hs, est_setN (ent_lc ei hg ht he hsl)⟩
theorem es_setLc (hc : X.calm = true) (hN : X.N.Nodup) (hy : X.N[i]? = some y) (hyl : X.env.scope.names.lookup y = some .local)
    (hsw : swapsWith (.ListComp elt [⟨tg, iter, ifs, 0⟩] sc pos) (some (.Name y py)) spos.line X.env = pure true) (hi : Ei G X Wx tg iter gi) (ok : BlkOk X.N X.env.scope sc own) (hg : ∀ s H0 C cl fp, Eg G (bk X sc s H0 C cl fp) tg sl gt)
    (ht : ∀ s H0 C cl fp, Ets G (bk X sc s H0 C cl fp) WF ifs gb) (he : ∀ s H0 C cl fp, Ev G (bk X sc s H0 C cl fp) WF elt ge) (hsl : ∀ i ∈ sl, i ∈ own.map (·.2)) (hs : ∀ x, foldedSetIterable iter X.env x = pure x := by intro _; rfl) :
    Es G X Wx (.Assign [.Name y py] (.ListComp elt [⟨tg, iter, ifs, 0⟩] sc pos) spos) (sSet i (lstV (lcN gi (own.map (·.2)) gt gb ge))) := by
  obtain ⟨wi, pi, ei⟩ := hi.ex
  exact ⟨_, ps_setLc hc hN hy hyl hsw pi ok pg_fam pts_fam pe_fam hs, est_set (ent_lc ei hg ht he hsl).ev⟩
end
/-- name += an int, name -= an int -/
def sAug (i : Nat) (f : Int → Int → Int) (g : Env → W D) : Env → Ws := fun ρ Q E => ∃ a : Int, ρ[i]? = some (.fz (.int a)) ∧ g ρ (fun d => ∃ b : Int, d = .int b ∧ Q .nx (ρ.set i (.fz (.int (f a b))))) (fun x => E x ρ)
theorem es_augI {G : Ctx} {X : Cx} {Wx : WX} {e : Expr} {st : Stmt} {g : Env → W D} {i : Nat} {f : Int → Int → Int} (h : Ev G X Wx e g) (hp : ∀ t, PE X e t → PS X st (tAug i t (ipI f))) : Es G X Wx st (sAug i f g) := by
  obtain ⟨t, p, ev⟩ := h.ex
  refine ⟨_, hp t p, ?_⟩
  intro B ρ σ Hf H Q' E' Dd R q k kx
  obtain ⟨a, e, q⟩ := q
  obtain ⟨v, e1, r⟩ := R.sl i _ e
  cases r
  refine ⟨_, e1, ?_⟩
  refine ev B ρ σ Hf H _ _ _ R q (fun w d Hf1 H1 R1 n1 r1 q1 => ?_) kx.at
  obtain ⟨b, rfl, q1⟩ := q1
  cases r1
  exact ⟨a, b, rfl, rfl, k.nx _ _ Hf1 H1 (R1.set (.int _)) n1.sm q1⟩
theorem PSp.mono {G : Ctx} {m c : List Sl → W D} (h : ∀ as Q E, c as Q E → m as Q E) {vs : List V} {H : Hp} {Q : VK} {E : XK} (s : PSp G c vs H Q E) : PSp G m vs H Q E := by
  obtain ⟨Hf, as, Q', E', h1, h2, h3, h4⟩ := s
  exact ⟨Hf, as, Q', E', h1, h2, h _ _ _ h3, h4⟩
theorem PSpI.mono {G : Ctx} {C : Nat} {m c : List Sl → W (List (Str × D))} (h : ∀ as Q E, c as Q E → m as Q E) {vs : List V} {H : Hp} {Q : VK} {E : XK} (s : PSpI G C c vs H Q E) : PSpI G C m vs H Q E := by
  obtain ⟨x, dx, ws, H0, Hf, as, Q', E', h1, h2, h3, h4, h5, h6, h7, h8, h9⟩ := s
  exact ⟨x, dx, ws, H0, Hf, as, Q', E', h1, h2, h3, h4, h5, h6, h7, h _ _ _ h8, h9⟩
end PL

set_option Elab.async false
set_option linter.all false
set_option maxRecDepth 100000
set_option maxHeartbeats 2000000
namespace PL
open PySem L2

/-! ### what the pieces come to -/
section
variable {α β : Type} {ρ : PL.Env} {Q : D → Prop} {E : Xc → Prop} {QB : Bool → Prop} {QL : List D → Prop} {QC : List Sl → Prop} {QS : Fl → PL.Env → Prop} {ES : Xc → PL.Env → Prop} {QE : PL.Env → Prop} {QO : Option Int → Prop}
variable {ga gb gc g : PL.Env → W D} {f f' : D → D → W D} {i : Nat}
@[simp] theorem wbind_app {m : W α} {k : α → W β} {Q : β → Prop} : (m >>= k) Q E = m (fun a => k a Q E) E := rfl
@[simp] theorem wpure_app {a : α} {Q : α → Prop} : (W.pure a) Q E = Q a := rfl
@[simp] theorem wpure2_app {a : α} {Q : α → Prop} : (Pure.pure a : W α) Q E = Q a := rfl
@[simp] theorem wfail_app {Q : α → Prop} : (W.fail : W α) Q E = False := rfl
@[simp] theorem wneed_app {P : Prop} {m : W α} {Q : α → Prop} : (W.need P m) Q E = (P ∧ m Q E) := rfl
@[simp] theorem bin2_app : bin2 f ga gb ρ Q E = ga ρ (fun x => gb ρ (fun y => f x y Q E) E) E := rfl
@[simp] theorem un1_app {f : D → W D} : un1 f g ρ Q E = g ρ (fun x => f x Q E) E := rfl
@[simp] theorem rd_app : rd i ρ Q E = rdS ρ[i]? Q E := rfl
@[simp] theorem rdS_fz {d : D} : rdS (some (.fz d)) Q E = Q d := rfl
@[simp] theorem kst_app {d : D} : kst d ρ Q E = Q d := rfl
@[simp] theorem testB_app : testB g ρ QB E = g ρ (fun d => asB d QB E) E := rfl
@[simp] theorem asB_bl {b : Bool} : asB (.bl b) QB E = QB b := rfl
@[simp] theorem chain2_app : chain2 f f' ga gb gc ρ Q E = ga ρ (fun x => gb ρ (fun y => f x y (fun z => asB z (fun k => (if k = true then (do let w ← gc ρ; f' y w) else W.pure (.bl false) : W D) Q E) E) E) E) E := rfl
@[simp] theorem andB_app {a b : PL.Env → W Bool} : andB a b ρ QB E = a ρ (fun x => (if x = true then b ρ else W.pure false : W Bool) QB E) E := rfl
@[simp] theorem orB_app {a b : PL.Env → W Bool} : orB a b ρ QB E = a ρ (fun x => (if x = true then W.pure true else b ρ : W Bool) QB E) E := rfl
@[simp] theorem notB_app {a : PL.Env → W Bool} : notB a ρ QB E = a ρ (fun x => QB (!x)) E := rfl
@[simp] theorem andV_app : andV ga gb ρ Q E = ga ρ (fun x => asB x (fun k => (if k = true then gb ρ else W.pure (.bl false) : W D) Q E) E) E := rfl
@[simp] theorem orV_app : orV ga gb ρ Q E = ga ρ (fun x => asB x (fun k => (if k = true then W.pure (.bl true) else gb ρ : W D) Q E) E) E := rfl
@[simp] theorem notV_app : notV ga ρ Q E = ga ρ (fun x => asB x (fun k => Q (.bl (!k))) E) E := rfl
@[simp] theorem iteV_app {c : PL.Env → W Bool} : iteV c ga gb ρ Q E = c ρ (fun x => (if x = true then ga ρ else gb ρ : W D) Q E) E := rfl
@[simp] theorem ite_w {c : Prop} [Decidable c] {a b : W α} {Q : α → Prop} : (if c then a else b : W α) Q E = (if c then a Q E else b Q E) := by split <;> rfl
@[simp] theorem callN_app {f : List D → W D} {g : PL.Env → W (List D)} : callN f g ρ Q E = g ρ (fun xs => f xs Q E) E := rfl
@[simp] theorem nilA_app : nilA ρ QL E = QL [] := rfl
@[simp] theorem consA_app {g' : PL.Env → W (List D)} : consA g g' ρ QL E = g ρ (fun x => g' ρ (fun xs => QL (x :: xs)) E) E := rfl
@[simp] theorem dispL_app {f : List D → D} {g : PL.Env → W (List D)} : dispL f g ρ Q E = g ρ (fun xs => xs.length ≤ sizeLine ∧ Q (f xs)) E := propext ⟨fun h => h, fun h => h⟩
@[simp] theorem dispN_app {g : PL.Env → W (List D)} : dispN g ρ QL E = g ρ (fun xs => xs.length ≤ sizeLine ∧ QL xs) E := propext ⟨fun h => h, fun h => h⟩
@[simp] theorem lstV_app {g : PL.Env → W (List D)} : lstV g ρ Q E = g ρ (fun xs => Q (.lst xs)) E := rfl
@[simp] theorem nilC_app : nilC ρ QC E = QC [] := rfl
@[simp] theorem dC_app {g' : PL.Env → W (List Sl)} : dC g g' ρ QC E = g ρ (fun x => g' ρ (fun xs => QC (.fz x :: xs)) E) E := rfl
@[simp] theorem newC_app {g0 : PL.Env → W Unit} {g' : PL.Env → W (List Sl)} : newC g0 g' ρ QC E = g0 ρ (fun _ => g' ρ (fun xs => QC (.pool :: xs)) E) E := rfl
@[simp] theorem callF_app {m : List Sl → W D} {g : PL.Env → W (List Sl)} : callF m g ρ Q E = g ρ (fun as => m as Q E) E := rfl
@[simp] theorem callP_app {m : List Sl → W Unit} {g : PL.Env → W (List Sl)} {Q : Unit → Prop} : callP m g ρ Q E = g ρ (fun as => m as Q E) E := rfl
@[simp] theorem makeF_app {C : Nat} {m : List Sl → W (List (Str × D))} {g : PL.Env → W (List Sl)} : makeF C m g ρ Q E = g ρ (fun as => m as (fun fs => Q (.ins C fs)) E) E := rfl
def noF (C : Nat) (mn : Str) (r : D) : Prop := ∃ fs, r = .ins C fs ∧ fs.lookup mn = none
@[simp] theorem callM_app {C : Nat} {mn : Str} {m : List Sl → W D} {gs : PL.Env → W (List Sl)} : callM C mn m g gs ρ Q E = g ρ (fun r => noF C mn r ∧ gs ρ (fun as => m (.fz r :: as) Q E) E) E := rfl
theorem slC_pool {g' : PL.Env → W (List Sl)} (h : ρ[i]? = some .pool) (q : g' ρ (fun r => QC (.pool :: r)) E) : slC i g' ρ QC E := .inl ⟨h, q⟩
theorem slC_scr {g' : PL.Env → W (List Sl)} {ns : List Int} (h : ρ[i]? = some (.scr ns)) (q : g' ρ (fun r => QC (.scr ns :: r)) E) : slC i g' ρ QC E := .inr ⟨ns, h, q⟩
@[simp] theorem slC_app {g' : PL.Env → W (List Sl)} : slC i g' ρ QC E = ((ρ[i]? = some .pool ∧ g' ρ (fun r => QC (.pool :: r)) E) ∨ (∃ ns, ρ[i]? = some (.scr ns) ∧ g' ρ (fun r => QC (.scr ns :: r)) E)) := rfl
@[simp] theorem sNx_app : sNx ρ QS ES = QS .nx ρ := rfl
@[simp] theorem sSeq_app {f g : PL.Env → Ws} : sSeq f g ρ QS ES = f ρ (fun fl ρ1 => match fl with | .nx => g ρ1 QS ES | o => QS o ρ1) ES := propext ⟨fun h => h, fun h => h⟩
@[simp] theorem sBk_app : sBk ρ QS ES = QS .bk ρ := rfl
@[simp] theorem sCt_app : sCt ρ QS ES = QS .ct ρ := rfl
@[simp] theorem sNever_app : sNever ρ QS ES = False := rfl
@[simp] theorem sRet_app : sRet g ρ QS ES = g ρ (fun d => QS (.rt d) ρ) (fun x => ES x ρ) := rfl
@[simp] theorem sRetN_app : sRetN ρ QS ES = QS (.rt .non) ρ := rfl
@[simp] theorem sDrop_app : sDrop g ρ QS ES = g ρ (fun _ => QS .nx ρ) (fun x => ES x ρ) := rfl
@[simp] theorem sIf_app {c : PL.Env → W Bool} {f g : PL.Env → Ws} : sIf c f g ρ QS ES = c ρ (fun b => if b = true then f ρ QS ES else g ρ QS ES) (fun x => ES x ρ) := rfl
@[simp] theorem sSet_app : sSet i g ρ QS ES = g ρ (fun d => QS .nx (ρ.set i (.fz d))) (fun x => ES x ρ) := rfl
@[simp] theorem sSetN_app {g : PL.Env → W (List D)} : sSetN i g ρ QS ES = g ρ (fun d => QS .nx (ρ.set i (.ow d))) (fun x => ES x ρ) := rfl
@[simp] theorem sSetP_app {g : PL.Env → W Unit} : sSetP i g ρ QS ES = g ρ (fun _ => QS .nx (ρ.set i .pool)) (fun x => ES x ρ) := rfl
@[simp] theorem sAsg_app {t : D → PL.Env → W PL.Env} : sAsg g t ρ QS ES = g ρ (fun d => t d ρ (fun ρ' => QS .nx ρ') (fun _ => False)) (fun x => ES x ρ) := rfl
@[simp] theorem sFrz_app {g : PL.Env → Ws} : sFrz i g ρ QS ES = (match ρ[i]? with | some (.ow ds) => g (ρ.set i (.fz (.lst ds))) QS ES | _ => False) := rfl
@[simp] theorem sApp_app : sApp i g ρ QS ES = (∃ ds, ρ[i]? = some (.ow ds) ∧ ds.length < sizeLine ∧ g ρ (fun d => QS .nx (ρ.set i (.ow (ds ++ [d])))) (fun x => ES x ρ)) := rfl
@[simp] theorem sSetIx_app : sSetIx i ga gb ρ QS ES = (∃ ds, ρ[i]? = some (.ow ds) ∧ gb ρ (fun d => ga ρ (fun k => ∃ j n, k = .int j ∧ ixN ds.length j = some n ∧ QS .nx (ρ.set i (.ow (ds.set n d)))) (fun x => ES x ρ)) (fun x => ES x ρ)) := rfl
@[simp] theorem sAug_app {f : Int → Int → Int} : sAug i f g ρ QS ES = (∃ a : Int, ρ[i]? = some (.fz (.int a)) ∧ g ρ (fun d => ∃ b : Int, d = .int b ∧ QS .nx (ρ.set i (.fz (.int (f a b))))) (fun x => ES x ρ)) := rfl
@[simp] theorem sFld_app {f : Str} {C : Nat} : sFld i f C g ρ QS ES = (∃ a dx fs, ρ[i]? = some (.oi a dx C fs) ∧ fs.length < 1000 ∧ g ρ (fun d => QS .nx (ρ.set i (.oi a dx C (putD f d fs)))) (fun x => ES x ρ)) := rfl
@[simp] theorem sSetPl_app : sSetPl i ga gb ρ QS ES = (ρ[i]? = some .pool ∧ gb ρ (fun d => ga ρ (fun k => ∃ j z : Int, k = .int j ∧ d = .int z ∧ 0 ≤ j ∧ j < 4 ∧ QS .nx ρ) (fun x => ES x ρ)) (fun x => ES x ρ)) := rfl
@[simp] theorem ixP_app : ixP i g ρ Q E = (ρ[i]? = some .pool ∧ g ρ (fun k => ∃ j : Int, k = .int j ∧ 0 ≤ j ∧ j < 4 ∧ ∀ z : Int, Q (.int z)) E) := rfl
@[simp] theorem ixO_app : ixO i g ρ Q E = (∃ ds, ρ[i]? = some (.ow ds) ∧ g ρ (fun k => ∃ j d, k = .int j ∧ atI ds j = some d ∧ Q d) E) := rfl
@[simp] theorem lenO_app : lenO i ρ Q E = (∃ ds, ρ[i]? = some (.ow ds) ∧ Q (.int ds.length)) := rfl
@[simp] theorem lenS_app : lenS i ρ Q E = (∃ ns : List Int, ρ[i]? = some (.scr ns) ∧ Q (.int ns.length)) := rfl
@[simp] theorem nameG_app {d : D} : nameG i d ρ QE E = QE (ρ.set i (.fz d)) := rfl
@[simp] theorem tupG_app {n : Nat} {g : List D → PL.Env → W PL.Env} {ds : List D} : tupG n g (.tup ds) ρ QE E = (ds.length = n ∧ g ds ρ QE E) := rfl
@[simp] theorem consG_app {f : D → PL.Env → W PL.Env} {g : List D → PL.Env → W PL.Env} {d : D} {ds : List D} : consG f g (d :: ds) ρ QE E = f d ρ (fun ρ1 => g ds ρ1 QE E) E := rfl
@[simp] theorem nilG_app : nilG [] ρ QE E = QE ρ := propext ⟨fun h => h.2, fun h => ⟨rfl, h⟩⟩
@[simp] theorem sFor_app {gi : PL.Env → W (List D)} {gt : D → PL.Env → W PL.Env} {b : PL.Env → Ws} : sFor gi gt b ρ QS ES = gi ρ (fun ds => forE gt b ds ρ QS ES) (fun x => ES x ρ) := rfl
@[simp] theorem sWhile_app {c : PL.Env → W Bool} {b : PL.Env → Ws} : sWhile c b ρ QS ES = ∃ n, whN c b n ρ QS ES := rfl
@[simp] theorem lcN_app {gi : PL.Env → W (List D)} {vs : List Nat} {gt : D → PL.Env → W PL.Env} {gb : PL.Env → W Bool} {ge : PL.Env → W D} : lcN gi vs gt gb ge ρ QL E = gi ρ (fun ds => (okW ρ vs = true ∧ ds.length ≤ sizeLine) ∧ lcL vs gt gb ge ρ ds QL E) E := rfl
theorem lstI_app : lstI g ρ QL E = g ρ (fun d => (match d with | .lst ds => W.pure ds | _ => W.fail : W (List D)) QL E) E := rfl
theorem tupI_app : tupI g ρ QL E = g ρ (fun d => (match d with | .tup ds => W.pure ds | _ => W.fail : W (List D)) QL E) E := rfl
@[simp] theorem zipI_app : zipI ga gb ρ QL E = ga ρ (fun c => gb ρ (fun d => (match c, d with | .lst xs, .lst ys => W.pure (List.zipWith (fun x y => D.tup [x, y]) xs ys) | _, _ => W.fail : W (List D)) QL E) E) E := rfl
@[simp] theorem rng1_app : rng1 g ρ QL E = g ρ (fun d => (match d with | .int j => W.need (-(2 ^ 62) ≤ j ∧ j < 2 ^ 62) (W.pure ((List.range j.toNat).map fun k => D.int (0 + (k : Nat)))) | _ => W.fail : W (List D)) QL E) E := rfl
@[simp] theorem rng2_app : rng2 ga gb ρ QL E = ga ρ (fun c => gb ρ (fun d => (match c, d with | .int i, .int j => W.need (-(2 ^ 62) ≤ i ∧ i < 2 ^ 62 ∧ -(2 ^ 62) ≤ j ∧ j < 2 ^ 62) (W.pure ((List.range (j - i).toNat).map fun k => D.int (i + (k : Nat)))) | _, _ => W.fail : W (List D)) QL E) E) E := rfl
@[simp] theorem slL_app {lo hi : PL.Env → W (Option Int)} : slL g lo hi ρ Q E = g ρ (fun d => lo ρ (fun i => hi ρ (fun j => (match d with | .lst xs => W.pure (.lst (cutD xs i j)) | _ => W.fail : W D) Q E) E) E) E := rfl
@[simp] theorem intO_app : intO g ρ QO E = g ρ (fun d => (match d with | .int i => W.pure (some i) | _ => W.fail : W (Option Int)) QO E) E := rfl
@[simp] theorem starA_lst {g' : PL.Env → W (List D)} : starA g g' ρ QL E = g ρ (fun d => (match d with | .lst ds => do let xs ← g' ρ; W.pure (ds ++ xs) | .tup ds => do let xs ← g' ρ; W.pure (ds ++ xs) | _ => W.fail : W (List D)) QL E) E := rfl
@[simp] theorem fldC_app {C : Nat} {f : Str} {fs : List (Str × D)} : fldC C f (.ins C fs) Q E = ∃ d, fs.lookup f = some d ∧ Q d := propext ⟨fun h => h.2, fun h => ⟨⟨_, rfl⟩, h⟩⟩
@[simp] theorem yesB_app : yesB ρ QB E = QB true := rfl
@[simp] theorem addD_int {i j : Int} : addD (.int i) (.int j) Q E = Q (.int (i + j)) := rfl
@[simp] theorem addD_lst {a b : List D} : addD (.lst a) (.lst b) Q E = (a.length + b.length ≤ sizeLine ∧ Q (.lst (a ++ b))) := rfl
@[simp] theorem addD_tup {a b : List D} : addD (.tup a) (.tup b) Q E = (a.length + b.length ≤ sizeLine ∧ Q (.tup (a ++ b))) := rfl
@[simp] theorem subD_int {i j : Int} : subD (.int i) (.int j) Q E = Q (.int (i - j)) := rfl
@[simp] theorem mulD_int {i j : Int} : mulD (.int i) (.int j) Q E = ((CMul i j ∨ CMulW i j) ∧ Q (.int (i * j))) := rfl
@[simp] theorem mulD_lst {a : List D} {k : Int} : mulD (.lst a) (.int k) Q E = ((-(2 ^ 63) ≤ k ∧ k < 2 ^ 63 ∧ a.length * k.toNat ≤ sizeLine) ∧ Q (.lst (List.replicate k.toNat a).flatten)) := rfl
@[simp] theorem mulD_tup {a : List D} {k : Int} : mulD (.tup a) (.int k) Q E = ((k = 1 ∨ (a ≠ [] ∧ 2 ≤ k ∧ k ≤ 1000 ∧ a.length ≤ 1000)) ∧ Q (.tup (List.replicate k.toNat a).flatten)) := rfl
@[simp] theorem divD_int {i j : Int} : divD (.int i) (.int j) Q E = ((CDiv i j ∨ CDivW i j) ∧ Q (.int (i / j))) := rfl
@[simp] theorem modD_int {i j : Int} : modD (.int i) (.int j) Q E = (0 < j ∧ Q (.int (i % j))) := rfl
@[simp] theorem powD_int {i j : Int} : powD (.int i) (.int j) Q E = (CPow i j ∧ Q (.int (i ^ j.toNat))) := rfl
@[simp] theorem ltD_int {i j : Int} : ltD (.int i) (.int j) Q E = Q (.bl (decide (i < j))) := rfl
@[simp] theorem leD_int {i j : Int} : leD (.int i) (.int j) Q E = Q (.bl (decide (i ≤ j))) := rfl
@[simp] theorem gtD_int {i j : Int} : gtD (.int i) (.int j) Q E = Q (.bl (decide (j < i))) := rfl
@[simp] theorem geD_int {i j : Int} : geD (.int i) (.int j) Q E = Q (.bl (decide (j ≤ i))) := rfl
@[simp] theorem negD_int {i : Int} : negD (.int i) Q E = Q (.int (-i)) := rfl
@[simp] theorem ixD_lst {xs : List D} {i : Int} : ixD (.lst xs) (.int i) Q E = ∃ d, atI xs i = some d ∧ Q d := rfl
@[simp] theorem ixD_tup {xs : List D} {i : Int} : ixD (.tup xs) (.int i) Q E = ∃ d, atI xs i = some d ∧ Q d := rfl
@[simp] theorem lenD_lst {xs : List D} : lenD [.lst xs] Q E = Q (.int xs.length) := rfl
@[simp] theorem lenD_tup {xs : List D} : lenD [.tup xs] Q E = Q (.int xs.length) := rfl
@[simp] theorem intD_int {i : Int} : intD [.int i] Q E = Q (.int i) := rfl
@[simp] theorem intD_bl {b : Bool} : intD [.bl b] Q E = Q (.int (if b then 1 else 0)) := rfl
@[simp] theorem listD_lst {xs : List D} : listD [.lst xs] Q E = Q (.lst xs) := rfl
@[simp] theorem listD_tup {xs : List D} : listD [.tup xs] Q E = Q (.lst xs) := rfl
@[simp] theorem tupleD_lst {xs : List D} : tupleD [.lst xs] Q E = Q (.tup xs) := rfl
@[simp] theorem tupleD_tup {xs : List D} : tupleD [.tup xs] Q E = Q (.tup xs) := rfl
@[simp] theorem absD_int {i : Int} : absD [.int i] Q E = Q (.int (if i < 0 then -i else i)) := rfl
@[simp] theorem max2D_int {i j : Int} : max2D [.int i, .int j] Q E = Q (.int (if j > i then j else i)) := rfl
@[simp] theorem min2D_int {i j : Int} : min2D [.int i, .int j] Q E = Q (.int (if j < i then j else i)) := rfl
@[simp] theorem isND_non {a : D} : isND a .non Q E = Q (.bl (isNo a)) := by cases a <;> rfl
@[simp] theorem isNo_int {i : Int} : isNo (.int i) = false := rfl
@[simp] theorem isNo_non : isNo .non = true := rfl
@[simp] theorem isNo_lst {ds : List D} : isNo (.lst ds) = false := rfl
@[simp] theorem isNo_tup {ds : List D} : isNo (.tup ds) = false := rfl
@[simp] theorem isBD_bl {a b : Bool} : isBD (.bl a) (.bl b) Q E = Q (.bl (decide (a = b))) := rfl
@[simp] theorem notBD_bl {a b : Bool} : notBD (.bl a) (.bl b) Q E = Q (.bl (!decide (a = b))) := rfl
theorem sumD_ints {ns : List Int} (q : Q (.int ns.sum)) : sumD [.lst (ns.map D.int)] Q E := ⟨ns, rfl, q⟩
theorem allD_bls {f : List Bool → Bool} {ns : List Bool} (q : Q (.bl (f ns))) : allD f [.lst (ns.map D.bl)] Q E := ⟨ns, rfl, q⟩
@[simp] theorem eqD_int {i j : Int} : eqD (.int i) (.int j) Q E = Q (.bl (i == j)) := propext ⟨fun ⟨x, y, e1, e2, _, _, q⟩ => by
  simp only [toPy, Option.some.injEq] at e1 e2; subst e1 e2; simpa [PyData.eqv] using q, fun q => ⟨.int i, .int j, rfl, rfl, rfl, rfl, by simpa [PyData.eqv] using q⟩⟩
@[simp] theorem neD_int {i j : Int} : neD (.int i) (.int j) Q E = Q (.bl (!(i == j))) := propext ⟨fun ⟨x, y, e1, e2, _, _, q⟩ => by
  simp only [toPy, Option.some.injEq] at e1 e2; subst e1 e2; simpa [PyData.eqv] using q, fun q => ⟨.int i, .int j, rfl, rfl, rfl, rfl, by simpa [PyData.eqv] using q⟩⟩
end
/-! data that == takes: no texts, no instances, not nested too deep -/
mutual
def okN : Nat → D → Bool
  | _, .non => true | _, .bl _ => true | _, .int _ => true | _, .str _ => false
  | 0, .lst _ => false | 0, .tup _ => false
  | n + 1, .lst xs => okNs n xs
  | n + 1, .tup xs => okNs n xs
  | _, .ins _ _ => false
def okNs : Nat → List D → Bool
  | _, [] => true
  | n, d :: ds => okN n d && okNs n ds
end
mutual
theorem okN_py : ∀ (n : Nat) (d : D), okN n d = true → ∃ x, toPy d = some x ∧ x.canLay0 = true ∧ x.depth ≤ n
  | n, .non, _ => ⟨_, rfl, rfl, Nat.zero_le _⟩
  | n, .bl b, _ => ⟨_, rfl, rfl, Nat.zero_le _⟩
  | n, .int i, _ => ⟨_, rfl, rfl, Nat.zero_le _⟩
  | 0, .lst xs, h => by simp [okN] at h
  | 0, .tup xs, h => by simp [okN] at h
  | n + 1, .lst xs, h => by
    obtain ⟨x, e, h1, h2⟩ := okNs_py n xs (by simpa [okN] using h)
    exact ⟨.list x, by simp [toPy, e], by simpa [PyData.canLay0] using h1, by simp only [PyData.depth]; omega⟩
  | n + 1, .tup xs, h => by
    obtain ⟨x, e, h1, h2⟩ := okNs_py n xs (by simpa [okN] using h)
    exact ⟨.tuple x, by simp [toPy, e], by simpa [PyData.canLay0] using h1, by simp only [PyData.depth]; omega⟩
  | n, .str x, h => by simp [okN] at h
  | n, .ins _ _, h => by simp [okN] at h
theorem okNs_py : ∀ (n : Nat) (ds : List D), okNs n ds = true → ∃ xs, toPys ds = some xs ∧ PyData.canLayAll0 xs = true ∧ PyData.depthAll xs ≤ n
  | n, [], _ => ⟨_, rfl, rfl, Nat.zero_le _⟩
  | n, d :: ds, h => by
    simp only [okNs, Bool.and_eq_true] at h
    obtain ⟨x, e1, h1, h2⟩ := okN_py n d h.1
    obtain ⟨xs, e2, h3, h4⟩ := okNs_py n ds h.2
    exact ⟨x :: xs, by simp [toPys, e1, e2], by simp [PyData.canLayAll0, h1, h3], by simp only [PyData.depthAll]; omega⟩
end
/-- equal data -/
theorem eqD_self {Q : D → Prop} {E : Xc → Prop} {d : D} (n : Nat) (hn : n ≤ 64) (h : okN n d = true) (q : Q (.bl true)) : eqD d d Q E := by
  obtain ⟨x, e, h1, h2⟩ := okN_py n d h
  have s : SeqAt.shaped x = true := by
    unfold SeqAt.shaped
    rw [h1]
    simp
    omega
  exact ⟨x, x, e, e, s, s, by rw [SeqAt.eqv_refl x h1]; exact q⟩
theorem neD_self {Q : D → Prop} {E : Xc → Prop} {d : D} (n : Nat) (hn : n ≤ 64) (h : okN n d = true) (q : Q (.bl false)) : neD d d Q E := by
  obtain ⟨x, e, h1, h2⟩ := okN_py n d h
  have s : SeqAt.shaped x = true := by
    unfold SeqAt.shaped
    rw [h1]
    simp
    omega
  exact ⟨x, x, e, e, s, s, by rw [SeqAt.eqv_refl x h1]; exact q⟩

/-! ### loops, comprehensions -/
section
variable {vs : List Nat} {gt : D → PL.Env → W PL.Env} {gb : PL.Env → W Bool} {ge : PL.Env → W D} {ρ : PL.Env} {Q : List D → Prop} {E : Xc → Prop}
theorem lcL_fun (f : D → D) : ∀ {ds : List D} {Q : List D → Prop}, (∀ d ∈ ds, ∀ k : D → Prop, k (f d) → gt d (wipeE ρ vs) (fun ρ2 => ge ρ2 k (fun _ => False)) (fun _ => False)) → Q (ds.map f) → lcL vs gt yesB ge ρ ds Q E
  | [], Q, _, q => q
  | d :: ds, Q, h, q => by
    show gt d (wipeE ρ vs) (fun ρ2 => ge ρ2 (fun y => lcL vs gt yesB ge ρ ds (fun r => Q (y :: r)) E) (fun _ => False)) (fun _ => False)
    exact h d (by simp) _ (lcL_fun f (fun d hd => h d (by simp [hd])) q)
theorem lcL_any (P : D → Prop) : ∀ {ds : List D} {Q : List D → Prop}, (∀ d ∈ ds, ∀ k : D → Prop, (∀ y, P y → k y) → gt d (wipeE ρ vs) (fun ρ2 => ge ρ2 k (fun _ => False)) (fun _ => False)) → (∀ out : List D, out.length = ds.length → (∀ y ∈ out, P y) → Q out) → lcL vs gt yesB ge ρ ds Q E
  | [], Q, _, q => q [] rfl (by simp)
  | d :: ds, Q, h, q => by
    show gt d (wipeE ρ vs) (fun ρ2 => ge ρ2 (fun y => lcL vs gt yesB ge ρ ds (fun r => Q (y :: r)) E) (fun _ => False)) (fun _ => False)
    refine h d (by simp) _ fun y hy => lcL_any P (fun d hd => h d (by simp [hd])) fun out hl ho => q _ (by simp [hl]) ?_
    intro z hz
    rcases List.mem_cons.mp hz with e | e
    · rw [e]; exact hy
    · exact ho z e
theorem forE_inv {body : PL.Env → Ws} {Q : Fl → PL.Env → Prop} {E : Xc → PL.Env → Prop} (I : Nat → PL.Env → Prop) {ds : List D}
    (hs : ∀ (i : Nat) (d : D) (ρ : PL.Env) (k : Fl → PL.Env → Prop), ds[i]? = some d → I i ρ → (∀ ρ', I (i + 1) ρ' → k .nx ρ') → (∀ v ρ', Q (.rt v) ρ' → k (.rt v) ρ') → (∀ ρ', Q .nx ρ' → k .bk ρ') → (∀ ρ', I (i + 1) ρ' → k .ct ρ') → gt d ρ (fun ρ2 => body ρ2 k E) (fun _ => False))
    (hd : ∀ ρ, I ds.length ρ → Q .nx ρ) (h0 : I 0 ρ) : forE gt body ds ρ Q E := by
  have gen : ∀ (r : List D) (i : Nat) (ρ : PL.Env), ds.drop i = r → i + r.length = ds.length → I i ρ → forE gt body r ρ Q E := by
    intro r
    induction r with
    | nil =>
      intro i ρ e hl h
      have : i = ds.length := by simpa using hl
      subst this
      exact hd ρ h
    | cons d r ih =>
      intro i ρ e hl h
      have hi : ds[i]? = some d := by
        have := congrArg (fun l => l[0]?) e
        simpa using this
      have e2 : ds.drop (i + 1) = r := by
        have := congrArg List.tail e
        simpa using this
      have hl2 : (i + 1) + r.length = ds.length := by simp at hl; omega
      exact hs i d ρ _ hi h (fun ρ' h' => ih (i + 1) ρ' e2 hl2 h') (fun v ρ' q => q) (fun ρ' q => q) (fun ρ' h' => ih (i + 1) ρ' e2 hl2 h')
  exact gen ds 0 ρ rfl (by simp) h0
end
@[simp] theorem atI_cons0 {α : Type} {x : α} {xs : List α} : atI (x :: xs) 0 = some x := atI_nat (j := 0) rfl
@[simp] theorem atI_cons1 {α : Type} {x y : α} {xs : List α} : atI (x :: y :: xs) 1 = some y := atI_nat (j := 1) rfl
@[simp] theorem atI_cons2 {α : Type} {x y z : α} {xs : List α} : atI (x :: y :: z :: xs) 2 = some z := atI_nat (j := 2) rfl
theorem atI_of {α : Type} {xs : List α} {i : Int} (h0 : 0 ≤ i) (h1 : i < xs.length) : ∃ x, atI xs i = some x ∧ xs[i.toNat]? = some x := by
  have hl : i.toNat < xs.length := by omega
  refine ⟨xs[i.toNat], ?_, List.getElem?_eq_getElem hl⟩
  have := atI_nat (xs := xs) (j := i.toNat) (List.getElem?_eq_getElem hl)
  rw [Int.toNat_of_nonneg h0] at this
  exact this
theorem sz {n : Nat} (h : n ≤ 100000) : n ≤ sizeLine := Nat.le_trans h (by decide)
theorem sz_lt {n : Nat} (h : n ≤ 100000) : n < sizeLine := Nat.lt_of_le_of_lt h (by decide)
end PL

set_option Elab.async false
set_option linter.all false
set_option maxRecDepth 100000
set_option maxHeartbeats 2000000
namespace PL
open PySem L2
/-! ### lists, tuples of data of one form -/
def dList {α : Type} (f : α → D) (xs : List α) : D := .lst (xs.map f)
def dTupL {α : Type} (f : α → D) (xs : List α) : D := .tup (xs.map f)
def asL (d : D) : W (List D) := match d with | .lst ds => W.pure ds | _ => W.fail
def asT (d : D) : W (List D) := match d with | .tup ds => W.pure ds | _ => W.fail
section
variable {α : Type} {f : α → D} {xs : List α} {ρ : PL.Env} {Q : D → Prop} {E : Xc → Prop} {QL : List D → Prop} {g : PL.Env → W D} {i : Int}
@[simp] theorem lstI_app' : lstI g ρ QL E = g ρ (fun d => asL d QL E) E := rfl
@[simp] theorem tupI_app' : tupI g ρ QL E = g ρ (fun d => asT d QL E) E := rfl
@[simp] theorem asL_lst {ds : List D} : asL (.lst ds) QL E = QL ds := rfl
@[simp] theorem asT_tup {ds : List D} : asT (.tup ds) QL E = QL ds := rfl
@[simp] theorem asL_d : asL (dList f xs) QL E = QL (xs.map f) := rfl
@[simp] theorem asT_d : asT (dTupL f xs) QL E = QL (xs.map f) := rfl
theorem atI_map {xs : List α} {i : Int} : atI (xs.map f) i = (atI xs i).map f := by
  unfold atI
  rw [List.length_map]
  cases ixN xs.length i with
  | none => rfl
  | some j => simp
@[simp] theorem ixD_d : ixD (dList f xs) (.int i) Q E = ∃ x, atI xs i = some x ∧ Q (f x) := propext ⟨fun ⟨d, e, q⟩ => by
  rw [atI_map, Option.map_eq_some_iff] at e
  obtain ⟨x, e, rfl⟩ := e
  exact ⟨x, e, q⟩, fun ⟨x, e, q⟩ => ⟨f x, by rw [atI_map, e]; rfl, q⟩⟩
@[simp] theorem ixD_t : ixD (dTupL f xs) (.int i) Q E = ∃ x, atI xs i = some x ∧ Q (f x) := propext ⟨fun ⟨d, e, q⟩ => by
  rw [atI_map, Option.map_eq_some_iff] at e
  obtain ⟨x, e, rfl⟩ := e
  exact ⟨x, e, q⟩, fun ⟨x, e, q⟩ => ⟨f x, by rw [atI_map, e]; rfl, q⟩⟩
@[simp] theorem lenD_d : lenD [dList f xs] Q E = Q (.int xs.length) := by
  show Q (.int (xs.map f).length) = _
  rw [List.length_map]
@[simp] theorem lenD_t : lenD [dTupL f xs] Q E = Q (.int xs.length) := by
  show Q (.int (xs.map f).length) = _
  rw [List.length_map]
@[simp] theorem listD_d : listD [dList f xs] Q E = Q (dList f xs) := rfl
@[simp] theorem listD_t : listD [dTupL f xs] Q E = Q (dList f xs) := rfl
@[simp] theorem tupleD_d : tupleD [dList f xs] Q E = Q (dTupL f xs) := rfl
theorem kit_self {t : String} {d : D} (h : tyD d = some t) (hk : kitB t t = some true) : isiD t d Q E = Q (.bl true) := propext ⟨fun ⟨t', b, e1, e2, q⟩ => by
  rw [h] at e1; cases e1; rw [hk] at e2; cases e2; exact q, fun q => ⟨_, _, h, hk, q⟩⟩
theorem kb_list : kitB "list" "list" = some true := by decide +kernel
theorem kb_tuple : kitB "tuple" "tuple" = some true := by decide +kernel
theorem kb_int : kitB "int" "int" = some true := by decide +kernel
theorem kb_intbool : kitB "int" "bool" = some false := by decide +kernel
@[simp] theorem isiD_list {ds : List D} : isiD "list" (.lst ds) Q E = Q (.bl true) := kit_self rfl kb_list
@[simp] theorem isiD_d : isiD "list" (dList f xs) Q E = Q (.bl true) := kit_self rfl kb_list
@[simp] theorem isiD_tuple {ds : List D} : isiD "tuple" (.tup ds) Q E = Q (.bl true) := kit_self rfl kb_tuple
@[simp] theorem isiD_t : isiD "tuple" (dTupL f xs) Q E = Q (.bl true) := kit_self rfl kb_tuple
@[simp] theorem isiD_int {i : Int} : isiD "int" (.int i) Q E = Q (.bl true) := kit_self rfl kb_int
@[simp] theorem isiD_bool {i : Int} : isiD "bool" (.int i) Q E = Q (.bl false) := propext ⟨fun ⟨t, b, e1, e2, q⟩ => by
  simp only [tyD, Option.some.injEq] at e1; subst e1
  rw [kb_intbool] at e2; cases e2; exact q, fun q => ⟨_, _, rfl, kb_intbool, q⟩⟩
variable {vs : List Nat} {gt : D → PL.Env → W PL.Env} {ge : PL.Env → W D}
theorem lcL_map (h : α → D) {xs : List α} {QL : List D → Prop} (hs : ∀ x ∈ xs, ∀ k : D → Prop, k (h x) → gt (f x) (wipeE ρ vs) (fun ρ2 => ge ρ2 k (fun _ => False)) (fun _ => False)) (q : QL (xs.map h)) : lcL vs gt yesB ge ρ (xs.map f) QL E := by
  induction xs generalizing QL with
  | nil => exact q
  | cons x xs ih =>
    show gt (f x) (wipeE ρ vs) (fun ρ2 => ge ρ2 (fun y => lcL vs gt yesB ge ρ (xs.map f) (fun r => QL (y :: r)) E) (fun _ => False)) (fun _ => False)
    exact hs x (by simp) _ (ih (fun x hx => hs x (by simp [hx])) q)
/-- drawn ones: any list of good items -/
theorem lcL_draw {β γ : Type} (f : β → D) (h : γ → D) (P : β → γ → Prop) {xs : List β} {QL : List D → Prop} (hs : ∀ x ∈ xs, ∀ k : D → Prop, (∀ y, P x y → k (h y)) → gt (f x) (wipeE ρ vs) (fun ρ2 => ge ρ2 k (fun _ => False)) (fun _ => False))
    (q : ∀ ys : List γ, ys.length = xs.length → (∀ (i : Nat) x y, xs[i]? = some x → ys[i]? = some y → P x y) → QL (ys.map h)) : lcL vs gt yesB ge ρ (xs.map f) QL E := by
  induction xs generalizing QL with
  | nil => exact q [] rfl (by simp)
  | cons x xs ih =>
    show gt (f x) (wipeE ρ vs) (fun ρ2 => ge ρ2 (fun y => lcL vs gt yesB ge ρ (xs.map f) (fun r => QL (y :: r)) E) (fun _ => False)) (fun _ => False)
    refine hs x (by simp) _ fun y hy => ih (fun x hx => hs x (by simp [hx])) fun ys hl hp => q (y :: ys) (by simp [hl]) ?_
    intro i a b e1 e2
    cases i with
    | zero => simp at e1 e2; subst e1 e2; exact hy
    | succ i => exact hp i a b (by simpa using e1) (by simpa using e2)
end
theorem allD_true {α : Type} {xs : List α} {Q : D → Prop} {E : Xc → Prop} (q : Q (.bl true)) : allD (fun bs => bs.all id) [.lst (xs.map fun _ => D.bl true)] Q E := by
  have := allD_bls (f := fun bs => bs.all id) (ns := xs.map fun _ => true) (Q := Q) (E := E) (by
    have : (xs.map fun _ => true).all id = true := List.all_eq_true.mpr (by simp)
    rw [this]; exact q)
  simpa [Function.comp_def] using this
theorem sumD_map {α : Type} {xs : List α} {h : α → Int} {Q : D → Prop} {E : Xc → Prop} (q : Q (.int (xs.map h).sum)) : sumD [.lst (xs.map fun x => D.int (h x))] Q E := by
  have := sumD_ints (ns := xs.map h) (Q := Q) (E := E) q
  simpa [Function.comp_def] using this
/-! ### listeners as data -/
abbrev dRow (r : List Int) : D := dList D.int r
abbrev dTup (r : List Int) : D := dTupL D.int r
abbrev dRows (rs : List (List Int)) : D := dList (fun r => dRow r) rs
structure Rule where
  nx : Int
  rows : List (List Int)
def dRule (r : Rule) : D := .tup [.int r.nx, dRows r.rows]
abbrev dLine (l : List Rule) : D := dList dRule l
abbrev dRules (rr : List (List Rule)) : D := dList (fun l => dLine l) rr
abbrev dShows (ss : List (List (List Int))) : D := dList (fun rs => dRows rs) ss
structure Parts where
  bs : List Int
  rr : List (List Rule)
  ss : List (List (List Int))
def dParts (p : Parts) : D := .lst [dRow p.bs, dRules p.rr, dShows p.ss]
def dL (p : Parts) : D := .ins 0 [("burdens", dRow p.bs), ("rules", dRules p.rr), ("shows", dShows p.ss)]
structure RowOk (n : Nat) (r : List Int) : Prop where
  len : r.length = n
  rng : ∀ x ∈ r, -9 ≤ x ∧ x ≤ 9
structure RuleOk (controls cells b : Nat) (r : Rule) : Prop where
  n0 : 0 ≤ r.nx
  n1 : r.nx < controls
  len : r.rows.length = cells
  rows : ∀ row ∈ r.rows, RowOk (1 + cells + b) row
def LineOk (controls cells : Nat) (bs : List Int) (l : List Rule) : Prop := l.length = bs.length ∧ ∀ (k : Nat) (r : Rule) (b : Int), l[k]? = some r → bs[k]? = some b → RuleOk controls cells b.toNat r
structure PartsOk (m : Nat) (p : Parts) : Prop where
  k1 : 1 ≤ p.bs.length
  k3 : p.bs.length ≤ 3
  b : ∀ b ∈ p.bs, 0 ≤ b ∧ b ≤ 2
  c1 : 1 ≤ p.rr.length
  c3 : p.rr.length ≤ 3
  m1 : 1 ≤ m
  m3 : m ≤ 3
  rr : ∀ l ∈ p.rr, LineOk p.rr.length m p.bs l
  sl : p.ss.length = p.rr.length
  ss : ∀ rows ∈ p.ss, rows.length ≤ 2 ∧ ∀ row ∈ rows, RowOk (1 + m) row
def dot (r v : List Int) : Int := (List.zipWith (· * ·) r v).sum
theorem drawn {n : Int} (z : Int) (h : 0 < n) : 0 ≤ z % n ∧ z % n < n := ⟨Int.emod_nonneg _ (by omega), Int.emod_lt_of_pos _ h⟩
end PL
namespace PL
open PySem L2
structure Stand where
  c : Int
  cs : List Int
structure Msg where
  k : Int
  ns : List Int
def dStand (s : Stand) : D := .tup [.int s.c, dTup s.cs]
def dMsg (g : Msg) : D := .tup [.int g.k, dTup g.ns]
def StandOk (p : Parts) (m : Nat) (s : Stand) : Prop := 0 ≤ s.c ∧ s.c < p.rr.length ∧ s.cs.length = m
def MsgOk (p : Parts) (g : Msg) : Prop := 0 ≤ g.k ∧ g.k < p.bs.length ∧ ∃ b, p.bs[g.k.toNat]? = some b ∧ (g.ns.length : Int) = b
def ruleAt (p : Parts) (c k : Int) : Option Rule := (p.rr[c.toNat]?).bind fun l => l[k.toNat]?
def hearR (r : Rule) (s : Stand) (g : Msg) : Stand := ⟨r.nx, r.rows.map fun row => dot row (1 :: (s.cs ++ g.ns))⟩
def hearP (p : Parts) (s : Stand) (g : Msg) : Stand := match ruleAt p s.c g.k with | some r => hearR r s g | none => s
theorem atI_get {α : Type} {xs : List α} {i : Int} {x : α} (h0 : 0 ≤ i) (h : xs[i.toNat]? = some x) : atI xs i = some x := by
  have := atI_nat h
  rw [Int.toNat_of_nonneg h0] at this
  exact this
theorem rule_at {p : Parts} {m : Nat} {s : Stand} {g : Msg} (ok : PartsOk m p) (hs : StandOk p m s) (hg : MsgOk p g) :
    ∃ l r, atI p.rr s.c = some l ∧ atI l g.k = some r ∧ hearP p s g = hearR r s g ∧ r.rows.length = m ∧ 0 ≤ r.nx ∧ r.nx < p.rr.length ∧ ∀ row ∈ r.rows, row.length = 1 + m + g.ns.length ∧ ∀ x ∈ row, -9 ≤ x ∧ x ≤ 9 := by
  obtain ⟨s0, s1, s2⟩ := hs
  obtain ⟨g0, g1, b, hb, hn⟩ := hg
  have hl : s.c.toNat < p.rr.length := by omega
  have el := List.getElem?_eq_getElem hl
  have hlm := List.mem_of_getElem? el
  obtain ⟨e1, e2⟩ := ok.rr _ hlm
  have hk : g.k.toNat < p.rr[s.c.toNat].length := by rw [e1]; omega
  have ek := List.getElem?_eq_getElem hk
  have rk := e2 _ _ b ek hb
  refine ⟨_, _, atI_get s0 el, atI_get g0 ek, ?_, rk.len, rk.n0, rk.n1, fun row hr => ⟨?_, (rk.rows row hr).rng⟩⟩
  · unfold hearP ruleAt
    rw [el]
    simp [ek]
  · rw [(rk.rows row hr).len, ← hn]
    simp
theorem hear_ok {p : Parts} {m : Nat} {s : Stand} {g : Msg} (ok : PartsOk m p) (hs : StandOk p m s) (hg : MsgOk p g) : StandOk p m (hearP p s g) := by
  obtain ⟨l, r, _, _, e, h1, h2, h3, _⟩ := rule_at ok hs hg
  rw [e]
  exact ⟨h2, h3, by simpa [hearR] using h1⟩
theorem dot_range {r v : List Int} (h : r.length = v.length) : ((List.range v.length).map fun k => r.getD k 0 * v.getD k 0) = List.zipWith (· * ·) r v := by
  apply List.ext_getElem
  · simp [h]
  · intro i h1 h2
    simp at h1
    have h3 : i < r.length := by omega
    simp [List.getD_eq_getElem?_getD, h1, h3]
theorem RowOk.set {n : Nat} {r : List Int} (h : RowOk n r) {j : Nat} {v : Int} (hv : -9 ≤ v ∧ v ≤ 9) : RowOk n (r.set j v) :=
  ⟨by simp [h.len], fun x hx => by
    rcases List.mem_or_eq_of_mem_set hx with e | e
    · exact h.rng x e
    · rw [e]; exact hv⟩
theorem ixN_nat {n : Nat} {i : Int} (h0 : 0 ≤ i) (h1 : i < n) : ixN n i = some i.toNat := by
  unfold ixN
  rw [if_pos h0, if_pos h1]
end PL
namespace PL
open PySem L2
theorem rng_at {n i : Nat} {f : Nat → D} {d : D} (h : ((List.range n).map f)[i]? = some d) : i < n ∧ d = f i := by
  rw [List.getElem?_map, Option.map_eq_some_iff] at h
  obtain ⟨j, h, rfl⟩ := h
  rw [List.getElem?_eq_some_iff] at h
  obtain ⟨h1, h2⟩ := h
  simp at h1 h2
  exact ⟨h1, by rw [h2]⟩
theorem map_at {α : Type} {xs : List α} {i : Nat} {f : α → D} {d : D} (h : (xs.map f)[i]? = some d) : ∃ x, xs[i]? = some x ∧ d = f x := by
  rw [List.getElem?_map, Option.map_eq_some_iff] at h
  obtain ⟨j, h, rfl⟩ := h
  exact ⟨j, h, rfl⟩
end PL
namespace PL
open PySem L2
def enumW (d : D) : W (List D) := match d with | .lst xs => W.pure (xs.zipIdx.map fun p => D.tup [.int (p.2 : Nat), p.1]) | _ => W.fail
@[simp] theorem enumI_app {g : PL.Env → W D} {ρ : PL.Env} {QL : List D → Prop} {E : Xc → Prop} : enumI g ρ QL E = g ρ (fun d => enumW d QL E) E := rfl
@[simp] theorem enumW_d {α : Type} {f : α → D} {xs : List α} {QL : List D → Prop} {E : Xc → Prop} : enumW (dList f xs) QL E = QL (xs.zipIdx.map fun p => D.tup [.int (p.2 : Nat), f p.1]) := by
  show QL ((xs.map f).zipIdx.map fun p => D.tup [.int (p.2 : Nat), p.1]) = _
  rw [List.zipIdx_map, List.map_map]
  rfl
theorem zip_at {α : Type} {xs : List α} {i : Nat} {f : α → D} {d : D} (h : (xs.zipIdx.map fun p => D.tup [.int (p.2 : Nat), f p.1])[i]? = some d) : ∃ x, xs[i]? = some x ∧ d = .tup [.int (i : Nat), f x] := by
  obtain ⟨p, h, e⟩ := map_at h
  rw [List.getElem?_zipIdx, Option.map_eq_some_iff] at h
  obtain ⟨x, h, rfl⟩ := h
  exact ⟨x, h, by rw [e]; simp⟩
theorem take_next {α : Type} {xs : List α} {i : Nat} {x : α} (h : xs[i]? = some x) : xs.take (i + 1) = xs.take i ++ [x] := by
  rw [List.take_add_one, h]; rfl
end PL
namespace PL
open PySem L2
theorem cut_take {xs : List D} {c : Nat} (h : c ≤ xs.length) : cutD xs none (some (c : Int)) = xs.take c := by
  have e : min c xs.length = c := by omega
  have e2 : ¬ ((c : Int) < 0) := by omega
  unfold cutD HT.sIx
  simp [e, e2]
theorem cut_drop {xs : List D} {c : Nat} (h : c ≤ xs.length) : cutD xs (some (c : Int)) none = xs.drop c := by
  have e : min c xs.length = c := by omega
  have e2 : ¬ ((c : Int) < 0) := by omega
  unfold cutD HT.sIx
  simp [e, e2]
  exact List.take_of_length_le (by simp)
end PL
namespace PL
open PySem L2
section
variable {Q : D → Prop} {E : Xc → Prop} {p : Parts} {s : Stand} {g : Msg} {r : Rule} {QE : PL.Env → Prop} {ρ : PL.Env} {gt : List D → PL.Env → W PL.Env}
@[simp] theorem ixD_parts0 : ixD (dParts p) (.int 0) Q E = Q (dRow p.bs) := by simp [dParts]
@[simp] theorem ixD_parts1 : ixD (dParts p) (.int 1) Q E = Q (dRules p.rr) := by simp [dParts]
@[simp] theorem ixD_parts2 : ixD (dParts p) (.int 2) Q E = Q (dShows p.ss) := by simp [dParts]
@[simp] theorem ixD_stand0 : ixD (dStand s) (.int 0) Q E = Q (.int s.c) := by simp [dStand]
@[simp] theorem ixD_stand1 : ixD (dStand s) (.int 1) Q E = Q (dTup s.cs) := by simp [dStand]
@[simp] theorem ixD_msg0 : ixD (dMsg g) (.int 0) Q E = Q (.int g.k) := by simp [dMsg]
@[simp] theorem ixD_msg1 : ixD (dMsg g) (.int 1) Q E = Q (dTup g.ns) := by simp [dMsg]
@[simp] theorem ixD_rule0 : ixD (dRule r) (.int 0) Q E = Q (.int r.nx) := by simp [dRule]
@[simp] theorem ixD_rule1 : ixD (dRule r) (.int 1) Q E = Q (dRows r.rows) := by simp [dRule]
@[simp] theorem tupG_stand : tupG 2 gt (dStand s) ρ QE E = gt [.int s.c, dTup s.cs] ρ QE E := by simp [dStand]
@[simp] theorem tupG_msg : tupG 2 gt (dMsg g) ρ QE E = gt [.int g.k, dTup g.ns] ρ QE E := by simp [dMsg]
@[simp] theorem tupG_rule : tupG 2 gt (dRule r) ρ QE E = gt [.int r.nx, dRows r.rows] ρ QE E := by simp [dRule]
end
def seenP (p : Parts) (s : Stand) : List Int := (p.ss.getD s.c.toNat []).map fun row => dot row (1 :: s.cs)
theorem shows_at {p : Parts} {m : Nat} {s : Stand} (ok : PartsOk m p) (hs : StandOk p m s) : ∃ rows, atI p.ss s.c = some rows ∧ p.ss.getD s.c.toNat [] = rows ∧ rows.length ≤ 2 ∧ ∀ row ∈ rows, RowOk (1 + m) row := by
  obtain ⟨s0, s1, s2⟩ := hs
  have hl : s.c.toNat < p.ss.length := by have := ok.sl; omega
  have el := List.getElem?_eq_getElem hl
  obtain ⟨h1, h2⟩ := ok.ss _ (List.mem_of_getElem? el)
  exact ⟨_, atI_get s0 el, by simp [List.getD_eq_getElem?_getD, el], h1, h2⟩
theorem first_rule {p : Parts} {m : Nat} (ok : PartsOk m p) : ∃ l r, atI p.rr 0 = some l ∧ atI l 0 = some r ∧ r.rows.length = m := by
  obtain ⟨l, hl⟩ : ∃ l, p.rr[0]? = some l := ⟨p.rr[0]'(by have := ok.c1; omega), List.getElem?_eq_getElem _⟩
  have hlm := List.mem_of_getElem? hl
  obtain ⟨r, hr⟩ : ∃ r, l[0]? = some r := ⟨l[0]'(by have := ok.k1; have := (ok.rr l hlm).1; omega), List.getElem?_eq_getElem _⟩
  have hb : 0 < p.bs.length := by have := ok.k1; omega
  exact ⟨l, r, atI_nat (j := 0) hl, atI_nat (j := 0) hr, ((ok.rr l hlm).2 0 r p.bs[0] hr (List.getElem?_eq_getElem hb)).len⟩
end PL
namespace PL
open PySem L2
theorem msg_few {p : Parts} {m : Nat} {g : Msg} (ok : PartsOk m p) (hg : MsgOk p g) : g.ns.length ≤ 2 := by
  obtain ⟨_, _, b, hb, hn⟩ := hg
  have := ok.b b (List.mem_of_getElem? hb)
  omega
def hearAll (p : Parts) (s : Stand) (gs : List Msg) : Stand := gs.foldl (hearP p) s
theorem hearAll_ok {p : Parts} {m : Nat} (ok : PartsOk m p) : ∀ {gs : List Msg} {s : Stand}, StandOk p m s → (∀ g ∈ gs, MsgOk p g) → StandOk p m (hearAll p s gs)
  | [], s, hs, _ => hs
  | g :: gs, s, hs, hg => hearAll_ok ok (gs := gs) (hear_ok ok hs (hg g (by simp))) (fun x hx => hg x (by simp [hx]))
theorem okNs_ints (n : Nat) (ns : List Int) : okNs n (ns.map D.int) = true := by
  induction ns with
  | nil => rfl
  | cons x xs ih => simp [okNs, okN, ih]
theorem okNs_msgs (gs : List Msg) : okNs 2 (gs.map dMsg) = true := by
  induction gs with
  | nil => rfl
  | cons x xs ih => simp [okNs, okN, ih, dMsg, dTupL, okNs_ints]
/-! what two stands differ by -/
def gap (s t : Stand) : List Int := List.zipWith (fun a b => b - a) s.cs t.cs
def gapRun (p : Parts) : Int → List Int → List Int → List Int
  | _, [], δ => δ
  | c, k :: ks, δ => match ruleAt p c k with
    | some r => gapRun p r.nx ks (r.rows.map fun row => dot (row.drop 1) δ)
    | none => gapRun p c ks δ
theorem gapRun_cons {p : Parts} {c k : Int} {ks δ : List Int} : gapRun p c (k :: ks) δ = (match ruleAt p c k with | some r => gapRun p r.nx ks (r.rows.map fun row => dot (row.drop 1) δ) | none => gapRun p c ks δ) := rfl
theorem dot_gap : ∀ (r v w x : List Int), v.length = w.length → dot r (w ++ x) - dot r (v ++ x) = dot r (List.zipWith (fun a b => b - a) v w)
  | [], v, w, x, _ => by simp [dot]
  | a :: r, [], [], x, _ => by simp [dot]
  | a :: r, b :: v, c :: w, x, h => by
    have ih := dot_gap r v w x (by simpa using h)
    unfold dot at ih ⊢
    simp only [List.cons_append, List.zipWith_cons_cons, List.sum_cons]
    rw [Int.mul_sub, ← ih]
    omega
theorem dot_one {row v w x : List Int} (h : v.length = w.length) : dot row (1 :: (w ++ x)) - dot row (1 :: (v ++ x)) = dot (row.drop 1) (List.zipWith (fun a b => b - a) v w) := by
  cases row with
  | nil => simp [dot]
  | cons a r =>
    rw [List.drop_one, List.tail_cons, ← dot_gap r v w x h]
    unfold dot
    simp only [List.zipWith_cons_cons, List.sum_cons]
    omega
theorem gap_run {p : Parts} {m : Nat} (ok : PartsOk m p) : ∀ {gs : List Msg} {s t : Stand}, StandOk p m s → StandOk p m t → s.c = t.c → (∀ g ∈ gs, MsgOk p g) →
    (hearAll p s gs).c = (hearAll p t gs).c ∧ gap (hearAll p s gs) (hearAll p t gs) = gapRun p s.c (gs.map Msg.k) (gap s t)
  | [], s, t, _, _, e, _ => ⟨e, rfl⟩
  | g :: gs, s, t, hs, ht, e, hg => by
    have hgg := hg g (by simp)
    obtain ⟨l, r, f1, f2, f3, h1, h2, h3, h4⟩ := rule_at ok hs hgg
    obtain ⟨l', r', f1', f2', f3', _, _, _, _⟩ := rule_at ok ht hgg
    rw [← e, f1] at f1'
    cases f1'
    rw [f2] at f2'
    cases f2'
    have er : ruleAt p s.c g.k = some r := by
      have a1 := f1
      have a2 := f2
      unfold atI ixN at a1 a2
      rw [if_pos hs.1] at a1
      rw [if_pos hgg.1] at a2
      unfold ruleAt
      split at a1
      · split at a2
        · have a1 : p.rr[s.c.toNat]? = some l := a1
          rw [a1]
          exact a2
        · simp at a2
      · simp at a1
    have ih := gap_run ok (gs := gs) (s := hearP p s g) (t := hearP p t g) (hear_ok ok hs hgg) (hear_ok ok ht hgg) (by rw [f3, f3']; rfl) (fun x hx => hg x (by simp [hx]))
    refine ⟨ih.1, ?_⟩
    show gap (hearAll p (hearP p s g) gs) (hearAll p (hearP p t g) gs) = _
    rw [ih.2]
    show _ = gapRun p s.c (g.k :: gs.map Msg.k) (gap s t)
    rw [gapRun_cons, er]
    show _ = gapRun p r.nx (gs.map Msg.k) (r.rows.map fun row => dot (row.drop 1) (gap s t))
    have hc : (hearP p s g).c = r.nx := by rw [f3]; rfl
    rw [hc]
    congr 1
    rw [f3, f3']
    unfold gap hearR
    simp only
    rw [List.zipWith_map, List.zipWith_self]
    refine List.map_congr_left fun row _ => ?_
    exact dot_one (by rw [hs.2.2, ht.2.2])
theorem dot_twice (r v : List Int) : dot r (v.map fun x => 2 * x) = 2 * dot r v := by
  unfold dot
  induction r generalizing v with
  | nil => simp
  | cons a r ih =>
    cases v with
    | nil => simp
    | cons b v =>
      simp only [List.map_cons, List.zipWith_cons_cons, List.sum_cons, ih, Int.mul_add]
      congr 1
      rw [← Int.mul_assoc, ← Int.mul_assoc, Int.mul_comm a 2]
theorem gapRun_twice (p : Parts) : ∀ (ks : List Int) (c : Int) (δ : List Int), gapRun p c ks (δ.map fun x => 2 * x) = (gapRun p c ks δ).map fun x => 2 * x
  | [], c, δ => rfl
  | k :: ks, c, δ => by
    rw [gapRun_cons, gapRun_cons]
    split
    · rename_i r _
      rw [← gapRun_twice p ks]
      congr 1
      rw [List.map_map]
      exact List.map_congr_left fun row _ => dot_twice _ _
    · exact gapRun_twice p ks c δ
end PL

set_option Elab.async false
set_option linter.all false
set_option maxRecDepth 100000
set_option maxHeartbeats 1000000
/-! zip over any number of lists and tuples, whatever the target -/
namespace QL
open PySem PySem.Spec PyProof.Rows L2
open Sem (wp)
/-- one thing that is walked: a list or a tuple at l, its iterator at it -/
structure Zs where
  b : Bool
  l : Addr
  it : Addr
def ItAt (h : Heap) (p : Zs) (i : Nat) : Prop := if p.b = true then h.IsListIter p.it p.l i else h.IsTupleIter p.it p.l i
def LAt (h : Heap) (p : Zs) (xs : Array Value) : Prop := if p.b = true then h.IsList p.l xs else h.IsTuple p.l xs
theorem ItAt.at {h h' : Heap} {p : Zs} {i : Nat} (x : ItAt h p i) (k : ∀ o, h.get? p.it = some o → h'.get? p.it = some o) : ItAt h' p i := by
  unfold ItAt at *
  split
  · rename_i e; rw [if_pos e] at x; obtain ⟨o, e, r⟩ := x; exact ⟨o, k o e, r⟩
  · rename_i e; rw [if_neg e] at x; obtain ⟨o, e, r⟩ := x; exact ⟨o, k o e, r⟩
theorem LAt.at {h h' : Heap} {p : Zs} {xs : Array Value} (x : LAt h p xs) (k : ∀ o, h.get? p.l = some o → h'.get? p.l = some o) : LAt h' p xs := by
  unfold LAt at *
  split
  · rename_i e; rw [if_pos e] at x; obtain ⟨o, e, r⟩ := x; exact ⟨o, k o e, r⟩
  · rename_i e; rw [if_neg e] at x; obtain ⟨o, e, r⟩ := x; exact ⟨o, k o e, r⟩
theorem ItAt.lt {h : Heap} {p : Zs} {i : Nat} (x : ItAt h p i) : p.it < h.objs.size := by
  unfold ItAt at x
  split at x
  · obtain ⟨o, e, _⟩ := x; exact Heap.lt_size e
  · obtain ⟨o, e, _⟩ := x; exact Heap.lt_size e
theorem ItAt.obj {h : Heap} {p : Zs} {i : Nat} (x : ItAt h p i) : ∃ o, h.get? p.it = some o ∧ ∀ v, o.data ≠ .cell v := by
  unfold ItAt at x
  split at x
  · obtain ⟨o, e, _, d⟩ := x; exact ⟨o, e, fun v q => by rw [d] at q; cases q⟩
  · obtain ⟨o, e, _, d⟩ := x; exact ⟨o, e, fun v q => by rw [d] at q; cases q⟩
section
variable {prog : Program} {w : World} {A : Around} {E : Value → Shared → Prop} {s : Shared}
theorem nx_item {p : Zs} {i : Nat} {xs : Array Value} {x : Value} {Q : Value → Shared → Prop} (hi : ItAt s.heap p i) (hl : LAt s.heap p xs) (hx : xs[i]? = some x)
    (hQ : ∀ h', ItAt h' p (i + 1) → Heap.SameBut p.it s.heap h' → Q x { s with heap := h' }) : wpAny (model prog w) A (Builtin.SmallTypes.nextOf (.ref p.it)) Q E s := by
  unfold ItAt at hi hQ
  unfold LAt at hl
  by_cases e : p.b = true
  · rw [if_pos e] at hi hl
    exact wpAny_nextOf_list_item hi hl hx fun h' a b => hQ h' (by rw [if_pos e]; exact a) b
  · rw [if_neg e] at hi hl
    exact RZ.nextOf_tuple_item hi hl hx fun h' a b => hQ h' (by rw [if_neg e]; exact a) b
theorem nx_end {p : Zs} {i : Nat} {xs : Array Value} {Q : Value → Shared → Prop} (hh : A.handled = none) (hi : ItAt s.heap p i) (hl : LAt s.heap p xs) (hx : xs[i]? = none)
    (hE : ∀ h' e, Heap.ExtBut p.it s.heap h' → (∃ o, h'.get? e = some o ∧ o.cls = .type "StopIteration") → E (.ref e) { s with heap := h' }) : wpAny (model prog w) A (Builtin.SmallTypes.nextOf (.ref p.it)) Q E s := by
  unfold ItAt at hi
  unfold LAt at hl
  by_cases e : p.b = true
  · rw [if_pos e] at hi hl
    exact wpAny_nextOf_list_end hh hi hl hx hE
  · rw [if_neg e] at hi hl
    exact RZ.nextOf_tuple_end hh hi hl hx hE
end
abbrev IsZg (h : Heap) (z TI TO : Addr) (f0 : Value) (f1 : Bool) : Prop :=
  h.get? z = some { cls := .type "zip", dict := none, data := .fields #[f0, .bool f1, .bool false, .ref TI, .ref TO], slots := #[] }
abbrev IsSq (h : Heap) (T : Addr) (xs : List Value) : Prop := h.get? T = some { cls := .type "tuple", data := .seq xs.toArray }
structure ZApart (src : List Zs) (z TI TO : Addr) : Prop where
  TIz : TI ≠ z
  TOz : TO ≠ z
  TITO : TI ≠ TO
  iz : ∀ p ∈ src, p.it ≠ z
  iI : ∀ p ∈ src, p.it ≠ TI
  iO : ∀ p ∈ src, p.it ≠ TO
  nd : (src.map Zs.it).Nodup
  lz : ∀ p ∈ src, p.l ≠ z
  lO : ∀ p ∈ src, p.l ≠ TO
  li : ∀ p ∈ src, ∀ q ∈ src, p.l ≠ q.it
theorem ZApart.ii {src : List Zs} {z TI TO : Addr} (D : ZApart src z TI TO) {j k : Nat} {p q : Zs} (h1 : src[j]? = some p) (h2 : src[k]? = some q) (h : j ≠ k) : p.it ≠ q.it := by
  intro e
  obtain ⟨l1, e1⟩ := List.getElem?_eq_some_iff.mp h1
  obtain ⟨l2, e2⟩ := List.getElem?_eq_some_iff.mp h2
  have := (List.nodup_iff_pairwise_ne.mp D.nd)
  rw [List.pairwise_iff_getElem] at this
  rcases Nat.lt_or_gt_of_ne h with g | g
  · exact this j k (by simpa using l1) (by simpa using l2) g (by simpa [e1, e2] using e)
  · exact this k j (by simpa using l2) (by simpa using l1) g (by simpa [e1, e2] using e.symm)
/-- the items at turn i of the first sources -/
def Its (vss : List (Array Value)) (i : Nat) (xs : List Value) : Prop := ∀ j, j < xs.length → ∃ a x, vss[j]? = some a ∧ a[i]? = some x ∧ xs[j]? = some x
theorem Its.snoc {vss : List (Array Value)} {i : Nat} {xs : List Value} {a : Array Value} {x : Value} (h : Its vss i xs) (ha : vss[xs.length]? = some a) (hx : a[i]? = some x) : Its vss i (xs ++ [x]) := by
  intro j hj
  rw [List.length_append, List.length_singleton] at hj
  by_cases e : j = xs.length
  · subst e
    exact ⟨a, x, ha, hx, by simp⟩
  · obtain ⟨b, y, h1, h2, h3⟩ := h j (by omega)
    exact ⟨b, y, h1, h2, by rw [List.getElem?_append_left (by omega)]; exact h3⟩
structure ZSt (src : List Zs) (vss : List (Array Value)) (z TI TO : Addr) (f0 : Value) (f1 : Bool) (i : Nat) (h0 : Heap) (k : Nat) (h : Heap) : Prop where
  rc : IsZg h z TI TO f0 f1
  it : ∀ j p, src[j]? = some p → ItAt h p (if j < k then i + 1 else i)
  sz : h.objs.size = h0.objs.size
  kp : ∀ c o, c ≠ z → c ≠ TO → (∀ p ∈ src, c ≠ p.it) → h0.get? c = some o → h.get? c = some o
section
variable {prog : Program} {w : World} {A : Around} {E : Value → Shared → Prop} {s : Shared} {src : List Zs} {vss : List (Array Value)} {z TI TO : Addr} {i : Nat} {f0 : Value} {f1 : Bool}
theorem ZSt.ls {h0 h : Heap} {k : Nat} (D : ZApart src z TI TO) (st : ZSt src vss z TI TO f0 f1 i h0 k h) (hl : ∀ (j : Nat) p, src[j]? = some p → ∃ a, vss[j]? = some a ∧ LAt h0 p a) {j : Nat} {p : Zs} (e : src[j]? = some p) : ∃ a, vss[j]? = some a ∧ LAt h p a := by
  obtain ⟨a, h1, h2⟩ := hl j p e
  have m := List.mem_of_getElem? e
  exact ⟨a, h1, h2.at fun o eo => st.kp _ o (D.lz p m) (D.lO p m) (fun q hq => D.li p m q hq) eo⟩
/-- one iterator has moved on -/
theorem ZSt.step {h0 h h' : Heap} {k : Nat} {p : Zs} (D : ZApart src z TI TO) (st : ZSt src vss z TI TO f0 f1 i h0 k h) (e : src[k]? = some p) (hi : ItAt h' p (i + 1)) (hs : Heap.SameBut p.it h h') : ZSt src vss z TI TO f0 f1 i h0 (k + 1) h' := by
  have m := List.mem_of_getElem? e
  refine ⟨hs.extBut _ _ (D.iz p m).symm st.rc, fun j q ej => ?_, hs.1.trans st.sz, fun c o h1 h2 h3 eo => hs.extBut _ _ (h3 p m) (st.kp c o h1 h2 h3 eo)⟩
  by_cases hj : j = k
  · subst hj
    rw [e] at ej
    cases ej
    rw [if_pos (Nat.lt_succ_self j)]
    exact hi
  · have := (st.it j q ej).at (h' := h') fun o eo => hs.extBut _ _ (D.ii ej e hj) eo
    by_cases hlt : j < k
    · rw [if_pos hlt] at this; rw [if_pos (by omega)]; exact this
    · rw [if_neg hlt] at this; rw [if_neg (by omega)]; exact this
theorem ZSt.out {h0 h h' : Heap} {k : Nat} (D : ZApart src z TI TO) (st : ZSt src vss z TI TO f0 f1 i h0 k h) (hs : Heap.SameBut TO h h') : ZSt src vss z TI TO f0 f1 i h0 k h' := by
  refine ⟨hs.extBut _ _ D.TOz.symm st.rc, fun j q ej => (st.it j q ej).at fun o eo => hs.extBut _ _ (D.iO q (List.mem_of_getElem? ej)) eo, hs.1.trans st.sz, fun c o h1 h2 h3 eo => hs.extBut _ _ h2 (st.kp c o h1 h2 h3 eo)⟩
theorem wp_alive {M : Model} {A : Around} {E : Value → Shared → Prop} {s : Shared} {a : Addr} {Q : Option Obj → Shared → Prop} (h : Q (s.heap.get? a) s) : wpAny M A (loadIfAlive a) Q E s := fun Γ p hΓ => by
  unfold loadIfAlive
  rw [Sem.wp_loadIfAlive]
  exact (wpAny_pure h : wpAny M A (Sem.pure _) Q E s) Γ p hΓ
theorem zip_free {Q : Bool → Shared → Prop} (hz : IsZg s.heap z TI TO f0 f1) (hf : f0 = .none ∨ ∃ a : Addr, f0 = rawInt a)
    (hQ : ∀ (b : Bool) (h' : Heap) (g1 : Bool), IsZg h' z TI TO f0 g1 → Heap.SameBut z s.heap h' → Q b { s with heap := h' }) : wpAny (model prog w) A (Builtin.SmallTypes.ownedTupleIsFree (.ref z)) Q E s := by
  have same : Heap.SameBut z s.heap s.heap := ⟨rfl, fun _ _ => rfl⟩
  unfold Builtin.SmallTypes.ownedTupleIsFree
  refine wpAny_bind (wpAny_field hz rfl (x := f0) rfl ?_)
  rcases hf with rfl | ⟨a, rfl⟩
  · exact wpAny_pure (hQ true s.heap f1 hz same)
  · show wpAny _ _ (loadIfAlive _ >>= _) _ _ s
    refine wpAny_bind (wp_alive ?_)
    by_cases hn : (s.heap.get? ((a : Nat) : Int).toNat).isNone = true
    · rw [if_pos hn]
      exact wpAny_pure (hQ true s.heap f1 hz same)
    · rw [if_neg hn]
      refine wpAny_bind (wpAny_field hz rfl (x := .bool f1) rfl ?_)
      cases f1 with
      | true => exact wpAny_pure (hQ false s.heap true hz same)
      | false =>
        refine wpAny_bind (wpAny_setField_rec hz (by simp) fun h1 z1 s1 => wpAny_pure ?_)
        exact hQ false h1 true z1 s1

theorem zipG_next {Q : Value → Shared → Prop} (hh : A.handled = none) (D : ZApart src z TI TO) (hn : src ≠ []) (hsz : src.length ≤ sizeLine) (lv : vss.length = src.length) (hz : IsZg s.heap z TI TO f0 f1) (hf : f0 = .none ∨ ∃ a : Addr, f0 = rawInt a)
    (hTI : IsSq s.heap TI (src.map fun p => Value.ref p.it)) (hTO : ∃ ys, IsSq s.heap TO ys ∧ ys.length = src.length) (hit : ∀ (j : Nat) p, src[j]? = some p → ItAt s.heap p i) (hl : ∀ (j : Nat) p, src[j]? = some p → ∃ a, vss[j]? = some a ∧ LAt s.heap p a)
    (hQ : ∀ xs h' f0' f1', Its vss i xs → xs.length = src.length → IsZg h' z TI TO f0' f1' → (f0' = .none ∨ ∃ a : Addr, f0' = rawInt a) → (∃ ys, IsSq h' TO ys ∧ ys.length = src.length) → (∀ (j : Nat) p, src[j]? = some p → ItAt h' p (i + 1)) → IsSq h' s.heap.objs.size xs → h'.objs.size = s.heap.objs.size + 1 →
      (∀ c o, c ≠ z → c ≠ TO → (∀ p ∈ src, c ≠ p.it) → s.heap.get? c = some o → h'.get? c = some o) → Q (.ref s.heap.objs.size) { s with heap := h' })
    (hE : ∀ h' e, (∃ a ∈ vss, a[i]? = none) → (∀ c o, c ≠ z → c ≠ TO → (∀ p ∈ src, c ≠ p.it) → s.heap.get? c = some o → h'.get? c = some o) → (∃ o, h'.get? e = some o ∧ o.cls = .type "StopIteration") → E (.ref e) { s with heap := h' }) :
    wpAny (model prog w) A (Builtin.«zip.__next__» ⟨[.ref z], []⟩) (fun fin s' => ∃ v, fin = .done (.ret v) ∧ Q v s') E s := by
  obtain ⟨hp, gg, dd, tk, os⟩ := s
  simp only at hz hTI hTO hit hl hQ hE
  show wpAny _ _ (field (.ref z) 2 >>= _) _ _ _
  refine wpAny_bind (wpAny_field hz rfl (x := .bool false) rfl ?_)
  show wpAny _ _ (field (.ref z) 3 >>= _) _ _ _
  refine wpAny_bind (wpAny_field hz rfl (x := .ref TI) rfl ?_)
  refine wpAny_bind (wpAny_seqItems hTI rfl ?_)
  have hne : ((src.map fun p => Value.ref p.it).toArray.isEmpty) = false := by
    cases src with
    | nil => exact absurd rfl hn
    | cons a r => rfl
  simp only [hne]
  show wpAny _ _ (Builtin.SmallTypes.ownedTupleIsFree (.ref z) >>= _) _ _ _
  refine wpAny_bind (zip_free hz hf fun b h1 g1 z1 s1 => ?_)
  have st0 : ZSt src vss z TI TO f0 g1 i hp 0 h1 := ⟨z1, fun j p e => by
    rw [if_neg (Nat.not_lt_zero _)]
    exact (hit j p e).at fun o eo => s1.extBut _ _ (D.iz p (List.mem_of_getElem? e)) eo, s1.1, fun c o h1 _ _ eo => s1.extBut _ _ h1 eo⟩
  obtain ⟨ys0, hTO, ly0⟩ := hTO
  have hTO1 : IsSq h1 TO ys0 := s1.extBut _ _ D.TOz hTO
  cases b with
  | true =>
    simp only [if_true]
    refine wpAny_bind (wpAny_rule ?_)
    refine wpAny_bind (wpAny_field z1 rfl (x := .ref TO) rfl ?_)
    refine wpAny_bind (wpAny_setField_rec z1 (by simp) fun h2 z2 s2 => ?_)
    have st1 : ZSt src vss z TI TO .ellipsis g1 i hp 0 h2 := ⟨z2, fun j p e => (st0.it j p e).at fun o eo => s2.extBut _ _ (D.iz p (List.mem_of_getElem? e)) eo, s2.1.trans st0.sz, fun c o c1 c2 c3 eo => s2.extBut _ _ c1 (st0.kp c o c1 c2 c3 eo)⟩
    have hTO2 : IsSq h2 TO ys0 := s2.extBut _ _ D.TOz hTO1
    refine wpAny_bind ?_
    refine wpAny_forIn_list _ (fun rest b s' => b.1 = none ∧ ∃ (k : Nat) (h : Heap) (xs ys : List Value), s' = ⟨h, gg, dd, tk, os⟩ ∧ k ≤ src.length ∧ rest = ((src.map fun p => Value.ref p.it).zipIdx).drop k ∧ ZSt src vss z TI TO .ellipsis g1 i hp k h ∧ xs.length = k ∧ Its vss i xs ∧ IsSq h TO (xs ++ ys) ∧ (xs ++ ys).length = src.length) _ ?turn ?fin _ _ ?init
    case init =>
      exact ⟨rfl, 0, h2, [], ys0, rfl, Nat.zero_le _, by simp, st1, rfl, fun j hj => absurd hj (Nat.not_lt_zero _), hTO2, ly0⟩
    case turn =>
      rintro ⟨it, k'⟩ rest b s' ⟨hb, k, h, xs, ys, rfl, hk, hr, st, lx, its, hT, lT⟩
      have hlt : k < src.length := by
        rcases Nat.lt_or_ge k src.length with q | q
        · exact q
        · rw [List.drop_of_length_le (by simpa using q)] at hr; cases hr
      rw [List.drop_eq_getElem_cons (by simpa using hlt)] at hr
      injection hr with hx hrest
      have hk' : k' = k := by have := congrArg Prod.snd hx; simpa using this
      have hit' : it = .ref src[k].it := by have := congrArg Prod.fst hx; simpa using this
      subst hk' hit'
      have e : src[k']? = some src[k'] := List.getElem?_eq_getElem hlt
      have m := List.mem_of_getElem? e
      obtain ⟨a, ha, la⟩ := st.ls D hl e
      have hi0 := st.it k' _ e
      rw [if_neg (Nat.lt_irrefl _)] at hi0
      refine wpAny_bind (wpAny_onRaise ?_)
      show wpAny _ _ (Builtin.SmallTypes.nextOf (.ref _) >>= _) _ _ _
      cases hx0 : a[i]? with
      | none =>
        refine wpAny_bind (nx_end (s := ⟨h, gg, dd, tk, os⟩) hh hi0 la hx0 fun h3 e3 s3 he => ?_)
        obtain ⟨oe, hoe, hce⟩ := he
        have z3 : IsZg h3 z TI TO .ellipsis g1 := s3 _ _ (D.iz _ m).symm st.rc
        have hez : e3 ≠ z := fun x => by subst x; rw [z3] at hoe; cases hoe; simp at hce
        refine wpAny_setField_rec z3 (by simp) fun h4 _ s4 => ?_
        exact hE h4 e3 ⟨a, List.mem_of_getElem? ha, hx0⟩ (fun c o c1 c2 c3 eo => s4.extBut _ _ c1 (s3 _ _ (c3 _ m) (st.kp c o c1 c2 c3 eo))) ⟨oe, s4.extBut _ _ hez hoe, hce⟩
      | some x =>
        refine wpAny_bind (nx_item (s := ⟨h, gg, dd, tk, os⟩) hi0 la hx0 fun h3 hi3 s3 => wpAny_pure ?_)
        have st3 := st.step D e hi3 s3
        have hT3 : IsSq h3 TO (xs ++ ys) := s3.extBut _ _ (D.iO _ m).symm hT
        refine wpAny_bind (wpAny_seqItems (s := ⟨h3, gg, dd, tk, os⟩) hT3 rfl ?_)
        refine wpAny_bind (wpAny_updateSeq (s := ⟨h3, gg, dd, tk, os⟩) hT3 rfl ?_)
        refine wpAny_bind (wpAny_letGo (wpAny_pure ?_))
        have s4 : Heap.SameBut TO h3 (h3.update TO (·.mapSeq (·.setIfInBounds k' x))) := Heap.SameBut.update ..
        obtain ⟨y, ys', hys⟩ : ∃ y ys', ys = y :: ys' := by
          cases ys with
          | nil => simp at lT; omega
          | cons y ys' => exact ⟨y, ys', rfl⟩
        subst hys
        have hT4 : IsSq (h3.update TO (·.mapSeq (·.setIfInBounds k' x))) TO ((xs ++ [x]) ++ ys') := by
          unfold IsSq
          rw [Heap.get?_update_self _ hT3 rfl]
          simp [Obj.mapSeq, ← lx]
        exact ⟨rfl, k' + 1, _, xs ++ [x], ys', rfl, hlt, hrest, st3.out D s4, by simp [lx], its.snoc (by rw [lx]; exact ha) hx0, hT4, by simpa using lT⟩
    case fin =>
      rintro ⟨b1, b2⟩ s' ⟨hb, k, h, xs, ys, rfl, hk, hr, st, lx, its, hT, lT⟩
      have hk1 : k = src.length := by
        rcases Nat.lt_or_ge k src.length with q | q
        · rw [List.drop_eq_getElem_cons (by simpa using q)] at hr; cases hr
        · omega
      subst hk1
      have hy : ys = [] := by
        rw [List.length_append, lx] at lT
        exact List.eq_nil_of_length_eq_zero (by omega)
      subst hy
      rw [List.append_nil] at hT
      simp only at hb
      subst hb
      refine wpAny_bind (wpAny_seqItems (s := ⟨h, gg, dd, tk, os⟩) hT rfl ?_)
      refine wpAny_bind (wpAny_newTuple ?_ (by simpa [lx] using hsz))
      have hzlt : z < h.objs.size := Heap.lt_size st.rc
      show wpAny _ _ (Builtin.SmallTypes.ownedTupleHandOut (.ref z) (.ref h.objs.size) >>= _) _ _ _
      refine wpAny_bind ?_
      unfold Builtin.SmallTypes.ownedTupleHandOut
      have z6 : IsZg (h.push { cls := .type "tuple", data := .seq xs.toArray }) z TI TO .ellipsis g1 := Heap.get?_push_of_some _ st.rc
      refine wpAny_bind (wpAny_setField_rec z6 (by simp) fun h7 z7 s7 => ?_)
      replace z7 : IsZg h7 z TI TO (rawInt h.objs.size) g1 := z7
      refine wpAny_setField_rec z7 (by simp) fun h8 z8 s8 => ?_
      replace z8 : IsZg h8 z TI TO (rawInt h.objs.size) false := z8
      have up : ∀ c o, c ≠ z → h.get? c = some o → h8.get? c = some o := fun c o c1 eo => s8.extBut _ _ c1 (s7.extBut _ _ c1 (Heap.get?_push_of_some _ eo))
      have T8 : IsSq h8 h.objs.size xs := s8.extBut _ _ (Nat.ne_of_gt hzlt) (s7.extBut _ _ (Nat.ne_of_gt hzlt) (Heap.get?_push_size _ rfl))
      have sz8 : h8.objs.size = h.objs.size + 1 := by rw [s8.1, s7.1, Heap.size_push]
      rw [st.sz] at z8 T8 sz8
      refine wpAny_pure ⟨_, rfl, ?_⟩
      show Q (.ref h.objs.size) _
      rw [st.sz]
      exact hQ xs h8 _ _ its lx z8 (.inr ⟨_, rfl⟩) ⟨xs, up _ _ D.TOz hT, lx⟩ (fun j p ej => by
        have := st.it j p ej
        rw [if_pos (List.getElem?_eq_some_iff.mp ej).1] at this
        exact this.at fun o eo => up _ o (D.iz p (List.mem_of_getElem? ej)) eo) T8 sz8 fun c o c1 c2 c3 eo => up c o c1 (st.kp c o c1 c2 c3 eo)
  | false =>
    simp only [Bool.false_eq_true, if_false]
    rw [← Array.forIn_toList]
    refine wpAny_bind ?_
    refine wpAny_forIn_list _ (fun rest b s' => b.1 = none ∧ ∃ (k : Nat) (h : Heap) (xs : List Value), s' = ⟨h, gg, dd, tk, os⟩ ∧ k ≤ src.length ∧ rest = (src.map fun p => Value.ref p.it).drop k ∧ ZSt src vss z TI TO f0 g1 i hp k h ∧ xs.length = k ∧ Its vss i xs ∧ b.2 = xs.toArray ∧ IsSq h TO ys0) _ ?turn ?fin _ _ ?init
    case init =>
      exact ⟨rfl, 0, h1, [], rfl, Nat.zero_le _, by simp, st0, rfl, fun j hj => absurd hj (Nat.not_lt_zero _), rfl, hTO1⟩
    case turn =>
      rintro it rest ⟨b1, b2⟩ s' ⟨hb, k, h, xs, rfl, hk, hr, st, lx, its, hb2, hT⟩
      simp only at hb hb2
      subst hb hb2
      have hlt : k < src.length := by
        rcases Nat.lt_or_ge k src.length with q | q
        · exact q
        · rw [List.drop_of_length_le (by simpa using q)] at hr; cases hr
      rw [List.drop_eq_getElem_cons (by simpa using hlt)] at hr
      injection hr with hx hrest
      have hit' : it = .ref src[k].it := by simpa using hx
      subst hit'
      have e : src[k]? = some src[k] := List.getElem?_eq_getElem hlt
      have m := List.mem_of_getElem? e
      obtain ⟨a, ha, la⟩ := st.ls D hl e
      have hi0 := st.it k _ e
      rw [if_neg (Nat.lt_irrefl _)] at hi0
      refine wpAny_bind (wpAny_holding ?_)
      show wpAny _ _ (Builtin.SmallTypes.nextOf (.ref _) >>= _) _ _ _
      cases hx0 : a[i]? with
      | none =>
        refine wpAny_bind (nx_end (s := ⟨h, gg, dd, tk, os⟩) hh hi0 la hx0 fun h3 e3 s3 he => ?_)
        exact hE h3 e3 ⟨a, List.mem_of_getElem? ha, hx0⟩ (fun c o c1 c2 c3 eo => s3 _ _ (c3 _ m) (st.kp c o c1 c2 c3 eo)) he
      | some x =>
        refine wpAny_bind (nx_item (s := ⟨h, gg, dd, tk, os⟩) hi0 la hx0 fun h3 hi3 s3 => wpAny_pure ?_)
        exact wpAny_pure ⟨rfl, k + 1, h3, xs ++ [x], rfl, hlt, hrest, st.step D e hi3 s3, by simp [lx], its.snoc (by rw [lx]; exact ha) hx0, by simp, s3.extBut _ _ (D.iO _ m).symm hT⟩
    case fin =>
      rintro ⟨b1, b2⟩ s' ⟨hb, k, h, xs, rfl, hk, hr, st, lx, its, hb2, hT⟩
      simp only at hb hb2
      subst hb hb2
      have hk1 : k = src.length := by
        rcases Nat.lt_or_ge k src.length with q | q
        · rw [List.drop_eq_getElem_cons (by simpa using q)] at hr; cases hr
        · omega
      subst hk1
      refine wpAny_bind (wpAny_newTuple ?_ (by simpa [lx] using hsz))
      refine wpAny_pure ⟨_, rfl, ?_⟩
      show Q (.ref h.objs.size) _
      rw [st.sz]
      have sz8 : (h.push { cls := .type "tuple", data := .seq xs.toArray }).objs.size = hp.objs.size + 1 := by rw [Heap.size_push, st.sz]
      refine hQ xs _ _ _ its lx (Heap.get?_push_of_some _ st.rc) hf ⟨ys0, Heap.get?_push_of_some _ hT, ly0⟩ (fun j p ej => ?_) ?_ sz8 fun c o c1 c2 c3 eo => Heap.get?_push_of_some _ (st.kp c o c1 c2 c3 eo)
      · have := st.it j p ej
        rw [if_pos (List.getElem?_eq_some_iff.mp ej).1] at this
        exact this.at fun o eo => Heap.get?_push_of_some _ eo
      · rw [← st.sz]
        exact Heap.get?_push_size _ rfl

theorem zipG_pyNext {Q : Option Value → Shared → Prop} (hh : A.handled = none) (D : ZApart src z TI TO) (hn : src ≠ []) (hsz : src.length ≤ sizeLine) (lv : vss.length = src.length) (hz : IsZg s.heap z TI TO f0 f1) (hf : f0 = .none ∨ ∃ a : Addr, f0 = rawInt a)
    (hTI : IsSq s.heap TI (src.map fun p => Value.ref p.it)) (hTO : ∃ ys, IsSq s.heap TO ys ∧ ys.length = src.length) (hit : ∀ (j : Nat) p, src[j]? = some p → ItAt s.heap p i) (hl : ∀ (j : Nat) p, src[j]? = some p → ∃ a, vss[j]? = some a ∧ LAt s.heap p a)
    (hQ : ∀ xs h' f0' f1', Its vss i xs → xs.length = src.length → IsZg h' z TI TO f0' f1' → (f0' = .none ∨ ∃ a : Addr, f0' = rawInt a) → (∃ ys, IsSq h' TO ys ∧ ys.length = src.length) → (∀ (j : Nat) p, src[j]? = some p → ItAt h' p (i + 1)) → IsSq h' s.heap.objs.size xs → h'.objs.size = s.heap.objs.size + 1 →
      (∀ c o, c ≠ z → c ≠ TO → (∀ p ∈ src, c ≠ p.it) → s.heap.get? c = some o → h'.get? c = some o) → Q (some (.ref s.heap.objs.size)) { s with heap := h' })
    (hE : ∀ h', (∃ a ∈ vss, a[i]? = none) → (∀ c o, c ≠ z → c ≠ TO → (∀ p ∈ src, c ≠ p.it) → s.heap.get? c = some o → h'.get? c = some o) → Q none { s with heap := h' }) :
    wpAny (model prog w) A (pyNext (.ref z)) Q E s := by
  have hT : s.TypeIs (.ref z) "zip" := ⟨_, hz, rfl⟩
  unfold pyNext
  refine wpAny_bind (wpAny_attempt (wpAny_callSpecial?_slot (name := Str.ofString "__next__") hT F.slot_zip_next
    (wpAny_call_entry F.slot_zip_next hT F.entry_zip_next (zipG_next hh D hn hsz lv hz hf hTI hTO hit hl (fun xs h' g0 g1 a1 a2 a3 a4 a5 a6 a7 a8 a9 => wpAny_pure (hQ xs h' g0 g1 a1 a2 a3 a4 a5 a6 a7 a8 a9)) fun h' e hx hk he => ?_) (F.args_zip_next_1 _))))
  obtain ⟨o, ho, hc⟩ := he
  refine wpAny_bind (wpAny_isInstance (T := "StopIteration") (b := true) ⟨o, ho, hc⟩ isSubtype_stop ?_)
  exact wpAny_pure (hE _ hx hk)
theorem zipG_go {tg : Expr} {u : Value} {Q : Unit → Shared → Prop} (hz : IsZg s.heap z TI TO f0 f1) (hf : f0 = .none ∨ ∃ a : Addr, f0 = rawInt a)
    (hQ : ∀ h' f0', IsZg h' z TI TO f0' f1 → (f0' = .none ∨ ∃ a : Addr, f0' = rawInt a) → Heap.SameBut z s.heap h' → Q () { s with heap := h' }) : wpAny (model prog w) A (letOwnedTupleGo tg (.ref z) u) Q E s := by
  have same : Q () s := hQ s.heap f0 hz hf ⟨rfl, fun _ _ => rfl⟩
  unfold letOwnedTupleGo
  cases tg <;> first
    | exact wpAny_pure same
    | (cases u <;> first
        | exact wpAny_pure same
        | (refine wpAny_bind (wpAny_load hz ?_)
           rename_i a
           show wpAny _ _ (if (["enumerate", "zip", "dict_itemiterator", "dict_reverseitemiterator", "odict_iterator", "itertools.zip_longest", "itertools.pairwise"].contains "zip" &&
             (#[f0, .bool f1, .bool false, .ref TI, .ref TO] : Array Value)[0]? == some (rawInt a)) = true then _ else _) Q E s
           split
           · refine wpAny_bind (wpAny_rule ?_)
             show wpAny _ _ (setField (.ref z) 0 .none) Q E s
             exact wpAny_setField_rec hz (by simp) fun h' hz' hs' => hQ h' _ hz' (.inl rfl) hs'
           · exact wpAny_pure same))
theorem zipG_iter {Q : Value → Shared → Prop} (hz : IsZg s.heap z TI TO f0 f1) (h : Q (.ref z) s) : wpAny (model prog w) A (pyIter (.ref z)) Q E s := by
  have hT : s.TypeIs (.ref z) "zip" := ⟨_, hz, rfl⟩
  refine wpAny_pyIter_slot hT F.slot_zip_iter (wpAny_call_entry F.slot_zip_iter hT F.entry_zip_iter ?_ (F.args_zip_iter_1 _))
  show wpAny _ _ (ret (.ref z)) _ _ s
  exact wpAny_pure ⟨_, rfl, "zip", _, hT, F.slot_zip_next.lookup, h⟩
end
/-! ### it is made -/
theorem typeCall_zip_n (as : List Value) : checkTypeCall "zip" ⟨as, []⟩ = pure () := by kernel_rfl
theorem newCall_zip_n (a : Value) (as : List Value) : checkBuiltinCall "zip.__new__" ⟨.type "zip" :: a :: as, []⟩ = pure () := by kernel_rfl
theorem args_object_init_n (o : Value) (as : List Value) : argsOk "object.__init__" ⟨o :: as, []⟩ := by
  unfold argsOk; rw [signature?_of (id := "object.__init__") (n := ['_', '_', 't', 'i', 'n', 'i', '_', '_']) (o := ['t', 'c', 'e', 'j', 'b', 'o']) (by kernel_rfl) F.owner_object]; kernel_rfl
abbrev Sc := Bool × Addr
def SAt (h : Heap) (p : Sc) (xs : Array Value) : Prop := if p.1 = true then h.IsList p.2 xs else h.IsTuple p.2 xs
theorem SAt.at {h h' : Heap} {p : Sc} {xs : Array Value} (x : SAt h p xs) (k : ∀ o, h.get? p.2 = some o → h'.get? p.2 = some o) : SAt h' p xs := by
  unfold SAt at *
  split
  · rename_i e; rw [if_pos e] at x; obtain ⟨o, e, r⟩ := x; exact ⟨o, k o e, r⟩
  · rename_i e; rw [if_neg e] at x; obtain ⟨o, e, r⟩ := x; exact ⟨o, k o e, r⟩
abbrev itO (p : Sc) : Obj := { cls := .type (if p.1 = true then "list_iterator" else "tuple_iterator"), data := .fields #[.ref p.2, .int 0 0] }
section
variable {prog : Program} {w : World} {A : Around} {E : Value → Shared → Prop} {s : Shared}
theorem pyIter_sc {p : Sc} {xs : Array Value} {Q : Value → Shared → Prop} (h : SAt s.heap p xs) (hQ : Q (.ref s.heap.objs.size) { s with heap := s.heap.push (itO p) }) : wpAny (model prog w) A (pyIter (.ref p.2)) Q E s := by
  unfold SAt at h
  unfold itO at hQ
  by_cases e : p.1 = true
  · rw [if_pos e] at h hQ
    exact wpAny_pyIter_list h hQ
  · rw [if_neg e] at h hQ
    exact wpAny_pyIter_tuple h hQ
theorem iterAll_sc {ls : List Sc} {Q : List Value → Shared → Prop} (hl : ∀ p ∈ ls, ∃ xs, SAt s.heap p xs)
    (hQ : ∀ h', h'.objs.size = s.heap.objs.size + ls.length → (∀ (j : Nat) p, ls[j]? = some p → h'.get? (s.heap.objs.size + j) = some (itO p)) → (∀ c o, s.heap.get? c = some o → h'.get? c = some o) → Q ((List.range ls.length).map fun j => Value.ref (s.heap.objs.size + j)) { s with heap := h' }) :
    wpAny (model prog w) A (Builtin.SmallTypes.iterAll (ls.map fun p => Value.ref p.2)) Q E s := by
  obtain ⟨hp, gg, dd, tk, os⟩ := s
  simp only at hl hQ
  unfold Builtin.SmallTypes.iterAll
  refine wpAny_bind ?_
  refine wpAny_forIn_list _ (fun rest b s' => ∃ (k : Nat) (h : Heap), s' = ⟨h, gg, dd, tk, os⟩ ∧ k ≤ ls.length ∧ rest = (ls.map fun p => Value.ref p.2).drop k ∧ b = ((List.range k).map fun j => Value.ref (hp.objs.size + j)).toArray ∧ h.objs.size = hp.objs.size + k ∧
    (∀ (j : Nat) p, j < k → ls[j]? = some p → h.get? (hp.objs.size + j) = some (itO p)) ∧ (∀ c o, hp.get? c = some o → h.get? c = some o)) _ ?turn ?fin _ _ ?init
  case init => exact ⟨0, hp, rfl, Nat.zero_le _, by simp, rfl, rfl, fun j p h => absurd h (Nat.not_lt_zero _), fun _ _ e => e⟩
  case turn =>
    rintro x rest b s' ⟨k, h, rfl, hk, hr, rfl, sz, its, kp⟩
    have hlt : k < ls.length := by
      rcases Nat.lt_or_ge k ls.length with q | q
      · exact q
      · rw [List.drop_of_length_le (by simpa using q)] at hr; cases hr
    rw [List.drop_eq_getElem_cons (by simpa using hlt)] at hr
    injection hr with hx hrest
    have hx' : x = .ref ls[k].2 := by simpa using hx
    subst hx'
    obtain ⟨xs, q⟩ := hl ls[k] (List.getElem_mem hlt)
    refine wpAny_bind (wpAny_holding (pyIter_sc (s := ⟨h, gg, dd, tk, os⟩) (q.at fun o => kp _ o) (wpAny_pure ?_)))
    refine ⟨k + 1, h.push (itO ls[k]), rfl, hlt, hrest, ?_, by rw [Heap.size_push, sz]; omega, fun j p hj e => ?_, fun c o e => Heap.get?_push_of_some _ (kp c o e)⟩
    · simp [List.range_succ, sz]
    · by_cases hjk : j = k
      · subst hjk
        have : p = ls[j] := by rw [List.getElem?_eq_getElem hlt] at e; exact (Option.some.inj e).symm
        subst this
        rw [← sz]
        exact Heap.get?_push_size _ rfl
      · exact Heap.get?_push_of_some _ (its j p (by omega) e)
  case fin =>
    rintro b s' ⟨k, h, rfl, hk, hr, rfl, sz, its, kp⟩
    have hk1 : k = ls.length := by
      rcases Nat.lt_or_ge k ls.length with q | q
      · rw [List.drop_eq_getElem_cons (by simpa using q)] at hr; cases hr
      · omega
    subst hk1
    exact wpAny_pure (hQ h sz (fun j p e => its j p (List.getElem?_eq_some_iff.mp e).1 e) kp)
end
abbrev zsOf (n : Nat) (ls : List Sc) : List Zs := ls.zipIdx.map fun p => ⟨p.1.1, p.1.2, n + p.2⟩
theorem meets_zipN_new (a : Sc) (r : List Sc) (hsz : (a :: r).length ≤ sizeLine) : Meets (Builtin.«zip.__new__» ⟨.type "zip" :: (a :: r).map fun p => Value.ref p.2, []⟩) (fun _ R s => (∀ p ∈ a :: r, ∃ xs, SAt s.heap p xs) ∧
      ∀ h', h'.objs.size = s.heap.objs.size + (a :: r).length + 3 → (∀ (j : Nat) p, (a :: r)[j]? = some p → h'.get? (s.heap.objs.size + j) = some (itO p)) → (∀ c o, s.heap.get? c = some o → h'.get? c = some o) →
        IsSq h' (s.heap.objs.size + (a :: r).length) ((List.range (a :: r).length).map fun j => Value.ref (s.heap.objs.size + j)) → IsSq h' (s.heap.objs.size + (a :: r).length + 1) (List.replicate (a :: r).length .none) →
        IsZg h' (s.heap.objs.size + (a :: r).length + 2) (s.heap.objs.size + (a :: r).length) (s.heap.objs.size + (a :: r).length + 1) .none false → R (.ok (.ret (.ref (s.heap.objs.size + (a :: r).length + 2)))) { s with heap := h' }) :=
  .of_wp fun prog w A R s h => by
    obtain ⟨hp, g, d, tk, os⟩ := s; obtain ⟨hl, h⟩ := h
    have hsub := sub_zip
    have hl' : ∀ p ∈ a :: r, ∃ xs, SAt (Shared.heap ⟨hp, g, d, tk, os⟩) p xs := hl
    wp_walk using iterAll_sc (ls := a :: r) hl'
    intro h1 sz its kp
    simp only at sz its kp
    have hN : (List.map (fun x => Value.none) (List.map (fun j => Value.ref (hp.objs.size + j)) (List.range (a :: r).length))) = List.replicate (a :: r).length Value.none := by
      rw [List.map_map]
      apply List.ext_getElem
      · simp
      · intro n h1 h2; simp
    show wpAny _ _ (newTuple (List.map (fun j => Value.ref (hp.objs.size + j)) (List.range (a :: r).length)) >>= fun x => newTuple (List.map (fun x => Value.none) (List.map (fun j => Value.ref (hp.objs.size + j)) (List.range (a :: r).length))) >>= fun y => Builtin.SmallTypes.newRecord (Value.type "zip") (Builtin.SmallTypes.ownedTupleFields ++ [Value.bool false, x, y]) >>= fun v => ret v) _ _ _
    rw [hN]
    refine wpAny_bind (wpAny_newTuple ?_ (by simpa using hsz))
    refine wpAny_bind (wpAny_newTuple ?_ (by simpa using hsz))
    show wpAny (model prog w) A.in1 (newObj (.type "zip") (.fields #[Value.none, Value.bool false, Value.bool false, Value.ref h1.objs.size, Value.ref (h1.push { cls := .type "tuple", data := .seq ((List.map (fun j => Value.ref (hp.objs.size + j)) (List.range (a :: r).length))).toArray }).objs.size]) >>= fun v => ret v) _ _ _
    refine wpAny_bind (wpAny_newObj_type (wpAny_pure ⟨_, rfl, ?_⟩) (by size_fits))
    have z1 : (h1.push { cls := .type "tuple", data := .seq ((List.map (fun j => Value.ref (hp.objs.size + j)) (List.range (a :: r).length))).toArray }).objs.size = hp.objs.size + (a :: r).length + 1 := by rw [Heap.size_push, sz]
    generalize hT : (List.map (fun j => Value.ref (hp.objs.size + j)) (List.range (a :: r).length)) = T at *
    have z2 : ((h1.push { cls := .type "tuple", data := .seq T.toArray }).push { cls := .type "tuple", data := .seq (List.replicate (a :: r).length Value.none).toArray }).objs.size = hp.objs.size + (a :: r).length + 2 := by rw [Heap.size_push, z1]
    have up : ∀ {o1 o2 o3 : Obj} {c : Addr} {o : Obj}, h1.get? c = some o → (((h1.push o1).push o2).push o3).get? c = some o := fun e => Heap.get?_push_of_some _ (Heap.get?_push_of_some _ (Heap.get?_push_of_some _ e))
    show R (.ok (.ret (.ref ((h1.push { cls := .type "tuple", data := .seq T.toArray }).push { cls := .type "tuple", data := .seq (List.replicate (a :: r).length Value.none).toArray }).objs.size))) _
    rw [z2]
    refine h _ (by rw [Heap.size_push, z2]) (fun j p e => up (its j p e)) (fun c o e => up (kp c o e)) ?_ ?_ ?_
    · have := Heap.get?_push_size h1 (o := { cls := .type "tuple", data := .seq T.toArray }) rfl
      rw [sz] at this
      exact Heap.get?_push_of_some _ (Heap.get?_push_of_some _ this)
    · have := Heap.get?_push_size (h1.push { cls := .type "tuple", data := .seq T.toArray }) (o := { cls := .type "tuple", data := .seq (List.replicate (a :: r).length Value.none).toArray }) rfl
      rw [z1] at this
      exact Heap.get?_push_of_some _ this
    · have := Heap.get?_push_size ((h1.push { cls := .type "tuple", data := .seq T.toArray }).push { cls := .type "tuple", data := .seq (List.replicate (a :: r).length Value.none).toArray }) (o := { cls := .type "zip", data := .fields #[Value.none, Value.bool false, Value.bool false, Value.ref h1.objs.size, Value.ref (h1.push { cls := .type "tuple", data := .seq T.toArray }).objs.size] }) rfl
      rw [z2] at this
      exact this.trans (by rw [z1, sz])
end QL

set_option Elab.async false
set_option linter.all false
set_option maxRecDepth 100000
set_option maxHeartbeats 1000000
namespace QL
open PySem PySem.Spec PyProof.Rows L2
open Sem (wp)
theorem pick {α β : Type} {P : α → β → Prop} : ∀ {l : List α}, (∀ p ∈ l, ∃ a, P p a) → ∃ as : List β, as.length = l.length ∧ ∀ (j : Nat) p, l[j]? = some p → ∃ a, as[j]? = some a ∧ P p a
  | [], _ => ⟨[], rfl, fun j p e => by simp at e⟩
  | p :: l, h => by
    obtain ⟨a, ha⟩ := h p (by simp)
    obtain ⟨as, e, r⟩ := pick (l := l) fun q hq => h q (List.mem_cons_of_mem _ hq)
    refine ⟨a :: as, by simp [e], fun j q ej => ?_⟩
    cases j with
    | zero => simp at ej; subst ej; exact ⟨a, rfl, ha⟩
    | succ j => exact r j q (by simpa using ej)
theorem pickN {β : Type} {R : Nat → β → Prop} : ∀ n : Nat, (∀ j, j < n → ∃ a, R j a) → ∃ as : List β, as.length = n ∧ ∀ j, j < n → ∃ a, as[j]? = some a ∧ R j a
  | 0, _ => ⟨[], rfl, fun j h => absurd h (Nat.not_lt_zero _)⟩
  | n + 1, h => by
    obtain ⟨as, e, r⟩ := pickN n fun j hj => h j (Nat.lt_succ_of_lt hj)
    obtain ⟨a, ha⟩ := h n (Nat.lt_succ_self n)
    refine ⟨as ++ [a], by simp [e], fun j hj => ?_⟩
    by_cases ej : j = n
    · subst ej; exact ⟨a, by rw [← e]; simp, ha⟩
    · obtain ⟨b, h1, h2⟩ := r j (by omega)
      exact ⟨b, by rw [List.getElem?_append_left (by omega)]; exact h1, h2⟩
theorem vals_of : ∀ {ws : List V} {us : List Value}, ws.length = us.length → (∀ (j : Nat) w u, ws[j]? = some w → us[j]? = some u → RelV w u) → Vals ws us
  | [], [], _, _ => .nil
  | w :: ws, u :: us, e, h => .cons (h 0 w u rfl rfl) (vals_of (by simpa using e) fun j w u h1 h2 => h (j + 1) w u (by simpa using h1) (by simpa using h2))
  | [], _ :: _, e, _ => by simp at e
  | _ :: _, [], e, _ => by simp at e
theorem vals_getV : ∀ {vs : List V} {us : List Value} {i : Nat} {u : Value}, Vals vs us → us[i]? = some u → ∃ v, vs[i]? = some v ∧ RelV v u
  | _, _, _, _, .nil, e => by simp at e
  | _, _, 0, u, .cons r _, e => by simp at e; subst e; exact ⟨_, rfl, r⟩
  | _, _, i + 1, u, .cons _ t, e => by
    obtain ⟨v, h1, h2⟩ := vals_getV t (i := i) (by simpa using e)
    exact ⟨v, by simpa using h1, h2⟩
section
variable {prog : Program} {w : World} {A : Around} {E : Value → Shared → Prop} {s : Shared}
theorem call_zipN {a : Sc} {r : List Sc} {Q : Value → Shared → Prop} (hsz : (a :: r).length ≤ sizeLine) (hl : ∀ p ∈ a :: r, ∃ xs, SAt s.heap p xs)
    (h : ∀ h', h'.objs.size = s.heap.objs.size + (a :: r).length + 3 → (∀ (j : Nat) p, (a :: r)[j]? = some p → h'.get? (s.heap.objs.size + j) = some (itO p)) → (∀ c o, s.heap.get? c = some o → h'.get? c = some o) →
        IsSq h' (s.heap.objs.size + (a :: r).length) ((List.range (a :: r).length).map fun j => Value.ref (s.heap.objs.size + j)) → IsSq h' (s.heap.objs.size + (a :: r).length + 1) (List.replicate (a :: r).length .none) →
        IsZg h' (s.heap.objs.size + (a :: r).length + 2) (s.heap.objs.size + (a :: r).length) (s.heap.objs.size + (a :: r).length + 1) .none false → Q (.ref (s.heap.objs.size + (a :: r).length + 2)) { s with heap := h' }) :
    wpAny (model prog w) A (call (.type "zip") ((a :: r).map fun p => Value.ref p.2)) Q E s := by
  refine callType_new F.called_zip (by decide) (typeCall_zip_n _) (newCall_zip_n _ _) (fun obj => args_object_init_n obj _) F.entry_zip_new (meets_zipN_new a r hsz) ⟨hl, fun h' h1 h2 h3 h4 h5 h6 => ?_⟩
  exact ⟨⟨_, h6, rfl⟩, h h' h1 h2 h3 h4 h5 h6⟩
end
def SrcV (K : PySem.W.Frag) (H : Hp) (p : Sc) (vs : List V) : Prop := if p.1 = true then SqL K H p.2 vs else SqT K H p.2 vs
def ItzG (K : PySem.W.Frag) (ls : List Sc) : It :=
  ⟨fun i H => ∀ p ∈ ls, ∃ vs, SrcV K H p vs ∧ i < vs.length,
    fun i H v H' => ∃ T xs, v = .ref T ∧ H T = none ∧ H' = upd H T (.tup xs) ∧ xs.length = ls.length ∧ ∀ (j : Nat) p vs, ls[j]? = some p → SrcV K H p vs → ∃ x, vs[i]? = some x ∧ xs[j]? = some x,
    fun i H => (∀ p ∈ ls, ∃ vs, SrcV K H p vs) ∧ ∃ p ∈ ls, ∃ vs, SrcV K H p vs ∧ vs.length ≤ i⟩
section
variable {X : Cx} {pins : List (Addr × Obj)} {σ : L2.St} {H : Hp} {s : Shared}
theorem srcV_inj (I : Inv X pins σ H s) {p : Sc} {xs ys : List V} (h : SrcV X.K H p xs) (h' : SrcV X.K H p ys) : xs = ys := by
  unfold SrcV at h h'
  split at h
  · rename_i e; rw [if_pos e] at h'; exact I.list_inj h h'
  · rename_i e; rw [if_neg e] at h'; exact I.tuple_inj h h'
theorem srcV_at (I : Inv X pins σ H s) {p : Sc} {xs : List V} (h : SrcV X.K H p xs) : ∃ its : List Value, Vals xs its ∧ SAt s.heap p its.toArray := by
  unfold SrcV at h
  unfold SAt
  split at h
  · rename_i e; simp only [e, if_true]; obtain ⟨its, r, p, _⟩ := I.list h; exact ⟨its, r, p.isList⟩
  · rename_i e; simp only [e, if_false]; obtain ⟨its, r, p, _⟩ := I.tuple h; exact ⟨its, r, p⟩
end
theorem lat_of {h : Heap} {p : Zs} {a : Array Value} (x : SAt h (p.b, p.l) a) : LAt h p a := x
theorem turn_zipG {P : Program} {w : World} {K : PySem.W.Frag} {tg : Expr} {src : List Zs} {z TI TO : Addr} (D : ZApart src z TI TO) (hn : src ≠ []) (hsz : src.length ≤ sizeLine) :
    Turn P w K tg (ItzG K (src.map fun p => (p.b, p.l))) (z :: TI :: TO :: src.map Zs.it) z (fun i h => ∃ f0 f1, IsZg h z TI TO f0 f1 ∧ (f0 = .none ∨ ∃ a : Addr, f0 = rawInt a) ∧ IsSq h TI (src.map fun p => Value.ref p.it) ∧ (∃ ys, IsSq h TO ys ∧ ys.length = src.length) ∧ ∀ (j : Nat) p, src[j]? = some p → ItAt h p i) where
  mem := by simp
  obj := fun i h st c hc => by
    obtain ⟨f0, f1, hz, hf, hTI, ⟨ys, hTO, _⟩, hi⟩ := st
    simp only [List.mem_cons, List.mem_map] at hc
    rcases hc with q | q | q | ⟨p, hp, q⟩
    · rw [q]; exact ⟨_, hz, fun v q => nomatch q⟩
    · rw [q]; exact ⟨_, hTI, fun v q => nomatch q⟩
    · rw [q]; exact ⟨_, hTO, fun v q => nomatch q⟩
    · obtain ⟨j, hj⟩ := List.mem_iff_getElem?.mp hp
      rw [← q]
      exact (hi j p hj).obj
  keep := fun i h h' st k => by
    obtain ⟨f0, f1, hz, hf, hTI, ⟨ys, hTO, l⟩, hi⟩ := st
    exact ⟨f0, f1, k z (by simp) _ hz, hf, k TI (by simp) _ hTI, ⟨ys, k TO (by simp) _ hTO, l⟩, fun j p e => (hi j p e).at fun o q => k p.it (by simp only [List.mem_cons, List.mem_map]; exact .inr (.inr (.inr ⟨p, List.mem_of_getElem? e, rfl⟩))) o q⟩
  item := by
    intro X hP hw hK hc i pins s σ H E I hf0 st hg
    subst hP hw hK
    obtain ⟨f0, f1, hz, hf, hTI, hTO, hi⟩ := st
    have hg' : ∀ p ∈ src, ∃ a : Array Value, LAt s.heap p a ∧ ∃ vs, SrcV X.K H (p.b, p.l) vs ∧ Vals vs a.toList := fun p hp => by
      obtain ⟨vs, hv, _⟩ := hg (p.b, p.l) (List.mem_map.mpr ⟨p, hp, rfl⟩)
      obtain ⟨its, r, q⟩ := srcV_at I hv
      exact ⟨its.toArray, q, vs, hv, by simpa using r⟩
    obtain ⟨vss, lv, hvs⟩ := pick hg'
    have hzl : z < s.heap.objs.size := Heap.lt_size hz
    have hIl : TI < s.heap.objs.size := Heap.lt_size hTI
    have hOl : TO < s.heap.objs.size := by obtain ⟨ys, e, _⟩ := hTO; exact Heap.lt_size e
    have hil : ∀ p ∈ src, p.it < s.heap.objs.size := fun p hp => by
      obtain ⟨j, hj⟩ := List.mem_iff_getElem?.mp hp
      exact (hi j p hj).lt
    refine zipG_pyNext (I.ok.hd hc) D hn hsz lv hz hf hTI hTO hi (fun j p e => by obtain ⟨a, h1, h2, _⟩ := hvs j p e; exact ⟨a, h1, h2⟩) (fun us h' g0 g1 its lu z' hf' TO' hi' hT hs' hk => ?_) (fun h' hx _ => ?_)
    · refine ⟨_, rfl, zipG_go (s := { s with heap := h' }) z' hf' fun h'' g0' z'' hf'' sb => ?_⟩
      have hw : ∀ j, j < src.length → ∃ w : V, ∃ u p vs, us[j]? = some u ∧ RelV w u ∧ src[j]? = some p ∧ SrcV X.K H (p.b, p.l) vs ∧ vs[i]? = some w := fun j hj => by
        obtain ⟨a, u, h1, h2, h3⟩ := its j (by omega)
        obtain ⟨a', h1', _, vs, h5, h6⟩ := hvs j src[j] (List.getElem?_eq_getElem hj)
        rw [h1] at h1'
        cases h1'
        obtain ⟨v, h7, h8⟩ := vals_getV h6 (i := i) (u := u) (by simpa using h2)
        exact ⟨v, u, src[j], vs, h3, h8, List.getElem?_eq_getElem hj, h5, h7⟩
      obtain ⟨xs, lx, hx⟩ := pickN src.length hw
      have rv : Vals xs us := vals_of (by omega) fun j w u h1 h2 => by
        have hj : j < src.length := by
          have := (List.getElem?_eq_some_iff.mp h1).1
          omega
        obtain ⟨w', e1, u', p, vs, e2, r, _⟩ := hx j hj
        rw [h1] at e1
        cases e1
        rw [h2] at e2
        cases e2
        exact r
      have hT2 : IsSq h'' s.heap.objs.size us := (sb.2 _ (Nat.ne_of_gt hzl)).trans hT
      have new : ObjOk X.prog X.w (upd H s.heap.objs.size (.tup xs)) h'' s.heap.objs.size (.tup xs) :=
        ⟨by show xs.length ≤ sizeLine; omega, us, rv, ⟨_, hT2, rfl, _, rfl⟩⟩
      have I1 : Inv X pins σ (upd H s.heap.objs.size (.tup xs)) { s with heap := h'' } :=
        I.turnedNew (t' := s.toks) (ch := z :: TI :: TO :: src.map Zs.it) (fun c o hb q => (sb.2 c (fun q' => hb (by simp [q']))).trans (hk c o (fun q' => hb (by simp [q'])) (fun q' => hb (by simp [q'])) (fun p hp q' => hb (by simp only [List.mem_cons, List.mem_map]; exact .inr (.inr (.inr ⟨p, hp, q'.symm⟩)))) q)) hf0 (Nat.le_refl _) new
      refine ⟨.ref s.heap.objs.size, _, I1, rfl, ⟨_, xs, rfl, I.hok.fresh (Nat.le_refl _), rfl, by simp [lx], fun j p vs e hv => ?_⟩, ⟨g0', g1, z'', hf'', ?_, ?_, ?_⟩, fun c hcm => ?_⟩
      · rw [List.getElem?_map, Option.map_eq_some_iff] at e
        obtain ⟨q, e, rfl⟩ := e
        have hj := (List.getElem?_eq_some_iff.mp e).1
        obtain ⟨w', e1, u', p, vs', e2, r, e3, e4, e5⟩ := hx j hj
        rw [e] at e3
        cases e3
        rw [srcV_inj I hv e4]
        exact ⟨w', e5, e1⟩
      · exact (sb.2 _ D.TIz).trans (hk _ _ D.TIz D.TITO (fun p hp q => D.iI p hp q.symm) hTI)
      · obtain ⟨ys, q, l⟩ := TO'
        exact ⟨ys, (sb.2 _ D.TOz).trans q, l⟩
      · exact fun j p e => (hi' j p e).at fun o q => (sb.2 _ (D.iz p (List.mem_of_getElem? e))).trans q
      · have hlt : c < s.heap.objs.size := by
          simp only [List.mem_cons, List.mem_map] at hcm
          rcases hcm with q | q | q | ⟨p, hp, q⟩
          · rw [q]; exact hzl
          · rw [q]; exact hIl
          · rw [q]; exact hOl
          · rw [← q]; exact hil p hp
        rw [upd_ne (Nat.ne_of_lt hlt)]
        exact (hf0 c hcm).1
    · exfalso
      obtain ⟨a, ha, hna⟩ := hx
      obtain ⟨j, hj⟩ := List.mem_iff_getElem?.mp ha
      have hjl : j < src.length := by
        have := (List.getElem?_eq_some_iff.mp hj).1
        omega
      obtain ⟨a', h1, _, vs, h5, h6⟩ := hvs j src[j] (List.getElem?_eq_getElem hjl)
      rw [hj] at h1
      cases h1
      obtain ⟨vs2, h7, h8⟩ := hg (src[j].b, src[j].l) (List.mem_map.mpr ⟨_, List.getElem_mem hjl, rfl⟩)
      rw [srcV_inj I h7 h5] at h8
      have := h6.length
      have : i < a.size := by simp at this; omega
      rw [Array.getElem?_eq_getElem this] at hna
      cases hna
  done := by
    intro X hP hw hK hc i pins s σ H E I hf0 st hg
    subst hP hw hK
    obtain ⟨f0, f1, hz, hf, hTI, hTO, hi⟩ := st
    have hg' : ∀ p ∈ src, ∃ a : Array Value, LAt s.heap p a ∧ ∃ vs, SrcV X.K H (p.b, p.l) vs ∧ Vals vs a.toList := fun p hp => by
      obtain ⟨vs, hv⟩ := hg.1 (p.b, p.l) (List.mem_map.mpr ⟨p, hp, rfl⟩)
      obtain ⟨its, r, q⟩ := srcV_at I hv
      exact ⟨its.toArray, q, vs, hv, by simpa using r⟩
    obtain ⟨vss, lv, hvs⟩ := pick hg'
    refine zipG_pyNext (I.ok.hd hc) D hn hsz lv hz hf hTI hTO hi (fun j p e => by obtain ⟨a, h1, h2, _⟩ := hvs j p e; exact ⟨a, h1, h2⟩) (fun us h' g0 g1 its lu z' hf' TO' hi' hT hs' hk => ?_) (fun h' hx hk => ?_)
    · exfalso
      obtain ⟨_, p, hp, vs, hv, hle⟩ := hg
      rw [List.mem_map] at hp
      obtain ⟨q, hq, rfl⟩ := hp
      obtain ⟨j, hj⟩ := List.mem_iff_getElem?.mp hq
      have hjl := (List.getElem?_eq_some_iff.mp hj).1
      obtain ⟨a, u, h1, h2, h3⟩ := its j (by omega)
      obtain ⟨a', h1', _, vs', h5, h6⟩ := hvs j q hj
      rw [h1] at h1'
      cases h1'
      rw [srcV_inj I hv h5] at hle
      have := h6.length
      have hlt := (Array.getElem?_eq_some_iff.mp h2).1
      simp at this
      omega
    · exact ⟨rfl, I.turnedL (t' := s.toks) (ch := z :: TI :: TO :: src.map Zs.it) (fun c o hb q => hk c o (fun q' => hb (by simp [q'])) (fun q' => hb (by simp [q'])) (fun p hp q' => hb (by simp only [List.mem_cons, List.mem_map]; exact .inr (.inr (.inr ⟨p, hp, q'.symm⟩)))) q) hf0⟩
  self := fun A i s Q E st h => by
    obtain ⟨f0, f1, hz, _⟩ := st
    exact zipG_iter hz h

theorem zsOf_get {n : Nat} {ls : List Sc} {j : Nat} {q : Zs} (e : (zsOf n ls)[j]? = some q) : ∃ p, ls[j]? = some p ∧ q = ⟨p.1, p.2, n + j⟩ := by
  unfold zsOf at e
  rw [List.getElem?_map, Option.map_eq_some_iff] at e
  obtain ⟨a, h1, rfl⟩ := e
  rw [List.getElem?_zipIdx, Option.map_eq_some_iff] at h1
  obtain ⟨p, h2, rfl⟩ := h1
  exact ⟨p, h2, by simp⟩
theorem zsOf_len {n : Nat} {ls : List Sc} : (zsOf n ls).length = ls.length := by simp [zsOf]
theorem zsOf_sc {n : Nat} {ls : List Sc} : (zsOf n ls).map (fun p => (p.b, p.l)) = ls := by
  apply List.ext_getElem
  · simp [zsOf]
  · intro j h1 h2; simp [zsOf]
theorem zsOf_it {n : Nat} {ls : List Sc} : (zsOf n ls).map Zs.it = (List.range ls.length).map (n + ·) := by
  apply List.ext_getElem
  · simp [zsOf]
  · intro j h1 h2; simp [zsOf]
theorem zsOf_ref {n : Nat} {ls : List Sc} : (zsOf n ls).map (fun p => Value.ref p.it) = (List.range ls.length).map fun j => Value.ref (n + j) := by
  apply List.ext_getElem
  · simp [zsOf]
  · intro j h1 h2; simp [zsOf]
section
variable {X : Cx} {pins : List (Addr × Obj)} {σ : L2.St} {H : Hp} {s : Shared}
theorem srcV_lt (I : Inv X pins σ H s) {p : Sc} {vs : List V} (h : SrcV X.K H p vs) : p.2 < s.heap.objs.size := by
  obtain ⟨its, _, q⟩ := srcV_at I h
  unfold SAt at q
  split at q
  · obtain ⟨o, e, _⟩ := q; exact Heap.lt_size e
  · obtain ⟨o, e, _⟩ := q; exact Heap.lt_size e
/-- zip(..) has come: its walk -/
theorem zip_made {tg : Expr} {R : It → Hp → Prop} {ls : List Sc} (I : Inv X pins σ H s) (hn : ls ≠ []) (hsz : ls.length ≤ sizeLine) (hl : ∀ p ∈ ls, ∃ vs, SrcV X.K H p vs) (q : R (ItzG X.K ls) H) :
    wpAny (model X.prog X.w) X.A (call (.type "zip") (ls.map fun p => Value.ref p.2)) (fun v s1 => wpAny (model X.prog X.w) X.A (pyIter v) (PIE X pins σ tg R) X.xe s1) X.xe s := by
  obtain ⟨a, r, e⟩ : ∃ a r, ls = a :: r := by
    cases ls with
    | nil => exact absurd rfl hn
    | cons a r => exact ⟨a, r, rfl⟩
  subst e
  refine call_zipN hsz (fun p hp => by obtain ⟨vs, hv⟩ := hl p hp; obtain ⟨its, _, h⟩ := srcV_at I hv; exact ⟨_, h⟩) fun h' sz its kp hTI hTO hz => zipG_iter hz ?_
  have I2 : Inv X pins σ H { s with heap := h' } := I.kept (t' := s.toks) kp
  have ltl : ∀ p ∈ a :: r, p.2 < s.heap.objs.size := fun p hp => by obtain ⟨vs, hv⟩ := hl p hp; exact srcV_lt I hv
  have hitm : ∀ p ∈ zsOf s.heap.objs.size (a :: r), s.heap.objs.size ≤ p.it ∧ s.heap.objs.size + (a :: r).length > p.it ∧ s.heap.objs.size > p.l := fun p hp => by
    obtain ⟨j, hj⟩ := List.mem_iff_getElem?.mp hp
    obtain ⟨q, h1, rfl⟩ := zsOf_get hj
    have := (List.getElem?_eq_some_iff.mp h1).1
    exact ⟨Nat.le_add_right _ _, by show s.heap.objs.size + (a :: r).length > s.heap.objs.size + j; omega, ltl q (List.mem_of_getElem? h1)⟩
  have D : ZApart (zsOf s.heap.objs.size (a :: r)) (s.heap.objs.size + (a :: r).length + 2) (s.heap.objs.size + (a :: r).length) (s.heap.objs.size + (a :: r).length + 1) := by
    refine ⟨Nat.ne_of_lt (by omega), Nat.ne_of_lt (by omega), Nat.ne_of_lt (by omega), fun p hp => ?_, fun p hp => ?_, fun p hp => ?_, ?_, fun p hp => ?_, fun p hp => ?_, fun p hp q hq => ?_⟩
    · have := hitm p hp; exact Nat.ne_of_lt (by omega)
    · have := hitm p hp; exact Nat.ne_of_lt (by omega)
    · have := hitm p hp; exact Nat.ne_of_lt (by omega)
    · rw [zsOf_it]
      rw [List.nodup_iff_pairwise_ne, List.pairwise_map]
      exact List.Pairwise.imp (fun h e => absurd (Nat.add_left_cancel e) (Nat.ne_of_lt h)) List.pairwise_lt_range
    · have := hitm p hp; exact Nat.ne_of_lt (by omega)
    · have := hitm p hp; exact Nat.ne_of_lt (by omega)
    · have := hitm p hp; have := hitm q hq; exact Nat.ne_of_lt (by omega)
  have hne : zsOf s.heap.objs.size (a :: r) ≠ [] := by
    intro e
    have := congrArg List.length e
    rw [zsOf_len] at this
    simp at this
  have T := turn_zipG (P := X.prog) (w := X.w) (K := X.K) (tg := tg) D hne (by rw [zsOf_len]; exact hsz)
  rw [zsOf_sc] at T
  refine ⟨s.heap.objs.size + (a :: r).length + 2, _, _, _, H, rfl, I2, T, ⟨.none, false, hz, .inl rfl, by rw [zsOf_ref]; exact hTI, ⟨_, hTO, by rw [zsOf_len]; simp⟩, fun j p e => ?_⟩, fun b hb => ?_, q⟩
  · obtain ⟨q, h1, rfl⟩ := zsOf_get e
    have := its j q h1
    unfold ItAt
    unfold itO at this
    split
    · rename_i e; simp only at e; simp only [e, if_true] at this; exact ⟨_, this, rfl, rfl⟩
    · rename_i e; simp only at e; simp only [e, if_false] at this; exact ⟨_, this, rfl, rfl⟩
  · have hle : s.heap.objs.size ≤ b := by
      rw [List.mem_cons, List.mem_cons, List.mem_cons, List.mem_map] at hb
      rcases hb with q | q | q | ⟨p, hp, q⟩
      · rw [q]; exact Nat.le_trans (Nat.le_add_right _ _) (Nat.le_add_right _ _)
      · rw [q]; exact Nat.le_add_right _ _
      · rw [q]; exact Nat.le_trans (Nat.le_add_right _ _) (Nat.le_add_right _ _)
      · have := hitm p hp; rw [← q]; exact this.1
    exact I.fpOk hle (I.hok.fresh hle)
end
/-- *e: the items of a list or tuple, themselves lists and tuples -/
def iZipS (K : PySem.W.Frag) (te : TE) : TI := fun σ H R => te σ H fun x H1 => ∃ a rows ls, x = .ref a ∧ (SqT K H1 a rows ∨ SqL K H1 a rows) ∧ rows = ls.map (fun p : Sc => V.ref p.2) ∧ ls ≠ [] ∧ ls.length ≤ sizeLine ∧ (∀ p ∈ ls, ∃ vs, SrcV K H1 p vs) ∧ R (ItzG K ls) H1
def iZipG (K : PySem.W.Frag) (ta : TA) : TI := fun σ H R => ta σ H fun vs H1 => ∃ ls, vs = ls.map (fun p : Sc => V.ref p.2) ∧ ls ≠ [] ∧ ls.length ≤ sizeLine ∧ (∀ p ∈ ls, ∃ vs, SrcV K H1 p vs) ∧ R (ItzG K ls) H1
theorem vals_refs : ∀ {ls : List Sc} {us : List Value}, Vals (ls.map fun p => V.ref p.2) us → us = ls.map fun p => Value.ref p.2
  | [], _, .nil => rfl
  | p :: ls, _, .cons r t => by
    cases r
    rw [vals_refs t]; rfl
section
variable {X : Cx} {tg e e2 : Expr} {te : TE} {ta : TA} {p pos sp_ : Pos}
theorem callWith_typeS {M : Model} {A : Around} {E : Value → Shared → Prop} {s : Shared} {T : String} {env : PySem.Env} {Q : Value → Shared → Prop} {es : List Expr} (hst : (starEach es env).any (·.1) = true)
    (h : wpAny M A (evalArgs (.type T) true (backTo pos (starEach es env)) []) (fun a s₁ => wpAny M A (call (.type T) a.pos a.kw) Q E s₁) E s) (hst' : (backTo pos (starEach es env)).any (·.1) = true) :
    wpAny M A (callWith pos (.type T) [] (backTo pos (starEach es env)) []) Q E s := by
  unfold callWith
  refine wpAny_bind (wpAny_holding (wpAny_mono h (fun a s₁ h₁ => wpAny_bind (wpAny_standAt ?_)) fun _ _ x => x))
  simp only [hst', Bool.true_or]
  refine wpAny_bind (wpAny_pure ?_)
  exact wpAny_bind (wpAny_mono (wpAny_operateT (by simpa using h₁)) (fun r s₂ hr => wpAny_bind (wpAny_holding (wpAny_point (wpAny_pure hr)))) fun _ _ x => x)
theorem pi_zipS (hg : Gl X "zip") (hm : X.mg "zip" = none) (he : PE X e te) (hst : starEach [.Starred e sp_] X.env = [(true, eval e X.env)] := by rfl) :
    PI X tg (.Call (.Name "zip" p) [.Starred e sp_] [] pos) (iZipS X.K te) := by
  refine ⟨fun pins s σ H R I h => ?_⟩
  refine Call_ (ld_blt I hg hm PyProof.Rows.boot_zip (callWith_typeS (by rw [hst]; rfl) ?_ (by rw [hst]; rfl)))
  rw [hst]
  refine PySem.W.ks_lone (thn (he.run pins s σ H _ I h) fun v s1 ⟨y, H1, I1, ry, a, rows, ls, ey, hx, erows, hn, hsz, hl, q⟩ => ?_)
  subst ey
  obtain rfl : v = Value.ref a := ry
  refine StX.star_any I1 hx fun us s2 I2 rv => ?_
  subst erows
  rw [vals_refs rv]
  exact zip_made I2 hn hsz hl q
theorem pi_zipG (hg : Gl X "zip") (hm : X.mg "zip" = none) (ha : PA X [e, e2] ta) (hs : starEach [e, e2] X.env = (false, eval e X.env) :: starEach [e2] X.env := by rfl) (hpl : (backTo pos (starEach [e2] X.env)).any (·.1) = false := by rfl) :
    PI X tg (.Call (.Name "zip" p) [e, e2] [] pos) (iZipG X.K ta) := by
  refine ⟨fun pins s σ H R I h => ?_⟩
  refine Call_ (ld_blt I hg hm PyProof.Rows.boot_zip (PyProof.Rows.callWith_type1 (thn (ha.run pos pins s σ H _ I h) fun us s1 ⟨vs, H1, I1, r1, q1⟩ => ?_) hs hpl))
  obtain ⟨ls, e, hn, hsz, hl, q⟩ := q1
  subst e
  rw [vals_refs r1]
  exact zip_made I1 hn hsz hl q
end
end QL

set_option Elab.async false
set_option linter.all false
set_option maxRecDepth 100000
set_option maxHeartbeats 2000000
/-! zip of lists and tuples: of two, of the items of one -/
namespace PL
open PySem L2
def seqD : D → Option (List D) | .lst xs => some xs | .tup xs => some xs | _ => none
def seqDs : List D → Option (List (List D))
  | [] => some []
  | d :: ds => match seqD d, seqDs ds with | some x, some xs => some (x :: xs) | _, _ => none
def minL : List (List D) → Nat
  | [] => 0
  | [x] => x.length
  | x :: y :: xs => min x.length (minL (y :: xs))
def zipN (xss : List (List D)) : List D := (List.range (minL xss)).map fun i => .tup (xss.map fun r => r.getD i .non)
theorem minL_le : ∀ {xss : List (List D)} {xs : List D}, xs ∈ xss → minL xss ≤ xs.length
  | [x], xs, h => by simp at h; subst h; exact Nat.le_refl _
  | x :: y :: r, xs, h => by
    rcases List.mem_cons.mp h with e | e
    · subst e; exact Nat.min_le_left _ _
    · exact Nat.le_trans (Nat.min_le_right _ _) (minL_le e)
theorem minL_at : ∀ {xss : List (List D)}, xss ≠ [] → ∃ xs ∈ xss, xs.length = minL xss
  | [x], _ => ⟨x, by simp, rfl⟩
  | x :: y :: r, _ => by
    obtain ⟨xs, h, e⟩ := minL_at (xss := y :: r) (by simp)
    by_cases c : x.length ≤ minL (y :: r)
    · exact ⟨x, by simp, by show x.length = min x.length (minL (y :: r)); omega⟩
    · exact ⟨xs, List.mem_cons_of_mem _ h, by show xs.length = min x.length (minL (y :: r)); omega⟩
theorem zipN_two (xs ys : List D) : zipN [xs, ys] = List.zipWith (fun x y => D.tup [x, y]) xs ys := by
  apply List.ext_getElem
  · simp [zipN, minL]
  · intro i h1 h2
    simp at h2
    have a : i < xs.length := by omega
    have b : i < ys.length := by omega
    simp [zipN, List.getD_eq_getElem?_getD, a, b]
def SrcD (cn : Nat → Addr) (Hf : Hp) (p : QL.Sc) (xs : List D) : Prop := ∃ vs, (if p.1 = true then Hf p.2 = some (.lst vs) else Hf p.2 = some (.tup vs)) ∧ Rps cn Hf vs xs
theorem src_of {cn : Nat → Addr} {Hf : Hp} {v : V} {d : D} {xs : List D} (r : Rp cn Hf v d) (e : seqD d = some xs) : ∃ p : QL.Sc, v = .ref p.2 ∧ SrcD cn Hf p xs := by
  cases r with
  | @lst p vs ds h r => simp [seqD] at e; subst e; exact ⟨(true, p), rfl, vs, by simpa using h, r⟩
  | @tup p vs ds h r => simp [seqD] at e; subst e; exact ⟨(false, p), rfl, vs, by simpa using h, r⟩
  | _ => simp [seqD] at e
theorem srcs_of {cn : Nat → Addr} {Hf : Hp} : ∀ {vs : List V} {ds : List D} {xss : List (List D)}, Rps cn Hf vs ds → seqDs ds = some xss → ∃ ls : List QL.Sc, vs = ls.map (fun p => V.ref p.2) ∧ ls.length = xss.length ∧ ∀ (j : Nat) p xs, ls[j]? = some p → xss[j]? = some xs → SrcD cn Hf p xs
  | _, _, xss, .nil, e => by simp [seqDs] at e; subst e; exact ⟨[], rfl, rfl, by simp⟩
  | _, _, xss, .cons (d := d) (ds := ds) r t, e => by
    unfold seqDs at e
    split at e
    · rename_i x xs e1 e2
      simp at e; subst e
      obtain ⟨p, rfl, hp⟩ := src_of r e1
      obtain ⟨ls, rfl, hl, h⟩ := srcs_of t e2
      refine ⟨p :: ls, rfl, by simp [hl], fun j q ys h1 h2 => ?_⟩
      cases j with
      | zero => simp at h1 h2; subst h1 h2; exact hp
      | succ j => exact h j q ys (by simpa using h1) (by simpa using h2)
    · simp at e
theorem SrcD.sv {cn : Nat → Addr} {K : PySem.W.Frag} {Hf H : Hp} (s : Same Hf H) {p : QL.Sc} {xs : List D} (h : SrcD cn Hf p xs) : ∃ vs, QL.SrcV K H p vs ∧ Rps cn Hf vs xs := by
  obtain ⟨vs, h, r⟩ := h
  refine ⟨vs, ?_, r⟩
  unfold QL.SrcV
  split at h
  · rename_i e; rw [if_pos e]; exact SqL.of (s _ _ h)
  · rename_i e; rw [if_neg e]; exact SqT.of (s _ _ h)
theorem rps_ix {cn : Nat → Addr} {H : Hp} : ∀ {vs : List V} {ds : List D}, vs.length = ds.length → (∀ (j : Nat) v d, vs[j]? = some v → ds[j]? = some d → Rp cn H v d) → Rps cn H vs ds
  | [], [], _, _ => .nil
  | v :: vs, d :: ds, hl, h => .cons (h 0 v d rfl rfl) (rps_ix (by simpa using hl) fun j v' d' e1 e2 => h (j + 1) v' d' (by simpa using e1) (by simpa using e2))
theorem wk_zipG {G : Ctx} {Hf : Hp} {ls : List QL.Sc} {xss : List (List D)} (hn : ls ≠ []) (hl : ls.length = xss.length) (h : ∀ (j : Nat) p xs, ls[j]? = some p → xss[j]? = some xs → SrcD G.cn Hf p xs) : Wk G (QL.ItzG G.K ls) Hf (zipN xss) where
  go := fun i H s hi p hp => by
    obtain ⟨j, hj⟩ := List.mem_iff_getElem?.mp hp
    have hj' : j < xss.length := hl ▸ (List.getElem?_eq_some_iff.mp hj).1
    obtain ⟨vs, h1, r⟩ := (h j p xss[j] hj (List.getElem?_eq_getElem hj')).sv (K := G.K) s
    refine ⟨vs, h1, ?_⟩
    rw [r.length]
    have := minL_le (List.getElem_mem hj')
    simp [zipN] at hi
    omega
  stop := fun H s => by
    refine ⟨fun p hp => ?_, ?_⟩
    · obtain ⟨j, hj⟩ := List.mem_iff_getElem?.mp hp
      have hj' : j < xss.length := hl ▸ (List.getElem?_eq_some_iff.mp hj).1
      obtain ⟨vs, h1, r⟩ := (h j p xss[j] hj (List.getElem?_eq_getElem hj')).sv (K := G.K) s
      exact ⟨vs, h1⟩
    · have hne : xss ≠ [] := by intro e; subst e; simp at hl; exact hn hl
      obtain ⟨xs, hm, e⟩ := minL_at hne
      obtain ⟨j, hj⟩ := List.mem_iff_getElem?.mp hm
      have hj' : j < ls.length := hl ▸ (List.getElem?_eq_some_iff.mp hj).1
      obtain ⟨vs, h1, r⟩ := (h j ls[j] xs (List.getElem?_eq_getElem hj') hj).sv (K := G.K) s
      exact ⟨ls[j], List.getElem_mem hj', vs, h1, by rw [r.length, e]; simp [zipN]⟩
  yld := fun i H x H' d s e y Hf2 s1 s2 => by
    obtain ⟨T, xs, rfl, hT, rfl, hlx, hx⟩ := y
    have s3 : Same Hf (upd Hf2 T (.tup xs)) := s1.trans (Same.new (s2.free hT))
    refine ⟨_, ?_, .inr ⟨T, _, hT, rfl, rfl⟩⟩
    unfold zipN at e
    rw [List.getElem?_map, Option.map_eq_some_iff] at e
    obtain ⟨i', e, rfl⟩ := e
    obtain ⟨hi, rfl⟩ : i < minL xss ∧ i = i' := by
      rw [List.getElem?_eq_some_iff] at e
      obtain ⟨a, b⟩ := e
      simp at a b
      exact ⟨a, b⟩
    refine .tup upd_same (rps_ix (by simp [hlx, hl]) fun j v d e1 e2 => ?_)
    rw [List.getElem?_map, Option.map_eq_some_iff] at e2
    obtain ⟨ys, e2, rfl⟩ := e2
    have hj : j < ls.length := hl ▸ (List.getElem?_eq_some_iff.mp e2).1
    obtain ⟨vs, h1, r⟩ := (h j ls[j] ys (List.getElem?_eq_getElem hj) e2).sv (K := G.K) s
    obtain ⟨x, f1, f2⟩ := hx j ls[j] vs (List.getElem?_eq_getElem hj) h1
    rw [e1] at f2
    cases f2
    obtain ⟨d, f3, r1⟩ := r.getV f1
    rw [List.getD_eq_getElem?_getD, f3]
    exact r1.mono s3
section
variable {G : Ctx} {X : Cx} {Wx : WX} {tg a b : Expr} {g ga gb : Env → W D} {pos : Pos}
def zipS (g : Env → W D) : Env → W (List D) := fun ρ => do
  let d ← g ρ
  (match (seqD d).bind seqDs with | some xss => W.need (xss ≠ [] ∧ xss.length ≤ sizeLine) (W.pure (zipN xss)) | none => W.fail)
def zipG (f g : Env → W D) : Env → W (List D) := fun ρ => do
  let c ← f ρ
  let d ← g ρ
  (match seqD c, seqD d with | some xs, some ys => W.pure (List.zipWith (fun x y => D.tup [x, y]) xs ys) | _, _ => W.fail)
theorem ei_zipS {p sp_ : Pos} (h : Ev G X Wx a g) (hK : X.K = G.K) (hg : Gl X "zip") (hm : X.mg "zip" = none) (hst : starEach [.Starred a sp_] X.env = [(true, eval a X.env)] := by rfl) :
    Ei G X Wx tg (.Call (.Name "zip" p) [.Starred a sp_] [] pos) (zipS g) := by
  obtain ⟨t, pe, ev⟩ := h.ex
  refine ⟨_, QL.pi_zipS hg hm pe hst, ?_⟩
  intro B ρ σ Hf H Q' E' Q R q k kx
  refine ev B ρ σ Hf H _ E' _ R q (fun v d Hf1 H1 R1 s1 r1 q1 => ?_) kx
  replace q1 : (match (seqD d).bind seqDs with | some xss => W.need (xss ≠ [] ∧ xss.length ≤ sizeLine) (W.pure (zipN xss)) | none => (W.fail : W (List D))) Q' E' := q1
  rcases e : (seqD d).bind seqDs with _ | xss
  · rw [e] at q1; exact False.elim q1
  · rw [e] at q1
    rw [Option.bind_eq_some_iff] at e
    obtain ⟨ds, e1, e2⟩ := e
    obtain ⟨p, rfl, vs, hp, rv⟩ := src_of r1 e1
    obtain ⟨ls, rfl, hl, hs⟩ := srcs_of rv e2
    have hn : ls ≠ [] := by intro e; subst e; simp at hl; exact q1.1.1 (List.length_eq_zero_iff.mp hl.symm)
    refine ⟨p.2, _, ls, rfl, ?_, rfl, hn, by rw [hl]; exact q1.1.2, fun q hq => ?_, ?_⟩
    · split at hp
      · exact .inr (SqL.of (R1.sm _ _ hp))
      · exact .inl (SqT.of (R1.sm _ _ hp))
    · obtain ⟨j, hj⟩ := List.mem_iff_getElem?.mp hq
      have hj' : j < xss.length := hl ▸ (List.getElem?_eq_some_iff.mp hj).1
      obtain ⟨us, h1, _⟩ := (hs j q xss[j] hj (List.getElem?_eq_getElem hj')).sv (K := X.K) R1.sm
      exact ⟨us, h1⟩
    · exact k _ _ Hf1 H1 R1 s1 (hK ▸ wk_zipG hn hl hs) q1.2
theorem ei_zipG {p : Pos} (h : Ev G X Wx a ga) (h2 : Ev G X Wx b gb) (hK : X.K = G.K) (hg : Gl X "zip") (hm : X.mg "zip" = none)
    (hs : starEach [a, b] X.env = (false, eval a X.env) :: starEach [b] X.env := by rfl) (hs2 : starEach [b] X.env = (false, eval b X.env) :: starEach [] X.env := by rfl) (hpl : (backTo pos (starEach [b] X.env)).any (·.1) = false := by rfl) :
    Ei G X Wx tg (.Call (.Name "zip" p) [a, b] [] pos) (zipG ga gb) := by
  obtain ⟨t, pe, ev⟩ := h.ex
  obtain ⟨t2, pe2, ev2⟩ := h2.ex
  refine ⟨_, QL.pi_zipG hg hm (pa_cons pe (pa_cons pe2 pa_nil hs2) hs) hs hpl, ?_⟩
  intro B ρ σ Hf H Q' E' Q R q k kx
  refine ev B ρ σ Hf H _ E' _ R q (fun v d Hf1 H1 R1 s1 r1 q1 => ?_) kx
  refine ev2 B ρ σ Hf1 H1 _ E' _ R1 q1 (fun u d2 Hf2 H2 R2 s2 r2 q2 => ?_) (kx.mono s1)
  have r1' := r1.mono s2.sm
  replace q2 : (match seqD d, seqD d2 with | some xs, some ys => W.pure (List.zipWith (fun x y => D.tup [x, y]) xs ys) | _, _ => (W.fail : W (List D))) Q' E' := q2
  rcases e1 : seqD d with _ | xs <;> rcases e2 : seqD d2 with _ | ys <;> rw [e1, e2] at q2 <;> first | exact False.elim q2 | skip
  · obtain ⟨p1, rfl, hp1⟩ := src_of r1' e1
    obtain ⟨p2, rfl, hp2⟩ := src_of r2 e2
    have hs : ∀ (j : Nat) p zs, [p1, p2][j]? = some p → [xs, ys][j]? = some zs → SrcD G.cn Hf2 p zs := fun j p zs f1 f2 => by
      match j with
      | 0 => simp at f1 f2; subst f1 f2; exact hp1
      | 1 => simp at f1 f2; subst f1 f2; exact hp2
      | j + 2 => simp at f1
    refine ⟨[p1, p2], rfl, by simp, by simp; decide, fun q hq => ?_, k _ _ Hf2 H2 R2 (s1.trans s2) (hK ▸ wk_zipG (by simp) rfl hs) (by rw [zipN_two]; exact q2)⟩
    simp at hq
    rcases hq with rfl | rfl
    · obtain ⟨us, h1, _⟩ := hp1.sv (K := X.K) R2.sm; exact ⟨us, h1⟩
    · obtain ⟨us, h1, _⟩ := hp2.sv (K := X.K) R2.sm; exact ⟨us, h1⟩
variable {ρ : PL.Env} {QL' : List D → Prop} {E : Xc → Prop}
def zipWS (d : D) : W (List D) := match (seqD d).bind seqDs with | some xss => W.need (xss ≠ [] ∧ xss.length ≤ sizeLine) (W.pure (zipN xss)) | none => W.fail
def zipWG (c d : D) : W (List D) := match seqD c, seqD d with | some xs, some ys => W.pure (List.zipWith (fun x y => D.tup [x, y]) xs ys) | _, _ => W.fail
@[simp] theorem zipS_app : zipS g ρ QL' E = g ρ (fun d => zipWS d QL' E) E := rfl
@[simp] theorem zipG_app : zipG ga gb ρ QL' E = ga ρ (fun c => gb ρ (fun d => zipWG c d QL' E) E) E := rfl
@[simp] theorem zipWG_ll {xs ys : List D} : zipWG (.lst xs) (.lst ys) QL' E = QL' (List.zipWith (fun x y => D.tup [x, y]) xs ys) := rfl
@[simp] theorem zipWG_lt {xs ys : List D} : zipWG (.lst xs) (.tup ys) QL' E = QL' (List.zipWith (fun x y => D.tup [x, y]) xs ys) := rfl
end
end PL

set_option Elab.async false
set_option linter.all false
set_option maxRecDepth 100000
set_option maxHeartbeats 2000000
namespace PL
open PySem L2
/-! ### words: forms as functions of the place -/
def un (i j : Nat) : Int := if j = i then 1 else 0
def vw (w : Nat) (f : Nat → Int) : List Int := (List.range w).map f
def cmb (row : List Int) (fs : List (Nat → Int)) : Nat → Int := fun j => dot row (fs.map fun f => f j)
def carried (p : Parts) (k : Int) : Nat := (p.bs.getD k.toNat 0).toNat
def befo (first b : Nat) (rows : List (Nat → Int)) : List (Nat → Int) := un 0 :: (rows ++ (List.range b).map fun t => un (first + t))
def wordF (p : Parts) : Int → Nat → List (Nat → Int) → List Int → Int × List (Nat → Int)
  | c, _, rows, [] => (c, rows)
  | c, first, rows, k :: ks => match ruleAt p c k with
    | some r => wordF p r.nx (first + carried p k) (r.rows.map fun row => cmb row (befo first (carried p k) rows)) ks
    | none => wordF p c (first + carried p k) rows ks
def wide (p : Parts) (ks : List Int) : Nat := (ks.map (carried p)).sum
theorem dot_cons (a x : Int) (r v : List Int) : dot (a :: r) (x :: v) = a * x + dot r v := by simp [dot]
theorem dot_nil_l (v : List Int) : dot [] v = 0 := by simp [dot]
theorem dot_nil_r (r : List Int) : dot r [] = 0 := by simp [dot]
theorem cmb_nil_l (fs : List (Nat → Int)) : cmb [] fs = fun _ => 0 := by funext j; exact dot_nil_l _
theorem cmb_nil_r (r : List Int) : cmb r [] = fun _ => 0 := by funext j; exact dot_nil_r _
theorem cmb_cons (a : Int) (r : List Int) (f : Nat → Int) (fs : List (Nat → Int)) : cmb (a :: r) (f :: fs) = fun j => a * f j + cmb r fs j := by
  funext j; simp [cmb, dot_cons]
structure Lin (T : (Nat → Int) → Nat → Int) : Prop where
  add : ∀ f g, T (fun j => f j + g j) = fun j => T f j + T g j
  mul : ∀ (a : Int) f, T (fun j => a * f j) = fun j => a * T f j
theorem Lin.zero {T : (Nat → Int) → Nat → Int} (h : Lin T) : T (fun _ => 0) = fun _ => 0 := by
  have := h.mul 0 (fun _ => 0)
  simpa using this
theorem Lin.cmb {T : (Nat → Int) → Nat → Int} (h : Lin T) : ∀ (row : List Int) (fs : List (Nat → Int)), T (cmb row fs) = PL.cmb row (fs.map T)
  | [], fs => by rw [cmb_nil_l, cmb_nil_l, h.zero]
  | _ :: _, [] => by rw [cmb_nil_r, List.map_nil, cmb_nil_r, h.zero]
  | a :: r, f :: fs => by rw [cmb_cons, List.map_cons, cmb_cons, h.add, h.mul, Lin.cmb h r fs]
theorem word_lin {p : Parts} {T : (Nat → Int) → Nat → Int} (h : Lin T) (h0 : T (un 0) = un 0) {n : Nat} : ∀ (ks : List Int) (c : Int) (first : Nat) (rows : List (Nat → Int)), (∀ i, first ≤ i → T (un i) = un (i + n)) →
    wordF p c (first + n) (rows.map T) ks = ((wordF p c first rows ks).1, (wordF p c first rows ks).2.map T)
  | [], c, first, rows, _ => rfl
  | k :: ks, c, first, rows, h1 => by
    have e : first + n + carried p k = first + carried p k + n := by omega
    unfold wordF
    split
    · rename_i r _
      rw [← word_lin h h0 ks r.nx (first + carried p k) _ (fun i hi => h1 i (by omega)), e]
      congr 1
      rw [List.map_map]
      refine List.map_congr_left fun row _ => ?_
      simp only [Function.comp_apply, h.cmb]
      congr 1
      unfold befo
      rw [List.map_cons, List.map_append, h0, List.map_map]
      congr 2
      refine List.map_congr_left fun t _ => ?_
      simp only [Function.comp_apply]
      rw [h1 _ (by omega)]
      congr 1
      omega
    · rw [← word_lin h h0 ks c (first + carried p k) _ (fun i hi => h1 i (by omega)), e]
theorem word_app {p : Parts} : ∀ (ks ls : List Int) (c : Int) (first : Nat) (rows : List (Nat → Int)), wordF p c first rows (ks ++ ls) = wordF p (wordF p c first rows ks).1 (first + wide p ks) (wordF p c first rows ks).2 ls
  | [], ls, c, first, rows => by simp [wordF, wide]
  | k :: ks, ls, c, first, rows => by
    have e : first + wide p (k :: ks) = first + carried p k + wide p ks := by simp [wide]; omega
    rw [List.cons_append, e]
    cases e' : ruleAt p c k with
    | none =>
      have a1 : ∀ zs, wordF p c first rows (k :: zs) = wordF p c (first + carried p k) rows zs := fun zs => by conv => lhs; unfold wordF; rw [e']
      rw [a1, a1, word_app ks ls]
    | some r =>
      have a1 : ∀ zs, wordF p c first rows (k :: zs) = wordF p r.nx (first + carried p k) (r.rows.map fun row => cmb row (befo first (carried p k) rows)) zs := fun zs => by conv => lhs; unfold wordF; rw [e']
      rw [a1, a1, word_app ks ls]
theorem dot_zero : ∀ (r v : List Int), (∀ x ∈ v, x = 0) → dot r v = 0
  | [], v, _ => dot_nil_l v
  | _ :: _, [], _ => dot_nil_r _
  | a :: r, x :: v, h => by rw [dot_cons, h x (by simp), dot_zero r v (fun y hy => h y (by simp [hy]))]; simp
theorem cmb_zero {row : List Int} {fs : List (Nat → Int)} {j : Nat} (h : ∀ f ∈ fs, f j = 0) : cmb row fs j = 0 := by
  refine dot_zero _ _ fun x hx => ?_
  obtain ⟨f, hf, rfl⟩ := List.mem_map.mp hx
  exact h f hf
theorem word_far {p : Parts} : ∀ (ks : List Int) (c : Int) (first : Nat) (rows : List (Nat → Int)), 1 ≤ first → (∀ f ∈ rows, ∀ j, first ≤ j → f j = 0) → ∀ f ∈ (wordF p c first rows ks).2, ∀ j, first + wide p ks ≤ j → f j = 0
  | [], c, first, rows, _, h => fun f hf j hj => h f hf j (by simpa [wide] using hj)
  | k :: ks, c, first, rows, h1, h => by
    have e : first + wide p (k :: ks) = first + carried p k + wide p ks := by simp [wide]; omega
    rw [e]
    unfold wordF
    split
    · refine word_far ks _ _ _ (by omega) ?_
      intro f hf j hj
      obtain ⟨row, _, rfl⟩ := List.mem_map.mp hf
      refine cmb_zero fun g hg => ?_
      unfold befo at hg
      simp only [List.mem_cons, List.mem_append, List.mem_map, List.mem_range] at hg
      rcases hg with rfl | hg | ⟨t, ht, rfl⟩
      · have : j ≠ 0 := by omega
        simp [un, this]
      · exact h g hg j (by omega)
      · have : j ≠ first + t := by omega
        simp [un, this]
    · exact word_far ks _ _ _ (by omega) (fun f hf j hj => h f hf j (by omega))
/-- how great the entries grow -/
theorem dot_abs {B : Nat} : ∀ (r v : List Int), (∀ x ∈ r, -9 ≤ x ∧ x ≤ 9) → (∀ x ∈ v, x.natAbs ≤ B) → (dot r v).natAbs ≤ 9 * r.length * B
  | [], v, _, _ => by rw [dot_nil_l]; simp
  | _ :: _, [], _, _ => by rw [dot_nil_r]; simp
  | a :: r, x :: v, h1, h2 => by
    rw [dot_cons]
    have ih := dot_abs r v (fun y hy => h1 y (by simp [hy])) (fun y hy => h2 y (by simp [hy]))
    have a1 := h1 a (by simp)
    have x1 := h2 x (by simp)
    have a2 : a.natAbs ≤ 9 := by omega
    have m : (a * x).natAbs ≤ 9 * B := by rw [Int.natAbs_mul]; exact Nat.mul_le_mul a2 x1
    have t := Int.natAbs_add_le (a * x) (dot r v)
    have e : 9 * (a :: r).length * B = 9 * B + 9 * r.length * B := by rw [List.length_cons, Nat.mul_add, Nat.add_mul]; omega
    omega
theorem cmb_abs {B : Nat} {row : List Int} {fs : List (Nat → Int)} {j : Nat} (h1 : ∀ x ∈ row, -9 ≤ x ∧ x ≤ 9) (h2 : ∀ f ∈ fs, (f j).natAbs ≤ B) : (cmb row fs j).natAbs ≤ 9 * row.length * B :=
  dot_abs _ _ h1 fun x hx => by
    obtain ⟨f, hf, rfl⟩ := List.mem_map.mp hx
    exact h2 f hf
end PL
namespace PL
open PySem L2
theorem rule_of {p : Parts} {m : Nat} {c k : Int} (ok : PartsOk m p) (c0 : 0 ≤ c) (c1 : c < p.rr.length) (k0 : 0 ≤ k) (k1 : k < p.bs.length) :
    ∃ l r, atI p.rr c = some l ∧ atI l k = some r ∧ ruleAt p c k = some r ∧ RuleOk p.rr.length m (carried p k) r ∧ atI p.bs k = some (carried p k : Int) ∧ carried p k ≤ 2 := by
  have hl : c.toNat < p.rr.length := by omega
  have el := List.getElem?_eq_getElem hl
  obtain ⟨e1, e2⟩ := ok.rr _ (List.mem_of_getElem? el)
  have hk : k.toNat < p.rr[c.toNat].length := by rw [e1]; omega
  have hb : k.toNat < p.bs.length := by omega
  have ek := List.getElem?_eq_getElem hk
  have eb := List.getElem?_eq_getElem hb
  have rk := e2 _ _ _ ek eb
  have ec : carried p k = p.bs[k.toNat].toNat := by simp [carried, List.getD_eq_getElem?_getD, eb]
  have rb := ok.b _ (List.mem_of_getElem? eb)
  rw [← ec] at rk
  refine ⟨_, _, atI_get c0 el, atI_get k0 ek, ?_, rk, ?_, by omega⟩
  · simp [ruleAt, el, ek]
  · rw [atI_get k0 eb, ec, Int.toNat_of_nonneg rb.1]
def units (m : Nat) : List (Nat → Int) := (List.range m).map fun i => un (1 + i)
theorem befo_len {first b : Nat} {rows : List (Nat → Int)} : (befo first b rows).length = 1 + rows.length + b := by simp [befo]; omega
theorem word_ok {p : Parts} {m : Nat} (ok : PartsOk m p) : ∀ (ks : List Int) (c : Int) (first : Nat) (rows : List (Nat → Int)), 0 ≤ c → c < p.rr.length → rows.length = m → (∀ k ∈ ks, 0 ≤ k ∧ k < p.bs.length) →
    0 ≤ (wordF p c first rows ks).1 ∧ (wordF p c first rows ks).1 < p.rr.length ∧ (wordF p c first rows ks).2.length = m
  | [], c, first, rows, c0, c1, hr, _ => ⟨c0, c1, hr⟩
  | k :: ks, c, first, rows, c0, c1, hr, hk => by
    obtain ⟨k0, k1⟩ := hk k (by simp)
    obtain ⟨l, r, _, _, e, rk, _, _⟩ := rule_of ok c0 c1 k0 k1
    unfold wordF
    simp only [e]
    exact word_ok ok ks _ _ _ rk.n0 rk.n1 (by simp [rk.len]) (fun k hk' => hk k (by simp [hk']))
theorem wide_le {p : Parts} (hb : ∀ b ∈ p.bs, 0 ≤ b ∧ b ≤ 2) : ∀ ks : List Int, wide p ks ≤ 2 * ks.length
  | [] => by simp [wide]
  | k :: ks => by
    have ih := wide_le hb ks
    have : carried p k ≤ 2 := by
      unfold carried
      rw [List.getD_eq_getElem?_getD]
      cases e : p.bs[k.toNat]? with
      | none => simp
      | some b => have := hb b (List.mem_of_getElem? e); simp; omega
    simp [wide] at ih ⊢
    omega
theorem wide_app {p : Parts} (ks ls : List Int) : wide p (ks ++ ls) = wide p ks + wide p ls := by simp [wide]
theorem word_snoc {p : Parts} {c : Int} {first : Nat} {rows : List (Nat → Int)} {ks : List Int} {i : Nat} {k : Int} {r : Rule} (hi : ks[i]? = some k) (e : ruleAt p (wordF p c first rows (ks.take i)).1 k = some r) :
    wordF p c first rows (ks.take (i + 1)) = (r.nx, r.rows.map fun row => cmb row (befo (first + wide p (ks.take i)) (carried p k) (wordF p c first rows (ks.take i)).2)) ∧ wide p (ks.take (i + 1)) = wide p (ks.take i) + carried p k := by
  rw [take_next hi, word_app, wide_app]
  constructor
  · simp [wordF, e]
  · simp [wide]
end PL
namespace PL
open PySem L2
theorem lk_rules {a b c : D} : List.lookup ("rules" : Str) ([("burdens", a), ("rules", b), ("shows", c)] : List (Str × D)) = some b := by
  have h : ((("rules" : Str)) == ("burdens" : Str)) = false := by decide +kernel
  simp [List.lookup, h]
theorem lk_burdens {a b c : D} : List.lookup ("burdens" : Str) ([("burdens", a), ("rules", b), ("shows", c)] : List (Str × D)) = some a := by
  simp [List.lookup]
theorem lk_shows {a b c : D} : List.lookup ("shows" : Str) ([("burdens", a), ("rules", b), ("shows", c)] : List (Str × D)) = some c := by
  have h : ((("shows" : Str)) == ("burdens" : Str)) = false := by decide +kernel
  have h2 : ((("shows" : Str)) == ("rules" : Str)) = false := by decide +kernel
  simp [List.lookup, h, h2]
theorem lk_no {a b c : D} {f : Str} (h1 : (f == ("burdens" : Str)) = false) (h2 : (f == ("rules" : Str)) = false) (h3 : (f == ("shows" : Str)) = false) : List.lookup f ([("burdens", a), ("rules", b), ("shows", c)] : List (Str × D)) = none := by
  simp [List.lookup, h1, h2, h3]
theorem no_cell_count {p : Parts} : ∃ fs, dL p = .ins 0 fs ∧ fs.lookup ("cell_count" : Str) = none := ⟨_, rfl, lk_no (by decide +kernel) (by decide +kernel) (by decide +kernel)⟩
theorem no_control_count {p : Parts} : ∃ fs, dL p = .ins 0 fs ∧ fs.lookup ("control_count" : Str) = none := ⟨_, rfl, lk_no (by decide +kernel) (by decide +kernel) (by decide +kernel)⟩
theorem no_check_stand {p : Parts} : ∃ fs, dL p = .ins 0 fs ∧ fs.lookup ("check_stand" : Str) = none := ⟨_, rfl, lk_no (by decide +kernel) (by decide +kernel) (by decide +kernel)⟩
theorem no_heard {p : Parts} : ∃ fs, dL p = .ins 0 fs ∧ fs.lookup ("heard" : Str) = none := ⟨_, rfl, lk_no (by decide +kernel) (by decide +kernel) (by decide +kernel)⟩
theorem no_hear {p : Parts} : ∃ fs, dL p = .ins 0 fs ∧ fs.lookup ("hear" : Str) = none := ⟨_, rfl, lk_no (by decide +kernel) (by decide +kernel) (by decide +kernel)⟩
theorem no_hear_all {p : Parts} : ∃ fs, dL p = .ins 0 fs ∧ fs.lookup ("hear_all" : Str) = none := ⟨_, rfl, lk_no (by decide +kernel) (by decide +kernel) (by decide +kernel)⟩
theorem no_seen {p : Parts} : ∃ fs, dL p = .ins 0 fs ∧ fs.lookup ("seen" : Str) = none := ⟨_, rfl, lk_no (by decide +kernel) (by decide +kernel) (by decide +kernel)⟩
theorem fld_rules {p : Parts} {Q : D → Prop} {E : Xc → Prop} (q : Q (dRules p.rr)) : fldC 0 "rules" (dL p) Q E := ⟨⟨_, rfl⟩, _, lk_rules, q⟩
theorem fld_burdens {p : Parts} {Q : D → Prop} {E : Xc → Prop} (q : Q (dRow p.bs)) : fldC 0 "burdens" (dL p) Q E := ⟨⟨_, rfl⟩, _, lk_burdens, q⟩
theorem fld_shows {p : Parts} {Q : D → Prop} {E : Xc → Prop} (q : Q (dShows p.ss)) : fldC 0 "shows" (dL p) Q E := ⟨⟨_, rfl⟩, _, lk_shows, q⟩
theorem no_kind_count {p : Parts} : ∃ fs, dL p = .ins 0 fs ∧ fs.lookup ("kind_count" : Str) = none := ⟨_, rfl, lk_no (by decide +kernel) (by decide +kernel) (by decide +kernel)⟩
theorem no_word_map {p : Parts} : ∃ fs, dL p = .ins 0 fs ∧ fs.lookup ("word_map" : Str) = none := ⟨_, rfl, lk_no (by decide +kernel) (by decide +kernel) (by decide +kernel)⟩
end PL
namespace PL
open PySem L2
theorem wide_int (p : Parts) : ∀ ks : List Int, (ks.map fun k => (carried p k : Int)).sum = (wide p ks : Int)
  | [] => rfl
  | k :: ks => by
    have := wide_int p ks
    simp only [List.map_cons, List.sum_cons, wide] at this ⊢
    rw [this]
    simp
theorem wide_take (p : Parts) (ks : List Int) (i : Nat) : wide p (ks.take i) ≤ wide p ks := by
  conv => rhs; rw [← List.take_append_drop i ks, wide_app]
  omega
end PL

set_option Elab.async false
set_option linter.all false
set_option maxRecDepth 100000
set_option maxHeartbeats 2000000
namespace PL
open PySem L2
theorem un_abs (i j : Nat) : (un i j).natAbs ≤ 1 := by unfold un; split <;> simp
theorem word_abs {p : Parts} {m : Nat} (ok : PartsOk m p) : ∀ (ks : List Int) (c : Int) (first : Nat) (rows : List (Nat → Int)) (B : Nat), 1 ≤ B → 0 ≤ c → c < p.rr.length → rows.length = m → (∀ k ∈ ks, 0 ≤ k ∧ k < p.bs.length) → (∀ f ∈ rows, ∀ j, (f j).natAbs ≤ B) →
    ∀ f ∈ (wordF p c first rows ks).2, ∀ j, (f j).natAbs ≤ 54 ^ ks.length * B
  | [], c, first, rows, B, h1, c0, c1, hr, _, h => fun f hf j => by simpa using h f hf j
  | k :: ks, c, first, rows, B, h1, c0, c1, hr, hk, h => by
    obtain ⟨k0, k1⟩ := hk k (by simp)
    obtain ⟨l, r, _, _, e, rk, _, e2⟩ := rule_of ok c0 c1 k0 k1
    have a1 : wordF p c first rows (k :: ks) = wordF p r.nx (first + carried p k) (r.rows.map fun row => cmb row (befo first (carried p k) rows)) ks := by conv => lhs; unfold wordF; rw [e]
    rw [a1]
    have ih := word_abs ok ks r.nx (first + carried p k) (r.rows.map fun row => cmb row (befo first (carried p k) rows)) (54 * B) (by omega) rk.n0 rk.n1 (by simp [rk.len]) (fun k hk' => hk k (by simp [hk'])) (fun f hf j => by
      obtain ⟨row, hrow, rfl⟩ := List.mem_map.mp hf
      have rr := rk.rows row hrow
      have hb := cmb_abs (B := B) (row := row) (fs := befo first (carried p k) rows) (j := j) rr.rng (fun g hg => by
        unfold befo at hg
        simp only [List.mem_cons, List.mem_append, List.mem_map, List.mem_range] at hg
        rcases hg with rfl | hg | ⟨t, ht, rfl⟩
        · exact Nat.le_trans (un_abs _ _) h1
        · exact h g hg j
        · exact Nat.le_trans (un_abs _ _) h1)
      have hm := ok.m3
      have : 9 * row.length ≤ 54 := by have := rr.len; omega
      exact Nat.le_trans hb (Nat.mul_le_mul_right B this))
    intro f hf j
    have := ih f hf j
    rw [List.length_cons, Nat.pow_succ, Nat.mul_assoc]
    exact this
theorem units_abs {m : Nat} : ∀ f ∈ units m, ∀ j, (f j).natAbs ≤ 1 := fun f hf j => by
  obtain ⟨i, _, rfl⟩ := List.mem_map.mp hf
  exact un_abs _ _
theorem pow54 {n : Nat} (h : n ≤ 12) : 54 ^ n ≤ 2 ^ 72 := Nat.le_trans (Nat.pow_le_pow_right (by decide) h) (by decide)
theorem log_small {x : Nat} (h : x ≤ 2 ^ 72) : x.log2 < 100 := by
  by_cases e : x = 0
  · subst e; decide
  · rw [Nat.log2_lt e]; exact Nat.lt_of_le_of_lt h (by decide)
theorem cmulw {i j : Int} (h1 : i.natAbs ≤ 2 ^ 72) (h2 : j.natAbs ≤ 2 ^ 72) : CMulW i j := by
  have a := log_small h1
  have b := log_small h2
  show _ + _ < 1000000
  omega
/-! the rows of a word with those of its front in the place of the cells -/
theorem dotl_add (f g : Nat → Int) : ∀ (l : List Nat) (v : List Int), dot (l.map fun i => f i + g i) v = dot (l.map f) v + dot (l.map g) v
  | [], v => by simp [dot_nil_l]
  | _ :: _, [] => by simp [dot_nil_r]
  | a :: l, x :: v => by rw [List.map_cons, List.map_cons, List.map_cons, dot_cons, dot_cons, dot_cons, dotl_add f g l v, Int.add_mul]; omega
theorem dotl_mul (a : Int) (f : Nat → Int) : ∀ (l : List Nat) (v : List Int), dot (l.map fun i => a * f i) v = a * dot (l.map f) v
  | [], v => by simp [dot_nil_l]
  | _ :: _, [] => by simp [dot_nil_r]
  | b :: l, x :: v => by rw [List.map_cons, List.map_cons, dot_cons, dot_cons, dotl_mul a f l v, Int.mul_add, Int.mul_assoc]
theorem dotl_zero (f : Nat → Int) : ∀ (l : List Nat) (v : List Int), (∀ i ∈ l, f i = 0) → dot (l.map f) v = 0
  | [], v, _ => by simp [dot_nil_l]
  | _ :: _, [], _ => by simp [dot_nil_r]
  | a :: l, x :: v, h => by rw [List.map_cons, dot_cons, h a (by simp), dotl_zero f l v (fun i hi => h i (by simp [hi]))]; simp
theorem dot_snoc : ∀ (r : List Int) (v : List Int) (a x : Int), v[r.length]? = some x → dot (r ++ [a]) v = dot r v + a * x
  | [], [], a, x, h => by simp at h
  | [], y :: v, a, x, h => by simp at h; subst h; simp [dot]
  | _ :: _, [], a, x, h => by simp at h
  | b :: r, y :: v, a, x, h => by
    rw [List.cons_append, dot_cons, dot_cons, dot_snoc r v a x (by simpa using h)]; omega
theorem vw_snoc (n : Nat) (f : Nat → Int) : vw (n + 1) f = vw n f ++ [f n] := by simp [vw, List.range_succ]
theorem vw_len (n : Nat) (f : Nat → Int) : (vw n f).length = n := by simp [vw]
theorem dot_over : ∀ (r v : List Int) (a : Int), v.length ≤ r.length → dot (r ++ [a]) v = dot r v
  | r, [], a, _ => by rw [dot_nil_r, dot_nil_r]
  | [], _ :: _, a, h => by simp at h
  | b :: r, y :: v, a, h => by rw [List.cons_append, dot_cons, dot_cons, dot_over r v a (by simpa using h)]
theorem dot_at (i : Nat) : ∀ (m : Nat) (v : List Int) (x : Int), i < m → v[i]? = some x → dot (vw m (fun t => un i t)) v = x
  | 0, v, x, h, _ => by omega
  | m + 1, v, x, h, e => by
    rw [vw_snoc]
    by_cases c : i = m
    · subst c
      rw [dot_snoc _ _ _ x (by rw [vw_len]; exact e)]
      have : dot (vw i fun t => un i t) v = 0 := dotl_zero _ _ _ (fun t ht => by
        simp at ht
        have : t ≠ i := by omega
        simp [un, this])
      rw [this]
      simp [un]
    · have hm : m ≠ i := fun e => c e.symm
      cases hv : v[m]? with
      | some y =>
        rw [dot_snoc _ _ _ y (by rw [vw_len]; exact hv), dot_at i m v x (by omega) e]
        simp [un, hm]
      | none =>
        have hl : v.length ≤ m := by simpa using hv
        have : dot (vw m (fun t => un i t) ++ [un i m]) v = dot (vw m fun t => un i t) v := dot_over _ _ _ (by simpa [vw] using hl)
        rw [this, dot_at i m v x (by omega) e]
def sub (m n : Nat) (F : List (Nat → Int)) (f : Nat → Int) : Nat → Int := fun j => f 0 * un 0 j + dot (vw m fun i => f (1 + i)) (F.map fun g => g j) + (if 1 + m + n ≤ j then f (j - n) else 0)
theorem sub_lin (m n : Nat) (F : List (Nat → Int)) : Lin (sub m n F) where
  add f g := by
    funext j
    unfold sub vw
    rw [dotl_add (fun i => f (1 + i)) (fun i => g (1 + i)), Int.add_mul]
    by_cases h : 1 + m + n ≤ j
    · simp only [h, if_true]; omega
    · simp only [h, if_false]; omega
  mul a f := by
    funext j
    unfold sub vw
    rw [dotl_mul a (fun i => f (1 + i)), Int.mul_add, Int.mul_add, Int.mul_assoc]
    split <;> simp
theorem sub_0 (m n : Nat) (F : List (Nat → Int)) : sub m n F (un 0) = un 0 := by
  funext j
  unfold sub vw
  rw [dotl_zero _ _ _ (fun i _ => by simp [un])]
  have : ¬ (1 + m + n ≤ j ∧ j - n = 0) := by omega
  by_cases h : 1 + m + n ≤ j
  · have h0 : j - n ≠ 0 := by omega
    simp [un, h, h0]
  · simp [un, h]
theorem sub_far (m n : Nat) (F : List (Nat → Int)) (i : Nat) (hi : 1 + m ≤ i) : sub m n F (un i) = un (i + n) := by
  funext j
  unfold sub vw
  have h0 : (0 : Nat) ≠ i := by omega
  rw [dotl_zero _ _ _ (fun t ht => by
    simp at ht
    have : 1 + t ≠ i := by omega
    simp [un, this])]
  by_cases h : 1 + m + n ≤ j
  · by_cases h2 : j - n = i
    · have h3 : j = i + n := by omega
      simp [un, h, h2, h0, h3]
      omega
    · have h3 : j ≠ i + n := by omega
      simp [un, h, h2, h0, h3]
  · have h3 : j ≠ i + n := by omega
    simp [un, h, h0, h3]
theorem sub_cell (m n : Nat) (F : List (Nat → Int)) (hl : F.length = m) (i : Nat) (hi : i < m) : sub m n F (un (1 + i)) = F.getD i (fun _ => 0) := by
  funext j
  unfold sub
  have e : (vw m fun t => un (1 + i) (1 + t)) = vw m fun t => un i t := by
    unfold vw
    refine List.map_congr_left fun t _ => ?_
    by_cases c : t = i
    · subst c; simp [un]
    · have : 1 + t ≠ 1 + i := by omega
      simp [un, c, this]
  have hF : i < F.length := by omega
  rw [e, dot_at i m _ (F[i] j) hi (by simp [hF])]
  have h0 : (0 : Nat) ≠ 1 + i := by omega
  have : F.getD i (fun _ => 0) = F[i] := by simp [List.getD_eq_getElem?_getD, hF]
  rw [this]
  by_cases h : 1 + m + n ≤ j
  · have h2 : j - n ≠ 1 + i := by omega
    simp [un, h, h2, h0]
  · simp [un, h, h0]
theorem sub_units (m n : Nat) (F : List (Nat → Int)) (hl : F.length = m) : (units m).map (sub m n F) = F := by
  apply List.ext_getElem
  · simp [units, hl]
  · intro i h1 h2
    simp only [units, List.getElem_map, List.getElem_range]
    rw [sub_cell m n F hl i (by omega)]
    simp [List.getD_eq_getElem?_getD, h2]
/-- a word is its back behind its front -/
theorem word_sub {p : Parts} {m : Nat} (ok : PartsOk m p) {c : Int} (c0 : 0 ≤ c) (c1 : c < p.rr.length) (ks ls : List Int) (hk : ∀ k ∈ ks, 0 ≤ k ∧ k < p.bs.length) :
    wordF p c (1 + m) (units m) (ks ++ ls) = ((wordF p (wordF p c (1 + m) (units m) ks).1 (1 + m) (units m) ls).1, (wordF p (wordF p c (1 + m) (units m) ks).1 (1 + m) (units m) ls).2.map (sub m (wide p ks) (wordF p c (1 + m) (units m) ks).2)) := by
  obtain ⟨w0, w1, w2⟩ := word_ok ok ks c (1 + m) (units m) c0 c1 (by simp [units]) hk
  rw [word_app]
  have := word_lin (p := p) (sub_lin m (wide p ks) (wordF p c (1 + m) (units m) ks).2) (sub_0 _ _ _) (n := wide p ks) ls (wordF p c (1 + m) (units m) ks).1 (1 + m) (units m) (fun i hi => sub_far _ _ _ i hi)
  rw [sub_units m _ _ w2] at this
  exact this
theorem cut_all {xs : List D} {a : Nat} (h : a ≤ xs.length) : cutD xs (some (a : Int)) (some (xs.length : Int)) = xs.drop a := by
  have e : min a xs.length = a := by omega
  have e2 : ¬ ((a : Int) < 0) := by omega
  have e3 : ¬ ((xs.length : Int) < 0) := by omega
  unfold cutD HT.sIx
  simp [e, e2, e3]
  exact List.take_of_length_le (by simp)
theorem vw_at {w i : Nat} {f : Nat → Int} (h : i < w) : (vw w f)[i]? = some (f i) := by simp [vw, h]
/-- the line that is reckoned: the constant, then cell by cell -/
def lineF (F : List (Nat → Int)) (f : Nat → Int) (i : Nat) : Nat → Int := fun j => f 0 * un 0 j + dot (vw i fun t => f (1 + t)) (F.map fun g => g j)
theorem line_0 (F : List (Nat → Int)) (f : Nat → Int) (w : Nat) : vw (w + 1) (lineF F f 0) = f 0 :: List.replicate w 0 := by
  have e : lineF F f 0 = fun j => f 0 * un 0 j := by funext j; simp [lineF, vw, dot_nil_l]
  rw [e]
  apply List.ext_getElem
  · simp [vw]
  · intro i h1 h2
    cases i with
    | zero => simp [vw, un]
    | succ i => simp [vw, un]
theorem line_step (F : List (Nat → Int)) (f : Nat → Int) (i j : Nat) (g : Nat → Int) (h : F[i]? = some g) : lineF F f (i + 1) j = lineF F f i j + f (1 + i) * g j := by
  unfold lineF
  rw [vw_snoc, dot_snoc _ _ _ (g j) (by rw [vw_len]; simp [h])]
  omega
theorem line_end {m n b : Nat} (F : List (Nat → Int)) (f : Nat → Int) (hF : ∀ g ∈ F, ∀ j, 1 + m + n ≤ j → g j = 0) : vw (1 + m + n) (lineF F f m) ++ ((vw (1 + m + b) f).drop (1 + m)) = vw (1 + m + n + b) (sub m n F f) := by
  apply List.ext_getElem
  · simp [vw]
  · intro i h1 h2
    by_cases h : i < 1 + m + n
    · rw [List.getElem_append_left (by simpa [vw] using h)]
      have : ¬ 1 + m + n ≤ i := by omega
      simp [vw, sub, lineF, this]
    · rw [List.getElem_append_right (by simpa [vw] using h)]
      have h3 : 1 + m + n ≤ i := by omega
      have h4 : i ≠ 0 := by omega
      simp [vw, sub, h3]
      rw [dot_zero _ _ (fun x hx => by obtain ⟨g, hg, rfl⟩ := List.mem_map.mp hx; exact hF g hg i h3)]
      have : 1 + m + (i - (1 + m + n)) = i - n := by omega
      simp [un, h4, this]
/-- one kind: the rule's rows -/
theorem cmb_units (m b : Nat) (row : List Int) (hl : row.length = 1 + m + b) : vw (1 + m + b) (cmb row (befo (1 + m) b (units m))) = row := by
  have e : befo (1 + m) b (units m) = (List.range (1 + m + b)).map un := by
    unfold befo units
    apply List.ext_getElem
    · simp; omega
    · intro i h1 h2
      cases i with
      | zero => simp
      | succ i =>
        simp only [List.getElem_cons_succ, List.getElem_map, List.getElem_range]
        by_cases h : i < m
        · rw [List.getElem_append_left (by simpa using h)]; simp; congr 1; omega
        · rw [List.getElem_append_right (by simpa using h)]
          simp
          congr 1
          simp at h1 h2
          omega
  rw [e]
  apply List.ext_getElem
  · simp [vw, hl]
  · intro i h1 h2
    simp [vw] at h1
    simp only [vw, List.getElem_map, List.getElem_range, cmb]
    rw [List.map_map]
    have : ((List.range (1 + m + b)).map ((fun f => f i) ∘ un)) = vw (1 + m + b) fun t => un i t := by
      unfold vw
      refine List.map_congr_left fun t _ => ?_
      show un t i = un i t
      unfold un
      by_cases c : i = t
      · simp [c]
      · have : t ≠ i := fun e => c e.symm
        simp [c, this]
    rw [this]
    have d : ∀ (r v : List Int), dot r v = dot v r := fun r v => by unfold dot; rw [List.zipWith_comm]; simp [Int.mul_comm]
    rw [d]
    exact dot_at i _ row row[i] h1 (by simp [h2])
end PL

set_option Elab.async false
set_option linter.all false
set_option maxRecDepth 100000
set_option maxHeartbeats 4000000
namespace Lw
open PySem L2 PL
open PyProof.Rows (envOfC)
def top (i : Nat) : Stmt := PySem.Challenge.pw_latecomers_k16_whole_differences.main.body.getD i (.Pass ⟨0, 0, 0, 0⟩)
structure Ad where
  C_0 : Addr
  a_law_draw : Addr
  d_law_draw : FuncData
  a_law_rule : Addr
  d_law_rule : FuncData
  a_law_parts : Addr
  d_law_parts : FuncData
  a_law_pool : Addr
  d_law_pool : FuncData
  a_is_integer : Addr
  d_is_integer : FuncData
  a_is_integer_from : Addr
  d_is_integer_from : FuncData
  a_are_burdens : Addr
  d_are_burdens : FuncData
  a_is_list_of : Addr
  d_is_list_of : FuncData
  a_is_index : Addr
  d_is_index : FuncData
  a_is_rule : Addr
  d_is_rule : FuncData
  a_cells_of : Addr
  d_cells_of : FuncData
  a_is_row : Addr
  d_is_row : FuncData
  a_are_rows : Addr
  d_are_rows : FuncData
  a_are_rule_rows : Addr
  d_are_rule_rows : FuncData
  a_are_rules : Addr
  d_are_rules : FuncData
  a_are_shows : Addr
  d_are_shows : FuncData
  a_copied : Addr
  d_copied : FuncData
  a_Listener__init : Addr
  d_Listener__init : FuncData
  a_law_rules_copy : Addr
  d_law_rules_copy : FuncData
  a_law_listener : Addr
  d_law_listener : FuncData
  a_law_number : Addr
  d_law_number : FuncData
  a_is_tuple_of_integers : Addr
  d_is_tuple_of_integers : FuncData
  a_is_stand : Addr
  d_is_stand : FuncData
  a_Listener_cell_count : Addr
  d_Listener_cell_count : FuncData
  a_Listener_control_count : Addr
  d_Listener_control_count : FuncData
  a_Listener_check_stand : Addr
  d_Listener_check_stand : FuncData
  a_is_message : Addr
  d_is_message : FuncData
  a_form_value : Addr
  d_form_value : FuncData
  a_Listener_heard : Addr
  d_Listener_heard : FuncData
  a_Listener_hear_all : Addr
  d_Listener_hear_all : FuncData
  a_law_is_integer : Addr
  d_law_is_integer : FuncData
  a_law_are_numbers : Addr
  d_law_are_numbers : FuncData
  a_law_same_stand : Addr
  d_law_same_stand : FuncData
  a_law_gaps : Addr
  d_law_gaps : FuncData
  a_law : Addr
  d_law : FuncData
def cnA (a : Ad) : Nat → Addr
  | 0 => a.C_0
  | _ => a.C_0
abbrev G (K : PySem.W.Frag) (a : Ad) : PL.Ctx := ⟨K, cnA a, pi4⟩
structure Txt (K : PySem.W.Frag) (mg : Str → Option Value) (a : Ad) : Prop where
  cl_0 : Cls K a.C_0
  mc_0 : mg "Listener" = some (.ref a.C_0)
  mk_0 : Mk K a.C_0 a.a_Listener__init
  na_0_burdens : NoAttr K a.C_0 "burdens"
  na_0_rules : NoAttr K a.C_0 "rules"
  na_0_shows : NoAttr K a.C_0 "shows"
  n_all : mg "all" = none
  n_bool : mg "bool" = none
  n_enumerate : mg "enumerate" = none
  n_int : mg "int" = none
  n_isinstance : mg "isinstance" = none
  n_len : mg "len" = none
  n_list : mg "list" = none
  n_max : mg "max" = none
  n_min : mg "min" = none
  n_range : mg "range" = none
  n_sum : mg "sum" = none
  n_tuple : mg "tuple" = none
  n_zip : mg "zip" = none
  c_MOST_BURDEN : ∃ t, mg "MOST_BURDEN" = some (.int 2 t)
  c_MOST_CELLS : ∃ t, mg "MOST_CELLS" = some (.int 3 t)
  c_MOST_CONTROLS : ∃ t, mg "MOST_CONTROLS" = some (.int 3 t)
  c_MOST_FACTOR : ∃ t, mg "MOST_FACTOR" = some (.int 9 t)
  c_MOST_KINDS : ∃ t, mg "MOST_KINDS" = some (.int 3 t)
  c_MOST_SHOWS : ∃ t, mg "MOST_SHOWS" = some (.int 2 t)
  h_law_draw : Hd K mg "_law_draw" (top 35) ["_law_pool_here", "_law_many"] a.a_law_draw a.d_law_draw
  h_law_rule : Hd K mg "_law_rule" (top 37) ["_law_pool_here", "_law_controls", "_law_cells", "_law_burden", "_law_bound"] a.a_law_rule a.d_law_rule
  h_law_parts : Hd K mg "_law_parts" (top 38) ["_law_pool_here"] a.a_law_parts a.d_law_parts
  h_law_pool : Hd K mg "_law_pool" (top 34) ["_law_script", "_law_place"] a.a_law_pool a.d_law_pool
  h_is_integer : Hd K mg "is_integer" (top 8) ["value"] a.a_is_integer a.d_is_integer
  h_is_integer_from : Hd K mg "is_integer_from" (top 9) ["value", "least", "most"] a.a_is_integer_from a.d_is_integer_from
  h_are_burdens : Hd K mg "are_burdens" (top 26) ["value"] a.a_are_burdens a.d_are_burdens
  h_is_list_of : Hd K mg "is_list_of" (top 11) ["value", "length"] a.a_is_list_of a.d_is_list_of
  h_is_index : Hd K mg "is_index" (top 10) ["value", "length"] a.a_is_index a.d_is_index
  h_is_rule : Hd K mg "is_rule" (top 28) ["controls", "value"] a.a_is_rule a.d_is_rule
  h_cells_of : Hd K mg "cells_of" (top 23) ["rules"] a.a_cells_of a.d_cells_of
  h_is_row : Hd K mg "is_row" (top 32) ["length", "value"] a.a_is_row a.d_is_row
  h_are_rows : Hd K mg "are_rows" (top 31) ["length", "rows"] a.a_are_rows a.d_are_rows
  h_are_rule_rows : Hd K mg "are_rule_rows" (top 29) ["burdens", "cells", "of_control"] a.a_are_rule_rows a.d_are_rule_rows
  h_are_rules : Hd K mg "are_rules" (top 27) ["burdens", "value"] a.a_are_rules a.d_are_rules
  h_are_shows : Hd K mg "are_shows" (top 30) ["controls", "cells", "value"] a.a_are_shows a.d_are_shows
  h_copied : Hd K mg "copied" (top 14) ["rows"] a.a_copied a.d_copied
  h_Listener__init : Hi K "__init__" "Listener.__init__" (inClass (top 22) 0) ["self", "burdens", "rules", "shows"] a.a_Listener__init a.d_Listener__init
  h_law_rules_copy : Hd K mg "_law_rules_copy" (top 39) ["_law_rules"] a.a_law_rules_copy a.d_law_rules_copy
  h_law_listener : Hd K mg "_law_listener" (top 40) ["_law_parts_here"] a.a_law_listener a.d_law_listener
  h_law_number : Hd K mg "_law_number" (top 36) ["_law_pool_here"] a.a_law_number a.d_law_number
  h_is_tuple_of_integers : Hd K mg "is_tuple_of_integers" (top 12) ["value", "length"] a.a_is_tuple_of_integers a.d_is_tuple_of_integers
  h_is_stand : Hd K mg "is_stand" (top 24) ["controls", "cells", "value"] a.a_is_stand a.d_is_stand
  h_Listener_cell_count : Hm K a.C_0 "cell_count" "Listener.cell_count" (inClass (top 22) 6) ["self"] a.a_Listener_cell_count a.d_Listener_cell_count
  h_Listener_control_count : Hm K a.C_0 "control_count" "Listener.control_count" (inClass (top 22) 5) ["self"] a.a_Listener_control_count a.d_Listener_control_count
  h_Listener_check_stand : Hm K a.C_0 "check_stand" "Listener.check_stand" (inClass (top 22) 13) ["self", "stand"] a.a_Listener_check_stand a.d_Listener_check_stand
  h_is_message : Hd K mg "is_message" (top 25) ["burdens", "value"] a.a_is_message a.d_is_message
  h_form_value : Hd K mg "form_value" (top 13) ["form", "vector"] a.a_form_value a.d_form_value
  h_Listener_heard : Hm K a.C_0 "heard" "Listener.heard" (inClass (top 22) 12) ["self", "stand", "message"] a.a_Listener_heard a.d_Listener_heard
  h_Listener_hear_all : Hm K a.C_0 "hear_all" "Listener.hear_all" (inClass (top 22) 9) ["self", "stand", "messages"] a.a_Listener_hear_all a.d_Listener_hear_all
  h_law_is_integer : Hd K mg "_law_is_integer" (top 41) ["_law_value"] a.a_law_is_integer a.d_law_is_integer
  h_law_are_numbers : Hd K mg "_law_are_numbers" (top 42) ["_law_actual", "_law_expected"] a.a_law_are_numbers a.d_law_are_numbers
  h_law_same_stand : Hd K mg "_law_same_stand" (top 43) ["_law_actual", "_law_expected"] a.a_law_same_stand a.d_law_same_stand
  h_law_gaps : Hd K mg "_law_gaps" (top 44) ["_law_listener_here", "_law_one", "_law_other", "_law_messages"] a.a_law_gaps a.d_law_gaps
  h_law : Hd K mg "law" (top 45) ["_law_script"] a.a_law a.d_law
section
variable {P : Program} {w : World} {K : PySem.W.Frag} {mg : Str → Option Value} {base : Heap} {a : Ad}
abbrev s_law_draw : Stmt := (top 35)
abbrev N_law_draw : List Str := ["_law_pool_here", "_law_many", "_law_drawn", "_law_number_here"]
theorem sc_law_draw : FnScope N_law_draw ["_law_pool_here", "_law_many"] (defScope s_law_draw) := ⟨rfl, rfl, rfl, by decide +kernel, rfl, by decide +kernel, by decide +kernel⟩
def b_law_draw : PL.Env → Ws := (sSeq (sIf (testB (bin2 eqD (ixP 0 (kst (.int 3))) (kst (.int 1)))) (sSeq (sSet 2 (bin2 modD (callN intD (consA (ixP 0 (kst (.int 0))) nilA)) (rd 1)))
    (sSeq (sSetPl 0 (kst (.int 0)) (bin2 divD (callN intD (consA (ixP 0 (kst (.int 0))) nilA)) (rd 1)))
    (sRet (rd 2)))) sNx)
    (sSeq (sSetPl 0 (kst (.int 1)) (bin2 addD (ixP 0 (kst (.int 1))) (kst (.int 1))))
    (sSeq (sSet 3 (bin2 modD (bin2 mulD (callN intD (consA (bin2 addD (bin2 addD (ixP 0 (kst (.int 2))) (bin2 mulD (kst (.int 7919)) (ixP 0 (kst (.int 1))))) (kst (.int 1))) nilA)) (kst (.int 48271))) (kst (.int 2147483647))))
    (sSeq (sSet 3 (bin2 modD (bin2 mulD (rd 3) (bin2 addD (bin2 divD (rd 3) (kst (.int 1009))) (kst (.int 69621)))) (kst (.int 2147483647))))
    (sSeq (sSet 3 (bin2 modD (bin2 mulD (rd 3) (bin2 addD (bin2 divD (rd 3) (kst (.int 2003))) (kst (.int 40692)))) (kst (.int 2147483399))))
    (sRet (bin2 modD (bin2 divD (rd 3) (kst (.int 16))) (rd 1))))))))
def m_law_draw : List Sl → W D := mFun 2 N_law_draw.length b_law_draw
theorem ok_law_draw (T : Txt K mg a) : FnOk P w K mg base (L2.CX P w) 1 a.a_law_draw a.d_law_draw ["_law_pool_here", "_law_many"] (PSp (G K a) m_law_draw) :=
  fn_ok (G := G K a) T.h_law_draw.F sc_law_draw fun cdv A outer s H E hr tk =>
  (ess_cons (es_if (eb_cmp (op_eqD hr.units) o_eq (ev_ixP rfl (pv 0) ev_int (fun _ _ => rfl)) ev_int (nomark _)) (ess_cons (es_set (ev_bin op_mod o_mod (ev_callTy call_int1 o_int (by rfl) T.n_int Bt.t_int (ea_cons (ev_ixP rfl (pv 0) ev_int (fun _ _ => rfl)) ea_nil')) (ev_var 1 (pv 1))) (fun _ pt => ps_set (i := 2) sc_law_draw.nd rfl (Or.inl rfl) pt))
    (ess_cons (es_setPl rfl (ev_bin op_divs o_div (ev_callTy call_int1 o_int (by rfl) T.n_int Bt.t_int (ea_cons (ev_ixP rfl (pv 0) ev_int (fun _ _ => rfl)) ea_nil')) (ev_var 1 (pv 1))) ev_int (fun _ _ pk pv_ => ps_asg pv_ (pg_sub (pv 0) pk set_list)))
    (ess_one (es_ret (ev_var 2 (pv 2)))))) ess_nil)
    (ess_cons (es_setPl rfl (ev_bin op_adds o_add (ev_ixP rfl (pv 0) ev_int (fun _ _ => rfl)) ev_int) ev_int (fun _ _ pk pv_ => ps_asg pv_ (pg_sub (pv 0) pk set_list)))
    (ess_cons (es_set (ev_bin op_mod o_mod (ev_bin op_muls o_mul (ev_callTy call_int1 o_int (by rfl) T.n_int Bt.t_int (ea_cons (ev_bin op_adds o_add (ev_bin op_adds o_add (ev_ixP rfl (pv 0) ev_int (fun _ _ => rfl)) (ev_bin op_muls o_mul ev_int (ev_ixP rfl (pv 0) ev_int (fun _ _ => rfl)))) ev_int) ea_nil')) ev_int) ev_int) (fun _ pt => ps_set (i := 3) sc_law_draw.nd rfl (Or.inl rfl) pt))
    (ess_cons (es_set (ev_bin op_mod o_mod (ev_bin op_muls o_mul (ev_var 3 (pv 3)) (ev_bin op_adds o_add (ev_bin op_divs o_div (ev_var 3 (pv 3)) ev_int) ev_int)) ev_int) (fun _ pt => ps_set (i := 3) sc_law_draw.nd rfl (Or.inl rfl) pt))
    (ess_cons (es_set (ev_bin op_mod o_mod (ev_bin op_muls o_mul (ev_var 3 (pv 3)) (ev_bin op_adds o_add (ev_bin op_divs o_div (ev_var 3 (pv 3)) ev_int) ev_int)) ev_int) (fun _ pt => ps_set (i := 3) sc_law_draw.nd rfl (Or.inl rfl) pt))
    (ess_one (es_ret (ev_bin op_mod o_mod (ev_bin op_divs o_div (ev_var 3 (pv 3)) ev_int) (ev_var 1 (pv 1))))))))))
def c_law_draw (as : List Sl) : W D := fun Q _ => ∃ n : Int, as = [.pool, .fz (.int n)] ∧ 0 < n ∧ n < 1073741824 ∧ ∀ r : Int, 0 ≤ r → r < n → Q (.int r)
theorem ref_law_draw (as : List Sl) (Q : D → Prop) (E : Xc → Prop) (h : c_law_draw as Q E) : m_law_draw as Q E := by
  obtain ⟨n, rfl, h0, h1, k⟩ := h
  refine ⟨rfl, ?_⟩
  have c1 : ∀ i, CMul i 48271 := fun i => .inr ⟨by decide, by decide⟩
  have c2 : ∀ i, CMul 7919 i := fun i => .inl ⟨by decide, by decide⟩
  have c3 : ∀ i j : Int, CMul (i % 2147483647) j := fun i j => .inl ⟨by have := drawn i (n := 2147483647) (by decide); omega, by have := drawn i (n := 2147483647) (by decide); omega⟩
  have d0 : ∀ i, CDiv i n := fun i => ⟨h0, h1⟩
  have d1 : ∀ i, CDiv i 1009 := fun i => ⟨by decide, by decide⟩
  have d2 : ∀ i, CDiv i 2003 := fun i => ⟨by decide, by decide⟩
  have d3 : ∀ i, CDiv i 16 := fun i => ⟨by decide, by decide⟩
  simp [b_law_draw, c1, c2, c3, d0, d1, d2, d3, h0]
  intro z
  split
  · intro z
    exact k _ (drawn _ h0).1 (drawn _ h0).2
  · intros
    exact k _ (drawn _ h0).1 (drawn _ h0).2
theorem draw_ok {n : Int} {K : D → Prop} {E : Xc → Prop} (h0 : 0 < n) (h1 : n < 1073741824) (hk : ∀ r : Int, 0 ≤ r → r < n → K (.int r)) : c_law_draw [.pool, .fz (.int n)] K E := ⟨n, rfl, h0, h1, hk⟩

theorem okc_law_draw (T : Txt K mg a) : FnOk P w K mg base (L2.CX P w) 1 a.a_law_draw a.d_law_draw ["_law_pool_here", "_law_many"] (PSp (G K a) c_law_draw) := (ok_law_draw T).imp fun _ _ _ _ h => PSp.mono ref_law_draw h
abbrev s_law_rule : Stmt := (top 37)
abbrev N_law_rule : List Str := ["_law_pool_here", "_law_controls", "_law_cells", "_law_burden", "_law_bound", "_law_target", "_law_style", "_law_chosen", "_law_rows", "_law_cell", "_law_row", "_law_k", "_law_other"]
theorem sc_law_rule : FnScope N_law_rule ["_law_pool_here", "_law_controls", "_law_cells", "_law_burden", "_law_bound"] (defScope s_law_rule) := ⟨rfl, rfl, rfl, by decide +kernel, rfl, by decide +kernel, by decide +kernel⟩
def b_law_rule : PL.Env → Ws := (sSeq (sSet 5 (callF c_law_draw (slC 0 (dC (rd 1) nilC))))
    (sSeq (sSet 6 (callF c_law_draw (slC 0 (dC (kst (.int 5)) nilC))))
    (sSeq (sSet 7 (callF c_law_draw (slC 0 (dC (rd 2) nilC))))
    (sSeq (sSetN 8 (dispN nilA))
    (sSeq (sFor (rng1 (rd 2)) (nameG 9) (sSeq (sSetN 10 (lcN (rng1 (bin2 addD (bin2 addD (kst (.int 1)) (rd 2)) (rd 3))) [11] (nameG 11) yesB (bin2 subD (callF c_law_draw (slC 0 (dC (bin2 addD (bin2 mulD (kst (.int 2)) (rd 4)) (kst (.int 1))) nilC))) (rd 4))))
    (sSeq (sFor (rng1 (rd 2)) (nameG 12) (sSeq (sIf (testB (bin2 eqD (rd 6) (kst (.int 1)))) (sSetIx 10 (bin2 addD (kst (.int 1)) (rd 12)) (callN intD (consA (bin2 eqD (rd 12) (rd 9)) nilA))) sNx)
    (sSeq (sIf (testB (bin2 eqD (rd 6) (kst (.int 2)))) (sSetIx 10 (bin2 addD (kst (.int 1)) (rd 12)) (kst (.int 0))) sNx)
    (sIf (testB (bin2 eqD (rd 6) (kst (.int 3)))) (sSetIx 10 (bin2 addD (kst (.int 1)) (rd 12)) (callN intD (consA (bin2 eqD (rd 12) (bin2 modD (bin2 addD (rd 9) (rd 7)) (rd 2))) nilA))) sNx))))
    (sFrz 10 (sApp 8 (rd 10))))))
    (sFrz 8 (sRet (dispL D.tup (consA (rd 5) (consA (rd 8) nilA))))))))))
def m_law_rule : List Sl → W D := mFun 5 N_law_rule.length b_law_rule
theorem ok_law_rule (T : Txt K mg a) : FnOk P w K mg base (L2.CX P w) 2 a.a_law_rule a.d_law_rule ["_law_pool_here", "_law_controls", "_law_cells", "_law_burden", "_law_bound"] (PSp (G K a) m_law_rule) :=
  fn_ok (G := G K a) T.h_law_rule.F sc_law_rule fun cdv A outer s H E hr tk =>
  (ess_cons (es_set (ev_call (okc_law_draw T) (hr.mono (by decide)) (by rfl) T.h_law_draw.m T.h_law_draw.F.kp T.h_law_draw.b tk (ec_slot (pv 0) (ec_d (ev_var 1 (pv 1)) ec_nil))) (fun _ pt => ps_set (i := 5) sc_law_rule.nd rfl (Or.inl rfl) pt))
    (ess_cons (es_set (ev_call (okc_law_draw T) (hr.mono (by decide)) (by rfl) T.h_law_draw.m T.h_law_draw.F.kp T.h_law_draw.b tk (ec_slot (pv 0) (ec_d ev_int ec_nil))) (fun _ pt => ps_set (i := 6) sc_law_rule.nd rfl (Or.inl rfl) pt))
    (ess_cons (es_set (ev_call (okc_law_draw T) (hr.mono (by decide)) (by rfl) T.h_law_draw.m T.h_law_draw.F.kp T.h_law_draw.b tk (ec_slot (pv 0) (ec_d (ev_var 2 (pv 2)) ec_nil))) (fun _ pt => ps_set (i := 7) sc_law_rule.nd rfl (Or.inl rfl) pt))
    (ess_cons (es_setN (en_lst ea_nil') (fun _ pt => ps_set (i := 8) sc_law_rule.nd rfl (Or.inl rfl) pt))
    (ess_cons (es_for (passes_of rfl) rfl (ei_rng1 (ev_var 2 (pv 2)) (by rfl) T.n_range) (eg_name (pg_name (i := 9) sc_law_rule.nd rfl (by first | exact Or.inl rfl | exact Or.inr rfl))) (ess_cons (es_setLcN (i := 10) (own := [("_law_k", 11)]) rfl sc_law_rule.nd rfl rfl (sw_true rfl rfl rfl (by decide +kernel)) (ei_rng1 (ev_bin op_adds o_add (ev_bin op_adds o_add ev_int (ev_var 2 (pv 2))) (ev_var 3 (pv 3))) (by rfl) T.n_range) (blkOk_by (N := N_law_rule) (sc := (defScope s_law_rule)) (by decide +kernel)) (fun _ _ _ _ _ => (eg_name (pg_name (i := 11) sc_law_rule.nd rfl (by first | exact Or.inl rfl | exact Or.inr rfl)))) (fun _ _ _ _ _ => ets_nil) (fun _ _ _ _ _ => (ev_bin op_sub o_sub (ev_call (okc_law_draw T) (hr.mono (by decide)) (by rfl) T.h_law_draw.m T.h_law_draw.F.kp T.h_law_draw.b takes0 (ec_slot (pv 0) (ec_d (ev_bin op_adds o_add (ev_bin op_muls o_mul ev_int (ev_var 4 (pv 4))) ev_int) ec_nil))) (ev_var 4 (pv 4)))) (by decide))
    (ess_cons (es_for (passes_of rfl) rfl (ei_rng1 (ev_var 2 (pv 2)) (by rfl) T.n_range) (eg_name (pg_name (i := 12) sc_law_rule.nd rfl (by first | exact Or.inl rfl | exact Or.inr rfl))) (ess_cons (es_if (eb_cmp (op_eqD hr.units) o_eq (ev_var 6 (pv 6)) ev_int (nomark _)) (ess_one (es_setIx (ev_callTy call_int1 o_int (by rfl) T.n_int Bt.t_int (ea_cons (ev_cmp (op_eqD hr.units) o_eq (ev_var 12 (pv 12)) (ev_var 9 (pv 9)) (nomark _)) ea_nil')) (ev_bin op_adds o_add ev_int (ev_var 12 (pv 12))) (fun _ _ pk pv_ => ps_asg pv_ (pg_sub (pv 10) pk set_list)))) ess_nil)
    (ess_cons (es_if (eb_cmp (op_eqD hr.units) o_eq (ev_var 6 (pv 6)) ev_int (nomark _)) (ess_one (es_setIx ev_int (ev_bin op_adds o_add ev_int (ev_var 12 (pv 12))) (fun _ _ pk pv_ => ps_asg pv_ (pg_sub (pv 10) pk set_list)))) ess_nil)
    (ess_one (es_if (eb_cmp (op_eqD hr.units) o_eq (ev_var 6 (pv 6)) ev_int (nomark _)) (ess_one (es_setIx (ev_callTy call_int1 o_int (by rfl) T.n_int Bt.t_int (ea_cons (ev_cmp (op_eqD hr.units) o_eq (ev_var 12 (pv 12)) (ev_bin op_mod o_mod (ev_bin op_adds o_add (ev_var 9 (pv 9)) (ev_var 7 (pv 7))) (ev_var 2 (pv 2))) (nomark _)) ea_nil')) (ev_bin op_adds o_add ev_int (ev_var 12 (pv 12))) (fun _ _ pk pv_ => ps_asg pv_ (pg_sub (pv 10) pk set_list)))) ess_nil)))))
    (ess_frz 10 (ess_one (es_app (fun _ pt => ps_expr (pe_bm PySem.F.plainAttrs_list PySem.F.slot_list_append PySem.F.type_list_append mt_append (pv 8) (pa_cons pt pa_nil))) rfl (ev_var 10 (pv 10))))))))
    (ess_frz 8 (ess_one (es_ret (ev_tup (ea_cons (ev_var 5 (pv 5)) (ea_cons (ev_var 8 (pv 8)) ea_nil')))))))))))
def c_law_rule (as : List Sl) : W D := fun Q _ => ∃ (n m b w : Nat), as = [.pool, .fz (.int n), .fz (.int m), .fz (.int b), .fz (.int w)] ∧ 1 ≤ n ∧ n ≤ 3 ∧ 1 ≤ m ∧ m ≤ 3 ∧ b ≤ 2 ∧ 1 ≤ w ∧ w ≤ 9 ∧ ∀ r, RuleOk n m b r → Q (dRule r)
theorem ref_law_rule (as : List Sl) (Q : D → Prop) (E : Xc → Prop) (h : c_law_rule as Q E) : m_law_rule as Q E := by
  obtain ⟨n, m, b, w, rfl, n1, n3, m1, m3, b2, w1, w9, k⟩ := h
  refine ⟨rfl, ?_⟩
  simp [b_law_rule]
  refine draw_ok (by omega) (by omega) fun t t0 t1 => ?_
  try simp
  refine draw_ok (by decide) (by decide) fun st s0 s1 => ?_
  try simp
  refine draw_ok (by omega) (by omega) fun ch c0 c1 => ?_
  try simp
  refine ⟨by omega, ?_⟩
  refine forE_inv (fun i ρ => ∃ (rows : List (List Int)) (a9 a10 a12 : Sl), rows.length = i ∧ (∀ row ∈ rows, RowOk (1 + m + b) row) ∧ a9.own = false ∧ a10.own = false ∧ a12.own = false ∧ ρ = [.pool, .fz (.int n), .fz (.int m), .fz (.int b), .fz (.int w), .fz (.int t), .fz (.int st), .fz (.int ch), .ow (rows.map fun r => dRow r), a9, a10, .un, a12]) (fun i d ρ K hi ⟨rows, a9, a10, a12, h1, h2, h3, h4, h5, e⟩ hk _ _ _ => ?_) (fun ρ ⟨rows, a9, a10, a12, h1, h2, h3, h4, h5, e⟩ => ?_) ⟨[], .un, .un, .un, rfl, by simp, rfl, rfl, rfl, rfl⟩
  · subst e
    obtain ⟨hi, rfl⟩ := rng_at hi
    simp
    have z := sz (n := 6) (by decide)
    refine ⟨⟨by omega, by omega⟩, ⟨rfl, by omega⟩, ?_⟩
    have cw : CMul 2 (w : Int) := .inl ⟨by decide, by decide⟩
    refine lcL_draw _ D.int (fun _ x => -9 ≤ x ∧ x ≤ 9) (fun j _ k' hk' => ?_) fun ys hy hp => ?_
    · simp [wipeE, cw]
      refine draw_ok (by omega) (by omega) fun r r0 r1 => ?_
      try simp
      exact hk' _ ⟨by omega, by omega⟩
    · have hr : RowOk (1 + m + b) ys := ⟨by simp at hy; omega, fun x hx => by
        obtain ⟨j, hj⟩ := List.getElem?_of_mem hx
        have hj2 := (List.getElem?_eq_some_iff.mp hj).1
        exact hp j _ x (List.getElem?_eq_getElem (by omega)) hj⟩
      refine ⟨by omega, ?_⟩
      refine forE_inv (fun _ ρ => ∃ (row : List Int) (a12 : Sl), RowOk (1 + m + b) row ∧ a12.own = false ∧ ρ = [.pool, .fz (.int n), .fz (.int m), .fz (.int b), .fz (.int w), .fz (.int t), .fz (.int st), .fz (.int ch), .ow (rows.map fun r => dRow r), .fz (.int i), .ow (row.map D.int), .un, a12]) (fun j d ρ K hj ⟨row, a12, g1, g2, e⟩ hk' _ _ _ => ?_) (fun ρ ⟨row, a12, g1, g2, e⟩ => ?_) ⟨ys, a12, hr, h5, rfl⟩
      · subst e
        obtain ⟨hj, rfl⟩ := rng_at hj
        have hx : ixN row.length (1 + (j : Int)) = some (1 + j) := by
          have := ixN_nat (n := row.length) (i := 1 + (j : Int)) (by omega) (by rw [g1.len]; omega)
          rw [this]
          congr 1
        have ks : ∀ row', RowOk (1 + m + b) row' → K Fl.nx [.pool, .fz (.int n), .fz (.int m), .fz (.int b), .fz (.int w), .fz (.int t), .fz (.int st), .fz (.int ch), .ow (rows.map fun r => dRow r), .fz (.int i), .ow (row'.map D.int), .un, .fz (.int j)] := fun row' h => hk' _ ⟨row', _, h, rfl, rfl⟩
        have stt : ∀ (r : List Int) (k : Nat) (v : Int), (r.map D.int).set k (D.int v) = (r.set k v).map D.int := fun r k v => by rw [List.map_set]
        by_cases e1 : st = 1
        · subst e1
          simp [hx, stt, -List.map_set]
          refine ks _ (g1.set ?_)
          split <;> omega
        · by_cases e2 : st = 2
          · subst e2
            simp [hx, stt, -List.map_set]
            exact ks _ (g1.set (v := 0) (by omega))
          · by_cases e3 : st = 3
            · subst e3
              simp [hx, stt, -List.map_set]
              refine ⟨by omega, ks _ (g1.set ?_)⟩
              split <;> omega
            · simp [e1, e2, e3]
              exact ks _ g1
      · subst e
        simp
        refine ⟨by omega, hk _ ⟨rows ++ [row], .fz (.int i), .fz (.lst (row.map D.int)), a12, by simp [h1], fun r h => ?_, rfl, rfl, g2, ?_⟩⟩
        · rcases List.mem_append.mp h with h | h
          · exact h2 r h
          · rw [List.mem_singleton.mp h]; exact g1
        · simp [dList]
  · subst e
    simp at h1
    try simp
    exact ⟨sz (by decide), k ⟨t, rows⟩ ⟨t0, t1, h1, h2⟩⟩

theorem okc_law_rule (T : Txt K mg a) : FnOk P w K mg base (L2.CX P w) 2 a.a_law_rule a.d_law_rule ["_law_pool_here", "_law_controls", "_law_cells", "_law_burden", "_law_bound"] (PSp (G K a) c_law_rule) := (ok_law_rule T).imp fun _ _ _ _ h => PSp.mono ref_law_rule h
abbrev s_law_parts : Stmt := (top 38)
abbrev N_law_parts : List Str := ["_law_pool_here", "_law_bound", "_law_kinds", "_law_controls", "_law_cells", "_law_burdens", "_law_kind", "_law_rules", "_law_shows", "_law_control", "_law_burden", "_law_many", "_law_k", "_law_at"]
theorem sc_law_parts : FnScope N_law_parts ["_law_pool_here"] (defScope s_law_parts) := ⟨rfl, rfl, rfl, by decide +kernel, rfl, by decide +kernel, by decide +kernel⟩
def b_law_parts : PL.Env → Ws := (sSeq (sSet 1 (bin2 ixD (dispL D.lst (consA (kst (.int 2)) (consA (kst (.int 2)) (consA (kst (.int 9)) nilA)))) (callF c_law_draw (slC 0 (dC (kst (.int 3)) nilC)))))
    (sSeq (sSet 2 (bin2 addD (kst (.int 1)) (callF c_law_draw (slC 0 (dC (kst (.int 3)) nilC)))))
    (sSeq (sSet 3 (bin2 addD (kst (.int 1)) (callF c_law_draw (slC 0 (dC (kst (.int 3)) nilC)))))
    (sSeq (sSet 4 (bin2 addD (kst (.int 1)) (callF c_law_draw (slC 0 (dC (kst (.int 3)) nilC)))))
    (sSeq (sSet 5 (lstV (lcN (rng1 (rd 2)) [6] (nameG 6) yesB (callF c_law_draw (slC 0 (dC (kst (.int 3)) nilC))))))
    (sSeq (sSetN 7 (dispN nilA))
    (sSeq (sSetN 8 (dispN nilA))
    (sSeq (sFor (rng1 (rd 3)) (nameG 9) (sSeq (sApp 7 (lstV (lcN (lstI (rd 5)) [10] (nameG 10) yesB (callF c_law_rule (slC 0 (dC (rd 3) (dC (rd 4) (dC (rd 10) (dC (rd 1) nilC)))))))))
    (sSeq (sSet 11 (callF c_law_draw (slC 0 (dC (kst (.int 3)) nilC))))
    (sApp 8 (lstV (lcN (rng1 (rd 11)) [13] (nameG 13) yesB (lstV (lcN (rng1 (bin2 addD (kst (.int 1)) (rd 4))) [12] (nameG 12) yesB (bin2 subD (callF c_law_draw (slC 0 (dC (bin2 addD (bin2 mulD (kst (.int 2)) (rd 1)) (kst (.int 1))) nilC))) (rd 1))))))))))
    (sFrz 7 (sFrz 8 (sRet (dispL D.lst (consA (rd 5) (consA (rd 7) (consA (rd 8) nilA)))))))))))))))
def m_law_parts : List Sl → W D := mFun 1 N_law_parts.length b_law_parts
theorem ok_law_parts (T : Txt K mg a) : FnOk P w K mg base (L2.CX P w) 3 a.a_law_parts a.d_law_parts ["_law_pool_here"] (PSp (G K a) m_law_parts) :=
  fn_ok (G := G K a) T.h_law_parts.F sc_law_parts fun cdv A outer s H E hr tk =>
  (ess_cons (es_set (ev_ix (ev_lst (ea_cons ev_int (ea_cons ev_int (ea_cons ev_int ea_nil')))) (ev_call (okc_law_draw T) (hr.mono (by decide)) (by rfl) T.h_law_draw.m T.h_law_draw.F.kp T.h_law_draw.b tk (ec_slot (pv 0) (ec_d ev_int ec_nil))) rfl (fun _ _ => rfl)) (fun _ pt => ps_set (i := 1) sc_law_parts.nd rfl (Or.inr rfl) pt))
    (ess_cons (es_set (ev_bin op_adds o_add ev_int (ev_call (okc_law_draw T) (hr.mono (by decide)) (by rfl) T.h_law_draw.m T.h_law_draw.F.kp T.h_law_draw.b tk (ec_slot (pv 0) (ec_d ev_int ec_nil)))) (fun _ pt => ps_set (i := 2) sc_law_parts.nd rfl (Or.inl rfl) pt))
    (ess_cons (es_set (ev_bin op_adds o_add ev_int (ev_call (okc_law_draw T) (hr.mono (by decide)) (by rfl) T.h_law_draw.m T.h_law_draw.F.kp T.h_law_draw.b tk (ec_slot (pv 0) (ec_d ev_int ec_nil)))) (fun _ pt => ps_set (i := 3) sc_law_parts.nd rfl (Or.inr rfl) pt))
    (ess_cons (es_set (ev_bin op_adds o_add ev_int (ev_call (okc_law_draw T) (hr.mono (by decide)) (by rfl) T.h_law_draw.m T.h_law_draw.F.kp T.h_law_draw.b tk (ec_slot (pv 0) (ec_d ev_int ec_nil)))) (fun _ pt => ps_set (i := 4) sc_law_parts.nd rfl (Or.inr rfl) pt))
    (ess_cons (es_setLc (i := 5) (own := [("_law_kind", 6)]) rfl sc_law_parts.nd rfl rfl (sw_true rfl rfl rfl (by decide +kernel)) (ei_rng1 (ev_var 2 (pv 2)) (by rfl) T.n_range) (blkOk_by (N := N_law_parts) (sc := (defScope s_law_parts)) (by decide +kernel)) (fun _ _ _ _ _ => (eg_name (pg_name (i := 6) sc_law_parts.nd rfl (by first | exact Or.inl rfl | exact Or.inr rfl)))) (fun _ _ _ _ _ => ets_nil) (fun _ _ _ _ _ => (ev_call (okc_law_draw T) (hr.mono (by decide)) (by rfl) T.h_law_draw.m T.h_law_draw.F.kp T.h_law_draw.b takes0 (ec_slot (pv 0) (ec_d ev_int ec_nil)))) (by decide))
    (ess_cons (es_setN (en_lst ea_nil') (fun _ pt => ps_set (i := 7) sc_law_parts.nd rfl (Or.inl rfl) pt))
    (ess_cons (es_setN (en_lst ea_nil') (fun _ pt => ps_set (i := 8) sc_law_parts.nd rfl (Or.inl rfl) pt))
    (ess_cons (es_for (passes_of rfl) rfl (ei_rng1 (ev_var 3 (pv 3)) (by rfl) T.n_range) (eg_name (pg_name (i := 9) sc_law_parts.nd rfl (by first | exact Or.inl rfl | exact Or.inr rfl))) (ess_cons (es_app (fun _ pt => ps_expr (pe_bm PySem.F.plainAttrs_list PySem.F.slot_list_append PySem.F.type_list_append mt_append (pv 7) (pa_cons pt pa_nil))) rfl (En.ev (en_lc (own := [("_law_burden", 10)]) rfl sc_law_parts.nd (ei_list (ev_var 5 (pv 5)) rfl) (blkOk_by (N := N_law_parts) (sc := (defScope s_law_parts)) (by decide +kernel)) (fun _ _ _ _ _ => (eg_name (pg_name (i := 10) sc_law_parts.nd rfl (by first | exact Or.inl rfl | exact Or.inr rfl)))) (fun _ _ _ _ _ => ets_nil) (fun _ _ _ _ _ => (ev_call (okc_law_rule T) (hr.mono (by decide)) (by rfl) T.h_law_rule.m T.h_law_rule.F.kp T.h_law_rule.b takes0 (ec_slot (pv 0) (ec_d (ev_var 3 (pv 3)) (ec_d (ev_var 4 (pv 4)) (ec_d (ev_var 10 (pv 10)) (ec_d (ev_var 1 (pv 1)) ec_nil))))))) (by decide))))
    (ess_cons (es_set (ev_call (okc_law_draw T) (hr.mono (by decide)) (by rfl) T.h_law_draw.m T.h_law_draw.F.kp T.h_law_draw.b tk (ec_slot (pv 0) (ec_d ev_int ec_nil))) (fun _ pt => ps_set (i := 11) sc_law_parts.nd rfl (Or.inl rfl) pt))
    (ess_one (es_app (fun _ pt => ps_expr (pe_bm PySem.F.plainAttrs_list PySem.F.slot_list_append PySem.F.type_list_append mt_append (pv 8) (pa_cons pt pa_nil))) rfl (En.ev (en_lc (own := [("_law_at", 13)]) rfl sc_law_parts.nd (ei_rng1 (ev_var 11 (pv 11)) (by rfl) T.n_range) (blkOk_by (N := N_law_parts) (sc := (defScope s_law_parts)) (by decide +kernel)) (fun _ _ _ _ _ => (eg_name (pg_name (i := 13) sc_law_parts.nd rfl (by first | exact Or.inl rfl | exact Or.inr rfl)))) (fun _ _ _ _ _ => ets_nil) (fun _ _ _ _ _ => (En.ev (en_lc (own := [("_law_k", 12)]) rfl sc_law_parts.nd (ei_rng1 (ev_bin op_adds o_add ev_int (ev_var 4 (pv 4))) (by rfl) T.n_range) (blkOk_by (N := N_law_parts) (sc := (relS _ (defScope s_law_parts))) (by decide +kernel)) (fun _ _ _ _ _ => (eg_name (pg_name (i := 12) sc_law_parts.nd rfl (by first | exact Or.inl rfl | exact Or.inr rfl)))) (fun _ _ _ _ _ => ets_nil) (fun _ _ _ _ _ => (ev_bin op_sub o_sub (ev_call (okc_law_draw T) (hr.mono (by decide)) (by rfl) T.h_law_draw.m T.h_law_draw.F.kp T.h_law_draw.b takes0 (ec_slot (pv 0) (ec_d (ev_bin op_adds o_add (ev_bin op_muls o_mul ev_int (ev_var 1 (pv 1))) ev_int) ec_nil))) (ev_var 1 (pv 1)))) (by decide)))) (by decide))))))))
    (ess_frz 7 (ess_frz 8 (ess_one (es_ret (ev_lst (ea_cons (ev_var 5 (pv 5)) (ea_cons (ev_var 7 (pv 7)) (ea_cons (ev_var 8 (pv 8)) ea_nil'))))))))))))))))
def c_law_parts (as : List Sl) : W D := fun Q _ => as = [.pool] ∧ ∀ (p : Parts) (m : Nat), PartsOk m p → Q (dParts p)
theorem ref_law_parts (as : List Sl) (Q : D → Prop) (E : Xc → Prop) (h : c_law_parts as Q E) : m_law_parts as Q E := by
  obtain ⟨rfl, k⟩ := h
  refine ⟨rfl, ?_⟩
  simp [b_law_parts]
  refine ⟨sz (by decide), draw_ok (by decide) (by decide) fun a a0 a1 => ?_⟩
  obtain ⟨w, w1, w9, ha⟩ : ∃ w : Nat, 1 ≤ w ∧ w ≤ 9 ∧ atI [D.int 2, D.int 2, D.int 9] a = some (.int w) := by
    have : a = 0 ∨ a = 1 ∨ a = 2 := by omega
    rcases this with rfl | rfl | rfl
    · exact ⟨2, by decide, by decide, rfl⟩
    · exact ⟨2, by decide, by decide, rfl⟩
    · exact ⟨9, by decide, by decide, rfl⟩
  refine ⟨_, ha, ?_⟩
  try simp
  refine draw_ok (by decide) (by decide) fun c c0 c1 => ?_
  try simp
  refine draw_ok (by decide) (by decide) fun n n0 n1 => ?_
  try simp
  refine draw_ok (by decide) (by decide) fun m m0 m1 => ?_
  obtain ⟨c, rfl⟩ := Int.eq_ofNat_of_zero_le c0
  obtain ⟨n, rfl⟩ := Int.eq_ofNat_of_zero_le n0
  obtain ⟨m, rfl⟩ := Int.eq_ofNat_of_zero_le m0
  try simp
  have z := sz (n := 60) (by decide)
  refine ⟨⟨by omega, by omega⟩, ⟨rfl, by omega⟩, ?_⟩
  refine lcL_draw _ D.int (fun _ x => 0 ≤ x ∧ x ≤ 2) (fun j _ k' hk' => ?_) fun bs hy hp => ?_
  · simp [wipeE]
    exact draw_ok (by decide) (by decide) fun r r0 r1 => hk' _ ⟨by omega, by omega⟩
  have hb : ∀ x ∈ bs, 0 ≤ x ∧ x ≤ 2 := fun x hx => by
    obtain ⟨j, hj⟩ := List.getElem?_of_mem hx
    have hj2 := (List.getElem?_eq_some_iff.mp hj).1
    exact hp j _ x (List.getElem?_eq_getElem (by omega)) hj
  have hl : bs.length = 1 + c := by simp at hy; omega
  refine ⟨⟨by omega, by omega⟩, ?_⟩
  have er : (1 + (n : Int)).toNat = 1 + n := by omega
  rw [er]
  refine forE_inv (fun i ρ => ∃ (rr : List (List Rule)) (ss : List (List (List Int))) (a9 a11 : Sl), rr.length = i ∧ ss.length = i ∧ (∀ l ∈ rr, LineOk (1 + n) (1 + m) bs l) ∧ (∀ rows ∈ ss, rows.length ≤ 2 ∧ ∀ row ∈ rows, RowOk (1 + (1 + m)) row) ∧ a9.own = false ∧ a11.own = false ∧ ρ = [.pool, .fz (.int w), .fz (.int (1 + c)), .fz (.int (1 + n)), .fz (.int (1 + m)), .fz (dRow bs), .un, .ow (rr.map fun l => dLine l), .ow (ss.map fun rs => dRows rs), a9, .un, a11, .un, .un]) (fun i d ρ K hi ⟨rr, ss, a9, a11, h1, h2, h3, h4, h5, h6, e⟩ hk _ _ _ => ?_) (fun ρ ⟨rr, ss, a9, a11, h1, h2, h3, h4, h5, h6, e⟩ => ?_) ⟨[], [], .un, .un, rfl, rfl, by simp, by simp, rfl, rfl, rfl⟩
  · subst e
    obtain ⟨hi, rfl⟩ := rng_at hi
    simp
    refine ⟨by omega, ⟨rfl, by omega⟩, ?_⟩
    refine lcL_draw _ dRule (fun b r => RuleOk (1 + n) (1 + m) b.toNat r) (fun b hbm k' hk' => ?_) fun rs ry rp => ?_
    · simp [wipeE]
      have := hb b hbm
      exact ⟨1 + n, 1 + m, b.toNat, w, by simp [Int.toNat_of_nonneg (hb b hbm).1], by omega, by omega, by omega, by omega, by omega, w1, w9, hk'⟩
    have hline : LineOk (1 + n) (1 + m) bs rs := ⟨ry, fun j r b e1 e2 => rp j b r e2 e1⟩
    refine draw_ok (by decide) (by decide) fun q q0 q1 => ?_
    obtain ⟨q, rfl⟩ := Int.eq_ofNat_of_zero_le q0
    try simp
    refine ⟨by omega, by omega, ⟨rfl, by omega⟩, ?_⟩
    refine lcL_draw _ (fun r => dRow r) (fun _ row => RowOk (1 + (1 + m)) row) (fun _ _ k' hk' => ?_) fun rows sy sp => ?_
    · have cw : CMul 2 (w : Int) := .inl ⟨by decide, by decide⟩
      simp [wipeE]
      refine ⟨⟨by omega, by omega⟩, ⟨rfl, by omega⟩, ?_⟩
      refine lcL_draw _ D.int (fun _ x => -9 ≤ x ∧ x ≤ 9) (fun j _ k' hk' => ?_) fun ys hy hp => ?_
      · simp [wipeE, cw]
        refine draw_ok (by omega) (by omega) fun r r0 r1 => ?_
        try simp
        exact hk' _ ⟨by omega, by omega⟩
      · exact hk' ys ⟨by simp at hy; omega, fun x hx => by
          obtain ⟨j, hj⟩ := List.getElem?_of_mem hx
          have hj2 := (List.getElem?_eq_some_iff.mp hj).1
          exact hp j _ x (List.getElem?_eq_getElem (by omega)) hj⟩
    · have hrows : ∀ row ∈ rows, RowOk (1 + (1 + m)) row := fun x hx => by
        obtain ⟨j, hj⟩ := List.getElem?_of_mem hx
        have hj2 := (List.getElem?_eq_some_iff.mp hj).1
        exact sp j _ x (List.getElem?_eq_getElem (by omega)) hj
      refine hk _ ⟨rr ++ [rs], ss ++ [rows], .fz (.int i), .fz (.int q), by simp [h1], by simp [h2], fun l h => ?_, fun l h => ?_, rfl, rfl, ?_⟩
      · rcases List.mem_append.mp h with h | h
        · exact h3 l h
        · rw [List.mem_singleton.mp h]; exact hline
      · rcases List.mem_append.mp h with h | h
        · exact h4 l h
        · rw [List.mem_singleton.mp h]; exact ⟨by simp at sy; omega, hrows⟩
      · simp [dList]
  · subst e
    simp at h1 h2
    simp
    refine ⟨sz (by decide), k ⟨bs, rr, ss⟩ (1 + m) ⟨by simp; omega, by simp; omega, hb, by simp; omega, by simp; omega, by omega, by omega, ?_, by simp; omega, h4⟩⟩
    show ∀ l ∈ rr, LineOk rr.length (1 + m) bs l
    rw [h1]
    exact h3

theorem okc_law_parts (T : Txt K mg a) : FnOk P w K mg base (L2.CX P w) 3 a.a_law_parts a.d_law_parts ["_law_pool_here"] (PSp (G K a) c_law_parts) := (ok_law_parts T).imp fun _ _ _ _ h => PSp.mono ref_law_parts h
abbrev s_law_pool : Stmt := (top 34)
theorem sc_law_pool : FnScope ["_law_script", "_law_place", "_law_cell"] ["_law_script", "_law_place"] (defScope s_law_pool) := ⟨rfl, rfl, rfl, by decide +kernel, rfl, by decide +kernel, by decide +kernel⟩
/-- a pool of a place of the script -/
def c_law_pool (as : List Sl) : W Unit := fun Q _ => ∃ (ns : List Int) (k : Int), as = [.scr ns, .fz (.int k)] ∧ 0 ≤ k ∧ Q ()
theorem okc_law_pool (T : Txt K mg a) : FnOk P w K mg base (L2.CX P w) 1 a.a_law_pool a.d_law_pool ["_law_script", "_law_place"] (PSpP (G K a) c_law_pool) := by
  refine T.h_law_pool.F.okX sc_law_pool (fun vs H Q E h => ?_) (fun cdv A outer s H vs Q E hr h => ?_)
  · obtain ⟨Hf, as, Q', E', _, A, ⟨ns, k, rfl, _⟩, _⟩ := h
    rw [A.length]; rfl
  · obtain ⟨Hf, as, Q', E', sm, A, ⟨ns, k, rfl, hk, q⟩, kk, kx⟩ := h
    cases A with
    | cons a1 t =>
    cases t with
    | cons a2 t =>
    cases t
    obtain ⟨p, rfl, hS⟩ := a1
    rename_i v
    have a2 : Rp (cnA _) Hf v (.int k) := a2
    cases a2
    have hS : SqL K H p (ns.map V.int) := sm.seq hS
    refine ⟨_, pss_cons (ps_set (i := 2) sc_law_pool.nd rfl (Or.inl rfl) pe_int)
      (pss_cons (ps_if (pt_cmpR op_lt (pv 1) (pe_callB call_len_seq (by rfl) T.n_len PySem.boot_len (pa_cons (pv 0) pa_nil)) (nomark _)) (pss_one (ps_set (i := 2) sc_law_pool.nd rfl (Or.inl rfl) (pe_ix ix_list (pv 0) (pv 1) (fun _ _ => rfl)))) pss_nil)
      (pss_cons (ps_if (pt_cmpR op_ge (pv 2) (pe_op op_pow pe_int pe_int) (nomark _)) (pss_one (ps_ret (pe_lst (pa_cons (pe_op op_sub (pv 2) (pe_op op_pow pe_int pe_int)) (pa_cons pe_int (pa_cons pe_int (pa_cons pe_int pa_nil))))))) pss_nil)
      (pss_one (ps_ret (pe_lst (pa_cons pe_int (pa_cons pe_int (pa_cons (pe_op op_mod (pe_callTy call_int1 (by rfl) T.n_int Bt.t_int (pa_cons (pe_op op_add (pv 2) (pe_op op_mul pe_int (pv 1))) pa_nil)) pe_int) (pa_cons pe_int pa_nil))))))))), ?_⟩
    have fin : ∀ (x y z u : Int) (l : Addr), H l = none → Q (.ref l) (upd H l (.lst [.int x, .int y, .int z, .int u])) := fun x y z u l hl =>
      kk l Hf _ ⟨⟨Same.refl _, fun b o e n => ⟨n, o, Same.new hl _ _ e, fun _ => rfl⟩⟩, sm.trans (Same.new hl), fun b ⟨i, e1, e2⟩ => by
        match i, e1 with
        | 0, e1 => simp at e1
        | 1, e1 => simp at e1
        | i + 2, e1 => simp at e1⟩ hl (sm.free hl) ⟨_, upd_same, x, y, z, u, rfl⟩ q
    have h18 : CPow 10 18 := ⟨by decide, by decide, by decide⟩
    -- behind the first test
    have rest : ∀ c : Int, (∃ i j : Int, V.int c = .int i ∧ V.int (10 ^ 18) = .int j ∧ ∃ k : Bool, V.bl (decide (j ≤ i)) = .bl k ∧ if k = true then Q (.ref 0) H else Q (.ref 0) H) → True := fun _ _ => trivial
    refine ⟨_, rfl, _, rfl, p, _, rfl, .inl hS, _, _, rfl, rfl, _, rfl, ?_⟩
    have tail : ∀ c : Int, tSeq (tIfS (tTest (tOp (rI0 fun i j => .bl (decide (j ≤ i))) (tVar 2) (tOp (rI CPow fun i j => .int (i ^ j.toNat)) (tC (.int 10)) (tC (.int 18)))))
        (tRet (tLst (tCons (tOp (rI0 fun i j => .int (i - j)) (tVar 2) (tOp (rI CPow fun i j => .int (i ^ j.toNat)) (tC (.int 10)) (tC (.int 18)))) (tCons (tC (.int 0)) (tCons (tC (.int 0)) (tCons (tC (.int 1)) tNil)))))) tNext)
        (tRet (tLst (tCons (tC (.int 0)) (tCons (tC (.int 0)) (tCons (tOp (rI (fun _ j => 0 < j) fun i j => .int (i % j)) (tCB (fun xs H Q => (∃ i, xs = [.int i] ∧ Q (.int i) H) ∨ ∃ k, xs = [.bl k] ∧ Q (.int (if k then 1 else 0)) H) (tCons (tOp (rI0 fun i j => .int (i + j)) (tVar 2) (tOp (rI CMul fun i j => .int (i * j)) (tC (.int 104729)) (tVar 1))) tNil)) (tC (.int 2147483647))) (tCons (tC (.int 0)) tNil))))))
        { nx := fun _ H' => Q .non H', rt := Q } [some (.ref p), some (.int k), some (.int c)] H := by
      intro c
      refine ⟨_, rfl, 10, 18, rfl, rfl, h18, _, _, rfl, rfl, _, rfl, ?_⟩
      refine ite2 (fun _ => ?_) (fun _ => ?_)
      · exact ⟨_, rfl, 10, 18, rfl, rfl, h18, _, _, rfl, rfl, (by show 4 ≤ sizeLine; decide), fun l hl => fin _ _ _ _ l hl⟩
      · exact ⟨_, rfl, _, rfl, 104729, k, rfl, rfl, .inl ⟨by decide, by decide⟩, _, _, rfl, rfl, .inl ⟨_, rfl, _, _, rfl, rfl, (by show (0 : Int) < 2147483647; decide), (by show 4 ≤ sizeLine; decide), fun l hl => fin _ _ _ _ l hl⟩⟩
    refine ite2 (fun hlt => ?_) (fun _ => ?_)
    · have hlt' : k < ((ns.map V.int).length : Int) := by simpa using hlt
      rw [List.length_map] at hlt'
      obtain ⟨z, hz⟩ : ∃ z, ns[k.toNat]? = some z := ⟨ns[k.toNat]'(by omega), List.getElem?_eq_getElem (by omega)⟩
      refine ⟨_, rfl, _, rfl, p, _, k, .int z, rfl, rfl, hS, ?_, tail z⟩
      have : atI (ns.map V.int) (k.toNat : Int) = some (.int z) := atI_nat (by rw [List.getElem?_map, hz]; rfl)
      rw [Int.toNat_of_nonneg hk] at this
      exact this
    · exact tail 0

abbrev s_is_integer : Stmt := (top 8)
abbrev N_is_integer : List Str := ["value"]
theorem sc_is_integer : FnScope N_is_integer ["value"] (defScope s_is_integer) := ⟨rfl, rfl, rfl, by decide +kernel, rfl, by decide +kernel, by decide +kernel⟩
def b_is_integer : PL.Env → Ws := (sRet (andV (un1 (isiD "int") (rd 0)) (notV (un1 (isiD "bool") (rd 0)))))
def m_is_integer : List Sl → W D := mFun 1 N_is_integer.length b_is_integer
theorem ok_is_integer (T : Txt K mg a) : FnOk P w K mg base (L2.CX P w) 1 a.a_is_integer a.d_is_integer ["value"] (PSp (G K a) m_is_integer) :=
  fn_ok (G := G K a) T.h_is_integer.F sc_is_integer fun cdv A outer s H E hr tk =>
  (ess_one (es_ret (ev_and (ev_isi (T := "int") (pe_bltn (by rfl) T.n_int Bt.t_int rfl) (ev_var 0 (pv 0)) rfl (by rfl) T.n_isinstance) (ev_one (ev_not (ev_isi (T := "bool") (pe_bltn (by rfl) T.n_bool Bt.t_bool rfl) (ev_var 0 (pv 0)) rfl (by rfl) T.n_isinstance))))))
def c_is_integer : List Sl → W D
  | [.fz (.int i)] => W.pure (.bl true)
  | _ => W.fail
@[simp] theorem c_is_integer_app {i : Int} {Q : D → Prop} {E : Xc → Prop} : c_is_integer [.fz (.int i)] Q E = Q (.bl true) := rfl
theorem ref_is_integer (as : List Sl) (Q : D → Prop) (E : Xc → Prop) (h : c_is_integer as Q E) : m_is_integer as Q E := by
  unfold c_is_integer at h
  split at h
  · have h : Q (.bl true) := h
    exact ⟨rfl, by simpa [b_is_integer] using h⟩
  · exact h.elim

theorem okc_is_integer (T : Txt K mg a) : FnOk P w K mg base (L2.CX P w) 1 a.a_is_integer a.d_is_integer ["value"] (PSp (G K a) c_is_integer) := (ok_is_integer T).imp fun _ _ _ _ h => PSp.mono ref_is_integer h
abbrev s_is_integer_from : Stmt := (top 9)
abbrev N_is_integer_from : List Str := ["value", "least", "most"]
theorem sc_is_integer_from : FnScope N_is_integer_from ["value", "least", "most"] (defScope s_is_integer_from) := ⟨rfl, rfl, rfl, by decide +kernel, rfl, by decide +kernel, by decide +kernel⟩
def b_is_integer_from : PL.Env → Ws := (sRet (andV (callF c_is_integer (dC (rd 0) nilC)) (chain2 leD leD (rd 1) (rd 0) (rd 2))))
def m_is_integer_from : List Sl → W D := mFun 3 N_is_integer_from.length b_is_integer_from
theorem ok_is_integer_from (T : Txt K mg a) : FnOk P w K mg base (L2.CX P w) 2 a.a_is_integer_from a.d_is_integer_from ["value", "least", "most"] (PSp (G K a) m_is_integer_from) :=
  fn_ok (G := G K a) T.h_is_integer_from.F sc_is_integer_from fun cdv A outer s H E hr tk =>
  (ess_one (es_ret (ev_and (ev_call (okc_is_integer T) (hr.mono (by decide)) (by rfl) T.h_is_integer.m T.h_is_integer.F.kp T.h_is_integer.b tk (ec_d (ev_var 0 (pv 0)) ec_nil)) (ev_one (ev_chain op_le op_le (o_cmp (f := fun i j => decide (i ≤ j))) (o_cmp (f := fun i j => decide (i ≤ j))) (ev_var 1 (pv 1)) (ev_var 0 (pv 0)) (ev_var 2 (pv 2)))))))
def c_is_integer_from : List Sl → W D
  | [.fz (.int i), .fz (.int a), .fz (.int b)] => W.pure (.bl (decide (a ≤ i ∧ i ≤ b)))
  | _ => W.fail
@[simp] theorem c_is_integer_from_app {i a b : Int} {Q : D → Prop} {E : Xc → Prop} : c_is_integer_from [.fz (.int i), .fz (.int a), .fz (.int b)] Q E = Q (.bl (decide (a ≤ i ∧ i ≤ b))) := rfl
theorem ref_is_integer_from (as : List Sl) (Q : D → Prop) (E : Xc → Prop) (h : c_is_integer_from as Q E) : m_is_integer_from as Q E := by
  unfold c_is_integer_from at h
  split at h
  · rename_i i a b
    refine ⟨rfl, ?_⟩
    have k : Q (.bl (decide (a ≤ i ∧ i ≤ b))) := h
    simp [b_is_integer_from]
    by_cases h1 : a ≤ i
    · simpa [h1] using k
    · simpa [h1] using k
  · exact h.elim

theorem okc_is_integer_from (T : Txt K mg a) : FnOk P w K mg base (L2.CX P w) 2 a.a_is_integer_from a.d_is_integer_from ["value", "least", "most"] (PSp (G K a) c_is_integer_from) := (ok_is_integer_from T).imp fun _ _ _ _ h => PSp.mono ref_is_integer_from h
abbrev s_are_burdens : Stmt := (top 26)
abbrev N_are_burdens : List Str := ["value", "burden"]
theorem sc_are_burdens : FnScope N_are_burdens ["value"] (defScope s_are_burdens) := ⟨rfl, rfl, rfl, by decide +kernel, rfl, by decide +kernel, by decide +kernel⟩
def b_are_burdens : PL.Env → Ws := (sSeq (sIf (orB (notB (testB (un1 (isiD "list") (rd 0)))) (notB (testB (chain2 leD leD (kst (.int 1)) (callN lenD (consA (rd 0) nilA)) (kst (.int 3)))))) (sRet (kst (.bl false))) sNx)
    (sRet (callN (allD fun bs => bs.all id) (consA (lstV (lcN (lstI (rd 0)) [1] (nameG 1) yesB (callF c_is_integer_from (dC (rd 1) (dC (kst (.int 0)) (dC (kst (.int 2)) nilC)))))) nilA))))
def m_are_burdens : List Sl → W D := mFun 1 N_are_burdens.length b_are_burdens
theorem ok_are_burdens (T : Txt K mg a) : FnOk P w K mg base (L2.CX P w) 3 a.a_are_burdens a.d_are_burdens ["value"] (PSp (G K a) m_are_burdens) :=
  fn_ok (G := G K a) T.h_are_burdens.F sc_are_burdens fun cdv A outer s H E hr tk =>
  (ess_cons (es_if (eb_w (ew_or (eb_not (eb_val (ev_isi (T := "list") (pe_bltn (by rfl) T.n_list Bt.t_list rfl) (ev_var 0 (pv 0)) rfl (by rfl) T.n_isinstance))) (ew_or1 (eb_not (eb_chain op_le op_le (o_cmp (f := fun i j => decide (i ≤ j))) (o_cmp (f := fun i j => decide (i ≤ j))) ev_int (ev_callB call_len_seq o_len (by rfl) T.n_len PySem.boot_len (ea_cons (ev_var 0 (pv 0)) ea_nil')) (ev_globI' (by rfl) T.c_MOST_KINDS)))))) (ess_one (es_ret ev_bl)) ess_nil)
    (ess_one (es_ret (ev_callB (cr_all rfl) o_all (by rfl) T.n_all Bt.all (ea_cons (En.ev (en_lc (own := [("burden", 1)]) rfl sc_are_burdens.nd (ei_list (ev_var 0 (pv 0)) rfl) (blkOk_by (N := N_are_burdens) (sc := (defScope s_are_burdens)) (by decide +kernel)) (fun _ _ _ _ _ => (eg_name (pg_name (i := 1) sc_are_burdens.nd rfl (by first | exact Or.inl rfl | exact Or.inr rfl)))) (fun _ _ _ _ _ => ets_nil) (fun _ _ _ _ _ => (ev_call (okc_is_integer_from T) (hr.mono (by decide)) (by rfl) T.h_is_integer_from.m T.h_is_integer_from.F.kp T.h_is_integer_from.b takes0 (ec_d (ev_var 1 (pv 1)) (ec_d ev_int (ec_d (ev_globI' (by rfl) T.c_MOST_BURDEN) ec_nil))))) (by decide))) ea_nil')))))
def c_are_burdens (as : List Sl) : W D := fun Q _ => ∃ bs : List Int, as = [.fz (dRow bs)] ∧ 1 ≤ bs.length ∧ bs.length ≤ 3 ∧ (∀ b ∈ bs, 0 ≤ b ∧ b ≤ 2) ∧ Q (.bl true)
theorem ref_are_burdens (as : List Sl) (Q : D → Prop) (E : Xc → Prop) (h : c_are_burdens as Q E) : m_are_burdens as Q E := by
  obtain ⟨bs, rfl, h1, h2, h3, k⟩ := h
  refine ⟨rfl, ?_⟩
  have e1 : (1 : Int) ≤ bs.length := by omega
  have e2 : (bs.length : Int) ≤ 3 := by omega
  simp [b_are_burdens, e1, e2]
  refine ⟨⟨rfl, sz (by first | omega | (simp; omega))⟩, ?_⟩
  refine lcL_map (fun _ => .bl true) (fun x hx k hk => ?_) (allD_true k)
  obtain ⟨h1, h2⟩ := h3 x hx
  simpa [wipeE, h1, h2] using hk

theorem okc_are_burdens (T : Txt K mg a) : FnOk P w K mg base (L2.CX P w) 3 a.a_are_burdens a.d_are_burdens ["value"] (PSp (G K a) c_are_burdens) := (ok_are_burdens T).imp fun _ _ _ _ h => PSp.mono ref_are_burdens h
abbrev s_is_list_of : Stmt := (top 11)
abbrev N_is_list_of : List Str := ["value", "length"]
theorem sc_is_list_of : FnScope N_is_list_of ["value", "length"] (defScope s_is_list_of) := ⟨rfl, rfl, rfl, by decide +kernel, rfl, by decide +kernel, by decide +kernel⟩
def b_is_list_of : PL.Env → Ws := (sRet (andV (un1 (isiD "list") (rd 0)) (bin2 eqD (callN lenD (consA (rd 0) nilA)) (rd 1))))
def m_is_list_of : List Sl → W D := mFun 2 N_is_list_of.length b_is_list_of
theorem ok_is_list_of (T : Txt K mg a) : FnOk P w K mg base (L2.CX P w) 1 a.a_is_list_of a.d_is_list_of ["value", "length"] (PSp (G K a) m_is_list_of) :=
  fn_ok (G := G K a) T.h_is_list_of.F sc_is_list_of fun cdv A outer s H E hr tk =>
  (ess_one (es_ret (ev_and (ev_isi (T := "list") (pe_bltn (by rfl) T.n_list Bt.t_list rfl) (ev_var 0 (pv 0)) rfl (by rfl) T.n_isinstance) (ev_one (ev_cmp (op_eqD hr.units) o_eq (ev_callB call_len_seq o_len (by rfl) T.n_len PySem.boot_len (ea_cons (ev_var 0 (pv 0)) ea_nil')) (ev_var 1 (pv 1)) (nomark _))))))
def c_is_list_of (as : List Sl) : W D := fun Q _ => ∃ (xs : List D) (n : Int), as = [.fz (.lst xs), .fz (.int n)] ∧ Q (.bl (decide ((xs.length : Int) = n)))
@[simp] theorem c_is_list_of_d {α : Type} {f : α → D} {xs : List α} {n : Int} {Q : D → Prop} {E : Xc → Prop} : c_is_list_of [.fz (dList f xs), .fz (.int n)] Q E = Q (.bl (decide ((xs.length : Int) = n))) := propext ⟨fun ⟨ys, m, e, q⟩ => by
  simp only [dList, List.cons.injEq, Sl.fz.injEq, D.lst.injEq, D.int.injEq, and_true] at e
  obtain ⟨rfl, rfl⟩ := e
  simpa using q, fun q => ⟨_, _, rfl, by simpa using q⟩⟩
theorem ref_is_list_of (as : List Sl) (Q : D → Prop) (E : Xc → Prop) (h : c_is_list_of as Q E) : m_is_list_of as Q E := by
  obtain ⟨xs, n, rfl, k⟩ := h
  refine ⟨rfl, ?_⟩
  have e : ((xs.length : Int) == n) = decide ((xs.length : Int) = n) := by rw [Bool.beq_eq_decide_eq]
  simp [b_is_list_of, e]
  exact k

theorem okc_is_list_of (T : Txt K mg a) : FnOk P w K mg base (L2.CX P w) 1 a.a_is_list_of a.d_is_list_of ["value", "length"] (PSp (G K a) c_is_list_of) := (ok_is_list_of T).imp fun _ _ _ _ h => PSp.mono ref_is_list_of h
abbrev s_is_index : Stmt := (top 10)
abbrev N_is_index : List Str := ["value", "length"]
theorem sc_is_index : FnScope N_is_index ["value", "length"] (defScope s_is_index) := ⟨rfl, rfl, rfl, by decide +kernel, rfl, by decide +kernel, by decide +kernel⟩
def b_is_index : PL.Env → Ws := (sRet (callF c_is_integer_from (dC (rd 0) (dC (kst (.int 0)) (dC (bin2 subD (rd 1) (kst (.int 1))) nilC)))))
def m_is_index : List Sl → W D := mFun 2 N_is_index.length b_is_index
theorem ok_is_index (T : Txt K mg a) : FnOk P w K mg base (L2.CX P w) 3 a.a_is_index a.d_is_index ["value", "length"] (PSp (G K a) m_is_index) :=
  fn_ok (G := G K a) T.h_is_index.F sc_is_index fun cdv A outer s H E hr tk =>
  (ess_one (es_ret (ev_call (okc_is_integer_from T) (hr.mono (by decide)) (by rfl) T.h_is_integer_from.m T.h_is_integer_from.F.kp T.h_is_integer_from.b tk (ec_d (ev_var 0 (pv 0)) (ec_d ev_int (ec_d (ev_bin op_sub o_sub (ev_var 1 (pv 1)) ev_int) ec_nil))))))
def c_is_index : List Sl → W D
  | [.fz (.int i), .fz (.int n)] => W.pure (.bl (decide (0 ≤ i ∧ i < n)))
  | _ => W.fail
@[simp] theorem c_is_index_app {i n : Int} {Q : D → Prop} {E : Xc → Prop} : c_is_index [.fz (.int i), .fz (.int n)] Q E = Q (.bl (decide (0 ≤ i ∧ i < n))) := rfl
theorem ref_is_index (as : List Sl) (Q : D → Prop) (E : Xc → Prop) (h : c_is_index as Q E) : m_is_index as Q E := by
  unfold c_is_index at h
  split at h
  · rename_i i n
    have k : Q (.bl (decide (0 ≤ i ∧ i < n))) := h
    have e : decide (0 ≤ i ∧ i ≤ n - 1) = decide (0 ≤ i ∧ i < n) := decide_eq_decide.mpr (by omega)
    refine ⟨rfl, ?_⟩
    rw [← e] at k
    simpa [b_is_index] using k
  · exact h.elim

theorem okc_is_index (T : Txt K mg a) : FnOk P w K mg base (L2.CX P w) 3 a.a_is_index a.d_is_index ["value", "length"] (PSp (G K a) c_is_index) := (ok_is_index T).imp fun _ _ _ _ h => PSp.mono ref_is_index h
abbrev s_is_rule : Stmt := (top 28)
abbrev N_is_rule : List Str := ["controls", "value"]
theorem sc_is_rule : FnScope N_is_rule ["controls", "value"] (defScope s_is_rule) := ⟨rfl, rfl, rfl, by decide +kernel, rfl, by decide +kernel, by decide +kernel⟩
def b_is_rule : PL.Env → Ws := (sSeq (sIf (orB (notB (testB (un1 (isiD "tuple") (rd 1)))) (orB (testB (bin2 neD (callN lenD (consA (rd 1) nilA)) (kst (.int 2)))) (notB (testB (callF c_is_index (dC (bin2 ixD (rd 1) (kst (.int 0))) (dC (rd 0) nilC))))))) (sRet (kst (.bl false))) sNx)
    (sRet (andV (un1 (isiD "list") (bin2 ixD (rd 1) (kst (.int 1)))) (chain2 leD leD (kst (.int 1)) (callN lenD (consA (bin2 ixD (rd 1) (kst (.int 1))) nilA)) (kst (.int 3))))))
def m_is_rule : List Sl → W D := mFun 2 N_is_rule.length b_is_rule
theorem ok_is_rule (T : Txt K mg a) : FnOk P w K mg base (L2.CX P w) 4 a.a_is_rule a.d_is_rule ["controls", "value"] (PSp (G K a) m_is_rule) :=
  fn_ok (G := G K a) T.h_is_rule.F sc_is_rule fun cdv A outer s H E hr tk =>
  (ess_cons (es_if (eb_w (ew_or (eb_not (eb_val (ev_isi (T := "tuple") (pe_bltn (by rfl) T.n_tuple Bt.t_tuple rfl) (ev_var 1 (pv 1)) rfl (by rfl) T.n_isinstance))) (ew_or (eb_cmp (op_neD hr.units) o_ne (ev_callB call_len_seq o_len (by rfl) T.n_len PySem.boot_len (ea_cons (ev_var 1 (pv 1)) ea_nil')) ev_int (nomark _)) (ew_or1 (eb_not (eb_val (ev_call (okc_is_index T) (hr.mono (by decide)) (by rfl) T.h_is_index.m T.h_is_index.F.kp T.h_is_index.b tk (ec_d (ev_ix (ev_var 1 (pv 1)) ev_int rfl (fun _ _ => rfl)) (ec_d (ev_var 0 (pv 0)) ec_nil))))))))) (ess_one (es_ret ev_bl)) ess_nil)
    (ess_one (es_ret (ev_and (ev_isi (T := "list") (pe_bltn (by rfl) T.n_list Bt.t_list rfl) (ev_ix (ev_var 1 (pv 1)) ev_int rfl (fun _ _ => rfl)) rfl (by rfl) T.n_isinstance) (ev_one (ev_chain op_le op_le (o_cmp (f := fun i j => decide (i ≤ j))) (o_cmp (f := fun i j => decide (i ≤ j))) ev_int (ev_callB call_len_seq o_len (by rfl) T.n_len PySem.boot_len (ea_cons (ev_ix (ev_var 1 (pv 1)) ev_int rfl (fun _ _ => rfl)) ea_nil')) (ev_globI' (by rfl) T.c_MOST_CELLS)))))))
def c_is_rule (as : List Sl) : W D := fun Q _ => ∃ (n : Int) (r : Rule), as = [.fz (.int n), .fz (dRule r)] ∧ 0 ≤ r.nx ∧ r.nx < n ∧ 1 ≤ r.rows.length ∧ r.rows.length ≤ 3 ∧ Q (.bl true)
theorem ref_is_rule (as : List Sl) (Q : D → Prop) (E : Xc → Prop) (h : c_is_rule as Q E) : m_is_rule as Q E := by
  obtain ⟨n, r, rfl, h1, h2, h3, h4, k⟩ := h
  refine ⟨rfl, ?_⟩
  simp [b_is_rule, dRule, h1, h2]
  have e3 : (1 : Int) ≤ r.rows.length := by omega
  have e4 : (r.rows.length : Int) ≤ 3 := by omega
  simpa [e3, e4] using k

theorem okc_is_rule (T : Txt K mg a) : FnOk P w K mg base (L2.CX P w) 4 a.a_is_rule a.d_is_rule ["controls", "value"] (PSp (G K a) c_is_rule) := (ok_is_rule T).imp fun _ _ _ _ h => PSp.mono ref_is_rule h
abbrev s_cells_of : Stmt := (top 23)
abbrev N_cells_of : List Str := ["rules", "behind", "rows"]
theorem sc_cells_of : FnScope N_cells_of ["rules"] (defScope s_cells_of) := ⟨rfl, rfl, rfl, by decide +kernel, rfl, by decide +kernel, by decide +kernel⟩
def b_cells_of : PL.Env → Ws := (sSeq (sAsg (bin2 ixD (bin2 ixD (rd 0) (kst (.int 0))) (kst (.int 0))) (tupG 2 (consG (nameG 1) (consG (nameG 2) nilG))))
    (sRet (callN lenD (consA (rd 2) nilA))))
def m_cells_of : List Sl → W D := mFun 1 N_cells_of.length b_cells_of
theorem ok_cells_of (T : Txt K mg a) : FnOk P w K mg base (L2.CX P w) 1 a.a_cells_of a.d_cells_of ["rules"] (PSp (G K a) m_cells_of) :=
  fn_ok (G := G K a) T.h_cells_of.F sc_cells_of fun cdv A outer s H E hr tk =>
  (ess_cons (es_asg (ev_ix (ev_ix (ev_var 0 (pv 0)) ev_int rfl (fun _ _ => rfl)) ev_int rfl (fun _ _ => rfl)) (eg_tup rfl (egs_cons (eg_name (pg_name (i := 1) sc_cells_of.nd rfl (by first | exact Or.inl rfl | exact Or.inr rfl))) (egs_cons (eg_name (pg_name (i := 2) sc_cells_of.nd rfl (by first | exact Or.inl rfl | exact Or.inr rfl))) egs_nil)) rfl))
    (ess_one (es_ret (ev_callB call_len_seq o_len (by rfl) T.n_len PySem.boot_len (ea_cons (ev_var 2 (pv 2)) ea_nil')))))
def c_cells_of (as : List Sl) : W D := fun Q _ => ∃ (rr : List (List Rule)) (l : List Rule) (r : Rule), as = [.fz (dRules rr)] ∧ rr[0]? = some l ∧ l[0]? = some r ∧ Q (.int r.rows.length)
theorem ref_cells_of (as : List Sl) (Q : D → Prop) (E : Xc → Prop) (h : c_cells_of as Q E) : m_cells_of as Q E := by
  obtain ⟨rr, l, r, rfl, h1, h2, k⟩ := h
  refine ⟨rfl, ?_⟩
  simp [b_cells_of]
  refine ⟨l, atI_nat (j := 0) h1, r, atI_nat (j := 0) h2, ?_⟩
  simpa [dRule] using k

theorem okc_cells_of (T : Txt K mg a) : FnOk P w K mg base (L2.CX P w) 1 a.a_cells_of a.d_cells_of ["rules"] (PSp (G K a) c_cells_of) := (ok_cells_of T).imp fun _ _ _ _ h => PSp.mono ref_cells_of h
abbrev s_is_row : Stmt := (top 32)
abbrev N_is_row : List Str := ["length", "value", "entry"]
theorem sc_is_row : FnScope N_is_row ["length", "value"] (defScope s_is_row) := ⟨rfl, rfl, rfl, by decide +kernel, rfl, by decide +kernel, by decide +kernel⟩
def b_is_row : PL.Env → Ws := (sSeq (sIf (notB (testB (callF c_is_list_of (dC (rd 1) (dC (rd 0) nilC))))) (sRet (kst (.bl false))) sNx)
    (sRet (callN (allD fun bs => bs.all id) (consA (lstV (lcN (lstI (rd 1)) [2] (nameG 2) yesB (callF c_is_integer_from (dC (rd 2) (dC (un1 negD (kst (.int 9))) (dC (kst (.int 9)) nilC)))))) nilA))))
def m_is_row : List Sl → W D := mFun 2 N_is_row.length b_is_row
theorem ok_is_row (T : Txt K mg a) : FnOk P w K mg base (L2.CX P w) 3 a.a_is_row a.d_is_row ["length", "value"] (PSp (G K a) m_is_row) :=
  fn_ok (G := G K a) T.h_is_row.F sc_is_row fun cdv A outer s H E hr tk =>
  (ess_cons (es_if (eb_not (eb_val (ev_call (okc_is_list_of T) (hr.mono (by decide)) (by rfl) T.h_is_list_of.m T.h_is_list_of.F.kp T.h_is_list_of.b tk (ec_d (ev_var 1 (pv 1)) (ec_d (ev_var 0 (pv 0)) ec_nil))))) (ess_one (es_ret ev_bl)) ess_nil)
    (ess_one (es_ret (ev_callB (cr_all rfl) o_all (by rfl) T.n_all Bt.all (ea_cons (En.ev (en_lc (own := [("entry", 2)]) rfl sc_is_row.nd (ei_list (ev_var 1 (pv 1)) rfl) (blkOk_by (N := N_is_row) (sc := (defScope s_is_row)) (by decide +kernel)) (fun _ _ _ _ _ => (eg_name (pg_name (i := 2) sc_is_row.nd rfl (by first | exact Or.inl rfl | exact Or.inr rfl)))) (fun _ _ _ _ _ => ets_nil) (fun _ _ _ _ _ => (ev_call (okc_is_integer_from T) (hr.mono (by decide)) (by rfl) T.h_is_integer_from.m T.h_is_integer_from.F.kp T.h_is_integer_from.b takes0 (ec_d (ev_var 2 (pv 2)) (ec_d (ev_un un_neg o_neg (ev_globI' (by rfl) T.c_MOST_FACTOR)) (ec_d (ev_globI' (by rfl) T.c_MOST_FACTOR) ec_nil))))) (by decide))) ea_nil')))))
def c_is_row (as : List Sl) : W D := fun Q _ => ∃ (n : Nat) (r : List Int), as = [.fz (.int n), .fz (dRow r)] ∧ n ≤ 1000 ∧ RowOk n r ∧ Q (.bl true)
theorem ref_is_row (as : List Sl) (Q : D → Prop) (E : Xc → Prop) (h : c_is_row as Q E) : m_is_row as Q E := by
  obtain ⟨n, r, rfl, hn, ⟨hl, hr⟩, k⟩ := h
  refine ⟨rfl, ?_⟩
  simp [b_is_row, hl]
  refine ⟨⟨rfl, sz (by first | omega | (simp; omega))⟩, ?_⟩
  refine lcL_map (fun _ => .bl true) (fun x hx k hk => ?_) (allD_true k)
  obtain ⟨h1, h2⟩ := hr x hx
  simpa [wipeE, h1, h2] using hk

theorem okc_is_row (T : Txt K mg a) : FnOk P w K mg base (L2.CX P w) 3 a.a_is_row a.d_is_row ["length", "value"] (PSp (G K a) c_is_row) := (ok_is_row T).imp fun _ _ _ _ h => PSp.mono ref_is_row h
abbrev s_are_rows : Stmt := (top 31)
abbrev N_are_rows : List Str := ["length", "rows", "row"]
theorem sc_are_rows : FnScope N_are_rows ["length", "rows"] (defScope s_are_rows) := ⟨rfl, rfl, rfl, by decide +kernel, rfl, by decide +kernel, by decide +kernel⟩
def b_are_rows : PL.Env → Ws := (sRet (callN (allD fun bs => bs.all id) (consA (lstV (lcN (lstI (rd 1)) [2] (nameG 2) yesB (callF c_is_row (dC (rd 0) (dC (rd 2) nilC))))) nilA)))
def m_are_rows : List Sl → W D := mFun 2 N_are_rows.length b_are_rows
theorem ok_are_rows (T : Txt K mg a) : FnOk P w K mg base (L2.CX P w) 4 a.a_are_rows a.d_are_rows ["length", "rows"] (PSp (G K a) m_are_rows) :=
  fn_ok (G := G K a) T.h_are_rows.F sc_are_rows fun cdv A outer s H E hr tk =>
  (ess_one (es_ret (ev_callB (cr_all rfl) o_all (by rfl) T.n_all Bt.all (ea_cons (En.ev (en_lc (own := [("row", 2)]) rfl sc_are_rows.nd (ei_list (ev_var 1 (pv 1)) rfl) (blkOk_by (N := N_are_rows) (sc := (defScope s_are_rows)) (by decide +kernel)) (fun _ _ _ _ _ => (eg_name (pg_name (i := 2) sc_are_rows.nd rfl (by first | exact Or.inl rfl | exact Or.inr rfl)))) (fun _ _ _ _ _ => ets_nil) (fun _ _ _ _ _ => (ev_call (okc_is_row T) (hr.mono (by decide)) (by rfl) T.h_is_row.m T.h_is_row.F.kp T.h_is_row.b takes0 (ec_d (ev_var 0 (pv 0)) (ec_d (ev_var 2 (pv 2)) ec_nil)))) (by decide))) ea_nil'))))
def c_are_rows (as : List Sl) : W D := fun Q _ => ∃ (n : Nat) (rs : List (List Int)), as = [.fz (.int n), .fz (dRows rs)] ∧ n ≤ 1000 ∧ rs.length ≤ 1000 ∧ (∀ r ∈ rs, RowOk n r) ∧ Q (.bl true)
theorem ref_are_rows (as : List Sl) (Q : D → Prop) (E : Xc → Prop) (h : c_are_rows as Q E) : m_are_rows as Q E := by
  obtain ⟨n, rs, rfl, hn, hl, hr, k⟩ := h
  refine ⟨rfl, ?_⟩
  simp [b_are_rows]
  refine ⟨⟨rfl, sz (by first | omega | (simp; omega))⟩, ?_⟩
  refine lcL_map (fun _ => .bl true) (fun x hx k hk => ?_) (allD_true k)
  simp [wipeE]
  exact ⟨n, x, rfl, hn, hr x hx, hk⟩

theorem okc_are_rows (T : Txt K mg a) : FnOk P w K mg base (L2.CX P w) 4 a.a_are_rows a.d_are_rows ["length", "rows"] (PSp (G K a) c_are_rows) := (ok_are_rows T).imp fun _ _ _ _ h => PSp.mono ref_are_rows h
abbrev s_are_rule_rows : Stmt := (top 29)
abbrev N_are_rule_rows : List Str := ["burdens", "cells", "of_control", "burden", "behind", "rows"]
theorem sc_are_rule_rows : FnScope N_are_rule_rows ["burdens", "cells", "of_control"] (defScope s_are_rule_rows) := ⟨rfl, rfl, rfl, by decide +kernel, rfl, by decide +kernel, by decide +kernel⟩
def b_are_rule_rows : PL.Env → Ws := (sSeq (sFor (zipG (rd 0) (rd 2)) (tupG 2 (consG (nameG 3) (consG (tupG 2 (consG (nameG 4) (consG (nameG 5) nilG))) nilG))) (sIf (orB (testB (bin2 neD (callN lenD (consA (rd 5) nilA)) (rd 1))) (notB (testB (callF c_are_rows (dC (bin2 addD (bin2 addD (kst (.int 1)) (rd 1)) (rd 3)) (dC (rd 5) nilC)))))) (sRet (kst (.bl false))) sNx))
    (sRet (kst (.bl true))))
def m_are_rule_rows : List Sl → W D := mFun 3 N_are_rule_rows.length b_are_rule_rows
theorem ok_are_rule_rows (T : Txt K mg a) : FnOk P w K mg base (L2.CX P w) 5 a.a_are_rule_rows a.d_are_rule_rows ["burdens", "cells", "of_control"] (PSp (G K a) m_are_rule_rows) :=
  fn_ok (G := G K a) T.h_are_rule_rows.F sc_are_rule_rows fun cdv A outer s H E hr tk =>
  (ess_cons (es_for (passes_of rfl) rfl (ei_zipG (ev_var 0 (pv 0)) (ev_var 2 (pv 2)) rfl (by rfl) T.n_zip) (eg_tup rfl (egs_cons (eg_name (pg_name (i := 3) sc_are_rule_rows.nd rfl (by first | exact Or.inl rfl | exact Or.inr rfl))) (egs_cons (eg_tup rfl (egs_cons (eg_name (pg_name (i := 4) sc_are_rule_rows.nd rfl (by first | exact Or.inl rfl | exact Or.inr rfl))) (egs_cons (eg_name (pg_name (i := 5) sc_are_rule_rows.nd rfl (by first | exact Or.inl rfl | exact Or.inr rfl))) egs_nil)) rfl) egs_nil)) rfl) (ess_one (es_if (eb_w (ew_or (eb_cmp (op_neD hr.units) o_ne (ev_callB call_len_seq o_len (by rfl) T.n_len PySem.boot_len (ea_cons (ev_var 5 (pv 5)) ea_nil')) (ev_var 1 (pv 1)) (nomark _)) (ew_or1 (eb_not (eb_val (ev_call (okc_are_rows T) (hr.mono (by decide)) (by rfl) T.h_are_rows.m T.h_are_rows.F.kp T.h_are_rows.b tk (ec_d (ev_bin op_adds o_add (ev_bin op_adds o_add ev_int (ev_var 1 (pv 1))) (ev_var 3 (pv 3))) (ec_d (ev_var 5 (pv 5)) ec_nil)))))))) (ess_one (es_ret ev_bl)) ess_nil)))
    (ess_one (es_ret ev_bl)))
def c_are_rule_rows (as : List Sl) : W D := fun Q _ => ∃ (bs : List Int) (m n : Nat) (l : List Rule), as = [.fz (dRow bs), .fz (.int m), .fz (dLine l)] ∧ bs.length ≤ 3 ∧ m ≤ 3 ∧ (∀ b ∈ bs, 0 ≤ b ∧ b ≤ 2) ∧ LineOk n m bs l ∧ Q (.bl true)
theorem zip_rules (bs : List Int) (l : List Rule) : List.zipWith (fun x y => D.tup [x, y]) (bs.map D.int) (l.map dRule) = (List.zip bs l).map fun p => D.tup [.int p.1, dRule p.2] := by
  rw [List.zipWith_map, List.zip, List.map_zipWith]
theorem ref_are_rule_rows (as : List Sl) (Q : D → Prop) (E : Xc → Prop) (h : c_are_rule_rows as Q E) : m_are_rule_rows as Q E := by
  obtain ⟨bs, m, n, l, rfl, h1, h2, h3, ⟨hl, hr⟩, k⟩ := h
  refine ⟨rfl, ?_⟩
  simp only [b_are_rule_rows, sSeq_app, sFor_app, zipG_app, rd_app]
  show forE _ _ (List.zipWith (fun x y => D.tup [x, y]) (bs.map D.int) (l.map dRule)) _ _ _
  rw [zip_rules]
  refine forE_inv (fun _ ρ => ∃ a b c, ρ = [.fz (dRow bs), .fz (.int m), .fz (dLine l), a, b, c]) (fun i d ρ K hi ⟨a, b, c, e⟩ hk _ _ _ => ?_) (fun ρ ⟨a, b, c, e⟩ => ?_) ⟨.un, .un, .un, rfl⟩
  · subst e
    rw [List.getElem?_map, Option.map_eq_some_iff] at hi
    obtain ⟨⟨b0, r⟩, hi, rfl⟩ := hi
    rw [List.getElem?_zip_eq_some] at hi
    obtain ⟨hb, hrr⟩ := hi
    have ok := hr i r b0 hrr hb
    have hb0 := h3 b0 (List.mem_of_getElem? hb)
    have e1 : ((r.rows.length : Int) == (m : Int)) = true := by rw [ok.len]; simp
    simp [dRule, e1, ok.len]
    refine ⟨1 + m + b0.toNat, r.rows, ?_, by omega, by rw [ok.len]; omega, ok.rows, ?_⟩
    · have : ((1 + m + b0.toNat : Nat) : Int) = 1 + m + b0 := by omega
      rw [this]
    · exact hk _ ⟨_, _, _, rfl⟩
  · subst e
    simpa using k

theorem okc_are_rule_rows (T : Txt K mg a) : FnOk P w K mg base (L2.CX P w) 5 a.a_are_rule_rows a.d_are_rule_rows ["burdens", "cells", "of_control"] (PSp (G K a) c_are_rule_rows) := (ok_are_rule_rows T).imp fun _ _ _ _ h => PSp.mono ref_are_rule_rows h
abbrev s_are_rules : Stmt := (top 27)
abbrev N_are_rules : List Str := ["burdens", "value", "of_control", "rule", "cells"]
theorem sc_are_rules : FnScope N_are_rules ["burdens", "value"] (defScope s_are_rules) := ⟨rfl, rfl, rfl, by decide +kernel, rfl, by decide +kernel, by decide +kernel⟩
def b_are_rules : PL.Env → Ws := (sSeq (sIf (orB (notB (testB (un1 (isiD "list") (rd 1)))) (notB (testB (chain2 leD leD (kst (.int 1)) (callN lenD (consA (rd 1) nilA)) (kst (.int 3)))))) (sRet (kst (.bl false))) sNx)
    (sSeq (sFor (lstI (rd 1)) (nameG 2) (sSeq (sIf (notB (testB (callF c_is_list_of (dC (rd 2) (dC (callN lenD (consA (rd 0) nilA)) nilC))))) (sRet (kst (.bl false))) sNx)
    (sIf (notB (testB (callN (allD fun bs => bs.all id) (consA (lstV (lcN (lstI (rd 2)) [3] (nameG 3) yesB (callF c_is_rule (dC (callN lenD (consA (rd 1) nilA)) (dC (rd 3) nilC))))) nilA)))) (sRet (kst (.bl false))) sNx)))
    (sSeq (sSet 4 (callF c_cells_of (dC (rd 1) nilC)))
    (sRet (callN (allD fun bs => bs.all id) (consA (lstV (lcN (lstI (rd 1)) [2] (nameG 2) yesB (callF c_are_rule_rows (dC (rd 0) (dC (rd 4) (dC (rd 2) nilC)))))) nilA))))))
def m_are_rules : List Sl → W D := mFun 2 N_are_rules.length b_are_rules
theorem ok_are_rules (T : Txt K mg a) : FnOk P w K mg base (L2.CX P w) 6 a.a_are_rules a.d_are_rules ["burdens", "value"] (PSp (G K a) m_are_rules) :=
  fn_ok (G := G K a) T.h_are_rules.F sc_are_rules fun cdv A outer s H E hr tk =>
  (ess_cons (es_if (eb_w (ew_or (eb_not (eb_val (ev_isi (T := "list") (pe_bltn (by rfl) T.n_list Bt.t_list rfl) (ev_var 1 (pv 1)) rfl (by rfl) T.n_isinstance))) (ew_or1 (eb_not (eb_chain op_le op_le (o_cmp (f := fun i j => decide (i ≤ j))) (o_cmp (f := fun i j => decide (i ≤ j))) ev_int (ev_callB call_len_seq o_len (by rfl) T.n_len PySem.boot_len (ea_cons (ev_var 1 (pv 1)) ea_nil')) (ev_globI' (by rfl) T.c_MOST_CONTROLS)))))) (ess_one (es_ret ev_bl)) ess_nil)
    (ess_cons (es_for (passes_of rfl) rfl (ei_list (ev_var 1 (pv 1)) rfl) (eg_name (pg_name (i := 2) sc_are_rules.nd rfl (by first | exact Or.inl rfl | exact Or.inr rfl))) (ess_cons (es_if (eb_not (eb_val (ev_call (okc_is_list_of T) (hr.mono (by decide)) (by rfl) T.h_is_list_of.m T.h_is_list_of.F.kp T.h_is_list_of.b tk (ec_d (ev_var 2 (pv 2)) (ec_d (ev_callB call_len_seq o_len (by rfl) T.n_len PySem.boot_len (ea_cons (ev_var 0 (pv 0)) ea_nil')) ec_nil))))) (ess_one (es_ret ev_bl)) ess_nil)
    (ess_one (es_if (eb_not (eb_val (ev_callB (cr_all rfl) o_all (by rfl) T.n_all Bt.all (ea_cons (En.ev (en_lc (own := [("rule", 3)]) rfl sc_are_rules.nd (ei_list (ev_var 2 (pv 2)) rfl) (blkOk_by (N := N_are_rules) (sc := (defScope s_are_rules)) (by decide +kernel)) (fun _ _ _ _ _ => (eg_name (pg_name (i := 3) sc_are_rules.nd rfl (by first | exact Or.inl rfl | exact Or.inr rfl)))) (fun _ _ _ _ _ => ets_nil) (fun _ _ _ _ _ => (ev_call (okc_is_rule T) (hr.mono (by decide)) (by rfl) T.h_is_rule.m T.h_is_rule.F.kp T.h_is_rule.b takes0 (ec_d (ev_callB call_len_seq o_len (by rfl) T.n_len PySem.boot_len (ea_cons (ev_var 1 (pv 1)) ea_nil')) (ec_d (ev_var 3 (pv 3)) ec_nil)))) (by decide))) ea_nil')))) (ess_one (es_ret ev_bl)) ess_nil))))
    (ess_cons (es_set (ev_call (okc_cells_of T) (hr.mono (by decide)) (by rfl) T.h_cells_of.m T.h_cells_of.F.kp T.h_cells_of.b tk (ec_d (ev_var 1 (pv 1)) ec_nil)) (fun _ pt => ps_set (i := 4) sc_are_rules.nd rfl (Or.inr rfl) pt))
    (ess_one (es_ret (ev_callB (cr_all rfl) o_all (by rfl) T.n_all Bt.all (ea_cons (En.ev (en_lc (own := [("of_control", 2)]) rfl sc_are_rules.nd (ei_list (ev_var 1 (pv 1)) rfl) (blkOk_by (N := N_are_rules) (sc := (defScope s_are_rules)) (by decide +kernel)) (fun _ _ _ _ _ => (eg_name (pg_name (i := 2) sc_are_rules.nd rfl (by first | exact Or.inl rfl | exact Or.inr rfl)))) (fun _ _ _ _ _ => ets_nil) (fun _ _ _ _ _ => (ev_call (okc_are_rule_rows T) (hr.mono (by decide)) (by rfl) T.h_are_rule_rows.m T.h_are_rule_rows.F.kp T.h_are_rule_rows.b takes0 (ec_d (ev_var 0 (pv 0)) (ec_d (ev_var 4 (pv 4)) (ec_d (ev_var 2 (pv 2)) ec_nil))))) (by decide))) ea_nil')))))))
def c_are_rules (as : List Sl) : W D := fun Q _ => ∃ (p : Parts) (m : Nat), as = [.fz (dRow p.bs), .fz (dRules p.rr)] ∧ PartsOk m p ∧ Q (.bl true)
theorem ref_are_rules (as : List Sl) (Q : D → Prop) (E : Xc → Prop) (h : c_are_rules as Q E) : m_are_rules as Q E := by
  obtain ⟨p, m, rfl, ok, k⟩ := h
  refine ⟨rfl, ?_⟩
  have e1 : (1 : Int) ≤ p.rr.length := by have := ok.c1; omega
  have e2 : (p.rr.length : Int) ≤ 3 := by have := ok.c3; omega
  have rl : ∀ l ∈ p.rr, ∀ r ∈ l, 0 ≤ r.nx ∧ r.nx < p.rr.length ∧ r.rows.length = m := fun l hl r hr => by
    obtain ⟨i, hi⟩ := List.getElem?_of_mem hr
    have hlen := (ok.rr l hl).1
    have hi' : i < p.bs.length := by rw [← hlen]; exact (List.getElem?_eq_some_iff.mp hi).1
    have := (ok.rr l hl).2 i r p.bs[i] hi (List.getElem?_eq_getElem hi')
    exact ⟨this.n0, this.n1, this.len⟩
  simp [b_are_rules, e1, e2]
  refine forE_inv (fun _ ρ => ∃ a : Sl, a.own = false ∧ ρ = [.fz (dRow p.bs), .fz (dRules p.rr), a, .un, .un]) (fun i d ρ K hi ⟨a, ha, e⟩ hk _ _ _ => ?_) (fun ρ ⟨a, ha, e⟩ => ?_) ⟨.un, rfl, rfl⟩
  · subst e
    rw [List.getElem?_map, Option.map_eq_some_iff] at hi
    obtain ⟨l, hi, rfl⟩ := hi
    have hl := List.mem_of_getElem? hi
    have hlen := (ok.rr l hl).1
    have h3 := ok.k3
    simp [hlen]
    refine ⟨⟨rfl, sz (by first | omega | (simp; omega))⟩, ?_⟩
    refine lcL_map (fun _ => .bl true) (fun r hr k hk => ?_) (allD_true ?_)
    · obtain ⟨h1, h2, h4⟩ := rl l hl r hr
      have := ok.m1
      have := ok.m3
      simp [wipeE]
      exact ⟨_, r, rfl, h1, h2, by omega, by omega, hk⟩
    · simp
      exact hk _ ⟨_, rfl, rfl⟩
  · subst e
    obtain ⟨l, hl⟩ : ∃ l, p.rr[0]? = some l := ⟨p.rr[0]'(by have := ok.c1; omega), List.getElem?_eq_getElem _⟩
    have hlm := List.mem_of_getElem? hl
    obtain ⟨r, hr⟩ : ∃ r, l[0]? = some r := ⟨l[0]'(by have := ok.k1; have := (ok.rr l hlm).1; omega), List.getElem?_eq_getElem _⟩
    simp
    refine ⟨p.rr, l, r, rfl, hl, hr, ?_⟩
    have hm := (rl l hlm r (List.mem_of_getElem? hr)).2.2
    have h3 := ok.c3
    simp [hm]
    refine ⟨⟨by simp [okW, ha], sz (by first | omega | (simp; omega))⟩, ?_⟩
    refine lcL_map (fun _ => .bl true) (fun l' hl' k hk => ?_) (allD_true k)
    simp [wipeE]
    exact ⟨p.bs, m, _, l', rfl, ok.k3, ok.m3, ok.b, ok.rr l' hl', hk⟩

theorem okc_are_rules (T : Txt K mg a) : FnOk P w K mg base (L2.CX P w) 6 a.a_are_rules a.d_are_rules ["burdens", "value"] (PSp (G K a) c_are_rules) := (ok_are_rules T).imp fun _ _ _ _ h => PSp.mono ref_are_rules h
abbrev s_are_shows : Stmt := (top 30)
abbrev N_are_shows : List Str := ["controls", "cells", "value", "rows"]
theorem sc_are_shows : FnScope N_are_shows ["controls", "cells", "value"] (defScope s_are_shows) := ⟨rfl, rfl, rfl, by decide +kernel, rfl, by decide +kernel, by decide +kernel⟩
def b_are_shows : PL.Env → Ws := (sSeq (sIf (notB (testB (callF c_is_list_of (dC (rd 2) (dC (rd 0) nilC))))) (sRet (kst (.bl false))) sNx)
    (sSeq (sFor (lstI (rd 2)) (nameG 3) (sIf (orB (notB (testB (un1 (isiD "list") (rd 3)))) (orB (testB (bin2 gtD (callN lenD (consA (rd 3) nilA)) (kst (.int 2)))) (notB (testB (callF c_are_rows (dC (bin2 addD (kst (.int 1)) (rd 1)) (dC (rd 3) nilC))))))) (sRet (kst (.bl false))) sNx))
    (sRet (kst (.bl true)))))
def m_are_shows : List Sl → W D := mFun 3 N_are_shows.length b_are_shows
theorem ok_are_shows (T : Txt K mg a) : FnOk P w K mg base (L2.CX P w) 5 a.a_are_shows a.d_are_shows ["controls", "cells", "value"] (PSp (G K a) m_are_shows) :=
  fn_ok (G := G K a) T.h_are_shows.F sc_are_shows fun cdv A outer s H E hr tk =>
  (ess_cons (es_if (eb_not (eb_val (ev_call (okc_is_list_of T) (hr.mono (by decide)) (by rfl) T.h_is_list_of.m T.h_is_list_of.F.kp T.h_is_list_of.b tk (ec_d (ev_var 2 (pv 2)) (ec_d (ev_var 0 (pv 0)) ec_nil))))) (ess_one (es_ret ev_bl)) ess_nil)
    (ess_cons (es_for (passes_of rfl) rfl (ei_list (ev_var 2 (pv 2)) rfl) (eg_name (pg_name (i := 3) sc_are_shows.nd rfl (by first | exact Or.inl rfl | exact Or.inr rfl))) (ess_one (es_if (eb_w (ew_or (eb_not (eb_val (ev_isi (T := "list") (pe_bltn (by rfl) T.n_list Bt.t_list rfl) (ev_var 3 (pv 3)) rfl (by rfl) T.n_isinstance))) (ew_or (eb_cmp op_gt (o_cmp (f := fun i j => decide (j < i))) (ev_callB call_len_seq o_len (by rfl) T.n_len PySem.boot_len (ea_cons (ev_var 3 (pv 3)) ea_nil')) (ev_globI' (by rfl) T.c_MOST_SHOWS) (nomark _)) (ew_or1 (eb_not (eb_val (ev_call (okc_are_rows T) (hr.mono (by decide)) (by rfl) T.h_are_rows.m T.h_are_rows.F.kp T.h_are_rows.b tk (ec_d (ev_bin op_adds o_add ev_int (ev_var 1 (pv 1))) (ec_d (ev_var 3 (pv 3)) ec_nil))))))))) (ess_one (es_ret ev_bl)) ess_nil)))
    (ess_one (es_ret ev_bl))))
def c_are_shows (as : List Sl) : W D := fun Q _ => ∃ (p : Parts) (m : Nat), as = [.fz (.int p.rr.length), .fz (.int m), .fz (dShows p.ss)] ∧ PartsOk m p ∧ Q (.bl true)
theorem ref_are_shows (as : List Sl) (Q : D → Prop) (E : Xc → Prop) (h : c_are_shows as Q E) : m_are_shows as Q E := by
  obtain ⟨p, m, rfl, ok, k⟩ := h
  refine ⟨rfl, ?_⟩
  have e1 : ((p.ss.length : Int) = (p.rr.length : Int)) := by rw [ok.sl]
  simp [b_are_shows, e1]
  refine forE_inv (fun _ ρ => ∃ a, ρ = [.fz (.int p.rr.length), .fz (.int m), .fz (dShows p.ss), a]) (fun i d ρ K hi ⟨a, e⟩ hk _ _ _ => ?_) (fun ρ ⟨a, e⟩ => ?_) ⟨.un, rfl⟩
  · subst e
    rw [List.getElem?_map, Option.map_eq_some_iff] at hi
    obtain ⟨rows, hi, rfl⟩ := hi
    obtain ⟨hl, hr⟩ := ok.ss rows (List.mem_of_getElem? hi)
    have e2 : ¬ ((2 : Int) < rows.length) := by omega
    simp [e2]
    refine ⟨1 + m, rows, ?_, by have := ok.m3; omega, by omega, hr, ?_⟩
    · have : ((1 + m : Nat) : Int) = 1 + m := by omega
      rw [this]
    · exact hk _ ⟨_, rfl⟩
  · subst e
    simpa using k

theorem okc_are_shows (T : Txt K mg a) : FnOk P w K mg base (L2.CX P w) 5 a.a_are_shows a.d_are_shows ["controls", "cells", "value"] (PSp (G K a) c_are_shows) := (ok_are_shows T).imp fun _ _ _ _ h => PSp.mono ref_are_shows h
abbrev s_copied : Stmt := (top 14)
abbrev N_copied : List Str := ["rows", "row"]
theorem sc_copied : FnScope N_copied ["rows"] (defScope s_copied) := ⟨rfl, rfl, rfl, by decide +kernel, rfl, by decide +kernel, by decide +kernel⟩
def b_copied : PL.Env → Ws := (sRet (lstV (lcN (lstI (rd 0)) [1] (nameG 1) yesB (callN listD (consA (rd 1) nilA)))))
def m_copied : List Sl → W D := mFun 1 N_copied.length b_copied
theorem ok_copied (T : Txt K mg a) : FnOk P w K mg base (L2.CX P w) 1 a.a_copied a.d_copied ["rows"] (PSp (G K a) m_copied) :=
  fn_ok (G := G K a) T.h_copied.F sc_copied fun cdv A outer s H E hr tk =>
  (ess_one (es_ret (En.ev (en_lc (own := [("row", 1)]) rfl sc_copied.nd (ei_list (ev_var 0 (pv 0)) rfl) (blkOk_by (N := N_copied) (sc := (defScope s_copied)) (by decide +kernel)) (fun _ _ _ _ _ => (eg_name (pg_name (i := 1) sc_copied.nd rfl (by first | exact Or.inl rfl | exact Or.inr rfl)))) (fun _ _ _ _ _ => ets_nil) (fun _ _ _ _ _ => (ev_callTy call_list_of o_list (by rfl) T.n_list Bt.t_list (ea_cons (ev_var 1 (pv 1)) ea_nil'))) (by decide)))))
def c_copied (as : List Sl) : W D := fun Q _ => ∃ rs : List (List Int), as = [.fz (dRows rs)] ∧ rs.length ≤ 1000 ∧ Q (dRows rs)
theorem ref_copied (as : List Sl) (Q : D → Prop) (E : Xc → Prop) (h : c_copied as Q E) : m_copied as Q E := by
  obtain ⟨rs, rfl, h1, k⟩ := h
  refine ⟨rfl, ?_⟩
  simp [b_copied]
  refine ⟨⟨rfl, sz (by first | omega | (simp; omega))⟩, ?_⟩
  refine lcL_map (fun r => dRow r) (fun x hx k hk => ?_) k
  simpa [wipeE] using hk

theorem okc_copied (T : Txt K mg a) : FnOk P w K mg base (L2.CX P w) 1 a.a_copied a.d_copied ["rows"] (PSp (G K a) c_copied) := (ok_copied T).imp fun _ _ _ _ h => PSp.mono ref_copied h
abbrev s_Listener__init : Stmt := (inClass (top 22) 0)
abbrev N_Listener__init : List Str := ["self", "burdens", "rules", "shows", "behind", "rows", "of_control"]
theorem sc_Listener__init : FnScope N_Listener__init ["self", "burdens", "rules", "shows"] (defScope s_Listener__init) := ⟨rfl, rfl, rfl, by decide +kernel, rfl, by decide +kernel, by decide +kernel⟩
def b_Listener__init : PL.Env → Ws := (sSeq (sIf (notB (testB (callF c_are_burdens (dC (rd 1) nilC)))) sNever sNx)
    (sSeq (sIf (notB (testB (callF c_are_rules (dC (rd 1) (dC (rd 2) nilC))))) sNever sNx)
    (sSeq (sIf (notB (testB (callF c_are_shows (dC (callN lenD (consA (rd 2) nilA)) (dC (callF c_cells_of (dC (rd 2) nilC)) (dC (rd 3) nilC)))))) sNever sNx)
    (sSeq (sFld 0 "burdens" 0 (callN listD (consA (rd 1) nilA)))
    (sSeq (sFld 0 "rules" 0 (lstV (lcN (lstI (rd 2)) [6] (nameG 6) yesB (lstV (lcN (lstI (rd 6)) [4, 5] (tupG 2 (consG (nameG 4) (consG (nameG 5) nilG))) yesB (dispL D.tup (consA (rd 4) (consA (callF c_copied (dC (rd 5) nilC)) nilA))))))))
    (sFld 0 "shows" 0 (lstV (lcN (lstI (rd 3)) [5] (nameG 5) yesB (callF c_copied (dC (rd 5) nilC))))))))))
def m_Listener__init : List Sl → W (List (Str × D)) := mInit 4 N_Listener__init.length 0 b_Listener__init
theorem ok_Listener__init (T : Txt K mg a) : FnOk P w K mg base (L2.CX P w) 7 a.a_Listener__init a.d_Listener__init ["self", "burdens", "rules", "shows"] (PSpI (G K a) 0 m_Listener__init) :=
  init_ok (C := 0) T.h_Listener__init.F sc_Listener__init fun cdv A outer s H E hr tk =>
  (ess_cons (es_if (eb_not (eb_val (ev_call (okc_are_burdens T) (hr.mono (by decide)) (by rfl) T.h_are_burdens.m T.h_are_burdens.F.kp T.h_are_burdens.b tk (ec_d (ev_var 1 (pv 1)) ec_nil)))) (ess_one es_never) ess_nil)
    (ess_cons (es_if (eb_not (eb_val (ev_call (okc_are_rules T) (hr.mono (by decide)) (by rfl) T.h_are_rules.m T.h_are_rules.F.kp T.h_are_rules.b tk (ec_d (ev_var 1 (pv 1)) (ec_d (ev_var 2 (pv 2)) ec_nil))))) (ess_one es_never) ess_nil)
    (ess_cons (es_if (eb_not (eb_val (ev_call (okc_are_shows T) (hr.mono (by decide)) (by rfl) T.h_are_shows.m T.h_are_shows.F.kp T.h_are_shows.b tk (ec_d (ev_callB call_len_seq o_len (by rfl) T.n_len PySem.boot_len (ea_cons (ev_var 2 (pv 2)) ea_nil')) (ec_d (ev_call (okc_cells_of T) (hr.mono (by decide)) (by rfl) T.h_cells_of.m T.h_cells_of.F.kp T.h_cells_of.b tk (ec_d (ev_var 2 (pv 2)) ec_nil)) (ec_d (ev_var 3 (pv 3)) ec_nil)))))) (ess_one es_never) ess_nil)
    (ess_cons (es_fld (C := 0) (pv 0) (ev_callTy call_list_of o_list (by rfl) T.n_list Bt.t_list (ea_cons (ev_var 1 (pv 1)) ea_nil')) T.cl_0 T.na_0_burdens)
    (ess_cons (es_fld (C := 0) (pv 0) (En.ev (en_lc (own := [("of_control", 6)]) rfl sc_Listener__init.nd (ei_list (ev_var 2 (pv 2)) rfl) (blkOk_by (N := N_Listener__init) (sc := (defScope s_Listener__init)) (by decide +kernel)) (fun _ _ _ _ _ => (eg_name (pg_name (i := 6) sc_Listener__init.nd rfl (by first | exact Or.inl rfl | exact Or.inr rfl)))) (fun _ _ _ _ _ => ets_nil) (fun _ _ _ _ _ => (En.ev (en_lc (own := [("behind", 4), ("rows", 5)]) rfl sc_Listener__init.nd (ei_list (ev_var 6 (pv 6)) rfl) (blkOk_by (N := N_Listener__init) (sc := (relS _ (defScope s_Listener__init))) (by decide +kernel)) (fun _ _ _ _ _ => (eg_tup rfl (egs_cons (eg_name (pg_name (i := 4) sc_Listener__init.nd rfl (by first | exact Or.inl rfl | exact Or.inr rfl))) (egs_cons (eg_name (pg_name (i := 5) sc_Listener__init.nd rfl (by first | exact Or.inl rfl | exact Or.inr rfl))) egs_nil)) rfl)) (fun _ _ _ _ _ => ets_nil) (fun _ _ _ _ _ => (ev_tup (ea_cons (ev_var 4 (pv 4)) (ea_cons (ev_call (okc_copied T) (hr.mono (by decide)) (by rfl) T.h_copied.m T.h_copied.F.kp T.h_copied.b takes0 (ec_d (ev_var 5 (pv 5)) ec_nil)) ea_nil')))) (by decide)))) (by decide))) T.cl_0 T.na_0_rules)
    (ess_one (es_fld (C := 0) (pv 0) (En.ev (en_lc (own := [("rows", 5)]) rfl sc_Listener__init.nd (ei_list (ev_var 3 (pv 3)) rfl) (blkOk_by (N := N_Listener__init) (sc := (defScope s_Listener__init)) (by decide +kernel)) (fun _ _ _ _ _ => (eg_name (pg_name (i := 5) sc_Listener__init.nd rfl (by first | exact Or.inl rfl | exact Or.inr rfl)))) (fun _ _ _ _ _ => ets_nil) (fun _ _ _ _ _ => (ev_call (okc_copied T) (hr.mono (by decide)) (by rfl) T.h_copied.m T.h_copied.F.kp T.h_copied.b takes0 (ec_d (ev_var 5 (pv 5)) ec_nil))) (by decide))) T.cl_0 T.na_0_shows)))))))
theorem pd1 (x y : D) : putD "rules" x (putD "burdens" y []) = ([("burdens", y), ("rules", x)] : List (Str × D)) := by
  have h : ¬ (("burdens" : Str) = "rules") := by decide +kernel
  simp [putD, h]
theorem pd2 (x y z : D) : putD "shows" z ([("burdens", y), ("rules", x)] : List (Str × D)) = ([("burdens", y), ("rules", x), ("shows", z)] : List (Str × D)) := by
  have h : ¬ (("burdens" : Str) = "shows") := by decide +kernel
  have h2 : ¬ (("rules" : Str) = "shows") := by decide +kernel
  simp [putD, h, h2]
def c_Listener__init (as : List Sl) : W (List (Str × D)) := fun Q _ => ∃ (p : Parts) (m : Nat), as = [.fz (dRow p.bs), .fz (dRules p.rr), .fz (dShows p.ss)] ∧ PartsOk m p ∧ Q [("burdens", dRow p.bs), ("rules", dRules p.rr), ("shows", dShows p.ss)]
theorem ref_Listener__init (as : List Sl) (Q : List (Str × D) → Prop) (E : Xc → Prop) (h : c_Listener__init as Q E) : m_Listener__init as Q E := by
  obtain ⟨p, m, rfl, ok, k⟩ := h
  refine ⟨rfl, fun a dx => ?_⟩
  have hl : ∃ l, p.rr[0]? = some l := ⟨p.rr[0]'(by have := ok.c1; omega), List.getElem?_eq_getElem _⟩
  obtain ⟨l, hl⟩ := hl
  have hlm := List.mem_of_getElem? hl
  obtain ⟨r, hr⟩ : ∃ r, l[0]? = some r := ⟨l[0]'(by have := ok.k1; have := (ok.rr l hlm).1; omega), List.getElem?_eq_getElem _⟩
  have hm : r.rows.length = m := by
    have hb : 0 < p.bs.length := by have := ok.k1; omega
    exact ((ok.rr l hlm).2 0 r p.bs[0] hr (List.getElem?_eq_getElem hb)).len
  simp [b_Listener__init]
  refine ⟨p.bs, rfl, ok.k1, ok.k3, ok.b, ?_⟩
  simp
  refine ⟨p, m, rfl, ok, ?_⟩
  simp
  refine ⟨p.rr, l, r, rfl, hl, hr, p, m, by rw [hm], ok, ?_⟩
  have h3 := ok.c3
  have h4 := ok.k3
  have h5 := ok.sl
  have cp : ∀ rows : List (List Int), rows.length ≤ 1000 → ∀ K : D → Prop, K (dRows rows) → c_copied [.fz (dRows rows)] K (fun _ => False) := fun rows h K hK => ⟨rows, rfl, h, hK⟩
  simp
  refine ⟨a, dx, _, ⟨rfl, rfl, rfl⟩, by decide, a, dx, _, ⟨rfl, rfl, rfl⟩, by simp [putD], ⟨rfl, sz (by first | omega | (simp; omega))⟩, ?_⟩
  refine lcL_map (fun l => dLine l) (fun l' hl' K hK => ?_) ?_
  · have hll := (ok.rr l' hl').1
    simp [wipeE]
    refine ⟨⟨rfl, sz (by first | omega | (simp; omega))⟩, ?_⟩
    refine lcL_map dRule (fun r hr K hK => ?_) hK
    have : r.rows.length ≤ 1000 := by
      obtain ⟨i, hi⟩ := List.getElem?_of_mem hr
      have hi' : i < p.bs.length := by rw [← hll]; exact (List.getElem?_eq_some_iff.mp hi).1
      have := ((ok.rr l' hl').2 i r p.bs[i] hi (List.getElem?_eq_getElem hi')).len
      have := ok.m3
      omega
    simp [wipeE, dRule]
    refine cp _ this _ ?_
    exact ⟨sz (by simp), hK⟩
  · refine ⟨a, dx, _, ⟨rfl, rfl, rfl⟩, by rw [pd1]; simp, ⟨rfl, sz (by first | omega | (simp; omega))⟩, ?_⟩
    refine lcL_map (fun rs => dRows rs) (fun rows hrows K hK => ?_) ?_
    · have := (ok.ss rows hrows).1
      simp [wipeE]
      exact cp _ (by omega) _ hK
    · refine ⟨_, ⟨rfl, rfl, rfl⟩, ?_⟩
      rw [pd1, pd2]
      exact k

theorem okc_Listener__init (T : Txt K mg a) : FnOk P w K mg base (L2.CX P w) 7 a.a_Listener__init a.d_Listener__init ["self", "burdens", "rules", "shows"] (PSpI (G K a) 0 c_Listener__init) := (ok_Listener__init T).imp fun _ _ _ _ h => PSpI.mono ref_Listener__init h
abbrev s_law_rules_copy : Stmt := (top 39)
abbrev N_law_rules_copy : List Str := ["_law_rules", "_law_row", "_law_rule_here", "_law_line"]
theorem sc_law_rules_copy : FnScope N_law_rules_copy ["_law_rules"] (defScope s_law_rules_copy) := ⟨rfl, rfl, rfl, by decide +kernel, rfl, by decide +kernel, by decide +kernel⟩
def b_law_rules_copy : PL.Env → Ws := (sRet (lstV (lcN (lstI (rd 0)) [3] (nameG 3) yesB (lstV (lcN (lstI (rd 3)) [2] (nameG 2) yesB (dispL D.tup (consA (bin2 ixD (rd 2) (kst (.int 0))) (consA (lstV (lcN (lstI (bin2 ixD (rd 2) (kst (.int 1)))) [1] (nameG 1) yesB (callN listD (consA (rd 1) nilA)))) nilA))))))))
def m_law_rules_copy : List Sl → W D := mFun 1 N_law_rules_copy.length b_law_rules_copy
theorem ok_law_rules_copy (T : Txt K mg a) : FnOk P w K mg base (L2.CX P w) 1 a.a_law_rules_copy a.d_law_rules_copy ["_law_rules"] (PSp (G K a) m_law_rules_copy) :=
  fn_ok (G := G K a) T.h_law_rules_copy.F sc_law_rules_copy fun cdv A outer s H E hr tk =>
  (ess_one (es_ret (En.ev (en_lc (own := [("_law_line", 3)]) rfl sc_law_rules_copy.nd (ei_list (ev_var 0 (pv 0)) rfl) (blkOk_by (N := N_law_rules_copy) (sc := (defScope s_law_rules_copy)) (by decide +kernel)) (fun _ _ _ _ _ => (eg_name (pg_name (i := 3) sc_law_rules_copy.nd rfl (by first | exact Or.inl rfl | exact Or.inr rfl)))) (fun _ _ _ _ _ => ets_nil) (fun _ _ _ _ _ => (En.ev (en_lc (own := [("_law_rule_here", 2)]) rfl sc_law_rules_copy.nd (ei_list (ev_var 3 (pv 3)) rfl) (blkOk_by (N := N_law_rules_copy) (sc := (relS _ (defScope s_law_rules_copy))) (by decide +kernel)) (fun _ _ _ _ _ => (eg_name (pg_name (i := 2) sc_law_rules_copy.nd rfl (by first | exact Or.inl rfl | exact Or.inr rfl)))) (fun _ _ _ _ _ => ets_nil) (fun _ _ _ _ _ => (ev_tup (ea_cons (ev_ix (ev_var 2 (pv 2)) ev_int rfl (fun _ _ => rfl)) (ea_cons (En.ev (en_lc (own := [("_law_row", 1)]) rfl sc_law_rules_copy.nd (ei_list (ev_ix (ev_var 2 (pv 2)) ev_int rfl (fun _ _ => rfl)) rfl) (blkOk_by (N := N_law_rules_copy) (sc := (relS _ (relS _ (defScope s_law_rules_copy)))) (by decide +kernel)) (fun _ _ _ _ _ => (eg_name (pg_name (i := 1) sc_law_rules_copy.nd rfl (by first | exact Or.inl rfl | exact Or.inr rfl)))) (fun _ _ _ _ _ => ets_nil) (fun _ _ _ _ _ => (ev_callTy call_list_of o_list (by rfl) T.n_list Bt.t_list (ea_cons (ev_var 1 (pv 1)) ea_nil'))) (by decide))) ea_nil')))) (by decide)))) (by decide)))))
def c_law_rules_copy (as : List Sl) : W D := fun Q _ => ∃ rr : List (List Rule), as = [.fz (dRules rr)] ∧ rr.length ≤ 1000 ∧ (∀ l ∈ rr, l.length ≤ 1000 ∧ ∀ r ∈ l, r.rows.length ≤ 1000) ∧ Q (dRules rr)
theorem ref_law_rules_copy (as : List Sl) (Q : D → Prop) (E : Xc → Prop) (h : c_law_rules_copy as Q E) : m_law_rules_copy as Q E := by
  obtain ⟨rr, rfl, h1, h2, k⟩ := h
  refine ⟨rfl, ?_⟩
  simp [b_law_rules_copy]
  refine ⟨⟨rfl, sz (by first | omega | (simp; omega))⟩, ?_⟩
  refine lcL_map (fun l => dLine l) (fun l hl K hK => ?_) k
  obtain ⟨h3, h4⟩ := h2 l hl
  simp [wipeE]
  refine ⟨⟨rfl, sz (by first | omega | (simp; omega))⟩, ?_⟩
  refine lcL_map dRule (fun r hr K hK => ?_) hK
  have h5 := h4 r hr
  simp [wipeE, dRule]
  refine ⟨⟨rfl, sz (by first | omega | (simp; omega))⟩, ?_⟩
  refine lcL_map (fun r => dRow r) (fun x hx K hK => ?_) ?_
  · simpa [wipeE] using hK
  · exact ⟨sz (by simp), hK⟩

theorem okc_law_rules_copy (T : Txt K mg a) : FnOk P w K mg base (L2.CX P w) 1 a.a_law_rules_copy a.d_law_rules_copy ["_law_rules"] (PSp (G K a) c_law_rules_copy) := (ok_law_rules_copy T).imp fun _ _ _ _ h => PSp.mono ref_law_rules_copy h
abbrev s_law_listener : Stmt := (top 40)
abbrev N_law_listener : List Str := ["_law_parts_here", "_law_shows", "_law_row", "_law_rows"]
theorem sc_law_listener : FnScope N_law_listener ["_law_parts_here"] (defScope s_law_listener) := ⟨rfl, rfl, rfl, by decide +kernel, rfl, by decide +kernel, by decide +kernel⟩
def b_law_listener : PL.Env → Ws := (sSeq (sSet 1 (lstV (lcN (lstI (bin2 ixD (rd 0) (kst (.int 2)))) [3] (nameG 3) yesB (lstV (lcN (lstI (rd 3)) [2] (nameG 2) yesB (callN listD (consA (rd 2) nilA)))))))
    (sRet (makeF 0 c_Listener__init (dC (callN listD (consA (bin2 ixD (rd 0) (kst (.int 0))) nilA)) (dC (callF c_law_rules_copy (dC (bin2 ixD (rd 0) (kst (.int 1))) nilC)) (dC (rd 1) nilC))))))
def m_law_listener : List Sl → W D := mFun 1 N_law_listener.length b_law_listener
theorem ok_law_listener (T : Txt K mg a) : FnOk P w K mg base (L2.CX P w) 9 a.a_law_listener a.d_law_listener ["_law_parts_here"] (PSp (G K a) m_law_listener) :=
  fn_ok (G := G K a) T.h_law_listener.F sc_law_listener fun cdv A outer s H E hr tk =>
  (ess_cons (es_setLc (i := 1) (own := [("_law_rows", 3)]) rfl sc_law_listener.nd rfl rfl (sw_true rfl rfl rfl (by decide +kernel)) (ei_list (ev_ix (ev_var 0 (pv 0)) ev_int rfl (fun _ _ => rfl)) rfl) (blkOk_by (N := N_law_listener) (sc := (defScope s_law_listener)) (by decide +kernel)) (fun _ _ _ _ _ => (eg_name (pg_name (i := 3) sc_law_listener.nd rfl (by first | exact Or.inl rfl | exact Or.inr rfl)))) (fun _ _ _ _ _ => ets_nil) (fun _ _ _ _ _ => (En.ev (en_lc (own := [("_law_row", 2)]) rfl sc_law_listener.nd (ei_list (ev_var 3 (pv 3)) rfl) (blkOk_by (N := N_law_listener) (sc := (relS _ (defScope s_law_listener))) (by decide +kernel)) (fun _ _ _ _ _ => (eg_name (pg_name (i := 2) sc_law_listener.nd rfl (by first | exact Or.inl rfl | exact Or.inr rfl)))) (fun _ _ _ _ _ => ets_nil) (fun _ _ _ _ _ => (ev_callTy call_list_of o_list (by rfl) T.n_list Bt.t_list (ea_cons (ev_var 2 (pv 2)) ea_nil'))) (by decide)))) (by decide))
    (ess_one (es_ret (ev_make (C := 0) T.mk_0 (okc_Listener__init T) (hr.mono (by decide)) (by rfl) T.mc_0 T.h_Listener__init.b tk (ec_d (ev_callTy call_list_of o_list (by rfl) T.n_list Bt.t_list (ea_cons (ev_ix (ev_var 0 (pv 0)) ev_int rfl (fun _ _ => rfl)) ea_nil')) (ec_d (ev_call (okc_law_rules_copy T) (hr.mono (by decide)) (by rfl) T.h_law_rules_copy.m T.h_law_rules_copy.F.kp T.h_law_rules_copy.b tk (ec_d (ev_ix (ev_var 0 (pv 0)) ev_int rfl (fun _ _ => rfl)) ec_nil)) (ec_d (ev_var 1 (pv 1)) ec_nil)))))))
def c_law_listener (as : List Sl) : W D := fun Q _ => ∃ (p : Parts) (m : Nat), as = [.fz (dParts p)] ∧ PartsOk m p ∧ Q (dL p)
theorem ref_law_listener (as : List Sl) (Q : D → Prop) (E : Xc → Prop) (h : c_law_listener as Q E) : m_law_listener as Q E := by
  obtain ⟨p, m, rfl, ok, k⟩ := h
  refine ⟨rfl, ?_⟩
  have h1 := ok.sl
  have h2 := ok.c3
  have h3 := ok.k3
  simp [b_law_listener, dParts]
  refine ⟨⟨rfl, sz (by first | omega | (simp; omega))⟩, ?_⟩
  refine lcL_map (fun rs => dRows rs) (fun rows hrows K hK => ?_) ?_
  · have := (ok.ss rows hrows).1
    simp [wipeE]
    refine ⟨⟨rfl, sz (by first | omega | (simp; omega))⟩, ?_⟩
    refine lcL_map (fun r => dRow r) (fun x hx K hK => ?_) hK
    simpa [wipeE] using hK
  · refine ⟨p.rr, rfl, by omega, fun l hl => ⟨by have := (ok.rr l hl).1; omega, fun r hr => ?_⟩, ?_⟩
    · obtain ⟨i, hi⟩ := List.getElem?_of_mem hr
      have hi' : i < p.bs.length := by rw [← (ok.rr l hl).1]; exact (List.getElem?_eq_some_iff.mp hi).1
      have := ((ok.rr l hl).2 i r p.bs[i] hi (List.getElem?_eq_getElem hi')).len
      have := ok.m3
      omega
    · exact ⟨p, m, rfl, ok, k⟩

theorem okc_law_listener (T : Txt K mg a) : FnOk P w K mg base (L2.CX P w) 9 a.a_law_listener a.d_law_listener ["_law_parts_here"] (PSp (G K a) c_law_listener) := (ok_law_listener T).imp fun _ _ _ _ h => PSp.mono ref_law_listener h
abbrev s_law_number : Stmt := (top 36)
abbrev N_law_number : List Str := ["_law_pool_here", "_law_style", "_law_minus", "_law_value"]
theorem sc_law_number : FnScope N_law_number ["_law_pool_here"] (defScope s_law_number) := ⟨rfl, rfl, rfl, by decide +kernel, rfl, by decide +kernel, by decide +kernel⟩
def b_law_number : PL.Env → Ws := (sSeq (sSet 1 (callF c_law_draw (slC 0 (dC (kst (.int 4)) nilC))))
    (sSeq (sSet 2 (callF c_law_draw (slC 0 (dC (kst (.int 2)) nilC))))
    (sSeq (sSet 3 (callF c_law_draw (slC 0 (dC (bin2 powD (kst (.int 10)) (kst (.int 9))) nilC))))
    (sSeq (sIf (testB (bin2 eqD (rd 1) (kst (.int 0)))) (sSet 3 (bin2 modD (callN intD (consA (rd 3) nilA)) (kst (.int 7)))) sNx)
    (sSeq (sIf (testB (bin2 eqD (rd 1) (kst (.int 1)))) (sSet 3 (bin2 modD (callN intD (consA (rd 3) nilA)) (kst (.int 1000)))) sNx)
    (sSeq (sIf (testB (bin2 eqD (rd 1) (kst (.int 3)))) (sSet 3 (bin2 addD (bin2 mulD (rd 3) (bin2 powD (kst (.int 10)) (kst (.int 50)))) (callF c_law_draw (slC 0 (dC (bin2 powD (kst (.int 10)) (kst (.int 9))) nilC))))) sNx)
    (sSeq (sIf (testB (bin2 eqD (rd 2) (kst (.int 1)))) (sRet (un1 negD (rd 3))) sNx)
    (sRet (rd 3)))))))))
def m_law_number : List Sl → W D := mFun 1 N_law_number.length b_law_number
theorem ok_law_number (T : Txt K mg a) : FnOk P w K mg base (L2.CX P w) 2 a.a_law_number a.d_law_number ["_law_pool_here"] (PSp (G K a) m_law_number) :=
  fn_ok (G := G K a) T.h_law_number.F sc_law_number fun cdv A outer s H E hr tk =>
  (ess_cons (es_set (ev_call (okc_law_draw T) (hr.mono (by decide)) (by rfl) T.h_law_draw.m T.h_law_draw.F.kp T.h_law_draw.b tk (ec_slot (pv 0) (ec_d ev_int ec_nil))) (fun _ pt => ps_set (i := 1) sc_law_number.nd rfl (Or.inl rfl) pt))
    (ess_cons (es_set (ev_call (okc_law_draw T) (hr.mono (by decide)) (by rfl) T.h_law_draw.m T.h_law_draw.F.kp T.h_law_draw.b tk (ec_slot (pv 0) (ec_d ev_int ec_nil))) (fun _ pt => ps_set (i := 2) sc_law_number.nd rfl (Or.inl rfl) pt))
    (ess_cons (es_set (ev_call (okc_law_draw T) (hr.mono (by decide)) (by rfl) T.h_law_draw.m T.h_law_draw.F.kp T.h_law_draw.b tk (ec_slot (pv 0) (ec_d (ev_bin op_pow o_pow ev_int ev_int) ec_nil))) (fun _ pt => ps_set (i := 3) sc_law_number.nd rfl (Or.inl rfl) pt))
    (ess_cons (es_if (eb_cmp (op_eqD hr.units) o_eq (ev_var 1 (pv 1)) ev_int (nomark _)) (ess_one (es_set (ev_bin op_mod o_mod (ev_callTy call_int1 o_int (by rfl) T.n_int Bt.t_int (ea_cons (ev_var 3 (pv 3)) ea_nil')) ev_int) (fun _ pt => ps_set (i := 3) sc_law_number.nd rfl (Or.inl rfl) pt))) ess_nil)
    (ess_cons (es_if (eb_cmp (op_eqD hr.units) o_eq (ev_var 1 (pv 1)) ev_int (nomark _)) (ess_one (es_set (ev_bin op_mod o_mod (ev_callTy call_int1 o_int (by rfl) T.n_int Bt.t_int (ea_cons (ev_var 3 (pv 3)) ea_nil')) ev_int) (fun _ pt => ps_set (i := 3) sc_law_number.nd rfl (Or.inl rfl) pt))) ess_nil)
    (ess_cons (es_if (eb_cmp (op_eqD hr.units) o_eq (ev_var 1 (pv 1)) ev_int (nomark _)) (ess_one (es_set (ev_bin op_adds o_add (ev_bin op_muls o_mul (ev_var 3 (pv 3)) (ev_bin op_pow o_pow ev_int ev_int)) (ev_call (okc_law_draw T) (hr.mono (by decide)) (by rfl) T.h_law_draw.m T.h_law_draw.F.kp T.h_law_draw.b tk (ec_slot (pv 0) (ec_d (ev_bin op_pow o_pow ev_int ev_int) ec_nil)))) (fun _ pt => ps_set (i := 3) sc_law_number.nd rfl (Or.inl rfl) pt))) ess_nil)
    (ess_cons (es_if (eb_cmp (op_eqD hr.units) o_eq (ev_var 2 (pv 2)) ev_int (nomark _)) (ess_one (es_ret (ev_un un_neg o_neg (ev_var 3 (pv 3))))) ess_nil)
    (ess_one (es_ret (ev_var 3 (pv 3)))))))))))
def c_law_number (as : List Sl) : W D := fun Q _ => as = [.pool] ∧ ∀ z : Int, Q (.int z)
theorem ref_law_number (as : List Sl) (Q : D → Prop) (E : Xc → Prop) (h : c_law_number as Q E) : m_law_number as Q E := by
  obtain ⟨rfl, k⟩ := h
  refine ⟨rfl, ?_⟩
  have dr : ∀ (n : Int) (K : D → Prop), 0 < n → n < 1073741824 → (∀ r : Int, 0 ≤ r → r < n → K (.int r)) → c_law_draw [.pool, .fz (.int n)] K (fun x => E x) := fun n K h0 h1 hk => ⟨n, rfl, h0, h1, hk⟩
  have p9 : CPow 10 9 := ⟨by decide, by decide, by decide⟩
  have p50 : CPow 10 50 := ⟨by decide, by decide, by decide⟩
  simp [b_law_number, p9, p50]
  refine dr _ _ (by decide) (by decide) fun a a0 a1 => ?_
  simp
  refine dr _ _ (by decide) (by decide) fun b b0 b1 => ?_
  simp
  refine dr _ _ (by decide) (by decide) fun c c0 c1 => ?_
  have cm : CMul c (10 ^ 50) := .inl ⟨by omega, by omega⟩
  have cm2 : CMul c 100000000000000000000000000000000000000000000000000 := cm
  have fin : ∀ z : Int, (if b = 1 then Q (.int (-z)) else Q (.int z)) := fun z => by split <;> exact k _
  simp
  by_cases h0 : a = 0
  · simpa [h0] using fin _
  · by_cases h1 : a = 1
    · simpa [h0, h1] using fin _
    · by_cases h3 : a = 3
      · simp [h0, h1, h3, cm2]
        refine dr _ _ (by decide) (by decide) fun d d0 d1 => ?_
        simpa using fin _
      · simpa [h0, h1, h3] using fin _

theorem okc_law_number (T : Txt K mg a) : FnOk P w K mg base (L2.CX P w) 2 a.a_law_number a.d_law_number ["_law_pool_here"] (PSp (G K a) c_law_number) := (ok_law_number T).imp fun _ _ _ _ h => PSp.mono ref_law_number h
abbrev s_is_tuple_of_integers : Stmt := (top 12)
abbrev N_is_tuple_of_integers : List Str := ["value", "length", "entry"]
theorem sc_is_tuple_of_integers : FnScope N_is_tuple_of_integers ["value", "length"] (defScope s_is_tuple_of_integers) := ⟨rfl, rfl, rfl, by decide +kernel, rfl, by decide +kernel, by decide +kernel⟩
def b_is_tuple_of_integers : PL.Env → Ws := (sRet (andV (un1 (isiD "tuple") (rd 0)) (andV (bin2 eqD (callN lenD (consA (rd 0) nilA)) (rd 1)) (callN (allD fun bs => bs.all id) (consA (lstV (lcN (tupI (rd 0)) [2] (nameG 2) yesB (callF c_is_integer (dC (rd 2) nilC)))) nilA)))))
def m_is_tuple_of_integers : List Sl → W D := mFun 2 N_is_tuple_of_integers.length b_is_tuple_of_integers
theorem ok_is_tuple_of_integers (T : Txt K mg a) : FnOk P w K mg base (L2.CX P w) 2 a.a_is_tuple_of_integers a.d_is_tuple_of_integers ["value", "length"] (PSp (G K a) m_is_tuple_of_integers) :=
  fn_ok (G := G K a) T.h_is_tuple_of_integers.F sc_is_tuple_of_integers fun cdv A outer s H E hr tk =>
  (ess_one (es_ret (ev_and (ev_isi (T := "tuple") (pe_bltn (by rfl) T.n_tuple Bt.t_tuple rfl) (ev_var 0 (pv 0)) rfl (by rfl) T.n_isinstance) (ev_and (ev_cmp (op_eqD hr.units) o_eq (ev_callB call_len_seq o_len (by rfl) T.n_len PySem.boot_len (ea_cons (ev_var 0 (pv 0)) ea_nil')) (ev_var 1 (pv 1)) (nomark _)) (ev_one (ev_callB (cr_all rfl) o_all (by rfl) T.n_all Bt.all (ea_cons (En.ev (en_lc (own := [("entry", 2)]) rfl sc_is_tuple_of_integers.nd (ei_tup (ev_var 0 (pv 0)) rfl) (blkOk_by (N := N_is_tuple_of_integers) (sc := (defScope s_is_tuple_of_integers)) (by decide +kernel)) (fun _ _ _ _ _ => (eg_name (pg_name (i := 2) sc_is_tuple_of_integers.nd rfl (by first | exact Or.inl rfl | exact Or.inr rfl)))) (fun _ _ _ _ _ => ets_nil) (fun _ _ _ _ _ => (ev_call (okc_is_integer T) (hr.mono (by decide)) (by rfl) T.h_is_integer.m T.h_is_integer.F.kp T.h_is_integer.b takes0 (ec_d (ev_var 2 (pv 2)) ec_nil))) (by decide))) ea_nil')))))))
def c_is_tuple_of_integers (as : List Sl) : W D := fun Q _ => ∃ (xs : List Int) (n : Int), as = [.fz (dTup xs), .fz (.int n)] ∧ xs.length ≤ 1000 ∧ (xs.length : Int) = n ∧ Q (.bl true)
theorem ref_is_tuple_of_integers (as : List Sl) (Q : D → Prop) (E : Xc → Prop) (h : c_is_tuple_of_integers as Q E) : m_is_tuple_of_integers as Q E := by
  obtain ⟨xs, n, rfl, h1, rfl, k⟩ := h
  refine ⟨rfl, ?_⟩
  simp [b_is_tuple_of_integers]
  refine ⟨⟨rfl, sz (by first | omega | (simp; omega))⟩, ?_⟩
  refine lcL_map (fun _ => .bl true) (fun x hx k hk => ?_) (allD_true k)
  simpa [wipeE] using hk

theorem okc_is_tuple_of_integers (T : Txt K mg a) : FnOk P w K mg base (L2.CX P w) 2 a.a_is_tuple_of_integers a.d_is_tuple_of_integers ["value", "length"] (PSp (G K a) c_is_tuple_of_integers) := (ok_is_tuple_of_integers T).imp fun _ _ _ _ h => PSp.mono ref_is_tuple_of_integers h
abbrev s_is_stand : Stmt := (top 24)
abbrev N_is_stand : List Str := ["controls", "cells", "value"]
theorem sc_is_stand : FnScope N_is_stand ["controls", "cells", "value"] (defScope s_is_stand) := ⟨rfl, rfl, rfl, by decide +kernel, rfl, by decide +kernel, by decide +kernel⟩
def b_is_stand : PL.Env → Ws := (sSeq (sIf (orB (notB (testB (un1 (isiD "tuple") (rd 2)))) (testB (bin2 neD (callN lenD (consA (rd 2) nilA)) (kst (.int 2))))) (sRet (kst (.bl false))) sNx)
    (sRet (andV (callF c_is_index (dC (bin2 ixD (rd 2) (kst (.int 0))) (dC (rd 0) nilC))) (callF c_is_tuple_of_integers (dC (bin2 ixD (rd 2) (kst (.int 1))) (dC (rd 1) nilC))))))
def m_is_stand : List Sl → W D := mFun 3 N_is_stand.length b_is_stand
theorem ok_is_stand (T : Txt K mg a) : FnOk P w K mg base (L2.CX P w) 4 a.a_is_stand a.d_is_stand ["controls", "cells", "value"] (PSp (G K a) m_is_stand) :=
  fn_ok (G := G K a) T.h_is_stand.F sc_is_stand fun cdv A outer s H E hr tk =>
  (ess_cons (es_if (eb_w (ew_or (eb_not (eb_val (ev_isi (T := "tuple") (pe_bltn (by rfl) T.n_tuple Bt.t_tuple rfl) (ev_var 2 (pv 2)) rfl (by rfl) T.n_isinstance))) (ew_or1 (eb_cmp (op_neD hr.units) o_ne (ev_callB call_len_seq o_len (by rfl) T.n_len PySem.boot_len (ea_cons (ev_var 2 (pv 2)) ea_nil')) ev_int (nomark _))))) (ess_one (es_ret ev_bl)) ess_nil)
    (ess_one (es_ret (ev_and (ev_call (okc_is_index T) (hr.mono (by decide)) (by rfl) T.h_is_index.m T.h_is_index.F.kp T.h_is_index.b tk (ec_d (ev_ix (ev_var 2 (pv 2)) ev_int rfl (fun _ _ => rfl)) (ec_d (ev_var 0 (pv 0)) ec_nil))) (ev_one (ev_call (okc_is_tuple_of_integers T) (hr.mono (by decide)) (by rfl) T.h_is_tuple_of_integers.m T.h_is_tuple_of_integers.F.kp T.h_is_tuple_of_integers.b tk (ec_d (ev_ix (ev_var 2 (pv 2)) ev_int rfl (fun _ _ => rfl)) (ec_d (ev_var 1 (pv 1)) ec_nil))))))))
def c_is_stand (as : List Sl) : W D := fun Q _ => ∃ (c n : Int) (s : Stand), as = [.fz (.int c), .fz (.int n), .fz (dStand s)] ∧ 0 ≤ s.c ∧ s.c < c ∧ s.cs.length ≤ 1000 ∧ (s.cs.length : Int) = n ∧ Q (.bl true)
theorem ref_is_stand (as : List Sl) (Q : D → Prop) (E : Xc → Prop) (h : c_is_stand as Q E) : m_is_stand as Q E := by
  obtain ⟨c, n, s, rfl, h1, h2, h3, h4, k⟩ := h
  refine ⟨rfl, ?_⟩
  simp [b_is_stand, dStand, h1, h2]
  exact ⟨s.cs, n, rfl, h3, h4, k⟩

theorem okc_is_stand (T : Txt K mg a) : FnOk P w K mg base (L2.CX P w) 4 a.a_is_stand a.d_is_stand ["controls", "cells", "value"] (PSp (G K a) c_is_stand) := (ok_is_stand T).imp fun _ _ _ _ h => PSp.mono ref_is_stand h
abbrev s_Listener_cell_count : Stmt := (inClass (top 22) 6)
abbrev N_Listener_cell_count : List Str := ["self"]
theorem sc_Listener_cell_count : FnScope N_Listener_cell_count ["self"] (defScope s_Listener_cell_count) := ⟨rfl, rfl, rfl, by decide +kernel, rfl, by decide +kernel, by decide +kernel⟩
def b_Listener_cell_count : PL.Env → Ws := (sRet (callF c_cells_of (dC (un1 (fldC 0 "rules") (rd 0)) nilC)))
def m_Listener_cell_count : List Sl → W D := mFun 1 N_Listener_cell_count.length b_Listener_cell_count
theorem ok_Listener_cell_count (T : Txt K mg a) : FnOk P w K mg base (L2.CX P w) 2 a.a_Listener_cell_count a.d_Listener_cell_count ["self"] (PSp (G K a) m_Listener_cell_count) :=
  fn_ok (G := G K a) T.h_Listener_cell_count.F sc_Listener_cell_count fun cdv A outer s H E hr tk =>
  (ess_one (es_ret (ev_call (okc_cells_of T) (hr.mono (by decide)) (by rfl) T.h_cells_of.m T.h_cells_of.F.kp T.h_cells_of.b tk (ec_d (ev_fld (C := 0) (ev_var 0 (pv 0)) T.cl_0 T.na_0_rules rfl) ec_nil))))
def c_Listener_cell_count (as : List Sl) : W D := fun Q _ => ∃ (p : Parts) (m : Nat), as = [.fz (dL p)] ∧ PartsOk m p ∧ Q (.int m)
theorem ref_Listener_cell_count (as : List Sl) (Q : D → Prop) (E : Xc → Prop) (h : c_Listener_cell_count as Q E) : m_Listener_cell_count as Q E := by
  obtain ⟨p, m, rfl, ok, k⟩ := h
  refine ⟨rfl, ?_⟩
  obtain ⟨l, hl⟩ : ∃ l, p.rr[0]? = some l := ⟨p.rr[0]'(by have := ok.c1; omega), List.getElem?_eq_getElem _⟩
  have hlm := List.mem_of_getElem? hl
  obtain ⟨r, hr⟩ : ∃ r, l[0]? = some r := ⟨l[0]'(by have := ok.k1; have := (ok.rr l hlm).1; omega), List.getElem?_eq_getElem _⟩
  have hm : r.rows.length = m := by
    have hb : 0 < p.bs.length := by have := ok.k1; omega
    exact ((ok.rr l hlm).2 0 r p.bs[0] hr (List.getElem?_eq_getElem hb)).len
  simp [b_Listener_cell_count]
  exact fld_rules ⟨_, l, r, rfl, hl, hr, by rw [hm]; exact k⟩

theorem okc_Listener_cell_count (T : Txt K mg a) : FnOk P w K mg base (L2.CX P w) 2 a.a_Listener_cell_count a.d_Listener_cell_count ["self"] (PSp (G K a) c_Listener_cell_count) := (ok_Listener_cell_count T).imp fun _ _ _ _ h => PSp.mono ref_Listener_cell_count h
abbrev s_Listener_control_count : Stmt := (inClass (top 22) 5)
abbrev N_Listener_control_count : List Str := ["self"]
theorem sc_Listener_control_count : FnScope N_Listener_control_count ["self"] (defScope s_Listener_control_count) := ⟨rfl, rfl, rfl, by decide +kernel, rfl, by decide +kernel, by decide +kernel⟩
def b_Listener_control_count : PL.Env → Ws := (sRet (callN lenD (consA (un1 (fldC 0 "rules") (rd 0)) nilA)))
def m_Listener_control_count : List Sl → W D := mFun 1 N_Listener_control_count.length b_Listener_control_count
theorem ok_Listener_control_count (T : Txt K mg a) : FnOk P w K mg base (L2.CX P w) 1 a.a_Listener_control_count a.d_Listener_control_count ["self"] (PSp (G K a) m_Listener_control_count) :=
  fn_ok (G := G K a) T.h_Listener_control_count.F sc_Listener_control_count fun cdv A outer s H E hr tk =>
  (ess_one (es_ret (ev_callB call_len_seq o_len (by rfl) T.n_len PySem.boot_len (ea_cons (ev_fld (C := 0) (ev_var 0 (pv 0)) T.cl_0 T.na_0_rules rfl) ea_nil'))))
def c_Listener_control_count (as : List Sl) : W D := fun Q _ => ∃ p : Parts, as = [.fz (dL p)] ∧ Q (.int p.rr.length)
theorem ref_Listener_control_count (as : List Sl) (Q : D → Prop) (E : Xc → Prop) (h : c_Listener_control_count as Q E) : m_Listener_control_count as Q E := by
  obtain ⟨p, rfl, k⟩ := h
  refine ⟨rfl, ?_⟩
  simp [b_Listener_control_count]
  exact fld_rules (by simpa using k)

theorem okc_Listener_control_count (T : Txt K mg a) : FnOk P w K mg base (L2.CX P w) 1 a.a_Listener_control_count a.d_Listener_control_count ["self"] (PSp (G K a) c_Listener_control_count) := (ok_Listener_control_count T).imp fun _ _ _ _ h => PSp.mono ref_Listener_control_count h
abbrev s_Listener_check_stand : Stmt := (inClass (top 22) 13)
abbrev N_Listener_check_stand : List Str := ["self", "stand"]
theorem sc_Listener_check_stand : FnScope N_Listener_check_stand ["self", "stand"] (defScope s_Listener_check_stand) := ⟨rfl, rfl, rfl, by decide +kernel, rfl, by decide +kernel, by decide +kernel⟩
def b_Listener_check_stand : PL.Env → Ws := (sIf (notB (testB (callF c_is_stand (dC (callM 0 "control_count" c_Listener_control_count (rd 0) nilC) (dC (callM 0 "cell_count" c_Listener_cell_count (rd 0) nilC) (dC (rd 1) nilC)))))) sNever sNx)
def m_Listener_check_stand : List Sl → W D := mFun 2 N_Listener_check_stand.length b_Listener_check_stand
theorem ok_Listener_check_stand (T : Txt K mg a) : FnOk P w K mg base (L2.CX P w) 5 a.a_Listener_check_stand a.d_Listener_check_stand ["self", "stand"] (PSp (G K a) m_Listener_check_stand) :=
  fn_ok (G := G K a) T.h_Listener_check_stand.F sc_Listener_check_stand fun cdv A outer s H E hr tk =>
  (ess_one (es_if (eb_not (eb_val (ev_call (okc_is_stand T) (hr.mono (by decide)) (by rfl) T.h_is_stand.m T.h_is_stand.F.kp T.h_is_stand.b tk (ec_d (ev_meth0 (C := 0) (ev_var 0 (pv 0)) T.cl_0 T.h_Listener_control_count.m (okc_Listener_control_count T) (hr.mono (by decide)) T.h_Listener_control_count.b tk) (ec_d (ev_meth0 (C := 0) (ev_var 0 (pv 0)) T.cl_0 T.h_Listener_cell_count.m (okc_Listener_cell_count T) (hr.mono (by decide)) T.h_Listener_cell_count.b tk) (ec_d (ev_var 1 (pv 1)) ec_nil)))))) (ess_one es_never) ess_nil))
def c_Listener_check_stand (as : List Sl) : W D := fun Q _ => ∃ (p : Parts) (m : Nat) (s : Stand), as = [.fz (dL p), .fz (dStand s)] ∧ PartsOk m p ∧ StandOk p m s ∧ Q .non
theorem ref_Listener_check_stand (as : List Sl) (Q : D → Prop) (E : Xc → Prop) (h : c_Listener_check_stand as Q E) : m_Listener_check_stand as Q E := by
  obtain ⟨p, m, s, rfl, ok, ⟨h1, h2, h3⟩, k⟩ := h
  refine ⟨rfl, ?_⟩
  have := ok.m3
  simp [b_Listener_check_stand]
  refine ⟨no_control_count, p, rfl, no_cell_count, p, m, rfl, ok, _, _, s, rfl, h1, h2, by omega, by omega, ?_⟩
  simpa using k

theorem okc_Listener_check_stand (T : Txt K mg a) : FnOk P w K mg base (L2.CX P w) 5 a.a_Listener_check_stand a.d_Listener_check_stand ["self", "stand"] (PSp (G K a) c_Listener_check_stand) := (ok_Listener_check_stand T).imp fun _ _ _ _ h => PSp.mono ref_Listener_check_stand h
abbrev s_is_message : Stmt := (top 25)
abbrev N_is_message : List Str := ["burdens", "value"]
theorem sc_is_message : FnScope N_is_message ["burdens", "value"] (defScope s_is_message) := ⟨rfl, rfl, rfl, by decide +kernel, rfl, by decide +kernel, by decide +kernel⟩
def b_is_message : PL.Env → Ws := (sSeq (sIf (orB (notB (testB (un1 (isiD "tuple") (rd 1)))) (orB (testB (bin2 neD (callN lenD (consA (rd 1) nilA)) (kst (.int 2)))) (notB (testB (callF c_is_index (dC (bin2 ixD (rd 1) (kst (.int 0))) (dC (callN lenD (consA (rd 0) nilA)) nilC))))))) (sRet (kst (.bl false))) sNx)
    (sRet (callF c_is_tuple_of_integers (dC (bin2 ixD (rd 1) (kst (.int 1))) (dC (bin2 ixD (rd 0) (bin2 ixD (rd 1) (kst (.int 0)))) nilC)))))
def m_is_message : List Sl → W D := mFun 2 N_is_message.length b_is_message
theorem ok_is_message (T : Txt K mg a) : FnOk P w K mg base (L2.CX P w) 4 a.a_is_message a.d_is_message ["burdens", "value"] (PSp (G K a) m_is_message) :=
  fn_ok (G := G K a) T.h_is_message.F sc_is_message fun cdv A outer s H E hr tk =>
  (ess_cons (es_if (eb_w (ew_or (eb_not (eb_val (ev_isi (T := "tuple") (pe_bltn (by rfl) T.n_tuple Bt.t_tuple rfl) (ev_var 1 (pv 1)) rfl (by rfl) T.n_isinstance))) (ew_or (eb_cmp (op_neD hr.units) o_ne (ev_callB call_len_seq o_len (by rfl) T.n_len PySem.boot_len (ea_cons (ev_var 1 (pv 1)) ea_nil')) ev_int (nomark _)) (ew_or1 (eb_not (eb_val (ev_call (okc_is_index T) (hr.mono (by decide)) (by rfl) T.h_is_index.m T.h_is_index.F.kp T.h_is_index.b tk (ec_d (ev_ix (ev_var 1 (pv 1)) ev_int rfl (fun _ _ => rfl)) (ec_d (ev_callB call_len_seq o_len (by rfl) T.n_len PySem.boot_len (ea_cons (ev_var 0 (pv 0)) ea_nil')) ec_nil))))))))) (ess_one (es_ret ev_bl)) ess_nil)
    (ess_one (es_ret (ev_call (okc_is_tuple_of_integers T) (hr.mono (by decide)) (by rfl) T.h_is_tuple_of_integers.m T.h_is_tuple_of_integers.F.kp T.h_is_tuple_of_integers.b tk (ec_d (ev_ix (ev_var 1 (pv 1)) ev_int rfl (fun _ _ => rfl)) (ec_d (ev_ix (ev_var 0 (pv 0)) (ev_ix (ev_var 1 (pv 1)) ev_int rfl (fun _ _ => rfl)) rfl (fun _ _ => rfl)) ec_nil))))))
def c_is_message (as : List Sl) : W D := fun Q _ => ∃ (p : Parts) (g : Msg), as = [.fz (dRow p.bs), .fz (dMsg g)] ∧ (∀ b ∈ p.bs, 0 ≤ b ∧ b ≤ 2) ∧ MsgOk p g ∧ Q (.bl true)
theorem ref_is_message (as : List Sl) (Q : D → Prop) (E : Xc → Prop) (h : c_is_message as Q E) : m_is_message as Q E := by
  obtain ⟨p, g, rfl, hb, ⟨g0, g1, b, e, hn⟩, k⟩ := h
  refine ⟨rfl, ?_⟩
  have := hb b (List.mem_of_getElem? e)
  simp [b_is_message, dMsg, g0, g1]
  exact ⟨b, atI_get g0 e, g.ns, b, rfl, by omega, hn, k⟩

theorem okc_is_message (T : Txt K mg a) : FnOk P w K mg base (L2.CX P w) 4 a.a_is_message a.d_is_message ["burdens", "value"] (PSp (G K a) c_is_message) := (ok_is_message T).imp fun _ _ _ _ h => PSp.mono ref_is_message h
abbrev s_form_value : Stmt := (top 13)
abbrev N_form_value : List Str := ["form", "vector", "factor", "entry"]
theorem sc_form_value : FnScope N_form_value ["form", "vector"] (defScope s_form_value) := ⟨rfl, rfl, rfl, by decide +kernel, rfl, by decide +kernel, by decide +kernel⟩
def b_form_value : PL.Env → Ws := (sRet (callN sumD (consA (lstV (lcN (zipG (rd 0) (rd 1)) [2, 3] (tupG 2 (consG (nameG 2) (consG (nameG 3) nilG))) yesB (bin2 mulD (rd 2) (rd 3)))) nilA)))
def m_form_value : List Sl → W D := mFun 2 N_form_value.length b_form_value
theorem ok_form_value (T : Txt K mg a) : FnOk P w K mg base (L2.CX P w) 1 a.a_form_value a.d_form_value ["form", "vector"] (PSp (G K a) m_form_value) :=
  fn_ok (G := G K a) T.h_form_value.F sc_form_value fun cdv A outer s H E hr tk =>
  (ess_one (es_ret (ev_callB (cr_sum rfl) o_sum (by rfl) T.n_sum Bt.sum (ea_cons (En.ev (en_lc (own := [("factor", 2), ("entry", 3)]) rfl sc_form_value.nd (ei_zipG (ev_var 0 (pv 0)) (ev_var 1 (pv 1)) rfl (by rfl) T.n_zip) (blkOk_by (N := N_form_value) (sc := (defScope s_form_value)) (by decide +kernel)) (fun _ _ _ _ _ => (eg_tup rfl (egs_cons (eg_name (pg_name (i := 2) sc_form_value.nd rfl (by first | exact Or.inl rfl | exact Or.inr rfl))) (egs_cons (eg_name (pg_name (i := 3) sc_form_value.nd rfl (by first | exact Or.inl rfl | exact Or.inr rfl))) egs_nil)) rfl)) (fun _ _ _ _ _ => ets_nil) (fun _ _ _ _ _ => (ev_bin op_muls o_mul (ev_var 2 (pv 2)) (ev_var 3 (pv 3)))) (by decide))) ea_nil'))))
def c_form_value (as : List Sl) : W D := fun Q _ => ∃ (r v : List Int) (d : D), as = [.fz (dRow r), .fz d] ∧ seqD d = some (v.map D.int) ∧ r.length ≤ 1000 ∧ (∀ x ∈ r, -9 ≤ x ∧ x ≤ 9) ∧ Q (.int (dot r v))
theorem zip_rows (r v : List Int) : List.zipWith (fun x y => D.tup [x, y]) (r.map D.int) (v.map D.int) = (List.zip r v).map fun p => D.tup [.int p.1, .int p.2] := by
  rw [List.zipWith_map, List.zip, List.map_zipWith]
theorem ref_form_value (as : List Sl) (Q : D → Prop) (E : Xc → Prop) (h : c_form_value as Q E) : m_form_value as Q E := by
  obtain ⟨r, v, d, rfl, hd, hl, hr, k⟩ := h
  refine ⟨rfl, ?_⟩
  have hs : Q (.int ((List.zip r v).map fun p => p.1 * p.2).sum) := by
    have : ((List.zip r v).map fun p => p.1 * p.2) = List.zipWith (· * ·) r v := by rw [List.zip, List.map_zipWith]
    rw [this]; exact k
  have ez : ∀ (QL : List D → Prop) (E : Xc → Prop), QL ((List.zip r v).map fun p => D.tup [.int p.1, .int p.2]) → zipWG (dRow r) d QL E := fun QL E q => by
    unfold zipWG
    rw [hd]
    show QL (List.zipWith (fun x y => D.tup [x, y]) (r.map D.int) (v.map D.int))
    rw [zip_rows]; exact q
  simp only [b_form_value, sRet_app, callN_app, consA_app, nilA_app, lstV_app, lcN_app, zipG_app, rd_app]
  refine ez _ _ ⟨⟨rfl, ?_⟩, ?_⟩
  · rw [List.length_map]
    refine sz ?_
    rw [List.length_zip]
    omega
  · refine lcL_map (fun p => .int (p.1 * p.2)) (fun p hp k hk => ?_) (sumD_map hs)
    have := hr p.1 (List.of_mem_zip hp).1
    have c : CMul p.1 p.2 := .inl ⟨by omega, by omega⟩
    simpa [wipeE, c] using hk

theorem okc_form_value (T : Txt K mg a) : FnOk P w K mg base (L2.CX P w) 1 a.a_form_value a.d_form_value ["form", "vector"] (PSp (G K a) c_form_value) := (ok_form_value T).imp fun _ _ _ _ h => PSp.mono ref_form_value h
abbrev s_Listener_heard : Stmt := (inClass (top 22) 12)
abbrev N_Listener_heard : List Str := ["self", "stand", "message", "control", "cells", "kind", "numbers", "behind", "rows", "vector", "row"]
theorem sc_Listener_heard : FnScope N_Listener_heard ["self", "stand", "message"] (defScope s_Listener_heard) := ⟨rfl, rfl, rfl, by decide +kernel, rfl, by decide +kernel, by decide +kernel⟩
def b_Listener_heard : PL.Env → Ws := (sSeq (sAsg (rd 1) (tupG 2 (consG (nameG 3) (consG (nameG 4) nilG))))
    (sSeq (sAsg (rd 2) (tupG 2 (consG (nameG 5) (consG (nameG 6) nilG))))
    (sSeq (sAsg (bin2 ixD (bin2 ixD (un1 (fldC 0 "rules") (rd 0)) (rd 3)) (rd 5)) (tupG 2 (consG (nameG 7) (consG (nameG 8) nilG))))
    (sSeq (sSet 9 (dispL D.lst (consA (kst (.int 1)) (starA (rd 4) (starA (rd 6) nilA)))))
    (sRet (dispL D.tup (consA (rd 7) (consA (callN tupleD (consA (lstV (lcN (lstI (rd 8)) [10] (nameG 10) yesB (callF c_form_value (dC (rd 10) (dC (rd 9) nilC))))) nilA)) nilA))))))))
def m_Listener_heard : List Sl → W D := mFun 3 N_Listener_heard.length b_Listener_heard
theorem ok_Listener_heard (T : Txt K mg a) : FnOk P w K mg base (L2.CX P w) 2 a.a_Listener_heard a.d_Listener_heard ["self", "stand", "message"] (PSp (G K a) m_Listener_heard) :=
  fn_ok (G := G K a) T.h_Listener_heard.F sc_Listener_heard fun cdv A outer s H E hr tk =>
  (ess_cons (es_asg (ev_var 1 (pv 1)) (eg_tup rfl (egs_cons (eg_name (pg_name (i := 3) sc_Listener_heard.nd rfl (by first | exact Or.inl rfl | exact Or.inr rfl))) (egs_cons (eg_name (pg_name (i := 4) sc_Listener_heard.nd rfl (by first | exact Or.inl rfl | exact Or.inr rfl))) egs_nil)) rfl))
    (ess_cons (es_asg (ev_var 2 (pv 2)) (eg_tup rfl (egs_cons (eg_name (pg_name (i := 5) sc_Listener_heard.nd rfl (by first | exact Or.inl rfl | exact Or.inr rfl))) (egs_cons (eg_name (pg_name (i := 6) sc_Listener_heard.nd rfl (by first | exact Or.inl rfl | exact Or.inr rfl))) egs_nil)) rfl))
    (ess_cons (es_asg (ev_ix (ev_ix (ev_fld (C := 0) (ev_var 0 (pv 0)) T.cl_0 T.na_0_rules rfl) (ev_var 3 (pv 3)) rfl (fun _ _ => rfl)) (ev_var 5 (pv 5)) rfl (fun _ _ => rfl)) (eg_tup rfl (egs_cons (eg_name (pg_name (i := 7) sc_Listener_heard.nd rfl (by first | exact Or.inl rfl | exact Or.inr rfl))) (egs_cons (eg_name (pg_name (i := 8) sc_Listener_heard.nd rfl (by first | exact Or.inl rfl | exact Or.inr rfl))) egs_nil)) rfl))
    (ess_cons (es_set (ev_lst (ea_cons ev_int (ea_star (ev_var 4 (pv 4)) (ea_star (ev_var 6 (pv 6)) ea_nil')))) (fun _ pt => ps_set (i := 9) sc_Listener_heard.nd rfl (Or.inr rfl) pt))
    (ess_one (es_ret (ev_tup (ea_cons (ev_var 7 (pv 7)) (ea_cons (ev_callTy call_tuple_of o_tuple (by rfl) T.n_tuple Bt.t_tuple (ea_cons (En.ev (en_lc (own := [("row", 10)]) rfl sc_Listener_heard.nd (ei_list (ev_var 8 (pv 8)) rfl) (blkOk_by (N := N_Listener_heard) (sc := (defScope s_Listener_heard)) (by decide +kernel)) (fun _ _ _ _ _ => (eg_name (pg_name (i := 10) sc_Listener_heard.nd rfl (by first | exact Or.inl rfl | exact Or.inr rfl)))) (fun _ _ _ _ _ => ets_nil) (fun _ _ _ _ _ => (ev_call (okc_form_value T) (hr.mono (by decide)) (by rfl) T.h_form_value.m T.h_form_value.F.kp T.h_form_value.b takes0 (ec_d (ev_var 10 (pv 10)) (ec_d (ev_var 9 (pv 9)) ec_nil)))) (by decide))) ea_nil')) ea_nil')))))))))
def c_Listener_heard (as : List Sl) : W D := fun Q _ => ∃ (p : Parts) (m : Nat) (s : Stand) (g : Msg), as = [.fz (dL p), .fz (dStand s), .fz (dMsg g)] ∧ PartsOk m p ∧ StandOk p m s ∧ MsgOk p g ∧ Q (dStand (hearP p s g))
theorem ref_Listener_heard (as : List Sl) (Q : D → Prop) (E : Xc → Prop) (h : c_Listener_heard as Q E) : m_Listener_heard as Q E := by
  obtain ⟨p, m, s, g, rfl, ok, hs, hg, k⟩ := h
  refine ⟨rfl, ?_⟩
  obtain ⟨l, r, e1, e2, e3, h1, h2, h3, h4⟩ := rule_at ok hs hg
  have hc := hs.2.2
  have hn := msg_few ok hg
  have hm := ok.m3
  rw [e3] at k
  simp [b_Listener_heard, dStand, dMsg]
  refine fld_rules ?_
  simp
  refine ⟨l, e1, r, e2, ?_⟩
  try simp [dRule]
  have e5 : (D.lst (D.int 1 :: (List.map D.int s.cs ++ (List.map D.int g.ns ++ [])))) = dRow (1 :: (s.cs ++ g.ns)) := by simp [dList]
  refine And.intro (sz (by first | omega | (simp; omega))) ?_
  simp only [e5]
  refine ⟨⟨rfl, sz (by first | omega | (simp; omega))⟩, ?_⟩
  refine lcL_map (fun row => .int (dot row (1 :: (s.cs ++ g.ns)))) (fun row hr K hK => ?_) ?_
  · obtain ⟨q1, q2⟩ := h4 row hr
    simp only [nameG_app, wipeE]
    simp
    exact ⟨row, _, _, rfl, rfl, by omega, q2, hK⟩
  · simp [dStand, hearR, dTupL] at k ⊢
    exact ⟨sz (by simp), by simpa [Function.comp_def] using k⟩

theorem okc_Listener_heard (T : Txt K mg a) : FnOk P w K mg base (L2.CX P w) 2 a.a_Listener_heard a.d_Listener_heard ["self", "stand", "message"] (PSp (G K a) c_Listener_heard) := (ok_Listener_heard T).imp fun _ _ _ _ h => PSp.mono ref_Listener_heard h
abbrev s_Listener_hear_all : Stmt := (inClass (top 22) 9)
abbrev N_Listener_hear_all : List Str := ["self", "stand", "messages", "index", "message"]
theorem sc_Listener_hear_all : FnScope N_Listener_hear_all ["self", "stand", "messages"] (defScope s_Listener_hear_all) := ⟨rfl, rfl, rfl, by decide +kernel, rfl, by decide +kernel, by decide +kernel⟩
def b_Listener_hear_all : PL.Env → Ws := (sSeq (sDrop (callM 0 "check_stand" c_Listener_check_stand (rd 0) (dC (rd 1) nilC)))
    (sSeq (sIf (notB (testB (un1 (isiD "list") (rd 2)))) sNever sNx)
    (sSeq (sFor (enumI (rd 2)) (tupG 2 (consG (nameG 3) (consG (nameG 4) nilG))) (sIf (notB (testB (callF c_is_message (dC (un1 (fldC 0 "burdens") (rd 0)) (dC (rd 4) nilC))))) sNever sNx))
    (sSeq (sFor (lstI (rd 2)) (nameG 4) (sSet 1 (callM 0 "heard" c_Listener_heard (rd 0) (dC (rd 1) (dC (rd 4) nilC)))))
    (sRet (rd 1))))))
def m_Listener_hear_all : List Sl → W D := mFun 3 N_Listener_hear_all.length b_Listener_hear_all
theorem ok_Listener_hear_all (T : Txt K mg a) : FnOk P w K mg base (L2.CX P w) 6 a.a_Listener_hear_all a.d_Listener_hear_all ["self", "stand", "messages"] (PSp (G K a) m_Listener_hear_all) :=
  fn_ok (G := G K a) T.h_Listener_hear_all.F sc_Listener_hear_all fun cdv A outer s H E hr tk =>
  (ess_cons (es_drop (ev_meth (C := 0) (ev_var 0 (pv 0)) T.cl_0 T.h_Listener_check_stand.m (okc_Listener_check_stand T) (hr.mono (by decide)) T.h_Listener_check_stand.b tk (ec_d (ev_var 1 (pv 1)) ec_nil)))
    (ess_cons (es_if (eb_not (eb_val (ev_isi (T := "list") (pe_bltn (by rfl) T.n_list Bt.t_list rfl) (ev_var 2 (pv 2)) rfl (by rfl) T.n_isinstance))) (ess_one es_never) ess_nil)
    (ess_cons (es_for (passes_of rfl) rfl (ei_enum (ev_var 2 (pv 2)) rfl (by rfl) T.n_enumerate) (eg_tup rfl (egs_cons (eg_name (pg_name (i := 3) sc_Listener_hear_all.nd rfl (by first | exact Or.inl rfl | exact Or.inr rfl))) (egs_cons (eg_name (pg_name (i := 4) sc_Listener_hear_all.nd rfl (by first | exact Or.inl rfl | exact Or.inr rfl))) egs_nil)) rfl) (ess_one (es_if (eb_not (eb_val (ev_call (okc_is_message T) (hr.mono (by decide)) (by rfl) T.h_is_message.m T.h_is_message.F.kp T.h_is_message.b tk (ec_d (ev_fld (C := 0) (ev_var 0 (pv 0)) T.cl_0 T.na_0_burdens rfl) (ec_d (ev_var 4 (pv 4)) ec_nil))))) (ess_one es_never) ess_nil)))
    (ess_cons (es_for (passes_of rfl) rfl (ei_list (ev_var 2 (pv 2)) rfl) (eg_name (pg_name (i := 4) sc_Listener_hear_all.nd rfl (by first | exact Or.inl rfl | exact Or.inr rfl))) (ess_one (es_set (ev_meth (C := 0) (ev_var 0 (pv 0)) T.cl_0 T.h_Listener_heard.m (okc_Listener_heard T) (hr.mono (by decide)) T.h_Listener_heard.b tk (ec_d (ev_var 1 (pv 1)) (ec_d (ev_var 4 (pv 4)) ec_nil))) (fun _ pt => ps_set (i := 1) sc_Listener_hear_all.nd rfl (Or.inl rfl) pt))))
    (ess_one (es_ret (ev_var 1 (pv 1))))))))
def c_Listener_hear_all (as : List Sl) : W D := fun Q _ => ∃ (p : Parts) (m : Nat) (s : Stand) (gs : List Msg), as = [.fz (dL p), .fz (dStand s), .fz (dList dMsg gs)] ∧ PartsOk m p ∧ StandOk p m s ∧ (∀ g ∈ gs, MsgOk p g) ∧ Q (dStand (hearAll p s gs))
theorem ref_Listener_hear_all (as : List Sl) (Q : D → Prop) (E : Xc → Prop) (h : c_Listener_hear_all as Q E) : m_Listener_hear_all as Q E := by
  obtain ⟨p, m, s, gs, rfl, ok, hs, hg, k⟩ := h
  refine ⟨rfl, ?_⟩
  simp [b_Listener_hear_all]
  refine ⟨no_check_stand, p, m, s, rfl, ok, hs, ?_⟩
  simp
  refine forE_inv (fun _ ρ => ∃ a3 a4 : Sl, ρ = [.fz (dL p), .fz (dStand s), .fz (dList dMsg gs), a3, a4]) (fun i d ρ K hi ⟨a3, a4, e⟩ hk _ _ _ => ?_) (fun ρ ⟨a3, a4, e⟩ => ?_) ⟨.un, .un, rfl⟩
  · subst e
    obtain ⟨x, hx, rfl⟩ := zip_at hi
    have hgx := hg x (List.mem_of_getElem? hx)
    simp
    refine fld_burdens ⟨p, x, rfl, ok.b, hgx, ?_⟩
    simp
    exact hk _ ⟨_, _, rfl⟩
  · subst e
    simp
    refine forE_inv (fun i ρ => ∃ a3 a4 : Sl, ρ = [.fz (dL p), .fz (dStand (hearAll p s (gs.take i))), .fz (dList dMsg gs), a3, a4]) (fun i d ρ K hi ⟨a3, a4, e⟩ hk _ _ _ => ?_) (fun ρ ⟨a3, a4, e⟩ => ?_) ⟨a3, a4, rfl⟩
    · subst e
      obtain ⟨x, hx, rfl⟩ := map_at hi
      have hgx := hg x (List.mem_of_getElem? hx)
      simp
      refine ⟨no_heard, p, m, _, x, rfl, ok, hearAll_ok ok hs (fun g hgm => hg g (List.mem_of_mem_take hgm)), hgx, hk _ ⟨a3, .fz (dMsg x), ?_⟩⟩
      rw [take_next hx]
      simp [hearAll]
    · subst e
      simpa using k

theorem okc_Listener_hear_all (T : Txt K mg a) : FnOk P w K mg base (L2.CX P w) 6 a.a_Listener_hear_all a.d_Listener_hear_all ["self", "stand", "messages"] (PSp (G K a) c_Listener_hear_all) := (ok_Listener_hear_all T).imp fun _ _ _ _ h => PSp.mono ref_Listener_hear_all h
abbrev s_law_is_integer : Stmt := (top 41)
abbrev N_law_is_integer : List Str := ["_law_value"]
theorem sc_law_is_integer : FnScope N_law_is_integer ["_law_value"] (defScope s_law_is_integer) := ⟨rfl, rfl, rfl, by decide +kernel, rfl, by decide +kernel, by decide +kernel⟩
def b_law_is_integer : PL.Env → Ws := (sRet (andV (un1 (isiD "int") (rd 0)) (notV (un1 (isiD "bool") (rd 0)))))
def m_law_is_integer : List Sl → W D := mFun 1 N_law_is_integer.length b_law_is_integer
theorem ok_law_is_integer (T : Txt K mg a) : FnOk P w K mg base (L2.CX P w) 1 a.a_law_is_integer a.d_law_is_integer ["_law_value"] (PSp (G K a) m_law_is_integer) :=
  fn_ok (G := G K a) T.h_law_is_integer.F sc_law_is_integer fun cdv A outer s H E hr tk =>
  (ess_one (es_ret (ev_and (ev_isi (T := "int") (pe_bltn (by rfl) T.n_int Bt.t_int rfl) (ev_var 0 (pv 0)) rfl (by rfl) T.n_isinstance) (ev_one (ev_not (ev_isi (T := "bool") (pe_bltn (by rfl) T.n_bool Bt.t_bool rfl) (ev_var 0 (pv 0)) rfl (by rfl) T.n_isinstance))))))
def c_law_is_integer : List Sl → W D
  | [.fz (.int i)] => W.pure (.bl true)
  | _ => W.fail
@[simp] theorem c_law_is_integer_app {i : Int} {Q : D → Prop} {E : Xc → Prop} : c_law_is_integer [.fz (.int i)] Q E = Q (.bl true) := rfl
theorem ref_law_is_integer (as : List Sl) (Q : D → Prop) (E : Xc → Prop) (h : c_law_is_integer as Q E) : m_law_is_integer as Q E := by
  unfold c_law_is_integer at h
  split at h
  · have h : Q (.bl true) := h
    exact ⟨rfl, by simpa [b_law_is_integer] using h⟩
  · exact h.elim

theorem okc_law_is_integer (T : Txt K mg a) : FnOk P w K mg base (L2.CX P w) 1 a.a_law_is_integer a.d_law_is_integer ["_law_value"] (PSp (G K a) c_law_is_integer) := (ok_law_is_integer T).imp fun _ _ _ _ h => PSp.mono ref_law_is_integer h
abbrev s_law_are_numbers : Stmt := (top 42)
abbrev N_law_are_numbers : List Str := ["_law_actual", "_law_expected", "_law_entry"]
theorem sc_law_are_numbers : FnScope N_law_are_numbers ["_law_actual", "_law_expected"] (defScope s_law_are_numbers) := ⟨rfl, rfl, rfl, by decide +kernel, rfl, by decide +kernel, by decide +kernel⟩
def b_law_are_numbers : PL.Env → Ws := (sSeq (sIf (orB (notB (testB (un1 (isiD "tuple") (rd 0)))) (testB (bin2 neD (callN lenD (consA (rd 0) nilA)) (callN lenD (consA (rd 1) nilA))))) (sRet (kst (.bl false))) sNx)
    (sRet (andV (callN (allD fun bs => bs.all id) (consA (lstV (lcN (tupI (rd 0)) [2] (nameG 2) yesB (callF c_law_is_integer (dC (rd 2) nilC)))) nilA)) (bin2 eqD (rd 0) (rd 1)))))
def m_law_are_numbers : List Sl → W D := mFun 2 N_law_are_numbers.length b_law_are_numbers
theorem ok_law_are_numbers (T : Txt K mg a) : FnOk P w K mg base (L2.CX P w) 2 a.a_law_are_numbers a.d_law_are_numbers ["_law_actual", "_law_expected"] (PSp (G K a) m_law_are_numbers) :=
  fn_ok (G := G K a) T.h_law_are_numbers.F sc_law_are_numbers fun cdv A outer s H E hr tk =>
  (ess_cons (es_if (eb_w (ew_or (eb_not (eb_val (ev_isi (T := "tuple") (pe_bltn (by rfl) T.n_tuple Bt.t_tuple rfl) (ev_var 0 (pv 0)) rfl (by rfl) T.n_isinstance))) (ew_or1 (eb_cmp (op_neD hr.units) o_ne (ev_callB call_len_seq o_len (by rfl) T.n_len PySem.boot_len (ea_cons (ev_var 0 (pv 0)) ea_nil')) (ev_callB call_len_seq o_len (by rfl) T.n_len PySem.boot_len (ea_cons (ev_var 1 (pv 1)) ea_nil')) (nomark _))))) (ess_one (es_ret ev_bl)) ess_nil)
    (ess_one (es_ret (ev_and (ev_callB (cr_all rfl) o_all (by rfl) T.n_all Bt.all (ea_cons (En.ev (en_lc (own := [("_law_entry", 2)]) rfl sc_law_are_numbers.nd (ei_tup (ev_var 0 (pv 0)) rfl) (blkOk_by (N := N_law_are_numbers) (sc := (defScope s_law_are_numbers)) (by decide +kernel)) (fun _ _ _ _ _ => (eg_name (pg_name (i := 2) sc_law_are_numbers.nd rfl (by first | exact Or.inl rfl | exact Or.inr rfl)))) (fun _ _ _ _ _ => ets_nil) (fun _ _ _ _ _ => (ev_call (okc_law_is_integer T) (hr.mono (by decide)) (by rfl) T.h_law_is_integer.m T.h_law_is_integer.F.kp T.h_law_is_integer.b takes0 (ec_d (ev_var 2 (pv 2)) ec_nil))) (by decide))) ea_nil')) (ev_one (ev_cmp (op_eqD hr.units) o_eq (ev_var 0 (pv 0)) (ev_var 1 (pv 1)) (nomark _)))))))
def c_law_are_numbers (as : List Sl) : W D := fun Q _ => ∃ ns : List Int, as = [.fz (dTup ns), .fz (dTup ns)] ∧ ns.length ≤ 1000 ∧ Q (.bl true)
theorem ref_law_are_numbers (as : List Sl) (Q : D → Prop) (E : Xc → Prop) (h : c_law_are_numbers as Q E) : m_law_are_numbers as Q E := by
  obtain ⟨ns, rfl, hn, k⟩ := h
  refine ⟨rfl, ?_⟩
  simp [b_law_are_numbers]
  refine ⟨⟨rfl, sz (by omega)⟩, ?_⟩
  refine lcL_map (fun _ => .bl true) (fun x hx K hK => by simpa [wipeE] using hK) (allD_true ?_)
  simp
  exact eqD_self 1 (by decide) (by simp [okN, dTupL, okNs_ints]) k

theorem okc_law_are_numbers (T : Txt K mg a) : FnOk P w K mg base (L2.CX P w) 2 a.a_law_are_numbers a.d_law_are_numbers ["_law_actual", "_law_expected"] (PSp (G K a) c_law_are_numbers) := (ok_law_are_numbers T).imp fun _ _ _ _ h => PSp.mono ref_law_are_numbers h
abbrev s_law_same_stand : Stmt := (top 43)
abbrev N_law_same_stand : List Str := ["_law_actual", "_law_expected"]
theorem sc_law_same_stand : FnScope N_law_same_stand ["_law_actual", "_law_expected"] (defScope s_law_same_stand) := ⟨rfl, rfl, rfl, by decide +kernel, rfl, by decide +kernel, by decide +kernel⟩
def b_law_same_stand : PL.Env → Ws := (sSeq (sIf (orB (notB (testB (un1 (isiD "tuple") (rd 0)))) (orB (testB (bin2 neD (callN lenD (consA (rd 0) nilA)) (kst (.int 2)))) (notB (testB (callF c_law_is_integer (dC (bin2 ixD (rd 0) (kst (.int 0))) nilC)))))) (sRet (kst (.bl false))) sNx)
    (sRet (andV (bin2 eqD (bin2 ixD (rd 0) (kst (.int 0))) (bin2 ixD (rd 1) (kst (.int 0)))) (callF c_law_are_numbers (dC (bin2 ixD (rd 0) (kst (.int 1))) (dC (bin2 ixD (rd 1) (kst (.int 1))) nilC))))))
def m_law_same_stand : List Sl → W D := mFun 2 N_law_same_stand.length b_law_same_stand
theorem ok_law_same_stand (T : Txt K mg a) : FnOk P w K mg base (L2.CX P w) 3 a.a_law_same_stand a.d_law_same_stand ["_law_actual", "_law_expected"] (PSp (G K a) m_law_same_stand) :=
  fn_ok (G := G K a) T.h_law_same_stand.F sc_law_same_stand fun cdv A outer s H E hr tk =>
  (ess_cons (es_if (eb_w (ew_or (eb_not (eb_val (ev_isi (T := "tuple") (pe_bltn (by rfl) T.n_tuple Bt.t_tuple rfl) (ev_var 0 (pv 0)) rfl (by rfl) T.n_isinstance))) (ew_or (eb_cmp (op_neD hr.units) o_ne (ev_callB call_len_seq o_len (by rfl) T.n_len PySem.boot_len (ea_cons (ev_var 0 (pv 0)) ea_nil')) ev_int (nomark _)) (ew_or1 (eb_not (eb_val (ev_call (okc_law_is_integer T) (hr.mono (by decide)) (by rfl) T.h_law_is_integer.m T.h_law_is_integer.F.kp T.h_law_is_integer.b tk (ec_d (ev_ix (ev_var 0 (pv 0)) ev_int rfl (fun _ _ => rfl)) ec_nil)))))))) (ess_one (es_ret ev_bl)) ess_nil)
    (ess_one (es_ret (ev_and (ev_cmp (op_eqD hr.units) o_eq (ev_ix (ev_var 0 (pv 0)) ev_int rfl (fun _ _ => rfl)) (ev_ix (ev_var 1 (pv 1)) ev_int rfl (fun _ _ => rfl)) (nomark _)) (ev_one (ev_call (okc_law_are_numbers T) (hr.mono (by decide)) (by rfl) T.h_law_are_numbers.m T.h_law_are_numbers.F.kp T.h_law_are_numbers.b tk (ec_d (ev_ix (ev_var 0 (pv 0)) ev_int rfl (fun _ _ => rfl)) (ec_d (ev_ix (ev_var 1 (pv 1)) ev_int rfl (fun _ _ => rfl)) ec_nil))))))))
def c_law_same_stand (as : List Sl) : W D := fun Q _ => ∃ s : Stand, as = [.fz (dStand s), .fz (dStand s)] ∧ s.cs.length ≤ 1000 ∧ Q (.bl true)
theorem ref_law_same_stand (as : List Sl) (Q : D → Prop) (E : Xc → Prop) (h : c_law_same_stand as Q E) : m_law_same_stand as Q E := by
  obtain ⟨s, rfl, hn, k⟩ := h
  refine ⟨rfl, ?_⟩
  simp [b_law_same_stand, dStand]
  exact ⟨s.cs, rfl, hn, k⟩

theorem okc_law_same_stand (T : Txt K mg a) : FnOk P w K mg base (L2.CX P w) 3 a.a_law_same_stand a.d_law_same_stand ["_law_actual", "_law_expected"] (PSp (G K a) c_law_same_stand) := (ok_law_same_stand T).imp fun _ _ _ _ h => PSp.mono ref_law_same_stand h
abbrev s_law_gaps : Stmt := (top 44)
abbrev N_law_gaps : List Str := ["_law_listener_here", "_law_one", "_law_other", "_law_messages", "_law_left", "_law_right", "_law_cell"]
theorem sc_law_gaps : FnScope N_law_gaps ["_law_listener_here", "_law_one", "_law_other", "_law_messages"] (defScope s_law_gaps) := ⟨rfl, rfl, rfl, by decide +kernel, rfl, by decide +kernel, by decide +kernel⟩
def b_law_gaps : PL.Env → Ws := (sSeq (sSet 4 (callM 0 "hear_all" c_Listener_hear_all (rd 0) (dC (rd 1) (dC (rd 3) nilC))))
    (sSeq (sSet 5 (callM 0 "hear_all" c_Listener_hear_all (rd 0) (dC (rd 2) (dC (rd 3) nilC))))
    (sSeq (sIf (orB (notB (testB (callF c_law_same_stand (dC (rd 4) (dC (rd 4) nilC))))) (orB (notB (testB (callF c_law_same_stand (dC (rd 5) (dC (rd 5) nilC))))) (testB (bin2 neD (bin2 ixD (rd 4) (kst (.int 0))) (bin2 ixD (rd 5) (kst (.int 0))))))) (sRet (kst .non)) sNx)
    (sSeq (sIf (orB (testB (bin2 neD (callN lenD (consA (bin2 ixD (rd 4) (kst (.int 1))) nilA)) (callN lenD (consA (bin2 ixD (rd 1) (kst (.int 1))) nilA)))) (testB (bin2 neD (callN lenD (consA (bin2 ixD (rd 5) (kst (.int 1))) nilA)) (callN lenD (consA (bin2 ixD (rd 1) (kst (.int 1))) nilA))))) (sRet (kst .non)) sNx)
    (sRet (lstV (lcN (rng1 (callN lenD (consA (bin2 ixD (rd 4) (kst (.int 1))) nilA))) [6] (nameG 6) yesB (bin2 subD (bin2 ixD (bin2 ixD (rd 5) (kst (.int 1))) (rd 6)) (bin2 ixD (bin2 ixD (rd 4) (kst (.int 1))) (rd 6))))))))))
def m_law_gaps : List Sl → W D := mFun 4 N_law_gaps.length b_law_gaps
theorem ok_law_gaps (T : Txt K mg a) : FnOk P w K mg base (L2.CX P w) 7 a.a_law_gaps a.d_law_gaps ["_law_listener_here", "_law_one", "_law_other", "_law_messages"] (PSp (G K a) m_law_gaps) :=
  fn_ok (G := G K a) T.h_law_gaps.F sc_law_gaps fun cdv A outer s H E hr tk =>
  (ess_cons (es_set (ev_meth (C := 0) (ev_var 0 (pv 0)) T.cl_0 T.h_Listener_hear_all.m (okc_Listener_hear_all T) (hr.mono (by decide)) T.h_Listener_hear_all.b tk (ec_d (ev_var 1 (pv 1)) (ec_d (ev_var 3 (pv 3)) ec_nil))) (fun _ pt => ps_set (i := 4) sc_law_gaps.nd rfl (Or.inr rfl) pt))
    (ess_cons (es_set (ev_meth (C := 0) (ev_var 0 (pv 0)) T.cl_0 T.h_Listener_hear_all.m (okc_Listener_hear_all T) (hr.mono (by decide)) T.h_Listener_hear_all.b tk (ec_d (ev_var 2 (pv 2)) (ec_d (ev_var 3 (pv 3)) ec_nil))) (fun _ pt => ps_set (i := 5) sc_law_gaps.nd rfl (Or.inr rfl) pt))
    (ess_cons (es_if (eb_w (ew_or (eb_not (eb_val (ev_call (okc_law_same_stand T) (hr.mono (by decide)) (by rfl) T.h_law_same_stand.m T.h_law_same_stand.F.kp T.h_law_same_stand.b tk (ec_d (ev_var 4 (pv 4)) (ec_d (ev_var 4 (pv 4)) ec_nil))))) (ew_or (eb_not (eb_val (ev_call (okc_law_same_stand T) (hr.mono (by decide)) (by rfl) T.h_law_same_stand.m T.h_law_same_stand.F.kp T.h_law_same_stand.b tk (ec_d (ev_var 5 (pv 5)) (ec_d (ev_var 5 (pv 5)) ec_nil))))) (ew_or1 (eb_cmp (op_neD hr.units) o_ne (ev_ix (ev_var 4 (pv 4)) ev_int rfl (fun _ _ => rfl)) (ev_ix (ev_var 5 (pv 5)) ev_int rfl (fun _ _ => rfl)) (nomark _)))))) (ess_one (es_ret ev_non)) ess_nil)
    (ess_cons (es_if (eb_w (ew_or (eb_cmp (op_neD hr.units) o_ne (ev_callB call_len_seq o_len (by rfl) T.n_len PySem.boot_len (ea_cons (ev_ix (ev_var 4 (pv 4)) ev_int rfl (fun _ _ => rfl)) ea_nil')) (ev_callB call_len_seq o_len (by rfl) T.n_len PySem.boot_len (ea_cons (ev_ix (ev_var 1 (pv 1)) ev_int rfl (fun _ _ => rfl)) ea_nil')) (nomark _)) (ew_or1 (eb_cmp (op_neD hr.units) o_ne (ev_callB call_len_seq o_len (by rfl) T.n_len PySem.boot_len (ea_cons (ev_ix (ev_var 5 (pv 5)) ev_int rfl (fun _ _ => rfl)) ea_nil')) (ev_callB call_len_seq o_len (by rfl) T.n_len PySem.boot_len (ea_cons (ev_ix (ev_var 1 (pv 1)) ev_int rfl (fun _ _ => rfl)) ea_nil')) (nomark _))))) (ess_one (es_ret ev_non)) ess_nil)
    (ess_one (es_ret (En.ev (en_lc (own := [("_law_cell", 6)]) rfl sc_law_gaps.nd (ei_rng1 (ev_callB call_len_seq o_len (by rfl) T.n_len PySem.boot_len (ea_cons (ev_ix (ev_var 4 (pv 4)) ev_int rfl (fun _ _ => rfl)) ea_nil')) (by rfl) T.n_range) (blkOk_by (N := N_law_gaps) (sc := (defScope s_law_gaps)) (by decide +kernel)) (fun _ _ _ _ _ => (eg_name (pg_name (i := 6) sc_law_gaps.nd rfl (by first | exact Or.inl rfl | exact Or.inr rfl)))) (fun _ _ _ _ _ => ets_nil) (fun _ _ _ _ _ => (ev_bin op_sub o_sub (ev_ix (ev_ix (ev_var 5 (pv 5)) ev_int rfl (fun _ _ => rfl)) (ev_var 6 (pv 6)) rfl (fun _ _ => rfl)) (ev_ix (ev_ix (ev_var 4 (pv 4)) ev_int rfl (fun _ _ => rfl)) (ev_var 6 (pv 6)) rfl (fun _ _ => rfl)))) (by decide)))))))))
def c_law_gaps (as : List Sl) : W D := fun Q _ => ∃ (p : Parts) (m : Nat) (s t : Stand) (gs : List Msg), as = [.fz (dL p), .fz (dStand s), .fz (dStand t), .fz (dList dMsg gs)] ∧ PartsOk m p ∧ StandOk p m s ∧ StandOk p m t ∧ s.c = t.c ∧ (∀ g ∈ gs, MsgOk p g) ∧ Q (dRow (gapRun p s.c (gs.map Msg.k) (gap s t)))
theorem gap_range {v w : List Int} (h : v.length = w.length) : ((List.range v.length).map fun k => w.getD k 0 - v.getD k 0) = List.zipWith (fun a b => b - a) v w := by
  apply List.ext_getElem
  · simp [h]
  · intro i h1 h2
    simp at h1
    have h3 : i < w.length := by omega
    simp [List.getD_eq_getElem?_getD, h1, h3]
theorem ref_law_gaps (as : List Sl) (Q : D → Prop) (E : Xc → Prop) (h : c_law_gaps as Q E) : m_law_gaps as Q E := by
  obtain ⟨p, m, s, t, gs, rfl, ok, hs, ht, e, hg, k⟩ := h
  refine ⟨rfl, ?_⟩
  obtain ⟨ec, eg⟩ := gap_run ok hs ht e hg
  have h1 := hearAll_ok ok hs hg
  have h2 := hearAll_ok ok ht hg
  have l1 := h1.2.2
  have l2 := h2.2.2
  have l3 := hs.2.2
  have hm := ok.m3
  simp [b_law_gaps]
  refine ⟨no_hear_all, p, m, s, gs, rfl, ok, hs, hg, no_hear_all, p, m, t, gs, rfl, ok, ht, hg, ?_⟩
  refine ⟨_, rfl, by omega, ?_⟩
  simp
  refine ⟨_, rfl, by omega, ?_⟩
  simp [ec, l1, l2, l3]
  refine ⟨by omega, ⟨rfl, sz (by omega)⟩, ?_⟩
  refine lcL_map (fun k => .int ((hearAll p t gs).cs.getD k 0 - (hearAll p s gs).cs.getD k 0)) (fun i hi K hK => ?_) ?_
  · have hi' : i < m := by simpa using hi
    have e1 : (hearAll p t gs).cs[i]? = some ((hearAll p t gs).cs.getD i 0) := by simp [List.getD_eq_getElem?_getD, l2, hi']
    have e2 : (hearAll p s gs).cs[i]? = some ((hearAll p s gs).cs.getD i 0) := by simp [List.getD_eq_getElem?_getD, l1, hi']
    simp only [nameG_app, wipeE]
    simp
    exact ⟨_, atI_nat e1, _, atI_nat e2, hK⟩
  · have er := gap_range (v := (hearAll p s gs).cs) (w := (hearAll p t gs).cs) (by omega)
    rw [l1] at er
    have e9 : D.lst ((List.range m).map fun k => D.int ((hearAll p t gs).cs.getD k 0 - (hearAll p s gs).cs.getD k 0)) = dRow (gapRun p s.c (gs.map Msg.k) (gap s t)) := by
      rw [← eg]
      show _ = D.lst ((gap (hearAll p s gs) (hearAll p t gs)).map D.int)
      unfold gap
      rw [← er, List.map_map]
      rfl
    rw [e9]
    exact k

theorem okc_law_gaps (T : Txt K mg a) : FnOk P w K mg base (L2.CX P w) 7 a.a_law_gaps a.d_law_gaps ["_law_listener_here", "_law_one", "_law_other", "_law_messages"] (PSp (G K a) c_law_gaps) := (ok_law_gaps T).imp fun _ _ _ _ h => PSp.mono ref_law_gaps h
abbrev s_law : Stmt := (top 45)
abbrev N_law : List Str := ["_law_script", "_law_parts_here", "_law_listener_here", "_law_cells", "_law_pool_here", "_law_control", "_law_one", "_law_cell", "_law_other", "_law_third", "_law_first", "_law_second", "_law_k", "_law_source", "_law_kind", "_law_carried", "_law_many", "_law_due", "_law_same", "_law_twice", "_law_gap"]
theorem sc_law : FnScope N_law ["_law_script"] (defScope s_law) := ⟨rfl, rfl, rfl, by decide +kernel, rfl, by decide +kernel, by decide +kernel⟩
def b_law : PL.Env → Ws := (sSeq (sSet 1 (callF c_law_parts (newC (callP c_law_pool (slC 0 (dC (kst (.int 0)) nilC))) nilC)))
    (sSeq (sSet 2 (callF c_law_listener (dC (rd 1) nilC)))
    (sSeq (sSet 3 (callN lenD (consA (bin2 ixD (bin2 ixD (bin2 ixD (bin2 ixD (rd 1) (kst (.int 1))) (kst (.int 0))) (kst (.int 0))) (kst (.int 1))) nilA)))
    (sSeq (sSetP 4 (callP c_law_pool (slC 0 (dC (kst (.int 1)) nilC))))
    (sSeq (sSet 5 (callF c_law_draw (slC 4 (dC (callN lenD (consA (bin2 ixD (rd 1) (kst (.int 1))) nilA)) nilC))))
    (sSeq (sSet 6 (lstV (lcN (rng1 (rd 3)) [7] (nameG 7) yesB (bin2 divD (callF c_law_number (slC 4 nilC)) (kst (.int 3))))))
    (sSeq (sSet 8 (lstV (lcN (rng1 (rd 3)) [7] (nameG 7) yesB (bin2 divD (callF c_law_number (slC 4 nilC)) (kst (.int 3))))))
    (sSeq (sSet 9 (lstV (lcN (rng1 (rd 3)) [7] (nameG 7) yesB (bin2 subD (bin2 mulD (kst (.int 2)) (bin2 ixD (rd 8) (rd 7))) (bin2 ixD (rd 6) (rd 7))))))
    (sSeq (sSetN 10 (dispN nilA))
    (sSeq (sSetN 11 (dispN nilA))
    (sSeq (sFor (rng1 (callN min2D (consA (kst (.int 50)) (consA (callN max2D (consA (kst (.int 6)) (consA (bin2 subD (lenS 0) (kst (.int 2))) nilA))) nilA)))) (nameG 12) (sSeq (sSetP 13 (callP c_law_pool (slC 0 (dC (bin2 addD (kst (.int 2)) (rd 12)) nilC))))
    (sSeq (sSet 14 (callF c_law_draw (slC 13 (dC (callN lenD (consA (bin2 ixD (rd 1) (kst (.int 0))) nilA)) nilC))))
    (sSeq (sApp 10 (dispL D.tup (consA (rd 14) (consA (callN tupleD (consA (lstV (lcN (rng1 (bin2 ixD (bin2 ixD (rd 1) (kst (.int 0))) (rd 14))) [15] (nameG 15) yesB (callF c_law_number (slC 13 nilC)))) nilA)) nilA))))
    (sApp 11 (dispL D.tup (consA (rd 14) (consA (callN tupleD (consA (lstV (lcN (rng1 (bin2 ixD (bin2 ixD (rd 1) (kst (.int 0))) (rd 14))) [15] (nameG 15) yesB (callF c_law_number (slC 13 nilC)))) nilA)) nilA))))))))
    (sFrz 10 (sFrz 11 (sSeq (sFor (rng1 (kst (.int 4))) (nameG 12) (sSeq (sSet 16 (callN lenD (consA (rd 10) nilA)))
    (sSeq (sIf (testB (bin2 ltD (rd 12) (kst (.int 3)))) (sSet 16 (callF c_law_draw (slC 4 (dC (bin2 addD (callN lenD (consA (rd 10) nilA)) (kst (.int 1))) nilC)))) sNx)
    (sSeq (sSet 17 (callF c_law_gaps (dC (rd 2) (dC (dispL D.tup (consA (rd 5) (consA (callN tupleD (consA (rd 6) nilA)) nilA))) (dC (dispL D.tup (consA (rd 5) (consA (callN tupleD (consA (rd 8) nilA)) nilA))) (dC (slL (rd 10) (fun _ => W.pure none) (intO (rd 16))) nilC))))))
    (sSeq (sSet 18 (callF c_law_gaps (dC (rd 2) (dC (dispL D.tup (consA (rd 5) (consA (callN tupleD (consA (rd 6) nilA)) nilA))) (dC (dispL D.tup (consA (rd 5) (consA (callN tupleD (consA (rd 8) nilA)) nilA))) (dC (slL (rd 11) (fun _ => W.pure none) (intO (rd 16))) nilC))))))
    (sSeq (sSet 19 (callF c_law_gaps (dC (rd 2) (dC (dispL D.tup (consA (rd 5) (consA (callN tupleD (consA (rd 6) nilA)) nilA))) (dC (dispL D.tup (consA (rd 5) (consA (callN tupleD (consA (rd 9) nilA)) nilA))) (dC (slL (rd 10) (fun _ => W.pure none) (intO (rd 16))) nilC))))))
    (sSeq (sIf (orB (testB (bin2 isND (rd 17) (kst .non))) (orB (testB (bin2 neD (rd 17) (rd 18))) (testB (bin2 isND (rd 19) (kst .non))))) (sRet (kst (.bl false))) sNx)
    (sIf (testB (bin2 neD (rd 19) (lstV (lcN (lstI (rd 17)) [20] (nameG 20) yesB (bin2 mulD (kst (.int 2)) (rd 20)))))) (sRet (kst (.bl false))) sNx))))))))
    (sRet (kst (.bl true)))))))))))))))))
def m_law : List Sl → W D := mFun 1 N_law.length b_law
theorem okb_law (T : Txt K mg a) (cdv : Value) (A : Around) (outer : List PySem.Env) (s : Shared) (H : Hp) (hr : Room 9 (A.deeper (PyProof.Rows.envOfC "law" (defScope s_law) s.heap.objs.size a.a_law cdv))) :
    Ess (G K a) (cxOf CX0 P w K mg base N_law "law" (defScope s_law) a.a_law cdv A outer s H E0).nox WF (defBody s_law) b_law :=
  (ess_cons (es_set (ev_call (okc_law_parts T) (hr.mono (by decide)) (by rfl) T.h_law_parts.m T.h_law_parts.F.kp T.h_law_parts.b takes0 (ec_new (ep_call (okc_law_pool T) (hr.mono (by decide)) (by rfl) T.h_law_pool.m T.h_law_pool.F.kp T.h_law_pool.b takes0 (ec_slot (pv 0) (ec_d ev_int ec_nil))) ec_nil)) (fun _ pt => ps_set (i := 1) sc_law.nd rfl (Or.inl rfl) pt))
    (ess_cons (es_set (ev_call (okc_law_listener T) (hr.mono (by decide)) (by rfl) T.h_law_listener.m T.h_law_listener.F.kp T.h_law_listener.b takes0 (ec_d (ev_var 1 (pv 1)) ec_nil)) (fun _ pt => ps_set (i := 2) sc_law.nd rfl (Or.inl rfl) pt))
    (ess_cons (es_set (ev_callB call_len_seq o_len (by rfl) T.n_len PySem.boot_len (ea_cons (ev_ix (ev_ix (ev_ix (ev_ix (ev_var 1 (pv 1)) ev_int rfl (fun _ _ => rfl)) ev_int rfl (fun _ _ => rfl)) ev_int rfl (fun _ _ => rfl)) ev_int rfl (fun _ _ => rfl)) ea_nil')) (fun _ pt => ps_set (i := 3) sc_law.nd rfl (Or.inl rfl) pt))
    (ess_cons (es_setP (ep_call (okc_law_pool T) (hr.mono (by decide)) (by rfl) T.h_law_pool.m T.h_law_pool.F.kp T.h_law_pool.b takes0 (ec_slot (pv 0) (ec_d ev_int ec_nil))) (fun _ pt => ps_set (i := 4) sc_law.nd rfl (Or.inr rfl) pt))
    (ess_cons (es_set (ev_call (okc_law_draw T) (hr.mono (by decide)) (by rfl) T.h_law_draw.m T.h_law_draw.F.kp T.h_law_draw.b takes0 (ec_slot (pv 4) (ec_d (ev_callB call_len_seq o_len (by rfl) T.n_len PySem.boot_len (ea_cons (ev_ix (ev_var 1 (pv 1)) ev_int rfl (fun _ _ => rfl)) ea_nil')) ec_nil))) (fun _ pt => ps_set (i := 5) sc_law.nd rfl (Or.inl rfl) pt))
    (ess_cons (es_set (En.ev (en_lc (own := [("_law_cell", 7)]) rfl sc_law.nd (ei_rng1 (ev_var 3 (pv 3)) (by rfl) T.n_range) (blkOk_by (N := N_law) (sc := (defScope s_law)) (by decide +kernel)) (fun _ _ _ _ _ => (eg_name (pg_name (i := 7) sc_law.nd rfl (by first | exact Or.inl rfl | exact Or.inr rfl)))) (fun _ _ _ _ _ => ets_nil) (fun _ _ _ _ _ => (ev_bin op_divs o_div (ev_call (okc_law_number T) (hr.mono (by decide)) (by rfl) T.h_law_number.m T.h_law_number.F.kp T.h_law_number.b takes0 (ec_slot (pv 4) ec_nil)) ev_int)) (by decide))) (fun _ pt => ps_set (i := 6) sc_law.nd rfl (Or.inr rfl) pt))
    (ess_cons (es_set (En.ev (en_lc (own := [("_law_cell", 7)]) rfl sc_law.nd (ei_rng1 (ev_var 3 (pv 3)) (by rfl) T.n_range) (blkOk_by (N := N_law) (sc := (defScope s_law)) (by decide +kernel)) (fun _ _ _ _ _ => (eg_name (pg_name (i := 7) sc_law.nd rfl (by first | exact Or.inl rfl | exact Or.inr rfl)))) (fun _ _ _ _ _ => ets_nil) (fun _ _ _ _ _ => (ev_bin op_divs o_div (ev_call (okc_law_number T) (hr.mono (by decide)) (by rfl) T.h_law_number.m T.h_law_number.F.kp T.h_law_number.b takes0 (ec_slot (pv 4) ec_nil)) ev_int)) (by decide))) (fun _ pt => ps_set (i := 8) sc_law.nd rfl (Or.inr rfl) pt))
    (ess_cons (es_setLc (i := 9) (own := [("_law_cell", 7)]) rfl sc_law.nd rfl rfl (sw_true rfl rfl rfl (by decide +kernel)) (ei_rng1 (ev_var 3 (pv 3)) (by rfl) T.n_range) (blkOk_by (N := N_law) (sc := (defScope s_law)) (by decide +kernel)) (fun _ _ _ _ _ => (eg_name (pg_name (i := 7) sc_law.nd rfl (by first | exact Or.inl rfl | exact Or.inr rfl)))) (fun _ _ _ _ _ => ets_nil) (fun _ _ _ _ _ => (ev_bin op_sub o_sub (ev_bin op_muls o_mul ev_int (ev_ix (ev_var 8 (pv 8)) (ev_var 7 (pv 7)) rfl (fun _ _ => rfl))) (ev_ix (ev_var 6 (pv 6)) (ev_var 7 (pv 7)) rfl (fun _ _ => rfl)))) (by decide))
    (ess_cons (es_setN (en_lst ea_nil') (fun _ pt => ps_set (i := 10) sc_law.nd rfl (Or.inl rfl) pt))
    (ess_cons (es_setN (en_lst ea_nil') (fun _ pt => ps_set (i := 11) sc_law.nd rfl (Or.inl rfl) pt))
    (ess_cons (es_for PassesOwn.never rfl (ei_rng1 (ev_callB (call_min2 rfl) o_min2 (by rfl) T.n_min Bt.min (ea_cons ev_int (ea_cons (ev_callB (call_max2 rfl) o_max2 (by rfl) T.n_max Bt.max (ea_cons ev_int (ea_cons (ev_bin op_sub o_sub (ev_lenS (pe_callB call_len_seq (by rfl) T.n_len PySem.boot_len (pa_cons (pv 0) pa_nil)) rfl) ev_int) ea_nil'))) ea_nil'))) (by rfl) T.n_range) (eg_name (pg_name (i := 12) sc_law.nd rfl (by first | exact Or.inl rfl | exact Or.inr rfl))) (ess_cons (es_setP (ep_call (okc_law_pool T) (hr.mono (by decide)) (by rfl) T.h_law_pool.m T.h_law_pool.F.kp T.h_law_pool.b takes0 (ec_slot (pv 0) (ec_d (ev_bin op_adds o_add ev_int (ev_var 12 (pv 12))) ec_nil))) (fun _ pt => ps_set (i := 13) sc_law.nd rfl (Or.inr rfl) pt))
    (ess_cons (es_set (ev_call (okc_law_draw T) (hr.mono (by decide)) (by rfl) T.h_law_draw.m T.h_law_draw.F.kp T.h_law_draw.b takes0 (ec_slot (pv 13) (ec_d (ev_callB call_len_seq o_len (by rfl) T.n_len PySem.boot_len (ea_cons (ev_ix (ev_var 1 (pv 1)) ev_int rfl (fun _ _ => rfl)) ea_nil')) ec_nil))) (fun _ pt => ps_set (i := 14) sc_law.nd rfl (Or.inl rfl) pt))
    (ess_cons (es_app (fun _ pt => ps_expr (pe_bm PySem.F.plainAttrs_list PySem.F.slot_list_append PySem.F.type_list_append mt_append (pv 10) (pa_cons pt pa_nil))) rfl (ev_tup (ea_cons (ev_var 14 (pv 14)) (ea_cons (ev_callTy call_tuple_of o_tuple (by rfl) T.n_tuple Bt.t_tuple (ea_cons (En.ev (en_lc (own := [("_law_carried", 15)]) rfl sc_law.nd (ei_rng1 (ev_ix (ev_ix (ev_var 1 (pv 1)) ev_int rfl (fun _ _ => rfl)) (ev_var 14 (pv 14)) rfl (fun _ _ => rfl)) (by rfl) T.n_range) (blkOk_by (N := N_law) (sc := (defScope s_law)) (by decide +kernel)) (fun _ _ _ _ _ => (eg_name (pg_name (i := 15) sc_law.nd rfl (by first | exact Or.inl rfl | exact Or.inr rfl)))) (fun _ _ _ _ _ => ets_nil) (fun _ _ _ _ _ => (ev_call (okc_law_number T) (hr.mono (by decide)) (by rfl) T.h_law_number.m T.h_law_number.F.kp T.h_law_number.b takes0 (ec_slot (pv 13) ec_nil))) (by decide))) ea_nil')) ea_nil'))))
    (ess_one (es_app (fun _ pt => ps_expr (pe_bm PySem.F.plainAttrs_list PySem.F.slot_list_append PySem.F.type_list_append mt_append (pv 11) (pa_cons pt pa_nil))) rfl (ev_tup (ea_cons (ev_var 14 (pv 14)) (ea_cons (ev_callTy call_tuple_of o_tuple (by rfl) T.n_tuple Bt.t_tuple (ea_cons (En.ev (en_lc (own := [("_law_carried", 15)]) rfl sc_law.nd (ei_rng1 (ev_ix (ev_ix (ev_var 1 (pv 1)) ev_int rfl (fun _ _ => rfl)) (ev_var 14 (pv 14)) rfl (fun _ _ => rfl)) (by rfl) T.n_range) (blkOk_by (N := N_law) (sc := (defScope s_law)) (by decide +kernel)) (fun _ _ _ _ _ => (eg_name (pg_name (i := 15) sc_law.nd rfl (by first | exact Or.inl rfl | exact Or.inr rfl)))) (fun _ _ _ _ _ => ets_nil) (fun _ _ _ _ _ => (ev_call (okc_law_number T) (hr.mono (by decide)) (by rfl) T.h_law_number.m T.h_law_number.F.kp T.h_law_number.b takes0 (ec_slot (pv 13) ec_nil))) (by decide))) ea_nil')) ea_nil')))))))))
    (ess_frz 10 (ess_frz 11 (ess_cons (es_for PassesOwn.never rfl (ei_rng1 ev_int (by rfl) T.n_range) (eg_name (pg_name (i := 12) sc_law.nd rfl (by first | exact Or.inl rfl | exact Or.inr rfl))) (ess_cons (es_set (ev_callB call_len_seq o_len (by rfl) T.n_len PySem.boot_len (ea_cons (ev_var 10 (pv 10)) ea_nil')) (fun _ pt => ps_set (i := 16) sc_law.nd rfl (Or.inl rfl) pt))
    (ess_cons (es_if (eb_cmp op_lt (o_cmp (f := fun i j => decide (i < j))) (ev_var 12 (pv 12)) ev_int (nomark _)) (ess_one (es_set (ev_call (okc_law_draw T) (hr.mono (by decide)) (by rfl) T.h_law_draw.m T.h_law_draw.F.kp T.h_law_draw.b takes0 (ec_slot (pv 4) (ec_d (ev_bin op_adds o_add (ev_callB call_len_seq o_len (by rfl) T.n_len PySem.boot_len (ea_cons (ev_var 10 (pv 10)) ea_nil')) ev_int) ec_nil))) (fun _ pt => ps_set (i := 16) sc_law.nd rfl (Or.inl rfl) pt))) ess_nil)
    (ess_cons (es_set (ev_call (okc_law_gaps T) (hr.mono (by decide)) (by rfl) T.h_law_gaps.m T.h_law_gaps.F.kp T.h_law_gaps.b takes0 (ec_d (ev_var 2 (pv 2)) (ec_d (ev_tup (ea_cons (ev_var 5 (pv 5)) (ea_cons (ev_callTy call_tuple_of o_tuple (by rfl) T.n_tuple Bt.t_tuple (ea_cons (ev_var 6 (pv 6)) ea_nil')) ea_nil'))) (ec_d (ev_tup (ea_cons (ev_var 5 (pv 5)) (ea_cons (ev_callTy call_tuple_of o_tuple (by rfl) T.n_tuple Bt.t_tuple (ea_cons (ev_var 8 (pv 8)) ea_nil')) ea_nil'))) (ec_d (ev_sliceL (ev_var 10 (pv 10)) eo_none (eo_some (ev_var 16 (pv 16))) rfl) ec_nil))))) (fun _ pt => ps_set (i := 17) sc_law.nd rfl (Or.inl rfl) pt))
    (ess_cons (es_set (ev_call (okc_law_gaps T) (hr.mono (by decide)) (by rfl) T.h_law_gaps.m T.h_law_gaps.F.kp T.h_law_gaps.b takes0 (ec_d (ev_var 2 (pv 2)) (ec_d (ev_tup (ea_cons (ev_var 5 (pv 5)) (ea_cons (ev_callTy call_tuple_of o_tuple (by rfl) T.n_tuple Bt.t_tuple (ea_cons (ev_var 6 (pv 6)) ea_nil')) ea_nil'))) (ec_d (ev_tup (ea_cons (ev_var 5 (pv 5)) (ea_cons (ev_callTy call_tuple_of o_tuple (by rfl) T.n_tuple Bt.t_tuple (ea_cons (ev_var 8 (pv 8)) ea_nil')) ea_nil'))) (ec_d (ev_sliceL (ev_var 11 (pv 11)) eo_none (eo_some (ev_var 16 (pv 16))) rfl) ec_nil))))) (fun _ pt => ps_set (i := 18) sc_law.nd rfl (Or.inl rfl) pt))
    (ess_cons (es_set (ev_call (okc_law_gaps T) (hr.mono (by decide)) (by rfl) T.h_law_gaps.m T.h_law_gaps.F.kp T.h_law_gaps.b takes0 (ec_d (ev_var 2 (pv 2)) (ec_d (ev_tup (ea_cons (ev_var 5 (pv 5)) (ea_cons (ev_callTy call_tuple_of o_tuple (by rfl) T.n_tuple Bt.t_tuple (ea_cons (ev_var 6 (pv 6)) ea_nil')) ea_nil'))) (ec_d (ev_tup (ea_cons (ev_var 5 (pv 5)) (ea_cons (ev_callTy call_tuple_of o_tuple (by rfl) T.n_tuple Bt.t_tuple (ea_cons (ev_var 9 (pv 9)) ea_nil')) ea_nil'))) (ec_d (ev_sliceL (ev_var 10 (pv 10)) eo_none (eo_some (ev_var 16 (pv 16))) rfl) ec_nil))))) (fun _ pt => ps_set (i := 19) sc_law.nd rfl (Or.inl rfl) pt))
    (ess_cons (es_if (eb_w (ew_or (eb_cmp op_isN o_isN (ev_var 17 (pv 17)) ev_non (nomark _)) (ew_or (eb_cmp (op_neD hr.units) o_ne (ev_var 17 (pv 17)) (ev_var 18 (pv 18)) (nomark _)) (ew_or1 (eb_cmp op_isN o_isN (ev_var 19 (pv 19)) ev_non (nomark _)))))) (ess_one (es_ret ev_bl)) ess_nil)
    (ess_one (es_if (eb_cmp (op_neD hr.units) o_ne (ev_var 19 (pv 19)) (En.ev (en_lc (own := [("_law_gap", 20)]) rfl sc_law.nd (ei_list (ev_var 17 (pv 17)) rfl) (blkOk_by (N := N_law) (sc := (defScope s_law)) (by decide +kernel)) (fun _ _ _ _ _ => (eg_name (pg_name (i := 20) sc_law.nd rfl (by first | exact Or.inl rfl | exact Or.inr rfl)))) (fun _ _ _ _ _ => ets_nil) (fun _ _ _ _ _ => (ev_bin op_muls o_mul ev_int (ev_var 20 (pv 20)))) (by decide))) (nomark _)) (ess_one (es_ret ev_bl)) ess_nil)))))))))
    (ess_one (es_ret ev_bl))))))))))))))))
theorem ok_law (T : Txt K mg a) (hm : ∀ ns : List Int, ns.length ≤ 63 → m_law [.scr ns] (fun d => d = .bl true) (fun _ => False)) :
    FnOk P w K mg base CX0 10 a.a_law a.d_law ["_law_script"] (fun vs H Q _ => ∃ (a : Addr) (ns : List Int), vs = [.ref a] ∧ SqL K H a (ns.map V.int) ∧ ns.length ≤ 63 ∧ ∀ H', Q (.bl true) H') :=
  law_ok (G := G K a) T.h_law.F sc_law rfl (fun cdv A outer s H hr => okb_law T cdv A outer s H hr) hm
end
theorem all_mk {l : PySem.W.OpenLaw} {w : World} {K : PySem.W.Frag} {h : Heap} {mg : Str → Option Value} {fa C_0 a_law_draw a_law_rule a_law_parts a_law_pool a_is_integer a_is_integer_from a_are_burdens a_is_list_of a_is_index a_is_rule a_cells_of a_is_row a_are_rows a_are_rule_rows a_are_rules a_are_shows a_copied a_Listener__init a_law_rules_copy a_law_listener a_law_number a_is_tuple_of_integers a_is_stand a_Listener_cell_count a_Listener_control_count a_Listener_check_stand a_is_message a_form_value a_Listener_heard a_Listener_hear_all a_law_is_integer a_law_are_numbers a_law_same_stand a_law_gaps a_law : Addr} (X : K.In h) (Gg : h.Ns mainGlobals mg) (hfa : mg "law" = some (.ref fa))
    {od_law_draw an_law_draw od_law_rule an_law_rule od_law_parts an_law_parts od_law_pool an_law_pool od_is_integer an_is_integer od_is_integer_from an_is_integer_from od_are_burdens an_are_burdens od_is_list_of an_is_list_of od_is_index an_is_index od_is_rule an_is_rule od_cells_of an_cells_of od_is_row an_is_row od_are_rows an_are_rows od_are_rule_rows an_are_rule_rows od_are_rules an_are_rules od_are_shows an_are_shows od_copied an_copied od_Listener__init an_Listener__init od_law_rules_copy an_law_rules_copy od_law_listener an_law_listener od_law_number an_law_number od_is_tuple_of_integers an_is_tuple_of_integers od_is_stand an_is_stand od_Listener_cell_count an_Listener_cell_count od_Listener_control_count an_Listener_control_count od_Listener_check_stand an_Listener_check_stand od_is_message an_is_message od_form_value an_form_value od_Listener_heard an_Listener_heard od_Listener_hear_all an_Listener_hear_all od_law_is_integer an_law_is_integer od_law_are_numbers an_law_are_numbers od_law_same_stand an_law_same_stand od_law_gaps an_law_gaps od_law an_law : Option Addr} {sl_law_draw sl_law_rule sl_law_parts sl_law_pool sl_is_integer sl_is_integer_from sl_are_burdens sl_is_list_of sl_is_index sl_is_rule sl_cells_of sl_is_row sl_are_rows sl_are_rule_rows sl_are_rules sl_are_shows sl_copied sl_Listener__init sl_law_rules_copy sl_law_listener sl_law_number sl_is_tuple_of_integers sl_is_stand sl_Listener_cell_count sl_Listener_control_count sl_Listener_check_stand sl_is_message sl_form_value sl_Listener_heard sl_Listener_hear_all sl_law_is_integer sl_law_are_numbers sl_law_same_stand sl_law_gaps sl_law : Array (Option Value)} {oc_law_draw kV_law_draw dc_law_draw pm_law_draw cd_law_draw ct_law_draw oc_law_rule kV_law_rule dc_law_rule pm_law_rule cd_law_rule ct_law_rule oc_law_parts kV_law_parts dc_law_parts pm_law_parts cd_law_parts ct_law_parts oc_law_pool kV_law_pool dc_law_pool pm_law_pool cd_law_pool ct_law_pool oc_is_integer kV_is_integer dc_is_integer pm_is_integer cd_is_integer ct_is_integer oc_is_integer_from kV_is_integer_from dc_is_integer_from pm_is_integer_from cd_is_integer_from ct_is_integer_from oc_are_burdens kV_are_burdens dc_are_burdens pm_are_burdens cd_are_burdens ct_are_burdens oc_is_list_of kV_is_list_of dc_is_list_of pm_is_list_of cd_is_list_of ct_is_list_of oc_is_index kV_is_index dc_is_index pm_is_index cd_is_index ct_is_index oc_is_rule kV_is_rule dc_is_rule pm_is_rule cd_is_rule ct_is_rule oc_cells_of kV_cells_of dc_cells_of pm_cells_of cd_cells_of ct_cells_of oc_is_row kV_is_row dc_is_row pm_is_row cd_is_row ct_is_row oc_are_rows kV_are_rows dc_are_rows pm_are_rows cd_are_rows ct_are_rows oc_are_rule_rows kV_are_rule_rows dc_are_rule_rows pm_are_rule_rows cd_are_rule_rows ct_are_rule_rows oc_are_rules kV_are_rules dc_are_rules pm_are_rules cd_are_rules ct_are_rules oc_are_shows kV_are_shows dc_are_shows pm_are_shows cd_are_shows ct_are_shows oc_copied kV_copied dc_copied pm_copied cd_copied ct_copied oc_Listener__init kV_Listener__init dc_Listener__init pm_Listener__init cd_Listener__init ct_Listener__init oc_law_rules_copy kV_law_rules_copy dc_law_rules_copy pm_law_rules_copy cd_law_rules_copy ct_law_rules_copy oc_law_listener kV_law_listener dc_law_listener pm_law_listener cd_law_listener ct_law_listener oc_law_number kV_law_number dc_law_number pm_law_number cd_law_number ct_law_number oc_is_tuple_of_integers kV_is_tuple_of_integers dc_is_tuple_of_integers pm_is_tuple_of_integers cd_is_tuple_of_integers ct_is_tuple_of_integers oc_is_stand kV_is_stand dc_is_stand pm_is_stand cd_is_stand ct_is_stand oc_Listener_cell_count kV_Listener_cell_count dc_Listener_cell_count pm_Listener_cell_count cd_Listener_cell_count ct_Listener_cell_count oc_Listener_control_count kV_Listener_control_count dc_Listener_control_count pm_Listener_control_count cd_Listener_control_count ct_Listener_control_count oc_Listener_check_stand kV_Listener_check_stand dc_Listener_check_stand pm_Listener_check_stand cd_Listener_check_stand ct_Listener_check_stand oc_is_message kV_is_message dc_is_message pm_is_message cd_is_message ct_is_message oc_form_value kV_form_value dc_form_value pm_form_value cd_form_value ct_form_value oc_Listener_heard kV_Listener_heard dc_Listener_heard pm_Listener_heard cd_Listener_heard ct_Listener_heard oc_Listener_hear_all kV_Listener_hear_all dc_Listener_hear_all pm_Listener_hear_all cd_Listener_hear_all ct_Listener_hear_all oc_law_is_integer kV_law_is_integer dc_law_is_integer pm_law_is_integer cd_law_is_integer ct_law_is_integer oc_law_are_numbers kV_law_are_numbers dc_law_are_numbers pm_law_are_numbers cd_law_are_numbers ct_law_are_numbers oc_law_same_stand kV_law_same_stand dc_law_same_stand pm_law_same_stand cd_law_same_stand ct_law_same_stand oc_law_gaps kV_law_gaps dc_law_gaps pm_law_gaps cd_law_gaps ct_law_gaps oc_law kV_law dc_law pm_law cd_law ct_law : Value} {t_MOST_BURDEN t_MOST_CELLS t_MOST_CONTROLS t_MOST_FACTOR t_MOST_KINDS t_MOST_SHOWS : Tok}
        (aC0 : PySem.W.nsIn K mainGlobals "Listener" = some (some (.ref C_0)))
    (pg0 : PySem.W.plainGet K C_0 Str.empty = true)
    (hd0 : PySem.W.hasDictIn K C_0 = true)
    (po0 : PySem.W.plainOver K C_0 = true)
    (sa0 : PySem.W.findIn K (.ref C_0) "__setattr__" = some (some (.builtin "object.__setattr__")))
    (mk0 : PySem.W.makesIn K C_0 = true)
    (kc0 : PySem.W.keepIn K (.ref C_0) = true)
    (x_law_draw : PySem.W.nsIn K mainGlobals "_law_draw" = some (some (.ref a_law_draw)))
    (l_law_draw : K.lookup a_law_draw = some ⟨oc_law_draw, od_law_draw, .func (PySem.W.fnOf "_law_draw" "_law_draw" (defArgs (top 35)) (defBody (top 35)) (defScope (top 35)) .none kV_law_draw dc_law_draw pm_law_draw an_law_draw cd_law_draw ct_law_draw), sl_law_draw⟩)
    (c_law_draw : PySem.W.codeIn K cd_law_draw "_law_draw" = true)
    (k_law_draw : PySem.W.keepIn K (.ref a_law_draw) = true)
    (x_law_rule : PySem.W.nsIn K mainGlobals "_law_rule" = some (some (.ref a_law_rule)))
    (l_law_rule : K.lookup a_law_rule = some ⟨oc_law_rule, od_law_rule, .func (PySem.W.fnOf "_law_rule" "_law_rule" (defArgs (top 37)) (defBody (top 37)) (defScope (top 37)) .none kV_law_rule dc_law_rule pm_law_rule an_law_rule cd_law_rule ct_law_rule), sl_law_rule⟩)
    (c_law_rule : PySem.W.codeIn K cd_law_rule "_law_rule" = true)
    (k_law_rule : PySem.W.keepIn K (.ref a_law_rule) = true)
    (x_law_parts : PySem.W.nsIn K mainGlobals "_law_parts" = some (some (.ref a_law_parts)))
    (l_law_parts : K.lookup a_law_parts = some ⟨oc_law_parts, od_law_parts, .func (PySem.W.fnOf "_law_parts" "_law_parts" (defArgs (top 38)) (defBody (top 38)) (defScope (top 38)) .none kV_law_parts dc_law_parts pm_law_parts an_law_parts cd_law_parts ct_law_parts), sl_law_parts⟩)
    (c_law_parts : PySem.W.codeIn K cd_law_parts "_law_parts" = true)
    (k_law_parts : PySem.W.keepIn K (.ref a_law_parts) = true)
    (x_law_pool : PySem.W.nsIn K mainGlobals "_law_pool" = some (some (.ref a_law_pool)))
    (l_law_pool : K.lookup a_law_pool = some ⟨oc_law_pool, od_law_pool, .func (PySem.W.fnOf "_law_pool" "_law_pool" (defArgs (top 34)) (defBody (top 34)) (defScope (top 34)) .none kV_law_pool dc_law_pool pm_law_pool an_law_pool cd_law_pool ct_law_pool), sl_law_pool⟩)
    (c_law_pool : PySem.W.codeIn K cd_law_pool "_law_pool" = true)
    (k_law_pool : PySem.W.keepIn K (.ref a_law_pool) = true)
    (x_is_integer : PySem.W.nsIn K mainGlobals "is_integer" = some (some (.ref a_is_integer)))
    (l_is_integer : K.lookup a_is_integer = some ⟨oc_is_integer, od_is_integer, .func (PySem.W.fnOf "is_integer" "is_integer" (defArgs (top 8)) (defBody (top 8)) (defScope (top 8)) .none kV_is_integer dc_is_integer pm_is_integer an_is_integer cd_is_integer ct_is_integer), sl_is_integer⟩)
    (c_is_integer : PySem.W.codeIn K cd_is_integer "is_integer" = true)
    (k_is_integer : PySem.W.keepIn K (.ref a_is_integer) = true)
    (x_is_integer_from : PySem.W.nsIn K mainGlobals "is_integer_from" = some (some (.ref a_is_integer_from)))
    (l_is_integer_from : K.lookup a_is_integer_from = some ⟨oc_is_integer_from, od_is_integer_from, .func (PySem.W.fnOf "is_integer_from" "is_integer_from" (defArgs (top 9)) (defBody (top 9)) (defScope (top 9)) .none kV_is_integer_from dc_is_integer_from pm_is_integer_from an_is_integer_from cd_is_integer_from ct_is_integer_from), sl_is_integer_from⟩)
    (c_is_integer_from : PySem.W.codeIn K cd_is_integer_from "is_integer_from" = true)
    (k_is_integer_from : PySem.W.keepIn K (.ref a_is_integer_from) = true)
    (x_are_burdens : PySem.W.nsIn K mainGlobals "are_burdens" = some (some (.ref a_are_burdens)))
    (l_are_burdens : K.lookup a_are_burdens = some ⟨oc_are_burdens, od_are_burdens, .func (PySem.W.fnOf "are_burdens" "are_burdens" (defArgs (top 26)) (defBody (top 26)) (defScope (top 26)) .none kV_are_burdens dc_are_burdens pm_are_burdens an_are_burdens cd_are_burdens ct_are_burdens), sl_are_burdens⟩)
    (c_are_burdens : PySem.W.codeIn K cd_are_burdens "are_burdens" = true)
    (k_are_burdens : PySem.W.keepIn K (.ref a_are_burdens) = true)
    (x_is_list_of : PySem.W.nsIn K mainGlobals "is_list_of" = some (some (.ref a_is_list_of)))
    (l_is_list_of : K.lookup a_is_list_of = some ⟨oc_is_list_of, od_is_list_of, .func (PySem.W.fnOf "is_list_of" "is_list_of" (defArgs (top 11)) (defBody (top 11)) (defScope (top 11)) .none kV_is_list_of dc_is_list_of pm_is_list_of an_is_list_of cd_is_list_of ct_is_list_of), sl_is_list_of⟩)
    (c_is_list_of : PySem.W.codeIn K cd_is_list_of "is_list_of" = true)
    (k_is_list_of : PySem.W.keepIn K (.ref a_is_list_of) = true)
    (x_is_index : PySem.W.nsIn K mainGlobals "is_index" = some (some (.ref a_is_index)))
    (l_is_index : K.lookup a_is_index = some ⟨oc_is_index, od_is_index, .func (PySem.W.fnOf "is_index" "is_index" (defArgs (top 10)) (defBody (top 10)) (defScope (top 10)) .none kV_is_index dc_is_index pm_is_index an_is_index cd_is_index ct_is_index), sl_is_index⟩)
    (c_is_index : PySem.W.codeIn K cd_is_index "is_index" = true)
    (k_is_index : PySem.W.keepIn K (.ref a_is_index) = true)
    (x_is_rule : PySem.W.nsIn K mainGlobals "is_rule" = some (some (.ref a_is_rule)))
    (l_is_rule : K.lookup a_is_rule = some ⟨oc_is_rule, od_is_rule, .func (PySem.W.fnOf "is_rule" "is_rule" (defArgs (top 28)) (defBody (top 28)) (defScope (top 28)) .none kV_is_rule dc_is_rule pm_is_rule an_is_rule cd_is_rule ct_is_rule), sl_is_rule⟩)
    (c_is_rule : PySem.W.codeIn K cd_is_rule "is_rule" = true)
    (k_is_rule : PySem.W.keepIn K (.ref a_is_rule) = true)
    (x_cells_of : PySem.W.nsIn K mainGlobals "cells_of" = some (some (.ref a_cells_of)))
    (l_cells_of : K.lookup a_cells_of = some ⟨oc_cells_of, od_cells_of, .func (PySem.W.fnOf "cells_of" "cells_of" (defArgs (top 23)) (defBody (top 23)) (defScope (top 23)) .none kV_cells_of dc_cells_of pm_cells_of an_cells_of cd_cells_of ct_cells_of), sl_cells_of⟩)
    (c_cells_of : PySem.W.codeIn K cd_cells_of "cells_of" = true)
    (k_cells_of : PySem.W.keepIn K (.ref a_cells_of) = true)
    (x_is_row : PySem.W.nsIn K mainGlobals "is_row" = some (some (.ref a_is_row)))
    (l_is_row : K.lookup a_is_row = some ⟨oc_is_row, od_is_row, .func (PySem.W.fnOf "is_row" "is_row" (defArgs (top 32)) (defBody (top 32)) (defScope (top 32)) .none kV_is_row dc_is_row pm_is_row an_is_row cd_is_row ct_is_row), sl_is_row⟩)
    (c_is_row : PySem.W.codeIn K cd_is_row "is_row" = true)
    (k_is_row : PySem.W.keepIn K (.ref a_is_row) = true)
    (x_are_rows : PySem.W.nsIn K mainGlobals "are_rows" = some (some (.ref a_are_rows)))
    (l_are_rows : K.lookup a_are_rows = some ⟨oc_are_rows, od_are_rows, .func (PySem.W.fnOf "are_rows" "are_rows" (defArgs (top 31)) (defBody (top 31)) (defScope (top 31)) .none kV_are_rows dc_are_rows pm_are_rows an_are_rows cd_are_rows ct_are_rows), sl_are_rows⟩)
    (c_are_rows : PySem.W.codeIn K cd_are_rows "are_rows" = true)
    (k_are_rows : PySem.W.keepIn K (.ref a_are_rows) = true)
    (x_are_rule_rows : PySem.W.nsIn K mainGlobals "are_rule_rows" = some (some (.ref a_are_rule_rows)))
    (l_are_rule_rows : K.lookup a_are_rule_rows = some ⟨oc_are_rule_rows, od_are_rule_rows, .func (PySem.W.fnOf "are_rule_rows" "are_rule_rows" (defArgs (top 29)) (defBody (top 29)) (defScope (top 29)) .none kV_are_rule_rows dc_are_rule_rows pm_are_rule_rows an_are_rule_rows cd_are_rule_rows ct_are_rule_rows), sl_are_rule_rows⟩)
    (c_are_rule_rows : PySem.W.codeIn K cd_are_rule_rows "are_rule_rows" = true)
    (k_are_rule_rows : PySem.W.keepIn K (.ref a_are_rule_rows) = true)
    (x_are_rules : PySem.W.nsIn K mainGlobals "are_rules" = some (some (.ref a_are_rules)))
    (l_are_rules : K.lookup a_are_rules = some ⟨oc_are_rules, od_are_rules, .func (PySem.W.fnOf "are_rules" "are_rules" (defArgs (top 27)) (defBody (top 27)) (defScope (top 27)) .none kV_are_rules dc_are_rules pm_are_rules an_are_rules cd_are_rules ct_are_rules), sl_are_rules⟩)
    (c_are_rules : PySem.W.codeIn K cd_are_rules "are_rules" = true)
    (k_are_rules : PySem.W.keepIn K (.ref a_are_rules) = true)
    (x_are_shows : PySem.W.nsIn K mainGlobals "are_shows" = some (some (.ref a_are_shows)))
    (l_are_shows : K.lookup a_are_shows = some ⟨oc_are_shows, od_are_shows, .func (PySem.W.fnOf "are_shows" "are_shows" (defArgs (top 30)) (defBody (top 30)) (defScope (top 30)) .none kV_are_shows dc_are_shows pm_are_shows an_are_shows cd_are_shows ct_are_shows), sl_are_shows⟩)
    (c_are_shows : PySem.W.codeIn K cd_are_shows "are_shows" = true)
    (k_are_shows : PySem.W.keepIn K (.ref a_are_shows) = true)
    (x_copied : PySem.W.nsIn K mainGlobals "copied" = some (some (.ref a_copied)))
    (l_copied : K.lookup a_copied = some ⟨oc_copied, od_copied, .func (PySem.W.fnOf "copied" "copied" (defArgs (top 14)) (defBody (top 14)) (defScope (top 14)) .none kV_copied dc_copied pm_copied an_copied cd_copied ct_copied), sl_copied⟩)
    (c_copied : PySem.W.codeIn K cd_copied "copied" = true)
    (k_copied : PySem.W.keepIn K (.ref a_copied) = true)
    (x_Listener__init : PySem.W.findIn K (.ref C_0) "__init__" = some (some (.ref a_Listener__init)))
    (i_Listener__init : PySem.W.isFn K (.ref a_Listener__init) = true)
    (l_Listener__init : K.lookup a_Listener__init = some ⟨oc_Listener__init, od_Listener__init, .func (PySem.W.fnOf "__init__" "Listener.__init__" (defArgs (inClass (top 22) 0)) (defBody (inClass (top 22) 0)) (defScope (inClass (top 22) 0)) .none kV_Listener__init dc_Listener__init pm_Listener__init an_Listener__init cd_Listener__init ct_Listener__init), sl_Listener__init⟩)
    (c_Listener__init : PySem.W.codeIn K cd_Listener__init "Listener.__init__" = true)
    (k_Listener__init : PySem.W.keepIn K (.ref a_Listener__init) = true)
    (x_law_rules_copy : PySem.W.nsIn K mainGlobals "_law_rules_copy" = some (some (.ref a_law_rules_copy)))
    (l_law_rules_copy : K.lookup a_law_rules_copy = some ⟨oc_law_rules_copy, od_law_rules_copy, .func (PySem.W.fnOf "_law_rules_copy" "_law_rules_copy" (defArgs (top 39)) (defBody (top 39)) (defScope (top 39)) .none kV_law_rules_copy dc_law_rules_copy pm_law_rules_copy an_law_rules_copy cd_law_rules_copy ct_law_rules_copy), sl_law_rules_copy⟩)
    (c_law_rules_copy : PySem.W.codeIn K cd_law_rules_copy "_law_rules_copy" = true)
    (k_law_rules_copy : PySem.W.keepIn K (.ref a_law_rules_copy) = true)
    (x_law_listener : PySem.W.nsIn K mainGlobals "_law_listener" = some (some (.ref a_law_listener)))
    (l_law_listener : K.lookup a_law_listener = some ⟨oc_law_listener, od_law_listener, .func (PySem.W.fnOf "_law_listener" "_law_listener" (defArgs (top 40)) (defBody (top 40)) (defScope (top 40)) .none kV_law_listener dc_law_listener pm_law_listener an_law_listener cd_law_listener ct_law_listener), sl_law_listener⟩)
    (c_law_listener : PySem.W.codeIn K cd_law_listener "_law_listener" = true)
    (k_law_listener : PySem.W.keepIn K (.ref a_law_listener) = true)
    (x_law_number : PySem.W.nsIn K mainGlobals "_law_number" = some (some (.ref a_law_number)))
    (l_law_number : K.lookup a_law_number = some ⟨oc_law_number, od_law_number, .func (PySem.W.fnOf "_law_number" "_law_number" (defArgs (top 36)) (defBody (top 36)) (defScope (top 36)) .none kV_law_number dc_law_number pm_law_number an_law_number cd_law_number ct_law_number), sl_law_number⟩)
    (c_law_number : PySem.W.codeIn K cd_law_number "_law_number" = true)
    (k_law_number : PySem.W.keepIn K (.ref a_law_number) = true)
    (x_is_tuple_of_integers : PySem.W.nsIn K mainGlobals "is_tuple_of_integers" = some (some (.ref a_is_tuple_of_integers)))
    (l_is_tuple_of_integers : K.lookup a_is_tuple_of_integers = some ⟨oc_is_tuple_of_integers, od_is_tuple_of_integers, .func (PySem.W.fnOf "is_tuple_of_integers" "is_tuple_of_integers" (defArgs (top 12)) (defBody (top 12)) (defScope (top 12)) .none kV_is_tuple_of_integers dc_is_tuple_of_integers pm_is_tuple_of_integers an_is_tuple_of_integers cd_is_tuple_of_integers ct_is_tuple_of_integers), sl_is_tuple_of_integers⟩)
    (c_is_tuple_of_integers : PySem.W.codeIn K cd_is_tuple_of_integers "is_tuple_of_integers" = true)
    (k_is_tuple_of_integers : PySem.W.keepIn K (.ref a_is_tuple_of_integers) = true)
    (x_is_stand : PySem.W.nsIn K mainGlobals "is_stand" = some (some (.ref a_is_stand)))
    (l_is_stand : K.lookup a_is_stand = some ⟨oc_is_stand, od_is_stand, .func (PySem.W.fnOf "is_stand" "is_stand" (defArgs (top 24)) (defBody (top 24)) (defScope (top 24)) .none kV_is_stand dc_is_stand pm_is_stand an_is_stand cd_is_stand ct_is_stand), sl_is_stand⟩)
    (c_is_stand : PySem.W.codeIn K cd_is_stand "is_stand" = true)
    (k_is_stand : PySem.W.keepIn K (.ref a_is_stand) = true)
    (x_Listener_cell_count : PySem.W.findIn K (.ref C_0) "cell_count" = some (some (.ref a_Listener_cell_count)))
    (i_Listener_cell_count : PySem.W.isFn K (.ref a_Listener_cell_count) = true)
    (l_Listener_cell_count : K.lookup a_Listener_cell_count = some ⟨oc_Listener_cell_count, od_Listener_cell_count, .func (PySem.W.fnOf "cell_count" "Listener.cell_count" (defArgs (inClass (top 22) 6)) (defBody (inClass (top 22) 6)) (defScope (inClass (top 22) 6)) .none kV_Listener_cell_count dc_Listener_cell_count pm_Listener_cell_count an_Listener_cell_count cd_Listener_cell_count ct_Listener_cell_count), sl_Listener_cell_count⟩)
    (c_Listener_cell_count : PySem.W.codeIn K cd_Listener_cell_count "Listener.cell_count" = true)
    (k_Listener_cell_count : PySem.W.keepIn K (.ref a_Listener_cell_count) = true)
    (x_Listener_control_count : PySem.W.findIn K (.ref C_0) "control_count" = some (some (.ref a_Listener_control_count)))
    (i_Listener_control_count : PySem.W.isFn K (.ref a_Listener_control_count) = true)
    (l_Listener_control_count : K.lookup a_Listener_control_count = some ⟨oc_Listener_control_count, od_Listener_control_count, .func (PySem.W.fnOf "control_count" "Listener.control_count" (defArgs (inClass (top 22) 5)) (defBody (inClass (top 22) 5)) (defScope (inClass (top 22) 5)) .none kV_Listener_control_count dc_Listener_control_count pm_Listener_control_count an_Listener_control_count cd_Listener_control_count ct_Listener_control_count), sl_Listener_control_count⟩)
    (c_Listener_control_count : PySem.W.codeIn K cd_Listener_control_count "Listener.control_count" = true)
    (k_Listener_control_count : PySem.W.keepIn K (.ref a_Listener_control_count) = true)
    (x_Listener_check_stand : PySem.W.findIn K (.ref C_0) "check_stand" = some (some (.ref a_Listener_check_stand)))
    (i_Listener_check_stand : PySem.W.isFn K (.ref a_Listener_check_stand) = true)
    (l_Listener_check_stand : K.lookup a_Listener_check_stand = some ⟨oc_Listener_check_stand, od_Listener_check_stand, .func (PySem.W.fnOf "check_stand" "Listener.check_stand" (defArgs (inClass (top 22) 13)) (defBody (inClass (top 22) 13)) (defScope (inClass (top 22) 13)) .none kV_Listener_check_stand dc_Listener_check_stand pm_Listener_check_stand an_Listener_check_stand cd_Listener_check_stand ct_Listener_check_stand), sl_Listener_check_stand⟩)
    (c_Listener_check_stand : PySem.W.codeIn K cd_Listener_check_stand "Listener.check_stand" = true)
    (k_Listener_check_stand : PySem.W.keepIn K (.ref a_Listener_check_stand) = true)
    (x_is_message : PySem.W.nsIn K mainGlobals "is_message" = some (some (.ref a_is_message)))
    (l_is_message : K.lookup a_is_message = some ⟨oc_is_message, od_is_message, .func (PySem.W.fnOf "is_message" "is_message" (defArgs (top 25)) (defBody (top 25)) (defScope (top 25)) .none kV_is_message dc_is_message pm_is_message an_is_message cd_is_message ct_is_message), sl_is_message⟩)
    (c_is_message : PySem.W.codeIn K cd_is_message "is_message" = true)
    (k_is_message : PySem.W.keepIn K (.ref a_is_message) = true)
    (x_form_value : PySem.W.nsIn K mainGlobals "form_value" = some (some (.ref a_form_value)))
    (l_form_value : K.lookup a_form_value = some ⟨oc_form_value, od_form_value, .func (PySem.W.fnOf "form_value" "form_value" (defArgs (top 13)) (defBody (top 13)) (defScope (top 13)) .none kV_form_value dc_form_value pm_form_value an_form_value cd_form_value ct_form_value), sl_form_value⟩)
    (c_form_value : PySem.W.codeIn K cd_form_value "form_value" = true)
    (k_form_value : PySem.W.keepIn K (.ref a_form_value) = true)
    (x_Listener_heard : PySem.W.findIn K (.ref C_0) "heard" = some (some (.ref a_Listener_heard)))
    (i_Listener_heard : PySem.W.isFn K (.ref a_Listener_heard) = true)
    (l_Listener_heard : K.lookup a_Listener_heard = some ⟨oc_Listener_heard, od_Listener_heard, .func (PySem.W.fnOf "heard" "Listener.heard" (defArgs (inClass (top 22) 12)) (defBody (inClass (top 22) 12)) (defScope (inClass (top 22) 12)) .none kV_Listener_heard dc_Listener_heard pm_Listener_heard an_Listener_heard cd_Listener_heard ct_Listener_heard), sl_Listener_heard⟩)
    (c_Listener_heard : PySem.W.codeIn K cd_Listener_heard "Listener.heard" = true)
    (k_Listener_heard : PySem.W.keepIn K (.ref a_Listener_heard) = true)
    (x_Listener_hear_all : PySem.W.findIn K (.ref C_0) "hear_all" = some (some (.ref a_Listener_hear_all)))
    (i_Listener_hear_all : PySem.W.isFn K (.ref a_Listener_hear_all) = true)
    (l_Listener_hear_all : K.lookup a_Listener_hear_all = some ⟨oc_Listener_hear_all, od_Listener_hear_all, .func (PySem.W.fnOf "hear_all" "Listener.hear_all" (defArgs (inClass (top 22) 9)) (defBody (inClass (top 22) 9)) (defScope (inClass (top 22) 9)) .none kV_Listener_hear_all dc_Listener_hear_all pm_Listener_hear_all an_Listener_hear_all cd_Listener_hear_all ct_Listener_hear_all), sl_Listener_hear_all⟩)
    (c_Listener_hear_all : PySem.W.codeIn K cd_Listener_hear_all "Listener.hear_all" = true)
    (k_Listener_hear_all : PySem.W.keepIn K (.ref a_Listener_hear_all) = true)
    (x_law_is_integer : PySem.W.nsIn K mainGlobals "_law_is_integer" = some (some (.ref a_law_is_integer)))
    (l_law_is_integer : K.lookup a_law_is_integer = some ⟨oc_law_is_integer, od_law_is_integer, .func (PySem.W.fnOf "_law_is_integer" "_law_is_integer" (defArgs (top 41)) (defBody (top 41)) (defScope (top 41)) .none kV_law_is_integer dc_law_is_integer pm_law_is_integer an_law_is_integer cd_law_is_integer ct_law_is_integer), sl_law_is_integer⟩)
    (c_law_is_integer : PySem.W.codeIn K cd_law_is_integer "_law_is_integer" = true)
    (k_law_is_integer : PySem.W.keepIn K (.ref a_law_is_integer) = true)
    (x_law_are_numbers : PySem.W.nsIn K mainGlobals "_law_are_numbers" = some (some (.ref a_law_are_numbers)))
    (l_law_are_numbers : K.lookup a_law_are_numbers = some ⟨oc_law_are_numbers, od_law_are_numbers, .func (PySem.W.fnOf "_law_are_numbers" "_law_are_numbers" (defArgs (top 42)) (defBody (top 42)) (defScope (top 42)) .none kV_law_are_numbers dc_law_are_numbers pm_law_are_numbers an_law_are_numbers cd_law_are_numbers ct_law_are_numbers), sl_law_are_numbers⟩)
    (c_law_are_numbers : PySem.W.codeIn K cd_law_are_numbers "_law_are_numbers" = true)
    (k_law_are_numbers : PySem.W.keepIn K (.ref a_law_are_numbers) = true)
    (x_law_same_stand : PySem.W.nsIn K mainGlobals "_law_same_stand" = some (some (.ref a_law_same_stand)))
    (l_law_same_stand : K.lookup a_law_same_stand = some ⟨oc_law_same_stand, od_law_same_stand, .func (PySem.W.fnOf "_law_same_stand" "_law_same_stand" (defArgs (top 43)) (defBody (top 43)) (defScope (top 43)) .none kV_law_same_stand dc_law_same_stand pm_law_same_stand an_law_same_stand cd_law_same_stand ct_law_same_stand), sl_law_same_stand⟩)
    (c_law_same_stand : PySem.W.codeIn K cd_law_same_stand "_law_same_stand" = true)
    (k_law_same_stand : PySem.W.keepIn K (.ref a_law_same_stand) = true)
    (x_law_gaps : PySem.W.nsIn K mainGlobals "_law_gaps" = some (some (.ref a_law_gaps)))
    (l_law_gaps : K.lookup a_law_gaps = some ⟨oc_law_gaps, od_law_gaps, .func (PySem.W.fnOf "_law_gaps" "_law_gaps" (defArgs (top 44)) (defBody (top 44)) (defScope (top 44)) .none kV_law_gaps dc_law_gaps pm_law_gaps an_law_gaps cd_law_gaps ct_law_gaps), sl_law_gaps⟩)
    (c_law_gaps : PySem.W.codeIn K cd_law_gaps "_law_gaps" = true)
    (k_law_gaps : PySem.W.keepIn K (.ref a_law_gaps) = true)
    (x_law : PySem.W.nsIn K mainGlobals "law" = some (some (.ref a_law)))
    (l_law : K.lookup a_law = some ⟨oc_law, od_law, .func (PySem.W.fnOf "law" "law" (defArgs (top 45)) (defBody (top 45)) (defScope (top 45)) .none kV_law dc_law pm_law an_law cd_law ct_law), sl_law⟩)
    (c_law : PySem.W.codeIn K cd_law "law" = true)
    (k_law : PySem.W.keepIn K (.ref a_law) = true)
    (na_0_burdens : PySem.W.findIn K (.ref C_0) "burdens" = some none)
    (na_0_rules : PySem.W.findIn K (.ref C_0) "rules" = some none)
    (na_0_shows : PySem.W.findIn K (.ref C_0) "shows" = some none)
    (n_all : PySem.W.nsIn K mainGlobals "all" = some none)
    (n_bool : PySem.W.nsIn K mainGlobals "bool" = some none)
    (n_enumerate : PySem.W.nsIn K mainGlobals "enumerate" = some none)
    (n_int : PySem.W.nsIn K mainGlobals "int" = some none)
    (n_isinstance : PySem.W.nsIn K mainGlobals "isinstance" = some none)
    (n_len : PySem.W.nsIn K mainGlobals "len" = some none)
    (n_list : PySem.W.nsIn K mainGlobals "list" = some none)
    (n_max : PySem.W.nsIn K mainGlobals "max" = some none)
    (n_min : PySem.W.nsIn K mainGlobals "min" = some none)
    (n_range : PySem.W.nsIn K mainGlobals "range" = some none)
    (n_sum : PySem.W.nsIn K mainGlobals "sum" = some none)
    (n_tuple : PySem.W.nsIn K mainGlobals "tuple" = some none)
    (n_zip : PySem.W.nsIn K mainGlobals "zip" = some none)
    (z_MOST_BURDEN : PySem.W.nsIn K mainGlobals "MOST_BURDEN" = some (some (.int 2 t_MOST_BURDEN)))
    (z_MOST_CELLS : PySem.W.nsIn K mainGlobals "MOST_CELLS" = some (some (.int 3 t_MOST_CELLS)))
    (z_MOST_CONTROLS : PySem.W.nsIn K mainGlobals "MOST_CONTROLS" = some (some (.int 3 t_MOST_CONTROLS)))
    (z_MOST_FACTOR : PySem.W.nsIn K mainGlobals "MOST_FACTOR" = some (some (.int 9 t_MOST_FACTOR)))
    (z_MOST_KINDS : PySem.W.nsIn K mainGlobals "MOST_KINDS" = some (some (.int 3 t_MOST_KINDS)))
    (z_MOST_SHOWS : PySem.W.nsIn K mainGlobals "MOST_SHOWS" = some (some (.int 2 t_MOST_SHOWS)))
    (hm : ∀ ns : List Int, ns.length ≤ 63 → m_law [.scr ns] (fun d => d = .bl true) (fun _ => False)) :
    ∃ fd : FuncData, (∀ (s : Shared) (v : Value), BindsTo s fd ⟨[v], []⟩ [("_law_script", v)]) ∧ ∀ base : Heap, K.In base → base.Ns mainGlobals mg → FnOk l.prog w K mg base CX0 10 fa fd ["_law_script"] (fun vs H Q _ => ∃ (a : Addr) (ns : List Int), vs = [.ref a] ∧ SqL K H a (ns.map V.int) ∧ ns.length ≤ 63 ∧ ∀ H', Q (.bl true) H') := by
  have e := hfa.symm.trans (PySem.W.mg_of X Gg x_law)
  cases e
  have T : Txt K mg { C_0 := C_0, a_law_draw := a_law_draw, d_law_draw := (PySem.W.fnOf "_law_draw" "_law_draw" (defArgs (top 35)) (defBody (top 35)) (defScope (top 35)) .none kV_law_draw dc_law_draw pm_law_draw an_law_draw cd_law_draw ct_law_draw), a_law_rule := a_law_rule, d_law_rule := (PySem.W.fnOf "_law_rule" "_law_rule" (defArgs (top 37)) (defBody (top 37)) (defScope (top 37)) .none kV_law_rule dc_law_rule pm_law_rule an_law_rule cd_law_rule ct_law_rule), a_law_parts := a_law_parts, d_law_parts := (PySem.W.fnOf "_law_parts" "_law_parts" (defArgs (top 38)) (defBody (top 38)) (defScope (top 38)) .none kV_law_parts dc_law_parts pm_law_parts an_law_parts cd_law_parts ct_law_parts), a_law_pool := a_law_pool, d_law_pool := (PySem.W.fnOf "_law_pool" "_law_pool" (defArgs (top 34)) (defBody (top 34)) (defScope (top 34)) .none kV_law_pool dc_law_pool pm_law_pool an_law_pool cd_law_pool ct_law_pool), a_is_integer := a_is_integer, d_is_integer := (PySem.W.fnOf "is_integer" "is_integer" (defArgs (top 8)) (defBody (top 8)) (defScope (top 8)) .none kV_is_integer dc_is_integer pm_is_integer an_is_integer cd_is_integer ct_is_integer), a_is_integer_from := a_is_integer_from, d_is_integer_from := (PySem.W.fnOf "is_integer_from" "is_integer_from" (defArgs (top 9)) (defBody (top 9)) (defScope (top 9)) .none kV_is_integer_from dc_is_integer_from pm_is_integer_from an_is_integer_from cd_is_integer_from ct_is_integer_from), a_are_burdens := a_are_burdens, d_are_burdens := (PySem.W.fnOf "are_burdens" "are_burdens" (defArgs (top 26)) (defBody (top 26)) (defScope (top 26)) .none kV_are_burdens dc_are_burdens pm_are_burdens an_are_burdens cd_are_burdens ct_are_burdens), a_is_list_of := a_is_list_of, d_is_list_of := (PySem.W.fnOf "is_list_of" "is_list_of" (defArgs (top 11)) (defBody (top 11)) (defScope (top 11)) .none kV_is_list_of dc_is_list_of pm_is_list_of an_is_list_of cd_is_list_of ct_is_list_of), a_is_index := a_is_index, d_is_index := (PySem.W.fnOf "is_index" "is_index" (defArgs (top 10)) (defBody (top 10)) (defScope (top 10)) .none kV_is_index dc_is_index pm_is_index an_is_index cd_is_index ct_is_index), a_is_rule := a_is_rule, d_is_rule := (PySem.W.fnOf "is_rule" "is_rule" (defArgs (top 28)) (defBody (top 28)) (defScope (top 28)) .none kV_is_rule dc_is_rule pm_is_rule an_is_rule cd_is_rule ct_is_rule), a_cells_of := a_cells_of, d_cells_of := (PySem.W.fnOf "cells_of" "cells_of" (defArgs (top 23)) (defBody (top 23)) (defScope (top 23)) .none kV_cells_of dc_cells_of pm_cells_of an_cells_of cd_cells_of ct_cells_of), a_is_row := a_is_row, d_is_row := (PySem.W.fnOf "is_row" "is_row" (defArgs (top 32)) (defBody (top 32)) (defScope (top 32)) .none kV_is_row dc_is_row pm_is_row an_is_row cd_is_row ct_is_row), a_are_rows := a_are_rows, d_are_rows := (PySem.W.fnOf "are_rows" "are_rows" (defArgs (top 31)) (defBody (top 31)) (defScope (top 31)) .none kV_are_rows dc_are_rows pm_are_rows an_are_rows cd_are_rows ct_are_rows), a_are_rule_rows := a_are_rule_rows, d_are_rule_rows := (PySem.W.fnOf "are_rule_rows" "are_rule_rows" (defArgs (top 29)) (defBody (top 29)) (defScope (top 29)) .none kV_are_rule_rows dc_are_rule_rows pm_are_rule_rows an_are_rule_rows cd_are_rule_rows ct_are_rule_rows), a_are_rules := a_are_rules, d_are_rules := (PySem.W.fnOf "are_rules" "are_rules" (defArgs (top 27)) (defBody (top 27)) (defScope (top 27)) .none kV_are_rules dc_are_rules pm_are_rules an_are_rules cd_are_rules ct_are_rules), a_are_shows := a_are_shows, d_are_shows := (PySem.W.fnOf "are_shows" "are_shows" (defArgs (top 30)) (defBody (top 30)) (defScope (top 30)) .none kV_are_shows dc_are_shows pm_are_shows an_are_shows cd_are_shows ct_are_shows), a_copied := a_copied, d_copied := (PySem.W.fnOf "copied" "copied" (defArgs (top 14)) (defBody (top 14)) (defScope (top 14)) .none kV_copied dc_copied pm_copied an_copied cd_copied ct_copied), a_Listener__init := a_Listener__init, d_Listener__init := (PySem.W.fnOf "__init__" "Listener.__init__" (defArgs (inClass (top 22) 0)) (defBody (inClass (top 22) 0)) (defScope (inClass (top 22) 0)) .none kV_Listener__init dc_Listener__init pm_Listener__init an_Listener__init cd_Listener__init ct_Listener__init), a_law_rules_copy := a_law_rules_copy, d_law_rules_copy := (PySem.W.fnOf "_law_rules_copy" "_law_rules_copy" (defArgs (top 39)) (defBody (top 39)) (defScope (top 39)) .none kV_law_rules_copy dc_law_rules_copy pm_law_rules_copy an_law_rules_copy cd_law_rules_copy ct_law_rules_copy), a_law_listener := a_law_listener, d_law_listener := (PySem.W.fnOf "_law_listener" "_law_listener" (defArgs (top 40)) (defBody (top 40)) (defScope (top 40)) .none kV_law_listener dc_law_listener pm_law_listener an_law_listener cd_law_listener ct_law_listener), a_law_number := a_law_number, d_law_number := (PySem.W.fnOf "_law_number" "_law_number" (defArgs (top 36)) (defBody (top 36)) (defScope (top 36)) .none kV_law_number dc_law_number pm_law_number an_law_number cd_law_number ct_law_number), a_is_tuple_of_integers := a_is_tuple_of_integers, d_is_tuple_of_integers := (PySem.W.fnOf "is_tuple_of_integers" "is_tuple_of_integers" (defArgs (top 12)) (defBody (top 12)) (defScope (top 12)) .none kV_is_tuple_of_integers dc_is_tuple_of_integers pm_is_tuple_of_integers an_is_tuple_of_integers cd_is_tuple_of_integers ct_is_tuple_of_integers), a_is_stand := a_is_stand, d_is_stand := (PySem.W.fnOf "is_stand" "is_stand" (defArgs (top 24)) (defBody (top 24)) (defScope (top 24)) .none kV_is_stand dc_is_stand pm_is_stand an_is_stand cd_is_stand ct_is_stand), a_Listener_cell_count := a_Listener_cell_count, d_Listener_cell_count := (PySem.W.fnOf "cell_count" "Listener.cell_count" (defArgs (inClass (top 22) 6)) (defBody (inClass (top 22) 6)) (defScope (inClass (top 22) 6)) .none kV_Listener_cell_count dc_Listener_cell_count pm_Listener_cell_count an_Listener_cell_count cd_Listener_cell_count ct_Listener_cell_count), a_Listener_control_count := a_Listener_control_count, d_Listener_control_count := (PySem.W.fnOf "control_count" "Listener.control_count" (defArgs (inClass (top 22) 5)) (defBody (inClass (top 22) 5)) (defScope (inClass (top 22) 5)) .none kV_Listener_control_count dc_Listener_control_count pm_Listener_control_count an_Listener_control_count cd_Listener_control_count ct_Listener_control_count), a_Listener_check_stand := a_Listener_check_stand, d_Listener_check_stand := (PySem.W.fnOf "check_stand" "Listener.check_stand" (defArgs (inClass (top 22) 13)) (defBody (inClass (top 22) 13)) (defScope (inClass (top 22) 13)) .none kV_Listener_check_stand dc_Listener_check_stand pm_Listener_check_stand an_Listener_check_stand cd_Listener_check_stand ct_Listener_check_stand), a_is_message := a_is_message, d_is_message := (PySem.W.fnOf "is_message" "is_message" (defArgs (top 25)) (defBody (top 25)) (defScope (top 25)) .none kV_is_message dc_is_message pm_is_message an_is_message cd_is_message ct_is_message), a_form_value := a_form_value, d_form_value := (PySem.W.fnOf "form_value" "form_value" (defArgs (top 13)) (defBody (top 13)) (defScope (top 13)) .none kV_form_value dc_form_value pm_form_value an_form_value cd_form_value ct_form_value), a_Listener_heard := a_Listener_heard, d_Listener_heard := (PySem.W.fnOf "heard" "Listener.heard" (defArgs (inClass (top 22) 12)) (defBody (inClass (top 22) 12)) (defScope (inClass (top 22) 12)) .none kV_Listener_heard dc_Listener_heard pm_Listener_heard an_Listener_heard cd_Listener_heard ct_Listener_heard), a_Listener_hear_all := a_Listener_hear_all, d_Listener_hear_all := (PySem.W.fnOf "hear_all" "Listener.hear_all" (defArgs (inClass (top 22) 9)) (defBody (inClass (top 22) 9)) (defScope (inClass (top 22) 9)) .none kV_Listener_hear_all dc_Listener_hear_all pm_Listener_hear_all an_Listener_hear_all cd_Listener_hear_all ct_Listener_hear_all), a_law_is_integer := a_law_is_integer, d_law_is_integer := (PySem.W.fnOf "_law_is_integer" "_law_is_integer" (defArgs (top 41)) (defBody (top 41)) (defScope (top 41)) .none kV_law_is_integer dc_law_is_integer pm_law_is_integer an_law_is_integer cd_law_is_integer ct_law_is_integer), a_law_are_numbers := a_law_are_numbers, d_law_are_numbers := (PySem.W.fnOf "_law_are_numbers" "_law_are_numbers" (defArgs (top 42)) (defBody (top 42)) (defScope (top 42)) .none kV_law_are_numbers dc_law_are_numbers pm_law_are_numbers an_law_are_numbers cd_law_are_numbers ct_law_are_numbers), a_law_same_stand := a_law_same_stand, d_law_same_stand := (PySem.W.fnOf "_law_same_stand" "_law_same_stand" (defArgs (top 43)) (defBody (top 43)) (defScope (top 43)) .none kV_law_same_stand dc_law_same_stand pm_law_same_stand an_law_same_stand cd_law_same_stand ct_law_same_stand), a_law_gaps := a_law_gaps, d_law_gaps := (PySem.W.fnOf "_law_gaps" "_law_gaps" (defArgs (top 44)) (defBody (top 44)) (defScope (top 44)) .none kV_law_gaps dc_law_gaps pm_law_gaps an_law_gaps cd_law_gaps ct_law_gaps), a_law := fa, d_law := (PySem.W.fnOf "law" "law" (defArgs (top 45)) (defBody (top 45)) (defScope (top 45)) .none kV_law dc_law pm_law an_law cd_law ct_law) } := { cl_0 := ⟨pg0, hd0, po0, sa0⟩, mc_0 := PySem.W.mg_of X Gg aC0, h_law_draw := ⟨fun_mk l_law_draw c_law_draw k_law_draw, (fun_mk (st := (top 35)) l_law_draw c_law_draw k_law_draw).binds fun _ _ _ _ _ _ us hl => match us, hl with | [_, _], _ => rfl, PySem.W.mg_of X Gg x_law_draw⟩, h_law_rule := ⟨fun_mk l_law_rule c_law_rule k_law_rule, (fun_mk (st := (top 37)) l_law_rule c_law_rule k_law_rule).binds fun _ _ _ _ _ _ us hl => match us, hl with | [_, _, _, _, _], _ => rfl, PySem.W.mg_of X Gg x_law_rule⟩, h_law_parts := ⟨fun_mk l_law_parts c_law_parts k_law_parts, (fun_mk (st := (top 38)) l_law_parts c_law_parts k_law_parts).binds fun _ _ _ _ _ _ us hl => match us, hl with | [_], _ => rfl, PySem.W.mg_of X Gg x_law_parts⟩, h_law_pool := ⟨fun_mk l_law_pool c_law_pool k_law_pool, (fun_mk (st := (top 34)) l_law_pool c_law_pool k_law_pool).binds fun _ _ _ _ _ _ us hl => match us, hl with | [_, _], _ => rfl, PySem.W.mg_of X Gg x_law_pool⟩, h_is_integer := ⟨fun_mk l_is_integer c_is_integer k_is_integer, (fun_mk (st := (top 8)) l_is_integer c_is_integer k_is_integer).binds fun _ _ _ _ _ _ us hl => match us, hl with | [_], _ => rfl, PySem.W.mg_of X Gg x_is_integer⟩, h_is_integer_from := ⟨fun_mk l_is_integer_from c_is_integer_from k_is_integer_from, (fun_mk (st := (top 9)) l_is_integer_from c_is_integer_from k_is_integer_from).binds fun _ _ _ _ _ _ us hl => match us, hl with | [_, _, _], _ => rfl, PySem.W.mg_of X Gg x_is_integer_from⟩, h_are_burdens := ⟨fun_mk l_are_burdens c_are_burdens k_are_burdens, (fun_mk (st := (top 26)) l_are_burdens c_are_burdens k_are_burdens).binds fun _ _ _ _ _ _ us hl => match us, hl with | [_], _ => rfl, PySem.W.mg_of X Gg x_are_burdens⟩, h_is_list_of := ⟨fun_mk l_is_list_of c_is_list_of k_is_list_of, (fun_mk (st := (top 11)) l_is_list_of c_is_list_of k_is_list_of).binds fun _ _ _ _ _ _ us hl => match us, hl with | [_, _], _ => rfl, PySem.W.mg_of X Gg x_is_list_of⟩, h_is_index := ⟨fun_mk l_is_index c_is_index k_is_index, (fun_mk (st := (top 10)) l_is_index c_is_index k_is_index).binds fun _ _ _ _ _ _ us hl => match us, hl with | [_, _], _ => rfl, PySem.W.mg_of X Gg x_is_index⟩, h_is_rule := ⟨fun_mk l_is_rule c_is_rule k_is_rule, (fun_mk (st := (top 28)) l_is_rule c_is_rule k_is_rule).binds fun _ _ _ _ _ _ us hl => match us, hl with | [_, _], _ => rfl, PySem.W.mg_of X Gg x_is_rule⟩, h_cells_of := ⟨fun_mk l_cells_of c_cells_of k_cells_of, (fun_mk (st := (top 23)) l_cells_of c_cells_of k_cells_of).binds fun _ _ _ _ _ _ us hl => match us, hl with | [_], _ => rfl, PySem.W.mg_of X Gg x_cells_of⟩, h_is_row := ⟨fun_mk l_is_row c_is_row k_is_row, (fun_mk (st := (top 32)) l_is_row c_is_row k_is_row).binds fun _ _ _ _ _ _ us hl => match us, hl with | [_, _], _ => rfl, PySem.W.mg_of X Gg x_is_row⟩, h_are_rows := ⟨fun_mk l_are_rows c_are_rows k_are_rows, (fun_mk (st := (top 31)) l_are_rows c_are_rows k_are_rows).binds fun _ _ _ _ _ _ us hl => match us, hl with | [_, _], _ => rfl, PySem.W.mg_of X Gg x_are_rows⟩, h_are_rule_rows := ⟨fun_mk l_are_rule_rows c_are_rule_rows k_are_rule_rows, (fun_mk (st := (top 29)) l_are_rule_rows c_are_rule_rows k_are_rule_rows).binds fun _ _ _ _ _ _ us hl => match us, hl with | [_, _, _], _ => rfl, PySem.W.mg_of X Gg x_are_rule_rows⟩, h_are_rules := ⟨fun_mk l_are_rules c_are_rules k_are_rules, (fun_mk (st := (top 27)) l_are_rules c_are_rules k_are_rules).binds fun _ _ _ _ _ _ us hl => match us, hl with | [_, _], _ => rfl, PySem.W.mg_of X Gg x_are_rules⟩, h_are_shows := ⟨fun_mk l_are_shows c_are_shows k_are_shows, (fun_mk (st := (top 30)) l_are_shows c_are_shows k_are_shows).binds fun _ _ _ _ _ _ us hl => match us, hl with | [_, _, _], _ => rfl, PySem.W.mg_of X Gg x_are_shows⟩, h_copied := ⟨fun_mk l_copied c_copied k_copied, (fun_mk (st := (top 14)) l_copied c_copied k_copied).binds fun _ _ _ _ _ _ us hl => match us, hl with | [_], _ => rfl, PySem.W.mg_of X Gg x_copied⟩, h_Listener__init := ⟨fun_mk l_Listener__init c_Listener__init k_Listener__init, (fun_mk (st := (inClass (top 22) 0)) l_Listener__init c_Listener__init k_Listener__init).binds fun _ _ _ _ _ _ us hl => match us, hl with | [_, _, _, _], _ => rfl⟩, mk_0 := ⟨mk0, x_Listener__init, i_Listener__init, kc0⟩, h_law_rules_copy := ⟨fun_mk l_law_rules_copy c_law_rules_copy k_law_rules_copy, (fun_mk (st := (top 39)) l_law_rules_copy c_law_rules_copy k_law_rules_copy).binds fun _ _ _ _ _ _ us hl => match us, hl with | [_], _ => rfl, PySem.W.mg_of X Gg x_law_rules_copy⟩, h_law_listener := ⟨fun_mk l_law_listener c_law_listener k_law_listener, (fun_mk (st := (top 40)) l_law_listener c_law_listener k_law_listener).binds fun _ _ _ _ _ _ us hl => match us, hl with | [_], _ => rfl, PySem.W.mg_of X Gg x_law_listener⟩, h_law_number := ⟨fun_mk l_law_number c_law_number k_law_number, (fun_mk (st := (top 36)) l_law_number c_law_number k_law_number).binds fun _ _ _ _ _ _ us hl => match us, hl with | [_], _ => rfl, PySem.W.mg_of X Gg x_law_number⟩, h_is_tuple_of_integers := ⟨fun_mk l_is_tuple_of_integers c_is_tuple_of_integers k_is_tuple_of_integers, (fun_mk (st := (top 12)) l_is_tuple_of_integers c_is_tuple_of_integers k_is_tuple_of_integers).binds fun _ _ _ _ _ _ us hl => match us, hl with | [_, _], _ => rfl, PySem.W.mg_of X Gg x_is_tuple_of_integers⟩, h_is_stand := ⟨fun_mk l_is_stand c_is_stand k_is_stand, (fun_mk (st := (top 24)) l_is_stand c_is_stand k_is_stand).binds fun _ _ _ _ _ _ us hl => match us, hl with | [_, _, _], _ => rfl, PySem.W.mg_of X Gg x_is_stand⟩, h_Listener_cell_count := ⟨fun_mk l_Listener_cell_count c_Listener_cell_count k_Listener_cell_count, (fun_mk (st := (inClass (top 22) 6)) l_Listener_cell_count c_Listener_cell_count k_Listener_cell_count).binds fun _ _ _ _ _ _ us hl => match us, hl with | [_], _ => rfl, ⟨x_Listener_cell_count, i_Listener_cell_count, k_Listener_cell_count⟩⟩, h_Listener_control_count := ⟨fun_mk l_Listener_control_count c_Listener_control_count k_Listener_control_count, (fun_mk (st := (inClass (top 22) 5)) l_Listener_control_count c_Listener_control_count k_Listener_control_count).binds fun _ _ _ _ _ _ us hl => match us, hl with | [_], _ => rfl, ⟨x_Listener_control_count, i_Listener_control_count, k_Listener_control_count⟩⟩, h_Listener_check_stand := ⟨fun_mk l_Listener_check_stand c_Listener_check_stand k_Listener_check_stand, (fun_mk (st := (inClass (top 22) 13)) l_Listener_check_stand c_Listener_check_stand k_Listener_check_stand).binds fun _ _ _ _ _ _ us hl => match us, hl with | [_, _], _ => rfl, ⟨x_Listener_check_stand, i_Listener_check_stand, k_Listener_check_stand⟩⟩, h_is_message := ⟨fun_mk l_is_message c_is_message k_is_message, (fun_mk (st := (top 25)) l_is_message c_is_message k_is_message).binds fun _ _ _ _ _ _ us hl => match us, hl with | [_, _], _ => rfl, PySem.W.mg_of X Gg x_is_message⟩, h_form_value := ⟨fun_mk l_form_value c_form_value k_form_value, (fun_mk (st := (top 13)) l_form_value c_form_value k_form_value).binds fun _ _ _ _ _ _ us hl => match us, hl with | [_, _], _ => rfl, PySem.W.mg_of X Gg x_form_value⟩, h_Listener_heard := ⟨fun_mk l_Listener_heard c_Listener_heard k_Listener_heard, (fun_mk (st := (inClass (top 22) 12)) l_Listener_heard c_Listener_heard k_Listener_heard).binds fun _ _ _ _ _ _ us hl => match us, hl with | [_, _, _], _ => rfl, ⟨x_Listener_heard, i_Listener_heard, k_Listener_heard⟩⟩, h_Listener_hear_all := ⟨fun_mk l_Listener_hear_all c_Listener_hear_all k_Listener_hear_all, (fun_mk (st := (inClass (top 22) 9)) l_Listener_hear_all c_Listener_hear_all k_Listener_hear_all).binds fun _ _ _ _ _ _ us hl => match us, hl with | [_, _, _], _ => rfl, ⟨x_Listener_hear_all, i_Listener_hear_all, k_Listener_hear_all⟩⟩, h_law_is_integer := ⟨fun_mk l_law_is_integer c_law_is_integer k_law_is_integer, (fun_mk (st := (top 41)) l_law_is_integer c_law_is_integer k_law_is_integer).binds fun _ _ _ _ _ _ us hl => match us, hl with | [_], _ => rfl, PySem.W.mg_of X Gg x_law_is_integer⟩, h_law_are_numbers := ⟨fun_mk l_law_are_numbers c_law_are_numbers k_law_are_numbers, (fun_mk (st := (top 42)) l_law_are_numbers c_law_are_numbers k_law_are_numbers).binds fun _ _ _ _ _ _ us hl => match us, hl with | [_, _], _ => rfl, PySem.W.mg_of X Gg x_law_are_numbers⟩, h_law_same_stand := ⟨fun_mk l_law_same_stand c_law_same_stand k_law_same_stand, (fun_mk (st := (top 43)) l_law_same_stand c_law_same_stand k_law_same_stand).binds fun _ _ _ _ _ _ us hl => match us, hl with | [_, _], _ => rfl, PySem.W.mg_of X Gg x_law_same_stand⟩, h_law_gaps := ⟨fun_mk l_law_gaps c_law_gaps k_law_gaps, (fun_mk (st := (top 44)) l_law_gaps c_law_gaps k_law_gaps).binds fun _ _ _ _ _ _ us hl => match us, hl with | [_, _, _, _], _ => rfl, PySem.W.mg_of X Gg x_law_gaps⟩, h_law := ⟨fun_mk l_law c_law k_law, (fun_mk (st := (top 45)) l_law c_law k_law).binds fun _ _ _ _ _ _ us hl => match us, hl with | [_], _ => rfl, PySem.W.mg_of X Gg x_law⟩, na_0_burdens := na_0_burdens, na_0_rules := na_0_rules, na_0_shows := na_0_shows, n_all := PySem.W.mg_none_of X Gg n_all, n_bool := PySem.W.mg_none_of X Gg n_bool, n_enumerate := PySem.W.mg_none_of X Gg n_enumerate, n_int := PySem.W.mg_none_of X Gg n_int, n_isinstance := PySem.W.mg_none_of X Gg n_isinstance, n_len := PySem.W.mg_none_of X Gg n_len, n_list := PySem.W.mg_none_of X Gg n_list, n_max := PySem.W.mg_none_of X Gg n_max, n_min := PySem.W.mg_none_of X Gg n_min, n_range := PySem.W.mg_none_of X Gg n_range, n_sum := PySem.W.mg_none_of X Gg n_sum, n_tuple := PySem.W.mg_none_of X Gg n_tuple, n_zip := PySem.W.mg_none_of X Gg n_zip, c_MOST_BURDEN := ⟨t_MOST_BURDEN, PySem.W.mg_of X Gg z_MOST_BURDEN⟩, c_MOST_CELLS := ⟨t_MOST_CELLS, PySem.W.mg_of X Gg z_MOST_CELLS⟩, c_MOST_CONTROLS := ⟨t_MOST_CONTROLS, PySem.W.mg_of X Gg z_MOST_CONTROLS⟩, c_MOST_FACTOR := ⟨t_MOST_FACTOR, PySem.W.mg_of X Gg z_MOST_FACTOR⟩, c_MOST_KINDS := ⟨t_MOST_KINDS, PySem.W.mg_of X Gg z_MOST_KINDS⟩, c_MOST_SHOWS := ⟨t_MOST_SHOWS, PySem.W.mg_of X Gg z_MOST_SHOWS⟩ }
  exact ⟨_, fun s v => .of_eq rfl, fun base _ _ => ok_law T hm⟩
theorem walk {l : PySem.W.OpenLaw} {q : Program} {loose : List Str} {XP : (Str → Option Value) → Heap → Prop} {YP : World → Heap → Prop} {d : DefRec} {K : Params → PySem.W.Frag} (hn : l.most = some 63) (hdf : d.params.defaults = [])
    (hY : ∀ (w : World) (h : Heap), YP w h → (K w.params).In h)
    (F : ∀ (w : World) (mg : Str → Option Value) (fa : Addr) (h : Heap), (K w.params).In h → h.Ns mainGlobals mg → mg d.name = some (.ref fa) →
      ∃ fd : FuncData, (∀ (s : Shared) (u : Value), BindsTo s fd ⟨[u], []⟩ [("_law_script", u)]) ∧ ∀ base : Heap, (K w.params).In base → base.Ns mainGlobals mg → FnOk l.prog w (K w.params) mg base CX0 10 fa fd ["_law_script"] (fun vs H Q _ => ∃ (a : Addr) (ns : List Int), vs = [.ref a] ∧ SqL (K w.params) H a (ns.map V.int) ∧ ns.length ≤ 63 ∧ ∀ H', Q (.bl true) H')) :
    PySem.W.WalkO q loose XP YP l.row.toRowW d [] (fun f vs => PySem.call f vs) :=
  L2.walk_of (n := 63) (k := 10) (x := "_law_script") (CX := fun _ => CX0) (sp := fun w => fun vs H Q _ => ∃ (a : Addr) (ns : List Int), vs = [.ref a] ∧ SqL (K w.params) H a (ns.map V.int) ∧ ns.length ≤ 63 ∧ ∀ H', Q (.bl true) H') hn (by decide) hdf ⟨rfl, by decide, by decide⟩ hY F (fun _ _ a ns hl _ hS => ⟨a, ns, rfl, hS, hl, fun _ => rfl⟩) fun _ _ _ _ _ z => z
theorem third_gap {n : Nat} {v w : List Int} (hv : v.length = n) (hw : w.length = n) : List.zipWith (fun a b => b - a) v ((List.range n).map fun k => 2 * w.getD k 0 - v.getD k 0) = (List.zipWith (fun a b => b - a) v w).map (fun x => 2 * x) := by
  apply List.ext_getElem
  · simp [hv, hw]
  · intro i h1 h2
    simp [hv] at h1
    have e1 : i < v.length := by omega
    have e2 : i < w.length := by omega
    simp [List.getD_eq_getElem?_getD, e1, e2]
    omega
theorem pool_ok {ns : List Int} {k : Int} {K : Unit → Prop} {E : Xc → Prop} (h : 0 ≤ k) (q : K ()) : c_law_pool [.scr ns, .fz (.int k)] K E := ⟨ns, k, rfl, h, q⟩
def rest16 : PL.Env → Ws := (sSeq (sSet 17 (callF c_law_gaps (dC (rd 2) (dC (dispL D.tup (consA (rd 5) (consA (callN tupleD (consA (rd 6) nilA)) nilA))) (dC (dispL D.tup (consA (rd 5) (consA (callN tupleD (consA (rd 8) nilA)) nilA))) (dC (slL (rd 10) (fun _ => W.pure none) (intO (rd 16))) nilC))))))
    (sSeq (sSet 18 (callF c_law_gaps (dC (rd 2) (dC (dispL D.tup (consA (rd 5) (consA (callN tupleD (consA (rd 6) nilA)) nilA))) (dC (dispL D.tup (consA (rd 5) (consA (callN tupleD (consA (rd 8) nilA)) nilA))) (dC (slL (rd 11) (fun _ => W.pure none) (intO (rd 16))) nilC))))))
    (sSeq (sSet 19 (callF c_law_gaps (dC (rd 2) (dC (dispL D.tup (consA (rd 5) (consA (callN tupleD (consA (rd 6) nilA)) nilA))) (dC (dispL D.tup (consA (rd 5) (consA (callN tupleD (consA (rd 9) nilA)) nilA))) (dC (slL (rd 10) (fun _ => W.pure none) (intO (rd 16))) nilC))))))
    (sSeq (sIf (orB (testB (bin2 isND (rd 17) (kst .non))) (orB (testB (bin2 neD (rd 17) (rd 18))) (testB (bin2 isND (rd 19) (kst .non))))) (sRet (kst (.bl false))) sNx)
    (sIf (testB (bin2 neD (rd 19) (lstV (lcN (lstI (rd 17)) [20] (nameG 20) yesB (bin2 mulD (kst (.int 2)) (rd 20)))))) (sRet (kst (.bl false))) sNx)))))
theorem rest_ok {i q m : Nat} {ns : List Int} {p : Parts} {c : Int} {one other third : List Int} {first second : List Msg} {a13 a14 a17 a18 a19 : Sl} {QS : Fl → PL.Env → Prop} {ES : Xc → PL.Env → Prop}
    (ok : PartsOk m p) (hs1 : StandOk p m ⟨c, one⟩) (hs2 : StandOk p m ⟨c, other⟩) (hs3 : StandOk p m ⟨c, third⟩) (h3g : List.zipWith (fun a b => b - a) one third = (List.zipWith (fun a b => b - a) one other).map (fun x => 2 * x))
    (g2 : first.map Msg.k = second.map Msg.k) (g3 : ∀ g ∈ first, MsgOk p g) (g4 : ∀ g ∈ second, MsgOk p g) (hq : q ≤ first.length) (hq2 : q ≤ second.length)
    (hk : ∀ a17 a18 a19, QS .nx [.scr ns, .fz (dParts p), .fz (dL p), .fz (.int m), .pool, .fz (.int c), .fz (dRow one), .un, .fz (dRow other), .fz (dRow third), .fz (dList dMsg first), .fz (dList dMsg second), .fz (.int i), a13, a14, .un, .fz (.int q), a17, a18, a19, .un]) :
    rest16 [.scr ns, .fz (dParts p), .fz (dL p), .fz (.int m), .pool, .fz (.int c), .fz (dRow one), .un, .fz (dRow other), .fz (dRow third), .fz (dList dMsg first), .fz (dList dMsg second), .fz (.int i), a13, a14, .un, .fz (.int q), a17, a18, a19, .un] QS ES := by
  have e1 : D.lst (cutD (first.map dMsg) none (some (q : Int))) = dList dMsg (first.take q) := by rw [cut_take (by simpa using hq)]; simp [dList]
  have e2 : D.lst (cutD (second.map dMsg) none (some (q : Int))) = dList dMsg (second.take q) := by rw [cut_take (by simpa using hq2)]; simp [dList]
  have t1 : ∀ g ∈ first.take q, MsgOk p g := fun g hg => g3 g (List.mem_of_mem_take hg)
  have t2 : ∀ g ∈ second.take q, MsgOk p g := fun g hg => g4 g (List.mem_of_mem_take hg)
  have ek : (second.take q).map Msg.k = (first.take q).map Msg.k := by rw [List.map_take, List.map_take, g2]
  have z := sz (n := 10) (by decide)
  simp [rest16]
  refine ⟨by omega, ?_⟩
  refine ⟨p, m, ⟨c, one⟩, ⟨c, other⟩, first.take q, by show [_, _, _, Sl.fz (D.lst (cutD (first.map dMsg) none (some (q : Int))))] = _; rw [e1]; rfl, ok, hs1, hs2, rfl, t1, ?_⟩
  try simp
  refine ⟨by omega, ?_⟩
  refine ⟨p, m, ⟨c, one⟩, ⟨c, other⟩, second.take q, by show [_, _, _, Sl.fz (D.lst (cutD (second.map dMsg) none (some (q : Int))))] = _; rw [e2]; rfl, ok, hs1, hs2, rfl, t2, ?_⟩
  try simp
  refine ⟨by omega, ?_⟩
  refine ⟨p, m, ⟨c, one⟩, ⟨c, third⟩, first.take q, by show [_, _, _, Sl.fz (D.lst (cutD (first.map dMsg) none (some (q : Int))))] = _; rw [e1]; rfl, ok, hs1, hs3, rfl, t1, ?_⟩
  have hA := (gap_run ok hs1 hs2 rfl t1).2
  have hlA : (gapRun p c (List.take q (first.map Msg.k)) (gap ⟨c, one⟩ ⟨c, other⟩)).length ≤ sizeLine := by
    rw [← List.map_take]
    show (gapRun p (Stand.mk c one).c _ _).length ≤ _
    rw [← hA]
    unfold gap
    rw [List.length_zipWith, (hearAll_ok ok hs1 t1).2.2]
    have := ok.m3
    omega
  have e3 : gapRun p c (List.take q (first.map Msg.k)) (gap ⟨c, one⟩ ⟨c, third⟩) = (gapRun p c (List.take q (first.map Msg.k)) (gap ⟨c, one⟩ ⟨c, other⟩)).map fun x => 2 * x := by
    rw [← gapRun_twice]
    congr 1
  rw [← g2]
  show (fun d => _) (dRow (gapRun p c ((first.take q).map Msg.k) (gap ⟨c, one⟩ ⟨c, third⟩)))
  rw [List.map_take, e3]
  generalize gapRun p c (List.take q (first.map Msg.k)) (gap ⟨c, one⟩ ⟨c, other⟩) = A at hlA ⊢
  have cm : ∀ z, CMul 2 z := fun z => .inl ⟨by decide, by decide⟩
  have no : ∀ xs : List Int, isNo (dRow xs) = false := fun _ => rfl
  have okr : ∀ xs : List Int, okN 2 (dRow xs) = true := fun xs => by simp [okN, dList, okNs_ints]
  simp [no]
  refine neD_self 2 (by decide) (okr A) ?_
  simp [no]
  refine ⟨⟨rfl, hlA⟩, ?_⟩
  refine lcL_map (fun z => .int (2 * z)) (fun z hz K hK => ?_) ?_
  · simp [wipeE]
    exact ⟨.inl (cm z), hK⟩
  · have e4 : D.lst (A.map fun z => D.int (2 * z)) = dRow (A.map fun x => 2 * x) := by
      show _ = D.lst ((A.map fun x => 2 * x).map D.int)
      rw [List.map_map]
      rfl
    rw [e4]
    refine neD_self 2 (by decide) (okr _) ?_
    simp
    exact hk _ _ _
theorem law_split : b_law = (sSeq (sSet 1 (callF c_law_parts (newC (callP c_law_pool (slC 0 (dC (kst (.int 0)) nilC))) nilC)))
    (sSeq (sSet 2 (callF c_law_listener (dC (rd 1) nilC)))
    (sSeq (sSet 3 (callN lenD (consA (bin2 ixD (bin2 ixD (bin2 ixD (bin2 ixD (rd 1) (kst (.int 1))) (kst (.int 0))) (kst (.int 0))) (kst (.int 1))) nilA)))
    (sSeq (sSetP 4 (callP c_law_pool (slC 0 (dC (kst (.int 1)) nilC))))
    (sSeq (sSet 5 (callF c_law_draw (slC 4 (dC (callN lenD (consA (bin2 ixD (rd 1) (kst (.int 1))) nilA)) nilC))))
    (sSeq (sSet 6 (lstV (lcN (rng1 (rd 3)) [7] (nameG 7) yesB (bin2 divD (callF c_law_number (slC 4 nilC)) (kst (.int 3))))))
    (sSeq (sSet 8 (lstV (lcN (rng1 (rd 3)) [7] (nameG 7) yesB (bin2 divD (callF c_law_number (slC 4 nilC)) (kst (.int 3))))))
    (sSeq (sSet 9 (lstV (lcN (rng1 (rd 3)) [7] (nameG 7) yesB (bin2 subD (bin2 mulD (kst (.int 2)) (bin2 ixD (rd 8) (rd 7))) (bin2 ixD (rd 6) (rd 7))))))
    (sSeq (sSetN 10 (dispN nilA))
    (sSeq (sSetN 11 (dispN nilA))
    (sSeq (sFor (rng1 (callN min2D (consA (kst (.int 50)) (consA (callN max2D (consA (kst (.int 6)) (consA (bin2 subD (lenS 0) (kst (.int 2))) nilA))) nilA)))) (nameG 12) (sSeq (sSetP 13 (callP c_law_pool (slC 0 (dC (bin2 addD (kst (.int 2)) (rd 12)) nilC))))
    (sSeq (sSet 14 (callF c_law_draw (slC 13 (dC (callN lenD (consA (bin2 ixD (rd 1) (kst (.int 0))) nilA)) nilC))))
    (sSeq (sApp 10 (dispL D.tup (consA (rd 14) (consA (callN tupleD (consA (lstV (lcN (rng1 (bin2 ixD (bin2 ixD (rd 1) (kst (.int 0))) (rd 14))) [15] (nameG 15) yesB (callF c_law_number (slC 13 nilC)))) nilA)) nilA))))
    (sApp 11 (dispL D.tup (consA (rd 14) (consA (callN tupleD (consA (lstV (lcN (rng1 (bin2 ixD (bin2 ixD (rd 1) (kst (.int 0))) (rd 14))) [15] (nameG 15) yesB (callF c_law_number (slC 13 nilC)))) nilA)) nilA))))))))
    (sFrz 10 (sFrz 11 (sSeq (sFor (rng1 (kst (.int 4))) (nameG 12) (sSeq (sSet 16 (callN lenD (consA (rd 10) nilA)))
    (sSeq (sIf (testB (bin2 ltD (rd 12) (kst (.int 3)))) (sSet 16 (callF c_law_draw (slC 4 (dC (bin2 addD (callN lenD (consA (rd 10) nilA)) (kst (.int 1))) nilC)))) sNx)
    rest16)))
    (sRet (kst (.bl true))))))))))))))))) := rfl
theorem main (ns : List Int) (hl : ns.length ≤ 63) : m_law [.scr ns] (fun d => d = .bl true) (fun _ => False) := by
  refine ⟨rfl, ?_⟩
  rw [law_split]
  simp
  refine pool_ok (by decide) ⟨rfl, fun p m ok => ⟨p, m, rfl, ok, ?_⟩⟩
  obtain ⟨l0, r0, f1, f2, f3⟩ := first_rule ok
  have hm1 := ok.m1
  have hm3 := ok.m3
  have hc1 := ok.c1
  have hc3 := ok.c3
  have hk1 := ok.k1
  have hk3 := ok.k3
  have z := sz (n := 60) (by decide)
  simp
  refine ⟨l0, f1, r0, f2, pool_ok (by decide) (draw_ok (by omega) (by omega) fun c c0 c1 => ?_)⟩
  have d3 : ∀ i, CDiv i 3 := fun i => ⟨by decide, by decide⟩
  have num : ∀ (K : D → Prop) (E : Xc → Prop), (∀ z : Int, K (.int z)) → c_law_number [.pool] K E := fun K E h => ⟨rfl, h⟩
  simp [f3]
  refine ⟨by omega, ⟨rfl, by omega⟩, ?_⟩
  refine lcL_draw _ D.int (fun _ _ => True) (fun j _ k' hk' => ?_) fun one ho _ => ?_
  · simp [wipeE]
    exact num _ _ fun z => by simpa [d3] using hk' _ trivial
  refine ⟨by omega, ⟨rfl, by omega⟩, ?_⟩
  refine lcL_draw _ D.int (fun _ _ => True) (fun j _ k' hk' => ?_) fun other ho2 _ => ?_
  · simp [wipeE]
    exact num _ _ fun z => by simpa [d3] using hk' _ trivial
  simp at ho ho2
  refine ⟨by omega, ⟨rfl, by omega⟩, ?_⟩
  refine lcL_map (fun k => .int (2 * other.getD k 0 - one.getD k 0)) (fun i hi K hK => ?_) ?_
  · have hi' : i < m := by simpa using hi
    have e1 : other[i]? = some (other.getD i 0) := by simp [List.getD_eq_getElem?_getD, ho2, hi']
    have e2 : one[i]? = some (one.getD i 0) := by simp [List.getD_eq_getElem?_getD, ho, hi']
    have cm : ∀ z, CMul 2 z := fun z => .inl ⟨by decide, by decide⟩
    simp only [nameG_app, wipeE]
    simp
    refine ⟨.int (other.getD i 0), by rw [atI_map, atI_nat e1]; rfl, ?_⟩
    rw [mulD_int]
    refine ⟨.inl (cm _), .int (one.getD i 0), by rw [atI_map, atI_nat e2]; rfl, ?_⟩
    rw [subD_int]
    exact hK
  obtain ⟨N, hN, hN60, eN⟩ : ∃ N : Nat, 6 ≤ N ∧ N ≤ 50 ∧ (if (if 6 < (↑ns.length - 2 : Int) then (↑ns.length - 2 : Int) else 6) < 50 then if 6 < (↑ns.length - 2 : Int) then (↑ns.length - 2 : Int) else 6 else 50) = (N : Int) := by
    refine ⟨(if (if 6 < (↑ns.length - 2 : Int) then (↑ns.length - 2 : Int) else 6) < 50 then if 6 < (↑ns.length - 2 : Int) then (↑ns.length - 2 : Int) else 6 else 50).toNat, ?_, ?_, ?_⟩
    all_goals (repeat' split) <;> omega
  rw [eN]
  refine ⟨⟨by omega, by omega⟩, ?_⟩
  have e3 : D.lst (List.map (fun k => D.int (2 * other.getD k 0 - one.getD k 0)) (List.range m)) = dRow ((List.range m).map fun k => 2 * other.getD k 0 - one.getD k 0) := by
    show _ = D.lst (List.map D.int _)
    rw [List.map_map]
    rfl
  rw [e3]
  obtain ⟨third, h3l, h3g, h3e⟩ : ∃ third : List Int, third.length = m ∧ List.zipWith (fun a b => b - a) one third = (List.zipWith (fun a b => b - a) one other).map (fun x => 2 * x) ∧ ((List.range m).map fun k => 2 * other.getD k 0 - one.getD k 0) = third :=
    ⟨_, by simp, by rw [← third_gap ho ho2], rfl⟩
  rw [h3e]
  refine forE_inv (fun i ρ => ∃ (first second : List Msg) (a12 a13 a14 : Sl), first.length = i ∧ first.map Msg.k = second.map Msg.k ∧ (∀ g ∈ first, MsgOk p g) ∧ (∀ g ∈ second, MsgOk p g) ∧ ρ = [.scr ns, .fz (dParts p), .fz (dL p), .fz (.int m), .pool, .fz (.int c), .fz (dRow one), .un, .fz (dRow other), .fz (dRow third), .ow (first.map dMsg), .ow (second.map dMsg), a12, a13, a14, .un, .un, .un, .un, .un, .un]) (fun i d ρ K hi ⟨first, second, a12, a13, a14, g1, g2, g3, g4, e⟩ hk _ _ _ => ?_) (fun ρ ⟨first, second, a12, a13, a14, g1, g2, g3, g4, e⟩ => ?_) ⟨[], [], .un, .un, .un, rfl, rfl, by simp, by simp, rfl⟩
  · subst e
    obtain ⟨hi2, rfl⟩ := rng_at hi
    simp
    refine pool_ok (by omega) (draw_ok (by omega) (by omega) fun q q0 q1 => ?_)
    obtain ⟨q', rfl⟩ := Int.eq_ofNat_of_zero_le q0
    have hq : q' < p.bs.length := by omega
    have hb := List.getElem?_eq_getElem hq
    have hb2 := ok.b _ (List.mem_of_getElem? hb)
    have hb3 : (0 : Int) ≤ p.bs[q'] ∧ p.bs[q'] ≤ 2 := hb2
    have hat := atI_nat hb
    have nums : ∀ (ρ : PL.Env) (K : List D → Prop) (E : Xc → Prop) (i : Nat), ρ[13]? = some .pool → i < 100 → (∀ ns : List Int, ns.length = p.bs[q'].toNat → K (ns.map D.int)) → lcL [15] (nameG 15) yesB (callF c_law_number (slC 13 nilC)) ρ (List.map (fun k : Nat => D.int ↑k) (List.range p.bs[q'].toNat)) K E := fun ρ K E i hp _ hK => by
      refine lcL_draw _ D.int (fun _ _ => True) (fun j _ k' hk' => ?_) fun ys hy _ => hK ys (by simpa using hy)
      show slC 13 nilC ((wipeE ρ [15]).set 15 (.fz (.int j))) (fun as => c_law_number as k' (fun _ => False)) (fun _ => False)
      refine slC_pool (QC := fun as => c_law_number as k' (fun _ => False)) ?_ (num k' (fun _ => False) fun z => hk' z trivial)
      simp [wipeE, hp]
    have mok : ∀ xs : List Int, xs.length = p.bs[q'].toNat → MsgOk p ⟨q', xs⟩ := fun xs h => ⟨q0, q1, _, hb, by show (xs.length : Int) = _; omega⟩
    simp
    refine ⟨by omega, _, hat, ⟨by omega, by omega⟩, ⟨rfl, by omega⟩, ?_⟩
    refine nums _ _ (fun _ => False) 0 rfl (by decide) fun xs hxs => ⟨by omega, by have := congrArg List.length g2; simp at this; omega, _, hat, ⟨by omega, by omega⟩, ⟨rfl, by omega⟩, ?_⟩
    refine nums _ _ (fun _ => False) 0 rfl (by decide) fun ys hys => ⟨by omega, hk _ ⟨first ++ [⟨q', xs⟩], second ++ [⟨q', ys⟩], .fz (.int i), .pool, .fz (.int q'), by simp [g1], by simp [g2], fun x hx => ?_, fun x hx => ?_, ?_⟩⟩
    · rcases List.mem_append.mp hx with h | h
      · exact g3 x h
      · rw [List.mem_singleton.mp h]; exact mok xs hxs
    · rcases List.mem_append.mp hx with h | h
      · exact g4 x h
      · rw [List.mem_singleton.mp h]; exact mok ys hys
    · simp [dMsg, dTupL]
  · subst e
    have hlen2 : second.length = N := by have := congrArg List.length g2; simp at this g1; omega
    have hlen1 : first.length = N := by simpa using g1
    have hs1 : StandOk p m ⟨c, one⟩ := ⟨c0, c1, ho⟩
    have hs2 : StandOk p m ⟨c, other⟩ := ⟨c0, c1, ho2⟩
    have hs3 : StandOk p m ⟨c, third⟩ := ⟨c0, c1, h3l⟩
    simp
    refine forE_inv (fun i ρ => ∃ (a12 a16 a17 a18 a19 : Sl), ρ = [.scr ns, .fz (dParts p), .fz (dL p), .fz (.int m), .pool, .fz (.int c), .fz (dRow one), .un, .fz (dRow other), .fz (dRow third), .fz (dList dMsg first), .fz (dList dMsg second), a12, a13, a14, .un, a16, a17, a18, a19, .un]) (fun i d ρ K hi ⟨a12, a16, a17, a18, a19, e⟩ hk _ _ _ => ?_) (fun ρ _ => trivial) ⟨a12, .un, .un, .un, .un, rfl⟩
    subst e
    obtain ⟨hi2, rfl⟩ := rng_at hi
    have fin : ∀ (q : Nat) (a17 a18 a19 : Sl), q ≤ N → rest16 [.scr ns, .fz (dParts p), .fz (dL p), .fz (.int m), .pool, .fz (.int c), .fz (dRow one), .un, .fz (dRow other), .fz (dRow third), .fz (dList dMsg first), .fz (dList dMsg second), .fz (.int i), a13, a14, .un, .fz (.int q), a17, a18, a19, .un] K (fun x _ => False) := fun q a17 a18 a19 hq =>
      rest_ok ok hs1 hs2 hs3 h3g g2 g3 g4 (by omega) (by omega) fun a17 a18 a19 => hk _ ⟨.fz (.int i), .fz (.int q), a17, a18, a19, rfl⟩
    simp
    split
    · refine draw_ok (by omega) (by omega) fun q q0 q1 => ?_
      obtain ⟨q', rfl⟩ := Int.eq_ofNat_of_zero_le q0
      exact fin q' _ _ _ (by omega)
    · exact fin first.length _ _ _ (by omega)
end Lw
open PySem PySem.W PyProof.Rows in
set_option maxRecDepth 100000 in
set_option maxHeartbeats 0 in
theorem PySem.Challenge.cw_latecomers_k16_whole_differences_holds : PySem.Challenge.rw_latecomers_k16_whole_differences.Holds := by
  w_on; o_law; k_head; (case hw => w_witness2)
  k_fill
  refine Lw.walk (l := PySem.Challenge.rw_latecomers_k16_whole_differences) rfl rfl (fun w h Y => PySem.W.kIn_of Y) ?F
  case F =>
    intro w mg fa h KX G hmg
    refine' Lw.all_mk KX G hmg ?aC0 ?pg0 ?hd0 ?po0 ?sa0 ?mk0 ?kc0 ?x_law_draw ?l_law_draw ?c_law_draw ?k_law_draw ?x_law_rule ?l_law_rule ?c_law_rule ?k_law_rule ?x_law_parts ?l_law_parts ?c_law_parts ?k_law_parts ?x_law_pool ?l_law_pool ?c_law_pool ?k_law_pool ?x_is_integer ?l_is_integer ?c_is_integer ?k_is_integer ?x_is_integer_from ?l_is_integer_from ?c_is_integer_from ?k_is_integer_from ?x_are_burdens ?l_are_burdens ?c_are_burdens ?k_are_burdens ?x_is_list_of ?l_is_list_of ?c_is_list_of ?k_is_list_of ?x_is_index ?l_is_index ?c_is_index ?k_is_index ?x_is_rule ?l_is_rule ?c_is_rule ?k_is_rule ?x_cells_of ?l_cells_of ?c_cells_of ?k_cells_of ?x_is_row ?l_is_row ?c_is_row ?k_is_row ?x_are_rows ?l_are_rows ?c_are_rows ?k_are_rows ?x_are_rule_rows ?l_are_rule_rows ?c_are_rule_rows ?k_are_rule_rows ?x_are_rules ?l_are_rules ?c_are_rules ?k_are_rules ?x_are_shows ?l_are_shows ?c_are_shows ?k_are_shows ?x_copied ?l_copied ?c_copied ?k_copied ?x_Listener__init ?i_Listener__init ?l_Listener__init ?c_Listener__init ?k_Listener__init ?x_law_rules_copy ?l_law_rules_copy ?c_law_rules_copy ?k_law_rules_copy ?x_law_listener ?l_law_listener ?c_law_listener ?k_law_listener ?x_law_number ?l_law_number ?c_law_number ?k_law_number ?x_is_tuple_of_integers ?l_is_tuple_of_integers ?c_is_tuple_of_integers ?k_is_tuple_of_integers ?x_is_stand ?l_is_stand ?c_is_stand ?k_is_stand ?x_Listener_cell_count ?i_Listener_cell_count ?l_Listener_cell_count ?c_Listener_cell_count ?k_Listener_cell_count ?x_Listener_control_count ?i_Listener_control_count ?l_Listener_control_count ?c_Listener_control_count ?k_Listener_control_count ?x_Listener_check_stand ?i_Listener_check_stand ?l_Listener_check_stand ?c_Listener_check_stand ?k_Listener_check_stand ?x_is_message ?l_is_message ?c_is_message ?k_is_message ?x_form_value ?l_form_value ?c_form_value ?k_form_value ?x_Listener_heard ?i_Listener_heard ?l_Listener_heard ?c_Listener_heard ?k_Listener_heard ?x_Listener_hear_all ?i_Listener_hear_all ?l_Listener_hear_all ?c_Listener_hear_all ?k_Listener_hear_all ?x_law_is_integer ?l_law_is_integer ?c_law_is_integer ?k_law_is_integer ?x_law_are_numbers ?l_law_are_numbers ?c_law_are_numbers ?k_law_are_numbers ?x_law_same_stand ?l_law_same_stand ?c_law_same_stand ?k_law_same_stand ?x_law_gaps ?l_law_gaps ?c_law_gaps ?k_law_gaps ?x_law ?l_law ?c_law ?k_law ?na_0_burdens ?na_0_rules ?na_0_shows ?n_all ?n_bool ?n_enumerate ?n_int ?n_isinstance ?n_len ?n_list ?n_max ?n_min ?n_range ?n_sum ?n_tuple ?n_zip ?z_MOST_BURDEN ?z_MOST_CELLS ?z_MOST_CONTROLS ?z_MOST_FACTOR ?z_MOST_KINDS ?z_MOST_SHOWS Lw.main
    (case aC0 => k_is)
    (case pg0 => k_is)
    (case hd0 => k_is)
    (case po0 => k_is)
    (case sa0 => k_is)
    (case mk0 => k_is)
    (case kc0 => k_is)
    (case x_law_draw => k_is)
    (case l_law_draw => k_is)
    (case c_law_draw => k_is)
    (case k_law_draw => k_is)
    (case x_law_rule => k_is)
    (case l_law_rule => k_is)
    (case c_law_rule => k_is)
    (case k_law_rule => k_is)
    (case x_law_parts => k_is)
    (case l_law_parts => k_is)
    (case c_law_parts => k_is)
    (case k_law_parts => k_is)
    (case x_law_pool => k_is)
    (case l_law_pool => k_is)
    (case c_law_pool => k_is)
    (case k_law_pool => k_is)
    (case x_is_integer => k_is)
    (case l_is_integer => k_is)
    (case c_is_integer => k_is)
    (case k_is_integer => k_is)
    (case x_is_integer_from => k_is)
    (case l_is_integer_from => k_is)
    (case c_is_integer_from => k_is)
    (case k_is_integer_from => k_is)
    (case x_are_burdens => k_is)
    (case l_are_burdens => k_is)
    (case c_are_burdens => k_is)
    (case k_are_burdens => k_is)
    (case x_is_list_of => k_is)
    (case l_is_list_of => k_is)
    (case c_is_list_of => k_is)
    (case k_is_list_of => k_is)
    (case x_is_index => k_is)
    (case l_is_index => k_is)
    (case c_is_index => k_is)
    (case k_is_index => k_is)
    (case x_is_rule => k_is)
    (case l_is_rule => k_is)
    (case c_is_rule => k_is)
    (case k_is_rule => k_is)
    (case x_cells_of => k_is)
    (case l_cells_of => k_is)
    (case c_cells_of => k_is)
    (case k_cells_of => k_is)
    (case x_is_row => k_is)
    (case l_is_row => k_is)
    (case c_is_row => k_is)
    (case k_is_row => k_is)
    (case x_are_rows => k_is)
    (case l_are_rows => k_is)
    (case c_are_rows => k_is)
    (case k_are_rows => k_is)
    (case x_are_rule_rows => k_is)
    (case l_are_rule_rows => k_is)
    (case c_are_rule_rows => k_is)
    (case k_are_rule_rows => k_is)
    (case x_are_rules => k_is)
    (case l_are_rules => k_is)
    (case c_are_rules => k_is)
    (case k_are_rules => k_is)
    (case x_are_shows => k_is)
    (case l_are_shows => k_is)
    (case c_are_shows => k_is)
    (case k_are_shows => k_is)
    (case x_copied => k_is)
    (case l_copied => k_is)
    (case c_copied => k_is)
    (case k_copied => k_is)
    (case x_Listener__init => k_is)
    (case i_Listener__init => k_is)
    (case l_Listener__init => k_is)
    (case c_Listener__init => k_is)
    (case k_Listener__init => k_is)
    (case x_law_rules_copy => k_is)
    (case l_law_rules_copy => k_is)
    (case c_law_rules_copy => k_is)
    (case k_law_rules_copy => k_is)
    (case x_law_listener => k_is)
    (case l_law_listener => k_is)
    (case c_law_listener => k_is)
    (case k_law_listener => k_is)
    (case x_law_number => k_is)
    (case l_law_number => k_is)
    (case c_law_number => k_is)
    (case k_law_number => k_is)
    (case x_is_tuple_of_integers => k_is)
    (case l_is_tuple_of_integers => k_is)
    (case c_is_tuple_of_integers => k_is)
    (case k_is_tuple_of_integers => k_is)
    (case x_is_stand => k_is)
    (case l_is_stand => k_is)
    (case c_is_stand => k_is)
    (case k_is_stand => k_is)
    (case x_Listener_cell_count => k_is)
    (case i_Listener_cell_count => k_is)
    (case l_Listener_cell_count => k_is)
    (case c_Listener_cell_count => k_is)
    (case k_Listener_cell_count => k_is)
    (case x_Listener_control_count => k_is)
    (case i_Listener_control_count => k_is)
    (case l_Listener_control_count => k_is)
    (case c_Listener_control_count => k_is)
    (case k_Listener_control_count => k_is)
    (case x_Listener_check_stand => k_is)
    (case i_Listener_check_stand => k_is)
    (case l_Listener_check_stand => k_is)
    (case c_Listener_check_stand => k_is)
    (case k_Listener_check_stand => k_is)
    (case x_is_message => k_is)
    (case l_is_message => k_is)
    (case c_is_message => k_is)
    (case k_is_message => k_is)
    (case x_form_value => k_is)
    (case l_form_value => k_is)
    (case c_form_value => k_is)
    (case k_form_value => k_is)
    (case x_Listener_heard => k_is)
    (case i_Listener_heard => k_is)
    (case l_Listener_heard => k_is)
    (case c_Listener_heard => k_is)
    (case k_Listener_heard => k_is)
    (case x_Listener_hear_all => k_is)
    (case i_Listener_hear_all => k_is)
    (case l_Listener_hear_all => k_is)
    (case c_Listener_hear_all => k_is)
    (case k_Listener_hear_all => k_is)
    (case x_law_is_integer => k_is)
    (case l_law_is_integer => k_is)
    (case c_law_is_integer => k_is)
    (case k_law_is_integer => k_is)
    (case x_law_are_numbers => k_is)
    (case l_law_are_numbers => k_is)
    (case c_law_are_numbers => k_is)
    (case k_law_are_numbers => k_is)
    (case x_law_same_stand => k_is)
    (case l_law_same_stand => k_is)
    (case c_law_same_stand => k_is)
    (case k_law_same_stand => k_is)
    (case x_law_gaps => k_is)
    (case l_law_gaps => k_is)
    (case c_law_gaps => k_is)
    (case k_law_gaps => k_is)
    (case x_law => k_is)
    (case l_law => k_is)
    (case c_law => k_is)
    (case k_law => k_is)
    (case na_0_burdens => k_is)
    (case na_0_rules => k_is)
    (case na_0_shows => k_is)
    (case n_all => k_is)
    (case n_bool => k_is)
    (case n_enumerate => k_is)
    (case n_int => k_is)
    (case n_isinstance => k_is)
    (case n_len => k_is)
    (case n_list => k_is)
    (case n_max => k_is)
    (case n_min => k_is)
    (case n_range => k_is)
    (case n_sum => k_is)
    (case n_tuple => k_is)
    (case n_zip => k_is)
    (case z_MOST_BURDEN => k_is)
    (case z_MOST_CELLS => k_is)
    (case z_MOST_CONTROLS => k_is)
    (case z_MOST_FACTOR => k_is)
    (case z_MOST_KINDS => k_is)
    (case z_MOST_SHOWS => k_is)

