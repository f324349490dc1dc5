import PyProof.Rows.All
import Wide.All
import OpenK.AllK
import Wide.FinOn
import HandS.ForMost
import HandS.ForExc
import HandS.IsInst
import HandS.Star
import HandS.Style
import HandS.TupMul
import HandS.TupAny
import HandS.Wide
import HandS.Walk
import HandS.Conv
import HandS.Zip
import OpenK.KMeth
import HandS.OwnEq
import HandS.Codes
import HandS.TryMany
import HandS.ExcInit
import HandS.ExcField
import HandS.ExcIs
import HandS.Small
import KE.KExcIs
import HandS.SetBool
import HandS.Strs
import HandS.Deep
import PySem.Challenge.RW_latecomers_k31_words_that_are_let
set_option Elab.async false
set_option linter.all false
set_option maxRecDepth 100000
set_option maxHeartbeats 2000000
/-! A layer of data: frozen data, own trees; code as functions of them. -/
namespace QL
open PySem L2

/-- data that never change -/
inductive D where
  | non | bl (b : Bool) | int (i : Int) | str (x : Str) | lst (xs : List D) | tup (xs : List D) | ins (C : Nat) (fs : List (Str × D))
  | dK (kvs : List (Key × D)) | dT (kvs : List (List Key × D))
/-- a tree of one's own: its leaves are frozen -/
inductive OD where
  | fz (d : D) | lst (xs : List OD) | tup (xs : List OD) | ins (C : Nat) (fs : List (Str × OD))
  | dK (kvs : List (Key × OD)) | dT (kvs : List (List Key × OD)) | hole (p : Addr)
instance : Inhabited D := ⟨.non⟩
instance : Inhabited OD := ⟨.fz .non⟩

/-- an exception: its class, its fields -/
structure Xc where
  C : Nat
  fs : List (Str × D)

section
variable {κ : Type} [DecidableEq κ] {α β : Type}
/-- pairs: what stands at a key, put, dropped -/
def getA (kvs : List (κ × α)) (k : κ) : Option α := (kvs.find? fun kv => decide (kv.1 = k)).map (·.2)
def putA (kvs : List (κ × α)) (k : κ) (v : α) : List (κ × α) :=
  if (kvs.any fun kv => decide (kv.1 = k)) = true then kvs.map (fun kv => if kv.1 = k then (kv.1, v) else kv) else kvs ++ [(k, v)]
def dropA (kvs : List (κ × α)) (k : κ) : List (κ × α) := kvs.filter fun kv => decide (kv.1 ≠ k)
end

mutual
inductive Rp (cn : Nat → Addr) (H : Hp) : V → D → Prop
  | non : Rp cn H .non .non
  | bl (b : Bool) : Rp cn H (.bl b) (.bl b)
  | int (i : Int) : Rp cn H (.int i) (.int i)
  | str (x : Str) : Rp cn H (.str x) (.str x)
  | lst {p : Addr} {vs : List V} {ds : List D} : H p = some (.lst vs) → Rps cn H vs ds → Rp cn H (.ref p) (.lst ds)
  | tup {p : Addr} {vs : List V} {ds : List D} : H p = some (.tup vs) → Rps cn H vs ds → Rp cn H (.ref p) (.tup ds)
  | ins {p dx : Addr} {C : Nat} {gs : List (Str × V)} {fs : List (Str × D)} : H p = some (.ins (cn C) dx gs) → Rpf cn H gs fs → Rp cn H (.ref p) (.ins C fs)
  | dK {p : Addr} {gs : List (Key × V)} {fs : List (Key × D)} : Rd H p (.dK gs) → Rpk cn H gs fs → Rp cn H (.ref p) (.dK fs)
  | dT {p : Addr} {gs : List (List Key × V)} {fs : List (List Key × D)} : Rd H p (.dT gs) → Rpt cn H gs fs → Rp cn H (.ref p) (.dT fs)
inductive Rps (cn : Nat → Addr) (H : Hp) : List V → List D → Prop
  | nil : Rps cn H [] []
  | cons {v : V} {d : D} {vs : List V} {ds : List D} : Rp cn H v d → Rps cn H vs ds → Rps cn H (v :: vs) (d :: ds)
inductive Rpf (cn : Nat → Addr) (H : Hp) : List (Str × V) → List (Str × D) → Prop
  | nil : Rpf cn H [] []
  | cons {f : Str} {v : V} {d : D} {vs : List (Str × V)} {ds : List (Str × D)} : Rp cn H v d → Rpf cn H vs ds → Rpf cn H ((f, v) :: vs) ((f, d) :: ds)
inductive Rpk (cn : Nat → Addr) (H : Hp) : List (Key × V) → List (Key × D) → Prop
  | nil : Rpk cn H [] []
  | cons {f : Key} {v : V} {d : D} {vs : List (Key × V)} {ds : List (Key × D)} : Rp cn H v d → Rpk cn H vs ds → Rpk cn H ((f, v) :: vs) ((f, d) :: ds)
inductive Rpt (cn : Nat → Addr) (H : Hp) : List (List Key × V) → List (List Key × D) → Prop
  | nil : Rpt cn H [] []
  | cons {f : List Key} {v : V} {d : D} {vs : List (List Key × V)} {ds : List (List Key × D)} : Rp cn H v d → Rpt cn H vs ds → Rpt cn H ((f, v) :: vs) ((f, d) :: ds)
end
/-- things stay; a dict may be locked, unlocked -/
def IsDc : HO → Prop
  | .dK _ => True
  | .dT _ => True
  | _ => False
def Lq (H H' : Hp) : Prop := ∀ a o, H a = some o → H' a = some o ∨ ∃ u, IsDc u ∧ (o = u ∨ ∃ od, o = .frz od u) ∧ (H' a = some u ∨ ∃ od, H' a = some (.frz od u))
theorem Lq.refl (H : Hp) : Lq H H := fun _ _ e => .inl e
theorem Lq.of {H H' : Hp} (s : Same H H') : Lq H H' := fun a o e => .inl (s a o e)
theorem dc_frz {u w : HO} {od : Obj} (h : IsDc w) (e : w = .frz od u) : False := by subst e; exact h
theorem Lq.trans {H H1 H2 : Hp} (a : Lq H H1) (b : Lq H1 H2) : Lq H H2 := fun p o e => by
  rcases a p o e with e1 | ⟨u, hu, ho, e1⟩
  · exact b p o e1
  · refine .inr ⟨u, hu, ho, ?_⟩
    rcases e1 with e1 | ⟨od, e1⟩
    · rcases b p _ e1 with e2 | ⟨w, hw, hz, e2⟩
      · exact .inl e2
      · rcases hz with rfl | ⟨od, rfl⟩
        · exact e2
        · exact hu.elim
    · rcases b p _ e1 with e2 | ⟨w, hw, hz, e2⟩
      · exact .inr ⟨od, e2⟩
      · rcases hz with rfl | ⟨od', h⟩
        · exact hw.elim
        · cases h; exact e2
theorem Lq.at {H H' : Hp} {p : Addr} {u : HO} (s : Lq H H') (e : H p = some u) (hd : ¬ IsDc u) (hf : ∀ od w, IsDc w → u ≠ .frz od w) : H' p = some u := by
  rcases s p u e with e | ⟨w, hw, hz, _⟩
  · exact e
  · rcases hz with rfl | ⟨od, rfl⟩
    · exact absurd hw hd
    · exact absurd rfl (hf od w hw)
theorem Lq.lst {H H' : Hp} {p : Addr} {vs : List V} (s : Lq H H') (e : H p = some (.lst vs)) : H' p = some (.lst vs) := s.at e (fun z => z) (fun _ _ _ z => by cases z)
theorem Lq.tup {H H' : Hp} {p : Addr} {vs : List V} (s : Lq H H') (e : H p = some (.tup vs)) : H' p = some (.tup vs) := s.at e (fun z => z) (fun _ _ _ z => by cases z)
theorem Lq.ins {H H' : Hp} {p C dx : Addr} {vs : List (Str × V)} (s : Lq H H') (e : H p = some (.ins C dx vs)) : H' p = some (.ins C dx vs) := s.at e (fun z => z) (fun _ _ _ z => by cases z)
theorem Lq.xd {H H' : Hp} {p : Addr} {vs : List (Str × V)} (s : Lq H H') (e : H p = some (.xd vs)) : H' p = some (.xd vs) := s.at e (fun z => z) (fun _ _ _ z => by cases z)
theorem Lq.dK {H H' : Hp} {p : Addr} {vs : List (Key × V)} (s : Lq H H') (e : Rd H p (.dK vs)) : Rd H' p (.dK vs) := by
  rcases e with e | ⟨od, e⟩
  · rcases s p _ e with e2 | ⟨w, hw, hz, e2⟩
    · exact .inl e2
    · rcases hz with rfl | ⟨_, h⟩
      · exact e2
      · cases h
  · rcases s p _ e with e2 | ⟨w, hw, hz, e2⟩
    · exact .inr ⟨_, e2⟩
    · rcases hz with rfl | ⟨_, h⟩
      · exact hw.elim
      · cases h; exact e2
theorem Lq.dT {H H' : Hp} {p : Addr} {vs : List (List Key × V)} (s : Lq H H') (e : Rd H p (.dT vs)) : Rd H' p (.dT vs) := by
  rcases e with e | ⟨od, e⟩
  · rcases s p _ e with e2 | ⟨w, hw, hz, e2⟩
    · exact .inl e2
    · rcases hz with rfl | ⟨_, h⟩
      · exact e2
      · cases h
  · rcases s p _ e with e2 | ⟨w, hw, hz, e2⟩
    · exact .inr ⟨_, e2⟩
    · rcases hz with rfl | ⟨_, h⟩
      · exact hw.elim
      · cases h; exact e2
theorem Lq.nn {H H' : Hp} {p : Addr} (s : Lq H H') (e : H' p = none) : H p = none := by
  cases h : H p with
  | none => rfl
  | some o =>
    rcases s p o h with z | ⟨_, _, _, z | ⟨_, z⟩⟩ <;> rw [e] at z <;> cases z
theorem Lq.ss {H H' : Hp} {p : Addr} (s : Lq H H') (e : H p ≠ none) : H' p ≠ none := fun z => e (s.nn z)
/-- a locked list stays (the script) -/
theorem Lq.frzL {H H' : Hp} {p : Addr} {od : Obj} {vs : List V} (s : Lq H H') (e : H p = some (.frz od (.lst vs))) : H' p = some (.frz od (.lst vs)) := s.at e (fun z => z) (fun _ w hw z => by cases z; exact hw)
theorem Lq.seq {K : PySem.W.Frag} {H H' : Hp} {p : Addr} {vs : List V} (s : Lq H H') (e : SqL K H p vs) : SqL K H' p vs := by
  rcases e with (e | ⟨od, e⟩) | e
  · exact .inl (.inl (s.lst e))
  · exact .inl (.inr ⟨od, s.frzL e⟩)
  · exact .inr e
/-- frozen things stay -/
def Sm (H H' : Hp) : Prop := ∀ a o, H a = some o → H' a = some o
theorem Sm.refl (H : Hp) : Sm H H := fun _ _ e => e
theorem Sm.of {H H' : Hp} (s : Same H H') : Sm H H' := fun a o e => s a o e
theorem Sm.lq {H H' : Hp} (s : Sm H H') : Lq H H' := fun a o e => .inl (s a o e)
theorem Sm.trans {H H1 H2 : Hp} (a : Sm H H1) (b : Sm H1 H2) : Sm H H2 := fun p o e => b p o (a p o e)
theorem Sm.lst {H H' : Hp} {p : Addr} {vs : List V} (s : Sm H H') (e : H p = some (.lst vs)) : H' p = some (.lst vs) := s _ _ e
theorem Sm.tup {H H' : Hp} {p : Addr} {vs : List V} (s : Sm H H') (e : H p = some (.tup vs)) : H' p = some (.tup vs) := s _ _ e
theorem Sm.xd {H H' : Hp} {p : Addr} {vs : List (Str × V)} (s : Sm H H') (e : H p = some (.xd vs)) : H' p = some (.xd vs) := s _ _ e
theorem Sm.nn {H H' : Hp} {p : Addr} (s : Sm H H') (e : H' p = none) : H p = none := by
  cases h : H p with
  | none => rfl
  | some o => have := s p o h; rw [e] at this; cases this
theorem Sm.ss {H H' : Hp} {p : Addr} (s : Sm H H') (e : H p ≠ none) : H' p ≠ none := fun z => e (s.nn z)
theorem Sm.seq {K : PySem.W.Frag} {H H' : Hp} {p : Addr} {vs : List V} (s : Sm H H') (e : SqL K H p vs) : SqL K H' p vs := s.lq.seq e
section
variable {cn : Nat → Addr} {H H' : Hp}
mutual
theorem Rp.lk (e : Lq H H') : ∀ {v : V} {d : D}, Rp cn H v d → Rp cn H' v d
  | _, _, .non => .non
  | _, _, .bl b => .bl b
  | _, _, .int i => .int i
  | _, _, .str x => .str x
  | _, _, .lst h r => .lst (e.lst h) (Rps.lk e r)
  | _, _, .tup h r => .tup (e.tup h) (Rps.lk e r)
  | _, _, .ins h r => .ins (e.ins h) (Rpf.lk e r)
  | _, _, .dK h r => .dK (e.dK h) (Rpk.lk e r)
  | _, _, .dT h r => .dT (e.dT h) (Rpt.lk e r)
theorem Rps.lk (e : Lq H H') : ∀ {vs : List V} {ds : List D}, Rps cn H vs ds → Rps cn H' vs ds
  | _, _, .nil => .nil
  | _, _, .cons r t => .cons (Rp.lk e r) (Rps.lk e t)
theorem Rpf.lk (e : Lq H H') : ∀ {vs : List (Str × V)} {ds : List (Str × D)}, Rpf cn H vs ds → Rpf cn H' vs ds
  | _, _, .nil => .nil
  | _, _, .cons r t => .cons (Rp.lk e r) (Rpf.lk e t)
theorem Rpk.lk (e : Lq H H') : ∀ {vs : List (Key × V)} {ds : List (Key × D)}, Rpk cn H vs ds → Rpk cn H' vs ds
  | _, _, .nil => .nil
  | _, _, .cons r t => .cons (Rp.lk e r) (Rpk.lk e t)
theorem Rpt.lk (e : Lq H H') : ∀ {vs : List (List Key × V)} {ds : List (List Key × D)}, Rpt cn H vs ds → Rpt cn H' vs ds
  | _, _, .nil => .nil
  | _, _, .cons r t => .cons (Rp.lk e r) (Rpt.lk e t)
end
theorem Rp.mono (e : Sm H H') {v : V} {d : D} (r : Rp cn H v d) : Rp cn H' v d := r.lk e.lq
theorem Rps.mono (e : Sm H H') {vs : List V} {ds : List D} (r : Rps cn H vs ds) : Rps cn H' vs ds := r.lk e.lq
theorem Rpf.mono (e : Sm H H') {vs : List (Str × V)} {ds : List (Str × D)} (r : Rpf cn H vs ds) : Rpf cn H' vs ds := r.lk e.lq
theorem Rpk.mono (e : Sm H H') {vs : List (Key × V)} {ds : List (Key × D)} (r : Rpk cn H vs ds) : Rpk cn H' vs ds := r.lk e.lq
theorem Rpt.mono (e : Sm H H') {vs : List (List Key × V)} {ds : List (List Key × D)} (r : Rpt cn H vs ds) : Rpt cn H' vs ds := r.lk e.lq
theorem Rps.length : ∀ {vs : List V} {ds : List D}, Rps cn H vs ds → vs.length = ds.length
  | _, _, .nil => rfl
  | _, _, .cons _ t => congrArg (· + 1) (Rps.length t)
theorem Rps.get : ∀ {vs : List V} {ds : List D} {i : Nat} {d : D}, Rps cn H vs ds → ds[i]? = some d → ∃ v, vs[i]? = some v ∧ Rp cn H v d
  | _, _, _, _, .nil, e => by simp at e
  | _, _, 0, d, .cons r _, e => by simp at e; subst e; exact ⟨_, rfl, r⟩
  | _, _, i + 1, d, .cons _ t, e => by
    obtain ⟨v, h1, h2⟩ := Rps.get (i := i) (d := d) t (by simpa using e)
    exact ⟨v, by simpa using h1, h2⟩
theorem Rps.getV : ∀ {vs : List V} {ds : List D} {i : Nat} {v : V}, Rps cn H vs ds → vs[i]? = some v → ∃ d, ds[i]? = some d ∧ Rp cn H v d
  | _, _, _, _, .nil, e => by simp at e
  | _, _, 0, v, .cons r _, e => by simp at e; subst e; exact ⟨_, rfl, r⟩
  | _, _, i + 1, v, .cons _ t, e => by
    obtain ⟨d, h1, h2⟩ := Rps.getV (i := i) (v := v) t (by simpa using e)
    exact ⟨d, by simpa using h1, h2⟩
theorem Rps.append : ∀ {vs us : List V} {ds es : List D}, Rps cn H vs ds → Rps cn H us es → Rps cn H (vs ++ us) (ds ++ es)
  | _, _, _, _, .nil, s => s
  | _, _, _, _, .cons r t, s => .cons r (Rps.append t s)
theorem Rps.take : ∀ {vs : List V} {ds : List D} (n : Nat), Rps cn H vs ds → Rps cn H (vs.take n) (ds.take n)
  | _, _, 0, _ => .nil
  | _, _, _ + 1, .nil => .nil
  | _, _, n + 1, .cons r t => .cons r (Rps.take n t)
theorem Rps.drop : ∀ {vs : List V} {ds : List D} (n : Nat), Rps cn H vs ds → Rps cn H (vs.drop n) (ds.drop n)
  | _, _, 0, r => r
  | _, _, _ + 1, .nil => .nil
  | _, _, n + 1, .cons _ t => Rps.drop n t
theorem Rps.reverse : ∀ {vs : List V} {ds : List D}, Rps cn H vs ds → Rps cn H vs.reverse ds.reverse
  | _, _, .nil => .nil
  | _, _, .cons r t => by rw [List.reverse_cons, List.reverse_cons]; exact (Rps.reverse t).append (.cons r .nil)
theorem Rps.set {v : V} {d : D} (r : Rp cn H v d) : ∀ {vs : List V} {ds : List D} (i : Nat), Rps cn H vs ds → Rps cn H (vs.set i v) (ds.set i d)
  | _, _, _, .nil => .nil
  | _, _, 0, .cons _ t => .cons r t
  | _, _, i + 1, .cons q t => .cons q (Rps.set r i t)
theorem Rps.ints : ∀ {vs : List V} {ns : List Int}, Rps cn H vs (ns.map D.int) → vs = ns.map V.int
  | _, [], .nil => rfl
  | _, n :: ns, .cons (.int _) t => by rw [Rps.ints t]; rfl
theorem Rps.ofInts : ∀ (ns : List Int), Rps cn H (ns.map V.int) (ns.map D.int)
  | [] => .nil
  | n :: ns => .cons (.int n) (Rps.ofInts ns)
theorem Rps.bls : ∀ {vs : List V} {ns : List Bool}, Rps cn H vs (ns.map D.bl) → vs = ns.map V.bl
  | _, [], .nil => rfl
  | _, n :: ns, .cons (.bl _) t => by rw [Rps.bls t]; rfl
theorem Rps.one {v : V} {d : D} (r : Rp cn H v d) : Rps cn H [v] [d] := .cons r .nil
theorem Rpf.lookup : ∀ {gs : List (Str × V)} {fs : List (Str × D)} {f : Str} {d : D}, Rpf cn H gs fs → fs.lookup f = some d → ∃ v, gs.lookup f = some v ∧ Rp cn H v d
  | _, _, _, _, .nil, e => by simp at e
  | _, _, f, d, .cons (f := g) r t, e => by
    by_cases h : (f == g) = true
    · simp only [List.lookup, h] at e ⊢
      cases e
      exact ⟨_, rfl, r⟩
    · have h' : (f == g) = false := by simpa using h
      simp only [List.lookup, h'] at e ⊢
      exact Rpf.lookup t e
theorem Rpf.none : ∀ {gs : List (Str × V)} {fs : List (Str × D)} {f : Str}, Rpf cn H gs fs → fs.lookup f = none → gs.lookup f = none
  | _, _, _, .nil, _ => rfl
  | _, _, f, .cons (f := g) r t, e => by
    by_cases h : (f == g) = true
    · simp only [List.lookup, h] at e
      cases e
    · have h' : (f == g) = false := by simpa using h
      simp only [List.lookup, h'] at e ⊢
      exact Rpf.none t e
/-- dicts: what stands at a key -/
theorem Rpk.get : ∀ {gs : List (Key × V)} {fs : List (Key × D)} (k : Key), Rpk cn H gs fs → (getA fs k = none ∧ valV gs k = none) ∨ ∃ v d, getA fs k = some d ∧ valV gs k = some v ∧ Rp cn H v d
  | _, _, k, .nil => .inl ⟨rfl, rfl⟩
  | _, _, k, .cons (f := f) r t => by
    by_cases h : f = k
    · exact .inr ⟨_, _, by simp [getA, h], valV_pos h, r⟩
    · have := Rpk.get k t
      rw [valV_neg h]
      simpa [getA, List.find?_cons, h] using this
theorem Rpt.get : ∀ {gs : List (List Key × V)} {fs : List (List Key × D)} (k : List Key), Rpt cn H gs fs → (getA fs k = none ∧ valV gs k = none) ∨ ∃ v d, getA fs k = some d ∧ valV gs k = some v ∧ Rp cn H v d
  | _, _, k, .nil => .inl ⟨rfl, rfl⟩
  | _, _, k, .cons (f := f) r t => by
    by_cases h : f = k
    · exact .inr ⟨_, _, by simp [getA, h], valV_pos h, r⟩
    · have := Rpt.get k t
      rw [valV_neg h]
      simpa [getA, List.find?_cons, h] using this
theorem Rpk.length : ∀ {vs : List (Key × V)} {ds : List (Key × D)}, Rpk cn H vs ds → vs.length = ds.length
  | _, _, .nil => rfl
  | _, _, .cons _ t => congrArg (· + 1) (Rpk.length t)
theorem Rpt.length : ∀ {vs : List (List Key × V)} {ds : List (List Key × D)}, Rpt cn H vs ds → vs.length = ds.length
  | _, _, .nil => rfl
  | _, _, .cons _ t => congrArg (· + 1) (Rpt.length t)
theorem Rpt.keys : ∀ {vs : List (List Key × V)} {ds : List (List Key × D)}, Rpt cn H vs ds → vs.map (·.1) = ds.map (·.1)
  | _, _, .nil => rfl
  | _, _, .cons _ t => by simp [Rpt.keys t]
theorem Rpk.keys : ∀ {vs : List (Key × V)} {ds : List (Key × D)}, Rpk cn H vs ds → vs.map (·.1) = ds.map (·.1)
  | _, _, .nil => rfl
  | _, _, .cons _ t => by simp [Rpk.keys t]
theorem Rpf.length : ∀ {gs : List (Str × V)} {fs : List (Str × D)}, Rpf cn H gs fs → gs.length = fs.length
  | _, _, .nil => rfl
  | _, _, .cons _ t => congrArg (· + 1) (Rpf.length t)
end
theorem Same.new {H : Hp} {p : Addr} {o : HO} (h : H p = none) : Same H (upd H p o) := fun a u e => by
  rw [upd_ne (ne_of_none e h)]
  exact e
theorem Sm.new {H : Hp} {p : Addr} {o : HO} (h : H p = none) : Sm H (upd H p o) := Sm.of (QL.Same.new h)

/-! ### own trees -/
mutual
inductive Ow (cn : Nat → Addr) (Hf H : Hp) : V → OD → List Addr → Prop
  | fz {v : V} {d : D} : Rp cn Hf v d → Ow cn Hf H v (.fz d) []
  | lst {p : Addr} {vs : List V} {xs : List OD} {F : List Addr} : H p = some (.lst vs) → Hf p = none → Ows cn Hf H vs xs F → Ow cn Hf H (.ref p) (.lst xs) (p :: F)
  | tup {p : Addr} {vs : List V} {xs : List OD} {F : List Addr} : H p = some (.tup vs) → Hf p = none → Ows cn Hf H vs xs F → Ow cn Hf H (.ref p) (.tup xs) (p :: F)
  | ins {p dx : Addr} {C : Nat} {vs : List (Str × V)} {xs : List (Str × OD)} {F : List Addr} : H p = some (.ins (cn C) dx vs) → Hf p = none → Owf cn Hf H vs xs F → Ow cn Hf H (.ref p) (.ins C xs) (p :: F)
  | dK {p : Addr} {vs : List (Key × V)} {xs : List (Key × OD)} {F : List Addr} : H p = some (.dK vs) → Hf p = none → Owk cn Hf H vs xs F → Ow cn Hf H (.ref p) (.dK xs) (p :: F)
  | dT {p : Addr} {vs : List (List Key × V)} {xs : List (List Key × OD)} {F : List Addr} : H p = some (.dT vs) → Hf p = none → Owt cn Hf H vs xs F → Ow cn Hf H (.ref p) (.dT xs) (p :: F)
  | hole (p : Addr) : Ow cn Hf H (.ref p) (.hole p) []
inductive Ows (cn : Nat → Addr) (Hf H : Hp) : List V → List OD → List Addr → Prop
  | nil : Ows cn Hf H [] [] []
  | cons {v : V} {x : OD} {vs : List V} {xs : List OD} {F G : List Addr} : Ow cn Hf H v x F → Ows cn Hf H vs xs G → Ows cn Hf H (v :: vs) (x :: xs) (F ++ G)
inductive Owf (cn : Nat → Addr) (Hf H : Hp) : List (Str × V) → List (Str × OD) → List Addr → Prop
  | nil : Owf cn Hf H [] [] []
  | cons {f : Str} {v : V} {x : OD} {vs : List (Str × V)} {xs : List (Str × OD)} {F G : List Addr} : Ow cn Hf H v x F → Owf cn Hf H vs xs G → Owf cn Hf H ((f, v) :: vs) ((f, x) :: xs) (F ++ G)
inductive Owk (cn : Nat → Addr) (Hf H : Hp) : List (Key × V) → List (Key × OD) → List Addr → Prop
  | nil : Owk cn Hf H [] [] []
  | cons {f : Key} {v : V} {x : OD} {vs : List (Key × V)} {xs : List (Key × OD)} {F G : List Addr} : Ow cn Hf H v x F → Owk cn Hf H vs xs G → Owk cn Hf H ((f, v) :: vs) ((f, x) :: xs) (F ++ G)
inductive Owt (cn : Nat → Addr) (Hf H : Hp) : List (List Key × V) → List (List Key × OD) → List Addr → Prop
  | nil : Owt cn Hf H [] [] []
  | cons {f : List Key} {v : V} {x : OD} {vs : List (List Key × V)} {xs : List (List Key × OD)} {F G : List Addr} : Ow cn Hf H v x F → Owt cn Hf H vs xs G → Owt cn Hf H ((f, v) :: vs) ((f, x) :: xs) (F ++ G)
end
section
variable {cn : Nat → Addr} {Hf H Hf' H' : Hp}
/-- the cells at F stay as they are, not frozen -/
def Stay (Hf' H H' : Hp) (F : List Addr) : Prop := ∀ a ∈ F, H' a = H a ∧ Hf' a = none
theorem Stay.head {a : Addr} {F : List Addr} (s : Stay Hf' H H' (a :: F)) : H' a = H a ∧ Hf' a = none := s a (by simp)
theorem Stay.tail {a : Addr} {F : List Addr} (s : Stay Hf' H H' (a :: F)) : Stay Hf' H H' F := fun b hb => s b (List.mem_cons_of_mem _ hb)
theorem Stay.left {F G : List Addr} (s : Stay Hf' H H' (F ++ G)) : Stay Hf' H H' F := fun b hb => s b (List.mem_append_left _ hb)
theorem Stay.right {F G : List Addr} (s : Stay Hf' H H' (F ++ G)) : Stay Hf' H H' G := fun b hb => s b (List.mem_append_right _ hb)
mutual
theorem Ow.mono (m : Sm Hf Hf') : ∀ {v : V} {x : OD} {F : List Addr}, Stay Hf' H H' F → Ow cn Hf H v x F → Ow cn Hf' H' v x F
  | _, _, _, _, .fz r => .fz (r.mono m)
  | _, _, _, s, .lst h _ t => .lst (s.head.1.trans h) s.head.2 (Ows.mono m s.tail t)
  | _, _, _, s, .tup h _ t => .tup (s.head.1.trans h) s.head.2 (Ows.mono m s.tail t)
  | _, _, _, s, .ins h _ t => .ins (s.head.1.trans h) s.head.2 (Owf.mono m s.tail t)
  | _, _, _, s, .dK h _ t => .dK (s.head.1.trans h) s.head.2 (Owk.mono m s.tail t)
  | _, _, _, s, .dT h _ t => .dT (s.head.1.trans h) s.head.2 (Owt.mono m s.tail t)
  | _, _, _, _, .hole p => .hole p
theorem Ows.mono (m : Sm Hf Hf') : ∀ {v : List V} {x : List OD} {F : List Addr}, Stay Hf' H H' F → Ows cn Hf H v x F → Ows cn Hf' H' v x F
  | _, _, _, _, .nil => .nil
  | _, _, _, s, .cons r t => .cons (Ow.mono m s.left r) (Ows.mono m s.right t)
theorem Owf.mono (m : Sm Hf Hf') : ∀ {v : List (Str × V)} {x : List (Str × OD)} {F : List Addr}, Stay Hf' H H' F → Owf cn Hf H v x F → Owf cn Hf' H' v x F
  | _, _, _, _, .nil => .nil
  | _, _, _, s, .cons r t => .cons (Ow.mono m s.left r) (Owf.mono m s.right t)
theorem Owk.mono (m : Sm Hf Hf') : ∀ {v : List (Key × V)} {x : List (Key × OD)} {F : List Addr}, Stay Hf' H H' F → Owk cn Hf H v x F → Owk cn Hf' H' v x F
  | _, _, _, _, .nil => .nil
  | _, _, _, s, .cons r t => .cons (Ow.mono m s.left r) (Owk.mono m s.right t)
theorem Owt.mono (m : Sm Hf Hf') : ∀ {v : List (List Key × V)} {x : List (List Key × OD)} {F : List Addr}, Stay Hf' H H' F → Owt cn Hf H v x F → Owt cn Hf' H' v x F
  | _, _, _, _, .nil => .nil
  | _, _, _, s, .cons r t => .cons (Ow.mono m s.left r) (Owt.mono m s.right t)
end
/-! what is owned stands, is not frozen -/
mutual
theorem Ow.there : ∀ {v : V} {x : OD} {F : List Addr}, Ow cn Hf H v x F → ∀ a ∈ F, H a ≠ none ∧ Hf a = none
  | _, _, _, .fz _, a, h => by simp at h
  | _, _, _, .lst e n t, a, h => by
    rcases List.mem_cons.mp h with rfl | h
    · exact ⟨by rw [e]; simp, n⟩
    · exact Ows.there t a h
  | _, _, _, .tup e n t, a, h => by
    rcases List.mem_cons.mp h with rfl | h
    · exact ⟨by rw [e]; simp, n⟩
    · exact Ows.there t a h
  | _, _, _, .ins e n t, a, h => by
    rcases List.mem_cons.mp h with rfl | h
    · exact ⟨by rw [e]; simp, n⟩
    · exact Owf.there t a h
  | _, _, _, .dK e n t, a, h => by
    rcases List.mem_cons.mp h with rfl | h
    · exact ⟨by rw [e]; simp, n⟩
    · exact Owk.there t a h
  | _, _, _, .dT e n t, a, h => by
    rcases List.mem_cons.mp h with rfl | h
    · exact ⟨by rw [e]; simp, n⟩
    · exact Owt.there t a h
  | _, _, _, .hole _, a, h => by simp at h
theorem Ows.there : ∀ {v : List V} {x : List OD} {F : List Addr}, Ows cn Hf H v x F → ∀ a ∈ F, H a ≠ none ∧ Hf a = none
  | _, _, _, .nil, a, h => by simp at h
  | _, _, _, .cons r t, a, h => (List.mem_append.mp h).elim (Ow.there r a) (Ows.there t a)
theorem Owf.there : ∀ {v : List (Str × V)} {x : List (Str × OD)} {F : List Addr}, Owf cn Hf H v x F → ∀ a ∈ F, H a ≠ none ∧ Hf a = none
  | _, _, _, .nil, a, h => by simp at h
  | _, _, _, .cons r t, a, h => (List.mem_append.mp h).elim (Ow.there r a) (Owf.there t a)
theorem Owk.there : ∀ {v : List (Key × V)} {x : List (Key × OD)} {F : List Addr}, Owk cn Hf H v x F → ∀ a ∈ F, H a ≠ none ∧ Hf a = none
  | _, _, _, .nil, a, h => by simp at h
  | _, _, _, .cons r t, a, h => (List.mem_append.mp h).elim (Ow.there r a) (Owk.there t a)
theorem Owt.there : ∀ {v : List (List Key × V)} {x : List (List Key × OD)} {F : List Addr}, Owt cn Hf H v x F → ∀ a ∈ F, H a ≠ none ∧ Hf a = none
  | _, _, _, .nil, a, h => by simp at h
  | _, _, _, .cons r t, a, h => (List.mem_append.mp h).elim (Ow.there r a) (Owt.there t a)
end
end
/-! a tree frozen -/
mutual
def OD.d : OD → D
  | .fz d => d
  | .lst xs => .lst (OD.ds xs)
  | .tup xs => .tup (OD.ds xs)
  | .ins C fs => .ins C (OD.dfs fs)
  | .dK kvs => .dK (OD.dks kvs)
  | .dT kvs => .dT (OD.dts kvs)
  | .hole _ => .non
def OD.ds : List OD → List D
  | [] => []
  | x :: xs => x.d :: OD.ds xs
def OD.dfs : List (Str × OD) → List (Str × D)
  | [] => []
  | (f, x) :: xs => (f, x.d) :: OD.dfs xs
def OD.dks : List (Key × OD) → List (Key × D)
  | [] => []
  | (f, x) :: xs => (f, x.d) :: OD.dks xs
def OD.dts : List (List Key × OD) → List (List Key × D)
  | [] => []
  | (f, x) :: xs => (f, x.d) :: OD.dts xs
end
/-! no holes -/
mutual
def OD.ok : OD → Bool
  | .fz _ => true
  | .lst xs => OD.oks xs
  | .tup xs => OD.oks xs
  | .ins _ fs => OD.okfs fs
  | .dK kvs => OD.okks kvs
  | .dT kvs => OD.okts kvs
  | .hole _ => false
def OD.oks : List OD → Bool
  | [] => true
  | x :: xs => x.ok && OD.oks xs
def OD.okfs : List (Str × OD) → Bool
  | [] => true
  | (_, x) :: xs => x.ok && OD.okfs xs
def OD.okks : List (Key × OD) → Bool
  | [] => true
  | (_, x) :: xs => x.ok && OD.okks xs
def OD.okts : List (List Key × OD) → Bool
  | [] => true
  | (_, x) :: xs => x.ok && OD.okts xs
end
section
variable {cn : Nat → Addr} {Hf H Hf' H' : Hp}
/-! a tree as data of the heap that holds its cells -/
mutual
theorem Ow.rp (m : Sm Hf Hf') : ∀ {v : V} {x : OD} {F : List Addr}, x.ok = true → (∀ a ∈ F, Hf' a = H a) → Ow cn Hf H v x F → Rp cn Hf' v x.d
  | _, _, _, _, _, .fz r => r.mono m
  | _, _, _, k, s, .lst h _ t => .lst ((s _ (by simp)).trans h) (Ows.rp m (by simpa [OD.ok] using k) (fun b hb => s b (List.mem_cons_of_mem _ hb)) t)
  | _, _, _, k, s, .tup h _ t => .tup ((s _ (by simp)).trans h) (Ows.rp m (by simpa [OD.ok] using k) (fun b hb => s b (List.mem_cons_of_mem _ hb)) t)
  | _, _, _, k, s, .ins h _ t => .ins ((s _ (by simp)).trans h) (Owf.rp m (by simpa [OD.ok] using k) (fun b hb => s b (List.mem_cons_of_mem _ hb)) t)
  | _, _, _, k, s, .dK h _ t => .dK (.inl ((s _ (by simp)).trans h)) (Owk.rp m (by simpa [OD.ok] using k) (fun b hb => s b (List.mem_cons_of_mem _ hb)) t)
  | _, _, _, k, s, .dT h _ t => .dT (.inl ((s _ (by simp)).trans h)) (Owt.rp m (by simpa [OD.ok] using k) (fun b hb => s b (List.mem_cons_of_mem _ hb)) t)
  | _, _, _, k, _, .hole _ => by simp [OD.ok] at k
theorem Ows.rp (m : Sm Hf Hf') : ∀ {v : List V} {x : List OD} {F : List Addr}, OD.oks x = true → (∀ a ∈ F, Hf' a = H a) → Ows cn Hf H v x F → Rps cn Hf' v (OD.ds x)
  | _, _, _, _, _, .nil => .nil
  | _, _, _, k, s, .cons r t => by
    simp only [OD.oks, Bool.and_eq_true] at k
    exact .cons (Ow.rp m k.1 (fun b hb => s b (List.mem_append_left _ hb)) r) (Ows.rp m k.2 (fun b hb => s b (List.mem_append_right _ hb)) t)
theorem Owf.rp (m : Sm Hf Hf') : ∀ {v : List (Str × V)} {x : List (Str × OD)} {F : List Addr}, OD.okfs x = true → (∀ a ∈ F, Hf' a = H a) → Owf cn Hf H v x F → Rpf cn Hf' v (OD.dfs x)
  | _, _, _, _, _, .nil => .nil
  | _, _, _, k, s, .cons r t => by
    simp only [OD.okfs, Bool.and_eq_true] at k
    exact .cons (Ow.rp m k.1 (fun b hb => s b (List.mem_append_left _ hb)) r) (Owf.rp m k.2 (fun b hb => s b (List.mem_append_right _ hb)) t)
theorem Owk.rp (m : Sm Hf Hf') : ∀ {v : List (Key × V)} {x : List (Key × OD)} {F : List Addr}, OD.okks x = true → (∀ a ∈ F, Hf' a = H a) → Owk cn Hf H v x F → Rpk cn Hf' v (OD.dks x)
  | _, _, _, _, _, .nil => .nil
  | _, _, _, k, s, .cons r t => by
    simp only [OD.okks, Bool.and_eq_true] at k
    exact .cons (Ow.rp m k.1 (fun b hb => s b (List.mem_append_left _ hb)) r) (Owk.rp m k.2 (fun b hb => s b (List.mem_append_right _ hb)) t)
theorem Owt.rp (m : Sm Hf Hf') : ∀ {v : List (List Key × V)} {x : List (List Key × OD)} {F : List Addr}, OD.okts x = true → (∀ a ∈ F, Hf' a = H a) → Owt cn Hf H v x F → Rpt cn Hf' v (OD.dts x)
  | _, _, _, _, _, .nil => .nil
  | _, _, _, k, s, .cons r t => by
    simp only [OD.okts, Bool.and_eq_true] at k
    exact .cons (Ow.rp m k.1 (fun b hb => s b (List.mem_append_left _ hb)) r) (Owt.rp m k.2 (fun b hb => s b (List.mem_append_right _ hb)) t)
end
end
/-! trees that are wholly one's own: told by their data -/
mutual
def OD.of : D → OD
  | .lst xs => .lst (OD.ofs xs)
  | .tup xs => .tup (OD.ofs xs)
  | .ins C fs => .ins C (OD.off fs)
  | .dK kvs => .dK (OD.ofk kvs)
  | .dT kvs => .dT (OD.oft kvs)
  | .non => .fz .non
  | .bl b => .fz (.bl b)
  | .int i => .fz (.int i)
  | .str x => .fz (.str x)
def OD.ofs : List D → List OD | [] => [] | x :: xs => OD.of x :: OD.ofs xs
def OD.off : List (Str × D) → List (Str × OD) | [] => [] | (f, x) :: xs => (f, OD.of x) :: OD.off xs
def OD.ofk : List (Key × D) → List (Key × OD) | [] => [] | (f, x) :: xs => (f, OD.of x) :: OD.ofk xs
def OD.oft : List (List Key × D) → List (List Key × OD) | [] => [] | (f, x) :: xs => (f, OD.of x) :: OD.oft xs
end
/-- what stands around a part that is lent -/
def Bk (cn : Nat → Addr) (Hf H : Hp) (u : V) (a : Addr) (c : D → D) (F : List Addr) : Prop := ∃ C : OD → OD, (∀ d, C (OD.of d) = OD.of (c d)) ∧ (∀ b ∈ F, H b ≠ none ∧ Hf b = none) ∧
  ∀ (Hf2 H2 : Hp) (y2 : OD) (L2 : List Addr), Sm Hf Hf2 → Stay Hf2 H H2 F → Ow cn Hf2 H2 (.ref a) y2 L2 → ∃ F2 : List Addr, Ow cn Hf2 H2 u (C y2) F2 ∧ F2.Perm (F ++ L2)
theorem Bk.mono {cn : Nat → Addr} {Hf H Hf' H' : Hp} {u : V} {a : Addr} {c : D → D} {F : List Addr} (m : Sm Hf Hf') (st : Stay Hf' H H' F) (h : Bk cn Hf H u a c F) : Bk cn Hf' H' u a c F := by
  obtain ⟨C, h1, h2, h3⟩ := h
  exact ⟨C, h1, fun b hb => ⟨by rw [(st b hb).1]; exact (h2 b hb).1, (st b hb).2⟩, fun Hf2 H2 y2 L2 m2 st2 o => h3 Hf2 H2 y2 L2 (m.trans m2) (fun b hb => ⟨(st2 b hb).1.trans (st b hb).1, (st2 b hb).2⟩) o⟩
end QL

set_option Elab.async false
set_option linter.all false
set_option maxRecDepth 100000
set_option maxHeartbeats 2000000
namespace QL
open PySem L2

/-- what a slot holds: frozen data; a tree of one's own; one that was handed in, to be changed; a part that is lent; a pool; the script; a caught exception -/
inductive Sl where
  | un | fz (d : D) | ow (x : OD) | bw (x : OD) | ln (p : Addr) (x : OD) | kf (d : D) | kv | hw (a : Addr) (c : D → D) | pool | scr (ns : List Int) | exc (a : Addr) (d : Option Addr) (x : Xc)
/-- what may change -/
def Sl.own : Sl → Bool
  | .ow _ => true | .bw _ => true | .ln _ _ => true | .hw _ _ => true | .pool => true | _ => false
/-- has cells of its own -/
def Sl.uniq : Sl → Bool
  | .ow _ => true | .bw _ => true | .ln _ _ => true | .hw _ _ => true | _ => false
abbrev Env := List Sl

/-- computations: what must hold for an end, for an exception -/
def W (α : Type) := (α → Prop) → (Xc → Prop) → Prop
namespace W
def pure {α : Type} (a : α) : W α := fun Q _ => Q a
def bind {α β : Type} (m : W α) (f : α → W β) : W β := fun Q E => m (fun a => f a Q E) E
def fail {α : Type} : W α := fun _ _ => False
def throw {α : Type} (x : Xc) : W α := fun _ E => E x
def any {α : Type} (P : α → Prop) : W α := fun Q _ => ∀ a, P a → Q a
def need {α : Type} (P : Prop) (m : W α) : W α := fun Q E => P ∧ m Q E
end W
instance : Monad W where
  pure := W.pure
  bind := W.bind

structure Ctx where
  K : PySem.W.Frag
  cn : Nat → Addr
  pi : List V → Prop

/-- the ground on which a body runs: pools and trees that it was handed, the heaps at its entry, the arguments -/
structure Bs where
  P : Addr → Prop
  W : Addr → Prop
  Hf : Hp
  H : Hp
  σ : St
  n : Nat

def PoolAt (G : Ctx) (H : Hp) (p : Addr) : Prop := ∃ vs, H p = some (.lst vs) ∧ G.pi vs
/-- an exception: its class, its own dict -/
def XRep (G : Ctx) (Hf : Hp) (x : Xc) (cls : Value) (d : Option Addr) : Prop :=
  cls = .ref (G.cn x.C) ∧ ((x.fs = [] ∧ d = none) ∨ (x.fs ≠ [] ∧ ∃ dd gs, d = some dd ∧ Hf dd = some (.xd gs) ∧ Rpf G.cn Hf gs x.fs))
theorem XRep.mono {G : Ctx} {Hf Hf' : Hp} {x : Xc} {cls : Value} {d : Option Addr} (s : Sm Hf Hf') (h : XRep G Hf x cls d) : XRep G Hf' x cls d := by
  obtain ⟨h1, h2 | ⟨h2, dd, gs, h3, h4, h5⟩⟩ := h
  · exact ⟨h1, .inl h2⟩
  · exact ⟨h1, .inr ⟨h2, dd, gs, h3, s.xd h4, h5.mono s⟩⟩

def SlR (G : Ctx) (B : Bs) (v v0 : Option (Option V)) (Hf H : Hp) (F : List Addr) : Sl → Prop
  | .un => True
  | .fz d => ∃ x, v = some (some x) ∧ Rp G.cn Hf x d
  | .ow x => ∃ u, v = some (some u) ∧ Ow G.cn Hf H u x F ∧ ∀ a ∈ F, B.H a = none
  | .bw x => ∃ u, v = some (some u) ∧ v0 = v ∧ Ow G.cn Hf H u x F
  | .ln p x => v = some (some (.ref p)) ∧ Ow G.cn Hf H (.ref p) x F ∧ ∀ a ∈ F, B.H a = none
  | .kf d => ∃ x, v = some (some x) ∧ v0 = v ∧ Rp G.cn Hf x d
  | .kv => v0 = v
  | .hw a c => ∃ u, v = some (some u) ∧ Bk G.cn Hf H u a c F ∧ ∀ b ∈ F, B.H b = none
  | .pool => ∃ p, v = some (some (.ref p)) ∧ Hf p = none ∧ (B.P p ∨ B.H p = none) ∧ PoolAt G H p
  | .scr ns => ∃ p, v = some (some (.ref p)) ∧ SqL G.K Hf p (ns.map V.int)
  | .exc a d x => v = some (some (.ref a)) ∧ XRep G Hf x (.ref (G.cn x.C)) d
/-- the slots that hold pools -/
def IsPool (ρ : Env) (σ : St) (b : Addr) : Prop := ∃ i : Nat, ρ[i]? = some Sl.pool ∧ σ[i]? = some (some (V.ref b))
abbrev Fps := List (List Addr)

structure Rep (G : Ctx) (B : Bs) (ρ : Env) (σ : St) (F : Fps) (Hf H : Hp) : Prop where
  len : σ.length = ρ.length
  ln : ρ.length = B.n
  lenF : F.length = ρ.length
  sm : Same Hf H
  sm0 : Sm B.Hf Hf
  unf : ∀ b o, B.H b = some o → B.Hf b = none → Hf b = none
  kp : ∀ b o, B.H b = some o → B.Hf b = none → ¬ B.P b → ¬ B.W b → H b = some o
  st : ∀ b, B.H b ≠ none → H b ≠ none
  pl : ∀ b, B.P b → Hf b = none ∧ PoolAt G H b
  p0 : ∀ b, B.P b → B.H b ≠ none ∧ B.Hf b = none ∧ ¬ B.W b
  nd : F.flatten.Nodup
  nw : ∀ a ∈ F.flatten, B.H a = none ∨ B.W a
  np : ∀ a ∈ F.flatten, ¬ IsPool ρ σ a
  sl : ∀ (i : Nat) (s : Sl), ρ[i]? = some s → SlR G B σ[i]? B.σ[i]? Hf H (F.getD i []) s
  un : ∀ (i : Nat) (s : Sl), ρ[i]? = some s → s.uniq = false → F.getD i [] = []

section
variable {F : Fps} {i j : Nat} {a : Addr}
theorem mem_flat (h : a ∈ F.getD i []) : a ∈ F.flatten := by
  rw [List.getD_eq_getElem?_getD] at h
  cases e : F[i]? with
  | none => rw [e] at h; simp at h
  | some l => rw [e] at h; exact List.mem_flatten.mpr ⟨l, List.mem_of_getElem? e, h⟩
theorem of_flat (h : a ∈ F.flatten) : ∃ i, i < F.length ∧ a ∈ F.getD i [] := by
  obtain ⟨l, hl, ha⟩ := List.mem_flatten.mp h
  obtain ⟨i, hi⟩ := List.getElem?_of_mem hl
  exact ⟨i, (List.getElem?_eq_some_iff.mp hi).1, by rw [List.getD_eq_getElem?_getD, hi]; exact ha⟩
theorem flat_apart : ∀ {F : Fps} {i j : Nat}, F.flatten.Nodup → i ≠ j → a ∈ F.getD i [] → a ∈ F.getD j [] → False
  | [], i, j, _, _, h, _ => by simp at h
  | l :: F, 0, 0, _, h, _, _ => h rfl
  | l :: F, 0, j + 1, n, _, h1, h2 => by
    rw [List.flatten_cons, List.nodup_append] at n
    exact n.2.2 a (by simpa using h1) a (mem_flat (by simpa using h2)) rfl
  | l :: F, i + 1, 0, n, _, h1, h2 => by
    rw [List.flatten_cons, List.nodup_append] at n
    exact n.2.2 a (by simpa using h2) a (mem_flat (by simpa using h1)) rfl
  | l :: F, i + 1, j + 1, n, h, h1, h2 => by
    rw [List.flatten_cons, List.nodup_append] at n
    exact flat_apart (F := F) n.2.1 (fun z => h (congrArg (· + 1) z)) (by simpa using h1) (by simpa using h2)
theorem flat_at : ∀ {F : Fps} {i : Nat}, F.flatten.Nodup → (F.getD i []).Nodup
  | [], i, _ => by simp
  | l :: F, 0, n => by rw [List.flatten_cons, List.nodup_append] at n; simpa using n.1
  | l :: F, i + 1, n => by rw [List.flatten_cons, List.nodup_append] at n; simpa using flat_at (F := F) n.2.1
/-- a slot's cells exchanged -/
theorem flat_set : ∀ {F : Fps} {i : Nat} {L : List Addr}, F.flatten.Nodup → L.Nodup → (∀ a ∈ L, ∀ j, j ≠ i → a ∉ F.getD j []) → (F.set i L).flatten.Nodup
  | [], i, L, n, _, _ => by simpa using n
  | l :: F, 0, L, n, m, h => by
    rw [List.flatten_cons, List.nodup_append] at n
    rw [List.set_cons_zero, List.flatten_cons, List.nodup_append]
    refine ⟨m, n.2.1, fun a ha b hb e => ?_⟩
    subst e
    obtain ⟨k, _, hk⟩ := of_flat hb
    exact h a ha (k + 1) (by omega) (by simpa using hk)
  | l :: F, i + 1, L, n, m, h => by
    rw [List.flatten_cons, List.nodup_append] at n
    rw [List.set_cons_succ, List.flatten_cons, List.nodup_append]
    refine ⟨n.1, flat_set n.2.1 m fun a ha j hj => by simpa using h a ha (j + 1) (by omega), fun a ha b hb e => ?_⟩
    subst e
    obtain ⟨k, hk1, hk⟩ := of_flat hb
    rw [List.length_set] at hk1
    by_cases hki : k = i
    · subst hki
      rw [List.getD_eq_getElem?_getD, List.getElem?_set_self hk1] at hk
      exact h a hk 0 (by omega) (by simpa using ha)
    · rw [List.getD_eq_getElem?_getD, List.getElem?_set_ne (fun z => hki z.symm), ← List.getD_eq_getElem?_getD] at hk
      exact n.2.2 a ha a (mem_flat hk) rfl
theorem getD_set_ne {L : List Addr} (h : i ≠ j) : (F.set i L).getD j [] = F.getD j [] := by
  rw [List.getD_eq_getElem?_getD, List.getElem?_set_ne h, ← List.getD_eq_getElem?_getD]
theorem getD_set_self {L : List Addr} (h : i < F.length) : (F.set i L).getD i [] = L := by
  rw [List.getD_eq_getElem?_getD, List.getElem?_set_self h]; rfl
theorem mem_flat_set {L : List Addr} (h : a ∈ (F.set i L).flatten) : a ∈ L ∨ (∃ j, j ≠ i ∧ a ∈ F.getD j []) := by
  obtain ⟨k, hk, h⟩ := of_flat h
  rw [List.length_set] at hk
  by_cases e : i = k
  · subst e; rw [getD_set_self hk] at h; exact .inl h
  · rw [getD_set_ne e] at h; exact .inr ⟨k, fun z => e z.symm, h⟩
end

section
variable {G : Ctx} {B : Bs} {ρ : Env} {σ : St} {F : Fps} {Hf H Hf' H' : Hp}
/-- owned cells stand -/
theorem Rep.cell (R : Rep G B ρ σ F Hf H) {a : Addr} (h : a ∈ F.flatten) : H a ≠ none ∧ Hf a = none := by
  obtain ⟨i, hi, ha⟩ := of_flat h
  have hl : i < ρ.length := by rw [← R.lenF]; exact hi
  obtain ⟨s, hs⟩ : ∃ s, ρ[i]? = some s := ⟨ρ[i], List.getElem?_eq_getElem hl⟩
  have q := R.sl i s hs
  cases s with
  | ow x => obtain ⟨u, _, o, _⟩ := q; exact o.there a ha
  | bw x => obtain ⟨u, _, _, o⟩ := q; exact o.there a ha
  | ln p x => obtain ⟨_, o, _⟩ := q; exact o.there a ha
  | hw p c => obtain ⟨u, _, ⟨C, _, hc, _⟩, _⟩ := q; exact hc a ha
  | _ => rw [R.un i _ hs rfl] at ha; simp at ha
/-- what was not there is of no one's -/
theorem Rep.freeB {p : Addr} (R : Rep G B ρ σ F Hf H) (hp : H p = none) : B.H p = none := by
  cases e : B.H p with
  | none => rfl
  | some o => exact absurd hp (R.st p (by rw [e]; simp))
/-- a slot's relation carried over -/
theorem SlR.mono {v v0 : Option (Option V)} {L : List Addr} {s : Sl} (m : Sm Hf Hf') (st : Stay Hf' H H' L) (pool : ∀ p, s = .pool → v = some (some (.ref p)) → PoolAt G H p → Hf p = none → PoolAt G H' p ∧ Hf' p = none) (q : SlR G B v v0 Hf H L s) : SlR G B v v0 Hf' H' L s := by
  cases s with
  | un => trivial
  | fz d => obtain ⟨x, e1, r⟩ := q; exact ⟨x, e1, r.mono m⟩
  | ow x => obtain ⟨u, e1, o, n⟩ := q; exact ⟨u, e1, o.mono m st, n⟩
  | bw x => obtain ⟨u, e1, e2, o⟩ := q; exact ⟨u, e1, e2, o.mono m st⟩
  | ln p x => obtain ⟨e1, o, n⟩ := q; exact ⟨e1, o.mono m st, n⟩
  | kf d => obtain ⟨x, e1, e2, r⟩ := q; exact ⟨x, e1, e2, r.mono m⟩
  | kv => exact q
  | hw p c => obtain ⟨u, e1, k, n⟩ := q; exact ⟨u, e1, k.mono m st, n⟩
  | pool => obtain ⟨p, e1, h1, h2, h3⟩ := q; obtain ⟨k1, k2⟩ := pool p rfl e1 h3 h1; exact ⟨p, e1, k2, h2, k1⟩
  | scr ns => obtain ⟨p, e1, h⟩ := q; exact ⟨p, e1, m.seq h⟩
  | exc a d x => exact ⟨q.1, q.2.mono m⟩
/-- of no one: no slot's cell, no slot's pool -/
def NoOne (ρ : Env) (σ : St) (F : Fps) (p : Addr) : Prop := p ∉ F.flatten ∧ ¬ IsPool ρ σ p
theorem Rep.free1 {p : Addr} (R : Rep G B ρ σ F Hf H) (hp : H p = none) : NoOne ρ σ F p := ⟨fun h => (R.cell h).1 hp, fun ⟨i, e1, e2⟩ => by
  obtain ⟨q, e3, _, _, vs, h, _⟩ := R.sl i _ e1
  rw [e2] at e3; cases e3; rw [hp] at h; cases h⟩
/-- the heaps move on: frozen things stay, what is owned and the pools stay, what was handed in stays -/
theorem Rep.go (R : Rep G B ρ σ F Hf H) (m : Sm Hf Hf') (sm : Same Hf' H') (st : Stay Hf' H H' F.flatten) (pl : ∀ p, (B.P p ∨ IsPool ρ σ p) → Hf p = none → PoolAt G H p → PoolAt G H' p ∧ Hf' p = none)
    (nf : ∀ b, B.H b ≠ none → Hf b = none → Hf' b = none) (kp : ∀ b, B.H b ≠ none → B.Hf b = none → ¬ B.P b → ¬ B.W b → H' b = H b) (sd : ∀ b, B.H b ≠ none → H' b ≠ none) : Rep G B ρ σ F Hf' H' :=
  ⟨R.len, R.ln, R.lenF, sm, R.sm0.trans m, fun b o e n => nf b (by rw [e]; simp) (R.unf b o e n), fun b o e f n w => by rw [kp b (by rw [e]; simp) f n w]; exact R.kp b o e f n w, sd,
    fun b hb => by obtain ⟨h1, h2⟩ := R.pl b hb; obtain ⟨k1, k2⟩ := pl b (.inl hb) h1 h2; exact ⟨k2, k1⟩, R.p0, R.nd, R.nw, R.np,
    fun i s e => (R.sl i s e).mono m (fun a ha => st a (mem_flat ha)) fun p hs hv h1 h2 => by
      subst hs
      exact pl p (.inr ⟨i, e, hv⟩) h2 h1, R.un⟩
/-- a new object, frozen at once -/
theorem Rep.new {p : Addr} {o : HO} (R : Rep G B ρ σ F Hf H) (hp : H p = none) : Rep G B ρ σ F (upd Hf p o) (upd H p o) := by
  have ne : ∀ {b}, H b ≠ none → b ≠ p := fun e z => e (by rw [z]; exact hp)
  refine R.go (Sm.new (R.sm.free hp)) (fun b u e => ?_) (fun a ha => ?_) (fun q _ h1 ⟨vs, h2, h3⟩ => ?_) (fun b e n => ?_) (fun b e f n w => ?_) fun b e => ?_
  · by_cases hb : b = p
    · subst hb; rw [upd_same] at e ⊢; exact e
    · rw [upd_ne hb] at e ⊢; exact R.sm _ _ e
  · obtain ⟨c1, c2⟩ := R.cell ha
    exact ⟨upd_ne (ne c1), by rw [upd_ne (ne c1)]; exact c2⟩
  · have := ne (b := q) (by rw [h2]; simp)
    exact ⟨⟨vs, by rw [upd_ne this]; exact h2, h3⟩, by rw [upd_ne this]; exact h1⟩
  · rw [upd_ne (ne (R.st b e))]; exact n
  · exact upd_ne (ne (R.st b e))
  · rw [upd_ne (ne (R.st b e))]; exact R.st b e
/-- a new object, not frozen -/
theorem Rep.laid {p : Addr} {o : HO} (R : Rep G B ρ σ F Hf H) (hp : H p = none) : Rep G B ρ σ F Hf (upd H p o) := by
  have ne : ∀ {b}, H b ≠ none → b ≠ p := fun e z => e (by rw [z]; exact hp)
  refine R.go (Sm.refl _) (R.sm.trans (QL.Same.new hp)) (fun a ha => ?_) (fun q _ h1 ⟨vs, h2, h3⟩ => ?_) (fun b e n => n) (fun b e f n w => upd_ne (ne (R.st b e))) fun b e => ?_
  · obtain ⟨c1, c2⟩ := R.cell ha
    exact ⟨upd_ne (ne c1), c2⟩
  · exact ⟨⟨vs, by rw [upd_ne (ne (b := q) (by rw [h2]; simp))]; exact h2, h3⟩, h1⟩
  · rw [upd_ne (ne (R.st b e))]; exact R.st b e
/-- cells that are no one's are frozen -/
def frzL (Hf H : Hp) (L : List Addr) : Hp := fun a => if a ∈ L then H a else Hf a
theorem frzL_in {L : List Addr} {a : Addr} (h : a ∈ L) : frzL Hf H L a = H a := if_pos h
theorem frzL_out {L : List Addr} {a : Addr} (h : a ∉ L) : frzL Hf H L a = Hf a := if_neg h
theorem Sm.frzs {L : List Addr} (h : ∀ a ∈ L, Hf a = none) : Sm Hf (QL.frzL Hf H L) := fun a o e => by
  rw [frzL_out fun z => by rw [h a z] at e; cases e]; exact e
theorem Rep.frz {L : List Addr} (R : Rep G B ρ σ F Hf H) (hf : ∀ a ∈ L, Hf a = none) (hb : ∀ a ∈ L, B.H a = none) (hn : ∀ a ∈ L, NoOne ρ σ F a) : Rep G B ρ σ F (frzL Hf H L) H := by
  refine R.go (Sm.frzs hf) (fun b u e => ?_) (fun a ha => ⟨rfl, ?_⟩) (fun q hq h1 h2 => ⟨h2, ?_⟩) (fun b e n => ?_) (fun b e f n w => rfl) fun b e => R.st b e
  · by_cases h : b ∈ L
    · rw [frzL_in h] at e; exact e
    · rw [frzL_out h] at e; exact R.sm _ _ e
  · rw [frzL_out fun z => (hn a z).1 ha]; exact (R.cell ha).2
  · rw [frzL_out fun z => ?_]
    · exact h1
    · rcases hq with hq | hq
      · exact (R.p0 q hq).1 (hb q z)
      · exact (hn q z).2 hq
  · rw [frzL_out fun z => e (hb b z)]; exact n
theorem frzL_one {p : Addr} {o : HO} (h : H p = some o) : frzL Hf H [p] = upd Hf p o := funext fun a => by
  by_cases e : a = p
  · subst e; rw [frzL_in (by simp), upd_same, h]
  · rw [frzL_out (by simpa using e), upd_ne e]
theorem Rep.frz1 {p : Addr} {o : HO} (R : Rep G B ρ σ F Hf H) (hp : H p = some o) (hf : Hf p = none) (hb : B.H p = none) (hn : NoOne ρ σ F p) : Rep G B ρ σ F (upd Hf p o) H := by
  rw [← frzL_one (Hf := Hf) hp]
  exact R.frz (by simpa using hf) (by simpa using hb) (by simpa using hn)
/-- an object of no one's is changed -/
theorem Rep.other {p : Addr} {o : HO} (R : Rep G B ρ σ F Hf H) (hf : Hf p = none) (hb : B.H p = none) (hn : NoOne ρ σ F p) : Rep G B ρ σ F Hf (upd H p o) := by
  refine R.go (Sm.refl _) (fun b u e => ?_) (fun a ha => ⟨upd_ne fun z => hn.1 (by rw [← z]; exact ha), (R.cell ha).2⟩) (fun q hq h1 ⟨vs, h2, h3⟩ => ⟨⟨vs, ?_, h3⟩, h1⟩) (fun b e n => n) (fun b e f n w => upd_ne fun z => e (by rw [z]; exact hb)) fun b e => ?_
  · rw [upd_ne (ne_of_none e hf)]; exact R.sm _ _ e
  · rw [upd_ne fun z => ?_]
    · exact h2
    · subst z
      rcases hq with hq | hq
      · exact (R.p0 q hq).1 hb
      · exact hn.2 hq
  · rw [upd_ne fun z => e (by rw [z]; exact hb)]; exact R.st b e

/-! ### slots -/
/-- a slot is given something else: L its new cells -/
theorem Rep.give {i : Nat} {s : Sl} {x : Option V} {L : List Addr} (R : Rep G B ρ σ F Hf H) (hs : i < ρ.length → SlR G B (some x) B.σ[i]? Hf H L s) (hL : s.uniq = false → L = []) (nd : L.Nodup) (ap : ∀ a ∈ L, ∀ j, j ≠ i → a ∉ F.getD j [])
    (nw : ∀ a ∈ L, B.H a = none ∨ B.W a) (np : ∀ a ∈ L, ¬ IsPool ρ σ a) (pp : s = .pool → ∀ p, x = some (.ref p) → ∀ j, j ≠ i → p ∉ F.getD j []) : Rep G B (ρ.set i s) (σ.set i x) (F.set i L) Hf H := by
  have hiF : ∀ {j : Nat}, j < ρ.length → j < F.length := fun h => by rw [R.lenF]; exact h
  have pool : ∀ {p}, IsPool (ρ.set i s) (σ.set i x) p → IsPool ρ σ p ∨ (s = .pool ∧ x = some (.ref p)) := fun {p} ⟨j, e1, e2⟩ => by
    by_cases h : i = j
    · subst h
      have hl : i < ρ.length := by simpa using (List.getElem?_eq_some_iff.mp e1).1
      rw [List.getElem?_set_self hl] at e1
      rw [List.getElem?_set_self (by rw [R.len]; exact hl)] at e2
      exact .inr ⟨Option.some.inj e1, Option.some.inj e2⟩
    · rw [List.getElem?_set_ne h] at e1 e2
      exact .inl ⟨j, e1, e2⟩
  refine ⟨by simp [R.len], by simp [R.ln], by simp [R.lenF], R.sm, R.sm0, R.unf, R.kp, R.st, R.pl, R.p0, flat_set R.nd nd ap, fun a ha => ?_, fun a ha hp => ?_, fun j u e => ?_, fun j u e k => ?_⟩
  · rcases mem_flat_set ha with h | ⟨j, _, h⟩
    · exact nw a h
    · exact R.nw a (mem_flat h)
  · rcases pool hp with hp | ⟨z1, z2⟩
    · rcases mem_flat_set ha with h | ⟨j, _, h⟩
      · exact np a h hp
      · exact R.np a (mem_flat h) hp
    · rcases mem_flat_set ha with h | ⟨j, hj, h⟩
      · rw [hL (by rw [z1]; rfl)] at h; simp at h
      · exact pp z1 a z2 j hj h
  · by_cases h : i = j
    · subst h
      have hl : i < ρ.length := by simpa using (List.getElem?_eq_some_iff.mp e).1
      rw [List.getElem?_set_self hl] at e
      cases e
      rw [List.getElem?_set_self (by rw [R.len]; exact hl), getD_set_self (hiF hl)]
      exact hs hl
    · rw [List.getElem?_set_ne h] at e ⊢
      rw [getD_set_ne h]
      exact R.sl j u e
  · by_cases h : i = j
    · subst h
      have hl : i < ρ.length := by simpa using (List.getElem?_eq_some_iff.mp e).1
      rw [List.getElem?_set_self hl] at e
      cases e
      rw [getD_set_self (hiF hl)]
      exact hL k
    · rw [List.getElem?_set_ne h] at e
      rw [getD_set_ne h]
      exact R.un j u e k
/-- .. that owns nothing -/
theorem Rep.setSl {i : Nat} {s : Sl} {x : Option V} (R : Rep G B ρ σ F Hf H) (hs : i < ρ.length → SlR G B (some x) B.σ[i]? Hf H [] s) (hn : s.own = false) : Rep G B (ρ.set i s) (σ.set i x) (F.set i []) Hf H :=
  R.give hs (fun _ => rfl) (by simp) (by simp) (by simp) (by simp) (fun h => by rw [h] at hn; cases hn)
theorem Rep.set {i : Nat} {v : V} {d : D} (R : Rep G B ρ σ F Hf H) (r : Rp G.cn Hf v d) : Rep G B (ρ.set i (.fz d)) (σ.set i (some v)) (F.set i []) Hf H :=
  R.setSl (fun _ => ⟨v, rfl, r⟩) rfl
/-- a tree of no one's is given to a slot -/
theorem Rep.setOw {i : Nat} {u : V} {x : OD} {L : List Addr} (R : Rep G B ρ σ F Hf H) (o : Ow G.cn Hf H u x L) (nd : L.Nodup) (hn : ∀ a ∈ L, NoOne ρ σ F a) (hb : ∀ a ∈ L, B.H a = none) : Rep G B (ρ.set i (.ow x)) (σ.set i (some u)) (F.set i L) Hf H :=
  R.give (fun _ => ⟨u, rfl, o, hb⟩) (fun h => by cases h) nd (fun a ha j _ h => (hn a ha).1 (mem_flat h)) (fun a ha => .inl (hb a ha)) (fun a ha => (hn a ha).2) (fun h => by cases h)
/-- a slot's tree let go: its cells are no one's -/
theorem Rep.drop {i : Nat} {s : Sl} (R : Rep G B ρ σ F Hf H) (e : ρ[i]? = some s) : Rep G B (ρ.set i .un) σ (F.set i []) Hf H ∧ ∀ a ∈ F.getD i [], NoOne (ρ.set i .un) σ (F.set i []) a := by
  have hl : i < ρ.length := (List.getElem?_eq_some_iff.mp e).1
  have es : σ.set i (σ[i]'(by rw [R.len]; exact hl)) = σ := by
    apply List.ext_getElem?
    intro j
    by_cases h : i = j
    · subst h; rw [List.getElem?_set_self (by rw [R.len]; exact hl), List.getElem?_eq_getElem (by rw [R.len]; exact hl)]
    · rw [List.getElem?_set_ne h]
  have R1 := R.setSl (i := i) (s := .un) (x := σ[i]'(by rw [R.len]; exact hl)) (fun _ => trivial) rfl
  rw [es] at R1
  refine ⟨R1, fun a ha => ⟨fun z => ?_, fun ⟨j, e1, e2⟩ => ?_⟩⟩
  · rcases mem_flat_set z with z | ⟨j, hj, z⟩
    · simp at z
    · exact flat_apart R.nd (fun y => hj y.symm) ha z
  · by_cases h : i = j
    · subst h; rw [List.getElem?_set_self hl] at e1; cases e1
    · rw [List.getElem?_set_ne h] at e1
      exact R.np a (mem_flat ha) ⟨j, e1, e2⟩
/-- a slot's tree is changed within its cells, new cells may come -/
theorem Rep.change {i : Nat} {s s' : Sl} {L : List Addr} (R : Rep G B ρ σ F Hf H) (e : ρ[i]? = some s) (k' : s'.uniq = true) (m : Sm Hf Hf') (sm : Same Hf' H') (hk : ∀ a, a ∉ F.getD i [] → H a ≠ none → Hf a = none → H' a = H a ∧ Hf' a = none) (hd : ∀ a, H a ≠ none → H' a ≠ none) (hz : ∀ a, a ∈ F.getD i [] → B.H a ≠ none → Hf' a = none)
    (hs : SlR G B σ[i]? B.σ[i]? Hf' H' L s') (nd : L.Nodup) (hL : ∀ a ∈ L, a ∈ F.getD i [] ∨ H a = none) : Rep G B (ρ.set i s') σ (F.set i L) Hf' H' := by
  have hl : i < ρ.length := (List.getElem?_eq_some_iff.mp e).1
  obtain ⟨R1, n1⟩ := R.drop e
  have hW : ∀ {b}, B.H b ≠ none → ¬ B.W b → b ∉ F.getD i [] := fun h w z => (R.nw _ (mem_flat z)).elim h w
  have R2 : Rep G B (ρ.set i .un) σ (F.set i []) Hf' H' := by
    refine R1.go m sm (fun a ha => ?_) (fun p hp h1 ⟨vs, h2, h3⟩ => ?_) (fun b hb h => ?_) (fun b hb hf n w => (hk b (hW hb w) (R.st b hb) ?_).1) fun b hb => hd b (R.st b hb)
    · have c := R1.cell ha
      exact hk a (fun z => (n1 a z).1 ha) c.1 c.2
    · have : p ∉ F.getD i [] := fun z => by
        rcases hp with hp | hp
        · rcases R.nw p (mem_flat z) with q | q
          · exact (R.p0 p hp).1 q
          · exact (R.p0 p hp).2.2 q
        · exact (n1 p z).2 hp
      obtain ⟨c1, c2⟩ := hk p this (by rw [h2]; simp) h1
      exact ⟨⟨vs, by rw [c1]; exact h2, h3⟩, c2⟩
    · by_cases z : b ∈ F.getD i []
      · exact hz b z hb
      · exact (hk b z (R.st b hb) h).2
    · cases q : B.H b with
      | none => exact absurd q hb
      | some o => exact R.unf b o q hf
  have es : ∀ {x : Option V}, σ[i]? = some x → σ.set i x = σ := fun {x} h => by
    apply List.ext_getElem?
    intro j
    by_cases hj : i = j
    · subst hj; rw [List.getElem?_set_self (by rw [R.len]; exact hl), h]
    · rw [List.getElem?_set_ne hj]
  have q := R2.give (i := i) (s := s') (x := σ[i]'(by rw [R.len]; exact hl)) (L := L) (fun _ => by rw [← List.getElem?_eq_getElem]; exact hs) (fun h => by rw [k'] at h; cases h) nd (fun a ha j hj z => ?_) (fun a ha => ?_) (fun a ha hp => ?_) (fun h => by rw [h] at k'; cases k')
  · rw [es (List.getElem?_eq_getElem _), List.set_set, List.set_set] at q
    exact q
  · rw [getD_set_ne (fun y => hj y.symm)] at z
    rcases hL a ha with h | h
    · exact flat_apart R.nd hj z h
    · exact (R.cell (mem_flat z)).1 h
  · rcases hL a ha with h | h
    · exact R.nw a (mem_flat h)
    · exact .inl (R.freeB h)
  · rcases hL a ha with h | h
    · exact (n1 a h).2 hp
    · exact (R1.free1 h).2 hp
end

/-! ### from one state on to a later one: nothing is lost, nothing that was not frozen is frozen, only pools change -/
structure Nx (ρ : Env) (σ : St) (Hf H Hf' H' : Hp) : Prop where
  sm : Sm Hf Hf'
  kp : ∀ b o, H b = some o → Hf b = none → Hf' b = none ∧ ∃ o', H' b = some o' ∧ (¬ IsPool ρ σ b → o' = o)
section
variable {ρ : Env} {σ : St} {Hf H Hf1 H1 Hf2 H2 : Hp}
theorem Nx.refl : Nx ρ σ Hf H Hf H := ⟨Sm.refl _, fun b o e n => ⟨n, o, e, fun _ => rfl⟩⟩
theorem Nx.trans (a : Nx ρ σ Hf H Hf1 H1) (b : Nx ρ σ Hf1 H1 Hf2 H2) : Nx ρ σ Hf H Hf2 H2 :=
  ⟨a.sm.trans b.sm, fun c o e n => by
    obtain ⟨n1, o1, e1, q1⟩ := a.kp c o e n
    obtain ⟨n2, o2, e2, q2⟩ := b.kp c o1 e1 n1
    exact ⟨n2, o2, e2, fun z => (q2 z).trans (q1 z)⟩⟩
theorem Nx.new {p : Addr} {o : HO} (sm : Same Hf H) (hp : H p = none) : Nx ρ σ Hf H (upd Hf p o) (upd H p o) :=
  ⟨Sm.new (sm.free hp), fun b u e n => ⟨by rw [upd_ne (ne_of_none e hp)]; exact n, u, QL.Same.new hp _ _ e, fun _ => rfl⟩⟩
theorem Nx.stay {L : List Addr} (n : Nx ρ σ Hf H Hf1 H1) (h : ∀ a ∈ L, H a ≠ none ∧ Hf a = none) (hp : ∀ a ∈ L, ¬ IsPool ρ σ a) : Stay Hf1 H H1 L := fun a ha => by
  obtain ⟨h1, h2⟩ := h a ha
  cases e : H a with
  | none => exact absurd e h1
  | some o =>
    obtain ⟨n1, o', e', q⟩ := n.kp a o e h2
    exact ⟨by rw [e', q (hp a ha)], n1⟩
theorem Nx.nn {b : Addr} (s : Same Hf H) (s1 : Same Hf1 H1) (n : Nx ρ σ Hf H Hf1 H1) (h : H1 b = none) : H b = none := by
  cases e : H b with
  | none => rfl
  | some o =>
    cases z : Hf b with
    | none =>
      obtain ⟨_, o', e', _⟩ := n.kp _ _ e z
      rw [h] at e'; cases e'
    | some u =>
      have := n.sm.ss (p := b) (by rw [z]; simp)
      cases y : Hf1 b with
      | none => exact absurd y this
      | some w => rw [s1 _ _ y] at h; cases h
theorem Nx.weak {ρ2 : Env} {σ2 : St} (n : Nx ρ2 σ2 Hf H Hf1 H1) (h : ∀ b, IsPool ρ2 σ2 b → IsPool ρ σ b) : Nx ρ σ Hf H Hf1 H1 :=
  ⟨n.sm, fun b o e z => by
    obtain ⟨n1, o', e2, q⟩ := n.kp b o e z
    exact ⟨n1, o', e2, fun k => q fun w => k (h b w)⟩⟩
theorem Nx.frzL {L : List Addr} (n : Nx ρ σ Hf H Hf1 H1) (h0 : ∀ a ∈ L, H a = none) (hf : ∀ a ∈ L, Hf1 a = none) : Nx ρ σ Hf H (QL.frzL Hf1 H1 L) H1 :=
  ⟨n.sm.trans (Sm.frzs hf), fun b u e z => by
    obtain ⟨n1, o', e2, q⟩ := n.kp b u e z
    exact ⟨by rw [frzL_out fun y => by rw [h0 b y] at e; cases e]; exact n1, o', e2, q⟩⟩
theorem Nx.frz {p : Addr} {o : HO} (n : Nx ρ σ Hf H Hf1 H1) (h0 : H p = none) (hf : Hf1 p = none) : Nx ρ σ Hf H (upd Hf1 p o) H1 :=
  ⟨n.sm.trans (Sm.new hf), fun b u e z => by
    obtain ⟨n1, o', e2, q⟩ := n.kp b u e z
    exact ⟨by rw [upd_ne (ne_of_none e h0)]; exact n1, o', e2, q⟩⟩
theorem Nx.other {p : Addr} {o : HO} (n : Nx ρ σ Hf H Hf1 H1) (h0 : H p = none) : Nx ρ σ Hf H Hf1 (upd H1 p o) :=
  ⟨n.sm, fun b u e z => by
    obtain ⟨n1, o', e2, q⟩ := n.kp b u e z
    exact ⟨n1, o', by rw [upd_ne (ne_of_none e h0)]; exact e2, q⟩⟩
end
end QL

set_option Elab.async false
set_option linter.all false
set_option maxRecDepth 100000
set_option maxHeartbeats 2000000
namespace QL
open PySem L2

/-! ### expressions -/
def XPost (G : Ctx) (Wx : WX) (σ : St) (F : Fps) (Hf H : Hp) (B : Bs) (ρ : Env) (E : Xc → Prop) : Prop :=
  ∀ x cls d Hf' H', Rep G B ρ σ F Hf' H' → Nx ρ σ Hf H Hf' H' → XRep G Hf' x cls d → E x → Wx cls d σ H'

def EvT (G : Ctx) (Wx : WX) (t : TE) (g : Env → W D) : Prop :=
  ∀ (B : Bs) (ρ : Env) (σ : St) (F : Fps) (Hf H : Hp) (Q' : D → Prop) (E' : Xc → Prop) (Q : VK), Rep G B ρ σ F Hf H → g ρ Q' E' →
    (∀ v d Hf' H', Rep G B ρ σ F Hf' H' → Nx ρ σ Hf H Hf' H' → Rp G.cn Hf' v d → Q' d → Q v H') → XPost G Wx σ F Hf H B ρ E' → t σ H Q
structure Ev (G : Ctx) (X : Cx) (Wx : WX) (e : Expr) (g : Env → W D) : Prop where
  ex : ∃ t, PE X e t ∧ EvT G Wx t g
/-- tests -/
def EbT (G : Ctx) (Wx : WX) (t : TT) (g : Env → W Bool) : Prop :=
  ∀ (B : Bs) (ρ : Env) (σ : St) (F : Fps) (Hf H : Hp) (Q' : Bool → Prop) (E' : Xc → Prop) (Q : Bool → Hp → Prop), Rep G B ρ σ F Hf H → g ρ Q' E' →
    (∀ b Hf' H', Rep G B ρ σ F Hf' H' → Nx ρ σ Hf H Hf' H' → Q' b → Q b H') → XPost G Wx σ F Hf H B ρ E' → t σ H Q
structure Eb (G : Ctx) (X : Cx) (Wx : WX) (e : Expr) (g : Env → W Bool) : Prop where
  ex : ∃ t, PT X e t ∧ EbT G Wx t g
structure Ew (G : Ctx) (X : Cx) (Wx : WX) (e : Expr) (g : Env → W Bool) : Prop where
  ex : ∃ t, PW X e t ∧ EbT G Wx t g
/-- argument lists -/
def EaT (G : Ctx) (Wx : WX) (t : TA) (g : Env → W (List D)) : Prop :=
  ∀ (B : Bs) (ρ : Env) (σ : St) (F : Fps) (Hf H : Hp) (Q' : List D → Prop) (E' : Xc → Prop) (Q : List V → Hp → Prop), Rep G B ρ σ F Hf H → g ρ Q' E' →
    (∀ vs ds Hf' H', Rep G B ρ σ F Hf' H' → Nx ρ σ Hf H Hf' H' → Rps G.cn Hf' vs ds → Q' ds → Q vs H') → XPost G Wx σ F Hf H B ρ E' → t σ H Q
structure Ea (G : Ctx) (X : Cx) (Wx : WX) (es : List Expr) (g : Env → W (List D)) : Prop where
  ex : ∃ t, PA X es t ∧ EaT G Wx t g
theorem XPost.mono {G : Ctx} {Wx : WX} {σ : St} {F : Fps} {Hf H Hf' H' : Hp} {B : Bs} {ρ : Env} {E : Xc → Prop} (h : XPost G Wx σ F Hf H B ρ E) (s : Nx ρ σ Hf H Hf' H') : XPost G Wx σ F Hf' H' B ρ E :=
  fun x cls d Hf2 H2 R s2 xr e => h x cls d Hf2 H2 R (s.trans s2) xr e

/-- operations by values -/
def Op2 (G : Ctx) (r : R2) (f : D → D → W D) : Prop :=
  ∀ (B : Bs) (ρ : Env) (σ : St) (F : Fps) (Hf H : Hp) (x y : V) (a b : D) (Q' : D → Prop) (E' : Xc → Prop) (Q : VK), Rep G B ρ σ F Hf H → Rp G.cn Hf x a → Rp G.cn Hf y b → f a b Q' E' →
    (∀ v d Hf' H', Rep G B ρ σ F Hf' H' → Nx ρ σ Hf H Hf' H' → Rp G.cn Hf' v d → Q' d → Q v H') → r x y H Q
def Op1 (G : Ctx) (r : V → Hp → VK → Prop) (f : D → W D) : Prop :=
  ∀ (B : Bs) (ρ : Env) (σ : St) (F : Fps) (Hf H : Hp) (x : V) (a : D) (Q' : D → Prop) (E' : Xc → Prop) (Q : VK), Rep G B ρ σ F Hf H → Rp G.cn Hf x a → f a Q' E' →
    (∀ v d Hf' H', Rep G B ρ σ F Hf' H' → Nx ρ σ Hf H Hf' H' → Rp G.cn Hf' v d → Q' d → Q v H') → r x H Q
def OpN (G : Ctx) (r : List V → Hp → VK → Prop) (f : List D → W D) : Prop :=
  ∀ (B : Bs) (ρ : Env) (σ : St) (F : Fps) (Hf H : Hp) (xs : List V) (as : List D) (Q' : D → Prop) (E' : Xc → Prop) (Q : VK), Rep G B ρ σ F Hf H → Rps G.cn Hf xs as → f as Q' E' →
    (∀ v d Hf' H', Rep G B ρ σ F Hf' H' → Nx ρ σ Hf H Hf' H' → Rp G.cn Hf' v d → Q' d → Q v H') → r xs H Q
def rOr (r r' : R2) : R2 := fun x y H Q => r x y H Q ∨ r' x y H Q
theorem op_or2 {X : Cx} {f : Value → Value → Sem Value} {r r' : R2} (h : OpR X f r) (h' : OpR X f r') : OpR X f (rOr r r') := fun pins s σ H x y v u Q I rx ry q => q.elim (h pins s σ H x y v u Q I rx ry) (h' pins s σ H x y v u Q I rx ry)
def cOr (r r' : List V → Hp → VK → Prop) : List V → Hp → VK → Prop := fun x H Q => r x H Q ∨ r' x H Q
theorem call_or {X : Cx} {f : Value} {r r' : List V → Hp → VK → Prop} (h : CallR X f r) (h' : CallR X f r') : CallR X f (cOr r r') := fun pins s σ H xs us Q I rv q => q.elim (h pins s σ H xs us Q I rv) (h' pins s σ H xs us Q I rv)

section
variable {G : Ctx} {X : Cx} {Wx : WX} {a b c e : Expr} {es : List Expr} {ga gb gc g : Env → W D} {pos : Pos}

def bin2 (f : D → D → W D) (ga gb : Env → W D) : Env → W D := fun ρ => do let x ← ga ρ; let y ← gb ρ; f x y
theorem evt_op {r : R2} {f : D → D → W D} {ta tb : TE} (ho : Op2 G r f) (ha : EvT G Wx ta ga) (hb : EvT G Wx tb gb) : EvT G Wx (tOp r ta tb) (bin2 f ga gb) := by
  intro B ρ σ F Hf H Q' E' Q R q k kx
  refine ha B ρ σ F Hf H _ E' _ R q (fun v d Hf1 H1 R1 s1 r1 q1 => ?_) kx
  refine hb B ρ σ F Hf1 H1 _ E' _ R1 q1 (fun u e Hf2 H2 R2 s2 r2 q2 => ?_) (kx.mono s1)
  exact ho B ρ σ F Hf2 H2 v u d e Q' E' Q R2 (r1.mono s2.sm) r2 q2 fun w z Hf3 H3 R3 s3 r3 q3 => k w z Hf3 H3 R3 ((s1.trans s2).trans s3) r3 q3
theorem ev_bin {op : Operator} {r : R2} {f : D → D → W D} (hr : OpR X (binaryOp op) r) (ho : Op2 G r f) (ha : Ev G X Wx a ga) (hb : Ev G X Wx b gb) : Ev G X Wx (.BinOp a op b pos) (bin2 f ga gb) := by
  obtain ⟨ta, pa, ea⟩ := ha.ex
  obtain ⟨tb, pb, eb⟩ := hb.ex
  exact ⟨_, pe_op hr pa pb, evt_op ho ea eb⟩
theorem ev_cmp {op : CmpOp} {r : R2} {f : D → D → W D} (hr : OpR X (compareOp op) r) (ho : Op2 G r f) (ha : Ev G X Wx a ga) (hb : Ev G X Wx b gb) (hm : behindInMarks op b = false) : Ev G X Wx (.Compare a [op] [b] pos) (bin2 f ga gb) := by
  obtain ⟨ta, pa, ea⟩ := ha.ex
  obtain ⟨tb, pb, eb⟩ := hb.ex
  exact ⟨_, pe_cmpR hr pa pb hm, evt_op ho ea eb⟩
/-- a value as a truth value -/
def asB (d : D) : W Bool := match d with | .bl b => W.pure b | _ => W.fail
def testB (g : Env → W D) : Env → W Bool := fun ρ => do let d ← g ρ; asB d
theorem ebt_test {t : TE} (h : EvT G Wx t g) : EbT G Wx (tTest t) (testB g) := by
  intro B ρ σ F Hf H Q' E' Q R q k kx
  refine h B ρ σ F Hf H _ E' _ R q (fun v d Hf1 H1 R1 s1 r1 q1 => ?_) kx
  cases r1 with
  | bl b => exact ⟨b, rfl, k b Hf1 H1 R1 s1 q1⟩
  | _ => exact False.elim q1
theorem eb_cmp {op : CmpOp} {r : R2} {f : D → D → W D} (hr : OpR X (compareOp op) r) (ho : Op2 G r f) (ha : Ev G X Wx a ga) (hb : Ev G X Wx b gb) (hm : behindInMarks op b = false) : Eb G X Wx (.Compare a [op] [b] pos) (testB (bin2 f ga gb)) := by
  obtain ⟨ta, pa, ea⟩ := ha.ex
  obtain ⟨tb, pb, eb⟩ := hb.ex
  exact ⟨_, pt_cmpR hr pa pb hm, ebt_test (evt_op ho ea eb)⟩
/-- a chain of two comparisons -/
def chain2 (f f' : D → D → W D) (ga gb gc : Env → W D) : Env → W D := fun ρ => do
  let x ← ga ρ
  let y ← gb ρ
  let z ← f x y
  let k ← asB z
  if k = true then do
    let w ← gc ρ
    f' y w
  else W.pure (.bl false)
theorem evt_chain {r r' : R2} {f f' : D → D → W D} {ta tb tc : TE} (ho : Op2 G r f) (ho' : Op2 G r' f') (ha : EvT G Wx ta ga) (hb : EvT G Wx tb gb) (hc : EvT G Wx tc gc) : EvT G Wx (tChain r r' ta tb tc) (chain2 f f' ga gb gc) := by
  intro B ρ σ F Hf H Q' E' Q R q k kx
  refine ha B ρ σ F Hf H _ E' _ R q (fun v d Hf1 H1 R1 s1 r1 q1 => ?_) kx
  refine hb B ρ σ F Hf1 H1 _ E' _ R1 q1 (fun u e Hf2 H2 R2 s2 r2 q2 => ?_) (kx.mono s1)
  refine ho B ρ σ F Hf2 H2 v u d e _ E' _ R2 (r1.mono s2.sm) r2 q2 fun w z Hf3 H3 R3 s3 r3 q3 => ?_
  cases r3 with
  | bl kk =>
    refine ⟨kk, rfl, ?_⟩
    cases kk with
    | false => exact iteF (k _ _ Hf3 H3 R3 ((s1.trans s2).trans s3) (.bl false) q3)
    | true =>
      refine iteT ?_
      refine hc B ρ σ F Hf3 H3 _ E' _ R3 q3 (fun w' z' Hf4 H4 R4 s4 r4 q4 => ?_) (((kx.mono s1).mono s2).mono s3)
      exact ho' B ρ σ F Hf4 H4 u w' e z' Q' E' Q R4 ((r2.mono s3.sm).mono s4.sm) r4 q4 fun w5 z5 Hf5 H5 R5 s5 r5 q5 => k w5 z5 Hf5 H5 R5 ((((s1.trans s2).trans s3).trans s4).trans s5) r5 q5
  | _ => exact False.elim q3
theorem ev_chain {op op' : CmpOp} {r r' : R2} {f f' : D → D → W D} (hr : OpR X (compareOp op) r) (hr' : OpR X (compareOp op') r') (ho : Op2 G r f) (ho' : Op2 G r' f') (ha : Ev G X Wx a ga) (hb : Ev G X Wx b gb) (hc : Ev G X Wx c gc)
    (hm : lastMarks [op, op'] [b, c] = false := by with_unfolding_all rfl) : Ev G X Wx (.Compare a [op, op'] [b, c] pos) (chain2 f f' ga gb gc) := by
  obtain ⟨ta, pa, ea⟩ := ha.ex
  obtain ⟨tb, pb, eb⟩ := hb.ex
  obtain ⟨tc, pc, ec⟩ := hc.ex
  exact ⟨_, pe_chain hr hr' pa pb pc hm, evt_chain ho ho' ea eb ec⟩
theorem eb_chain {op op' : CmpOp} {r r' : R2} {f f' : D → D → W D} (hr : OpR X (compareOp op) r) (hr' : OpR X (compareOp op') r') (ho : Op2 G r f) (ho' : Op2 G r' f') (ha : Ev G X Wx a ga) (hb : Ev G X Wx b gb) (hc : Ev G X Wx c gc)
    (hm : lastMarks [op, op'] [b, c] = false := by with_unfolding_all rfl) : Eb G X Wx (.Compare a [op, op'] [b, c] pos) (testB (chain2 f f' ga gb gc)) := by
  obtain ⟨ta, pa, ea⟩ := ha.ex
  obtain ⟨tb, pb, eb⟩ := hb.ex
  obtain ⟨tc, pc, ec⟩ := hc.ex
  exact ⟨_, pt_chain hr hr' pa pb pc hm, ebt_test (evt_chain ho ho' ea eb ec)⟩

/-! names, constants -/
def rdS : Option Sl → W D
  | some (.fz d) => W.pure d
  | some (.kf d) => W.pure d
  | _ => W.fail
def rd (i : Nat) : Env → W D := fun ρ => rdS ρ[i]?
theorem ev_var (i : Nat) {x : Str} (h : PE X (.Name x pos) (tVar i)) : Ev G X Wx (.Name x pos) (rd i) := by
  refine ⟨_, h, ?_⟩
  intro B ρ σ F Hf H Q' E' Q R q k kx
  have q' : rdS ρ[i]? Q' E' := q
  cases e : ρ[i]? with
  | none => rw [e] at q'; exact False.elim q'
  | some s =>
    rw [e] at q'
    cases s with
    | fz d =>
      obtain ⟨v, e1, r⟩ := R.sl i _ e
      exact ⟨v, e1, k v d Hf H R (Nx.refl) r q'⟩
    | kf d =>
      obtain ⟨v, e1, _, r⟩ := R.sl i _ e
      exact ⟨v, e1, k v d Hf H R (Nx.refl) r q'⟩
    | _ => exact False.elim q'
def kst (d : D) : Env → W D := fun _ => W.pure d
theorem ev_const {v : V} {d : D} (h : PE X e (tC v)) (r : ∀ cn H, Rp cn H v d) : Ev G X Wx e (kst d) :=
  ⟨_, h, fun B ρ σ F Hf H Q' E' Q R q k kx => k v d Hf H R (Nx.refl) (r _ _) q⟩
theorem ev_int {i j} : Ev G X Wx (.Constant (.int i) j pos) (kst (.int i)) := ev_const pe_int fun _ _ => .int i
theorem ev_bl {i j} : Ev G X Wx (.Constant (.bool i) j pos) (kst (.bl i)) := ev_const pe_bl fun _ _ => .bl i
theorem ev_non {j} : Ev G X Wx (.Constant .none j pos) (kst .non) := ev_const pe_non fun _ _ => .non
theorem ev_str {x j} : Ev G X Wx (.Constant (.str x) j pos) (kst (.str x)) := ev_const pe_str fun _ _ => .str x
/-- a module's int -/
theorem ev_globI {x : Str} {i : Int} {t : Tok} (hg : Gl X x) (hm : X.mg x = some (.int i t)) (hd : (x == ("__debug__" : Str)) = false := by decide) : Ev G X Wx (.Name x pos) (kst (.int i)) :=
  ev_const (v := .int i) (pe_glob hg hm ⟨_, rfl⟩ hd) fun _ _ => .int i

/-! tests from values; and, or, not -/
theorem eb_val {t : Env → W D} (h : Ev G X Wx e t) (he : ∀ whole, isTrue e X.env whole = (do let v ← whole; standAt e.pos; holding [v] (truthy v)) := by intro _; rfl) : Eb G X Wx e (testB t) := by
  obtain ⟨ta, pa, ea⟩ := h.ex
  exact ⟨_, pt_val pa he, fun B ρ σ F Hf H Q' E' Q R q k kx => ebt_test ea B ρ σ F Hf H Q' E' Q R q k kx⟩
theorem eb_w {t : Env → W Bool} (h : Ew G X Wx e t) : Eb G X Wx e t := by
  obtain ⟨ta, pa, ea⟩ := h.ex
  exact ⟨_, pa.pt, ea⟩
variable {ba bb bc : Env → W Bool}
theorem ew_and1 (h : Eb G X Wx a ba) : Ew G X Wx (.BoolOp .And [a] pos) ba := by
  obtain ⟨ta, pa, ea⟩ := h.ex
  exact ⟨_, pw_and1 pa, ea⟩
theorem ew_or1 (h : Eb G X Wx a ba) : Ew G X Wx (.BoolOp .Or [a] pos) ba := by
  obtain ⟨ta, pa, ea⟩ := h.ex
  exact ⟨_, pw_or1 pa, ea⟩
def andB (f g : Env → W Bool) : Env → W Bool := fun ρ => do let x ← f ρ; if x = true then g ρ else W.pure false
def orB (f g : Env → W Bool) : Env → W Bool := fun ρ => do let x ← f ρ; if x = true then W.pure true else g ρ
def notB (f : Env → W Bool) : Env → W Bool := fun ρ => do let x ← f ρ; W.pure (!x)
theorem ew_and {rest : List Expr} (h : Eb G X Wx a ba) (h2 : Ew G X Wx (.BoolOp .And (b :: rest) pos) bb) : Ew G X Wx (.BoolOp .And (a :: b :: rest) pos) (andB ba bb) := by
  obtain ⟨ta, pa, ea⟩ := h.ex
  obtain ⟨tb, pb, eb⟩ := h2.ex
  refine ⟨_, pw_and pa pb, ?_⟩
  intro B ρ σ F Hf H Q' E' Q R q k kx
  refine ea B ρ σ F Hf H _ E' _ R q (fun x Hf1 H1 R1 s1 q1 => ?_) kx
  cases x with
  | true => exact iteT (eb B ρ σ F Hf1 H1 Q' E' Q R1 q1 (fun y Hf2 H2 R2 s2 q2 => k y Hf2 H2 R2 (s1.trans s2) q2) (kx.mono s1))
  | false => exact iteF (k false Hf1 H1 R1 s1 q1)
theorem ew_or {rest : List Expr} (h : Eb G X Wx a ba) (h2 : Ew G X Wx (.BoolOp .Or (b :: rest) pos) bb) : Ew G X Wx (.BoolOp .Or (a :: b :: rest) pos) (orB ba bb) := by
  obtain ⟨ta, pa, ea⟩ := h.ex
  obtain ⟨tb, pb, eb⟩ := h2.ex
  refine ⟨_, pw_or pa pb, ?_⟩
  intro B ρ σ F Hf H Q' E' Q R q k kx
  refine ea B ρ σ F Hf H _ E' _ R q (fun x Hf1 H1 R1 s1 q1 => ?_) kx
  cases x with
  | false => exact iteF (eb B ρ σ F Hf1 H1 Q' E' Q R1 q1 (fun y Hf2 H2 R2 s2 q2 => k y Hf2 H2 R2 (s1.trans s2) q2) (kx.mono s1))
  | true => exact iteT (k true Hf1 H1 R1 s1 q1)
theorem eb_not (h : Eb G X Wx a ba) : Eb G X Wx (.UnaryOp .Not a pos) (notB ba) := by
  obtain ⟨ta, pa, ea⟩ := h.ex
  exact ⟨_, pt_not pa, fun B ρ σ F Hf H Q' E' Q R q k kx => ea B ρ σ F Hf H _ E' _ R q (fun x Hf1 H1 R1 s1 q1 => k (!x) Hf1 H1 R1 s1 q1) kx⟩
/-- .. as values -/
def andV (f g : Env → W D) : Env → W D := fun ρ => do let x ← f ρ; let k ← asB x; if k = true then g ρ else W.pure (.bl false)
def orV (f g : Env → W D) : Env → W D := fun ρ => do let x ← f ρ; let k ← asB x; if k = true then W.pure (.bl true) else g ρ
def notV (f : Env → W D) : Env → W D := fun ρ => do let x ← f ρ; let k ← asB x; W.pure (.bl (!k))
theorem ev_one {op} (h : Ev G X Wx a ga) : Ev G X Wx (.BoolOp op [a] pos) ga := by
  obtain ⟨ta, pa, ea⟩ := h.ex
  exact ⟨_, pe_one pa, ea⟩
theorem ev_and {rest : List Expr} (h : Ev G X Wx a ga) (h2 : Ev G X Wx (.BoolOp .And (b :: rest) pos) gb) : Ev G X Wx (.BoolOp .And (a :: b :: rest) pos) (andV ga gb) := by
  obtain ⟨ta, pa, ea⟩ := h.ex
  obtain ⟨tb, pb, eb⟩ := h2.ex
  refine ⟨_, pe_and pa pb, ?_⟩
  intro B ρ σ F Hf H Q' E' Q R q k kx
  refine ea B ρ σ F Hf H _ E' _ R q (fun v d Hf1 H1 R1 s1 r1 q1 => ?_) kx
  cases r1 with
  | bl x =>
    refine ⟨x, rfl, ?_⟩
    cases x with
    | true => exact iteT (eb B ρ σ F Hf1 H1 Q' E' Q R1 q1 (fun y d Hf2 H2 R2 s2 r2 q2 => k y d Hf2 H2 R2 (s1.trans s2) r2 q2) (kx.mono s1))
    | false => exact iteF (k _ _ Hf1 H1 R1 s1 (.bl false) q1)
  | _ => exact False.elim q1
theorem ev_or {rest : List Expr} (h : Ev G X Wx a ga) (h2 : Ev G X Wx (.BoolOp .Or (b :: rest) pos) gb) : Ev G X Wx (.BoolOp .Or (a :: b :: rest) pos) (orV ga gb) := by
  obtain ⟨ta, pa, ea⟩ := h.ex
  obtain ⟨tb, pb, eb⟩ := h2.ex
  refine ⟨_, pe_or pa pb, ?_⟩
  intro B ρ σ F Hf H Q' E' Q R q k kx
  refine ea B ρ σ F Hf H _ E' _ R q (fun v d Hf1 H1 R1 s1 r1 q1 => ?_) kx
  cases r1 with
  | bl x =>
    refine ⟨x, rfl, ?_⟩
    cases x with
    | false => exact iteF (eb B ρ σ F Hf1 H1 Q' E' Q R1 q1 (fun y d Hf2 H2 R2 s2 r2 q2 => k y d Hf2 H2 R2 (s1.trans s2) r2 q2) (kx.mono s1))
    | true => exact iteT (k _ _ Hf1 H1 R1 s1 (.bl true) q1)
  | _ => exact False.elim q1
theorem ev_not (h : Ev G X Wx a ga) : Ev G X Wx (.UnaryOp .Not a pos) (notV ga) := by
  obtain ⟨ta, pa, ea⟩ := h.ex
  refine ⟨_, pe_not pa, ?_⟩
  intro B ρ σ F Hf H Q' E' Q R q k kx
  refine ea B ρ σ F Hf H _ E' _ R q (fun v d Hf1 H1 R1 s1 r1 q1 => ?_) kx
  cases r1 with
  | bl x => exact ⟨x, rfl, k _ _ Hf1 H1 R1 s1 (.bl _) q1⟩
  | _ => exact False.elim q1
/-- a conditional expression -/
def iteV (c : Env → W Bool) (f g : Env → W D) : Env → W D := fun ρ => do let x ← c ρ; if x = true then f ρ else g ρ
theorem ev_ite (h : Eb G X Wx c bc) (h1 : Ev G X Wx a ga) (h2 : Ev G X Wx b gb) : Ev G X Wx (.IfExp c a b pos) (iteV bc ga gb) := by
  obtain ⟨tc, pc, ec⟩ := h.ex
  obtain ⟨ta, pa, ea⟩ := h1.ex
  obtain ⟨tb, pb, eb⟩ := h2.ex
  refine ⟨_, pe_ifExp pc pa pb, ?_⟩
  intro B ρ σ F Hf H Q' E' Q R q k kx
  refine ec B ρ σ F Hf H _ E' _ R q (fun x Hf1 H1 R1 s1 q1 => ?_) kx
  cases x with
  | true => exact iteT (ea B ρ σ F Hf1 H1 Q' E' Q R1 q1 (fun y d Hf2 H2 R2 s2 r2 q2 => k y d Hf2 H2 R2 (s1.trans s2) r2 q2) (kx.mono s1))
  | false => exact iteF (eb B ρ σ F Hf1 H1 Q' E' Q R1 q1 (fun y d Hf2 H2 R2 s2 r2 q2 => k y d Hf2 H2 R2 (s1.trans s2) r2 q2) (kx.mono s1))

/-! argument lists, displays -/
theorem ea_nil : Ea G X Wx [] (fun _ => W.pure []) := ⟨_, pa_nil, fun B ρ σ F Hf H Q' E' Q R q k kx => k [] [] Hf H R (Nx.refl) .nil q⟩
def consA (f : Env → W D) (g : Env → W (List D)) : Env → W (List D) := fun ρ => do let x ← f ρ; let xs ← g ρ; W.pure (x :: xs)
theorem ea_cons {gs : Env → W (List D)} (h : Ev G X Wx e g) (hr : Ea G X Wx es gs) (hs : starEach (e :: es) X.env = (false, eval e X.env) :: starEach es X.env := by rfl) : Ea G X Wx (e :: es) (consA g gs) := by
  obtain ⟨ta, pa, ea⟩ := h.ex
  obtain ⟨tb, pb, eb⟩ := hr.ex
  refine ⟨_, pa_cons pa pb hs, ?_⟩
  intro B ρ σ F Hf H Q' E' Q R q k kx
  refine ea B ρ σ F Hf H _ E' _ R q (fun v d Hf1 H1 R1 s1 r1 q1 => ?_) kx
  exact eb B ρ σ F Hf1 H1 _ E' _ R1 q1 (fun vs ds Hf2 H2 R2 s2 r2 q2 => k _ _ Hf2 H2 R2 (s1.trans s2) (.cons (r1.mono s2.sm) r2) q2) (kx.mono s1)
def starA (f : Env → W D) (g : Env → W (List D)) : Env → W (List D) := fun ρ => do
  let x ← f ρ
  match x with
  | .lst ds => do let xs ← g ρ; W.pure (ds ++ xs)
  | .tup ds => do let xs ← g ρ; W.pure (ds ++ xs)
  | _ => W.fail
def dispL (f : List D → D) (g : Env → W (List D)) : Env → W D := fun ρ => do let xs ← g ρ; W.need (xs.length ≤ sizeLine) (W.pure (f xs))
theorem ev_tup {x1} {gs : Env → W (List D)} (h : Ea G X Wx es gs) : Ev G X Wx (.Tuple es x1 pos) (dispL D.tup gs) := by
  obtain ⟨ta, pa, ea⟩ := h.ex
  refine ⟨_, pe_tup pa, ?_⟩
  intro B ρ σ F Hf H Q' E' Q R q k kx
  refine ea B ρ σ F Hf H _ E' _ R q (fun vs ds Hf1 H1 R1 s1 r1 q1 => ⟨by rw [r1.length]; exact q1.1, fun p hp => ?_⟩) kx
  have s2 : Nx ρ σ Hf1 H1 (upd Hf1 p (.tup vs)) (upd H1 p (.tup vs)) := Nx.new R1.sm hp
  exact k _ _ _ _ (R1.new hp) (s1.trans s2) (.tup upd_same (r1.mono s2.sm)) q1.2
theorem ev_lst {gs : Env → W (List D)} (h : Ea G X Wx es gs) : Ev G X Wx (.List es pos) (dispL D.lst gs) := by
  obtain ⟨ta, pa, ea⟩ := h.ex
  refine ⟨_, pe_lst pa, ?_⟩
  intro B ρ σ F Hf H Q' E' Q R q k kx
  refine ea B ρ σ F Hf H _ E' _ R q (fun vs ds Hf1 H1 R1 s1 r1 q1 => ⟨by rw [r1.length]; exact q1.1, fun p hp => ?_⟩) kx
  have s2 : Nx ρ σ Hf1 H1 (upd Hf1 p (.lst vs)) (upd H1 p (.lst vs)) := Nx.new R1.sm hp
  exact k _ _ _ _ (R1.new hp) (s1.trans s2) (.lst upd_same (r1.mono s2.sm)) q1.2
end
end QL

set_option Elab.async false
set_option linter.all false
set_option maxRecDepth 100000
set_option maxHeartbeats 2000000
namespace QL
open PySem L2

/-! ### operations on ints, lists, tuples -/
section
open PySem.Spec PyProof.Rows
theorem tuple_once (l : Addr) (its : Array Value) (n : Nat) (dd : Option Addr) (sl : Array (Option Value)) (u : Tok) :
    Meets (Builtin.«tuple.__mul__» ⟨[.ref l, .int 1 u], []⟩) (fun _ R s => s.heap.get? l = some { cls := .type "tuple", dict := dd, data := .seq its n, slots := sl } ∧ R (.ok (.ret (.ref l))) s) :=
  .of_wp fun prog w A R s h => by
    obtain ⟨hp, g, d, tk, os⟩ := s
    obtain ⟨hg, h⟩ := h
    have idx := AutoSeq1.idx_int
    have one : (its.isEmpty || (1 : Int) == 1) = true := by cases its.isEmpty <;> rfl
    wp_walk using wpAny_loadPart' hg
    exact ⟨_, rfl, h⟩
def rOnce (K : PySem.W.Frag) : R2 := fun x y H Q => ∃ l xs, x = .ref l ∧ y = .int 1 ∧ SqT K H l xs ∧ Q (.ref l) H
theorem op_once {X : Cx} : OpR X (binaryOp .Mult) (rOnce X.K) := by
  intro pins s σ H x y v u Q I rx ry h
  obtain ⟨l, xs, rfl, rfl, hT, q⟩ := h
  cases rx
  obtain ⟨t, rfl⟩ := ry
  obtain ⟨its, r, ⟨⟨cls, dd, data, sl⟩, ho, hc, n, hd⟩, hs⟩ := I.tuple hT
  simp only at hc hd
  subst hc hd
  have isT : s.TypeIs (.ref l) "tuple" := ⟨_, ho, rfl⟩
  have fin : EP X pins σ Q (.ref l) s := ⟨.ref l, H, I, rfl, q⟩
  refine wpAny_binaryOp_repeat_ref (T := "tuple") (hTU := by decide) (ha := isT) (hn := fun s' => typeIs_int s' 1 t)
    (hfT := noFill_tuple_mul) (hfU := F.fills_int_mul) (hr := F.slot_int_rmul) (hrep := repeat_tuple) (hix := F.slot_int_index.lookup) (hc := ?_)
  refine call_meets (slot := F.slot_int_rmul) (hT := typeIs_int s 1 t) (entry := F.entry_int_rmul) (args := F.args_int_rmul_2 _ _)
    (g := int_rmul_tuple 1 t l its.toArray n dd sl) (h := ⟨ho, rfl, isT, ?_⟩)
  exact call_meets (slot := F.slot_tuple_mul) (hT := isT) (entry := F.entry_tuple_mul) (args := F.args_tuple_mul_2 _ _)
    (g := tuple_once l its.toArray n dd sl t) (h := ⟨ho, fin⟩)
end
def addD : D → D → W D
  | .int i, .int j => W.pure (.int (i + j))
  | .lst a, .lst b => W.need (a.length + b.length ≤ sizeLine) (W.pure (.lst (a ++ b)))
  | .tup a, .tup b => W.need (a.length + b.length ≤ sizeLine) (W.pure (.tup (a ++ b)))
  | _, _ => W.fail
def subD : D → D → W D
  | .int i, .int j => W.pure (.int (i - j))
  | _, _ => W.fail
def mulD : D → D → W D
  | .int i, .int j => W.need (CMul i j ∨ CMulW i j) (W.pure (.int (i * j)))
  | .lst a, .int k => W.need (-(2 ^ 63) ≤ k ∧ k < 2 ^ 63 ∧ a.length * k.toNat ≤ sizeLine) (W.pure (.lst (List.replicate k.toNat a).flatten))
  | .tup a, .int k => W.need (k = 1 ∨ (a ≠ [] ∧ 2 ≤ k ∧ k ≤ 1000 ∧ a.length ≤ 1000)) (W.pure (.tup (List.replicate k.toNat a).flatten))
  | _, _ => W.fail
def divD : D → D → W D
  | .int i, .int j => W.need (CDiv i j ∨ CDivW i j) (W.pure (.int (i / j)))
  | _, _ => W.fail
def modD : D → D → W D
  | .int i, .int j => W.need (0 < j) (W.pure (.int (i % j)))
  | _, _ => W.fail
def powD : D → D → W D
  | .int i, .int j => W.need (CPow i j) (W.pure (.int (i ^ j.toNat)))
  | _, _ => W.fail
def cmpD (f : Int → Int → Bool) : D → D → W D
  | .int i, .int j => W.pure (.bl (f i j))
  | _, _ => W.fail
def ltD := cmpD fun i j => decide (i < j)
def leD := cmpD fun i j => decide (i ≤ j)
def gtD := cmpD fun i j => decide (j < i)
def geD := cmpD fun i j => decide (j ≤ i)

section
variable {G : Ctx} {cn : Nat → Addr} {H : Hp}
/-- to split a product of two data -/
theorem rI0_op {g : Int → Int → V} {gd : Int → Int → D} {f : D → D → W D} (hg : ∀ i j H, Rp G.cn H (g i j) (gd i j)) (hf : ∀ a b Q E, f a b Q E → ∃ i j, a = .int i ∧ b = .int j ∧ Q (gd i j)) : Op2 G (rI0 g) f := by
  intro B ρ σ F Hf H x y a b Q' E' Q R rx ry q k
  obtain ⟨i, j, e1, e2, q2⟩ := hf _ _ _ _ q
  subst e1 e2
  cases rx
  cases ry
  exact ⟨i, j, rfl, rfl, k _ _ Hf H R Nx.refl (hg i j _) q2⟩
theorem rI_op {C : Int → Int → Prop} {g : Int → Int → V} {gd : Int → Int → D} {f : D → D → W D} (hg : ∀ i j H, Rp G.cn H (g i j) (gd i j)) (hf : ∀ a b Q E, f a b Q E → ∃ i j, a = .int i ∧ b = .int j ∧ C i j ∧ Q (gd i j)) : Op2 G (rI C g) f := by
  intro B ρ σ F Hf H x y a b Q' E' Q R rx ry q k
  obtain ⟨i, j, e1, e2, c, q2⟩ := hf _ _ _ _ q
  subst e1 e2
  cases rx
  cases ry
  exact ⟨i, j, rfl, rfl, c, k _ _ Hf H R Nx.refl (hg i j _) q2⟩
theorem o_sub : Op2 G (rI0 fun i j => .int (i - j)) subD := rI0_op (gd := fun i j => .int (i - j)) (fun _ _ _ => .int _) fun a b Q E q => by
  cases a <;> cases b <;> first | exact ⟨_, _, rfl, rfl, q⟩ | exact q.elim
theorem o_mod : Op2 G (rI (fun _ j => 0 < j) fun i j => .int (i % j)) modD := rI_op (gd := fun i j => .int (i % j)) (fun _ _ _ => .int _) fun a b Q E q => by
  cases a <;> cases b <;> first | exact ⟨_, _, rfl, rfl, q.1, q.2⟩ | exact q.elim
theorem o_pow : Op2 G (rI CPow fun i j => .int (i ^ j.toNat)) powD := rI_op (gd := fun i j => .int (i ^ j.toNat)) (fun _ _ _ => .int _) fun a b Q E q => by
  cases a <;> cases b <;> first | exact ⟨_, _, rfl, rfl, q.1, q.2⟩ | exact q.elim
theorem o_cmp {f : Int → Int → Bool} : Op2 G (rI0 fun i j => .bl (f i j)) (cmpD f) := rI0_op (gd := fun i j => .bl (f i j)) (fun _ _ _ => .bl _) fun a b Q E q => by
  cases a <;> cases b <;> first | exact ⟨_, _, rfl, rfl, q⟩ | exact q.elim
abbrev rDiv : R2 := rOr (rI CDiv fun i j => .int (i / j)) (rI CDivW fun i j => .int (i / j))
theorem op_divs {X : Cx} : OpR X (binaryOp .FloorDiv) rDiv := op_or2 op_fdiv op_fdivW
theorem o_div : Op2 G rDiv divD := by
  intro B ρ σ F Hf H x y a b Q' E' Q R rx ry q k
  cases a <;> cases b <;> first | exact q.elim | skip
  rename_i i j
  cases rx
  cases ry
  obtain ⟨c, q⟩ := q
  rcases c with c | c
  · exact .inl ⟨i, j, rfl, rfl, c, k _ _ Hf H R Nx.refl (.int _) q⟩
  · exact .inr ⟨i, j, rfl, rfl, c, k _ _ Hf H R Nx.refl (.int _) q⟩
abbrev rAddX (K : PySem.W.Frag) : R2 := rOr (rI0 fun i j => .int (i + j)) (rOr rCat (rCatA K))
theorem op_adds {X : Cx} : OpR X (binaryOp .Add) (rAddX X.K) := op_or2 op_add (op_or2 op_cat op_catA)
theorem o_add : Op2 G (rAddX G.K) addD := by
  intro B ρ σ F Hf H x y a b Q' E' Q R rx ry q k
  cases a <;> cases b <;> first | exact False.elim q | skip
  · rename_i i j
    cases rx
    cases ry
    exact .inl ⟨i, j, rfl, rfl, k _ _ Hf H R Nx.refl (.int _) q⟩
  · cases rx with
    | lst h1 r1 =>
      cases ry with
      | lst h2 r2 =>
        obtain ⟨c, q⟩ := q
        exact .inr (.inl ⟨_, _, _, _, rfl, rfl, R.sm _ _ h1, R.sm _ _ h2, by rw [r1.length, r2.length]; exact c, fun p hp =>
          k _ _ _ _ (R.new hp) (Nx.new R.sm hp) (.lst upd_same ((r1.append r2).mono (Sm.new (R.sm.free hp)))) q⟩)
  · cases rx with
    | tup h1 r1 =>
      cases ry with
      | tup h2 r2 =>
        obtain ⟨c, q⟩ := q
        have q : Q' (.tup _) := q
        refine .inr (.inr ⟨_, _, _, _, rfl, rfl, SqT.of (R.sm _ _ h1), SqT.of (R.sm _ _ h2), by rw [r1.length, r2.length]; exact c, fun e => ?_, fun _ e => ?_, fun _ _ p hp =>
          k _ _ _ _ (R.new hp) (Nx.new R.sm hp) (.tup upd_same ((r1.append r2).mono (Sm.new (R.sm.free hp)))) q⟩)
        · subst e
          cases r1
          exact k _ _ Hf H R Nx.refl (.tup h2 r2) q
        · subst e
          cases r2
          rw [List.append_nil] at q
          exact k _ _ Hf H R Nx.refl (.tup h1 r1) q
abbrev rMulX (K : PySem.W.Frag) : R2 := rOr (rOr (rI CMul fun i j => .int (i * j)) (rI CMulW fun i j => .int (i * j))) (rOr rRep (rOr (rRepT K) (rOnce K)))
theorem op_muls {X : Cx} : OpR X (binaryOp .Mult) (rMulX X.K) := op_or2 (op_or2 op_mul op_mulW) (op_or2 op_rep (op_or2 op_repT op_once))
theorem Rps.rep {vs : List V} {ds : List D} (r : Rps cn H vs ds) : ∀ n : Nat, Rps cn H (List.replicate n vs).flatten (List.replicate n ds).flatten
  | 0 => .nil
  | n + 1 => by rw [List.replicate_succ, List.replicate_succ, List.flatten_cons, List.flatten_cons]; exact r.append (Rps.rep r n)
theorem rep_one {ds : List D} : (List.replicate (1 : Int).toNat ds).flatten = ds := by simp
theorem o_mul : Op2 G (rMulX G.K) mulD := by
  intro B ρ σ F Hf H x y a b Q' E' Q R rx ry q k
  cases a <;> cases b <;> first | exact False.elim q | skip
  · rename_i i j
    cases rx
    cases ry
    obtain ⟨c, q⟩ := q
    rcases c with c | c
    · exact .inl (.inl ⟨i, j, rfl, rfl, c, k _ _ Hf H R Nx.refl (.int _) q⟩)
    · exact .inl (.inr ⟨i, j, rfl, rfl, c, k _ _ Hf H R Nx.refl (.int _) q⟩)
  · cases rx with
    | lst h1 r1 =>
      cases ry
      obtain ⟨⟨c1, c2, c3⟩, q⟩ := q
      exact .inr (.inl ⟨_, _, _, rfl, rfl, R.sm _ _ h1, c1, c2, by rw [r1.length]; exact c3, fun p hp =>
          k _ _ _ _ (R.new hp) (Nx.new R.sm hp) (.lst upd_same ((r1.rep _).mono (Sm.new (R.sm.free hp)))) q⟩)
  · cases rx with
    | tup h1 r1 =>
      cases ry
      obtain ⟨c, q⟩ := q
      have q : Q' (D.tup (List.replicate _ _).flatten) := q
      rcases c with c | ⟨c0, c1, c2, c3⟩
      · subst c
        rw [rep_one] at q
        exact .inr (.inr (.inr ⟨_, _, rfl, rfl, SqT.of (R.sm _ _ h1), k _ _ Hf H R Nx.refl (.tup h1 r1) q⟩))
      · exact .inr (.inr (.inl ⟨_, _, _, rfl, rfl, SqT.of (R.sm _ _ h1), (fun e => by subst e; cases r1; exact c0 rfl), c1, c2, by rw [r1.length]; exact c3, fun p hp =>
          k _ _ _ _ (R.new hp) (Nx.new R.sm hp) (.tup upd_same ((r1.rep _).mono (Sm.new (R.sm.free hp)))) q⟩))
def negD : D → W D
  | .int i => W.pure (.int (-i))
  | _ => W.fail
theorem o_neg : Op1 G (rU fun i => .int (-i)) negD := by
  intro B ρ σ F Hf H x a Q' E' Q R rx q k
  cases a <;> first | exact False.elim q | skip
  cases rx
  exact ⟨_, rfl, k _ _ Hf H R Nx.refl (.int _) q⟩

/-! ### == -/
mutual
def toPy : D → Option PyData
  | .non => some .none
  | .bl b => some (.bool b)
  | .int i => some (.int i)
  | .str x => some (.str x)
  | .lst xs => (toPys xs).map .list
  | .tup xs => (toPys xs).map .tuple
  | .ins _ _ => none
  | .dK _ => none
  | .dT _ => none
def toPys : List D → Option (List PyData)
  | [] => some []
  | d :: ds => (toPy d).bind fun x => (toPys ds).map fun xs => x :: xs
end
mutual
theorem Rp.dp (K : PySem.W.Frag) {Hf : Hp} (s : Same Hf H) : ∀ {v : V} {d : D} {x : PyData}, Rp cn Hf v d → toPy d = some x → Dp K H v x
  | _, _, _, .non, e => by simp only [toPy, Option.some.injEq] at e; subst e; exact .non
  | _, _, _, .bl b, e => by simp only [toPy, Option.some.injEq] at e; subst e; exact .bl b
  | _, _, _, .int i, e => by simp only [toPy, Option.some.injEq] at e; subst e; exact .int i
  | _, _, _, .str x, e => by simp only [toPy, Option.some.injEq] at e; subst e; exact .str x
  | _, _, _, .lst h r, e => by
    simp only [toPy, Option.map_eq_some_iff] at e
    obtain ⟨xs, e, rfl⟩ := e
    exact .lst (SqL.of (s _ _ h)) (Rps.dp K s r e)
  | _, _, _, .tup h r, e => by
    simp only [toPy, Option.map_eq_some_iff] at e
    obtain ⟨xs, e, rfl⟩ := e
    exact .tup (SqT.of (s _ _ h)) (Rps.dp K s r e)
  | _, _, _, .ins h r, e => by simp [toPy] at e
  | _, _, _, .dK h r, e => by simp [toPy] at e
  | _, _, _, .dT h r, e => by simp [toPy] at e
theorem Rps.dp (K : PySem.W.Frag) {Hf : Hp} (s : Same Hf H) : ∀ {vs : List V} {ds : List D} {xs : List PyData}, Rps cn Hf vs ds → toPys ds = some xs → DpAll K H vs xs
  | _, _, _, .nil, e => by simp only [toPys, Option.some.injEq] at e; subst e; exact .nil
  | _, _, _, .cons r t, e => by
    simp only [toPys, Option.bind_eq_some_iff, Option.map_eq_some_iff] at e
    obtain ⟨x, e1, xs, e2, rfl⟩ := e
    exact .cons (Rp.dp K s r e1) (Rps.dp K s t e2)
end
def eqD (a b : D) : W D := fun Q _ => ∃ x y, toPy a = some x ∧ toPy b = some y ∧ SeqAt.shaped x = true ∧ SeqAt.shaped y = true ∧ Q (.bl (PyData.eqv x y))
def neD (a b : D) : W D := fun Q _ => ∃ x y, toPy a = some x ∧ toPy b = some y ∧ SeqAt.shaped x = true ∧ SeqAt.shaped y = true ∧ Q (.bl (!PyData.eqv x y))
theorem o_eq : Op2 G (rEqD G.K) eqD := by
  intro B ρ σ F Hf H x y a b Q' E' Q R rx ry q k
  obtain ⟨x', y', e1, e2, s1, s2, q⟩ := q
  exact ⟨x', y', rx.dp _ R.sm e1, ry.dp _ R.sm e2, s1, s2, k _ _ Hf H R Nx.refl (.bl _) q⟩
theorem o_ne : Op2 G (rNeD G.K) neD := by
  intro B ρ σ F Hf H x y a b Q' E' Q R rx ry q k
  obtain ⟨x', y', e1, e2, s1, s2, q⟩ := q
  exact ⟨x', y', rx.dp _ R.sm e1, ry.dp _ R.sm e2, s1, s2, k _ _ Hf H R Nx.refl (.bl _) q⟩
/-- is True, is False, is not .. -/
def isBD : D → D → W D
  | .bl a, .bl b => W.pure (.bl (decide (a = b)))
  | _, _ => W.fail
def notBD : D → D → W D
  | .bl a, .bl b => W.pure (.bl (!decide (a = b)))
  | _, _ => W.fail
theorem o_isB : Op2 G rIsB isBD := by
  intro B ρ σ F Hf H x y a b Q' E' Q R rx ry q k
  cases a <;> cases b <;> first | exact False.elim q | skip
  cases rx
  cases ry
  exact ⟨_, _, rfl, rfl, k _ _ Hf H R Nx.refl (.bl _) q⟩
theorem o_notB : Op2 G rNotB notBD := by
  intro B ρ σ F Hf H x y a b Q' E' Q R rx ry q k
  cases a <;> cases b <;> first | exact False.elim q | skip
  cases rx
  cases ry
  exact ⟨_, _, rfl, rfl, k _ _ Hf H R Nx.refl (.bl _) q⟩

/-! ### subscripts, slices -/
def ixD : D → D → W D
  | .lst xs, .int i => fun Q _ => ∃ d, atI xs i = some d ∧ Q d
  | .tup xs, .int i => fun Q _ => ∃ d, atI xs i = some d ∧ Q d
  | _, _ => W.fail
theorem Rps.atI {vs : List V} {ds : List D} {i : Int} {d : D} (r : Rps cn H vs ds) (h : L2.atI ds i = some d) : ∃ v, L2.atI vs i = some v ∧ Rp cn H v d := by
  unfold L2.atI at h ⊢
  rw [r.length]
  cases e : ixN ds.length i with
  | none => rw [e] at h; cases h
  | some j =>
    rw [e] at h
    obtain ⟨v, h1, h2⟩ := r.get (i := j) h
    exact ⟨v, h1, h2⟩
theorem op_ix {X : Cx} : IxR X (rOr (rIxL X.K) (rIxT X.K)) := IxR.or ix_list ix_tup
theorem o_ix : Op2 G (rOr (rIxL G.K) (rIxT G.K)) ixD := by
  intro B ρ σ F Hf H x y a b Q' E' Q R rx ry q k
  cases a <;> cases b <;> first | exact False.elim q | skip
  · cases ry
    cases rx with
    | lst h r =>
      obtain ⟨d, e, q⟩ := q
      obtain ⟨v, e1, r1⟩ := r.atI e
      exact .inl ⟨_, _, _, v, rfl, rfl, SqL.of (R.sm _ _ h), e1, k _ _ Hf H R Nx.refl r1 q⟩
  · cases ry
    cases rx with
    | tup h r =>
      obtain ⟨d, e, q⟩ := q
      obtain ⟨v, e1, r1⟩ := r.atI e
      exact .inr ⟨_, _, _, v, rfl, rfl, SqT.of (R.sm _ _ h), e1, k _ _ Hf H R Nx.refl r1 q⟩
def cutD (xs : List D) (lo hi : Option Int) : List D := (xs.drop (HT.sIx xs.length 0 lo)).take (HT.sIx xs.length xs.length hi - HT.sIx xs.length 0 lo)
theorem Rps.cut {vs : List V} {ds : List D} (r : Rps cn H vs ds) (lo hi : Option Int) : Rps cn H (cutV vs lo hi) (cutD ds lo hi) := by
  unfold cutV cutD
  rw [r.length]
  exact (r.drop _).take _
def optD : Option D → W (Option Int)
  | none => W.pure none
  | some (.int i) => W.pure (some i)
  | _ => W.fail
/-- an optional part of a slice -/
def EoT (G : Ctx) (Wx : WX) (t : TO) (g : Env → W (Option Int)) : Prop :=
  ∀ (B : Bs) (ρ : Env) (σ : St) (F : Fps) (Hf H : Hp) (Q' : Option Int → Prop) (E' : Xc → Prop) (Q : Option Int → Hp → Prop), Rep G B ρ σ F Hf H → g ρ Q' E' →
    (∀ o Hf' H', Rep G B ρ σ F Hf' H' → Nx ρ σ Hf H Hf' H' → Q' o → Q o H') → XPost G Wx σ F Hf H B ρ E' → t σ H Q
structure Eo (G : Ctx) (X : Cx) (Wx : WX) (e : Option Expr) (g : Env → W (Option Int)) : Prop where
  ex : ∃ t, PO X e t ∧ EoT G Wx t g
end
section
variable {G : Ctx} {X : Cx} {Wx : WX} {a b c e l : Expr} {es : List Expr} {ga gb gc g : Env → W D} {pos p2 : Pos}
def intO (g : Env → W D) : Env → W (Option Int) := fun ρ => do let d ← g ρ; (match d with | .int i => W.pure (some i) | _ => W.fail)
theorem eo_none : Eo G X Wx none (fun _ => W.pure none) := ⟨_, po_none, fun B ρ σ F Hf H Q' E' Q R q k kx => k none Hf H R Nx.refl q⟩
theorem eo_some (h : Ev G X Wx e g) : Eo G X Wx (some e) (intO g) := by
  obtain ⟨t, p, ev⟩ := h.ex
  refine ⟨_, po_some p, ?_⟩
  intro B ρ σ F Hf H Q' E' Q R q k kx
  refine ev B ρ σ F Hf H _ E' _ R q (fun v d Hf1 H1 R1 s1 r1 q1 => ?_) kx
  cases r1 with
  | int i => exact ⟨i, rfl, k (some i) Hf1 H1 R1 s1 q1⟩
  | _ => exact False.elim q1
def slL (g : Env → W D) (lo hi : Env → W (Option Int)) : Env → W D := fun ρ => do
  let d ← g ρ
  let i ← lo ρ
  let j ← hi ρ
  match d with
  | .lst xs => W.pure (.lst (cutD xs i j))
  | _ => W.fail
theorem ev_sliceL {lo hi : Option Expr} {gl gh : Env → W (Option Int)} (h : Ev G X Wx e g) (h1 : Eo G X Wx lo gl) (h2 : Eo G X Wx hi gh) (hK : X.K = G.K) : Ev G X Wx (.Subscript e (.Slice lo hi none p2) pos) (slL g gl gh) := by
  obtain ⟨t, p, ev⟩ := h.ex
  obtain ⟨t1, p1, e1⟩ := h1.ex
  obtain ⟨t2, p3, e2⟩ := h2.ex
  refine ⟨_, pe_slice sl_list p p1 p3, ?_⟩
  intro B ρ σ F Hf H Q' E' Q R q k kx
  refine ev B ρ σ F Hf H _ E' _ R q (fun v d Hf1 H1 R1 s1 r1 q1 => ?_) kx
  refine e1 B ρ σ F Hf1 H1 _ E' _ R1 q1 (fun i Hf2 H2 R2 s2 q2 => ?_) (kx.mono s1)
  refine e2 B ρ σ F Hf2 H2 _ E' _ R2 q2 (fun j Hf3 H3 R3 s3 q3 => ?_) ((kx.mono s1).mono s2)
  have r3 := (r1.mono s2.sm).mono s3.sm
  cases r3 with
  | lst hx r =>
    exact ⟨_, _, rfl, SqL.of (R3.sm _ _ hx), fun p hp => k _ _ _ _ (R3.new hp) (((s1.trans s2).trans s3).trans (Nx.new R3.sm hp)) (.lst upd_same ((r.cut i j).mono (Sm.new (R3.sm.free hp)))) q3⟩
  | _ => exact False.elim q3
theorem ev_ix (ha : Ev G X Wx a ga) (hb : Ev G X Wx b gb) (hK : X.K = G.K) (hs : PlainIx b) : Ev G X Wx (.Subscript a b pos) (bin2 ixD ga gb) := by
  obtain ⟨ta, pa, ea⟩ := ha.ex
  obtain ⟨tb, pb, eb⟩ := hb.ex
  exact ⟨_, pe_ix op_ix pa pb hs, evt_op (hK ▸ o_ix) ea eb⟩
def un1 (f : D → W D) (g : Env → W D) : Env → W D := fun ρ => do let x ← g ρ; f x
theorem ev_un {op : UnaryOp} {r : V → Hp → VK → Prop} {f : D → W D} (hr : UnR X (unaryOp op) r) (ho : Op1 G r f) (ha : Ev G X Wx a ga) : Ev G X Wx (.UnaryOp op a pos) (un1 f ga) := by
  obtain ⟨ta, pa, ea⟩ := ha.ex
  refine ⟨_, pe_un hr pa, ?_⟩
  intro B ρ σ F Hf H Q' E' Q R q k kx
  refine ea B ρ σ F Hf H _ E' _ R q (fun v d Hf1 H1 R1 s1 r1 q1 => ?_) kx
  exact ho B ρ σ F Hf1 H1 v d Q' E' Q R1 r1 q1 fun w z Hf2 H2 R2 s2 r2 q2 => k w z Hf2 H2 R2 (s1.trans s2) r2 q2

/-! ### calls of built-ins -/
def callN (f : List D → W D) (g : Env → W (List D)) : Env → W D := fun ρ => do let xs ← g ρ; f xs
theorem evt_call {r : List V → Hp → VK → Prop} {f : List D → W D} {t : TA} {gs : Env → W (List D)} (ho : OpN G r f) (ha : EaT G Wx t gs) : EvT G Wx (tCB r t) (callN f gs) := by
  intro B ρ σ F Hf H Q' E' Q R q k kx
  refine ha B ρ σ F Hf H _ E' _ R q (fun vs ds Hf1 H1 R1 s1 r1 q1 => ?_) kx
  exact ho B ρ σ F Hf1 H1 vs ds Q' E' Q R1 r1 q1 fun w z Hf2 H2 R2 s2 r2 q2 => k w z Hf2 H2 R2 (s1.trans s2) r2 q2
theorem ev_callB {x : Str} {p : Pos} {id : String} {r : List V → Hp → VK → Prop} {f : List D → W D} {gs : Env → W (List D)} (hc : CallR X (.builtin id) r) (ho : OpN G r f) (hg : Gl X x) (hm : X.mg x = none) (hv : bootBuiltins x = some (.builtin id)) (ha : Ea G X Wx (e :: es) gs)
    (hn : x ≠ "__name__" := by decide) (hdb : (x == ("__debug__" : Str)) = false := by decide)
    (he : starEach (e :: es) X.env = (false, eval e X.env) :: starEach es X.env := by rfl) (hpl : (backTo pos (starEach es X.env)).any (·.1) = false := by rfl) : Ev G X Wx (.Call (.Name x p) (e :: es) [] pos) (callN f gs) := by
  obtain ⟨ta, pa, ea⟩ := ha.ex
  exact ⟨_, pe_callB hc hg hm hv pa hn hdb he hpl, evt_call ho ea⟩
theorem ev_callTy {x : Str} {p : Pos} {T : String} {r : List V → Hp → VK → Prop} {f : List D → W D} {gs : Env → W (List D)} (hc : CallR X (.type T) r) (ho : OpN G r f) (hg : Gl X x) (hm : X.mg x = none) (hv : bootBuiltins x = some (.type T)) (ha : Ea G X Wx (e :: es) gs)
    (hn : x ≠ "__name__" := by decide) (hdb : (x == ("__debug__" : Str)) = false := by decide)
    (he : starEach (e :: es) X.env = (false, eval e X.env) :: starEach es X.env := by rfl) (hpl : (backTo pos (starEach es X.env)).any (·.1) = false := by rfl) : Ev G X Wx (.Call (.Name x p) (e :: es) [] pos) (callN f gs) := by
  obtain ⟨ta, pa, ea⟩ := ha.ex
  exact ⟨_, pe_callTy hc hg hm hv pa hn hdb he hpl, evt_call ho ea⟩

def lenD : List D → W D
  | [.lst xs] => W.pure (.int xs.length)
  | [.tup xs] => W.pure (.int xs.length)
  | _ => W.fail
abbrev rLenX (K : PySem.W.Frag) : List V → Hp → VK → Prop := fun xs H Q => ∃ p ys, xs = [.ref p] ∧ (SqL K H p ys ∨ SqT K H p ys) ∧ Q (.int ys.length) H
theorem o_len : OpN G (rLenX G.K) lenD := by
  intro B ρ σ F Hf H xs as Q' E' Q R r q k
  unfold lenD at q
  split at q
  · cases r with
    | cons r t =>
      cases t
      cases r with
      | lst h r =>
        exact ⟨_, _, rfl, .inl (SqL.of (R.sm _ _ h)), k _ _ Hf H R Nx.refl (by rw [r.length]; exact .int _) q⟩
  · cases r with
    | cons r t =>
      cases t
      cases r with
      | tup h r =>
        exact ⟨_, _, rfl, .inr (SqT.of (R.sm _ _ h)), k _ _ Hf H R Nx.refl (by rw [r.length]; exact .int _) q⟩
  · exact False.elim q
/-- a list of ints, of bools -/
def ints? : List D → Option (List Int)
  | [] => some []
  | .int i :: r => (ints? r).map (i :: ·)
  | _ :: _ => none
def bls? : List D → Option (List Bool)
  | [] => some []
  | .bl i :: r => (bls? r).map (i :: ·)
  | _ :: _ => none
theorem ints_of : ∀ {ds : List D} {ns : List Int}, ints? ds = some ns → ds = ns.map D.int
  | [], ns, e => by simp only [ints?, Option.some.injEq] at e; subst e; rfl
  | .int i :: r, ns, e => by
    simp only [ints?, Option.map_eq_some_iff] at e
    obtain ⟨ms, e, rfl⟩ := e
    rw [ints_of e]; rfl
  | .non :: r, ns, e => by simp [ints?] at e
  | .bl _ :: r, ns, e => by simp [ints?] at e
  | .str _ :: r, ns, e => by simp [ints?] at e
  | .lst _ :: r, ns, e => by simp [ints?] at e
  | .tup _ :: r, ns, e => by simp [ints?] at e
  | .ins _ _ :: r, ns, e => by simp [ints?] at e
  | .dK _ :: r, ns, e => by simp [ints?] at e
  | .dT _ :: r, ns, e => by simp [ints?] at e
theorem ints_map : ∀ ns : List Int, ints? (ns.map D.int) = some ns
  | [] => rfl
  | n :: ns => by simp only [List.map_cons, ints?, ints_map ns, Option.map_some]
theorem bls_of : ∀ {ds : List D} {ns : List Bool}, bls? ds = some ns → ds = ns.map D.bl
  | [], ns, e => by simp only [bls?, Option.some.injEq] at e; subst e; rfl
  | .bl i :: r, ns, e => by
    simp only [bls?, Option.map_eq_some_iff] at e
    obtain ⟨ms, e, rfl⟩ := e
    rw [bls_of e]; rfl
  | .non :: r, ns, e => by simp [bls?] at e
  | .int _ :: r, ns, e => by simp [bls?] at e
  | .str _ :: r, ns, e => by simp [bls?] at e
  | .lst _ :: r, ns, e => by simp [bls?] at e
  | .tup _ :: r, ns, e => by simp [bls?] at e
  | .ins _ _ :: r, ns, e => by simp [bls?] at e
  | .dK _ :: r, ns, e => by simp [bls?] at e
  | .dT _ :: r, ns, e => by simp [bls?] at e
theorem bls_map : ∀ ns : List Bool, bls? (ns.map D.bl) = some ns
  | [] => rfl
  | n :: ns => by simp only [List.map_cons, bls?, bls_map ns, Option.map_some]
def sumD (as : List D) : W D := fun Q _ => ∃ ns : List Int, as = [.lst (ns.map D.int)] ∧ Q (.int ns.sum)
theorem o_sum : OpN G (rSum G.K) sumD := by
  intro B ρ σ F Hf H xs as Q' E' Q R r q k
  obtain ⟨ns, e, q⟩ := q
  subst e
  cases r with
  | cons r t =>
    cases t
    cases r with
    | lst h r =>
      have e := r.ints
      subst e
      exact ⟨_, ns, rfl, SqL.of (R.sm _ _ h), k _ _ Hf H R Nx.refl (.int _) q⟩
def allD (f : List Bool → Bool) (as : List D) : W D := fun Q _ => ∃ ns : List Bool, as = [.lst (ns.map D.bl)] ∧ Q (.bl (f ns))
theorem o_all : OpN G (rAll G.K) (allD fun bs => bs.all id) := by
  intro B ρ σ F Hf H xs as Q' E' Q R r q k
  obtain ⟨ns, e, q⟩ := q
  subst e
  cases r with
  | cons r t =>
    cases t
    cases r with
    | lst h r =>
      have e := r.bls
      subst e
      exact ⟨_, ns, rfl, SqL.of (R.sm _ _ h), k _ _ Hf H R Nx.refl (.bl _) q⟩
theorem o_any : OpN G (rAny G.K) (allD fun bs => bs.any id) := by
  intro B ρ σ F Hf H xs as Q' E' Q R r q k
  obtain ⟨ns, e, q⟩ := q
  subst e
  cases r with
  | cons r t =>
    cases t
    cases r with
    | lst h r =>
      have e := r.bls
      subst e
      exact ⟨_, ns, rfl, SqL.of (R.sm _ _ h), k _ _ Hf H R Nx.refl (.bl _) q⟩
def absD : List D → W D
  | [.int i] => W.pure (.int (if i < 0 then -i else i))
  | _ => W.fail
theorem o_abs : OpN G (fun xs H Q => ∃ i, xs = [.int i] ∧ Q (.int (if i < 0 then -i else i)) H) absD := by
  intro B ρ σ F Hf H xs as Q' E' Q R r q k
  unfold absD at q
  split at q
  · cases r with
    | cons r t =>
      cases t
      cases r
      exact ⟨_, rfl, k _ _ Hf H R Nx.refl (.int _) q⟩
  · exact False.elim q
def max2D : List D → W D
  | [.int i, .int j] => W.pure (.int (if j > i then j else i))
  | _ => W.fail
def min2D : List D → W D
  | [.int i, .int j] => W.pure (.int (if j < i then j else i))
  | _ => W.fail
theorem o_max2 : OpN G (fun xs H Q => ∃ i j, xs = [.int i, .int j] ∧ Q (.int (if j > i then j else i)) H) max2D := by
  intro B ρ σ F Hf H xs as Q' E' Q R r q k
  unfold max2D at q
  split at q
  · cases r with
    | cons r t =>
      cases t with
      | cons r' t =>
        cases t
        cases r
        cases r'
        exact ⟨_, _, rfl, k _ _ Hf H R Nx.refl (.int _) q⟩
  · exact False.elim q
theorem o_min2 : OpN G (fun xs H Q => ∃ i j, xs = [.int i, .int j] ∧ Q (.int (if j < i then j else i)) H) min2D := by
  intro B ρ σ F Hf H xs as Q' E' Q R r q k
  unfold min2D at q
  split at q
  · cases r with
    | cons r t =>
      cases t with
      | cons r' t =>
        cases t
        cases r
        cases r'
        exact ⟨_, _, rfl, k _ _ Hf H R Nx.refl (.int _) q⟩
  · exact False.elim q
def intD : List D → W D
  | [.int i] => W.pure (.int i)
  | [.bl b] => W.pure (.int (if b then 1 else 0))
  | _ => W.fail
theorem o_int : OpN G (fun xs H Q => (∃ i, xs = [.int i] ∧ Q (.int i) H) ∨ ∃ k, xs = [.bl k] ∧ Q (.int (if k then 1 else 0)) H) intD := by
  intro B ρ σ F Hf H xs as Q' E' Q R r q k
  unfold intD at q
  split at q
  · cases r with
    | cons r t =>
      cases t
      cases r
      exact .inl ⟨_, rfl, k _ _ Hf H R Nx.refl (.int _) q⟩
  · cases r with
    | cons r t =>
      cases t
      cases r
      exact .inr ⟨_, rfl, k _ _ Hf H R Nx.refl (.int _) q⟩
  · exact False.elim q
def listD : List D → W D
  | [.lst xs] => W.pure (.lst xs)
  | [.tup xs] => W.pure (.lst xs)
  | _ => W.fail
theorem o_list : OpN G (fun xs H Q => ∃ p ys, xs = [.ref p] ∧ (SqL G.K H p ys ∨ SqT G.K H p ys) ∧ ∀ l, H l = none → Q (.ref l) (upd H l (.lst ys))) listD := by
  intro B ρ σ F Hf H xs as Q' E' Q R r q k
  unfold listD at q
  split at q
  · cases r with
    | cons r t =>
      cases t
      cases r with
      | lst h r => exact ⟨_, _, rfl, .inl (SqL.of (R.sm _ _ h)), fun p hp => k _ _ _ _ (R.new hp) (Nx.new R.sm hp) (.lst upd_same (r.mono (Sm.new (R.sm.free hp)))) q⟩
  · cases r with
    | cons r t =>
      cases t
      cases r with
      | tup h r => exact ⟨_, _, rfl, .inr (SqT.of (R.sm _ _ h)), fun p hp => k _ _ _ _ (R.new hp) (Nx.new R.sm hp) (.lst upd_same (r.mono (Sm.new (R.sm.free hp)))) q⟩
  · exact False.elim q
def tupleD : List D → W D
  | [.lst xs] => W.pure (.tup xs)
  | [.tup xs] => W.pure (.tup xs)
  | _ => W.fail
theorem o_tuple : OpN G (fun xs H Q => ∃ p ys, xs = [.ref p] ∧ ((SqL G.K H p ys ∧ ∀ l, H l = none → Q (.ref l) (upd H l (.tup ys))) ∨ (SqT G.K H p ys ∧ Q (.ref p) H))) tupleD := by
  intro B ρ σ F Hf H xs as Q' E' Q R r q k
  unfold tupleD at q
  split at q
  · cases r with
    | cons r t =>
      cases t
      cases r with
      | lst h r => exact ⟨_, _, rfl, .inl ⟨SqL.of (R.sm _ _ h), fun p hp => k _ _ _ _ (R.new hp) (Nx.new R.sm hp) (.tup upd_same (r.mono (Sm.new (R.sm.free hp)))) q⟩⟩
  · cases r with
    | cons r t =>
      cases t
      cases r with
      | tup h r => exact ⟨_, _, rfl, .inr ⟨SqT.of (R.sm _ _ h), k _ _ Hf H R Nx.refl (.tup h r) q⟩⟩
  · exact False.elim q
/-- isinstance(x, T), T a built-in type -/
def tyD : D → Option String
  | .non => some "NoneType" | .bl _ => some "bool" | .int _ => some "int" | .str _ => some "str" | .lst _ => some "list" | .tup _ => some "tuple" | .ins _ _ => none | .dK _ => some "dict" | .dT _ => some "dict"
def isiD (T : String) (d : D) : W D := fun Q _ => ∃ t b, tyD d = some t ∧ kitB t T = some b ∧ Q (.bl b)
/-- what a value's class is, a locked dict's too -/
inductive TyY (K : PySem.W.Frag) (H : Hp) : V → Value → Prop where
  | x {v : V} {t : Value} (h : TyX K H v t) : TyY K H v t
  | fT {a : Addr} {o : Obj} {kvs : List (List Key × V)} (e : H a = some (.frz o (.dT kvs))) : TyY K H (.ref a) (.type "dict")
def rIsiY (K : PySem.W.Frag) : List V → Hp → VK → Prop := fun xs H Q => ∃ (x c : V) (t u : Value) (b : Bool), xs = [x, c] ∧ ClsV c u ∧ TyY K H x t ∧ PySem.W.kitOne K t u = some b ∧ Q (.bl b) H
theorem call_isiY {X : Cx} : CallR X (.builtin "isinstance") (rIsiY X.K) := by
  intro pins s σ H xs us Q I r h
  obtain ⟨x, c, t, u, b, rfl, k, ty, e, q⟩ := h
  cases ty with
  | x ty => exact call_isi pins s σ H _ us Q I r ⟨x, c, t, u, b, rfl, k, ty, e, q⟩
  | @fT a ob kvs ea =>
    obtain ⟨u1, u2, rfl, r1, r2⟩ := vals2 r
    have e2 := k.eq r2
    subst e2
    cases (show u1 = Value.ref a from r1)
    obtain ⟨_, _, _, xs, _, o, es, ep, h1, h2, _⟩ := (show ObjOk X.prog X.w H s.heap a (.frz ob (.dT kvs)) from I.hok a _ ea)
    exact PySem.W.kia_one PySem.W.kitx_dict I.kIn ⟨o, h1, h2.1⟩ e (fun z => nomatch z) fun tk => ⟨.bl b, H, I.tok tk, rfl, q⟩
theorem Rp.ty {K : PySem.W.Frag} {cn : Nat → Addr} {H : Hp} {v : V} {d : D} {t : String} (r : Rp cn H v d) (e : tyD d = some t) : TyY K H v (.type t) := by
  cases r <;> simp only [tyD, Option.some.injEq, reduceCtorEq] at e <;> subst e
  · exact .x (.base .non)
  · exact .x (.base (.bl _))
  · exact .x (.base (.int _))
  · exact .x (.base (.str _))
  · exact .x (.base (.lst (by assumption)))
  · exact .x (.base (.tup (by assumption)))
  · rename_i h _
    rcases h with h | ⟨_, h⟩
    · exact .x (.base (.dK h))
    · exact .x (.fDict h)
  · rename_i h _
    rcases h with h | ⟨_, h⟩
    · exact .x (.base (.dT h))
    · exact .fT h
theorem ev_isi {T : String} {p : Pos} {te : Expr} (hT : PE X te (tC (.ty T))) (ha : Ev G X Wx e g) (hK : X.K = G.K) (hg : Gl X "isinstance") (hm : X.mg "isinstance" = none)
    (he : starEach (e :: [te]) X.env = (false, eval e X.env) :: starEach [te] X.env := by rfl) (he2 : starEach (te :: []) X.env = (false, eval te X.env) :: starEach [] X.env := by rfl) (hpl : (backTo pos (starEach [te] X.env)).any (·.1) = false := by rfl) :
    Ev G X Wx (.Call (.Name "isinstance" p) [e, te] [] pos) (un1 (isiD T) g) := by
  obtain ⟨ta, pa, ea⟩ := ha.ex
  refine ⟨_, pe_callB call_isiY hg hm (by decide +kernel) (pa_cons pa (pa_cons hT pa_nil he2) he) (by decide) (by decide) he hpl, ?_⟩
  intro B ρ σ F Hf H Q' E' Q R q k kx
  refine ea B ρ σ F Hf H _ E' _ R q (fun v d Hf1 H1 R1 s1 r1 q1 => ?_) kx
  obtain ⟨t, b, e1, e2, q1⟩ := q1
  exact ⟨v, .ty T, .type t, .type T, b, rfl, .ty T, (r1.mono (Sm.of R1.sm)).ty e1, kit_ty e2, k _ _ Hf1 H1 R1 s1 (.bl b) q1⟩
/-- star in a display -/
theorem ea_star {gs : Env → W (List D)} {p : Pos} (h : Ev G X Wx e g) (hr : Ea G X Wx es gs) (hs : starEach (.Starred e p :: es) X.env = (true, eval e X.env) :: starEach es X.env := by rfl) : Ea G X Wx (.Starred e p :: es) (starA g gs) := by
  obtain ⟨ta, pa, ea⟩ := h.ex
  obtain ⟨tb, pb, eb⟩ := hr.ex
  refine ⟨_, StX.pa_star pa pb hs, ?_⟩
  intro B ρ σ F Hf H Q' E' Q R q k kx
  refine ea B ρ σ F Hf H _ E' _ R q (fun v d Hf1 H1 R1 s1 r1 q1 => ?_) kx
  cases r1 with
  | lst h r =>
    refine ⟨_, _, rfl, .inr (SqL.of (R1.sm _ _ h)), ?_⟩
    exact eb B ρ σ F Hf1 H1 _ E' _ R1 q1 (fun vs ds Hf2 H2 R2 s2 r2 q2 => k _ _ Hf2 H2 R2 (s1.trans s2) ((r.mono s2.sm).append r2) q2) (kx.mono s1)
  | tup h r =>
    refine ⟨_, _, rfl, .inl (SqT.of (R1.sm _ _ h)), ?_⟩
    exact eb B ρ σ F Hf1 H1 _ E' _ R1 q1 (fun vs ds Hf2 H2 R2 s2 r2 q2 => k _ _ Hf2 H2 R2 (s1.trans s2) ((r.mono s2.sm).append r2) q2) (kx.mono s1)
  | _ => exact False.elim q1
/-- a field of an instance -/
def fldD (f : Str) : D → W D
  | .ins C fs => fun Q _ => ∃ d, fs.lookup f = some d ∧ Q d
  | _ => W.fail
theorem ev_fld {f : Str} {C : Nat} (ha : Ev G X Wx e g) (hC : Cls X.K (G.cn C)) (hN : NoAttr X.K (G.cn C) f) (hb : attributeBase e f X.env (eval e X.env) = eval e X.env) :
    Ev G X Wx (.Attribute e f pos) (un1 (fun d => W.need (∃ fs, d = .ins C fs) (fldD f d)) g) := by
  obtain ⟨ta, pa, ea⟩ := ha.ex
  refine ⟨_, pe_fld pa hb, ?_⟩
  intro B ρ σ F Hf H Q' E' Q R q k kx
  refine ea B ρ σ F Hf H _ E' _ R q (fun v d Hf1 H1 R1 s1 r1 q1 => ?_) kx
  obtain ⟨⟨fs, rfl⟩, q1⟩ := q1
  obtain ⟨d, e1, q1⟩ := q1
  cases r1 with
  | ins h r =>
    obtain ⟨w, e2, r2⟩ := r.lookup e1
    exact ⟨_, _, _, _, w, rfl, R1.sm _ _ h, hC, hN, e2, k _ _ Hf1 H1 R1 s1 r2 q1⟩
end
end QL

set_option Elab.async false
set_option linter.all false
set_option maxRecDepth 100000
set_option maxHeartbeats 2000000
namespace QL
open PySem L2

def wipeE (ρ : Env) : List Nat → Env
  | [] => ρ
  | v :: vs => (wipeE ρ vs).set v .un
def okW (ρ : Env) (vs : List Nat) : Bool := vs.all fun i => match ρ[i]? with | some s => !s.own | none => true
structure Agree (vs : List Nat) (ρ : Env) (σ : St) (F : Fps) (ρ2 : Env) (σ2 : St) (F2 : Fps) : Prop where
  lr : ρ2.length = ρ.length
  ls : σ2.length = σ.length
  out : ∀ i : Nat, i ∉ vs → ρ2[i]? = ρ[i]? ∧ σ2[i]? = σ[i]?
  ins : ∀ i ∈ vs, ∀ s, ρ2[i]? = some s → s.own = false
  fp : (∀ i ∈ vs, ∀ s, ρ[i]? = some s → s.own = false) → F2 = F
theorem wipe_get {σ : St} {i : Nat} : ∀ {vs : List Nat}, (wipe σ vs)[i]? = if i ∈ vs then (if i < σ.length then some none else none) else σ[i]?
  | [] => by simp [wipe]
  | v :: vs => by
    have ih := wipe_get (σ := σ) (i := i) (vs := vs)
    unfold wipe
    by_cases h : v = i
    · subst h
      by_cases hl : v < σ.length
      · rw [List.getElem?_set_self (by rw [wipe_length]; exact hl)]; simp [hl]
      · rw [List.getElem?_eq_none (by rw [List.length_set, wipe_length]; omega)]; simp [hl]
    · rw [List.getElem?_set_ne h, ih]
      have h2 : i ≠ v := fun z => h z.symm
      simp [h2]
theorem wipeE_len (ρ : Env) : ∀ vs : List Nat, (wipeE ρ vs).length = ρ.length
  | [] => rfl
  | v :: vs => by unfold wipeE; rw [List.length_set, wipeE_len ρ vs]
theorem wipeE_get {ρ : Env} {i : Nat} : ∀ {vs : List Nat}, (wipeE ρ vs)[i]? = if i ∈ vs then (if i < ρ.length then some Sl.un else none) else ρ[i]?
  | [] => by simp [wipeE]
  | v :: vs => by
    have ih := wipeE_get (ρ := ρ) (i := i) (vs := vs)
    unfold wipeE
    by_cases h : v = i
    · subst h
      by_cases hl : v < ρ.length
      · rw [List.getElem?_set_self (by rw [wipeE_len]; exact hl)]; simp [hl]
      · rw [List.getElem?_eq_none (by rw [List.length_set, wipeE_len]; omega)]; simp [hl]
    · rw [List.getElem?_set_ne h, ih]
      have h2 : i ≠ v := fun z => h z.symm
      simp [h2]
theorem Agree.wipe {vs ws : List Nat} {ρ : Env} {σ : St} {F : Fps} {ρ2 : Env} {σ2 : St} {F2 : Fps} (a : Agree vs ρ σ F ρ2 σ2 F2) (h : ∀ i ∈ vs, i ∈ ws) : L2.wipe σ2 ws = L2.wipe σ ws := by
  apply List.ext_getElem?
  intro i
  rw [wipe_get, wipe_get, a.ls]
  by_cases hi : i ∈ ws
  · simp [hi]
  · rw [if_neg hi, if_neg hi]; exact (a.out i fun z => hi (h i z)).2
theorem Agree.refl {vs : List Nat} {ρ : Env} {σ : St} {F : Fps} (h : ∀ i ∈ vs, ∀ s, ρ[i]? = some s → s.own = false) : Agree vs ρ σ F ρ σ F := ⟨rfl, rfl, fun _ _ => ⟨rfl, rfl⟩, h, fun _ => rfl⟩
theorem Agree.trans {vs ws : List Nat} {ρ ρ2 ρ3 : Env} {σ σ2 σ3 : St} {F F2 F3 : Fps} (a : Agree vs ρ σ F ρ2 σ2 F2) (b : Agree ws ρ2 σ2 F2 ρ3 σ3 F3) : Agree (vs ++ ws) ρ σ F ρ3 σ3 F3 :=
  ⟨b.lr.trans a.lr, b.ls.trans a.ls, fun i hi => by
    simp only [List.mem_append, not_or] at hi
    obtain ⟨h1, h2⟩ := a.out i hi.1
    obtain ⟨h3, h4⟩ := b.out i hi.2
    exact ⟨h3.trans h1, h4.trans h2⟩, fun i hi => by
    by_cases hw : i ∈ ws
    · exact b.ins i hw
    · have hv : i ∈ vs := (List.mem_append.mp hi).resolve_right hw
      rw [(b.out i hw).1]
      exact a.ins i hv, fun h => by
    have h1 := a.fp fun i hi => h i (List.mem_append_left _ hi)
    rw [b.fp fun i hi s e => ?_, h1]
    by_cases hv : i ∈ vs
    · exact a.ins i hv s e
    · rw [(a.out i hv).1] at e
      exact h i (List.mem_append_right _ hi) s e⟩
theorem set_nil {F : Fps} {i : Nat} (h : F.getD i [] = []) : F.set i [] = F := by
  apply List.ext_getElem?
  intro j
  by_cases hj : i = j
  · subst hj
    by_cases hl : i < F.length
    · rw [List.getElem?_set_self hl]
      rw [List.getD_eq_getElem?_getD, List.getElem?_eq_getElem hl] at h
      rw [List.getElem?_eq_getElem hl]
      exact congrArg some h.symm
    · rw [List.getElem?_eq_none (by simpa using hl), List.getElem?_eq_none (by omega)]
  · rw [List.getElem?_set_ne hj]
section
variable {G : Ctx} {B : Bs} {ρ ρ2 : Env} {σ σ2 : St} {F F2 : Fps} {Hf H Hf' H' : Hp}
theorem uniq_own {s : Sl} (h : s.own = false) : s.uniq = false := by cases s <;> first | rfl | cases h
theorem Rep.fnil {i : Nat} (R : Rep G B ρ σ F Hf H) (h : ∀ s, ρ[i]? = some s → s.uniq = false) : F.getD i [] = [] := by
  cases e : ρ[i]? with
  | none =>
    rw [List.getD_eq_getElem?_getD, List.getElem?_eq_none (by rw [R.lenF]; exact List.getElem?_eq_none_iff.mp e)]; rfl
  | some s => exact R.un i s e (h s e)
theorem Rep.wiped (R : Rep G B ρ σ F Hf H) : ∀ vs : List Nat, (∀ i ∈ vs, ∀ s, ρ[i]? = some s → s.own = false) → Rep G B (wipeE ρ vs) (L2.wipe σ vs) F Hf H
  | [], _ => R
  | v :: vs, h => by
    have R1 := Rep.wiped R vs fun i hi => h i (List.mem_cons_of_mem _ hi)
    have R2 := R1.setSl (i := v) (s := .un) (x := none) (fun _ => trivial) rfl
    rw [set_nil (R1.fnil fun s e => ?_)] at R2
    · exact R2
    · rw [wipeE_get] at e
      split at e
      · split at e
        · cases e; rfl
        · cases e
      · exact uniq_own (h v (by simp) s e)
/-- from a block's state back to the def's -/
theorem Rep.back (R : Rep G B ρ σ F Hf H) (R2 : Rep G B ρ2 σ2 F Hf' H') (n : Nx ρ σ Hf H Hf' H') (hp : ∀ i : Nat, ρ[i]? = some .pool → ρ2[i]? = some .pool ∧ σ2[i]? = σ[i]?) : Rep G B ρ σ F Hf' H' :=
  ⟨R.len, R.ln, R.lenF, R2.sm, R2.sm0, R2.unf, R2.kp, R2.st, R2.pl, R2.p0, R.nd, R.nw, R.np, fun i s e => (R.sl i s e).mono n.sm (n.stay (fun a ha => R.cell (mem_flat ha)) fun a ha => R.np a (mem_flat ha)) fun p hs hv h1 h2 => by
    subst hs
    obtain ⟨z1, z2⟩ := hp i e
    obtain ⟨a', e1', h1', _, h3'⟩ := R2.sl i _ z1
    rw [z2, hv] at e1'
    cases e1'
    exact ⟨h3', h1'⟩, R.un⟩
end

/-! ### targets -/
def EgT (G : Ctx) (t : TG) (sl : List Nat) (g : D → Env → W Env) : Prop :=
  ∀ (B : Bs) (ρ : Env) (σ : St) (F : Fps) (Hf H : Hp) (v : V) (d : D) (Q' : Env → Prop) (E' : Xc → Prop) (Q : St → Hp → Prop), Rep G B ρ σ F Hf H → Rp G.cn Hf v d → g d ρ Q' E' →
    (∀ ρ' σ' F', Rep G B ρ' σ' F' Hf H → Agree sl ρ σ F ρ' σ' F' → Q' ρ' → Q σ' H) → t v σ H Q
structure Eg (G : Ctx) (X : Cx) (tg : Expr) (sl : List Nat) (g : D → Env → W Env) : Prop where
  ex : ∃ t, PG X tg t ∧ EgT G t sl g
def EgsT (G : Ctx) (t : TGs) (sl : List Nat) (g : List D → Env → W Env) : Prop :=
  ∀ (B : Bs) (ρ : Env) (σ : St) (F : Fps) (Hf H : Hp) (vs : List V) (ds : List D) (Q' : Env → Prop) (E' : Xc → Prop) (Q : St → Hp → Prop), Rep G B ρ σ F Hf H → Rps G.cn Hf vs ds → g ds ρ Q' E' →
    (∀ ρ' σ' F', Rep G B ρ' σ' F' Hf H → Agree sl ρ σ F ρ' σ' F' → Q' ρ' → Q σ' H) → t vs σ H Q
structure Egs (G : Ctx) (X : Cx) (tgs : List Expr) (sl : List Nat) (g : List D → Env → W Env) : Prop where
  ex : ∃ t, PGs X tgs t ∧ EgsT G t sl g
def nameG (i : Nat) : D → Env → W Env := fun d ρ => W.pure (ρ.set i (.fz d))
def nilG : List D → Env → W Env := fun ds ρ => W.need (ds = []) (W.pure ρ)
def consG (f : D → Env → W Env) (g : List D → Env → W Env) : List D → Env → W Env := fun ds ρ => match ds with
  | [] => W.fail
  | d :: r => do let ρ1 ← f d ρ; g r ρ1
def tupG (n : Nat) (g : List D → Env → W Env) : D → Env → W Env := fun d ρ => match d with
  | .tup ds => W.need (ds.length = n) (g ds ρ)
  | _ => W.fail
section
variable {G : Ctx} {X : Cx} {Wx : WX} {a b c e tg iter : Expr} {es ts : List Expr} {ga gb gc g : Env → W D} {pos : Pos}
theorem eg_name {i : Nat} {x : Str} (h : PG X (.Name x pos) (gName i)) : Eg G X (.Name x pos) [i] (nameG i) := by
  refine ⟨_, h, ?_⟩
  intro B ρ σ F Hf H v d Q' E' Q R r q k
  refine k _ _ _ (R.set r) ⟨by simp, by simp, fun j hj => ?_, fun j hj => ?_, fun h => set_nil (R.fnil fun s e => uniq_own (h i (by simp) s e))⟩ q
  · have : i ≠ j := fun z => hj (by simp [z])
    exact ⟨List.getElem?_set_ne this, List.getElem?_set_ne this⟩
  · have : j = i := by simpa using hj
    subst this
    by_cases hl : j < ρ.length
    · rw [List.getElem?_set_self hl]; intro s e; cases e; rfl
    · rw [List.getElem?_eq_none (by simpa using hl)]; intro s e; cases e
theorem egs_nil : Egs G X [] [] nilG := by
  refine ⟨_, pgs_nil, ?_⟩
  intro B ρ σ F Hf H vs ds Q' E' Q R r q k
  obtain ⟨e, q⟩ := q
  subst e
  cases r
  exact ⟨rfl, k ρ σ F R (Agree.refl (by simp)) q⟩
theorem egs_cons {sl sr : List Nat} {f : D → Env → W Env} {gs : List D → Env → W Env} (h : Eg G X e sl f) (hr : Egs G X es sr gs)
    (hs : (assignEach (e :: es) X.env).map (·.2) = assign e X.env :: (assignEach es X.env).map (·.2) := by rfl) : Egs G X (e :: es) (sl ++ sr) (consG f gs) := by
  obtain ⟨t, p, ev⟩ := h.ex
  obtain ⟨t2, p2, ev2⟩ := hr.ex
  refine ⟨_, pgs_cons p p2 hs, ?_⟩
  intro B ρ σ F Hf H vs ds Q' E' Q R r q k
  cases r with
  | nil => exact False.elim q
  | cons r rr =>
    refine ⟨_, _, rfl, ?_⟩
    refine ev B ρ σ F Hf H _ _ _ E' _ R r q fun ρ1 σ1 F1 R1 a1 q1 => ?_
    exact ev2 B ρ1 σ1 F1 Hf H _ _ Q' E' Q R1 rr q1 fun ρ2 σ2 F2 R2 a2 q2 => k ρ2 σ2 F2 R2 (a1.trans a2) q2
theorem eg_tup {k n : Nat} {sl : List Nat} {gs : List D → Env → W Env} (hc : X.calm = true) (h : Egs G X es sl gs) (hK : X.K = G.K)
    (hn : (assignEach es X.env).length = n := by rfl) (hst : (assignEach es X.env).findIdx? (·.1) = none := by rfl) : Eg G X (.Tuple es k pos) sl (tupG n gs) := by
  obtain ⟨t, p, ev⟩ := h.ex
  refine ⟨_, pg_tup hc p hn hst, ?_⟩
  intro B ρ σ F Hf H v d Q' E' Q R r q k
  cases r with
  | tup hx r =>
    obtain ⟨hl, q⟩ := q
    exact ⟨_, _, rfl, SqT.of (R.sm _ _ hx), by rw [r.length]; exact hl, ev B ρ σ F Hf H _ _ Q' E' Q R r q k⟩
  | _ => exact False.elim q

/-! ### what is walked -/
structure Wk (G : Ctx) (J : It) (Hf : Hp) (ds : List D) : Prop where
  go : ∀ i H, Sm Hf H → i < ds.length → J.go i H
  stop : ∀ H, Sm Hf H → J.stop ds.length H
  yld : ∀ (i : Nat) H x H' d, Sm Hf H → ds[i]? = some d → J.yld i H x H' → ∀ Hf2, Sm Hf Hf2 → Same Hf2 H →
    ∃ Hf3, Rp G.cn Hf3 x d ∧ ((H' = H ∧ Hf3 = Hf2) ∨ ∃ T o, H T = none ∧ H' = upd H T o ∧ Hf3 = upd Hf2 T o)
theorem Wk.step {J : It} {Hf : Hp} {ds : List D} (w : Wk G J Hf ds) {i : Nat} {H H' Hf2 : Hp} {x : V} {d : D} {B : Bs} {ρ : Env} {σ : St} {F : Fps} (s : Sm Hf Hf2) (R : Rep G B ρ σ F Hf2 H) (e : ds[i]? = some d) (y : J.yld i H x H') :
    ∃ Hf3, Rep G B ρ σ F Hf3 H' ∧ Nx ρ σ Hf2 H Hf3 H' ∧ Rp G.cn Hf3 x d := by
  obtain ⟨Hf3, r, h | ⟨T, o, h1, h2, h3⟩⟩ := w.yld i H x H' d (s.trans (Sm.of R.sm)) e y Hf2 s R.sm
  · obtain ⟨rfl, rfl⟩ := h
    exact ⟨_, R, Nx.refl, r⟩
  · subst h2 h3
    exact ⟨_, R.new h1, Nx.new R.sm h1, r⟩
def EiT (G : Ctx) (Wx : WX) (wi : TI) (g : Env → W (List D)) : Prop :=
  ∀ (B : Bs) (ρ : Env) (σ : St) (F : Fps) (Hf H : Hp) (Q' : List D → Prop) (E' : Xc → Prop) (Q : It → Hp → Prop), Rep G B ρ σ F Hf H → g ρ Q' E' →
    (∀ J ds Hf' H', Rep G B ρ σ F Hf' H' → Nx ρ σ Hf H Hf' H' → Wk G J Hf' ds → Q' ds → Q J H') → XPost G Wx σ F Hf H B ρ E' → wi σ H Q
structure Ei (G : Ctx) (X : Cx) (Wx : WX) (tg iter : Expr) (g : Env → W (List D)) : Prop where
  ex : ∃ wi, PI X tg iter wi ∧ EiT G Wx wi g
def lstI (g : Env → W D) : Env → W (List D) := fun ρ => do let d ← g ρ; (match d with | .lst ds => W.pure ds | _ => W.fail)
def tupI (g : Env → W D) : Env → W (List D) := fun ρ => do let d ← g ρ; (match d with | .tup ds => W.pure ds | _ => W.fail)
theorem wk_list {Hf : Hp} {a : Addr} {vs : List V} {ds : List D} (h : Hf a = some (.lst vs)) (r : Rps G.cn Hf vs ds) : Wk G (Itl G.K a) Hf ds where
  go := fun i H s hi => by
    obtain ⟨v, e, _⟩ := r.get (i := i) (d := ds[i]) (by simp [hi])
    exact ⟨vs, v, SqL.of (s.lst h), e⟩
  stop := fun H s => ⟨vs, SqL.of (s.lst h), by rw [r.length]; exact Nat.le_refl _⟩
  yld := fun i H x H' d s e y Hf2 s1 s2 => by
    obtain ⟨rfl, y⟩ := y
    obtain ⟨v, e1, r1⟩ := r.get e
    have e2 := y vs (SqL.of (s.lst h))
    rw [e1] at e2
    cases e2
    exact ⟨Hf2, r1.mono s1, .inl ⟨rfl, rfl⟩⟩
theorem wk_tup {Hf : Hp} {a : Addr} {vs : List V} {ds : List D} (h : Hf a = some (.tup vs)) (r : Rps G.cn Hf vs ds) : Wk G (Itt G.K a) Hf ds where
  go := fun i H s hi => by
    obtain ⟨v, e, _⟩ := r.get (i := i) (d := ds[i]) (by simp [hi])
    exact ⟨vs, v, SqT.of (s.tup h), e⟩
  stop := fun H s => ⟨vs, SqT.of (s.tup h), by rw [r.length]; exact Nat.le_refl _⟩
  yld := fun i H x H' d s e y Hf2 s1 s2 => by
    obtain ⟨rfl, y⟩ := y
    obtain ⟨v, e1, r1⟩ := r.get e
    have e2 := y vs (SqT.of (s.tup h))
    rw [e1] at e2
    cases e2
    exact ⟨Hf2, r1.mono s1, .inl ⟨rfl, rfl⟩⟩
theorem wk_zip {Hf : Hp} {a b : Addr} {vs us : List V} {ds es : List D} (h : Hf a = some (.lst vs)) (r : Rps G.cn Hf vs ds) (h' : Hf b = some (.lst us)) (r' : Rps G.cn Hf us es) : Wk G (Itz G.K a b) Hf (List.zipWith (fun x y => D.tup [x, y]) ds es) where
  go := fun i H s hi => by
    rw [List.length_zipWith] at hi
    obtain ⟨v, e, _⟩ := r.get (i := i) (d := ds[i]) (List.getElem?_eq_getElem (by omega))
    obtain ⟨u, e', _⟩ := r'.get (i := i) (d := es[i]) (List.getElem?_eq_getElem (by omega))
    exact ⟨vs, us, v, u, SqL.of (s.lst h), SqL.of (s.lst h'), e, e'⟩
  stop := fun H s => ⟨vs, us, SqL.of (s.lst h), SqL.of (s.lst h'), by rw [List.length_zipWith, r.length, r'.length]; omega⟩
  yld := fun i H x H' d s e y Hf2 s1 s2 => by
    obtain ⟨T, v, u, rfl, hT, rfl, y1, y2⟩ := y
    have e1 := y1 vs (SqL.of (s.lst h))
    have e2 := y2 us (SqL.of (s.lst h'))
    obtain ⟨d1, f1, r1⟩ := r.getV e1
    obtain ⟨d2, f2, r2⟩ := r'.getV e2
    rw [List.getElem?_zipWith, f1, f2] at e
    cases e
    have s3 : Sm Hf (upd Hf2 T (.tup [v, u])) := s1.trans (Sm.new (s2.free hT))
    exact ⟨_, .tup upd_same (.cons (r1.mono s3) (.cons (r2.mono s3) .nil)), .inr ⟨T, _, hT, rfl, rfl⟩⟩
theorem wk_enum {Hf : Hp} {a : Addr} {vs : List V} {ds : List D} (h : Hf a = some (.lst vs)) (r : Rps G.cn Hf vs ds) : Wk G (Ite G.K a) Hf (ds.zipIdx.map fun p => D.tup [.int (p.2 : Nat), p.1]) where
  go := fun i H s hi => by
    rw [List.length_map, List.length_zipIdx] at hi
    obtain ⟨v, e, _⟩ := r.get (i := i) (d := ds[i]) (by simp [hi])
    exact ⟨vs, v, SqL.of (s.lst h), e⟩
  stop := fun H s => ⟨vs, SqL.of (s.lst h), by rw [List.length_map, List.length_zipIdx, r.length]; omega⟩
  yld := fun i H x H' d s e y Hf2 s1 s2 => by
    obtain ⟨T, v, rfl, hT, rfl, y1⟩ := y
    have e1 := y1 vs (SqL.of (s.lst h))
    obtain ⟨d1, f1, r1⟩ := r.getV e1
    rw [List.getElem?_map, List.getElem?_zipIdx, f1] at e
    simp only [Option.map_some, Nat.zero_add, Option.some.injEq] at e
    subst e
    have s3 : Sm Hf (upd Hf2 T (.tup [.int (i : Nat), v])) := s1.trans (Sm.new (s2.free hT))
    exact ⟨_, .tup upd_same (.cons (.int _) (.cons (r1.mono s3) .nil)), .inr ⟨T, _, hT, rfl, rfl⟩⟩
theorem wk_range {Hf : Hp} {lo : Int} {n : Nat} : Wk G (Itr lo n) Hf ((List.range n).map fun k => D.int (lo + (k : Nat))) where
  go := fun i H s hi => by show i < n; simpa using hi
  stop := fun H s => by show n ≤ _; simp
  yld := fun i H x H' d s e y Hf2 s1 s2 => by
    obtain ⟨rfl, rfl⟩ := y
    rw [List.getElem?_map] at e
    by_cases hi : i < n
    · rw [List.getElem?_range hi] at e
      cases e
      exact ⟨Hf2, .int _, .inl ⟨rfl, rfl⟩⟩
    · rw [List.getElem?_eq_none (by simpa using hi)] at e
      cases e
theorem ei_list (h : Ev G X Wx iter g) (hK : X.K = G.K) : Ei G X Wx tg iter (lstI g) := by
  obtain ⟨t, p, ev⟩ := h.ex
  refine ⟨_, pi_list p, ?_⟩
  intro B ρ σ F Hf H Q' E' Q R q k kx
  refine ev B ρ σ F Hf H _ E' _ R q (fun v d Hf1 H1 R1 s1 r1 q1 => ?_) kx
  cases r1 with
  | lst hx r => exact ⟨_, rfl, ⟨_, SqL.of (R1.sm _ _ hx)⟩, k _ _ Hf1 H1 R1 s1 (hK ▸ wk_list hx r) q1⟩
  | _ => exact False.elim q1
theorem ei_tup (h : Ev G X Wx iter g) (hK : X.K = G.K) : Ei G X Wx tg iter (tupI g) := by
  obtain ⟨t, p, ev⟩ := h.ex
  refine ⟨_, pi_tup p, ?_⟩
  intro B ρ σ F Hf H Q' E' Q R q k kx
  refine ev B ρ σ F Hf H _ E' _ R q (fun v d Hf1 H1 R1 s1 r1 q1 => ?_) kx
  cases r1 with
  | tup hx r => exact ⟨_, rfl, ⟨_, SqT.of (R1.sm _ _ hx)⟩, k _ _ Hf1 H1 R1 s1 (hK ▸ wk_tup hx r) q1⟩
  | _ => exact False.elim q1
def rng1 (g : Env → W D) : Env → W (List D) := fun ρ => do
  let d ← g ρ
  (match d with | .int j => W.need (-(2 ^ 62) ≤ j ∧ j < 2 ^ 62) (W.pure ((List.range j.toNat).map fun k => D.int (0 + (k : Nat)))) | _ => W.fail)
def rng2 (f g : Env → W D) : Env → W (List D) := fun ρ => do
  let c ← f ρ
  let d ← g ρ
  (match c, d with | .int i, .int j => W.need (-(2 ^ 62) ≤ i ∧ i < 2 ^ 62 ∧ -(2 ^ 62) ≤ j ∧ j < 2 ^ 62) (W.pure ((List.range (j - i).toNat).map fun k => D.int (i + (k : Nat)))) | _, _ => W.fail)
theorem ei_rng1 {p : Pos} (h : Ev G X Wx a g) (hg : Gl X "range") (hm : X.mg "range" = none) (hs : starEach [a] X.env = [(false, eval a X.env)] := by rfl) : Ei G X Wx tg (.Call (.Name "range" p) [a] [] pos) (rng1 g) := by
  obtain ⟨t, pe, ev⟩ := h.ex
  refine ⟨_, pi_range1 hg hm (pa_cons pe pa_nil hs) hs, ?_⟩
  intro B ρ σ F Hf H Q' E' Q R q k kx
  refine ev B ρ σ F Hf H _ E' _ R q (fun v d Hf1 H1 R1 s1 r1 q1 => ?_) kx
  cases r1 with
  | int j => exact ⟨j, rfl, q1.1.1, q1.1.2, k _ _ Hf1 H1 R1 s1 wk_range q1.2⟩
  | _ => exact False.elim q1
theorem ei_rng2 {p : Pos} (h : Ev G X Wx a ga) (h2 : Ev G X Wx b gb) (hg : Gl X "range") (hm : X.mg "range" = none) (hs : starEach [a, b] X.env = [(false, eval a X.env), (false, eval b X.env)] := by rfl) (hs2 : starEach [b] X.env = [(false, eval b X.env)] := by rfl) :
    Ei G X Wx tg (.Call (.Name "range" p) [a, b] [] pos) (rng2 ga gb) := by
  obtain ⟨t, pe, ev⟩ := h.ex
  obtain ⟨t2, pe2, ev2⟩ := h2.ex
  refine ⟨_, pi_range2 hg hm (pa_cons pe (pa_cons pe2 pa_nil hs2) (by rw [hs, hs2])) hs hs2, ?_⟩
  intro B ρ σ F Hf H Q' E' Q R q k kx
  refine ev B ρ σ F Hf H _ E' _ R q (fun v d Hf1 H1 R1 s1 r1 q1 => ?_) kx
  refine ev2 B ρ σ F Hf1 H1 _ E' _ R1 q1 (fun u d2 Hf2 H2 R2 s2 r2 q2 => ?_) (kx.mono s1)
  cases r1 <;> cases r2 <;> first | exact False.elim q2 | skip
  exact ⟨_, _, rfl, q2.1, k _ _ Hf2 H2 R2 (s1.trans s2) wk_range q2.2⟩
def zipI (f g : Env → W D) : Env → W (List D) := fun ρ => do
  let c ← f ρ
  let d ← g ρ
  (match c, d with | .lst xs, .lst ys => W.pure (List.zipWith (fun x y => D.tup [x, y]) xs ys) | _, _ => W.fail)
theorem ei_zip {p tpos : Pos} {elts : List Expr} {kk : Nat} (h : Ev G X Wx a ga) (h2 : Ev G X Wx b gb) (hK : X.K = G.K) (hg : Gl X "zip") (hm : X.mg "zip" = none)
    (hs : starEach [a, b] X.env = (false, eval a X.env) :: starEach [b] X.env := by rfl) (hs2 : starEach [b] X.env = (false, eval b X.env) :: starEach [] X.env := by rfl) (hpl : (backTo pos (starEach [b] X.env)).any (·.1) = false := by rfl) :
    Ei G X Wx (.Tuple elts kk tpos) (.Call (.Name "zip" p) [a, b] [] pos) (zipI ga gb) := by
  obtain ⟨t, pe, ev⟩ := h.ex
  obtain ⟨t2, pe2, ev2⟩ := h2.ex
  refine ⟨_, pi_zip hg hm (pa_cons pe (pa_cons pe2 pa_nil hs2) hs) hs hpl, ?_⟩
  intro B ρ σ F Hf H Q' E' Q R q k kx
  refine ev B ρ σ F Hf H _ E' _ R q (fun v d Hf1 H1 R1 s1 r1 q1 => ?_) kx
  refine ev2 B ρ σ F Hf1 H1 _ E' _ R1 q1 (fun u d2 Hf2 H2 R2 s2 r2 q2 => ?_) (kx.mono s1)
  have r1' := r1.mono s2.sm
  cases r1' <;> cases r2 <;> first | exact False.elim q2 | skip
  rename_i hx rx _ _ _ hy ry
  exact ⟨_, _, _, _, rfl, SqL.of (R2.sm _ _ hx), SqL.of (R2.sm _ _ hy), k _ _ Hf2 H2 R2 (s1.trans s2) (hK ▸ wk_zip hx rx hy ry) q2⟩
def enumI (g : Env → W D) : Env → W (List D) := fun ρ => do
  let d ← g ρ
  (match d with | .lst xs => W.pure (xs.zipIdx.map fun p => D.tup [.int (p.2 : Nat), p.1]) | _ => W.fail)
theorem ei_enum {p tpos : Pos} {elts : List Expr} {kk : Nat} (h : Ev G X Wx a g) (hK : X.K = G.K) (hg : Gl X "enumerate") (hm : X.mg "enumerate" = none) (hs : starEach [a] X.env = [(false, eval a X.env)] := by rfl) :
    Ei G X Wx (.Tuple elts kk tpos) (.Call (.Name "enumerate" p) [a] [] pos) (enumI g) := by
  obtain ⟨t, pe, ev⟩ := h.ex
  refine ⟨_, pi_enum hg hm (pa_cons pe pa_nil hs) hs, ?_⟩
  intro B ρ σ F Hf H Q' E' Q R q k kx
  refine ev B ρ σ F Hf H _ E' _ R q (fun v d Hf1 H1 R1 s1 r1 q1 => ?_) kx
  cases r1 with
  | lst hx r => exact ⟨_, _, rfl, SqL.of (R1.sm _ _ hx), k _ _ Hf1 H1 R1 s1 (hK ▸ wk_enum hx r) q1⟩
  | _ => exact False.elim q1
end
end QL

set_option Elab.async false
set_option linter.all false
set_option maxRecDepth 100000
set_option maxHeartbeats 2000000
namespace QL
open PySem L2

/-! ### families of contexts: a comprehension's block -/
abbrev WF : WX := fun _ _ _ _ => False
abbrev bk (X : Cx) (sc : Scope) (s : Shared) (H : Hp) (C : Addr) (cl : List (Str × Addr)) (fp : List Addr) : Cx := X.blk s H sc (compEnvC sc cl C X.env) fp
def gFam (X : Cx) (sc : Scope) (tg : Expr) : TG := fun v σ H Q => ∀ s H0 C cl fp, ∃ t, PG (bk X sc s H0 C cl fp) tg t ∧ t v σ H Q
theorem pg_fam {X : Cx} {sc : Scope} {tg : Expr} (s : Shared) (H0 : Hp) (C : Addr) (cl : List (Str × Addr)) (fp : List Addr) : PG (bk X sc s H0 C cl fp) tg (gFam X sc tg) :=
  ⟨fun pins s1 σ H v u Q I r h => by
    obtain ⟨t, p, q⟩ := h s H0 C cl fp
    exact p.run pins s1 σ H v u Q I r q⟩
def eFam (X : Cx) (sc : Scope) (e : Expr) : TE := fun σ H Q => ∀ s H0 C cl fp, ∃ t, PE (bk X sc s H0 C cl fp) e t ∧ t σ H Q
theorem pe_fam {X : Cx} {sc : Scope} {e : Expr} (s : Shared) (H0 : Hp) (C : Addr) (cl : List (Str × Addr)) (fp : List Addr) : PE (bk X sc s H0 C cl fp) e (eFam X sc e) :=
  ⟨fun pins s1 σ H Q I h => by
    obtain ⟨t, p, q⟩ := h s H0 C cl fp
    exact p.run pins s1 σ H Q I q⟩
def tFam (X : Cx) (sc : Scope) (es : List Expr) : TT := fun σ H Q => ∀ s H0 C cl fp, ∃ t, PTs (bk X sc s H0 C cl fp) es t ∧ t σ H Q
theorem pts_fam {X : Cx} {sc : Scope} {es : List Expr} (s : Shared) (H0 : Hp) (C : Addr) (cl : List (Str × Addr)) (fp : List Addr) : PTs (bk X sc s H0 C cl fp) es (tFam X sc es) :=
  ⟨fun pins s1 σ H Q I h => by
    obtain ⟨t, p, q⟩ := h s H0 C cl fp
    exact p.run pins s1 σ H Q I q⟩
/-- the tests of a comprehension -/
structure Ets (G : Ctx) (X : Cx) (Wx : WX) (es : List Expr) (g : Env → W Bool) : Prop where
  ex : ∃ t, PTs X es t ∧ EbT G Wx t g
def yesB : Env → W Bool := fun _ => W.pure true
theorem ets_nil {G : Ctx} {X : Cx} {Wx : WX} : Ets G X Wx [] yesB := ⟨_, pts_nil, fun B ρ σ F Hf H Q' E' Q R q k kx => k true Hf H R Nx.refl q⟩
theorem ets_one {G : Ctx} {X : Cx} {Wx : WX} {e : Expr} {g : Env → W Bool} (h : Eb G X Wx e g) : Ets G X Wx [e] g := by
  obtain ⟨t, p, ev⟩ := h.ex
  exact ⟨_, pts_one p, ev⟩

/-! ### trees of one's own: new cells, no one's yet -/
def EnT (G : Ctx) (Wx : WX) (t : TE) (g : Env → W OD) : Prop :=
  ∀ (B : Bs) (ρ : Env) (σ : St) (F : Fps) (Hf H : Hp) (Q' : OD → Prop) (E' : Xc → Prop) (Q : VK), Rep G B ρ σ F Hf H → g ρ Q' E' →
    (∀ u x L Hf' H', Rep G B ρ σ F Hf' H' → Nx ρ σ Hf H Hf' H' → Ow G.cn Hf' H' u x L → L.Nodup → (∀ a ∈ L, H a = none) → Q' x → Q u H') → XPost G Wx σ F Hf H B ρ E' → t σ H Q
structure En (G : Ctx) (X : Cx) (Wx : WX) (e : Expr) (g : Env → W OD) : Prop where
  ex : ∃ t, PE X e t ∧ EnT G Wx t g
def EnaT (G : Ctx) (Wx : WX) (t : TA) (g : Env → W (List OD)) : Prop :=
  ∀ (B : Bs) (ρ : Env) (σ : St) (F : Fps) (Hf H : Hp) (Q' : List OD → Prop) (E' : Xc → Prop) (Q : List V → Hp → Prop), Rep G B ρ σ F Hf H → g ρ Q' E' →
    (∀ us xs L Hf' H', Rep G B ρ σ F Hf' H' → Nx ρ σ Hf H Hf' H' → Ows G.cn Hf' H' us xs L → L.Nodup → (∀ a ∈ L, H a = none) → Q' xs → Q us H') → XPost G Wx σ F Hf H B ρ E' → t σ H Q
structure Ena (G : Ctx) (X : Cx) (Wx : WX) (es : List Expr) (g : Env → W (List OD)) : Prop where
  ex : ∃ t, PA X es t ∧ EnaT G Wx t g
/-- data as a tree; a tree as data -/
def fzO (g : Env → W D) : Env → W OD := fun ρ Q E => g ρ (fun d => Q (.fz d)) E
def frO (g : Env → W OD) : Env → W D := fun ρ Q E => g ρ (fun x => x.ok = true ∧ Q x.d) E
section
variable {G : Ctx} {B : Bs} {ρ ρ2 : Env} {σ σ2 : St} {F : Fps} {Hf H Hf' H' : Hp} {X : Cx} {Wx : WX} {e : Expr} {es : List Expr} {pos : Pos}
theorem Ow.frz {cn : Nat → Addr} {u : V} {x : OD} {L : List Addr} (o : Ow cn Hf H u x L) (k : x.ok = true) : Rp cn (frzL Hf H L) u x.d := o.rp (Sm.frzs fun a ha => (o.there a ha).2) k fun a ha => frzL_in ha
theorem EnT.ev {t : TE} {g : Env → W OD} (h : EnT G Wx t g) : EvT G Wx t (frO g) := by
  intro B ρ σ F Hf H Q' E' Q R q k kx
  refine h B ρ σ F Hf H _ E' _ R q (fun u x L Hf1 H1 R1 n1 o nd nw q1 => ?_) kx
  have hf : ∀ a ∈ L, Hf1 a = none := fun a ha => (o.there a ha).2
  refine k _ _ _ _ (R1.frz hf (fun a ha => R.freeB (nw a ha)) fun a ha => R.free1 (nw a ha)) (n1.frzL nw hf) (o.frz q1.1) q1.2
theorem En.ev {g : Env → W OD} (h : En G X Wx e g) : Ev G X Wx e (frO g) := by
  obtain ⟨t, p, ev⟩ := h.ex
  exact ⟨t, p, ev.ev⟩
theorem EvT.en {t : TE} {g : Env → W D} (h : EvT G Wx t g) : EnT G Wx t (fzO g) := fun B ρ σ F Hf H Q' E' Q R q k kx =>
  h B ρ σ F Hf H _ E' _ R q (fun v d Hf1 H1 R1 n1 r q1 => k v (.fz d) [] Hf1 H1 R1 n1 (.fz r) (by simp) (by simp) q1) kx
theorem Ev.en {g : Env → W D} (h : Ev G X Wx e g) : En G X Wx e (fzO g) := by
  obtain ⟨t, p, ev⟩ := h.ex
  exact ⟨t, p, ev.en⟩
def nilN : Env → W (List OD) := fun _ Q _ => Q []
def consN (f : Env → W OD) (g : Env → W (List OD)) : Env → W (List OD) := fun ρ Q E => f ρ (fun x => g ρ (fun xs => Q (x :: xs)) E) E
theorem ena_nil : Ena G X Wx [] nilN := ⟨_, pa_nil, fun B ρ σ F Hf H Q' E' Q R q k kx => k [] [] [] Hf H R Nx.refl .nil (by simp) (by simp) q⟩
/-- temporaries stay -/
theorem Rep.temps {L : List Addr} {H0 Hf1 H1 : Hp} (R0 : Rep G B ρ σ F Hf H0) (n : Nx ρ σ Hf1 H1 Hf' H') (h : ∀ a ∈ L, H1 a ≠ none ∧ Hf1 a = none) (nw : ∀ a ∈ L, H0 a = none) : Stay Hf' H1 H' L := n.stay h fun a ha => (R0.free1 (nw a ha)).2
theorem ena_cons {g : Env → W OD} {gs : Env → W (List OD)} (h : En G X Wx e g) (hr : Ena G X Wx es gs) (hs : starEach (e :: es) X.env = (false, eval e X.env) :: starEach es X.env := by rfl) : Ena G X Wx (e :: es) (consN g gs) := by
  obtain ⟨ta, pa, ea⟩ := h.ex
  obtain ⟨tb, pb, eb⟩ := hr.ex
  refine ⟨_, pa_cons pa pb hs, ?_⟩
  intro B ρ σ F Hf H Q' E' Q R q k kx
  refine ea B ρ σ F Hf H _ E' _ R q (fun u x L Hf1 H1 R1 n1 o nd nw q1 => ?_) kx
  refine eb B ρ σ F Hf1 H1 _ E' _ R1 q1 (fun us xs M Hf2 H2 R2 n2 o2 nd2 nw2 q2 => ?_) (kx.mono n1)
  refine k _ _ (L ++ M) Hf2 H2 R2 (n1.trans n2) (.cons (o.mono n2.sm (R.temps n2 o.there nw)) o2) (List.nodup_append.mpr ⟨nd, nd2, fun a ha b hb z => ?_⟩) (fun a ha => ?_) q2
  · subst z; exact (o.there a ha).1 (nw2 a hb)
  · rcases List.mem_append.mp ha with ha | ha
    · exact nw a ha
    · exact n1.nn R.sm R1.sm (nw2 a ha)
def dispO (f : List OD → OD) (g : Env → W (List OD)) : Env → W OD := fun ρ Q E => g ρ (fun xs => xs.length ≤ sizeLine ∧ Q (f xs)) E
theorem Ows.length {cn : Nat → Addr} : ∀ {vs : List V} {xs : List OD} {L : List Addr}, Ows cn Hf H vs xs L → vs.length = xs.length
  | _, _, _, .nil => rfl
  | _, _, _, .cons _ t => congrArg (· + 1) (Ows.length t)
theorem en_lst {gs : Env → W (List OD)} (h : Ena G X Wx es gs) : En G X Wx (.List es pos) (dispO OD.lst gs) := by
  obtain ⟨ta, pa, ea⟩ := h.ex
  refine ⟨_, pe_lst pa, ?_⟩
  intro B ρ σ F Hf H Q' E' Q R q k kx
  refine ea B ρ σ F Hf H _ E' _ R q (fun us xs L Hf1 H1 R1 n1 o nd nw q1 => ⟨by rw [o.length]; exact q1.1, fun p hp => ?_⟩) kx
  have st : Stay Hf1 H1 (upd H1 p (.lst us)) L := fun a ha => ⟨upd_ne fun z => (o.there a ha).1 (by rw [z]; exact hp), (o.there a ha).2⟩
  refine k _ _ (p :: L) _ _ (R1.laid hp) (n1.other (n1.nn R.sm R1.sm hp)) (.lst upd_same (R1.sm.free hp) (o.mono (Sm.refl _) st)) (List.nodup_cons.mpr ⟨fun z => (o.there p z).1 hp, nd⟩) (fun a ha => ?_) q1.2
  rcases List.mem_cons.mp ha with rfl | ha
  · exact n1.nn R.sm R1.sm hp
  · exact nw a ha
theorem en_tup {x1} {gs : Env → W (List OD)} (h : Ena G X Wx es gs) : En G X Wx (.Tuple es x1 pos) (dispO OD.tup gs) := by
  obtain ⟨ta, pa, ea⟩ := h.ex
  refine ⟨_, pe_tup pa, ?_⟩
  intro B ρ σ F Hf H Q' E' Q R q k kx
  refine ea B ρ σ F Hf H _ E' _ R q (fun us xs L Hf1 H1 R1 n1 o nd nw q1 => ⟨by rw [o.length]; exact q1.1, fun p hp => ?_⟩) kx
  have st : Stay Hf1 H1 (upd H1 p (.tup us)) L := fun a ha => ⟨upd_ne fun z => (o.there a ha).1 (by rw [z]; exact hp), (o.there a ha).2⟩
  refine k _ _ (p :: L) _ _ (R1.laid hp) (n1.other (n1.nn R.sm R1.sm hp)) (.tup upd_same (R1.sm.free hp) (o.mono (Sm.refl _) st)) (List.nodup_cons.mpr ⟨fun z => (o.there p z).1 hp, nd⟩) (fun a ha => ?_) q1.2
  rcases List.mem_cons.mp ha with rfl | ha
  · exact n1.nn R.sm R1.sm hp
  · exact nw a ha
end

/-! ### list comprehensions -/
def lcO (vs : List Nat) (gt : D → Env → W Env) (gb : Env → W Bool) (ge : Env → W OD) (ρ : Env) : List D → W (List OD)
  | [] => W.pure []
  | d :: ds => fun Q E => gt d (wipeE ρ vs) (fun ρ2 => gb ρ2 (fun b => if b = true then ge ρ2 (fun y => lcO vs gt gb ge ρ ds (fun r => Q (y :: r)) E) (fun _ => False) else lcO vs gt gb ge ρ ds Q E) (fun _ => False)) (fun _ => False)
def lcL (vs : List Nat) (gt : D → Env → W Env) (gb : Env → W Bool) (ge : Env → W D) (ρ : Env) : List D → W (List D)
  | [] => W.pure []
  | d :: ds => fun Q E => gt d (wipeE ρ vs) (fun ρ2 => gb ρ2 (fun b => if b = true then ge ρ2 (fun y => lcL vs gt gb ge ρ ds (fun r => Q (y :: r)) E) (fun _ => False) else lcL vs gt gb ge ρ ds Q E) (fun _ => False)) (fun _ => False)
def lcON (gi : Env → W (List D)) (vs : List Nat) (gt : D → Env → W Env) (gb : Env → W Bool) (ge : Env → W OD) : Env → W OD := fun ρ Q E => gi ρ (fun ds => (okW ρ vs = true ∧ ds.length ≤ sizeLine) ∧ lcO vs gt gb ge ρ ds (fun xs => Q (.lst xs)) E) E
/-- .. whose items are frozen -/
def lcN (gi : Env → W (List D)) (vs : List Nat) (gt : D → Env → W Env) (gb : Env → W Bool) (ge : Env → W D) : Env → W (List D) := fun ρ => do
  let ds ← gi ρ
  W.need (okW ρ vs = true ∧ ds.length ≤ sizeLine) (lcL vs gt gb ge ρ ds)
def lstO (g : Env → W (List D)) : Env → W OD := fun ρ Q E => g ρ (fun ds => Q (.lst (ds.map OD.fz))) E
def lstV (g : Env → W (List D)) : Env → W D := fun ρ => do let ds ← g ρ; W.pure (.lst ds)
theorem okW_at {ρ : Env} {vs : List Nat} (h : okW ρ vs = true) {i : Nat} {s : Sl} (hi : i ∈ vs) (e : ρ[i]? = some s) : s.own = false := by
  unfold okW at h
  have q := List.all_eq_true.mp h i hi
  rw [e] at q
  simpa using q
theorem wipe_wipe {σ : St} {vs : List Nat} : L2.wipe (L2.wipe σ vs) vs = L2.wipe σ vs := by
  apply List.ext_getElem?
  intro i
  rw [wipe_get, wipe_get, wipe_length]
  by_cases h : i ∈ vs <;> simp [h]
/-- a new list of frozen items, no one's yet -/
def ElT (G : Ctx) (Wx : WX) (t : TE) (g : Env → W (List D)) : Prop :=
  ∀ (B : Bs) (ρ : Env) (σ : St) (F : Fps) (Hf H : Hp) (Q' : List D → Prop) (E' : Xc → Prop) (Q : VK), Rep G B ρ σ F Hf H → g ρ Q' E' →
    (∀ p vs ds Hf' H', Rep G B ρ σ F Hf' H' → Nx ρ σ Hf H Hf' H' → H p = none → Hf' p = none → H' p = some (.lst vs) → Rps G.cn Hf' vs ds → Q' ds → Q (.ref p) H') → XPost G Wx σ F Hf H B ρ E' → t σ H Q
structure El (G : Ctx) (X : Cx) (Wx : WX) (e : Expr) (g : Env → W (List D)) : Prop where
  ex : ∃ t, PE X e t ∧ ElT G Wx t g
section
variable {G : Ctx} {X : Cx} {Wx : WX} {e : Expr} {g : Env → W (List D)}
theorem ElT.ev {t : TE} (h : ElT G Wx t g) : EvT G Wx t (lstV g) := by
  intro B ρ σ F Hf H Q' E' Q R q k kx
  refine h B ρ σ F Hf H _ E' _ R q (fun p vs ds Hf1 H1 R1 s1 h0 hf hp r q1 => ?_) kx
  exact k _ _ _ _ (R1.frz1 hp hf (R.freeB h0) (R.free1 h0)) (s1.frz h0 hf) (.lst upd_same (r.mono (Sm.new hf))) q1
theorem El.ev (h : El G X Wx e g) : Ev G X Wx e (lstV g) := by
  obtain ⟨t, p, ev⟩ := h.ex
  exact ⟨t, p, ev.ev⟩
theorem ows_fz {cn : Nat → Addr} {Hf H : Hp} : ∀ {vs : List V} {ds : List D}, Rps cn Hf vs ds → Ows cn Hf H vs (ds.map OD.fz) []
  | _, _, .nil => .nil
  | _, _, .cons r t => .cons (.fz r) (ows_fz t)
theorem ElT.en {t : TE} (h : ElT G Wx t g) : EnT G Wx t (lstO g) := by
  intro B ρ σ F Hf H Q' E' Q R q k kx
  refine h B ρ σ F Hf H _ E' _ R q (fun p vs ds Hf1 H1 R1 s1 h0 hf hp r q1 => ?_) kx
  exact k _ _ [p] _ _ R1 s1 (.lst hp hf (ows_fz r)) (by simp) (by simpa using h0) q1
theorem El.en (h : El G X Wx e g) : En G X Wx e (lstO g) := by
  obtain ⟨t, p, ev⟩ := h.ex
  exact ⟨t, p, ev.en⟩
end
section
variable {G : Ctx} {X : Cx} {Wx : WX} {elt tg iter : Expr} {ifs : List Expr} {sc : Scope} {own : List (Str × Nat)} {pos : Pos} {gi : Env → W (List D)} {gt : D → Env → W Env} {gb : Env → W Bool} {ge : Env → W D} {gn : Env → W OD} {sl : List Nat}
theorem Ows.snoc {cn : Nat → Addr} {Hf H : Hp} {v : V} {x : OD} {M : List Addr} (o : Ow cn Hf H v x M) : ∀ {vs : List V} {xs : List OD} {L : List Addr}, Ows cn Hf H vs xs L → Ows cn Hf H (vs ++ [v]) (xs ++ [x]) (L ++ M)
  | _, _, _, .nil => by simpa using Ows.cons o .nil
  | _, _, _, .cons (F := F) (G := G) r t => by
    have := Ows.cons r (Ows.snoc o t)
    rw [List.append_assoc]
    exact this
theorem ent_lcO {wi : TI} (hi : EiT G Wx wi gi) (hg : ∀ s H0 C cl fp, Eg G (bk X sc s H0 C cl fp) tg sl gt) (ht : ∀ s H0 C cl fp, Ets G (bk X sc s H0 C cl fp) WF ifs gb)
    (he : ∀ s H0 C cl fp, En G (bk X sc s H0 C cl fp) WF elt gn) {vs : List Nat} (hsl : ∀ i ∈ sl, i ∈ vs) : EnT G Wx (tLc wi (gFam X sc tg) (tFam X sc ifs) (eFam X sc elt) vs) (lcON gi vs gt gb gn) := by
  intro B ρ σ F Hf H Q' E' Q R q k kx
  refine hi B ρ σ F Hf H _ E' _ R q (fun J ds Hf1 H1 R1 s1 wk q1 => ?_) kx
  obtain ⟨⟨ok1, hlen⟩, q1⟩ := q1
  intro D0 hD
  have hB := R1.freeB hD
  have hS := R1.free1 hD
  have hfD := R1.sm.free hD
  have hH : H D0 = none := s1.nn R.sm R1.sm hD
  have ok2 : ∀ i ∈ vs, ∀ s, ρ[i]? = some s → s.own = false := fun i hi s e => okW_at ok1 hi e
  refine lc_it (n := ds.length) (G := fun H => Sm Hf1 H) (Y := fun i H x H' => J.yld i H x H') ⟨fun i H hi s => wk.go i H s hi, fun H s => wk.stop H s, fun i H x H' _ _ y => y⟩
    (fun i H => ∃ Hf2 us outs L, Rep G B ρ σ F Hf2 H ∧ Nx ρ σ Hf1 H1 Hf2 H ∧ Hf2 D0 = none ∧ H D0 = some (.lst us) ∧ Ows G.cn Hf2 H us outs L ∧ L.Nodup ∧ D0 ∉ L ∧ (∀ a ∈ L, H1 a = none) ∧ outs.length ≤ i ∧ lcO vs gt gb gn ρ (ds.drop i) (fun r => Q' (.lst (outs ++ r))) E') ?_ ?_ ?_ ?_
  · exact ⟨Hf1, [], [], [], R1.laid hD, Nx.refl.other hD, hfD, upd_same, .nil, by simp, by simp, by simp, Nat.le_refl _, q1⟩
  · rintro i H' _ ⟨Hf2, us, outs, L, R2, n2, _⟩
    exact n2.sm.trans (Sm.of R2.sm)
  · rintro i x H2 H3 hi ⟨Hf2, us, outs, L, R2, n2, hfd, hd, r, nd, nD, nw, ho, q2⟩ y
    obtain ⟨d, hdd⟩ : ∃ d, ds[i]? = some d := ⟨ds[i], by simp [hi]⟩
    obtain ⟨Hf3, R3, n3, rx⟩ := wk.step n2.sm R2 hdd y
    have hdrop : ds.drop i = d :: ds.drop (i + 1) := by
      rw [List.drop_eq_getElem_cons hi]
      have : ds[i] = d := by
        rw [List.getElem?_eq_getElem hi] at hdd
        exact Option.some.inj hdd
      rw [this]
    rw [hdrop] at q2
    have q2 : gt d (wipeE ρ vs) (fun ρ2 => gb ρ2 (fun b => if b = true then gn ρ2 (fun y => lcO vs gt gb gn ρ (ds.drop (i + 1)) (fun r => Q' (.lst (outs ++ y :: r))) E') (fun _ => False) else lcO vs gt gb gn ρ (ds.drop (i + 1)) (fun r => Q' (.lst (outs ++ r))) E') (fun _ => False)) (fun _ => False) := q2
    have Rw := R3.wiped vs ok2
    intro z1 z2 z3 z4 z5
    obtain ⟨t, pt, et⟩ := (hg z1 z2 z3 z4 z5).ex
    refine ⟨t, pt, et B _ _ F Hf3 H3 x d _ _ _ Rw rx q2 fun ρ2 σ2 F2 R4 ag q4 => ?_⟩
    refine ⟨by rw [ag.wipe hsl, wipe_wipe], ?_⟩
    have wn : ∀ i ∈ sl, ∀ s, (wipeE ρ vs)[i]? = some s → s.own = false := fun i hi s e => by
      rw [wipeE_get, if_pos (hsl i hi)] at e
      split at e
      · cases e; rfl
      · cases e
    have eF := ag.fp wn
    subst eF
    -- pools and other slots agree
    have hp : ∀ j : Nat, ρ[j]? = some .pool → ρ2[j]? = some .pool ∧ σ2[j]? = σ[j]? := fun j e => by
      have hj : j ∉ vs := fun z => by
        have := okW_at ok1 z e
        cases this
      obtain ⟨a1, a2⟩ := ag.out j fun z => hj (hsl j z)
      rw [wipeE_get, if_neg hj] at a1
      rw [wipe_get, if_neg hj] at a2
      exact ⟨a1.trans e, a2⟩
    have hpw : ∀ b, IsPool ρ2 σ2 b → IsPool ρ σ b := fun b ⟨j, e1, e2⟩ => by
      have hj : j ∉ sl := fun z => by
        have := ag.ins j z _ e1
        cases this
      obtain ⟨a1, a2⟩ := ag.out j hj
      rw [a1, wipeE_get] at e1
      rw [a2, wipe_get] at e2
      by_cases hv : j ∈ vs
      · rw [if_pos hv] at e1
        split at e1 <;> cases e1
      · rw [if_neg hv] at e1 e2
        exact ⟨j, e1, e2⟩
    intro y1 y2 y3 y4 y5
    obtain ⟨tt, ptt, ett⟩ := (ht y1 y2 y3 y4 y5).ex
    refine ⟨tt, ptt, ett B ρ2 σ2 F2 Hf3 H3 _ _ _ R4 q4 (fun b Hf5 H5 R5 n5 q5 => ?_) fun _ _ _ _ _ _ _ _ e => e.elim⟩
    have d0 : H3 D0 = some (.lst us) ∧ Hf3 D0 = none := by
      obtain ⟨n31, o', n32, n33⟩ := n3.kp D0 _ hd hfd
      exact ⟨by rw [n32, n33 hS.2], n31⟩
    have stL : ∀ {Hf6 H6 : Hp}, Nx ρ σ Hf3 H3 Hf6 H6 → Stay Hf6 H2 H6 L := fun {Hf6 H6} n6 => R1.temps (n3.trans n6) r.there nw
    have fin : ∀ {Hf6 H6 : Hp}, Rep G B ρ2 σ2 F2 Hf6 H6 → Nx ρ2 σ2 Hf3 H3 Hf6 H6 → Rep G B ρ σ F2 Hf6 H6 ∧ Nx ρ σ Hf1 H1 Hf6 H6 ∧ Hf6 D0 = none ∧ H6 D0 = some (.lst us) ∧ Ows G.cn Hf6 H6 us outs L := fun {Hf6 H6} R6 n6 => by
      have n6' := n6.weak hpw
      obtain ⟨n61, o'', n62, n63⟩ := n6'.kp D0 _ d0.1 d0.2
      refine ⟨R3.back R6 n6' hp, (n2.trans n3).trans n6', n61, by rw [n62, n63 hS.2], r.mono (n3.sm.trans n6.sm) (stL n6')⟩
    cases b with
    | true =>
      refine iteT ?_
      intro w1 w2 w3 w4 w5
      obtain ⟨te, pe, ee⟩ := (he w1 w2 w3 w4 w5).ex
      refine ⟨te, pe, ee B ρ2 σ2 F2 Hf5 H5 _ _ _ R5 (show gn ρ2 _ _ from q5) (fun v x' M Hf6 H6 R6 n6 o6 nd6 nw6 q6 => ?_) fun _ _ _ _ _ _ _ _ e => e.elim⟩
      obtain ⟨R7, n7, f7, d7, r7⟩ := fin R6 (n5.trans n6)
      have dM : D0 ∉ M := fun z => by
        have := (fin R5 n5).2.2.2.1
        rw [nw6 D0 z] at this; cases this
      have stM : ∀ {N : List Addr}, D0 ∉ N → (∀ a ∈ N, Hf6 a = none) → Stay Hf6 H6 (upd H6 D0 (.lst (us ++ [v]))) N := fun nN hN a ha => ⟨upd_ne fun z => nN (by rw [← z]; exact ha), hN a ha⟩
      refine ⟨us, d7, Nat.lt_of_le_of_lt (by rw [r7.length]; exact ho) (Nat.lt_of_lt_of_le hi hlen), Hf6, us ++ [v], outs ++ [x'], L ++ M, R7.other f7 hB hS, n7.other hD, f7, upd_same, Ows.snoc (o6.mono (Sm.refl _) (stM dM fun a ha => (o6.there a ha).2)) (r7.mono (Sm.refl _) (stM nD fun a ha => (r7.there a ha).2)), List.nodup_append.mpr ⟨nd, nd6, fun a ha b hb z => ?_⟩, fun z => ?_, fun a ha => ?_, by simp; omega, ?_⟩
      · subst z
        exact ((fin R5 n5).2.2.2.2.there a ha).1 (nw6 a hb)
      · rcases List.mem_append.mp z with z | z
        · exact nD z
        · exact dM z
      · rcases List.mem_append.mp ha with ha | ha
        · exact nw a ha
        · exact (fin R5 n5).2.1.nn R1.sm R5.sm (nw6 a ha)
      · have : (fun r => Q' (.lst (outs ++ [x'] ++ r))) = (fun r => Q' (.lst (outs ++ x' :: r))) := by
          funext r
          rw [List.append_assoc]; rfl
        rw [this]
        exact q6
    | false =>
      refine iteF ?_
      obtain ⟨R7, n7, f7, d7, r7⟩ := fin R5 n5
      exact ⟨Hf5, us, outs, L, R7, n7, f7, d7, r7, nd, nD, nw, by omega, q5⟩
  · rintro H2 ⟨Hf2, us, outs, L, R2, n2, hfd, hd, r, nd, nD, nw, ho, q2⟩
    have e : ds.drop ds.length = [] := by simp
    rw [e] at q2
    have q2 : Q' (.lst (outs ++ [])) := q2
    rw [List.append_nil] at q2
    refine k (.ref D0) (.lst outs) (D0 :: L) Hf2 H2 R2 (s1.trans n2) (.lst hd hfd r) (List.nodup_cons.mpr ⟨nD, nd⟩) (fun a ha => ?_) q2
    rcases List.mem_cons.mp ha with rfl | ha
    · exact hH
    · exact s1.nn R.sm R1.sm (nw a ha)
theorem ent_lc {wi : TI} (hi : EiT G Wx wi gi) (hg : ∀ s H0 C cl fp, Eg G (bk X sc s H0 C cl fp) tg sl gt) (ht : ∀ s H0 C cl fp, Ets G (bk X sc s H0 C cl fp) WF ifs gb)
    (he : ∀ s H0 C cl fp, Ev G (bk X sc s H0 C cl fp) WF elt ge) {vs : List Nat} (hsl : ∀ i ∈ sl, i ∈ vs) : ElT G Wx (tLc wi (gFam X sc tg) (tFam X sc ifs) (eFam X sc elt) vs) (lcN gi vs gt gb ge) := by
  intro B ρ σ F Hf H Q' E' Q R q k kx
  refine hi B ρ σ F Hf H _ E' _ R q (fun J ds Hf1 H1 R1 s1 wk q1 => ?_) kx
  obtain ⟨⟨ok1, hlen⟩, q1⟩ := q1
  intro D0 hD
  have hB := R1.freeB hD
  have hS := R1.free1 hD
  have hfD := R1.sm.free hD
  have hH : H D0 = none := s1.nn R.sm R1.sm hD
  have ok2 : ∀ i ∈ vs, ∀ s, ρ[i]? = some s → s.own = false := fun i hi s e => okW_at ok1 hi e
  refine lc_it (n := ds.length) (G := fun H => Sm Hf1 H) (Y := fun i H x H' => J.yld i H x H') ⟨fun i H hi s => wk.go i H s hi, fun H s => wk.stop H s, fun i H x H' _ _ y => y⟩
    (fun i H => ∃ Hf2 us outs, Rep G B ρ σ F Hf2 H ∧ Nx ρ σ Hf1 H1 Hf2 H ∧ Hf2 D0 = none ∧ H D0 = some (.lst us) ∧ Rps G.cn Hf2 us outs ∧ outs.length ≤ i ∧ lcL vs gt gb ge ρ (ds.drop i) (fun r => Q' (outs ++ r)) E') ?_ ?_ ?_ ?_
  · exact ⟨Hf1, [], [], R1.laid hD, Nx.refl.other hD, hfD, upd_same, .nil, Nat.le_refl _, q1⟩
  · rintro i H' _ ⟨Hf2, us, outs, R2, n2, _⟩
    exact n2.sm.trans (Sm.of R2.sm)
  · rintro i x H2 H3 hi ⟨Hf2, us, outs, R2, n2, hfd, hd, r, ho, q2⟩ y
    obtain ⟨d, hdd⟩ : ∃ d, ds[i]? = some d := ⟨ds[i], by simp [hi]⟩
    obtain ⟨Hf3, R3, n3, rx⟩ := wk.step n2.sm R2 hdd y
    have hdrop : ds.drop i = d :: ds.drop (i + 1) := by
      rw [List.drop_eq_getElem_cons hi]
      have : ds[i] = d := by
        rw [List.getElem?_eq_getElem hi] at hdd
        exact Option.some.inj hdd
      rw [this]
    rw [hdrop] at q2
    have q2 : gt d (wipeE ρ vs) (fun ρ2 => gb ρ2 (fun b => if b = true then ge ρ2 (fun y => lcL vs gt gb ge ρ (ds.drop (i + 1)) (fun r => Q' (outs ++ y :: r)) E') (fun _ => False) else lcL vs gt gb ge ρ (ds.drop (i + 1)) (fun r => Q' (outs ++ r)) E') (fun _ => False)) (fun _ => False) := q2
    have Rw := R3.wiped vs ok2
    intro z1 z2 z3 z4 z5
    obtain ⟨t, pt, et⟩ := (hg z1 z2 z3 z4 z5).ex
    refine ⟨t, pt, et B _ _ F Hf3 H3 x d _ _ _ Rw rx q2 fun ρ2 σ2 F2 R4 ag q4 => ?_⟩
    refine ⟨by rw [ag.wipe hsl, wipe_wipe], ?_⟩
    have wn : ∀ i ∈ sl, ∀ s, (wipeE ρ vs)[i]? = some s → s.own = false := fun i hi s e => by
      rw [wipeE_get, if_pos (hsl i hi)] at e
      split at e
      · cases e; rfl
      · cases e
    have eF := ag.fp wn
    subst eF
    have hp : ∀ j : Nat, ρ[j]? = some .pool → ρ2[j]? = some .pool ∧ σ2[j]? = σ[j]? := fun j e => by
      have hj : j ∉ vs := fun z => by
        have := okW_at ok1 z e
        cases this
      obtain ⟨a1, a2⟩ := ag.out j fun z => hj (hsl j z)
      rw [wipeE_get, if_neg hj] at a1
      rw [wipe_get, if_neg hj] at a2
      exact ⟨a1.trans e, a2⟩
    have hpw : ∀ b, IsPool ρ2 σ2 b → IsPool ρ σ b := fun b ⟨j, e1, e2⟩ => by
      have hj : j ∉ sl := fun z => by
        have := ag.ins j z _ e1
        cases this
      obtain ⟨a1, a2⟩ := ag.out j hj
      rw [a1, wipeE_get] at e1
      rw [a2, wipe_get] at e2
      by_cases hv : j ∈ vs
      · rw [if_pos hv] at e1
        split at e1 <;> cases e1
      · rw [if_neg hv] at e1 e2
        exact ⟨j, e1, e2⟩
    intro y1 y2 y3 y4 y5
    obtain ⟨tt, ptt, ett⟩ := (ht y1 y2 y3 y4 y5).ex
    refine ⟨tt, ptt, ett B ρ2 σ2 F2 Hf3 H3 _ _ _ R4 q4 (fun b Hf5 H5 R5 n5 q5 => ?_) fun _ _ _ _ _ _ _ _ e => e.elim⟩
    have fin : ∀ {Hf6 H6 : Hp}, Rep G B ρ2 σ2 F2 Hf6 H6 → Nx ρ2 σ2 Hf3 H3 Hf6 H6 → Rep G B ρ σ F2 Hf6 H6 ∧ Nx ρ σ Hf1 H1 Hf6 H6 ∧ Hf6 D0 = none ∧ H6 D0 = some (.lst us) ∧ Rps G.cn Hf6 us outs := fun {Hf6 H6} R6 n6 => by
      have n6' := n6.weak hpw
      obtain ⟨n31, o', n32, n33⟩ := n3.kp D0 _ hd hfd
      obtain ⟨n61, o'', n62, n63⟩ := n6'.kp D0 _ n32 n31
      refine ⟨R3.back R6 n6' hp, (n2.trans n3).trans n6', n61, ?_, (r.mono n3.sm).mono n6.sm⟩
      rw [n62, n63 hS.2, n33 hS.2]
    cases b with
    | true =>
      refine iteT ?_
      intro w1 w2 w3 w4 w5
      obtain ⟨te, pe, ee⟩ := (he w1 w2 w3 w4 w5).ex
      refine ⟨te, pe, ee B ρ2 σ2 F2 Hf5 H5 _ _ _ R5 (show ge ρ2 _ _ from q5) (fun v d' Hf6 H6 R6 n6 r6 q6 => ?_) fun _ _ _ _ _ _ _ _ e => e.elim⟩
      obtain ⟨R7, n7, f7, d7, r7⟩ := fin R6 (n5.trans n6)
      refine ⟨us, d7, Nat.lt_of_le_of_lt (by rw [r7.length]; exact ho) (Nat.lt_of_lt_of_le hi hlen), Hf6, us ++ [v], outs ++ [d'], R7.other f7 hB hS, n7.other hD, f7, upd_same, r7.append (.one r6), by simp; omega, ?_⟩
      have : (fun r => Q' (outs ++ [d'] ++ r)) = (fun r => Q' (outs ++ d' :: r)) := by
        funext r
        rw [List.append_assoc]; rfl
      rw [this]
      exact q6
    | false =>
      refine iteF ?_
      obtain ⟨R7, n7, f7, d7, r7⟩ := fin R5 n5
      exact ⟨Hf5, us, outs, R7, n7, f7, d7, r7, by omega, q5⟩
  · rintro H2 ⟨Hf2, us, outs, R2, n2, hfd, hd, r, ho, q2⟩
    have e : ds.drop ds.length = [] := by simp
    rw [e] at q2
    have q2 : Q' (outs ++ []) := q2
    rw [List.append_nil] at q2
    exact k D0 us outs Hf2 H2 R2 (s1.trans n2) hH hfd hd r q2
theorem el_lc (hc : X.calm = true) (hN : X.N.Nodup) (hi : Ei G X Wx tg iter gi) (ok : BlkOk X.N X.env.scope sc own) (hg : ∀ s H0 C cl fp, Eg G (bk X sc s H0 C cl fp) tg sl gt) (ht : ∀ s H0 C cl fp, Ets G (bk X sc s H0 C cl fp) WF ifs gb)
    (he : ∀ s H0 C cl fp, Ev G (bk X sc s H0 C cl fp) WF elt ge) (hsl : ∀ i ∈ sl, i ∈ own.map (·.2)) (hs : ∀ x, foldedSetIterable iter X.env x = pure x := by intro _; rfl) :
    El G X Wx (.ListComp elt [⟨tg, iter, ifs, 0⟩] sc pos) (lcN gi (own.map (·.2)) gt gb ge) := by
  obtain ⟨wi, pi, ei⟩ := hi.ex
  exact ⟨_, pe_lc hc hN pi ok pg_fam pts_fam pe_fam hs, ent_lc ei hg ht he hsl⟩
theorem en_lcO (hc : X.calm = true) (hN : X.N.Nodup) (hi : Ei G X Wx tg iter gi) (ok : BlkOk X.N X.env.scope sc own) (hg : ∀ s H0 C cl fp, Eg G (bk X sc s H0 C cl fp) tg sl gt) (ht : ∀ s H0 C cl fp, Ets G (bk X sc s H0 C cl fp) WF ifs gb)
    (he : ∀ s H0 C cl fp, En G (bk X sc s H0 C cl fp) WF elt gn) (hsl : ∀ i ∈ sl, i ∈ own.map (·.2)) (hs : ∀ x, foldedSetIterable iter X.env x = pure x := by intro _; rfl) :
    En G X Wx (.ListComp elt [⟨tg, iter, ifs, 0⟩] sc pos) (lcON gi (own.map (·.2)) gt gb gn) := by
  obtain ⟨wi, pi, ei⟩ := hi.ex
  exact ⟨_, pe_lc hc hN pi ok pg_fam pts_fam pe_fam hs, ent_lcO ei hg ht he hsl⟩
end
end QL

set_option Elab.async false
set_option linter.all false
set_option maxRecDepth 100000
set_option maxHeartbeats 2000000
namespace QL
open PySem L2

/-! ### a place within an own tree -/
/-- at u stands y, a part of the tree at root; C puts another one there -/
structure Foc (cn : Nat → Addr) (Hf H : Hp) (root u : V) (y : OD) (C : OD → OD) (L M : List Addr) : Prop where
  sub : Ow cn Hf H u y L
  back : ∀ (Hf2 H2 : Hp) (y2 : OD) (L2 : List Addr), Sm Hf Hf2 → Stay Hf2 H H2 M → Ow cn Hf2 H2 u y2 L2 → ∃ F2 : List Addr, Ow cn Hf2 H2 root (C y2) F2 ∧ F2.Perm (M ++ L2)
section
variable {cn : Nat → Addr} {Hf H Hf' H' : Hp} {root u : V} {y : OD} {C : OD → OD} {L M : List Addr}
theorem Foc.here {x : OD} {F : List Addr} (o : Ow cn Hf H u x F) : Foc cn Hf H u u x id F [] := ⟨o, fun Hf2 H2 y2 L2 _ _ o2 => ⟨L2, o2, by simp⟩⟩
theorem Foc.mono (f : Foc cn Hf H root u y C L M) (m : Sm Hf Hf') (sl : Stay Hf' H H' L) (sM : Stay Hf' H H' M) : Foc cn Hf' H' root u y C L M :=
  ⟨f.sub.mono m sl, fun Hf2 H2 y2 L2 m2 st o => f.back Hf2 H2 y2 L2 (m.trans m2) (fun a ha => ⟨(st a ha).1.trans (sM a ha).1, (st a ha).2⟩) o⟩
/-- lists split at an item -/
theorem Ows.at {vs : List V} {xs : List OD} {F : List Addr} (o : Ows cn Hf H vs xs F) : ∀ {n : Nat} {z : OD}, xs[n]? = some z → ∃ v L M, vs[n]? = some v ∧ Ow cn Hf H v z L ∧ F.Perm (M ++ L) ∧
    ∀ (Hf2 H2 : Hp) (z2 : OD) (v2 : V) (L2 : List Addr), Sm Hf Hf2 → Stay Hf2 H H2 M → Ow cn Hf2 H2 v2 z2 L2 → ∃ F2, Ows cn Hf2 H2 (vs.set n v2) (xs.set n z2) F2 ∧ F2.Perm (M ++ L2) := by
  induction vs generalizing xs F with
  | nil => intro n z e; cases o; simp at e
  | cons v vs ih =>
    intro n z e
    cases o with
    | cons r t =>
      rename_i x xs L1 G
      cases n with
      | zero =>
        simp only [List.getElem?_cons_zero, Option.some.injEq] at e
        subst e
        exact ⟨v, L1, G, rfl, r, List.perm_append_comm, fun Hf2 H2 z2 v2 L2 m st o2 => ⟨L2 ++ G, .cons o2 (t.mono m st), List.perm_append_comm⟩⟩
      | succ n =>
        obtain ⟨w, L2, M2, e2, o2, p2, k2⟩ := ih t (n := n) (z := z) (by simpa using e)
        refine ⟨w, L2, L1 ++ M2, by simpa using e2, o2, ?_, fun Hf2 H2 z2 v2 L3 m st o3 => ?_⟩
        · rw [List.append_assoc]; exact p2.append_left L1
        · obtain ⟨F3, o4, p4⟩ := k2 Hf2 H2 z2 v2 L3 m st.right o3
          refine ⟨L1 ++ F3, .cons (r.mono m st.left) o4, ?_⟩
          rw [List.append_assoc]; exact p4.append_left L1
theorem set_get {α : Type} {vs : List α} {n : Nat} {v : α} (e : vs[n]? = some v) : vs.set n v = vs := by
  apply List.ext_getElem?
  intro j
  by_cases h : n = j
  · subst h; rw [List.getElem?_set_self (List.getElem?_eq_some_iff.mp e).1, e]
  · rw [List.getElem?_set_ne h]
/-- fields -/
def setF (fs : List (Str × OD)) (f : Str) (z : OD) : List (Str × OD) := match fs with
  | [] => []
  | (g, x) :: r => if (f == g) = true then (g, z) :: r else (g, x) :: setF r f z
theorem Owf.at {vs : List (Str × V)} {xs : List (Str × OD)} {F : List Addr} (o : Owf cn Hf H vs xs F) : ∀ {f : Str} {z : OD}, xs.lookup f = some z → ∃ v L M, vs.lookup f = some v ∧ Ow cn Hf H v z L ∧ F.Perm (M ++ L) ∧
    ∀ (Hf2 H2 : Hp) (z2 : OD) (L2 : List Addr), Sm Hf Hf2 → Stay Hf2 H H2 M → Ow cn Hf2 H2 v z2 L2 → ∃ F2, Owf cn Hf2 H2 vs (setF xs f z2) F2 ∧ F2.Perm (M ++ L2) := by
  induction vs generalizing xs F with
  | nil => intro f z e; cases o; simp at e
  | cons v vs ih =>
    intro f z e
    cases o with
    | cons r t =>
      rename_i g w x xs L1 G
      by_cases h : (f == g) = true
      · simp only [List.lookup, h] at e
        cases e
        refine ⟨w, L1, G, by simp only [List.lookup, h], r, List.perm_append_comm, fun Hf2 H2 z2 L2 m st o2 => ⟨L2 ++ G, ?_, List.perm_append_comm⟩⟩
        simp only [setF, h, if_true]
        exact .cons o2 (t.mono m st)
      · have h' : (f == g) = false := by simpa using h
        simp only [List.lookup, h'] at e
        obtain ⟨w2, L2, M2, e2, o2, p2, k2⟩ := ih t e
        refine ⟨w2, L2, L1 ++ M2, by simp only [List.lookup, h']; exact e2, o2, ?_, fun Hf2 H2 z2 L3 m st o3 => ?_⟩
        · rw [List.append_assoc]; exact p2.append_left L1
        · obtain ⟨F3, o4, p4⟩ := k2 Hf2 H2 z2 L3 m st.right o3
          refine ⟨L1 ++ F3, ?_, ?_⟩
          · simp only [setF, h', Bool.false_eq_true, if_false]
            exact .cons (r.mono m st.left) o4
          · rw [List.append_assoc]; exact p4.append_left L1
theorem Owf.none {vs : List (Str × V)} {xs : List (Str × OD)} {F : List Addr} (o : Owf cn Hf H vs xs F) {f : Str} (e : xs.lookup f = none) : vs.lookup f = none := by
  induction vs generalizing xs F with
  | nil => rfl
  | cons v vs ih =>
    cases o with
    | cons r t =>
      rename_i g w x xs L1 G
      by_cases h : (f == g) = true
      · simp only [List.lookup, h] at e; cases e
      · have h' : (f == g) = false := by simpa using h
        simp only [List.lookup, h'] at e ⊢
        exact ih t e
/-- dicts -/
theorem Owt.at {vs : List (List Key × V)} {xs : List (List Key × OD)} {F : List Addr} (o : Owt cn Hf H vs xs F) : ∀ {k : List Key} {z : OD}, getA xs k = some z → ∃ v L M, valV vs k = some v ∧ Ow cn Hf H v z L ∧ F.Perm (M ++ L) ∧
    ∀ (Hf2 H2 : Hp) (z2 : OD) (L2 : List Addr), Sm Hf Hf2 → Stay Hf2 H H2 M → Ow cn Hf2 H2 v z2 L2 → ∃ xs2 F2, Owt cn Hf2 H2 vs xs2 F2 ∧ F2.Perm (M ++ L2) ∧ xs2 = (match xs.findIdx? (fun kv => decide (kv.1 = k)) with | some n => xs.set n (k, z2) | none => xs) := by
  induction vs generalizing xs F with
  | nil => intro f z e; cases o; simp [getA] at e
  | cons v vs ih =>
    intro k z e
    cases o with
    | cons r t =>
      rename_i g w x xs L1 G
      by_cases h : g = k
      · subst h
        simp only [getA, List.find?_cons, decide_true, Option.map_some, Option.some.injEq] at e
        subst e
        refine ⟨w, L1, G, valV_pos rfl, r, List.perm_append_comm, fun Hf2 H2 z2 L2 m st o2 => ⟨_, L2 ++ G, .cons o2 (t.mono m st), List.perm_append_comm, ?_⟩⟩
        simp [List.findIdx?_cons]
      · have e' : getA xs k = some z := by simpa [getA, List.find?_cons, h] using e
        obtain ⟨w2, L2, M2, e2, o2, p2, k2⟩ := ih t e'
        refine ⟨w2, L2, L1 ++ M2, by rw [valV_neg h]; exact e2, o2, ?_, fun Hf2 H2 z2 L3 m st o3 => ?_⟩
        · rw [List.append_assoc]; exact p2.append_left L1
        · obtain ⟨xs3, F3, o4, p4, e4⟩ := k2 Hf2 H2 z2 L3 m st.right o3
          refine ⟨_, L1 ++ F3, .cons (r.mono m st.left) o4, ?_, ?_⟩
          · rw [List.append_assoc]; exact p4.append_left L1
          · rw [e4]
            simp only [List.findIdx?_cons, h, decide_false, Bool.false_eq_true, if_false]
            cases hf : xs.findIdx? (fun kv => decide (kv.1 = k)) <;> simp [hf]
end
/-- what stands at a key exchanged -/
def setT {κ : Type} [DecidableEq κ] (xs : List (κ × OD)) (k : κ) (z : OD) : List (κ × OD) := match xs with
  | [] => []
  | (g, x) :: r => if g = k then (g, z) :: r else (g, x) :: setT r k z
section
variable {cn : Nat → Addr} {Hf H Hf' H' : Hp}
theorem setT_find {κ : Type} [DecidableEq κ] {k : κ} {z : OD} : ∀ {xs : List (κ × OD)}, (match xs.findIdx? (fun kv => decide (kv.1 = k)) with | some n => xs.set n (k, z) | none => xs) = setT xs k z
  | [] => rfl
  | (g, x) :: r => by
    by_cases h : g = k
    · subst h; simp [setT, List.findIdx?_cons]
    · have ih := setT_find (k := k) (z := z) (xs := r)
      simp only [setT, h, if_false, List.findIdx?_cons, decide_false, Bool.false_eq_true]
      rw [← ih]
      cases hf : r.findIdx? (fun kv => decide (kv.1 = k)) <;> simp [hf]
/-! steps of a path -/
theorem Foc.fld {root u : V} {c : Nat} {fs : List (Str × OD)} {f : Str} {z : OD} {C : OD → OD} {L M : List Addr} (h : Foc cn Hf H root u (.ins c fs) C L M) (e : fs.lookup f = some z) :
    ∃ p dx vs v L2 M2, u = .ref p ∧ H p = some (.ins (cn c) dx vs) ∧ vs.lookup f = some v ∧ Foc cn Hf H root v z (fun w => C (.ins c (setF fs f w))) L2 M2 ∧ (M ++ L).Perm (M2 ++ L2) := by
  cases h.sub with
  | @ins p dx _ vs _ F hp hf t =>
    obtain ⟨v, L2, M2, e2, o2, p2, k2⟩ := t.at e
    refine ⟨p, dx, vs, v, L2, p :: M ++ M2, rfl, hp, e2, ⟨o2, fun Hf2 H2 y2 L3 m st o3 => ?_⟩, ?_⟩
    · obtain ⟨F3, o4, p4⟩ := k2 Hf2 H2 y2 L3 m (fun a ha => st a (by simp [ha])) o3
      have s0 := st p (by simp)
      obtain ⟨F4, o5, p5⟩ := h.back Hf2 H2 _ (p :: F3) m (fun a ha => st a (by simp [ha])) (.ins (s0.1.trans hp) s0.2 o4)
      refine ⟨F4, o5, p5.trans ?_⟩
      have : (M ++ p :: F3).Perm (M ++ p :: (M2 ++ L3)) := (p4.cons p).append_left M
      refine this.trans ?_
      have q : (M ++ p :: (M2 ++ L3)).Perm (p :: (M ++ (M2 ++ L3))) := List.perm_middle
      simpa using q
    · have q : (M ++ p :: F).Perm (M ++ p :: (M2 ++ L2)) := (p2.cons p).append_left M
      refine q.trans ?_
      have q : (M ++ p :: (M2 ++ L2)).Perm (p :: (M ++ (M2 ++ L2))) := List.perm_middle
      simpa using q
theorem Foc.ixL {root u : V} {xs : List OD} {n : Nat} {z : OD} {C : OD → OD} {L M : List Addr} (h : Foc cn Hf H root u (.lst xs) C L M) (e : xs[n]? = some z) :
    ∃ p vs v L2 M2, u = .ref p ∧ H p = some (.lst vs) ∧ vs.length = xs.length ∧ vs[n]? = some v ∧ Foc cn Hf H root v z (fun w => C (.lst (xs.set n w))) L2 M2 ∧ (M ++ L).Perm (M2 ++ L2) := by
  cases h.sub with
  | @lst p vs _ F hp hf t =>
    obtain ⟨v, L2, M2, e2, o2, p2, k2⟩ := t.at e
    refine ⟨p, vs, v, L2, p :: M ++ M2, rfl, hp, t.length, e2, ⟨o2, fun Hf2 H2 y2 L3 m st o3 => ?_⟩, ?_⟩
    · obtain ⟨F3, o4, p4⟩ := k2 Hf2 H2 y2 v L3 m (fun a ha => st a (by simp [ha])) o3
      rw [set_get e2] at o4
      have s0 := st p (by simp)
      obtain ⟨F4, o5, p5⟩ := h.back Hf2 H2 _ (p :: F3) m (fun a ha => st a (by simp [ha])) (.lst (s0.1.trans hp) s0.2 o4)
      refine ⟨F4, o5, p5.trans ?_⟩
      have : (M ++ p :: F3).Perm (M ++ p :: (M2 ++ L3)) := (p4.cons p).append_left M
      refine this.trans ?_
      have q : (M ++ p :: (M2 ++ L3)).Perm (p :: (M ++ (M2 ++ L3))) := List.perm_middle
      simpa using q
    · have q : (M ++ p :: F).Perm (M ++ p :: (M2 ++ L2)) := (p2.cons p).append_left M
      refine q.trans ?_
      have q : (M ++ p :: (M2 ++ L2)).Perm (p :: (M ++ (M2 ++ L2))) := List.perm_middle
      simpa using q
theorem Foc.ixT {root u : V} {xs : List OD} {n : Nat} {z : OD} {C : OD → OD} {L M : List Addr} (h : Foc cn Hf H root u (.tup xs) C L M) (e : xs[n]? = some z) :
    ∃ p vs v L2 M2, u = .ref p ∧ H p = some (.tup vs) ∧ vs.length = xs.length ∧ vs[n]? = some v ∧ Foc cn Hf H root v z (fun w => C (.tup (xs.set n w))) L2 M2 ∧ (M ++ L).Perm (M2 ++ L2) := by
  cases h.sub with
  | @tup p vs _ F hp hf t =>
    obtain ⟨v, L2, M2, e2, o2, p2, k2⟩ := t.at e
    refine ⟨p, vs, v, L2, p :: M ++ M2, rfl, hp, t.length, e2, ⟨o2, fun Hf2 H2 y2 L3 m st o3 => ?_⟩, ?_⟩
    · obtain ⟨F3, o4, p4⟩ := k2 Hf2 H2 y2 v L3 m (fun a ha => st a (by simp [ha])) o3
      rw [set_get e2] at o4
      have s0 := st p (by simp)
      obtain ⟨F4, o5, p5⟩ := h.back Hf2 H2 _ (p :: F3) m (fun a ha => st a (by simp [ha])) (.tup (s0.1.trans hp) s0.2 o4)
      refine ⟨F4, o5, p5.trans ?_⟩
      have : (M ++ p :: F3).Perm (M ++ p :: (M2 ++ L3)) := (p4.cons p).append_left M
      refine this.trans ?_
      have q : (M ++ p :: (M2 ++ L3)).Perm (p :: (M ++ (M2 ++ L3))) := List.perm_middle
      simpa using q
    · have q : (M ++ p :: F).Perm (M ++ p :: (M2 ++ L2)) := (p2.cons p).append_left M
      refine q.trans ?_
      have q : (M ++ p :: (M2 ++ L2)).Perm (p :: (M ++ (M2 ++ L2))) := List.perm_middle
      simpa using q
theorem Foc.key {root u : V} {xs : List (List Key × OD)} {k : List Key} {z : OD} {C : OD → OD} {L M : List Addr} (h : Foc cn Hf H root u (.dT xs) C L M) (e : getA xs k = some z) :
    ∃ p vs v L2 M2, u = .ref p ∧ H p = some (.dT vs) ∧ valV vs k = some v ∧ Foc cn Hf H root v z (fun w => C (.dT (setT xs k w))) L2 M2 ∧ (M ++ L).Perm (M2 ++ L2) := by
  cases h.sub with
  | @dT p vs _ F hp hf t =>
    obtain ⟨v, L2, M2, e2, o2, p2, k2⟩ := t.at e
    refine ⟨p, vs, v, L2, p :: M ++ M2, rfl, hp, e2, ⟨o2, fun Hf2 H2 y2 L3 m st o3 => ?_⟩, ?_⟩
    · obtain ⟨xs3, F3, o4, p4, e4⟩ := k2 Hf2 H2 y2 L3 m (fun a ha => st a (by simp [ha])) o3
      rw [setT_find] at e4
      subst e4
      have s0 := st p (by simp)
      obtain ⟨F4, o5, p5⟩ := h.back Hf2 H2 _ (p :: F3) m (fun a ha => st a (by simp [ha])) (.dT (s0.1.trans hp) s0.2 o4)
      refine ⟨F4, o5, p5.trans ?_⟩
      have : (M ++ p :: F3).Perm (M ++ p :: (M2 ++ L3)) := (p4.cons p).append_left M
      refine this.trans ?_
      have q : (M ++ p :: (M2 ++ L3)).Perm (p :: (M ++ (M2 ++ L3))) := List.perm_middle
      simpa using q
    · have q : (M ++ p :: F).Perm (M ++ p :: (M2 ++ L2)) := (p2.cons p).append_left M
      refine q.trans ?_
      have q : (M ++ p :: (M2 ++ L2)).Perm (p :: (M ++ (M2 ++ L2))) := List.perm_middle
      simpa using q
end

/-- a slot with another tree -/
def Sl.with : Sl → OD → Sl
  | .ow _, x => .ow x
  | .bw _, x => .bw x
  | .ln p _, x => .ln p x
  | s, _ => s
def Sl.tree : Sl → Option OD
  | .ow x => some x
  | .bw x => some x
  | .ln _ x => some x
  | _ => none
section
variable {G : Ctx} {B : Bs} {ρ : Env} {σ : St} {F : Fps} {Hf H Hf' H' : Hp}
theorem Rep.tree {i : Nat} {s : Sl} {x : OD} (R : Rep G B ρ σ F Hf H) (e : ρ[i]? = some s) (t : s.tree = some x) : ∃ root, σ[i]? = some (some root) ∧ Ow G.cn Hf H root x (F.getD i []) := by
  have q := R.sl i s e
  cases s <;> simp only [Sl.tree, Option.some.injEq, reduceCtorEq] at t <;> subst t
  · obtain ⟨u, e1, o, _⟩ := q; exact ⟨u, e1, o⟩
  · obtain ⟨u, e1, _, o⟩ := q; exact ⟨u, e1, o⟩
  · obtain ⟨e1, o, _⟩ := q; exact ⟨_, e1, o⟩
/-- the place's part is changed: its cells, and new ones -/
theorem Rep.focus {i : Nat} {s : Sl} {x y y2 : OD} {root u : V} {C : OD → OD} {L M L2 : List Addr} (R : Rep G B ρ σ F Hf H) (e : ρ[i]? = some s) (t : s.tree = some x) (er : σ[i]? = some (some root)) (pm : (F.getD i []).Perm (M ++ L)) (f : Foc G.cn Hf H root u y C L M)
    (m : Sm Hf Hf') (sm : Same Hf' H') (hk : ∀ a, a ∉ L → H a ≠ none → Hf a = none → H' a = H a ∧ Hf' a = none) (hd : ∀ a, H a ≠ none → H' a ≠ none) (hz : ∀ a ∈ L, B.H a ≠ none → Hf' a = none) (o2 : Ow G.cn Hf' H' u y2 L2) (nd : L2.Nodup) (hL : ∀ a ∈ L2, a ∈ L ∨ H a = none) :
    ∃ F2, Rep G B (ρ.set i (s.with (C y2))) σ (F.set i F2) Hf' H' := by
  have ndF : (M ++ L).Nodup := pm.nodup_iff.mp (flat_at R.nd)
  have ndp := List.nodup_append.mp ndF
  have inF : ∀ {a}, a ∈ M ++ L → a ∈ F.getD i [] := fun h => pm.mem_iff.mpr h
  have stM : Stay Hf' H H' M := fun a ha => by
    have c := R.cell (mem_flat (inF (List.mem_append_left _ ha)))
    exact hk a (fun z => ndp.2.2 a ha a z rfl) c.1 c.2
  obtain ⟨F2, o3, p3⟩ := f.back Hf' H' y2 L2 m stM o2
  have nd2 : (M ++ L2).Nodup := List.nodup_append.mpr ⟨ndp.1, nd, fun a ha b hb z => by
    subst z
    rcases hL a hb with h | h
    · exact ndp.2.2 a ha a h rfl
    · exact (R.cell (mem_flat (inF (List.mem_append_left _ ha)))).1 h⟩
  have mem2 : ∀ a ∈ F2, a ∈ F.getD i [] ∨ H a = none := fun a ha => by
    rcases List.mem_append.mp (p3.mem_iff.mp ha) with h | h
    · exact .inl (inF (List.mem_append_left _ h))
    · exact (hL a h).imp (fun h => inF (List.mem_append_right _ h)) id
  have kk : (s.with (C y2)).uniq = true := by cases s <;> first | rfl | cases t
  refine ⟨F2, R.change e kk m sm (fun a ha => hk a fun z => ha (inF (List.mem_append_right _ z))) hd (fun a ha hb => ?_) ?_ (p3.nodup_iff.mpr nd2) mem2⟩
  · rcases List.mem_append.mp (pm.mem_iff.mp ha) with h | h
    · exact (stM a h).2
    · exact hz a h hb
  · have q := R.sl i s e
    cases s <;> simp only [Sl.tree, Option.some.injEq, reduceCtorEq] at t <;> subst t
    · obtain ⟨u', e1, o, n⟩ := q
      exact ⟨root, er, o3, fun a ha => (mem2 a ha).elim (n a) R.freeB⟩
    · obtain ⟨u', e1, e2, o⟩ := q
      exact ⟨root, er, e2, o3⟩
    · obtain ⟨e1, o, n⟩ := q; rw [e1] at er; cases er; exact ⟨e1, o3, fun a ha => (mem2 a ha).elim (n a) R.freeB⟩
end

/-! ### paths: expressions that lead to a place in a slot's tree -/
abbrev Pl := OD × (OD → OD)
def EfT (G : Ctx) (Wx : WX) (i : Nat) (t : TE) (g : Env → W Pl) : Prop :=
  ∀ (B : Bs) (ρ : Env) (σ : St) (F : Fps) (Hf H : Hp) (Q' : Pl → Prop) (E' : Xc → Prop) (Q : VK), Rep G B ρ σ F Hf H → g ρ Q' E' →
    (∀ s x root u y C L M Hf' H', Rep G B ρ σ F Hf' H' → Nx ρ σ Hf H Hf' H' → ρ[i]? = some s → s.tree = some x → σ[i]? = some (some root) → (F.getD i []).Perm (M ++ L) → Foc G.cn Hf' H' root u y C L M → Q' (y, C) → Q u H') → XPost G Wx σ F Hf H B ρ E' → t σ H Q
structure Ef (G : Ctx) (X : Cx) (Wx : WX) (i : Nat) (e : Expr) (g : Env → W Pl) : Prop where
  ex : ∃ t, PE X e t ∧ EfT G Wx i t g
def treeS (s : Option Sl) : W OD := fun Q _ => ∃ x, (s.bind Sl.tree) = some x ∧ Q x
def fVar (i : Nat) : Env → W Pl := fun ρ Q E => treeS ρ[i]? (fun x => Q (x, id)) E
def fFld (c : Nat) (f : Str) (g : Env → W Pl) : Env → W Pl := fun ρ Q E => g ρ (fun p => ∃ fs z, p.1 = .ins c fs ∧ fs.lookup f = some z ∧ Q (z, fun w => p.2 (.ins c (setF fs f w)))) E
def ixO (y : OD) (j : Int) : W (OD × (OD → OD)) := fun Q _ => match y with
  | .lst xs => ∃ n z, ixN xs.length j = some n ∧ xs[n]? = some z ∧ Q (z, fun w => .lst (xs.set n w))
  | .tup xs => ∃ n z, ixN xs.length j = some n ∧ xs[n]? = some z ∧ Q (z, fun w => .tup (xs.set n w))
  | _ => False
def fIx (g : Env → W Pl) (gk : Env → W D) : Env → W Pl := fun ρ Q E => g ρ (fun p => gk ρ (fun k => ∃ j, k = .int j ∧ ixO p.1 j (fun q => Q (q.1, fun w => p.2 (q.2 w))) E) E) E
/-- keys of dicts -/
def keyD : D → Option Key
  | .int i => some (.inl i)
  | .str x => some (.inr x)
  | _ => none
def keysD : List D → Option (List Key)
  | [] => some []
  | d :: ds => (keyD d).bind fun k => (keysD ds).map fun ks => k :: ks
def fKey (g : Env → W Pl) (gk : Env → W D) : Env → W Pl := fun ρ Q E => g ρ (fun p => gk ρ (fun k => ∃ ds ks xs z, k = .tup ds ∧ keysD ds = some ks ∧ p.1 = .dT xs ∧ getA xs ks = some z ∧ Q (z, fun w => p.2 (.dT (setT xs ks w)))) E) E
section
variable {G : Ctx} {X : Cx} {Wx : WX} {i : Nat} {a b c e o k : Expr} {ga gb gc : Env → W D} {g : Env → W Pl} {pos p2 : Pos}
theorem Foc.nx {ρ : Env} {σ : St} {B : Bs} {F : Fps} {Hf H Hf' H' : Hp} {root u : V} {y : OD} {C : OD → OD} {L M : List Addr} (R : Rep G B ρ σ F Hf H) (pm : (F.getD i []).Perm (M ++ L)) (f : Foc G.cn Hf H root u y C L M) (n : Nx ρ σ Hf H Hf' H') : Foc G.cn Hf' H' root u y C L M := by
  have st : Stay Hf' H H' (M ++ L) := n.stay (fun a ha => R.cell (mem_flat (pm.mem_iff.mpr ha))) fun a ha => R.np a (mem_flat (pm.mem_iff.mpr ha))
  exact f.mono n.sm st.right st.left
theorem ef_var {x : Str} (h : PE X (.Name x pos) (tVar i)) : Ef G X Wx i (.Name x pos) (fVar i) := by
  refine ⟨_, h, ?_⟩
  intro B ρ σ F Hf H Q' E' Q R q k kx
  obtain ⟨x, e, q⟩ := q
  cases hs : ρ[i]? with
  | none => rw [hs] at e; cases e
  | some s =>
    rw [hs] at e
    obtain ⟨root, er, o⟩ := R.tree hs e
    exact ⟨root, er, k s x root root x id (F.getD i []) [] Hf H R Nx.refl hs e er (by simp) (Foc.here o) q⟩
theorem ef_fld {f : Str} {C : Nat} (h : Ef G X Wx i e g) (hC : Cls X.K (G.cn C)) (hN : NoAttr X.K (G.cn C) f) (hb : attributeBase e f X.env (eval e X.env) = eval e X.env) : Ef G X Wx i (.Attribute e f pos) (fFld C f g) := by
  obtain ⟨t, p, ev⟩ := h.ex
  refine ⟨_, pe_fld p hb, ?_⟩
  intro B ρ σ F Hf H Q' E' Q R q k kx
  refine ev B ρ σ F Hf H _ E' _ R q (fun s x root u y D L M Hf1 H1 R1 n1 es et er pm fo q1 => ?_) kx
  obtain ⟨fs, z, e1, e2, q1⟩ := q1
  subst e1
  obtain ⟨p, dx, vs, v, L2, M2, rfl, hp, hv, fo2, pm2⟩ := fo.fld e2
  exact ⟨p, _, dx, vs, v, rfl, hp, hC, hN, hv, k s x root v z _ L2 M2 Hf1 H1 R1 n1 es et er (pm.trans pm2) fo2 q1⟩
theorem ef_ix (h : Ef G X Wx i e g) (hk : Ev G X Wx k gb) (hs : PlainIx k) (hK : X.K = G.K) : Ef G X Wx i (.Subscript e k pos) (fIx g gb) := by
  obtain ⟨t, p, ev⟩ := h.ex
  obtain ⟨tk, pk, ek⟩ := hk.ex
  refine ⟨_, pe_ix op_ix p pk hs, ?_⟩
  intro B ρ σ F Hf H Q' E' Q R q kk kx
  refine ev B ρ σ F Hf H _ E' _ R q (fun s x root u y D L M Hf1 H1 R1 n1 es et er pm fo q1 => ?_) kx
  refine ek B ρ σ F Hf1 H1 _ E' _ R1 q1 (fun v d Hf2 H2 R2 n2 r2 q2 => ?_) (kx.mono n1)
  obtain ⟨j, rfl, q2⟩ := q2
  cases r2
  have fo2 := fo.nx R1 pm n2
  cases y <;> first | exact False.elim q2 | skip
  · rename_i xs
    obtain ⟨n, z, hn, hz, q2⟩ := q2
    obtain ⟨p, vs, v, L5, M2, rfl, hp, hl, hv, fo3, pm2⟩ := fo2.ixL hz
    exact .inl ⟨p, vs, j, v, rfl, rfl, SqL.of hp, by unfold L2.atI; rw [hl, hn]; exact hv, kk s x root v z _ L5 M2 Hf2 H2 R2 (n1.trans n2) es et er (pm.trans pm2) fo3 q2⟩
  · rename_i xs
    obtain ⟨n, z, hn, hz, q2⟩ := q2
    obtain ⟨p, vs, v, L5, M2, rfl, hp, hl, hv, fo3, pm2⟩ := fo2.ixT hz
    exact .inr ⟨p, vs, j, v, rfl, rfl, SqT.of hp, by unfold L2.atI; rw [hl, hn]; exact hv, kk s x root v z _ L5 M2 Hf2 H2 R2 (n1.trans n2) es et er (pm.trans pm2) fo3 q2⟩
theorem keyD_kV {cn : Nat → Addr} {H : Hp} {v : V} {d : D} {k : Key} (r : Rp cn H v d) (e : keyD d = some k) : v = kV k := by
  cases r <;> simp only [keyD, Option.some.injEq, reduceCtorEq] at e <;> subst e <;> rfl
theorem keysD_kV {cn : Nat → Addr} {H : Hp} : ∀ {vs : List V} {ds : List D} {ks : List Key}, Rps cn H vs ds → keysD ds = some ks → vs = ks.map kV
  | _, _, _, .nil, e => by simp only [keysD, Option.some.injEq] at e; subst e; rfl
  | _, _, _, .cons r t, e => by
    simp only [keysD, Option.bind_eq_some_iff, Option.map_eq_some_iff] at e
    obtain ⟨k, e1, ks, e2, rfl⟩ := e
    rw [keyD_kV r e1, keysD_kV t e2]; rfl
theorem ef_key (h : Ef G X Wx i e g) (hk : Ev G X Wx k gb) (hu : X.A.units + 1 < cLine) (hs : NoSl k) : Ef G X Wx i (.Subscript e k pos) (fKey g gb) := by
  obtain ⟨t, p, ev⟩ := h.ex
  obtain ⟨tk, pk, ek⟩ := hk.ex
  refine ⟨_, pe_dget hu p pk hs, ?_⟩
  intro B ρ σ F Hf H Q' E' Q R q kk kx
  refine ev B ρ σ F Hf H _ E' _ R q (fun s x root u y D L M Hf1 H1 R1 n1 es et er pm fo q1 => ?_) kx
  refine ek B ρ σ F Hf1 H1 _ E' _ R1 q1 (fun v d Hf2 H2 R2 n2 r2 q2 => ?_) (kx.mono n1)
  obtain ⟨ds, ks, xs, z, rfl, hks, e1, hz, q2⟩ := q2
  have e1 : y = .dT xs := e1
  subst e1
  cases r2 with
  | tup hb rb =>
    have ek := keysD_kV rb hks
    subst ek
    obtain ⟨p, vs, v, L2, M2, rfl, hp, hv, fo3, pm2⟩ := (fo.nx R1 pm n2).key hz
    exact ⟨p, v, rfl, by rw [← hv]; exact DGet.t hp (R2.sm _ _ hb), kk s x root v z _ L2 M2 Hf2 H2 R2 (n1.trans n2) es et er (pm.trans pm2) fo3 q2⟩
/-- a frozen thing at such a place -/
def rdF (g : Env → W Pl) : Env → W D := fun ρ Q E => g ρ (fun p => ∃ d, p.1 = .fz d ∧ Q d) E
theorem ev_path (h : Ef G X Wx i e g) : Ev G X Wx e (rdF g) := by
  obtain ⟨t, p, ev⟩ := h.ex
  refine ⟨_, p, ?_⟩
  intro B ρ σ F Hf H Q' E' Q R q k kx
  refine ev B ρ σ F Hf H _ E' _ R q (fun s x root u y D L M Hf1 H1 R1 n1 es et er pm fo q1 => ?_) kx
  obtain ⟨d, e1, q1⟩ := q1
  have e1 : y = .fz d := e1
  subst e1
  cases fo.sub with
  | fz r => exact k u d Hf1 H1 R1 n1 r q1
/-- its length -/
def lenF (g : Env → W Pl) : Env → W D := fun ρ Q E => g ρ (fun p => (∃ xs, p.1 = .lst xs ∧ Q (.int xs.length)) ∨ (∃ xs, p.1 = .tup xs ∧ Q (.int xs.length))) E
theorem ev_lenF {p : Pos} (hp : ∀ t, PE X e t → PE X (.Call (.Name "len" p) [e] [] pos) (tCB (rLenX X.K) (tCons t tNil))) (h : Ef G X Wx i e g) : Ev G X Wx (.Call (.Name "len" p) [e] [] pos) (lenF g) := by
  obtain ⟨t, p, ev⟩ := h.ex
  refine ⟨_, hp _ p, ?_⟩
  intro B ρ σ F Hf H Q' E' Q R q k kx
  refine ev B ρ σ F Hf H _ E' _ R q (fun s x root u y D L M Hf1 H1 R1 n1 es et er pm fo q1 => ?_) kx
  rcases q1 with ⟨xs, e1, q1⟩ | ⟨xs, e1, q1⟩
  · have e1 : y = .lst xs := e1
    subst e1
    cases fo.sub with
    | lst hp hf t => exact ⟨_, _, rfl, .inl (SqL.of hp), k _ _ Hf1 H1 R1 n1 (by rw [t.length]; exact .int _) q1⟩
  · have e1 : y = .tup xs := e1
    subst e1
    cases fo.sub with
    | tup hp hf t => exact ⟨_, _, rfl, .inr (SqT.of hp), k _ _ Hf1 H1 R1 n1 (by rw [t.length]; exact .int _) q1⟩
end
end QL

set_option Elab.async false
set_option linter.all false
set_option maxRecDepth 100000
set_option maxHeartbeats 2000000
namespace QL
open PySem L2

/-! ### statements -/
inductive Fl where
  | nx | rt (d : D) | ro (x : OD) | bk | ct
abbrev Ws := (Fl → Env → Prop) → (Xc → Env → Prop) → Prop
structure SPost (G : Ctx) (B : Bs) (Hf : Hp) (Q' : Fl → Env → Prop) (Dd : Ends) : Prop where
  nx : ∀ ρ' σ' F' Hf' H', Rep G B ρ' σ' F' Hf' H' → Sm Hf Hf' → Q' .nx ρ' → Dd.nx σ' H'
  rt : ∀ ρ' σ' F' v d Hf' H', Rep G B ρ' σ' F' Hf' H' → Sm Hf Hf' → Rp G.cn Hf' v d → Q' (.rt d) ρ' → Dd.rt v H'
  ro : ∀ ρ' σ' F' u x L Hf' H', Rep G B ρ' σ' F' Hf' H' → Sm Hf Hf' → Ow G.cn Hf' H' u x L → L.Nodup → (∀ a ∈ L, B.H a = none) → (∀ a ∈ L, NoOne ρ' σ' F' a) → Q' (.ro x) ρ' → Dd.rt u H'
  bk : ∀ ρ' σ' F' Hf' H', Rep G B ρ' σ' F' Hf' H' → Sm Hf Hf' → Q' .bk ρ' → Dd.bk σ' H'
  ct : ∀ ρ' σ' F' Hf' H', Rep G B ρ' σ' F' Hf' H' → Sm Hf Hf' → Q' .ct ρ' → Dd.ct σ' H'
theorem SPost.mono {G : Ctx} {B : Bs} {Hf Hf1 : Hp} {Q' : Fl → Env → Prop} {Dd : Ends} (p : SPost G B Hf Q' Dd) (s : Sm Hf Hf1) : SPost G B Hf1 Q' Dd :=
  ⟨fun ρ' σ' F' Hf' H' R s' q => p.nx ρ' σ' F' Hf' H' R (s.trans s') q, fun ρ' σ' F' v d Hf' H' R s' r q => p.rt ρ' σ' F' v d Hf' H' R (s.trans s') r q, fun ρ' σ' F' u x L Hf' H' R s' => p.ro ρ' σ' F' u x L Hf' H' R (s.trans s'),
    fun ρ' σ' F' Hf' H' R s' q => p.bk ρ' σ' F' Hf' H' R (s.trans s') q, fun ρ' σ' F' Hf' H' R s' q => p.ct ρ' σ' F' Hf' H' R (s.trans s') q⟩
def XPostS (G : Ctx) (Wx : WX) (B : Bs) (Hf : Hp) (E' : Xc → Env → Prop) : Prop :=
  ∀ x cls d ρ' σ' F' Hf' H', Rep G B ρ' σ' F' Hf' H' → Sm Hf Hf' → XRep G Hf' x cls d → E' x ρ' → Wx cls d σ' H'
theorem XPostS.mono {G : Ctx} {Wx : WX} {B : Bs} {Hf Hf1 : Hp} {E' : Xc → Env → Prop} (p : XPostS G Wx B Hf E') (s : Sm Hf Hf1) : XPostS G Wx B Hf1 E' :=
  fun x cls d ρ' σ' F' Hf' H' R s' xr e => p x cls d ρ' σ' F' Hf' H' R (s.trans s') xr e
theorem XPostS.at {G : Ctx} {Wx : WX} {B : Bs} {F : Fps} {Hf H : Hp} {E' : Xc → Env → Prop} {ρ : Env} {σ : St} (p : XPostS G Wx B Hf E') : XPost G Wx σ F Hf H B ρ (fun x => E' x ρ) :=
  fun x cls d Hf' H' R n xr e => p x cls d ρ σ F Hf' H' R n.sm xr e
def EsT (G : Ctx) (Wx : WX) (t : TS) (g : Env → Ws) : Prop :=
  ∀ (B : Bs) (ρ : Env) (σ : St) (F : Fps) (Hf H : Hp) (Q' : Fl → Env → Prop) (E' : Xc → Env → Prop) (Dd : Ends), Rep G B ρ σ F Hf H → g ρ Q' E' → SPost G B Hf Q' Dd → XPostS G Wx B Hf E' → t Dd σ H
structure Es (G : Ctx) (X : Cx) (Wx : WX) (st : Stmt) (g : Env → Ws) : Prop where
  ex : ∃ t, PS X st t ∧ EsT G Wx t g
structure Ess (G : Ctx) (X : Cx) (Wx : WX) (sts : List Stmt) (g : Env → Ws) : Prop where
  ex : ∃ t, PSs X sts t ∧ EsT G Wx t g
def sNx : Env → Ws := fun ρ Q _ => Q .nx ρ
def sSeq (f g : Env → Ws) : Env → Ws := fun ρ Q E => f ρ (fun fl ρ1 => match fl with | .nx => g ρ1 Q E | o => Q o ρ1) E
def sBk : Env → Ws := fun ρ Q _ => Q .bk ρ
def sCt : Env → Ws := fun ρ Q _ => Q .ct ρ
def sRet (g : Env → W D) : Env → Ws := fun ρ Q E => g ρ (fun d => Q (.rt d) ρ) (fun x => E x ρ)
def sRetO (g : Env → W OD) : Env → Ws := fun ρ Q E => g ρ (fun x => Q (.ro x) ρ) (fun x => E x ρ)
/-- return x, x a tree of one's own -/
def sRetS (i : Nat) : Env → Ws := fun ρ Q _ => ∃ x, ρ[i]? = some (.ow x) ∧ Q (.ro x) (ρ.set i .un)
def sRetN : Env → Ws := fun ρ Q _ => Q (.rt .non) ρ
def sDrop (g : Env → W D) : Env → Ws := fun ρ Q E => g ρ (fun _ => Q .nx ρ) (fun x => E x ρ)
def sIf (c : Env → W Bool) (f g : Env → Ws) : Env → Ws := fun ρ Q E => c ρ (fun b => if b = true then f ρ Q E else g ρ Q E) (fun x => E x ρ)
def sSet (i : Nat) (g : Env → W D) : Env → Ws := fun ρ Q E => g ρ (fun d => Q .nx (ρ.set i (.fz d))) (fun x => E x ρ)
def sSetO (i : Nat) (g : Env → W OD) : Env → Ws := fun ρ Q E => g ρ (fun x => Q .nx (ρ.set i (.ow x))) (fun x => E x ρ)
def sAsg (g : Env → W D) (t : D → Env → W Env) : Env → Ws := fun ρ Q E => g ρ (fun d => t d ρ (fun ρ' => Q .nx ρ') (fun _ => False)) (fun x => E x ρ)
def sNever : Env → Ws := fun _ _ _ => False
/-- a tree of one's own is frozen ahead of a statement; a slot is forgotten -/
def sFrz (i : Nat) (g : Env → Ws) : Env → Ws := fun ρ Q E => ∃ x, ρ[i]? = some (.ow x) ∧ x.ok = true ∧ g (ρ.set i (.fz x.d)) Q E
def wipeA (ρ : Env) : List Nat → Env
  | [] => ρ
  | v :: vs => wipeA (ρ.set v .un) vs
def sWip (vs : List Nat) (g : Env → Ws) : Env → Ws := fun ρ Q E => g (wipeA ρ vs) Q E
section
variable {G : Ctx} {B : Bs} {ρ : Env} {σ : St} {F : Fps} {Hf H : Hp}
theorem Rep.forget (R : Rep G B ρ σ F Hf H) (i : Nat) : ∃ F2, Rep G B (ρ.set i .un) σ F2 Hf H := by
  cases e : ρ[i]? with
  | none =>
    refine ⟨F, ?_⟩
    rw [show ρ.set i .un = ρ from List.ext_getElem? fun j => by
      by_cases h : i = j
      · subst h; rw [e, List.getElem?_eq_none (by rw [List.length_set]; exact List.getElem?_eq_none_iff.mp e)]
      · rw [List.getElem?_set_ne h]]
    exact R
  | some s => exact ⟨_, (R.drop e).1⟩
theorem Rep.forgets : ∀ (vs : List Nat) {ρ : Env} {F : Fps}, Rep G B ρ σ F Hf H → ∃ F2, Rep G B (wipeA ρ vs) σ F2 Hf H
  | [], _, F, R => ⟨F, R⟩
  | v :: vs, _, _, R => by
    obtain ⟨F1, R1⟩ := R.forget v
    exact Rep.forgets vs R1
/-- a slot's tree frozen -/
theorem Rep.freeze {i : Nat} {x : OD} (R : Rep G B ρ σ F Hf H) (e : ρ[i]? = some (.ow x)) (k : x.ok = true) : Rep G B (ρ.set i (.fz x.d)) σ (F.set i []) (frzL Hf H (F.getD i [])) H := by
  have hl : i < ρ.length := (List.getElem?_eq_some_iff.mp e).1
  obtain ⟨u, e1, o, hb⟩ := R.sl i _ e
  obtain ⟨R1, n1⟩ := R.drop e
  have R2 := R1.frz (fun a ha => (o.there a ha).2) hb n1
  have R3 := R2.set (i := i) (v := u) (d := x.d) (o.frz k)
  rw [List.set_set, List.set_set] at R3
  have es : σ.set i (some u) = σ := List.ext_getElem? fun j => by
    by_cases hj : i = j
    · subst hj; rw [List.getElem?_set_self (by rw [R.len]; exact hl), e1]
    · rw [List.getElem?_set_ne hj]
  rw [es] at R3
  exact R3
end
section
variable {G : Ctx} {X : Cx} {Wx : WX} {a b c e tg iter : Expr} {st : Stmt} {sts ts : List Stmt} {ga gb gc g : Env → W D} {gn : Env → W OD} {f h : Env → Ws} {pos : Pos}
theorem ess_nil : Ess G X Wx [] sNx := ⟨_, pss_nil, fun B ρ σ F Hf H Q' E' Dd R q k kx => k.nx ρ σ F Hf H R (Sm.refl _) q⟩
theorem ess_one (h1 : Es G X Wx st f) : Ess G X Wx [st] f := by
  obtain ⟨t, p, ev⟩ := h1.ex
  exact ⟨_, pss_one p, ev⟩
theorem ess_cons (h1 : Es G X Wx st f) (h2 : Ess G X Wx sts h) : Ess G X Wx (st :: sts) (sSeq f h) := by
  obtain ⟨t, p, ev⟩ := h1.ex
  obtain ⟨t2, p2, ev2⟩ := h2.ex
  refine ⟨_, pss_cons p p2, ?_⟩
  intro B ρ σ F Hf H Q' E' Dd R q k kx
  refine ev B ρ σ F Hf H _ E' _ R q ⟨fun ρ' σ' F' Hf' H' R' s' q' => ?_, fun ρ' σ' F' v d Hf' H' R' s' r' q' => k.rt ρ' σ' F' v d Hf' H' R' s' r' q', fun ρ' σ' F' u x L Hf' H' R' s' o nd hb hn q' => k.ro ρ' σ' F' u x L Hf' H' R' s' o nd hb hn q', fun ρ' σ' F' Hf' H' R' s' q' => k.bk ρ' σ' F' Hf' H' R' s' q', fun ρ' σ' F' Hf' H' R' s' q' => k.ct ρ' σ' F' Hf' H' R' s' q'⟩ kx
  exact ev2 B ρ' σ' F' Hf' H' Q' E' Dd R' q' (k.mono s') (kx.mono s')
theorem es_pass : Es G X Wx (.Pass pos) sNx := ⟨_, ps_pass, fun B ρ σ F Hf H Q' E' Dd R q k kx => k.nx ρ σ F Hf H R (Sm.refl _) q⟩
theorem es_break : Es G X Wx (.Break pos) sBk := ⟨_, ps_break, fun B ρ σ F Hf H Q' E' Dd R q k kx => k.bk ρ σ F Hf H R (Sm.refl _) q⟩
theorem es_cont : Es G X Wx (.Continue pos) sCt := ⟨_, ps_continue, fun B ρ σ F Hf H Q' E' Dd R q k kx => k.ct ρ σ F Hf H R (Sm.refl _) q⟩
theorem es_never : Es G X Wx st sNever := ⟨_, ps_never, fun B ρ σ F Hf H Q' E' Dd R q k kx => q.elim⟩
theorem ess_never : Ess G X Wx sts sNever := ⟨_, pss_never, fun B ρ σ F Hf H Q' E' Dd R q k kx => q.elim⟩
theorem es_doc {x j pos'} : Es G X Wx (.Expr (.Constant (.str x) j pos) pos') sNx := ⟨_, ps_doc, fun B ρ σ F Hf H Q' E' Dd R q k kx => k.nx ρ σ F Hf H R (Sm.refl _) q⟩
theorem es_ret (h1 : Ev G X Wx e g) : Es G X Wx (.Return (some e) pos) (sRet g) := by
  obtain ⟨t, p, ev⟩ := h1.ex
  exact ⟨_, ps_ret p, fun B ρ σ F Hf H Q' E' Dd R q k kx => ev B ρ σ F Hf H _ _ _ R q (fun v d Hf' H' R' n r q' => k.rt ρ σ F v d Hf' H' R' n.sm r q') kx.at⟩
theorem es_retO (h1 : En G X Wx e gn) : Es G X Wx (.Return (some e) pos) (sRetO gn) := by
  obtain ⟨t, p, ev⟩ := h1.ex
  exact ⟨_, ps_ret p, fun B ρ σ F Hf H Q' E' Dd R q k kx => ev B ρ σ F Hf H _ _ _ R q (fun u x L Hf' H' R' n o nd nw q' => k.ro ρ σ F u x L Hf' H' R' n.sm o nd (fun a ha => R.freeB (nw a ha)) (fun a ha => R.free1 (nw a ha)) q') kx.at⟩
theorem es_retS {i : Nat} {x : Str} {p' : Pos} (h : PE X (.Name x p') (tVar i)) : Es G X Wx (.Return (some (.Name x p')) pos) (sRetS i) := by
  refine ⟨_, ps_ret h, fun B ρ σ F Hf H Q' E' Dd R q k kx => ?_⟩
  obtain ⟨x, e, q⟩ := q
  obtain ⟨u, e1, o, hb⟩ := R.sl i _ e
  obtain ⟨R1, n1⟩ := R.drop e
  exact ⟨u, e1, k.ro _ σ _ u x _ Hf H R1 (Sm.refl _) o (flat_at R.nd) hb n1 q⟩
theorem es_retN : Es G X Wx (.Return none pos) sRetN := ⟨_, ps_retN, fun B ρ σ F Hf H Q' E' Dd R q k kx => k.rt ρ σ F _ _ Hf H R (Sm.refl _) .non q⟩
theorem es_drop (h1 : Ev G X Wx e g) (hs : swapsWith e none pos.line X.env = pure false := by rfl) : Es G X Wx (.Expr e pos) (sDrop g) := by
  obtain ⟨t, p, ev⟩ := h1.ex
  exact ⟨_, ps_expr p hs, fun B ρ σ F Hf H Q' E' Dd R q k kx => ev B ρ σ F Hf H _ _ _ R q (fun v d Hf' H' R' n r q' => k.nx ρ σ F Hf' H' R' n.sm q') kx.at⟩
theorem es_if {bc : Env → W Bool} (h1 : Eb G X Wx c bc) (h2 : Ess G X Wx sts f) (h3 : Ess G X Wx ts h) : Es G X Wx (.If c sts ts pos) (sIf bc f h) := by
  obtain ⟨t, p, ev⟩ := h1.ex
  obtain ⟨t2, p2, ev2⟩ := h2.ex
  obtain ⟨t3, p3, ev3⟩ := h3.ex
  refine ⟨_, ps_if p p2 p3, ?_⟩
  intro B ρ σ F Hf H Q' E' Dd R q k kx
  refine ev B ρ σ F Hf H _ _ _ R q (fun x Hf' H' R' n q' => ?_) kx.at
  cases x with
  | true => exact iteT (ev2 B ρ σ F Hf' H' Q' E' Dd R' q' (k.mono n.sm) (kx.mono n.sm))
  | false => exact iteF (ev3 B ρ σ F Hf' H' Q' E' Dd R' q' (k.mono n.sm) (kx.mono n.sm))
theorem est_set {i : Nat} {t : TE} (ev : EvT G Wx t g) : EsT G Wx (tAsg t (gName i)) (sSet i g) := by
  intro B ρ σ F Hf H Q' E' Dd R q k kx
  exact ev B ρ σ F Hf H _ _ _ R q (fun v d Hf' H' R' n r q' => k.nx _ _ _ Hf' H' (R'.set r) n.sm q') kx.at
theorem est_setO {i : Nat} {t : TE} (ev : EnT G Wx t gn) : EsT G Wx (tAsg t (gName i)) (sSetO i gn) := by
  intro B ρ σ F Hf H Q' E' Dd R q k kx
  exact ev B ρ σ F Hf H _ _ _ R q (fun u x L Hf' H' R' n o nd nw q' => k.nx _ _ _ Hf' H' (R'.setOw o nd (fun a ha => R.free1 (nw a ha)) fun a ha => R.freeB (nw a ha)) n.sm q') kx.at
theorem es_set {i : Nat} {x : Str} {p' : Pos} (h1 : Ev G X Wx e g) (hp : ∀ t, PE X e t → PS X (.Assign [.Name x p'] e pos) (tAsg t (gName i))) : Es G X Wx (.Assign [.Name x p'] e pos) (sSet i g) := by
  obtain ⟨t, p, ev⟩ := h1.ex
  exact ⟨_, hp t p, est_set ev⟩
theorem es_setO {i : Nat} {x : Str} {p' : Pos} (h1 : En G X Wx e gn) (hp : ∀ t, PE X e t → PS X (.Assign [.Name x p'] e pos) (tAsg t (gName i))) : Es G X Wx (.Assign [.Name x p'] e pos) (sSetO i gn) := by
  obtain ⟨t, p, ev⟩ := h1.ex
  exact ⟨_, hp t p, est_setO ev⟩
theorem es_asg {sl : List Nat} {gt : D → Env → W Env} (h1 : Ev G X Wx e g) (h2 : Eg G X tg sl gt) (hs : swapsWithSole [tg] e pos.line X.env = pure false := by rfl) (hw : swappedStores [tg] e X.env = pure none := by rfl)
    (h3 : (assignEach [tg] X.env).map (·.2) = [assign tg X.env] := by rfl) : Es G X Wx (.Assign [tg] e pos) (sAsg g gt) := by
  obtain ⟨t, p, ev⟩ := h1.ex
  obtain ⟨t2, p2, ev2⟩ := h2.ex
  refine ⟨_, ps_asg p p2 hs hw h3, ?_⟩
  intro B ρ σ F Hf H Q' E' Dd R q k kx
  refine ev B ρ σ F Hf H _ _ _ R q (fun v d Hf' H' R' n r q' => ?_) kx.at
  exact ev2 B ρ σ F Hf' H' v d _ _ _ R' r q' fun ρ2 σ2 F2 R2 _ q2 => k.nx ρ2 σ2 F2 Hf' H' R2 n.sm q2
theorem est_frz (i : Nat) {t : TS} (ev : EsT G Wx t f) : EsT G Wx t (sFrz i f) := by
  intro B ρ σ F Hf H Q' E' Dd R q k kx
  obtain ⟨x, e, ok, q⟩ := q
  obtain ⟨u, e1, o, hb⟩ := R.sl i _ e
  have sm : Sm Hf (frzL Hf H (F.getD i [])) := Sm.frzs fun a ha => (o.there a ha).2
  exact ev B _ σ _ _ H Q' E' Dd (R.freeze e ok) q (k.mono sm) (kx.mono sm)
theorem ess_frz (i : Nat) (h1 : Ess G X Wx sts f) : Ess G X Wx sts (sFrz i f) := by
  obtain ⟨t, p, ev⟩ := h1.ex
  exact ⟨_, p, est_frz i ev⟩
theorem ess_wip (vs : List Nat) (h1 : Ess G X Wx sts f) : Ess G X Wx sts (sWip vs f) := by
  obtain ⟨t, p, ev⟩ := h1.ex
  refine ⟨_, p, ?_⟩
  intro B ρ σ F Hf H Q' E' Dd R q k kx
  obtain ⟨F2, R2⟩ := R.forgets vs
  exact ev B _ σ F2 Hf H Q' E' Dd R2 q k kx
end

/-! ### places are changed -/
def putS (i : Nat) (x : OD) (ρ : Env) : Env := ρ.set i ((ρ.getD i .un).with x)
def sApp (i : Nat) (gp : Env → W Pl) (gn : Env → W OD) : Env → Ws := fun ρ Q E => gp ρ (fun p => ∃ xs, p.1 = .lst xs ∧ gn ρ (fun z => xs.length < sizeLine ∧ Q .nx (putS i (p.2 (.lst (xs ++ [z]))) ρ)) (fun x => E x ρ)) (fun x => E x ρ)
def sClr (i : Nat) (gp : Env → W Pl) : Env → Ws := fun ρ Q E => gp ρ (fun p => ∃ xs, p.1 = .lst xs ∧ Q .nx (putS i (p.2 (.lst [])) ρ)) (fun x => E x ρ)
def sIx (i : Nat) (gp : Env → W Pl) (gk : Env → W D) (gn : Env → W OD) : Env → Ws := fun ρ Q E => gn ρ (fun z => gp ρ (fun p => gk ρ (fun k => ∃ xs j n, p.1 = .lst xs ∧ k = .int j ∧ ixN xs.length j = some n ∧ Q .nx (putS i (p.2 (.lst (xs.set n z))) ρ)) (fun x => E x ρ)) (fun x => E x ρ)) (fun x => E x ρ)
def putO (f : Str) (z : OD) : List (Str × OD) → List (Str × OD)
  | [] => [(f, z)]
  | (g, x) :: r => if g = f then (g, z) :: r else (g, x) :: putO f z r
def sFld (i : Nat) (gp : Env → W Pl) (c : Nat) (f : Str) (gn : Env → W OD) : Env → Ws := fun ρ Q E => gn ρ (fun z => gp ρ (fun p => ∃ fs, p.1 = .ins c fs ∧ fs.length < 1000 ∧ Q .nx (putS i (p.2 (.ins c (putO f z fs))) ρ)) (fun x => E x ρ)) (fun x => E x ρ)
def sKey (i : Nat) (gp : Env → W Pl) (gk : Env → W D) (gv : Env → W D) : Env → Ws := fun ρ Q E => gv ρ (fun d => gp ρ (fun p => gk ρ (fun k => ∃ ds ks xs, k = .tup ds ∧ keysD ds = some ks ∧ p.1 = .dT xs ∧ xs.length < sizeLine ∧ Q .nx (putS i (p.2 (.dT (putA xs ks (.fz d)))) ρ)) (fun x => E x ρ)) (fun x => E x ρ)) (fun x => E x ρ)
def sKeyO (i : Nat) (gp : Env → W Pl) (gk : Env → W D) (gn : Env → W OD) : Env → Ws := fun ρ Q E => gn ρ (fun z => gp ρ (fun p => gk ρ (fun k => ∃ ds ks xs, k = .tup ds ∧ keysD ds = some ks ∧ p.1 = .dT xs ∧ xs.length < sizeLine ∧ getA xs ks = none ∧ Q .nx (putS i (p.2 (.dT (xs ++ [(ks, z)]))) ρ)) (fun x => E x ρ)) (fun x => E x ρ)) (fun x => E x ρ)
section
variable {cn : Nat → Addr} {Hf H : Hp}
theorem Ows.set {v : V} {x : OD} {L : List Addr} (o : Ow cn Hf H v x L) : ∀ {vs : List V} {xs : List OD} {F : List Addr} (n : Nat), Ows cn Hf H vs xs F → (F ++ L).Nodup → ∃ F2, Ows cn Hf H (vs.set n v) (xs.set n x) F2 ∧ F2.Nodup ∧ ∀ a ∈ F2, a ∈ F ∨ a ∈ L
  | _, _, _, _, .nil, nd => ⟨[], .nil, by simp, by simp⟩
  | _, _, _, 0, .cons (F := F) (G := G) r t, nd => by
    have nd' := List.nodup_append.mp nd
    have ndG := (List.nodup_append.mp nd'.1).2.1
    exact ⟨L ++ G, .cons o t, List.nodup_append.mpr ⟨nd'.2.1, ndG, fun a ha b hb z => nd'.2.2 b (List.mem_append_right _ hb) a ha z.symm⟩, fun a ha => (List.mem_append.mp ha).elim .inr fun h => .inl (List.mem_append_right _ h)⟩
  | _, _, _, n + 1, .cons (F := F) (G := G) r t, nd => by
    have nd' := List.nodup_append.mp nd
    have ndF := List.nodup_append.mp nd'.1
    obtain ⟨F2, o2, nd2, m2⟩ := Ows.set o n t (List.nodup_append.mpr ⟨ndF.2.1, nd'.2.1, fun a ha b hb z => nd'.2.2 a (List.mem_append_right _ ha) b hb z⟩)
    refine ⟨F ++ F2, .cons r o2, List.nodup_append.mpr ⟨ndF.1, nd2, fun a ha b hb z => ?_⟩, fun a ha => ?_⟩
    · rcases m2 b hb with h | h
      · exact ndF.2.2 a ha b h z
      · exact nd'.2.2 a (List.mem_append_left _ ha) b h z
    · rcases List.mem_append.mp ha with h | h
      · exact .inl (List.mem_append_left _ h)
      · exact (m2 a h).imp (fun h => List.mem_append_right _ h) id
theorem Owf.put {f : Str} {v : V} {x : OD} {L : List Addr} (o : Ow cn Hf H v x L) : ∀ {vs : List (Str × V)} {xs : List (Str × OD)} {F : List Addr}, Owf cn Hf H vs xs F → (F ++ L).Nodup → ∃ F2, Owf cn Hf H (putF f v vs) (putO f x xs) F2 ∧ F2.Nodup ∧ ∀ a ∈ F2, a ∈ F ∨ a ∈ L
  | _, _, _, .nil, nd => ⟨L ++ [], .cons o .nil, by simpa using nd, by simp⟩
  | _, _, _, .cons (f := g) (F := F) (G := G) r t, nd => by
    have nd' := List.nodup_append.mp nd
    have ndF := List.nodup_append.mp nd'.1
    unfold putF putO
    by_cases h : g = f
    · rw [if_pos h, if_pos h]
      exact ⟨L ++ G, .cons o t, List.nodup_append.mpr ⟨nd'.2.1, ndF.2.1, fun a ha b hb z => nd'.2.2 b (List.mem_append_right _ hb) a ha z.symm⟩, fun a ha => (List.mem_append.mp ha).elim .inr fun h => .inl (List.mem_append_right _ h)⟩
    · rw [if_neg h, if_neg h]
      obtain ⟨F2, o2, nd2, m2⟩ := Owf.put o t (List.nodup_append.mpr ⟨ndF.2.1, nd'.2.1, fun a ha b hb z => nd'.2.2 a (List.mem_append_right _ ha) b hb z⟩)
      refine ⟨F ++ F2, .cons r o2, List.nodup_append.mpr ⟨ndF.1, nd2, fun a ha b hb z => ?_⟩, fun a ha => ?_⟩
      · rcases m2 b hb with h | h
        · exact ndF.2.2 a ha b h z
        · exact nd'.2.2 a (List.mem_append_left _ ha) b h z
      · rcases List.mem_append.mp ha with h | h
        · exact .inl (List.mem_append_left _ h)
        · exact (m2 a h).imp (fun h => List.mem_append_right _ h) id
theorem Owf.length : ∀ {vs : List (Str × V)} {xs : List (Str × OD)} {F : List Addr}, Owf cn Hf H vs xs F → vs.length = xs.length
  | _, _, _, .nil => rfl
  | _, _, _, .cons _ t => congrArg (· + 1) (Owf.length t)
theorem Owt.length : ∀ {vs : List (List Key × V)} {xs : List (List Key × OD)} {F : List Addr}, Owt cn Hf H vs xs F → vs.length = xs.length
  | _, _, _, .nil => rfl
  | _, _, _, .cons _ t => congrArg (· + 1) (Owt.length t)
theorem Owt.any (k : List Key) : ∀ {vs : List (List Key × V)} {xs : List (List Key × OD)} {F : List Addr}, Owt cn Hf H vs xs F → (vs.any fun kv => decide (kv.1 = k)) = (xs.any fun kv => decide (kv.1 = k))
  | _, _, _, .nil => rfl
  | _, _, _, .cons _ t => by simp [Owt.any k t]
theorem Owt.none {k : List Key} : ∀ {vs : List (List Key × V)} {xs : List (List Key × OD)} {F : List Addr}, Owt cn Hf H vs xs F → getA xs k = none → valV vs k = none
  | _, _, _, .nil, _ => rfl
  | _, _, _, .cons (f := g) _ t, e => by
    by_cases h : g = k
    · simp [getA, h] at e
    · rw [valV_neg h]
      exact Owt.none t (by simpa [getA, List.find?_cons, h] using e)
theorem Owt.snoc {k : List Key} {v : V} {x : OD} {L : List Addr} (o : Ow cn Hf H v x L) : ∀ {vs : List (List Key × V)} {xs : List (List Key × OD)} {F : List Addr}, Owt cn Hf H vs xs F → Owt cn Hf H (vs ++ [(k, v)]) (xs ++ [(k, x)]) (F ++ L)
  | _, _, _, .nil => by simpa using Owt.cons o .nil
  | _, _, _, .cons r t => by
    rw [List.append_assoc]
    exact .cons r (Owt.snoc o t)
theorem Owt.mapz {k : List Key} {v : V} {d : D} (r : Rp cn Hf v d) : ∀ {vs : List (List Key × V)} {xs : List (List Key × OD)} {F : List Addr}, Owt cn Hf H vs xs F →
    ∃ F2, Owt cn Hf H (vs.map fun kv => if kv.1 = k then (kv.1, v) else kv) (xs.map fun kv => if kv.1 = k then (kv.1, OD.fz d) else kv) F2 ∧ F2.Sublist F
  | _, _, _, .nil => ⟨[], .nil, by simp⟩
  | _, _, _, .cons (f := g) (F := F) (G := G) o t => by
    obtain ⟨F2, o2, s2⟩ := Owt.mapz (k := k) r t
    simp only [List.map_cons]
    by_cases h : g = k
    · rw [if_pos h, if_pos h]
      exact ⟨[] ++ F2, .cons (.fz r) o2, by simpa using s2.trans (List.sublist_append_right _ _)⟩
    · rw [if_neg h, if_neg h]
      exact ⟨F ++ F2, .cons o o2, s2.append_left F⟩
theorem Owt.put {k : List Key} {v : V} {d : D} (r : Rp cn Hf v d) {vs : List (List Key × V)} {xs : List (List Key × OD)} {F : List Addr} (o : Owt cn Hf H vs xs F) : ∃ F2, Owt cn Hf H (putK vs k v) (putA xs k (.fz d)) F2 ∧ F2.Sublist F := by
  unfold putK putA
  rw [o.any k]
  by_cases h : (xs.any fun kv => decide (kv.1 = k)) = true
  · rw [if_pos h, if_pos h]; exact o.mapz r
  · rw [if_neg h, if_neg h]; exact ⟨F ++ [], o.snoc (.fz r), by simp⟩
end
section
variable {G : Ctx} {X : Cx} {Wx : WX} {i : Nat} {a b c e o k : Expr} {st : Stmt} {ga gb gc : Env → W D} {gn : Env → W OD} {g : Env → W Pl} {pos p2 p' : Pos}
theorem putS_eq {ρ : Env} {s : Sl} {x : OD} (e : ρ[i]? = some s) : putS i x ρ = ρ.set i (s.with x) := by
  unfold putS; rw [List.getD_eq_getElem?_getD, e]; rfl
/-- one cell of the place is written; L2 stands behind it -/
theorem Rep.write {B : Bs} {ρ : Env} {σ : St} {F : Fps} {Hf H : Hp} {s : Sl} {x y y2 : OD} {root : V} {p : Addr} {C : OD → OD} {L L2 M : List Addr} {ob : HO} (R : Rep G B ρ σ F Hf H) (e : ρ[i]? = some s) (t : s.tree = some x) (er : σ[i]? = some (some root)) (pm : (F.getD i []).Perm (M ++ L)) (f : Foc G.cn Hf H root (.ref p) y C L M)
    (hp : p ∈ L) (o2 : Ow G.cn Hf (upd H p ob) (.ref p) y2 L2) (nd : L2.Nodup) (hL : ∀ a ∈ L2, a ∈ L ∨ NoOne ρ σ F a ∧ B.H a = none ∧ H a ≠ none) : ∃ F2, Rep G B (putS i (C y2) ρ) σ F2 Hf (upd H p ob) := by
  have hl : i < ρ.length := (List.getElem?_eq_some_iff.mp e).1
  have hpF := pm.mem_iff.mpr (List.mem_append_right M hp)
  have cp := R.cell (mem_flat hpF)
  have ndF : (M ++ L).Nodup := pm.nodup_iff.mp (flat_at R.nd)
  have ndp := List.nodup_append.mp ndF
  have stM : Stay Hf H (upd H p ob) M := fun a ha => ⟨upd_ne fun z => ndp.2.2 a ha p hp z, (R.cell (mem_flat (pm.mem_iff.mpr (List.mem_append_left _ ha)))).2⟩
  obtain ⟨F2, o3, p3⟩ := f.back Hf _ y2 L2 (Sm.refl _) stM o2
  obtain ⟨R1, n1⟩ := R.drop e
  have sub : ∀ a ∈ F2, (a ∈ F.getD i []) ∨ (NoOne ρ σ F a ∧ B.H a = none) := fun a ha => by
    rcases List.mem_append.mp (p3.mem_iff.mp ha) with h | h
    · exact .inl (pm.mem_iff.mpr (List.mem_append_left _ h))
    · exact (hL a h).imp (fun h => pm.mem_iff.mpr (List.mem_append_right _ h)) fun h => ⟨h.1, h.2.1⟩
  have nd2 : F2.Nodup := p3.nodup_iff.mpr (List.nodup_append.mpr ⟨ndp.1, nd, fun a ha b hb z => by
    subst z
    rcases hL a hb with h | h
    · exact ndp.2.2 a ha a h rfl
    · exact h.1.1 (mem_flat (pm.mem_iff.mpr (List.mem_append_left _ ha)))⟩)
  have R2 : Rep G B (ρ.set i .un) σ (F.set i []) Hf (upd H p ob) := by
    refine R1.go (Sm.refl _) (fun b u eb => ?_) (fun a ha => ⟨upd_ne fun z => (n1 p hpF).1 (by rw [← z]; exact ha), (R1.cell ha).2⟩) (fun q hq h1 ⟨vs, h2, h3⟩ => ⟨⟨vs, ?_, h3⟩, h1⟩) (fun b _ h => h) (fun b hb hf n w => upd_ne fun z => ?_) fun b hb => ?_
    · rw [upd_ne (fun z => by rw [z, cp.2] at eb; cases eb)]; exact R.sm _ _ eb
    · rw [upd_ne fun z => ?_]
      · exact h2
      · subst z
        rcases hq with hq | hq
        · rcases R.nw q (mem_flat hpF) with y | y
          · exact (R.p0 q hq).1 y
          · exact (R.p0 q hq).2.2 y
        · exact (n1 q hpF).2 hq
    · subst z
      rcases R.nw b (mem_flat hpF) with y | y
      · exact hb y
      · exact w y
    · by_cases z : b = p
      · subst z; rw [upd_same]; simp
      · rw [upd_ne z]; exact R.st b hb
  have kk : (s.with (C y2)).uniq = true := by cases s <;> first | rfl | cases t
  have q := R2.give (i := i) (s := s.with (C y2)) (x := some root) (L := F2) (fun _ => ?_) (fun h => by rw [kk] at h; cases h) nd2 (fun a ha j hj z => ?_) (fun a ha => ?_) (fun a ha hp => ?_) (fun h => by rw [h] at kk; cases kk)
  · have es : σ.set i (some root) = σ := List.ext_getElem? fun j => by
      by_cases hj : i = j
      · subst hj; rw [List.getElem?_set_self (by rw [R.len]; exact hl), er]
      · rw [List.getElem?_set_ne hj]
    rw [es, List.set_set, List.set_set] at q
    rw [putS_eq e]
    exact ⟨_, q⟩
  · have q := R.sl i s e
    cases s <;> simp only [Sl.tree, Option.some.injEq, reduceCtorEq] at t <;> subst t
    · obtain ⟨u', e1, o, n⟩ := q
      exact ⟨root, rfl, o3, fun a ha => (sub a ha).elim (n a) fun h => h.2⟩
    · obtain ⟨u', e1, e2, o⟩ := q
      exact ⟨root, rfl, e2.trans er, o3⟩
    · obtain ⟨e1, o, n⟩ := q; rw [e1] at er; cases er; exact ⟨rfl, o3, fun a ha => (sub a ha).elim (n a) fun h => h.2⟩
  · rw [getD_set_ne (fun y => hj y.symm)] at z
    rcases sub a ha with h | h
    · exact flat_apart R.nd hj z h
    · exact h.1.1 (mem_flat z)
  · rcases sub a ha with h | h
    · exact R.nw a (mem_flat h)
    · exact .inl h.2
  · obtain ⟨j, j1, j2⟩ := hp
    have hj : j ≠ i := fun z => by subst z; rw [List.getElem?_set_self hl] at j1; cases j1
    rw [List.getElem?_set_ne (fun z => hj z.symm)] at j1
    rcases sub a ha with h | h
    · exact R.np a (mem_flat h) ⟨j, j1, j2⟩
    · exact h.1.2 ⟨j, j1, j2⟩
/-- what the cells of the place's own and those of a new tree make -/
theorem foc_nd {B : Bs} {ρ : Env} {σ : St} {F : Fps} {Hf H : Hp} {L M N : List Addr} (R : Rep G B ρ σ F Hf H) (pm : (F.getD i []).Perm (M ++ L)) (nd : N.Nodup) (hn : ∀ a ∈ N, NoOne ρ σ F a) : (L ++ N).Nodup :=
  List.nodup_append.mpr ⟨(List.nodup_append.mp (pm.nodup_iff.mp (flat_at R.nd))).2.1, nd, fun a ha b hb z => (hn b hb).1 (by rw [← z]; exact mem_flat (pm.mem_iff.mpr (List.mem_append_right _ ha)))⟩
theorem es_app (hp : ∀ to te, PE X o to → PE X e te → PS X st (tDrop (tBM X.K "list" rAppend to (tCons te tNil)))) (h : Ef G X Wx i o g) (hv : En G X Wx e gn) : Es G X Wx st (sApp i g gn) := by
  obtain ⟨to, po, eo⟩ := h.ex
  obtain ⟨te, pe, ee⟩ := hv.ex
  refine ⟨_, hp _ _ po pe, ?_⟩
  intro B ρ σ F Hf H Q' E' Dd R q k kx
  refine eo B ρ σ F Hf H _ _ _ R q (fun s x root u y C L M Hf1 H1 R1 n1 es et er pm fo q1 => ?_) kx.at
  obtain ⟨xs, e1, q1⟩ := q1
  have e1 : y = .lst xs := e1
  subst e1
  have hu : ∃ p vs, u = .ref p ∧ H1 p = some (.lst vs) := by
    cases fo.sub with
    | lst hpp hf t => exact ⟨_, _, rfl, hpp⟩
  obtain ⟨p0, vs0, rfl, hp0⟩ := hu
  refine ⟨.inl ⟨rfl, _, SqL.of hp0⟩, ?_⟩
  refine ee B ρ σ F Hf1 H1 _ _ _ R1 q1 (fun v z N Hf2 H2 R2 n2 oz nd nw q2 => ?_) (kx.at.mono n1)
  obtain ⟨hlen, q2⟩ := q2
  have fo2 := fo.nx R1 pm n2
  cases fo2.sub with
  | @lst p vs _ T hpp hf t =>
    refine ⟨p0, vs, v, rfl, rfl, hpp, by rw [t.length]; exact hlen, ?_⟩
    have hn : ∀ a ∈ N, NoOne ρ σ F a := fun a ha => R1.free1 (nw a ha)
    have ndl := foc_nd R2 pm nd hn
    have pT : p0 ∉ T := by
      have := (List.nodup_append.mp ndl).1
      exact (List.nodup_cons.mp this).1
    have pN : p0 ∉ N := fun z => (hn p0 z).1 (mem_flat (pm.mem_iff.mpr (List.mem_append_right _ (by simp))))
    have o2 : Ow G.cn Hf2 (upd H2 p0 (.lst (vs ++ [v]))) (.ref p0) (.lst (xs ++ [z])) (p0 :: (T ++ N)) := by
      refine .lst upd_same hf (Ows.snoc (oz.mono (Sm.refl _) fun a ha => ⟨upd_ne fun z => pN (by rw [← z]; exact ha), (oz.there a ha).2⟩) (t.mono (Sm.refl _) fun a ha => ⟨upd_ne fun z => pT (by rw [← z]; exact ha), (t.there a ha).2⟩))
    obtain ⟨F2, R3⟩ := R2.write (L2 := p0 :: (T ++ N)) es et er pm fo2 (by simp) o2 (by simpa using ndl) fun a ha => by
      rcases List.mem_cons.mp ha with rfl | ha
      · exact .inl (by simp)
      · rcases List.mem_append.mp ha with ha | ha
        · exact .inl (by simp [ha])
        · exact .inr ⟨hn a ha, R1.freeB (nw a ha), (oz.there a ha).1⟩
    exact k.nx _ σ F2 Hf2 _ R3 (n1.sm.trans n2.sm) q2
theorem es_clr (hp : ∀ to, PE X o to → PS X st (tDrop (tBM X.K "list" rClear to tNil))) (h : Ef G X Wx i o g) : Es G X Wx st (sClr i g) := by
  obtain ⟨to, po, eo⟩ := h.ex
  refine ⟨_, hp _ po, ?_⟩
  intro B ρ σ F Hf H Q' E' Dd R q k kx
  refine eo B ρ σ F Hf H _ _ _ R q (fun s x root u y C L M Hf1 H1 R1 n1 es et er pm fo q1 => ?_) kx.at
  obtain ⟨xs, e1, q1⟩ := q1
  have e1 : y = .lst xs := e1
  subst e1
  have fs := fo.sub
  cases fs with
  | @lst p vs _ T hpp hf t =>
    refine ⟨.inl ⟨rfl, _, SqL.of hpp⟩, p, vs, rfl, rfl, hpp, ?_⟩
    obtain ⟨F2, R3⟩ := R1.write (L2 := [p]) es et er pm fo (by simp) (.lst upd_same hf .nil) (by simp) fun a ha => .inl (by simp at ha; simp [ha])
    exact k.nx _ σ F2 Hf1 _ R3 n1.sm q1
theorem es_ix (hp : ∀ to tk te, PE X o to → PE X k tk → PE X e te → PS X st (tAsg te (gSub to tk rSetL))) (h : Ef G X Wx i o g) (hk : Ev G X Wx k gb) (hv : En G X Wx e gn) : Es G X Wx st (sIx i g gb gn) := by
  obtain ⟨to, po, eo⟩ := h.ex
  obtain ⟨tk, pk, ek⟩ := hk.ex
  obtain ⟨te, pe, ee⟩ := hv.ex
  refine ⟨_, hp _ _ _ po pk pe, ?_⟩
  intro B ρ σ F Hf H Q' E' Dd R q k kx
  refine ee B ρ σ F Hf H _ _ _ R q (fun v z N Hf0 H0 R0 n0 oz nd nw q0 => ?_) kx.at
  refine eo B ρ σ F Hf0 H0 _ _ _ R0 q0 (fun s x root u y C L M Hf1 H1 R1 n1 es et er pm fo q1 => ?_) (kx.at.mono n0)
  refine ek B ρ σ F Hf1 H1 _ _ _ R1 q1 (fun w d Hf2 H2 R2 n2 r2 q2 => ?_) ((kx.at.mono n0).mono n1)
  obtain ⟨xs, j, n, e1, rfl, hn, q2⟩ := q2
  have e1 : y = .lst xs := e1
  subst e1
  cases r2
  have fo2 := fo.nx R1 pm n2
  have hn1 : ∀ a ∈ N, NoOne ρ σ F a := fun a ha => R.free1 (nw a ha)
  have stN : Stay Hf2 H0 H2 N := R.temps (n1.trans n2) oz.there nw
  have oz2 := oz.mono (n1.sm.trans n2.sm) stN
  cases fo2.sub with
  | @lst p vs _ T hpp hf t =>
    refine ⟨p, vs, j, n, rfl, rfl, hpp, by rw [t.length]; exact hn, ?_⟩
    have ndl := foc_nd R2 pm nd hn1
    have pT : p ∉ T := (List.nodup_cons.mp (List.nodup_append.mp ndl).1).1
    have pN : p ∉ N := fun z => (hn1 p z).1 (mem_flat (pm.mem_iff.mpr (List.mem_append_right _ (by simp))))
    have t2 : Ows G.cn Hf2 (upd H2 p (.lst (vs.set n v))) vs xs T := t.mono (Sm.refl _) fun a ha => ⟨upd_ne fun z => pT (by rw [← z]; exact ha), (t.there a ha).2⟩
    have oz3 : Ow G.cn Hf2 (upd H2 p (.lst (vs.set n v))) v z N := oz2.mono (Sm.refl _) fun a ha => ⟨upd_ne fun z => pN (by rw [← z]; exact ha), (oz2.there a ha).2⟩
    obtain ⟨F3, o3, nd3, m3⟩ := Ows.set oz3 n t2 (by simpa using (List.nodup_cons.mp (by simpa using ndl)).2)
    obtain ⟨F2, R3⟩ := R2.write (L2 := p :: F3) es et er pm fo2 (by simp) (.lst upd_same hf o3) (List.nodup_cons.mpr ⟨fun z => (m3 p z).elim pT pN, nd3⟩) fun a ha => by
      rcases List.mem_cons.mp ha with rfl | ha
      · exact .inl (by simp)
      · rcases m3 a ha with h | h
        · exact .inl (by simp [h])
        · exact .inr ⟨hn1 a h, R.freeB (nw a h), (oz2.there a h).1⟩
    exact k.nx _ σ F2 Hf2 _ R3 ((n0.sm.trans n1.sm).trans n2.sm) q2
theorem es_fld {fn : Str} {C : Nat} (h : Ef G X Wx i o g) (hv : En G X Wx e gn) (hC : Cls X.K (G.cn C)) (hN : NoAttr X.K (G.cn C) fn) (hs : swapsWith e (some (.Attribute o fn p')) pos.line X.env = pure false := by rfl) :
    Es G X Wx (.Assign [.Attribute o fn p'] e pos) (sFld i g C fn gn) := by
  obtain ⟨to, po, eo⟩ := h.ex
  obtain ⟨te, pe, ee⟩ := hv.ex
  refine ⟨_, ps_fld po pe hs, ?_⟩
  intro B ρ σ F Hf H Q' E' Dd R q k kx
  refine ee B ρ σ F Hf H _ _ _ R q (fun v z N Hf0 H0 R0 n0 oz nd nw q0 => ?_) kx.at
  refine eo B ρ σ F Hf0 H0 _ _ _ R0 q0 (fun s x root u y D L M Hf1 H1 R1 n1 es et er pm fo q1 => ?_) (kx.at.mono n0)
  obtain ⟨fs, e1, hlen, q1⟩ := q1
  have e1 : y = .ins C fs := e1
  subst e1
  have hn1 : ∀ a ∈ N, NoOne ρ σ F a := fun a ha => R.free1 (nw a ha)
  have stN : Stay Hf1 H0 H1 N := R.temps n1 oz.there nw
  have oz2 := oz.mono n1.sm stN
  have fs := fo.sub
  cases fs with
  | @ins p dx _ vs _ T hpp hf t =>
    refine ⟨p, _, dx, vs, rfl, hpp, hC, hN, by rw [t.length]; exact hlen, ?_⟩
    have ndl := foc_nd R1 pm nd hn1
    have pT : p ∉ T := (List.nodup_cons.mp (List.nodup_append.mp ndl).1).1
    have pN : p ∉ N := fun z => (hn1 p z).1 (mem_flat (pm.mem_iff.mpr (List.mem_append_right _ (by simp))))
    have t2 : Owf G.cn Hf1 (upd H1 p (.ins (G.cn C) dx (putF fn v vs))) vs fs T := t.mono (Sm.refl _) fun a ha => ⟨upd_ne fun z => pT (by rw [← z]; exact ha), (t.there a ha).2⟩
    have oz3 : Ow G.cn Hf1 (upd H1 p (.ins (G.cn C) dx (putF fn v vs))) v z N := oz2.mono (Sm.refl _) fun a ha => ⟨upd_ne fun z => pN (by rw [← z]; exact ha), (oz2.there a ha).2⟩
    obtain ⟨F3, o3, nd3, m3⟩ := Owf.put (f := fn) oz3 t2 (by simpa using (List.nodup_cons.mp (by simpa using ndl)).2)
    obtain ⟨F2, R3⟩ := R1.write (L2 := p :: F3) es et er pm fo (by simp) (.ins upd_same hf o3) (List.nodup_cons.mpr ⟨fun z => (m3 p z).elim pT pN, nd3⟩) fun a ha => by
      rcases List.mem_cons.mp ha with rfl | ha
      · exact .inl (by simp)
      · rcases m3 a ha with h | h
        · exact .inl (by simp [h])
        · exact .inr ⟨hn1 a h, R.freeB (nw a h), (oz2.there a h).1⟩
    exact k.nx _ σ F2 Hf1 _ R3 (n0.sm.trans n1.sm) q1
theorem es_key (hu : X.A.units + 1 < cLine) (h : Ef G X Wx i o g) (hk : Ev G X Wx k gb) (hv : Ev G X Wx e ga) (hs : swapsWith e (some (.Subscript o k p')) pos.line X.env = pure false := by rfl) :
    Es G X Wx (.Assign [.Subscript o k p'] e pos) (sKey i g gb ga) := by
  obtain ⟨to, po, eo⟩ := h.ex
  obtain ⟨tk, pk, ek⟩ := hk.ex
  obtain ⟨te, pe, ee⟩ := hv.ex
  refine ⟨_, ps_dput hu po pk pe hs, ?_⟩
  intro B ρ σ F Hf H Q' E' Dd R q k kx
  refine ee B ρ σ F Hf H _ _ _ R q (fun v d Hf0 H0 R0 n0 rz q0 => ?_) kx.at
  refine eo B ρ σ F Hf0 H0 _ _ _ R0 q0 (fun s x root u y C L M Hf1 H1 R1 n1 es et er pm fo q1 => ?_) (kx.at.mono n0)
  refine ek B ρ σ F Hf1 H1 _ _ _ R1 q1 (fun w dk Hf2 H2 R2 n2 r2 q2 => ?_) ((kx.at.mono n0).mono n1)
  obtain ⟨ds, ks, xs, rfl, hks, e1, hlen, q2⟩ := q2
  have e1 : y = .dT xs := e1
  subst e1
  have fo2 := fo.nx R1 pm n2
  have rz2 := (rz.mono n1.sm).mono n2.sm
  cases r2 with
  | tup hb rb =>
    have ek := keysD_kV rb hks
    subst ek
    cases fo2.sub with
    | @dT p vs _ T hpp hf t =>
      refine ⟨p, _, rfl, DPut.t hpp (R2.sm _ _ hb) (by rw [t.length]; exact hlen), ?_⟩
      have ndl := (List.nodup_append.mp (pm.nodup_iff.mp (flat_at R2.nd))).2.1
      have pT : p ∉ T := (List.nodup_cons.mp ndl).1
      obtain ⟨F3, o3, s3⟩ := Owt.put (k := ks) rz2 (t.mono (Sm.refl _) (H' := upd H2 p (.dT (putK vs ks v))) fun a ha => ⟨upd_ne fun z => pT (by rw [← z]; exact ha), (t.there a ha).2⟩)
      obtain ⟨F2, R3⟩ := R2.write (L2 := p :: F3) es et er pm fo2 (by simp) (.dT upd_same hf o3) (List.nodup_cons.mpr ⟨fun z => pT (s3.mem z), (List.nodup_cons.mp ndl).2.sublist s3⟩) fun a ha => by
        rcases List.mem_cons.mp ha with rfl | ha
        · exact .inl (by simp)
        · exact .inl (by simp [s3.mem ha])
      exact k.nx _ σ F2 Hf2 _ R3 ((n0.sm.trans n1.sm).trans n2.sm) q2
theorem es_keyO (hu : X.A.units + 1 < cLine) (h : Ef G X Wx i o g) (hk : Ev G X Wx k gb) (hv : En G X Wx e gn) (hs : swapsWith e (some (.Subscript o k p')) pos.line X.env = pure false := by rfl) :
    Es G X Wx (.Assign [.Subscript o k p'] e pos) (sKeyO i g gb gn) := by
  obtain ⟨to, po, eo⟩ := h.ex
  obtain ⟨tk, pk, ek⟩ := hk.ex
  obtain ⟨te, pe, ee⟩ := hv.ex
  refine ⟨_, ps_dput hu po pk pe hs, ?_⟩
  intro B ρ σ F Hf H Q' E' Dd R q k kx
  refine ee B ρ σ F Hf H _ _ _ R q (fun v z N Hf0 H0 R0 n0 oz nd nw q0 => ?_) kx.at
  refine eo B ρ σ F Hf0 H0 _ _ _ R0 q0 (fun s x root u y C L M Hf1 H1 R1 n1 es et er pm fo q1 => ?_) (kx.at.mono n0)
  refine ek B ρ σ F Hf1 H1 _ _ _ R1 q1 (fun w dk Hf2 H2 R2 n2 r2 q2 => ?_) ((kx.at.mono n0).mono n1)
  obtain ⟨ds, ks, xs, rfl, hks, e1, hlen, hno, q2⟩ := q2
  have e1 : y = .dT xs := e1
  subst e1
  have fo2 := fo.nx R1 pm n2
  have hn1 : ∀ a ∈ N, NoOne ρ σ F a := fun a ha => R.free1 (nw a ha)
  have stN : Stay Hf2 H0 H2 N := R.temps (n1.trans n2) oz.there nw
  have oz2 := oz.mono (n1.sm.trans n2.sm) stN
  cases r2 with
  | tup hb rb =>
    have ek := keysD_kV rb hks
    subst ek
    cases fo2.sub with
    | @dT p vs _ T hpp hf t =>
      refine ⟨p, _, rfl, DPut.t hpp (R2.sm _ _ hb) (by rw [t.length]; exact hlen), ?_⟩
      rw [putK_new v (t.none hno)]
      have ndl := foc_nd R2 pm nd hn1
      have pT : p ∉ T := (List.nodup_cons.mp (List.nodup_append.mp ndl).1).1
      have pN : p ∉ N := fun z => (hn1 p z).1 (mem_flat (pm.mem_iff.mpr (List.mem_append_right _ (by simp))))
      have o3 : Owt G.cn Hf2 (upd H2 p (.dT (vs ++ [(ks, v)]))) (vs ++ [(ks, v)]) (xs ++ [(ks, z)]) (T ++ N) :=
        Owt.snoc (oz2.mono (Sm.refl _) fun a ha => ⟨upd_ne fun z => pN (by rw [← z]; exact ha), (oz2.there a ha).2⟩) (t.mono (Sm.refl _) fun a ha => ⟨upd_ne fun z => pT (by rw [← z]; exact ha), (t.there a ha).2⟩)
      obtain ⟨F2, R3⟩ := R2.write (L2 := p :: (T ++ N)) es et er pm fo2 (by simp) (.dT upd_same hf o3) (by simpa using ndl) fun a ha => by
        rcases List.mem_cons.mp ha with rfl | ha
        · exact .inl (by simp)
        · rcases List.mem_append.mp ha with h | h
          · exact .inl (by simp [h])
          · exact .inr ⟨hn1 a h, R.freeB (nw a h), (oz2.there a h).1⟩
      exact k.nx _ σ F2 Hf2 _ R3 ((n0.sm.trans n1.sm).trans n2.sm) q2
end
end QL

set_option Elab.async false
set_option linter.all false
set_option maxRecDepth 100000
set_option maxHeartbeats 2000000
namespace QL
open PySem L2
open PyProof.Rows (envOfC)

/-! ### loops: at each turn's head the slots vs are forgotten -/
def forE (vs : List Nat) (gt : D → Env → W Env) (body : Env → Ws) : List D → Env → Ws
  | [], ρ => fun Q _ => Q .nx (wipeA ρ vs)
  | d :: ds, ρ => fun Q E => gt d (wipeA ρ vs) (fun ρ2 => body ρ2 (fun fl ρ3 => match fl with | .nx => forE vs gt body ds ρ3 Q E | .ct => forE vs gt body ds ρ3 Q E | .bk => Q .nx (wipeA ρ3 vs) | o => Q o ρ3) E) (fun _ => False)
def sFor (vs : List Nat) (gi : Env → W (List D)) (gt : D → Env → W Env) (body : Env → Ws) : Env → Ws := fun ρ Q E => gi ρ (fun ds => forE vs gt body ds ρ Q E) (fun x => E x ρ)
def whN (vs : List Nat) (c : Env → W Bool) (body : Env → Ws) : Nat → Env → Ws
  | 0, _ => fun _ _ => False
  | n + 1, ρ => fun Q E => c (wipeA ρ vs) (fun b => if b = true then body (wipeA ρ vs) (fun fl ρ3 => match fl with | .nx => whN vs c body n ρ3 Q E | .ct => whN vs c body n ρ3 Q E | .bk => Q .nx (wipeA ρ3 vs) | o => Q o ρ3) E else Q .nx (wipeA ρ vs)) (fun x => E x (wipeA ρ vs))
def sWhile (vs : List Nat) (c : Env → W Bool) (body : Env → Ws) : Env → Ws := fun ρ Q E => ∃ n, whN vs c body n ρ Q E
section
variable {G : Ctx} {X : Cx} {Wx : WX} {a b c e k tg iter : Expr} {st : Stmt} {sts ts : List Stmt} {ga gb gc g : Env → W D} {f h : Env → Ws} {pos apos p' : Pos}
theorem es_for (vs : List Nat) {sl : List Nat} {gi : Env → W (List D)} {gt : D → Env → W Env} (hp : PassesOwn (model X.prog X.w) X.A X.env X.xe) (hc : X.calm = true) (h1 : Ei G X Wx tg iter gi) (h2 : Eg G X tg sl gt) (h3 : Ess G X Wx sts f) (hs : ∀ x, foldedSetIterable iter X.env x = pure x := by intro _; rfl) : Es G X Wx (.For tg iter sts [] pos) (sFor vs gi gt f) := by
  obtain ⟨wi, pi, ei⟩ := h1.ex
  obtain ⟨t2, p2, e2⟩ := h2.ex
  obtain ⟨t3, p3, e3⟩ := h3.ex
  refine ⟨_, ps_for hp hc pi p2 p3 hs, ?_⟩
  intro B ρ σ F Hf H Q' E' Dd R q k kx
  refine ei B ρ σ F Hf H _ _ _ R q (fun J ds Hf1 H1 R1 n1 wk q1 => ?_) kx.at
  refine for_it (n := ds.length) (G := fun H => Sm Hf1 H) (Y := fun i H x H' => J.yld i H x H') ⟨fun i H hi s => wk.go i H s hi, fun H s => wk.stop H s, fun i H x H' _ _ y => y⟩
    (fun i σ H => ∃ ρ' F' Hf2, Rep G B ρ' σ F' Hf2 H ∧ Sm Hf1 Hf2 ∧ forE vs gt f (ds.drop i) ρ' Q' E') ?_ ?_ ?_ ?_
  · exact ⟨ρ, F, Hf1, R1, Sm.refl _, q1⟩
  · rintro i σ' H' _ ⟨ρ', F', Hf2, R2, s2, _⟩
    exact s2.trans (Sm.of R2.sm)
  · rintro i x σ' H2 H3 hi ⟨ρ', F', Hf2, R2, s2, q2⟩ y
    obtain ⟨d, hdd⟩ : ∃ d, ds[i]? = some d := ⟨ds[i], by simp [hi]⟩
    obtain ⟨Hf3, R3, n3, rx⟩ := wk.step s2 R2 hdd y
    have hdrop : ds.drop i = d :: ds.drop (i + 1) := by
      rw [List.drop_eq_getElem_cons hi]
      have : ds[i] = d := by
        rw [List.getElem?_eq_getElem hi] at hdd
        exact Option.some.inj hdd
      rw [this]
    rw [hdrop] at q2
    have s3 := s2.trans n3.sm
    obtain ⟨F4, R4⟩ := R3.forgets vs
    refine e2 B _ σ' F4 Hf3 H3 x d _ _ _ R4 rx q2 fun ρ2 σ2 F2 R4 _ q4 => ?_
    refine e3 B ρ2 σ2 F2 Hf3 H3 _ _ _ R4 q4 ⟨fun ρ5 σ5 F5 Hf5 H5 R5 s5 q5 => ⟨ρ5, F5, Hf5, R5, s3.trans s5, q5⟩, fun ρ5 σ5 F5 v d Hf5 H5 R5 s5 r5 q5 => k.rt ρ5 σ5 F5 v d Hf5 H5 R5 ((n1.sm.trans s3).trans s5) r5 q5,
      fun ρ5 σ5 F5 u x L Hf5 H5 R5 s5 => k.ro ρ5 σ5 F5 u x L Hf5 H5 R5 ((n1.sm.trans s3).trans s5),
      fun ρ5 σ5 F5 Hf5 H5 R5 s5 q5 => by
        obtain ⟨F6, R6⟩ := R5.forgets vs
        exact k.nx _ σ5 F6 Hf5 H5 R6 ((n1.sm.trans s3).trans s5) q5, fun ρ5 σ5 F5 Hf5 H5 R5 s5 q5 => ⟨ρ5, F5, Hf5, R5, s3.trans s5, q5⟩⟩ (kx.mono (n1.sm.trans s3))
  · rintro σ' H2 ⟨ρ', F', Hf2, R2, s2, q2⟩
    have e : ds.drop ds.length = [] := by simp
    rw [e] at q2
    obtain ⟨F6, R6⟩ := R2.forgets vs
    exact k.nx _ σ' F6 Hf2 H2 R6 (n1.sm.trans s2) q2
theorem es_while (vs : List Nat) {bc : Env → W Bool} (hp : PassesOwn (model X.prog X.w) X.A X.env X.xe) (h1 : Eb G X Wx c bc) (h3 : Ess G X Wx sts f) : Es G X Wx (.While c sts [] pos) (sWhile vs bc f) := by
  obtain ⟨tc, pc, ec⟩ := h1.ex
  obtain ⟨t3, p3, e3⟩ := h3.ex
  refine ⟨_, ps_while hp pc p3, ?_⟩
  intro B ρ σ F Hf H Q' E' Dd R q k kx
  obtain ⟨n, q⟩ := q
  refine ⟨fun m σ' H' => ∃ ρ' F' Hf2, Rep G B ρ' σ' F' Hf2 H' ∧ Sm Hf Hf2 ∧ whN vs bc f m ρ' Q' E', ⟨n, ρ, F, Hf, R, Sm.refl _, q⟩, ?_⟩
  rintro m σ' H' ⟨ρ', F', Hf2, R2, s2, q2⟩
  cases m with
  | zero => exact False.elim q2
  | succ m =>
    obtain ⟨F1, R1⟩ := R2.forgets vs
    refine ec B _ σ' F1 Hf2 H' _ _ _ R1 q2 (fun b Hf3 H3 R3 n3 q3 => ?_) (kx.mono s2).at
    have s3 := s2.trans n3.sm
    cases b with
    | true =>
      refine iteT ⟨fun σ5 H5 => ∃ ρ5 F5 Hf5, Rep G B ρ5 σ5 F5 Hf5 H5 ∧ Sm Hf Hf5 ∧ whN vs bc f m ρ5 Q' E', fun σ5 H5 z => ⟨m, Nat.lt_succ_self _, z⟩, ?_⟩
      exact e3 B _ σ' F1 Hf3 H3 _ _ _ R3 q3 ⟨fun ρ5 σ5 F5 Hf5 H5 R5 s5 q5 => ⟨ρ5, F5, Hf5, R5, s3.trans s5, q5⟩, fun ρ5 σ5 F5 v d Hf5 H5 R5 s5 r5 q5 => k.rt ρ5 σ5 F5 v d Hf5 H5 R5 (s3.trans s5) r5 q5,
        fun ρ5 σ5 F5 u x L Hf5 H5 R5 s5 => k.ro ρ5 σ5 F5 u x L Hf5 H5 R5 (s3.trans s5),
        fun ρ5 σ5 F5 Hf5 H5 R5 s5 q5 => by
          obtain ⟨F6, R6⟩ := R5.forgets vs
          exact k.nx _ σ5 F6 Hf5 H5 R6 (s3.trans s5) q5, fun ρ5 σ5 F5 Hf5 H5 R5 s5 q5 => ⟨ρ5, F5, Hf5, R5, s3.trans s5, q5⟩⟩ (kx.mono s3)
    | false => exact iteF (k.nx _ σ' F1 Hf3 H3 R3 s3 q3)
end

/-! ### defs -/
inductive RV where
  | fz (d : D) | ow (x : OD)
/-- a def's promise over data: from the arguments to the answer and what the arguments that it may change are then -/
abbrev Cn := List Sl → (RV → List Sl → Prop) → (Xc → List Sl → Prop) → Prop
/-- arguments as a callee sees them -/
def A1 (G : Ctx) (Hf H : Hp) (v : V) (L : List Addr) : Sl → Prop
  | .fz d => Rp G.cn Hf v d ∧ L = []
  | .pool => (∃ p, v = .ref p ∧ Hf p = none ∧ PoolAt G H p) ∧ L = []
  | .scr ns => (∃ p, v = .ref p ∧ SqL G.K Hf p (ns.map V.int)) ∧ L = []
  | .bw x => Ow G.cn Hf H v x L
  | .un => L = []
  | _ => False
inductive As (G : Ctx) (Hf H : Hp) : List V → List Sl → Fps → Prop
  | nil : As G Hf H [] [] []
  | cons {v : V} {s : Sl} {L : List Addr} {vs : List V} {ss : List Sl} {F : Fps} : A1 G Hf H v L s → As G Hf H vs ss F → As G Hf H (v :: vs) (s :: ss) (L :: F)
theorem As.length {G : Ctx} {Hf H : Hp} : ∀ {vs : List V} {ss : List Sl} {F : Fps}, As G Hf H vs ss F → vs.length = ss.length ∧ F.length = ss.length
  | _, _, _, .nil => ⟨rfl, rfl⟩
  | _, _, _, .cons _ t => ⟨congrArg (· + 1) (As.length t).1, congrArg (· + 1) (As.length t).2⟩
theorem As.get {G : Ctx} {Hf H : Hp} : ∀ {vs : List V} {ss : List Sl} {F : Fps} {i : Nat} {s : Sl}, As G Hf H vs ss F → ss[i]? = some s → ∃ v, vs[i]? = some v ∧ A1 G Hf H v (F.getD i []) s
  | _, _, _, _, _, .nil, e => by simp at e
  | _, _, _, 0, s, .cons r _, e => by simp at e; subst e; exact ⟨_, rfl, by simpa using r⟩
  | _, _, _, i + 1, s, .cons _ t, e => by
    obtain ⟨v, h1, h2⟩ := As.get (i := i) (s := s) t (by simpa using e)
    exact ⟨v, by simpa using h1, by simpa using h2⟩
/-- behind a call -/
structure CNx (G : Ctx) (as : List Sl) (vs : List V) (Fs : Fps) (Hf H : Hp) (as' : List Sl) (Fs' : Fps) (Hf' H' : Hp) : Prop where
  sm : Sm Hf Hf'
  sa : Same Hf' H'
  kp : ∀ b o, H b = some o → Hf b = none → ¬ IsPool as (vs.map some) b → b ∉ Fs.flatten → H' b = some o
  st : ∀ b, H b ≠ none → H' b ≠ none
  uf : ∀ b, H b ≠ none → Hf b = none → Hf' b = none
  pl : ∀ b, IsPool as (vs.map some) b → PoolAt G H' b
  fin : As G Hf' H' vs as' Fs'
  nd : Fs'.flatten.Nodup
  nw : ∀ a ∈ Fs'.flatten, a ∈ Fs.flatten ∨ H a = none
  np : ∀ a ∈ Fs'.flatten, ¬ IsPool as (vs.map some) a
def RetR (G : Ctx) (H Hf' H' : Hp) (Fs' : Fps) (v : V) : RV → Prop
  | .fz d => Rp G.cn Hf' v d
  | .ow x => ∃ L, Ow G.cn Hf' H' v x L ∧ L.Nodup ∧ (∀ a ∈ L, H a = none) ∧ ∀ a ∈ L, a ∉ Fs'.flatten
def PSp (G : Ctx) (m : Cn) : Sp := fun vs H Q E => ∃ Hf as Fs Q' E', Same Hf H ∧ As G Hf H vs as Fs ∧ Fs.flatten.Nodup ∧ (∀ a ∈ Fs.flatten, ¬ IsPool as (vs.map some) a) ∧ m as Q' E' ∧
  (∀ v rv as' Fs' Hf' H', CNx G as vs Fs Hf H as' Fs' Hf' H' → RetR G H Hf' H' Fs' v rv → Q' rv as' → Q v H') ∧
  (∀ x cls d as' Fs' Hf' H', CNx G as vs Fs Hf H as' Fs' Hf' H' → XRep G Hf' x cls d → E' x as' → E cls d H')
/-- what the arguments are at the end -/
def fins (as : List Sl) (ρ : Env) : List Sl := List.zipWith (fun a r => match a with | .bw _ => r | a => a) as ρ
def finB (as : List Sl) (ρ : Env) : Bool := (List.zipWith (fun a r => match a, r with | .bw _, .bw _ => true | .bw _, _ => false | _, _ => true) as ρ).all id
def argB (as : List Sl) : Bool := as.all fun s => match s with | .fz _ => true | .pool => true | .scr _ => true | .bw _ => true | .un => true | _ => false
/-- no argument is changed -/
def purB (as : List Sl) : Bool := as.all fun s => match s with | .fz _ => true | .pool => true | .scr _ => true | .un => true | _ => false
/-- a def's function, from its body's -/
def mFun (n N : Nat) (g : Env → Ws) : Cn := fun as Q E => as.length = n ∧ g (as ++ List.replicate (N - n) .un) (fun fl ρ => finB as ρ = true ∧ match fl with | .rt d => Q (.fz d) (fins as ρ) | .ro x => Q (.ow x) (fins as ρ) | .nx => Q (.fz .non) (fins as ρ) | _ => False) (fun x ρ => finB as ρ = true ∧ E x (fins as ρ))
/-- .. one that changes no argument and gives frozen data -/
def mFunP (n N : Nat) (g : Env → Ws) : List Sl → W D := fun as Q E => as.length = n ∧ g (as ++ List.replicate (N - n) .un) (fun fl _ => match fl with | .rt d => Q d | .nx => Q .non | _ => False) (fun x _ => E x)
/-- .. and gives a new tree -/
def mFunN (n N : Nat) (g : Env → Ws) : List Sl → W OD := fun as Q E => as.length = n ∧ g (as ++ List.replicate (N - n) .un) (fun fl _ => match fl with | .ro x => Q x | .rt d => Q (.fz d) | .nx => Q (.fz .non) | _ => False) (fun x _ => E x)
def liftP (c : List Sl → W D) : Cn := fun as Q E => purB as = true ∧ c as (fun d => Q (.fz d) as) (fun x => E x as)
def liftN (c : List Sl → W OD) : Cn := fun as Q E => purB as = true ∧ c as (fun x => Q (.ow x) as) (fun x => E x as)
theorem start_get {N : List Str} {vs : List V} {i : Nat} : (L2.start N vs)[i]? = if i < vs.length then (vs.map some)[i]? else if i < vs.length + (N.length - vs.length) then some none else none := by
  unfold L2.start
  by_cases h : i < vs.length
  · rw [List.getElem?_append_left (by simpa using h), if_pos h]
  · rw [List.getElem?_append_right (by simpa using h), if_neg h, List.getElem?_replicate, List.length_map]
    by_cases h2 : i < vs.length + (N.length - vs.length)
    · rw [if_pos h2, if_pos (by omega)]
    · rw [if_neg h2, if_neg (by omega)]
abbrev bsOf (as : List Sl) (vs : List V) (Fs : Fps) (Hf H : Hp) (n : Nat) : Bs := ⟨IsPool as (vs.map some), fun a => a ∈ Fs.flatten, Hf, H, vs.map some, n⟩
theorem flat_rep {Fs : Fps} {n : Nat} : (Fs ++ List.replicate n []).flatten = Fs.flatten := by
  rw [List.flatten_append]
  have : (List.replicate n ([] : List Addr)).flatten = [] := by simp
  rw [this, List.append_nil]
theorem rep_start {G : Ctx} {N : List Str} {vs : List V} {as : List Sl} {Fs : Fps} {Hf H : Hp} (s : Same Hf H) (A : As G Hf H vs as Fs) (nd : Fs.flatten.Nodup) (np : ∀ a ∈ Fs.flatten, ¬ IsPool as (vs.map some) a) (hn : as.length ≤ N.length) :
    Rep G (bsOf as vs Fs Hf H N.length) (as ++ List.replicate (N.length - as.length) .un) (L2.start N vs) (Fs ++ List.replicate (N.length - as.length) []) Hf H := by
  obtain ⟨hl, hlF⟩ := A.length
  have own_lt : ∀ {i : Nat} {t : Sl}, (as ++ List.replicate (N.length - as.length) Sl.un)[i]? = some t → t ≠ .un → as[i]? = some t := fun {i t} e z => by
    by_cases h : i < as.length
    · rw [List.getElem?_append_left h] at e; exact e
    · rw [List.getElem?_append_right (by omega), List.getElem?_replicate] at e
      split at e
      · cases e; exact absurd rfl z
      · cases e
  have Fat : ∀ {i : Nat}, i < as.length → (Fs ++ List.replicate (N.length - as.length) ([] : List Addr)).getD i [] = Fs.getD i [] := fun {i} h => by
    rw [List.getD_eq_getElem?_getD, List.getElem?_append_left (by rw [hlF]; exact h), ← List.getD_eq_getElem?_getD]
  have Fout : ∀ {i : Nat}, ¬ i < as.length → (Fs ++ List.replicate (N.length - as.length) ([] : List Addr)).getD i [] = [] := fun {i} h => by
    rw [List.getD_eq_getElem?_getD, List.getElem?_append_right (by rw [hlF]; omega), List.getElem?_replicate]
    split <;> rfl
  have lt_of : ∀ {i : Nat} {s : Sl}, as[i]? = some s → i < as.length := fun e => (List.getElem?_eq_some_iff.mp e).1
  have st_at : ∀ {i : Nat}, i < as.length → (L2.start N vs)[i]? = (vs.map some)[i]? := fun h => by rw [start_get, if_pos (by rw [hl]; exact h)]
  have there : ∀ a ∈ Fs.flatten, H a ≠ none ∧ Hf a = none := fun a ha => by
    obtain ⟨i, hi, h⟩ := of_flat ha
    have hi2 : i < as.length := by rw [← hlF]; exact hi
    obtain ⟨v, h1, h2⟩ := A.get (List.getElem?_eq_getElem hi2)
    cases e : as[i] <;> rw [e] at h2 <;> first | exact h2.elim | (rw [h2.2] at h; simp at h; done) | skip
    · rw [show Fs.getD i [] = [] from h2] at h; simp at h
    · exact Ow.there h2 a h
  refine ⟨?_, by simp; omega, by simp [hlF], s, Sm.refl _, fun b o _ n => n, fun b o e _ _ _ => e, fun b h => h, fun b hb => ?_, fun b hb => ?_, by rw [flat_rep]; exact nd, fun a ha => .inr (by rw [flat_rep] at ha; exact ha), fun a ha hp => ?_, fun i t e => ?_, fun i t e ku => ?_⟩
  · unfold L2.start; simp; omega
  · obtain ⟨i, h1, h2⟩ := hb
    obtain ⟨v, h3, ⟨p, rfl, h4, h5⟩, _⟩ := A.get h1
    rw [List.getElem?_map, h3] at h2
    cases h2
    exact ⟨h4, h5⟩
  · obtain ⟨i, h1, h2⟩ := id hb
    obtain ⟨v, h3, ⟨p, rfl, h4, us, h5, _⟩, _⟩ := A.get h1
    rw [List.getElem?_map, h3] at h2
    cases h2
    exact ⟨(show H b ≠ none by rw [h5]; simp), h4, fun z => np b z hb⟩
  · rw [flat_rep] at ha
    obtain ⟨i, e1, e2⟩ := hp
    have e3 := own_lt e1 (by simp)
    rw [st_at (lt_of e3)] at e2
    exact np a ha ⟨i, e3, e2⟩
  · cases t with
    | un => trivial
    | fz d =>
      have e' := own_lt e (by simp)
      obtain ⟨v, h1, h2⟩ := A.get e'
      exact ⟨v, by rw [st_at (lt_of e'), List.getElem?_map, h1]; rfl, h2.1⟩
    | pool =>
      have e' := own_lt e (by simp)
      obtain ⟨v, h1, ⟨p, rfl, h3, h4⟩, _⟩ := A.get e'
      exact ⟨p, by rw [st_at (lt_of e'), List.getElem?_map, h1]; rfl, h3, .inl ⟨i, e', by rw [List.getElem?_map, h1]; rfl⟩, h4⟩
    | scr ns =>
      have e' := own_lt e (by simp)
      obtain ⟨v, h1, ⟨p, rfl, h3⟩, _⟩ := A.get e'
      exact ⟨p, by rw [st_at (lt_of e'), List.getElem?_map, h1]; rfl, h3⟩
    | bw x =>
      have e' := own_lt e (by simp)
      obtain ⟨v, h1, h2⟩ := A.get e'
      refine ⟨v, by rw [st_at (lt_of e'), List.getElem?_map, h1]; rfl, by rw [st_at (lt_of e')], ?_⟩
      rw [Fat (lt_of e')]; exact h2
    | ow x => obtain ⟨v, h1, h2⟩ := A.get (own_lt e (by simp)); exact h2.elim
    | ln p x => obtain ⟨v, h1, h2⟩ := A.get (own_lt e (by simp)); exact h2.elim
    | kf d => obtain ⟨v, h1, h2⟩ := A.get (own_lt e (by simp)); exact h2.elim
    | kv => obtain ⟨v, h1, h2⟩ := A.get (own_lt e (by simp)); exact h2.elim
    | hw a c => obtain ⟨v, h1, h2⟩ := A.get (own_lt e (by simp)); exact h2.elim
    | exc _ _ x => obtain ⟨v, h1, h2⟩ := A.get (own_lt e (by simp)); exact h2.elim
  · by_cases h : i < as.length
    · rw [Fat h]
      rw [List.getElem?_append_left h] at e
      obtain ⟨v, h1, h2⟩ := A.get e
      cases t <;> first | exact h2.elim | exact h2.2 | exact h2 | cases ku
    · exact Fout h
theorem As.of {G : Ctx} {Hf H : Hp} : ∀ {vs : List V} {ss : List Sl} {F : Fps}, vs.length = ss.length → F.length = ss.length → (∀ i v s, vs[i]? = some v → ss[i]? = some s → A1 G Hf H v (F.getD i []) s) → As G Hf H vs ss F
  | [], [], [], _, _, _ => .nil
  | v :: vs, s :: ss, L :: F, h1, h2, h => .cons (by simpa using h 0 v s rfl rfl) (As.of (by simpa using h1) (by simpa using h2) fun i v s e1 e2 => by simpa using h (i + 1) v s (by simpa using e1) (by simpa using e2))
  | [], _ :: _, _, h1, _, _ => by simp at h1
  | _ :: _, [], _, h1, _, _ => by simp at h1
  | [], [], _ :: _, _, h2, _ => by simp at h2
  | _ :: _, _ :: _, [], _, h2, _ => by simp at h2
def bwF (s : Option Sl) (l : List Addr) : List Addr := match s with
  | some (.bw _) => l
  | _ => []
/-- at a def's end -/
theorem Rep.cnx {G : Ctx} {as : List Sl} {vs : List V} {Fs : Fps} {ρ : Env} {σ : St} {F : Fps} {Hf H Hf' H' : Hp} (s : Same Hf H) (A : As G Hf H vs as Fs) {n : Nat} (R : Rep G (bsOf as vs Fs Hf H n) ρ σ F Hf' H') (hn : as.length ≤ n) (fb : finB as ρ = true) : ∃ Fs', CNx G as vs Fs Hf H (fins as ρ) Fs' Hf' H' ∧ ∀ a ∈ Fs'.flatten, a ∈ F.flatten := by
  obtain ⟨hl, hlF⟩ := A.length
  have hn : as.length ≤ ρ.length := by rw [R.ln]; exact hn
  have bwAt : ∀ {i : Nat} {x : OD}, as[i]? = some (.bw x) → ∃ x', ρ[i]? = some (.bw x') := fun {i x} e => by
    have hi := (List.getElem?_eq_some_iff.mp e).1
    have hr : i < ρ.length := by omega
    have q := List.all_eq_true.mp fb ((List.zipWith (fun a r => match a, r with | Sl.bw _, Sl.bw _ => true | Sl.bw _, _ => false | _, _ => true) as ρ)[i]'(by rw [List.length_zipWith]; omega)) (List.getElem_mem _)
    rw [List.getElem_zipWith] at q
    have ea : as[i] = .bw x := by rw [List.getElem?_eq_getElem hi] at e; exact Option.some.inj e
    rw [ea] at q
    rw [List.getElem?_eq_getElem hr]
    cases z : ρ[i] <;> rw [z] at q <;> first | exact ⟨_, rfl⟩ | simp at q
  -- the cells of the trees that were handed in
  let Fs' : Fps := (List.range as.length).map fun i => bwF as[i]? (F.getD i [])
  have lF : Fs'.length = as.length := by simp [Fs']
  have atF : ∀ {i : Nat}, i < as.length → Fs'.getD i [] = bwF as[i]? (F.getD i []) := fun {i} h => by
    rw [List.getD_eq_getElem?_getD, List.getElem?_map, List.getElem?_range h]
    rfl
  have memF : ∀ {a : Addr}, a ∈ Fs'.flatten → ∃ i x, as[i]? = some (.bw x) ∧ a ∈ F.getD i [] := fun {a} ha => by
    obtain ⟨i, hi, h⟩ := of_flat ha
    rw [lF] at hi
    rw [atF hi] at h
    unfold bwF at h
    split at h
    · rename_i x e; exact ⟨i, x, e, h⟩
    · simp at h
  have ndF : Fs'.flatten.Nodup := by
    refine List.pairwise_flatten.mpr ⟨fun l hl => ?_, ?_⟩
    · simp only [Fs', List.mem_map] at hl
      obtain ⟨i, _, rfl⟩ := hl
      show (bwF as[i]? (F.getD i [])).Nodup
      unfold bwF
      split
      · exact flat_at R.nd
      · simp
    · rw [List.pairwise_map]
      refine List.Pairwise.imp_of_mem ?_ (List.pairwise_lt_range (n := as.length))
      intro i j hi hj hij a ha b hb z
      subst z
      unfold bwF at ha hb
      split at ha
      · split at hb
        · exact flat_apart R.nd (Nat.ne_of_lt hij) ha hb
        · simp at hb
      · simp at ha
  refine ⟨Fs', ⟨R.sm0, R.sm, fun b o e n p w => R.kp b o e n p w, R.st, fun b e n => ?_, fun b hb => (R.pl b hb).2, As.of ?_ ?_ fun i v s e1 e2 => ?_, ndF, fun a ha => ?_, fun a ha => ?_⟩, fun a ha => ?_⟩
  · cases q : H b with
    | none => exact absurd q e
    | some o => exact R.unf b o q n
  · unfold fins; rw [List.length_zipWith, hl]; omega
  · unfold fins; rw [lF, List.length_zipWith]; omega
  · unfold fins at e2
    rw [List.getElem?_zipWith] at e2
    have hi : i < as.length := by rw [← hl]; exact (List.getElem?_eq_some_iff.mp e1).1
    obtain ⟨v', h1, h2⟩ := A.get (List.getElem?_eq_getElem hi)
    rw [e1] at h1; cases h1
    rw [atF hi]
    rw [List.getElem?_eq_getElem hi] at e2 ⊢
    have hr : i < ρ.length := by omega
    rw [List.getElem?_eq_getElem hr] at e2
    simp only [Option.some.injEq] at e2
    cases z : as[i] <;> rw [z] at e2 h2 <;> first | exact h2.elim | skip
    · subst e2; rfl
    · subst e2; exact ⟨h2.1.mono R.sm0, rfl⟩
    · simp only at e2
      subst e2
      obtain ⟨x', ex⟩ := bwAt (i := i) (by rw [List.getElem?_eq_getElem hi, z])
      have : ρ[i] = .bw x' := by rw [List.getElem?_eq_getElem hr] at ex; exact Option.some.inj ex
      rw [this]
      obtain ⟨u, y1, y2, y3⟩ := R.sl i _ ex
      rw [show (bsOf as vs Fs Hf H n).σ = vs.map some from rfl, List.getElem?_map, e1] at y2
      rw [y1] at y2
      cases y2
      exact y3
    · subst e2
      obtain ⟨⟨p, rfl, h3, h4⟩, _⟩ := h2
      have hp : IsPool as (vs.map some) p := ⟨i, by rw [List.getElem?_eq_getElem hi, z], by rw [List.getElem?_map, e1]; rfl⟩
      exact ⟨⟨p, rfl, (R.pl p hp).1, (R.pl p hp).2⟩, rfl⟩
    · subst e2
      obtain ⟨⟨p, rfl, h3⟩, _⟩ := h2
      exact ⟨⟨p, rfl, R.sm0.seq h3⟩, rfl⟩
  · obtain ⟨i, x, _, h⟩ := memF ha
    exact (R.nw a (mem_flat h)).symm
  · obtain ⟨i, x, _, h⟩ := memF ha
    intro hp
    rcases R.nw a (mem_flat h) with z | z
    · exact (R.p0 a hp).1 z
    · exact (R.p0 a hp).2.2 z
  · obtain ⟨i, x, _, h⟩ := memF ha
    exact mem_flat h
end QL

set_option Elab.async false
set_option linter.all false
set_option maxRecDepth 100000
set_option maxHeartbeats 2000000
namespace QL
open PySem L2
open PyProof.Rows (envOfC)

theorem purB_at : ∀ {as : List Sl} {i : Nat} {x : OD}, purB as = true → as[i]? ≠ some (.bw x)
  | [], _, _, _, e => by simp at e
  | s :: as, 0, x, h, e => by
    simp only [List.getElem?_cons_zero, Option.some.injEq] at e
    subst e
    simp [purB] at h
  | s :: as, i + 1, x, h, e => by
    refine purB_at (as := as) (i := i) (x := x) ?_ (by simpa using e)
    simp only [purB, List.all_cons, Bool.and_eq_true] at h
    exact h.2
theorem pur_fin : ∀ {as : List Sl} {ρ : Env}, purB as = true → finB as ρ = true
  | [], ρ, _ => by cases ρ <;> rfl
  | s :: as, [], _ => rfl
  | s :: as, r :: ρ, h => by
    simp only [purB, List.all_cons, Bool.and_eq_true] at h
    have ih : finB as ρ = true := pur_fin h.2
    unfold finB at ih ⊢
    rw [List.zipWith_cons_cons, List.all_cons, ih, Bool.and_true]
    cases s <;> first | rfl | simp at h
theorem pur_fins : ∀ {as : List Sl} {ρ : Env}, purB as = true → as.length ≤ ρ.length → fins as ρ = as
  | [], ρ, _, _ => by cases ρ <;> rfl
  | s :: as, [], _, hl => by simp at hl
  | s :: as, r :: ρ, h, hl => by
    simp only [purB, List.all_cons, Bool.and_eq_true] at h
    have ih : fins as ρ = as := pur_fins h.2 (by simpa using hl)
    unfold fins at ih ⊢
    rw [List.zipWith_cons_cons, ih]
    cases s <;> first | rfl | simp at h
/-! ### a def's body keeps its promise -/
section
variable {P : Program} {w : World} {K : PySem.W.Frag} {mg : Str → Option Value} {base : Heap} {G : Ctx}
theorem body_ok {X : Cx} {Wx : WX} {N : List Str} {body : List Stmt} {g : Env → Ws} {vs : List V} {as : List Sl} {Fs : Fps} {Hf H : Hp} {Q : VK} {E : XK} {Qr : Fl → Env → Prop} {Er : Xc → Env → Prop} (hb : Ess G X Wx body g) (hW : ∀ cls d σ H, E cls d H → Wx cls d σ H)
    (s : Same Hf H) (A : As G Hf H vs as Fs) (nd : Fs.flatten.Nodup) (np : ∀ a ∈ Fs.flatten, ¬ IsPool as (vs.map some) a) (hn : as.length ≤ N.length) (q : g (as ++ List.replicate (N.length - as.length) .un) Qr Er)
    (hx : ∀ (fl : Fl) (ρ : Env), Qr fl ρ → finB as ρ = true ∧ fl ≠ .bk ∧ fl ≠ .ct) (hxe : ∀ x ρ, Er x ρ → finB as ρ = true)
    (k : ∀ (fl : Fl) (ρ : Env) (rv : RV) v Fs' Hf' H', Qr fl ρ → ρ.length = N.length → (match fl with | .nx => rv = .fz .non | .rt d => rv = .fz d | .ro x => rv = .ow x | _ => False) → CNx G as vs Fs Hf H (fins as ρ) Fs' Hf' H' → RetR G H Hf' H' Fs' v rv → Q v H')
    (kx : ∀ x ρ cls d Fs' Hf' H', Er x ρ → ρ.length = N.length → CNx G as vs Fs Hf H (fins as ρ) Fs' Hf' H' → XRep G Hf' x cls d → E cls d H') : ∃ t, PSs X body t ∧ t { nx := fun _ H' => Q .non H', rt := Q } (L2.start N vs) H := by
  obtain ⟨t, p, ev⟩ := hb.ex
  refine ⟨t, p, ?_⟩
  have R := rep_start (N := N) s A nd np hn
  refine ev _ _ _ _ Hf H _ _ _ R q ⟨fun ρ' σ' F' Hf' H' R' s' q' => ?_, fun ρ' σ' F' v d Hf' H' R' s' r q' => ?_, fun ρ' σ' F' u x L Hf' H' R' s' o nd' hb' hn' q' => ?_, fun ρ' σ' F' Hf' H' R' s' q' => absurd rfl (hx _ _ q').2.1, fun ρ' σ' F' Hf' H' R' s' q' => absurd rfl (hx _ _ q').2.2⟩ ?_
  · obtain ⟨Fs', c, _⟩ := R'.cnx s A hn (hx _ _ q').1
    exact k _ _ (.fz .non) _ _ _ _ q' R'.ln rfl c .non
  · obtain ⟨Fs', c, _⟩ := R'.cnx s A hn (hx _ _ q').1
    exact k _ _ (.fz d) _ _ _ _ q' R'.ln rfl c r
  · obtain ⟨Fs', c, m⟩ := R'.cnx s A hn (hx _ _ q').1
    exact k _ _ (.ow x) _ _ _ _ q' R'.ln rfl c ⟨L, o, nd', hb', fun a ha z => (hn' a ha).1 (m a z)⟩
  · intro x cls d ρ' σ' F' Hf' H' R' s' xr e
    obtain ⟨Fs', c, _⟩ := R'.cnx s A hn (hxe _ _ e)
    exact hW _ _ _ _ (kx _ _ _ _ _ _ _ e R'.ln c xr)
theorem sp_len {m : Cn} {n : Nat} (hm : ∀ as Q E, m as Q E → as.length = n) {vs : List V} {H : Hp} {Q : VK} {E : XK} (h : PSp G m vs H Q E) : vs.length = n := by
  obtain ⟨Hf, as, Fs, Q', E', s, A, _, _, q, _⟩ := h
  rw [A.length.1]; exact hm _ _ _ q
variable {x qual : Str} {st : Stmt} {f : Addr} {fd : FuncData} {N ps : List Str} {k : Nat} {g : Env → Ws}
theorem pre_le {S : FnScope N ps (defScope st)} : ps.length ≤ N.length := by have := congrArg List.length S.pre; rw [List.length_take] at this; omega
theorem fn_ok (F : Fun K x qual st f fd) (S : FnScope N ps (defScope st))
    (hb : ∀ (cdv : Value) (A : Around) (outer : List PySem.Env) (s : Shared) (H : Hp) (E : XK), Room k (A.deeper (envOfC qual (defScope st) s.heap.objs.size f cdv)) → Takes (cxOf (L2.CX P w) P w K mg base N qual (defScope st) f cdv A outer s H E) (fun cls d _ H => E cls d H) →
      Ess G (cxOf (L2.CX P w) P w K mg base N qual (defScope st) f cdv A outer s H E) (fun cls d _ H => E cls d H) (defBody st) g) : FnOk P w K mg base (L2.CX P w) (k + 1) f fd ps (PSp G (mFun ps.length N.length g)) := by
  have hn : ps.length ≤ N.length := pre_le (S := S)
  refine F.okX S (fun vs H Q E h => sp_len (fun as Q E q => q.1) h) fun cdv A outer s H vs Q E hr h => ?_
  obtain ⟨Hf, as, Fs, Q', E', sm, As_, nd, np, ⟨hl, q⟩, k1, kx⟩ := h
  rw [← hl] at q hn
  refine body_ok (hb cdv A outer s H E hr (takes_of rfl rfl rfl rfl)) (fun _ _ _ _ z => z) sm As_ nd np hn q (fun fl ρ h => ⟨h.1, ?_, ?_⟩) (fun x ρ h => h.1) (fun fl ρ rv v Fs' Hf' H' q _ e c r => ?_) (fun x ρ cls d Fs' Hf' H' e _ c xr => kx _ _ _ _ _ _ _ c xr e.2)
  · rintro rfl; exact h.2
  · rintro rfl; exact h.2
  · cases fl <;> first | exact e.elim | skip
    all_goals (subst e; exact k1 _ _ _ _ _ _ c r q.2)
theorem fn_okP (F : Fun K x qual st f fd) (S : FnScope N ps (defScope st))
    (hb : ∀ (cdv : Value) (A : Around) (outer : List PySem.Env) (s : Shared) (H : Hp) (E : XK), Room k (A.deeper (envOfC qual (defScope st) s.heap.objs.size f cdv)) → Takes (cxOf (L2.CX P w) P w K mg base N qual (defScope st) f cdv A outer s H E) (fun cls d _ H => E cls d H) →
      Ess G (cxOf (L2.CX P w) P w K mg base N qual (defScope st) f cdv A outer s H E) (fun cls d _ H => E cls d H) (defBody st) g) : FnOk P w K mg base (L2.CX P w) (k + 1) f fd ps (PSp G (liftP (mFunP ps.length N.length g))) := by
  have hn : ps.length ≤ N.length := pre_le (S := S)
  refine F.okX S (fun vs H Q E h => sp_len (fun as Q E q => q.2.1) h) fun cdv A outer s H vs Q E hr h => ?_
  obtain ⟨Hf, as, Fs, Q', E', sm, As_, nd, np, ⟨pu, hl, q⟩, k1, kx⟩ := h
  rw [← hl] at q hn
  refine body_ok (hb cdv A outer s H E hr (takes_of rfl rfl rfl rfl)) (fun _ _ _ _ z => z) sm As_ nd np hn q (fun fl ρ h => ⟨pur_fin pu, ?_, ?_⟩) (fun x ρ h => pur_fin pu) (fun fl ρ rv v Fs' Hf' H' q le e c r => ?_) (fun x ρ cls d Fs' Hf' H' e le c xr => ?_)
  · rintro rfl; exact h
  · rintro rfl; exact h
  · rw [pur_fins pu (by rw [le]; exact hn)] at c
    cases fl <;> first | exact e.elim | exact q.elim | skip
    all_goals (subst e; exact k1 _ _ _ _ _ _ c r q)
  · rw [pur_fins pu (by rw [le]; exact hn)] at c
    exact kx _ _ _ _ _ _ _ c xr e
theorem RetR.on {H Hf' H' : Hp} {Fs' : Fps} {v : V} {d : D} (r : RetR G H Hf' H' Fs' v (.fz d)) : RetR G H Hf' H' Fs' v (.ow (.fz d)) := ⟨[], .fz r, by simp, by simp, by simp⟩
theorem fn_okN (F : Fun K x qual st f fd) (S : FnScope N ps (defScope st))
    (hb : ∀ (cdv : Value) (A : Around) (outer : List PySem.Env) (s : Shared) (H : Hp) (E : XK), Room k (A.deeper (envOfC qual (defScope st) s.heap.objs.size f cdv)) → Takes (cxOf (L2.CX P w) P w K mg base N qual (defScope st) f cdv A outer s H E) (fun cls d _ H => E cls d H) →
      Ess G (cxOf (L2.CX P w) P w K mg base N qual (defScope st) f cdv A outer s H E) (fun cls d _ H => E cls d H) (defBody st) g) : FnOk P w K mg base (L2.CX P w) (k + 1) f fd ps (PSp G (liftN (mFunN ps.length N.length g))) := by
  have hn : ps.length ≤ N.length := pre_le (S := S)
  refine F.okX S (fun vs H Q E h => sp_len (fun as Q E q => q.2.1) h) fun cdv A outer s H vs Q E hr h => ?_
  obtain ⟨Hf, as, Fs, Q', E', sm, As_, nd, np, ⟨pu, hl, q⟩, k1, kx⟩ := h
  rw [← hl] at q hn
  refine body_ok (hb cdv A outer s H E hr (takes_of rfl rfl rfl rfl)) (fun _ _ _ _ z => z) sm As_ nd np hn q (fun fl ρ h => ⟨pur_fin pu, ?_, ?_⟩) (fun x ρ h => pur_fin pu) (fun fl ρ rv v Fs' Hf' H' q le e c r => ?_) (fun x ρ cls d Fs' Hf' H' e le c xr => ?_)
  · rintro rfl; exact h
  · rintro rfl; exact h
  · rw [pur_fins pu (by rw [le]; exact hn)] at c
    cases fl <;> first | exact e.elim | exact q.elim | skip
    · subst e; exact k1 _ _ _ _ _ _ c r.on q
    · subst e; exact k1 _ _ _ _ _ _ c r.on q
    · subst e; exact k1 _ _ _ _ _ _ c r q
  · rw [pur_fins pu (by rw [le]; exact hn)] at c
    exact kx _ _ _ _ _ _ _ c xr e
/-- .. the law: no exception leaves it -/
theorem law_ok {p : Str} {n : Nat} (F : Fun K x qual st f fd) (S : FnScope N [p] (defScope st)) (hGK : G.K = K)
    (hb : ∀ (cdv : Value) (A : Around) (outer : List PySem.Env) (s : Shared) (H : Hp), Room k (A.deeper (envOfC qual (defScope st) s.heap.objs.size f cdv)) →
      Ess G (cxOf CX0 P w K mg base N qual (defScope st) f cdv A outer s H E0).nox WF (defBody st) g)
    (hm : ∀ ns : List Int, ns.length ≤ n → mFunP 1 N.length g [.scr ns] (fun d => d = .bl true) (fun _ => False)) :
    FnOk P w K mg base CX0 (k + 1) f fd [p] (fun vs H Q _ => ∃ (a : Addr) (ns : List Int), vs = [.ref a] ∧ SqL K H a (ns.map V.int) ∧ ns.length ≤ n ∧ ∀ H', Q (.bl true) H') := by
  have hn : 1 ≤ N.length := pre_le (S := S)
  refine F.ok S (fun vs H Q E h => ?_) fun cdv A outer s H vs Q E hr h => ?_
  · obtain ⟨a, ns, rfl, _⟩ := h
    rfl
  · obtain ⟨a, ns, rfl, hS, hl, k⟩ := h
    subst hGK
    refine body_ok (E := E0) (as := [.scr ns]) (Fs := [[]]) (Qr := fun fl _ => match fl with | .rt d => d = .bl true | .nx => D.non = .bl true | _ => False) (Er := fun x _ => False) (hb cdv A outer s H hr) (fun _ _ _ _ z => z) (Same.refl _) (.cons ⟨⟨a, rfl, hS⟩, rfl⟩ .nil) (by simp) (by simp) hn (hm ns hl).2 (fun fl ρ h => ⟨pur_fin rfl, ?_, ?_⟩) (fun x ρ h => h.elim) (fun fl ρ rv v Fs' Hf' H' q le e c r => ?_) (fun x ρ cls d Fs' Hf' H' e le c xr => e.elim)
    · rintro rfl; exact h
    · rintro rfl; exact h
    · cases fl <;> first | exact e.elim | exact q.elim | skip
      · cases q
      · subst e
        subst q
        cases r
        exact k _
end

/-! ### arguments of a call that changes none of them -/
def PA1 (G : Ctx) (ρ : Env) (σ : St) (H Hf' H' : Hp) (v : V) : Sl → Prop
  | .fz d => Rp G.cn Hf' v d
  | .pool => ∃ p, v = .ref p ∧ Hf' p = none ∧ PoolAt G H' p ∧ (IsPool ρ σ p ∨ H p = none)
  | .scr ns => ∃ p, v = .ref p ∧ SqL G.K Hf' p (ns.map V.int)
  | .un => True
  | _ => False
inductive PAs (G : Ctx) (ρ : Env) (σ : St) (H Hf' H' : Hp) : List V → List Sl → Prop
  | nil : PAs G ρ σ H Hf' H' [] []
  | cons {v : V} {s : Sl} {vs : List V} {ss : List Sl} : PA1 G ρ σ H Hf' H' v s → PAs G ρ σ H Hf' H' vs ss → PAs G ρ σ H Hf' H' (v :: vs) (s :: ss)
section
variable {G : Ctx} {B : Bs} {ρ : Env} {σ : St} {F : Fps} {H Hf1 H1 Hf' H' : Hp}
theorem PA1.mono {v : V} {s : Sl} (a : PA1 G ρ σ H Hf1 H1 v s) (R : Rep G B ρ σ F Hf' H') (n : Nx ρ σ Hf1 H1 Hf' H') : PA1 G ρ σ H Hf' H' v s := by
  cases s with
  | fz d => exact Rp.mono n.sm a
  | pool =>
    obtain ⟨p, e, h1, ⟨vs, h2, h3⟩, h4⟩ := a
    obtain ⟨n1, o', n2, n3⟩ := n.kp p _ h2 h1
    refine ⟨p, e, n1, ?_, h4⟩
    by_cases hp : IsPool ρ σ p
    · obtain ⟨i, i1, i2⟩ := hp
      obtain ⟨p2, e2, _, _, q⟩ := R.sl i _ i1
      rw [i2] at e2
      cases e2
      exact q
    · rw [n3 hp] at n2
      exact ⟨vs, n2, h3⟩
  | scr ns => obtain ⟨p, e, h⟩ := a; exact ⟨p, e, n.sm.seq h⟩
  | un => trivial
  | _ => exact a.elim
theorem PAs.mono (R : Rep G B ρ σ F Hf' H') (n : Nx ρ σ Hf1 H1 Hf' H') : ∀ {vs : List V} {ss : List Sl}, PAs G ρ σ H Hf1 H1 vs ss → PAs G ρ σ H Hf' H' vs ss
  | _, _, .nil => .nil
  | _, _, .cons a t => .cons (a.mono R n) (PAs.mono R n t)
theorem PAs.as : ∀ {vs : List V} {ss : List Sl}, PAs G ρ σ H Hf1 H1 vs ss → As G Hf1 H1 vs ss (List.replicate ss.length [])
  | _, _, .nil => .nil
  | _, _, .cons (s := s) a t => by
    refine .cons ?_ (PAs.as t)
    cases s with
    | fz d => exact ⟨a, rfl⟩
    | pool => obtain ⟨p, e, h1, h2, _⟩ := a; exact ⟨⟨p, e, h1, h2⟩, rfl⟩
    | scr ns => exact ⟨a, rfl⟩
    | un => rfl
    | _ => exact a.elim
theorem PAs.pool : ∀ {vs : List V} {ss : List Sl}, PAs G ρ σ H Hf1 H1 vs ss → ∀ b, IsPool ss (vs.map some) b → (IsPool ρ σ b ∨ H b = none)
  | _, _, .nil, b, ⟨i, e, _⟩ => by simp at e
  | _, _, .cons a t, b, ⟨0, e1, e2⟩ => by
    simp only [List.getElem?_cons_zero, Option.some.injEq] at e1
    subst e1
    obtain ⟨p, e, _, _, h⟩ := a
    simp only [List.map_cons, List.getElem?_cons_zero, Option.some.injEq] at e2
    rw [e] at e2
    cases e2
    exact h
  | _, _, .cons a t, b, ⟨i + 1, e1, e2⟩ => PAs.pool t b ⟨i, by simpa using e1, by simpa using e2⟩
theorem PAs.move {Hf2 H2 : Hp} (k : ∀ b, H1 b = none → H b = none) : ∀ {vs : List V} {ss : List Sl}, PAs G ρ σ H1 Hf2 H2 vs ss → PAs G ρ σ H Hf2 H2 vs ss
  | _, _, .nil => .nil
  | _, _, .cons (s := s) a t => .cons (by
    cases s with
    | pool => obtain ⟨p, e, h1, h2, h3⟩ := a; exact ⟨p, e, h1, h2, h3.imp id (k _)⟩
    | _ => exact a) (PAs.move k t)
theorem rep_nil {n : Nat} : (List.replicate n ([] : List Addr)).flatten = [] := by simp
/-- behind a call -/
theorem Rep.call {vs : List V} {as as' : List Sl} {Fs Fs' : Fps} {Hf : Hp} (R0 : Rep G B ρ σ F Hf H) (R : Rep G B ρ σ F Hf1 H1) (n : Nx ρ σ Hf H Hf1 H1) (A : PAs G ρ σ H Hf1 H1 vs as) (eF : Fs.flatten = []) (c : CNx G as vs Fs Hf1 H1 as' Fs' Hf' H') : Rep G B ρ σ F Hf' H' ∧ Nx ρ σ Hf H Hf' H' := by
  have notF : ∀ {b : Addr}, b ∉ Fs.flatten := fun {b} z => by rw [eF] at z; simp at z
  refine ⟨R.go c.sm c.sa (fun a ha => ?_) (fun p hp h1 h2 => ?_) (fun b hb h => c.uf b (R.st b hb) h) (fun b hb hf hnp hw => ?_) fun b hb => c.st b (R.st b hb), ⟨n.sm.trans c.sm, fun b o e z => ?_⟩⟩
  · obtain ⟨c1, c2⟩ := R.cell ha
    cases e : H1 a with
    | none => exact absurd e c1
    | some o =>
      refine ⟨c.kp a o e c2 (fun z => ?_) notF, c.uf a c1 c2⟩
      rcases A.pool a z with z | z
      · exact R.np a ha z
      · exact (R0.cell ha).1 z
  · obtain ⟨vs2, h3, h4⟩ := h2
    refine ⟨?_, c.uf p (by rw [h3]; simp) h1⟩
    by_cases z : IsPool as (vs.map some) p
    · exact c.pl p z
    · exact ⟨vs2, c.kp p _ h3 h1 z notF, h4⟩
  · have hb1 := R.st b hb
    cases e : H1 b with
    | none => exact absurd e hb1
    | some o =>
      have hf1 : Hf1 b = none := by
        cases q : B.H b with
        | none => exact absurd q hb
        | some u => exact R.unf b u q hf
      refine c.kp b o e hf1 (fun z => ?_) notF
      rcases A.pool b z with ⟨i, z1, z2⟩ | z
      · obtain ⟨p, y1, _, y2, _⟩ := R.sl i _ z1
        rw [z2] at y1
        cases y1
        exact y2.elim hnp hb
      · exact R0.st b hb z
  · obtain ⟨n1, o1, e1, q1⟩ := n.kp b o e z
    have u1 := c.uf b (by rw [e1]; simp) n1
    refine ⟨u1, ?_⟩
    by_cases hp : IsPool as (vs.map some) b
    · have hq : IsPool ρ σ b := (A.pool b hp).elim id fun y => by rw [e] at y; cases y
      cases e2 : H' b with
      | none => exact absurd e2 (c.st b (by rw [e1]; simp))
      | some o2 => exact ⟨o2, rfl, fun y => absurd hq y⟩
    · exact ⟨o1, c.kp b o1 e1 n1 hp notF, q1⟩
end
def EcT (G : Ctx) (Wx : WX) (t : TA) (g : Env → W (List Sl)) : Prop :=
  ∀ (B : Bs) (ρ : Env) (σ : St) (F : Fps) (Hf H : Hp) (Q' : List Sl → Prop) (E' : Xc → Prop) (Q : List V → Hp → Prop), Rep G B ρ σ F Hf H → g ρ Q' E' →
    (∀ vs as Hf' H', Rep G B ρ σ F Hf' H' → Nx ρ σ Hf H Hf' H' → PAs G ρ σ H Hf' H' vs as → Q' as → Q vs H') → XPost G Wx σ F Hf H B ρ E' → t σ H Q
structure Ec (G : Ctx) (X : Cx) (Wx : WX) (es : List Expr) (g : Env → W (List Sl)) : Prop where
  ex : ∃ t, PA X es t ∧ EcT G Wx t g
def nilC : Env → W (List Sl) := fun _ => W.pure []
def dC (g : Env → W D) (gs : Env → W (List Sl)) : Env → W (List Sl) := fun ρ => do let d ← g ρ; let r ← gs ρ; W.pure (.fz d :: r)
def slC (i : Nat) (gs : Env → W (List Sl)) : Env → W (List Sl) := fun ρ Q E => (ρ[i]? = some .pool ∧ gs ρ (fun r => Q (.pool :: r)) E) ∨ (∃ ns, ρ[i]? = some (.scr ns) ∧ gs ρ (fun r => Q (.scr ns :: r)) E)
/-- ints that a pool holds -/
def poolO (n : Nat) (x : OD) : Prop := ∃ ns : List Int, ns.length = n ∧ x = .lst (ns.map fun i => .fz (.int i))
def pin (n : Nat) (vs : List V) : Prop := ∃ ns : List Int, ns.length = n ∧ vs = ns.map V.int
def newC (n : Nat) (g : Env → W OD) (gs : Env → W (List Sl)) : Env → W (List Sl) := fun ρ Q E => g ρ (fun x => poolO n x ∧ gs ρ (fun r => Q (.pool :: r)) E) E
section
variable {G : Ctx} {X : Cx} {Wx : WX} {a b c e o : Expr} {es : List Expr} {ga gb gc g : Env → W D} {gs : Env → W (List Sl)} {pos apos p : Pos}
theorem ec_nil : Ec G X Wx [] nilC := ⟨_, pa_nil, fun B ρ σ F Hf H Q' E' Q R q k kx => k [] [] Hf H R Nx.refl .nil q⟩
theorem ec_d (h : Ev G X Wx e g) (hr : Ec G X Wx es gs) (hs : starEach (e :: es) X.env = (false, eval e X.env) :: starEach es X.env := by rfl) : Ec G X Wx (e :: es) (dC g gs) := by
  obtain ⟨ta, pa, ea⟩ := h.ex
  obtain ⟨tb, pb, eb⟩ := hr.ex
  refine ⟨_, pa_cons pa pb hs, ?_⟩
  intro B ρ σ F Hf H Q' E' Q R q k kx
  refine ea B ρ σ F Hf H _ E' _ R q (fun v d Hf1 H1 R1 s1 r1 q1 => ?_) kx
  exact eb B ρ σ F Hf1 H1 _ E' _ R1 q1 (fun vs ds Hf2 H2 R2 s2 r2 q2 => k _ _ Hf2 H2 R2 (s1.trans s2) (.cons (s := .fz d) (r1.mono s2.sm) (r2.move fun b z => Nx.nn R.sm R1.sm s1 z)) q2) (kx.mono s1)
theorem ec_slot {i : Nat} {x : Str} (h : PE X (.Name x p) (tVar i)) (hr : Ec G X Wx es gs) (hs : starEach (.Name x p :: es) X.env = (false, eval (.Name x p) X.env) :: starEach es X.env := by rfl) : Ec G X Wx (.Name x p :: es) (slC i gs) := by
  obtain ⟨tb, pb, eb⟩ := hr.ex
  refine ⟨_, pa_cons h pb hs, ?_⟩
  intro B ρ σ F Hf H Q' E' Q R q k kx
  rcases q with ⟨e, q⟩ | ⟨ns, e, q⟩
  · obtain ⟨p, e1, h1, h2, h3⟩ := R.sl i _ e
    refine ⟨_, e1, eb B ρ σ F Hf H _ E' _ R q (fun vs ds Hf2 H2 R2 s2 r2 q2 => k _ _ Hf2 H2 R2 s2 (.cons ?_ r2) q2) kx⟩
    obtain ⟨p', e1', h1', _, h3'⟩ := R2.sl i _ e
    rw [e1] at e1'
    cases e1'
    exact ⟨p, rfl, h1', h3', .inl ⟨i, e, e1⟩⟩
  · obtain ⟨p, e1, h1⟩ := R.sl i _ e
    exact ⟨_, e1, eb B ρ σ F Hf H _ E' _ R q (fun vs ds Hf2 H2 R2 s2 r2 q2 => k _ _ Hf2 H2 R2 s2 (.cons (s := .scr ns) ⟨p, rfl, s2.sm.seq h1⟩ r2) q2) kx⟩
theorem ows_ints {cn : Nat → Addr} {Hf H : Hp} : ∀ {vs : List V} {ns : List Int} {L : List Addr}, Ows cn Hf H vs (ns.map fun i => .fz (.int i)) L → vs = ns.map V.int ∧ L = []
  | _, [], _, .nil => ⟨rfl, rfl⟩
  | _, n :: ns, _, .cons (.fz (.int _)) t => by
    obtain ⟨h1, h2⟩ := ows_ints t
    subst h1 h2
    exact ⟨rfl, rfl⟩
theorem ow_pool {cn : Nat → Addr} {Hf H : Hp} {u : V} {x : OD} {L : List Addr} {n : Nat} (o : Ow cn Hf H u x L) (h : poolO n x) : ∃ p vs, u = .ref p ∧ L = [p] ∧ H p = some (.lst vs) ∧ Hf p = none ∧ pin n vs := by
  obtain ⟨ns, hl, rfl⟩ := h
  cases o with
  | lst hp hf t =>
    obtain ⟨h1, h2⟩ := ows_ints t
    subst h1 h2
    exact ⟨_, _, rfl, rfl, hp, hf, ns, hl, rfl⟩
theorem ec_new {n : Nat} {gp : Env → W OD} (hG : G.pi = pin n) (h : En G X Wx e gp) (hr : Ec G X Wx es gs) (hs : starEach (e :: es) X.env = (false, eval e X.env) :: starEach es X.env := by rfl) : Ec G X Wx (e :: es) (newC n gp gs) := by
  obtain ⟨ta, pa, ea⟩ := h.ex
  obtain ⟨tb, pb, eb⟩ := hr.ex
  refine ⟨_, pa_cons pa pb hs, ?_⟩
  intro B ρ σ F Hf H Q' E' Q R q k kx
  refine ea B ρ σ F Hf H _ E' _ R q (fun u x L Hf1 H1 R1 s1 o nd nw q1 => ?_) kx
  obtain ⟨p, vs, rfl, rfl, hp, hf, hpi⟩ := ow_pool o q1.1
  refine eb B ρ σ F Hf1 H1 _ E' _ R1 q1.2 (fun vs ds Hf2 H2 R2 s2 r2 q2 => k _ _ Hf2 H2 R2 (s1.trans s2) (.cons ?_ (r2.move fun b z => Nx.nn R.sm R1.sm s1 z)) q2) (kx.mono s1)
  have a : PA1 G ρ σ H Hf1 H1 (.ref p) .pool := ⟨p, rfl, hf, ⟨_, hp, by rw [hG]; exact hpi⟩, .inr (nw p (by simp))⟩
  exact a.mono R2 s2

/-! ### calls of defs that change nothing -/
def callF (m : List Sl → W D) (gs : Env → W (List Sl)) : Env → W D := fun ρ => do let as ← gs ρ; m as
def callO (m : List Sl → W OD) (gs : Env → W (List Sl)) : Env → W OD := fun ρ Q E => gs ρ (fun as => m as Q E) E
def argsP (gs : Env → W (List Sl)) : Env → W (List Sl) := fun ρ Q E => gs ρ (fun as => purB as = true ∧ Q as) E
theorem evt_callF {t : TA} {m : List Sl → W D} (hs : EcT G Wx t gs) : EvT G Wx (tCallS (PSp G (liftP m)) (WE Wx) t) (callF m (argsP gs)) := by
  intro B ρ σ F Hf H Q' E' Q R q k kx
  refine hs B ρ σ F Hf H _ E' _ R q (fun vs as Hf1 H1 R1 n1 A q1 => ?_) kx
  obtain ⟨pu, q1⟩ := q1
  refine ⟨Hf1, as, _, fun rv _ => ∃ d, rv = .fz d ∧ Q' d, fun x _ => E' x, R1.sm, A.as, by rw [rep_nil]; simp, by rw [rep_nil]; simp, ⟨pu, ?_⟩, fun v rv as' Fs' Hf' H' c r q' => ?_, fun x cls d as' Fs' Hf' H' c xr e => ?_⟩
  · have : (fun d => ∃ d', RV.fz d = .fz d' ∧ Q' d') = Q' := funext fun d => propext ⟨fun ⟨d', e, q⟩ => by cases e; exact q, fun q => ⟨d, rfl, q⟩⟩
    rw [this]
    exact q1
  · obtain ⟨d, rfl, q'⟩ := q'
    obtain ⟨R2, n2⟩ := R.call R1 n1 A rep_nil c
    exact k v d Hf' H' R2 n2 r q'
  · obtain ⟨R2, n2⟩ := R.call R1 n1 A rep_nil c
    exact kx x cls d Hf' H' R2 n2 xr e
theorem ent_callO {t : TA} {m : List Sl → W OD} (hs : EcT G Wx t gs) : EnT G Wx (tCallS (PSp G (liftN m)) (WE Wx) t) (callO m (argsP gs)) := by
  intro B ρ σ F Hf H Q' E' Q R q k kx
  refine hs B ρ σ F Hf H _ E' _ R q (fun vs as Hf1 H1 R1 n1 A q1 => ?_) kx
  obtain ⟨pu, q1⟩ := q1
  refine ⟨Hf1, as, _, fun rv _ => ∃ d, rv = .ow d ∧ Q' d, fun x _ => E' x, R1.sm, A.as, by rw [rep_nil]; simp, by rw [rep_nil]; simp, ⟨pu, ?_⟩, fun v rv as' Fs' Hf' H' c r q' => ?_, fun x cls d as' Fs' Hf' H' c xr e => ?_⟩
  · have : (fun d => ∃ d', RV.ow d = .ow d' ∧ Q' d') = Q' := funext fun d => propext ⟨fun ⟨d', e, q⟩ => by cases e; exact q, fun q => ⟨d, rfl, q⟩⟩
    rw [this]
    exact q1
  · obtain ⟨x, rfl, q'⟩ := q'
    obtain ⟨R2, n2⟩ := R.call R1 n1 A rep_nil c
    obtain ⟨L, o, nd, nw, _⟩ := r
    exact k v x L Hf' H' R2 n2 o nd (fun a ha => n1.nn R.sm R1.sm (nw a ha)) q'
  · obtain ⟨R2, n2⟩ := R.call R1 n1 A rep_nil c
    exact kx x cls d Hf' H' R2 n2 xr e
theorem ev_call {x : Str} {m : List Sl → W D} {kk : Nat} {f : Addr} {fd : FuncData} {ps : List Str} (F : FnOk X.prog X.w X.K X.mg X.base (L2.CX X.prog X.w) kk f fd ps (PSp G (liftP m))) (hr : Room kk X.A) (hg : Gl X x) (hm : X.mg x = some (.ref f)) (hk : PySem.W.keepIn X.K (.ref f) = true)
    (hb : Binds X.K fd ps []) (tk : Takes X Wx) (ha : Ec G X Wx (e :: es) gs) (hdb : (x == ("__debug__" : Str)) = false := by decide) (he : starEach (e :: es) X.env = (false, eval e X.env) :: starEach es X.env := by rfl)
    (hpl : (backTo pos (starEach es X.env)).any (·.1) = false := by rfl) : Ev G X Wx (.Call (.Name x p) (e :: es) [] pos) (callF m (argsP gs)) := by
  obtain ⟨t, pa, ea⟩ := ha.ex
  exact ⟨_, pe_callS F hr hg hm hk hb (fun σ => passAt tk σ) pa hdb he hpl, evt_callF ea⟩
theorem en_call {x : Str} {m : List Sl → W OD} {kk : Nat} {f : Addr} {fd : FuncData} {ps : List Str} (F : FnOk X.prog X.w X.K X.mg X.base (L2.CX X.prog X.w) kk f fd ps (PSp G (liftN m))) (hr : Room kk X.A) (hg : Gl X x) (hm : X.mg x = some (.ref f)) (hk : PySem.W.keepIn X.K (.ref f) = true)
    (hb : Binds X.K fd ps []) (tk : Takes X Wx) (ha : Ec G X Wx (e :: es) gs) (hdb : (x == ("__debug__" : Str)) = false := by decide) (he : starEach (e :: es) X.env = (false, eval e X.env) :: starEach es X.env := by rfl)
    (hpl : (backTo pos (starEach es X.env)).any (·.1) = false := by rfl) : En G X Wx (.Call (.Name x p) (e :: es) [] pos) (callO m (argsP gs)) := by
  obtain ⟨t, pa, ea⟩ := ha.ex
  exact ⟨_, pe_callS F hr hg hm hk hb (fun σ => passAt tk σ) pa hdb he hpl, ent_callO ea⟩
/-- a slot's tree as a pool -/
def sPool (n i : Nat) (g : Env → Ws) : Env → Ws := fun ρ Q E => ∃ x, ρ[i]? = some (.ow x) ∧ poolO n x ∧ g (ρ.set i .pool) Q E
theorem ess_pool {n i : Nat} {sts : List Stmt} {f : Env → Ws} (hG : G.pi = pin n) (h1 : Ess G X Wx sts f) : Ess G X Wx sts (sPool n i f) := by
  obtain ⟨t, p, ev⟩ := h1.ex
  refine ⟨_, p, ?_⟩
  intro B ρ σ F Hf H Q' E' Dd R q k kx
  obtain ⟨x, e, hx, q⟩ := q
  have hl : i < ρ.length := (List.getElem?_eq_some_iff.mp e).1
  obtain ⟨u, e1, o, hb⟩ := R.sl i _ e
  obtain ⟨p, vs, rfl, eL, hp, hf, hpi⟩ := ow_pool o hx
  obtain ⟨R1, n1⟩ := R.drop e
  have hpF : p ∈ F.getD i [] := by rw [eL]; simp
  have R2 := R1.give (i := i) (s := .pool) (x := some (.ref p)) (L := []) (fun _ => ⟨p, rfl, hf, .inr (hb p hpF), vs, hp, by rw [hG]; exact hpi⟩) (fun _ => rfl) (by simp) (by simp) (by simp) (by simp) fun _ q hq j hj z => by
    cases hq
    rw [getD_set_ne (fun y => hj y.symm)] at z
    exact flat_apart R.nd hj z hpF
  have es : σ.set i (some (.ref p)) = σ := List.ext_getElem? fun j => by
    by_cases hj : i = j
    · subst hj; rw [List.getElem?_set_self (by rw [R.len]; exact hl), e1]
    · rw [List.getElem?_set_ne hj]
  rw [es, List.set_set] at R2
  exact ev B _ σ _ Hf H Q' E' Dd R2 q k kx
end
end QL

set_option Elab.async false
set_option linter.all false
set_option maxRecDepth 100000
set_option maxHeartbeats 2000000
namespace QL
open PySem L2
open PyProof.Rows (envOfC)

/-! ### methods of frozen instances -/
def tMethX (C : Addr) (m : Str) (sp : Sp) (E : St → XK) (ta : TE) (t : TA) : TE := fun σ H Q => ta σ H fun x H1 => ∃ a dx fs, x = .ref a ∧ H1 a = some (.ins C dx fs) ∧ fs.lookup m = none ∧ t σ H1 fun vs H2 => sp (x :: vs) H2 Q (E σ)
section
variable {G : Ctx} {X : Cx} {Wx : WX} {a b c e o : Expr} {es : List Expr} {ga gb gc g : Env → W D} {gs : Env → W (List Sl)} {pos apos p : Pos}
theorem pe_methX {C f : Addr} {m : Str} {CX : CXT} {kk : Nat} {fd : FuncData} {ps : List Str} {sp : Sp} {E : St → XK} {ta : TE} {t : TA} {pl : Sem Bool} (he : PE X o ta) (c : Cls X.K C) (hm : Meth X.K C m f) (F : FnOk X.prog X.w X.K X.mg X.base CX kk f fd ps sp) (hr : Room kk X.A) (hb : Binds X.K fd ps [])
    (hx : ∀ σ, PassesAt CX X σ (E σ)) (ha : PA X (e :: es) t)
    (hst : starEach (e :: es) X.env = (false, eval e X.env) :: starEach es X.env := by rfl) (hpl : (backTo pos (starEach es X.env)).any (·.1) = false := by rfl)
    (ht : eval (.Call (.Attribute o m apos) (e :: es) [] pos) X.env = (do
      let ov ← eval o X.env
      standAt apos.atName
      let (f, first) ← holding [ov] (getMethod ov m pl)
      callWith pos f first (backTo pos (starEach (e :: es) X.env)) (backToKw pos (keywordEach [] X.env))) := by rfl) :
    PE X (.Call (.Attribute o m apos) (e :: es) [] pos) (tMethX C m sp E ta t) := by
  refine ⟨fun pins s σ H Q I h => ?_⟩
  refine PySem.W.methodCall_KW (pl := pl) (thn (he.run pins s σ H _ I h) fun u s1 ⟨x, H1, I1, rx, a, dx, fs, ex, ea, l, q⟩ => ?_) ht
  subst ex
  obtain rfl : u = Value.ref a := rx
  refine getmeth_ok I1 ea c hm l ?_
  refine PySem.W.callWith_K (first := [.ref a]) (h₀ := X.base) I.ok.mod.kin hm.kp (thn (ha.run pos pins s1 σ H1 _ I1 q) fun us s2 ⟨vs, H2, I2, r, q2⟩ => ⟨I2.kIn, ?_⟩) hst hpl
  exact run_fnS (us := .ref a :: us) (vs := .ref a :: vs) F hr hb (hx σ) I2 (.cons rfl r) q2
theorem pe_meth0X {C f : Addr} {m : Str} {CX : CXT} {kk : Nat} {fd : FuncData} {ps : List Str} {sp : Sp} {E : St → XK} {ta : TE} {pl : Sem Bool} (he : PE X o ta) (c : Cls X.K C) (hm : Meth X.K C m f) (F : FnOk X.prog X.w X.K X.mg X.base CX kk f fd ps sp) (hr : Room kk X.A) (hb : Binds X.K fd ps [])
    (hx : ∀ σ, PassesAt CX X σ (E σ))
    (ht : eval (.Call (.Attribute o m apos) [] [] pos) X.env = (do
      let ov ← eval o X.env
      standAt apos.atName
      let (f, first) ← holding [ov] (getMethod ov m pl)
      callWith pos f first (backTo pos (starEach [] X.env)) (backToKw pos (keywordEach [] X.env))) := by rfl) :
    PE X (.Call (.Attribute o m apos) [] [] pos) (tMethX C m sp E ta tNil) := by
  refine ⟨fun pins s σ H Q I h => ?_⟩
  refine PySem.W.methodCall_KW (pl := pl) (thn (he.run pins s σ H _ I h) fun u s1 ⟨x, H1, I1, rx, a, dx, fs, ex, ea, l, q⟩ => ?_) ht
  subst ex
  obtain rfl : u = Value.ref a := rx
  refine getmeth_ok I1 ea c hm l ?_
  exact PySem.W.callWith_K0 (first := [.ref a]) I1.kIn hm.kp (run_fnS (us := [.ref a]) (vs := [.ref a]) F hr hb (hx σ) I1 (.cons rfl .nil) q)
theorem PAs.fz {ρ : Env} {σ : St} {H Hf' H' : Hp} {v : V} {d : D} {vs : List V} {as : List Sl} (r : Rp G.cn Hf' v d) (A : PAs G ρ σ H Hf' H' vs as) : PAs G ρ σ H Hf' H' (v :: vs) (.fz d :: as) := .cons (s := .fz d) r A
def callM (C : Nat) (mn : Str) (m : List Sl → W D) (go : Env → W D) (gs : Env → W (List Sl)) : Env → W D := fun ρ => do
  let r ← go ρ
  W.need (∃ fs, r = .ins C fs ∧ fs.lookup mn = none) (do let as ← gs ρ; m (.fz r :: as))
def callMO (C : Nat) (mn : Str) (m : List Sl → W OD) (go : Env → W D) (gs : Env → W (List Sl)) : Env → W OD := fun ρ Q E => go ρ (fun r => (∃ fs, r = .ins C fs ∧ fs.lookup mn = none) ∧ gs ρ (fun as => m (.fz r :: as) Q E) E) E
theorem evt_meth {C : Nat} {mn : Str} {m : List Sl → W D} {ta : TE} {t : TA} (ho : EvT G Wx ta g) (hs : EcT G Wx t gs) : EvT G Wx (tMethX (G.cn C) mn (PSp G (liftP m)) (WE Wx) ta t) (callM C mn m g (argsP gs)) := by
  intro B ρ σ F Hf H Q' E' Q R q k kx
  refine ho B ρ σ F Hf H _ E' _ R q (fun v d Hf1 H1 R1 n1 r1 q1 => ?_) kx
  obtain ⟨⟨fs, rfl, hl⟩, q1⟩ := q1
  cases r1 with
  | @ins pa dx _ gs' _ h r =>
    refine ⟨_, _, _, rfl, R1.sm _ _ h, r.none hl, ?_⟩
    refine hs B ρ σ F Hf1 H1 _ E' _ R1 q1 (fun vs as Hf2 H2 R2 n2 A q2 => ?_) (kx.mono n1)
    obtain ⟨pu, q2⟩ := q2
    have A2 : PAs G ρ σ H1 Hf2 H2 (.ref pa :: vs) (.fz (.ins C fs) :: as) := A.fz (Rp.mono n2.sm (.ins h r))
    have pu2 : purB (.fz (.ins C fs) :: as) = true := by simpa [purB] using pu
    refine ⟨Hf2, .fz (.ins C fs) :: as, _, fun rv _ => ∃ d, rv = .fz d ∧ Q' d, fun x _ => E' x, R2.sm, A2.as, by rw [rep_nil]; simp, by rw [rep_nil]; simp, ⟨pu2, ?_⟩, fun v rv as' Fs' Hf' H' c r q' => ?_, fun x cls d as' Fs' Hf' H' c xr e => ?_⟩
    · have : (fun d => ∃ d', RV.fz d = .fz d' ∧ Q' d') = Q' := funext fun d => propext ⟨fun ⟨d', e, q⟩ => by cases e; exact q, fun q => ⟨d, rfl, q⟩⟩
      rw [this]
      exact q2
    · obtain ⟨d, rfl, q'⟩ := q'
      obtain ⟨R3, n3⟩ := R1.call R2 n2 A2 rep_nil c
      exact k v d Hf' H' R3 (n1.trans n3) r q'
    · obtain ⟨R3, n3⟩ := R1.call R2 n2 A2 rep_nil c
      exact kx x cls d Hf' H' R3 (n1.trans n3) xr e
  | _ => exact False.elim (by rename_i h _; cases h)
theorem ent_methO {C : Nat} {mn : Str} {m : List Sl → W OD} {ta : TE} {t : TA} (ho : EvT G Wx ta g) (hs : EcT G Wx t gs) : EnT G Wx (tMethX (G.cn C) mn (PSp G (liftN m)) (WE Wx) ta t) (callMO C mn m g (argsP gs)) := by
  intro B ρ σ F Hf H Q' E' Q R q k kx
  refine ho B ρ σ F Hf H _ E' _ R q (fun v d Hf1 H1 R1 n1 r1 q1 => ?_) kx
  obtain ⟨⟨fs, rfl, hl⟩, q1⟩ := q1
  cases r1 with
  | @ins pa dx _ gs' _ h r =>
    refine ⟨_, _, _, rfl, R1.sm _ _ h, r.none hl, ?_⟩
    refine hs B ρ σ F Hf1 H1 _ E' _ R1 q1 (fun vs as Hf2 H2 R2 n2 A q2 => ?_) (kx.mono n1)
    obtain ⟨pu, q2⟩ := q2
    have A2 : PAs G ρ σ H1 Hf2 H2 (.ref pa :: vs) (.fz (.ins C fs) :: as) := A.fz (Rp.mono n2.sm (.ins h r))
    have pu2 : purB (.fz (.ins C fs) :: as) = true := by simpa [purB] using pu
    refine ⟨Hf2, .fz (.ins C fs) :: as, _, fun rv _ => ∃ d, rv = .ow d ∧ Q' d, fun x _ => E' x, R2.sm, A2.as, by rw [rep_nil]; simp, by rw [rep_nil]; simp, ⟨pu2, ?_⟩, fun v rv as' Fs' Hf' H' c r q' => ?_, fun x cls d as' Fs' Hf' H' c xr e => ?_⟩
    · have : (fun d => ∃ d', RV.ow d = .ow d' ∧ Q' d') = Q' := funext fun d => propext ⟨fun ⟨d', e, q⟩ => by cases e; exact q, fun q => ⟨d, rfl, q⟩⟩
      rw [this]
      exact q2
    · obtain ⟨x, rfl, q'⟩ := q'
      obtain ⟨R3, n3⟩ := R1.call R2 n2 A2 rep_nil c
      obtain ⟨L, o, nd, nw, _⟩ := r
      exact k v x L Hf' H' R3 (n1.trans n3) o nd (fun a ha => (n1.trans n2).nn R.sm R2.sm (nw a ha)) q'
    · obtain ⟨R3, n3⟩ := R1.call R2 n2 A2 rep_nil c
      exact kx x cls d Hf' H' R3 (n1.trans n3) xr e
  | _ => exact False.elim (by rename_i h _; cases h)
theorem ev_meth {C : Nat} {mn : Str} {m : List Sl → W D} {kk : Nat} {f : Addr} {fd : FuncData} {ps : List Str} {pl : Sem Bool} (ho : Ev G X Wx o g) (c : Cls X.K (G.cn C)) (hm : Meth X.K (G.cn C) mn f) (F : FnOk X.prog X.w X.K X.mg X.base (L2.CX X.prog X.w) kk f fd ps (PSp G (liftP m))) (hr : Room kk X.A)
    (hb : Binds X.K fd ps []) (tk : Takes X Wx) (ha : Ec G X Wx (e :: es) gs)
    (hst : starEach (e :: es) X.env = (false, eval e X.env) :: starEach es X.env := by rfl) (hpl : (backTo pos (starEach es X.env)).any (·.1) = false := by rfl)
    (ht : eval (.Call (.Attribute o mn apos) (e :: es) [] pos) X.env = (do
      let ov ← eval o X.env
      standAt apos.atName
      let (f, first) ← holding [ov] (getMethod ov mn pl)
      callWith pos f first (backTo pos (starEach (e :: es) X.env)) (backToKw pos (keywordEach [] X.env))) := by rfl) :
    Ev G X Wx (.Call (.Attribute o mn apos) (e :: es) [] pos) (callM C mn m g (argsP gs)) := by
  obtain ⟨to, po, eo⟩ := ho.ex
  obtain ⟨t, pa, ea⟩ := ha.ex
  exact ⟨_, pe_methX po c hm F hr hb (fun σ => passAt tk σ) pa hst hpl ht, evt_meth eo ea⟩
theorem ect_nil : EcT G Wx tNil nilC := fun B ρ σ F Hf H Q' E' Q R q k kx => k [] [] Hf H R Nx.refl .nil q
theorem ev_meth0 {C : Nat} {mn : Str} {m : List Sl → W D} {kk : Nat} {f : Addr} {fd : FuncData} {ps : List Str} {pl : Sem Bool} (ho : Ev G X Wx o g) (c : Cls X.K (G.cn C)) (hm : Meth X.K (G.cn C) mn f) (F : FnOk X.prog X.w X.K X.mg X.base (L2.CX X.prog X.w) kk f fd ps (PSp G (liftP m))) (hr : Room kk X.A)
    (hb : Binds X.K fd ps []) (tk : Takes X Wx)
    (ht : eval (.Call (.Attribute o mn apos) [] [] pos) X.env = (do
      let ov ← eval o X.env
      standAt apos.atName
      let (f, first) ← holding [ov] (getMethod ov mn pl)
      callWith pos f first (backTo pos (starEach [] X.env)) (backToKw pos (keywordEach [] X.env))) := by rfl) :
    Ev G X Wx (.Call (.Attribute o mn apos) [] [] pos) (callM C mn m g (argsP nilC)) := by
  obtain ⟨to, po, eo⟩ := ho.ex
  exact ⟨_, pe_meth0X po c hm F hr hb (fun σ => passAt tk σ) ht, evt_meth eo ect_nil⟩
theorem en_meth {C : Nat} {mn : Str} {m : List Sl → W OD} {kk : Nat} {f : Addr} {fd : FuncData} {ps : List Str} {pl : Sem Bool} (ho : Ev G X Wx o g) (c : Cls X.K (G.cn C)) (hm : Meth X.K (G.cn C) mn f) (F : FnOk X.prog X.w X.K X.mg X.base (L2.CX X.prog X.w) kk f fd ps (PSp G (liftN m))) (hr : Room kk X.A)
    (hb : Binds X.K fd ps []) (tk : Takes X Wx) (ha : Ec G X Wx (e :: es) gs)
    (hst : starEach (e :: es) X.env = (false, eval e X.env) :: starEach es X.env := by rfl) (hpl : (backTo pos (starEach es X.env)).any (·.1) = false := by rfl)
    (ht : eval (.Call (.Attribute o mn apos) (e :: es) [] pos) X.env = (do
      let ov ← eval o X.env
      standAt apos.atName
      let (f, first) ← holding [ov] (getMethod ov mn pl)
      callWith pos f first (backTo pos (starEach (e :: es) X.env)) (backToKw pos (keywordEach [] X.env))) := by rfl) :
    En G X Wx (.Call (.Attribute o mn apos) (e :: es) [] pos) (callMO C mn m g (argsP gs)) := by
  obtain ⟨to, po, eo⟩ := ho.ex
  obtain ⟨t, pa, ea⟩ := ha.ex
  exact ⟨_, pe_methX po c hm F hr hb (fun σ => passAt tk σ) pa hst hpl ht, ent_methO eo ea⟩
theorem en_meth0 {C : Nat} {mn : Str} {m : List Sl → W OD} {kk : Nat} {f : Addr} {fd : FuncData} {ps : List Str} {pl : Sem Bool} (ho : Ev G X Wx o g) (c : Cls X.K (G.cn C)) (hm : Meth X.K (G.cn C) mn f) (F : FnOk X.prog X.w X.K X.mg X.base (L2.CX X.prog X.w) kk f fd ps (PSp G (liftN m))) (hr : Room kk X.A)
    (hb : Binds X.K fd ps []) (tk : Takes X Wx)
    (ht : eval (.Call (.Attribute o mn apos) [] [] pos) X.env = (do
      let ov ← eval o X.env
      standAt apos.atName
      let (f, first) ← holding [ov] (getMethod ov mn pl)
      callWith pos f first (backTo pos (starEach [] X.env)) (backToKw pos (keywordEach [] X.env))) := by rfl) :
    En G X Wx (.Call (.Attribute o mn apos) [] [] pos) (callMO C mn m g (argsP nilC)) := by
  obtain ⟨to, po, eo⟩ := ho.ex
  exact ⟨_, pe_meth0X po c hm F hr hb (fun σ => passAt tk σ) ht, ent_methO eo ect_nil⟩
end

/-! ### one argument is handed in to be changed -/
section
variable {G : Ctx} {B : Bs} {ρ : Env} {σ : St} {F : Fps} {Hf H Hf' H' : Hp}
theorem Rep.changeP {i : Nat} {s s' : Sl} {L : List Addr} (R : Rep G B ρ σ F Hf H) (e : ρ[i]? = some s) (k' : s'.uniq = true) (m : Sm Hf Hf') (sm : Same Hf' H') (hk : ∀ a, a ∉ F.getD i [] → (a ∈ F.flatten ∨ B.H a ≠ none) → ¬ IsPool ρ σ a → ¬ B.P a → H a ≠ none → Hf a = none → H' a = H a ∧ Hf' a = none)
    (hp : ∀ p, (B.P p ∨ IsPool ρ σ p) → Hf p = none → PoolAt G H p → PoolAt G H' p ∧ Hf' p = none) (hd : ∀ a, H a ≠ none → H' a ≠ none) (hz : ∀ a, H a ≠ none → Hf a = none → Hf' a = none)
    (hs : SlR G B σ[i]? B.σ[i]? Hf' H' L s') (nd : L.Nodup) (hL : ∀ a ∈ L, a ∈ F.getD i [] ∨ H a = none) : Rep G B (ρ.set i s') σ (F.set i L) Hf' H' := by
  have hl : i < ρ.length := (List.getElem?_eq_some_iff.mp e).1
  obtain ⟨R1, n1⟩ := R.drop e
  have subP : ∀ {p}, IsPool (ρ.set i .un) σ p → IsPool ρ σ p := fun {p} ⟨j, e1, e2⟩ => by
    by_cases h : i = j
    · subst h; rw [List.getElem?_set_self hl] at e1; cases e1
    · rw [List.getElem?_set_ne h] at e1; exact ⟨j, e1, e2⟩
  have R2 : Rep G B (ρ.set i .un) σ (F.set i []) Hf' H' := by
    refine R1.go m sm (fun a ha => ?_) (fun p hq h1 h2 => hp p (hq.imp id subP) h1 h2) (fun b hb h => hz b (R.st b hb) h) (fun b hb hf n w => ?_) fun b hb => hd b (R.st b hb)
    · have c := R1.cell ha
      rcases mem_flat_set ha with h | ⟨j, hj, h⟩
      · simp at h
      · have hP : ¬ B.P a := fun z => by
          rcases R.nw a (mem_flat h) with y | y
          · exact (R.p0 a z).1 y
          · exact (R.p0 a z).2.2 y
        exact hk a (fun z => (n1 a z).1 ha) (.inl (mem_flat h)) (R.np a (mem_flat h)) hP c.1 c.2
    · have hf1 : Hf b = none := by
        cases q : B.H b with
        | none => exact absurd q hb
        | some o => exact R.unf b o q hf
      refine (hk b (fun z => (R.nw _ (mem_flat z)).elim hb w) (.inr hb) (fun ⟨j, z1, z2⟩ => ?_) n (R.st b hb) hf1).1
      obtain ⟨p, y1, _, y2, _⟩ := R.sl j _ z1
      rw [z2] at y1
      cases y1
      exact y2.elim n hb
  have es : ∀ {x : Option V}, σ[i]? = some x → σ.set i x = σ := fun {x} h => by
    apply List.ext_getElem?
    intro j
    by_cases hj : i = j
    · subst hj; rw [List.getElem?_set_self (by rw [R.len]; exact hl), h]
    · rw [List.getElem?_set_ne hj]
  have q := R2.give (i := i) (s := s') (x := σ[i]'(by rw [R.len]; exact hl)) (L := L) (fun _ => by rw [← List.getElem?_eq_getElem]; exact hs) (fun h => by rw [k'] at h; cases h) nd (fun a ha j hj z => ?_) (fun a ha => ?_) (fun a ha hp => ?_) (fun h => by rw [h] at k'; cases k')
  · rw [es (List.getElem?_eq_getElem _), List.set_set, List.set_set] at q
    exact q
  · rw [getD_set_ne (fun y => hj y.symm)] at z
    rcases hL a ha with h | h
    · exact flat_apart R.nd hj z h
    · exact (R.cell (mem_flat z)).1 h
  · rcases hL a ha with h | h
    · exact R.nw a (mem_flat h)
    · exact .inl (R.freeB h)
  · rcases hL a ha with h | h
    · exact (n1 a h).2 hp
    · exact (R1.free1 h).2 hp
theorem Rep.focusP {i : Nat} {s : Sl} {x y y2 : OD} {root u : V} {C : OD → OD} {L M L2 : List Addr} (R : Rep G B ρ σ F Hf H) (e : ρ[i]? = some s) (t : s.tree = some x) (er : σ[i]? = some (some root)) (pm : (F.getD i []).Perm (M ++ L)) (f : Foc G.cn Hf H root u y C L M)
    (m : Sm Hf Hf') (sm : Same Hf' H') (hk : ∀ a, a ∉ L → (a ∈ F.flatten ∨ B.H a ≠ none) → ¬ IsPool ρ σ a → ¬ B.P a → H a ≠ none → Hf a = none → H' a = H a ∧ Hf' a = none)
    (hp : ∀ p, (B.P p ∨ IsPool ρ σ p) → Hf p = none → PoolAt G H p → PoolAt G H' p ∧ Hf' p = none) (hd : ∀ a, H a ≠ none → H' a ≠ none) (hz : ∀ a, H a ≠ none → Hf a = none → Hf' a = none) (o2 : Ow G.cn Hf' H' u y2 L2) (nd : L2.Nodup) (hL : ∀ a ∈ L2, a ∈ L ∨ H a = none) :
    ∃ F2, Rep G B (putS i (C y2) ρ) σ F2 Hf' H' ∧ ∀ a ∈ F2.flatten, a ∈ F.flatten ∨ a ∈ L2 := by
  have ndF : (M ++ L).Nodup := pm.nodup_iff.mp (flat_at R.nd)
  have ndp := List.nodup_append.mp ndF
  have inF : ∀ {a}, a ∈ M ++ L → a ∈ F.getD i [] := fun h => pm.mem_iff.mpr h
  have notP : ∀ {a}, a ∈ F.flatten → ¬ B.P a := fun h z => by
    rcases R.nw _ h with y | y
    · exact (R.p0 _ z).1 y
    · exact (R.p0 _ z).2.2 y
  have stM : Stay Hf' H H' M := fun a ha => by
    have hm := mem_flat (inF (List.mem_append_left L ha))
    have c := R.cell hm
    exact hk a (fun z => ndp.2.2 a ha a z rfl) (.inl hm) (R.np a hm) (notP hm) c.1 c.2
  obtain ⟨F2, o3, p3⟩ := f.back Hf' H' y2 L2 m stM o2
  have nd2 : (M ++ L2).Nodup := List.nodup_append.mpr ⟨ndp.1, nd, fun a ha b hb z => by
    subst z
    rcases hL a hb with h | h
    · exact ndp.2.2 a ha a h rfl
    · exact (R.cell (mem_flat (inF (List.mem_append_left _ ha)))).1 h⟩
  have mem2 : ∀ a ∈ F2, a ∈ F.getD i [] ∨ H a = none := fun a ha => by
    rcases List.mem_append.mp (p3.mem_iff.mp ha) with h | h
    · exact .inl (inF (List.mem_append_left _ h))
    · exact (hL a h).imp (fun h => inF (List.mem_append_right _ h)) id
  have kk : (s.with (C y2)).uniq = true := by cases s <;> first | rfl | cases t
  rw [putS_eq e]
  refine ⟨F.set i F2, R.changeP e kk m sm (fun a ha => hk a fun z => ha (inF (List.mem_append_right _ z))) hp hd hz ?_ (p3.nodup_iff.mpr nd2) mem2, fun a ha => ?_⟩
  · have q := R.sl i s e
    cases s <;> simp only [Sl.tree, Option.some.injEq, reduceCtorEq] at t <;> subst t
    · obtain ⟨u', e1, o, n⟩ := q
      exact ⟨root, er, o3, fun a ha => (mem2 a ha).elim (n a) R.freeB⟩
    · obtain ⟨u', e1, e2, o⟩ := q
      exact ⟨root, er, e2, o3⟩
    · obtain ⟨e1, o, n⟩ := q; rw [e1] at er; cases er; exact ⟨e1, o3, fun a ha => (mem2 a ha).elim (n a) R.freeB⟩
  · rcases mem_flat_set ha with h | ⟨j, _, h⟩
    · rcases List.mem_append.mp (p3.mem_iff.mp h) with h | h
      · exact .inl (mem_flat (inF (List.mem_append_left _ h)))
      · exact .inr h
    · exact .inl (mem_flat h)
end
end QL

set_option Elab.async false
set_option linter.all false
set_option maxRecDepth 100000
set_option maxHeartbeats 2000000
namespace QL
open PySem L2
open PyProof.Rows (envOfC)

/-! ### expressions that change a slot's tree -/
abbrev M := (RV → Env → Prop) → (Xc → Env → Prop) → Prop
def RvR (G : Ctx) (B : Bs) (ρ : Env) (σ : St) (F : Fps) (Hf H : Hp) (v : V) : RV → Prop
  | .fz d => Rp G.cn Hf v d
  | .ow x => ∃ L, Ow G.cn Hf H v x L ∧ L.Nodup ∧ (∀ a ∈ L, B.H a = none) ∧ ∀ a ∈ L, NoOne ρ σ F a
def ExT (G : Ctx) (Wx : WX) (t : TE) (g : Env → M) : Prop :=
  ∀ (B : Bs) (ρ : Env) (σ : St) (F : Fps) (Hf H : Hp) (Q' : RV → Env → Prop) (E' : Xc → Env → Prop) (Q : VK), Rep G B ρ σ F Hf H → g ρ Q' E' →
    (∀ v rv ρ' F' Hf' H', Rep G B ρ' σ F' Hf' H' → Sm Hf Hf' → RvR G B ρ' σ F' Hf' H' v rv → Q' rv ρ' → Q v H') → XPostS G Wx B Hf E' → t σ H Q
structure Ex (G : Ctx) (X : Cx) (Wx : WX) (e : Expr) (g : Env → M) : Prop where
  ex : ∃ t, PE X e t ∧ ExT G Wx t g
theorem As.append {G : Ctx} {Hf H : Hp} : ∀ {vs us : List V} {as bs : List Sl} {F F2 : Fps}, As G Hf H vs as F → As G Hf H us bs F2 → As G Hf H (vs ++ us) (as ++ bs) (F ++ F2)
  | _, _, _, _, _, _, .nil, s => s
  | _, _, _, _, _, _, .cons r t, s => .cons r (As.append t s)
section
variable {G : Ctx} {B : Bs} {ρ : Env} {σ : St} {F : Fps} {Hf H Hf1 H1 Hf' H' : Hp}
theorem PAs.length : ∀ {vs : List V} {ss : List Sl}, PAs G ρ σ H Hf1 H1 vs ss → vs.length = ss.length
  | _, _, .nil => rfl
  | _, _, .cons _ t => congrArg (· + 1) (PAs.length t)
theorem bwF_flat {n m : Nat} {L : List Addr} : (List.replicate n ([] : List Addr) ++ L :: List.replicate m []).flatten = L := by
  rw [List.flatten_append, rep_nil, List.flatten_cons, rep_nil]; simp
theorem isPool_mid {vs1 vs2 : List V} {as1 as2 : List Sl} {u : V} {y : OD} {b : Addr} (hl : vs1.length = as1.length) (h : IsPool (as1 ++ .bw y :: as2) ((vs1 ++ u :: vs2).map some) b) : IsPool as1 (vs1.map some) b ∨ IsPool as2 (vs2.map some) b := by
  obtain ⟨i, e1, e2⟩ := h
  rw [List.map_append, List.map_cons] at e2
  by_cases hi : i < as1.length
  · rw [List.getElem?_append_left hi] at e1
    rw [List.getElem?_append_left (by simpa [hl] using hi)] at e2
    exact .inl ⟨i, e1, e2⟩
  · rw [List.getElem?_append_right (by omega)] at e1
    rw [List.getElem?_append_right (by simp [hl]; omega)] at e2
    simp only [List.length_map, hl] at e2
    obtain ⟨k, hk⟩ : ∃ k, i - as1.length = k := ⟨_, rfl⟩
    rw [hk] at e1 e2
    cases k with
    | zero => simp at e1
    | succ k => exact .inr ⟨k, by simpa using e1, by simpa using e2⟩
/-- behind a call that may change the tree at u -/
theorem Rep.callB {i n : Nat} {s : Sl} {x y : OD} {root u : V} {C : OD → OD} {L M : List Addr} {vs1 vs2 : List V} {as1 as2 as' : List Sl} {Fs' : Fps} (R0 : Rep G B ρ σ F Hf H) (R : Rep G B ρ σ F Hf1 H1) (n1 : Nx ρ σ Hf H Hf1 H1) (A1 : PAs G ρ σ H Hf1 H1 vs1 as1) (A2 : PAs G ρ σ H Hf1 H1 vs2 as2) (hn : as1.length = n)
    (es : ρ[i]? = some s) (et : s.tree = some x) (er : σ[i]? = some (some root)) (pm : (F.getD i []).Perm (M ++ L)) (fo : Foc G.cn Hf1 H1 root u y C L M)
    (c : CNx G (as1 ++ .bw y :: as2) (vs1 ++ u :: vs2) (List.replicate as1.length [] ++ L :: List.replicate as2.length []) Hf1 H1 as' Fs' Hf' H') {y' : OD} (e' : as'[n]? = some (.bw y')) :
    ∃ F2, Rep G B (putS i (C y') ρ) σ F2 Hf' H' ∧ ∀ a ∈ F2.flatten, a ∈ F.flatten ∨ a ∈ Fs'.flatten := by
  have pool : ∀ {b}, IsPool (as1 ++ .bw y :: as2) ((vs1 ++ u :: vs2).map some) b → IsPool ρ σ b ∨ H b = none := fun h => (isPool_mid A1.length h).elim (A1.pool _) (A2.pool _)
  obtain ⟨v, h1, h2⟩ := c.fin.get e'
  have hu : v = u := by
    rw [List.getElem?_append_right (by rw [A1.length]; omega)] at h1
    have : n - vs1.length = 0 := by rw [A1.length]; omega
    rw [this] at h1
    simpa using h1.symm
  subst hu
  have h2 : Ow G.cn Hf' H' v y' (Fs'.getD n []) := h2
  have inL : ∀ {b}, b ∉ L → b ∉ (List.replicate as1.length ([] : List Addr) ++ L :: List.replicate as2.length []).flatten := fun h z => h (by rw [bwF_flat] at z; exact z)
  have LF : ∀ {a}, a ∈ L → a ∈ F.flatten := fun h => mem_flat (pm.mem_iff.mpr (List.mem_append_right _ h))
  have hk : ∀ a, a ∉ L → (a ∈ F.flatten ∨ B.H a ≠ none) → ¬ IsPool ρ σ a → ¬ B.P a → H1 a ≠ none → Hf1 a = none → H' a = H1 a ∧ Hf' a = none := fun a ha hf hnp hP h3 h4 => by
    cases e : H1 a with
    | none => exact absurd e h3
    | some o =>
      refine ⟨c.kp a o e h4 (fun z => ?_) (inL ha), c.uf a h3 h4⟩
      rcases pool z with z | z
      · exact hnp z
      · rcases hf with hf | hf
        · exact (R0.cell hf).1 z
        · exact R0.st a hf z
  have hp : ∀ p, (B.P p ∨ IsPool ρ σ p) → Hf1 p = none → PoolAt G H1 p → PoolAt G H' p ∧ Hf' p = none := fun p hp h3 h4 => by
    obtain ⟨us, h5, h6⟩ := h4
    refine ⟨?_, c.uf p (by rw [h5]; simp) h3⟩
    by_cases z : IsPool (as1 ++ .bw y :: as2) ((vs1 ++ v :: vs2).map some) p
    · exact c.pl p z
    · refine ⟨us, c.kp p _ h5 h3 z (inL fun y => ?_), h6⟩
      rcases hp with hp | hp
      · rcases R.nw p (LF y) with w | w
        · exact (R.p0 p hp).1 w
        · exact (R.p0 p hp).2.2 w
      · exact R.np p (LF y) hp
  obtain ⟨F2, R2, m2⟩ := R.focusP es et er pm fo c.sm c.sa hk hp c.st c.uf h2 (flat_at c.nd) fun a ha => by
    have := c.nw a (mem_flat ha)
    rw [bwF_flat] at this
    exact this
  exact ⟨F2, R2, fun a ha => (m2 a ha).imp id fun h => mem_flat h⟩
/-- what such a callee hands back -/
theorem RetR.rv {F2 Fs' : Fps} {ρ2 : Env} {v : V} {rv : RV} (R0 : Rep G B ρ σ F Hf H) (n1 : Nx ρ σ Hf H Hf1 H1) (R1 : Rep G B ρ σ F Hf1 H1) (R2 : Rep G B ρ2 σ F2 Hf' H') (hp : ∀ b, IsPool ρ2 σ b → IsPool ρ σ b) (m2 : ∀ a ∈ F2.flatten, a ∈ F.flatten ∨ a ∈ Fs'.flatten) (r : RetR G H1 Hf' H' Fs' v rv) : RvR G B ρ2 σ F2 Hf' H' v rv := by
  cases rv with
  | fz d => exact r
  | ow x =>
    obtain ⟨L, o, nd, nw, nf⟩ := r
    have nw0 : ∀ a ∈ L, H a = none := fun a ha => n1.nn R0.sm R1.sm (nw a ha)
    refine ⟨L, o, nd, fun a ha => R0.freeB (nw0 a ha), fun a ha => ⟨fun z => ?_, fun z => (R0.free1 (nw0 a ha)).2 (hp a z)⟩⟩
    rcases m2 a z with z | z
    · exact (R0.cell z).1 (nw0 a ha)
    · exact nf a ha z
theorem putS_pool {i : Nat} {s : Sl} {x : OD} (es : ρ[i]? = some s) {z : OD} (et : s.tree = some z) : ∀ b, IsPool (putS i x ρ) σ b → IsPool ρ σ b := fun b ⟨j, e1, e2⟩ => by
  rw [putS_eq es] at e1
  by_cases h : i = j
  · subst h
    have hl : i < ρ.length := (List.getElem?_eq_some_iff.mp es).1
    rw [List.getElem?_set_self hl] at e1
    cases s <;> simp [Sl.with, Sl.tree] at e1 et
  · rw [List.getElem?_set_ne h] at e1; exact ⟨j, e1, e2⟩
end
/-- an argument list with one tree that may be changed, the n-th -/
abbrev Ba := List Sl × (OD → OD)
def EbcT (G : Ctx) (Wx : WX) (i n : Nat) (t : TA) (g : Env → W Ba) : Prop :=
  ∀ (B : Bs) (ρ : Env) (σ : St) (F : Fps) (Hf H : Hp) (Q' : Ba → Prop) (E' : Xc → Prop) (Q : List V → Hp → Prop), Rep G B ρ σ F Hf H → g ρ Q' E' →
    (∀ vs1 as1 u y C vs2 as2 s x root L M Hf' H', Rep G B ρ σ F Hf' H' → Nx ρ σ Hf H Hf' H' → PAs G ρ σ H Hf' H' vs1 as1 → PAs G ρ σ H Hf' H' vs2 as2 → as1.length = n → ρ[i]? = some s → s.tree = some x → σ[i]? = some (some root) → (F.getD i []).Perm (M ++ L) → Foc G.cn Hf' H' root u y C L M →
      Q' (as1 ++ .bw y :: as2, C) → Q (vs1 ++ u :: vs2) H') → XPost G Wx σ F Hf H B ρ E' → t σ H Q
structure Ebc (G : Ctx) (X : Cx) (Wx : WX) (i n : Nat) (es : List Expr) (g : Env → W Ba) : Prop where
  ex : ∃ t, PA X es t ∧ EbcT G Wx i n t g
def bHere (gp : Env → W Pl) (gs : Env → W (List Sl)) : Env → W Ba := fun ρ Q E => gp ρ (fun p => gs ρ (fun as => Q (.bw p.1 :: as, p.2)) E) E
def bCons (g : Env → W D) (gb : Env → W Ba) : Env → W Ba := fun ρ Q E => g ρ (fun d => gb ρ (fun p => Q (.fz d :: p.1, p.2)) E) E
def callB (i n : Nat) (m : Cn) (gb : Env → W Ba) : Env → M := fun ρ Q E => gb ρ (fun p => m p.1 (fun rv as' => ∃ y, as'[n]? = some (.bw y) ∧ Q rv (putS i (p.2 y) ρ)) (fun x as' => ∃ y, as'[n]? = some (.bw y) ∧ E x (putS i (p.2 y) ρ))) (fun x => E x ρ)
def callBM (i C : Nat) (mn : Str) (m : Cn) (gp : Env → W Pl) (gs : Env → W (List Sl)) : Env → M := fun ρ Q E => gp ρ (fun p => (∃ fs, p.1 = .ins C fs ∧ fs.lookup mn = none) ∧ gs ρ (fun as => m (.bw p.1 :: as) (fun rv as' => ∃ y, as'[0]? = some (.bw y) ∧ Q rv (putS i (p.2 y) ρ)) (fun x as' => ∃ y, as'[0]? = some (.bw y) ∧ E x (putS i (p.2 y) ρ))) (fun x => E x ρ)) (fun x => E x ρ)
section
variable {G : Ctx} {X : Cx} {Wx : WX} {i n : Nat} {a b c e o : Expr} {es : List Expr} {ga gb gc g : Env → W D} {gs : Env → W (List Sl)} {gp : Env → W Pl} {gB : Env → W Ba} {gx : Env → M} {pos apos p : Pos}
theorem ebc_here (h : Ef G X Wx i e gp) (hr : Ec G X Wx es gs) (hs : starEach (e :: es) X.env = (false, eval e X.env) :: starEach es X.env := by rfl) : Ebc G X Wx i 0 (e :: es) (bHere gp gs) := by
  obtain ⟨ta, pa, ea⟩ := h.ex
  obtain ⟨tb, pb, eb⟩ := hr.ex
  refine ⟨_, pa_cons pa pb hs, ?_⟩
  intro B ρ σ F Hf H Q' E' Q R q k kx
  refine ea B ρ σ F Hf H _ E' _ R q (fun s x root u y C L M Hf1 H1 R1 n1 es et er pm fo q1 => ?_) kx
  refine eb B ρ σ F Hf1 H1 _ E' _ R1 q1 (fun vs as Hf2 H2 R2 n2 A q2 => ?_) (kx.mono n1)
  exact k [] [] u y C vs as s x root L M Hf2 H2 R2 (n1.trans n2) .nil (A.move fun b z => Nx.nn R.sm R1.sm n1 z) rfl es et er pm (fo.nx R1 pm n2) q2
theorem ebc_cons (h : Ev G X Wx e g) (hr : Ebc G X Wx i n es gB) (hs : starEach (e :: es) X.env = (false, eval e X.env) :: starEach es X.env := by rfl) : Ebc G X Wx i (n + 1) (e :: es) (bCons g gB) := by
  obtain ⟨ta, pa, ea⟩ := h.ex
  obtain ⟨tb, pb, eb⟩ := hr.ex
  refine ⟨_, pa_cons pa pb hs, ?_⟩
  intro B ρ σ F Hf H Q' E' Q R q k kx
  refine ea B ρ σ F Hf H _ E' _ R q (fun v d Hf1 H1 R1 n1 r q1 => ?_) kx
  refine eb B ρ σ F Hf1 H1 _ E' _ R1 q1 (fun vs1 as1 u y C vs2 as2 s x root L M Hf2 H2 R2 n2 A1 A2 hn es et er pm fo q2 => ?_) (kx.mono n1)
  have mv : ∀ b, H1 b = none → H b = none := fun b z => Nx.nn R.sm R1.sm n1 z
  exact k (v :: vs1) (.fz d :: as1) u y C vs2 as2 s x root L M Hf2 H2 R2 (n1.trans n2) ((A1.move mv).fz (r.mono n2.sm)) (A2.move mv) (by simp [hn]) es et er pm fo q2
theorem ext_callB {t : TA} {m : Cn} (hs : EbcT G Wx i n t gB) : ExT G Wx (tCallS (PSp G m) (WE Wx) t) (callB i n m gB) := by
  intro B ρ σ F Hf H Q' E' Q R q k kx
  refine hs B ρ σ F Hf H _ _ _ R q (fun vs1 as1 u y C vs2 as2 s x root L M Hf1 H1 R1 n1 A1 A2 hn es et er pm fo q1 => ?_) kx.at
  have LF : ∀ {a}, a ∈ L → a ∈ F.flatten := fun h => mem_flat (pm.mem_iff.mpr (List.mem_append_right _ h))
  refine ⟨Hf1, _, List.replicate as1.length [] ++ L :: List.replicate as2.length [], _, _, R1.sm, A1.as.append (.cons (s := .bw y) fo.sub A2.as), ?_, ?_, q1, fun v rv as' Fs' Hf' H' c r q' => ?_, fun x' cls d as' Fs' Hf' H' c xr q' => ?_⟩
  · rw [bwF_flat]; exact (List.nodup_append.mp (pm.nodup_iff.mp (flat_at R.nd))).2.1
  · rw [bwF_flat]
    intro a ha z
    rcases isPool_mid A1.length z with z | z
    · rcases A1.pool a z with z | z
      · exact R.np a (LF ha) z
      · exact (R.cell (LF ha)).1 z
    · rcases A2.pool a z with z | z
      · exact R.np a (LF ha) z
      · exact (R.cell (LF ha)).1 z
  · obtain ⟨y', e', q'⟩ := q'
    obtain ⟨F2, R2, m2⟩ := R.callB R1 n1 A1 A2 hn es et er pm fo c e'
    exact k v rv _ F2 Hf' H' R2 (n1.sm.trans c.sm) (r.rv R n1 R1 R2 (putS_pool es et) m2) q'
  · obtain ⟨y', e', q'⟩ := q'
    obtain ⟨F2, R2, m2⟩ := R.callB R1 n1 A1 A2 hn es et er pm fo c e'
    exact kx x' cls d _ _ F2 Hf' H' R2 (n1.sm.trans c.sm) xr q'
theorem ext_methB {C : Nat} {mn : Str} {m : Cn} {ta : TE} {t : TA} (ho : EfT G Wx i ta gp) (hs : EcT G Wx t gs) : ExT G Wx (tMethX (G.cn C) mn (PSp G m) (WE Wx) ta t) (callBM i C mn m gp gs) := by
  intro B ρ σ F Hf H Q' E' Q R q k kx
  refine ho B ρ σ F Hf H _ _ _ R q (fun s x root u y D L M Hf1 H1 R1 n1 es et er pm fo q1 => ?_) kx.at
  obtain ⟨⟨fs, e1, hl⟩, q1⟩ := q1
  have e1 : y = .ins C fs := e1
  subst e1
  have hu : ∃ p dx vs, u = .ref p ∧ H1 p = some (.ins (G.cn C) dx vs) ∧ vs.lookup mn = none := by
    cases fo.sub with
    | ins hp hf t => exact ⟨_, _, _, rfl, hp, t.none hl⟩
  obtain ⟨p, dx, vs0, rfl, hp, hl2⟩ := hu
  refine ⟨p, dx, vs0, rfl, hp, hl2, ?_⟩
  refine hs B ρ σ F Hf1 H1 _ _ _ R1 q1 (fun vs as Hf2 H2 R2 n2 A q2 => ?_) (kx.at.mono n1)
  have LF : ∀ {a}, a ∈ L → a ∈ F.flatten := fun h => mem_flat (pm.mem_iff.mpr (List.mem_append_right _ h))
  have fo2 := fo.nx R1 pm n2
  have A' : PAs G ρ σ H Hf2 H2 vs as := A.move fun b z => Nx.nn R.sm R1.sm n1 z
  have e0 : (List.replicate ([] : List Sl).length ([] : List Addr) ++ L :: List.replicate as.length []) = L :: List.replicate as.length [] := rfl
  refine ⟨Hf2, .bw (.ins C fs) :: as, L :: List.replicate as.length [], _, _, R2.sm, .cons (s := .bw _) fo2.sub A'.as, ?_, ?_, q2, fun v rv as' Fs' Hf' H' c r q' => ?_, fun x' cls d as' Fs' Hf' H' c xr q' => ?_⟩
  · rw [← e0, bwF_flat]; exact (List.nodup_append.mp (pm.nodup_iff.mp (flat_at R.nd))).2.1
  · rw [← e0, bwF_flat]
    intro a ha z
    rcases isPool_mid (as1 := []) (vs1 := []) rfl z with ⟨j, z, _⟩ | z
    · simp at z
    · rcases A'.pool a z with z | z
      · exact R.np a (LF ha) z
      · exact (R.cell (LF ha)).1 z
  · obtain ⟨y', e', q'⟩ := q'
    obtain ⟨F2, R3, m2⟩ := R.callB (vs1 := []) (as1 := []) (n := 0) R2 (n1.trans n2) .nil A' rfl es et er pm fo2 c e'
    exact k v rv _ F2 Hf' H' R3 ((n1.sm.trans n2.sm).trans c.sm) (r.rv R (n1.trans n2) R2 R3 (putS_pool es et) m2) q'
  · obtain ⟨y', e', q'⟩ := q'
    obtain ⟨F2, R3, m2⟩ := R.callB (vs1 := []) (as1 := []) (n := 0) R2 (n1.trans n2) .nil A' rfl es et er pm fo2 c e'
    exact kx x' cls d _ _ F2 Hf' H' R3 ((n1.sm.trans n2.sm).trans c.sm) xr q'
theorem ex_call {x : Str} {m : Cn} {kk : Nat} {f : Addr} {fd : FuncData} {ps : List Str} (F : FnOk X.prog X.w X.K X.mg X.base (L2.CX X.prog X.w) kk f fd ps (PSp G m)) (hr : Room kk X.A) (hg : Gl X x) (hm : X.mg x = some (.ref f)) (hk : PySem.W.keepIn X.K (.ref f) = true)
    (hb : Binds X.K fd ps []) (tk : Takes X Wx) (ha : Ebc G X Wx i n (e :: es) gB) (hdb : (x == ("__debug__" : Str)) = false := by decide) (he : starEach (e :: es) X.env = (false, eval e X.env) :: starEach es X.env := by rfl)
    (hpl : (backTo pos (starEach es X.env)).any (·.1) = false := by rfl) : Ex G X Wx (.Call (.Name x p) (e :: es) [] pos) (callB i n m gB) := by
  obtain ⟨t, pa, ea⟩ := ha.ex
  exact ⟨_, pe_callS F hr hg hm hk hb (fun σ => passAt tk σ) pa hdb he hpl, ext_callB ea⟩
theorem ex_meth {C : Nat} {mn : Str} {m : Cn} {kk : Nat} {f : Addr} {fd : FuncData} {ps : List Str} {pl : Sem Bool} (ho : Ef G X Wx i o gp) (c : Cls X.K (G.cn C)) (hm : Meth X.K (G.cn C) mn f) (F : FnOk X.prog X.w X.K X.mg X.base (L2.CX X.prog X.w) kk f fd ps (PSp G m)) (hr : Room kk X.A)
    (hb : Binds X.K fd ps []) (tk : Takes X Wx) (ha : Ec G X Wx (e :: es) gs)
    (hst : starEach (e :: es) X.env = (false, eval e X.env) :: starEach es X.env := by rfl) (hpl : (backTo pos (starEach es X.env)).any (·.1) = false := by rfl)
    (ht : eval (.Call (.Attribute o mn apos) (e :: es) [] pos) X.env = (do
      let ov ← eval o X.env
      standAt apos.atName
      let (f, first) ← holding [ov] (getMethod ov mn pl)
      callWith pos f first (backTo pos (starEach (e :: es) X.env)) (backToKw pos (keywordEach [] X.env))) := by rfl) :
    Ex G X Wx (.Call (.Attribute o mn apos) (e :: es) [] pos) (callBM i C mn m gp gs) := by
  obtain ⟨to, po, eo⟩ := ho.ex
  obtain ⟨t, pa, ea⟩ := ha.ex
  exact ⟨_, pe_methX po c hm F hr hb (fun σ => passAt tk σ) pa hst hpl ht, ext_methB eo ea⟩
theorem ex_meth0 {C : Nat} {mn : Str} {m : Cn} {kk : Nat} {f : Addr} {fd : FuncData} {ps : List Str} {pl : Sem Bool} (ho : Ef G X Wx i o gp) (c : Cls X.K (G.cn C)) (hm : Meth X.K (G.cn C) mn f) (F : FnOk X.prog X.w X.K X.mg X.base (L2.CX X.prog X.w) kk f fd ps (PSp G m)) (hr : Room kk X.A)
    (hb : Binds X.K fd ps []) (tk : Takes X Wx)
    (ht : eval (.Call (.Attribute o mn apos) [] [] pos) X.env = (do
      let ov ← eval o X.env
      standAt apos.atName
      let (f, first) ← holding [ov] (getMethod ov mn pl)
      callWith pos f first (backTo pos (starEach [] X.env)) (backToKw pos (keywordEach [] X.env))) := by rfl) :
    Ex G X Wx (.Call (.Attribute o mn apos) [] [] pos) (callBM i C mn m gp nilC) := by
  obtain ⟨to, po, eo⟩ := ho.ex
  exact ⟨_, pe_meth0X po c hm F hr hb (fun σ => passAt tk σ) ht, ext_methB eo ect_nil⟩

/-! statements with such an expression -/
def sDropX (g : Env → M) : Env → Ws := fun ρ Q E => g ρ (fun _ ρ' => Q .nx ρ') E
def rvS : RV → Sl
  | .fz d => .fz d
  | .ow x => .ow x
def rvF : RV → Fl
  | .fz d => .rt d
  | .ow x => .ro x
def sSetX (j : Nat) (g : Env → M) : Env → Ws := fun ρ Q E => g ρ (fun rv ρ' => Q .nx (ρ'.set j (rvS rv))) E
def sRetX (g : Env → M) : Env → Ws := fun ρ Q E => g ρ (fun rv ρ' => Q (rvF rv) ρ') E
theorem es_dropX (h1 : Ex G X Wx e gx) (hs : swapsWith e none pos.line X.env = pure false := by rfl) : Es G X Wx (.Expr e pos) (sDropX gx) := by
  obtain ⟨t, p, ev⟩ := h1.ex
  exact ⟨_, ps_expr p hs, fun B ρ σ F Hf H Q' E' Dd R q k kx => ev B ρ σ F Hf H _ _ _ R q (fun v rv ρ' F' Hf' H' R' s r q' => k.nx ρ' σ F' Hf' H' R' s q') kx⟩
theorem es_setX {j : Nat} {x : Str} {p' : Pos} (h1 : Ex G X Wx e gx) (hp : ∀ t, PE X e t → PS X (.Assign [.Name x p'] e pos) (tAsg t (gName j))) : Es G X Wx (.Assign [.Name x p'] e pos) (sSetX j gx) := by
  obtain ⟨t, p, ev⟩ := h1.ex
  refine ⟨_, hp t p, fun B ρ σ F Hf H Q' E' Dd R q k kx => ev B ρ σ F Hf H _ _ _ R q (fun v rv ρ' F' Hf' H' R' s r q' => ?_) kx⟩
  cases rv with
  | fz d => exact k.nx _ _ _ Hf' H' (R'.set r) s q'
  | ow x => obtain ⟨L, o, nd, nb, no⟩ := r; exact k.nx _ _ _ Hf' H' (R'.setOw o nd no nb) s q'
theorem es_retX (h1 : Ex G X Wx e gx) : Es G X Wx (.Return (some e) pos) (sRetX gx) := by
  obtain ⟨t, p, ev⟩ := h1.ex
  refine ⟨_, ps_ret p, fun B ρ σ F Hf H Q' E' Dd R q k kx => ev B ρ σ F Hf H _ _ _ R q (fun v rv ρ' F' Hf' H' R' s r q' => ?_) kx⟩
  cases rv with
  | fz d => exact k.rt ρ' σ F' v d Hf' H' R' s r q'
  | ow x => obtain ⟨L, o, nd, nb, no⟩ := r; exact k.ro ρ' σ F' v x L Hf' H' R' s o nd nb no q'
/-- if such an expression: -/
def sIfX (g : Env → M) (f h : Env → Ws) : Env → Ws := fun ρ Q E => g ρ (fun rv ρ' => ∃ b, rv = .fz (.bl b) ∧ if b = true then f ρ' Q E else h ρ' Q E) E
theorem es_ifX {f h : Env → Ws} {sts ts : List Stmt} (h1 : Ex G X Wx c gx) (h2 : Ess G X Wx sts f) (h3 : Ess G X Wx ts h) (he : ∀ whole, isTrue c X.env whole = (do let v ← whole; standAt c.pos; holding [v] (truthy v)) := by intro _; rfl) : Es G X Wx (.If c sts ts pos) (sIfX gx f h) := by
  obtain ⟨t, p, ev⟩ := h1.ex
  obtain ⟨t2, p2, ev2⟩ := h2.ex
  obtain ⟨t3, p3, ev3⟩ := h3.ex
  refine ⟨_, ps_if (pt_val p he) p2 p3, ?_⟩
  intro B ρ σ F Hf H Q' E' Dd R q k kx
  refine ev B ρ σ F Hf H _ _ _ R q (fun v rv ρ' F' Hf' H' R' s r q' => ?_) kx
  obtain ⟨x, rfl, q'⟩ := q'
  cases r
  refine ⟨x, rfl, ?_⟩
  cases x with
  | true => exact iteT (ev2 B ρ' σ F' Hf' H' Q' E' Dd R' q' (k.mono s) (kx.mono s))
  | false => exact iteF (ev3 B ρ' σ F' Hf' H' Q' E' Dd R' q' (k.mono s) (kx.mono s))
end

/-! ### new instances -/
def tMakeX (C : Addr) (sp : Sp) (E : St → XK) (t : TA) : TE := fun σ H Q => t σ H fun vs H1 => ∀ x dx, H1 x = none → H1 dx = none → dx ≠ x →
  sp (.ref x :: vs) (upd (upd H1 dx (.own x)) x (.ins C dx [])) (fun v H2 => v = .non ∧ Q (.ref x) H2) (E σ)
section
variable {G : Ctx} {X : Cx} {Wx : WX} {i n : Nat} {a b c e o : Expr} {es : List Expr} {ga gb gc g : Env → W D} {gs : Env → W (List Sl)} {pos apos p : Pos}
theorem run_makeX {C f : Addr} {CX : CXT} {k : Nat} {fd : FuncData} {ps : List Str} {sp : Sp} {E : St → XK} {pins : List (Addr × Obj)} {σ : St} {H : Hp} {s : Shared} {Q : VK} {us : List Value} {vs : List V} (M : Mk X.K C f) (F : FnOk X.prog X.w X.K X.mg X.base CX k f fd ps sp) (hr : Room (k + 1) X.A) (hb : Binds X.K fd ps [])
    (hx : PassesAt CX X σ (E σ)) (I : Inv X pins σ H s) (r : Vals vs us)
    (h : ∀ x dx, H x = none → H dx = none → dx ≠ x → sp (.ref x :: vs) (upd (upd H dx (.own x)) x (.ins C dx [])) (fun v H2 => v = .non ∧ Q (.ref x) H2) (E σ)) :
    wpAny (model X.prog X.w) X.A (call (.ref C) us) (EP X pins σ Q) X.xe s := by
  have hq := h (s.heap.objs.size + 1) s.heap.objs.size (I.hok.fresh (Nat.le_succ _)) (I.hok.fresh (Nat.le_refl _)) (Nat.ne_of_lt (Nat.lt_succ_self _))
  have I2 := Inv.made (C := C) I
  have r2 : Vals (V.ref (s.heap.objs.size + 1) :: vs) (Value.ref (s.heap.objs.size + 1) :: us) := .cons rfl r
  have hl : (Value.ref (s.heap.objs.size + 1) :: us).length = ps.length := by
    have e := r2.length
    rw [F.len _ _ _ _ hq] at e
    exact e.symm
  have b := hb _ (Value.ref (s.heap.objs.size + 1) :: us) I2.kIn (by rw [List.append_nil]; exact hl)
  rw [List.append_nil] at b
  refine wpAny_call (make_map (f := f) I.kIn M.makes M.init (beq_iff_eq.mp M.fn) (codeAny_mono (F.run _ X.stack _ _ ⟨Value.ref (s.heap.objs.size + 1) :: us, []⟩ (Value.ref (s.heap.objs.size + 1) :: us) _ _ (E σ) (hr.make C us [])
    (I2.env0.make C us []) b r2 hq) fun r s' hq' => ?_))
  cases r with
  | error e => exact hx pins _ _ e s' I2 hq'
  | ok fl =>
    cases fl with
    | ret u =>
      obtain ⟨v, H', I3, rv, ev, q3⟩ := I2.after hq'
      subst ev
      exact ⟨rv, ⟨V.ref (s.heap.objs.size + 1), H', I3, rfl, q3⟩⟩
    | next => exact False.elim hq'
    | brk => exact False.elim hq'
    | cont => exact False.elim hq'
theorem pe_makeX {C f : Addr} {x : Str} {CX : CXT} {k : Nat} {fd : FuncData} {ps : List Str} {sp : Sp} {E : St → XK} {t : TA} (M : Mk X.K C f) (F : FnOk X.prog X.w X.K X.mg X.base CX k f fd ps sp) (hr : Room (k + 1) X.A) (hg : Gl X x) (hm : X.mg x = some (.ref C)) (hb : Binds X.K fd ps []) (hx : ∀ σ, PassesAt CX X σ (E σ))
    (ha : PA X (e :: es) t) (hdb : (x == ("__debug__" : Str)) = false := by decide) (he : starEach (e :: es) X.env = (false, eval e X.env) :: starEach es X.env := by rfl) (hpl : (backTo pos (starEach es X.env)).any (·.1) = false := by rfl) :
    PE X (.Call (.Name x p) (e :: es) [] pos) (tMakeX C sp E t) := by
  refine ⟨fun pins s σ H Q I h => ?_⟩
  refine wpAny_Call_Name_kw (ld_glob I hg hm ?_ hdb)
  refine PySem.W.callWith_K (h₀ := X.base) I.ok.mod.kin M.kp (thn (ha.run pos pins s σ H _ I h) fun us s1 ⟨vs, H1, I1, r, q⟩ => ⟨I1.kIn, ?_⟩) he hpl
  exact run_makeX M F hr hb (hx σ) I1 r q
/-- C(..): its __init__ changes the new instance -/
def makeO (C : Nat) (m : Cn) (gs : Env → W (List Sl)) : Env → W OD := fun ρ Q E => gs ρ (fun as => m (.bw (.ins C []) :: as) (fun rv as' => ∃ y, rv = .fz .non ∧ as'[0]? = some (.bw y) ∧ Q y) (fun x _ => E x)) E
theorem ent_make {C : Nat} {m : Cn} {t : TA} (hs : EcT G Wx t gs) : EnT G Wx (tMakeX (G.cn C) (PSp G m) (WE Wx) t) (makeO C m gs) := by
  intro B ρ σ F Hf H Q' E' Q R q k kx
  refine hs B ρ σ F Hf H _ E' _ R q (fun vs as Hf1 H1 R1 n1 A q1 => ?_) kx
  intro y dx h1 h2 h3
  have R2 := R1.laid (o := .own y) h2
  have hy : (upd H1 dx (.own y)) y = none := by rw [upd_ne h3.symm]; exact h1
  have R3 := R2.laid (o := .ins (G.cn C) dx []) hy
  have s3 : Same H1 (upd (upd H1 dx (.own y)) y (.ins (G.cn C) dx [])) := (QL.Same.new h2).trans (QL.Same.new hy)
  have n3 : Nx ρ σ Hf1 H1 Hf1 (upd (upd H1 dx (.own y)) y (.ins (G.cn C) dx [])) := ((Nx.refl (ρ := ρ) (σ := σ) (Hf := Hf1) (H := H1)).other (o := .own y) h2).other h1
  have A3 := A.mono R3 n3
  have e0 : (List.replicate ([] : List Sl).length ([] : List Addr) ++ [y] :: List.replicate as.length []) = [y] :: List.replicate as.length [] := rfl
  have hy0 : H y = none := n1.nn R.sm R1.sm h1
  have pl : ∀ {b}, IsPool (.bw (.ins C []) :: as) ((V.ref y :: vs).map some) b → IsPool ρ σ b ∨ H b = none := fun {b} h => by
    rcases isPool_mid (as1 := []) (vs1 := []) rfl h with ⟨j, z, _⟩ | z
    · simp at z
    · exact A3.pool b z
  have yn : ∀ {b}, b = y → ¬ IsPool (.bw (.ins C []) :: as) ((V.ref y :: vs).map some) b := fun {b} hb z => by
    subst hb
    rcases isPool_mid (as1 := []) (vs1 := []) rfl z with ⟨j, z, _⟩ | ⟨j, z1, z2⟩
    · simp at z
    · -- the new instance is no pool
      have hp : ∃ p, V.ref b = .ref p ∧ PoolAt G (upd (upd H1 dx (.own b)) b (.ins (G.cn C) dx [])) p := by
        obtain ⟨v, z3, ⟨p, z4, _, z5⟩, _⟩ := A3.as.get z1
        rw [List.getElem?_map, z3] at z2
        cases z2
        exact ⟨p, z4, z5⟩
      obtain ⟨p, e, us, z5, _⟩ := hp
      cases e
      rw [upd_same] at z5
      cases z5
  have callR : ∀ {as' : List Sl} {Fs' : Fps} {Hf' H' : Hp}, CNx G (.bw (.ins C []) :: as) (.ref y :: vs) ([y] :: List.replicate as.length []) Hf1 (upd (upd H1 dx (.own y)) y (.ins (G.cn C) dx [])) as' Fs' Hf' H' → Rep G B ρ σ F Hf' H' ∧ Nx ρ σ Hf H Hf' H' := fun {as' Fs' Hf' H'} c => by
    -- as a call that changes nothing of ours
    have notF : ∀ {b}, b ≠ y → b ∉ ([y] :: List.replicate as.length ([] : List Addr)).flatten := fun hb z => by
      rw [← e0, bwF_flat] at z
      exact hb (by simpa using z)
    have ny : ∀ {b}, H b ≠ none → b ≠ y := fun h z => h (by rw [z]; exact hy0)
    have m13 : Nx ρ σ Hf H Hf1 (upd (upd H1 dx (.own y)) y (.ins (G.cn C) dx [])) := n1.trans n3
    refine ⟨R3.go c.sm c.sa (fun a ha => ?_) (fun p hp z1 z2 => ?_) (fun b hb h => c.uf b (R3.st b hb) h) (fun b hb hf hnp hw => ?_) fun b hb => c.st b (R3.st b hb), ⟨n1.sm.trans c.sm, fun b o e z => ?_⟩⟩
    · obtain ⟨c1, c2⟩ := R3.cell ha
      cases e : (upd (upd H1 dx (.own y)) y (.ins (G.cn C) dx [])) a with
      | none => exact absurd e c1
      | some o =>
        refine ⟨c.kp a o e c2 (fun z => ?_) (notF (ny (R.cell ha).1)), c.uf a c1 c2⟩
        rcases pl z with z | z
        · exact R.np a ha z
        · exact (R.cell ha).1 z
    · obtain ⟨vs2, z3, z4⟩ := z2
      refine ⟨?_, c.uf p (by rw [z3]; simp) z1⟩
      by_cases z : IsPool (.bw (.ins C []) :: as) ((V.ref y :: vs).map some) p
      · exact c.pl p z
      · refine ⟨vs2, c.kp p _ z3 z1 z (notF fun w => ?_), z4⟩
        subst w
        rw [upd_same] at z3
        cases z3
    · have hb1 := R3.st b hb
      cases e : (upd (upd H1 dx (.own y)) y (.ins (G.cn C) dx [])) b with
      | none => exact absurd e hb1
      | some o =>
        have hf1 : Hf1 b = none := by
          cases q : B.H b with
          | none => exact absurd q hb
          | some u => exact R3.unf b u q hf
        refine c.kp b o e hf1 (fun z => ?_) (notF (ny (R.st b hb)))
        rcases pl z with ⟨i, z1, z2⟩ | z
        · obtain ⟨p, y1, _, y2, _⟩ := R3.sl i _ z1
          rw [z2] at y1
          cases y1
          exact y2.elim hnp hb
        · exact R.st b hb z
    · obtain ⟨m1, o1, e1, q1⟩ := m13.kp b o e z
      have u1 := c.uf b (by rw [e1]; simp) m1
      refine ⟨u1, ?_⟩
      by_cases hp : IsPool (.bw (.ins C []) :: as) ((V.ref y :: vs).map some) b
      · have hq : IsPool ρ σ b := (pl hp).elim id fun w => by rw [e] at w; cases w
        cases e2 : H' b with
        | none => exact absurd e2 (c.st b (by rw [e1]; simp))
        | some o2 => exact ⟨o2, rfl, fun w => absurd hq w⟩
      · exact ⟨o1, c.kp b o1 e1 m1 hp (notF (ny (by rw [e]; simp))), q1⟩
  refine ⟨Hf1, .bw (.ins C []) :: as, [y] :: List.replicate as.length [], _, _, R3.sm, .cons (s := .bw _) (.ins upd_same (R1.sm.free h1) .nil) A3.as, ?_, ?_, q1, fun v rv as' Fs' Hf' H' c r q' => ?_, fun x cls d as' Fs' Hf' H' c xr q' => ?_⟩
  · rw [← e0, bwF_flat]; simp
  · rw [← e0, bwF_flat]
    intro a ha
    exact yn (by simpa using ha)
  · obtain ⟨z, rfl, e', q'⟩ := q'
    have r : Rp G.cn Hf' v .non := r
    cases r
    refine ⟨rfl, ?_⟩
    obtain ⟨R4, n4⟩ := callR c
    obtain ⟨u, h4, h5⟩ := c.fin.get e'
    have hu : u = .ref y := by simpa using h4.symm
    subst hu
    refine k (.ref y) z (Fs'.getD 0 []) Hf' H' R4 n4 h5 (flat_at c.nd) (fun a ha => ?_) q'
    have hw := c.nw a (mem_flat ha)
    rw [← e0, bwF_flat] at hw
    rcases hw with w | w
    · rw [show a = y by simpa using w]; exact hy0
    · have : H1 a = none := by
        cases q : H1 a with
        | none => rfl
        | some o => rw [s3 a o q] at w; cases w
      exact n1.nn R.sm R1.sm this
  · obtain ⟨R4, n4⟩ := callR c
    exact kx x cls d Hf' H' R4 n4 xr q'
theorem en_make {C : Nat} {x : Str} {m : Cn} {kk : Nat} {f : Addr} {fd : FuncData} {ps : List Str} (M : Mk X.K (G.cn C) f) (F : FnOk X.prog X.w X.K X.mg X.base (L2.CX X.prog X.w) kk f fd ps (PSp G m)) (hr : Room (kk + 1) X.A) (hg : Gl X x) (hm : X.mg x = some (.ref (G.cn C)))
    (hb : Binds X.K fd ps []) (tk : Takes X Wx) (ha : Ec G X Wx (e :: es) gs) (hdb : (x == ("__debug__" : Str)) = false := by decide) (he : starEach (e :: es) X.env = (false, eval e X.env) :: starEach es X.env := by rfl)
    (hpl : (backTo pos (starEach es X.env)).any (·.1) = false := by rfl) : En G X Wx (.Call (.Name x p) (e :: es) [] pos) (makeO C m gs) := by
  obtain ⟨t, pa, ea⟩ := ha.ex
  exact ⟨_, pe_makeX M F hr hg hm hb (fun σ => passAt tk σ) pa hdb he hpl, ent_make ea⟩
end
end QL

set_option Elab.async false
set_option linter.all false
set_option maxRecDepth 100000
set_option maxHeartbeats 2000000
namespace QL
open PySem L2
open PyProof.Rows (envOfC)

/-! ### pools: lists of n ints of which nothing else is told -/
theorem ixN_nat {n : Nat} {i : Int} (h0 : 0 ≤ i) (h1 : i < n) : ixN n i = some i.toNat := by
  unfold ixN
  rw [if_pos h0, if_pos h1]
theorem pin_at {n : Nat} {vs : List V} (h : pin n vs) {j : Int} (h0 : 0 ≤ j) (h4 : j < n) : ∃ z, atI vs j = some (.int z) := by
  obtain ⟨ns, hl, rfl⟩ := h
  have hj : j.toNat < ns.length := by omega
  refine ⟨ns[j.toNat], ?_⟩
  have := atI_nat (xs := ns.map V.int) (j := j.toNat) (v := V.int ns[j.toNat]) (by rw [List.getElem?_map, List.getElem?_eq_getElem hj]; rfl)
  rw [Int.toNat_of_nonneg h0] at this
  exact this
theorem pin_set {n : Nat} {vs : List V} (h : pin n vs) {j : Int} (h0 : 0 ≤ j) (h4 : j < n) (z : Int) : ∃ k, ixN vs.length j = some k ∧ pin n (vs.set k (.int z)) := by
  obtain ⟨ns, hl, rfl⟩ := h
  refine ⟨j.toNat, ?_, ns.set j.toNat z, by simp [hl], by rw [List.map_set]⟩
  exact ixN_nat (n := (ns.map V.int).length) (i := j) h0 (by rw [List.length_map]; omega)
def ixP (n i : Nat) (g : Env → W D) : Env → W D := fun ρ Q E => ρ[i]? = some .pool ∧ g ρ (fun k => ∃ j : Int, k = .int j ∧ 0 ≤ j ∧ j < n ∧ ∀ z : Int, Q (.int z)) E
def sSetPl (n i : Nat) (gk gv : Env → W D) : Env → Ws := fun ρ Q E => ρ[i]? = some .pool ∧ gv ρ (fun d => gk ρ (fun k => ∃ j z : Int, k = .int j ∧ d = .int z ∧ 0 ≤ j ∧ j < n ∧ Q .nx ρ) (fun x => E x ρ)) (fun x => E x ρ)
section
variable {G : Ctx} {B : Bs} {ρ : Env} {σ : St} {F : Fps} {Hf H : Hp}
theorem Rep.writePl {i : Nat} {p : Addr} {vs : List V} (R : Rep G B ρ σ F Hf H) (e : ρ[i]? = some .pool) (e1 : σ[i]? = some (some (.ref p))) (hp : G.pi vs) : Rep G B ρ σ F Hf (upd H p (.lst vs)) := by
  obtain ⟨p', e1', hf, hb, us0, h00, _⟩ := R.sl i _ e
  rw [e1] at e1'
  cases e1'
  have isP : IsPool ρ σ p := ⟨i, e, e1⟩
  refine R.go (Sm.refl _) (fun b u z => by rw [upd_ne (ne_of_none z hf)]; exact R.sm _ _ z) (fun a ha => ⟨upd_ne fun z => R.np a ha (by rw [z]; exact isP), (R.cell ha).2⟩) (fun q hq h1 ⟨us, h2, h3⟩ => ⟨?_, h1⟩) (fun b _ h => h) (fun b hb' hf' hnp hw => upd_ne fun z => ?_) fun b hb' => ?_
  · by_cases z : q = p
    · subst z; exact ⟨vs, upd_same, hp⟩
    · exact ⟨us, by rw [upd_ne z]; exact h2, h3⟩
  · subst z
    exact hb.elim hnp hb'
  · by_cases z : b = p
    · subst z; rw [upd_same]; simp
    · rw [upd_ne z]; exact R.st b hb'
variable {X : Cx} {Wx : WX} {e k : Expr} {st : Stmt} {ga gb g : Env → W D} {pos : Pos} {n : Nat}
theorem ev_ixP {i : Nat} {x : Str} {p2 : Pos} (hG : G.pi = pin n) (ho : PE X (.Name x p2) (tVar i)) (hk : Ev G X Wx k ga) (hs : PlainIx k) : Ev G X Wx (.Subscript (.Name x p2) k pos) (ixP n i ga) := by
  obtain ⟨tk, pk, ek⟩ := hk.ex
  refine ⟨_, pe_ix op_ix ho pk hs, ?_⟩
  intro B ρ σ F Hf H Q' E' Q R q kk kx
  obtain ⟨e, q⟩ := q
  obtain ⟨p, e1, _⟩ := R.sl i _ e
  refine ⟨_, e1, ?_⟩
  refine ek B ρ σ F Hf H _ _ _ R q (fun v d Hf1 H1 R1 n1 r1 q1 => ?_) kx
  obtain ⟨j, rfl, h0, h4, q1⟩ := q1
  obtain ⟨p2, e2, _, _, vs, h3, hp⟩ := R1.sl i _ e
  rw [e1] at e2
  cases e2
  cases r1
  rw [hG] at hp
  obtain ⟨z, hz⟩ := pin_at hp h0 h4
  exact .inl ⟨p, vs, j, _, rfl, rfl, SqL.of h3, hz, kk _ _ Hf1 H1 R1 n1 (.int z) (q1 z)⟩
theorem es_setPl {i : Nat} (hG : G.pi = pin n) (hv : Ev G X Wx e gb) (hk : Ev G X Wx k ga)
    (hp : ∀ tk tv, PE X k tk → PE X e tv → PS X st (tAsg tv (gSub (tVar i) tk rSetL))) : Es G X Wx st (sSetPl n i ga gb) := by
  obtain ⟨tv, pv, ev⟩ := hv.ex
  obtain ⟨tk, pk, ek⟩ := hk.ex
  refine ⟨_, hp tk tv pk pv, ?_⟩
  intro B ρ σ F Hf H Q' E' Dd R q k kx
  obtain ⟨e, q⟩ := q
  refine ev B ρ σ F Hf H _ _ _ R q (fun v d Hf1 H1 R1 n1 r1 q1 => ?_) kx.at
  obtain ⟨p, e1, _⟩ := R1.sl i _ e
  refine ⟨_, e1, ?_⟩
  refine ek B ρ σ F Hf1 H1 _ _ _ R1 q1 (fun w d2 Hf2 H2 R2 n2 r2 q2 => ?_) (kx.at.mono n1)
  obtain ⟨j, z, rfl, rfl, h0, h4, q2⟩ := q2
  obtain ⟨p2, e2, _, _, vs2, h3', hp'⟩ := R2.sl i _ e
  rw [e1] at e2
  cases e2
  cases r2
  cases r1
  rw [hG] at hp'
  obtain ⟨m, hn, hp2⟩ := pin_set hp' h0 h4 z
  refine ⟨p, vs2, j, m, rfl, rfl, h3', hn, ?_⟩
  exact k.nx _ σ F Hf2 _ (R2.writePl e e1 (by rw [hG]; exact hp2)) (n1.sm.trans n2.sm) q2
end
/-- a def and how its arguments bind, where its name stands -/
structure Hd (K : PySem.W.Frag) (mg : Str → Option Value) (x : Str) (st : Stmt) (ps : List Str) (f : Addr) (fd : FuncData) : Prop where
  F : Fun K x x st f fd
  b : Binds K fd ps []
  m : mg x = some (.ref f)
/-- a method -/
structure Hm (K : PySem.W.Frag) (C : Addr) (x qual : Str) (st : Stmt) (ps : List Str) (f : Addr) (fd : FuncData) : Prop where
  F : Fun K x qual st f fd
  b : Binds K fd ps []
  m : Meth K C x f
/-- an __init__ -/
structure Hi (K : PySem.W.Frag) (x qual : Str) (st : Stmt) (ps : List Str) (f : Addr) (fd : FuncData) : Prop where
  F : Fun K x qual st f fd
  b : Binds K fd ps []
namespace Bt
theorem sum : bootBuiltins "sum" = some (.builtin "sum") := by decide +kernel
theorem all : bootBuiltins "all" = some (.builtin "all") := by decide +kernel
theorem any : bootBuiltins "any" = some (.builtin "any") := by decide +kernel
theorem abs : bootBuiltins "abs" = some (.builtin "abs") := by decide +kernel
theorem max : bootBuiltins "max" = some (.builtin "max") := by decide +kernel
theorem min : bootBuiltins "min" = some (.builtin "min") := by decide +kernel
theorem sorted : bootBuiltins "sorted" = some (.builtin "sorted") := by decide +kernel
theorem t_int : bootBuiltins "int" = some (.type "int") := by decide +kernel
theorem t_bool : bootBuiltins "bool" = some (.type "bool") := by decide +kernel
theorem t_list : bootBuiltins "list" = some (.type "list") := by decide +kernel
theorem t_tuple : bootBuiltins "tuple" = some (.type "tuple") := by decide +kernel
theorem t_str : bootBuiltins "str" = some (.type "str") := by decide +kernel
theorem t_dict : bootBuiltins "dict" = some (.type "dict") := by decide +kernel
end Bt
def nilA : Env → W (List D) := fun _ => W.pure []
def fldC (C : Nat) (f : Str) : D → W D := fun d => W.need (∃ fs, d = .ins C fs) (fldD f d)
def dispN (g : Env → W (List D)) : Env → W (List D) := fun ρ => do let xs ← g ρ; W.need (xs.length ≤ sizeLine) (W.pure xs)
def listN (g : Env → W (List D)) : Env → W (List D) := fun ρ => do
  let xs ← g ρ
  (match xs with | [.lst ds] => W.pure ds | [.tup ds] => W.pure ds | _ => W.fail)
section
variable {G : Ctx} {X : Cx} {Wx : WX} {e : Expr} {es : List Expr} {g : Env → W D} {gs : Env → W (List D)} {pos p : Pos}
theorem ea_nil' : Ea G X Wx [] nilA := ea_nil
theorem ev_globI' {x : Str} {i : Int} (hg : Gl X x) (hm : ∃ t, X.mg x = some (.int i t)) (hd : (x == ("__debug__" : Str)) = false := by decide) : Ev G X Wx (.Name x pos) (kst (.int i)) := by
  obtain ⟨t, hm⟩ := hm
  exact ev_globI hg hm hd
theorem el_lst (h : Ea G X Wx es gs) : El G X Wx (.List es pos) (dispN gs) := by
  obtain ⟨ta, pa, ea⟩ := h.ex
  refine ⟨_, pe_lst pa, ?_⟩
  intro B ρ σ F Hf H Q' E' Q R q k kx
  refine ea B ρ σ F Hf H _ E' _ R q (fun vs ds Hf1 H1 R1 s1 r1 q1 => ⟨by rw [r1.length]; exact q1.1, fun p hp => ?_⟩) kx
  exact k p vs ds Hf1 _ (R1.laid hp) (s1.other (s1.nn R.sm R1.sm hp)) (s1.nn R.sm R1.sm hp) (R1.sm.free hp) upd_same r1 q1.2
theorem el_list {x : Str} (hK : X.K = G.K) (hg : Gl X x) (hm : X.mg x = none) (hv : bootBuiltins x = some (.type "list")) (ha : Ea G X Wx (e :: es) gs)
    (hn : x ≠ "__name__" := by decide) (hdb : (x == ("__debug__" : Str)) = false := by decide)
    (he : starEach (e :: es) X.env = (false, eval e X.env) :: starEach es X.env := by rfl) (hpl : (backTo pos (starEach es X.env)).any (·.1) = false := by rfl) : El G X Wx (.Call (.Name x p) (e :: es) [] pos) (listN gs) := by
  obtain ⟨ta, pa, ea⟩ := ha.ex
  refine ⟨_, pe_callTy call_list_of hg hm hv pa hn hdb he hpl, ?_⟩
  intro B ρ σ F Hf H Q' E' Q R q k kx
  refine ea B ρ σ F Hf H _ E' _ R q (fun vs ds Hf1 H1 R1 s1 r1 q1 => ?_) kx
  have q2 : (match ds with | [.lst ds] => W.pure ds | [.tup ds] => W.pure ds | _ => W.fail) Q' E' := q1
  split at q2
  · cases r1 with
    | cons r t =>
      cases t
      cases r with
      | lst h r =>
        exact ⟨_, _, rfl, .inl (SqL.of (R1.sm _ _ h)), fun p hp => k p _ _ Hf1 _ (R1.laid hp) (s1.other (s1.nn R.sm R1.sm hp)) (s1.nn R.sm R1.sm hp) (R1.sm.free hp) upd_same r q2⟩
  · cases r1 with
    | cons r t =>
      cases t
      cases r with
      | tup h r =>
        exact ⟨_, _, rfl, .inr (SqT.of (R1.sm _ _ h)), fun p hp => k p _ _ Hf1 _ (R1.laid hp) (s1.other (s1.nn R.sm R1.sm hp)) (s1.nn R.sm R1.sm hp) (R1.sm.free hp) upd_same r q2⟩
  · exact q2.elim
/-- the script's length, an item -/
def lenS (i : Nat) : Env → W D := fun ρ Q _ => ∃ ns : List Int, ρ[i]? = some (.scr ns) ∧ Q (.int ns.length)
theorem ev_lenS {i : Nat} {x : Str} {p p2 : Pos} (hp : PE X (.Call (.Name "len" p) [.Name x p2] [] pos) (tCB (rLenX X.K) (tCons (tVar i) tNil))) (hK : X.K = G.K) : Ev G X Wx (.Call (.Name "len" p) [.Name x p2] [] pos) (lenS i) := by
  refine ⟨_, hp, ?_⟩
  intro B ρ σ F Hf H Q' E' Q R q k kx
  obtain ⟨ns, e, q⟩ := q
  obtain ⟨p, e1, h1⟩ := R.sl i _ e
  exact ⟨_, e1, p, _, rfl, .inl (hK ▸ Sm.seq (Sm.of R.sm) h1), k _ _ Hf H R Nx.refl (by rw [List.length_map]; exact .int _) q⟩
def ixS (i : Nat) (g : Env → W D) : Env → W D := fun ρ Q E => ∃ ns : List Int, ρ[i]? = some (.scr ns) ∧ g ρ (fun k => ∃ j z : Int, k = .int j ∧ atI ns j = some z ∧ Q (.int z)) E
theorem ev_ixS {i : Nat} {x : Str} {p2 : Pos} {k : Expr} (ho : PE X (.Name x p2) (tVar i)) (hK : X.K = G.K) (hk : Ev G X Wx k g) (hs : PlainIx k) : Ev G X Wx (.Subscript (.Name x p2) k pos) (ixS i g) := by
  obtain ⟨tk, pk, ek⟩ := hk.ex
  refine ⟨_, pe_ix op_ix ho pk hs, ?_⟩
  intro B ρ σ F Hf H Q' E' Q R q kk kx
  obtain ⟨ns, e, q⟩ := q
  obtain ⟨p, e1, h1⟩ := R.sl i _ e
  refine ⟨_, e1, ?_⟩
  refine ek B ρ σ F Hf H _ _ _ R q (fun v d Hf1 H1 R1 n1 r1 q1 => ?_) kx
  obtain ⟨j, z, rfl, hz, q1⟩ := q1
  cases r1
  refine .inl ⟨p, _, j, .int z, rfl, rfl, hK ▸ Sm.seq (Sm.of R1.sm) (n1.sm.seq h1), ?_, kk _ _ Hf1 H1 R1 n1 (.int z) q1⟩
  unfold L2.atI at hz ⊢
  rw [List.length_map]
  cases hx : ixN ns.length j with
  | none => rw [hx] at hz; cases hz
  | some m =>
    rw [hx] at hz
    show (ns.map V.int)[m]? = _
    rw [List.getElem?_map, show ns[m]? = some z from hz]; rfl
variable {elt tg iter : Expr} {ifs : List Expr} {sc : Scope} {own : List (Str × Nat)} {gi : Env → W (List D)} {gt : D → Env → W Env} {gb : Env → W Bool} {ge : Env → W D} {gn : Env → W OD} {sl : List Nat} {i : Nat} {y : Str} {py spos : Pos}
theorem es_setLcO (hc : X.calm = true) (hN : X.N.Nodup) (hy : X.N[i]? = some y) (hyl : X.env.scope.names.lookup y = some .local)
    (hsw : swapsWith (.ListComp elt [⟨tg, iter, ifs, 0⟩] sc pos) (some (.Name y py)) spos.line X.env = pure true) (hi : Ei G X Wx tg iter gi) (ok : BlkOk X.N X.env.scope sc own) (hg : ∀ s H0 C cl fp, Eg G (bk X sc s H0 C cl fp) tg sl gt)
    (ht : ∀ s H0 C cl fp, Ets G (bk X sc s H0 C cl fp) WF ifs gb) (he : ∀ s H0 C cl fp, En G (bk X sc s H0 C cl fp) WF elt gn) (hsl : ∀ i ∈ sl, i ∈ own.map (·.2)) (hs : ∀ x, foldedSetIterable iter X.env x = pure x := by intro _; rfl) :
    Es G X Wx (.Assign [.Name y py] (.ListComp elt [⟨tg, iter, ifs, 0⟩] sc pos) spos) (sSetO i (lcON gi (own.map (·.2)) gt gb gn)) := by
  obtain ⟨wi, pi, ei⟩ := hi.ex
  exact ⟨_, ps_setLc hc hN hy hyl hsw pi ok pg_fam pts_fam pe_fam hs, est_setO (ent_lcO ei hg ht he hsl)⟩
theorem es_setLcL (hc : X.calm = true) (hN : X.N.Nodup) (hy : X.N[i]? = some y) (hyl : X.env.scope.names.lookup y = some .local)
    (hsw : swapsWith (.ListComp elt [⟨tg, iter, ifs, 0⟩] sc pos) (some (.Name y py)) spos.line X.env = pure true) (hi : Ei G X Wx tg iter gi) (ok : BlkOk X.N X.env.scope sc own) (hg : ∀ s H0 C cl fp, Eg G (bk X sc s H0 C cl fp) tg sl gt)
    (ht : ∀ s H0 C cl fp, Ets G (bk X sc s H0 C cl fp) WF ifs gb) (he : ∀ s H0 C cl fp, Ev G (bk X sc s H0 C cl fp) WF elt ge) (hsl : ∀ i ∈ sl, i ∈ own.map (·.2)) (hs : ∀ x, foldedSetIterable iter X.env x = pure x := by intro _; rfl) :
    Es G X Wx (.Assign [.Name y py] (.ListComp elt [⟨tg, iter, ifs, 0⟩] sc pos) spos) (sSetO i (lstO (lcN gi (own.map (·.2)) gt gb ge))) := by
  obtain ⟨wi, pi, ei⟩ := hi.ex
  exact ⟨_, ps_setLc hc hN hy hyl hsw pi ok pg_fam pts_fam pe_fam hs, est_setO (ent_lc ei hg ht he hsl).en⟩
theorem es_setLc (hc : X.calm = true) (hN : X.N.Nodup) (hy : X.N[i]? = some y) (hyl : X.env.scope.names.lookup y = some .local)
    (hsw : swapsWith (.ListComp elt [⟨tg, iter, ifs, 0⟩] sc pos) (some (.Name y py)) spos.line X.env = pure true) (hi : Ei G X Wx tg iter gi) (ok : BlkOk X.N X.env.scope sc own) (hg : ∀ s H0 C cl fp, Eg G (bk X sc s H0 C cl fp) tg sl gt)
    (ht : ∀ s H0 C cl fp, Ets G (bk X sc s H0 C cl fp) WF ifs gb) (he : ∀ s H0 C cl fp, Ev G (bk X sc s H0 C cl fp) WF elt ge) (hsl : ∀ i ∈ sl, i ∈ own.map (·.2)) (hs : ∀ x, foldedSetIterable iter X.env x = pure x := by intro _; rfl) :
    Es G X Wx (.Assign [.Name y py] (.ListComp elt [⟨tg, iter, ifs, 0⟩] sc pos) spos) (sSet i (lstV (lcN gi (own.map (·.2)) gt gb ge))) := by
  obtain ⟨wi, pi, ei⟩ := hi.ex
  exact ⟨_, ps_setLc hc hN hy hyl hsw pi ok pg_fam pts_fam pe_fam hs, est_set (ent_lc ei hg ht he hsl).ev⟩
end
/-- name += an int, name -= an int -/
def sAug (i : Nat) (f : Int → Int → Int) (g : Env → W D) : Env → Ws := fun ρ Q E => ∃ a : Int, ρ[i]? = some (.fz (.int a)) ∧ g ρ (fun d => ∃ b : Int, d = .int b ∧ Q .nx (ρ.set i (.fz (.int (f a b))))) (fun x => E x ρ)
theorem es_augI {G : Ctx} {X : Cx} {Wx : WX} {e : Expr} {st : Stmt} {g : Env → W D} {i : Nat} {f : Int → Int → Int} (h : Ev G X Wx e g) (hp : ∀ t, PE X e t → PS X st (tAug i t (ipI f))) : Es G X Wx st (sAug i f g) := by
  obtain ⟨t, p, ev⟩ := h.ex
  refine ⟨_, hp t p, ?_⟩
  intro B ρ σ F Hf H Q' E' Dd R q k kx
  obtain ⟨a, e, q⟩ := q
  obtain ⟨v, e1, r⟩ := R.sl i _ e
  cases r
  refine ⟨_, e1, ?_⟩
  refine ev B ρ σ F Hf H _ _ _ R q (fun w d Hf1 H1 R1 n1 r1 q1 => ?_) kx.at
  obtain ⟨b, rfl, q1⟩ := q1
  cases r1
  exact ⟨a, b, rfl, rfl, k.nx _ _ _ Hf1 H1 (R1.set (.int _)) n1.sm q1⟩
theorem PSp.mono {G : Ctx} {m c : Cn} (h : ∀ as Q E, c as Q E → m as Q E) {vs : List V} {H : Hp} {Q : VK} {E : XK} (s : PSp G c vs H Q E) : PSp G m vs H Q E := by
  obtain ⟨Hf, as, Fs, Q', E', h1, h2, h3, h4, h5, h6⟩ := s
  exact ⟨Hf, as, Fs, Q', E', h1, h2, h3, h4, h _ _ _ h5, h6⟩
theorem liftP.mono {m c : List Sl → W D} (h : ∀ as Q E, c as Q E → m as Q E) : ∀ as Q E, liftP c as Q E → liftP m as Q E := fun as Q E q => ⟨q.1, h _ _ _ q.2⟩
theorem liftN.mono {m c : List Sl → W OD} (h : ∀ as Q E, c as Q E → m as Q E) : ∀ as Q E, liftN c as Q E → liftN m as Q E := fun as Q E q => ⟨q.1, h _ _ _ q.2⟩
end QL

set_option Elab.async false
set_option linter.all false
set_option maxRecDepth 100000
set_option maxHeartbeats 1000000
/-! zip over any number of lists and tuples, whatever the target -/
namespace QL
open PySem PySem.Spec PyProof.Rows L2
open Sem (wp)
/-- one thing that is walked: a list or a tuple at l, its iterator at it -/
structure Zs where
  b : Bool
  l : Addr
  it : Addr
def ItAt (h : Heap) (p : Zs) (i : Nat) : Prop := if p.b = true then h.IsListIter p.it p.l i else h.IsTupleIter p.it p.l i
def LAt (h : Heap) (p : Zs) (xs : Array Value) : Prop := if p.b = true then h.IsList p.l xs else h.IsTuple p.l xs
theorem ItAt.at {h h' : Heap} {p : Zs} {i : Nat} (x : ItAt h p i) (k : ∀ o, h.get? p.it = some o → h'.get? p.it = some o) : ItAt h' p i := by
  unfold ItAt at *
  split
  · rename_i e; rw [if_pos e] at x; obtain ⟨o, e, r⟩ := x; exact ⟨o, k o e, r⟩
  · rename_i e; rw [if_neg e] at x; obtain ⟨o, e, r⟩ := x; exact ⟨o, k o e, r⟩
theorem LAt.at {h h' : Heap} {p : Zs} {xs : Array Value} (x : LAt h p xs) (k : ∀ o, h.get? p.l = some o → h'.get? p.l = some o) : LAt h' p xs := by
  unfold LAt at *
  split
  · rename_i e; rw [if_pos e] at x; obtain ⟨o, e, r⟩ := x; exact ⟨o, k o e, r⟩
  · rename_i e; rw [if_neg e] at x; obtain ⟨o, e, r⟩ := x; exact ⟨o, k o e, r⟩
theorem ItAt.lt {h : Heap} {p : Zs} {i : Nat} (x : ItAt h p i) : p.it < h.objs.size := by
  unfold ItAt at x
  split at x
  · obtain ⟨o, e, _⟩ := x; exact Heap.lt_size e
  · obtain ⟨o, e, _⟩ := x; exact Heap.lt_size e
theorem ItAt.obj {h : Heap} {p : Zs} {i : Nat} (x : ItAt h p i) : ∃ o, h.get? p.it = some o ∧ ∀ v, o.data ≠ .cell v := by
  unfold ItAt at x
  split at x
  · obtain ⟨o, e, _, d⟩ := x; exact ⟨o, e, fun v q => by rw [d] at q; cases q⟩
  · obtain ⟨o, e, _, d⟩ := x; exact ⟨o, e, fun v q => by rw [d] at q; cases q⟩
section
variable {prog : Program} {w : World} {A : Around} {E : Value → Shared → Prop} {s : Shared}
theorem nx_item {p : Zs} {i : Nat} {xs : Array Value} {x : Value} {Q : Value → Shared → Prop} (hi : ItAt s.heap p i) (hl : LAt s.heap p xs) (hx : xs[i]? = some x)
    (hQ : ∀ h', ItAt h' p (i + 1) → Heap.SameBut p.it s.heap h' → Q x { s with heap := h' }) : wpAny (model prog w) A (Builtin.SmallTypes.nextOf (.ref p.it)) Q E s := by
  unfold ItAt at hi hQ
  unfold LAt at hl
  by_cases e : p.b = true
  · rw [if_pos e] at hi hl
    exact wpAny_nextOf_list_item hi hl hx fun h' a b => hQ h' (by rw [if_pos e]; exact a) b
  · rw [if_neg e] at hi hl
    exact RZ.nextOf_tuple_item hi hl hx fun h' a b => hQ h' (by rw [if_neg e]; exact a) b
theorem nx_end {p : Zs} {i : Nat} {xs : Array Value} {Q : Value → Shared → Prop} (hh : A.handled = none) (hi : ItAt s.heap p i) (hl : LAt s.heap p xs) (hx : xs[i]? = none)
    (hE : ∀ h' e, Heap.ExtBut p.it s.heap h' → (∃ o, h'.get? e = some o ∧ o.cls = .type "StopIteration") → E (.ref e) { s with heap := h' }) : wpAny (model prog w) A (Builtin.SmallTypes.nextOf (.ref p.it)) Q E s := by
  unfold ItAt at hi
  unfold LAt at hl
  by_cases e : p.b = true
  · rw [if_pos e] at hi hl
    exact wpAny_nextOf_list_end hh hi hl hx hE
  · rw [if_neg e] at hi hl
    exact RZ.nextOf_tuple_end hh hi hl hx hE
end
abbrev IsZg (h : Heap) (z TI TO : Addr) (f0 : Value) (f1 : Bool) : Prop :=
  h.get? z = some { cls := .type "zip", dict := none, data := .fields #[f0, .bool f1, .bool false, .ref TI, .ref TO], slots := #[] }
abbrev IsSq (h : Heap) (T : Addr) (xs : List Value) : Prop := h.get? T = some { cls := .type "tuple", data := .seq xs.toArray }
structure ZApart (src : List Zs) (z TI TO : Addr) : Prop where
  TIz : TI ≠ z
  TOz : TO ≠ z
  TITO : TI ≠ TO
  iz : ∀ p ∈ src, p.it ≠ z
  iI : ∀ p ∈ src, p.it ≠ TI
  iO : ∀ p ∈ src, p.it ≠ TO
  nd : (src.map Zs.it).Nodup
  lz : ∀ p ∈ src, p.l ≠ z
  lO : ∀ p ∈ src, p.l ≠ TO
  li : ∀ p ∈ src, ∀ q ∈ src, p.l ≠ q.it
theorem ZApart.ii {src : List Zs} {z TI TO : Addr} (D : ZApart src z TI TO) {j k : Nat} {p q : Zs} (h1 : src[j]? = some p) (h2 : src[k]? = some q) (h : j ≠ k) : p.it ≠ q.it := by
  intro e
  obtain ⟨l1, e1⟩ := List.getElem?_eq_some_iff.mp h1
  obtain ⟨l2, e2⟩ := List.getElem?_eq_some_iff.mp h2
  have := (List.nodup_iff_pairwise_ne.mp D.nd)
  rw [List.pairwise_iff_getElem] at this
  rcases Nat.lt_or_gt_of_ne h with g | g
  · exact this j k (by simpa using l1) (by simpa using l2) g (by simpa [e1, e2] using e)
  · exact this k j (by simpa using l2) (by simpa using l1) g (by simpa [e1, e2] using e.symm)
/-- the items at turn i of the first sources -/
def Its (vss : List (Array Value)) (i : Nat) (xs : List Value) : Prop := ∀ j, j < xs.length → ∃ a x, vss[j]? = some a ∧ a[i]? = some x ∧ xs[j]? = some x
theorem Its.snoc {vss : List (Array Value)} {i : Nat} {xs : List Value} {a : Array Value} {x : Value} (h : Its vss i xs) (ha : vss[xs.length]? = some a) (hx : a[i]? = some x) : Its vss i (xs ++ [x]) := by
  intro j hj
  rw [List.length_append, List.length_singleton] at hj
  by_cases e : j = xs.length
  · subst e
    exact ⟨a, x, ha, hx, by simp⟩
  · obtain ⟨b, y, h1, h2, h3⟩ := h j (by omega)
    exact ⟨b, y, h1, h2, by rw [List.getElem?_append_left (by omega)]; exact h3⟩
structure ZSt (src : List Zs) (vss : List (Array Value)) (z TI TO : Addr) (f0 : Value) (f1 : Bool) (i : Nat) (h0 : Heap) (k : Nat) (h : Heap) : Prop where
  rc : IsZg h z TI TO f0 f1
  it : ∀ j p, src[j]? = some p → ItAt h p (if j < k then i + 1 else i)
  sz : h.objs.size = h0.objs.size
  kp : ∀ c o, c ≠ z → c ≠ TO → (∀ p ∈ src, c ≠ p.it) → h0.get? c = some o → h.get? c = some o
section
variable {prog : Program} {w : World} {A : Around} {E : Value → Shared → Prop} {s : Shared} {src : List Zs} {vss : List (Array Value)} {z TI TO : Addr} {i : Nat} {f0 : Value} {f1 : Bool}
theorem ZSt.ls {h0 h : Heap} {k : Nat} (D : ZApart src z TI TO) (st : ZSt src vss z TI TO f0 f1 i h0 k h) (hl : ∀ (j : Nat) p, src[j]? = some p → ∃ a, vss[j]? = some a ∧ LAt h0 p a) {j : Nat} {p : Zs} (e : src[j]? = some p) : ∃ a, vss[j]? = some a ∧ LAt h p a := by
  obtain ⟨a, h1, h2⟩ := hl j p e
  have m := List.mem_of_getElem? e
  exact ⟨a, h1, h2.at fun o eo => st.kp _ o (D.lz p m) (D.lO p m) (fun q hq => D.li p m q hq) eo⟩
/-- one iterator has moved on -/
theorem ZSt.step {h0 h h' : Heap} {k : Nat} {p : Zs} (D : ZApart src z TI TO) (st : ZSt src vss z TI TO f0 f1 i h0 k h) (e : src[k]? = some p) (hi : ItAt h' p (i + 1)) (hs : Heap.SameBut p.it h h') : ZSt src vss z TI TO f0 f1 i h0 (k + 1) h' := by
  have m := List.mem_of_getElem? e
  refine ⟨hs.extBut _ _ (D.iz p m).symm st.rc, fun j q ej => ?_, hs.1.trans st.sz, fun c o h1 h2 h3 eo => hs.extBut _ _ (h3 p m) (st.kp c o h1 h2 h3 eo)⟩
  by_cases hj : j = k
  · subst hj
    rw [e] at ej
    cases ej
    rw [if_pos (Nat.lt_succ_self j)]
    exact hi
  · have := (st.it j q ej).at (h' := h') fun o eo => hs.extBut _ _ (D.ii ej e hj) eo
    by_cases hlt : j < k
    · rw [if_pos hlt] at this; rw [if_pos (by omega)]; exact this
    · rw [if_neg hlt] at this; rw [if_neg (by omega)]; exact this
theorem ZSt.out {h0 h h' : Heap} {k : Nat} (D : ZApart src z TI TO) (st : ZSt src vss z TI TO f0 f1 i h0 k h) (hs : Heap.SameBut TO h h') : ZSt src vss z TI TO f0 f1 i h0 k h' := by
  refine ⟨hs.extBut _ _ D.TOz.symm st.rc, fun j q ej => (st.it j q ej).at fun o eo => hs.extBut _ _ (D.iO q (List.mem_of_getElem? ej)) eo, hs.1.trans st.sz, fun c o h1 h2 h3 eo => hs.extBut _ _ h2 (st.kp c o h1 h2 h3 eo)⟩
theorem wp_alive {M : Model} {A : Around} {E : Value → Shared → Prop} {s : Shared} {a : Addr} {Q : Option Obj → Shared → Prop} (h : Q (s.heap.get? a) s) : wpAny M A (loadIfAlive a) Q E s := fun Γ p hΓ => by
  unfold loadIfAlive
  rw [Sem.wp_loadIfAlive]
  exact (wpAny_pure h : wpAny M A (Sem.pure _) Q E s) Γ p hΓ
theorem zip_free {Q : Bool → Shared → Prop} (hz : IsZg s.heap z TI TO f0 f1) (hf : f0 = .none ∨ ∃ a : Addr, f0 = rawInt a)
    (hQ : ∀ (b : Bool) (h' : Heap) (g1 : Bool), IsZg h' z TI TO f0 g1 → Heap.SameBut z s.heap h' → Q b { s with heap := h' }) : wpAny (model prog w) A (Builtin.SmallTypes.ownedTupleIsFree (.ref z)) Q E s := by
  have same : Heap.SameBut z s.heap s.heap := ⟨rfl, fun _ _ => rfl⟩
  unfold Builtin.SmallTypes.ownedTupleIsFree
  refine wpAny_bind (wpAny_field hz rfl (x := f0) rfl ?_)
  rcases hf with rfl | ⟨a, rfl⟩
  · exact wpAny_pure (hQ true s.heap f1 hz same)
  · show wpAny _ _ (loadIfAlive _ >>= _) _ _ s
    refine wpAny_bind (wp_alive ?_)
    by_cases hn : (s.heap.get? ((a : Nat) : Int).toNat).isNone = true
    · rw [if_pos hn]
      exact wpAny_pure (hQ true s.heap f1 hz same)
    · rw [if_neg hn]
      refine wpAny_bind (wpAny_field hz rfl (x := .bool f1) rfl ?_)
      cases f1 with
      | true => exact wpAny_pure (hQ false s.heap true hz same)
      | false =>
        refine wpAny_bind (wpAny_setField_rec hz (by simp) fun h1 z1 s1 => wpAny_pure ?_)
        exact hQ false h1 true z1 s1

theorem zipG_next {Q : Value → Shared → Prop} (hh : A.handled = none) (D : ZApart src z TI TO) (hn : src ≠ []) (hsz : src.length ≤ sizeLine) (lv : vss.length = src.length) (hz : IsZg s.heap z TI TO f0 f1) (hf : f0 = .none ∨ ∃ a : Addr, f0 = rawInt a)
    (hTI : IsSq s.heap TI (src.map fun p => Value.ref p.it)) (hTO : ∃ ys, IsSq s.heap TO ys ∧ ys.length = src.length) (hit : ∀ (j : Nat) p, src[j]? = some p → ItAt s.heap p i) (hl : ∀ (j : Nat) p, src[j]? = some p → ∃ a, vss[j]? = some a ∧ LAt s.heap p a)
    (hQ : ∀ xs h' f0' f1', Its vss i xs → xs.length = src.length → IsZg h' z TI TO f0' f1' → (f0' = .none ∨ ∃ a : Addr, f0' = rawInt a) → (∃ ys, IsSq h' TO ys ∧ ys.length = src.length) → (∀ (j : Nat) p, src[j]? = some p → ItAt h' p (i + 1)) → IsSq h' s.heap.objs.size xs → h'.objs.size = s.heap.objs.size + 1 →
      (∀ c o, c ≠ z → c ≠ TO → (∀ p ∈ src, c ≠ p.it) → s.heap.get? c = some o → h'.get? c = some o) → Q (.ref s.heap.objs.size) { s with heap := h' })
    (hE : ∀ h' e, (∃ a ∈ vss, a[i]? = none) → (∀ c o, c ≠ z → c ≠ TO → (∀ p ∈ src, c ≠ p.it) → s.heap.get? c = some o → h'.get? c = some o) → (∃ o, h'.get? e = some o ∧ o.cls = .type "StopIteration") → E (.ref e) { s with heap := h' }) :
    wpAny (model prog w) A (Builtin.«zip.__next__» ⟨[.ref z], []⟩) (fun fin s' => ∃ v, fin = .done (.ret v) ∧ Q v s') E s := by
  obtain ⟨hp, gg, dd, tk, os⟩ := s
  simp only at hz hTI hTO hit hl hQ hE
  show wpAny _ _ (field (.ref z) 2 >>= _) _ _ _
  refine wpAny_bind (wpAny_field hz rfl (x := .bool false) rfl ?_)
  show wpAny _ _ (field (.ref z) 3 >>= _) _ _ _
  refine wpAny_bind (wpAny_field hz rfl (x := .ref TI) rfl ?_)
  refine wpAny_bind (wpAny_seqItems hTI rfl ?_)
  have hne : ((src.map fun p => Value.ref p.it).toArray.isEmpty) = false := by
    cases src with
    | nil => exact absurd rfl hn
    | cons a r => rfl
  simp only [hne]
  show wpAny _ _ (Builtin.SmallTypes.ownedTupleIsFree (.ref z) >>= _) _ _ _
  refine wpAny_bind (zip_free hz hf fun b h1 g1 z1 s1 => ?_)
  have st0 : ZSt src vss z TI TO f0 g1 i hp 0 h1 := ⟨z1, fun j p e => by
    rw [if_neg (Nat.not_lt_zero _)]
    exact (hit j p e).at fun o eo => s1.extBut _ _ (D.iz p (List.mem_of_getElem? e)) eo, s1.1, fun c o h1 _ _ eo => s1.extBut _ _ h1 eo⟩
  obtain ⟨ys0, hTO, ly0⟩ := hTO
  have hTO1 : IsSq h1 TO ys0 := s1.extBut _ _ D.TOz hTO
  cases b with
  | true =>
    simp only [if_true]
    refine wpAny_bind (wpAny_rule ?_)
    refine wpAny_bind (wpAny_field z1 rfl (x := .ref TO) rfl ?_)
    refine wpAny_bind (wpAny_setField_rec z1 (by simp) fun h2 z2 s2 => ?_)
    have st1 : ZSt src vss z TI TO .ellipsis g1 i hp 0 h2 := ⟨z2, fun j p e => (st0.it j p e).at fun o eo => s2.extBut _ _ (D.iz p (List.mem_of_getElem? e)) eo, s2.1.trans st0.sz, fun c o c1 c2 c3 eo => s2.extBut _ _ c1 (st0.kp c o c1 c2 c3 eo)⟩
    have hTO2 : IsSq h2 TO ys0 := s2.extBut _ _ D.TOz hTO1
    refine wpAny_bind ?_
    refine wpAny_forIn_list _ (fun rest b s' => b.1 = none ∧ ∃ (k : Nat) (h : Heap) (xs ys : List Value), s' = ⟨h, gg, dd, tk, os⟩ ∧ k ≤ src.length ∧ rest = ((src.map fun p => Value.ref p.it).zipIdx).drop k ∧ ZSt src vss z TI TO .ellipsis g1 i hp k h ∧ xs.length = k ∧ Its vss i xs ∧ IsSq h TO (xs ++ ys) ∧ (xs ++ ys).length = src.length) _ ?turn ?fin _ _ ?init
    case init =>
      exact ⟨rfl, 0, h2, [], ys0, rfl, Nat.zero_le _, by simp, st1, rfl, fun j hj => absurd hj (Nat.not_lt_zero _), hTO2, ly0⟩
    case turn =>
      rintro ⟨it, k'⟩ rest b s' ⟨hb, k, h, xs, ys, rfl, hk, hr, st, lx, its, hT, lT⟩
      have hlt : k < src.length := by
        rcases Nat.lt_or_ge k src.length with q | q
        · exact q
        · rw [List.drop_of_length_le (by simpa using q)] at hr; cases hr
      rw [List.drop_eq_getElem_cons (by simpa using hlt)] at hr
      injection hr with hx hrest
      have hk' : k' = k := by have := congrArg Prod.snd hx; simpa using this
      have hit' : it = .ref src[k].it := by have := congrArg Prod.fst hx; simpa using this
      subst hk' hit'
      have e : src[k']? = some src[k'] := List.getElem?_eq_getElem hlt
      have m := List.mem_of_getElem? e
      obtain ⟨a, ha, la⟩ := st.ls D hl e
      have hi0 := st.it k' _ e
      rw [if_neg (Nat.lt_irrefl _)] at hi0
      refine wpAny_bind (wpAny_onRaise ?_)
      show wpAny _ _ (Builtin.SmallTypes.nextOf (.ref _) >>= _) _ _ _
      cases hx0 : a[i]? with
      | none =>
        refine wpAny_bind (nx_end (s := ⟨h, gg, dd, tk, os⟩) hh hi0 la hx0 fun h3 e3 s3 he => ?_)
        obtain ⟨oe, hoe, hce⟩ := he
        have z3 : IsZg h3 z TI TO .ellipsis g1 := s3 _ _ (D.iz _ m).symm st.rc
        have hez : e3 ≠ z := fun x => by subst x; rw [z3] at hoe; cases hoe; simp at hce
        refine wpAny_setField_rec z3 (by simp) fun h4 _ s4 => ?_
        exact hE h4 e3 ⟨a, List.mem_of_getElem? ha, hx0⟩ (fun c o c1 c2 c3 eo => s4.extBut _ _ c1 (s3 _ _ (c3 _ m) (st.kp c o c1 c2 c3 eo))) ⟨oe, s4.extBut _ _ hez hoe, hce⟩
      | some x =>
        refine wpAny_bind (nx_item (s := ⟨h, gg, dd, tk, os⟩) hi0 la hx0 fun h3 hi3 s3 => wpAny_pure ?_)
        have st3 := st.step D e hi3 s3
        have hT3 : IsSq h3 TO (xs ++ ys) := s3.extBut _ _ (D.iO _ m).symm hT
        refine wpAny_bind (wpAny_seqItems (s := ⟨h3, gg, dd, tk, os⟩) hT3 rfl ?_)
        refine wpAny_bind (wpAny_updateSeq (s := ⟨h3, gg, dd, tk, os⟩) hT3 rfl ?_)
        refine wpAny_bind (wpAny_letGo (wpAny_pure ?_))
        have s4 : Heap.SameBut TO h3 (h3.update TO (·.mapSeq (·.setIfInBounds k' x))) := Heap.SameBut.update ..
        obtain ⟨y, ys', hys⟩ : ∃ y ys', ys = y :: ys' := by
          cases ys with
          | nil => simp at lT; omega
          | cons y ys' => exact ⟨y, ys', rfl⟩
        subst hys
        have hT4 : IsSq (h3.update TO (·.mapSeq (·.setIfInBounds k' x))) TO ((xs ++ [x]) ++ ys') := by
          unfold IsSq
          rw [Heap.get?_update_self _ hT3 rfl]
          simp [Obj.mapSeq, ← lx]
        exact ⟨rfl, k' + 1, _, xs ++ [x], ys', rfl, hlt, hrest, st3.out D s4, by simp [lx], its.snoc (by rw [lx]; exact ha) hx0, hT4, by simpa using lT⟩
    case fin =>
      rintro ⟨b1, b2⟩ s' ⟨hb, k, h, xs, ys, rfl, hk, hr, st, lx, its, hT, lT⟩
      have hk1 : k = src.length := by
        rcases Nat.lt_or_ge k src.length with q | q
        · rw [List.drop_eq_getElem_cons (by simpa using q)] at hr; cases hr
        · omega
      subst hk1
      have hy : ys = [] := by
        rw [List.length_append, lx] at lT
        exact List.eq_nil_of_length_eq_zero (by omega)
      subst hy
      rw [List.append_nil] at hT
      simp only at hb
      subst hb
      refine wpAny_bind (wpAny_seqItems (s := ⟨h, gg, dd, tk, os⟩) hT rfl ?_)
      refine wpAny_bind (wpAny_newTuple ?_ (by simpa [lx] using hsz))
      have hzlt : z < h.objs.size := Heap.lt_size st.rc
      show wpAny _ _ (Builtin.SmallTypes.ownedTupleHandOut (.ref z) (.ref h.objs.size) >>= _) _ _ _
      refine wpAny_bind ?_
      unfold Builtin.SmallTypes.ownedTupleHandOut
      have z6 : IsZg (h.push { cls := .type "tuple", data := .seq xs.toArray }) z TI TO .ellipsis g1 := Heap.get?_push_of_some _ st.rc
      refine wpAny_bind (wpAny_setField_rec z6 (by simp) fun h7 z7 s7 => ?_)
      replace z7 : IsZg h7 z TI TO (rawInt h.objs.size) g1 := z7
      refine wpAny_setField_rec z7 (by simp) fun h8 z8 s8 => ?_
      replace z8 : IsZg h8 z TI TO (rawInt h.objs.size) false := z8
      have up : ∀ c o, c ≠ z → h.get? c = some o → h8.get? c = some o := fun c o c1 eo => s8.extBut _ _ c1 (s7.extBut _ _ c1 (Heap.get?_push_of_some _ eo))
      have T8 : IsSq h8 h.objs.size xs := s8.extBut _ _ (Nat.ne_of_gt hzlt) (s7.extBut _ _ (Nat.ne_of_gt hzlt) (Heap.get?_push_size _ rfl))
      have sz8 : h8.objs.size = h.objs.size + 1 := by rw [s8.1, s7.1, Heap.size_push]
      rw [st.sz] at z8 T8 sz8
      refine wpAny_pure ⟨_, rfl, ?_⟩
      show Q (.ref h.objs.size) _
      rw [st.sz]
      exact hQ xs h8 _ _ its lx z8 (.inr ⟨_, rfl⟩) ⟨xs, up _ _ D.TOz hT, lx⟩ (fun j p ej => by
        have := st.it j p ej
        rw [if_pos (List.getElem?_eq_some_iff.mp ej).1] at this
        exact this.at fun o eo => up _ o (D.iz p (List.mem_of_getElem? ej)) eo) T8 sz8 fun c o c1 c2 c3 eo => up c o c1 (st.kp c o c1 c2 c3 eo)
  | false =>
    simp only [Bool.false_eq_true, if_false]
    rw [← Array.forIn_toList]
    refine wpAny_bind ?_
    refine wpAny_forIn_list _ (fun rest b s' => b.1 = none ∧ ∃ (k : Nat) (h : Heap) (xs : List Value), s' = ⟨h, gg, dd, tk, os⟩ ∧ k ≤ src.length ∧ rest = (src.map fun p => Value.ref p.it).drop k ∧ ZSt src vss z TI TO f0 g1 i hp k h ∧ xs.length = k ∧ Its vss i xs ∧ b.2 = xs.toArray ∧ IsSq h TO ys0) _ ?turn ?fin _ _ ?init
    case init =>
      exact ⟨rfl, 0, h1, [], rfl, Nat.zero_le _, by simp, st0, rfl, fun j hj => absurd hj (Nat.not_lt_zero _), rfl, hTO1⟩
    case turn =>
      rintro it rest ⟨b1, b2⟩ s' ⟨hb, k, h, xs, rfl, hk, hr, st, lx, its, hb2, hT⟩
      simp only at hb hb2
      subst hb hb2
      have hlt : k < src.length := by
        rcases Nat.lt_or_ge k src.length with q | q
        · exact q
        · rw [List.drop_of_length_le (by simpa using q)] at hr; cases hr
      rw [List.drop_eq_getElem_cons (by simpa using hlt)] at hr
      injection hr with hx hrest
      have hit' : it = .ref src[k].it := by simpa using hx
      subst hit'
      have e : src[k]? = some src[k] := List.getElem?_eq_getElem hlt
      have m := List.mem_of_getElem? e
      obtain ⟨a, ha, la⟩ := st.ls D hl e
      have hi0 := st.it k _ e
      rw [if_neg (Nat.lt_irrefl _)] at hi0
      refine wpAny_bind (wpAny_holding ?_)
      show wpAny _ _ (Builtin.SmallTypes.nextOf (.ref _) >>= _) _ _ _
      cases hx0 : a[i]? with
      | none =>
        refine wpAny_bind (nx_end (s := ⟨h, gg, dd, tk, os⟩) hh hi0 la hx0 fun h3 e3 s3 he => ?_)
        exact hE h3 e3 ⟨a, List.mem_of_getElem? ha, hx0⟩ (fun c o c1 c2 c3 eo => s3 _ _ (c3 _ m) (st.kp c o c1 c2 c3 eo)) he
      | some x =>
        refine wpAny_bind (nx_item (s := ⟨h, gg, dd, tk, os⟩) hi0 la hx0 fun h3 hi3 s3 => wpAny_pure ?_)
        exact wpAny_pure ⟨rfl, k + 1, h3, xs ++ [x], rfl, hlt, hrest, st.step D e hi3 s3, by simp [lx], its.snoc (by rw [lx]; exact ha) hx0, by simp, s3.extBut _ _ (D.iO _ m).symm hT⟩
    case fin =>
      rintro ⟨b1, b2⟩ s' ⟨hb, k, h, xs, rfl, hk, hr, st, lx, its, hb2, hT⟩
      simp only at hb hb2
      subst hb hb2
      have hk1 : k = src.length := by
        rcases Nat.lt_or_ge k src.length with q | q
        · rw [List.drop_eq_getElem_cons (by simpa using q)] at hr; cases hr
        · omega
      subst hk1
      refine wpAny_bind (wpAny_newTuple ?_ (by simpa [lx] using hsz))
      refine wpAny_pure ⟨_, rfl, ?_⟩
      show Q (.ref h.objs.size) _
      rw [st.sz]
      have sz8 : (h.push { cls := .type "tuple", data := .seq xs.toArray }).objs.size = hp.objs.size + 1 := by rw [Heap.size_push, st.sz]
      refine hQ xs _ _ _ its lx (Heap.get?_push_of_some _ st.rc) hf ⟨ys0, Heap.get?_push_of_some _ hT, ly0⟩ (fun j p ej => ?_) ?_ sz8 fun c o c1 c2 c3 eo => Heap.get?_push_of_some _ (st.kp c o c1 c2 c3 eo)
      · have := st.it j p ej
        rw [if_pos (List.getElem?_eq_some_iff.mp ej).1] at this
        exact this.at fun o eo => Heap.get?_push_of_some _ eo
      · rw [← st.sz]
        exact Heap.get?_push_size _ rfl

theorem zipG_pyNext {Q : Option Value → Shared → Prop} (hh : A.handled = none) (D : ZApart src z TI TO) (hn : src ≠ []) (hsz : src.length ≤ sizeLine) (lv : vss.length = src.length) (hz : IsZg s.heap z TI TO f0 f1) (hf : f0 = .none ∨ ∃ a : Addr, f0 = rawInt a)
    (hTI : IsSq s.heap TI (src.map fun p => Value.ref p.it)) (hTO : ∃ ys, IsSq s.heap TO ys ∧ ys.length = src.length) (hit : ∀ (j : Nat) p, src[j]? = some p → ItAt s.heap p i) (hl : ∀ (j : Nat) p, src[j]? = some p → ∃ a, vss[j]? = some a ∧ LAt s.heap p a)
    (hQ : ∀ xs h' f0' f1', Its vss i xs → xs.length = src.length → IsZg h' z TI TO f0' f1' → (f0' = .none ∨ ∃ a : Addr, f0' = rawInt a) → (∃ ys, IsSq h' TO ys ∧ ys.length = src.length) → (∀ (j : Nat) p, src[j]? = some p → ItAt h' p (i + 1)) → IsSq h' s.heap.objs.size xs → h'.objs.size = s.heap.objs.size + 1 →
      (∀ c o, c ≠ z → c ≠ TO → (∀ p ∈ src, c ≠ p.it) → s.heap.get? c = some o → h'.get? c = some o) → Q (some (.ref s.heap.objs.size)) { s with heap := h' })
    (hE : ∀ h', (∃ a ∈ vss, a[i]? = none) → (∀ c o, c ≠ z → c ≠ TO → (∀ p ∈ src, c ≠ p.it) → s.heap.get? c = some o → h'.get? c = some o) → Q none { s with heap := h' }) :
    wpAny (model prog w) A (pyNext (.ref z)) Q E s := by
  have hT : s.TypeIs (.ref z) "zip" := ⟨_, hz, rfl⟩
  unfold pyNext
  refine wpAny_bind (wpAny_attempt (wpAny_callSpecial?_slot (name := Str.ofString "__next__") hT F.slot_zip_next
    (wpAny_call_entry F.slot_zip_next hT F.entry_zip_next (zipG_next hh D hn hsz lv hz hf hTI hTO hit hl (fun xs h' g0 g1 a1 a2 a3 a4 a5 a6 a7 a8 a9 => wpAny_pure (hQ xs h' g0 g1 a1 a2 a3 a4 a5 a6 a7 a8 a9)) fun h' e hx hk he => ?_) (F.args_zip_next_1 _))))
  obtain ⟨o, ho, hc⟩ := he
  refine wpAny_bind (wpAny_isInstance (T := "StopIteration") (b := true) ⟨o, ho, hc⟩ isSubtype_stop ?_)
  exact wpAny_pure (hE _ hx hk)
theorem zipG_go {tg : Expr} {u : Value} {Q : Unit → Shared → Prop} (hz : IsZg s.heap z TI TO f0 f1) (hf : f0 = .none ∨ ∃ a : Addr, f0 = rawInt a)
    (hQ : ∀ h' f0', IsZg h' z TI TO f0' f1 → (f0' = .none ∨ ∃ a : Addr, f0' = rawInt a) → Heap.SameBut z s.heap h' → Q () { s with heap := h' }) : wpAny (model prog w) A (letOwnedTupleGo tg (.ref z) u) Q E s := by
  have same : Q () s := hQ s.heap f0 hz hf ⟨rfl, fun _ _ => rfl⟩
  unfold letOwnedTupleGo
  cases tg <;> first
    | exact wpAny_pure same
    | (cases u <;> first
        | exact wpAny_pure same
        | (refine wpAny_bind (wpAny_load hz ?_)
           rename_i a
           show wpAny _ _ (if (["enumerate", "zip", "dict_itemiterator", "dict_reverseitemiterator", "odict_iterator", "itertools.zip_longest", "itertools.pairwise"].contains "zip" &&
             (#[f0, .bool f1, .bool false, .ref TI, .ref TO] : Array Value)[0]? == some (rawInt a)) = true then _ else _) Q E s
           split
           · refine wpAny_bind (wpAny_rule ?_)
             show wpAny _ _ (setField (.ref z) 0 .none) Q E s
             exact wpAny_setField_rec hz (by simp) fun h' hz' hs' => hQ h' _ hz' (.inl rfl) hs'
           · exact wpAny_pure same))
theorem zipG_iter {Q : Value → Shared → Prop} (hz : IsZg s.heap z TI TO f0 f1) (h : Q (.ref z) s) : wpAny (model prog w) A (pyIter (.ref z)) Q E s := by
  have hT : s.TypeIs (.ref z) "zip" := ⟨_, hz, rfl⟩
  refine wpAny_pyIter_slot hT F.slot_zip_iter (wpAny_call_entry F.slot_zip_iter hT F.entry_zip_iter ?_ (F.args_zip_iter_1 _))
  show wpAny _ _ (ret (.ref z)) _ _ s
  exact wpAny_pure ⟨_, rfl, "zip", _, hT, F.slot_zip_next.lookup, h⟩
end
/-! ### it is made -/
theorem typeCall_zip_n (as : List Value) : checkTypeCall "zip" ⟨as, []⟩ = pure () := by kernel_rfl
theorem newCall_zip_n (a : Value) (as : List Value) : checkBuiltinCall "zip.__new__" ⟨.type "zip" :: a :: as, []⟩ = pure () := by kernel_rfl
theorem args_object_init_n (o : Value) (as : List Value) : argsOk "object.__init__" ⟨o :: as, []⟩ := by
  unfold argsOk; rw [signature?_of (id := "object.__init__") (n := ['_', '_', 't', 'i', 'n', 'i', '_', '_']) (o := ['t', 'c', 'e', 'j', 'b', 'o']) (by kernel_rfl) F.owner_object]; kernel_rfl
abbrev Sc := Bool × Addr
def SAt (h : Heap) (p : Sc) (xs : Array Value) : Prop := if p.1 = true then h.IsList p.2 xs else h.IsTuple p.2 xs
theorem SAt.at {h h' : Heap} {p : Sc} {xs : Array Value} (x : SAt h p xs) (k : ∀ o, h.get? p.2 = some o → h'.get? p.2 = some o) : SAt h' p xs := by
  unfold SAt at *
  split
  · rename_i e; rw [if_pos e] at x; obtain ⟨o, e, r⟩ := x; exact ⟨o, k o e, r⟩
  · rename_i e; rw [if_neg e] at x; obtain ⟨o, e, r⟩ := x; exact ⟨o, k o e, r⟩
abbrev itO (p : Sc) : Obj := { cls := .type (if p.1 = true then "list_iterator" else "tuple_iterator"), data := .fields #[.ref p.2, .int 0 0] }
section
variable {prog : Program} {w : World} {A : Around} {E : Value → Shared → Prop} {s : Shared}
theorem pyIter_sc {p : Sc} {xs : Array Value} {Q : Value → Shared → Prop} (h : SAt s.heap p xs) (hQ : Q (.ref s.heap.objs.size) { s with heap := s.heap.push (itO p) }) : wpAny (model prog w) A (pyIter (.ref p.2)) Q E s := by
  unfold SAt at h
  unfold itO at hQ
  by_cases e : p.1 = true
  · rw [if_pos e] at h hQ
    exact wpAny_pyIter_list h hQ
  · rw [if_neg e] at h hQ
    exact wpAny_pyIter_tuple h hQ
theorem iterAll_sc {ls : List Sc} {Q : List Value → Shared → Prop} (hl : ∀ p ∈ ls, ∃ xs, SAt s.heap p xs)
    (hQ : ∀ h', h'.objs.size = s.heap.objs.size + ls.length → (∀ (j : Nat) p, ls[j]? = some p → h'.get? (s.heap.objs.size + j) = some (itO p)) → (∀ c o, s.heap.get? c = some o → h'.get? c = some o) → Q ((List.range ls.length).map fun j => Value.ref (s.heap.objs.size + j)) { s with heap := h' }) :
    wpAny (model prog w) A (Builtin.SmallTypes.iterAll (ls.map fun p => Value.ref p.2)) Q E s := by
  obtain ⟨hp, gg, dd, tk, os⟩ := s
  simp only at hl hQ
  unfold Builtin.SmallTypes.iterAll
  refine wpAny_bind ?_
  refine wpAny_forIn_list _ (fun rest b s' => ∃ (k : Nat) (h : Heap), s' = ⟨h, gg, dd, tk, os⟩ ∧ k ≤ ls.length ∧ rest = (ls.map fun p => Value.ref p.2).drop k ∧ b = ((List.range k).map fun j => Value.ref (hp.objs.size + j)).toArray ∧ h.objs.size = hp.objs.size + k ∧
    (∀ (j : Nat) p, j < k → ls[j]? = some p → h.get? (hp.objs.size + j) = some (itO p)) ∧ (∀ c o, hp.get? c = some o → h.get? c = some o)) _ ?turn ?fin _ _ ?init
  case init => exact ⟨0, hp, rfl, Nat.zero_le _, by simp, rfl, rfl, fun j p h => absurd h (Nat.not_lt_zero _), fun _ _ e => e⟩
  case turn =>
    rintro x rest b s' ⟨k, h, rfl, hk, hr, rfl, sz, its, kp⟩
    have hlt : k < ls.length := by
      rcases Nat.lt_or_ge k ls.length with q | q
      · exact q
      · rw [List.drop_of_length_le (by simpa using q)] at hr; cases hr
    rw [List.drop_eq_getElem_cons (by simpa using hlt)] at hr
    injection hr with hx hrest
    have hx' : x = .ref ls[k].2 := by simpa using hx
    subst hx'
    obtain ⟨xs, q⟩ := hl ls[k] (List.getElem_mem hlt)
    refine wpAny_bind (wpAny_holding (pyIter_sc (s := ⟨h, gg, dd, tk, os⟩) (q.at fun o => kp _ o) (wpAny_pure ?_)))
    refine ⟨k + 1, h.push (itO ls[k]), rfl, hlt, hrest, ?_, by rw [Heap.size_push, sz]; omega, fun j p hj e => ?_, fun c o e => Heap.get?_push_of_some _ (kp c o e)⟩
    · simp [List.range_succ, sz]
    · by_cases hjk : j = k
      · subst hjk
        have : p = ls[j] := by rw [List.getElem?_eq_getElem hlt] at e; exact (Option.some.inj e).symm
        subst this
        rw [← sz]
        exact Heap.get?_push_size _ rfl
      · exact Heap.get?_push_of_some _ (its j p (by omega) e)
  case fin =>
    rintro b s' ⟨k, h, rfl, hk, hr, rfl, sz, its, kp⟩
    have hk1 : k = ls.length := by
      rcases Nat.lt_or_ge k ls.length with q | q
      · rw [List.drop_eq_getElem_cons (by simpa using q)] at hr; cases hr
      · omega
    subst hk1
    exact wpAny_pure (hQ h sz (fun j p e => its j p (List.getElem?_eq_some_iff.mp e).1 e) kp)
end
abbrev zsOf (n : Nat) (ls : List Sc) : List Zs := ls.zipIdx.map fun p => ⟨p.1.1, p.1.2, n + p.2⟩
theorem meets_zipN_new (a : Sc) (r : List Sc) (hsz : (a :: r).length ≤ sizeLine) : Meets (Builtin.«zip.__new__» ⟨.type "zip" :: (a :: r).map fun p => Value.ref p.2, []⟩) (fun _ R s => (∀ p ∈ a :: r, ∃ xs, SAt s.heap p xs) ∧
      ∀ h', h'.objs.size = s.heap.objs.size + (a :: r).length + 3 → (∀ (j : Nat) p, (a :: r)[j]? = some p → h'.get? (s.heap.objs.size + j) = some (itO p)) → (∀ c o, s.heap.get? c = some o → h'.get? c = some o) →
        IsSq h' (s.heap.objs.size + (a :: r).length) ((List.range (a :: r).length).map fun j => Value.ref (s.heap.objs.size + j)) → IsSq h' (s.heap.objs.size + (a :: r).length + 1) (List.replicate (a :: r).length .none) →
        IsZg h' (s.heap.objs.size + (a :: r).length + 2) (s.heap.objs.size + (a :: r).length) (s.heap.objs.size + (a :: r).length + 1) .none false → R (.ok (.ret (.ref (s.heap.objs.size + (a :: r).length + 2)))) { s with heap := h' }) :=
  .of_wp fun prog w A R s h => by
    obtain ⟨hp, g, d, tk, os⟩ := s; obtain ⟨hl, h⟩ := h
    have hsub := sub_zip
    have hl' : ∀ p ∈ a :: r, ∃ xs, SAt (Shared.heap ⟨hp, g, d, tk, os⟩) p xs := hl
    wp_walk using iterAll_sc (ls := a :: r) hl'
    intro h1 sz its kp
    simp only at sz its kp
    have hN : (List.map (fun x => Value.none) (List.map (fun j => Value.ref (hp.objs.size + j)) (List.range (a :: r).length))) = List.replicate (a :: r).length Value.none := by
      rw [List.map_map]
      apply List.ext_getElem
      · simp
      · intro n h1 h2; simp
    show wpAny _ _ (newTuple (List.map (fun j => Value.ref (hp.objs.size + j)) (List.range (a :: r).length)) >>= fun x => newTuple (List.map (fun x => Value.none) (List.map (fun j => Value.ref (hp.objs.size + j)) (List.range (a :: r).length))) >>= fun y => Builtin.SmallTypes.newRecord (Value.type "zip") (Builtin.SmallTypes.ownedTupleFields ++ [Value.bool false, x, y]) >>= fun v => ret v) _ _ _
    rw [hN]
    refine wpAny_bind (wpAny_newTuple ?_ (by simpa using hsz))
    refine wpAny_bind (wpAny_newTuple ?_ (by simpa using hsz))
    show wpAny (model prog w) A.in1 (newObj (.type "zip") (.fields #[Value.none, Value.bool false, Value.bool false, Value.ref h1.objs.size, Value.ref (h1.push { cls := .type "tuple", data := .seq ((List.map (fun j => Value.ref (hp.objs.size + j)) (List.range (a :: r).length))).toArray }).objs.size]) >>= fun v => ret v) _ _ _
    refine wpAny_bind (wpAny_newObj_type (wpAny_pure ⟨_, rfl, ?_⟩) (by size_fits))
    have z1 : (h1.push { cls := .type "tuple", data := .seq ((List.map (fun j => Value.ref (hp.objs.size + j)) (List.range (a :: r).length))).toArray }).objs.size = hp.objs.size + (a :: r).length + 1 := by rw [Heap.size_push, sz]
    generalize hT : (List.map (fun j => Value.ref (hp.objs.size + j)) (List.range (a :: r).length)) = T at *
    have z2 : ((h1.push { cls := .type "tuple", data := .seq T.toArray }).push { cls := .type "tuple", data := .seq (List.replicate (a :: r).length Value.none).toArray }).objs.size = hp.objs.size + (a :: r).length + 2 := by rw [Heap.size_push, z1]
    have up : ∀ {o1 o2 o3 : Obj} {c : Addr} {o : Obj}, h1.get? c = some o → (((h1.push o1).push o2).push o3).get? c = some o := fun e => Heap.get?_push_of_some _ (Heap.get?_push_of_some _ (Heap.get?_push_of_some _ e))
    show R (.ok (.ret (.ref ((h1.push { cls := .type "tuple", data := .seq T.toArray }).push { cls := .type "tuple", data := .seq (List.replicate (a :: r).length Value.none).toArray }).objs.size))) _
    rw [z2]
    refine h _ (by rw [Heap.size_push, z2]) (fun j p e => up (its j p e)) (fun c o e => up (kp c o e)) ?_ ?_ ?_
    · have := Heap.get?_push_size h1 (o := { cls := .type "tuple", data := .seq T.toArray }) rfl
      rw [sz] at this
      exact Heap.get?_push_of_some _ (Heap.get?_push_of_some _ this)
    · have := Heap.get?_push_size (h1.push { cls := .type "tuple", data := .seq T.toArray }) (o := { cls := .type "tuple", data := .seq (List.replicate (a :: r).length Value.none).toArray }) rfl
      rw [z1] at this
      exact Heap.get?_push_of_some _ this
    · have := Heap.get?_push_size ((h1.push { cls := .type "tuple", data := .seq T.toArray }).push { cls := .type "tuple", data := .seq (List.replicate (a :: r).length Value.none).toArray }) (o := { cls := .type "zip", data := .fields #[Value.none, Value.bool false, Value.bool false, Value.ref h1.objs.size, Value.ref (h1.push { cls := .type "tuple", data := .seq T.toArray }).objs.size] }) rfl
      rw [z2] at this
      exact this.trans (by rw [z1, sz])
end QL

set_option Elab.async false
set_option linter.all false
set_option maxRecDepth 100000
set_option maxHeartbeats 1000000
namespace QL
open PySem PySem.Spec PyProof.Rows L2
open Sem (wp)
theorem pick {α β : Type} {P : α → β → Prop} : ∀ {l : List α}, (∀ p ∈ l, ∃ a, P p a) → ∃ as : List β, as.length = l.length ∧ ∀ (j : Nat) p, l[j]? = some p → ∃ a, as[j]? = some a ∧ P p a
  | [], _ => ⟨[], rfl, fun j p e => by simp at e⟩
  | p :: l, h => by
    obtain ⟨a, ha⟩ := h p (by simp)
    obtain ⟨as, e, r⟩ := pick (l := l) fun q hq => h q (List.mem_cons_of_mem _ hq)
    refine ⟨a :: as, by simp [e], fun j q ej => ?_⟩
    cases j with
    | zero => simp at ej; subst ej; exact ⟨a, rfl, ha⟩
    | succ j => exact r j q (by simpa using ej)
theorem pickN {β : Type} {R : Nat → β → Prop} : ∀ n : Nat, (∀ j, j < n → ∃ a, R j a) → ∃ as : List β, as.length = n ∧ ∀ j, j < n → ∃ a, as[j]? = some a ∧ R j a
  | 0, _ => ⟨[], rfl, fun j h => absurd h (Nat.not_lt_zero _)⟩
  | n + 1, h => by
    obtain ⟨as, e, r⟩ := pickN n fun j hj => h j (Nat.lt_succ_of_lt hj)
    obtain ⟨a, ha⟩ := h n (Nat.lt_succ_self n)
    refine ⟨as ++ [a], by simp [e], fun j hj => ?_⟩
    by_cases ej : j = n
    · subst ej; exact ⟨a, by rw [← e]; simp, ha⟩
    · obtain ⟨b, h1, h2⟩ := r j (by omega)
      exact ⟨b, by rw [List.getElem?_append_left (by omega)]; exact h1, h2⟩
theorem vals_of : ∀ {ws : List V} {us : List Value}, ws.length = us.length → (∀ (j : Nat) w u, ws[j]? = some w → us[j]? = some u → RelV w u) → Vals ws us
  | [], [], _, _ => .nil
  | w :: ws, u :: us, e, h => .cons (h 0 w u rfl rfl) (vals_of (by simpa using e) fun j w u h1 h2 => h (j + 1) w u (by simpa using h1) (by simpa using h2))
  | [], _ :: _, e, _ => by simp at e
  | _ :: _, [], e, _ => by simp at e
theorem vals_getV : ∀ {vs : List V} {us : List Value} {i : Nat} {u : Value}, Vals vs us → us[i]? = some u → ∃ v, vs[i]? = some v ∧ RelV v u
  | _, _, _, _, .nil, e => by simp at e
  | _, _, 0, u, .cons r _, e => by simp at e; subst e; exact ⟨_, rfl, r⟩
  | _, _, i + 1, u, .cons _ t, e => by
    obtain ⟨v, h1, h2⟩ := vals_getV t (i := i) (by simpa using e)
    exact ⟨v, by simpa using h1, h2⟩
section
variable {prog : Program} {w : World} {A : Around} {E : Value → Shared → Prop} {s : Shared}
theorem call_zipN {a : Sc} {r : List Sc} {Q : Value → Shared → Prop} (hsz : (a :: r).length ≤ sizeLine) (hl : ∀ p ∈ a :: r, ∃ xs, SAt s.heap p xs)
    (h : ∀ h', h'.objs.size = s.heap.objs.size + (a :: r).length + 3 → (∀ (j : Nat) p, (a :: r)[j]? = some p → h'.get? (s.heap.objs.size + j) = some (itO p)) → (∀ c o, s.heap.get? c = some o → h'.get? c = some o) →
        IsSq h' (s.heap.objs.size + (a :: r).length) ((List.range (a :: r).length).map fun j => Value.ref (s.heap.objs.size + j)) → IsSq h' (s.heap.objs.size + (a :: r).length + 1) (List.replicate (a :: r).length .none) →
        IsZg h' (s.heap.objs.size + (a :: r).length + 2) (s.heap.objs.size + (a :: r).length) (s.heap.objs.size + (a :: r).length + 1) .none false → Q (.ref (s.heap.objs.size + (a :: r).length + 2)) { s with heap := h' }) :
    wpAny (model prog w) A (call (.type "zip") ((a :: r).map fun p => Value.ref p.2)) Q E s := by
  refine callType_new F.called_zip (by decide) (typeCall_zip_n _) (newCall_zip_n _ _) (fun obj => args_object_init_n obj _) F.entry_zip_new (meets_zipN_new a r hsz) ⟨hl, fun h' h1 h2 h3 h4 h5 h6 => ?_⟩
  exact ⟨⟨_, h6, rfl⟩, h h' h1 h2 h3 h4 h5 h6⟩
end
def SrcV (K : PySem.W.Frag) (H : Hp) (p : Sc) (vs : List V) : Prop := if p.1 = true then SqL K H p.2 vs else SqT K H p.2 vs
def ItzG (K : PySem.W.Frag) (ls : List Sc) : It :=
  ⟨fun i H => ∀ p ∈ ls, ∃ vs, SrcV K H p vs ∧ i < vs.length,
    fun i H v H' => ∃ T xs, v = .ref T ∧ H T = none ∧ H' = upd H T (.tup xs) ∧ xs.length = ls.length ∧ ∀ (j : Nat) p vs, ls[j]? = some p → SrcV K H p vs → ∃ x, vs[i]? = some x ∧ xs[j]? = some x,
    fun i H => (∀ p ∈ ls, ∃ vs, SrcV K H p vs) ∧ ∃ p ∈ ls, ∃ vs, SrcV K H p vs ∧ vs.length ≤ i⟩
section
variable {X : Cx} {pins : List (Addr × Obj)} {σ : L2.St} {H : Hp} {s : Shared}
theorem srcV_inj (I : Inv X pins σ H s) {p : Sc} {xs ys : List V} (h : SrcV X.K H p xs) (h' : SrcV X.K H p ys) : xs = ys := by
  unfold SrcV at h h'
  split at h
  · rename_i e; rw [if_pos e] at h'; exact I.list_inj h h'
  · rename_i e; rw [if_neg e] at h'; exact I.tuple_inj h h'
theorem srcV_at (I : Inv X pins σ H s) {p : Sc} {xs : List V} (h : SrcV X.K H p xs) : ∃ its : List Value, Vals xs its ∧ SAt s.heap p its.toArray := by
  unfold SrcV at h
  unfold SAt
  split at h
  · rename_i e; simp only [e, if_true]; obtain ⟨its, r, p, _⟩ := I.list h; exact ⟨its, r, p.isList⟩
  · rename_i e; simp only [e, if_false]; obtain ⟨its, r, p, _⟩ := I.tuple h; exact ⟨its, r, p⟩
end
theorem lat_of {h : Heap} {p : Zs} {a : Array Value} (x : SAt h (p.b, p.l) a) : LAt h p a := x
theorem turn_zipG {P : Program} {w : World} {K : PySem.W.Frag} {tg : Expr} {src : List Zs} {z TI TO : Addr} (D : ZApart src z TI TO) (hn : src ≠ []) (hsz : src.length ≤ sizeLine) :
    Turn P w K tg (ItzG K (src.map fun p => (p.b, p.l))) (z :: TI :: TO :: src.map Zs.it) z (fun i h => ∃ f0 f1, IsZg h z TI TO f0 f1 ∧ (f0 = .none ∨ ∃ a : Addr, f0 = rawInt a) ∧ IsSq h TI (src.map fun p => Value.ref p.it) ∧ (∃ ys, IsSq h TO ys ∧ ys.length = src.length) ∧ ∀ (j : Nat) p, src[j]? = some p → ItAt h p i) where
  mem := by simp
  obj := fun i h st c hc => by
    obtain ⟨f0, f1, hz, hf, hTI, ⟨ys, hTO, _⟩, hi⟩ := st
    simp only [List.mem_cons, List.mem_map] at hc
    rcases hc with q | q | q | ⟨p, hp, q⟩
    · rw [q]; exact ⟨_, hz, fun v q => nomatch q⟩
    · rw [q]; exact ⟨_, hTI, fun v q => nomatch q⟩
    · rw [q]; exact ⟨_, hTO, fun v q => nomatch q⟩
    · obtain ⟨j, hj⟩ := List.mem_iff_getElem?.mp hp
      rw [← q]
      exact (hi j p hj).obj
  keep := fun i h h' st k => by
    obtain ⟨f0, f1, hz, hf, hTI, ⟨ys, hTO, l⟩, hi⟩ := st
    exact ⟨f0, f1, k z (by simp) _ hz, hf, k TI (by simp) _ hTI, ⟨ys, k TO (by simp) _ hTO, l⟩, fun j p e => (hi j p e).at fun o q => k p.it (by simp only [List.mem_cons, List.mem_map]; exact .inr (.inr (.inr ⟨p, List.mem_of_getElem? e, rfl⟩))) o q⟩
  item := by
    intro X hP hw hK hc i pins s σ H E I hf0 st hg
    subst hP hw hK
    obtain ⟨f0, f1, hz, hf, hTI, hTO, hi⟩ := st
    have hg' : ∀ p ∈ src, ∃ a : Array Value, LAt s.heap p a ∧ ∃ vs, SrcV X.K H (p.b, p.l) vs ∧ Vals vs a.toList := fun p hp => by
      obtain ⟨vs, hv, _⟩ := hg (p.b, p.l) (List.mem_map.mpr ⟨p, hp, rfl⟩)
      obtain ⟨its, r, q⟩ := srcV_at I hv
      exact ⟨its.toArray, q, vs, hv, by simpa using r⟩
    obtain ⟨vss, lv, hvs⟩ := pick hg'
    have hzl : z < s.heap.objs.size := Heap.lt_size hz
    have hIl : TI < s.heap.objs.size := Heap.lt_size hTI
    have hOl : TO < s.heap.objs.size := by obtain ⟨ys, e, _⟩ := hTO; exact Heap.lt_size e
    have hil : ∀ p ∈ src, p.it < s.heap.objs.size := fun p hp => by
      obtain ⟨j, hj⟩ := List.mem_iff_getElem?.mp hp
      exact (hi j p hj).lt
    refine zipG_pyNext (I.ok.hd hc) D hn hsz lv hz hf hTI hTO hi (fun j p e => by obtain ⟨a, h1, h2, _⟩ := hvs j p e; exact ⟨a, h1, h2⟩) (fun us h' g0 g1 its lu z' hf' TO' hi' hT hs' hk => ?_) (fun h' hx _ => ?_)
    · refine ⟨_, rfl, zipG_go (s := { s with heap := h' }) z' hf' fun h'' g0' z'' hf'' sb => ?_⟩
      have hw : ∀ j, j < src.length → ∃ w : V, ∃ u p vs, us[j]? = some u ∧ RelV w u ∧ src[j]? = some p ∧ SrcV X.K H (p.b, p.l) vs ∧ vs[i]? = some w := fun j hj => by
        obtain ⟨a, u, h1, h2, h3⟩ := its j (by omega)
        obtain ⟨a', h1', _, vs, h5, h6⟩ := hvs j src[j] (List.getElem?_eq_getElem hj)
        rw [h1] at h1'
        cases h1'
        obtain ⟨v, h7, h8⟩ := vals_getV h6 (i := i) (u := u) (by simpa using h2)
        exact ⟨v, u, src[j], vs, h3, h8, List.getElem?_eq_getElem hj, h5, h7⟩
      obtain ⟨xs, lx, hx⟩ := pickN src.length hw
      have rv : Vals xs us := vals_of (by omega) fun j w u h1 h2 => by
        have hj : j < src.length := by
          have := (List.getElem?_eq_some_iff.mp h1).1
          omega
        obtain ⟨w', e1, u', p, vs, e2, r, _⟩ := hx j hj
        rw [h1] at e1
        cases e1
        rw [h2] at e2
        cases e2
        exact r
      have hT2 : IsSq h'' s.heap.objs.size us := (sb.2 _ (Nat.ne_of_gt hzl)).trans hT
      have new : ObjOk X.prog X.w (upd H s.heap.objs.size (.tup xs)) h'' s.heap.objs.size (.tup xs) :=
        ⟨by show xs.length ≤ sizeLine; omega, us, rv, ⟨_, hT2, rfl, _, rfl⟩⟩
      have I1 : Inv X pins σ (upd H s.heap.objs.size (.tup xs)) { s with heap := h'' } :=
        I.turnedNew (t' := s.toks) (ch := z :: TI :: TO :: src.map Zs.it) (fun c o hb q => (sb.2 c (fun q' => hb (by simp [q']))).trans (hk c o (fun q' => hb (by simp [q'])) (fun q' => hb (by simp [q'])) (fun p hp q' => hb (by simp only [List.mem_cons, List.mem_map]; exact .inr (.inr (.inr ⟨p, hp, q'.symm⟩)))) q)) hf0 (Nat.le_refl _) new
      refine ⟨.ref s.heap.objs.size, _, I1, rfl, ⟨_, xs, rfl, I.hok.fresh (Nat.le_refl _), rfl, by simp [lx], fun j p vs e hv => ?_⟩, ⟨g0', g1, z'', hf'', ?_, ?_, ?_⟩, fun c hcm => ?_⟩
      · rw [List.getElem?_map, Option.map_eq_some_iff] at e
        obtain ⟨q, e, rfl⟩ := e
        have hj := (List.getElem?_eq_some_iff.mp e).1
        obtain ⟨w', e1, u', p, vs', e2, r, e3, e4, e5⟩ := hx j hj
        rw [e] at e3
        cases e3
        rw [srcV_inj I hv e4]
        exact ⟨w', e5, e1⟩
      · exact (sb.2 _ D.TIz).trans (hk _ _ D.TIz D.TITO (fun p hp q => D.iI p hp q.symm) hTI)
      · obtain ⟨ys, q, l⟩ := TO'
        exact ⟨ys, (sb.2 _ D.TOz).trans q, l⟩
      · exact fun j p e => (hi' j p e).at fun o q => (sb.2 _ (D.iz p (List.mem_of_getElem? e))).trans q
      · have hlt : c < s.heap.objs.size := by
          simp only [List.mem_cons, List.mem_map] at hcm
          rcases hcm with q | q | q | ⟨p, hp, q⟩
          · rw [q]; exact hzl
          · rw [q]; exact hIl
          · rw [q]; exact hOl
          · rw [← q]; exact hil p hp
        rw [upd_ne (Nat.ne_of_lt hlt)]
        exact (hf0 c hcm).1
    · exfalso
      obtain ⟨a, ha, hna⟩ := hx
      obtain ⟨j, hj⟩ := List.mem_iff_getElem?.mp ha
      have hjl : j < src.length := by
        have := (List.getElem?_eq_some_iff.mp hj).1
        omega
      obtain ⟨a', h1, _, vs, h5, h6⟩ := hvs j src[j] (List.getElem?_eq_getElem hjl)
      rw [hj] at h1
      cases h1
      obtain ⟨vs2, h7, h8⟩ := hg (src[j].b, src[j].l) (List.mem_map.mpr ⟨_, List.getElem_mem hjl, rfl⟩)
      rw [srcV_inj I h7 h5] at h8
      have := h6.length
      have : i < a.size := by simp at this; omega
      rw [Array.getElem?_eq_getElem this] at hna
      cases hna
  done := by
    intro X hP hw hK hc i pins s σ H E I hf0 st hg
    subst hP hw hK
    obtain ⟨f0, f1, hz, hf, hTI, hTO, hi⟩ := st
    have hg' : ∀ p ∈ src, ∃ a : Array Value, LAt s.heap p a ∧ ∃ vs, SrcV X.K H (p.b, p.l) vs ∧ Vals vs a.toList := fun p hp => by
      obtain ⟨vs, hv⟩ := hg.1 (p.b, p.l) (List.mem_map.mpr ⟨p, hp, rfl⟩)
      obtain ⟨its, r, q⟩ := srcV_at I hv
      exact ⟨its.toArray, q, vs, hv, by simpa using r⟩
    obtain ⟨vss, lv, hvs⟩ := pick hg'
    refine zipG_pyNext (I.ok.hd hc) D hn hsz lv hz hf hTI hTO hi (fun j p e => by obtain ⟨a, h1, h2, _⟩ := hvs j p e; exact ⟨a, h1, h2⟩) (fun us h' g0 g1 its lu z' hf' TO' hi' hT hs' hk => ?_) (fun h' hx hk => ?_)
    · exfalso
      obtain ⟨_, p, hp, vs, hv, hle⟩ := hg
      rw [List.mem_map] at hp
      obtain ⟨q, hq, rfl⟩ := hp
      obtain ⟨j, hj⟩ := List.mem_iff_getElem?.mp hq
      have hjl := (List.getElem?_eq_some_iff.mp hj).1
      obtain ⟨a, u, h1, h2, h3⟩ := its j (by omega)
      obtain ⟨a', h1', _, vs', h5, h6⟩ := hvs j q hj
      rw [h1] at h1'
      cases h1'
      rw [srcV_inj I hv h5] at hle
      have := h6.length
      have hlt := (Array.getElem?_eq_some_iff.mp h2).1
      simp at this
      omega
    · exact ⟨rfl, I.turnedL (t' := s.toks) (ch := z :: TI :: TO :: src.map Zs.it) (fun c o hb q => hk c o (fun q' => hb (by simp [q'])) (fun q' => hb (by simp [q'])) (fun p hp q' => hb (by simp only [List.mem_cons, List.mem_map]; exact .inr (.inr (.inr ⟨p, hp, q'.symm⟩)))) q) hf0⟩
  self := fun A i s Q E st h => by
    obtain ⟨f0, f1, hz, _⟩ := st
    exact zipG_iter hz h

theorem zsOf_get {n : Nat} {ls : List Sc} {j : Nat} {q : Zs} (e : (zsOf n ls)[j]? = some q) : ∃ p, ls[j]? = some p ∧ q = ⟨p.1, p.2, n + j⟩ := by
  unfold zsOf at e
  rw [List.getElem?_map, Option.map_eq_some_iff] at e
  obtain ⟨a, h1, rfl⟩ := e
  rw [List.getElem?_zipIdx, Option.map_eq_some_iff] at h1
  obtain ⟨p, h2, rfl⟩ := h1
  exact ⟨p, h2, by simp⟩
theorem zsOf_len {n : Nat} {ls : List Sc} : (zsOf n ls).length = ls.length := by simp [zsOf]
theorem zsOf_sc {n : Nat} {ls : List Sc} : (zsOf n ls).map (fun p => (p.b, p.l)) = ls := by
  apply List.ext_getElem
  · simp [zsOf]
  · intro j h1 h2; simp [zsOf]
theorem zsOf_it {n : Nat} {ls : List Sc} : (zsOf n ls).map Zs.it = (List.range ls.length).map (n + ·) := by
  apply List.ext_getElem
  · simp [zsOf]
  · intro j h1 h2; simp [zsOf]
theorem zsOf_ref {n : Nat} {ls : List Sc} : (zsOf n ls).map (fun p => Value.ref p.it) = (List.range ls.length).map fun j => Value.ref (n + j) := by
  apply List.ext_getElem
  · simp [zsOf]
  · intro j h1 h2; simp [zsOf]
section
variable {X : Cx} {pins : List (Addr × Obj)} {σ : L2.St} {H : Hp} {s : Shared}
theorem srcV_lt (I : Inv X pins σ H s) {p : Sc} {vs : List V} (h : SrcV X.K H p vs) : p.2 < s.heap.objs.size := by
  obtain ⟨its, _, q⟩ := srcV_at I h
  unfold SAt at q
  split at q
  · obtain ⟨o, e, _⟩ := q; exact Heap.lt_size e
  · obtain ⟨o, e, _⟩ := q; exact Heap.lt_size e
/-- zip(..) has come: its walk -/
theorem zip_made {tg : Expr} {R : It → Hp → Prop} {ls : List Sc} (I : Inv X pins σ H s) (hn : ls ≠ []) (hsz : ls.length ≤ sizeLine) (hl : ∀ p ∈ ls, ∃ vs, SrcV X.K H p vs) (q : R (ItzG X.K ls) H) :
    wpAny (model X.prog X.w) X.A (call (.type "zip") (ls.map fun p => Value.ref p.2)) (fun v s1 => wpAny (model X.prog X.w) X.A (pyIter v) (PIE X pins σ tg R) X.xe s1) X.xe s := by
  obtain ⟨a, r, e⟩ : ∃ a r, ls = a :: r := by
    cases ls with
    | nil => exact absurd rfl hn
    | cons a r => exact ⟨a, r, rfl⟩
  subst e
  refine call_zipN hsz (fun p hp => by obtain ⟨vs, hv⟩ := hl p hp; obtain ⟨its, _, h⟩ := srcV_at I hv; exact ⟨_, h⟩) fun h' sz its kp hTI hTO hz => zipG_iter hz ?_
  have I2 : Inv X pins σ H { s with heap := h' } := I.kept (t' := s.toks) kp
  have ltl : ∀ p ∈ a :: r, p.2 < s.heap.objs.size := fun p hp => by obtain ⟨vs, hv⟩ := hl p hp; exact srcV_lt I hv
  have hitm : ∀ p ∈ zsOf s.heap.objs.size (a :: r), s.heap.objs.size ≤ p.it ∧ s.heap.objs.size + (a :: r).length > p.it ∧ s.heap.objs.size > p.l := fun p hp => by
    obtain ⟨j, hj⟩ := List.mem_iff_getElem?.mp hp
    obtain ⟨q, h1, rfl⟩ := zsOf_get hj
    have := (List.getElem?_eq_some_iff.mp h1).1
    exact ⟨Nat.le_add_right _ _, by show s.heap.objs.size + (a :: r).length > s.heap.objs.size + j; omega, ltl q (List.mem_of_getElem? h1)⟩
  have D : ZApart (zsOf s.heap.objs.size (a :: r)) (s.heap.objs.size + (a :: r).length + 2) (s.heap.objs.size + (a :: r).length) (s.heap.objs.size + (a :: r).length + 1) := by
    refine ⟨Nat.ne_of_lt (by omega), Nat.ne_of_lt (by omega), Nat.ne_of_lt (by omega), fun p hp => ?_, fun p hp => ?_, fun p hp => ?_, ?_, fun p hp => ?_, fun p hp => ?_, fun p hp q hq => ?_⟩
    · have := hitm p hp; exact Nat.ne_of_lt (by omega)
    · have := hitm p hp; exact Nat.ne_of_lt (by omega)
    · have := hitm p hp; exact Nat.ne_of_lt (by omega)
    · rw [zsOf_it]
      rw [List.nodup_iff_pairwise_ne, List.pairwise_map]
      exact List.Pairwise.imp (fun h e => absurd (Nat.add_left_cancel e) (Nat.ne_of_lt h)) List.pairwise_lt_range
    · have := hitm p hp; exact Nat.ne_of_lt (by omega)
    · have := hitm p hp; exact Nat.ne_of_lt (by omega)
    · have := hitm p hp; have := hitm q hq; exact Nat.ne_of_lt (by omega)
  have hne : zsOf s.heap.objs.size (a :: r) ≠ [] := by
    intro e
    have := congrArg List.length e
    rw [zsOf_len] at this
    simp at this
  have T := turn_zipG (P := X.prog) (w := X.w) (K := X.K) (tg := tg) D hne (by rw [zsOf_len]; exact hsz)
  rw [zsOf_sc] at T
  refine ⟨s.heap.objs.size + (a :: r).length + 2, _, _, _, H, rfl, I2, T, ⟨.none, false, hz, .inl rfl, by rw [zsOf_ref]; exact hTI, ⟨_, hTO, by rw [zsOf_len]; simp⟩, fun j p e => ?_⟩, fun b hb => ?_, q⟩
  · obtain ⟨q, h1, rfl⟩ := zsOf_get e
    have := its j q h1
    unfold ItAt
    unfold itO at this
    split
    · rename_i e; simp only at e; simp only [e, if_true] at this; exact ⟨_, this, rfl, rfl⟩
    · rename_i e; simp only at e; simp only [e, if_false] at this; exact ⟨_, this, rfl, rfl⟩
  · have hle : s.heap.objs.size ≤ b := by
      rw [List.mem_cons, List.mem_cons, List.mem_cons, List.mem_map] at hb
      rcases hb with q | q | q | ⟨p, hp, q⟩
      · rw [q]; exact Nat.le_trans (Nat.le_add_right _ _) (Nat.le_add_right _ _)
      · rw [q]; exact Nat.le_add_right _ _
      · rw [q]; exact Nat.le_trans (Nat.le_add_right _ _) (Nat.le_add_right _ _)
      · have := hitm p hp; rw [← q]; exact this.1
    exact I.fpOk hle (I.hok.fresh hle)
end
/-- *e: the items of a list or tuple, themselves lists and tuples -/
def iZipS (K : PySem.W.Frag) (te : TE) : TI := fun σ H R => te σ H fun x H1 => ∃ a rows ls, x = .ref a ∧ (SqT K H1 a rows ∨ SqL K H1 a rows) ∧ rows = ls.map (fun p : Sc => V.ref p.2) ∧ ls ≠ [] ∧ ls.length ≤ sizeLine ∧ (∀ p ∈ ls, ∃ vs, SrcV K H1 p vs) ∧ R (ItzG K ls) H1
def iZipG (K : PySem.W.Frag) (ta : TA) : TI := fun σ H R => ta σ H fun vs H1 => ∃ ls, vs = ls.map (fun p : Sc => V.ref p.2) ∧ ls ≠ [] ∧ ls.length ≤ sizeLine ∧ (∀ p ∈ ls, ∃ vs, SrcV K H1 p vs) ∧ R (ItzG K ls) H1
theorem vals_refs : ∀ {ls : List Sc} {us : List Value}, Vals (ls.map fun p => V.ref p.2) us → us = ls.map fun p => Value.ref p.2
  | [], _, .nil => rfl
  | p :: ls, _, .cons r t => by
    cases r
    rw [vals_refs t]; rfl
section
variable {X : Cx} {tg e e2 : Expr} {te : TE} {ta : TA} {p pos sp_ : Pos}
theorem callWith_typeS {M : Model} {A : Around} {E : Value → Shared → Prop} {s : Shared} {T : String} {env : PySem.Env} {Q : Value → Shared → Prop} {es : List Expr} (hst : (starEach es env).any (·.1) = true)
    (h : wpAny M A (evalArgs (.type T) true (backTo pos (starEach es env)) []) (fun a s₁ => wpAny M A (call (.type T) a.pos a.kw) Q E s₁) E s) (hst' : (backTo pos (starEach es env)).any (·.1) = true) :
    wpAny M A (callWith pos (.type T) [] (backTo pos (starEach es env)) []) Q E s := by
  unfold callWith
  refine wpAny_bind (wpAny_holding (wpAny_mono h (fun a s₁ h₁ => wpAny_bind (wpAny_standAt ?_)) fun _ _ x => x))
  simp only [hst', Bool.true_or]
  refine wpAny_bind (wpAny_pure ?_)
  exact wpAny_bind (wpAny_mono (wpAny_operateT (by simpa using h₁)) (fun r s₂ hr => wpAny_bind (wpAny_holding (wpAny_point (wpAny_pure hr)))) fun _ _ x => x)
theorem pi_zipS (hg : Gl X "zip") (hm : X.mg "zip" = none) (he : PE X e te) (hst : starEach [.Starred e sp_] X.env = [(true, eval e X.env)] := by rfl) :
    PI X tg (.Call (.Name "zip" p) [.Starred e sp_] [] pos) (iZipS X.K te) := by
  refine ⟨fun pins s σ H R I h => ?_⟩
  refine Call_ (ld_blt I hg hm PyProof.Rows.boot_zip (callWith_typeS (by rw [hst]; rfl) ?_ (by rw [hst]; rfl)))
  rw [hst]
  refine PySem.W.ks_lone (thn (he.run pins s σ H _ I h) fun v s1 ⟨y, H1, I1, ry, a, rows, ls, ey, hx, erows, hn, hsz, hl, q⟩ => ?_)
  subst ey
  obtain rfl : v = Value.ref a := ry
  refine StX.star_any I1 hx fun us s2 I2 rv => ?_
  subst erows
  rw [vals_refs rv]
  exact zip_made I2 hn hsz hl q
theorem pi_zipG (hg : Gl X "zip") (hm : X.mg "zip" = none) (ha : PA X [e, e2] ta) (hs : starEach [e, e2] X.env = (false, eval e X.env) :: starEach [e2] X.env := by rfl) (hpl : (backTo pos (starEach [e2] X.env)).any (·.1) = false := by rfl) :
    PI X tg (.Call (.Name "zip" p) [e, e2] [] pos) (iZipG X.K ta) := by
  refine ⟨fun pins s σ H R I h => ?_⟩
  refine Call_ (ld_blt I hg hm PyProof.Rows.boot_zip (PyProof.Rows.callWith_type1 (thn (ha.run pos pins s σ H _ I h) fun us s1 ⟨vs, H1, I1, r1, q1⟩ => ?_) hs hpl))
  obtain ⟨ls, e, hn, hsz, hl, q⟩ := q1
  subst e
  rw [vals_refs r1]
  exact zip_made I1 hn hsz hl q
end
end QL

set_option Elab.async false
set_option linter.all false
set_option maxRecDepth 100000
set_option maxHeartbeats 2000000
namespace QL
open PySem L2
/-! ### borrowing: own trees are read as data for one expression, for one statement -/
def D.sc : D → Bool | .non => true | .bl _ => true | .int _ => true | .str _ => true | _ => false
mutual
def OD.sc : OD → Bool
  | .fz d => d.sc
  | .lst xs => OD.scs xs
  | .tup xs => OD.scs xs
  | .ins _ fs => OD.scf fs
  | .dK kvs => OD.sck kvs
  | .dT kvs => OD.sct kvs
  | .hole _ => false
def OD.scs : List OD → Bool | [] => true | x :: xs => x.sc && OD.scs xs
def OD.scf : List (Str × OD) → Bool | [] => true | (_, x) :: xs => x.sc && OD.scf xs
def OD.sck : List (Key × OD) → Bool | [] => true | (_, x) :: xs => x.sc && OD.sck xs
def OD.sct : List (List Key × OD) → Bool | [] => true | (_, x) :: xs => x.sc && OD.sct xs
end
section
variable {cn : Nat → Addr} {Hf H Hf' H' : Hp}
theorem Rp.scal {v : V} {d : D} (r : Rp cn Hf v d) (h : d.sc = true) : Rp cn Hf' v d := by
  cases r <;> first | (simp [D.sc] at h; done) | constructor
mutual
theorem Ow.scal (hL : ∀ a, Hf' a = none → Hf a = none) : ∀ {v : V} {x : OD} {F : List Addr}, x.sc = true → Ow cn Hf' H v x F → Ow cn Hf H v x F
  | _, _, _, k, .fz r => .fz (r.scal (by simpa [OD.sc] using k))
  | _, _, _, k, .lst h n t => .lst h (hL _ n) (Ows.scal hL (by simpa [OD.sc] using k) t)
  | _, _, _, k, .tup h n t => .tup h (hL _ n) (Ows.scal hL (by simpa [OD.sc] using k) t)
  | _, _, _, k, .ins h n t => .ins h (hL _ n) (Owf.scal hL (by simpa [OD.sc] using k) t)
  | _, _, _, k, .dK h n t => .dK h (hL _ n) (Owk.scal hL (by simpa [OD.sc] using k) t)
  | _, _, _, k, .dT h n t => .dT h (hL _ n) (Owt.scal hL (by simpa [OD.sc] using k) t)
  | _, _, _, k, .hole _ => nomatch k
theorem Ows.scal (hL : ∀ a, Hf' a = none → Hf a = none) : ∀ {v : List V} {x : List OD} {F : List Addr}, OD.scs x = true → Ows cn Hf' H v x F → Ows cn Hf H v x F
  | _, _, _, _, .nil => .nil
  | _, _, _, k, .cons o t => by
    simp [OD.scs] at k
    exact .cons (Ow.scal hL k.1 o) (Ows.scal hL k.2 t)
theorem Owf.scal (hL : ∀ a, Hf' a = none → Hf a = none) : ∀ {v : List (Str × V)} {x : List (Str × OD)} {F : List Addr}, OD.scf x = true → Owf cn Hf' H v x F → Owf cn Hf H v x F
  | _, _, _, _, .nil => .nil
  | _, _, _, k, .cons o t => by
    simp [OD.scf] at k
    exact .cons (Ow.scal hL k.1 o) (Owf.scal hL k.2 t)
theorem Owk.scal (hL : ∀ a, Hf' a = none → Hf a = none) : ∀ {v : List (Key × V)} {x : List (Key × OD)} {F : List Addr}, OD.sck x = true → Owk cn Hf' H v x F → Owk cn Hf H v x F
  | _, _, _, _, .nil => .nil
  | _, _, _, k, .cons o t => by
    simp [OD.sck] at k
    exact .cons (Ow.scal hL k.1 o) (Owk.scal hL k.2 t)
theorem Owt.scal (hL : ∀ a, Hf' a = none → Hf a = none) : ∀ {v : List (List Key × V)} {x : List (List Key × OD)} {F : List Addr}, OD.sct x = true → Owt cn Hf' H v x F → Owt cn Hf H v x F
  | _, _, _, _, .nil => .nil
  | _, _, _, k, .cons o t => by
    simp [OD.sct] at k
    exact .cons (Ow.scal hL k.1 o) (Owt.scal hL k.2 t)
end
end
/-- for an expression: own trees as data -/
def Sl.lend : Sl → Sl
  | .fz d => .fz d
  | .kf d => .fz d
  | .ow x => if x.ok = true then .fz x.d else .un
  | .bw x => if x.ok = true then .fz x.d else .un
  | .ln _ x => if x.ok = true then .fz x.d else .un
  | .scr ns => .scr ns
  | .exc a d x => .exc a d x
  | _ => .un
/-- for a statement: they are, and what was frozen, as they were -/
def Sl.keep : Sl → Sl
  | .fz d => .kf d
  | .kf d => .kf d
  | .ow x => if x.ok = true then .kf x.d else .kv
  | .bw x => if x.ok = true then .kf x.d else .kv
  | .ln _ x => if x.ok = true then .kf x.d else .kv
  | .un => .un
  | _ => .kv
def lendE (ρ : Env) : Env := ρ.map Sl.lend
def keepE (ρ : Env) : Env := ρ.map Sl.keep
def exSl (s s' : Sl) : Sl := match s' with
  | .kf _ => s
  | .kv => s
  | .fz d => if d.sc = true then .fz d else .un
  | _ => .un
def exE (ρ ρ' : Env) : Env := List.zipWith exSl ρ ρ'
section
variable {G : Ctx} {B : Bs} {ρ : Env} {σ : St} {F : Fps} {Hf H Hf' H' : Hp}
abbrev lendB (B : Bs) (σ : St) (F : Fps) (Hf H : Hp) : Bs := ⟨fun _ => False, fun _ => False, frzL Hf H F.flatten, H, σ, B.n⟩
theorem Rep.sm_fz (R : Rep G B ρ σ F Hf H) : Sm Hf (frzL Hf H F.flatten) := Sm.frzs fun a ha => (R.cell ha).2
theorem Rep.same_fz (R : Rep G B ρ σ F Hf H) : Same (frzL Hf H F.flatten) H := fun b u e => by
  by_cases h : b ∈ F.flatten
  · rw [frzL_in h] at e; exact e
  · rw [frzL_out h] at e; exact R.sm _ _ e
theorem flat_nil {n : Nat} : (List.replicate n ([] : List Addr)).flatten = [] := by simp
theorem getD_nil {n i : Nat} : (List.replicate n ([] : List Addr)).getD i [] = [] := by
  rw [List.getD_eq_getElem?_getD, List.getElem?_replicate]; split <;> rfl
theorem Rep.owfz (R : Rep G B ρ σ F Hf H) {i : Nat} {u : V} {x : OD} (o : Ow G.cn Hf H u x (F.getD i [])) (k : x.ok = true) : Rp G.cn (frzL Hf H F.flatten) u x.d :=
  o.rp R.sm_fz k fun a ha => frzL_in (mem_flat ha)
theorem Rep.lends (f : Sl → Sl) (hf : f = Sl.lend ∨ f = Sl.keep) (R : Rep G B ρ σ F Hf H) : Rep G (lendB B σ F Hf H) (ρ.map f) σ (List.replicate ρ.length []) (frzL Hf H F.flatten) H := by
  refine ⟨by simp [R.len], by simp [R.ln], by simp, R.same_fz, Sm.refl _, fun b o _ e => e, fun b o e _ _ _ => e, fun b e => e, fun b h => h.elim, fun b h => h.elim, by simp, by simp, by simp, fun i s e => ?_, fun i s e h => getD_nil⟩
  rw [getD_nil]
  rw [List.getElem?_map, Option.map_eq_some_iff] at e
  obtain ⟨t, e, rfl⟩ := e
  have q := R.sl i t e
  have m := R.sm_fz
  rcases hf with rfl | rfl
  · cases t with
    | un => trivial
    | fz d => obtain ⟨x, e1, r⟩ := q; exact ⟨x, e1, r.mono m⟩
    | kf d => obtain ⟨x, e1, _, r⟩ := q; exact ⟨x, e1, r.mono m⟩
    | kv => trivial
    | hw a c => trivial
    | ow x =>
      obtain ⟨u, e1, o, _⟩ := q
      by_cases k : x.ok = true
      · rw [show Sl.lend (.ow x) = .fz x.d from if_pos k]; exact ⟨u, e1, R.owfz o k⟩
      · rw [show Sl.lend (.ow x) = .un from if_neg k]; trivial
    | bw x =>
      obtain ⟨u, e1, _, o⟩ := q
      by_cases k : x.ok = true
      · rw [show Sl.lend (.bw x) = .fz x.d from if_pos k]; exact ⟨u, e1, R.owfz o k⟩
      · rw [show Sl.lend (.bw x) = .un from if_neg k]; trivial
    | ln p x =>
      obtain ⟨e1, o, _⟩ := q
      by_cases k : x.ok = true
      · rw [show Sl.lend (.ln p x) = .fz x.d from if_pos k]; exact ⟨_, e1, R.owfz o k⟩
      · rw [show Sl.lend (.ln p x) = .un from if_neg k]; trivial
    | pool => trivial
    | scr ns => obtain ⟨p, e1, h⟩ := q; exact ⟨p, e1, m.seq h⟩
    | exc a d x => exact ⟨q.1, q.2.mono m⟩
  · cases t with
    | un => trivial
    | fz d => obtain ⟨x, e1, r⟩ := q; exact ⟨x, e1, rfl, r.mono m⟩
    | kf d => obtain ⟨x, e1, _, r⟩ := q; exact ⟨x, e1, rfl, r.mono m⟩
    | kv => rfl
    | hw a c => rfl
    | ow x =>
      obtain ⟨u, e1, o, _⟩ := q
      by_cases k : x.ok = true
      · rw [show Sl.keep (.ow x) = .kf x.d from if_pos k]; exact ⟨u, e1, rfl, R.owfz o k⟩
      · rw [show Sl.keep (.ow x) = .kv from if_neg k]; rfl
    | bw x =>
      obtain ⟨u, e1, _, o⟩ := q
      by_cases k : x.ok = true
      · rw [show Sl.keep (.bw x) = .kf x.d from if_pos k]; exact ⟨u, e1, rfl, R.owfz o k⟩
      · rw [show Sl.keep (.bw x) = .kv from if_neg k]; rfl
    | ln p x =>
      obtain ⟨e1, o, _⟩ := q
      by_cases k : x.ok = true
      · rw [show Sl.keep (.ln p x) = .kf x.d from if_pos k]; exact ⟨_, e1, rfl, R.owfz o k⟩
      · rw [show Sl.keep (.ln p x) = .kv from if_neg k]; rfl
    | pool => rfl
    | scr ns => rfl
    | exc a d x => rfl
/-- all stands as it stood -/
theorem Rep.lent {ρ' : Env} {σ' : St} {F' : Fps} (R : Rep G B ρ σ F Hf H) (R' : Rep G (lendB B σ F Hf H) ρ' σ' F' Hf' H') : Same H H' := fun b o e => by
  cases h : frzL Hf H F.flatten b with
  | none => exact R'.kp b o e h id id
  | some u =>
    have := R.same_fz b u h
    rw [e] at this
    cases this
    exact R'.sm _ _ (R'.sm0 _ _ h)
theorem Rep.again {ρ' : Env} {σ' : St} {F' : Fps} (R : Rep G B ρ σ F Hf H) (R' : Rep G (lendB B σ F Hf H) ρ' σ' F' Hf' H') : Rep G B ρ σ F Hf H' := by
  have s := R.lent R'
  have eq : ∀ b, H b ≠ none → H' b = H b := fun b h => by
    cases e : H b with
    | none => exact absurd e h
    | some o => exact s b o e
  refine R.go (Sm.refl _) (R.sm.trans s) (fun a ha => ⟨eq a (R.cell ha).1, (R.cell ha).2⟩) (fun p _ h ⟨vs, h2, h3⟩ => ⟨⟨vs, s _ _ h2, h3⟩, h⟩) (fun b _ h => h) (fun b h _ _ _ => eq b (R.st b h)) (fun b h => by rw [eq b (R.st b h)]; exact R.st b h)
theorem Rep.lentN {ρ' : Env} {σ' : St} {F' : Fps} (R : Rep G B ρ σ F Hf H) (R' : Rep G (lendB B σ F Hf H) ρ' σ' F' Hf' H') : Nx ρ σ Hf H Hf H' :=
  ⟨Sm.refl _, fun b o e n => ⟨n, o, R.lent R' b o e, fun _ => rfl⟩⟩
end
section
variable {G : Ctx} {X : Cx} {Wx : WX} {e : Expr} {st : Stmt} {sts : List Stmt}
def brw (g : Env → W D) : Env → W D := fun ρ Q _ => g (lendE ρ) (fun d => d.sc = true ∧ Q d) (fun _ => False)
def brwB (g : Env → W Bool) : Env → W Bool := fun ρ Q _ => g (lendE ρ) Q (fun _ => False)
def brwO (g : Env → W OD) : Env → W OD := fun ρ Q _ => g (lendE ρ) (fun x => x.sc = true ∧ Q x) (fun _ => False)
theorem ev_brw {g : Env → W D} (h : Ev G X Wx e g) : Ev G X Wx e (brw g) := by
  obtain ⟨t, p, ev⟩ := h.ex
  refine ⟨t, p, ?_⟩
  intro B ρ σ F Hf H Q' E' Q R q k kx
  exact ev _ _ σ _ _ H _ _ Q (R.lends Sl.lend (.inl rfl)) q (fun v d Hf1 H1 R1 n1 r q1 => k v d Hf H1 (R.again R1) (R.lentN R1) (r.scal q1.1) q1.2) (fun x cls d Hf1 H1 _ _ _ e => e.elim)
theorem eb_brw {g : Env → W Bool} (h : Eb G X Wx e g) : Eb G X Wx e (brwB g) := by
  obtain ⟨t, p, ev⟩ := h.ex
  refine ⟨t, p, ?_⟩
  intro B ρ σ F Hf H Q' E' Q R q k kx
  exact ev _ _ σ _ _ H _ _ Q (R.lends Sl.lend (.inl rfl)) q (fun b Hf1 H1 R1 n1 q1 => k b Hf H1 (R.again R1) (R.lentN R1) q1) (fun x cls d Hf1 H1 _ _ _ e => e.elim)
theorem en_brw {g : Env → W OD} (h : En G X Wx e g) : En G X Wx e (brwO g) := by
  obtain ⟨t, p, ev⟩ := h.ex
  refine ⟨t, p, ?_⟩
  intro B ρ σ F Hf H Q' E' Q R q k kx
  refine ev _ _ σ _ _ H _ _ Q (R.lends Sl.lend (.inl rfl)) q (fun u x L Hf1 H1 R1 n1 o nd nw q1 => ?_) (fun x cls d Hf1 H1 _ _ _ e => e.elim)
  have hL : ∀ a, Hf1 a = none → Hf a = none := fun a ha => (R.sm_fz.trans R1.sm0).nn ha
  exact k u x L Hf H1 (R.again R1) (R.lentN R1) (o.scal hL q1.1) nd nw q1.2
/-- a statement with all own trees lent -/
def sBrw (g : Env → Ws) : Env → Ws := fun ρ Q _ => g (keepE ρ) (fun fl ρ' => match fl with
  | .nx => Q .nx (exE ρ ρ') | .bk => Q .bk (exE ρ ρ') | .ct => Q .ct (exE ρ ρ')
  | .rt d => d.sc = true ∧ Q (.rt d) (exE ρ ρ') | .ro x => False) (fun _ _ => False)
theorem flat_sub {f : List Bool} : ∀ {F : Fps} {f : List Bool}, (List.zipWith (fun (b : Bool) l => if b = true then l else []) f F).flatten.Sublist F.flatten
  | [], _ => by simp
  | l :: F, [] => by simp
  | l :: F, b :: f => by
    simp only [List.zipWith_cons_cons, List.flatten_cons]
    refine List.Sublist.append ?_ (flat_sub (f := f))
    cases b <;> simp
def keptB : Sl → Bool | .kf _ => true | .kv => true | _ => false
variable {B : Bs} {ρ : Env} {σ : St} {F : Fps} {Hf H Hf' H' : Hp}
theorem Rep.exit {ρ' : Env} {σ' : St} {F' : Fps} (R : Rep G B ρ σ F Hf H) (R' : Rep G (lendB B σ F Hf H) ρ' σ' F' Hf' H') : ∃ F2, Rep G B (exE ρ ρ') σ' F2 Hf H' := by
  have R2 := R.again R'
  have hlen : ρ'.length = ρ.length := by rw [R'.ln, R.ln]
  have at_ : ∀ {j : Nat} {s : Sl}, (exE ρ ρ')[j]? = some s → ∃ a b, ρ[j]? = some a ∧ ρ'[j]? = some b ∧ s = exSl a b := fun {j s} e => by
    unfold exE at e
    rw [List.getElem?_zipWith] at e
    cases h1 : ρ[j]? with
    | none => rw [h1] at e; simp at e
    | some a =>
      cases h2 : ρ'[j]? with
      | none => rw [h1, h2] at e; simp at e
      | some b => rw [h1, h2] at e; simp at e; exact ⟨a, b, rfl, rfl, e.symm⟩
  have same : ∀ {j : Nat} {b : Sl}, ρ'[j]? = some b → keptB b = true → σ'[j]? = σ[j]? := fun {j b} e k => by
    have q := R'.sl j b e
    cases b <;> simp only [keptB, reduceCtorEq] at k
    · obtain ⟨x, e1, e2, _⟩ := q; exact e2.symm
    · exact Eq.symm q
  have fget : ∀ {j : Nat} {b : Sl}, ρ'[j]? = some b → (List.zipWith (fun (b : Bool) l => if b = true then l else []) (ρ'.map keptB) F).getD j [] = if keptB b = true then F.getD j [] else [] := fun {j b} e => by
    have hj : j < F.length := by rw [R.lenF, ← hlen]; exact (List.getElem?_eq_some_iff.mp e).1
    rw [List.getD_eq_getElem?_getD, List.getElem?_zipWith, List.getElem?_map, e, List.getElem?_eq_getElem hj]
    simp [List.getD_eq_getElem?_getD, hj]
  have kpt : ∀ {a b : Sl}, exSl a b = .pool → keptB b = true ∧ a = .pool := fun {a b} h => by
    unfold exSl at h
    split at h <;> first | exact ⟨rfl, h⟩ | (split at h <;> cases h) | cases h
  have pool : ∀ {p}, IsPool (exE ρ ρ') σ' p → IsPool ρ σ p := fun {p} ⟨j, e1, e2⟩ => by
    obtain ⟨a, b, h1, h2, h3⟩ := at_ e1
    obtain ⟨k, rfl⟩ := kpt h3.symm
    rw [same h2 k] at e2
    exact ⟨j, h1, e2⟩
  have memF : ∀ {a}, a ∈ (List.zipWith (fun (b : Bool) l => if b = true then l else []) (ρ'.map keptB) F).flatten → a ∈ F.flatten := fun h => (flat_sub (f := [])).subset h
  refine ⟨List.zipWith (fun (b : Bool) l => if b = true then l else []) (ρ'.map keptB) F, by simp [exE, R'.len, hlen], by simp [exE, hlen, R.ln], by simp [exE, hlen, R.lenF], R2.sm, R2.sm0, R2.unf, R2.kp, R2.st, R2.pl, R2.p0, (flat_sub (f := [])).nodup R.nd, fun a ha => R.nw a (memF ha), fun a ha h => R.np a (memF ha) (pool h), fun i s e => ?_, fun i s e ku => ?_⟩
  · obtain ⟨a, b, h1, h2, rfl⟩ := at_ e
    rw [fget h2]
    by_cases k : keptB b = true
    · rw [if_pos k]
      have e3 : exSl a b = a := by cases b <;> simp [keptB] at k <;> rfl
      rw [e3, same h2 k]
      exact R2.sl i a h1
    · rw [if_neg k]
      have q := R'.sl i b h2
      cases b with
      | fz d =>
        obtain ⟨x, e1, r⟩ := q
        show SlR G B σ'[i]? B.σ[i]? Hf H' [] (if d.sc = true then .fz d else .un)
        split
        · rename_i h; exact ⟨x, e1, r.scal h⟩
        · trivial
      | kf d => exact absurd rfl k
      | kv => exact absurd rfl k
      | _ => exact trivial
  · obtain ⟨a, b, h1, h2, rfl⟩ := at_ e
    rw [fget h2]
    by_cases k : keptB b = true
    · rw [if_pos k]
      have e3 : exSl a b = a := by cases b <;> simp [keptB] at k <;> rfl
      rw [e3] at ku
      exact R.un i a h1 ku
    · rw [if_neg k]
theorem est_brw {t : TS} {g : Env → Ws} (ev : EsT G Wx t g) : EsT G Wx t (sBrw g) := by
  intro B ρ σ F Hf H Q' E' Dd R q k kx
  refine ev _ _ σ _ _ H _ _ Dd (R.lends Sl.keep (.inr rfl)) q ⟨fun ρ' σ' F' Hf1 H1 R1 s1 q1 => ?_, fun ρ' σ' F' v d Hf1 H1 R1 s1 r q1 => ?_, fun ρ' σ' F' u x L Hf1 H1 R1 s1 o nd hb hn q1 => q1.elim, fun ρ' σ' F' Hf1 H1 R1 s1 q1 => ?_, fun ρ' σ' F' Hf1 H1 R1 s1 q1 => ?_⟩ (fun x cls d ρ' σ' F' Hf1 H1 _ _ _ e => e.elim)
  · obtain ⟨F2, R2⟩ := R.exit R1; exact k.nx _ _ _ _ _ R2 (Sm.refl _) q1
  · obtain ⟨F2, R2⟩ := R.exit R1; exact k.rt _ _ _ v d _ _ R2 (Sm.refl _) (r.scal q1.1) q1.2
  · obtain ⟨F2, R2⟩ := R.exit R1; exact k.bk _ _ _ _ _ R2 (Sm.refl _) q1
  · obtain ⟨F2, R2⟩ := R.exit R1; exact k.ct _ _ _ _ _ R2 (Sm.refl _) q1
theorem es_brw {g : Env → Ws} (h : Es G X Wx st g) : Es G X Wx st (sBrw g) := by
  obtain ⟨t, p, ev⟩ := h.ex
  exact ⟨t, p, est_brw ev⟩
end
end QL

set_option Elab.async false
set_option linter.all false
set_option maxRecDepth 100000
set_option maxHeartbeats 2000000
/-! zip of lists and tuples: of two, of the items of one -/
namespace QL
open PySem L2
def seqD : D → Option (List D) | .lst xs => some xs | .tup xs => some xs | _ => none
def seqDs : List D → Option (List (List D))
  | [] => some []
  | d :: ds => match seqD d, seqDs ds with | some x, some xs => some (x :: xs) | _, _ => none
def minL : List (List D) → Nat
  | [] => 0
  | [x] => x.length
  | x :: y :: xs => min x.length (minL (y :: xs))
def zipN (xss : List (List D)) : List D := (List.range (minL xss)).map fun i => .tup (xss.map fun r => r.getD i .non)
theorem minL_le : ∀ {xss : List (List D)} {xs : List D}, xs ∈ xss → minL xss ≤ xs.length
  | [x], xs, h => by simp at h; subst h; exact Nat.le_refl _
  | x :: y :: r, xs, h => by
    rcases List.mem_cons.mp h with e | e
    · subst e; exact Nat.min_le_left _ _
    · exact Nat.le_trans (Nat.min_le_right _ _) (minL_le e)
theorem minL_at : ∀ {xss : List (List D)}, xss ≠ [] → ∃ xs ∈ xss, xs.length = minL xss
  | [x], _ => ⟨x, by simp, rfl⟩
  | x :: y :: r, _ => by
    obtain ⟨xs, h, e⟩ := minL_at (xss := y :: r) (by simp)
    by_cases c : x.length ≤ minL (y :: r)
    · exact ⟨x, by simp, by show x.length = min x.length (minL (y :: r)); omega⟩
    · exact ⟨xs, List.mem_cons_of_mem _ h, by show xs.length = min x.length (minL (y :: r)); omega⟩
theorem zipN_two (xs ys : List D) : zipN [xs, ys] = List.zipWith (fun x y => D.tup [x, y]) xs ys := by
  apply List.ext_getElem
  · simp [zipN, minL]
  · intro i h1 h2
    simp at h2
    have a : i < xs.length := by omega
    have b : i < ys.length := by omega
    simp [zipN, List.getD_eq_getElem?_getD, a, b]
def SrcD (cn : Nat → Addr) (Hf : Hp) (p : Sc) (xs : List D) : Prop := ∃ vs, (if p.1 = true then Hf p.2 = some (.lst vs) else Hf p.2 = some (.tup vs)) ∧ Rps cn Hf vs xs
theorem src_of {cn : Nat → Addr} {Hf : Hp} {v : V} {d : D} {xs : List D} (r : Rp cn Hf v d) (e : seqD d = some xs) : ∃ p : Sc, v = .ref p.2 ∧ SrcD cn Hf p xs := by
  cases r with
  | @lst p vs ds h r => simp [seqD] at e; subst e; exact ⟨(true, p), rfl, vs, by simpa using h, r⟩
  | @tup p vs ds h r => simp [seqD] at e; subst e; exact ⟨(false, p), rfl, vs, by simpa using h, r⟩
  | _ => simp [seqD] at e
theorem srcs_of {cn : Nat → Addr} {Hf : Hp} : ∀ {vs : List V} {ds : List D} {xss : List (List D)}, Rps cn Hf vs ds → seqDs ds = some xss → ∃ ls : List Sc, vs = ls.map (fun p => V.ref p.2) ∧ ls.length = xss.length ∧ ∀ (j : Nat) p xs, ls[j]? = some p → xss[j]? = some xs → SrcD cn Hf p xs
  | _, _, xss, .nil, e => by simp [seqDs] at e; subst e; exact ⟨[], rfl, rfl, by simp⟩
  | _, _, xss, .cons (d := d) (ds := ds) r t, e => by
    unfold seqDs at e
    split at e
    · rename_i x xs e1 e2
      simp at e; subst e
      obtain ⟨p, rfl, hp⟩ := src_of r e1
      obtain ⟨ls, rfl, hl, h⟩ := srcs_of t e2
      refine ⟨p :: ls, rfl, by simp [hl], fun j q ys h1 h2 => ?_⟩
      cases j with
      | zero => simp at h1 h2; subst h1 h2; exact hp
      | succ j => exact h j q ys (by simpa using h1) (by simpa using h2)
    · simp at e
theorem SrcD.sv {cn : Nat → Addr} {K : PySem.W.Frag} {Hf H : Hp} (s : Sm Hf H) {p : Sc} {xs : List D} (h : SrcD cn Hf p xs) : ∃ vs, SrcV K H p vs ∧ Rps cn Hf vs xs := by
  obtain ⟨vs, h, r⟩ := h
  refine ⟨vs, ?_, r⟩
  unfold SrcV
  split at h
  · rename_i e; rw [if_pos e]; exact SqL.of (s.lst h)
  · rename_i e; rw [if_neg e]; exact SqT.of (s.tup h)
theorem rps_ix {cn : Nat → Addr} {H : Hp} : ∀ {vs : List V} {ds : List D}, vs.length = ds.length → (∀ (j : Nat) v d, vs[j]? = some v → ds[j]? = some d → Rp cn H v d) → Rps cn H vs ds
  | [], [], _, _ => .nil
  | v :: vs, d :: ds, hl, h => .cons (h 0 v d rfl rfl) (rps_ix (by simpa using hl) fun j v' d' e1 e2 => h (j + 1) v' d' (by simpa using e1) (by simpa using e2))
theorem wk_zipG {G : Ctx} {Hf : Hp} {ls : List Sc} {xss : List (List D)} (hn : ls ≠ []) (hl : ls.length = xss.length) (h : ∀ (j : Nat) p xs, ls[j]? = some p → xss[j]? = some xs → SrcD G.cn Hf p xs) : Wk G (ItzG G.K ls) Hf (zipN xss) where
  go := fun i H s hi p hp => by
    obtain ⟨j, hj⟩ := List.mem_iff_getElem?.mp hp
    have hj' : j < xss.length := hl ▸ (List.getElem?_eq_some_iff.mp hj).1
    obtain ⟨vs, h1, r⟩ := (h j p xss[j] hj (List.getElem?_eq_getElem hj')).sv (K := G.K) s
    refine ⟨vs, h1, ?_⟩
    rw [r.length]
    have := minL_le (List.getElem_mem hj')
    simp [zipN] at hi
    omega
  stop := fun H s => by
    refine ⟨fun p hp => ?_, ?_⟩
    · obtain ⟨j, hj⟩ := List.mem_iff_getElem?.mp hp
      have hj' : j < xss.length := hl ▸ (List.getElem?_eq_some_iff.mp hj).1
      obtain ⟨vs, h1, r⟩ := (h j p xss[j] hj (List.getElem?_eq_getElem hj')).sv (K := G.K) s
      exact ⟨vs, h1⟩
    · have hne : xss ≠ [] := by intro e; subst e; simp at hl; exact hn hl
      obtain ⟨xs, hm, e⟩ := minL_at hne
      obtain ⟨j, hj⟩ := List.mem_iff_getElem?.mp hm
      have hj' : j < ls.length := hl ▸ (List.getElem?_eq_some_iff.mp hj).1
      obtain ⟨vs, h1, r⟩ := (h j ls[j] xs (List.getElem?_eq_getElem hj') hj).sv (K := G.K) s
      exact ⟨ls[j], List.getElem_mem hj', vs, h1, by rw [r.length, e]; simp [zipN]⟩
  yld := fun i H x H' d s e y Hf2 s1 s2 => by
    obtain ⟨T, xs, rfl, hT, rfl, hlx, hx⟩ := y
    have s3 : Sm Hf (upd Hf2 T (.tup xs)) := s1.trans (Sm.new (s2.free hT))
    refine ⟨_, ?_, .inr ⟨T, _, hT, rfl, rfl⟩⟩
    unfold zipN at e
    rw [List.getElem?_map, Option.map_eq_some_iff] at e
    obtain ⟨i', e, rfl⟩ := e
    obtain ⟨hi, rfl⟩ : i < minL xss ∧ i = i' := by
      rw [List.getElem?_eq_some_iff] at e
      obtain ⟨a, b⟩ := e
      simp at a b
      exact ⟨a, b⟩
    refine .tup upd_same (rps_ix (by simp [hlx, hl]) fun j v d e1 e2 => ?_)
    rw [List.getElem?_map, Option.map_eq_some_iff] at e2
    obtain ⟨ys, e2, rfl⟩ := e2
    have hj : j < ls.length := hl ▸ (List.getElem?_eq_some_iff.mp e2).1
    obtain ⟨vs, h1, r⟩ := (h j ls[j] ys (List.getElem?_eq_getElem hj) e2).sv (K := G.K) s
    obtain ⟨x, f1, f2⟩ := hx j ls[j] vs (List.getElem?_eq_getElem hj) h1
    rw [e1] at f2
    cases f2
    obtain ⟨d, f3, r1⟩ := r.getV f1
    rw [List.getD_eq_getElem?_getD, f3]
    exact r1.mono s3
section
variable {G : Ctx} {X : Cx} {Wx : WX} {tg a b : Expr} {g ga gb : Env → W D} {pos : Pos}
def zipS (g : Env → W D) : Env → W (List D) := fun ρ => do
  let d ← g ρ
  (match (seqD d).bind seqDs with | some xss => W.need (xss ≠ [] ∧ xss.length ≤ sizeLine) (W.pure (zipN xss)) | none => W.fail)
def zipG (f g : Env → W D) : Env → W (List D) := fun ρ => do
  let c ← f ρ
  let d ← g ρ
  (match seqD c, seqD d with | some xs, some ys => W.pure (List.zipWith (fun x y => D.tup [x, y]) xs ys) | _, _ => W.fail)
theorem ei_zipS {p sp_ : Pos} (h : Ev G X Wx a g) (hK : X.K = G.K) (hg : Gl X "zip") (hm : X.mg "zip" = none) (hst : starEach [.Starred a sp_] X.env = [(true, eval a X.env)] := by rfl) :
    Ei G X Wx tg (.Call (.Name "zip" p) [.Starred a sp_] [] pos) (zipS g) := by
  obtain ⟨t, pe, ev⟩ := h.ex
  refine ⟨_, pi_zipS hg hm pe hst, ?_⟩
  intro B ρ σ F Hf H Q' E' Q R q k kx
  refine ev B ρ σ F Hf H _ E' _ R q (fun v d Hf1 H1 R1 s1 r1 q1 => ?_) kx
  replace q1 : (match (seqD d).bind seqDs with | some xss => W.need (xss ≠ [] ∧ xss.length ≤ sizeLine) (W.pure (zipN xss)) | none => (W.fail : W (List D))) Q' E' := q1
  rcases e : (seqD d).bind seqDs with _ | xss
  · rw [e] at q1; exact False.elim q1
  · rw [e] at q1
    rw [Option.bind_eq_some_iff] at e
    obtain ⟨ds, e1, e2⟩ := e
    obtain ⟨p, rfl, vs, hp, rv⟩ := src_of r1 e1
    obtain ⟨ls, rfl, hl, hs⟩ := srcs_of rv e2
    have hn : ls ≠ [] := by intro e; subst e; simp at hl; exact q1.1.1 (List.length_eq_zero_iff.mp hl.symm)
    refine ⟨p.2, _, ls, rfl, ?_, rfl, hn, by rw [hl]; exact q1.1.2, fun q hq => ?_, ?_⟩
    · split at hp
      · exact .inr (SqL.of (R1.sm _ _ hp))
      · exact .inl (SqT.of (R1.sm _ _ hp))
    · obtain ⟨j, hj⟩ := List.mem_iff_getElem?.mp hq
      have hj' : j < xss.length := hl ▸ (List.getElem?_eq_some_iff.mp hj).1
      obtain ⟨us, h1, _⟩ := (hs j q xss[j] hj (List.getElem?_eq_getElem hj')).sv (K := X.K) (Sm.of R1.sm)
      exact ⟨us, h1⟩
    · exact k _ _ Hf1 H1 R1 s1 (hK ▸ wk_zipG hn hl hs) q1.2
theorem ei_zipG {p : Pos} (h : Ev G X Wx a ga) (h2 : Ev G X Wx b gb) (hK : X.K = G.K) (hg : Gl X "zip") (hm : X.mg "zip" = none)
    (hs : starEach [a, b] X.env = (false, eval a X.env) :: starEach [b] X.env := by rfl) (hs2 : starEach [b] X.env = (false, eval b X.env) :: starEach [] X.env := by rfl) (hpl : (backTo pos (starEach [b] X.env)).any (·.1) = false := by rfl) :
    Ei G X Wx tg (.Call (.Name "zip" p) [a, b] [] pos) (zipG ga gb) := by
  obtain ⟨t, pe, ev⟩ := h.ex
  obtain ⟨t2, pe2, ev2⟩ := h2.ex
  refine ⟨_, pi_zipG hg hm (pa_cons pe (pa_cons pe2 pa_nil hs2) hs) hs hpl, ?_⟩
  intro B ρ σ F Hf H Q' E' Q R q k kx
  refine ev B ρ σ F Hf H _ E' _ R q (fun v d Hf1 H1 R1 s1 r1 q1 => ?_) kx
  refine ev2 B ρ σ F Hf1 H1 _ E' _ R1 q1 (fun u d2 Hf2 H2 R2 s2 r2 q2 => ?_) (kx.mono s1)
  have r1' := r1.mono s2.sm
  replace q2 : (match seqD d, seqD d2 with | some xs, some ys => W.pure (List.zipWith (fun x y => D.tup [x, y]) xs ys) | _, _ => (W.fail : W (List D))) Q' E' := q2
  rcases e1 : seqD d with _ | xs <;> rcases e2 : seqD d2 with _ | ys <;> rw [e1, e2] at q2 <;> first | exact False.elim q2 | skip
  · obtain ⟨p1, rfl, hp1⟩ := src_of r1' e1
    obtain ⟨p2, rfl, hp2⟩ := src_of r2 e2
    have hs : ∀ (j : Nat) p zs, [p1, p2][j]? = some p → [xs, ys][j]? = some zs → SrcD G.cn Hf2 p zs := fun j p zs f1 f2 => by
      match j with
      | 0 => simp at f1 f2; subst f1 f2; exact hp1
      | 1 => simp at f1 f2; subst f1 f2; exact hp2
      | j + 2 => simp at f1
    refine ⟨[p1, p2], rfl, by simp, by simp; decide, fun q hq => ?_, k _ _ Hf2 H2 R2 (s1.trans s2) (hK ▸ wk_zipG (by simp) rfl hs) (by rw [zipN_two]; exact q2)⟩
    simp at hq
    rcases hq with rfl | rfl
    · obtain ⟨us, h1, _⟩ := hp1.sv (K := X.K) (Sm.of R2.sm); exact ⟨us, h1⟩
    · obtain ⟨us, h1, _⟩ := hp2.sv (K := X.K) (Sm.of R2.sm); exact ⟨us, h1⟩
end
end QL

set_option Elab.async false
set_option linter.all false
set_option maxRecDepth 100000
set_option maxHeartbeats 2000000
namespace QL
open PySem L2
/-! ### trees that are wholly one's own: told by their data -/
mutual
theorem OD.of_d : ∀ d : D, (OD.of d).d = d
  | .lst xs => by simp [OD.of, OD.d, OD.ofs_d xs]
  | .tup xs => by simp [OD.of, OD.d, OD.ofs_d xs]
  | .ins C fs => by simp [OD.of, OD.d, OD.off_d fs]
  | .dK kvs => by simp [OD.of, OD.d, OD.ofk_d kvs]
  | .dT kvs => by simp [OD.of, OD.d, OD.oft_d kvs]
  | .non => rfl
  | .bl b => rfl
  | .int i => rfl
  | .str x => rfl
theorem OD.ofs_d : ∀ ds : List D, OD.ds (OD.ofs ds) = ds
  | [] => rfl
  | x :: xs => by simp [OD.ofs, OD.ds, OD.of_d x, OD.ofs_d xs]
theorem OD.off_d : ∀ ds : List (Str × D), OD.dfs (OD.off ds) = ds
  | [] => rfl
  | (f, x) :: xs => by simp [OD.off, OD.dfs, OD.of_d x, OD.off_d xs]
theorem OD.ofk_d : ∀ ds : List (Key × D), OD.dks (OD.ofk ds) = ds
  | [] => rfl
  | (f, x) :: xs => by simp [OD.ofk, OD.dks, OD.of_d x, OD.ofk_d xs]
theorem OD.oft_d : ∀ ds : List (List Key × D), OD.dts (OD.oft ds) = ds
  | [] => rfl
  | (f, x) :: xs => by simp [OD.oft, OD.dts, OD.of_d x, OD.oft_d xs]
end
mutual
theorem OD.of_ok : ∀ d : D, (OD.of d).ok = true
  | .lst xs => by simp [OD.of, OD.ok, OD.ofs_ok xs]
  | .tup xs => by simp [OD.of, OD.ok, OD.ofs_ok xs]
  | .ins C fs => by simp [OD.of, OD.ok, OD.off_ok fs]
  | .dK kvs => by simp [OD.of, OD.ok, OD.ofk_ok kvs]
  | .dT kvs => by simp [OD.of, OD.ok, OD.oft_ok kvs]
  | .non => rfl
  | .bl b => rfl
  | .int i => rfl
  | .str x => rfl
theorem OD.ofs_ok : ∀ ds : List D, OD.oks (OD.ofs ds) = true
  | [] => rfl
  | x :: xs => by simp [OD.ofs, OD.oks, OD.of_ok x, OD.ofs_ok xs]
theorem OD.off_ok : ∀ ds : List (Str × D), OD.okfs (OD.off ds) = true
  | [] => rfl
  | (f, x) :: xs => by simp [OD.off, OD.okfs, OD.of_ok x, OD.off_ok xs]
theorem OD.ofk_ok : ∀ ds : List (Key × D), OD.okks (OD.ofk ds) = true
  | [] => rfl
  | (f, x) :: xs => by simp [OD.ofk, OD.okks, OD.of_ok x, OD.ofk_ok xs]
theorem OD.oft_ok : ∀ ds : List (List Key × D), OD.okts (OD.oft ds) = true
  | [] => rfl
  | (f, x) :: xs => by simp [OD.oft, OD.okts, OD.of_ok x, OD.oft_ok xs]
end
mutual
theorem OD.of_sc : ∀ d : D, (OD.of d).sc = true
  | .lst xs => by simp [OD.of, OD.sc, OD.ofs_sc xs]
  | .tup xs => by simp [OD.of, OD.sc, OD.ofs_sc xs]
  | .ins C fs => by simp [OD.of, OD.sc, OD.off_sc fs]
  | .dK kvs => by simp [OD.of, OD.sc, OD.ofk_sc kvs]
  | .dT kvs => by simp [OD.of, OD.sc, OD.oft_sc kvs]
  | .non => rfl
  | .bl b => rfl
  | .int i => rfl
  | .str x => rfl
theorem OD.ofs_sc : ∀ ds : List D, OD.scs (OD.ofs ds) = true
  | [] => rfl
  | x :: xs => by simp [OD.ofs, OD.scs, OD.of_sc x, OD.ofs_sc xs]
theorem OD.off_sc : ∀ ds : List (Str × D), OD.scf (OD.off ds) = true
  | [] => rfl
  | (f, x) :: xs => by simp [OD.off, OD.scf, OD.of_sc x, OD.off_sc xs]
theorem OD.ofk_sc : ∀ ds : List (Key × D), OD.sck (OD.ofk ds) = true
  | [] => rfl
  | (f, x) :: xs => by simp [OD.ofk, OD.sck, OD.of_sc x, OD.ofk_sc xs]
theorem OD.oft_sc : ∀ ds : List (List Key × D), OD.sct (OD.oft ds) = true
  | [] => rfl
  | (f, x) :: xs => by simp [OD.oft, OD.sct, OD.of_sc x, OD.oft_sc xs]
end
theorem OD.ofs_map : ∀ ds : List D, OD.ofs ds = ds.map OD.of
  | [] => rfl
  | x :: xs => by simp [OD.ofs, OD.ofs_map xs]
theorem OD.of_scal {d : D} (h : d.sc = true) : OD.of d = .fz d := by cases d <;> first | rfl | (simp [D.sc] at h; done)
theorem OD.of_scals {ds : List D} (h : ds.all D.sc = true) : ds.map OD.fz = OD.ofs ds := by
  induction ds with
  | nil => rfl
  | cons d ds ih =>
    simp only [List.all_cons, Bool.and_eq_true] at h
    simp [OD.ofs, OD.of_scal h.1, ih h.2]
def ofG (g : Env → W D) : Env → W OD := fun ρ Q E => g ρ (fun d => Q (OD.of d)) E
def ofsG (g : Env → W (List D)) : Env → W (List OD) := fun ρ Q E => g ρ (fun ds => Q (OD.ofs ds)) E
def ofW (c : List Sl → W D) : List Sl → W OD := fun as Q E => c as (fun d => Q (OD.of d)) E
section
variable {G : Ctx} {X : Cx} {Wx : WX} {e o : Expr} {es : List Expr} {g : Env → W D} {gs : Env → W (List D)} {gc : Env → W (List Sl)} {pos p apos : Pos}
structure E1 (G : Ctx) (X : Cx) (Wx : WX) (e : Expr) (g : Env → W D) : Prop where
  en : En G X Wx e (ofG g)
structure A1s (G : Ctx) (X : Cx) (Wx : WX) (es : List Expr) (g : Env → W (List D)) : Prop where
  en : Ena G X Wx es (ofsG g)
theorem fr_of : frO (ofG g) = g := by
  funext ρ Q E
  show g ρ (fun d => (OD.of d).ok = true ∧ Q (OD.of d).d) E = _
  simp only [OD.of_ok, OD.of_d, true_and]
theorem E1.ev (h : E1 G X Wx e g) : Ev G X Wx e g := by have := h.en.ev; rwa [fr_of] at this
def scG (g : Env → W D) : Env → W D := fun ρ Q E => g ρ (fun d => d.sc = true ∧ Q d) E
theorem En.mono {f f' : Env → W OD} (h : En G X Wx e f) (m : ∀ ρ Q E, f' ρ Q E → f ρ Q E) : En G X Wx e f' := by
  obtain ⟨t, p, ev⟩ := h.ex
  exact ⟨t, p, fun B ρ σ F Hf H Q' E' Q R q k kx => ev B ρ σ F Hf H Q' E' Q R (m _ _ _ q) k kx⟩
theorem Ena.mono {f f' : Env → W (List OD)} (h : Ena G X Wx es f) (m : ∀ ρ Q E, f' ρ Q E → f ρ Q E) : Ena G X Wx es f' := by
  obtain ⟨t, p, ev⟩ := h.ex
  exact ⟨t, p, fun B ρ σ F Hf H Q' E' Q R q k kx => ev B ρ σ F Hf H Q' E' Q R (m _ _ _ q) k kx⟩
theorem EvT.wk {t : TE} (h : EvT G Wx t g) {g' : Env → W D} (m : ∀ (ρ : Env) (Q : D → Prop) E, g' ρ Q E → g ρ Q E) : EvT G Wx t g' := fun B ρ σ F Hf H Q' E' Q R q k kx => h B ρ σ F Hf H Q' E' Q R (m _ _ _ q) k kx
/-- a computation that wants what must hold more: its answers are such -/
theorem EnT.strong {t : TE} {f f' : Env → W OD} (h : EnT G Wx t f) (m : ∀ (ρ : Env) (Q : OD → Prop) E, f' ρ Q E → f ρ Q E) : EnT G Wx t f' := fun B ρ σ F Hf H Q' E' Q R q k kx => h B ρ σ F Hf H Q' E' Q R (m _ _ _ q) k kx
/-- functions do not look at what must hold behind them -/
theorem e1_sc (h : Ev G X Wx e g) : E1 G X Wx e (scG g) := by
  obtain ⟨t, p, ev⟩ := h.ex
  refine ⟨t, p, ?_⟩
  intro B ρ σ F Hf H Q' E' Q R q k kx
  refine ev B ρ σ F Hf H _ E' _ R (show g ρ (fun d => d.sc = true ∧ Q' (OD.of d)) E' from q) (fun v d Hf1 H1 R1 n1 r q1 => ?_) kx
  have q2 := q1.2
  rw [OD.of_scal q1.1] at q2
  exact k v (.fz d) [] Hf1 H1 R1 n1 (.fz r) (by simp) (by simp) q2
theorem a1_nil : A1s G X Wx [] nilA := ⟨ena_nil.mono fun ρ Q E q => q⟩
theorem a1_cons (h : E1 G X Wx e g) (hr : A1s G X Wx es gs) (hs : starEach (e :: es) X.env = (false, eval e X.env) :: starEach es X.env := by rfl) : A1s G X Wx (e :: es) (consA g gs) :=
  ⟨(ena_cons h.en hr.en hs).mono fun ρ Q E q => q⟩
theorem ofs_len : ∀ ds : List D, (OD.ofs ds).length = ds.length := fun ds => by rw [OD.ofs_map, List.length_map]
theorem e1_lst (h : A1s G X Wx es gs) : E1 G X Wx (.List es pos) (dispL D.lst gs) :=
  ⟨(en_lst h.en).mono fun ρ Q E q => by
    show gs ρ (fun ds => (OD.ofs ds).length ≤ sizeLine ∧ Q (.lst (OD.ofs ds))) E
    simp only [ofs_len]
    exact q⟩
theorem e1_tup {x1} (h : A1s G X Wx es gs) : E1 G X Wx (.Tuple es x1 pos) (dispL D.tup gs) :=
  ⟨(en_tup h.en).mono fun ρ Q E q => by
    show gs ρ (fun ds => (OD.ofs ds).length ≤ sizeLine ∧ Q (.tup (OD.ofs ds))) E
    simp only [ofs_len]
    exact q⟩
/-- a new list of scalars -/
def lstS (g : Env → W (List D)) : Env → W D := fun ρ Q E => g ρ (fun ds => ds.all D.sc = true ∧ Q (.lst ds)) E
theorem e1_el (h : El G X Wx e gs) : E1 G X Wx e (lstS gs) := by
  obtain ⟨t, p, ev⟩ := h.ex
  refine ⟨t, p, ?_⟩
  intro B ρ σ F Hf H Q' E' Q R q k kx
  refine ev B ρ σ F Hf H _ E' _ R (show gs ρ (fun ds => ds.all D.sc = true ∧ Q' (OD.of (.lst ds))) E' from q) (fun p vs ds Hf1 H1 R1 s1 h0 hf hp r q1 => ?_) kx
  have q2 := q1.2
  rw [OD.of, ← OD.of_scals q1.1] at q2
  exact k _ _ [p] _ _ R1 s1 (.lst hp hf (ows_fz r)) (by simp) (by simpa using h0) q2
variable {elt tg iter : Expr} {ifs : List Expr} {sc : Scope} {own : List (Str × Nat)} {gi : Env → W (List D)} {gt : D → Env → W Env} {gb : Env → W Bool} {ge : Env → W D} {sl : List Nat}
theorem lcO_of {vs : List Nat} {ρ : Env} : ∀ (ds : List D) (Q : List OD → Prop) (E : Xc → Prop), lcO vs gt gb (ofG ge) ρ ds Q E = lcL vs gt gb ge ρ ds (fun r => Q (OD.ofs r)) E
  | [], Q, E => rfl
  | d :: ds, Q, E => by
    have ih := lcO_of (vs := vs) (ρ := ρ) ds
    show gt d (wipeE ρ vs) (fun ρ2 => gb ρ2 (fun b => if b = true then ge ρ2 (fun y => lcO vs gt gb (ofG ge) ρ ds (fun r => Q (OD.of y :: r)) E) (fun _ => False) else lcO vs gt gb (ofG ge) ρ ds Q E) (fun _ => False)) (fun _ => False) = _
    simp only [ih]
    rfl
theorem lcON_of {vs : List Nat} : lcON gi vs gt gb (ofG ge) = ofG (lstV (lcN gi vs gt gb ge)) := by
  funext ρ Q E
  show gi ρ (fun ds => (okW ρ vs = true ∧ ds.length ≤ sizeLine) ∧ lcO vs gt gb (ofG ge) ρ ds (fun xs => Q (.lst xs)) E) E = _
  simp only [lcO_of]
  rfl
theorem e1_lc (hc : X.calm = true) (hN : X.N.Nodup) (hi : Ei G X Wx tg iter gi) (ok : BlkOk X.N X.env.scope sc own) (hg : ∀ s H0 C cl fp, Eg G (bk X sc s H0 C cl fp) tg sl gt) (ht : ∀ s H0 C cl fp, Ets G (bk X sc s H0 C cl fp) WF ifs gb)
    (he : ∀ s H0 C cl fp, E1 G (bk X sc s H0 C cl fp) WF elt ge) (hsl : ∀ i ∈ sl, i ∈ own.map (·.2)) (hs : ∀ x, foldedSetIterable iter X.env x = pure x := by intro _; rfl) :
    E1 G X Wx (.ListComp elt [⟨tg, iter, ifs, 0⟩] sc pos) (lstV (lcN gi (own.map (·.2)) gt gb ge)) := by
  have := en_lcO (Wx := Wx) (pos := pos) hc hN hi ok hg ht (fun s H0 C cl fp => (he s H0 C cl fp).en) hsl hs
  rw [lcON_of] at this
  exact ⟨this⟩
theorem e1_call {x : Str} {m : List Sl → W D} {kk : Nat} {f : Addr} {fd : FuncData} {ps : List Str} (F : FnOk X.prog X.w X.K X.mg X.base (L2.CX X.prog X.w) kk f fd ps (PSp G (liftN (ofW m)))) (hr : Room kk X.A) (hg : Gl X x) (hm : X.mg x = some (.ref f)) (hk : PySem.W.keepIn X.K (.ref f) = true)
    (hb : Binds X.K fd ps []) (tk : Takes X Wx) (ha : Ec G X Wx (e :: es) gc) (hdb : (x == ("__debug__" : Str)) = false := by decide) (he : starEach (e :: es) X.env = (false, eval e X.env) :: starEach es X.env := by rfl)
    (hpl : (backTo pos (starEach es X.env)).any (·.1) = false := by rfl) : E1 G X Wx (.Call (.Name x p) (e :: es) [] pos) (callF m (argsP gc)) :=
  ⟨(en_call F hr hg hm hk hb tk ha hdb he hpl).mono fun ρ Q E q => q⟩
theorem e1_meth {C : Nat} {mn : Str} {m : List Sl → W D} {kk : Nat} {f : Addr} {fd : FuncData} {ps : List Str} {pl : Sem Bool} (ho : Ev G X Wx o g) (c : Cls X.K (G.cn C)) (hm : Meth X.K (G.cn C) mn f) (F : FnOk X.prog X.w X.K X.mg X.base (L2.CX X.prog X.w) kk f fd ps (PSp G (liftN (ofW m)))) (hr : Room kk X.A)
    (hb : Binds X.K fd ps []) (tk : Takes X Wx) (ha : Ec G X Wx (e :: es) gc)
    (hst : starEach (e :: es) X.env = (false, eval e X.env) :: starEach es X.env := by rfl) (hpl : (backTo pos (starEach es X.env)).any (·.1) = false := by rfl)
    (ht : eval (.Call (.Attribute o mn apos) (e :: es) [] pos) X.env = (do
      let ov ← eval o X.env
      standAt apos.atName
      let (f, first) ← holding [ov] (getMethod ov mn pl)
      callWith pos f first (backTo pos (starEach (e :: es) X.env)) (backToKw pos (keywordEach [] X.env))) := by rfl) :
    E1 G X Wx (.Call (.Attribute o mn apos) (e :: es) [] pos) (callM C mn m g (argsP gc)) :=
  ⟨(en_meth ho c hm F hr hb tk ha hst hpl ht).mono fun ρ Q E q => q⟩
theorem e1_meth0 {C : Nat} {mn : Str} {m : List Sl → W D} {kk : Nat} {f : Addr} {fd : FuncData} {ps : List Str} {pl : Sem Bool} (ho : Ev G X Wx o g) (c : Cls X.K (G.cn C)) (hm : Meth X.K (G.cn C) mn f) (F : FnOk X.prog X.w X.K X.mg X.base (L2.CX X.prog X.w) kk f fd ps (PSp G (liftN (ofW m)))) (hr : Room kk X.A)
    (hb : Binds X.K fd ps []) (tk : Takes X Wx)
    (ht : eval (.Call (.Attribute o mn apos) [] [] pos) X.env = (do
      let ov ← eval o X.env
      standAt apos.atName
      let (f, first) ← holding [ov] (getMethod ov mn pl)
      callWith pos f first (backTo pos (starEach [] X.env)) (backToKw pos (keywordEach [] X.env))) := by rfl) :
    E1 G X Wx (.Call (.Attribute o mn apos) [] [] pos) (callM C mn m g (argsP nilC)) :=
  ⟨(en_meth0 ho c hm F hr hb tk ht).mono fun ρ Q E q => q⟩
theorem brw_of : brwO (ofG g) = ofG (fun ρ Q _ => g (lendE ρ) Q (fun _ => False)) := by
  funext ρ Q E
  show g (lendE ρ) (fun d => (OD.of d).sc = true ∧ Q (OD.of d)) (fun _ => False) = _
  simp only [OD.of_sc, true_and]
  rfl
/-- a new tree made while own trees are lent -/
def brw1 (g : Env → W D) : Env → W D := fun ρ Q _ => g (lendE ρ) Q (fun _ => False)
theorem e1_brw (h : E1 G X Wx e g) : E1 G X Wx e (brw1 g) := by
  have := en_brw h.en
  rw [brw_of] at this
  exact ⟨this⟩
/-- statements -/
def sSet1 (i : Nat) (g : Env → W D) : Env → Ws := fun ρ Q E => g ρ (fun d => Q .nx (ρ.set i (.ow (OD.of d)))) (fun x => E x ρ)
def sRet1 (g : Env → W D) : Env → Ws := fun ρ Q E => g ρ (fun d => Q (.ro (OD.of d)) ρ) (fun x => E x ρ)
theorem es_set1 {i : Nat} {x : Str} {p' : Pos} (h1 : E1 G X Wx e g) (hp : ∀ t, PE X e t → PS X (.Assign [.Name x p'] e pos) (tAsg t (gName i))) : Es G X Wx (.Assign [.Name x p'] e pos) (sSet1 i g) := es_setO h1.en hp
theorem es_ret1 (h1 : E1 G X Wx e g) : Es G X Wx (.Return (some e) pos) (sRet1 g) := es_retO h1.en
variable {i : Nat} {y : Str} {py spos : Pos}
theorem es_setLc1 (hc : X.calm = true) (hN : X.N.Nodup) (hy : X.N[i]? = some y) (hyl : X.env.scope.names.lookup y = some .local)
    (hsw : swapsWith (.ListComp elt [⟨tg, iter, ifs, 0⟩] sc pos) (some (.Name y py)) spos.line X.env = pure true) (hi : Ei G X Wx tg iter gi) (ok : BlkOk X.N X.env.scope sc own) (hg : ∀ s H0 C cl fp, Eg G (bk X sc s H0 C cl fp) tg sl gt)
    (ht : ∀ s H0 C cl fp, Ets G (bk X sc s H0 C cl fp) WF ifs gb) (he : ∀ s H0 C cl fp, E1 G (bk X sc s H0 C cl fp) WF elt ge) (hsl : ∀ i ∈ sl, i ∈ own.map (·.2)) (hs : ∀ x, foldedSetIterable iter X.env x = pure x := by intro _; rfl) :
    Es G X Wx (.Assign [.Name y py] (.ListComp elt [⟨tg, iter, ifs, 0⟩] sc pos) spos) (sSet1 i (lstV (lcN gi (own.map (·.2)) gt gb ge))) := by
  have := es_setLcO (Wx := Wx) (py := py) (spos := spos) hc hN hy hyl hsw hi ok hg ht (fun s H0 C cl fp => (he s H0 C cl fp).en) hsl hs
  rw [lcON_of] at this
  exact this
end
end QL

set_option Elab.async false
set_option linter.all false
set_option maxRecDepth 100000
set_option maxHeartbeats 2000000
namespace QL
open PySem L2
/-! ### own lists of frozen items -/
def OD.lf (ds : List D) : OD := .lst (ds.map OD.fz)
theorem lf_dd : ∀ ds : List D, OD.ds (ds.map OD.fz) = ds
  | [] => rfl
  | d :: ds => by simp [OD.ds, OD.d, lf_dd ds]
theorem lf_okk : ∀ ds : List D, OD.oks (ds.map OD.fz) = true
  | [] => rfl
  | d :: ds => by simp [OD.oks, OD.ok, lf_okk ds]
@[simp] theorem lf_d {ds : List D} : (OD.lf ds).d = .lst ds := by simp [OD.lf, OD.d, lf_dd]
@[simp] theorem lf_ok {ds : List D} : (OD.lf ds).ok = true := by simp [OD.lf, OD.ok, lf_okk]
section
variable {G : Ctx} {X : Cx} {Wx : WX} {e k o : Expr} {es : List Expr} {st : Stmt} {g gk ga gb : Env → W D} {gs : Env → W (List D)} {gc : Env → W (List Sl)} {pos p p' apos : Pos} {i n : Nat} {x : Str}
theorem Es.mono {f f' : Env → Ws} (h : Es G X Wx st f) (m : ∀ ρ Q E, f' ρ Q E → f ρ Q E) : Es G X Wx st f' := by
  obtain ⟨t, p, ev⟩ := h.ex
  exact ⟨t, p, fun B ρ σ F Hf H Q' E' Dd R q k kx => ev B ρ σ F Hf H Q' E' Dd R (m _ _ _ q) k kx⟩
theorem Ev.mono {f f' : Env → W D} (h : Ev G X Wx e f) (m : ∀ ρ Q E, f' ρ Q E → f ρ Q E) : Ev G X Wx e f' := by
  obtain ⟨t, p, ev⟩ := h.ex
  exact ⟨t, p, fun B ρ σ F Hf H Q' E' Q R q k kx => ev B ρ σ F Hf H Q' E' Q R (m _ _ _ q) k kx⟩
def sSetN (i : Nat) (g : Env → W (List D)) : Env → Ws := fun ρ Q E => g ρ (fun ds => Q .nx (ρ.set i (.ow (OD.lf ds)))) (fun x => E x ρ)
theorem es_setN (h1 : El G X Wx e gs) (hp : ∀ t, PE X e t → PS X (.Assign [.Name x p'] e pos) (tAsg t (gName i))) : Es G X Wx (.Assign [.Name x p'] e pos) (sSetN i gs) := es_setO h1.en hp
theorem ow_tree {ρ : Env} {x : OD} (e : ρ[i]? = some (.ow x)) : (ρ[i]?.bind Sl.tree) = some x := by rw [e]; rfl
theorem ow_put {ρ : Env} {x y : OD} (e : ρ[i]? = some (.ow x)) : putS i y ρ = ρ.set i (.ow y) := by rw [putS_eq e]; rfl
def sAppN (i : Nat) (g : Env → W D) : Env → Ws := fun ρ Q E => ∃ ds, ρ[i]? = some (.ow (OD.lf ds)) ∧ g ρ (fun d => ds.length < sizeLine ∧ Q .nx (ρ.set i (.ow (OD.lf (ds ++ [d]))))) (fun x => E x ρ)
theorem es_appN (h : PE X (.Name x p) (tVar i)) (hp : ∀ to te, PE X (.Name x p) to → PE X e te → PS X st (tDrop (tBM X.K "list" rAppend to (tCons te tNil)))) (hv : Ev G X Wx e g) : Es G X Wx st (sAppN i g) :=
  (es_app hp (ef_var h) hv.en).mono fun ρ Q E ⟨ds, e, q⟩ => by
    refine ⟨OD.lf ds, ow_tree e, ds.map OD.fz, rfl, ?_⟩
    have : (fun d => ds.length < sizeLine ∧ Q .nx (ρ.set i (.ow (OD.lf (ds ++ [d]))))) = (fun d => (ds.map OD.fz).length < sizeLine ∧ Q .nx (putS i (.lst (ds.map OD.fz ++ [.fz d])) ρ)) := by
      funext d
      rw [ow_put e, List.length_map, OD.lf, List.map_append]; rfl
    rw [this] at q
    exact q
def sSetIxN (i : Nat) (gk g : Env → W D) : Env → Ws := fun ρ Q E => ∃ ds, ρ[i]? = some (.ow (OD.lf ds)) ∧ g ρ (fun d => gk ρ (fun k => ∃ j n, k = .int j ∧ ixN ds.length j = some n ∧ Q .nx (ρ.set i (.ow (OD.lf (ds.set n d))))) (fun x => E x ρ)) (fun x => E x ρ)
theorem es_setIxN (h : PE X (.Name x p) (tVar i)) (hp : ∀ to tk te, PE X (.Name x p) to → PE X k tk → PE X e te → PS X st (tAsg te (gSub to tk rSetL))) (hv : Ev G X Wx e g) (hk : Ev G X Wx k gk) : Es G X Wx st (sSetIxN i gk g) :=
  (es_ix hp (ef_var h) hk hv.en).mono fun ρ Q E ⟨ds, e, q⟩ => by
    have eq : (fun d => gk ρ (fun k => ∃ j n, k = .int j ∧ ixN ds.length j = some n ∧ Q .nx (ρ.set i (.ow (OD.lf (ds.set n d))))) (fun x => E x ρ)) =
        (fun d => fVar i ρ (fun p => gk ρ (fun k => ∃ xs j n, p.1 = .lst xs ∧ k = .int j ∧ ixN xs.length j = some n ∧ Q .nx (putS i (p.2 (.lst (xs.set n (.fz d)))) ρ)) (fun x => E x ρ)) (fun x => E x ρ)) := by
      funext d
      have e1 : fVar i ρ (fun p => gk ρ (fun k => ∃ xs j n, p.1 = .lst xs ∧ k = .int j ∧ ixN xs.length j = some n ∧ Q .nx (putS i (p.2 (.lst (xs.set n (.fz d)))) ρ)) (fun x => E x ρ)) (fun x => E x ρ) = gk ρ (fun k => ∃ xs j n, OD.lf ds = .lst xs ∧ k = .int j ∧ ixN xs.length j = some n ∧ Q .nx (putS i (.lst (xs.set n (.fz d))) ρ)) (fun x => E x ρ) := by
        refine propext ⟨fun ⟨y, h1, h2⟩ => ?_, fun h => ⟨OD.lf ds, ow_tree e, h⟩⟩
        rw [ow_tree e] at h1
        cases h1
        exact h2
      rw [e1]
      congr 1
      funext k
      refine propext ⟨fun ⟨j, n, h1, h2, h3⟩ => ⟨ds.map OD.fz, j, n, rfl, h1, by rw [List.length_map]; exact h2, ?_⟩, fun ⟨xs, j, n, h0, h1, h2, h3⟩ => ?_⟩
      · rw [ow_put e, ← List.map_set]; exact h3
      · unfold OD.lf at h0
        cases h0
        rw [List.length_map] at h2
        rw [ow_put e, ← List.map_set] at h3
        exact ⟨j, n, h1, h2, h3⟩
    rw [eq] at q
    exact q
def ixL (i : Nat) (g : Env → W D) : Env → W D := fun ρ Q E => ∃ ds, ρ[i]? = some (.ow (OD.lf ds)) ∧ g ρ (fun k => ∃ j d, k = .int j ∧ atI ds j = some d ∧ Q d) E
theorem ev_ixL (h : PE X (.Name x p) (tVar i)) (hk : Ev G X Wx k gk) (hs : PlainIx k) (hK : X.K = G.K) : Ev G X Wx (.Subscript (.Name x p) k pos) (ixL i gk) :=
  (ev_path (ef_ix (ef_var h) hk hs hK)).mono fun ρ Q E ⟨ds, e, q⟩ => by
    refine ⟨OD.lf ds, ow_tree e, ?_⟩
    have : (fun k => ∃ j d, k = D.int j ∧ atI ds j = some d ∧ Q d) = (fun k => ∃ j, k = D.int j ∧ ixO (OD.lf ds) j (fun q => ∃ d, q.1 = .fz d ∧ Q d) E) := by
      funext k
      refine propext ⟨fun ⟨j, d, h1, h2, h3⟩ => ⟨j, h1, ?_⟩, fun ⟨j, h1, n, z, h2, h3, d, h4, h5⟩ => ?_⟩
      · unfold atI at h2
        cases hn : ixN ds.length j with
        | none => rw [hn] at h2; cases h2
        | some n =>
          rw [hn] at h2
          exact ⟨n, .fz d, by rw [List.length_map]; exact hn, by rw [List.getElem?_map, show ds[n]? = some d from h2]; rfl, d, rfl, h3⟩
      · rw [List.length_map] at h2
        rw [List.getElem?_map, Option.map_eq_some_iff] at h3
        obtain ⟨d', h6, rfl⟩ := h3
        cases h4
        exact ⟨j, d, h1, by unfold atI; rw [h2]; exact h6, h5⟩
    rw [this] at q
    exact q
def lenL (i : Nat) : Env → W D := fun ρ Q _ => ∃ ds, ρ[i]? = some (.ow (OD.lf ds)) ∧ Q (.int ds.length)
theorem ev_lenL {p2 : Pos} (hp : ∀ t, PE X (.Name x p2) t → PE X (.Call (.Name "len" p) [.Name x p2] [] pos) (tCB (rLenX X.K) (tCons t tNil))) (h : PE X (.Name x p2) (tVar i)) : Ev G X Wx (.Call (.Name "len" p) [.Name x p2] [] pos) (lenL i) :=
  (ev_lenF hp (ef_var h)).mono fun ρ Q E ⟨ds, e, q⟩ => ⟨OD.lf ds, ow_tree e, .inl ⟨ds.map OD.fz, rfl, by rw [List.length_map]; exact q⟩⟩
/-! ### pools -/
def poolD (n : Nat) (d : D) : Prop := ∃ ns : List Int, ns.length = n ∧ d = .lst (ns.map D.int)
theorem poolD_o {n : Nat} {d : D} (h : poolD n d) : poolO n (OD.of d) := by
  obtain ⟨ns, hl, rfl⟩ := h
  refine ⟨ns, hl, ?_⟩
  rw [OD.of, OD.ofs_map, List.map_map]
  rfl
def sSetP (n i : Nat) (g : Env → W D) : Env → Ws := fun ρ Q E => g ρ (fun d => poolD n d ∧ Q .nx (ρ.set i .pool)) (fun x => E x ρ)
theorem Rep.pool {B : Bs} {ρ : Env} {σ : St} {F : Fps} {Hf H : Hp} {x : OD} (hG : G.pi = pin n) (R : Rep G B ρ σ F Hf H) (e : ρ[i]? = some (.ow x)) (hx : poolO n x) : Rep G B (ρ.set i .pool) σ (F.set i []) Hf H := by
  have hl : i < ρ.length := (List.getElem?_eq_some_iff.mp e).1
  obtain ⟨u, e1, o, hb⟩ := R.sl i _ e
  obtain ⟨p, vs, rfl, eL, hp, hf, hpi⟩ := ow_pool o hx
  obtain ⟨R1, n1⟩ := R.drop e
  have hpF : p ∈ F.getD i [] := by rw [eL]; simp
  have R2 := R1.give (i := i) (s := .pool) (x := some (.ref p)) (L := []) (fun _ => ⟨p, rfl, hf, .inr (hb p hpF), vs, hp, by rw [hG]; exact hpi⟩) (fun _ => rfl) (by simp) (by simp) (by simp) (by simp) fun _ q hq j hj z => by
    cases hq
    rw [getD_set_ne (fun y => hj y.symm)] at z
    exact flat_apart R.nd hj z hpF
  have es : σ.set i (some (.ref p)) = σ := List.ext_getElem? fun j => by
    by_cases hj : i = j
    · subst hj; rw [List.getElem?_set_self (by rw [R.len]; exact hl), e1]
    · rw [List.getElem?_set_ne hj]
  rw [es, List.set_set, List.set_set] at R2
  exact R2
theorem es_setP (hG : G.pi = pin n) (h1 : E1 G X Wx e g) (hp : ∀ t, PE X e t → PS X (.Assign [.Name x p'] e pos) (tAsg t (gName i))) : Es G X Wx (.Assign [.Name x p'] e pos) (sSetP n i g) := by
  obtain ⟨t, p, ev⟩ := h1.en.ex
  refine ⟨_, hp t p, ?_⟩
  intro B ρ σ F Hf H Q' E' Dd R q k kx
  refine ev B ρ σ F Hf H (fun x => poolO n x ∧ ∃ d, x = OD.of d ∧ Q' .nx (ρ.set i .pool)) _ _ R ?_ (fun u x L Hf' H' R' n1 o nd nw q' => ?_) kx.at
  · have : (fun d => poolD n d ∧ Q' .nx (ρ.set i .pool)) = (fun d => poolO n (OD.of d) ∧ ∃ d', OD.of d = OD.of d' ∧ Q' .nx (ρ.set i .pool)) := by
      funext d
      refine propext ⟨fun h => ⟨poolD_o h.1, d, rfl, h.2⟩, fun ⟨⟨ns, hl, h1⟩, d', _, h2⟩ => ⟨⟨ns, hl, ?_⟩, h2⟩⟩
      have := congrArg OD.d h1
      rw [OD.of_d] at this
      rw [this, OD.d]
      congr 1
      clear this h1 hl
      induction ns with
      | nil => rfl
      | cons a ns ih => simp [OD.ds, OD.d, ih]
    show g ρ _ _
    rw [← this]
    exact q
  · obtain ⟨hx, d, rfl, q'⟩ := q'
    have R2 := R'.setOw (i := i) o nd (fun a ha => R.free1 (nw a ha)) fun a ha => R.freeB (nw a ha)
    by_cases hl : i < ρ.length
    · have R3 := R2.pool hG (i := i) (by rw [List.getElem?_set_self hl]) hx
      rw [List.set_set, List.set_set] at R3
      exact k.nx _ _ _ Hf' H' R3 n1.sm q'
    · have e1 : ∀ s : Sl, ρ.set i s = ρ := fun s => List.set_eq_of_length_le (by omega)
      rw [e1] at R2
      rw [e1] at q'
      exact k.nx _ _ _ Hf' H' R2 n1.sm q'
def newP (n : Nat) (g : Env → W D) (gs : Env → W (List Sl)) : Env → W (List Sl) := fun ρ Q E => g ρ (fun d => poolD n d ∧ gs ρ (fun r => Q (.pool :: r)) E) E
theorem poolO_of {d : D} : poolO n (OD.of d) ↔ poolD n d := ⟨fun ⟨ns, hl, h1⟩ => ⟨ns, hl, by
    have := congrArg OD.d h1
    rw [OD.of_d] at this
    rw [this, OD.d]
    congr 1
    clear this h1 hl
    induction ns with
    | nil => rfl
    | cons a ns ih => simp [OD.ds, OD.d, ih]⟩, poolD_o⟩
theorem ec_newP (hG : G.pi = pin n) (h : E1 G X Wx e g) (hr : Ec G X Wx es gc) (hs : starEach (e :: es) X.env = (false, eval e X.env) :: starEach es X.env := by rfl) : Ec G X Wx (e :: es) (newP n g gc) := by
  have h2 := ec_new hG h.en hr hs
  have : newC n (ofG g) gc = newP n g gc := by
    funext ρ Q E
    show g ρ (fun d => poolO n (OD.of d) ∧ gc ρ (fun r => Q (.pool :: r)) E) E = _
    simp only [poolO_of]
    rfl
  rwa [this] at h2
/-! ### places in trees that are wholly one's own -/
abbrev Pd := D × (D → D)
def Ef1T (G : Ctx) (Wx : WX) (i : Nat) (t : TE) (g : Env → W Pd) : Prop :=
  ∀ (B : Bs) (ρ : Env) (σ : St) (F : Fps) (Hf H : Hp) (Q' : Pd → Prop) (E' : Xc → Prop) (Q : VK), Rep G B ρ σ F Hf H → g ρ Q' E' →
    (∀ s x root u y c C L M Hf' H', Rep G B ρ σ F Hf' H' → Nx ρ σ Hf H Hf' H' → ρ[i]? = some s → s.tree = some x → σ[i]? = some (some root) → (F.getD i []).Perm (M ++ L) → Foc G.cn Hf' H' root u (OD.of y) C L M → (∀ d, C (OD.of d) = OD.of (c d)) → Q' (y, c) → Q u H') → XPost G Wx σ F Hf H B ρ E' → t σ H Q
structure Ef1 (G : Ctx) (X : Cx) (Wx : WX) (i : Nat) (e : Expr) (g : Env → W Pd) : Prop where
  ex : ∃ t, PE X e t ∧ Ef1T G Wx i t g
def plG (g : Env → W Pd) : Env → W Pl := fun ρ Q E => g ρ (fun p => ∀ C, (∀ d, C (OD.of d) = OD.of (p.2 d)) → Q (OD.of p.1, C)) E
theorem Ef1.ef {g : Env → W Pd} (h : Ef1 G X Wx i e g) : Ef G X Wx i e (plG g) := by
  obtain ⟨t, p, ev⟩ := h.ex
  refine ⟨t, p, ?_⟩
  intro B ρ σ F Hf H Q' E' Q R q k kx
  exact ev B ρ σ F Hf H _ E' Q R q (fun s x root u y c C L M Hf1 H1 R1 n1 es et er pm fo hC q1 => k s x root u (OD.of y) C L M Hf1 H1 R1 n1 es et er pm fo (q1 C hC)) kx
def pVar (i : Nat) : Env → W Pd := fun ρ Q _ => ∃ s d, ρ[i]? = some s ∧ s.tree = some (OD.of d) ∧ Q (d, id)
theorem ef1_var (h : PE X (.Name x p) (tVar i)) : Ef1 G X Wx i (.Name x p) (pVar i) := by
  refine ⟨_, h, ?_⟩
  intro B ρ σ F Hf H Q' E' Q R q k kx
  obtain ⟨s, d, hs, e, q⟩ := q
  obtain ⟨root, er, o⟩ := R.tree hs e
  exact ⟨root, er, k s (OD.of d) root root d id id (F.getD i []) [] Hf H R Nx.refl hs e er (by simp) (Foc.here o) (fun _ => rfl) q⟩
def ixPd (y : D) (j : Int) : W Pd := fun Q _ => match y with
  | .lst xs => ∃ n z, ixN xs.length j = some n ∧ xs[n]? = some z ∧ Q (z, fun w => .lst (xs.set n w))
  | .tup xs => ∃ n z, ixN xs.length j = some n ∧ xs[n]? = some z ∧ Q (z, fun w => .tup (xs.set n w))
  | _ => False
def pIx (g : Env → W Pd) (gk : Env → W D) : Env → W Pd := fun ρ Q E => g ρ (fun p => gk ρ (fun k => ∃ j, k = .int j ∧ ixPd p.1 j (fun q => Q (q.1, fun w => p.2 (q.2 w))) E) E) E
theorem ofs_get {xs : List D} {n : Nat} {z : D} (h : xs[n]? = some z) : (OD.ofs xs)[n]? = some (OD.of z) := by rw [OD.ofs_map, List.getElem?_map, h]; rfl
theorem ofs_set {xs : List D} {n : Nat} {w : D} : (OD.ofs xs).set n (OD.of w) = OD.ofs (xs.set n w) := by rw [OD.ofs_map, OD.ofs_map, List.map_set]
theorem ef1_ix {g : Env → W Pd} (h : Ef1 G X Wx i e g) (hk : Ev G X Wx k gk) (hs : PlainIx k) (hK : X.K = G.K) : Ef1 G X Wx i (.Subscript e k pos) (pIx g gk) := by
  obtain ⟨t, p, ev⟩ := h.ex
  obtain ⟨tk, pk, ek⟩ := hk.ex
  refine ⟨_, pe_ix op_ix p pk hs, ?_⟩
  intro B ρ σ F Hf H Q' E' Q R q kk kx
  refine ev B ρ σ F Hf H _ E' _ R q (fun s x root u y c C L M Hf1 H1 R1 n1 es et er pm fo hC q1 => ?_) kx
  refine ek B ρ σ F Hf1 H1 _ E' _ R1 q1 (fun v d Hf2 H2 R2 n2 r2 q2 => ?_) (kx.mono n1)
  obtain ⟨j, rfl, q2⟩ := q2
  cases r2
  have fo2 := fo.nx R1 pm n2
  cases y <;> first | exact False.elim q2 | skip
  · rename_i xs
    obtain ⟨n, z, hn, hz, q2⟩ := q2
    rw [OD.of] at fo2
    obtain ⟨p, vs, v, L5, M2, rfl, hp, hl, hv, fo3, pm2⟩ := fo2.ixL (ofs_get hz)
    rw [ofs_len] at hl
    refine .inl ⟨p, vs, j, v, rfl, rfl, SqL.of hp, by unfold L2.atI; rw [hl, hn]; exact hv, kk s x root v z _ _ L5 M2 Hf2 H2 R2 (n1.trans n2) es et er (pm.trans pm2) fo3 (fun d => ?_) q2⟩
    rw [← hC, OD.of, ofs_set]
  · rename_i xs
    obtain ⟨n, z, hn, hz, q2⟩ := q2
    rw [OD.of] at fo2
    obtain ⟨p, vs, v, L5, M2, rfl, hp, hl, hv, fo3, pm2⟩ := fo2.ixT (ofs_get hz)
    rw [ofs_len] at hl
    refine .inr ⟨p, vs, j, v, rfl, rfl, SqT.of hp, by unfold L2.atI; rw [hl, hn]; exact hv, kk s x root v z _ _ L5 M2 Hf2 H2 R2 (n1.trans n2) es et er (pm.trans pm2) fo3 (fun d => ?_) q2⟩
    rw [← hC, OD.of, ofs_set]
theorem of_lst {d : D} {xs : List OD} (h : OD.of d = .lst xs) : ∃ ds, d = .lst ds ∧ xs = OD.ofs ds := by
  cases d <;> simp only [OD.of, OD.lst.injEq, reduceCtorEq] at h
  exact ⟨_, rfl, h.symm⟩
theorem can (c : D → D) : ∀ d, (fun x : OD => OD.of (c x.d)) (OD.of d) = OD.of (c d) := fun d => by simp only [OD.of_d]
def sApp1 (i : Nat) (gp : Env → W Pd) (g : Env → W D) : Env → Ws := fun ρ Q E => gp ρ (fun p => ∃ xs, p.1 = .lst xs ∧ g ρ (fun z => xs.length < sizeLine ∧ Q .nx (putS i (OD.of (p.2 (.lst (xs ++ [z])))) ρ)) (fun x => E x ρ)) (fun x => E x ρ)
theorem es_app1 {gp : Env → W Pd} (hp : ∀ to te, PE X o to → PE X e te → PS X st (tDrop (tBM X.K "list" rAppend to (tCons te tNil)))) (h : Ef1 G X Wx i o gp) (hv : E1 G X Wx e g) : Es G X Wx st (sApp1 i gp g) := by
  have h2 := es_app hp h.ef hv.en
  have : sApp i (plG gp) (ofG g) = sApp1 i gp g := by
    funext ρ Q E
    show gp ρ _ _ = gp ρ _ _
    congr 1
    funext p
    refine propext ⟨fun h => ?_, fun ⟨xs, e, q⟩ C hC => ⟨OD.ofs xs, by show OD.of p.1 = _; rw [e, OD.of], ?_⟩⟩
    · obtain ⟨xs, e, q⟩ := h (fun x => OD.of (p.2 x.d)) (can p.2)
      obtain ⟨ds, e', rfl⟩ := of_lst e
      refine ⟨ds, e', ?_⟩
      have : (fun z => ds.length < sizeLine ∧ Q .nx (putS i (OD.of (p.2 (.lst (ds ++ [z])))) ρ)) = fun z => (OD.ofs ds).length < sizeLine ∧ Q .nx (putS i (OD.of (p.2 (OD.lst (OD.ofs ds ++ [OD.of z])).d)) ρ) := by
        funext z
        have e2 : OD.lst (OD.ofs ds ++ [OD.of z]) = OD.of (.lst (ds ++ [z])) := by rw [OD.of, OD.ofs_map, OD.ofs_map, List.map_append]; rfl
        rw [ofs_len, e2, OD.of_d]
      rw [this]
      exact q
    · have : (fun z => xs.length < sizeLine ∧ Q .nx (putS i (OD.of (p.2 (.lst (xs ++ [z])))) ρ)) = fun z => (OD.ofs xs).length < sizeLine ∧ Q .nx (putS i (C (OD.lst (OD.ofs xs ++ [OD.of z]))) ρ) := by
        funext z
        have e2 : OD.lst (OD.ofs xs ++ [OD.of z]) = OD.of (.lst (xs ++ [z])) := by rw [OD.of, OD.ofs_map, OD.ofs_map, List.map_append]; rfl
        rw [ofs_len, e2, hC]
      rw [this] at q
      exact q
  rwa [this] at h2
def sClr1 (i : Nat) (gp : Env → W Pd) : Env → Ws := fun ρ Q E => gp ρ (fun p => ∃ xs, p.1 = .lst xs ∧ Q .nx (putS i (OD.of (p.2 (.lst []))) ρ)) (fun x => E x ρ)
theorem es_clr1 {gp : Env → W Pd} (hp : ∀ to, PE X o to → PS X st (tDrop (tBM X.K "list" rClear to tNil))) (h : Ef1 G X Wx i o gp) : Es G X Wx st (sClr1 i gp) := by
  have h2 := es_clr hp h.ef
  have : sClr i (plG gp) = sClr1 i gp := by
    funext ρ Q E
    show gp ρ _ _ = gp ρ _ _
    congr 1
    funext p
    refine propext ⟨fun h => ?_, fun ⟨xs, e, q⟩ C hC => ⟨OD.ofs xs, by show OD.of p.1 = _; rw [e, OD.of], ?_⟩⟩
    · obtain ⟨xs, e, q⟩ := h (fun x => OD.of (p.2 x.d)) (can p.2)
      obtain ⟨ds, e', rfl⟩ := of_lst e
      exact ⟨ds, e', q⟩
    · have e2 : OD.lst [] = OD.of (.lst []) := by rw [OD.of, OD.ofs]
      show Q .nx (putS i (C (OD.lst [])) ρ)
      rw [e2, hC]
      exact q
  rwa [this] at h2
end
end QL

set_option Elab.async false
set_option linter.all false
set_option maxRecDepth 100000
set_option maxHeartbeats 2000000
namespace QL
open PySem L2
open PyProof.Rows (envOfC)
/-! ### new instances: what __init__ makes of self -/
def putD (f : Str) (z : D) : List (Str × D) → List (Str × D)
  | [] => [(f, z)]
  | (g, x) :: r => if g = f then (g, z) :: r else (g, x) :: putD f z r
theorem off_put {f : Str} {z : D} : ∀ {fs : List (Str × D)}, OD.off (putD f z fs) = putO f (OD.of z) (OD.off fs)
  | [] => rfl
  | (g, x) :: r => by
    unfold putD
    by_cases h : g = f
    · simp [h, OD.off, putO]
    · simp [h, OD.off, putO, off_put (fs := r)]
theorem off_len : ∀ fs : List (Str × D), (OD.off fs).length = fs.length
  | [] => rfl
  | (f, x) :: r => by simp [OD.off, off_len r]
def initC (C : Nat) (c : List Sl → W (List (Str × D))) : Cn := fun as Q E => ∃ rest, as = .bw (OD.of (.ins C [])) :: rest ∧ purB rest = true ∧ c rest (fun fs => Q (.fz .non) (.bw (OD.of (.ins C fs)) :: rest)) (fun x => ∀ y, E x (.bw y :: rest))
def mInit (n N C : Nat) (g : Env → Ws) : List Sl → W (List (Str × D)) := fun as Q E => as.length + 1 = n ∧ g (.bw (OD.of (.ins C [])) :: (as ++ List.replicate (N - n) .un)) (fun fl ρ => fl = .nx ∧ ∃ fs, ρ[0]? = some (.bw (OD.of (.ins C fs))) ∧ Q fs) (fun x ρ => (∃ y, ρ[0]? = some (.bw y)) ∧ E x)
def makeF (C : Nat) (c : List Sl → W (List (Str × D))) (gs : Env → W (List Sl)) : Env → W D := fun ρ Q E => gs ρ (fun as => purB as = true ∧ c as (fun fs => Q (.ins C fs)) E) E
theorem off_nil {C : Nat} : OD.of (.ins C []) = .ins C [] := by rw [OD.of, OD.off]
theorem make_of {C : Nat} {c : List Sl → W (List (Str × D))} {gs : Env → W (List Sl)} : makeO C (initC C c) gs = ofG (makeF C c gs) := by
  funext ρ Q E
  show gs ρ _ E = gs ρ _ E
  congr 1
  funext as
  refine propext ⟨fun ⟨rest, e, pu, q⟩ => ?_, fun ⟨pu, q⟩ => ⟨as, by rw [off_nil], pu, ?_⟩⟩
  · cases e
    refine ⟨pu, ?_⟩
    have e1 : (fun fs => ∃ y, RV.fz D.non = RV.fz D.non ∧ (Sl.bw (OD.of (.ins C fs)) :: as)[0]? = some (Sl.bw y) ∧ Q y) = fun fs => Q (OD.of (.ins C fs)) := by
      funext fs
      exact propext ⟨fun ⟨y, _, h, q⟩ => by simp at h; subst h; exact q, fun q => ⟨_, rfl, rfl, q⟩⟩
    have e2 : (fun x => OD → E x) = E := by funext x; exact propext ⟨fun h => h default, fun h _ => h⟩
    rw [e1, e2] at q
    exact q
  · have e1 : (fun fs => ∃ y, RV.fz D.non = RV.fz D.non ∧ (Sl.bw (OD.of (.ins C fs)) :: as)[0]? = some (Sl.bw y) ∧ Q y) = fun fs => Q (OD.of (.ins C fs)) := by
      funext fs
      exact propext ⟨fun ⟨y, _, h, q⟩ => by simp at h; subst h; exact q, fun q => ⟨_, rfl, rfl, q⟩⟩
    have e2 : (fun x => OD → E x) = E := by funext x; exact propext ⟨fun h => h default, fun h _ => h⟩
    rw [e1, e2]
    exact q
section
variable {G : Ctx} {X : Cx} {Wx : WX} {e : Expr} {es : List Expr} {gc : Env → W (List Sl)} {g : Env → W D} {pos p p' : Pos}
theorem e1_make {C : Nat} {x : Str} {c : List Sl → W (List (Str × D))} {kk : Nat} {f : Addr} {fd : FuncData} {ps : List Str} (M : Mk X.K (G.cn C) f) (F : FnOk X.prog X.w X.K X.mg X.base (L2.CX X.prog X.w) kk f fd ps (PSp G (initC C c))) (hr : Room (kk + 1) X.A) (hg : Gl X x) (hm : X.mg x = some (.ref (G.cn C)))
    (hb : Binds X.K fd ps []) (tk : Takes X Wx) (ha : Ec G X Wx (e :: es) gc) (hdb : (x == ("__debug__" : Str)) = false := by decide) (he : starEach (e :: es) X.env = (false, eval e X.env) :: starEach es X.env := by rfl)
    (hpl : (backTo pos (starEach es X.env)).any (·.1) = false := by rfl) : E1 G X Wx (.Call (.Name x p) (e :: es) [] pos) (makeF C c gc) :=
  ⟨by have := en_make (Wx := Wx) (pos := pos) (p := p) M F hr hg hm hb tk ha hdb he hpl; rwa [make_of] at this⟩
/-- self.f = .. -/
def sFldI (C : Nat) (f : Str) (g : Env → W D) : Env → Ws := fun ρ Q E => ∃ fs, ρ[0]? = some (.bw (OD.of (.ins C fs))) ∧ fs.length < 1000 ∧ g ρ (fun z => Q .nx (ρ.set 0 (.bw (OD.of (.ins C (putD f z fs)))))) (fun x => E x ρ)
theorem es_fldI {x fn : Str} {C : Nat} (h : PE X (.Name x p) (tVar 0)) (hv : E1 G X Wx e g) (hC : Cls X.K (G.cn C)) (hN : NoAttr X.K (G.cn C) fn) (hs : swapsWith e (some (.Attribute (.Name x p) fn p')) pos.line X.env = pure false := by rfl) :
    Es G X Wx (.Assign [.Attribute (.Name x p) fn p'] e pos) (sFldI C fn g) :=
  (es_fld (ef_var h) hv.en hC hN hs).mono fun ρ Q E ⟨fs, e, hl, q⟩ => by
    have : (fun z => Q .nx (ρ.set 0 (.bw (OD.of (.ins C (putD fn z fs)))))) = fun z => fVar 0 ρ (fun p => ∃ fs, p.1 = .ins C fs ∧ fs.length < 1000 ∧ Q .nx (putS 0 (p.2 (.ins C (putO fn (OD.of z) fs))) ρ)) (fun x => E x ρ) := by
      funext z
      have e2 : putS 0 (OD.of (.ins C (putD fn z fs))) ρ = ρ.set 0 (.bw (OD.of (.ins C (putD fn z fs)))) := by rw [putS_eq e]; rfl
      refine propext ⟨fun h => ⟨OD.of (.ins C fs), by rw [e]; rfl, OD.off fs, rfl, by rw [off_len]; exact hl, ?_⟩, fun ⟨y, h1, fs', h2, _, h3⟩ => ?_⟩
      · have e1 : OD.ins C (putO fn (OD.of z) (OD.off fs)) = OD.of (.ins C (putD fn z fs)) := by rw [OD.of, off_put]
        show Q .nx (putS 0 (OD.ins C (putO fn (OD.of z) (OD.off fs))) ρ)
        rw [e1, e2]
        exact h
      · rw [e] at h1
        cases h1
        rw [OD.of] at h2
        have h2 : OD.ins C (OD.off fs) = OD.ins C fs' := h2
        cases h2
        have e1 : OD.ins C (putO fn (OD.of z) (OD.off fs)) = OD.of (.ins C (putD fn z fs)) := by rw [OD.of, off_put]
        have h3 : Q .nx (putS 0 (OD.ins C (putO fn (OD.of z) (OD.off fs))) ρ) := h3
        rw [e1, e2] at h3
        exact h3
    rw [this] at q
    exact q
end
section
variable {P : Program} {w : World} {K : PySem.W.Frag} {mg : Str → Option Value} {base : Heap} {G : Ctx} {x qual : Str} {st : Stmt} {f : Addr} {fd : FuncData} {N ps : List Str} {k : Nat} {g : Env → Ws}
theorem fin_bw {x y : OD} {rest : List Sl} {ρ : Env} (pu : purB rest = true) (h : ρ[0]? = some (.bw y)) (hl : rest.length + 1 ≤ ρ.length) : finB (.bw x :: rest) ρ = true ∧ fins (.bw x :: rest) ρ = .bw y :: rest := by
  cases ρ with
  | nil => simp at h
  | cons r ρ =>
    simp at h
    subst h
    have h1 := pur_fin (ρ := ρ) pu
    have h2 := pur_fins (ρ := ρ) pu (by simpa using hl)
    unfold finB at h1 ⊢
    unfold fins at h2 ⊢
    rw [List.zipWith_cons_cons, List.zipWith_cons_cons, List.all_cons, h1, h2]
    exact ⟨rfl, rfl⟩
theorem fn_okI {C : Nat} (F : Fun K x qual st f fd) (S : FnScope N ps (defScope st))
    (hb : ∀ (cdv : Value) (A : Around) (outer : List PySem.Env) (s : Shared) (H : Hp) (E : XK), Room k (A.deeper (envOfC qual (defScope st) s.heap.objs.size f cdv)) → Takes (cxOf (L2.CX P w) P w K mg base N qual (defScope st) f cdv A outer s H E) (fun cls d _ H => E cls d H) →
      Ess G (cxOf (L2.CX P w) P w K mg base N qual (defScope st) f cdv A outer s H E) (fun cls d _ H => E cls d H) (defBody st) g) : FnOk P w K mg base (L2.CX P w) (k + 1) f fd ps (PSp G (initC C (mInit ps.length N.length C g))) := by
  have hn : ps.length ≤ N.length := pre_le (S := S)
  refine F.okX S (fun vs H Q E h => sp_len (fun as Q E ⟨rest, e, _, q⟩ => by rw [e]; exact q.1) h) fun cdv A outer s H vs Q E hr h => ?_
  obtain ⟨Hf, as, Fs, Q', E', sm, As_, nd, np, ⟨rest, rfl, pu, hl, q⟩, k1, kx⟩ := h
  have hl' : (Sl.bw (OD.of (.ins C [])) :: rest).length = ps.length := by simpa using hl
  rw [← hl'] at q hn
  have fin : ∀ {ρ : Env} {y : OD}, ρ[0]? = some (.bw y) → ρ.length = N.length → finB (.bw (OD.of (.ins C [])) :: rest) ρ = true ∧ fins (.bw (OD.of (.ins C [])) :: rest) ρ = .bw y :: rest := fun h le => fin_bw pu h (by rw [le]; simpa using hn)
  have finb : ∀ {ρ : Env} {y : OD}, ρ[0]? = some (.bw y) → finB (.bw (OD.of (.ins C [])) :: rest) ρ = true := fun {ρ y} h => by
    cases ρ with
    | nil => simp at h
    | cons r ρ =>
      simp at h
      subst h
      have h1 := pur_fin (ρ := ρ) pu
      unfold finB at h1 ⊢
      rw [List.zipWith_cons_cons, List.all_cons, h1]; rfl
  refine body_ok (hb cdv A outer s H E hr (takes_of rfl rfl rfl rfl)) (fun _ _ _ _ z => z) sm As_ nd np hn q (fun fl ρ h => ?_) (fun x ρ h => ?_) (fun fl ρ rv v Fs' Hf' H' q le e c r => ?_) (fun x ρ cls d Fs' Hf' H' e le c xr => ?_)
  · obtain ⟨rfl, fs, h, _⟩ := h
    exact ⟨finb h, by simp, by simp⟩
  · obtain ⟨⟨y, h⟩, _⟩ := h
    exact finb h
  · obtain ⟨rfl, fs, h, q⟩ := q
    rw [(fin h le).2] at c
    have e : rv = .fz .non := e
    subst e
    exact k1 _ _ _ _ _ _ c r q
  · obtain ⟨⟨y, h⟩, e⟩ := e
    rw [(fin h le).2] at c
    exact kx _ _ _ _ _ _ _ c xr (e y)
theorem initC.mono {C : Nat} {m c : List Sl → W (List (Str × D))} (h : ∀ as Q E, c as Q E → m as Q E) : ∀ as Q E, initC C c as Q E → initC C m as Q E := fun as Q E ⟨rest, e, pu, q⟩ => ⟨rest, e, pu, h _ _ _ q⟩
end
end QL

set_option Elab.async false
set_option linter.all false
set_option maxRecDepth 100000
set_option maxHeartbeats 2000000
namespace QL
open PySem L2
/-- return (a, x): x a tree of one's own -/
def sRetPair (i : Nat) (g : Env → W D) : Env → Ws := fun ρ Q E => ∃ d, ρ[i]? = some (.ow (OD.of d)) ∧ g ρ (fun a => (a.sc = true ∧ 2 ≤ sizeLine) ∧ Q (.ro (OD.of (.tup [a, d]))) (ρ.set i .un)) (fun x => E x ρ)
theorem es_retPair {G : Ctx} {X : Cx} {Wx : WX} {e : Expr} {g : Env → W D} {i : Nat} {x : Str} {p' p2 pos : Pos} {x1} (h1 : Ev G X Wx e g) (h : PE X (.Name x p') (tVar i)) (hs2 : starEach [e, .Name x p'] X.env = (false, eval e X.env) :: starEach [.Name x p'] X.env := by rfl) (hs : starEach [.Name x p'] X.env = (false, eval (.Name x p') X.env) :: starEach [] X.env := by rfl) :
    Es G X Wx (.Return (some (.Tuple [e, .Name x p'] x1 p2)) pos) (sRetPair i g) := by
  obtain ⟨t, p, ev⟩ := h1.ex
  refine ⟨_, ps_ret (pe_tup (pa_cons p (pa_cons h pa_nil hs) hs2)), ?_⟩
  intro B ρ σ F Hf H Q' E' Dd R q k kx
  obtain ⟨d, e, q⟩ := q
  refine ev B ρ σ F Hf H _ _ _ R q (fun v a Hf1 H1 R1 n1 r q1 => ?_) kx.at
  obtain ⟨⟨ha, hz⟩, q1⟩ := q1
  obtain ⟨u, e1, o, hb⟩ := R1.sl i _ e
  refine ⟨_, e1, hz, fun p hp => ?_⟩
  have hpf := R1.sm.free hp
  have R2 := R1.laid (o := .tup [v, u]) hp
  obtain ⟨R3, n3⟩ := R2.drop e
  have o2 : Ow G.cn Hf1 (upd H1 p (.tup [v, u])) u (OD.of d) (F.getD i []) := o.mono (Sm.refl _) fun b hb => ⟨upd_ne fun z => (o.there b hb).1 (by rw [z]; exact hp), (o.there b hb).2⟩
  have hpF : p ∉ F.flatten := fun z => (R1.cell z).1 hp
  have hv : Rp G.cn Hf1 v a := r
  have ot : Ow G.cn Hf1 (upd H1 p (.tup [v, u])) (.ref p) (OD.of (.tup [a, d])) (p :: ([] ++ (F.getD i [] ++ []))) := by
    rw [OD.of, OD.ofs, OD.ofs, OD.ofs, OD.of_scal ha]
    exact .tup upd_same hpf (.cons (.fz hv) (.cons o2 .nil))
  simp only [List.nil_append, List.append_nil] at ot
  refine k.ro _ σ _ _ _ _ Hf1 _ R3 n1.sm ot (List.nodup_cons.mpr ⟨fun z => hpF (mem_flat z), flat_at R.nd⟩) (fun b hb' => ?_) (fun b hb' => ?_) q1
  · rcases List.mem_cons.mp hb' with rfl | h
    · exact R1.freeB hp
    · exact hb b h
  · rcases List.mem_cons.mp hb' with rfl | h
    · refine ⟨fun z => ?_, fun ⟨j, j1, j2⟩ => ?_⟩
      · rcases mem_flat_set z with z | ⟨j, _, z⟩
        · simp at z
        · exact hpF (mem_flat z)
      · have hj : i ≠ j := fun z => by
          subst z
          rw [List.getElem?_set_self (List.getElem?_eq_some_iff.mp e).1] at j1
          cases j1
        rw [List.getElem?_set_ne hj] at j1
        exact (R1.free1 hp).2 ⟨j, j1, j2⟩
    · exact n3 b h
end QL

set_option Elab.async false
set_option linter.all false
set_option maxRecDepth 100000
set_option maxHeartbeats 2000000
namespace QL
open PySem L2
open PyProof.Rows (envOfC)
/-! ### x[k] by the class's own __getitem__ -/
def tGetX (C : Addr) (sp : Sp) (E : St → XK) (ta tb : TE) : TE := fun σ H Q => ta σ H fun x H1 => tb σ H1 fun y H2 => ∃ a dx fs, x = .ref a ∧ H2 a = some (.ins C dx fs) ∧ sp [x, y] H2 Q (E σ)
theorem fn_in {K : PySem.W.Frag} {x qual : Str} {st : Stmt} {f : Addr} {fd : FuncData} (F : Fun K x qual st f fd) : PySem.W.fnIn K f = true := by
  obtain ⟨oc, od, kV, doc, pm, an, cdv, ct, osl, rfl, e, _⟩ := F.ex
  unfold PySem.W.fnIn
  rw [e]
theorem pe_getX {X : Cx} {o k : Expr} {pos : Pos} {C f : Addr} {CX : CXT} {kk : Nat} {fd : FuncData} {ps : List Str} {sp : Sp} {E : St → XK} {ta tb : TE} (ha : PE X o ta) (hk : PE X k tb) (hm : Meth X.K C "__getitem__" f) (hf : PySem.W.fnIn X.K f = true) (F : FnOk X.prog X.w X.K X.mg X.base CX kk f fd ps sp) (hr : Room (kk + 1) X.A) (hb : Binds X.K fd ps [])
    (hx : ∀ σ, PassesAt CX X σ (E σ)) (hsl : ∀ x i, subscripted k true (.ref x) i = runValue (.builtin "lifetime.subscript" ⟨[.ref x, i], []⟩) := by intro _ _; with_unfolding_all rfl) :
    PE X (.Subscript o k pos) (tGetX C sp E ta tb) := by
  refine ⟨fun pins s σ H Q I h => ?_⟩
  refine PyProof.Rows.Subscript_ (binT ha hk (R := fun x y H2 => ∃ a dx fs, x = .ref a ∧ H2 a = some (.ins C dx fs) ∧ sp [x, y] H2 Q (E σ)) I h fun v u s2 x y H2 I2 rx ry q => ?_)
  obtain ⟨a, dx, fs, ex, ea, q⟩ := q
  subst ex
  obtain rfl : v = Value.ref a := rx
  obtain ⟨mA, J, _⟩ := ins_get I2.hok ea
  obtain ⟨od, J, _⟩ := J.look
  obtain ⟨m, hF⟩ := I2.fr
  refine PySem.W.sub_K hF I2.ok.mod.kin J hm.at_ hf hm.fn ?_ (hsl _ _)
  have sb : L2.Sub X kk X.A.in1 := L2.Sub.in1 ⟨hr, rfl⟩
  have e0 : Env0 X.prog X.w X.K X.mg X.base X.A.in1 X.stack s2 H2 := by
    have e := I2.env0
    exact ⟨by rw [sb.fr]; exact e.frames, e.mod, e.bs, e.bsz, e.funs, e.frf, e.hok, e.bare⟩
  have hl := F.len _ _ _ _ q
  have r2 : Vals [V.ref a, y] [Value.ref a, u] := .cons rfl (.cons ry .nil)
  refine wpAny_call (codeAny_mono (F.run X.A.in1 X.stack s2 H2 ⟨[.ref a, u], []⟩ [.ref a, u] [.ref a, y] Q (E σ) sb.room e0 (by
    have := hb s2 [.ref a, u] I2.kIn (by simpa using hl)
    simpa using this) r2 q) fun r s' hq => ?_)
  cases r with
  | error e => exact hx σ pins H2 s2 e s' I2 hq
  | ok fl =>
    cases fl with
    | ret w => exact I2.after hq
    | next => exact False.elim hq
    | brk => exact False.elim hq
    | cont => exact False.elim hq
section
variable {G : Ctx} {X : Cx} {Wx : WX} {o k : Expr} {go gk : Env → W D} {pos : Pos}
def getF (C : Nat) (m : List Sl → W D) (go gk : Env → W D) : Env → W D := fun ρ Q E => go ρ (fun r => gk ρ (fun d => (∃ fs, r = .ins C fs) ∧ m [.fz r, .fz d] Q E) E) E
theorem ent_get {C : Nat} {m : List Sl → W D} {ta tb : TE} (ho : EvT G Wx ta go) (hk : EvT G Wx tb gk) : EnT G Wx (tGetX (G.cn C) (PSp G (liftN (ofW m))) (WE Wx) ta tb) (ofG (getF C m go gk)) := by
  intro B ρ σ F Hf H Q' E' Q R q kk kx
  refine ho B ρ σ F Hf H _ E' _ R q (fun v d Hf1 H1 R1 n1 r1 q1 => ?_) kx
  refine hk B ρ σ F Hf1 H1 _ E' _ R1 q1 (fun u e Hf2 H2 R2 n2 r2 q2 => ?_) (kx.mono n1)
  obtain ⟨⟨fs, rfl⟩, q2⟩ := q2
  have r1' := Rp.mono n2.sm r1
  cases r1 with
  | @ins pa dx _ gs' _ h r =>
    refine ⟨pa, dx, gs', rfl, R2.sm _ _ (n2.sm _ _ h), ?_⟩
    have A2 : PAs G ρ σ H1 Hf2 H2 [.ref pa, u] [.fz (.ins C fs), .fz e] := .cons (s := .fz (.ins C fs)) r1' (.cons (s := .fz e) r2 .nil)
    refine ⟨Hf2, [.fz (.ins C fs), .fz e], _, fun rv _ => ∃ d, rv = .ow d ∧ Q' d, fun x _ => E' x, R2.sm, A2.as, by rw [rep_nil]; simp, by rw [rep_nil]; simp, ⟨rfl, ?_⟩, fun v rv as' Fs' Hf' H' c r q' => ?_, fun x cls d as' Fs' Hf' H' c xr e => ?_⟩
    · have : (fun d => ∃ d', RV.ow d = .ow d' ∧ Q' d') = Q' := funext fun d => propext ⟨fun ⟨d', e, q⟩ => by cases e; exact q, fun q => ⟨d, rfl, q⟩⟩
      rw [this]
      exact q2
    · obtain ⟨x, rfl, q'⟩ := q'
      obtain ⟨R3, n3⟩ := R1.call R2 n2 A2 rep_nil c
      obtain ⟨L, o, nd, nw, _⟩ := r
      exact kk v x L Hf' H' R3 (n1.trans n3) o nd (fun a ha => (n1.trans n2).nn R.sm R2.sm (nw a ha)) q'
    · obtain ⟨R3, n3⟩ := R1.call R2 n2 A2 rep_nil c
      exact kx x cls d Hf' H' R3 (n1.trans n3) xr e
theorem e1_get {C : Nat} {m : List Sl → W D} {kk : Nat} {f : Addr} {fd : FuncData} {ps : List Str} {x qual : Str} {st : Stmt} (ho : Ev G X Wx o go) (hk : Ev G X Wx k gk) (hm : Meth X.K (G.cn C) "__getitem__" f) (Fn : Fun X.K x qual st f fd) (F : FnOk X.prog X.w X.K X.mg X.base (L2.CX X.prog X.w) kk f fd ps (PSp G (liftN (ofW m)))) (hr : Room (kk + 1) X.A)
    (hb : Binds X.K fd ps []) (tk : Takes X Wx) (hsl : ∀ x i, subscripted k true (.ref x) i = runValue (.builtin "lifetime.subscript" ⟨[.ref x, i], []⟩) := by intro _ _; with_unfolding_all rfl) :
    E1 G X Wx (.Subscript o k pos) (getF C m go gk) := by
  obtain ⟨to, po, eo⟩ := ho.ex
  obtain ⟨tk', pk, ek⟩ := hk.ex
  exact ⟨_, pe_getX po pk hm (fn_in Fn) F hr hb (fun σ => passAt tk σ) hsl, ent_get eo ek⟩
end

/-! ### a == b by the class's own __eq__ -/
def rEqX (C : Addr) (sp : Sp) : R2 := fun x y H Q => ∃ a b dx dy fs gs, x = .ref a ∧ y = .ref b ∧ H a = some (.ins C dx fs) ∧ H b = some (.ins C dy gs) ∧ sp [x, y] H (fun v H' => (∃ k, v = .bl k) ∧ Q v H') (fun _ _ _ => False)
theorem op_eqX {X : Cx} {C f : Addr} {kk : Nat} {fd : FuncData} {ps : List Str} {sp : Sp} (hm : Meth X.K C "__eq__" f) (F : FnOk X.prog X.w X.K X.mg X.base (L2.CX X.prog X.w) kk f fd ps sp) (hr : Room kk X.A) (hb : Binds X.K fd ps []) : OpR X (compareOp .Eq) (rEqX C sp) := by
  intro pins s σ H x y v u Q I rx ry q
  obtain ⟨a, b, dx, dy, fs, gs, rfl, rfl, ha, hb', q⟩ := q
  obtain rfl : v = Value.ref a := rx
  obtain rfl : u = Value.ref b := ry
  obtain ⟨mA, J, _⟩ := ins_get I.hok ha
  obtain ⟨mB, J', _⟩ := ins_get I.hok hb'
  obtain ⟨od, J, _⟩ := J.look
  obtain ⟨od', J', _⟩ := J'.look
  obtain ⟨m, hF⟩ := I.fr
  refine PySem.W.cmp_K (op := .Eq) (tb := .ref C) hr.units0 hF I.ok.mod.kin J J'.type (by simp [PySem.W.notFirst]) hm.at_ hm.fn ?_
  have e0 : Env0 X.prog X.w X.K X.mg X.base X.A X.stack s H := I.env0
  have hl := F.len _ _ _ _ q
  have r2 : Vals [V.ref a, V.ref b] [Value.ref a, Value.ref b] := .cons rfl (.cons rfl .nil)
  refine wpAny_call (codeAny_mono (F.run X.A X.stack s H ⟨[.ref a, .ref b], []⟩ [.ref a, .ref b] [.ref a, .ref b] _ _ hr e0 (by
    have := hb s [.ref a, .ref b] I.kIn (by simpa using hl)
    simpa using this) r2 q) fun r s' hq => ?_)
  cases r with
  | error e =>
    obtain ⟨_, _, _, _, _, _, _, _, _, _, _, _, h⟩ := hq
    exact h.elim
  | ok fl =>
    cases fl with
    | ret w =>
      obtain ⟨z, H', I', rz, ⟨k, ez⟩, q2⟩ := I.after hq
      subst ez
      cases rz
      exact ⟨.bl k, H', I', rfl, q2⟩
    | next => exact False.elim hq
    | brk => exact False.elim hq
    | cont => exact False.elim hq
section
variable {G : Ctx}
def eqX (C : Nat) (m : List Sl → W D) : D → D → W D := fun a b Q _ => (∃ fs, a = .ins C fs) ∧ (∃ gs, b = .ins C gs) ∧ m [.fz a, .fz b] (fun d => (∃ k, d = .bl k) ∧ Q d) (fun _ => False)
theorem o_eqX {C : Nat} {m : List Sl → W D} : Op2 G (rEqX (G.cn C) (PSp G (liftP m))) (eqX C m) := by
  intro B ρ σ F Hf H x y a b Q' E' Q R rx ry q k
  obtain ⟨⟨fs, rfl⟩, ⟨gs, rfl⟩, q⟩ := q
  have rx' := rx
  have ry' := ry
  cases rx with
  | @ins pa dx _ vs _ h r =>
  cases ry with
  | @ins pb dy _ us _ h' r' =>
    refine ⟨pa, pb, dx, dy, vs, us, rfl, rfl, R.sm _ _ h, R.sm _ _ h', ?_⟩
    have A2 : PAs G ρ σ H Hf H [.ref pa, .ref pb] [.fz (.ins C fs), .fz (.ins C gs)] := .cons (s := .fz (.ins C fs)) rx' (.cons (s := .fz (.ins C gs)) ry' .nil)
    refine ⟨Hf, [.fz (.ins C fs), .fz (.ins C gs)], _, fun rv _ => ∃ d, rv = .fz d ∧ (∃ k, d = .bl k) ∧ Q' d, fun x _ => False, R.sm, A2.as, by rw [rep_nil]; simp, by rw [rep_nil]; simp, ⟨rfl, ?_⟩, fun v rv as' Fs' Hf' H' c r q' => ?_, fun x cls d as' Fs' Hf' H' c xr e => e⟩
    · have : (fun d => ∃ d', RV.fz d = .fz d' ∧ (∃ k, d' = .bl k) ∧ Q' d') = fun d => (∃ k, d = .bl k) ∧ Q' d := funext fun d => propext ⟨fun ⟨d', e, q⟩ => by cases e; exact q, fun q => ⟨d, rfl, q⟩⟩
      rw [this]
      exact q
    · obtain ⟨d, rfl, ⟨kb, rfl⟩, q'⟩ := q'
      obtain ⟨R3, n3⟩ := R.call R Nx.refl A2 rep_nil c
      have hv : v = .bl kb := by cases r; rfl
      exact ⟨⟨kb, hv⟩, k v (.bl kb) Hf' H' R3 n3 r q'⟩
end
end QL

set_option Elab.async false
set_option linter.all false
set_option maxRecDepth 100000
set_option maxHeartbeats 2000000
namespace QL
open PySem L2
/-! ### a part of an own tree under a name of its own, for a while -/
def D.isR : D → Bool | .lst _ => true | .tup _ => true | .ins _ _ => true | .dK _ => true | .dT _ => true | _ => false
theorem Ow.ref {cn : Nat → Addr} {Hf H : Hp} {u : V} {d : D} {L : List Addr} (o : Ow cn Hf H u (OD.of d) L) (h : d.isR = true) : ∃ a, u = .ref a := by
  cases d <;> simp [D.isR] at h <;> rw [OD.of] at o <;> cases o <;> exact ⟨_, rfl⟩
def sLend (i j : Nat) (gp : Env → W Pd) : Env → Ws := fun ρ Q E => i ≠ j ∧ (∃ d0, ρ[i]? = some (.ow (OD.of d0))) ∧ gp ρ (fun p => p.1.isR = true ∧ ∀ a, Q .nx ((ρ.set i (.hw a p.2)).set j (.ln a (OD.of p.1)))) (fun x => E x ρ)
def sFill (i j : Nat) (g : Env → Ws) : Env → Ws := fun ρ Q E => ∃ a c d, i ≠ j ∧ ρ[i]? = some (.hw a c) ∧ ρ[j]? = some (.ln a (OD.of d)) ∧ g ((ρ.set i (.ow (OD.of (c d)))).set j .un) Q E
section
variable {G : Ctx} {X : Cx} {Wx : WX} {e k o : Expr} {st : Stmt} {sts : List Stmt} {f : Env → Ws} {g gk : Env → W D} {gp : Env → W Pd} {pos p p' : Pos} {i j : Nat} {x : Str}
theorem es_lend (h : Ef1 G X Wx i e gp) (hp : ∀ t, PE X e t → PS X (.Assign [.Name x p'] e pos) (tAsg t (gName j))) : Es G X Wx (.Assign [.Name x p'] e pos) (sLend i j gp) := by
  obtain ⟨t, pe, ev⟩ := h.ex
  refine ⟨_, hp t pe, ?_⟩
  intro B ρ σ F Hf H Q' E' Dd R q k kx
  obtain ⟨hij, ⟨d0, e0⟩, q⟩ := q
  refine ev B ρ σ F Hf H _ _ _ R q (fun s x root u y c C L M Hf1 H1 R1 n1 es et er pm fo hC q1 => ?_) kx.at
  obtain ⟨hr, q1⟩ := q1
  rw [e0] at es
  cases es
  obtain ⟨a, rfl⟩ := fo.sub.ref hr
  obtain ⟨u0, eu, o0, hb⟩ := R1.sl i _ e0
  have hl : i < ρ.length := (List.getElem?_eq_some_iff.mp e0).1
  have ndML : (M ++ L).Nodup := pm.nodup_iff.mp (flat_at R1.nd)
  have ndd := List.nodup_append.mp ndML
  have inM : ∀ {b}, b ∈ M → b ∈ F.getD i [] := fun h => pm.mem_iff.mpr (List.mem_append_left _ h)
  have inL : ∀ {b}, b ∈ L → b ∈ F.getD i [] := fun h => pm.mem_iff.mpr (List.mem_append_right _ h)
  have bk : Bk G.cn Hf1 H1 root a c M := ⟨C, hC, fun b hb => R1.cell (mem_flat (inM hb)), fo.back⟩
  have R2 := R1.change (s' := .hw a c) (L := M) e0 rfl (Sm.refl _) R1.sm (fun b _ _ h => ⟨rfl, h⟩) (fun b h => h) (fun b hb _ => (R1.cell (mem_flat hb)).2) ⟨root, er, bk, fun b h => hb b (inM h)⟩ ndd.1 (fun b h => .inl (inM h))
  have R3 := R2.give (i := j) (s := .ln a (OD.of y)) (x := some (.ref a)) (L := L) (fun _ => ⟨rfl, fo.sub, fun b h => hb b (inL h)⟩) (fun h => by cases h) ndd.2.1 (fun b hbL m hm z => ?_) (fun b h => .inl (hb b (inL h))) (fun b h z => ?_) (fun h => by cases h)
  · exact k.nx _ _ _ Hf1 H1 R3 n1.sm (q1 a)
  · by_cases e : i = m
    · subst e
      rw [getD_set_self (by rw [R1.lenF]; exact hl)] at z
      exact ndd.2.2 b z b hbL rfl
    · rw [getD_set_ne e] at z
      exact flat_apart R1.nd e (inL hbL) z
  · obtain ⟨m, z1, z2⟩ := z
    have : i ≠ m := fun e => by subst e; rw [List.getElem?_set_self hl] at z1; cases z1
    rw [List.getElem?_set_ne this] at z1
    exact R1.np b (mem_flat (inL h)) ⟨m, z1, z2⟩
theorem ess_fill (h1 : Ess G X Wx sts f) : Ess G X Wx sts (sFill i j f) := by
  obtain ⟨t, p, ev⟩ := h1.ex
  refine ⟨_, p, ?_⟩
  intro B ρ σ F Hf H Q' E' Dd R q k kx
  obtain ⟨a, c, d, hij, ei, ej, q⟩ := q
  obtain ⟨u, eu, ⟨C, hC, hcell, hbk⟩, hbM⟩ := R.sl i _ ei
  obtain ⟨ej1, oj, hbL⟩ := R.sl j _ ej
  have hli : i < ρ.length := (List.getElem?_eq_some_iff.mp ei).1
  obtain ⟨F2, o2, pm⟩ := hbk Hf H (OD.of d) _ (Sm.refl _) (fun b hb => ⟨rfl, (hcell b hb).2⟩) oj
  rw [hC] at o2
  have nd2 : F2.Nodup := pm.nodup_iff.mpr (List.nodup_append.mpr ⟨flat_at R.nd, flat_at R.nd, fun b hb b' hb' z => by subst z; exact flat_apart R.nd hij hb hb'⟩)
  obtain ⟨R1, n1⟩ := R.drop ej
  have mem : ∀ {b}, b ∈ F2 → b ∈ F.getD i [] ∨ b ∈ F.getD j [] := fun h => by
    have := pm.mem_iff.mp h
    exact List.mem_append.mp this
  have es : σ.set i (some u) = σ := List.ext_getElem? fun m => by
    by_cases hm : i = m
    · subst hm; rw [List.getElem?_set_self (by rw [R.len]; exact hli), eu]
    · rw [List.getElem?_set_ne hm]
  have R2 := R1.give (i := i) (s := .ow (OD.of (c d))) (x := some u) (L := F2) (fun _ => ⟨u, rfl, o2, fun b hb => (mem hb).elim (hbM b) (hbL b)⟩) (fun h => by cases h) nd2 (fun b hb m hm z => ?_) (fun b hb => .inl ((mem hb).elim (hbM b) (hbL b))) (fun b hb z => ?_) (fun h => by cases h)
  · rw [es] at R2
    have e1 : (ρ.set j Sl.un).set i (.ow (OD.of (c d))) = (ρ.set i (.ow (OD.of (c d)))).set j .un := List.set_comm _ _ hij.symm
    rw [e1] at R2
    exact ev B _ σ _ Hf H Q' E' Dd R2 q k kx
  · by_cases hj : j = m
    · subst hj
      have hlj : j < F.length := by rw [R.lenF]; exact (List.getElem?_eq_some_iff.mp ej).1
      rw [getD_set_self hlj] at z
      simp at z
    · rw [getD_set_ne hj] at z
      rcases mem hb with h | h
      · exact flat_apart R.nd (fun e => hm e.symm) h z
      · exact flat_apart R.nd hj h z
  · obtain ⟨m, z1, z2⟩ := z
    have hj : j ≠ m := fun e => by subst e; rw [List.getElem?_set_self (List.getElem?_eq_some_iff.mp ej).1] at z1; cases z1
    rw [List.getElem?_set_ne hj] at z1
    rcases mem hb with h | h
    · exact R.np b (mem_flat h) ⟨m, z1, z2⟩
    · exact R.np b (mem_flat h) ⟨m, z1, z2⟩
/-- x.path[k] = v -/
def sIx1 (i : Nat) (gp : Env → W Pd) (gk g : Env → W D) : Env → Ws := fun ρ Q E => g ρ (fun z => gp ρ (fun p => gk ρ (fun k => ∃ xs j n, p.1 = .lst xs ∧ k = .int j ∧ ixN xs.length j = some n ∧ Q .nx (putS i (OD.of (p.2 (.lst (xs.set n z)))) ρ)) (fun x => E x ρ)) (fun x => E x ρ)) (fun x => E x ρ)
theorem es_ix1 (hp : ∀ to tk te, PE X o to → PE X k tk → PE X e te → PS X st (tAsg te (gSub to tk rSetL))) (h : Ef1 G X Wx i o gp) (hk : Ev G X Wx k gk) (hv : E1 G X Wx e g) : Es G X Wx st (sIx1 i gp gk g) := by
  have h2 := es_ix hp h.ef hk hv.en
  have : sIx i (plG gp) gk (ofG g) = sIx1 i gp gk g := by
    funext ρ Q E
    show g ρ _ _ = g ρ _ _
    congr 1
    funext z
    show gp ρ _ _ = gp ρ _ _
    congr 1
    funext p
    let KC : (OD → OD) → D → Prop := fun C k => ∃ xs j n, OD.of p.1 = .lst xs ∧ k = .int j ∧ ixN xs.length j = some n ∧ Q .nx (putS i (C (.lst (xs.set n (OD.of z)))) ρ)
    have key : ∀ C : OD → OD, (∀ d, C (OD.of d) = OD.of (p.2 d)) → KC C = fun k => ∃ xs j n, p.1 = .lst xs ∧ k = .int j ∧ ixN xs.length j = some n ∧ Q .nx (putS i (OD.of (p.2 (.lst (xs.set n z)))) ρ) := fun C hC => by
      funext k
      refine propext ⟨fun ⟨xs, j, n, e, ek, hn, q⟩ => ?_, fun ⟨xs, j, n, e, ek, hn, q⟩ => ⟨OD.ofs xs, j, n, by show OD.of p.1 = _; rw [e, OD.of], ek, by rw [ofs_len]; exact hn, ?_⟩⟩
      · obtain ⟨ds, e', rfl⟩ := of_lst e
        refine ⟨ds, j, n, e', ek, by rw [ofs_len] at hn; exact hn, ?_⟩
        have e2 : OD.lst ((OD.ofs ds).set n (OD.of z)) = OD.of (.lst (ds.set n z)) := by rw [OD.of, ofs_set]
        have q : Q .nx (putS i (C (OD.lst ((OD.ofs ds).set n (OD.of z)))) ρ) := q
        rw [e2, hC] at q
        exact q
      · have e2 : OD.lst ((OD.ofs xs).set n (OD.of z)) = OD.of (.lst (xs.set n z)) := by rw [OD.of, ofs_set]
        show Q .nx (putS i (C (OD.lst ((OD.ofs xs).set n (OD.of z)))) ρ)
        rw [e2, hC]
        exact q
    refine propext ⟨fun h => ?_, fun h C hC => ?_⟩
    · have t : gk ρ (KC fun x => OD.of (p.2 x.d)) (fun x => E x ρ) := h (fun x => OD.of (p.2 x.d)) (can p.2)
      rw [key (fun x => OD.of (p.2 x.d)) (can p.2)] at t
      exact t
    · show gk ρ (KC C) (fun x => E x ρ)
      rw [key C hC]
      exact h
  rwa [this] at h2
def lenP (i : Nat) : Env → W D := fun ρ Q _ => ∃ s xs, ρ[i]? = some s ∧ s.tree = some (OD.of (.lst xs)) ∧ Q (.int xs.length)
theorem ev_lenP {p2 : Pos} (hp : ∀ t, PE X (.Name x p2) t → PE X (.Call (.Name "len" p) [.Name x p2] [] pos) (tCB (rLenX X.K) (tCons t tNil))) (h : PE X (.Name x p2) (tVar i)) : Ev G X Wx (.Call (.Name "len" p) [.Name x p2] [] pos) (lenP i) :=
  (ev_lenF hp (ef_var h)).mono fun ρ Q E ⟨s, xs, e, t, q⟩ => ⟨OD.of (.lst xs), by rw [e]; exact t, .inl ⟨OD.ofs xs, by rw [OD.of], by rw [ofs_len]; exact q⟩⟩
end
end QL

set_option Elab.async false
set_option linter.all false
set_option maxRecDepth 100000
set_option maxHeartbeats 2000000
namespace QL
open PySem L2
/-- isinstance(x, C): x an instance of the text's own class C -/
def isCD (C : Nat) (d : D) : W D := fun Q _ => (∃ fs, d = .ins C fs) ∧ Q (.bl true)
theorem ev_isC {G : Ctx} {X : Cx} {Wx : WX} {e : Expr} {g : Env → W D} {pos p p2 : Pos} {C : Nat} {x2 : Str} (hC : C8.InsC X.K (G.cn C)) (hg2 : Gl X x2) (hm2 : X.mg x2 = some (.ref (G.cn C))) (ha : Ev G X Wx e g) (hg : Gl X "isinstance") (hm : X.mg "isinstance" = none) (hd2 : (x2 == ("__debug__" : Str)) = false := by decide)
    (he : starEach (e :: [.Name x2 p2]) X.env = (false, eval e X.env) :: starEach [.Name x2 p2] X.env := by rfl) (he2 : starEach (.Name x2 p2 :: []) X.env = (false, eval (.Name x2 p2) X.env) :: starEach [] X.env := by rfl) (hpl : (backTo pos (starEach [.Name x2 p2] X.env)).any (·.1) = false := by rfl) :
    Ev G X Wx (.Call (.Name "isinstance" p) [e, .Name x2 p2] [] pos) (un1 (isCD C) g) := by
  obtain ⟨ta, pa, ea⟩ := ha.ex
  refine ⟨_, pe_callB (C8.call_isC hC) hg hm (by decide +kernel) (pa_cons pa (pa_cons (pe_glob (v := .ref (G.cn C)) hg2 hm2 rfl hd2) pa_nil he2) he) (by decide) (by decide) he hpl, ?_⟩
  intro B ρ σ F Hf H Q' E' Q R q k kx
  refine ea B ρ σ F Hf H _ E' _ R q (fun v d Hf1 H1 R1 s1 r1 q1 => ?_) kx
  obtain ⟨⟨fs, rfl⟩, q1⟩ := q1
  cases r1 with
  | @ins pa dx _ gs _ h r => exact ⟨pa, dx, gs, rfl, R1.sm _ _ h, k _ _ Hf1 H1 R1 s1 (.bl true) q1⟩
/-! new lists by operators -/
section
variable {G : Ctx} {X : Cx} {Wx : WX} {a b e : Expr} {ga gb g : Env → W D} {pos p p2 : Pos} {i : Nat}
def repN (ga gb : Env → W D) : Env → W (List D) := fun ρ => do
  let x ← ga ρ
  let y ← gb ρ
  (match x, y with | .lst xs, .int k => W.need (-(2 ^ 63) ≤ k ∧ k < 2 ^ 63 ∧ xs.length * k.toNat ≤ sizeLine) (W.pure (List.replicate k.toNat xs).flatten) | _, _ => W.fail)
def catN (ga gb : Env → W D) : Env → W (List D) := fun ρ => do
  let x ← ga ρ
  let y ← gb ρ
  (match x, y with | .lst xs, .lst ys => W.need (xs.length + ys.length ≤ sizeLine) (W.pure (xs ++ ys)) | _, _ => W.fail)
def cutN (g : Env → W D) (gl gh : Env → W (Option Int)) : Env → W (List D) := fun ρ => do
  let d ← g ρ
  let i ← gl ρ
  let j ← gh ρ
  (match d with | .lst xs => W.pure (cutD xs i j) | _ => W.fail)
theorem el_rep (ha : Ev G X Wx a ga) (hb : Ev G X Wx b gb) (hK : X.K = G.K) : El G X Wx (.BinOp a .Mult b pos) (repN ga gb) := by
  obtain ⟨ta, pa, ea⟩ := ha.ex
  obtain ⟨tb, pb, eb⟩ := hb.ex
  refine ⟨_, pe_op op_rep pa pb, ?_⟩
  intro B ρ σ F Hf H Q' E' Q R q k kx
  refine ea B ρ σ F Hf H _ E' _ R q (fun v d Hf1 H1 R1 s1 r1 q1 => ?_) kx
  refine eb B ρ σ F Hf1 H1 _ E' _ R1 q1 (fun u e Hf2 H2 R2 s2 r2 q2 => ?_) (kx.mono s1)
  have r1' := Rp.mono s2.sm r1
  replace q2 : (match d, e with | .lst xs, .int k => W.need (-(2 ^ 63) ≤ k ∧ k < 2 ^ 63 ∧ xs.length * k.toNat ≤ sizeLine) (W.pure (List.replicate k.toNat xs).flatten) | _, _ => (W.fail : W (List D))) Q' E' := q2
  cases r1' <;> cases r2 <;> first | exact False.elim q2 | skip
  rename_i h rx _
  obtain ⟨⟨c1, c2, c3⟩, q2⟩ := q2
  exact ⟨_, _, _, rfl, rfl, R2.sm _ _ h, c1, c2, by rw [rx.length]; exact c3, fun p hp => k p _ _ Hf2 _ (R2.laid hp) ((s1.trans s2).other ((s1.trans s2).nn R.sm R2.sm hp)) ((s1.trans s2).nn R.sm R2.sm hp) (R2.sm.free hp) upd_same (rx.rep _) q2⟩
theorem el_cat (ha : Ev G X Wx a ga) (hb : Ev G X Wx b gb) (hK : X.K = G.K) : El G X Wx (.BinOp a .Add b pos) (catN ga gb) := by
  obtain ⟨ta, pa, ea⟩ := ha.ex
  obtain ⟨tb, pb, eb⟩ := hb.ex
  refine ⟨_, pe_op op_adds pa pb, ?_⟩
  intro B ρ σ F Hf H Q' E' Q R q k kx
  refine ea B ρ σ F Hf H _ E' _ R q (fun v d Hf1 H1 R1 s1 r1 q1 => ?_) kx
  refine eb B ρ σ F Hf1 H1 _ E' _ R1 q1 (fun u e Hf2 H2 R2 s2 r2 q2 => ?_) (kx.mono s1)
  have r1' := Rp.mono s2.sm r1
  replace q2 : (match d, e with | .lst xs, .lst ys => W.need (xs.length + ys.length ≤ sizeLine) (W.pure (xs ++ ys)) | _, _ => (W.fail : W (List D))) Q' E' := q2
  cases r1' <;> cases r2 <;> first | exact False.elim q2 | skip
  rename_i h rx _ _ _ h' ry
  obtain ⟨c, q2⟩ := q2
  exact .inr (.inl ⟨_, _, _, _, rfl, rfl, R2.sm _ _ h, R2.sm _ _ h', by rw [rx.length, ry.length]; exact c, fun p hp => k p _ _ Hf2 _ (R2.laid hp) ((s1.trans s2).other ((s1.trans s2).nn R.sm R2.sm hp)) ((s1.trans s2).nn R.sm R2.sm hp) (R2.sm.free hp) upd_same (rx.append ry) q2⟩)
theorem el_cut {lo hi : Option Expr} {gl gh : Env → W (Option Int)} (h : Ev G X Wx e g) (h1 : Eo G X Wx lo gl) (h2 : Eo G X Wx hi gh) (hK : X.K = G.K) : El G X Wx (.Subscript e (.Slice lo hi none p2) pos) (cutN g gl gh) := by
  obtain ⟨t, p, ev⟩ := h.ex
  obtain ⟨t1, p1, e1⟩ := h1.ex
  obtain ⟨t2, p3, e2⟩ := h2.ex
  refine ⟨_, pe_slice sl_list p p1 p3, ?_⟩
  intro B ρ σ F Hf H Q' E' Q R q k kx
  refine ev B ρ σ F Hf H _ E' _ R q (fun v d Hf1 H1 R1 s1 r1 q1 => ?_) kx
  refine e1 B ρ σ F Hf1 H1 _ E' _ R1 q1 (fun i Hf2 H2 R2 s2 q2 => ?_) (kx.mono s1)
  refine e2 B ρ σ F Hf2 H2 _ E' _ R2 q2 (fun j Hf3 H3 R3 s3 q3 => ?_) ((kx.mono s1).mono s2)
  have r3 := (Rp.mono s2.sm r1).mono s3.sm
  have s13 := (s1.trans s2).trans s3
  cases r3 with
  | lst hx r =>
    exact ⟨_, _, rfl, SqL.of (R3.sm _ _ hx), fun p hp => k p _ _ Hf3 _ (R3.laid hp) (s13.other (s13.nn R.sm R3.sm hp)) (s13.nn R.sm R3.sm hp) (R3.sm.free hp) upd_same (r.cut i j) q3⟩
  | _ => exact False.elim q3
/-- len(x.path) -/
def lenPd (gp : Env → W Pd) : Env → W D := fun ρ Q E => gp ρ (fun p => (∃ xs, p.1 = .lst xs ∧ Q (.int xs.length)) ∨ (∃ xs, p.1 = .tup xs ∧ Q (.int xs.length))) E
theorem of_tup {d : D} {xs : List OD} (h : OD.of d = .tup xs) : ∃ ds, d = .tup ds ∧ xs = OD.ofs ds := by
  cases d <;> simp only [OD.of, OD.tup.injEq, reduceCtorEq] at h
  exact ⟨_, rfl, h.symm⟩
theorem ev_lenPd {gp : Env → W Pd} (hp : ∀ t, PE X e t → PE X (.Call (.Name "len" p) [e] [] pos) (tCB (rLenX X.K) (tCons t tNil))) (h : Ef1 G X Wx i e gp) : Ev G X Wx (.Call (.Name "len" p) [e] [] pos) (lenPd gp) := by
  have h2 := ev_lenF hp h.ef
  have : lenF (plG gp) = lenPd gp := by
    funext ρ Q E
    show gp ρ _ _ = gp ρ _ _
    congr 1
    funext p
    refine propext ⟨fun h => ?_, fun h C hC => ?_⟩
    · rcases h (fun x => OD.of (p.2 x.d)) (can p.2) with ⟨xs, e, q⟩ | ⟨xs, e, q⟩
      · obtain ⟨ds, e', rfl⟩ := of_lst e
        exact .inl ⟨ds, e', by rw [ofs_len] at q; exact q⟩
      · obtain ⟨ds, e', rfl⟩ := of_tup e
        exact .inr ⟨ds, e', by rw [ofs_len] at q; exact q⟩
    · rcases h with ⟨xs, e, q⟩ | ⟨xs, e, q⟩
      · exact .inl ⟨OD.ofs xs, by show OD.of p.1 = _; rw [e, OD.of], by rw [ofs_len]; exact q⟩
      · exact .inr ⟨OD.ofs xs, by show OD.of p.1 = _; rw [e, OD.of], by rw [ofs_len]; exact q⟩
  rwa [this] at h2
end
end QL

set_option Elab.async false
set_option linter.all false
set_option maxRecDepth 100000
set_option maxHeartbeats 4000000
/-! exceptions: what is raised, a try with clauses (each with a name or without one), what a suite asks of its exception -/
namespace QL
open PySem L2

/-! ### a try by its clauses -/
/-- a clause: its class, the slot of its name, its suite -/
structure Cl where
  c : Value
  i : Option Nat
  ts : Addr → Value → Option Addr → TS
/-- the ends behind a suite: its name is gone -/
def nameOut : Option Nat → Ends → Ends
  | none, D => D
  | some i, D => { nx := fun σ H => D.nx (σ.set i none) H, rt := D.rt, bk := fun σ H => D.bk (σ.set i none) H, ct := fun σ H => D.ct (σ.set i none) H }
def nameIn : Option Nat → Addr → St → St
  | none, _, σ => σ
  | some i, a, σ => σ.set i (some (.ref a))
/-- what the clauses want of an exception -/
def wCls (K : PySem.W.Frag) (Wout : WX) (D : Ends) : List Cl → WX
  | [], cls, d, σ, H => Wout cls d σ H
  | h :: r, cls, d, σ, H => ∃ b, PySem.W.exmOne K cls h.c = some b ∧ (b = true → ∀ a, H a = none → h.ts a cls d (nameOut h.i D) (nameIn h.i a σ) H) ∧ (b = false → wCls K Wout D r cls d σ H)
/-- the name of a clause and its slot -/
def NameAt (X : Cx) : Option Str → Option Nat → Prop
  | none, none => True
  | some n, some i => X.N.Nodup ∧ X.N[i]? = some n ∧ X.env.kindOf n = some .local
  | _, _ => False
inductive ClsOk (X : Cx) : List ExceptHandler → List Cl → Prop
  | nil : ClsOk X [] []
  | cons {x : Str} {h : Cl} {n : Option Str} {b₀ : Stmt} {suite : List Stmt} {np pos' : Pos} {hds : List ExceptHandler} {l : List Cl} (hc : Names X x h.c) (hn : NameAt X n h.i)
      (hs : ∀ (a : Addr) (oe : Obj) (cls : Value) (d : Option Addr) (pn : List (Addr × Obj)), Zc cls d oe → (∃ vs, oe.data = .fields vs) → PSs (X.suite a ((a, oe) :: pn)) (b₀ :: suite) (h.ts a cls d)) (r : ClsOk X hds l) :
      ClsOk X (.ExceptHandler (some (.Name x np)) n (b₀ :: suite) pos' :: hds) (h :: l)
section
open PySem.Spec PyProof.Rows
variable {X : Cx} {body : List Stmt} {h₀ : ExceptHandler} {hds : List ExceptHandler} {l : List Cl} {pos : Pos} {tb : WX → TS} {Wout : WX}
theorem ps_tryC (hs : X.stack = X.env :: X.outer) (hf : X.env.frame = some X.env.locals) (tk : Takes X Wout)
    (hb : ∀ (W : WX) (pn : List (Addr × Obj)) (xe : Value → Shared → Prop), Takes (X.tr pn xe) W → PassesOwn (model X.prog X.w) X.A X.env xe → PSs (X.tr pn xe) body (tb W))
    (hh : ClsOk X (h₀ :: hds) l) : PS X (.Try body (h₀ :: hds) [] [] pos) (fun D σ H => tb (wCls X.K Wout D l) D σ H) := by
  refine ⟨fun pins s σ H D I h => wpAny_Try_except ?_⟩
  have ok := I.ok
  have hfr : X.A.frames = some (X.env :: X.outer) := by rw [ok.frames, hs]
  refine wpAny_mono ((hb (wCls X.K Wout D l) (X.pn ++ pins) (fun e s₁ => wpAny (model X.prog X.w) X.A (noteFrame e X.env) (fun _ s₂ => wpAny (model X.prog X.w) X.A (setFlight e none) (fun _ s₃ =>
    wpAny (model X.prog X.w) X.A (handleBy e X.env (h₀ :: hds)) (SP X pins D) X.xe s₃) X.xe s₂) X.xe s₁) (fun u s' xx => ?_) PassesOwn.looking).run [] s σ H D (I.toTry _) h) (fun f s1 hsp => ?_) (fun e s1 he => he)
  · obtain ⟨a, B, sI, pins', σ', H', cls, d, rfl, J', nb, up, sky, na, os, ag, w⟩ := xx
    have J : Inv X pins σ' H' sI := J'.ofTry ok
    have sky' : Sky B (X.env :: X.outer) a (Zc cls d) X.env.locals s'.heap := by rw [← hs]; exact sky
    show wpAny (model X.prog X.w) X.A (noteFrame (.ref a) X.env) _ _ _
    refine Sky.land Zc.steady hfr hf sky' fun h3 fl3 up3 => ?_
    have J3 : Inv X pins σ' H' { s' with heap := h3 } := J.landed nb fl3.1 (up.trans up3) os ag
    obtain ⟨oe3, vs3, he3, hz3, hd3⟩ := fl3.there
    have nfr : a ∉ frs (X.env :: X.outer) := fun hm => by
      obtain ⟨_, o', e', hnf⟩ := fl3.2.2.1.mem hm
      rw [he3] at e'; cases e'
      exact hnf _ hd3
    have nL : a ≠ X.env.locals := fun z => nfr (List.mem_filterMap.mpr ⟨X.env, List.mem_cons_self, by rw [hf, z]⟩)
    have nF : a ∉ X.fs := fun hm => by
      obtain ⟨e, he, q⟩ := List.mem_filterMap.mp hm
      exact nfr (List.mem_filterMap.mpr ⟨e, List.mem_cons_of_mem _ he, q⟩)
    have S3 := J3.suite he3 hd3 na nL nF
    have LT : PySem.W.Looks (model X.prog X.w) h3 (typeOf (.ref a)) cls := fun A Q E s k q => wpAny_typeOf_ref (k _ _ he3) (by rw [hz3.1]; exact q)
    have go : ∀ {hds' : List ExceptHandler} {l' : List Cl}, ClsOk X hds' l' → wCls X.K Wout D l' cls d σ' H' →
        wpAny (model X.prog X.w) X.A (handleBy (.ref a) X.env hds') (SP X pins D) X.xe { s' with heap := h3 } := by
      intro hds' l' hk
      induction hk with
      | nil =>
        intro w
        refine wpAny_handleBy_nil ?_
        obtain ⟨k1, k2, k3, oe, vs, T, oT, ts', he, hz, hd, h1, hr⟩ := id fl3
        unfold PySem.passOn
        refine wpAny_bind (wpAny_field he hd h1 ?_)
        rw [if_neg (show ¬ ((Value.ref T == Value.none) = true) from by simp)]
        have fin : wpAny (model X.prog X.w) X.A (setFlight (.ref a) X.env.frame) (fun _ s4 => wpAny (model X.prog X.w) X.A (throw (.ref a) : Sem Flow) (SP X pins D) X.xe s4) X.xe { s' with heap := h3 } := by
          rw [hf]
          refine HandSPX.setFlight_upZ fl3 fun h4 hh4 up4 => wpAny_throw (tk _ _ ?_)
          exact ⟨a, B, sI, pins, σ', H', cls, d, rfl, J, nb, (up.trans up3).trans up4, .inr (.inr (by rw [hs]; exact hh4)), na, os, ag, w⟩
        first
          | exact wpAny_bind (wpAny_pure (wpAny_bind fin))
          | exact wpAny_bind fin
      | @cons x h n b₀ suite np pos' hds2 l2 hc hn hsu r ih =>
        intro w
        obtain ⟨b, hb1, hyes, hno⟩ := w
        refine wpAny_handleBy_cons (codeAny_handlers_test ?_) (by intro q; cases q)
        have LM := PySem.W.exm_one (M := model X.prog X.w) (J3.kIn) LT hb1
        have test : ∀ {Q : Value → Shared → Prop} {E : Value → Shared → Prop}, Q h.c { s' with heap := h3 } → wpAny (model X.prog X.w) (X.A.mark (some (.ref a))) (eval (.Name x np) X.env) Q E { s' with heap := h3 } := fun {Q E} q => by
          obtain ⟨hg, hdbg, hm | ⟨hm, hv, hnn⟩⟩ := hc
          · exact ld_glob (X := X.suite a ((a, oe3) :: (X.pn ++ pins))) S3 hg hm q hdbg
          · exact ld_blt (X := X.suite a ((a, oe3) :: (X.pn ++ pins))) S3 hg hm hv q hnn hdbg
        refine test (LM.here ?_)
        cases b with
        | false => exact ih (hno rfl)
        | true =>
          have yes := hyes rfl a na
          have back : ∀ h4, HandSPX.FlyingZ B (X.env :: X.outer) a (Zc cls d) h4 → h3.UpToSlots h4 → ∃ (oe4 : Obj) (vs4 : Array Value), Zc cls d oe4 ∧ oe4.data = .fields vs4 ∧ Inv (X.suite a ((a, oe4) :: (X.pn ++ pins))) [] σ' H' { s' with heap := h4 } := fun h4 fl4 up4 => by
            have J4 : Inv X pins σ' H' { s' with heap := h4 } := J.landed nb fl4.1 ((up.trans up3).trans up4) os ag
            obtain ⟨oe4, vs4, he4, hz4, hd4⟩ := fl4.there
            exact ⟨oe4, vs4, hz4, hd4, J4.suite he4 hd4 na nL nF⟩
          obtain ⟨c, i, ts⟩ := h
          cases n with
          | none =>
            cases i with
            | some i => exact hn.elim
            | none =>
              refine codeAny_handlers_suite (HandSPX.lands_againZ fl3 fun h4 fl4 up4 => ?_)
              obtain ⟨oe4, vs4, hz4, hd4, S4⟩ := back h4 fl4 up4
              refine wpAny_mono ((hsu a oe4 cls d (X.pn ++ pins) hz4 ⟨_, hd4⟩).run [] _ _ H' _ S4 yes) (fun f s6 hsp => ?_) (fun _ _ z => False.elim z)
              cases f with
              | ret u =>
                obtain ⟨v6, σ6, H6, S6, r6, q6⟩ := hsp
                exact ⟨_, _, _, S6.unsuite ok, r6, q6⟩
              | _ =>
                obtain ⟨σ6, H6, S6, q6⟩ := hsp
                exact ⟨_, _, S6.unsuite ok, q6⟩
          | some n =>
            cases i with
            | none => exact hn.elim
            | some i =>
              obtain ⟨hN, hi, hln⟩ := hn
              have hloc : Loc X.env.scope n := .inl hln
              refine codeAny_handlers_suite_as (HandSPX.lands_againZ fl3 fun h4 fl4 up4 => ?_)
              obtain ⟨oe4, vs4, hz4, hd4, S4⟩ := back h4 fl4 up4
              refine store_ok (X := X.suite a ((a, oe4) :: (X.pn ++ pins))) (v := .ref a) S4 hN hi hloc rfl (fun s5 S5 => ?_) (.inr hln)
              refine wpAny_mono ((hsu a oe4 cls d (X.pn ++ pins) hz4 ⟨_, hd4⟩).run [] s5 _ H' _ S5 yes) (fun f s6 hsp => ?_) (fun _ _ z => False.elim z)
              have gone : ∀ {σ6 : L2.St} {H6 : Hp} {Q : Shared → Prop}, Inv (X.suite a ((a, oe4) :: (X.pn ++ pins))) [] σ6 H6 s6 → (∀ s7, Inv X pins (σ6.set i none) H6 s7 → Q s7) →
                  wpAny (model X.prog X.w) X.A (do bindName X.env n .none; unbindBehindTheSuite X.env n pos') (fun _ s7 => Q s7) X.xe s6 := fun {σ6 H6 Q} S6 hq => gone_ok (S6.unsuite ok) hN hi hln hq
              cases f with
              | ret u =>
                obtain ⟨v6, σ6, H6, S6, r6, q6⟩ := hsp
                exact gone S6 fun s7 J7 => ⟨_, _, _, J7, r6, q6⟩
              | _ =>
                obtain ⟨σ6, H6, S6, q6⟩ := hsp
                exact gone S6 fun s7 J7 => ⟨_, _, J7, q6⟩
    exact go hh w
  · cases f with
    | ret u =>
      obtain ⟨v, σ', H', J', r, q⟩ := hsp
      exact ⟨v, σ', H', J'.ofTry ok, r, q⟩
    | next =>
      obtain ⟨σ', H', J', q⟩ := hsp
      exact wpAny_execs_nil ⟨σ', H', J'.ofTry ok, q⟩
    | _ =>
      obtain ⟨σ', H', J', q⟩ := hsp
      exact ⟨σ', H', J'.ofTry ok, q⟩
end
end QL

set_option Elab.async false
set_option linter.all false
set_option maxRecDepth 100000
set_option maxHeartbeats 4000000
/-! try, raise, the exception that a suite holds: as functions of data -/
namespace QL
open PySem L2

def tStar (G : Ctx) (Wx : WX) (g : Env → Ws) : TS := fun Dd σ H => ∃ (B : Bs) (ρ : Env) (F : Fps) (Hf : Hp) (Q' : Fl → Env → Prop) (E' : Xc → Env → Prop), Rep G B ρ σ F Hf H ∧ g ρ Q' E' ∧ SPost G B Hf Q' Dd ∧ XPostS G Wx B Hf E'
theorem Ess.star {G : Ctx} {X : Cx} {Wx : WX} {sts : List Stmt} {g : Env → Ws} (h : Ess G X Wx sts g) : PSs X sts (tStar G Wx g) := by
  obtain ⟨t, p, ev⟩ := h.ex
  exact ⟨fun pins s σ H D I ⟨B, ρ, F, Hf, Q', E', R, q, k, kx⟩ => p.run pins s σ H D I (ev B ρ σ F Hf H Q' E' D R q k kx)⟩

/-! ### try -/
/-- a clause: the classes that it catches, the slot of its name, its suite -/
structure Ca where
  ks : List Nat
  i : Option Nat
  g : Addr → Option Addr → Nat → Env → Ws
def excIn : Option Nat → Addr → Option Addr → Xc → Env → Env
  | none, _, _, _, ρ => ρ
  | some i, a, d, x, ρ => ρ.set i (.exc a d x)
def excOut : Option Nat → (Fl → Env → Prop) → Fl → Env → Prop
  | none, Q => Q
  | some i, Q => fun fl ρ => Q fl (ρ.set i .un)
def hdl : List Ca → Xc → Env → Ws
  | [], x, ρ, _, E => E x ρ
  | h :: r, x, ρ, Q, E => if x.C ∈ h.ks then ∀ a d, h.g a d x.C (excIn h.i a d x ρ) (excOut h.i Q) (fun _ _ => False) else hdl r x ρ Q E
def sTry (ks : List Nat) (f : Env → Ws) (hs : List Ca) : Env → Ws := fun ρ Q E => f ρ Q (fun x ρ' => x.C ∈ ks ∧ hdl hs x ρ' Q E)
inductive ClssOk (G : Ctx) (X : Cx) (ks : List Nat) : List ExceptHandler → List Ca → Prop
  | nil : ClssOk G X ks [] []
  | cons {x : Str} {c : Value} {h : Ca} {n : Option Str} {b₀ : Stmt} {suite : List Stmt} {np pos' : Pos} {hds : List ExceptHandler} {l : List Ca} (hc : Names X x c) (hn : NameAt X n h.i) (hx : ∀ k ∈ ks, PySem.W.exmOne X.K (.ref (G.cn k)) c = some (decide (k ∈ h.ks)))
      (hs : ∀ (a : Addr) (oe : Obj) (d : Option Addr) (pn : List (Addr × Obj)) (k : Nat), k ∈ ks → k ∈ h.ks → Zc (.ref (G.cn k)) d oe → (∃ vs, oe.data = .fields vs) → Ess G (X.suite a ((a, oe) :: pn)) (fun _ _ _ _ => False) (b₀ :: suite) (h.g a d k)) (r : ClssOk G X ks hds l) :
      ClssOk G X ks (.ExceptHandler (some (.Name x np)) n (b₀ :: suite) pos' :: hds) (h :: l)
section
variable {G : Ctx} {X : Cx} {Wx Wout : WX} {ks : List Nat}
theorem suite_post {B : Bs} {i : Option Nat} {Hf Hf1 : Hp} {Q : Fl → Env → Prop} {D : Ends} (k : SPost G B Hf Q D) (s : Sm Hf Hf1) : SPost G B Hf1 (excOut i Q) (nameOut i D) := by
  cases i with
  | none => exact k.mono s
  | some i =>
    refine ⟨fun ρ' σ' F' Hf' H' R s' q => ?_, fun ρ' σ' F' v d Hf' H' R s' r q => ?_, fun ρ' σ' F' u x L Hf' H' R s' o nd hb hn q => ?_, fun ρ' σ' F' Hf' H' R s' q => ?_, fun ρ' σ' F' Hf' H' R s' q => ?_⟩
    · exact k.nx _ _ _ Hf' H' (R.setSl (i := i) (s := .un) (x := none) (fun _ => trivial) rfl) (s.trans s') q
    · obtain ⟨F2, R2⟩ := R.forget i
      exact k.rt _ _ _ v d Hf' H' R2 (s.trans s') r q
    · cases e : ρ'[i]? with
      | none =>
        have e2 : ρ'.set i .un = ρ' := List.ext_getElem? fun j => by
          by_cases h : i = j
          · subst h; rw [e, List.getElem?_eq_none (by rw [List.length_set]; exact List.getElem?_eq_none_iff.mp e)]
          · rw [List.getElem?_set_ne h]
        have q' : Q (.ro x) (ρ'.set i .un) := q
        rw [e2] at q'
        exact k.ro _ _ _ u x L Hf' H' R (s.trans s') o nd hb hn q'
      | some sl =>
        obtain ⟨R2, _⟩ := R.drop e
        refine k.ro _ _ _ u x L Hf' H' R2 (s.trans s') o nd hb (fun a ha => ?_) q
        obtain ⟨h1, h2⟩ := hn a ha
        refine ⟨fun z => ?_, fun ⟨j, e1, e2⟩ => ?_⟩
        · rcases mem_flat_set z with z | ⟨j, hj, z⟩
          · simp at z
          · exact h1 (mem_flat z)
        · by_cases h : i = j
          · subst h; rw [List.getElem?_set_self (List.getElem?_eq_some_iff.mp e).1] at e1; cases e1
          · rw [List.getElem?_set_ne h] at e1
            exact h2 ⟨j, e1, e2⟩
    · exact k.bk _ _ _ Hf' H' (R.setSl (i := i) (s := .un) (x := none) (fun _ => trivial) rfl) (s.trans s') q
    · exact k.ct _ _ _ Hf' H' (R.setSl (i := i) (s := .un) (x := none) (fun _ => trivial) rfl) (s.trans s') q
theorem hds_ok {hds : List ExceptHandler} {hs : List Ca} (h : ClssOk G X ks hds hs) : ∃ l, ClsOk X hds l ∧ ∀ (B : Bs) (D : Ends) (Q : Fl → Env → Prop) (E : Xc → Env → Prop) (Hf₀ : Hp), SPost G B Hf₀ Q D → XPostS G Wout B Hf₀ E →
    ∀ (x : Xc) (cls : Value) (d : Option Addr) (ρ : Env) (σ : L2.St) (F : Fps) (Hf H : Hp), Rep G B ρ σ F Hf H → Sm Hf₀ Hf → XRep G Hf x cls d → x.C ∈ ks → hdl hs x ρ Q E → wCls X.K Wout D l cls d σ H := by
  induction h with
  | nil => exact ⟨[], .nil, fun B D Q E Hf₀ k kx x cls d ρ σ F Hf H R s xr _ q => kx x cls d ρ σ F Hf H R s xr q⟩
  | @cons x c h n b₀ suite np pos' hds l hc hn hx hs r ih =>
    obtain ⟨l2, ok2, w2⟩ := ih
    refine ⟨⟨c, h.i, fun a cls d D σ H => ∃ k, k ∈ ks ∧ k ∈ h.ks ∧ cls = .ref (G.cn k) ∧ tStar G (fun _ _ _ _ => False) (h.g a d k) D σ H⟩ :: l2, .cons hc hn (fun a oe cls d pn hz hf => ⟨fun pins s σ H D I ⟨k, k1, k2, e, t⟩ => ?_⟩) ok2, ?_⟩
    · subst e
      exact (hs a oe d pn k k1 k2 hz hf).star.run pins s σ H D I t
    · intro B D Q E Hf₀ k kx x cls d ρ σ F Hf H R s xr hk q
      have ec : cls = .ref (G.cn x.C) := xr.1
      refine ⟨decide (x.C ∈ h.ks), by rw [ec]; exact hx _ hk, fun hy a ha => ?_, fun hno => ?_⟩
      · have hm := of_decide_eq_true hy
        have q1 : ∀ a d, h.g a d x.C (excIn h.i a d x ρ) (excOut h.i Q) (fun _ _ => False) := by
          have q' := q
          unfold hdl at q'
          rwa [if_pos hm] at q'
        refine ⟨x.C, hk, hm, ec, ?_⟩
        have R1 : ∃ F1, Rep G B (excIn h.i a d x ρ) (nameIn h.i a σ) F1 Hf H := by
          cases e : h.i with
          | none => exact ⟨F, R⟩
          | some i => exact ⟨_, R.setSl (i := i) (s := .exc a d x) (x := some (.ref a)) (fun _ => ⟨rfl, by rw [← ec]; exact xr⟩) rfl⟩
        obtain ⟨F1, R1⟩ := R1
        exact ⟨B, _, F1, Hf, _, _, R1, q1 a d, suite_post k s, fun _ _ _ _ _ _ _ _ _ _ _ e => e.elim⟩
      · have hm := of_decide_eq_false hno
        refine w2 B D Q E Hf₀ k kx x cls d ρ σ F Hf H R s xr hk ?_
        have q' := q
        unfold hdl at q'
        rwa [if_neg hm] at q'
theorem es_try {body : List Stmt} {h₀ : ExceptHandler} {hds : List ExceptHandler} {hl : List Ca} {f : Env → Ws} {pos : Pos} (hs : X.stack = X.env :: X.outer) (hf : X.env.frame = some X.env.locals) (tk : Takes X Wx)
    (hb : ∀ (W : WX) (pn : List (Addr × Obj)) (xe : Value → Shared → Prop), Takes (X.tr pn xe) W → PassesOwn (model X.prog X.w) X.A X.env xe → Ess G (X.tr pn xe) W body f)
    (hh : ClssOk G X ks (h₀ :: hds) hl) : Es G X Wx (.Try body (h₀ :: hds) [] [] pos) (sTry ks f hl) := by
  obtain ⟨l, hc, w⟩ := hds_ok (Wout := Wx) hh
  refine ⟨_, ps_tryC (tb := fun W => tStar G W f) hs hf tk (fun W pn xe t p => (hb W pn xe t p).star) hc, ?_⟩
  intro B ρ σ F Hf H Q' E' Dd R q k kx
  exact ⟨B, ρ, F, Hf, Q', _, R, q, k, fun x cls d ρ' σ' F' Hf' H' R' s' xr ⟨hk, e⟩ => w B Dd Q' E' Hf k kx x cls d ρ' σ' F' Hf' H' R' s' xr hk e⟩
end

/-! ### raise -/
section
open PySem.Spec PyProof.Rows
variable {G : Ctx} {X : Cx} {Wx : WX}
/-- X() -/
theorem pmk_own0 {C : Addr} {bmB : List Value} {Bn newId initId : String} {x : Str} {p pos : Pos} (F : ExcBaseFacts Bn newId initId bmB) (q : PySem.W.excIn X.K C bmB newId = true) (gC : X.mg x = some (.ref C)) (kC : PySem.W.keepIn X.K (.ref C) = true) (r : Raises X (.ref C)) (hg : Gl X x)
    (hdb : (x == ("__debug__" : Str)) = false := by decide) : PMk X (.Call (.Name x p) [] [] pos) (fun _ H Q => Q (.ref C) none H) := by
  intro pins s σ H Q I h
  refine wpAny_Call_Name_kw (ld_glob I hg gC ?_ hdb)
  refine PySem.W.callWith_K0 I.kIn kC ?_
  show wpAny _ _ (call (.ref C) []) _ _ _
  obtain ⟨bm, N, nm, qn, bs, hdct, sn, sub, ab, col, dd, k0, k1, k2, k3, k5, mN, hC, hN, hni, T⟩ := exc_obj I.kIn q
  exact wpAny_call_exc_subT F T hC hN hni (fun h' e hm => mk_of I hm r h (I.hok.gone hm.new)) (Nat.zero_le _)
/-- what the text's own class of exceptions must have -/
structure XcB (K : PySem.W.Frag) (C : Addr) : Prop where
  kC : PySem.W.keepIn K (.ref C) = true
  sC : PySem.W.subIn K (.ref C) (.type "BaseException") = some true
  tC : PySem.W.typeIn K (.ref C) = some (.type "type")
def sRaise0 (C : Nat) : Env → Ws := fun ρ _ E => E ⟨C, []⟩ ρ
theorem es_raise0 {C : Nat} {x : Str} {p pos pos' : Pos} (hc : X.calm = true) (tk : Takes X Wx) (q : PySem.W.excIn X.K (G.cn C) [.type "ValueError", .type "Exception", .type "BaseException", .type "object"] "ValueError.__new__" = true) (T : XcB X.K (G.cn C)) (gC : X.mg x = some (.ref (G.cn C))) (hg : Gl X x)
    (hdb : (x == ("__debug__" : Str)) = false := by decide) : Es G X Wx (.Raise (some (.Call (.Name x p) [] [] pos)) none pos') (sRaise0 C) :=
  ⟨_, ps_raise hc tk (pmk_own0 PySem.F.excBase_ValueError q gC T.kC (raises_own T.sC T.tC) hg hdb), fun B ρ σ F Hf H Q' E' Dd R q k kx => kx ⟨C, []⟩ _ none ρ σ F Hf H R (Sm.refl _) ⟨rfl, .inl ⟨rfl, rfl⟩⟩ q⟩
end
end QL

set_option Elab.async false
set_option linter.all false
set_option maxRecDepth 100000
set_option maxHeartbeats 4000000
/-! an exception with a field: made and raised; its field, isinstance, in a suite -/
namespace QL
open PySem L2

/-- what C.__init__(self, y): self.f = y does to a new exception -/
def spX (K : PySem.W.Frag) (f : Str) : Sp := fun vs H Q _ => ∃ (a C : Addr) (v : V), vs = [.ref a, v] ∧ OexC K C ∧ PySem.W.findIn K (.ref C) f = some none ∧ H a = some (exo a C none) ∧
  ∀ dx, H dx = none → dx ≠ a → Q .non (upd (upd H dx (exd dx [(f, v)])) a (exo a C (some dx)))
section
variable {P : Program} {w : World} {K : PySem.W.Frag} {mg : Str → Option Value} {base : Heap} {x qual : Str} {st : Stmt} {f : Addr} {fd : FuncData} {k : Nat}
theorem fn_okX {n1 n2 fn : Str} (F : Fun K x qual st f fd) (S : FnScope [n1, n2] [n1, n2] (defScope st))
    (hb : ∀ (cdv : Value) (A : Around) (outer : List PySem.Env) (s : Shared) (H : Hp) (E : XK), PSs (cxOf (L2.CX P w) P w K mg base [n1, n2] qual (defScope st) f cdv A outer s H E) (defBody st) (tOst K fn (tVar 0) (tVar 1))) :
    FnOk P w K mg base (L2.CX P w) (k + 1) f fd [n1, n2] (spX K fn) := by
  refine F.okX S (fun vs H Q E ⟨a, C, v, e, _⟩ => by rw [e]; rfl) fun cdv A outer s H vs Q E hr h => ⟨_, hb cdv A outer s H E, ?_⟩
  obtain ⟨a, C, v, rfl, T, hno, ha, q⟩ := h
  exact ⟨v, rfl, .ref a, rfl, a, C, rfl, T, hno, .inl ⟨ha, fun dx h1 h2 => q dx h1 h2⟩⟩
end
section
variable {G : Ctx} {X : Cx} {Wx : WX} {e : Expr} {g : Env → W D}
def sRaise1 (C : Nat) (f : Str) (g : Env → W D) : Env → Ws := fun ρ _ E => g ρ (fun d => E ⟨C, [(f, d)]⟩ ρ) (fun x => E x ρ)
/-- the class of such an exception -/
structure XcI (K : PySem.W.Frag) (C fI : Addr) (f : Str) : Prop where
  ox : OexC K C
  ini : PySem.W.findIn K (.ref C) "__init__" = some (some (.ref fI))
  fnI : PySem.W.typeIn K (.ref fI) = some (.type "function")
  no : PySem.W.findIn K (.ref C) f = some none
theorem es_raise1 {C : Nat} {f x : Str} {fI : Addr} {fd : FuncData} {ps : List Str} {k : Nat} {p pos pos' : Pos} (hc : X.calm = true) (tk : Takes X Wx) (T : XcI X.K (G.cn C) fI f) (F1 : FnOk X.prog X.w X.K X.mg X.base (L2.CX X.prog X.w) k fI fd ps (spX X.K f)) (hr : Room (k + 1) X.A)
    (hb : Binds X.K fd ps []) (hg : Gl X x) (hm : X.mg x = some (.ref (G.cn C))) (he : Ev G X Wx e g)
    (hdb : (x == ("__debug__" : Str)) = false := by decide) (h1 : starEach (e :: []) X.env = (false, eval e X.env) :: starEach [] X.env := by rfl) (hpl : (backTo pos (starEach [] X.env)).any (·.1) = false := by rfl) :
    Es G X Wx (.Raise (some (.Call (.Name x p) (e :: []) [] pos)) none pos') (sRaise1 C f g) := by
  obtain ⟨t, pe, ev⟩ := he.ex
  refine ⟨_, ps_raise hc tk (pmk_oex T.ox T.ini T.fnI F1 hr hb Paired.nil (passes_call tk fun _ _ _ _ z => z.elim) hg hm (pa_cons pe pa_nil h1) hdb h1 hpl), ?_⟩
  intro B ρ σ F Hf H Q' E' Dd R q k kx
  refine ev B ρ σ F Hf H _ _ _ R q (fun v d Hf1 H1 R1 s1 r1 q1 => ?_) kx.at
  refine ⟨(by simp), fun a ha => ⟨a, _, v, rfl, T.ox, T.no, upd_same, fun dx hdx hne => ⟨rfl, dx, [(f, v)], upd_same, ?_, ?_, ?_⟩⟩⟩
  · rw [upd_ne hne, upd_same]
  · rw [upd_ne hne] at hdx; exact hdx
  · have hd1 : H1 dx = none := by rw [upd_ne hne] at hdx; exact hdx
    have eH : upd (del (upd (upd (upd H1 a (exo a (G.cn C) none)) dx (exd dx [(f, v)])) a (exo a (G.cn C) (some dx))) a) dx (.xd [(f, v)]) = upd H1 dx (.xd [(f, v)]) := by
      funext b
      by_cases h2 : b = dx
      · subst h2; rw [upd_same, upd_same]
      · rw [upd_ne h2, upd_ne h2]
        by_cases h3 : b = a
        · subst h3; rw [del_same]; exact ha.symm
        · rw [del_ne h3, upd_ne h3, upd_ne h2, upd_ne h3]
    rw [eH]
    refine kx ⟨C, [(f, d)]⟩ _ (some dx) ρ σ F _ _ (R1.new hd1) (s1.sm.trans (Sm.new (R1.sm.free hd1))) ⟨rfl, .inr ⟨by simp, dx, [(f, v)], rfl, upd_same, ?_⟩⟩ q1
    exact .cons (r1.mono (Sm.new (R1.sm.free hd1))) .nil
end

/-! ### in a suite -/
section
open PySem.Spec PyProof.Rows
variable {G : Ctx} {X : Cx} {Wx : WX} {a : Addr} {d : Option Addr} {oe : Obj} {pn : List (Addr × Obj)}
/-- e.f -/
def excFld (i : Nat) (a : Addr) (d : Option Addr) (k C : Nat) (f : Str) : Env → W D := fun ρ Q _ => k = C ∧ ∃ x v, ρ[i]? = some (.exc a d x) ∧ x.fs.lookup f = some v ∧ Q v
theorem ev_excFld {i k C : Nat} {n f : Str} {p pos : Pos} (T : XfC X.K (G.cn C)) (hno : PySem.W.findIn X.K (.ref (G.cn C)) f = some none) (hz : Zc (.ref (G.cn k)) d oe) (hf : ∃ vs, oe.data = .fields vs)
    (he : PE (X.suite a ((a, oe) :: pn)) (.Name n p) (tVar i)) (hb : attributeBase (.Name n p) f X.env (eval (.Name n p) X.env) = eval (.Name n p) X.env := by rfl) :
    Ev G (X.suite a ((a, oe) :: pn)) Wx (.Attribute (.Name n p) f pos) (excFld i a d k C f) := by
  refine ⟨_, pe_xf T hno hz hf he hb, ?_⟩
  intro B ρ σ F Hf H Q' E' Q R q kk kx
  obtain ⟨hk, x, v, e, l, q⟩ := q
  subst hk
  obtain ⟨e1, _, h2⟩ := R.sl i _ e
  rcases h2 with ⟨h2, _⟩ | ⟨_, dd, gs, h3, h4, h5⟩
  · rw [h2] at l; cases l
  · obtain ⟨u, lu, ru⟩ := h5.lookup l
    exact ⟨.ref a, e1, rfl, rfl, dd, gs, u, h3, R.sm _ _ h4, lu, kk u v Hf H R Nx.refl ru q⟩
/-- what isinstance asks of the class of a caught exception -/
theorem kit_cls {K : PySem.W.Frag} {t : Value} {C : Addr} {b : Bool} (hd : PySem.W.hasDictIn K C = true) (ht : PySem.W.typeIn K (.ref C) = some (.type "type")) (h : PySem.W.subIn K t (.ref C) = some b) (hs : t = .ref C → b = true) : PySem.W.kitOne K t (.ref C) = some b := by
  unfold PySem.W.kitOne
  by_cases e : (t == .ref C) = true
  · rw [if_pos e, hs (beq_iff_eq.mp e)]
  · rw [if_neg e]
    obtain ⟨cd, hc, _⟩ := PySem.W.any_some hd
    unfold PySem.W.kitCls
    have e2 : ((PySem.W.clsIn K C).isSome && PySem.W.typeIn K (.ref C) == some (.type "type")) = true := by rw [hc, ht] <;> rfl
    show (if ((PySem.W.clsIn K C).isSome && PySem.W.typeIn K (.ref C) == some (.type "type")) = true then PySem.W.subIn K t (.ref C) else none) = some b
    rw [if_pos e2]; exact h
theorem kit_typ {K : PySem.W.Frag} {C : Addr} {T : String} {b : Bool} (hm : PySem.W.kitMeta T = true) (h : PySem.W.subIn K (.ref C) (.type T) = some b) : PySem.W.kitOne K (.ref C) (.type T) = some b := by
  unfold PySem.W.kitOne
  rw [if_neg (by simp)]
  unfold PySem.W.kitCls
  show (if PySem.W.kitMeta T = true then PySem.W.subIn K (.ref C) (.type T) else none) = some b
  rw [if_pos hm]; exact h
def rIsX (K : PySem.W.Frag) (C a : Addr) (d : Option Addr) : List V → Hp → VK → Prop := fun xs H Q => ∃ (c : V) (cv : Value) (b : Bool), xs = [.ref a, c] ∧ (∀ u, RelV c u → u = cv) ∧ PySem.W.kitOne K (.ref C) cv = some b ∧ (d = none ∨ ∃ dd gs, d = some dd ∧ H dd = some (.xd gs)) ∧ Q (.bl b) H
theorem call_isX {C : Addr} (T : ExcC X.K C) (hz : Zc (.ref C) d oe) (hf : ∃ vs, oe.data = .fields vs) : CallR (X.suite a ((a, oe) :: pn)) (.builtin "isinstance") (rIsX X.K C a d) := by
  intro pins s σ H xs us Q I r h
  obtain ⟨c, cv, b, rfl, hcv, e, hd, q⟩ := h
  obtain ⟨u1, u2, rfl, r1, r2⟩ := vals2 r
  obtain rfl : u1 = Value.ref a := r1
  have e2 := hcv _ r2
  subst e2
  obtain ⟨hget, _⟩ := I.pin (a, oe) (List.mem_append.mpr (.inl List.mem_cons_self))
  obtain ⟨vs, hv⟩ := hf
  have J : ∃ od, PySem.W.InstAt s.heap a oe C od := by
    rcases hd with hd | ⟨dd, gs, hd, hH⟩
    · subst hd
      exact ⟨none, hget, hz.1, by unfold PySem.W.notCls; rw [hv] <;> rfl, by rw [hz.2]; trivial⟩
    · subst hd
      have hx : ObjOk X.prog X.w H s.heap dd (.xd gs) := I.hok dd _ hH
      obtain ⟨mA, hns, hr⟩ := hx
      obtain ⟨od, ho, hl⟩ := lookIn_ns hns
      exact ⟨some od, hget, hz.1, by unfold PySem.W.notCls; rw [hv] <;> rfl, by rw [hz.2]; exact ho⟩
  obtain ⟨od, J⟩ := J
  have hcl : (PySem.W.clsIn X.K C).isSome = true := by
    obtain ⟨cd, hc, _⟩ := PySem.W.any_some T.hd
    rw [hc]; rfl
  exact PySem.W.kia_one (PySem.W.kitx_exc hcl T.hg T.hk T.hs T.ha T.hn T.ht T.hm) I.kIn J e (fun z => nomatch z) fun tk => ⟨.bl b, H, I.kept (t' := tk) fun _ _ z => z, rfl, q⟩
/-- isinstance(e, T): ls the classes under T -/
def excIs (i : Nat) (a : Addr) (d : Option Addr) (k : Nat) (ls : List Nat) : Env → W D := fun ρ Q _ => ∃ x, ρ[i]? = some (.exc a d x) ∧ Q (.bl (decide (k ∈ ls)))
theorem ev_excIs {i k : Nat} {ls : List Nat} {n : Str} {c : V} {cv : Value} {te : Expr} {p p2 pos : Pos} (T : ExcC X.K (G.cn k)) (hc : ∀ u, RelV c u → u = cv) (hk : PySem.W.kitOne X.K (.ref (G.cn k)) cv = some (decide (k ∈ ls))) (hz : Zc (.ref (G.cn k)) d oe) (hf : ∃ vs, oe.data = .fields vs)
    (hn : PE (X.suite a ((a, oe) :: pn)) (.Name n p) (tVar i)) (ht : PE (X.suite a ((a, oe) :: pn)) te (tC c)) (hg : Gl X "isinstance") (hm : X.mg "isinstance" = none)
    (he : starEach (.Name n p :: [te]) X.env = (false, eval (.Name n p) X.env) :: starEach [te] X.env := by rfl) (he2 : starEach (te :: []) X.env = (false, eval te X.env) :: starEach [] X.env := by rfl) (hpl : (backTo pos (starEach [te] X.env)).any (·.1) = false := by rfl) :
    Ev G (X.suite a ((a, oe) :: pn)) Wx (.Call (.Name "isinstance" p2) [.Name n p, te] [] pos) (excIs i a d k ls) := by
  refine ⟨_, pe_callB (X := X.suite a ((a, oe) :: pn)) (call_isX T hz hf) hg hm (by decide +kernel) (pa_cons hn (pa_cons ht pa_nil he2) he) (by decide) (by decide) he hpl, ?_⟩
  intro B ρ σ F Hf H Q' E' Q R q kk kx
  obtain ⟨x, e, q⟩ := q
  obtain ⟨e1, _, h2⟩ := R.sl i _ e
  refine ⟨.ref a, e1, c, cv, _, rfl, hc, hk, ?_, kk _ _ Hf H R Nx.refl (.bl _) q⟩
  rcases h2 with ⟨_, h2⟩ | ⟨_, dd, gs, h3, h4, _⟩
  · exact .inl h2
  · exact .inr ⟨dd, gs, h3, R.sm _ _ h4⟩
end
/-- all that is asked of a class of exceptions -/
structure XcA (K : PySem.W.Frag) (C : Addr) : Prop where
  kC : PySem.W.keepIn K (.ref C) = true
  sC : PySem.W.subIn K (.ref C) (.type "BaseException") = some true
  tC : PySem.W.typeIn K (.ref C) = some (.type "type")
  hd : PySem.W.hasDictIn K C = true
  hg : PySem.W.findIn K (.ref C) "__getattribute__" = some (some (.builtin "BaseException.__getattribute__"))
  hk : PySem.W.findIn K (.ref C) "__getattr__" = some none
  ha : PySem.W.findIn K (.ref C) "__class__" = some (some (.builtin "object.__class__"))
  hn : PySem.W.specialIn K (.builtin "object.__class__") "__get__" = some (some (.builtin "getset_descriptor.__get__"))
  ht : PySem.W.takesIn K (.builtin "object.__class__") = some true
  hm : PySem.W.mroIn K C (.type "object") = some true
theorem XcA.xcB {K : PySem.W.Frag} {C : Addr} (x : XcA K C) : XcB K C := ⟨x.kC, x.sC, x.tC⟩
theorem XcA.xfC {K : PySem.W.Frag} {C : Addr} (x : XcA K C) : XfC K C := ⟨x.hg, x.hk, x.sC, x.hd⟩
theorem XcA.excC {K : PySem.W.Frag} {C : Addr} (x : XcA K C) : ExcC K C := ⟨x.hg, x.hk, x.sC, x.hd, x.ha, x.hn, x.ht, x.hm⟩
theorem XcA.exm {K : PySem.W.Frag} {C : Addr} {t : Value} {b : Bool} (x : XcA K C) (h : PySem.W.subIn K t (.ref C) = some b) : PySem.W.exmOne K t (.ref C) = some b := PySem.W.exm_ref x.sC x.hd x.tC h
theorem kit_cls2 {K : PySem.W.Frag} {t : Value} {C : Addr} {b : Bool} (hd : PySem.W.hasDictIn K C = true) (ht : PySem.W.typeIn K (.ref C) = some (.type "type")) (h : PySem.W.subIn K t (.ref C) = some b) (h2 : PySem.W.subIn K (.ref C) (.ref C) = some true) : PySem.W.kitOne K t (.ref C) = some b :=
  kit_cls hd ht h fun e => by subst e; rw [h] at h2; exact Option.some.inj h2
end QL

set_option Elab.async false
set_option linter.all false
set_option maxRecDepth 100000
set_option maxHeartbeats 4000000
/-! a def that is called within a suite and raises nothing -/
namespace QL
open PySem L2
abbrev NoX : XK := fun _ _ _ => False
structure FnQ (P : Program) (w : World) (K : PySem.W.Frag) (mg : Str → Option Value) (base : Heap) (k : Nat) (f : Addr) (fd : FuncData) (ps : List Str) (sp : Sp) : Prop where
  len : ∀ vs H Q, sp vs H Q NoX → vs.length = ps.length
  run : ∀ (A : Around) (z : Addr) (outer : List PySem.Env) (s : Shared) (H : Hp) (args : Args) (us : List Value) (vs : List V) (Q : VK), Room k A → Env0 P w K mg base A outer s H → BindsTo s fd args (ps.zip us) → Vals vs us → sp vs H Q NoX →
    codeAny (model P w) (A.mark (some (.ref z))) (.call (.ref f) args) (CR (L2.CX P w) outer P w H s Q NoX) s
theorem Inv.bareSuite {X : Cx} {σ : L2.St} {H : Hp} {s : Shared} (I : Inv X [] σ H s) (z : Addr) (hp : X.pn = []) : Inv (X.suite z []) [] σ H s :=
  ⟨I.ok.suite _ _, I.os, I.bare, I.base, I.loc, I.cell, I.free, I.freeC, fun p hp' => by simp at hp', I.hok, I.len⟩
section
open PyProof.Rows
variable {P : Program} {w : World} {K : PySem.W.Frag} {mg : Str → Option Value} {base : Heap} {G : Ctx} {x qual : Str} {st : Stmt} {f : Addr} {fd : FuncData} {N ps : List Str} {k : Nat} {sp : Sp} {g : QL.Env → Ws}
theorem fnQ_of (F : L2.Fun K x qual st f fd) (S : FnScope N ps (defScope st)) (len : ∀ vs H Q, sp vs H Q NoX → vs.length = ps.length)
    (hbody : ∀ (cdv : Value) (A : Around) (z : Addr) (outer : List PySem.Env) (s : Shared) (H : Hp) (vs : List V) (Q : VK), Room k (A.deeper (envOfC qual (defScope st) s.heap.objs.size f cdv)) → sp vs H Q NoX →
      ∃ t, PSs ((cxOf (L2.CX P w) P w K mg base N qual (defScope st) f cdv A outer s H NoX).suite z []) (defBody st) t ∧ t { nx := fun _ H' => Q .non H', rt := Q } (L2.start N vs) H) : FnQ P w K mg base (k + 1) f fd ps sp := by
  obtain ⟨oc, od, kV, doc, pm, an, cdv, ct, osl, rfl, lk, hcd⟩ := F.ex
  refine ⟨len, fun A z outer s H args us vs Q hr e0 hb r hsp => ?_⟩
  have hl := len _ _ _ hsp
  have KX : K.In s.heap := e0.mod.kin.keeps fun b o e => (e0.bs b o e).1
  have lim : s.heap.NoLimit := e0.mod.nolimit.keeps fun b o e => (e0.bs b o e).1
  have hkind : ∀ y ∈ ps.zip us, (defScope st).names.lookup y.1 = some .local ∨ ((defScope st).names.lookup y.1 = some .cell ∧ ((cellsFrom (s.heap.objs.size + 1) (defScope st).names []).lookup y.1).isSome = true) := fun ⟨n, v⟩ hy => by
    rcases S.par n (List.of_mem_zip hy).1 with q | q
    · exact .inl q
    · exact .inr ⟨q, PySem.W.cellsFrom_some _ _ _ (.inl q)⟩
  refine codeAny_call_function (A := A.mark (some (.ref z))) hr.depth (KX _ _ lk) rfl S.co S.gen rfl (PySem.W.codeRec_of KX hcd) (hb _ _ _ _ ?_)
  refine wpAny_newFunctionEnv_cells S.kind hkind fun env he s1 x => ?_
  subst he
  refine ⟨lim.keeps x.toInCall.keep, codeAny_func ?_⟩
  obtain ⟨t, ht, hq⟩ := hbody cdv A z outer s H vs Q (hr.deeper _) hsp
  have I : Inv (cxOf (L2.CX P w) P w K mg base N qual (defScope st) f cdv A outer s H NoX) [] (L2.start N vs) H s1 := inv_start S hr.hd e0 hl r x
  have I2 := Inv.bareSuite I z rfl
  refine wpAny_mono (ht.run [] s1 (L2.start N vs) H _ I2 hq) (fun fl s' hs => ?_) fun e s' hs => False.elim hs
  cases fl with
  | ret u =>
    obtain ⟨v, σ', H', J, rv, q⟩ := hs
    exact ⟨v, H', J.os, J.bare, J.base, J.hok, rv, q⟩
  | next =>
    obtain ⟨σ', H', J, q⟩ := hs
    exact ⟨V.non, H', J.os, J.bare, J.base, J.hok, rfl, q⟩
  | brk =>
    obtain ⟨_, _, _, q⟩ := hs
    exact False.elim q
  | cont =>
    obtain ⟨_, _, _, q⟩ := hs
    exact False.elim q
theorem fn_okQ (F : L2.Fun K x qual st f fd) (S : FnScope N ps (defScope st))
    (hb : ∀ (cdv : Value) (A : Around) (z : Addr) (outer : List PySem.Env) (s : Shared) (H : Hp), Room k (A.deeper (envOfC qual (defScope st) s.heap.objs.size f cdv)) →
      Ess G ((cxOf (L2.CX P w) P w K mg base N qual (defScope st) f cdv A outer s H NoX).suite z []) (fun _ _ _ _ => False) (defBody st) g) : FnQ P w K mg base (k + 1) f fd ps (PSp G (liftP (mFunP ps.length N.length g))) := by
  have hn : ps.length ≤ N.length := pre_le (S := S)
  refine fnQ_of F S (fun vs H Q h => sp_len (fun as Q E q => q.2.1) h) fun cdv A z outer s H vs Q hr h => ?_
  obtain ⟨Hf, as, Fs, Q', E', sm, As_, nd, np, ⟨pu, hl, q⟩, k1, kx⟩ := h
  rw [← hl] at q hn
  refine body_ok (E := NoX) (hb cdv A z outer s H hr) (fun _ _ _ _ z => z) sm As_ nd np hn q (fun fl ρ h => ⟨pur_fin pu, ?_, ?_⟩) (fun x ρ h => pur_fin pu) (fun fl ρ rv v Fs' Hf' H' q le e c r => ?_) (fun x ρ cls d Fs' Hf' H' e le c xr => ?_)
  · rintro rfl; exact h
  · rintro rfl; exact h
  · rw [pur_fins pu (by rw [le]; exact hn)] at c
    cases fl <;> first | exact e.elim | exact q.elim | skip
    all_goals (subst e; exact k1 _ _ _ _ _ _ c r q)
  · rw [pur_fins pu (by rw [le]; exact hn)] at c
    exact kx _ _ _ _ _ _ _ c xr e
theorem FnQ.imp {sp' : Sp} (F : FnQ P w K mg base k f fd ps sp) (h : ∀ vs H Q E, sp' vs H Q E → sp vs H Q E) : FnQ P w K mg base k f fd ps sp' :=
  ⟨fun vs H Q q => F.len vs H Q (h _ _ _ _ q), fun A z outer s H args us vs Q hr e0 hb r q => F.run A z outer s H args us vs Q hr e0 hb r (h _ _ _ _ q)⟩
end
section
open PySem.Spec PyProof.Rows
variable {G : Ctx} {X : Cx} {a : Addr} {pn : List (Addr × Obj)} {e : Expr} {es : List Expr} {p pos : Pos}
theorem pe_callQ {x : Str} {k : Nat} {f : Addr} {fd : FuncData} {ps : List Str} {sp : Sp} {t : TA} (F : FnQ X.prog X.w X.K X.mg X.base k f fd ps sp) (hr : Room k X.A) (hg : Gl X x) (hm : X.mg x = some (.ref f)) (hk : PySem.W.keepIn X.K (.ref f) = true) (hb : Binds X.K fd ps [])
    (ha : PA (X.suite a pn) (e :: es) t) (hdb : (x == ("__debug__" : Str)) = false := by decide) (he : starEach (e :: es) X.env = (false, eval e X.env) :: starEach es X.env := by rfl) (hpl : (backTo pos (starEach es X.env)).any (·.1) = false := by rfl) :
    PE (X.suite a pn) (.Call (.Name x p) (e :: es) [] pos) (tCallS sp (fun _ => NoX) t) := by
  refine ⟨fun pins s σ H Q I h => ?_⟩
  refine wpAny_Call_Name_kw (ld_glob (X := X.suite a pn) I hg hm ?_ hdb)
  refine PySem.W.callWith_K (h₀ := X.base) I.ok.mod.kin hk (thn (ha.run pos pins s σ H _ I h) fun us s1 ⟨vs, H1, I1, r, q⟩ => ⟨I1.kIn, ?_⟩) he hpl
  have hl : us.length = ps.length := by rw [← r.length]; exact F.len _ _ _ q
  have b := hb s1 us I1.kIn (by rw [List.append_nil]; exact hl)
  rw [List.append_nil] at b
  have e0 := I1.env0
  have e1 : Env0 X.prog X.w X.K X.mg X.base X.A X.stack s1 H1 := ⟨e0.frames, e0.mod, e0.bs, e0.bsz, e0.funs, e0.frf, e0.hok, e0.bare⟩
  refine wpAny_call (codeAny_mono (F.run X.A a X.stack s1 H1 ⟨us, []⟩ us vs Q hr e1 b r q) fun r s' hq => ?_)
  cases r with
  | error er =>
    obtain ⟨_, _, _, _, _, _, _, _, _, _, _, _, z⟩ := (show L2.CX X.prog X.w X.stack H1 s1 NoX er s' from hq)
    exact z.elim
  | ok fl =>
    cases fl with
    | ret u => exact I1.after hq
    | next => exact False.elim hq
    | brk => exact False.elim hq
    | cont => exact False.elim hq
theorem ev_callQ {x : Str} {m : List Sl → W D} {kk : Nat} {f : Addr} {fd : FuncData} {ps : List Str} {gs : QL.Env → W (List Sl)} (F : FnQ X.prog X.w X.K X.mg X.base kk f fd ps (PSp G (liftP m))) (hr : Room kk X.A) (hg : Gl X x) (hm : X.mg x = some (.ref f)) (hk : PySem.W.keepIn X.K (.ref f) = true)
    (hb : Binds X.K fd ps []) (ha : Ec G (X.suite a pn) (fun _ _ _ _ => False) (e :: es) gs) (hdb : (x == ("__debug__" : Str)) = false := by decide) (he : starEach (e :: es) X.env = (false, eval e X.env) :: starEach es X.env := by rfl)
    (hpl : (backTo pos (starEach es X.env)).any (·.1) = false := by rfl) : Ev G (X.suite a pn) (fun _ _ _ _ => False) (.Call (.Name x p) (e :: es) [] pos) (callF m (argsP gs)) := by
  obtain ⟨t, pa, ea⟩ := ha.ex
  exact ⟨_, pe_callQ F hr hg hm hk hb pa hdb he hpl, evt_callF ea⟩
end
end QL

set_option Elab.async false
set_option linter.all false
set_option maxRecDepth 100000
set_option maxHeartbeats 2000000
/-! sorted({e for t0 in i0 for t1 in i1 if ..}), e an integer -/
namespace QL
open PySem L2

section
variable {elt t0 i0 t1 i1 : Expr} {fs : List Expr} {sc : Scope} {pos : Pos}
abbrev zE (elt t0 i0 t1 i1 : Expr) (fs : List Expr) (sc : Scope) (pos : Pos) : Expr := .SetComp elt [⟨t0, i0, [], 0⟩, ⟨t1, i1, fs, 0⟩] sc pos
/-- one turn of the first clause -/
theorem zTurn0 (it acc : Value) (en : PySem.Env) : compTurn (zE elt t0 i0 t1 i1 fs sc pos) 0 it acc en = (standAt i0.pos >>= fun _ => pyNext it >>= fun o => match o with
    | none => Pure.pure (Fin.done Flow.next)
    | some v => letOwnedTupleGo t0 it v >>= fun _ => assign t0 en v >>= fun _ => eval i1 en >>= fun x => standAt i1.pos >>= fun _ => foldedSetIterable i1 en x >>= fun x =>
        holding [x] (pyIter x) >>= fun j => runOwn (.compStart (zE elt t0 i0 t1 i1 fs sc pos) 1 j acc en) en >>= fun _ => again (.compLoop (zE elt t0 i0 t1 i1 fs sc pos) 0 it acc en)) := by rfl
/-- one turn of the second -/
theorem zTurn1 (it acc : Value) (en : PySem.Env) : compTurn (zE elt t0 i0 t1 i1 fs sc pos) 1 it acc en = (standAt i1.pos >>= fun _ => pyNext it >>= fun o => match o with
    | none => Pure.pure (Fin.done Flow.next)
    | some v => letOwnedTupleGo t1 it v >>= fun _ => assign t1 en v >>= fun _ => (forIn fs true fun c r => if r = true then do let ok ← isTrue c en (eval c en); Pure.pure (ForInStep.yield ok) else Pure.pure (ForInStep.yield r)) >>= fun ok =>
        (if ok = true then ((eval elt en >>= fun x => standAt elt.pos >>= fun _ => call (.builtin "set.add") [acc, x] >>= fun _ => Pure.pure PUnit.unit) >>= fun _ => again (.compLoop (zE elt t0 i0 t1 i1 fs sc pos) 1 it acc en))
         else again (.compLoop (zE elt t0 i0 t1 i1 fs sc pos) 1 it acc en))) := by rfl
end
section
variable {prog : Program} {w : World} {A : Around} {R : Result → Shared → Prop} {s : Shared} {elt t0 i0 t1 i1 : Expr} {fs : List Expr} {sc : Scope} {pos : Pos} {it acc : Value} {en : PySem.Env}
abbrev noX : Value → Shared → Prop := fun _ _ => False
theorem offX {α : Type} {M : Model} {t : Sem α} {Q Q' : α → Shared → Prop} {E : Value → Shared → Prop} (h : wpAny M A t Q noX s) (k : ∀ a s, Q a s → Q' a s) : wpAny M A t Q' E s := wpAny_mono h k fun _ _ z => z.elim
theorem zLoop0 (hs : ∀ x, foldedSetIterable i1 en x = Pure.pure x) (I : Nat → Shared → Prop)
    (turn : ∀ n z, I n z → wpAny (model prog w) A (pyNext it) (fun r z1 => (r = none ∧ R (.ok .next) z1) ∨ ∃ v, r = some v ∧ wpAny (model prog w) A (letOwnedTupleGo t0 it v) (fun _ z2 => wpAny (model prog w) A (assign t0 en v) (fun _ z3 =>
      wpAny (model prog w) A (eval i1 en) (fun x z4 => wpAny (model prog w) A (pyIter x) (fun j z5 => codeAny (model prog w) A (.compStart (zE elt t0 i0 t1 i1 fs sc pos) 1 j acc en) (fun r z6 => (∃ f, r = .ok f) ∧ ∃ m, m < n ∧ I m z6) z5) noX z4) noX z3) noX z2) noX z1) noX z)
    (n : Nat) (h : I n s) : codeAny (model prog w) A (.compLoop (zE elt t0 i0 t1 i1 fs sc pos) 0 it acc en) R s := by
  refine codeAny_loop rfl I (fun n z hz => ?_) n h
  show wpAny _ A ((compTurn (zE elt t0 i0 t1 i1 fs sc pos) 0 it acc en).onRaise (fun x => do noteFrame x en; theTreesLotGoes x)) _ _ z
  refine wpAny_noted ?_
  rw [zTurn0]
  refine wpAny_bind (wpAny_standAt (wpAny_bind (offX (turn n z hz) fun r z1 h1 => ?_)))
  rcases h1 with ⟨rfl, h1⟩ | ⟨v, rfl, h1⟩
  · exact wpAny_pure h1
  · refine wpAny_bind (offX h1 fun _ z2 h2 => wpAny_bind (offX h2 fun _ z3 h3 => wpAny_bind (offX h3 fun x z4 h4 => ?_)))
    refine wpAny_bind (wpAny_standAt (wpAny_bind (wpAny_of_eq (hs x) (wpAny_bind (wpAny_holding (offX h4 fun j z5 h5 => ?_))))))
    refine wpAny_bind (wpAny_runOwn ?_)
    rw [Around.mark_none]
    refine codeAny_mono h5 fun r z6 ⟨⟨f, hf⟩, h6⟩ => ?_
    subst hf
    exact wpAny_pure ⟨rfl, h6⟩
theorem zLoop1 (I : Nat → Shared → Prop)
    (turn : ∀ n z, I n z → wpAny (model prog w) A (pyNext it) (fun r z1 => (r = none ∧ R (.ok .next) z1) ∨ ∃ v, r = some v ∧ wpAny (model prog w) A (letOwnedTupleGo t1 it v) (fun _ z2 => wpAny (model prog w) A (assign t1 en v) (fun _ z3 =>
      wpAny (model prog w) A (forIn fs true fun c r => if r = true then do let ok ← isTrue c en (eval c en); Pure.pure (ForInStep.yield ok) else Pure.pure (ForInStep.yield r)) (fun ok z4 =>
        (ok = false ∧ ∃ m, m < n ∧ I m z4) ∨ (ok = true ∧ wpAny (model prog w) A (eval elt en) (fun x z5 => wpAny (model prog w) A (call (.builtin "set.add") [acc, x]) (fun _ z6 => ∃ m, m < n ∧ I m z6) noX z5) noX z4)) noX z3) noX z2) noX z1) noX z)
    (n : Nat) (h : I n s) : codeAny (model prog w) A (.compLoop (zE elt t0 i0 t1 i1 fs sc pos) 1 it acc en) R s := by
  refine codeAny_loop rfl I (fun n z hz => ?_) n h
  show wpAny _ A ((compTurn (zE elt t0 i0 t1 i1 fs sc pos) 1 it acc en).onRaise (fun x => do noteFrame x en; theTreesLotGoes x)) _ _ z
  refine wpAny_noted ?_
  rw [zTurn1]
  refine wpAny_bind (wpAny_standAt (wpAny_bind (offX (turn n z hz) fun r z1 h1 => ?_)))
  rcases h1 with ⟨rfl, h1⟩ | ⟨v, rfl, h1⟩
  · exact wpAny_pure h1
  · refine wpAny_bind (offX h1 fun _ z2 h2 => wpAny_bind (offX h2 fun _ z3 h3 => wpAny_bind (offX h3 fun ok z4 h4 => ?_)))
    rcases h4 with ⟨rfl, h4⟩ | ⟨rfl, h4⟩
    · exact wpAny_pure ⟨rfl, h4⟩
    · exact wpAny_bind (wpAny_bind (offX h4 fun x z5 h5 => wpAny_bind (wpAny_standAt (wpAny_bind (offX h5 fun _ z6 h6 => wpAny_pure (wpAny_pure ⟨rfl, h6⟩))))))
/-- a clause's start: its iterator, once more -/
theorem zStart {k : Nat} (hk : k < 2) (h0 : codeAny (model prog w) A (.compLoop (zE elt t0 i0 t1 i1 fs sc pos) k it acc en) R s)
    (h : wpAny (model prog w) A (pyIter it) (fun j z => codeAny (model prog w) A (.compLoop (zE elt t0 i0 t1 i1 fs sc pos) k j acc en) R z) noX s) : codeAny (model prog w) A (.compStart (zE elt t0 i0 t1 i1 fs sc pos) k it acc en) R s := by
  refine codeAny_of_tree ?_
  show wpAny _ A ((compStart (zE elt t0 i0 t1 i1 fs sc pos) k it acc en).onRaise (fun x => do noteFrame x en; standAt theWindowsPlace)) _ _ s
  refine wpAny_notedAt ?_
  match k, hk with
  | 0, _ =>
    unfold compStart
    show wpAny _ A (ask >>= _) _ _ s
    refine wpAny_bind (wpAny_askSetting (wpAny_ite ?_))
    split
    · first
        | exact wpAny_pure ⟨rfl, h0⟩
        | exact wpAny_bind (wpAny_pure (wpAny_pure ⟨rfl, h0⟩))
    · refine wpAny_bind (wpAny_rule ?_)
      show wpAny _ A (standAt i0.pos >>= _) _ _ s
      exact wpAny_bind (wpAny_standAt (wpAny_bind (offX h fun j z q => wpAny_pure ⟨rfl, q⟩)))
  | 1, _ =>
    unfold compStart
    show wpAny _ A (ask >>= _) _ _ s
    refine wpAny_bind (wpAny_askSetting (wpAny_ite ?_))
    split
    · first
        | exact wpAny_pure ⟨rfl, h0⟩
        | exact wpAny_bind (wpAny_pure (wpAny_pure ⟨rfl, h0⟩))
    · refine wpAny_bind (wpAny_rule ?_)
      show wpAny _ A (standAt i1.pos >>= _) _ _ s
      exact wpAny_bind (wpAny_standAt (wpAny_bind (offX h fun j z q => wpAny_pure ⟨rfl, q⟩)))
end

/-! ### as functions of data -/
def sIn (vs1 : List Nat) (gt1 : D → Env → W Env) (gb1 : Env → W Bool) (ge : Env → W D) (ρ2 : Env) : List D → List Int → (List Int → Prop) → Prop
  | [], acc, Q => Q acc
  | d :: ds, acc, Q => gt1 d (wipeE ρ2 vs1) (fun ρ3 => gb1 ρ3 (fun b => if b = true then ge ρ3 (fun y => ∃ j, y = .int j ∧ acc.length < 63 ∧ sIn vs1 gt1 gb1 ge ρ2 ds (acc ++ [j]) Q) (fun _ => False) else sIn vs1 gt1 gb1 ge ρ2 ds acc Q) (fun _ => False)) (fun _ => False)
def sOut (vs : List Nat) (gt : D → Env → W Env) (gi1 : Env → W (List D)) (vs1 : List Nat) (gt1 : D → Env → W Env) (gb1 : Env → W Bool) (ge : Env → W D) (ρ : Env) : List D → List Int → (List Int → Prop) → Prop
  | [], acc, Q => Q acc
  | d :: ds, acc, Q => gt d (wipeE ρ vs) (fun ρ2 => gi1 ρ2 (fun es => sIn vs1 gt1 gb1 ge ρ2 es acc (fun acc' => sOut vs gt gi1 vs1 gt1 gb1 ge ρ ds acc' Q)) (fun _ => False)) (fun _ => False)
def srt0 (gi : Env → W (List D)) (vs : List Nat) (gt : D → Env → W Env) (gi1 : Env → W (List D)) (vs1 : List Nat) (gt1 : D → Env → W Env) (gb1 : Env → W Bool) (ge : Env → W D) : Env → (List Int → Prop) → (Xc → Prop) → Prop :=
  fun ρ Q E => gi ρ (fun ds => okW ρ vs = true ∧ sOut vs gt gi1 vs1 gt1 gb1 ge ρ ds [] Q) E
def srtG (gi : Env → W (List D)) (vs : List Nat) (gt : D → Env → W Env) (gi1 : Env → W (List D)) (vs1 : List Nat) (gt1 : D → Env → W Env) (gb1 : Env → W Bool) (ge : Env → W D) : Env → W D :=
  fun ρ Q E => srt0 gi vs gt gi1 vs1 gt1 gb1 ge ρ (fun acc => ∀ ns : List Int, ns.Pairwise (· < ·) → (∀ k, k ∈ ns ↔ k ∈ acc) → Q (.lst (ns.map .int))) E

/-- a block's turn: back to the slots from which it set out -/
theorem blk_back {G : Ctx} {B : Bs} {ρ ρ2 : Env} {σ σ2 : St} {F F2 : Fps} {Hf H : Hp} {vs sl : List Nat} (R : Rep G B ρ σ F Hf H) (okv : ∀ i ∈ vs, ∀ s, ρ[i]? = some s → s.own = false) (hsl : ∀ i ∈ sl, i ∈ vs)
    (ag : Agree sl (wipeE ρ vs) (L2.wipe σ vs) F ρ2 σ2 F2) : F2 = F ∧ (∀ b, IsPool ρ2 σ2 b → IsPool ρ σ b) ∧ (∀ i ∈ vs, ∀ s, ρ2[i]? = some s → s.own = false) ∧
      ∀ {Hg Ha : Hp}, Rep G B ρ2 σ2 F2 Hg Ha → Nx ρ2 σ2 Hf H Hg Ha → Rep G B ρ σ F Hg Ha ∧ Nx ρ σ Hf H Hg Ha := by
  have wn : ∀ i ∈ sl, ∀ s, (wipeE ρ vs)[i]? = some s → s.own = false := fun i hi s e => by
    rw [wipeE_get, if_pos (hsl i hi)] at e
    split at e <;> cases e
    rfl
  have eF := ag.fp wn
  have hpw : ∀ b, IsPool ρ2 σ2 b → IsPool ρ σ b := fun b ⟨j, e1, e2⟩ => by
    have hj : j ∉ sl := fun z => by cases ag.ins j z _ e1
    obtain ⟨a1, a2⟩ := ag.out j hj
    rw [a1, wipeE_get] at e1
    rw [a2, wipe_get] at e2
    by_cases hv : j ∈ vs
    · rw [if_pos hv] at e1
      split at e1 <;> cases e1
    · rw [if_neg hv] at e1 e2
      exact ⟨j, e1, e2⟩
  refine ⟨eF, hpw, fun i hi s e => ?_, fun R6 n6 => ?_⟩
  · by_cases hj : i ∈ sl
    · exact ag.ins i hj s e
    · rw [(ag.out i hj).1, wipeE_get, if_pos hi] at e
      split at e <;> cases e
      rfl
  · subst eF
    have n7 := n6.weak hpw
    refine ⟨R.back R6 n7 fun j e => ?_, n7⟩
    have hj : j ∉ vs := fun z => by cases okv j z _ e
    obtain ⟨a1, a2⟩ := ag.out j fun z => hj (hsl j z)
    rw [wipeE_get, if_neg hj] at a1
    rw [wipe_get, if_neg hj] at a2
    exact ⟨a1.trans e, a2⟩
def semE (X : Cx) (e : Expr) : TE := fun σ H Q => ∀ pins s, Inv X pins σ H s → wpAny (model X.prog X.w) X.A (eval e X.env) (EP X pins σ Q) X.xe s
theorem pe_sem {X : Cx} {e : Expr} : PE X e (semE X e) := ⟨fun pins s σ H Q I h => h pins s I⟩
/-- the set so far: at Z, its members those of acc -/
def SetZ (X : Cx) (Z : Addr) (Hf H : Hp) (acc : List Int) : Prop := Hf Z = none ∧ acc.length < 64 ∧ ∃ S n, H Z = some (SetO X.w Z S n) ∧ n ≤ acc.length ∧ ∀ k, S k = true ↔ k ∈ acc
theorem SetZ.go {X : Cx} {Z : Addr} {Hf H Hf' H' : Hp} {acc : List Int} {ρ : Env} {σ : St} (h : SetZ X Z Hf H acc) (n : Nx ρ σ Hf H Hf' H') (hp : ¬ IsPool ρ σ Z) : SetZ X Z Hf' H' acc := by
  obtain ⟨h1, h2, S, m, h3, h4⟩ := h
  obtain ⟨n1, o, n2, n3⟩ := n.kp Z _ h3 h1
  exact ⟨n1, h2, S, m, by rw [n2, n3 hp], h4⟩

section
variable {G : Ctx} {X : Cx} {Wx : WX} {elt t0 i0 t1 i1 : Expr} {fs : List Expr} {sc : Scope} {pos : Pos} {own : List (Str × Nat)} {gi gi1 : Env → W (List D)} {gt gt1 : D → Env → W Env} {gb1 : Env → W Bool} {ge : Env → W D} {sl sl1 vs1 : List Nat} {wi : TI}
theorem zCore (hc : X.calm = true) (hN : X.N.Nodup) (pi : PI X t0 i0 wi) (ei : EiT G Wx wi gi) (ok : BlkOk X.N X.env.scope sc own) (hg : ∀ s H0 C cl fp, Eg G (bk X sc s H0 C cl fp) t0 sl gt) (hi1 : ∀ s H0 C cl fp, Ei G (bk X sc s H0 C cl fp) WF t1 i1 gi1)
    (hg1 : ∀ s H0 C cl fp, Eg G (bk X sc s H0 C cl fp) t1 sl1 gt1) (ht1 : ∀ s H0 C cl fp, Ets G (bk X sc s H0 C cl fp) WF fs gb1) (he : ∀ s H0 C cl fp, Ev G (bk X sc s H0 C cl fp) WF elt ge)
    (hsl : ∀ i ∈ sl, i ∈ own.map (·.2)) (hv1 : ∀ i ∈ vs1, i ∈ own.map (·.2)) (hsl1 : ∀ i ∈ sl1, i ∈ vs1) (hs : ∀ x, foldedSetIterable i0 X.env x = Pure.pure x) (hs1 : ∀ en x, foldedSetIterable i1 en x = Pure.pure x)
    {B : Bs} {ρ : Env} {σ : St} {F : Fps} {Hf H : Hp} {Q' : List Int → Prop} {E' : Xc → Prop} {Q : VK} (R : Rep G B ρ σ F Hf H) (q : srt0 gi (own.map (·.2)) gt gi1 vs1 gt1 gb1 ge ρ Q' E')
    (k : ∀ p Hf' H' acc, Rep G B ρ σ F Hf' H' → Nx ρ σ Hf H Hf' H' → H p = none → SetZ X p Hf' H' acc → Q' acc → Q (.ref p) H') (kx : XPost G Wx σ F Hf H B ρ E') : semE X (zE elt t0 i0 t1 i1 fs sc pos) σ H Q := by
  intro pins s I
  generalize hvs : own.map (·.2) = vs at q hsl hv1
  rw [show eval (zE elt t0 i0 t1 i1 fs sc pos) X.env = _ from PpSet.eval_SetComp _ _ _ _]
  have fr : ∀ y ∈ sc.names, y.2 = .free → ∃ c, X.env.cells.lookup y.1 = some c := fun y hy e => (ok.free y hy e).elim (fun z => I.ok.has _ (.inl z)) fun z => I.ok.has _ (.inr z)
  refine wpAny_comprehension_free (use := none) rfl hs (closure_ok fr) ok.kind (fun y hy e => by rw [ok.uniq y hy, e])
    (thn (pi.run pins s σ H (fun J H1 => ∃ ds Hf1, Rep G B ρ σ F Hf1 H1 ∧ Nx ρ σ Hf H Hf1 H1 ∧ Wk G J Hf1 ds ∧ okW ρ vs = true ∧ sOut vs gt gi1 vs1 gt1 gb1 ge ρ ds [] Q') I (ei B ρ σ F Hf H _ E' _ R q (fun J ds Hf1 H1 R1 n1 wk q1 => ⟨ds, Hf1, R1, n1, wk, q1⟩) kx))
      fun xv s1 hx => thn hx fun itv s2 h2 => ?_)
  obtain ⟨it, fp, tn, J, H1, e, I2, T, st2, f2, ds, Hf1, R1, n1, wk, okv, q1⟩ := h2
  subst e
  refine PpSet.newSet_ok (newEnv_comp ?_)
  generalize hZ : s2.heap.objs.size = Z
  have hZn : H1 Z = none := I2.hok.fresh (Nat.le_of_eq hZ)
  have zB := R1.freeB hZn
  have zS := R1.free1 hZn
  have zf := R1.sm.free hZn
  have okn : ∀ i ∈ vs, ∀ s, ρ[i]? = some s → s.own = false := fun i hi s e => okW_at okv hi e
  generalize hO : upd H1 Z (SetO X.w Z (fun _ => false) 0) = H3
  generalize hs3 : ({ s2 with heap := s2.heap.push { cls := .type "set", dict := none, data := .set #[] 0 (.fresh 0 0 (!X.w.params.followText "set-order")) } } : Shared) = s3
  have g3 : s3.heap = s2.heap.push { cls := .type "set", dict := none, data := .set #[] 0 (.fresh 0 0 (!X.w.params.followText "set-order")) } := by rw [← hs3]
  have I3 : Inv X pins σ H3 s3 := by
    rw [← hs3, ← hO]
    refine I2.laid (t' := s2.toks) (fun b o z => Heap.get?_push_of_some _ z) (Nat.le_of_eq hZ) ?_
    rw [← hZ]
    exact setO_new (setR_fresh X.w)
  have R3 : Rep G B ρ σ F Hf1 H3 := by rw [← hO]; exact R1.laid hZn
  have n3 : Nx ρ σ Hf1 H1 Hf1 H3 := by rw [← hO]; exact Nx.refl.other hZn
  have z3 : SetZ X Z Hf1 H3 [] := ⟨zf, by simp, _, 0, by rw [← hO]; exact upd_same, Nat.le_refl _, by simp⟩
  have lt2 : ∀ b ∈ fp, b < s2.heap.objs.size := fun b hb => by
    obtain ⟨_, z, _⟩ := T.obj _ _ st2 b hb
    exact Heap.lt_size z
  have f3 : ∀ b ∈ fp, FpOk X pins H3 b ∧ b < s3.heap.objs.size := fun b hb => by
    refine ⟨⟨?_, (f2 b hb).2⟩, by rw [g3, Heap.size_push]; exact Nat.lt_succ_of_lt (lt2 b hb)⟩
    rw [← hO, upd_ne (by rw [← hZ]; exact Nat.ne_of_lt (lt2 b hb))]
    exact (f2 b hb).1
  have st3 : tn 0 s3.heap := T.keep _ _ _ st2 fun b _ o z => by rw [g3]; exact Heap.get?_push_of_some _ z
  have I4 := block_start I3 ok hN f3
  rw [hvs] at I4
  have hg := hg s3 H3 s3.heap.objs.size (cellsFrom (s3.heap.objs.size + 1) sc.names (cloFrom X.env.cells sc.names [])) fp
  have hi1 := hi1 s3 H3 s3.heap.objs.size (cellsFrom (s3.heap.objs.size + 1) sc.names (cloFrom X.env.cells sc.names [])) fp
  have hg1 := hg1 s3 H3 s3.heap.objs.size (cellsFrom (s3.heap.objs.size + 1) sc.names (cloFrom X.env.cells sc.names [])) fp
  have ht1 := ht1 s3 H3 s3.heap.objs.size (cellsFrom (s3.heap.objs.size + 1) sc.names (cloFrom X.env.cells sc.names [])) fp
  have he := he s3 H3 s3.heap.objs.size (cellsFrom (s3.heap.objs.size + 1) sc.names (cloFrom X.env.cells sc.names [])) fp
  show codeAny _ _ (.compStart (zE elt t0 i0 t1 i1 fs sc pos) 0 (.ref it) (.ref Z) (compEnvC sc (cellsFrom (s3.heap.objs.size + 1) sc.names (cloFrom X.env.cells sc.names [])) s3.heap.objs.size X.env)) (compPost (model X.prog X.w) X.A X.xe none (EP X pins σ Q) (.ref Z) s3.heap.objs.size) { s3 with heap := pushCells (s3.heap.push { cls := .type "dict", data := .dict #[] }) sc.names }
  unfold bk at hg hi1 hg1 ht1 he
  generalize hen : compEnvC sc (cellsFrom (s3.heap.objs.size + 1) sc.names (cloFrom X.env.cells sc.names [])) s3.heap.objs.size X.env = en at I4 hg hi1 hg1 ht1 he ⊢
  have hL : en.locals = s3.heap.objs.size := by subst hen; rfl
  generalize hs4 : ({ s3 with heap := pushCells (s3.heap.push { cls := .type "dict", data := .dict #[] }) sc.names } : Shared) = s4 at I4 ⊢
  have st4 : tn 0 s4.heap := T.keep _ _ _ st3 fun b _ o z => by rw [← hs4]; exact pushCells_keeps _ _ _ _ (Heap.get?_push_of_some _ z)
  have stat : ∀ {σ' : St} {H' : Hp} {z : Shared}, Inv (X.blk s3 H3 sc en fp) [] σ' H' z → (∀ b ∈ fp, H' b = none) → ∀ b ∈ fp, FpOk (X.blk s3 H3 sc en fp) [] H' b := fun {σ' H' z} I' hn b hb =>
    ⟨hn b hb, (I'.ok.exf b hb).1, I'.ok.exfs b hb, .inl hb, (I'.ok.exf b hb).2, fun y hy => absurd (show y ∈ ([] : List (Addr × Obj)) ++ [] from hy) (by simp)⟩
  have loop : codeAny (model X.prog X.w) X.A (.compLoop (zE elt t0 i0 t1 i1 fs sc pos) 0 (.ref it) (.ref Z) en) (compPost (model X.prog X.w) X.A X.xe none (EP X pins σ Q) (.ref Z) s3.heap.objs.size) s4 := by
    refine zLoop0 (hs1 en) (fun m z => ∃ i H' Hg acc, m = ds.length - i ∧ i ≤ ds.length ∧ Inv (X.blk s3 H3 sc en fp) [] (L2.wipe σ vs) H' z ∧ tn i z.heap ∧ (∀ b ∈ fp, H' b = none) ∧ Rep G B ρ σ F Hg H' ∧ Nx ρ σ Hf1 H1 Hg H' ∧ SetZ X Z Hg H' acc ∧ sOut vs gt gi1 vs1 gt1 gb1 ge ρ (ds.drop i) acc Q') ?_
      ds.length ⟨0, H3, Hf1, [], rfl, Nat.zero_le _, I4, st4, fun b hb => (f3 b hb).1.1, R3, n3, z3, q1⟩
    rintro m s5 ⟨i, H5, Hg, acc, rfl, hi, I5, st5, n5, R5, m5, z5, q5⟩
    by_cases hlt : i < ds.length
    · obtain ⟨d, hd⟩ : ∃ d, ds[i]? = some d := ⟨ds[i], by simp [hlt]⟩
      refine thn (T.item (X.blk s3 H3 sc en fp) rfl rfl rfl hc i [] s5 _ H5 noX I5 (stat I5 n5) st5 (wk.go i H5 (m5.sm.trans (Sm.of R5.sm)) hlt)) fun r s6 ⟨u, hr, h6⟩ => .inr ⟨u, hr, ?_⟩
      refine thn h6 fun _ s7 ⟨x, H7, I7, r7, y7, st7, n7⟩ => ?_
      have I7' := I7.pinned (stat I7 n7) (T.obj _ _ st7)
      obtain ⟨Hg7, R7, m7, rx⟩ := wk.step m5.sm R5 hd y7
      have hdr : ds.drop i = d :: ds.drop (i + 1) := by
        rw [List.drop_eq_getElem_cons hlt]
        rw [List.getElem?_eq_getElem hlt] at hd
        rw [Option.some.inj hd]
      rw [hdr] at q5
      obtain ⟨tg, pg, eg⟩ := hg.ex
      refine thn (pg.run _ s7 _ H7 x u (fun σ8 H8 => ∃ ρ2 F2, H8 = H7 ∧ Rep G B ρ2 σ8 F2 Hg7 H8 ∧ Agree sl (wipeE ρ vs) (L2.wipe σ vs) F ρ2 σ8 F2 ∧ gi1 ρ2 (fun es => sIn vs1 gt1 gb1 ge ρ2 es acc (fun acc' => sOut vs gt gi1 vs1 gt1 gb1 ge ρ (ds.drop (i + 1)) acc' Q')) (fun _ => False)) I7' r7
        (eg B _ _ F Hg7 H7 x d _ _ _ (R7.wiped vs okn) rx q5 fun ρ2 σ8 F2 R8 ag q8 => ⟨ρ2, F2, rfl, R8, ag, q8⟩)) fun _ s8 ⟨σ8, H8, I8, ρ2, F2, e8, R8, ag, q8⟩ => ?_
      subst e8
      obtain ⟨eF, hpool, okr, bk0⟩ := blk_back R7 okn hsl ag
      obtain ⟨wi1, pi1, ei1⟩ := hi1.ex
      refine thn (pi1.run _ s8 σ8 H8 (fun J1 H9 => ∃ es Hg9, Rep G B ρ2 σ8 F2 Hg9 H9 ∧ Nx ρ2 σ8 Hg7 H8 Hg9 H9 ∧ Wk G J1 Hg9 es ∧ sIn vs1 gt1 gb1 ge ρ2 es acc (fun acc' => sOut vs gt gi1 vs1 gt1 gb1 ge ρ (ds.drop (i + 1)) acc' Q')) I8
        (ei1 B ρ2 σ8 F2 Hg7 H8 _ _ _ R8 q8 (fun J1 es Hg9 H9 R9 n9 wk1 q9 => ⟨es, Hg9, R9, n9, wk1, q9⟩) fun _ _ _ _ _ _ _ _ e => e.elim)) fun xv s10 hx => thn hx fun itv s11 h11 => ?_
      obtain ⟨it1, fp1, tn1, J1, H9, e1, I9, T1, st9, f9, es, Hg9, R9, n9, wk1, q9⟩ := h11
      subst e1
      obtain ⟨R9p, m9⟩ := bk0 R9 n9
      have z9 : SetZ X Z Hg9 H9 acc := (z5.go m7 zS.2).go m9 zS.2
      have zS2 : NoOne ρ2 σ8 F2 Z := ⟨by rw [eF]; exact zS.1, fun z => zS.2 (hpool _ z)⟩
      have okn1 : ∀ i ∈ vs1, ∀ s, ρ2[i]? = some s → s.own = false := fun i hi => okr i (hv1 i hi)
      have stat1 : ∀ {H' : Hp}, (∀ b ∈ fp1, H' b = none) → ∀ b ∈ fp1, FpOk (X.blk s3 H3 sc en fp) ([] ++ pinsAt fp s7.heap) H' b := fun hn b hb => ⟨hn b hb, (f9 b hb).2⟩
      have w8 : L2.wipe σ8 vs = L2.wipe σ vs := by rw [ag.wipe hsl, wipe_wipe]
      have know : ∀ (j : Nat) v, (L2.wipe σ vs)[j]? = some (some v) → (L2.wipe σ8 vs1)[j]? = some (some v) := fun j v e => by
        rw [← w8] at e
        obtain ⟨e1, e2⟩ := wipe_some e
        rw [wipe_out fun z => e2 (hv1 j z)]
        exact e1
      have loop1 : codeAny (model X.prog X.w) X.A (.compLoop (zE elt t0 i0 t1 i1 fs sc pos) 1 (.ref it1) (.ref Z) en) (fun r z6 => (∃ f, r = .ok f) ∧ ∃ m, m < ds.length - i ∧ ∃ i H' Hg acc, m = ds.length - i ∧ i ≤ ds.length ∧ Inv (X.blk s3 H3 sc en fp) [] (L2.wipe σ vs) H' z6 ∧ tn i z6.heap ∧ (∀ b ∈ fp, H' b = none) ∧ Rep G B ρ σ F Hg H' ∧ Nx ρ σ Hf1 H1 Hg H' ∧ SetZ X Z Hg H' acc ∧ sOut vs gt gi1 vs1 gt1 gb1 ge ρ (ds.drop i) acc Q') s11 := by
        refine zLoop1 (fun m z => ∃ j H' Hh acc', m = es.length - j ∧ j ≤ es.length ∧ Inv (X.blk s3 H3 sc en fp) ([] ++ pinsAt fp s7.heap) (L2.wipe σ8 vs1) H' z ∧ tn1 j z.heap ∧ (∀ b ∈ fp1, H' b = none) ∧ Rep G B ρ2 σ8 F2 Hh H' ∧ Rep G B ρ σ F Hh H' ∧ Nx ρ σ Hf1 H1 Hh H' ∧ Sm Hg9 Hh ∧ SetZ X Z Hh H' acc' ∧
            sIn vs1 gt1 gb1 ge ρ2 (es.drop j) acc' (fun acc' => sOut vs gt gi1 vs1 gt1 gb1 ge ρ (ds.drop (i + 1)) acc' Q')) ?_
          es.length ⟨0, H9, Hg9, acc, rfl, Nat.zero_le _, I9.weak (wipe_length _ _) (fun j v e => (wipe_some e).1), st9, fun b hb => (f9 b hb).1, R9, R9p, (m5.trans m7).trans m9, Sm.refl _, z9, q9⟩
        rintro m s12 ⟨j, H12, Hh, acc', rfl, hj, I12, st12, n12, R12, R12p, m12, sm12, z12, q12⟩
        by_cases hlt1 : j < es.length
        · obtain ⟨d1, hd1⟩ : ∃ d1, es[j]? = some d1 := ⟨es[j], by simp [hlt1]⟩
          refine thn (T1.item (X.blk s3 H3 sc en fp) rfl rfl rfl hc j _ s12 (L2.wipe σ8 vs1) H12 noX I12 (stat1 n12) st12 (wk1.go j H12 (sm12.trans (Sm.of R12.sm)) hlt1)) fun r s13 ⟨u1, hr, h13⟩ => .inr ⟨u1, hr, ?_⟩
          refine thn h13 fun _ s14 ⟨x1, H14, I14, r14, y14, st14, n14⟩ => ?_
          have I14' := I14.pinned (stat1 n14) (T1.obj _ _ st14)
          obtain ⟨Hh14, R14, m14, rx1⟩ := wk1.step sm12 R12 hd1 y14
          obtain ⟨_, _, _, bkp⟩ := blk_back R12p okn hsl ag
          obtain ⟨R14p, m14p⟩ := bkp R14 m14
          have hdr1 : es.drop j = d1 :: es.drop (j + 1) := by
            rw [List.drop_eq_getElem_cons hlt1]
            rw [List.getElem?_eq_getElem hlt1] at hd1
            rw [Option.some.inj hd1]
          rw [hdr1] at q12
          obtain ⟨tg1, pg1, eg1⟩ := hg1.ex
          refine thn (pg1.run _ s14 _ H14 x1 u1 (fun σ15 H15 => ∃ ρ3 F3, H15 = H14 ∧ Rep G B ρ3 σ15 F3 Hh14 H15 ∧ Agree sl1 (wipeE ρ2 vs1) (L2.wipe σ8 vs1) F2 ρ3 σ15 F3 ∧ gb1 ρ3 (fun b => if b = true then ge ρ3 (fun y => ∃ j', y = .int j' ∧ acc'.length < 63 ∧ sIn vs1 gt1 gb1 ge ρ2 (es.drop (j + 1)) (acc' ++ [j']) (fun acc' => sOut vs gt gi1 vs1 gt1 gb1 ge ρ (ds.drop (i + 1)) acc' Q')) (fun _ => False) else sIn vs1 gt1 gb1 ge ρ2 (es.drop (j + 1)) acc' (fun acc' => sOut vs gt gi1 vs1 gt1 gb1 ge ρ (ds.drop (i + 1)) acc' Q')) (fun _ => False)) I14' r14
            (eg1 B _ _ F2 Hh14 H14 x1 d1 _ _ _ (R14.wiped vs1 okn1) rx1 q12 fun ρ3 σ15 F3 R15 ag1 q15 => ⟨ρ3, F3, rfl, R15, ag1, q15⟩)) fun _ s15 ⟨σ15, H15, I15, ρ3, F3, e15, R15, ag1, q15⟩ => ?_
          subst e15
          obtain ⟨eF1, hpool1, _, bk1⟩ := blk_back R14 okn1 hsl1 ag1
          have w15 : L2.wipe σ15 vs1 = L2.wipe σ8 vs1 := by rw [ag1.wipe hsl1, wipe_wipe]
          obtain ⟨tt, ptt, ett⟩ := ht1.ex
          refine thn (ptt.run _ s15 σ15 H15 (fun b H16 => ∃ Hh16, Rep G B ρ3 σ15 F3 Hh16 H16 ∧ Nx ρ3 σ15 Hh14 H15 Hh16 H16 ∧ if b = true then ge ρ3 (fun y => ∃ j', y = .int j' ∧ acc'.length < 63 ∧ sIn vs1 gt1 gb1 ge ρ2 (es.drop (j + 1)) (acc' ++ [j']) (fun acc' => sOut vs gt gi1 vs1 gt1 gb1 ge ρ (ds.drop (i + 1)) acc' Q')) (fun _ => False) else sIn vs1 gt1 gb1 ge ρ2 (es.drop (j + 1)) acc' (fun acc' => sOut vs gt gi1 vs1 gt1 gb1 ge ρ (ds.drop (i + 1)) acc' Q')) I15
            (ett B ρ3 σ15 F3 Hh14 H15 _ _ _ R15 q15 (fun b Hh16 H16 R16 n16 q16 => ⟨Hh16, R16, n16, q16⟩) fun _ _ _ _ _ _ _ _ e => e.elim)) fun b s16 ⟨H16, I16, Hh16, R16, n16, q16⟩ => ?_
          have pinOf : ∀ {z : Shared} {H' : Hp}, Inv (X.blk s3 H3 sc en fp) (([] ++ pinsAt fp s7.heap) ++ pinsAt fp1 s14.heap) σ15 H' z → Inv (X.blk s3 H3 sc en fp) ([] ++ pinsAt fp s7.heap) (L2.wipe σ8 vs1) H' z ∧ tn1 (j + 1) z.heap ∧ ∀ b ∈ fp1, H' b = none := fun {z H'} I' => by
            have pin' : ∀ b ∈ fp1, ∀ o, s14.heap.get? b = some o → z.heap.get? b = some o ∧ H' b = none := fun b hb o e =>
              let y := I'.pin (b, o) (List.mem_append_right _ (List.mem_append_right _ (mem_pinsAt hb e)))
              ⟨y.1, y.2.1⟩
            refine ⟨I'.unpinned.weak (by rw [← w15, wipe_length]) (fun j v e => by rw [← w15] at e; exact (wipe_some e).1), T1.keep _ _ _ st14 fun b hb o e => (pin' b hb o e).1, fun b hb => ?_⟩
            obtain ⟨o, e, _⟩ := T1.obj _ _ st14 b hb
            exact (pin' b hb o e).2
          cases b with
          | false =>
            refine .inl ⟨rfl, es.length - (j + 1), by omega, j + 1, H16, Hh16, acc', rfl, hlt1, ?_⟩
            obtain ⟨I17, st17, n17⟩ := pinOf I16
            obtain ⟨R17, m17⟩ := bk1 R16 n16
            obtain ⟨_, _, _, bk2⟩ := blk_back R14p okn hsl ag
            obtain ⟨R17p, m17p⟩ := bk2 R17 m17
            exact ⟨I17, st17, n17, R17, R17p, (m12.trans m14p).trans m17p, (sm12.trans m14.sm).trans m17.sm, (z12.go m14p zS.2).go m17p zS.2, q16⟩
          | true =>
            refine .inr ⟨rfl, ?_⟩
            obtain ⟨te, pe, ee⟩ := he.ex
            refine thn (pe.run _ s16 σ15 H16 (fun v H17 => ∃ j' Hh17, v = V.int j' ∧ Rep G B ρ3 σ15 F3 Hh17 H17 ∧ Nx ρ3 σ15 Hh14 H15 Hh17 H17 ∧ acc'.length < 63 ∧ sIn vs1 gt1 gb1 ge ρ2 (es.drop (j + 1)) (acc' ++ [j']) (fun acc' => sOut vs gt gi1 vs1 gt1 gb1 ge ρ (ds.drop (i + 1)) acc' Q')) I16
              (ee B ρ3 σ15 F3 Hh16 H16 _ _ _ R16 q16 (fun v d' Hh17 H17 R17 n17 r17 ⟨j', e', q17⟩ => ⟨j', Hh17, by subst e'; cases r17; rfl, R17, n16.trans n17, q17⟩) fun _ _ _ _ _ _ _ _ e => e.elim)) fun uv s17 ⟨v, H17, I17, rv, j', Hh17, ev, R17, n17, hl, q17⟩ => ?_
            subst ev
            obtain ⟨R18, m18⟩ := bk1 R17 n17
            obtain ⟨_, _, _, bk2⟩ := blk_back R14p okn hsl ag
            obtain ⟨R18p, m18p⟩ := bk2 R18 m18
            obtain ⟨zf17, _, S, cnt, hS, hcnt, hmem⟩ := (z12.go m14p zS.2).go m18p zS.2
            refine thn (mt_sadd (X := X.blk s3 H3 sc en fp) _ s17 σ15 H17 (.ref Z) [V.int j'] (.ref Z) [uv] (fun _ H18 => H18 = upd H17 Z (SetO X.w Z (fun y => S y || decide (y = j')) (if S j' = true then cnt else cnt + 1))) I17 rfl (.cons rv .nil) ⟨Z, j', S, cnt, rfl, rfl, hS, Nat.lt_of_le_of_lt (show cnt + 1 ≤ 64 by omega) (by decide +kernel), rfl⟩) fun _ s18 ⟨_, H18, I18, _, e18⟩ => ?_
            subst e18
            obtain ⟨I19, st19, n19⟩ := pinOf I18
            refine ⟨es.length - (j + 1), by omega, j + 1, _, Hh17, acc' ++ [j'], rfl, hlt1, I19, st19, n19, R18.other zf17 zB zS2, R18p.other zf17 zB zS, ((m12.trans m14p).trans m18p).other hZn, (sm12.trans m14.sm).trans m18.sm, ⟨zf17, by simp; omega, _, _, upd_same, ?_, fun y => ?_⟩, q17⟩
            · split <;> simp <;> omega
            · simp [hmem]
        · have hj' : j = es.length := by omega
          subst hj'
          rw [show es.drop es.length = [] by simp] at q12
          refine thn (T1.done (X.blk s3 H3 sc en fp) rfl rfl rfl hc es.length _ s12 (L2.wipe σ8 vs1) H12 noX I12 (stat1 n12) st12 (wk1.stop H12 (sm12.trans (Sm.of R12.sm)))) fun r s13 ⟨hr, I13⟩ => .inl ⟨hr, ⟨_, rfl⟩, ?_⟩
          have pin' : ∀ b ∈ fp, ∀ o, s7.heap.get? b = some o → s13.heap.get? b = some o ∧ H12 b = none := fun b hb o e =>
            let y := I13.pin (b, o) (List.mem_append_right _ (List.mem_append_right _ (mem_pinsAt hb e)))
            ⟨y.1, y.2.1⟩
          refine ⟨ds.length - (i + 1), by omega, i + 1, H12, Hh, acc', rfl, hlt, (I13.unpinned (pins := [])).weak (by have := congrArg List.length w8; simp only [wipe_length] at this ⊢; exact this.symm) know, T.keep _ _ _ st7 fun b hb o e => (pin' b hb o e).1, fun b hb => ?_, R12p, m12, z12, q12⟩
          obtain ⟨o, e, _⟩ := T.obj _ _ st7 b hb
          exact (pin' b hb o e).2
      exact zStart (by decide) loop1 (T1.self X.A 0 _ _ _ st9 loop1)
    · have hi' : i = ds.length := by omega
      subst hi'
      rw [show ds.drop ds.length = [] by simp] at q5
      refine thn (T.done (X.blk s3 H3 sc en fp) rfl rfl rfl hc ds.length [] s5 _ H5 noX I5 (stat I5 n5) st5 (wk.stop H5 (m5.sm.trans (Sm.of R5.sm)))) fun r s6 ⟨hr, I6⟩ => .inl ⟨hr, ?_⟩
      have I7 : Inv X pins σ H5 s6 := I3.call' (ch := fp) I6.os I6.base I6.hok I6.bare fun b hb => ⟨(f3 b hb).1.2.2.2.1, (f3 b hb).1.2.1, (f3 b hb).1.2.2.2.2.1, (f3 b hb).1.2.2.2.2.2⟩
      have nC : H5 s3.heap.objs.size = none := by rw [← hL]; exact I6.free
      obtain ⟨m, hn, _⟩ := I6.loc
      have hn : s6.heap.Ns en.locals m := hn
      rw [hL] at hn
      refine ⟨m, hn, fun h'' sb => ?_⟩
      obtain ⟨g0, g1, g2, g3, g4, g5⟩ := I3.fpOk (Nat.le_refl _) nC
      exact ⟨.ref Z, H5, I7.turned (t' := s6.toks) (fun b o hb e => (sb.2 b hb).trans e) g0 g1 g3 g4 g5, rfl, k Z Hg H5 acc R5 (n1.trans m5) (n1.nn R.sm R1.sm hZn) z5 q5⟩
  exact zStart (by decide) loop (T.self X.A 0 _ _ _ st4 loop)
theorem rps_ints {cn : Nat → Addr} {Hf : Hp} : ∀ ns : List Int, Rps cn Hf (ns.map V.int) (ns.map D.int)
  | [] => .nil
  | n :: ns => .cons (.int n) (rps_ints ns)
theorem sorted_blt : bootBuiltins "sorted" = some (.builtin "sorted") := by decide +kernel
/-- sorted({e for t0 in i0 for t1 in i1 if ..}) -/
theorem ev_srt {p cp : Pos} (hc : X.calm = true) (hN : X.N.Nodup) (hi : Ei G X Wx t0 i0 gi) (ok : BlkOk X.N X.env.scope sc own) (hg : ∀ s H0 C cl fp, Eg G (bk X sc s H0 C cl fp) t0 sl gt) (hi1 : ∀ s H0 C cl fp, Ei G (bk X sc s H0 C cl fp) WF t1 i1 gi1)
    (hg1 : ∀ s H0 C cl fp, Eg G (bk X sc s H0 C cl fp) t1 sl1 gt1) (ht1 : ∀ s H0 C cl fp, Ets G (bk X sc s H0 C cl fp) WF fs gb1) (he : ∀ s H0 C cl fp, Ev G (bk X sc s H0 C cl fp) WF elt ge)
    (hsl : ∀ i ∈ sl, i ∈ own.map (·.2)) (hv1 : ∀ i ∈ vs1, i ∈ own.map (·.2)) (hsl1 : ∀ i ∈ sl1, i ∈ vs1) (hgl : Gl X "sorted") (hm : X.mg "sorted" = none)
    (hs : ∀ x, foldedSetIterable i0 X.env x = Pure.pure x := by intro _; rfl) (hs1 : ∀ en x, foldedSetIterable i1 en x = Pure.pure x := by intro _ _; rfl) :
    Ev G X Wx (.Call (.Name "sorted" p) [zE elt t0 i0 t1 i1 fs sc pos] [] cp) (srtG gi (own.map (·.2)) gt gi1 vs1 gt1 gb1 ge) := by
  obtain ⟨wi, pi, ei⟩ := hi.ex
  refine ⟨_, pe_callB (cr_sortedSet hc) hgl hm sorted_blt (pa_cons pe_sem pa_nil), ?_⟩
  intro B ρ σ F Hf H Q' E' Q R q k kx
  refine zCore hc hN pi ei ok hg hi1 hg1 ht1 he hsl hv1 hsl1 hs hs1 R q (fun Z Hf1 H1 acc R1 n1 hZ ⟨hf, hl, S, n, hS, hn, hm⟩ q1 => ?_) kx
  refine ⟨Z, S, n, rfl, hS, by omega, fun ns p hp hmem hlen hnone => ?_⟩
  refine k (.ref p) (.lst (ns.map .int)) _ _ (R1.new hnone) (n1.trans (Nx.new R1.sm hnone)) (.lst upd_same ?_) (q1 ns hp fun y => (hmem y).trans (hm y))
  exact rps_ints ns
end
end QL

set_option Elab.async false
set_option linter.all false
set_option maxRecDepth 100000
set_option maxHeartbeats 2000000
/-! the truth of a list, a tuple, a number; {} -/
namespace QL
open PySem L2
theorem room65 {k : Nat} {A : Around} (r : Room k A) : A.units + 65 < cLine := by have := r.un; omega
section
variable {G : Ctx} {X : Cx} {Wx : WX} {e : Expr} {g : Env → W D} {pos : Pos}
def truD : D → W Bool
  | .bl b => W.pure b | .non => W.pure false | .int i => W.pure (i != 0) | .lst xs => W.pure (!xs.isEmpty) | .tup xs => W.pure (!xs.isEmpty) | _ => W.fail
def truB (g : Env → W D) : Env → W Bool := fun ρ Q E => g ρ (fun d => truD d Q E) E
theorem rps_emp {cn : Nat → Addr} {Hf : Hp} {vs : List V} {ds : List D} (r : Rps cn Hf vs ds) : (!vs.isEmpty) = !ds.isEmpty := by cases r <;> rfl
theorem eb_truth (hK : X.K = G.K) (h : Ev G X Wx e g) (he : ∀ whole, isTrue e X.env whole = (do let v ← whole; standAt e.pos; holding [v] (truthy v)) := by intro _; rfl) : Eb G X Wx e (truB g) := by
  obtain ⟨ta, pa, ea⟩ := h.ex
  refine ⟨_, pt_truth pa he, fun B ρ σ F Hf H Q' E' Q R q k kx => ?_⟩
  refine ea B ρ σ F Hf H _ E' _ R q (fun v d Hf1 H1 R1 n1 r1 q1 => ?_) kx
  cases r1 with
  | non => exact ⟨false, rfl, k _ _ _ R1 n1 q1⟩
  | bl b => exact ⟨b, rfl, k _ _ _ R1 n1 q1⟩
  | int i => exact ⟨_, rfl, k _ _ _ R1 n1 q1⟩
  | lst h r => exact ⟨_, .inl ⟨_, SqL.of (R1.sm _ _ h), rfl⟩, by rw [rps_emp r]; exact k _ _ _ R1 n1 q1⟩
  | tup h r => exact ⟨_, .inr (.inl ⟨_, SqT.of (R1.sm _ _ h), rfl⟩), by rw [rps_emp r]; exact k _ _ _ R1 n1 q1⟩
  | _ => exact False.elim q1
theorem ev_dict0 : Ev G X Wx (.Dict [] [] pos) (kst (.dK [])) :=
  ⟨_, pe_dnewK, fun B ρ σ F Hf H Q' E' Q R q k kx p hp => k (.ref p) _ _ _ (R.new hp) (Nx.new R.sm hp) (.dK (.inl upd_same) .nil) q⟩
@[simp] theorem truB_app {ρ : Env} {Q : Bool → Prop} {E : Xc → Prop} : truB g ρ Q E = g ρ (fun d => truD d Q E) E := rfl
@[simp] theorem truD_bl {b : Bool} {Q : Bool → Prop} {E : Xc → Prop} : truD (.bl b) Q E = Q b := rfl
@[simp] theorem truD_lst {xs : List D} {Q : Bool → Prop} {E : Xc → Prop} : truD (.lst xs) Q E = Q (!xs.isEmpty) := rfl
@[simp] theorem truD_tup {xs : List D} {Q : Bool → Prop} {E : Xc → Prop} : truD (.tup xs) Q E = Q (!xs.isEmpty) := rfl
@[simp] theorem truD_int {i : Int} {Q : Bool → Prop} {E : Xc → Prop} : truD (.int i) Q E = Q (i != 0) := rfl
@[simp] theorem truD_non {Q : Bool → Prop} {E : Xc → Prop} : truD .non Q E = Q false := rfl
def ltTD (a b : D) : W D := fun Q _ => ∃ ns ms : List Int, a = .tup (ns.map .int) ∧ b = .tup (ms.map .int) ∧ Q (.bl (HT.lexLt ns ms))
theorem rps_vints {cn : Nat → Addr} {Hf : Hp} : ∀ {ns : List Int} {vs : List V}, Rps cn Hf vs (ns.map D.int) → vs = ns.map V.int
  | [], _, .nil => rfl
  | _ :: _, _, .cons r t => by cases r; rw [rps_vints t]; rfl
theorem o_ltT : Op2 G (rLtT G.K) ltTD := by
  intro B ρ σ F Hf H x y a b Q' E' Q R rx ry q k
  obtain ⟨ns, ms, rfl, rfl, q⟩ := q
  cases rx with
  | tup h1 r1 =>
    cases ry with
    | tup h2 r2 =>
      have e1 := rps_vints r1
      have e2 := rps_vints r2
      subst e1 e2
      exact ⟨_, _, ns, ms, rfl, rfl, SqT.of (R.sm _ _ h1), SqT.of (R.sm _ _ h2), k _ _ Hf H R Nx.refl (.bl _) q⟩
def inD (neg : Bool) (a b : D) : W D := fun Q _ => ∃ x ds ys, b = .lst ds ∧ toPy a = some x ∧ toPys ds = some ys ∧ SeqAt.shaped x = true ∧ SeqAt.shaped (.list ys) = true ∧ Q (.bl (if neg then !ys.any (fun z => PyData.eqv z x) else ys.any (fun z => PyData.eqv z x)))
theorem o_in : Op2 G (rInD G.K) (inD false) := by
  intro B ρ σ F Hf H x y a b Q' E' Q R rx ry q k
  obtain ⟨x', ds, ys, rfl, e1, e2, s1, s2, q⟩ := q
  exact ⟨x', ys, rx.dp _ R.sm e1, ry.dp _ R.sm (by simp [toPy, e2]), s1, s2, k _ _ Hf H R Nx.refl (.bl _) q⟩
theorem o_notIn : Op2 G (rNotInD G.K) (inD true) := by
  intro B ρ σ F Hf H x y a b Q' E' Q R rx ry q k
  obtain ⟨x', ds, ys, rfl, e1, e2, s1, s2, q⟩ := q
  exact ⟨x', ys, rx.dp _ R.sm e1, ry.dp _ R.sm (by simp [toPy, e2]), s1, s2, k _ _ Hf H R Nx.refl (.bl _) q⟩
end
end QL

set_option Elab.async false
set_option linter.all false
set_option maxRecDepth 100000
set_option maxHeartbeats 2000000
/-! instances whose fields are frozen -/
namespace QL
open PySem L2
open PyProof.Rows (envOfC)
def fzs : List (Str × D) → List (Str × OD)
  | [] => []
  | (f, x) :: r => (f, .fz x) :: fzs r
theorem fzs_put {f : Str} {z : D} : ∀ {fs : List (Str × D)}, fzs (putD f z fs) = putO f (.fz z) (fzs fs)
  | [] => rfl
  | (g, x) :: r => by
    unfold putD
    by_cases h : g = f
    · simp [h, fzs, putO]
    · simp [h, fzs, putO, fzs_put (fs := r)]
theorem fzs_len : ∀ fs : List (Str × D), (fzs fs).length = fs.length
  | [] => rfl
  | (f, x) :: r => by simp [fzs, fzs_len r]
theorem fzs_ok : ∀ fs : List (Str × D), OD.okfs (fzs fs) = true
  | [] => rfl
  | (f, x) :: r => by simp [fzs, OD.okfs, OD.ok, fzs_ok r]
theorem fzs_d : ∀ fs : List (Str × D), OD.dfs (fzs fs) = fs
  | [] => rfl
  | (f, x) :: r => by simp [fzs, OD.dfs, OD.d, fzs_d r]
theorem fzs_inj : ∀ {a b : List (Str × D)}, fzs a = fzs b → a = b
  | a, b, h => by rw [← fzs_d a, h, fzs_d]
def initF (C : Nat) (c : List Sl → W (List (Str × D))) : Cn := fun as Q E => ∃ rest, as = .bw (OD.ins C []) :: rest ∧ purB rest = true ∧ c rest (fun fs => Q (.fz .non) (.bw (OD.ins C (fzs fs)) :: rest)) (fun x => ∀ y, E x (.bw y :: rest))
def mInitF (n N C : Nat) (g : Env → Ws) : List Sl → W (List (Str × D)) := fun as Q E => as.length + 1 = n ∧ g (.bw (OD.ins C []) :: (as ++ List.replicate (N - n) .un)) (fun fl ρ => fl = .nx ∧ ∃ fs, ρ[0]? = some (.bw (OD.ins C (fzs fs))) ∧ Q fs) (fun x ρ => (∃ y, ρ[0]? = some (.bw y)) ∧ E x)
theorem make_ofF {C : Nat} {c : List Sl → W (List (Str × D))} {gs : Env → W (List Sl)} : frO (makeO C (initF C c) gs) = makeF C c gs := by
  funext ρ Q E
  show gs ρ _ E = gs ρ _ E
  congr 1
  funext as
  have e2 : (fun x => OD → E x) = E := by funext x; exact propext ⟨fun h => h default, fun h _ => h⟩
  have e1 : (fun fs => ∃ y, RV.fz D.non = RV.fz D.non ∧ (Sl.bw (OD.ins C (fzs fs)) :: as)[0]? = some (Sl.bw y) ∧ (y.ok = true ∧ Q y.d)) = fun fs => Q (.ins C fs) := by
    funext fs
    refine propext ⟨fun ⟨y, _, h, q⟩ => ?_, fun q => ⟨_, rfl, rfl, by simp [OD.ok, fzs_ok], ?_⟩⟩
    · simp at h
      subst h
      have q := q.2
      rw [OD.d, fzs_d] at q
      exact q
    · rw [OD.d, fzs_d]
      exact q
  refine propext ⟨fun ⟨rest, e, pu, q⟩ => ?_, fun ⟨pu, q⟩ => ⟨as, rfl, pu, ?_⟩⟩
  · cases e
    refine ⟨pu, ?_⟩
    rw [e1, e2] at q
    exact q
  · rw [e1, e2]
    exact q
section
variable {G : Ctx} {X : Cx} {Wx : WX} {e : Expr} {es : List Expr} {gc : Env → W (List Sl)} {g : Env → W D} {pos p p' : Pos}
theorem ev_makeF {C : Nat} {x : Str} {c : List Sl → W (List (Str × D))} {kk : Nat} {f : Addr} {fd : FuncData} {ps : List Str} (M : Mk X.K (G.cn C) f) (F : FnOk X.prog X.w X.K X.mg X.base (L2.CX X.prog X.w) kk f fd ps (PSp G (initF C c))) (hr : Room (kk + 1) X.A) (hg : Gl X x) (hm : X.mg x = some (.ref (G.cn C)))
    (hb : Binds X.K fd ps []) (tk : Takes X Wx) (ha : Ec G X Wx (e :: es) gc) (hdb : (x == ("__debug__" : Str)) = false := by decide) (he : starEach (e :: es) X.env = (false, eval e X.env) :: starEach es X.env := by rfl)
    (hpl : (backTo pos (starEach es X.env)).any (·.1) = false := by rfl) : Ev G X Wx (.Call (.Name x p) (e :: es) [] pos) (makeF C c gc) := by
  have := (en_make (Wx := Wx) (pos := pos) (p := p) M F hr hg hm hb tk ha hdb he hpl).ev
  rwa [make_ofF] at this
/-- self.f = .. -/
def sFldF (C : Nat) (f : Str) (g : Env → W D) : Env → Ws := fun ρ Q E => ∃ fs, ρ[0]? = some (.bw (OD.ins C (fzs fs))) ∧ fs.length < 1000 ∧ g ρ (fun z => Q .nx (ρ.set 0 (.bw (OD.ins C (fzs (putD f z fs)))))) (fun x => E x ρ)
theorem es_fldF {x fn : Str} {C : Nat} (h : PE X (.Name x p) (tVar 0)) (hv : Ev G X Wx e g) (hC : Cls X.K (G.cn C)) (hN : NoAttr X.K (G.cn C) fn) (hs : swapsWith e (some (.Attribute (.Name x p) fn p')) pos.line X.env = pure false := by rfl) :
    Es G X Wx (.Assign [.Attribute (.Name x p) fn p'] e pos) (sFldF C fn g) :=
  (es_fld (ef_var h) hv.en hC hN hs).mono fun ρ Q E ⟨fs, e, hl, q⟩ => by
    have e2 : ∀ z, putS 0 (OD.ins C (fzs (putD fn z fs))) ρ = ρ.set 0 (.bw (OD.ins C (fzs (putD fn z fs)))) := fun z => by rw [putS_eq e]; rfl
    have : (fun z => Q .nx (ρ.set 0 (.bw (OD.ins C (fzs (putD fn z fs)))))) = fun z => fVar 0 ρ (fun p => ∃ fs, p.1 = .ins C fs ∧ fs.length < 1000 ∧ Q .nx (putS 0 (p.2 (.ins C (putO fn (.fz z) fs))) ρ)) (fun x => E x ρ) := by
      funext z
      refine propext ⟨fun h => ⟨OD.ins C (fzs fs), by rw [e]; rfl, fzs fs, rfl, by rw [fzs_len]; exact hl, ?_⟩, fun ⟨y, h1, fs', h2, _, h3⟩ => ?_⟩
      · show Q .nx (putS 0 (OD.ins C (putO fn (.fz z) (fzs fs))) ρ)
        rw [← fzs_put, e2]
        exact h
      · rw [e] at h1
        cases h1
        have h2 : OD.ins C (fzs fs) = OD.ins C fs' := h2
        cases h2
        have h3 : Q .nx (putS 0 (OD.ins C (putO fn (.fz z) (fzs fs))) ρ) := h3
        rw [← fzs_put, e2] at h3
        exact h3
    rw [this] at q
    exact q
end
section
variable {P : Program} {w : World} {K : PySem.W.Frag} {mg : Str → Option Value} {base : Heap} {G : Ctx} {x qual : Str} {st : Stmt} {f : Addr} {fd : FuncData} {N ps : List Str} {k : Nat} {g : Env → Ws}
theorem fn_okF {C : Nat} (F : Fun K x qual st f fd) (S : FnScope N ps (defScope st))
    (hb : ∀ (cdv : Value) (A : Around) (outer : List PySem.Env) (s : Shared) (H : Hp) (E : XK), Room k (A.deeper (envOfC qual (defScope st) s.heap.objs.size f cdv)) → Takes (cxOf (L2.CX P w) P w K mg base N qual (defScope st) f cdv A outer s H E) (fun cls d _ H => E cls d H) →
      Ess G (cxOf (L2.CX P w) P w K mg base N qual (defScope st) f cdv A outer s H E) (fun cls d _ H => E cls d H) (defBody st) g) : FnOk P w K mg base (L2.CX P w) (k + 1) f fd ps (PSp G (initF C (mInitF ps.length N.length C g))) := by
  have hn : ps.length ≤ N.length := pre_le (S := S)
  refine F.okX S (fun vs H Q E h => sp_len (fun as Q E ⟨rest, e, _, q⟩ => by rw [e]; exact q.1) h) fun cdv A outer s H vs Q E hr h => ?_
  obtain ⟨Hf, as, Fs, Q', E', sm, As_, nd, np, ⟨rest, rfl, pu, hl, q⟩, k1, kx⟩ := h
  have hl' : (Sl.bw (OD.ins C []) :: rest).length = ps.length := by simpa using hl
  rw [← hl'] at q hn
  have fin : ∀ {ρ : Env} {y : OD}, ρ[0]? = some (.bw y) → ρ.length = N.length → finB (.bw (OD.ins C []) :: rest) ρ = true ∧ fins (.bw (OD.ins C []) :: rest) ρ = .bw y :: rest := fun h le => fin_bw pu h (by rw [le]; simpa using hn)
  have finb : ∀ {ρ : Env} {y : OD}, ρ[0]? = some (.bw y) → finB (.bw (OD.ins C []) :: rest) ρ = true := fun {ρ y} h => by
    cases ρ with
    | nil => simp at h
    | cons r ρ =>
      simp at h
      subst h
      have h1 := pur_fin (ρ := ρ) pu
      unfold finB at h1 ⊢
      rw [List.zipWith_cons_cons, List.all_cons, h1]; rfl
  refine body_ok (hb cdv A outer s H E hr (takes_of rfl rfl rfl rfl)) (fun _ _ _ _ z => z) sm As_ nd np hn q (fun fl ρ h => ?_) (fun x ρ h => ?_) (fun fl ρ rv v Fs' Hf' H' q le e c r => ?_) (fun x ρ cls d Fs' Hf' H' e le c xr => ?_)
  · obtain ⟨rfl, fs, h, _⟩ := h
    exact ⟨finb h, by simp, by simp⟩
  · obtain ⟨⟨y, h⟩, _⟩ := h
    exact finb h
  · obtain ⟨rfl, fs, h, q⟩ := q
    rw [(fin h le).2] at c
    have e : rv = .fz .non := e
    subst e
    exact k1 _ _ _ _ _ _ c r q
  · obtain ⟨⟨y, h⟩, e⟩ := e
    rw [(fin h le).2] at c
    exact kx _ _ _ _ _ _ _ c xr (e y)
theorem initF.mono {C : Nat} {m c : List Sl → W (List (Str × D))} (h : ∀ as Q E, c as Q E → m as Q E) : ∀ as Q E, initF C c as Q E → initF C m as Q E := fun as Q E ⟨rest, e, pu, q⟩ => ⟨rest, e, pu, h _ _ _ q⟩
end
end QL

set_option Elab.async false
set_option linter.all false
set_option maxRecDepth 100000
set_option maxHeartbeats 2000000
/-! borrowing of own lists: what is made may share immutable data; instances with own fields -/
namespace QL
open PySem L2
open PyProof.Rows (envOfC)
mutual
/-- scalars, tuples of such -/
def D.imm : D → Bool | .non => true | .bl _ => true | .int _ => true | .str _ => true | .tup xs => D.imms xs | _ => false
def D.imms : List D → Bool | [] => true | x :: xs => x.imm && D.imms xs
end
mutual
/-- a tree whose leaves are immutable -/
def OD.im : OD → Bool
  | .fz d => d.imm
  | .lst xs => OD.ims xs
  | .tup xs => OD.ims xs
  | .ins _ fs => OD.imf fs
  | _ => false
def OD.ims : List OD → Bool | [] => true | x :: xs => x.im && OD.ims xs
def OD.imf : List (Str × OD) → Bool | [] => true | (_, x) :: xs => x.im && OD.imf xs
end
mutual
/-- own cells that are lists alone -/
def OD.ll : OD → Bool
  | .fz _ => true
  | .lst xs => OD.lls xs
  | _ => false
def OD.lls : List OD → Bool | [] => true | x :: xs => x.ll && OD.lls xs
end
mutual
theorem Ow.lists {cn : Nat → Addr} {Hf H : Hp} : ∀ {v : V} {x : OD} {F : List Addr}, x.ll = true → Ow cn Hf H v x F → ∀ a ∈ F, ∃ vs, H a = some (.lst vs)
  | _, _, _, _, .fz _, a, h => by simp at h
  | _, _, _, k, .lst e _ t, a, h => by
    rcases List.mem_cons.mp h with rfl | h
    · exact ⟨_, e⟩
    · exact Ows.lists (by simpa [OD.ll] using k) t a h
  | _, _, _, k, .tup _ _ _, _, _ => by simp [OD.ll] at k
  | _, _, _, k, .ins _ _ _, _, _ => by simp [OD.ll] at k
  | _, _, _, k, .dK _ _ _, _, _ => by simp [OD.ll] at k
  | _, _, _, k, .dT _ _ _, _, _ => by simp [OD.ll] at k
  | _, _, _, k, .hole _, _, _ => by simp [OD.ll] at k
theorem Ows.lists {cn : Nat → Addr} {Hf H : Hp} : ∀ {v : List V} {x : List OD} {F : List Addr}, OD.lls x = true → Ows cn Hf H v x F → ∀ a ∈ F, ∃ vs, H a = some (.lst vs)
  | _, _, _, _, .nil, a, h => by simp at h
  | _, _, _, k, .cons r t, a, h => by
    simp only [OD.lls, Bool.and_eq_true] at k
    exact (List.mem_append.mp h).elim (Ow.lists k.1 r a) (Ows.lists k.2 t a)
end
/-! the cells of immutable data -/
mutual
theorem Rp.cells {cn : Nat → Addr} {Hf : Hp} : ∀ {v : V} {d : D}, d.imm = true → Rp cn Hf v d → ∃ T : List Addr, (∀ a ∈ T, ∃ vs, Hf a = some (.tup vs)) ∧ ∀ Hf2 : Hp, (∀ a ∈ T, Hf2 a = Hf a) → Rp cn Hf2 v d
  | _, _, _, .non => ⟨[], by simp, fun _ _ => .non⟩
  | _, _, _, .bl b => ⟨[], by simp, fun _ _ => .bl b⟩
  | _, _, _, .int i => ⟨[], by simp, fun _ _ => .int i⟩
  | _, _, _, .str x => ⟨[], by simp, fun _ _ => .str x⟩
  | _, _, k, .lst _ _ => by simp [D.imm] at k
  | _, _, k, .tup (p := p) h r => by
    obtain ⟨T, h1, h2⟩ := Rps.cells (by simpa [D.imm] using k) r
    refine ⟨p :: T, fun a ha => ?_, fun Hf2 e => .tup ((e p (by simp)).trans h) (h2 Hf2 fun a ha => e a (by simp [ha]))⟩
    rcases List.mem_cons.mp ha with rfl | ha
    · exact ⟨_, h⟩
    · exact h1 a ha
  | _, _, k, .ins _ _ => by simp [D.imm] at k
  | _, _, k, .dK _ _ => by simp [D.imm] at k
  | _, _, k, .dT _ _ => by simp [D.imm] at k
theorem Rps.cells {cn : Nat → Addr} {Hf : Hp} : ∀ {v : List V} {d : List D}, D.imms d = true → Rps cn Hf v d → ∃ T : List Addr, (∀ a ∈ T, ∃ vs, Hf a = some (.tup vs)) ∧ ∀ Hf2 : Hp, (∀ a ∈ T, Hf2 a = Hf a) → Rps cn Hf2 v d
  | _, _, _, .nil => ⟨[], by simp, fun _ _ => .nil⟩
  | _, _, k, .cons r t => by
    simp only [D.imms, Bool.and_eq_true] at k
    obtain ⟨T, h1, h2⟩ := Rp.cells k.1 r
    obtain ⟨T', h3, h4⟩ := Rps.cells k.2 t
    exact ⟨T ++ T', fun a ha => (List.mem_append.mp ha).elim (h1 a) (h3 a), fun Hf2 e => .cons (h2 Hf2 fun a ha => e a (by simp [ha])) (h4 Hf2 fun a ha => e a (by simp [ha]))⟩
end
mutual
theorem Ow.cells {cn : Nat → Addr} {Hf H : Hp} : ∀ {v : V} {x : OD} {F : List Addr}, x.im = true → Ow cn Hf H v x F → ∃ T : List Addr, (∀ a ∈ T, ∃ vs, Hf a = some (.tup vs)) ∧ ∀ Hf2 : Hp, (∀ a ∈ T, Hf2 a = Hf a) → (∀ a ∈ F, Hf2 a = none) → Ow cn Hf2 H v x F
  | _, _, _, k, .fz r => by
    obtain ⟨T, h1, h2⟩ := r.cells (by simpa [OD.im] using k)
    exact ⟨T, h1, fun Hf2 e _ => .fz (h2 Hf2 e)⟩
  | _, _, _, k, .lst h _ t => by
    obtain ⟨T, h1, h2⟩ := Ows.cells (by simpa [OD.im] using k) t
    exact ⟨T, h1, fun Hf2 e n => .lst h (n _ (by simp)) (h2 Hf2 e fun a ha => n a (by simp [ha]))⟩
  | _, _, _, k, .tup h _ t => by
    obtain ⟨T, h1, h2⟩ := Ows.cells (by simpa [OD.im] using k) t
    exact ⟨T, h1, fun Hf2 e n => .tup h (n _ (by simp)) (h2 Hf2 e fun a ha => n a (by simp [ha]))⟩
  | _, _, _, k, .ins h _ t => by
    obtain ⟨T, h1, h2⟩ := Owf.cells (by simpa [OD.im] using k) t
    exact ⟨T, h1, fun Hf2 e n => .ins h (n _ (by simp)) (h2 Hf2 e fun a ha => n a (by simp [ha]))⟩
  | _, _, _, k, .dK _ _ _ => by simp [OD.im] at k
  | _, _, _, k, .dT _ _ _ => by simp [OD.im] at k
  | _, _, _, k, .hole _ => by simp [OD.im] at k
theorem Ows.cells {cn : Nat → Addr} {Hf H : Hp} : ∀ {v : List V} {x : List OD} {F : List Addr}, OD.ims x = true → Ows cn Hf H v x F → ∃ T : List Addr, (∀ a ∈ T, ∃ vs, Hf a = some (.tup vs)) ∧ ∀ Hf2 : Hp, (∀ a ∈ T, Hf2 a = Hf a) → (∀ a ∈ F, Hf2 a = none) → Ows cn Hf2 H v x F
  | _, _, _, _, .nil => ⟨[], by simp, fun _ _ _ => .nil⟩
  | _, _, _, k, .cons r t => by
    simp only [OD.ims, Bool.and_eq_true] at k
    obtain ⟨T, h1, h2⟩ := Ow.cells k.1 r
    obtain ⟨T', h3, h4⟩ := Ows.cells k.2 t
    exact ⟨T ++ T', fun a ha => (List.mem_append.mp ha).elim (h1 a) (h3 a), fun Hf2 e n => .cons (h2 Hf2 (fun a ha => e a (by simp [ha])) fun a ha => n a (by simp [ha])) (h4 Hf2 (fun a ha => e a (by simp [ha])) fun a ha => n a (by simp [ha]))⟩
theorem Owf.cells {cn : Nat → Addr} {Hf H : Hp} : ∀ {v : List (Str × V)} {x : List (Str × OD)} {F : List Addr}, OD.imf x = true → Owf cn Hf H v x F → ∃ T : List Addr, (∀ a ∈ T, ∃ vs, Hf a = some (.tup vs)) ∧ ∀ Hf2 : Hp, (∀ a ∈ T, Hf2 a = Hf a) → (∀ a ∈ F, Hf2 a = none) → Owf cn Hf2 H v x F
  | _, _, _, _, .nil => ⟨[], by simp, fun _ _ _ => .nil⟩
  | _, _, _, k, .cons r t => by
    simp only [OD.imf, Bool.and_eq_true] at k
    obtain ⟨T, h1, h2⟩ := Ow.cells k.1 r
    obtain ⟨T', h3, h4⟩ := Owf.cells k.2 t
    exact ⟨T ++ T', fun a ha => (List.mem_append.mp ha).elim (h1 a) (h3 a), fun Hf2 e n => .cons (h2 Hf2 (fun a ha => e a (by simp [ha])) fun a ha => n a (by simp [ha])) (h4 Hf2 (fun a ha => e a (by simp [ha])) fun a ha => n a (by simp [ha]))⟩
end
/-- the own cells of the slots are lists alone -/
def llE (ρ : Env) : Bool := ρ.all fun s => match s with | .ow x => x.ll | .bw x => x.ll | .ln _ x => x.ll | .hw _ _ => false | _ => true
section
variable {G : Ctx} {X : Cx} {Wx : WX} {e : Expr} {es : List Expr} {B : Bs} {ρ : Env} {σ : St} {F : Fps} {Hf H Hf' H' : Hp} {pos p p' : Pos}
theorem Rep.lists (R : Rep G B ρ σ F Hf H) (k : llE ρ = true) {a : Addr} (ha : a ∈ F.flatten) : ∃ vs, H a = some (.lst vs) := by
  obtain ⟨i, hi, ha⟩ := of_flat ha
  have hl : i < ρ.length := by rw [← R.lenF]; exact hi
  obtain ⟨s, hs⟩ : ∃ s, ρ[i]? = some s := ⟨ρ[i], List.getElem?_eq_getElem hl⟩
  have q := R.sl i s hs
  have kk := List.all_eq_true.mp k s (List.mem_of_getElem? hs)
  cases s with
  | ow x => obtain ⟨u, _, o, _⟩ := q; exact o.lists kk a ha
  | bw x => obtain ⟨u, _, _, o⟩ := q; exact o.lists kk a ha
  | ln p x => obtain ⟨_, o, _⟩ := q; exact o.lists kk a ha
  | hw p c => cases kk
  | _ => rw [R.un i _ hs rfl] at ha; simp at ha
def brwL (g : Env → W OD) : Env → W OD := fun ρ Q _ => llE ρ = true ∧ g (lendE ρ) (fun x => x.im = true ∧ Q x) (fun _ => False)
theorem en_brwL {g : Env → W OD} (h : En G X Wx e g) : En G X Wx e (brwL g) := by
  obtain ⟨t, p, ev⟩ := h.ex
  refine ⟨t, p, ?_⟩
  intro B ρ σ F Hf H Q' E' Q R q k kx
  obtain ⟨kl, q⟩ := q
  refine ev _ _ σ _ _ H _ _ Q (R.lends Sl.lend (.inl rfl)) q (fun u x L Hf1 H1 R1 n1 o nd nw q1 => ?_) (fun x cls d Hf1 H1 _ _ _ e => e.elim)
  have sm : Sm Hf Hf1 := R.sm_fz.trans R1.sm0
  obtain ⟨T, t1, t2⟩ := o.cells q1.1
  have new : ∀ a ∈ T, Hf a = none → H a = none := fun a ha hn => by
    obtain ⟨vs, e1⟩ := t1 a ha
    cases e : H a with
    | none => rfl
    | some o =>
      by_cases hm : a ∈ F.flatten
      · obtain ⟨ws, e2⟩ := R.lists kl hm
        have e3 : frzL Hf H F.flatten a = some (.lst ws) := by rw [frzL_in hm]; exact e2
        have := R1.sm0 _ _ e3
        rw [e1] at this; cases this
      · have e3 : frzL Hf H F.flatten a = none := by rw [frzL_out hm]; exact hn
        have := R1.unf a o e e3
        rw [e1] at this; cases this
  have T1 : ∀ a ∈ T.filter (fun a => (Hf a).isNone), a ∈ T ∧ Hf a = none := fun a ha => by simpa using ha
  have Rn := (R.again R1).frz (L := T.filter fun a => (Hf a).isNone) (fun a ha => (T1 a ha).2) (fun a ha => R.freeB (new a (T1 a ha).1 (T1 a ha).2)) (fun a ha => R.free1 (new a (T1 a ha).1 (T1 a ha).2))
  refine k u x L _ H1 Rn ((R.lentN R1).frzL (fun a ha => new a (T1 a ha).1 (T1 a ha).2) fun a ha => (T1 a ha).2) (t2 _ (fun a ha => ?_) fun a ha => ?_) nd nw q1.2
  · obtain ⟨vs, e1⟩ := t1 a ha
    cases e : Hf a with
    | none =>
      rw [frzL_in (by simpa [e] using ha), e1]
      exact R1.sm _ _ e1
    | some o =>
      rw [frzL_out (by simp [e]), e, sm _ _ e]
  · have h1 := (o.there a ha).2
    have hT : a ∉ T := fun z => by obtain ⟨vs, e1⟩ := t1 a z; rw [h1] at e1; cases e1
    rw [frzL_out fun z => hT (T1 a z).1]
    exact R.sm.free (nw a ha)
/-! instances with own fields -/
def initO (C : Nat) (c : List Sl → W (List (Str × OD))) : Cn := fun as Q E => ∃ rest, as = .bw (OD.ins C []) :: rest ∧ purB rest = true ∧ c rest (fun fs => Q (.fz .non) (.bw (OD.ins C fs) :: rest)) (fun x => ∀ y, E x (.bw y :: rest))
def mInitO (n N C : Nat) (g : Env → Ws) : List Sl → W (List (Str × OD)) := fun as Q E => as.length + 1 = n ∧ g (.bw (OD.ins C []) :: (as ++ List.replicate (N - n) .un)) (fun fl ρ => fl = .nx ∧ ∃ fs, ρ[0]? = some (.bw (OD.ins C fs)) ∧ Q fs) (fun x ρ => (∃ y, ρ[0]? = some (.bw y)) ∧ E x)
def makeG (C : Nat) (c : List Sl → W (List (Str × OD))) (gs : Env → W (List Sl)) : Env → W OD := fun ρ Q E => gs ρ (fun as => purB as = true ∧ c as (fun fs => Q (.ins C fs)) E) E
theorem make_ofG {C : Nat} {c : List Sl → W (List (Str × OD))} {gs : Env → W (List Sl)} : makeO C (initO C c) gs = makeG C c gs := by
  funext ρ Q E
  show gs ρ _ E = gs ρ _ E
  congr 1
  funext as
  have e2 : (fun x => OD → E x) = E := by funext x; exact propext ⟨fun h => h default, fun h _ => h⟩
  have e1 : (fun fs => ∃ y, RV.fz D.non = RV.fz D.non ∧ (Sl.bw (OD.ins C fs) :: as)[0]? = some (Sl.bw y) ∧ Q y) = fun fs => Q (.ins C fs) := by
    funext fs
    exact propext ⟨fun ⟨y, _, h, q⟩ => by simp at h; subst h; exact q, fun q => ⟨_, rfl, rfl, q⟩⟩
  refine propext ⟨fun ⟨rest, e, pu, q⟩ => ?_, fun ⟨pu, q⟩ => ⟨as, rfl, pu, ?_⟩⟩
  · cases e
    refine ⟨pu, ?_⟩
    rw [e1, e2] at q
    exact q
  · rw [e1, e2]
    exact q
variable {gc : Env → W (List Sl)} {g : Env → W OD}
theorem en_makeG {C : Nat} {x : Str} {c : List Sl → W (List (Str × OD))} {kk : Nat} {f : Addr} {fd : FuncData} {ps : List Str} (M : Mk X.K (G.cn C) f) (F : FnOk X.prog X.w X.K X.mg X.base (L2.CX X.prog X.w) kk f fd ps (PSp G (initO C c))) (hr : Room (kk + 1) X.A) (hg : Gl X x) (hm : X.mg x = some (.ref (G.cn C)))
    (hb : Binds X.K fd ps []) (tk : Takes X Wx) (ha : Ec G X Wx (e :: es) gc) (hdb : (x == ("__debug__" : Str)) = false := by decide) (he : starEach (e :: es) X.env = (false, eval e X.env) :: starEach es X.env := by rfl)
    (hpl : (backTo pos (starEach es X.env)).any (·.1) = false := by rfl) : En G X Wx (.Call (.Name x p) (e :: es) [] pos) (makeG C c gc) := by
  have := en_make (Wx := Wx) (pos := pos) (p := p) M F hr hg hm hb tk ha hdb he hpl
  rwa [make_ofG] at this
def sFldO (C : Nat) (f : Str) (g : Env → W OD) : Env → Ws := fun ρ Q E => ∃ fs, ρ[0]? = some (.bw (OD.ins C fs)) ∧ fs.length < 1000 ∧ g ρ (fun z => Q .nx (ρ.set 0 (.bw (OD.ins C (putO f z fs))))) (fun x => E x ρ)
theorem es_fldO {x fn : Str} {C : Nat} (h : PE X (.Name x p) (tVar 0)) (hv : En G X Wx e g) (hC : Cls X.K (G.cn C)) (hN : NoAttr X.K (G.cn C) fn) (hs : swapsWith e (some (.Attribute (.Name x p) fn p')) pos.line X.env = pure false := by rfl) :
    Es G X Wx (.Assign [.Attribute (.Name x p) fn p'] e pos) (sFldO C fn g) :=
  (es_fld (ef_var h) hv hC hN hs).mono fun ρ Q E ⟨fs, e, hl, q⟩ => by
    have e2 : ∀ z, putS 0 (OD.ins C (putO fn z fs)) ρ = ρ.set 0 (.bw (OD.ins C (putO fn z fs))) := fun z => by rw [putS_eq e]; rfl
    have : (fun z => Q .nx (ρ.set 0 (.bw (OD.ins C (putO fn z fs))))) = fun z => fVar 0 ρ (fun p => ∃ fs, p.1 = .ins C fs ∧ fs.length < 1000 ∧ Q .nx (putS 0 (p.2 (.ins C (putO fn z fs))) ρ)) (fun x => E x ρ) := by
      funext z
      refine propext ⟨fun h => ⟨OD.ins C fs, by rw [e]; rfl, fs, rfl, hl, ?_⟩, fun ⟨y, h1, fs', h2, _, h3⟩ => ?_⟩
      · show Q .nx (putS 0 (OD.ins C (putO fn z fs)) ρ)
        rw [e2]
        exact h
      · rw [e] at h1
        cases h1
        have h2 : OD.ins C fs = OD.ins C fs' := h2
        cases h2
        have h3 : Q .nx (putS 0 (OD.ins C (putO fn z fs)) ρ) := h3
        rw [e2] at h3
        exact h3
    rw [this] at q
    exact q
/-- a new list of frozen items, handed out -/
def lfW (c : List Sl → W D) : List Sl → W OD := fun as Q E => c as (fun d => ∃ ds, d = .lst ds ∧ Q (OD.lf ds)) E
end
section
variable {P : Program} {w : World} {K : PySem.W.Frag} {mg : Str → Option Value} {base : Heap} {G : Ctx} {x qual : Str} {st : Stmt} {f : Addr} {fd : FuncData} {N ps : List Str} {k : Nat} {g : Env → Ws}
theorem fn_okO {C : Nat} (F : Fun K x qual st f fd) (S : FnScope N ps (defScope st))
    (hb : ∀ (cdv : Value) (A : Around) (outer : List PySem.Env) (s : Shared) (H : Hp) (E : XK), Room k (A.deeper (envOfC qual (defScope st) s.heap.objs.size f cdv)) → Takes (cxOf (L2.CX P w) P w K mg base N qual (defScope st) f cdv A outer s H E) (fun cls d _ H => E cls d H) →
      Ess G (cxOf (L2.CX P w) P w K mg base N qual (defScope st) f cdv A outer s H E) (fun cls d _ H => E cls d H) (defBody st) g) : FnOk P w K mg base (L2.CX P w) (k + 1) f fd ps (PSp G (initO C (mInitO ps.length N.length C g))) := by
  have hn : ps.length ≤ N.length := pre_le (S := S)
  refine F.okX S (fun vs H Q E h => sp_len (fun as Q E ⟨rest, e, _, q⟩ => by rw [e]; exact q.1) h) fun cdv A outer s H vs Q E hr h => ?_
  obtain ⟨Hf, as, Fs, Q', E', sm, As_, nd, np, ⟨rest, rfl, pu, hl, q⟩, k1, kx⟩ := h
  have hl' : (Sl.bw (OD.ins C []) :: rest).length = ps.length := by simpa using hl
  rw [← hl'] at q hn
  have fin : ∀ {ρ : Env} {y : OD}, ρ[0]? = some (.bw y) → ρ.length = N.length → finB (.bw (OD.ins C []) :: rest) ρ = true ∧ fins (.bw (OD.ins C []) :: rest) ρ = .bw y :: rest := fun h le => fin_bw pu h (by rw [le]; simpa using hn)
  have finb : ∀ {ρ : Env} {y : OD}, ρ[0]? = some (.bw y) → finB (.bw (OD.ins C []) :: rest) ρ = true := fun {ρ y} h => by
    cases ρ with
    | nil => simp at h
    | cons r ρ =>
      simp at h
      subst h
      have h1 := pur_fin (ρ := ρ) pu
      unfold finB at h1 ⊢
      rw [List.zipWith_cons_cons, List.all_cons, h1]; rfl
  refine body_ok (hb cdv A outer s H E hr (takes_of rfl rfl rfl rfl)) (fun _ _ _ _ z => z) sm As_ nd np hn q (fun fl ρ h => ?_) (fun x ρ h => ?_) (fun fl ρ rv v Fs' Hf' H' q le e c r => ?_) (fun x ρ cls d Fs' Hf' H' e le c xr => ?_)
  · obtain ⟨rfl, fs, h, _⟩ := h
    exact ⟨finb h, by simp, by simp⟩
  · obtain ⟨⟨y, h⟩, _⟩ := h
    exact finb h
  · obtain ⟨rfl, fs, h, q⟩ := q
    rw [(fin h le).2] at c
    have e : rv = .fz .non := e
    subst e
    exact k1 _ _ _ _ _ _ c r q
  · obtain ⟨⟨y, h⟩, e⟩ := e
    rw [(fin h le).2] at c
    exact kx _ _ _ _ _ _ _ c xr (e y)
theorem initO.mono {C : Nat} {m c : List Sl → W (List (Str × OD))} (h : ∀ as Q E, c as Q E → m as Q E) : ∀ as Q E, initO C c as Q E → initO C m as Q E := fun as Q E ⟨rest, e, pu, q⟩ => ⟨rest, e, pu, h _ _ _ q⟩
end
end QL

set_option Elab.async false
set_option linter.all false
set_option maxRecDepth 100000
set_option maxHeartbeats 2000000
namespace QL
open PySem L2

/-! ### what the pieces come to -/
def isNo : D → Bool
  | .non => true
  | _ => false
def isND : D → D → W D
  | a, .non => W.pure (.bl (isNo a))
  | _, _ => W.fail
def notND : D → D → W D
  | a, .non => W.pure (.bl (!isNo a))
  | _, _ => W.fail
theorem Rp.isNo {cn : Nat → Addr} {H : Hp} {v : V} {d : D} (r : Rp cn H v d) : decide (v = .non) = isNo d := by
  cases r <;> first | exact decide_eq_true rfl | exact decide_eq_false (fun e => nomatch e)
theorem o_isN {G : Ctx} : Op2 G (fun x y H Q => y = .non ∧ Q (.bl (decide (x = .non))) H) isND := by
  intro B ρ σ F Hf H x y a b Q' E' Q R rx ry q k
  cases b <;> first | exact False.elim q | skip
  cases ry
  refine ⟨rfl, ?_⟩
  rw [rx.isNo]
  exact k _ _ Hf H R Nx.refl (.bl _) q
def repW (x y : D) : W (List D) := match x, y with | .lst xs, .int k => W.need (-(2 ^ 63) ≤ k ∧ k < 2 ^ 63 ∧ xs.length * k.toNat ≤ sizeLine) (W.pure (List.replicate k.toNat xs).flatten) | _, _ => W.fail
def listW (xs : List D) : W (List D) := match xs with | [.lst ds] => W.pure ds | [.tup ds] => W.pure ds | _ => W.fail
def zipWS (d : D) : W (List D) := match (seqD d).bind seqDs with | some xss => W.need (xss ≠ [] ∧ xss.length ≤ sizeLine) (W.pure (zipN xss)) | none => W.fail
def zipWG (c d : D) : W (List D) := match seqD c, seqD d with | some xs, some ys => W.pure (List.zipWith (fun x y => D.tup [x, y]) xs ys) | _, _ => W.fail
section
variable {α β : Type} {ρ : Env} {Q : D → Prop} {E : Xc → Prop} {QB : Bool → Prop} {QL : List D → Prop} {QC : List Sl → Prop} {QS : Fl → Env → Prop} {ES : Xc → Env → Prop} {QE : Env → Prop} {QO : Option Int → Prop}
variable {ga gb gc g : Env → W D} {f f' : D → D → W D} {i : Nat}
@[simp] theorem wbind_app {m : W α} {k : α → W β} {Q : β → Prop} : (m >>= k) Q E = m (fun a => k a Q E) E := rfl
@[simp] theorem wpure_app {a : α} {Q : α → Prop} : (W.pure a) Q E = Q a := rfl
@[simp] theorem wpure2_app {a : α} {Q : α → Prop} : (Pure.pure a : W α) Q E = Q a := rfl
@[simp] theorem wfail_app {Q : α → Prop} : (W.fail : W α) Q E = False := rfl
@[simp] theorem wneed_app {P : Prop} {m : W α} {Q : α → Prop} : (W.need P m) Q E = (P ∧ m Q E) := rfl
@[simp] theorem bin2_app : bin2 f ga gb ρ Q E = ga ρ (fun x => gb ρ (fun y => f x y Q E) E) E := rfl
@[simp] theorem un1_app {f : D → W D} : un1 f g ρ Q E = g ρ (fun x => f x Q E) E := rfl
@[simp] theorem rd_app : rd i ρ Q E = rdS ρ[i]? Q E := rfl
@[simp] theorem rdS_fz {d : D} : rdS (some (.fz d)) Q E = Q d := rfl
@[simp] theorem kst_app {d : D} : kst d ρ Q E = Q d := rfl
@[simp] theorem testB_app : testB g ρ QB E = g ρ (fun d => asB d QB E) E := rfl
@[simp] theorem asB_bl {b : Bool} : asB (.bl b) QB E = QB b := rfl
@[simp] theorem chain2_app : chain2 f f' ga gb gc ρ Q E = ga ρ (fun x => gb ρ (fun y => f x y (fun z => asB z (fun k => (if k = true then (do let w ← gc ρ; f' y w) else W.pure (.bl false) : W D) Q E) E) E) E) E := rfl
@[simp] theorem andB_app {a b : Env → W Bool} : andB a b ρ QB E = a ρ (fun x => (if x = true then b ρ else W.pure false : W Bool) QB E) E := rfl
@[simp] theorem orB_app {a b : Env → W Bool} : orB a b ρ QB E = a ρ (fun x => (if x = true then W.pure true else b ρ : W Bool) QB E) E := rfl
@[simp] theorem notB_app {a : Env → W Bool} : notB a ρ QB E = a ρ (fun x => QB (!x)) E := rfl
@[simp] theorem andV_app : andV ga gb ρ Q E = ga ρ (fun x => asB x (fun k => (if k = true then gb ρ else W.pure (.bl false) : W D) Q E) E) E := rfl
@[simp] theorem orV_app : orV ga gb ρ Q E = ga ρ (fun x => asB x (fun k => (if k = true then W.pure (.bl true) else gb ρ : W D) Q E) E) E := rfl
@[simp] theorem notV_app : notV ga ρ Q E = ga ρ (fun x => asB x (fun k => Q (.bl (!k))) E) E := rfl
@[simp] theorem iteV_app {c : Env → W Bool} : iteV c ga gb ρ Q E = c ρ (fun x => (if x = true then ga ρ else gb ρ : W D) Q E) E := rfl
@[simp] theorem ite_w {c : Prop} [Decidable c] {a b : W α} {Q : α → Prop} : (if c then a else b : W α) Q E = (if c then a Q E else b Q E) := by split <;> rfl
@[simp] theorem callN_app {f : List D → W D} {g : Env → W (List D)} : callN f g ρ Q E = g ρ (fun xs => f xs Q E) E := rfl
@[simp] theorem nilA_app : nilA ρ QL E = QL [] := rfl
@[simp] theorem consA_app {g' : Env → W (List D)} : consA g g' ρ QL E = g ρ (fun x => g' ρ (fun xs => QL (x :: xs)) E) E := rfl
@[simp] theorem dispL_app {f : List D → D} {g : Env → W (List D)} : dispL f g ρ Q E = g ρ (fun xs => xs.length ≤ sizeLine ∧ Q (f xs)) E := propext ⟨fun h => h, fun h => h⟩
@[simp] theorem dispN_app {g : Env → W (List D)} : dispN g ρ QL E = g ρ (fun xs => xs.length ≤ sizeLine ∧ QL xs) E := propext ⟨fun h => h, fun h => h⟩
@[simp] theorem lstV_app {g : Env → W (List D)} : lstV g ρ Q E = g ρ (fun xs => Q (.lst xs)) E := rfl
@[simp] theorem nilC_app : nilC ρ QC E = QC [] := rfl
@[simp] theorem dC_app {g' : Env → W (List Sl)} : dC g g' ρ QC E = g ρ (fun x => g' ρ (fun xs => QC (.fz x :: xs)) E) E := rfl
@[simp] theorem callF_app {m : List Sl → W D} {g : Env → W (List Sl)} : callF m g ρ Q E = g ρ (fun as => m as Q E) E := rfl
def noF (C : Nat) (mn : Str) (r : D) : Prop := ∃ fs, r = .ins C fs ∧ fs.lookup mn = none
@[simp] theorem callM_app {C : Nat} {mn : Str} {m : List Sl → W D} {gs : Env → W (List Sl)} : callM C mn m g gs ρ Q E = g ρ (fun r => noF C mn r ∧ gs ρ (fun as => m (.fz r :: as) Q E) E) E := rfl
theorem slC_pool {g' : Env → W (List Sl)} (h : ρ[i]? = some .pool) (q : g' ρ (fun r => QC (.pool :: r)) E) : slC i g' ρ QC E := .inl ⟨h, q⟩
theorem slC_scr {g' : Env → W (List Sl)} {ns : List Int} (h : ρ[i]? = some (.scr ns)) (q : g' ρ (fun r => QC (.scr ns :: r)) E) : slC i g' ρ QC E := .inr ⟨ns, h, q⟩
@[simp] theorem slC_app {g' : Env → W (List Sl)} : slC i g' ρ QC E = ((ρ[i]? = some .pool ∧ g' ρ (fun r => QC (.pool :: r)) E) ∨ (∃ ns, ρ[i]? = some (.scr ns) ∧ g' ρ (fun r => QC (.scr ns :: r)) E)) := rfl
@[simp] theorem sNx_app : sNx ρ QS ES = QS .nx ρ := rfl
@[simp] theorem sSeq_app {f g : Env → Ws} : sSeq f g ρ QS ES = f ρ (fun fl ρ1 => match fl with | .nx => g ρ1 QS ES | o => QS o ρ1) ES := propext ⟨fun h => h, fun h => h⟩
@[simp] theorem sBk_app : sBk ρ QS ES = QS .bk ρ := rfl
@[simp] theorem sCt_app : sCt ρ QS ES = QS .ct ρ := rfl
@[simp] theorem sNever_app : sNever ρ QS ES = False := rfl
@[simp] theorem sRet_app : sRet g ρ QS ES = g ρ (fun d => QS (.rt d) ρ) (fun x => ES x ρ) := rfl
@[simp] theorem sRetN_app : sRetN ρ QS ES = QS (.rt .non) ρ := rfl
@[simp] theorem sDrop_app : sDrop g ρ QS ES = g ρ (fun _ => QS .nx ρ) (fun x => ES x ρ) := rfl
@[simp] theorem sIf_app {c : Env → W Bool} {f g : Env → Ws} : sIf c f g ρ QS ES = c ρ (fun b => if b = true then f ρ QS ES else g ρ QS ES) (fun x => ES x ρ) := rfl
@[simp] theorem sSet_app : sSet i g ρ QS ES = g ρ (fun d => QS .nx (ρ.set i (.fz d))) (fun x => ES x ρ) := rfl
@[simp] theorem sAsg_app {t : D → Env → W Env} : sAsg g t ρ QS ES = g ρ (fun d => t d ρ (fun ρ' => QS .nx ρ') (fun _ => False)) (fun x => ES x ρ) := rfl
@[simp] theorem sAug_app {f : Int → Int → Int} : sAug i f g ρ QS ES = (∃ a : Int, ρ[i]? = some (.fz (.int a)) ∧ g ρ (fun d => ∃ b : Int, d = .int b ∧ QS .nx (ρ.set i (.fz (.int (f a b))))) (fun x => ES x ρ)) := rfl
@[simp] theorem lenS_app : lenS i ρ Q E = (∃ ns : List Int, ρ[i]? = some (.scr ns) ∧ Q (.int ns.length)) := rfl
@[simp] theorem newP_app {n : Nat} {g : Env → W D} {g' : Env → W (List Sl)} : newP n g g' ρ QC E = g ρ (fun d => poolD n d ∧ g' ρ (fun r => QC (.pool :: r)) E) E := rfl
@[simp] theorem argsP_app {g' : Env → W (List Sl)} : argsP g' ρ QC E = g' ρ (fun as => purB as = true ∧ QC as) E := rfl
@[simp] theorem makeF_app {C : Nat} {m : List Sl → W (List (Str × D))} {g : Env → W (List Sl)} : makeF C m g ρ Q E = g ρ (fun as => purB as = true ∧ m as (fun fs => Q (.ins C fs)) E) E := rfl
@[simp] theorem purB_nil : purB [] = true := rfl
@[simp] theorem purB_fz {d : D} {as : List Sl} : purB (.fz d :: as) = purB as := rfl
@[simp] theorem purB_pool {as : List Sl} : purB (.pool :: as) = purB as := rfl
@[simp] theorem purB_scr {ns : List Int} {as : List Sl} : purB (.scr ns :: as) = purB as := rfl
@[simp] theorem sSetP_app {n : Nat} : sSetP n i g ρ QS ES = g ρ (fun d => poolD n d ∧ QS .nx (ρ.set i .pool)) (fun x => ES x ρ) := rfl
@[simp] theorem sSetN_app {g : Env → W (List D)} : sSetN i g ρ QS ES = g ρ (fun d => QS .nx (ρ.set i (.ow (OD.lf d)))) (fun x => ES x ρ) := rfl
@[simp] theorem sSet1_app : sSet1 i g ρ QS ES = g ρ (fun d => QS .nx (ρ.set i (.ow (OD.of d)))) (fun x => ES x ρ) := rfl
@[simp] theorem sRet1_app : sRet1 g ρ QS ES = g ρ (fun d => QS (.ro (OD.of d)) ρ) (fun x => ES x ρ) := rfl
@[simp] theorem sRetPair_app : sRetPair i g ρ QS ES = ∃ d, ρ[i]? = some (.ow (OD.of d)) ∧ g ρ (fun a => (a.sc = true ∧ 2 ≤ sizeLine) ∧ QS (.ro (OD.of (.tup [a, d]))) (ρ.set i .un)) (fun x => ES x ρ) := rfl
@[simp] theorem sFrz_app {g : Env → Ws} : sFrz i g ρ QS ES = ∃ x, ρ[i]? = some (.ow x) ∧ x.ok = true ∧ g (ρ.set i (.fz x.d)) QS ES := rfl
@[simp] theorem sWip_app {vs : List Nat} {g : Env → Ws} : sWip vs g ρ QS ES = g (wipeA ρ vs) QS ES := rfl
@[simp] theorem wipeA_nil : wipeA ρ [] = ρ := rfl
@[simp] theorem wipeA_cons {v : Nat} {vs : List Nat} : wipeA ρ (v :: vs) = wipeA (ρ.set v .un) vs := rfl
@[simp] theorem sRetS_app : sRetS i ρ QS ES = ∃ x, ρ[i]? = some (.ow x) ∧ QS (.ro x) (ρ.set i .un) := rfl
@[simp] theorem sAppN_app : sAppN i g ρ QS ES = (∃ ds, ρ[i]? = some (.ow (OD.lf ds)) ∧ g ρ (fun d => ds.length < sizeLine ∧ QS .nx (ρ.set i (.ow (OD.lf (ds ++ [d]))))) (fun x => ES x ρ)) := rfl
@[simp] theorem sSetIxN_app : sSetIxN i ga gb ρ QS ES = (∃ ds, ρ[i]? = some (.ow (OD.lf ds)) ∧ gb ρ (fun d => ga ρ (fun k => ∃ j n, k = .int j ∧ ixN ds.length j = some n ∧ QS .nx (ρ.set i (.ow (OD.lf (ds.set n d))))) (fun x => ES x ρ)) (fun x => ES x ρ)) := rfl
@[simp] theorem sFldI_app {f : Str} {C : Nat} : sFldI C f g ρ QS ES = (∃ fs, ρ[0]? = some (.bw (OD.of (.ins C fs))) ∧ fs.length < 1000 ∧ g ρ (fun z => QS .nx (ρ.set 0 (.bw (OD.of (.ins C (putD f z fs)))))) (fun x => ES x ρ)) := rfl
@[simp] theorem sSetPl_app {n : Nat} : sSetPl n i ga gb ρ QS ES = (ρ[i]? = some .pool ∧ gb ρ (fun d => ga ρ (fun k => ∃ j z : Int, k = .int j ∧ d = .int z ∧ 0 ≤ j ∧ j < n ∧ QS .nx ρ) (fun x => ES x ρ)) (fun x => ES x ρ)) := rfl
@[simp] theorem ixP_app {n : Nat} : ixP n i g ρ Q E = (ρ[i]? = some .pool ∧ g ρ (fun k => ∃ j : Int, k = .int j ∧ 0 ≤ j ∧ j < n ∧ ∀ z : Int, Q (.int z)) E) := rfl
@[simp] theorem ixL_app : ixL i g ρ Q E = (∃ ds, ρ[i]? = some (.ow (OD.lf ds)) ∧ g ρ (fun k => ∃ j d, k = .int j ∧ atI ds j = some d ∧ Q d) E) := rfl
@[simp] theorem lenL_app : lenL i ρ Q E = (∃ ds, ρ[i]? = some (.ow (OD.lf ds)) ∧ Q (.int ds.length)) := rfl
@[simp] theorem ixS_app : ixS i g ρ Q E = (∃ ns : List Int, ρ[i]? = some (.scr ns) ∧ g ρ (fun k => ∃ j z : Int, k = .int j ∧ atI ns j = some z ∧ Q (.int z)) E) := rfl
@[simp] theorem sFor_app {vs : List Nat} {gi : Env → W (List D)} {gt : D → Env → W Env} {b : Env → Ws} : sFor vs gi gt b ρ QS ES = gi ρ (fun ds => forE vs gt b ds ρ QS ES) (fun x => ES x ρ) := rfl
@[simp] theorem sWhile_app {vs : List Nat} {c : Env → W Bool} {b : Env → Ws} : sWhile vs c b ρ QS ES = ∃ n, whN vs c b n ρ QS ES := rfl
@[simp] theorem scG_app : scG g ρ Q E = g ρ (fun d => d.sc = true ∧ Q d) E := rfl
@[simp] theorem lstS_app {g : Env → W (List D)} : lstS g ρ Q E = g ρ (fun ds => ds.all D.sc = true ∧ Q (.lst ds)) E := rfl
@[simp] theorem listN_app {g : Env → W (List D)} : listN g ρ QL E = g ρ (fun xs => listW xs QL E) E := rfl
@[simp] theorem listW_lst {ds : List D} : listW [.lst ds] QL E = QL ds := rfl
@[simp] theorem listW_tup {ds : List D} : listW [.tup ds] QL E = QL ds := rfl
@[simp] theorem brw_app : brw g ρ Q E = g (lendE ρ) (fun d => d.sc = true ∧ Q d) (fun _ => False) := rfl
@[simp] theorem brwB_app {g : Env → W Bool} : brwB g ρ QB E = g (lendE ρ) QB (fun _ => False) := rfl
@[simp] theorem brw1_app : brw1 g ρ Q E = g (lendE ρ) Q (fun _ => False) := rfl
@[simp] theorem lend_nil : lendE [] = [] := rfl
@[simp] theorem lend_cons {s : Sl} : lendE (s :: ρ) = s.lend :: lendE ρ := rfl
@[simp] theorem keep_nil : keepE [] = [] := rfl
@[simp] theorem keep_cons {s : Sl} : keepE (s :: ρ) = s.keep :: keepE ρ := rfl
@[simp] theorem ex_nil {ρ' : Env} : exE [] ρ' = [] := rfl
@[simp] theorem ex_cons {s s' : Sl} {ρ' : Env} : exE (s :: ρ) (s' :: ρ') = exSl s s' :: exE ρ ρ' := rfl
@[simp] theorem lend_fz {d : D} : (Sl.fz d).lend = .fz d := rfl
@[simp] theorem lend_kf {d : D} : (Sl.kf d).lend = .fz d := rfl
@[simp] theorem lend_of {d : D} : (Sl.ow (OD.of d)).lend = .fz d := by show (if (OD.of d).ok = true then Sl.fz (OD.of d).d else .un) = _; rw [if_pos (OD.of_ok d), OD.of_d]
@[simp] theorem lend_bw {d : D} : (Sl.bw (OD.of d)).lend = .fz d := by show (if (OD.of d).ok = true then Sl.fz (OD.of d).d else .un) = _; rw [if_pos (OD.of_ok d), OD.of_d]
@[simp] theorem lend_lf {ds : List D} : (Sl.ow (OD.lf ds)).lend = .fz (.lst ds) := by show (if (OD.lf ds).ok = true then Sl.fz (OD.lf ds).d else .un) = _; rw [if_pos lf_ok, lf_d]
@[simp] theorem lend_un : Sl.un.lend = .un := rfl
@[simp] theorem lend_pool : Sl.pool.lend = .un := rfl
@[simp] theorem lend_scr {ns : List Int} : (Sl.scr ns).lend = .scr ns := rfl
@[simp] theorem keep_fz {d : D} : (Sl.fz d).keep = .kf d := rfl
@[simp] theorem keep_kf {d : D} : (Sl.kf d).keep = .kf d := rfl
@[simp] theorem keep_of {d : D} : (Sl.ow (OD.of d)).keep = .kf d := by show (if (OD.of d).ok = true then Sl.kf (OD.of d).d else .kv) = _; rw [if_pos (OD.of_ok d), OD.of_d]
@[simp] theorem keep_lf {ds : List D} : (Sl.ow (OD.lf ds)).keep = .kf (.lst ds) := by show (if (OD.lf ds).ok = true then Sl.kf (OD.lf ds).d else .kv) = _; rw [if_pos lf_ok, lf_d]
@[simp] theorem keep_un : Sl.un.keep = .un := rfl
@[simp] theorem keep_pool : Sl.pool.keep = .kv := rfl
@[simp] theorem keep_scr {ns : List Int} : (Sl.scr ns).keep = .kv := rfl
@[simp] theorem ex_kf {s : Sl} {d : D} : exSl s (.kf d) = s := rfl
@[simp] theorem ex_kv {s : Sl} : exSl s .kv = s := rfl
@[simp] theorem ex_un {s : Sl} : exSl s .un = .un := rfl
@[simp] theorem ex_int {s : Sl} {i : Int} : exSl s (.fz (.int i)) = .fz (.int i) := rfl
@[simp] theorem ex_bl {s : Sl} {i : Bool} : exSl s (.fz (.bl i)) = .fz (.bl i) := rfl
@[simp] theorem ex_lst {s : Sl} {ds : List D} : exSl s (.fz (.lst ds)) = .un := rfl
@[simp] theorem ex_tup {s : Sl} {ds : List D} : exSl s (.fz (.tup ds)) = .un := rfl
@[simp] theorem rdS_kf {d : D} : rdS (some (.kf d)) Q E = Q d := rfl
@[simp] theorem sBrw_app {g : Env → Ws} : sBrw g ρ QS ES = g (keepE ρ) (fun fl ρ' => match fl with
  | .nx => QS .nx (exE ρ ρ') | .bk => QS .bk (exE ρ ρ') | .ct => QS .ct (exE ρ ρ')
  | .rt d => d.sc = true ∧ QS (.rt d) (exE ρ ρ') | .ro x => False) (fun _ _ => False) := rfl
@[simp] theorem sc_int {i : Int} : (D.int i).sc = true := rfl
@[simp] theorem sc_bl {i : Bool} : (D.bl i).sc = true := rfl
@[simp] theorem sc_non : D.non.sc = true := rfl
@[simp] theorem of_okS {d : D} : (OD.of d).ok = true := OD.of_ok d
@[simp] theorem of_dS {d : D} : (OD.of d).d = d := OD.of_d d
@[simp] theorem of_inj {a b : D} : (OD.of a = OD.of b) = (a = b) := propext ⟨fun h => by have := congrArg OD.d h; rwa [OD.of_d, OD.of_d] at this, fun h => by rw [h]⟩
@[simp] theorem lf_inj {a b : List D} : (OD.lf a = OD.lf b) = (a = b) := propext ⟨fun h => by have := congrArg OD.d h; rw [lf_d, lf_d] at this; exact D.lst.inj this, fun h => by rw [h]⟩
@[simp] theorem tree_ow {x : OD} : (Sl.ow x).tree = some x := rfl
@[simp] theorem with_ow {x y : OD} : (Sl.ow x).with y = .ow y := rfl
@[simp] theorem putS_app {x : OD} : putS i x ρ = ρ.set i ((ρ.getD i .un).with x) := rfl
@[simp] theorem ixPd_t0 {a b : D} {QP : Pd → Prop} : ixPd (.tup [a, b]) 0 QP E = QP (a, fun w => .tup [w, b]) := propext ⟨fun ⟨n, z, h1, h2, h3⟩ => by
  have e : ixN 2 0 = some 0 := rfl
  have h1 : ixN 2 0 = some n := h1
  rw [e] at h1
  cases h1
  cases h2
  exact h3, fun h => ⟨0, a, rfl, rfl, h⟩⟩
@[simp] theorem ixPd_t1 {a b : D} {QP : Pd → Prop} : ixPd (.tup [a, b]) 1 QP E = QP (b, fun w => .tup [a, w]) := propext ⟨fun ⟨n, z, h1, h2, h3⟩ => by
  have e : ixN 2 1 = some 1 := rfl
  have h1 : ixN 2 1 = some n := h1
  rw [e] at h1
  cases h1
  cases h2
  exact h3, fun h => ⟨1, b, rfl, rfl, h⟩⟩
theorem ixPd_l {xs : List D} {j : Int} {n : Nat} {z : D} {QP : Pd → Prop} (h1 : ixN xs.length j = some n) (h2 : xs[n]? = some z) (h : QP (z, fun w => .lst (xs.set n w))) : ixPd (.lst xs) j QP E := ⟨n, z, h1, h2, h⟩
@[simp] theorem sLend_app {j : Nat} {gp : Env → W Pd} : sLend i j gp ρ QS ES = (i ≠ j ∧ (∃ d0, ρ[i]? = some (.ow (OD.of d0))) ∧ gp ρ (fun p => p.1.isR = true ∧ ∀ a, QS .nx ((ρ.set i (.hw a p.2)).set j (.ln a (OD.of p.1)))) (fun x => ES x ρ)) := rfl
@[simp] theorem sFill_app {j : Nat} {g : Env → Ws} : sFill i j g ρ QS ES = ∃ a c d, i ≠ j ∧ ρ[i]? = some (.hw a c) ∧ ρ[j]? = some (.ln a (OD.of d)) ∧ g ((ρ.set i (.ow (OD.of (c d)))).set j .un) QS ES := rfl
@[simp] theorem sIx1_app {gp : Env → W Pd} : sIx1 i gp ga g ρ QS ES = g ρ (fun z => gp ρ (fun p => ga ρ (fun k => ∃ xs j n, p.1 = .lst xs ∧ k = .int j ∧ ixN xs.length j = some n ∧ QS .nx (putS i (OD.of (p.2 (.lst (xs.set n z)))) ρ)) (fun x => ES x ρ)) (fun x => ES x ρ)) (fun x => ES x ρ) := rfl
@[simp] theorem lenP_app : lenP i ρ Q E = ∃ s xs, ρ[i]? = some s ∧ s.tree = some (OD.of (.lst xs)) ∧ Q (.int xs.length) := rfl
@[simp] theorem lenPd_app {gp : Env → W Pd} : lenPd gp ρ Q E = gp ρ (fun p => (∃ xs, p.1 = .lst xs ∧ Q (.int xs.length)) ∨ (∃ xs, p.1 = .tup xs ∧ Q (.int xs.length))) E := rfl
@[simp] theorem repN_app : repN ga gb ρ QL E = ga ρ (fun x => gb ρ (fun y => repW x y QL E) E) E := rfl
@[simp] theorem repW_lst {xs : List D} {k : Int} : repW (.lst xs) (.int k) QL E = ((-(2 ^ 63) ≤ k ∧ k < 2 ^ 63 ∧ xs.length * k.toNat ≤ sizeLine) ∧ QL (List.replicate k.toNat xs).flatten) := rfl
@[simp] theorem getF_app {C : Nat} {m : List Sl → W D} : getF C m ga gb ρ Q E = ga ρ (fun r => gb ρ (fun d => (∃ fs, r = .ins C fs) ∧ m [.fz r, .fz d] Q E) E) E := rfl
@[simp] theorem eqX_app {C : Nat} {m : List Sl → W D} {a b : D} : eqX C m a b Q E = ((∃ fs, a = .ins C fs) ∧ (∃ gs, b = .ins C gs) ∧ m [.fz a, .fz b] (fun d => (∃ k, d = .bl k) ∧ Q d) (fun _ => False)) := rfl
@[simp] theorem isCD_app {C : Nat} {d : D} : isCD C d Q E = ((∃ fs, d = .ins C fs) ∧ Q (.bl true)) := rfl
@[simp] theorem tree_ln {a : Addr} {x : OD} : (Sl.ln a x).tree = some x := rfl
@[simp] theorem with_ln {a : Addr} {x y : OD} : (Sl.ln a x).with y = .ln a y := rfl
@[simp] theorem lend_hw {a : Addr} {c : D → D} : (Sl.hw a c).lend = .un := rfl
@[simp] theorem isR_lst {xs : List D} : (D.lst xs).isR = true := rfl
@[simp] theorem isR_tup {xs : List D} : (D.tup xs).isR = true := rfl
@[simp] theorem pVar_app {QP : Pd → Prop} : pVar i ρ QP E = ∃ s d, ρ[i]? = some s ∧ s.tree = some (OD.of d) ∧ QP (d, id) := rfl
@[simp] theorem pIx_app {gp : Env → W Pd} {QP : Pd → Prop} : pIx gp g ρ QP E = gp ρ (fun p => g ρ (fun k => ∃ j, k = .int j ∧ ixPd p.1 j (fun q => QP (q.1, fun w => p.2 (q.2 w))) E) E) E := rfl
@[simp] theorem sApp1_app {gp : Env → W Pd} : sApp1 i gp g ρ QS ES = gp ρ (fun p => ∃ xs, p.1 = .lst xs ∧ g ρ (fun z => xs.length < sizeLine ∧ QS .nx (putS i (OD.of (p.2 (.lst (xs ++ [z])))) ρ)) (fun x => ES x ρ)) (fun x => ES x ρ) := rfl
@[simp] theorem sClr1_app {gp : Env → W Pd} : sClr1 i gp ρ QS ES = gp ρ (fun p => ∃ xs, p.1 = .lst xs ∧ QS .nx (putS i (OD.of (p.2 (.lst []))) ρ)) (fun x => ES x ρ) := rfl
@[simp] theorem zipS_app : zipS g ρ QL E = g ρ (fun d => zipWS d QL E) E := rfl
@[simp] theorem zipG_app : zipG ga gb ρ QL E = ga ρ (fun c => gb ρ (fun d => zipWG c d QL E) E) E := rfl
@[simp] theorem nameG_app {d : D} : nameG i d ρ QE E = QE (ρ.set i (.fz d)) := rfl
@[simp] theorem tupG_app {n : Nat} {g : List D → Env → W Env} {ds : List D} : tupG n g (.tup ds) ρ QE E = (ds.length = n ∧ g ds ρ QE E) := rfl
@[simp] theorem consG_app {f : D → Env → W Env} {g : List D → Env → W Env} {d : D} {ds : List D} : consG f g (d :: ds) ρ QE E = f d ρ (fun ρ1 => g ds ρ1 QE E) E := rfl
@[simp] theorem nilG_app : nilG [] ρ QE E = QE ρ := propext ⟨fun h => h.2, fun h => ⟨rfl, h⟩⟩
@[simp] theorem lcN_app {gi : Env → W (List D)} {vs : List Nat} {gt : D → Env → W Env} {gb : Env → W Bool} {ge : Env → W D} : lcN gi vs gt gb ge ρ QL E = gi ρ (fun ds => (okW ρ vs = true ∧ ds.length ≤ sizeLine) ∧ lcL vs gt gb ge ρ ds QL E) E := rfl
theorem lstI_app : lstI g ρ QL E = g ρ (fun d => (match d with | .lst ds => W.pure ds | _ => W.fail : W (List D)) QL E) E := rfl
theorem tupI_app : tupI g ρ QL E = g ρ (fun d => (match d with | .tup ds => W.pure ds | _ => W.fail : W (List D)) QL E) E := rfl
@[simp] theorem rng1_app : rng1 g ρ QL E = g ρ (fun d => (match d with | .int j => W.need (-(2 ^ 62) ≤ j ∧ j < 2 ^ 62) (W.pure ((List.range j.toNat).map fun k => D.int (0 + (k : Nat)))) | _ => W.fail : W (List D)) QL E) E := rfl
@[simp] theorem rng2_app : rng2 ga gb ρ QL E = ga ρ (fun c => gb ρ (fun d => (match c, d with | .int i, .int j => W.need (-(2 ^ 62) ≤ i ∧ i < 2 ^ 62 ∧ -(2 ^ 62) ≤ j ∧ j < 2 ^ 62) (W.pure ((List.range (j - i).toNat).map fun k => D.int (i + (k : Nat)))) | _, _ => W.fail : W (List D)) QL E) E) E := rfl
@[simp] theorem slL_app {lo hi : Env → W (Option Int)} : slL g lo hi ρ Q E = g ρ (fun d => lo ρ (fun i => hi ρ (fun j => (match d with | .lst xs => W.pure (.lst (cutD xs i j)) | _ => W.fail : W D) Q E) E) E) E := rfl
@[simp] theorem intO_app : intO g ρ QO E = g ρ (fun d => (match d with | .int i => W.pure (some i) | _ => W.fail : W (Option Int)) QO E) E := rfl
@[simp] theorem starA_lst {g' : Env → W (List D)} : starA g g' ρ QL E = g ρ (fun d => (match d with | .lst ds => do let xs ← g' ρ; W.pure (ds ++ xs) | .tup ds => do let xs ← g' ρ; W.pure (ds ++ xs) | _ => W.fail : W (List D)) QL E) E := rfl
@[simp] theorem fldC_app {C : Nat} {f : Str} {fs : List (Str × D)} : fldC C f (.ins C fs) Q E = ∃ d, fs.lookup f = some d ∧ Q d := propext ⟨fun h => h.2, fun h => ⟨⟨_, rfl⟩, h⟩⟩
@[simp] theorem yesB_app : yesB ρ QB E = QB true := rfl
@[simp] theorem addD_int {i j : Int} : addD (.int i) (.int j) Q E = Q (.int (i + j)) := rfl
@[simp] theorem addD_lst {a b : List D} : addD (.lst a) (.lst b) Q E = (a.length + b.length ≤ sizeLine ∧ Q (.lst (a ++ b))) := rfl
@[simp] theorem addD_tup {a b : List D} : addD (.tup a) (.tup b) Q E = (a.length + b.length ≤ sizeLine ∧ Q (.tup (a ++ b))) := rfl
@[simp] theorem subD_int {i j : Int} : subD (.int i) (.int j) Q E = Q (.int (i - j)) := rfl
@[simp] theorem mulD_int {i j : Int} : mulD (.int i) (.int j) Q E = ((CMul i j ∨ CMulW i j) ∧ Q (.int (i * j))) := rfl
@[simp] theorem mulD_lst {a : List D} {k : Int} : mulD (.lst a) (.int k) Q E = ((-(2 ^ 63) ≤ k ∧ k < 2 ^ 63 ∧ a.length * k.toNat ≤ sizeLine) ∧ Q (.lst (List.replicate k.toNat a).flatten)) := rfl
@[simp] theorem mulD_tup {a : List D} {k : Int} : mulD (.tup a) (.int k) Q E = ((k = 1 ∨ (a ≠ [] ∧ 2 ≤ k ∧ k ≤ 1000 ∧ a.length ≤ 1000)) ∧ Q (.tup (List.replicate k.toNat a).flatten)) := rfl
@[simp] theorem divD_int {i j : Int} : divD (.int i) (.int j) Q E = ((CDiv i j ∨ CDivW i j) ∧ Q (.int (i / j))) := rfl
@[simp] theorem modD_int {i j : Int} : modD (.int i) (.int j) Q E = (0 < j ∧ Q (.int (i % j))) := rfl
@[simp] theorem powD_int {i j : Int} : powD (.int i) (.int j) Q E = (CPow i j ∧ Q (.int (i ^ j.toNat))) := rfl
@[simp] theorem ltD_int {i j : Int} : ltD (.int i) (.int j) Q E = Q (.bl (decide (i < j))) := rfl
@[simp] theorem leD_int {i j : Int} : leD (.int i) (.int j) Q E = Q (.bl (decide (i ≤ j))) := rfl
@[simp] theorem gtD_int {i j : Int} : gtD (.int i) (.int j) Q E = Q (.bl (decide (j < i))) := rfl
@[simp] theorem geD_int {i j : Int} : geD (.int i) (.int j) Q E = Q (.bl (decide (j ≤ i))) := rfl
@[simp] theorem negD_int {i : Int} : negD (.int i) Q E = Q (.int (-i)) := rfl
@[simp] theorem ixD_lst {xs : List D} {i : Int} : ixD (.lst xs) (.int i) Q E = ∃ d, atI xs i = some d ∧ Q d := rfl
@[simp] theorem ixD_tup {xs : List D} {i : Int} : ixD (.tup xs) (.int i) Q E = ∃ d, atI xs i = some d ∧ Q d := rfl
@[simp] theorem lenD_lst {xs : List D} : lenD [.lst xs] Q E = Q (.int xs.length) := rfl
@[simp] theorem lenD_tup {xs : List D} : lenD [.tup xs] Q E = Q (.int xs.length) := rfl
@[simp] theorem intD_int {i : Int} : intD [.int i] Q E = Q (.int i) := rfl
@[simp] theorem intD_bl {b : Bool} : intD [.bl b] Q E = Q (.int (if b then 1 else 0)) := rfl
@[simp] theorem listD_lst {xs : List D} : listD [.lst xs] Q E = Q (.lst xs) := rfl
@[simp] theorem listD_tup {xs : List D} : listD [.tup xs] Q E = Q (.lst xs) := rfl
@[simp] theorem tupleD_lst {xs : List D} : tupleD [.lst xs] Q E = Q (.tup xs) := rfl
@[simp] theorem tupleD_tup {xs : List D} : tupleD [.tup xs] Q E = Q (.tup xs) := rfl
@[simp] theorem absD_int {i : Int} : absD [.int i] Q E = Q (.int (if i < 0 then -i else i)) := rfl
@[simp] theorem max2D_int {i j : Int} : max2D [.int i, .int j] Q E = Q (.int (if j > i then j else i)) := rfl
@[simp] theorem min2D_int {i j : Int} : min2D [.int i, .int j] Q E = Q (.int (if j < i then j else i)) := rfl
@[simp] theorem isND_non {a : D} : isND a .non Q E = Q (.bl (isNo a)) := by cases a <;> rfl
@[simp] theorem isNo_int {i : Int} : isNo (.int i) = false := rfl
@[simp] theorem isNo_non : isNo .non = true := rfl
@[simp] theorem isNo_lst {ds : List D} : isNo (.lst ds) = false := rfl
@[simp] theorem isNo_tup {ds : List D} : isNo (.tup ds) = false := rfl
@[simp] theorem isBD_bl {a b : Bool} : isBD (.bl a) (.bl b) Q E = Q (.bl (decide (a = b))) := rfl
@[simp] theorem notBD_bl {a b : Bool} : notBD (.bl a) (.bl b) Q E = Q (.bl (!decide (a = b))) := rfl
theorem sumD_ints {ns : List Int} (q : Q (.int ns.sum)) : sumD [.lst (ns.map D.int)] Q E := ⟨ns, rfl, q⟩
theorem allD_bls {f : List Bool → Bool} {ns : List Bool} (q : Q (.bl (f ns))) : allD f [.lst (ns.map D.bl)] Q E := ⟨ns, rfl, q⟩
@[simp] theorem eqD_int {i j : Int} : eqD (.int i) (.int j) Q E = Q (.bl (i == j)) := propext ⟨fun ⟨x, y, e1, e2, _, _, q⟩ => by
  simp only [toPy, Option.some.injEq] at e1 e2; subst e1 e2; simpa [PyData.eqv] using q, fun q => ⟨.int i, .int j, rfl, rfl, rfl, rfl, by simpa [PyData.eqv] using q⟩⟩
@[simp] theorem neD_int {i j : Int} : neD (.int i) (.int j) Q E = Q (.bl (!(i == j))) := propext ⟨fun ⟨x, y, e1, e2, _, _, q⟩ => by
  simp only [toPy, Option.some.injEq] at e1 e2; subst e1 e2; simpa [PyData.eqv] using q, fun q => ⟨.int i, .int j, rfl, rfl, rfl, rfl, by simpa [PyData.eqv] using q⟩⟩
end
/-! data that == takes: no texts, no instances, not nested too deep -/
mutual
def okN : Nat → D → Bool
  | _, .non => true | _, .bl _ => true | _, .int _ => true | _, .str _ => false | _, .dK _ => false | _, .dT _ => false
  | 0, .lst _ => false | 0, .tup _ => false
  | n + 1, .lst xs => okNs n xs
  | n + 1, .tup xs => okNs n xs
  | _, .ins _ _ => false
def okNs : Nat → List D → Bool
  | _, [] => true
  | n, d :: ds => okN n d && okNs n ds
end
mutual
theorem okN_py : ∀ (n : Nat) (d : D), okN n d = true → ∃ x, toPy d = some x ∧ x.canLay0 = true ∧ x.depth ≤ n
  | n, .non, _ => ⟨_, rfl, rfl, Nat.zero_le _⟩
  | n, .bl b, _ => ⟨_, rfl, rfl, Nat.zero_le _⟩
  | n, .int i, _ => ⟨_, rfl, rfl, Nat.zero_le _⟩
  | 0, .lst xs, h => by simp [okN] at h
  | 0, .tup xs, h => by simp [okN] at h
  | n + 1, .lst xs, h => by
    obtain ⟨x, e, h1, h2⟩ := okNs_py n xs (by simpa [okN] using h)
    exact ⟨.list x, by simp [toPy, e], by simpa [PyData.canLay0] using h1, by simp only [PyData.depth]; omega⟩
  | n + 1, .tup xs, h => by
    obtain ⟨x, e, h1, h2⟩ := okNs_py n xs (by simpa [okN] using h)
    exact ⟨.tuple x, by simp [toPy, e], by simpa [PyData.canLay0] using h1, by simp only [PyData.depth]; omega⟩
  | n, .str x, h => by simp [okN] at h
  | n, .dK x, h => by simp [okN] at h
  | n, .dT x, h => by simp [okN] at h
  | n, .ins _ _, h => by simp [okN] at h
theorem okNs_py : ∀ (n : Nat) (ds : List D), okNs n ds = true → ∃ xs, toPys ds = some xs ∧ PyData.canLayAll0 xs = true ∧ PyData.depthAll xs ≤ n
  | n, [], _ => ⟨_, rfl, rfl, Nat.zero_le _⟩
  | n, d :: ds, h => by
    simp only [okNs, Bool.and_eq_true] at h
    obtain ⟨x, e1, h1, h2⟩ := okN_py n d h.1
    obtain ⟨xs, e2, h3, h4⟩ := okNs_py n ds h.2
    exact ⟨x :: xs, by simp [toPys, e1, e2], by simp [PyData.canLayAll0, h1, h3], by simp only [PyData.depthAll]; omega⟩
end
/-- equal data -/
theorem eqD_self {Q : D → Prop} {E : Xc → Prop} {d : D} (n : Nat) (hn : n ≤ 64) (h : okN n d = true) (q : Q (.bl true)) : eqD d d Q E := by
  obtain ⟨x, e, h1, h2⟩ := okN_py n d h
  have s : SeqAt.shaped x = true := by
    unfold SeqAt.shaped
    rw [h1]
    simp
    omega
  exact ⟨x, x, e, e, s, s, by rw [SeqAt.eqv_refl x h1]; exact q⟩
theorem neD_self {Q : D → Prop} {E : Xc → Prop} {d : D} (n : Nat) (hn : n ≤ 64) (h : okN n d = true) (q : Q (.bl false)) : neD d d Q E := by
  obtain ⟨x, e, h1, h2⟩ := okN_py n d h
  have s : SeqAt.shaped x = true := by
    unfold SeqAt.shaped
    rw [h1]
    simp
    omega
  exact ⟨x, x, e, e, s, s, by rw [SeqAt.eqv_refl x h1]; exact q⟩

/-! ### loops, comprehensions -/
section
variable {vs : List Nat} {gt : D → Env → W Env} {gb : Env → W Bool} {ge : Env → W D} {ρ : Env} {Q : List D → Prop} {E : Xc → Prop}
theorem lcL_fun (f : D → D) : ∀ {ds : List D} {Q : List D → Prop}, (∀ d ∈ ds, ∀ k : D → Prop, k (f d) → gt d (wipeE ρ vs) (fun ρ2 => ge ρ2 k (fun _ => False)) (fun _ => False)) → Q (ds.map f) → lcL vs gt yesB ge ρ ds Q E
  | [], Q, _, q => q
  | d :: ds, Q, h, q => by
    show gt d (wipeE ρ vs) (fun ρ2 => ge ρ2 (fun y => lcL vs gt yesB ge ρ ds (fun r => Q (y :: r)) E) (fun _ => False)) (fun _ => False)
    exact h d (by simp) _ (lcL_fun f (fun d hd => h d (by simp [hd])) q)
theorem lcL_any (P : D → Prop) : ∀ {ds : List D} {Q : List D → Prop}, (∀ d ∈ ds, ∀ k : D → Prop, (∀ y, P y → k y) → gt d (wipeE ρ vs) (fun ρ2 => ge ρ2 k (fun _ => False)) (fun _ => False)) → (∀ out : List D, out.length = ds.length → (∀ y ∈ out, P y) → Q out) → lcL vs gt yesB ge ρ ds Q E
  | [], Q, _, q => q [] rfl (by simp)
  | d :: ds, Q, h, q => by
    show gt d (wipeE ρ vs) (fun ρ2 => ge ρ2 (fun y => lcL vs gt yesB ge ρ ds (fun r => Q (y :: r)) E) (fun _ => False)) (fun _ => False)
    refine h d (by simp) _ fun y hy => lcL_any P (fun d hd => h d (by simp [hd])) fun out hl ho => q _ (by simp [hl]) ?_
    intro z hz
    rcases List.mem_cons.mp hz with e | e
    · rw [e]; exact hy
    · exact ho z e
theorem forE_inv {body : Env → Ws} {Q : Fl → Env → Prop} {E : Xc → Env → Prop} (I : Nat → Env → Prop) {ds : List D}
    (hs : ∀ (i : Nat) (d : D) (ρ : Env) (k : Fl → Env → Prop), ds[i]? = some d → I i ρ → (∀ ρ', I (i + 1) ρ' → k .nx ρ') → (∀ v ρ', Q (.rt v) ρ' → k (.rt v) ρ') → (∀ ρ', Q .nx ρ' → k .bk ρ') → (∀ ρ', I (i + 1) ρ' → k .ct ρ') → gt d ρ (fun ρ2 => body ρ2 k E) (fun _ => False))
    (hd : ∀ ρ, I ds.length ρ → Q .nx ρ) (h0 : I 0 ρ) : forE [] gt body ds ρ Q E := by
  have gen : ∀ (r : List D) (i : Nat) (ρ : Env), ds.drop i = r → i + r.length = ds.length → I i ρ → forE [] gt body r ρ Q E := by
    intro r
    induction r with
    | nil =>
      intro i ρ e hl h
      have : i = ds.length := by simpa using hl
      subst this
      exact hd ρ h
    | cons d r ih =>
      intro i ρ e hl h
      have hi : ds[i]? = some d := by
        have := congrArg (fun l => l[0]?) e
        simpa using this
      have e2 : ds.drop (i + 1) = r := by
        have := congrArg List.tail e
        simpa using this
      have hl2 : (i + 1) + r.length = ds.length := by simp at hl; omega
      exact hs i d ρ _ hi h (fun ρ' h' => ih (i + 1) ρ' e2 hl2 h') (fun v ρ' q => q) (fun ρ' q => q) (fun ρ' h' => ih (i + 1) ρ' e2 hl2 h')
  exact gen ds 0 ρ rfl (by simp) h0
end
@[simp] theorem atI_cons0 {α : Type} {x : α} {xs : List α} : atI (x :: xs) 0 = some x := atI_nat (j := 0) rfl
@[simp] theorem atI_cons1 {α : Type} {x y : α} {xs : List α} : atI (x :: y :: xs) 1 = some y := atI_nat (j := 1) rfl
@[simp] theorem atI_cons2 {α : Type} {x y z : α} {xs : List α} : atI (x :: y :: z :: xs) 2 = some z := atI_nat (j := 2) rfl
theorem atI_of {α : Type} {xs : List α} {i : Int} (h0 : 0 ≤ i) (h1 : i < xs.length) : ∃ x, atI xs i = some x ∧ xs[i.toNat]? = some x := by
  have hl : i.toNat < xs.length := by omega
  refine ⟨xs[i.toNat], ?_, List.getElem?_eq_getElem hl⟩
  have := atI_nat (xs := xs) (j := i.toNat) (List.getElem?_eq_getElem hl)
  rw [Int.toNat_of_nonneg h0] at this
  exact this
theorem sz {n : Nat} (h : n ≤ 100000) : n ≤ sizeLine := Nat.le_trans h (by decide)
theorem sz_lt {n : Nat} (h : n ≤ 100000) : n < sizeLine := Nat.lt_of_le_of_lt h (by decide)
end QL

set_option Elab.async false
set_option linter.all false
set_option maxRecDepth 100000
set_option maxHeartbeats 2000000
namespace QL
open PySem L2
/-! ### lists, tuples of data of one form -/
def dList {α : Type} (f : α → D) (xs : List α) : D := .lst (xs.map f)
def dTupL {α : Type} (f : α → D) (xs : List α) : D := .tup (xs.map f)
def asL (d : D) : W (List D) := match d with | .lst ds => W.pure ds | _ => W.fail
def asT (d : D) : W (List D) := match d with | .tup ds => W.pure ds | _ => W.fail
section
variable {α : Type} {f : α → D} {xs : List α} {ρ : Env} {Q : D → Prop} {E : Xc → Prop} {QL : List D → Prop} {g : Env → W D} {i : Int}
@[simp] theorem lstI_app' : lstI g ρ QL E = g ρ (fun d => asL d QL E) E := rfl
@[simp] theorem tupI_app' : tupI g ρ QL E = g ρ (fun d => asT d QL E) E := rfl
@[simp] theorem asL_lst {ds : List D} : asL (.lst ds) QL E = QL ds := rfl
@[simp] theorem asT_tup {ds : List D} : asT (.tup ds) QL E = QL ds := rfl
@[simp] theorem asL_d : asL (dList f xs) QL E = QL (xs.map f) := rfl
@[simp] theorem asT_d : asT (dTupL f xs) QL E = QL (xs.map f) := rfl
theorem atI_map {xs : List α} {i : Int} : atI (xs.map f) i = (atI xs i).map f := by
  unfold atI
  rw [List.length_map]
  cases ixN xs.length i with
  | none => rfl
  | some j => simp
@[simp] theorem ixD_d : ixD (dList f xs) (.int i) Q E = ∃ x, atI xs i = some x ∧ Q (f x) := propext ⟨fun ⟨d, e, q⟩ => by
  rw [atI_map, Option.map_eq_some_iff] at e
  obtain ⟨x, e, rfl⟩ := e
  exact ⟨x, e, q⟩, fun ⟨x, e, q⟩ => ⟨f x, by rw [atI_map, e]; rfl, q⟩⟩
@[simp] theorem ixD_t : ixD (dTupL f xs) (.int i) Q E = ∃ x, atI xs i = some x ∧ Q (f x) := propext ⟨fun ⟨d, e, q⟩ => by
  rw [atI_map, Option.map_eq_some_iff] at e
  obtain ⟨x, e, rfl⟩ := e
  exact ⟨x, e, q⟩, fun ⟨x, e, q⟩ => ⟨f x, by rw [atI_map, e]; rfl, q⟩⟩
@[simp] theorem lenD_d : lenD [dList f xs] Q E = Q (.int xs.length) := by
  show Q (.int (xs.map f).length) = _
  rw [List.length_map]
@[simp] theorem lenD_t : lenD [dTupL f xs] Q E = Q (.int xs.length) := by
  show Q (.int (xs.map f).length) = _
  rw [List.length_map]
@[simp] theorem listW_d : listW [dList f xs] QL E = QL (xs.map f) := rfl
@[simp] theorem listW_t : listW [dTupL f xs] QL E = QL (xs.map f) := rfl
@[simp] theorem listD_d : listD [dList f xs] Q E = Q (dList f xs) := rfl
@[simp] theorem listD_t : listD [dTupL f xs] Q E = Q (dList f xs) := rfl
@[simp] theorem tupleD_d : tupleD [dList f xs] Q E = Q (dTupL f xs) := rfl
theorem kit_self {t : String} {d : D} (h : tyD d = some t) (hk : kitB t t = some true) : isiD t d Q E = Q (.bl true) := propext ⟨fun ⟨t', b, e1, e2, q⟩ => by
  rw [h] at e1; cases e1; rw [hk] at e2; cases e2; exact q, fun q => ⟨_, _, h, hk, q⟩⟩
theorem kb_list : kitB "list" "list" = some true := by decide +kernel
theorem kb_tuple : kitB "tuple" "tuple" = some true := by decide +kernel
theorem kb_int : kitB "int" "int" = some true := by decide +kernel
theorem kb_intbool : kitB "int" "bool" = some false := by decide +kernel
@[simp] theorem isiD_list {ds : List D} : isiD "list" (.lst ds) Q E = Q (.bl true) := kit_self rfl kb_list
@[simp] theorem isiD_d : isiD "list" (dList f xs) Q E = Q (.bl true) := kit_self rfl kb_list
@[simp] theorem isiD_tuple {ds : List D} : isiD "tuple" (.tup ds) Q E = Q (.bl true) := kit_self rfl kb_tuple
@[simp] theorem isiD_t : isiD "tuple" (dTupL f xs) Q E = Q (.bl true) := kit_self rfl kb_tuple
@[simp] theorem isiD_int {i : Int} : isiD "int" (.int i) Q E = Q (.bl true) := kit_self rfl kb_int
@[simp] theorem isiD_bool {i : Int} : isiD "bool" (.int i) Q E = Q (.bl false) := propext ⟨fun ⟨t, b, e1, e2, q⟩ => by
  simp only [tyD, Option.some.injEq] at e1; subst e1
  rw [kb_intbool] at e2; cases e2; exact q, fun q => ⟨_, _, rfl, kb_intbool, q⟩⟩
variable {vs : List Nat} {gt : D → Env → W Env} {ge : Env → W D}
theorem lcL_map (h : α → D) {xs : List α} {QL : List D → Prop} (hs : ∀ x ∈ xs, ∀ k : D → Prop, k (h x) → gt (f x) (wipeE ρ vs) (fun ρ2 => ge ρ2 k (fun _ => False)) (fun _ => False)) (q : QL (xs.map h)) : lcL vs gt yesB ge ρ (xs.map f) QL E := by
  induction xs generalizing QL with
  | nil => exact q
  | cons x xs ih =>
    show gt (f x) (wipeE ρ vs) (fun ρ2 => ge ρ2 (fun y => lcL vs gt yesB ge ρ (xs.map f) (fun r => QL (y :: r)) E) (fun _ => False)) (fun _ => False)
    exact hs x (by simp) _ (ih (fun x hx => hs x (by simp [hx])) q)
/-- drawn ones: any list of good items -/
theorem lcL_draw {β γ : Type} (f : β → D) (h : γ → D) (P : β → γ → Prop) {xs : List β} {QL : List D → Prop} (hs : ∀ x ∈ xs, ∀ k : D → Prop, (∀ y, P x y → k (h y)) → gt (f x) (wipeE ρ vs) (fun ρ2 => ge ρ2 k (fun _ => False)) (fun _ => False))
    (q : ∀ ys : List γ, ys.length = xs.length → (∀ (i : Nat) x y, xs[i]? = some x → ys[i]? = some y → P x y) → QL (ys.map h)) : lcL vs gt yesB ge ρ (xs.map f) QL E := by
  induction xs generalizing QL with
  | nil => exact q [] rfl (by simp)
  | cons x xs ih =>
    show gt (f x) (wipeE ρ vs) (fun ρ2 => ge ρ2 (fun y => lcL vs gt yesB ge ρ (xs.map f) (fun r => QL (y :: r)) E) (fun _ => False)) (fun _ => False)
    refine hs x (by simp) _ fun y hy => ih (fun x hx => hs x (by simp [hx])) fun ys hl hp => q (y :: ys) (by simp [hl]) ?_
    intro i a b e1 e2
    cases i with
    | zero => simp at e1 e2; subst e1 e2; exact hy
    | succ i => exact hp i a b (by simpa using e1) (by simpa using e2)
end
theorem allD_true {α : Type} {xs : List α} {Q : D → Prop} {E : Xc → Prop} (q : Q (.bl true)) : allD (fun bs => bs.all id) [.lst (xs.map fun _ => D.bl true)] Q E := by
  have := allD_bls (f := fun bs => bs.all id) (ns := xs.map fun _ => true) (Q := Q) (E := E) (by
    have : (xs.map fun _ => true).all id = true := List.all_eq_true.mpr (by simp)
    rw [this]; exact q)
  simpa [Function.comp_def] using this
theorem sumD_map {α : Type} {xs : List α} {h : α → Int} {Q : D → Prop} {E : Xc → Prop} (q : Q (.int (xs.map h).sum)) : sumD [.lst (xs.map fun x => D.int (h x))] Q E := by
  have := sumD_ints (ns := xs.map h) (Q := Q) (E := E) q
  simpa [Function.comp_def] using this
/-! ### listeners as data -/
abbrev dRow (r : List Int) : D := dList D.int r
abbrev dTup (r : List Int) : D := dTupL D.int r
abbrev dRows (rs : List (List Int)) : D := dList (fun r => dRow r) rs
structure Rule where
  nx : Int
  rows : List (List Int)
def dRule (r : Rule) : D := .tup [.int r.nx, dRows r.rows]
abbrev dLine (l : List Rule) : D := dList dRule l
abbrev dRules (rr : List (List Rule)) : D := dList (fun l => dLine l) rr
abbrev dShows (ss : List (List (List Int))) : D := dList (fun rs => dRows rs) ss
structure Parts where
  bs : List Int
  rr : List (List Rule)
  ss : List (List (List Int))
def dParts (p : Parts) : D := .lst [dRow p.bs, dRules p.rr, dShows p.ss]
def dL (p : Parts) : D := .ins 0 [("burdens", dRow p.bs), ("rules", dRules p.rr), ("shows", dShows p.ss)]
structure RowOk (n : Nat) (r : List Int) : Prop where
  len : r.length = n
  rng : ∀ x ∈ r, -9 ≤ x ∧ x ≤ 9
structure RuleOk (controls cells b : Nat) (r : Rule) : Prop where
  n0 : 0 ≤ r.nx
  n1 : r.nx < controls
  len : r.rows.length = cells
  rows : ∀ row ∈ r.rows, RowOk (1 + cells + b) row
def LineOk (controls cells : Nat) (bs : List Int) (l : List Rule) : Prop := l.length = bs.length ∧ ∀ (k : Nat) (r : Rule) (b : Int), l[k]? = some r → bs[k]? = some b → RuleOk controls cells b.toNat r
structure PartsOk (m : Nat) (p : Parts) : Prop where
  k1 : 1 ≤ p.bs.length
  k3 : p.bs.length ≤ 3
  b : ∀ b ∈ p.bs, 0 ≤ b ∧ b ≤ 2
  c1 : 1 ≤ p.rr.length
  c3 : p.rr.length ≤ 3
  m1 : 1 ≤ m
  m3 : m ≤ 3
  rr : ∀ l ∈ p.rr, LineOk p.rr.length m p.bs l
  sl : p.ss.length = p.rr.length
  ss : ∀ rows ∈ p.ss, rows.length ≤ 2 ∧ ∀ row ∈ rows, RowOk (1 + m) row
def dot (r v : List Int) : Int := (List.zipWith (· * ·) r v).sum
theorem drawn {n : Int} (z : Int) (h : 0 < n) : 0 ≤ z % n ∧ z % n < n := ⟨Int.emod_nonneg _ (by omega), Int.emod_lt_of_pos _ h⟩
end QL
namespace QL
open PySem L2
structure Stand where
  c : Int
  cs : List Int
structure Msg where
  k : Int
  ns : List Int
def dStand (s : Stand) : D := .tup [.int s.c, dTup s.cs]
def dMsg (g : Msg) : D := .tup [.int g.k, dTup g.ns]
def StandOk (p : Parts) (m : Nat) (s : Stand) : Prop := 0 ≤ s.c ∧ s.c < p.rr.length ∧ s.cs.length = m
def MsgOk (p : Parts) (g : Msg) : Prop := 0 ≤ g.k ∧ g.k < p.bs.length ∧ ∃ b, p.bs[g.k.toNat]? = some b ∧ (g.ns.length : Int) = b
def ruleAt (p : Parts) (c k : Int) : Option Rule := (p.rr[c.toNat]?).bind fun l => l[k.toNat]?
def hearR (r : Rule) (s : Stand) (g : Msg) : Stand := ⟨r.nx, r.rows.map fun row => dot row (1 :: (s.cs ++ g.ns))⟩
def hearP (p : Parts) (s : Stand) (g : Msg) : Stand := match ruleAt p s.c g.k with | some r => hearR r s g | none => s
theorem atI_get {α : Type} {xs : List α} {i : Int} {x : α} (h0 : 0 ≤ i) (h : xs[i.toNat]? = some x) : atI xs i = some x := by
  have := atI_nat h
  rw [Int.toNat_of_nonneg h0] at this
  exact this
theorem rule_at {p : Parts} {m : Nat} {s : Stand} {g : Msg} (ok : PartsOk m p) (hs : StandOk p m s) (hg : MsgOk p g) :
    ∃ l r, atI p.rr s.c = some l ∧ atI l g.k = some r ∧ hearP p s g = hearR r s g ∧ r.rows.length = m ∧ 0 ≤ r.nx ∧ r.nx < p.rr.length ∧ ∀ row ∈ r.rows, row.length = 1 + m + g.ns.length ∧ ∀ x ∈ row, -9 ≤ x ∧ x ≤ 9 := by
  obtain ⟨s0, s1, s2⟩ := hs
  obtain ⟨g0, g1, b, hb, hn⟩ := hg
  have hl : s.c.toNat < p.rr.length := by omega
  have el := List.getElem?_eq_getElem hl
  have hlm := List.mem_of_getElem? el
  obtain ⟨e1, e2⟩ := ok.rr _ hlm
  have hk : g.k.toNat < p.rr[s.c.toNat].length := by rw [e1]; omega
  have ek := List.getElem?_eq_getElem hk
  have rk := e2 _ _ b ek hb
  refine ⟨_, _, atI_get s0 el, atI_get g0 ek, ?_, rk.len, rk.n0, rk.n1, fun row hr => ⟨?_, (rk.rows row hr).rng⟩⟩
  · unfold hearP ruleAt
    rw [el]
    simp [ek]
  · rw [(rk.rows row hr).len, ← hn]
    simp
theorem hear_ok {p : Parts} {m : Nat} {s : Stand} {g : Msg} (ok : PartsOk m p) (hs : StandOk p m s) (hg : MsgOk p g) : StandOk p m (hearP p s g) := by
  obtain ⟨l, r, _, _, e, h1, h2, h3, _⟩ := rule_at ok hs hg
  rw [e]
  exact ⟨h2, h3, by simpa [hearR] using h1⟩
theorem dot_range {r v : List Int} (h : r.length = v.length) : ((List.range v.length).map fun k => r.getD k 0 * v.getD k 0) = List.zipWith (· * ·) r v := by
  apply List.ext_getElem
  · simp [h]
  · intro i h1 h2
    simp at h1
    have h3 : i < r.length := by omega
    simp [List.getD_eq_getElem?_getD, h1, h3]
theorem RowOk.set {n : Nat} {r : List Int} (h : RowOk n r) {j : Nat} {v : Int} (hv : -9 ≤ v ∧ v ≤ 9) : RowOk n (r.set j v) :=
  ⟨by simp [h.len], fun x hx => by
    rcases List.mem_or_eq_of_mem_set hx with e | e
    · exact h.rng x e
    · rw [e]; exact hv⟩
end QL
namespace QL
open PySem L2
theorem rng_at {n i : Nat} {f : Nat → D} {d : D} (h : ((List.range n).map f)[i]? = some d) : i < n ∧ d = f i := by
  rw [List.getElem?_map, Option.map_eq_some_iff] at h
  obtain ⟨j, h, rfl⟩ := h
  rw [List.getElem?_eq_some_iff] at h
  obtain ⟨h1, h2⟩ := h
  simp at h1 h2
  exact ⟨h1, by rw [h2]⟩
theorem map_at {α : Type} {xs : List α} {i : Nat} {f : α → D} {d : D} (h : (xs.map f)[i]? = some d) : ∃ x, xs[i]? = some x ∧ d = f x := by
  rw [List.getElem?_map, Option.map_eq_some_iff] at h
  obtain ⟨j, h, rfl⟩ := h
  exact ⟨j, h, rfl⟩
end QL
namespace QL
open PySem L2
def enumW (d : D) : W (List D) := match d with | .lst xs => W.pure (xs.zipIdx.map fun p => D.tup [.int (p.2 : Nat), p.1]) | _ => W.fail
@[simp] theorem enumI_app {g : Env → W D} {ρ : Env} {QL : List D → Prop} {E : Xc → Prop} : enumI g ρ QL E = g ρ (fun d => enumW d QL E) E := rfl
@[simp] theorem enumW_d {α : Type} {f : α → D} {xs : List α} {QL : List D → Prop} {E : Xc → Prop} : enumW (dList f xs) QL E = QL (xs.zipIdx.map fun p => D.tup [.int (p.2 : Nat), f p.1]) := by
  show QL ((xs.map f).zipIdx.map fun p => D.tup [.int (p.2 : Nat), p.1]) = _
  rw [List.zipIdx_map, List.map_map]
  rfl
theorem zip_at {α : Type} {xs : List α} {i : Nat} {f : α → D} {d : D} (h : (xs.zipIdx.map fun p => D.tup [.int (p.2 : Nat), f p.1])[i]? = some d) : ∃ x, xs[i]? = some x ∧ d = .tup [.int (i : Nat), f x] := by
  obtain ⟨p, h, e⟩ := map_at h
  rw [List.getElem?_zipIdx, Option.map_eq_some_iff] at h
  obtain ⟨x, h, rfl⟩ := h
  exact ⟨x, h, by rw [e]; simp⟩
theorem take_next {α : Type} {xs : List α} {i : Nat} {x : α} (h : xs[i]? = some x) : xs.take (i + 1) = xs.take i ++ [x] := by
  rw [List.take_add_one, h]; rfl
end QL
namespace QL
open PySem L2
theorem cut_take {xs : List D} {c : Nat} (h : c ≤ xs.length) : cutD xs none (some (c : Int)) = xs.take c := by
  have e : min c xs.length = c := by omega
  have e2 : ¬ ((c : Int) < 0) := by omega
  unfold cutD HT.sIx
  simp [e, e2]
theorem cut_drop {xs : List D} {c : Nat} (h : c ≤ xs.length) : cutD xs (some (c : Int)) none = xs.drop c := by
  have e : min c xs.length = c := by omega
  have e2 : ¬ ((c : Int) < 0) := by omega
  unfold cutD HT.sIx
  simp [e, e2]
  exact List.take_of_length_le (by simp)
end QL
namespace QL
open PySem L2
section
variable {Q : D → Prop} {E : Xc → Prop} {p : Parts} {s : Stand} {g : Msg} {r : Rule} {QE : Env → Prop} {ρ : Env} {gt : List D → Env → W Env}
@[simp] theorem ixD_parts0 : ixD (dParts p) (.int 0) Q E = Q (dRow p.bs) := by simp [dParts]
@[simp] theorem ixD_parts1 : ixD (dParts p) (.int 1) Q E = Q (dRules p.rr) := by simp [dParts]
@[simp] theorem ixD_parts2 : ixD (dParts p) (.int 2) Q E = Q (dShows p.ss) := by simp [dParts]
@[simp] theorem ixD_stand0 : ixD (dStand s) (.int 0) Q E = Q (.int s.c) := by simp [dStand]
@[simp] theorem ixD_stand1 : ixD (dStand s) (.int 1) Q E = Q (dTup s.cs) := by simp [dStand]
@[simp] theorem ixD_msg0 : ixD (dMsg g) (.int 0) Q E = Q (.int g.k) := by simp [dMsg]
@[simp] theorem ixD_msg1 : ixD (dMsg g) (.int 1) Q E = Q (dTup g.ns) := by simp [dMsg]
@[simp] theorem ixD_rule0 : ixD (dRule r) (.int 0) Q E = Q (.int r.nx) := by simp [dRule]
@[simp] theorem ixD_rule1 : ixD (dRule r) (.int 1) Q E = Q (dRows r.rows) := by simp [dRule]
@[simp] theorem tupG_stand : tupG 2 gt (dStand s) ρ QE E = gt [.int s.c, dTup s.cs] ρ QE E := by simp [dStand]
@[simp] theorem tupG_msg : tupG 2 gt (dMsg g) ρ QE E = gt [.int g.k, dTup g.ns] ρ QE E := by simp [dMsg]
@[simp] theorem tupG_rule : tupG 2 gt (dRule r) ρ QE E = gt [.int r.nx, dRows r.rows] ρ QE E := by simp [dRule]
end
def seenP (p : Parts) (s : Stand) : List Int := (p.ss.getD s.c.toNat []).map fun row => dot row (1 :: s.cs)
theorem shows_at {p : Parts} {m : Nat} {s : Stand} (ok : PartsOk m p) (hs : StandOk p m s) : ∃ rows, atI p.ss s.c = some rows ∧ p.ss.getD s.c.toNat [] = rows ∧ rows.length ≤ 2 ∧ ∀ row ∈ rows, RowOk (1 + m) row := by
  obtain ⟨s0, s1, s2⟩ := hs
  have hl : s.c.toNat < p.ss.length := by have := ok.sl; omega
  have el := List.getElem?_eq_getElem hl
  obtain ⟨h1, h2⟩ := ok.ss _ (List.mem_of_getElem? el)
  exact ⟨_, atI_get s0 el, by simp [List.getD_eq_getElem?_getD, el], h1, h2⟩
theorem first_rule {p : Parts} {m : Nat} (ok : PartsOk m p) : ∃ l r, atI p.rr 0 = some l ∧ atI l 0 = some r ∧ r.rows.length = m := by
  obtain ⟨l, hl⟩ : ∃ l, p.rr[0]? = some l := ⟨p.rr[0]'(by have := ok.c1; omega), List.getElem?_eq_getElem _⟩
  have hlm := List.mem_of_getElem? hl
  obtain ⟨r, hr⟩ : ∃ r, l[0]? = some r := ⟨l[0]'(by have := ok.k1; have := (ok.rr l hlm).1; omega), List.getElem?_eq_getElem _⟩
  have hb : 0 < p.bs.length := by have := ok.k1; omega
  exact ⟨l, r, atI_nat (j := 0) hl, atI_nat (j := 0) hr, ((ok.rr l hlm).2 0 r p.bs[0] hr (List.getElem?_eq_getElem hb)).len⟩
end QL
namespace QL
open PySem L2
theorem msg_few {p : Parts} {m : Nat} {g : Msg} (ok : PartsOk m p) (hg : MsgOk p g) : g.ns.length ≤ 2 := by
  obtain ⟨_, _, b, hb, hn⟩ := hg
  have := ok.b b (List.mem_of_getElem? hb)
  omega
def hearAll (p : Parts) (s : Stand) (gs : List Msg) : Stand := gs.foldl (hearP p) s
theorem hearAll_ok {p : Parts} {m : Nat} (ok : PartsOk m p) : ∀ {gs : List Msg} {s : Stand}, StandOk p m s → (∀ g ∈ gs, MsgOk p g) → StandOk p m (hearAll p s gs)
  | [], s, hs, _ => hs
  | g :: gs, s, hs, hg => hearAll_ok ok (gs := gs) (hear_ok ok hs (hg g (by simp))) (fun x hx => hg x (by simp [hx]))
theorem okNs_ints (n : Nat) (ns : List Int) : okNs n (ns.map D.int) = true := by
  induction ns with
  | nil => rfl
  | cons x xs ih => simp [okNs, okN, ih]
theorem okNs_msgs (gs : List Msg) : okNs 2 (gs.map dMsg) = true := by
  induction gs with
  | nil => rfl
  | cons x xs ih => simp [okNs, okN, ih, dMsg, dTupL, okNs_ints]
/-! what two stands differ by -/
def gap (s t : Stand) : List Int := List.zipWith (fun a b => b - a) s.cs t.cs
def gapRun (p : Parts) : Int → List Int → List Int → List Int
  | _, [], δ => δ
  | c, k :: ks, δ => match ruleAt p c k with
    | some r => gapRun p r.nx ks (r.rows.map fun row => dot (row.drop 1) δ)
    | none => gapRun p c ks δ
theorem gapRun_cons {p : Parts} {c k : Int} {ks δ : List Int} : gapRun p c (k :: ks) δ = (match ruleAt p c k with | some r => gapRun p r.nx ks (r.rows.map fun row => dot (row.drop 1) δ) | none => gapRun p c ks δ) := rfl
theorem dot_gap : ∀ (r v w x : List Int), v.length = w.length → dot r (w ++ x) - dot r (v ++ x) = dot r (List.zipWith (fun a b => b - a) v w)
  | [], v, w, x, _ => by simp [dot]
  | a :: r, [], [], x, _ => by simp [dot]
  | a :: r, b :: v, c :: w, x, h => by
    have ih := dot_gap r v w x (by simpa using h)
    unfold dot at ih ⊢
    simp only [List.cons_append, List.zipWith_cons_cons, List.sum_cons]
    rw [Int.mul_sub, ← ih]
    omega
theorem dot_one {row v w x : List Int} (h : v.length = w.length) : dot row (1 :: (w ++ x)) - dot row (1 :: (v ++ x)) = dot (row.drop 1) (List.zipWith (fun a b => b - a) v w) := by
  cases row with
  | nil => simp [dot]
  | cons a r =>
    rw [List.drop_one, List.tail_cons, ← dot_gap r v w x h]
    unfold dot
    simp only [List.zipWith_cons_cons, List.sum_cons]
    omega
theorem gap_run {p : Parts} {m : Nat} (ok : PartsOk m p) : ∀ {gs : List Msg} {s t : Stand}, StandOk p m s → StandOk p m t → s.c = t.c → (∀ g ∈ gs, MsgOk p g) →
    (hearAll p s gs).c = (hearAll p t gs).c ∧ gap (hearAll p s gs) (hearAll p t gs) = gapRun p s.c (gs.map Msg.k) (gap s t)
  | [], s, t, _, _, e, _ => ⟨e, rfl⟩
  | g :: gs, s, t, hs, ht, e, hg => by
    have hgg := hg g (by simp)
    obtain ⟨l, r, f1, f2, f3, h1, h2, h3, h4⟩ := rule_at ok hs hgg
    obtain ⟨l', r', f1', f2', f3', _, _, _, _⟩ := rule_at ok ht hgg
    rw [← e, f1] at f1'
    cases f1'
    rw [f2] at f2'
    cases f2'
    have er : ruleAt p s.c g.k = some r := by
      have a1 := f1
      have a2 := f2
      unfold atI ixN at a1 a2
      rw [if_pos hs.1] at a1
      rw [if_pos hgg.1] at a2
      unfold ruleAt
      split at a1
      · split at a2
        · have a1 : p.rr[s.c.toNat]? = some l := a1
          rw [a1]
          exact a2
        · simp at a2
      · simp at a1
    have ih := gap_run ok (gs := gs) (s := hearP p s g) (t := hearP p t g) (hear_ok ok hs hgg) (hear_ok ok ht hgg) (by rw [f3, f3']; rfl) (fun x hx => hg x (by simp [hx]))
    refine ⟨ih.1, ?_⟩
    show gap (hearAll p (hearP p s g) gs) (hearAll p (hearP p t g) gs) = _
    rw [ih.2]
    show _ = gapRun p s.c (g.k :: gs.map Msg.k) (gap s t)
    rw [gapRun_cons, er]
    show _ = gapRun p r.nx (gs.map Msg.k) (r.rows.map fun row => dot (row.drop 1) (gap s t))
    have hc : (hearP p s g).c = r.nx := by rw [f3]; rfl
    rw [hc]
    congr 1
    rw [f3, f3']
    unfold gap hearR
    simp only
    rw [List.zipWith_map, List.zipWith_self]
    refine List.map_congr_left fun row _ => ?_
    exact dot_one (by rw [hs.2.2, ht.2.2])
theorem dot_twice (r v : List Int) : dot r (v.map fun x => 2 * x) = 2 * dot r v := by
  unfold dot
  induction r generalizing v with
  | nil => simp
  | cons a r ih =>
    cases v with
    | nil => simp
    | cons b v =>
      simp only [List.map_cons, List.zipWith_cons_cons, List.sum_cons, ih, Int.mul_add]
      congr 1
      rw [← Int.mul_assoc, ← Int.mul_assoc, Int.mul_comm a 2]
theorem gapRun_twice (p : Parts) : ∀ (ks : List Int) (c : Int) (δ : List Int), gapRun p c ks (δ.map fun x => 2 * x) = (gapRun p c ks δ).map fun x => 2 * x
  | [], c, δ => rfl
  | k :: ks, c, δ => by
    rw [gapRun_cons, gapRun_cons]
    split
    · rename_i r _
      rw [← gapRun_twice p ks]
      congr 1
      rw [List.map_map]
      exact List.map_congr_left fun row _ => dot_twice _ _
    · exact gapRun_twice p ks c δ
end QL

set_option Elab.async false
set_option linter.all false
set_option maxRecDepth 100000
set_option maxHeartbeats 2000000
namespace QL
open PySem L2
/-! ### words: forms as functions of the place -/
def un (i j : Nat) : Int := if j = i then 1 else 0
def vw (w : Nat) (f : Nat → Int) : List Int := (List.range w).map f
def cmb (row : List Int) (fs : List (Nat → Int)) : Nat → Int := fun j => dot row (fs.map fun f => f j)
def carried (p : Parts) (k : Int) : Nat := (p.bs.getD k.toNat 0).toNat
def befo (first b : Nat) (rows : List (Nat → Int)) : List (Nat → Int) := un 0 :: (rows ++ (List.range b).map fun t => un (first + t))
def wordF (p : Parts) : Int → Nat → List (Nat → Int) → List Int → Int × List (Nat → Int)
  | c, _, rows, [] => (c, rows)
  | c, first, rows, k :: ks => match ruleAt p c k with
    | some r => wordF p r.nx (first + carried p k) (r.rows.map fun row => cmb row (befo first (carried p k) rows)) ks
    | none => wordF p c (first + carried p k) rows ks
def wide (p : Parts) (ks : List Int) : Nat := (ks.map (carried p)).sum
theorem dot_cons (a x : Int) (r v : List Int) : dot (a :: r) (x :: v) = a * x + dot r v := by simp [dot]
theorem dot_nil_l (v : List Int) : dot [] v = 0 := by simp [dot]
theorem dot_nil_r (r : List Int) : dot r [] = 0 := by simp [dot]
theorem cmb_nil_l (fs : List (Nat → Int)) : cmb [] fs = fun _ => 0 := by funext j; exact dot_nil_l _
theorem cmb_nil_r (r : List Int) : cmb r [] = fun _ => 0 := by funext j; exact dot_nil_r _
theorem cmb_cons (a : Int) (r : List Int) (f : Nat → Int) (fs : List (Nat → Int)) : cmb (a :: r) (f :: fs) = fun j => a * f j + cmb r fs j := by
  funext j; simp [cmb, dot_cons]
structure Lin (T : (Nat → Int) → Nat → Int) : Prop where
  add : ∀ f g, T (fun j => f j + g j) = fun j => T f j + T g j
  mul : ∀ (a : Int) f, T (fun j => a * f j) = fun j => a * T f j
theorem Lin.zero {T : (Nat → Int) → Nat → Int} (h : Lin T) : T (fun _ => 0) = fun _ => 0 := by
  have := h.mul 0 (fun _ => 0)
  simpa using this
theorem Lin.cmb {T : (Nat → Int) → Nat → Int} (h : Lin T) : ∀ (row : List Int) (fs : List (Nat → Int)), T (cmb row fs) = QL.cmb row (fs.map T)
  | [], fs => by rw [cmb_nil_l, cmb_nil_l, h.zero]
  | _ :: _, [] => by rw [cmb_nil_r, List.map_nil, cmb_nil_r, h.zero]
  | a :: r, f :: fs => by rw [cmb_cons, List.map_cons, cmb_cons, h.add, h.mul, Lin.cmb h r fs]
theorem word_lin {p : Parts} {T : (Nat → Int) → Nat → Int} (h : Lin T) (h0 : T (un 0) = un 0) {n : Nat} : ∀ (ks : List Int) (c : Int) (first : Nat) (rows : List (Nat → Int)), (∀ i, first ≤ i → T (un i) = un (i + n)) →
    wordF p c (first + n) (rows.map T) ks = ((wordF p c first rows ks).1, (wordF p c first rows ks).2.map T)
  | [], c, first, rows, _ => rfl
  | k :: ks, c, first, rows, h1 => by
    have e : first + n + carried p k = first + carried p k + n := by omega
    unfold wordF
    split
    · rename_i r _
      rw [← word_lin h h0 ks r.nx (first + carried p k) _ (fun i hi => h1 i (by omega)), e]
      congr 1
      rw [List.map_map]
      refine List.map_congr_left fun row _ => ?_
      simp only [Function.comp_apply, h.cmb]
      congr 1
      unfold befo
      rw [List.map_cons, List.map_append, h0, List.map_map]
      congr 2
      refine List.map_congr_left fun t _ => ?_
      simp only [Function.comp_apply]
      rw [h1 _ (by omega)]
      congr 1
      omega
    · rw [← word_lin h h0 ks c (first + carried p k) _ (fun i hi => h1 i (by omega)), e]
theorem word_app {p : Parts} : ∀ (ks ls : List Int) (c : Int) (first : Nat) (rows : List (Nat → Int)), wordF p c first rows (ks ++ ls) = wordF p (wordF p c first rows ks).1 (first + wide p ks) (wordF p c first rows ks).2 ls
  | [], ls, c, first, rows => by simp [wordF, wide]
  | k :: ks, ls, c, first, rows => by
    have e : first + wide p (k :: ks) = first + carried p k + wide p ks := by simp [wide]; omega
    rw [List.cons_append, e]
    cases e' : ruleAt p c k with
    | none =>
      have a1 : ∀ zs, wordF p c first rows (k :: zs) = wordF p c (first + carried p k) rows zs := fun zs => by conv => lhs; unfold wordF; rw [e']
      rw [a1, a1, word_app ks ls]
    | some r =>
      have a1 : ∀ zs, wordF p c first rows (k :: zs) = wordF p r.nx (first + carried p k) (r.rows.map fun row => cmb row (befo first (carried p k) rows)) zs := fun zs => by conv => lhs; unfold wordF; rw [e']
      rw [a1, a1, word_app ks ls]
theorem dot_zero : ∀ (r v : List Int), (∀ x ∈ v, x = 0) → dot r v = 0
  | [], v, _ => dot_nil_l v
  | _ :: _, [], _ => dot_nil_r _
  | a :: r, x :: v, h => by rw [dot_cons, h x (by simp), dot_zero r v (fun y hy => h y (by simp [hy]))]; simp
theorem cmb_zero {row : List Int} {fs : List (Nat → Int)} {j : Nat} (h : ∀ f ∈ fs, f j = 0) : cmb row fs j = 0 := by
  refine dot_zero _ _ fun x hx => ?_
  obtain ⟨f, hf, rfl⟩ := List.mem_map.mp hx
  exact h f hf
theorem word_far {p : Parts} : ∀ (ks : List Int) (c : Int) (first : Nat) (rows : List (Nat → Int)), 1 ≤ first → (∀ f ∈ rows, ∀ j, first ≤ j → f j = 0) → ∀ f ∈ (wordF p c first rows ks).2, ∀ j, first + wide p ks ≤ j → f j = 0
  | [], c, first, rows, _, h => fun f hf j hj => h f hf j (by simpa [wide] using hj)
  | k :: ks, c, first, rows, h1, h => by
    have e : first + wide p (k :: ks) = first + carried p k + wide p ks := by simp [wide]; omega
    rw [e]
    unfold wordF
    split
    · refine word_far ks _ _ _ (by omega) ?_
      intro f hf j hj
      obtain ⟨row, _, rfl⟩ := List.mem_map.mp hf
      refine cmb_zero fun g hg => ?_
      unfold befo at hg
      simp only [List.mem_cons, List.mem_append, List.mem_map, List.mem_range] at hg
      rcases hg with rfl | hg | ⟨t, ht, rfl⟩
      · have : j ≠ 0 := by omega
        simp [un, this]
      · exact h g hg j (by omega)
      · have : j ≠ first + t := by omega
        simp [un, this]
    · exact word_far ks _ _ _ (by omega) (fun f hf j hj => h f hf j (by omega))
/-- how great the entries grow -/
theorem dot_abs {B : Nat} : ∀ (r v : List Int), (∀ x ∈ r, -9 ≤ x ∧ x ≤ 9) → (∀ x ∈ v, x.natAbs ≤ B) → (dot r v).natAbs ≤ 9 * r.length * B
  | [], v, _, _ => by rw [dot_nil_l]; simp
  | _ :: _, [], _, _ => by rw [dot_nil_r]; simp
  | a :: r, x :: v, h1, h2 => by
    rw [dot_cons]
    have ih := dot_abs r v (fun y hy => h1 y (by simp [hy])) (fun y hy => h2 y (by simp [hy]))
    have a1 := h1 a (by simp)
    have x1 := h2 x (by simp)
    have a2 : a.natAbs ≤ 9 := by omega
    have m : (a * x).natAbs ≤ 9 * B := by rw [Int.natAbs_mul]; exact Nat.mul_le_mul a2 x1
    have t := Int.natAbs_add_le (a * x) (dot r v)
    have e : 9 * (a :: r).length * B = 9 * B + 9 * r.length * B := by rw [List.length_cons, Nat.mul_add, Nat.add_mul]; omega
    omega
theorem cmb_abs {B : Nat} {row : List Int} {fs : List (Nat → Int)} {j : Nat} (h1 : ∀ x ∈ row, -9 ≤ x ∧ x ≤ 9) (h2 : ∀ f ∈ fs, (f j).natAbs ≤ B) : (cmb row fs j).natAbs ≤ 9 * row.length * B :=
  dot_abs _ _ h1 fun x hx => by
    obtain ⟨f, hf, rfl⟩ := List.mem_map.mp hx
    exact h2 f hf
end QL
namespace QL
open PySem L2
theorem rule_of {p : Parts} {m : Nat} {c k : Int} (ok : PartsOk m p) (c0 : 0 ≤ c) (c1 : c < p.rr.length) (k0 : 0 ≤ k) (k1 : k < p.bs.length) :
    ∃ l r, atI p.rr c = some l ∧ atI l k = some r ∧ ruleAt p c k = some r ∧ RuleOk p.rr.length m (carried p k) r ∧ atI p.bs k = some (carried p k : Int) ∧ carried p k ≤ 2 := by
  have hl : c.toNat < p.rr.length := by omega
  have el := List.getElem?_eq_getElem hl
  obtain ⟨e1, e2⟩ := ok.rr _ (List.mem_of_getElem? el)
  have hk : k.toNat < p.rr[c.toNat].length := by rw [e1]; omega
  have hb : k.toNat < p.bs.length := by omega
  have ek := List.getElem?_eq_getElem hk
  have eb := List.getElem?_eq_getElem hb
  have rk := e2 _ _ _ ek eb
  have ec : carried p k = p.bs[k.toNat].toNat := by simp [carried, List.getD_eq_getElem?_getD, eb]
  have rb := ok.b _ (List.mem_of_getElem? eb)
  rw [← ec] at rk
  refine ⟨_, _, atI_get c0 el, atI_get k0 ek, ?_, rk, ?_, by omega⟩
  · simp [ruleAt, el, ek]
  · rw [atI_get k0 eb, ec, Int.toNat_of_nonneg rb.1]
def units (m : Nat) : List (Nat → Int) := (List.range m).map fun i => un (1 + i)
theorem befo_len {first b : Nat} {rows : List (Nat → Int)} : (befo first b rows).length = 1 + rows.length + b := by simp [befo]; omega
theorem word_ok {p : Parts} {m : Nat} (ok : PartsOk m p) : ∀ (ks : List Int) (c : Int) (first : Nat) (rows : List (Nat → Int)), 0 ≤ c → c < p.rr.length → rows.length = m → (∀ k ∈ ks, 0 ≤ k ∧ k < p.bs.length) →
    0 ≤ (wordF p c first rows ks).1 ∧ (wordF p c first rows ks).1 < p.rr.length ∧ (wordF p c first rows ks).2.length = m
  | [], c, first, rows, c0, c1, hr, _ => ⟨c0, c1, hr⟩
  | k :: ks, c, first, rows, c0, c1, hr, hk => by
    obtain ⟨k0, k1⟩ := hk k (by simp)
    obtain ⟨l, r, _, _, e, rk, _, _⟩ := rule_of ok c0 c1 k0 k1
    unfold wordF
    simp only [e]
    exact word_ok ok ks _ _ _ rk.n0 rk.n1 (by simp [rk.len]) (fun k hk' => hk k (by simp [hk']))
theorem wide_le {p : Parts} (hb : ∀ b ∈ p.bs, 0 ≤ b ∧ b ≤ 2) : ∀ ks : List Int, wide p ks ≤ 2 * ks.length
  | [] => by simp [wide]
  | k :: ks => by
    have ih := wide_le hb ks
    have : carried p k ≤ 2 := by
      unfold carried
      rw [List.getD_eq_getElem?_getD]
      cases e : p.bs[k.toNat]? with
      | none => simp
      | some b => have := hb b (List.mem_of_getElem? e); simp; omega
    simp [wide] at ih ⊢
    omega
theorem wide_app {p : Parts} (ks ls : List Int) : wide p (ks ++ ls) = wide p ks + wide p ls := by simp [wide]
theorem word_snoc {p : Parts} {c : Int} {first : Nat} {rows : List (Nat → Int)} {ks : List Int} {i : Nat} {k : Int} {r : Rule} (hi : ks[i]? = some k) (e : ruleAt p (wordF p c first rows (ks.take i)).1 k = some r) :
    wordF p c first rows (ks.take (i + 1)) = (r.nx, r.rows.map fun row => cmb row (befo (first + wide p (ks.take i)) (carried p k) (wordF p c first rows (ks.take i)).2)) ∧ wide p (ks.take (i + 1)) = wide p (ks.take i) + carried p k := by
  rw [take_next hi, word_app, wide_app]
  constructor
  · simp [wordF, e]
  · simp [wide]
end QL
namespace QL
open PySem L2
theorem lk_rules {a b c : D} : List.lookup ("rules" : Str) ([("burdens", a), ("rules", b), ("shows", c)] : List (Str × D)) = some b := by
  have h : ((("rules" : Str)) == ("burdens" : Str)) = false := by decide +kernel
  simp [List.lookup, h]
theorem lk_burdens {a b c : D} : List.lookup ("burdens" : Str) ([("burdens", a), ("rules", b), ("shows", c)] : List (Str × D)) = some a := by
  simp [List.lookup]
theorem lk_shows {a b c : D} : List.lookup ("shows" : Str) ([("burdens", a), ("rules", b), ("shows", c)] : List (Str × D)) = some c := by
  have h : ((("shows" : Str)) == ("burdens" : Str)) = false := by decide +kernel
  have h2 : ((("shows" : Str)) == ("rules" : Str)) = false := by decide +kernel
  simp [List.lookup, h, h2]
theorem lk_no {a b c : D} {f : Str} (h1 : (f == ("burdens" : Str)) = false) (h2 : (f == ("rules" : Str)) = false) (h3 : (f == ("shows" : Str)) = false) : List.lookup f ([("burdens", a), ("rules", b), ("shows", c)] : List (Str × D)) = none := by
  simp [List.lookup, h1, h2, h3]
theorem no_cell_count {p : Parts} : ∃ fs, dL p = .ins 0 fs ∧ fs.lookup ("cell_count" : Str) = none := ⟨_, rfl, lk_no (by decide +kernel) (by decide +kernel) (by decide +kernel)⟩
theorem no_control_count {p : Parts} : ∃ fs, dL p = .ins 0 fs ∧ fs.lookup ("control_count" : Str) = none := ⟨_, rfl, lk_no (by decide +kernel) (by decide +kernel) (by decide +kernel)⟩
theorem no_check_stand {p : Parts} : ∃ fs, dL p = .ins 0 fs ∧ fs.lookup ("check_stand" : Str) = none := ⟨_, rfl, lk_no (by decide +kernel) (by decide +kernel) (by decide +kernel)⟩
theorem no_heard {p : Parts} : ∃ fs, dL p = .ins 0 fs ∧ fs.lookup ("heard" : Str) = none := ⟨_, rfl, lk_no (by decide +kernel) (by decide +kernel) (by decide +kernel)⟩
theorem no_hear {p : Parts} : ∃ fs, dL p = .ins 0 fs ∧ fs.lookup ("hear" : Str) = none := ⟨_, rfl, lk_no (by decide +kernel) (by decide +kernel) (by decide +kernel)⟩
theorem no_hear_all {p : Parts} : ∃ fs, dL p = .ins 0 fs ∧ fs.lookup ("hear_all" : Str) = none := ⟨_, rfl, lk_no (by decide +kernel) (by decide +kernel) (by decide +kernel)⟩
theorem no_seen {p : Parts} : ∃ fs, dL p = .ins 0 fs ∧ fs.lookup ("seen" : Str) = none := ⟨_, rfl, lk_no (by decide +kernel) (by decide +kernel) (by decide +kernel)⟩
theorem fld_rules {p : Parts} {Q : D → Prop} {E : Xc → Prop} (q : Q (dRules p.rr)) : fldC 0 "rules" (dL p) Q E := ⟨⟨_, rfl⟩, _, lk_rules, q⟩
theorem fld_burdens {p : Parts} {Q : D → Prop} {E : Xc → Prop} (q : Q (dRow p.bs)) : fldC 0 "burdens" (dL p) Q E := ⟨⟨_, rfl⟩, _, lk_burdens, q⟩
theorem fld_shows {p : Parts} {Q : D → Prop} {E : Xc → Prop} (q : Q (dShows p.ss)) : fldC 0 "shows" (dL p) Q E := ⟨⟨_, rfl⟩, _, lk_shows, q⟩
theorem no_kind_count {p : Parts} : ∃ fs, dL p = .ins 0 fs ∧ fs.lookup ("kind_count" : Str) = none := ⟨_, rfl, lk_no (by decide +kernel) (by decide +kernel) (by decide +kernel)⟩
theorem no_word_map {p : Parts} : ∃ fs, dL p = .ins 0 fs ∧ fs.lookup ("word_map" : Str) = none := ⟨_, rfl, lk_no (by decide +kernel) (by decide +kernel) (by decide +kernel)⟩
end QL
namespace QL
open PySem L2
theorem wide_int (p : Parts) : ∀ ks : List Int, (ks.map fun k => (carried p k : Int)).sum = (wide p ks : Int)
  | [] => rfl
  | k :: ks => by
    have := wide_int p ks
    simp only [List.map_cons, List.sum_cons, wide] at this ⊢
    rw [this]
    simp
theorem wide_take (p : Parts) (ks : List Int) (i : Nat) : wide p (ks.take i) ≤ wide p ks := by
  conv => rhs; rw [← List.take_append_drop i ks, wide_app]
  omega
end QL

set_option Elab.async false
set_option linter.all false
set_option maxRecDepth 100000
set_option maxHeartbeats 2000000
namespace QL
open PySem L2
theorem un_abs (i j : Nat) : (un i j).natAbs ≤ 1 := by unfold un; split <;> simp
theorem word_abs {p : Parts} {m : Nat} (ok : PartsOk m p) : ∀ (ks : List Int) (c : Int) (first : Nat) (rows : List (Nat → Int)) (B : Nat), 1 ≤ B → 0 ≤ c → c < p.rr.length → rows.length = m → (∀ k ∈ ks, 0 ≤ k ∧ k < p.bs.length) → (∀ f ∈ rows, ∀ j, (f j).natAbs ≤ B) →
    ∀ f ∈ (wordF p c first rows ks).2, ∀ j, (f j).natAbs ≤ 54 ^ ks.length * B
  | [], c, first, rows, B, h1, c0, c1, hr, _, h => fun f hf j => by simpa using h f hf j
  | k :: ks, c, first, rows, B, h1, c0, c1, hr, hk, h => by
    obtain ⟨k0, k1⟩ := hk k (by simp)
    obtain ⟨l, r, _, _, e, rk, _, e2⟩ := rule_of ok c0 c1 k0 k1
    have a1 : wordF p c first rows (k :: ks) = wordF p r.nx (first + carried p k) (r.rows.map fun row => cmb row (befo first (carried p k) rows)) ks := by conv => lhs; unfold wordF; rw [e]
    rw [a1]
    have ih := word_abs ok ks r.nx (first + carried p k) (r.rows.map fun row => cmb row (befo first (carried p k) rows)) (54 * B) (by omega) rk.n0 rk.n1 (by simp [rk.len]) (fun k hk' => hk k (by simp [hk'])) (fun f hf j => by
      obtain ⟨row, hrow, rfl⟩ := List.mem_map.mp hf
      have rr := rk.rows row hrow
      have hb := cmb_abs (B := B) (row := row) (fs := befo first (carried p k) rows) (j := j) rr.rng (fun g hg => by
        unfold befo at hg
        simp only [List.mem_cons, List.mem_append, List.mem_map, List.mem_range] at hg
        rcases hg with rfl | hg | ⟨t, ht, rfl⟩
        · exact Nat.le_trans (un_abs _ _) h1
        · exact h g hg j
        · exact Nat.le_trans (un_abs _ _) h1)
      have hm := ok.m3
      have : 9 * row.length ≤ 54 := by have := rr.len; omega
      exact Nat.le_trans hb (Nat.mul_le_mul_right B this))
    intro f hf j
    have := ih f hf j
    rw [List.length_cons, Nat.pow_succ, Nat.mul_assoc]
    exact this
theorem units_abs {m : Nat} : ∀ f ∈ units m, ∀ j, (f j).natAbs ≤ 1 := fun f hf j => by
  obtain ⟨i, _, rfl⟩ := List.mem_map.mp hf
  exact un_abs _ _
theorem pow54 {n : Nat} (h : n ≤ 12) : 54 ^ n ≤ 2 ^ 72 := Nat.le_trans (Nat.pow_le_pow_right (by decide) h) (by decide)
theorem log_small {x : Nat} (h : x ≤ 2 ^ 72) : x.log2 < 100 := by
  by_cases e : x = 0
  · subst e; decide
  · rw [Nat.log2_lt e]; exact Nat.lt_of_le_of_lt h (by decide)
theorem cmulw {i j : Int} (h1 : i.natAbs ≤ 2 ^ 72) (h2 : j.natAbs ≤ 2 ^ 72) : CMulW i j := by
  have a := log_small h1
  have b := log_small h2
  show _ + _ < 1000000
  omega
/-! the rows of a word with those of its front in the place of the cells -/
theorem dotl_add (f g : Nat → Int) : ∀ (l : List Nat) (v : List Int), dot (l.map fun i => f i + g i) v = dot (l.map f) v + dot (l.map g) v
  | [], v => by simp [dot_nil_l]
  | _ :: _, [] => by simp [dot_nil_r]
  | a :: l, x :: v => by rw [List.map_cons, List.map_cons, List.map_cons, dot_cons, dot_cons, dot_cons, dotl_add f g l v, Int.add_mul]; omega
theorem dotl_mul (a : Int) (f : Nat → Int) : ∀ (l : List Nat) (v : List Int), dot (l.map fun i => a * f i) v = a * dot (l.map f) v
  | [], v => by simp [dot_nil_l]
  | _ :: _, [] => by simp [dot_nil_r]
  | b :: l, x :: v => by rw [List.map_cons, List.map_cons, dot_cons, dot_cons, dotl_mul a f l v, Int.mul_add, Int.mul_assoc]
theorem dotl_zero (f : Nat → Int) : ∀ (l : List Nat) (v : List Int), (∀ i ∈ l, f i = 0) → dot (l.map f) v = 0
  | [], v, _ => by simp [dot_nil_l]
  | _ :: _, [], _ => by simp [dot_nil_r]
  | a :: l, x :: v, h => by rw [List.map_cons, dot_cons, h a (by simp), dotl_zero f l v (fun i hi => h i (by simp [hi]))]; simp
theorem dot_snoc : ∀ (r : List Int) (v : List Int) (a x : Int), v[r.length]? = some x → dot (r ++ [a]) v = dot r v + a * x
  | [], [], a, x, h => by simp at h
  | [], y :: v, a, x, h => by simp at h; subst h; simp [dot]
  | _ :: _, [], a, x, h => by simp at h
  | b :: r, y :: v, a, x, h => by
    rw [List.cons_append, dot_cons, dot_cons, dot_snoc r v a x (by simpa using h)]; omega
theorem vw_snoc (n : Nat) (f : Nat → Int) : vw (n + 1) f = vw n f ++ [f n] := by simp [vw, List.range_succ]
theorem vw_len (n : Nat) (f : Nat → Int) : (vw n f).length = n := by simp [vw]
theorem dot_over : ∀ (r v : List Int) (a : Int), v.length ≤ r.length → dot (r ++ [a]) v = dot r v
  | r, [], a, _ => by rw [dot_nil_r, dot_nil_r]
  | [], _ :: _, a, h => by simp at h
  | b :: r, y :: v, a, h => by rw [List.cons_append, dot_cons, dot_cons, dot_over r v a (by simpa using h)]
theorem dot_at (i : Nat) : ∀ (m : Nat) (v : List Int) (x : Int), i < m → v[i]? = some x → dot (vw m (fun t => un i t)) v = x
  | 0, v, x, h, _ => by omega
  | m + 1, v, x, h, e => by
    rw [vw_snoc]
    by_cases c : i = m
    · subst c
      rw [dot_snoc _ _ _ x (by rw [vw_len]; exact e)]
      have : dot (vw i fun t => un i t) v = 0 := dotl_zero _ _ _ (fun t ht => by
        simp at ht
        have : t ≠ i := by omega
        simp [un, this])
      rw [this]
      simp [un]
    · have hm : m ≠ i := fun e => c e.symm
      cases hv : v[m]? with
      | some y =>
        rw [dot_snoc _ _ _ y (by rw [vw_len]; exact hv), dot_at i m v x (by omega) e]
        simp [un, hm]
      | none =>
        have hl : v.length ≤ m := by simpa using hv
        have : dot (vw m (fun t => un i t) ++ [un i m]) v = dot (vw m fun t => un i t) v := dot_over _ _ _ (by simpa [vw] using hl)
        rw [this, dot_at i m v x (by omega) e]
def sub (m n : Nat) (F : List (Nat → Int)) (f : Nat → Int) : Nat → Int := fun j => f 0 * un 0 j + dot (vw m fun i => f (1 + i)) (F.map fun g => g j) + (if 1 + m + n ≤ j then f (j - n) else 0)
theorem sub_lin (m n : Nat) (F : List (Nat → Int)) : Lin (sub m n F) where
  add f g := by
    funext j
    unfold sub vw
    rw [dotl_add (fun i => f (1 + i)) (fun i => g (1 + i)), Int.add_mul]
    by_cases h : 1 + m + n ≤ j
    · simp only [h, if_true]; omega
    · simp only [h, if_false]; omega
  mul a f := by
    funext j
    unfold sub vw
    rw [dotl_mul a (fun i => f (1 + i)), Int.mul_add, Int.mul_add, Int.mul_assoc]
    split <;> simp
theorem sub_0 (m n : Nat) (F : List (Nat → Int)) : sub m n F (un 0) = un 0 := by
  funext j
  unfold sub vw
  rw [dotl_zero _ _ _ (fun i _ => by simp [un])]
  have : ¬ (1 + m + n ≤ j ∧ j - n = 0) := by omega
  by_cases h : 1 + m + n ≤ j
  · have h0 : j - n ≠ 0 := by omega
    simp [un, h, h0]
  · simp [un, h]
theorem sub_far (m n : Nat) (F : List (Nat → Int)) (i : Nat) (hi : 1 + m ≤ i) : sub m n F (un i) = un (i + n) := by
  funext j
  unfold sub vw
  have h0 : (0 : Nat) ≠ i := by omega
  rw [dotl_zero _ _ _ (fun t ht => by
    simp at ht
    have : 1 + t ≠ i := by omega
    simp [un, this])]
  by_cases h : 1 + m + n ≤ j
  · by_cases h2 : j - n = i
    · have h3 : j = i + n := by omega
      simp [un, h, h2, h0, h3]
      omega
    · have h3 : j ≠ i + n := by omega
      simp [un, h, h2, h0, h3]
  · have h3 : j ≠ i + n := by omega
    simp [un, h, h0, h3]
theorem sub_cell (m n : Nat) (F : List (Nat → Int)) (hl : F.length = m) (i : Nat) (hi : i < m) : sub m n F (un (1 + i)) = F.getD i (fun _ => 0) := by
  funext j
  unfold sub
  have e : (vw m fun t => un (1 + i) (1 + t)) = vw m fun t => un i t := by
    unfold vw
    refine List.map_congr_left fun t _ => ?_
    by_cases c : t = i
    · subst c; simp [un]
    · have : 1 + t ≠ 1 + i := by omega
      simp [un, c, this]
  have hF : i < F.length := by omega
  rw [e, dot_at i m _ (F[i] j) hi (by simp [hF])]
  have h0 : (0 : Nat) ≠ 1 + i := by omega
  have : F.getD i (fun _ => 0) = F[i] := by simp [List.getD_eq_getElem?_getD, hF]
  rw [this]
  by_cases h : 1 + m + n ≤ j
  · have h2 : j - n ≠ 1 + i := by omega
    simp [un, h, h2, h0]
  · simp [un, h, h0]
theorem sub_units (m n : Nat) (F : List (Nat → Int)) (hl : F.length = m) : (units m).map (sub m n F) = F := by
  apply List.ext_getElem
  · simp [units, hl]
  · intro i h1 h2
    simp only [units, List.getElem_map, List.getElem_range]
    rw [sub_cell m n F hl i (by omega)]
    simp [List.getD_eq_getElem?_getD, h2]
/-- a word is its back behind its front -/
theorem word_sub {p : Parts} {m : Nat} (ok : PartsOk m p) {c : Int} (c0 : 0 ≤ c) (c1 : c < p.rr.length) (ks ls : List Int) (hk : ∀ k ∈ ks, 0 ≤ k ∧ k < p.bs.length) :
    wordF p c (1 + m) (units m) (ks ++ ls) = ((wordF p (wordF p c (1 + m) (units m) ks).1 (1 + m) (units m) ls).1, (wordF p (wordF p c (1 + m) (units m) ks).1 (1 + m) (units m) ls).2.map (sub m (wide p ks) (wordF p c (1 + m) (units m) ks).2)) := by
  obtain ⟨w0, w1, w2⟩ := word_ok ok ks c (1 + m) (units m) c0 c1 (by simp [units]) hk
  rw [word_app]
  have := word_lin (p := p) (sub_lin m (wide p ks) (wordF p c (1 + m) (units m) ks).2) (sub_0 _ _ _) (n := wide p ks) ls (wordF p c (1 + m) (units m) ks).1 (1 + m) (units m) (fun i hi => sub_far _ _ _ i hi)
  rw [sub_units m _ _ w2] at this
  exact this
theorem cut_all {xs : List D} {a : Nat} (h : a ≤ xs.length) : cutD xs (some (a : Int)) (some (xs.length : Int)) = xs.drop a := by
  have e : min a xs.length = a := by omega
  have e2 : ¬ ((a : Int) < 0) := by omega
  have e3 : ¬ ((xs.length : Int) < 0) := by omega
  unfold cutD HT.sIx
  simp [e, e2, e3]
  exact List.take_of_length_le (by simp)
theorem vw_at {w i : Nat} {f : Nat → Int} (h : i < w) : (vw w f)[i]? = some (f i) := by simp [vw, h]
/-- the line that is reckoned: the constant, then cell by cell -/
def lineF (F : List (Nat → Int)) (f : Nat → Int) (i : Nat) : Nat → Int := fun j => f 0 * un 0 j + dot (vw i fun t => f (1 + t)) (F.map fun g => g j)
theorem line_0 (F : List (Nat → Int)) (f : Nat → Int) (w : Nat) : vw (w + 1) (lineF F f 0) = f 0 :: List.replicate w 0 := by
  have e : lineF F f 0 = fun j => f 0 * un 0 j := by funext j; simp [lineF, vw, dot_nil_l]
  rw [e]
  apply List.ext_getElem
  · simp [vw]
  · intro i h1 h2
    cases i with
    | zero => simp [vw, un]
    | succ i => simp [vw, un]
theorem line_step (F : List (Nat → Int)) (f : Nat → Int) (i j : Nat) (g : Nat → Int) (h : F[i]? = some g) : lineF F f (i + 1) j = lineF F f i j + f (1 + i) * g j := by
  unfold lineF
  rw [vw_snoc, dot_snoc _ _ _ (g j) (by rw [vw_len]; simp [h])]
  omega
theorem line_end {m n b : Nat} (F : List (Nat → Int)) (f : Nat → Int) (hF : ∀ g ∈ F, ∀ j, 1 + m + n ≤ j → g j = 0) : vw (1 + m + n) (lineF F f m) ++ ((vw (1 + m + b) f).drop (1 + m)) = vw (1 + m + n + b) (sub m n F f) := by
  apply List.ext_getElem
  · simp [vw]
  · intro i h1 h2
    by_cases h : i < 1 + m + n
    · rw [List.getElem_append_left (by simpa [vw] using h)]
      have : ¬ 1 + m + n ≤ i := by omega
      simp [vw, sub, lineF, this]
    · rw [List.getElem_append_right (by simpa [vw] using h)]
      have h3 : 1 + m + n ≤ i := by omega
      have h4 : i ≠ 0 := by omega
      simp [vw, sub, h3]
      rw [dot_zero _ _ (fun x hx => by obtain ⟨g, hg, rfl⟩ := List.mem_map.mp hx; exact hF g hg i h3)]
      have : 1 + m + (i - (1 + m + n)) = i - n := by omega
      simp [un, h4, this]
/-- one kind: the rule's rows -/
theorem cmb_units (m b : Nat) (row : List Int) (hl : row.length = 1 + m + b) : vw (1 + m + b) (cmb row (befo (1 + m) b (units m))) = row := by
  have e : befo (1 + m) b (units m) = (List.range (1 + m + b)).map un := by
    unfold befo units
    apply List.ext_getElem
    · simp; omega
    · intro i h1 h2
      cases i with
      | zero => simp
      | succ i =>
        simp only [List.getElem_cons_succ, List.getElem_map, List.getElem_range]
        by_cases h : i < m
        · rw [List.getElem_append_left (by simpa using h)]; simp; congr 1; omega
        · rw [List.getElem_append_right (by simpa using h)]
          simp
          congr 1
          simp at h1 h2
          omega
  rw [e]
  apply List.ext_getElem
  · simp [vw, hl]
  · intro i h1 h2
    simp [vw] at h1
    simp only [vw, List.getElem_map, List.getElem_range, cmb]
    rw [List.map_map]
    have : ((List.range (1 + m + b)).map ((fun f => f i) ∘ un)) = vw (1 + m + b) fun t => un i t := by
      unfold vw
      refine List.map_congr_left fun t _ => ?_
      show un t i = un i t
      unfold un
      by_cases c : i = t
      · simp [c]
      · have : t ≠ i := fun e => c e.symm
        simp [c, this]
    rw [this]
    have d : ∀ (r v : List Int), dot r v = dot v r := fun r v => by unfold dot; rw [List.zipWith_comm]; simp [Int.mul_comm]
    rw [d]
    exact dot_at i _ row row[i] h1 (by simp [h2])
end QL
namespace QL
open PySem L2
/-! the value of a word's rows -/
def evw (W : Nat) (v f : Nat → Int) : Int := dot (vw W f) (vw W v)
theorem evw_un {W i : Nat} {v : Nat → Int} (h : i < W) : evw W v (un i) = v i := by
  unfold evw
  exact dot_at i W _ _ h (vw_at h)
theorem evw_cmb {W : Nat} {v : Nat → Int} : ∀ (row : List Int) (fs : List (Nat → Int)), evw W v (cmb row fs) = dot row (fs.map (evw W v))
  | [], fs => by rw [cmb_nil_l, dot_nil_l]; exact dotl_zero (fun _ => 0) _ _ (fun _ _ => rfl)
  | _ :: _, [] => by rw [cmb_nil_r, List.map_nil, dot_nil_r]; exact dotl_zero (fun _ => 0) _ _ (fun _ _ => rfl)
  | a :: r, f :: fs => by
    rw [cmb_cons, List.map_cons, dot_cons, ← evw_cmb r fs]
    unfold evw vw
    rw [dotl_add (fun j => a * f j) (cmb r fs), dotl_mul]
def nums (gs : List Msg) : List Int := (gs.map Msg.ns).flatten
theorem word_hear {p : Parts} {m W : Nat} {v : Nat → Int} (ok : PartsOk m p) (v0 : v 0 = 1) : ∀ (gs : List Msg) (c : Int) (first : Nat) (rows : List (Nat → Int)), 0 ≤ c → c < p.rr.length → rows.length = m → 1 ≤ first → (∀ g ∈ gs, MsgOk p g) → first + (nums gs).length ≤ W → (∀ t x, (nums gs)[t]? = some x → v (first + t) = x) →
    (wordF p c first rows (gs.map Msg.k)).1 = (hearAll p ⟨c, rows.map (evw W v)⟩ gs).c ∧ (wordF p c first rows (gs.map Msg.k)).2.map (evw W v) = (hearAll p ⟨c, rows.map (evw W v)⟩ gs).cs
  | [], c, first, rows, _, _, _, _, _, _, _ => ⟨rfl, rfl⟩
  | g :: gs, c, first, rows, c0, c1, hr, hf, hg, hW, hv => by
    have hgg := hg g (by simp)
    obtain ⟨k0, k1, b, hb, hn⟩ := hgg
    obtain ⟨l, r, q1, q2, q3, rk, q4, q5⟩ := rule_of ok c0 c1 k0 k1
    have eb : carried p g.k = g.ns.length := by
      have := atI_get k0 hb
      rw [q4] at this
      cases this
      omega
    have en : nums (g :: gs) = g.ns ++ nums gs := by simp [nums]
    rw [en] at hW hv
    rw [List.length_append] at hW
    have a1 : wordF p c first rows ((g :: gs).map Msg.k) = wordF p r.nx (first + carried p g.k) (r.rows.map fun row => cmb row (befo first (carried p g.k) rows)) (gs.map Msg.k) := by
      rw [List.map_cons]
      conv => lhs; unfold wordF; rw [q3]
    rw [a1]
    have es : (r.rows.map fun row => cmb row (befo first (carried p g.k) rows)).map (evw W v) = r.rows.map fun row => dot row (1 :: (rows.map (evw W v) ++ g.ns)) := by
      rw [List.map_map]
      refine List.map_congr_left fun row _ => ?_
      simp only [Function.comp_apply]
      rw [evw_cmb]
      congr 1
      unfold befo
      rw [List.map_cons, List.map_append, evw_un (by omega), v0, List.map_map, eb]
      congr 2
      apply List.ext_getElem
      · simp
      · intro t h1 h2
        simp at h1
        simp only [List.getElem_map, List.getElem_range, Function.comp_apply]
        rw [evw_un (by omega)]
        exact hv t _ (by rw [List.getElem?_append_left h1]; exact List.getElem?_eq_getElem h1)
    have ih := word_hear (W := W) ok v0 gs r.nx (first + carried p g.k) (r.rows.map fun row => cmb row (befo first (carried p g.k) rows)) rk.n0 rk.n1 (by simp [rk.len]) (by omega) (fun x hx => hg x (by simp [hx])) (by omega) (fun t x h => by
      have := hv (g.ns.length + t) x (by rw [List.getElem?_append_right (by omega)]; simpa using h)
      rw [← this]
      congr 1
      omega)
    have eh : hearAll p ⟨c, rows.map (evw W v)⟩ (g :: gs) = hearAll p ⟨r.nx, r.rows.map fun row => dot row (1 :: (rows.map (evw W v) ++ g.ns))⟩ gs := by
      show hearAll p (hearP p ⟨c, rows.map (evw W v)⟩ g) gs = _
      unfold hearP
      simp only [q3]
      rfl
    rw [eh, ← es]
    exact ih
end QL
namespace QL
open PySem L2
theorem vec_vw (vec : List Int) : vw vec.length (fun j => vec.getD j 0) = vec := by
  apply List.ext_getElem
  · simp [vw]
  · intro i h1 h2
    simp [vw, List.getD_eq_getElem?_getD, h2]
theorem nums_snoc (gs : List Msg) (g : Msg) : nums (gs ++ [g]) = nums gs ++ g.ns := by simp [nums]
theorem nums_len {p : Parts} {m : Nat} (ok : PartsOk m p) : ∀ gs : List Msg, (∀ g ∈ gs, MsgOk p g) → (nums gs).length = wide p (gs.map Msg.k)
  | [], _ => rfl
  | g :: gs, h => by
    have ih := nums_len ok gs (fun x hx => h x (by simp [hx]))
    obtain ⟨k0, k1, b, hb, hn⟩ := h g (by simp)
    have : carried p g.k = g.ns.length := by
      have b2 := ok.b b (List.mem_of_getElem? hb)
      simp [carried, List.getD_eq_getElem?_getD, hb]
      omega
    simp [nums, wide] at ih ⊢
    rw [this, ih]
theorem hearAll_snoc (p : Parts) (s : Stand) (gs : List Msg) (g : Msg) : hearAll p s (gs ++ [g]) = hearP p (hearAll p s gs) g := by simp [hearAll]
/-- the rows of a word at a stand's cells and its messages' numbers -/
theorem word_told {p : Parts} {m : Nat} (ok : PartsOk m p) {c : Int} {cs : List Int} {gs : List Msg} {ks : List Int} (c0 : 0 ≤ c) (c1 : c < p.rr.length) (hcs : cs.length = m) (hg : ∀ g ∈ gs, MsgOk p g) (ek : gs.map Msg.k = ks) {W : Nat} (hW : 1 + m + wide p ks = W) :
    (wordF p c (1 + m) (units m) ks).1 = (hearAll p ⟨c, cs⟩ gs).c ∧ (wordF p c (1 + m) (units m) ks).2.map (fun f => dot (vw W f) (1 :: (cs ++ nums gs))) = (hearAll p ⟨c, cs⟩ gs).cs := by
  have hl : (1 :: (cs ++ nums gs)).length = W := by
    simp
    rw [nums_len ok gs hg, ek, hcs]
    omega
  have hN := nums_len ok gs hg
  rw [ek] at hN
  have key := word_hear (W := W) (v := fun j => (1 :: (cs ++ nums gs)).getD j 0) ok rfl gs c (1 + m) (units m) c0 c1 (by simp [units]) (by omega) hg (by rw [hN]; omega) (fun t x h => by
    have e : 1 + m + t = (m + t) + 1 := by omega
    simp only [e, List.getD_eq_getElem?_getD, List.getElem?_cons_succ]
    rw [List.getElem?_append_right (by omega)]
    have : m + t - cs.length = t := by omega
    rw [this, h]; rfl)
  have eu : (units m).map (evw W fun j => (1 :: (cs ++ nums gs)).getD j 0) = cs := by
    apply List.ext_getElem
    · simp [units, hcs]
    · intro i h1 h2
      have h3 : i < m := by simpa [units] using h1
      simp only [units, List.getElem_map, List.getElem_range]
      rw [evw_un (by omega)]
      have e : 1 + i = i + 1 := by omega
      simp only [e, List.getD_eq_getElem?_getD, List.getElem?_cons_succ]
      rw [List.getElem?_append_left h2]
      simp [h2]
  rw [eu, ek] at key
  refine ⟨key.1, ?_⟩
  rw [← key.2]
  refine List.map_congr_left fun f _ => ?_
  unfold evw
  conv => rhs; rw [← hl]
  rw [vec_vw, hl]
end QL
namespace QL
open PySem L2
def pyD (d : D) : PyData := (toPy d).getD .none
def eqD2 (a b : D) : Bool := (pyD a).eqv (pyD b)
def eqParts (p q : Parts) : Bool := eqD2 (dRow p.bs) (dRow q.bs) && (eqD2 (dRules p.rr) (dRules q.rr) && eqD2 (dShows p.ss) (dShows q.ss))
def OkParts (p : Parts) : Prop := okN 60 (dRow p.bs) = true ∧ okN 60 (dRules p.rr) = true ∧ okN 60 (dShows p.ss) = true
theorem okNs_map {α : Type} (f : α → D) (n : Nat) : ∀ xs : List α, (∀ x ∈ xs, okN n (f x) = true) → okNs n (xs.map f) = true
  | [], _ => rfl
  | x :: xs, h => by simp [okNs, h x (by simp), okNs_map f n xs (fun y hy => h y (by simp [hy]))]
theorem okN_list {α : Type} (f : α → D) (n : Nat) (xs : List α) (h : ∀ x, okN n (f x) = true) : okN (n + 1) (dList f xs) = true := by
  simp only [dList, okN]
  exact okNs_map f n xs fun x _ => h x
theorem okN_row (n : Nat) (r : List Int) : okN (n + 1) (dRow r) = true := by simp [dList, okN, okNs_ints]
theorem okN_rowsN (n : Nat) (rs : List (List Int)) : okN (n + 2) (dRows rs) = true := okN_list _ _ _ fun r => okN_row n r
theorem okN_rule (n : Nat) (r : Rule) : okN (n + 3) (dRule r) = true := by
  have := okN_rowsN n r.rows
  simp only [dRule, okN, okNs]
  rw [this]; rfl
theorem okN_line (n : Nat) (l : List Rule) : okN (n + 4) (dLine l) = true := okN_list _ _ _ fun r => okN_rule n r
theorem okN_rules (n : Nat) (rr : List (List Rule)) : okN (n + 5) (dRules rr) = true := okN_list _ _ _ fun l => okN_line n l
theorem okN_shows (n : Nat) (ss : List (List (List Int))) : okN (n + 3) (dShows ss) = true := okN_list _ _ _ fun rs => okN_rowsN n rs
theorem eqD_any {Q : D → Prop} {E : Xc → Prop} {a b : D} (ha : okN 60 a = true) (hb : okN 60 b = true) (q : Q (.bl (eqD2 a b))) : eqD a b Q E := by
  obtain ⟨x, e1, h1, h2⟩ := okN_py 60 a ha
  obtain ⟨y, e2, h3, h4⟩ := okN_py 60 b hb
  have s1 : SeqAt.shaped x = true := by unfold SeqAt.shaped; rw [h1]; simp; omega
  have s2 : SeqAt.shaped y = true := by unfold SeqAt.shaped; rw [h3]; simp; omega
  refine ⟨x, y, e1, e2, s1, s2, ?_⟩
  have : eqD2 a b = x.eqv y := by unfold eqD2 pyD; rw [e1, e2]; rfl
  rw [← this]; exact q
end QL

set_option Elab.async false
set_option linter.all false
set_option maxRecDepth 100000
set_option maxHeartbeats 4000000
/-! data of any kind: what isinstance answers -/
namespace QL
open PySem L2
/-- data without instances at the top -/
def plD (d : D) : Prop := ∃ t, tyD d = some t
def isInt : D → Bool | .int _ => true | _ => false
def isIB : D → Bool | .int _ => true | .bl _ => true | _ => false
def isBl : D → Bool | .bl _ => true | _ => false
def isLst : D → Bool | .lst _ => true | _ => false
def isTup : D → Bool | .tup _ => true | _ => false
@[simp] theorem plD_non : plD .non := ⟨_, rfl⟩
@[simp] theorem plD_bl {b} : plD (.bl b) := ⟨_, rfl⟩
@[simp] theorem plD_int {b} : plD (.int b) := ⟨_, rfl⟩
@[simp] theorem plD_str {b} : plD (.str b) := ⟨_, rfl⟩
@[simp] theorem plD_lst {b} : plD (.lst b) := ⟨_, rfl⟩
@[simp] theorem plD_tup {b} : plD (.tup b) := ⟨_, rfl⟩
section
variable {d : D} {Q : D → Prop} {E : Xc → Prop}
theorem isi_of {T : String} {b : Bool} {t : String} (h : tyD d = some t) (k : kitB t T = some b) : isiD T d Q E = Q (.bl b) := propext ⟨fun ⟨t', b', e1, e2, q⟩ => by
  rw [h] at e1; cases e1; rw [k] at e2; cases e2; exact q, fun q => ⟨t, b, h, k, q⟩⟩
theorem kt (a b : String) (r : Bool) (h : kitB a b = some r := by decide +kernel) : kitB a b = some r := h
theorem isi_int (h : plD d) : isiD "int" d Q E = Q (.bl (isIB d)) := by
  obtain ⟨t, h⟩ := h
  cases d <;> simp only [tyD, reduceCtorEq] at h <;> first | exact isi_of (T := "int") (b := true) rfl (by decide +kernel) | exact isi_of (T := "int") (b := false) rfl (by decide +kernel)
theorem isi_bool (h : plD d) : isiD "bool" d Q E = Q (.bl (isBl d)) := by
  obtain ⟨t, h⟩ := h
  cases d <;> simp only [tyD, reduceCtorEq] at h <;> first | exact isi_of (T := "bool") (b := true) rfl (by decide +kernel) | exact isi_of (T := "bool") (b := false) rfl (by decide +kernel)
theorem isi_list (h : plD d) : isiD "list" d Q E = Q (.bl (isLst d)) := by
  obtain ⟨t, h⟩ := h
  cases d <;> simp only [tyD, reduceCtorEq] at h <;> first | exact isi_of (T := "list") (b := true) rfl (by decide +kernel) | exact isi_of (T := "list") (b := false) rfl (by decide +kernel)
theorem isi_tuple (h : plD d) : isiD "tuple" d Q E = Q (.bl (isTup d)) := by
  obtain ⟨t, h⟩ := h
  cases d <;> simp only [tyD, reduceCtorEq] at h <;> first | exact isi_of (T := "tuple") (b := true) rfl (by decide +kernel) | exact isi_of (T := "tuple") (b := false) rfl (by decide +kernel)
theorem isInt_eq : isInt d = (isIB d && !isBl d) := by cases d <;> rfl
theorem allD_map {α : Type} {xs : List α} {f : α → Bool} (q : Q (.bl (xs.all f))) : allD (fun bs => bs.all id) [.lst (xs.map fun x => D.bl (f x))] Q E := by
  have e : xs.map (fun x => D.bl (f x)) = (xs.map f).map D.bl := by rw [List.map_map]; rfl
  rw [e]
  refine allD_bls ?_
  rw [List.all_map]
  exact q
theorem lcL_same {vs : List Nat} {gt : D → QL.Env → W QL.Env} {ge : QL.Env → W D} {ρ : QL.Env} {QL' : List D → Prop} (h : D → D) {xs : List D} (hs : ∀ x ∈ xs, ∀ k : D → Prop, k (h x) → gt x (wipeE ρ vs) (fun ρ2 => ge ρ2 k (fun _ => False)) (fun _ => False)) (q : QL' (xs.map h)) : lcL vs gt yesB ge ρ xs QL' E := by
  have := lcL_map (f := id) (vs := vs) (gt := gt) (ge := ge) (ρ := ρ) (QL := QL') (E := E) h (xs := xs) hs q
  rwa [List.map_id] at this
/-- a loop that is left at its turn t -/
theorem forE_upto {gt : D → QL.Env → W QL.Env} {body : QL.Env → Ws} {Q : Fl → QL.Env → Prop} {E : Xc → QL.Env → Prop} (I : Nat → QL.Env → Prop) {ds : List D} (t : Nat) {dt : D} (ht : ds[t]? = some dt)
    (hs : ∀ (i : Nat) (d : D) (ρ : QL.Env) (k : Fl → QL.Env → Prop), ds[i]? = some d → i < t → I i ρ → (∀ ρ', I (i + 1) ρ' → k .nx ρ') → gt d ρ (fun ρ2 => body ρ2 k E) (fun _ => False))
    (hb : ∀ (ρ : QL.Env) (k : Fl → QL.Env → Prop), I t ρ → (∀ v ρ', Q (.rt v) ρ' → k (.rt v) ρ') → (∀ ρ', Q .nx ρ' → k .bk ρ') → gt dt ρ (fun ρ2 => body ρ2 k E) (fun _ => False))
    {ρ : QL.Env} (h0 : I 0 ρ) : forE [] gt body ds ρ Q E := by
  have gen : ∀ (n i : Nat) (ρ : QL.Env), i + n = t → I i ρ → forE [] gt body (ds.drop i) ρ Q E := by
    intro n
    induction n with
    | zero =>
      intro i ρ e h
      have e : i = t := by omega
      subst e
      have hl := (List.getElem?_eq_some_iff.mp ht).1
      have ed : ds.drop i = dt :: ds.drop (i + 1) := by
        rw [List.drop_eq_getElem_cons hl]
        rw [List.getElem?_eq_getElem hl] at ht
        cases ht; rfl
      rw [ed]
      exact hb ρ _ h (fun v ρ' q => q) (fun ρ' q => q)
    | succ n ih =>
      intro i ρ e h
      have hl : i < ds.length := by have := (List.getElem?_eq_some_iff.mp ht).1; omega
      rw [List.drop_eq_getElem_cons hl]
      exact hs i _ ρ _ (List.getElem?_eq_getElem hl) (by omega) h fun ρ' h' => ih (i + 1) ρ' (by omega) h'
  simpa using gen t 0 ρ (by omega) h0
end
/-! ### what checks ask -/
def intIn (a b : Int) : D → Bool | .int i => decide (a ≤ i ∧ i ≤ b) | _ => false
def ixOk (n : Int) : D → Bool | .int i => decide (0 ≤ i ∧ i < n) | _ => false
def tupInts (n : Int) : D → Bool | .tup xs => decide ((xs.length : Int) = n) && xs.all isInt | _ => false
/-- few items, each without instances at its top -/
def smallT (d : D) : Prop := plD d ∧ ∀ xs, d = .tup xs → xs.length ≤ 1000 ∧ ∀ x ∈ xs, plD x
def standB (c n : Int) : D → Bool | .tup [a, b] => ixOk c a && tupInts n b | _ => false
/-- data of which a check may ask anything -/
def askT (d : D) : Prop := plD d ∧ ∀ xs, d = .tup xs → xs.length ≤ 1000 ∧ ∀ x ∈ xs, smallT x
def msgB (bs : List Int) : D → Bool
  | .tup [.int k, b] => decide (0 ≤ k ∧ k < bs.length) && tupInts (bs.getD k.toNat 0) b
  | _ => false
def wordB (n : Int) : D → Bool | .lst xs => decide (xs.length ≤ 12) && xs.all (ixOk n) | _ => false
def askL (d : D) : Prop := plD d ∧ ∀ xs, d = .lst xs → xs.length ≤ 1000 ∧ ∀ x ∈ xs, plD x
/-- what the checks of a listener ask of a stand -/
def stB (p : Parts) (m : Nat) (d : D) : Bool := standB p.rr.length m d
theorem intsL_of : ∀ {xs : List D}, xs.all isInt = true → ∃ ns : List Int, xs = ns.map D.int
  | [], _ => ⟨[], rfl⟩
  | x :: xs, h => by
    simp only [List.all_cons, Bool.and_eq_true] at h
    obtain ⟨ns, e⟩ := intsL_of h.2
    cases x <;> simp [isInt] at h
    rename_i i
    exact ⟨i :: ns, by rw [e]; rfl⟩
theorem tup_of {n : Int} {d : D} (h : tupInts n d = true) : ∃ ns : List Int, d = dTup ns ∧ (ns.length : Int) = n := by
  cases d <;> simp [tupInts] at h
  rename_i xs
  obtain ⟨ns, rfl⟩ := intsL_of (xs := xs) (by simpa using h.2)
  exact ⟨ns, rfl, by simpa using h.1⟩
theorem st_of {p : Parts} {m : Nat} {d : D} (h : stB p m d = true) : ∃ s, d = dStand s ∧ StandOk p m s := by
  unfold stB standB at h
  split at h
  · rename_i a b
    simp only [Bool.and_eq_true] at h
    obtain ⟨ns, rfl, hn⟩ := tup_of h.2
    cases a <;> simp [ixOk] at h
    rename_i i
    exact ⟨⟨i, ns⟩, rfl, h.1.1, h.1.2, by show ns.length = m; omega⟩
  · simp at h
theorem st_true {p : Parts} {m : Nat} {s : Stand} (h : StandOk p m s) : stB p m (dStand s) = true := by
  obtain ⟨h1, h2, h3⟩ := h
  simp [stB, standB, dStand, ixOk, tupInts, h1, h2, h3, dTupL]
  intro x _; rfl
theorem msg_of {p : Parts} {d : D} (h : msgB p.bs d = true) : ∃ g, d = dMsg g ∧ MsgOk p g := by
  unfold msgB at h
  split at h
  · rename_i k b
    simp only [Bool.and_eq_true, decide_eq_true_eq] at h
    obtain ⟨⟨k0, k1⟩, h⟩ := h
    obtain ⟨ns, rfl, hn⟩ := tup_of h
    have hj : k.toNat < p.bs.length := by omega
    exact ⟨⟨k, ns⟩, rfl, k0, k1, _, List.getElem?_eq_getElem hj, by simpa [List.getD, hj] using hn⟩
  · simp at h
theorem msg_true {p : Parts} {g : Msg} (h : MsgOk p g) : msgB p.bs (dMsg g) = true := by
  obtain ⟨h1, h2, b, e, h3⟩ := h
  have e2 : p.bs[g.k.toNat]?.getD 0 = b := by rw [e]; rfl
  simp only [msgB, dMsg, List.getD_eq_getElem?_getD, e2]
  simp [tupInts, h1, h2, h3, dTupL]
  intro x _; rfl
/-- messages of which a check may ask anything -/
def askM (d : D) : Prop := plD d ∧ ∀ xs, d = .lst xs → xs.length ≤ 1000 ∧ ∀ x ∈ xs, askT x
theorem msgs_of {p : Parts} : ∀ {xs : List D}, (∀ x ∈ xs, msgB p.bs x = true) → ∃ gs : List Msg, xs = gs.map dMsg ∧ ∀ g ∈ gs, MsgOk p g
  | [], _ => ⟨[], rfl, by simp⟩
  | x :: xs, h => by
    obtain ⟨g, rfl, hg⟩ := msg_of (h x (by simp))
    obtain ⟨gs, rfl, hgs⟩ := msgs_of (xs := xs) fun y hy => h y (by simp [hy])
    exact ⟨g :: gs, rfl, by simpa using ⟨hg, hgs⟩⟩
theorem zip_at' {xs : List D} {i : Nat} {d : D} (h : (xs.zipIdx.map fun p => D.tup [.int (p.2 : Nat), p.1])[i]? = some d) : ∃ x, xs[i]? = some x ∧ d = .tup [.int i, x] := by
  rw [List.getElem?_map, List.getElem?_zipIdx] at h
  cases e : xs[i]? with
  | none => rw [e] at h; simp at h
  | some x => rw [e] at h; simp at h; exact ⟨x, rfl, h.symm⟩
theorem word_true {n : Int} {ks : List Int} (hl : ks.length ≤ 12) (hk : ∀ k ∈ ks, 0 ≤ k ∧ k < n) : wordB n (dRow ks) = true := by
  simp [wordB, dList, hl, ixOk]
  intro k h; exact hk k h
def atB (p : Parts) : D → Bool | .tup [a, b] => ixOk p.rr.length a && ixOk p.bs.length b | _ => false
theorem askT_small {d : D} (h : plD d) (h2 : isTup d = false) : askT d := ⟨h, fun xs e => by subst e; simp [isTup] at h2⟩
theorem smallT_small {d : D} (h : plD d) (h2 : isTup d = false) : smallT d := ⟨h, fun xs e => by subst e; simp [isTup] at h2⟩
theorem smallT_tup {xs : List D} (hl : xs.length ≤ 1000) (h : ∀ x ∈ xs, plD x) : smallT (.tup xs) := ⟨plD_tup, fun ys e => by cases e; exact ⟨hl, h⟩⟩
theorem smallT_ints {ns : List Int} (hl : ns.length ≤ 1000) : smallT (dTup ns) := smallT_tup (by simpa using hl) fun x hx => by
  obtain ⟨i, _, rfl⟩ := List.mem_map.mp hx
  exact plD_int
theorem askT_tup {xs : List D} (hl : xs.length ≤ 1000) (h : ∀ x ∈ xs, smallT x) : askT (.tup xs) := ⟨plD_tup, fun ys e => by cases e; exact ⟨hl, h⟩⟩
theorem smallT_int {i : Int} : smallT (.int i) := smallT_small plD_int rfl
theorem askT_stand {s : Stand} (h : s.cs.length ≤ 1000) : askT (dStand s) := askT_tup (by simp) fun x hx => by
  simp at hx
  rcases hx with rfl | rfl
  · exact smallT_int
  · exact smallT_ints h
theorem askT_msg {g : Msg} (h : g.ns.length ≤ 1000) : askT (dMsg g) := askT_tup (by simp) fun x hx => by
  simp at hx
  rcases hx with rfl | rfl
  · exact smallT_int
  · exact smallT_ints h
theorem cut_last {xs : List D} : cutD xs none (some (-1)) = xs.take (xs.length - 1) := by
  unfold cutD HT.sIx
  simp
  try (congr 1; omega)
theorem plD_ints {ns : List Int} {x : D} (h : x ∈ ns.map D.int) : plD x := by
  obtain ⟨i, _, rfl⟩ := List.mem_map.mp h
  exact plD_int
theorem tupInts_len {n : Int} {xs : List D} (h : (xs.length : Int) ≠ n) : tupInts n (.tup xs) = false := by simp [tupInts, h]
theorem tupInts_bad {n : Int} {xs : List D} {x : D} (h : x ∈ xs) (hb : isInt x = false) : tupInts n (.tup xs) = false := by
  simp only [tupInts, Bool.and_eq_false_iff]
  exact .inr (List.all_eq_false.mpr ⟨x, h, by simp [hb]⟩)
theorem neD_str {Q : D → Prop} {E : Xc → Prop} {s : Str} {ds : List D} (n : Nat) (hn : n ≤ 60) (hs : PyData.canLay0 (.str s) = true) (h : okNs n ds = true) (q : Q (.bl false)) : neD (.tup (.str s :: ds)) (.tup (.str s :: ds)) Q E := by
  obtain ⟨xs, e, h1, h2⟩ := okNs_py n ds h
  have c : PyData.canLay0 (.tuple (.str s :: xs)) = true := by
    simp only [PyData.canLay0, PyData.canLayAll0, Bool.and_eq_true] at hs h1 ⊢
    exact ⟨hs, h1⟩
  have sh : SeqAt.shaped (.tuple (.str s :: xs)) = true := by
    unfold SeqAt.shaped
    rw [c]
    simp [PyData.depth, PyData.depthAll]
    omega
  exact ⟨_, _, by simp [toPy, toPys, e], by simp [toPy, toPys, e], sh, sh, by rw [SeqAt.eqv_refl _ c]; exact q⟩
theorem eqD_str {Q : D → Prop} {E : Xc → Prop} {s : Str} {ds : List D} (n : Nat) (hn : n ≤ 60) (hs : PyData.canLay0 (.str s) = true) (h : okNs n ds = true) (q : Q (.bl true)) : eqD (.tup (.str s :: ds)) (.tup (.str s :: ds)) Q E := by
  obtain ⟨xs, e, h1, h2⟩ := okNs_py n ds h
  have c : PyData.canLay0 (.tuple (.str s :: xs)) = true := by
    simp only [PyData.canLay0, PyData.canLayAll0, Bool.and_eq_true] at hs h1 ⊢
    exact ⟨hs, h1⟩
  have sh : SeqAt.shaped (.tuple (.str s :: xs)) = true := by
    unfold SeqAt.shaped
    rw [c]
    simp [PyData.depth, PyData.depthAll]
    omega
  exact ⟨_, _, by simp [toPy, toPys, e], by simp [toPy, toPys, e], sh, sh, by rw [SeqAt.eqv_refl _ c]; exact q⟩
theorem sOk (s : Str) (h : PyData.canLay0 (.str s) = true := by decide +kernel) : PyData.canLay0 (.str s) = true := h
end QL

set_option Elab.async false
set_option linter.all false
set_option maxRecDepth 100000
set_option maxHeartbeats 4000000
/-! senders: ways, states, words -/
namespace QL
open PySem L2
@[simp] theorem plD_dK {b} : plD (.dK b) := ⟨_, rfl⟩
theorem noF1 {C : Nat} {f g : Str} {d : D} (h : (f == g) = false) : noF C f (.ins C [(g, d)]) := ⟨_, rfl, by simp only [List.lookup, h]⟩
@[simp] theorem sFldO_app {f : Str} {C : Nat} {g : QL.Env → W OD} {ρ : QL.Env} {QS : Fl → QL.Env → Prop} {ES : Xc → QL.Env → Prop} : sFldO C f g ρ QS ES = (∃ fs, ρ[0]? = some (.bw (OD.ins C fs)) ∧ fs.length < 1000 ∧ g ρ (fun z => QS .nx (ρ.set 0 (.bw (OD.ins C (putO f z fs))))) (fun x => ES x ρ)) := rfl
@[simp] theorem sSetO_app {i : Nat} {g : QL.Env → W OD} {ρ : QL.Env} {QS : Fl → QL.Env → Prop} {ES : Xc → QL.Env → Prop} : sSetO i g ρ QS ES = g ρ (fun x => QS .nx (ρ.set i (.ow x))) (fun x => ES x ρ) := rfl
@[simp] theorem frO_app {g : QL.Env → W OD} {ρ : QL.Env} {Q : D → Prop} {E : Xc → Prop} : frO g ρ Q E = g ρ (fun x => x.ok = true ∧ Q x.d) E := rfl
@[simp] theorem brwL_app {g : QL.Env → W OD} {ρ : QL.Env} {Q : OD → Prop} {E : Xc → Prop} : brwL g ρ Q E = (llE ρ = true ∧ g (lendE ρ) (fun x => x.im = true ∧ Q x) (fun _ => False)) := rfl
@[simp] theorem makeG_app {C : Nat} {c : List Sl → W (List (Str × OD))} {gs : QL.Env → W (List Sl)} {ρ : QL.Env} {Q : OD → Prop} {E : Xc → Prop} : makeG C c gs ρ Q E = gs ρ (fun as => purB as = true ∧ c as (fun fs => Q (.ins C fs)) E) E := rfl
@[simp] theorem lstO_app {g : QL.Env → W (List D)} {ρ : QL.Env} {Q : OD → Prop} {E : Xc → Prop} : lstO g ρ Q E = g ρ (fun ds => Q (.lst (ds.map OD.fz))) E := rfl
@[simp] theorem lcON_app {gi : QL.Env → W (List D)} {vs : List Nat} {gt : D → QL.Env → W QL.Env} {gb : QL.Env → W Bool} {ge : QL.Env → W OD} {ρ : QL.Env} {Q : OD → Prop} {E : Xc → Prop} : lcON gi vs gt gb ge ρ Q E = gi ρ (fun ds => (okW ρ vs = true ∧ ds.length ≤ sizeLine) ∧ lcO vs gt gb ge ρ ds (fun xs => Q (.lst xs)) E) E := rfl
@[simp] theorem sClr_app {i : Nat} {gp : QL.Env → W Pl} {ρ : QL.Env} {QS : Fl → QL.Env → Prop} {ES : Xc → QL.Env → Prop} : sClr i gp ρ QS ES = gp ρ (fun p => ∃ xs, p.1 = .lst xs ∧ QS .nx (putS i (p.2 (.lst [])) ρ)) (fun x => ES x ρ) := rfl
@[simp] theorem sRetO_app {g : QL.Env → W OD} {ρ : QL.Env} {QS : Fl → QL.Env → Prop} {ES : Xc → QL.Env → Prop} : sRetO g ρ QS ES = g ρ (fun x => QS (.ro x) ρ) (fun x => ES x ρ) := rfl
@[simp] theorem callMO_app {C : Nat} {mn : Str} {m : List Sl → W OD} {go : QL.Env → W D} {gs : QL.Env → W (List Sl)} {ρ : QL.Env} {Q : OD → Prop} {E : Xc → Prop} : callMO C mn m go gs ρ Q E = go ρ (fun r => noF C mn r ∧ gs ρ (fun as => m (.fz r :: as) Q E) E) E := by
  show go ρ _ E = go ρ _ E
  congr 1
theorem lcO_map {vs : List Nat} {gt : D → QL.Env → W QL.Env} {ge : QL.Env → W OD} {ρ : QL.Env} {E : Xc → Prop} {α : Type} (f : α → D) (h : α → OD) : ∀ {xs : List α} {Q : List OD → Prop}, (∀ x ∈ xs, ∀ k : OD → Prop, k (h x) → gt (f x) (wipeE ρ vs) (fun ρ2 => ge ρ2 k (fun _ => False)) (fun _ => False)) → Q (xs.map h) → lcO vs gt yesB ge ρ (xs.map f) Q E
  | [], Q, _, q => q
  | x :: xs, Q, hs, q => by
    show gt (f x) (wipeE ρ vs) (fun ρ2 => ge ρ2 (fun y => lcO vs gt yesB ge ρ (xs.map f) (fun r => Q (y :: r)) E) (fun _ => False)) (fun _ => False)
    exact hs x (by simp) _ (lcO_map f h (fun y hy => hs y (by simp [hy])) q)
@[simp] theorem sFldF_app {f : Str} {C : Nat} {g : QL.Env → W D} {ρ : QL.Env} {QS : Fl → QL.Env → Prop} {ES : Xc → QL.Env → Prop} : sFldF C f g ρ QS ES = (∃ fs, ρ[0]? = some (.bw (OD.ins C (fzs fs))) ∧ fs.length < 1000 ∧ g ρ (fun z => QS .nx (ρ.set 0 (.bw (OD.ins C (fzs (putD f z fs)))))) (fun x => ES x ρ)) := rfl
abbrev Way := Int × Int
@[simp] def dWay (w : Way) : D := .tup [.int w.1, .int w.2]
@[simp] def dWays (l : List Way) : D := .lst (l.map dWay)
@[simp] def dAll (W : List (List Way)) : D := .lst (W.map dWays)
def dSend (W : List (List Way)) : D := .ins 0 [("exits", dAll W)]
def wLt (x y : Way) : Bool := HT.lexLt [x.1, x.2] [y.1, y.2]
def ascB (ws : List Way) : Bool := (ws.zip (ws.drop 1)).all fun p => wLt p.1 p.2
def wayB (n : Int) : D → Bool | .tup [a, b] => ixOk 3 a && ixOk n b | _ => false
/-- the ways that a list of data tells -/
def asWay : D → Way | .tup [.int a, .int b] => (a, b) | _ => (0, 0)
def waysB (n : Int) : D → Bool | .lst xs => !xs.isEmpty && xs.all (wayB n) && ascB (xs.map asWay) | _ => false
/-- ways of which a check may ask anything -/
def askW (d : D) : Prop := plD d ∧ ∀ xs, d = .lst xs → xs.length ≤ 1000 ∧ ∀ x ∈ xs, smallT x
theorem way_of {n : Int} {d : D} (h : wayB n d = true) : d = dWay (asWay d) ∧ 0 ≤ (asWay d).1 ∧ (asWay d).1 < 3 ∧ 0 ≤ (asWay d).2 ∧ (asWay d).2 < n := by
  unfold wayB at h
  split at h
  · rename_i a b
    simp only [Bool.and_eq_true] at h
    cases a <;> simp [ixOk] at h
    cases b <;> simp [ixOk] at h
    simp [asWay]
    omega
  · simp at h
theorem ways_of {n : Int} : ∀ {xs : List D}, xs.all (wayB n) = true → xs = (xs.map asWay).map dWay
  | [], _ => rfl
  | x :: xs, h => by
    simp only [List.all_cons, Bool.and_eq_true] at h
    rw [List.map_cons, List.map_cons, ← ways_of h.2, ← (way_of h.1).1]
/-- a sender's ways -/
structure SendOk (W : List (List Way)) : Prop where
  n1 : 1 ≤ W.length
  n2 : W.length ≤ 2
  ok : ∀ l ∈ W, 1 ≤ l.length ∧ l.length ≤ 6 ∧ (∀ w ∈ l, 0 ≤ w.1 ∧ w.1 < 3 ∧ 0 ≤ w.2 ∧ w.2 < W.length) ∧ ascB l = true
theorem wayB_way {n : Int} {w : Way} (h1 : 0 ≤ w.1) (h2 : w.1 < 3) (h3 : 0 ≤ w.2) (h4 : w.2 < n) : wayB n (dWay w) = true := by simp [wayB, ixOk, h1, h2, h3, h4]
theorem asWay_way (w : Way) : asWay (dWay w) = w := rfl
theorem waysB_ways {n : Int} {l : List Way} (h1 : 1 ≤ l.length) (h2 : ∀ w ∈ l, 0 ≤ w.1 ∧ w.1 < 3 ∧ 0 ≤ w.2 ∧ w.2 < n) (h3 : ascB l = true) : waysB n (dWays l) = true := by
  have e : (l.map dWay).map asWay = l := by rw [List.map_map]; exact (List.map_congr_left fun w _ => asWay_way w).trans (List.map_id l)
  have h0 : (l.map dWay).isEmpty = false := by cases l <;> simp at h1 ⊢
  have ha : (l.map dWay).all (wayB n) = true := List.all_eq_true.mpr fun x hx => by
    obtain ⟨w, hw, rfl⟩ := List.mem_map.mp hx
    obtain ⟨a, b, c, d⟩ := h2 w hw
    exact wayB_way a b c d
  show (!(l.map dWay).isEmpty && (l.map dWay).all (wayB n) && ascB ((l.map dWay).map asWay)) = true
  rw [e, h0, ha, h3]; rfl
theorem askW_ways {l : List Way} (h : l.length ≤ 1000) : askW (dWays l) := ⟨plD_lst, fun xs e => by
  cases e
  refine ⟨by simpa using h, fun x hx => ?_⟩
  obtain ⟨w, _, rfl⟩ := List.mem_map.mp hx
  exact smallT_tup (by simp) (by simp)⟩
/-- a word of kinds, as long as one likes (a law's: at most 2,400) -/
def askK (d : D) : Prop := plD d ∧ ∀ xs, d = .lst xs → xs.length ≤ 50000 ∧ ∀ x ∈ xs, plD x
def kindsB : D → Bool | .lst xs => xs.all (ixOk 3) | _ => false
/-- the states behind one kind -/
def stepW (W : List (List Way)) (S : List Int) (k : Int) : List Int := ((List.range W.length).map (fun n : Nat => (n : Int))).filter fun b => S.any fun s => decide ((k, b) ∈ W.getD s.toNat [])
def foldW (W : List (List Way)) (S : List Int) (ks : List Int) : List Int := ks.foldl (stepW W) S
theorem stepW_mem {W : List (List Way)} {S : List Int} {k b : Int} (h : SendOk W) (hS : ∀ s ∈ S, 0 ≤ s ∧ s < W.length) : b ∈ stepW W S k ↔ ∃ s ∈ S, (k, b) ∈ W.getD s.toNat [] := by
  unfold stepW
  simp only [List.mem_filter, List.mem_map, List.mem_range, List.any_eq_true, decide_eq_true_eq]
  constructor
  · rintro ⟨_, s, hs, hm⟩; exact ⟨s, hs, hm⟩
  · rintro ⟨s, hs, hm⟩
    refine ⟨?_, s, hs, hm⟩
    obtain ⟨h0, h1⟩ := hS s hs
    have hl : s.toNat < W.length := by omega
    rw [List.getD_eq_getElem?_getD, List.getElem?_eq_getElem hl, Option.getD_some] at hm
    obtain ⟨_, _, hk, _⟩ := h.ok _ (List.getElem_mem hl)
    obtain ⟨_, _, b0, b1⟩ := hk _ hm
    exact ⟨b.toNat, by omega, by omega⟩
theorem stepW_in {W : List (List Way)} {S : List Int} {k b : Int} (h : b ∈ stepW W S k) : 0 ≤ b ∧ b < W.length := by
  unfold stepW at h
  simp only [List.mem_filter, List.mem_map, List.mem_range] at h
  obtain ⟨⟨n, hn, rfl⟩, _⟩ := h
  omega
theorem range_asc (n : Nat) : ((List.range n).map (fun n : Nat => (n : Int))).Pairwise (· < ·) := by
  rw [List.pairwise_map]
  exact List.pairwise_lt_range.imp fun h => by omega
theorem stepW_asc {W : List (List Way)} {S : List Int} {k : Int} : (stepW W S k).Pairwise (· < ·) := (range_asc _).filter _
/-- two ascending lists with the same members are one -/
theorem asc_unique : ∀ {xs ys : List Int}, xs.Pairwise (· < ·) → ys.Pairwise (· < ·) → (∀ k, k ∈ xs ↔ k ∈ ys) → xs = ys
  | [], [], _, _, _ => rfl
  | [], y :: ys, _, _, h => by have := (h y).mpr (by simp); simp at this
  | x :: xs, [], _, _, h => by have := (h x).mp (by simp); simp at this
  | x :: xs, y :: ys, h1, h2, h => by
    rw [List.pairwise_cons] at h1 h2
    have e : x = y := by
      have a := (h x).mp (by simp)
      have b := (h y).mpr (by simp)
      rcases List.mem_cons.mp a with a | a
      · exact a
      · rcases List.mem_cons.mp b with b | b
        · exact b.symm
        · have := h1.1 y b
          have := h2.1 x a
          omega
    subst e
    rw [asc_unique h1.2 h2.2 fun k => ⟨fun hk => ?_, fun hk => ?_⟩]
    · rcases List.mem_cons.mp ((h k).mp (by simp [hk])) with e | e
      · subst e; have := h1.1 k hk; omega
      · exact e
    · rcases List.mem_cons.mp ((h k).mpr (by simp [hk])) with e | e
      · subst e; have := h2.1 k hk; omega
      · exact e
theorem stepW_len {W : List (List Way)} {S : List Int} {k : Int} : (stepW W S k).length ≤ W.length := Nat.le_trans (List.length_filter_le _ _) (by simp)
theorem pys_ints : ∀ r : List Int, toPys (r.map D.int) = some (r.map PyData.int)
  | [] => rfl
  | x :: r => by simp [toPys, toPy, pys_ints r]
theorem lay_ints : ∀ r : List Int, PyData.canLayAll0 (r.map PyData.int) = true
  | [] => rfl
  | x :: r => by simp [PyData.canLayAll0, PyData.canLay0, lay_ints r]
theorem dep_ints : ∀ r : List Int, PyData.depthAll (r.map PyData.int) = 0
  | [] => rfl
  | x :: r => by simp [PyData.depthAll, PyData.depth, dep_ints r]
theorem eqv_ints : ∀ a b : List Int, PyData.eqvAll (a.map PyData.int) (b.map PyData.int) = decide (a = b)
  | [], [] => by simp [PyData.eqvAll]
  | [], y :: b => by simp [PyData.eqvAll]
  | x :: a, [] => by simp [PyData.eqvAll]
  | x :: a, y :: b => by
    simp only [List.map_cons, PyData.eqvAll, eqv_ints a b]
    by_cases h : x = y
    · subst h; simp [PyData.eqv]
    · simp [PyData.eqv, h]
theorem sh_row (r : List Int) : SeqAt.shaped (.list (r.map PyData.int)) = true := by
  unfold SeqAt.shaped
  simp only [PyData.canLay0, lay_ints, PyData.depth, dep_ints]
  rfl
theorem py_row (r : List Int) : toPy (dRow r) = some (.list (r.map PyData.int)) := by
  show (toPys (r.map D.int)).map PyData.list = _
  rw [pys_ints]; rfl
theorem eqD_row {a b : List Int} {Q : D → Prop} {E : Xc → Prop} (q : Q (.bl (decide (a = b)))) : eqD (dRow a) (dRow b) Q E := ⟨_, _, py_row a, py_row b, sh_row a, sh_row b, by rw [show PyData.eqv (.list (a.map PyData.int)) (.list (b.map PyData.int)) = decide (a = b) from eqv_ints a b]; exact q⟩
theorem neD_row {a b : List Int} {Q : D → Prop} {E : Xc → Prop} (q : Q (.bl (!decide (a = b)))) : neD (dRow a) (dRow b) Q E := ⟨_, _, py_row a, py_row b, sh_row a, sh_row b, by rw [show PyData.eqv (.list (a.map PyData.int)) (.list (b.map PyData.int)) = decide (a = b) from eqv_ints a b]; exact q⟩
/-- the order of ways -/
def wl (x y : Way) : Prop := x.1 < y.1 ∨ (x.1 = y.1 ∧ x.2 < y.2)
theorem wLt_iff {x y : Way} : wLt x y = true ↔ wl x y := by
  unfold wLt wl
  simp only [HT.lexLt_cons, HT.lexLt_nil_nil]
  by_cases h : x.1 = y.1
  · by_cases h2 : x.2 = y.2
    · simp [h, h2]
    · simp [h, h2]
  · simp [h]
theorem wl_trans {x y z : Way} (h1 : wl x y) (h2 : wl y z) : wl x z := by unfold wl at *; omega
theorem wl_irr {x : Way} (h : wl x x) : False := by unfold wl at h; omega
theorem ascB_pw : ∀ {ws : List Way}, ascB ws = true ↔ ws.Pairwise wl
  | [] => by simp [ascB]
  | [x] => by simp [ascB]
  | x :: y :: r => by
    have e : ascB (x :: y :: r) = (wLt x y && ascB (y :: r)) := by simp [ascB]
    rw [e, Bool.and_eq_true, ascB_pw, wLt_iff, List.pairwise_cons (a := x)]
    refine ⟨fun ⟨h1, h2⟩ => ⟨fun z hz => ?_, h2⟩, fun ⟨h1, h2⟩ => ⟨h1 y (by simp), h2⟩⟩
    rcases List.mem_cons.mp hz with rfl | hz
    · exact h1
    · exact wl_trans h1 ((List.pairwise_cons.mp h2).1 z hz)
/-- what a sender is made of: asked anything -/
def askI (d : D) : Prop := plD d ∧ ∀ xs, d = .lst xs → xs.length ≤ 1000 ∧ ∀ x ∈ xs, askW x
/-- no sender: the state that is told -/
def badI (d : D) (i : Int) : Prop := (i = -1 ∧ ∀ xs, d = .lst xs → ¬ (1 ≤ xs.length ∧ xs.length ≤ 2)) ∨
  ∃ (xs : List D) (t : Nat) (x : D), i = t ∧ d = .lst xs ∧ 1 ≤ xs.length ∧ xs.length ≤ 2 ∧ xs[t]? = some x ∧ waysB xs.length x = false ∧ ∀ j y, j < t → xs[j]? = some y → waysB xs.length y = true
theorem askW_of {d : D} (h : plD d) (h2 : isLst d = false) : askW d := ⟨h, fun xs e => by subst e; simp [isLst] at h2⟩
theorem askI_of {d : D} (h : plD d) (h2 : isLst d = false) : askI d := ⟨h, fun xs e => by subst e; simp [isLst] at h2⟩
theorem send_waysB {W : List (List Way)} (ok : SendOk W) {l : List Way} (h : l ∈ W) : waysB W.length (dWays l) = true := by
  obtain ⟨h1, _, h3, h4⟩ := ok.ok l h
  exact waysB_ways h1 h3 h4
theorem waysB_np {n : Int} {v : List Way} (h : ¬ v.Pairwise wl) : waysB n (dWays v) = false := by
  have e : (v.map dWay).map asWay = v := by rw [List.map_map]; exact (List.map_congr_left fun w _ => asWay_way w).trans (List.map_id v)
  have ha : ascB v = false := by
    cases h2 : ascB v with
    | false => rfl
    | true => exact absurd (ascB_pw.mp h2) h
  show (!(v.map dWay).isEmpty && (v.map dWay).all (wayB n) && ascB ((v.map dWay).map asWay)) = false
  rw [e, ha, Bool.and_false]
theorem smallT_way (w : Way) : smallT (dWay w) := smallT_tup (by simp) (by simp)
theorem bad_item {n : Int} {A B : List Way} {x : D} (hl : A.length + B.length ≤ 900) (hx : smallT x) (hb : wayB n x = false) : askW (.lst (A.map dWay ++ x :: B.map dWay)) ∧ waysB n (.lst (A.map dWay ++ x :: B.map dWay)) = false := by
  refine ⟨⟨plD_lst, fun xs e => ?_⟩, ?_⟩
  · cases e
    refine ⟨by simp; omega, fun y hy => ?_⟩
    rcases List.mem_append.mp hy with hy | hy
    · obtain ⟨w, _, rfl⟩ := List.mem_map.mp hy
      exact smallT_way w
    · rcases List.mem_cons.mp hy with rfl | hy
      · exact hx
      · obtain ⟨w, _, rfl⟩ := List.mem_map.mp hy
        exact smallT_way w
  · have : (A.map dWay ++ x :: B.map dWay).all (wayB n) = false := List.all_eq_false.mpr ⟨x, by simp, by simp [hb]⟩
    simp only [waysB, this, Bool.and_false, Bool.false_and]
/-! ways of one's own -/
def oWays (W : List (List Way)) : OD := .lst (W.map fun l => OD.lf (l.map dWay))
theorem ds_fz : ∀ ds : List D, OD.ds (ds.map OD.fz) = ds
  | [] => rfl
  | x :: xs => by simp [OD.ds, OD.d, ds_fz xs]
theorem oks_fz : ∀ ds : List D, OD.oks (ds.map OD.fz) = true
  | [] => rfl
  | x :: xs => by simp [OD.oks, OD.ok, oks_fz xs]
theorem lls_fz : ∀ ds : List D, OD.lls (ds.map OD.fz) = true
  | [] => rfl
  | x :: xs => by simp [OD.lls, OD.ll, lls_fz xs]
theorem ims_ways : ∀ ds : List Way, OD.ims ((ds.map dWay).map OD.fz) = true
  | [] => rfl
  | x :: xs => by
    simp [OD.ims, OD.im, D.imm, D.imms]
    simpa using ims_ways xs
theorem lf_ll (ds : List D) : (OD.lf ds).ll = true := by simp [OD.lf, OD.ll, lls_fz]
theorem oWays_d (W : List (List Way)) : (oWays W).d = dAll W := by
  simp only [oWays, OD.d, dAll]
  congr 1
  induction W with
  | nil => rfl
  | cons l W ih => simp only [List.map_cons, OD.ds, ih, lf_d]; rfl
theorem oWays_ok (W : List (List Way)) : (oWays W).ok = true := by
  simp only [oWays, OD.ok]
  induction W with
  | nil => rfl
  | cons l W ih => simp only [List.map_cons, OD.oks, ih, lf_ok]; rfl
theorem oWays_ll (W : List (List Way)) : (oWays W).ll = true := by
  simp only [oWays, OD.ll]
  induction W with
  | nil => rfl
  | cons l W ih => simp only [List.map_cons, OD.lls, ih, lf_ll]; rfl
theorem lf_im (l : List Way) : (OD.lf (l.map dWay)).im = true := by
  simp only [OD.lf, OD.im]; exact ims_ways l
theorem oWays_im (W : List (List Way)) : (oWays W).im = true := by
  simp only [oWays, OD.im]
  induction W with
  | nil => rfl
  | cons l W ih => simp only [List.map_cons, OD.ims, ih, lf_im]; rfl
def pWay (w : Way) : PyData := .tuple [.int w.1, .int w.2]
theorem pys_ways : ∀ l : List Way, toPys (l.map dWay) = some (l.map pWay)
  | [] => rfl
  | x :: r => by simp [toPys, toPy, pys_ways r, pWay]
theorem lay_ways : ∀ l : List Way, PyData.canLayAll0 (l.map pWay) = true
  | [] => rfl
  | x :: r => by simp [PyData.canLayAll0, PyData.canLay0, lay_ways r, pWay]
theorem dep_ways : ∀ l : List Way, PyData.depthAll (l.map pWay) ≤ 1
  | [] => by simp [PyData.depthAll]
  | x :: r => by have := dep_ways r; simp [PyData.depthAll, PyData.depth, pWay]; omega
theorem sh_ways (l : List Way) : SeqAt.shaped (.list (l.map pWay)) = true := by
  have := dep_ways l
  unfold SeqAt.shaped
  simp only [PyData.canLay0, lay_ways, PyData.depth]
  simp
  omega
theorem in_ways {l : List Way} {k b : Int} {Q : D → Prop} {E : Xc → Prop} (q : Q (.bl (decide ((k, b) ∈ l)))) : inD false (.tup [.int k, .int b]) (dWays l) Q E := by
  refine ⟨pWay (k, b), l.map dWay, l.map pWay, rfl, rfl, pys_ways l, rfl, sh_ways l, ?_⟩
  have e : (l.map pWay).any (fun z => PyData.eqv z (pWay (k, b))) = decide ((k, b) ∈ l) := by
    clear q
    induction l with
    | nil => simp
    | cons x r ih =>
      rw [List.map_cons, List.any_cons, ih]
      obtain ⟨x1, x2⟩ := x
      by_cases h1 : x1 = k
      · by_cases h2 : x2 = b
        · subst h1 h2; simp [pWay, PyData.eqv, PyData.eqvAll]
        · simp [pWay, PyData.eqv, PyData.eqvAll, h1, h2, Ne.symm h2]
      · simp [pWay, PyData.eqv, PyData.eqvAll, h1, Ne.symm h1]
  rw [if_neg (by simp), e]
  exact q
theorem lcL_filter {vs : List Nat} {gt : D → QL.Env → W QL.Env} {gb : QL.Env → W Bool} {ge : QL.Env → W D} {ρ : QL.Env} {E : Xc → Prop} {α : Type} (f h : α → D) (p : α → Bool) : ∀ {xs : List α} {Q : List D → Prop}, (∀ x ∈ xs, ∀ (k1 : D → Prop) (k2 : Prop), (p x = true → k1 (h x)) → (p x = false → k2) → gt (f x) (wipeE ρ vs) (fun ρ2 => gb ρ2 (fun b => if b = true then ge ρ2 k1 (fun _ => False) else k2) (fun _ => False)) (fun _ => False)) → Q ((xs.filter p).map h) → lcL vs gt gb ge ρ (xs.map f) Q E
  | [], Q, _, q => q
  | x :: xs, Q, hs, q => by
    show gt (f x) (wipeE ρ vs) (fun ρ2 => gb ρ2 (fun b => if b = true then ge ρ2 (fun y => lcL vs gt gb ge ρ (xs.map f) (fun r => Q (y :: r)) E) (fun _ => False) else lcL vs gt gb ge ρ (xs.map f) Q E) (fun _ => False)) (fun _ => False)
    refine hs x (by simp) _ _ (fun e => lcL_filter f h p (fun y hy => hs y (by simp [hy])) ?_) (fun e => lcL_filter f h p (fun y hy => hs y (by simp [hy])) ?_)
    · simpa [e] using q
    · simpa [e] using q
theorem eqv_ways : ∀ a b : List Way, PyData.eqvAll (a.map pWay) (b.map pWay) = decide (a = b)
  | [], [] => by simp [PyData.eqvAll]
  | [], y :: b => by simp [PyData.eqvAll]
  | x :: a, [] => by simp [PyData.eqvAll]
  | x :: a, y :: b => by
    simp only [List.map_cons, PyData.eqvAll, eqv_ways a b]
    obtain ⟨x1, x2⟩ := x
    obtain ⟨y1, y2⟩ := y
    by_cases h1 : x1 = y1
    · by_cases h2 : x2 = y2
      · subst h1 h2; simp [pWay, PyData.eqv, PyData.eqvAll]
      · simp [pWay, PyData.eqv, PyData.eqvAll, h1, h2]
    · simp [pWay, PyData.eqv, PyData.eqvAll, h1]
theorem neD_ways {a b : List Way} {Q : D → Prop} {E : Xc → Prop} (q : Q (.bl (!decide (a = b)))) : neD (dWays a) (dWays b) Q E := ⟨_, _, by show (toPys (a.map dWay)).map PyData.list = _; rw [pys_ways]; rfl, by show (toPys (b.map dWay)).map PyData.list = _; rw [pys_ways]; rfl, sh_ways a, sh_ways b, by rw [show PyData.eqv (.list (a.map pWay)) (.list (b.map pWay)) = decide (a = b) from eqv_ways a b]; exact q⟩
end QL

set_option Elab.async false
set_option linter.all false
set_option maxRecDepth 100000
set_option maxHeartbeats 4000000
namespace Lw
open PySem L2 QL
open PyProof.Rows (envOfC)
def top (i : Nat) : Stmt := PySem.Challenge.pw_latecomers_k31_words_that_are_let.main.body.getD i (.Pass ⟨0, 0, 0, 0⟩)
structure Ad where
  C_0 : Addr
  a_law_pool : Addr
  d_law_pool : FuncData
  a_law_draw : Addr
  d_law_draw : FuncData
  a_law_ways : Addr
  d_law_ways : FuncData
  a_NoSender__init : Addr
  d_NoSender__init : FuncData
  a_is_integer : Addr
  d_is_integer : FuncData
  a_is_integer_from : Addr
  d_is_integer_from : FuncData
  a_is_index : Addr
  d_is_index : FuncData
  a_is_way : Addr
  d_is_way : FuncData
  a_ascends : Addr
  d_ascends : FuncData
  a_are_ways : Addr
  d_are_ways : FuncData
  a_Sender__init : Addr
  d_Sender__init : FuncData
  a_law_is_integer : Addr
  d_law_is_integer : FuncData
  a_Sender_state_count : Addr
  d_Sender_state_count : FuncData
  a_Sender_check_state : Addr
  d_Sender_check_state : FuncData
  a_Sender_ways : Addr
  d_Sender_ways : FuncData
  a_law_ways_told : Addr
  d_law_ways_told : FuncData
  a_law_behind : Addr
  d_law_behind : FuncData
  a_check_kinds : Addr
  d_check_kinds : FuncData
  a_Sender_followed : Addr
  d_Sender_followed : FuncData
  a_Sender_states_behind : Addr
  d_Sender_states_behind : FuncData
  a_Sender_lets : Addr
  d_Sender_lets : FuncData
  a_law : Addr
  d_law : FuncData
  X_NoWord : Addr
  X_NoState : Addr
  X_NoSender : Addr
abbrev X_NoWord : Nat := 2
abbrev X_NoState : Nat := 3
abbrev X_NoSender : Nat := 4
@[simp] theorem xne_NoWord_NoState : (X_NoWord = X_NoState) = False := eq_false (by decide)
@[simp] theorem xne_NoWord_NoSender : (X_NoWord = X_NoSender) = False := eq_false (by decide)
@[simp] theorem xne_NoState_NoWord : (X_NoState = X_NoWord) = False := eq_false (by decide)
@[simp] theorem xne_NoState_NoSender : (X_NoState = X_NoSender) = False := eq_false (by decide)
@[simp] theorem xne_NoSender_NoWord : (X_NoSender = X_NoWord) = False := eq_false (by decide)
@[simp] theorem xne_NoSender_NoState : (X_NoSender = X_NoState) = False := eq_false (by decide)
abbrev XS : List Nat := [X_NoWord, X_NoState, X_NoSender]
def cnA (a : Ad) : Nat → Addr
  | 0 => a.C_0
  | 2 => a.X_NoWord
  | 3 => a.X_NoState
  | 4 => a.X_NoSender
  | _ => a.C_0
abbrev G (K : PySem.W.Frag) (a : Ad) : QL.Ctx := ⟨K, cnA a, pin 4⟩
structure Txt (K : PySem.W.Frag) (mg : Str → Option Value) (a : Ad) : Prop where
  cl_0 : Cls K a.C_0
  mc_0 : mg "Sender" = some (.ref a.C_0)
  mk_0 : Mk K a.C_0 a.a_Sender__init
  xf_NoWord : XcA K a.X_NoWord
  xm_NoWord : mg "NoWord" = some (.ref a.X_NoWord)
  xf_NoState : XcA K a.X_NoState
  xm_NoState : mg "NoState" = some (.ref a.X_NoState)
  xf_NoSender : XcA K a.X_NoSender
  xm_NoSender : mg "NoSender" = some (.ref a.X_NoSender)
  xe_NoWord : PySem.W.excIn K a.X_NoWord [.type "ValueError", .type "Exception", .type "BaseException", .type "object"] "ValueError.__new__" = true
  xe_NoState : PySem.W.excIn K a.X_NoState [.type "ValueError", .type "Exception", .type "BaseException", .type "object"] "ValueError.__new__" = true
  xi_NoSender : XcI K a.X_NoSender a.a_NoSender__init "state"
  na_0_exits : NoAttr K a.C_0 "exits"
  n_all : mg "all" = none
  n_bool : mg "bool" = none
  n_enumerate : mg "enumerate" = none
  n_int : mg "int" = none
  n_isinstance : mg "isinstance" = none
  n_len : mg "len" = none
  n_list : mg "list" = none
  n_max : mg "max" = none
  n_min : mg "min" = none
  n_range : mg "range" = none
  n_sorted : mg "sorted" = none
  n_tuple : mg "tuple" = none
  n_zip : mg "zip" = none
  c_MOST_KINDS : ∃ t, mg "MOST_KINDS" = some (.int 3 t)
  c_MOST_STATES : ∃ t, mg "MOST_STATES" = some (.int 2 t)
  h_law_pool : Hd K mg "_law_pool" (top 18) ["_law_script", "_law_place"] a.a_law_pool a.d_law_pool
  h_law_draw : Hd K mg "_law_draw" (top 19) ["_law_pool_here", "_law_many"] a.a_law_draw a.d_law_draw
  h_law_ways : Hd K mg "_law_ways" (top 21) ["_law_pool_here", "_law_kinds"] a.a_law_ways a.d_law_ways
  h_NoSender__init : Hi K "__init__" "NoSender.__init__" (inClass (top 4) 0) ["self", "state"] a.a_NoSender__init a.d_NoSender__init
  h_is_integer : Hd K mg "is_integer" (top 6) ["value"] a.a_is_integer a.d_is_integer
  h_is_integer_from : Hd K mg "is_integer_from" (top 7) ["value", "least", "most"] a.a_is_integer_from a.d_is_integer_from
  h_is_index : Hd K mg "is_index" (top 8) ["value", "length"] a.a_is_index a.d_is_index
  h_is_way : Hd K mg "is_way" (top 15) ["states", "value"] a.a_is_way a.d_is_way
  h_ascends : Hd K mg "ascends" (top 9) ["items"] a.a_ascends a.d_ascends
  h_are_ways : Hd K mg "are_ways" (top 14) ["states", "value"] a.a_are_ways a.d_are_ways
  h_Sender__init : Hi K "__init__" "Sender.__init__" (inClass (top 13) 0) ["self", "ways"] a.a_Sender__init a.d_Sender__init
  h_law_is_integer : Hd K mg "_law_is_integer" (top 20) ["_law_value"] a.a_law_is_integer a.d_law_is_integer
  h_Sender_state_count : Hm K a.C_0 "state_count" "Sender.state_count" (inClass (top 13) 1) ["self"] a.a_Sender_state_count a.d_Sender_state_count
  h_Sender_check_state : Hm K a.C_0 "check_state" "Sender.check_state" (inClass (top 13) 6) ["self", "state"] a.a_Sender_check_state a.d_Sender_check_state
  h_Sender_ways : Hm K a.C_0 "ways" "Sender.ways" (inClass (top 13) 2) ["self", "state"] a.a_Sender_ways a.d_Sender_ways
  h_law_ways_told : Hd K mg "_law_ways_told" (top 23) ["_law_sender", "_law_ways_here"] a.a_law_ways_told a.d_law_ways_told
  h_law_behind : Hd K mg "_law_behind" (top 22) ["_law_ways_here", "_law_states", "_law_kind"] a.a_law_behind a.d_law_behind
  h_check_kinds : Hd K mg "check_kinds" (top 16) ["word"] a.a_check_kinds a.d_check_kinds
  h_Sender_followed : Hm K a.C_0 "followed" "Sender.followed" (inClass (top 13) 5) ["self", "states", "word"] a.a_Sender_followed a.d_Sender_followed
  h_Sender_states_behind : Hm K a.C_0 "states_behind" "Sender.states_behind" (inClass (top 13) 3) ["self", "state", "word"] a.a_Sender_states_behind a.d_Sender_states_behind
  h_Sender_lets : Hm K a.C_0 "lets" "Sender.lets" (inClass (top 13) 4) ["self", "word"] a.a_Sender_lets a.d_Sender_lets
  h_law : Hd K mg "law" (top 24) ["_law_script"] a.a_law a.d_law
section
variable {P : Program} {w : World} {K : PySem.W.Frag} {mg : Str → Option Value} {base : Heap} {a : Ad}
theorem xall (T : Txt K mg a) : ∀ k ∈ XS, XcA K (cnA a k) := by
  intro k hk
  simp only [XS, List.mem_cons, List.not_mem_nil, or_false] at hk
  rcases hk with rfl | rfl | rfl
  · exact T.xf_NoWord
  · exact T.xf_NoState
  · exact T.xf_NoSender
abbrev s_law_pool : Stmt := (top 18)
abbrev N_law_pool : List Str := ["_law_script", "_law_place", "_law_cell"]
theorem sc_law_pool : FnScope N_law_pool ["_law_script", "_law_place"] (defScope s_law_pool) := ⟨rfl, rfl, rfl, by decide +kernel, rfl, by decide +kernel, by decide +kernel⟩
def b_law_pool : QL.Env → Ws := (sSeq (sSet 2 (kst (.int 0)))
    (sSeq (sIf (testB (bin2 ltD (rd 1) (lenS 0))) (sSet 2 (ixS 0 (rd 1))) sNx)
    (sSeq (sIf (testB (bin2 geD (rd 2) (bin2 powD (kst (.int 10)) (kst (.int 18))))) (sRet1 (dispL D.lst (consA (scG (bin2 subD (rd 2) (bin2 powD (kst (.int 10)) (kst (.int 18))))) (consA (scG (kst (.int 0))) (consA (scG (kst (.int 0))) (consA (scG (kst (.int 1))) nilA)))))) sNx)
    (sRet1 (dispL D.lst (consA (scG (kst (.int 0))) (consA (scG (kst (.int 0))) (consA (scG (bin2 modD (callN intD (consA (bin2 addD (rd 2) (bin2 mulD (kst (.int 104729)) (rd 1))) nilA)) (kst (.int 2147483647)))) (consA (scG (kst (.int 0))) nilA)))))))))
def m_law_pool : List Sl → W OD := mFunN 2 N_law_pool.length b_law_pool
theorem ok_law_pool (T : Txt K mg a) : FnOk P w K mg base (L2.CX P w) 1 a.a_law_pool a.d_law_pool ["_law_script", "_law_place"] (PSp (G K a) (liftN m_law_pool)) :=
  fn_okN (G := G K a) T.h_law_pool.F sc_law_pool fun cdv A outer s H E hr tk =>
  (ess_cons (es_set ev_int (fun _ pt => ps_set (i := 2) sc_law_pool.nd rfl (Or.inl rfl) pt))
    (ess_cons (es_if (eb_cmp op_lt (o_cmp (f := fun i j => decide (i < j))) (ev_var 1 (pv 1)) (ev_lenS (pe_callB call_len_seq (by rfl) T.n_len PySem.boot_len (pa_cons (pv 0) pa_nil)) rfl) (nomark _)) (ess_one (es_set (ev_ixS (pv 0) rfl (ev_var 1 (pv 1)) (fun _ _ => rfl)) (fun _ pt => ps_set (i := 2) sc_law_pool.nd rfl (Or.inl rfl) pt))) ess_nil)
    (ess_cons (es_if (eb_cmp op_ge (o_cmp (f := fun i j => decide (j ≤ i))) (ev_var 2 (pv 2)) (ev_bin op_pow o_pow ev_int ev_int) (nomark _)) (ess_one (es_ret1 (e1_lst (a1_cons (e1_sc (ev_bin op_sub o_sub (ev_var 2 (pv 2)) (ev_bin op_pow o_pow ev_int ev_int))) (a1_cons (e1_sc ev_int) (a1_cons (e1_sc ev_int) (a1_cons (e1_sc ev_int) a1_nil))))))) ess_nil)
    (ess_one (es_ret1 (e1_lst (a1_cons (e1_sc ev_int) (a1_cons (e1_sc ev_int) (a1_cons (e1_sc (ev_bin op_mod o_mod (ev_callTy call_int1 o_int (by rfl) T.n_int Bt.t_int (ea_cons (ev_bin op_adds o_add (ev_var 2 (pv 2)) (ev_bin op_muls o_mul ev_int (ev_var 1 (pv 1)))) ea_nil')) ev_int)) (a1_cons (e1_sc ev_int) a1_nil))))))))))
def c_law_pool (as : List Sl) : W D := fun Q _ => ∃ (ns : List Int) (k : Int), as = [.scr ns, .fz (.int k)] ∧ 0 ≤ k ∧ ∀ a b c d : Int, Q (.lst [.int a, .int b, .int c, .int d])
theorem ref_law_pool (as : List Sl) (Q : OD → Prop) (E : Xc → Prop) (h : ofW c_law_pool as Q E) : m_law_pool as Q E := by
  obtain ⟨ns, k, rfl, hk, q⟩ := h
  refine ⟨rfl, ?_⟩
  have h18 : CPow 10 18 := ⟨by decide, by decide, by decide⟩
  have c1 : CMul 104729 k := .inl ⟨by decide, by decide⟩
  have z : 4 ≤ sizeLine := sz (by decide)
  simp [b_law_pool]
  have tail : ∀ c : Int, (sSeq (sIf (testB (bin2 geD (rd 2) (bin2 powD (kst (.int 10)) (kst (.int 18))))) (sRet1 (dispL D.lst (consA (scG (bin2 subD (rd 2) (bin2 powD (kst (.int 10)) (kst (.int 18))))) (consA (scG (kst (.int 0))) (consA (scG (kst (.int 0))) (consA (scG (kst (.int 1))) nilA)))))) sNx)
    (sRet1 (dispL D.lst (consA (scG (kst (.int 0))) (consA (scG (kst (.int 0))) (consA (scG (bin2 modD (callN intD (consA (bin2 addD (rd 2) (bin2 mulD (kst (.int 104729)) (rd 1))) nilA)) (kst (.int 2147483647)))) (consA (scG (kst (.int 0))) nilA))))))) [.scr ns, .fz (.int k), .fz (.int c)] (fun fl _ => match fl with | .ro x => Q x | .rt d => Q (.fz d) | .nx => Q (.fz .non) | _ => False) (fun x _ => E x) := by
    intro c
    simp [h18, c1, z]
    split
    · exact q _ _ _ _
    · exact q _ _ _ _
  split
  · rename_i hlt
    obtain ⟨x, hx, _⟩ := atI_of (xs := ns) hk hlt
    exact ⟨x, hx, by simpa [h18, c1, z] using tail x⟩
  · simpa [h18, c1, z] using tail 0
theorem pool4 {a b c d : Int} : poolD 4 (.lst [.int a, .int b, .int c, .int d]) := ⟨[a, b, c, d], rfl, rfl⟩
theorem pool_ok {ns : List Int} {k : Int} {K : D → Prop} {E : Xc → Prop} (h : 0 ≤ k) (q : ∀ a b c d : Int, K (.lst [.int a, .int b, .int c, .int d])) : c_law_pool [.scr ns, .fz (.int k)] K E := ⟨ns, k, rfl, h, q⟩

theorem okc_law_pool (T : Txt K mg a) : FnOk P w K mg base (L2.CX P w) 1 a.a_law_pool a.d_law_pool ["_law_script", "_law_place"] (PSp (G K a) (liftN (ofW c_law_pool))) := (ok_law_pool T).imp fun _ _ _ _ h => PSp.mono (liftN.mono ref_law_pool) h
abbrev s_law_draw : Stmt := (top 19)
abbrev N_law_draw : List Str := ["_law_pool_here", "_law_many", "_law_drawn", "_law_number"]
theorem sc_law_draw : FnScope N_law_draw ["_law_pool_here", "_law_many"] (defScope s_law_draw) := ⟨rfl, rfl, rfl, by decide +kernel, rfl, by decide +kernel, by decide +kernel⟩
def b_law_draw : QL.Env → Ws := (sSeq (sIf (testB (bin2 eqD (ixP 4 0 (kst (.int 3))) (kst (.int 1)))) (sSeq (sSet 2 (bin2 modD (callN intD (consA (ixP 4 0 (kst (.int 0))) nilA)) (rd 1)))
    (sSeq (sSetPl 4 0 (kst (.int 0)) (bin2 divD (callN intD (consA (ixP 4 0 (kst (.int 0))) nilA)) (rd 1)))
    (sRet (rd 2)))) sNx)
    (sSeq (sSetPl 4 0 (kst (.int 1)) (bin2 addD (ixP 4 0 (kst (.int 1))) (kst (.int 1))))
    (sSeq (sSet 3 (bin2 modD (bin2 mulD (callN intD (consA (bin2 addD (bin2 addD (ixP 4 0 (kst (.int 2))) (bin2 mulD (kst (.int 7919)) (ixP 4 0 (kst (.int 1))))) (kst (.int 1))) nilA)) (kst (.int 48271))) (kst (.int 2147483647))))
    (sSeq (sSet 3 (bin2 modD (bin2 mulD (rd 3) (bin2 addD (bin2 divD (rd 3) (kst (.int 1009))) (kst (.int 69621)))) (kst (.int 2147483647))))
    (sSeq (sSet 3 (bin2 modD (bin2 mulD (rd 3) (bin2 addD (bin2 divD (rd 3) (kst (.int 2003))) (kst (.int 40692)))) (kst (.int 2147483399))))
    (sRet (bin2 modD (bin2 divD (rd 3) (kst (.int 16))) (rd 1))))))))
def m_law_draw : List Sl → W D := mFunP 2 N_law_draw.length b_law_draw
theorem ok_law_draw (T : Txt K mg a) : FnOk P w K mg base (L2.CX P w) 1 a.a_law_draw a.d_law_draw ["_law_pool_here", "_law_many"] (PSp (G K a) (liftP m_law_draw)) :=
  fn_okP (G := G K a) T.h_law_draw.F sc_law_draw fun cdv A outer s H E hr tk =>
  (ess_cons (es_if (eb_cmp (op_eqD hr.units) o_eq (ev_ixP rfl (pv 0) ev_int (fun _ _ => rfl)) ev_int (nomark _)) (ess_cons (es_set (ev_bin op_mod o_mod (ev_callTy call_int1 o_int (by rfl) T.n_int Bt.t_int (ea_cons (ev_ixP rfl (pv 0) ev_int (fun _ _ => rfl)) ea_nil')) (ev_var 1 (pv 1))) (fun _ pt => ps_set (i := 2) sc_law_draw.nd rfl (Or.inl rfl) pt))
    (ess_cons (es_setPl rfl (ev_bin op_divs o_div (ev_callTy call_int1 o_int (by rfl) T.n_int Bt.t_int (ea_cons (ev_ixP rfl (pv 0) ev_int (fun _ _ => rfl)) ea_nil')) (ev_var 1 (pv 1))) ev_int (fun _ _ pk pv_ => ps_asg pv_ (pg_sub (pv 0) pk set_list)))
    (ess_one (es_ret (ev_var 2 (pv 2)))))) ess_nil)
    (ess_cons (es_setPl rfl (ev_bin op_adds o_add (ev_ixP rfl (pv 0) ev_int (fun _ _ => rfl)) ev_int) ev_int (fun _ _ pk pv_ => ps_asg pv_ (pg_sub (pv 0) pk set_list)))
    (ess_cons (es_set (ev_bin op_mod o_mod (ev_bin op_muls o_mul (ev_callTy call_int1 o_int (by rfl) T.n_int Bt.t_int (ea_cons (ev_bin op_adds o_add (ev_bin op_adds o_add (ev_ixP rfl (pv 0) ev_int (fun _ _ => rfl)) (ev_bin op_muls o_mul ev_int (ev_ixP rfl (pv 0) ev_int (fun _ _ => rfl)))) ev_int) ea_nil')) ev_int) ev_int) (fun _ pt => ps_set (i := 3) sc_law_draw.nd rfl (Or.inl rfl) pt))
    (ess_cons (es_set (ev_bin op_mod o_mod (ev_bin op_muls o_mul (ev_var 3 (pv 3)) (ev_bin op_adds o_add (ev_bin op_divs o_div (ev_var 3 (pv 3)) ev_int) ev_int)) ev_int) (fun _ pt => ps_set (i := 3) sc_law_draw.nd rfl (Or.inl rfl) pt))
    (ess_cons (es_set (ev_bin op_mod o_mod (ev_bin op_muls o_mul (ev_var 3 (pv 3)) (ev_bin op_adds o_add (ev_bin op_divs o_div (ev_var 3 (pv 3)) ev_int) ev_int)) ev_int) (fun _ pt => ps_set (i := 3) sc_law_draw.nd rfl (Or.inl rfl) pt))
    (ess_one (es_ret (ev_bin op_mod o_mod (ev_bin op_divs o_div (ev_var 3 (pv 3)) ev_int) (ev_var 1 (pv 1))))))))))
def c_law_draw (as : List Sl) : W D := fun Q _ => ∃ n : Int, as = [.pool, .fz (.int n)] ∧ 0 < n ∧ n < 1073741824 ∧ ∀ r : Int, 0 ≤ r → r < n → Q (.int r)
theorem ref_law_draw (as : List Sl) (Q : D → Prop) (E : Xc → Prop) (h : c_law_draw as Q E) : m_law_draw as Q E := by
  obtain ⟨n, rfl, h0, h1, k⟩ := h
  refine ⟨rfl, ?_⟩
  have c1 : ∀ i, CMul i 48271 := fun i => .inr ⟨by decide, by decide⟩
  have c2 : ∀ i, CMul 7919 i := fun i => .inl ⟨by decide, by decide⟩
  have c3 : ∀ i j : Int, CMul (i % 2147483647) j := fun i j => .inl ⟨by have := drawn i (n := 2147483647) (by decide); omega, by have := drawn i (n := 2147483647) (by decide); omega⟩
  have d0 : ∀ i, CDiv i n := fun i => ⟨h0, h1⟩
  have d1 : ∀ i, CDiv i 1009 := fun i => ⟨by decide, by decide⟩
  have d2 : ∀ i, CDiv i 2003 := fun i => ⟨by decide, by decide⟩
  have d3 : ∀ i, CDiv i 16 := fun i => ⟨by decide, by decide⟩
  simp [b_law_draw, c1, c2, c3, d0, d1, d2, d3, h0]
  intro z
  split
  · intro z
    exact k _ (drawn _ h0).1 (drawn _ h0).2
  · intros
    exact k _ (drawn _ h0).1 (drawn _ h0).2
theorem draw_ok {n : Int} {K : D → Prop} {E : Xc → Prop} (h0 : 0 < n) (h1 : n < 1073741824) (hk : ∀ r : Int, 0 ≤ r → r < n → K (.int r)) : c_law_draw [.pool, .fz (.int n)] K E := ⟨n, rfl, h0, h1, hk⟩

theorem okc_law_draw (T : Txt K mg a) : FnOk P w K mg base (L2.CX P w) 1 a.a_law_draw a.d_law_draw ["_law_pool_here", "_law_many"] (PSp (G K a) (liftP c_law_draw)) := (ok_law_draw T).imp fun _ _ _ _ h => PSp.mono (liftP.mono ref_law_draw) h
abbrev s_law_ways : Stmt := (top 21)
abbrev N_law_ways : List Str := ["_law_pool_here", "_law_kinds", "_law_states", "_law_share", "_law_ways_here", "_law_state", "_law_line", "_law_kind", "_law_target"]
theorem sc_law_ways : FnScope N_law_ways ["_law_pool_here", "_law_kinds"] (defScope s_law_ways) := ⟨rfl, rfl, rfl, by decide +kernel, rfl, by decide +kernel, by decide +kernel⟩
def b_law_ways : QL.Env → Ws := (sSeq (sSet 2 (bin2 addD (kst (.int 1)) (callF c_law_draw (argsP (slC 0 (dC (kst (.int 2)) nilC))))))
    (sSeq (sSet 3 (callF c_law_draw (argsP (slC 0 (dC (kst (.int 3)) nilC)))))
    (sSeq (sSetN 4 (dispN nilA))
    (sSeq (sFor [] (rng1 (rd 2)) (nameG 5) (sSeq (sSetN 6 (dispN nilA))
    (sSeq (sFor [] (rng1 (rd 1)) (nameG 7) (sFor [] (rng1 (rd 2)) (nameG 8) (sIf (testB (bin2 leD (callF c_law_draw (argsP (slC 0 (dC (kst (.int 4)) nilC)))) (rd 3))) (sAppN 6 (dispL D.tup (consA (rd 7) (consA (rd 8) nilA)))) sNx)))
    (sSeq (sIf (testB (bin2 eqD (lenL 6) (kst (.int 0)))) (sAppN 6 (dispL D.tup (consA (callF c_law_draw (argsP (slC 0 (dC (rd 1) nilC)))) (consA (callF c_law_draw (argsP (slC 0 (dC (rd 2) nilC)))) nilA)))) sNx)
    (sFrz 6 (sAppN 4 (rd 6)))))))
    (sFrz 4 (sRet (rd 4)))))))
def m_law_ways : List Sl → W D := mFunP 2 N_law_ways.length b_law_ways
theorem ok_law_ways (T : Txt K mg a) : FnOk P w K mg base (L2.CX P w) 2 a.a_law_ways a.d_law_ways ["_law_pool_here", "_law_kinds"] (PSp (G K a) (liftP m_law_ways)) :=
  fn_okP (G := G K a) T.h_law_ways.F sc_law_ways fun cdv A outer s H E hr tk =>
  (ess_cons (es_set (ev_bin op_adds o_add ev_int (ev_call (okc_law_draw T) (hr.mono (by decide)) (by rfl) T.h_law_draw.m T.h_law_draw.F.kp T.h_law_draw.b tk (ec_slot (pv 0) (ec_d ev_int ec_nil)))) (fun _ pt => ps_set (i := 2) sc_law_ways.nd rfl (Or.inl rfl) pt))
    (ess_cons (es_set (ev_call (okc_law_draw T) (hr.mono (by decide)) (by rfl) T.h_law_draw.m T.h_law_draw.F.kp T.h_law_draw.b tk (ec_slot (pv 0) (ec_d ev_int ec_nil))) (fun _ pt => ps_set (i := 3) sc_law_ways.nd rfl (Or.inl rfl) pt))
    (ess_cons (es_setN (el_lst ea_nil') (fun _ pt => ps_set (i := 4) sc_law_ways.nd rfl (Or.inl rfl) pt))
    (ess_cons (es_for [] (passes_of rfl) rfl (ei_rng1 (ev_var 2 (pv 2)) (by rfl) T.n_range) (eg_name (pg_name (i := 5) sc_law_ways.nd rfl (by first | exact Or.inl rfl | exact Or.inr rfl))) (ess_cons (es_setN (el_lst ea_nil') (fun _ pt => ps_set (i := 6) sc_law_ways.nd rfl (Or.inl rfl) pt))
    (ess_cons (es_for [] (passes_of rfl) rfl (ei_rng1 (ev_var 1 (pv 1)) (by rfl) T.n_range) (eg_name (pg_name (i := 7) sc_law_ways.nd rfl (by first | exact Or.inl rfl | exact Or.inr rfl))) (ess_one (es_for [] (passes_of rfl) rfl (ei_rng1 (ev_var 2 (pv 2)) (by rfl) T.n_range) (eg_name (pg_name (i := 8) sc_law_ways.nd rfl (by first | exact Or.inl rfl | exact Or.inr rfl))) (ess_one (es_if (eb_cmp op_le (o_cmp (f := fun i j => decide (i ≤ j))) (ev_call (okc_law_draw T) (hr.mono (by decide)) (by rfl) T.h_law_draw.m T.h_law_draw.F.kp T.h_law_draw.b tk (ec_slot (pv 0) (ec_d ev_int ec_nil))) (ev_var 3 (pv 3)) (nomark _)) (ess_one (es_appN (pv 6) (fun _ _ po pt => ps_expr (pe_bm PySem.F.plainAttrs_list PySem.F.slot_list_append PySem.F.type_list_append mt_append po (pa_cons pt pa_nil))) (ev_tup (ea_cons (ev_var 7 (pv 7)) (ea_cons (ev_var 8 (pv 8)) ea_nil'))))) ess_nil)))))
    (ess_cons (es_if (eb_cmp (op_eqD hr.units) o_eq (ev_lenL (fun _ pt => pe_callB call_len_seq (by rfl) T.n_len PySem.boot_len (pa_cons pt pa_nil)) (pv 6)) ev_int (nomark _)) (ess_one (es_appN (pv 6) (fun _ _ po pt => ps_expr (pe_bm PySem.F.plainAttrs_list PySem.F.slot_list_append PySem.F.type_list_append mt_append po (pa_cons pt pa_nil))) (ev_tup (ea_cons (ev_call (okc_law_draw T) (hr.mono (by decide)) (by rfl) T.h_law_draw.m T.h_law_draw.F.kp T.h_law_draw.b tk (ec_slot (pv 0) (ec_d (ev_var 1 (pv 1)) ec_nil))) (ea_cons (ev_call (okc_law_draw T) (hr.mono (by decide)) (by rfl) T.h_law_draw.m T.h_law_draw.F.kp T.h_law_draw.b tk (ec_slot (pv 0) (ec_d (ev_var 2 (pv 2)) ec_nil))) ea_nil'))))) ess_nil)
    (ess_frz 6 (ess_one (es_appN (pv 4) (fun _ _ po pt => ps_expr (pe_bm PySem.F.plainAttrs_list PySem.F.slot_list_append PySem.F.type_list_append mt_append po (pa_cons pt pa_nil))) (ev_var 6 (pv 6)))))))))
    (ess_frz 4 (ess_one (es_ret (ev_var 4 (pv 4)))))))))
def c_law_ways (as : List Sl) : W D := fun Q _ => ∃ n : Int, as = [.pool, .fz (.int n)] ∧ 1 ≤ n ∧ n ≤ 3 ∧ ∀ W, SendOk W → (∀ l ∈ W, ∀ w ∈ l, w.1 < n) → Q (dAll W)
theorem pw_snoc {ws : List Way} {x : Way} (h : ws.Pairwise wl) (hx : ∀ w ∈ ws, wl w x) : (ws ++ [x]).Pairwise wl := List.pairwise_append.mpr ⟨h, by simp, fun a ha b hb => by simp at hb; subst hb; exact hx a ha⟩
theorem ref_law_ways (as : List Sl) (Q : D → Prop) (E : Xc → Prop) (h : c_law_ways as Q E) : m_law_ways as Q E := by
  obtain ⟨n, rfl, h1, h2, k⟩ := h
  refine ⟨rfl, ?_⟩
  simp [b_law_ways]
  refine draw_ok (n := 2) (by decide) (by decide) fun r r0 r1 => ?_
  simp
  refine draw_ok (n := 3) (by decide) (by decide) fun s s0 s1 => ?_
  obtain ⟨S, hS⟩ := Int.eq_ofNat_of_zero_le (show 0 ≤ 1 + r by omega)
  obtain ⟨n, rfl⟩ := Int.eq_ofNat_of_zero_le (show 0 ≤ n by omega)
  simp only [hS]
  refine ⟨by omega, ?_⟩
  rw [show ((S : Int).toNat) = S by omega]
  have hS1 : 1 ≤ S := by omega
  have hS2 : S ≤ 2 := by omega
  refine forE_inv (fun i ρ => ∃ (W : List (List Way)) (a5 a6 a7 a8 : Sl), W.length = i ∧ (∀ l ∈ W, 1 ≤ l.length ∧ l.length ≤ 6 ∧ (∀ w ∈ l, 0 ≤ w.1 ∧ w.1 < n ∧ 0 ≤ w.2 ∧ w.2 < S) ∧ l.Pairwise wl) ∧ ρ = [.pool, .fz (.int n), .fz (.int S), .fz (.int s), .ow (OD.lf (W.map dWays)), a5, a6, a7, a8])
    (fun i d ρ K hi ⟨W, a5, a6, a7, a8, hWl, hW, e⟩ hk _ _ _ => ?_) (fun ρ ⟨W, a5, a6, a7, a8, hWl, hW, e⟩ => ?_) ⟨[], .un, .un, .un, .un, rfl, by simp, rfl⟩
  · subst e
    obtain ⟨hi, rfl⟩ := rng_at hi
    simp
    refine ⟨by omega, ?_⟩
    refine forE_inv (fun j ρ => ∃ (ws : List Way) (a7 a8 : Sl), ws.length ≤ 2 * j ∧ (∀ w ∈ ws, 0 ≤ w.1 ∧ w.1 < j ∧ 0 ≤ w.2 ∧ w.2 < S) ∧ ws.Pairwise wl ∧ ρ = [.pool, .fz (.int n), .fz (.int S), .fz (.int s), .ow (OD.lf (W.map dWays)), .fz (.int i), .ow (OD.lf (ws.map dWay)), a7, a8])
      (fun j d ρ K2 hj ⟨ws, a7, a8, hl, hws, hp, e⟩ hk2 _ _ _ => ?_) (fun ρ ⟨ws, a7, a8, hl, hws, hp, e⟩ => ?_) ⟨[], a7, a8, by simp, by simp, by simp, rfl⟩
    · subst e
      obtain ⟨hj, rfl⟩ := rng_at hj
      simp
      refine ⟨by omega, ?_⟩
      refine forE_inv (fun t ρ => ∃ (ws : List Way) (a8 : Sl), ws.length ≤ 2 * j + t ∧ (∀ w ∈ ws, 0 ≤ w.1 ∧ 0 ≤ w.2 ∧ w.2 < S ∧ (w.1 < j ∨ (w.1 = j ∧ w.2 < t))) ∧ ws.Pairwise wl ∧ ρ = [.pool, .fz (.int n), .fz (.int S), .fz (.int s), .ow (OD.lf (W.map dWays)), .fz (.int i), .ow (OD.lf (ws.map dWay)), .fz (.int j), a8])
        (fun t d ρ K3 ht ⟨ws, a8, hl, hws, hp, e⟩ hk3 _ _ _ => ?_) (fun ρ ⟨ws, a8, hl, hws, hp, e⟩ => ?_) ⟨ws, a8, by omega, fun w hw => by obtain ⟨z1, z2, z3, z4⟩ := hws w hw; exact ⟨z1, z3, z4, .inl z2⟩, hp, rfl⟩
      · subst e
        obtain ⟨ht, rfl⟩ := rng_at ht
        simp
        refine draw_ok (n := 4) (by decide) (by decide) fun x x0 x1 => ?_
        by_cases hxs : x ≤ s
        · simp [hxs]
          refine ⟨sz (by decide), sz_lt (by omega), ?_⟩
          refine hk3 _ ⟨ws ++ [((j : Int), (t : Int))], .fz (.int t), by simp; omega, fun w hw => ?_, pw_snoc hp fun w hw => ?_, by simp⟩
          · simp at hw
            rcases hw with hw | rfl
            · obtain ⟨z1, z2, z3, z4⟩ := hws w hw
              exact ⟨z1, z2, z3, by omega⟩
            · exact ⟨by simp, by simp, by simp; omega, .inr ⟨rfl, by simp; omega⟩⟩
          · obtain ⟨z1, z2, z3, z4⟩ := hws w hw
            exact z4
        · simp [hxs]
          refine hk3 _ ⟨ws, _, by omega, fun w hw => ?_, hp, rfl⟩
          obtain ⟨z1, z2, z3, z4⟩ := hws w hw
          exact ⟨z1, z2, z3, by omega⟩
      · subst e
        simp at hl hws ⊢
        refine hk2 _ ⟨ws, _, _, by omega, fun w hw => ?_, hp, rfl⟩
        obtain ⟨z1, z2, z3, z4⟩ := hws w.1 w.2 hw
        exact ⟨z1, by omega, z2, z3⟩
    · subst e
      simp at hl hws ⊢
      have new : ∀ (v : List Way) (b7 b8 : Sl), 1 ≤ v.length → v.length ≤ 6 → (∀ w ∈ v, 0 ≤ w.1 ∧ w.1 < n ∧ 0 ≤ w.2 ∧ w.2 < S) → v.Pairwise wl → K .nx [.pool, .fz (.int n), .fz (.int S), .fz (.int s), .ow (OD.lf (W.map dWays ++ [D.lst (v.map dWay)])), .fz (.int i), .fz (.lst (v.map dWay)), b7, b8] := fun v b7 b8 v1 v2 v3 v4 =>
        hk _ ⟨W ++ [v], .fz (.int i), .fz (.lst (v.map dWay)), b7, b8, by simp [hWl], fun l hl => by
          rcases List.mem_append.mp hl with hl | hl
          · exact hW l hl
          · simp at hl; subst hl; exact ⟨v1, v2, v3, v4⟩, by simp⟩
      by_cases hz : ws = []
      · subst hz
        simp
        refine draw_ok (n := n) (by omega) (by omega) fun x x0 x1 => ?_
        refine draw_ok (n := S) (by omega) (by omega) fun y y0 y1 => ?_
        refine ⟨sz (by decide), sz_lt (by decide), sz_lt (by omega), ?_⟩
        exact new [(x, y)] a7 a8 (by simp) (by simp) (by simp; omega) (by simp)
      · have : 1 ≤ ws.length := by cases ws <;> simp at hz ⊢
        simp [hz]
        refine ⟨sz_lt (by omega), ?_⟩
        exact new ws a7 a8 this (by omega) (fun w hw => hws w.1 w.2 hw) hp
  · subst e
    simp at hWl ⊢
    refine k W ⟨by omega, by omega, fun l hl => ?_⟩ fun l hl w hw => ((hW l hl).2.2.1 w hw).2.1
    obtain ⟨v1, v2, v3, v4⟩ := hW l hl
    refine ⟨v1, v2, fun w hw => ?_, ascB_pw.mpr v4⟩
    obtain ⟨z1, z2, z3, z4⟩ := v3 w hw
    exact ⟨z1, by omega, z3, by omega⟩

theorem okc_law_ways (T : Txt K mg a) : FnOk P w K mg base (L2.CX P w) 2 a.a_law_ways a.d_law_ways ["_law_pool_here", "_law_kinds"] (PSp (G K a) (liftP c_law_ways)) := (ok_law_ways T).imp fun _ _ _ _ h => PSp.mono (liftP.mono ref_law_ways) h
abbrev s_NoSender__init : Stmt := (inClass (top 4) 0)
theorem sc_NoSender__init : FnScope ["self", "state"] ["self", "state"] (defScope s_NoSender__init) := ⟨rfl, rfl, rfl, by decide +kernel, rfl, by decide +kernel, by decide +kernel⟩
theorem okc_NoSender__init (T : Txt K mg a) : FnOk P w K mg base (L2.CX P w) 1 a.a_NoSender__init a.d_NoSender__init ["self", "state"] (spX K "state") := fn_okX T.h_NoSender__init.F sc_NoSender__init fun cdv A outer s H E => pss_one (ps_ost (pv 0) (pv 1))
abbrev s_is_integer : Stmt := (top 6)
abbrev N_is_integer : List Str := ["value"]
theorem sc_is_integer : FnScope N_is_integer ["value"] (defScope s_is_integer) := ⟨rfl, rfl, rfl, by decide +kernel, rfl, by decide +kernel, by decide +kernel⟩
def b_is_integer : QL.Env → Ws := (sRet (andV (un1 (isiD "int") (rd 0)) (notV (un1 (isiD "bool") (rd 0)))))
def m_is_integer : List Sl → W D := mFunP 1 N_is_integer.length b_is_integer
theorem ok_is_integer (T : Txt K mg a) : FnOk P w K mg base (L2.CX P w) 1 a.a_is_integer a.d_is_integer ["value"] (PSp (G K a) (liftP m_is_integer)) :=
  fn_okP (G := G K a) T.h_is_integer.F sc_is_integer fun cdv A outer s H E hr tk =>
  (ess_one (es_ret (ev_and (ev_isi (T := "int") (pe_bltn (by rfl) T.n_int Bt.t_int rfl) (ev_var 0 (pv 0)) rfl (by rfl) T.n_isinstance) (ev_one (ev_not (ev_isi (T := "bool") (pe_bltn (by rfl) T.n_bool Bt.t_bool rfl) (ev_var 0 (pv 0)) rfl (by rfl) T.n_isinstance))))))
def c_is_integer (as : List Sl) : W D := fun Q _ => ∃ d, as = [.fz d] ∧ plD d ∧ Q (.bl (isInt d))
theorem ref_is_integer (as : List Sl) (Q : D → Prop) (E : Xc → Prop) (h : c_is_integer as Q E) : m_is_integer as Q E := by
  obtain ⟨d, rfl, hd, q⟩ := h
  refine ⟨rfl, ?_⟩
  rw [isInt_eq] at q
  simp [b_is_integer, isi_int hd, isi_bool hd]
  by_cases h : isIB d = true
  · simpa [h] using q
  · simp only [Bool.not_eq_true] at h
    simpa [h] using q
@[simp] theorem c_is_integer_app {i : Int} {Q : D → Prop} {E : Xc → Prop} : c_is_integer [.fz (.int i)] Q E = Q (.bl true) := propext ⟨fun ⟨d, e, _, q⟩ => by cases e; exact q, fun q => ⟨_, rfl, by simp, q⟩⟩

theorem okc_is_integer (T : Txt K mg a) : FnOk P w K mg base (L2.CX P w) 1 a.a_is_integer a.d_is_integer ["value"] (PSp (G K a) (liftP c_is_integer)) := (ok_is_integer T).imp fun _ _ _ _ h => PSp.mono (liftP.mono ref_is_integer) h
abbrev s_is_integer_from : Stmt := (top 7)
abbrev N_is_integer_from : List Str := ["value", "least", "most"]
theorem sc_is_integer_from : FnScope N_is_integer_from ["value", "least", "most"] (defScope s_is_integer_from) := ⟨rfl, rfl, rfl, by decide +kernel, rfl, by decide +kernel, by decide +kernel⟩
def b_is_integer_from : QL.Env → Ws := (sRet (andV (callF c_is_integer (argsP (dC (rd 0) nilC))) (chain2 leD leD (rd 1) (rd 0) (rd 2))))
def m_is_integer_from : List Sl → W D := mFunP 3 N_is_integer_from.length b_is_integer_from
theorem ok_is_integer_from (T : Txt K mg a) : FnOk P w K mg base (L2.CX P w) 2 a.a_is_integer_from a.d_is_integer_from ["value", "least", "most"] (PSp (G K a) (liftP m_is_integer_from)) :=
  fn_okP (G := G K a) T.h_is_integer_from.F sc_is_integer_from fun cdv A outer s H E hr tk =>
  (ess_one (es_ret (ev_and (ev_call (okc_is_integer T) (hr.mono (by decide)) (by rfl) T.h_is_integer.m T.h_is_integer.F.kp T.h_is_integer.b tk (ec_d (ev_var 0 (pv 0)) ec_nil)) (ev_one (ev_chain op_le op_le (o_cmp (f := fun i j => decide (i ≤ j))) (o_cmp (f := fun i j => decide (i ≤ j))) (ev_var 1 (pv 1)) (ev_var 0 (pv 0)) (ev_var 2 (pv 2)))))))
def c_is_integer_from (as : List Sl) : W D := fun Q _ => ∃ d a b, as = [.fz d, .fz (.int a), .fz (.int b)] ∧ plD d ∧ Q (.bl (intIn a b d))
theorem ref_is_integer_from (as : List Sl) (Q : D → Prop) (E : Xc → Prop) (h : c_is_integer_from as Q E) : m_is_integer_from as Q E := by
  obtain ⟨d, a, b, rfl, hd, k⟩ := h
  refine ⟨rfl, ?_⟩
  simp [b_is_integer_from]
  refine ⟨d, rfl, hd, ?_⟩
  cases d <;> simp [isInt, intIn] at k ⊢ <;> try exact k
  rename_i i
  by_cases h1 : a ≤ i
  · simpa [h1] using k
  · simpa [h1] using k
@[simp] theorem c_is_integer_from_app {i a b : Int} {Q : D → Prop} {E : Xc → Prop} : c_is_integer_from [.fz (.int i), .fz (.int a), .fz (.int b)] Q E = Q (.bl (decide (a ≤ i ∧ i ≤ b))) := propext ⟨fun ⟨d, _, _, e, _, q⟩ => by cases e; exact q, fun q => ⟨_, _, _, rfl, by simp, q⟩⟩

theorem okc_is_integer_from (T : Txt K mg a) : FnOk P w K mg base (L2.CX P w) 2 a.a_is_integer_from a.d_is_integer_from ["value", "least", "most"] (PSp (G K a) (liftP c_is_integer_from)) := (ok_is_integer_from T).imp fun _ _ _ _ h => PSp.mono (liftP.mono ref_is_integer_from) h
abbrev s_is_index : Stmt := (top 8)
abbrev N_is_index : List Str := ["value", "length"]
theorem sc_is_index : FnScope N_is_index ["value", "length"] (defScope s_is_index) := ⟨rfl, rfl, rfl, by decide +kernel, rfl, by decide +kernel, by decide +kernel⟩
def b_is_index : QL.Env → Ws := (sRet (callF c_is_integer_from (argsP (dC (rd 0) (dC (kst (.int 0)) (dC (bin2 subD (rd 1) (kst (.int 1))) nilC))))))
def m_is_index : List Sl → W D := mFunP 2 N_is_index.length b_is_index
theorem ok_is_index (T : Txt K mg a) : FnOk P w K mg base (L2.CX P w) 3 a.a_is_index a.d_is_index ["value", "length"] (PSp (G K a) (liftP m_is_index)) :=
  fn_okP (G := G K a) T.h_is_index.F sc_is_index fun cdv A outer s H E hr tk =>
  (ess_one (es_ret (ev_call (okc_is_integer_from T) (hr.mono (by decide)) (by rfl) T.h_is_integer_from.m T.h_is_integer_from.F.kp T.h_is_integer_from.b tk (ec_d (ev_var 0 (pv 0)) (ec_d ev_int (ec_d (ev_bin op_sub o_sub (ev_var 1 (pv 1)) ev_int) ec_nil))))))
def c_is_index (as : List Sl) : W D := fun Q _ => ∃ d n, as = [.fz d, .fz (.int n)] ∧ plD d ∧ Q (.bl (ixOk n d))
theorem ref_is_index (as : List Sl) (Q : D → Prop) (E : Xc → Prop) (h : c_is_index as Q E) : m_is_index as Q E := by
  obtain ⟨d, n, rfl, hd, k⟩ := h
  refine ⟨rfl, ?_⟩
  simp [b_is_index]
  refine ⟨d, 0, n - 1, by simp, hd, ?_⟩
  have e : intIn 0 (n - 1) d = ixOk n d := by
    cases d <;> first | rfl | exact decide_eq_decide.mpr (by omega)
  rw [e]
  exact k
@[simp] theorem c_is_index_app {i n : Int} {Q : D → Prop} {E : Xc → Prop} : c_is_index [.fz (.int i), .fz (.int n)] Q E = Q (.bl (decide (0 ≤ i ∧ i < n))) := propext ⟨fun ⟨d, _, e, _, q⟩ => by cases e; exact q, fun q => ⟨_, _, rfl, by simp, q⟩⟩

theorem okc_is_index (T : Txt K mg a) : FnOk P w K mg base (L2.CX P w) 3 a.a_is_index a.d_is_index ["value", "length"] (PSp (G K a) (liftP c_is_index)) := (ok_is_index T).imp fun _ _ _ _ h => PSp.mono (liftP.mono ref_is_index) h
abbrev s_is_way : Stmt := (top 15)
abbrev N_is_way : List Str := ["states", "value"]
theorem sc_is_way : FnScope N_is_way ["states", "value"] (defScope s_is_way) := ⟨rfl, rfl, rfl, by decide +kernel, rfl, by decide +kernel, by decide +kernel⟩
def b_is_way : QL.Env → Ws := (sSeq (sIf (orB (notB (testB (un1 (isiD "tuple") (rd 1)))) (testB (bin2 neD (callN lenD (consA (rd 1) nilA)) (kst (.int 2))))) (sRet (kst (.bl false))) sNx)
    (sRet (andV (callF c_is_index (argsP (dC (bin2 ixD (rd 1) (kst (.int 0))) (dC (kst (.int 3)) nilC)))) (callF c_is_index (argsP (dC (bin2 ixD (rd 1) (kst (.int 1))) (dC (rd 0) nilC)))))))
def m_is_way : List Sl → W D := mFunP 2 N_is_way.length b_is_way
theorem ok_is_way (T : Txt K mg a) : FnOk P w K mg base (L2.CX P w) 4 a.a_is_way a.d_is_way ["states", "value"] (PSp (G K a) (liftP m_is_way)) :=
  fn_okP (G := G K a) T.h_is_way.F sc_is_way fun cdv A outer s H E hr tk =>
  (ess_cons (es_if (eb_w (ew_or (eb_not (eb_val (ev_isi (T := "tuple") (pe_bltn (by rfl) T.n_tuple Bt.t_tuple rfl) (ev_var 1 (pv 1)) rfl (by rfl) T.n_isinstance))) (ew_or1 (eb_cmp (op_neD hr.units) o_ne (ev_callB call_len_seq o_len (by rfl) T.n_len PySem.boot_len (ea_cons (ev_var 1 (pv 1)) ea_nil')) ev_int (nomark _))))) (ess_one (es_ret ev_bl)) ess_nil)
    (ess_one (es_ret (ev_and (ev_call (okc_is_index T) (hr.mono (by decide)) (by rfl) T.h_is_index.m T.h_is_index.F.kp T.h_is_index.b tk (ec_d (ev_ix (ev_var 1 (pv 1)) ev_int rfl (fun _ _ => rfl)) (ec_d (ev_globI' (by rfl) T.c_MOST_KINDS) ec_nil))) (ev_one (ev_call (okc_is_index T) (hr.mono (by decide)) (by rfl) T.h_is_index.m T.h_is_index.F.kp T.h_is_index.b tk (ec_d (ev_ix (ev_var 1 (pv 1)) ev_int rfl (fun _ _ => rfl)) (ec_d (ev_var 0 (pv 0)) ec_nil))))))))
def c_is_way (as : List Sl) : W D := fun Q _ => ∃ n d, as = [.fz (.int n), .fz d] ∧ smallT d ∧ Q (.bl (wayB n d))
theorem ref_is_way (as : List Sl) (Q : D → Prop) (E : Xc → Prop) (h : c_is_way as Q E) : m_is_way as Q E := by
  obtain ⟨n, d, rfl, ⟨hd, hx⟩, k⟩ := h
  refine ⟨rfl, ?_⟩
  simp [b_is_way, isi_tuple hd]
  by_cases ht : isTup d = true
  · cases d <;> simp [isTup] at ht
    rename_i xs
    obtain ⟨h1, h2⟩ := hx xs rfl
    simp [isTup]
    match xs, h1, h2, k with
    | [a, b], h1, h2, k =>
      simp [wayB] at k ⊢
      refine ⟨a, 3, rfl, h2 a (by simp), ?_⟩
      by_cases ha : ixOk 3 a = true
      · simp [ha] at k ⊢
        exact ⟨b, n, rfl, h2 b (by simp), k⟩
      · simp only [Bool.not_eq_true] at ha
        simpa [ha] using k
    | [], h1, h2, k => simpa [wayB] using k
    | [a], h1, h2, k => simpa [wayB] using k
    | a :: b :: c' :: r, h1, h2, k =>
      have : ¬ ((r.length : Int) + 1 + 1 + 1 = 2) := by omega
      simpa [wayB, this] using k
  · simp only [Bool.not_eq_true] at ht
    have : wayB n d = false := by cases d <;> first | rfl | simp [isTup] at ht
    rw [this] at k
    simpa [ht] using k

theorem okc_is_way (T : Txt K mg a) : FnOk P w K mg base (L2.CX P w) 4 a.a_is_way a.d_is_way ["states", "value"] (PSp (G K a) (liftP c_is_way)) := (ok_is_way T).imp fun _ _ _ _ h => PSp.mono (liftP.mono ref_is_way) h
abbrev s_ascends : Stmt := (top 9)
abbrev N_ascends : List Str := ["items", "low", "high"]
theorem sc_ascends : FnScope N_ascends ["items"] (defScope s_ascends) := ⟨rfl, rfl, rfl, by decide +kernel, rfl, by decide +kernel, by decide +kernel⟩
def b_ascends : QL.Env → Ws := (sRet (callN (allD fun bs => bs.all id) (consA (lstV (lcN (zipG (rd 0) (slL (rd 0) (intO (kst (.int 1))) (fun _ => W.pure none))) [1, 2] (tupG 2 (consG (nameG 1) (consG (nameG 2) nilG))) yesB (bin2 ltTD (rd 1) (rd 2)))) nilA)))
def m_ascends : List Sl → W D := mFunP 1 N_ascends.length b_ascends
theorem ok_ascends (T : Txt K mg a) : FnOk P w K mg base (L2.CX P w) 1 a.a_ascends a.d_ascends ["items"] (PSp (G K a) (liftP m_ascends)) :=
  fn_okP (G := G K a) T.h_ascends.F sc_ascends fun cdv A outer s H E hr tk =>
  (ess_one (es_ret (ev_callB (cr_all rfl) o_all (by rfl) T.n_all Bt.all (ea_cons (El.ev (el_lc (own := [("low", 1), ("high", 2)]) rfl sc_ascends.nd (ei_zipG (ev_var 0 (pv 0)) (ev_sliceL (ev_var 0 (pv 0)) (eo_some ev_int) eo_none rfl) rfl (by rfl) T.n_zip) (blkOk_by (N := N_ascends) (sc := (defScope s_ascends)) (by decide +kernel)) (fun _ _ _ _ _ => (eg_tup rfl (egs_cons (eg_name (pg_name (i := 1) sc_ascends.nd rfl (by first | exact Or.inl rfl | exact Or.inr rfl))) (egs_cons (eg_name (pg_name (i := 2) sc_ascends.nd rfl (by first | exact Or.inl rfl | exact Or.inr rfl))) egs_nil)) rfl)) (fun _ _ _ _ _ => ets_nil) (fun _ _ _ _ _ => (ev_cmp (op_ltT hr.units0) o_ltT (ev_var 1 (pv 1)) (ev_var 2 (pv 2)) (nomark _))) (by decide))) ea_nil'))))
def c_ascends (as : List Sl) : W D := fun Q _ => ∃ ws : List Way, as = [.fz (dWays ws)] ∧ 1 ≤ ws.length ∧ ws.length ≤ 1000 ∧ Q (.bl (ascB ws))
theorem zip_ways (l r : List Way) : List.zipWith (fun x y => D.tup [x, y]) (l.map dWay) (r.map dWay) = (List.zip l r).map fun p => D.tup [dWay p.1, dWay p.2] := by
  rw [List.zipWith_map, List.zip, List.map_zipWith]
theorem ref_ascends (as : List Sl) (Q : D → Prop) (E : Xc → Prop) (h : c_ascends as Q E) : m_ascends as Q E := by
  obtain ⟨ws, rfl, h1, hl, k⟩ := h
  refine ⟨rfl, ?_⟩
  simp [b_ascends]
  have e1 := cut_drop (xs := ws.map dWay) (c := 1) (by simpa using h1)
  rw [show ((1 : Nat) : Int) = 1 from rfl] at e1
  rw [e1, ← List.map_drop]
  show (okW _ _ = true ∧ (List.zipWith (fun x y => D.tup [x, y]) (ws.map dWay) ((ws.drop 1).map dWay)).length ≤ sizeLine) ∧ lcL _ _ _ _ _ (List.zipWith (fun x y => D.tup [x, y]) (ws.map dWay) ((ws.drop 1).map dWay)) _ _
  rw [zip_ways]
  refine ⟨⟨rfl, sz (by simp; omega)⟩, ?_⟩
  refine lcL_map (fun p => .bl (wLt p.1 p.2)) (fun p hp K hK => ?_) (allD_map (f := fun p : Way × Way => wLt p.1 p.2) k)
  simp [wipeE]
  exact ⟨[p.1.1, p.1.2], [p.2.1, p.2.2], rfl, rfl, hK⟩

theorem okc_ascends (T : Txt K mg a) : FnOk P w K mg base (L2.CX P w) 1 a.a_ascends a.d_ascends ["items"] (PSp (G K a) (liftP c_ascends)) := (ok_ascends T).imp fun _ _ _ _ h => PSp.mono (liftP.mono ref_ascends) h
abbrev s_are_ways : Stmt := (top 14)
abbrev N_are_ways : List Str := ["states", "value", "item"]
theorem sc_are_ways : FnScope N_are_ways ["states", "value"] (defScope s_are_ways) := ⟨rfl, rfl, rfl, by decide +kernel, rfl, by decide +kernel, by decide +kernel⟩
def b_are_ways : QL.Env → Ws := (sSeq (sIf (orB (notB (testB (un1 (isiD "list") (rd 1)))) (orB (notB (truB (rd 1))) (notB (testB (callN (allD fun bs => bs.all id) (consA (lstV (lcN (lstI (rd 1)) [2] (nameG 2) yesB (callF c_is_way (argsP (dC (rd 0) (dC (rd 2) nilC)))))) nilA)))))) (sRet (kst (.bl false))) sNx)
    (sRet (callF c_ascends (argsP (dC (rd 1) nilC)))))
def m_are_ways : List Sl → W D := mFunP 2 N_are_ways.length b_are_ways
theorem ok_are_ways (T : Txt K mg a) : FnOk P w K mg base (L2.CX P w) 5 a.a_are_ways a.d_are_ways ["states", "value"] (PSp (G K a) (liftP m_are_ways)) :=
  fn_okP (G := G K a) T.h_are_ways.F sc_are_ways fun cdv A outer s H E hr tk =>
  (ess_cons (es_if (eb_w (ew_or (eb_not (eb_val (ev_isi (T := "list") (pe_bltn (by rfl) T.n_list Bt.t_list rfl) (ev_var 1 (pv 1)) rfl (by rfl) T.n_isinstance))) (ew_or (eb_not (eb_truth rfl (ev_var 1 (pv 1)))) (ew_or1 (eb_not (eb_val (ev_callB (cr_all rfl) o_all (by rfl) T.n_all Bt.all (ea_cons (El.ev (el_lc (own := [("item", 2)]) rfl sc_are_ways.nd (ei_list (ev_var 1 (pv 1)) rfl) (blkOk_by (N := N_are_ways) (sc := (defScope s_are_ways)) (by decide +kernel)) (fun _ _ _ _ _ => (eg_name (pg_name (i := 2) sc_are_ways.nd rfl (by first | exact Or.inl rfl | exact Or.inr rfl)))) (fun _ _ _ _ _ => ets_nil) (fun _ _ _ _ _ => (ev_call (okc_is_way T) (hr.mono (by decide)) (by rfl) T.h_is_way.m T.h_is_way.F.kp T.h_is_way.b takes0 (ec_d (ev_var 0 (pv 0)) (ec_d (ev_var 2 (pv 2)) ec_nil)))) (by decide))) ea_nil')))))))) (ess_one (es_ret ev_bl)) ess_nil)
    (ess_one (es_ret (ev_call (okc_ascends T) (hr.mono (by decide)) (by rfl) T.h_ascends.m T.h_ascends.F.kp T.h_ascends.b tk (ec_d (ev_var 1 (pv 1)) ec_nil)))))
def c_are_ways (as : List Sl) : W D := fun Q _ => ∃ n d, as = [.fz (.int n), .fz d] ∧ askW d ∧ Q (.bl (waysB n d))
theorem ref_are_ways (as : List Sl) (Q : D → Prop) (E : Xc → Prop) (h : c_are_ways as Q E) : m_are_ways as Q E := by
  obtain ⟨n, d, rfl, ⟨hd, hx⟩, k⟩ := h
  refine ⟨rfl, ?_⟩
  simp [b_are_ways, isi_list hd]
  by_cases ht : isLst d = true
  · cases d <;> simp [isLst] at ht
    rename_i xs
    obtain ⟨h1, h2⟩ := hx xs rfl
    simp [isLst]
    cases xs with
    | nil => simpa [waysB] using k
    | cons x xs =>
      simp
      refine ⟨⟨rfl, sz (by simp at h1; omega)⟩, ?_⟩
      refine lcL_same (fun x => .bl (wayB n x)) (fun y hy K hK => ?_) (allD_map ?_)
      · simpa [wipeE] using ⟨n, y, rfl, h2 y hy, hK⟩
      · by_cases ha : (x :: xs).all (wayB n) = true
        · have hw := ways_of ha
          rw [ha]
          simp [waysB] at k
          simp only [List.all_cons, Bool.and_eq_true] at ha
          simp [ha.1] at k
          simp
          refine ⟨(x :: xs).map asWay, ?_, by simp, by simpa using h1, ?_⟩
          · rw [show dWays ((x :: xs).map asWay) = .lst (x :: xs) from congrArg D.lst hw.symm]
          · have h3 : (xs.all (wayB n)) = true := ha.2
            simpa [h3] using k
        · simp only [Bool.not_eq_true] at ha
          rw [ha]
          have : waysB n (.lst (x :: xs)) = false := by simp only [waysB, ha]; simp
          rw [this] at k
          simpa using k
  · simp only [Bool.not_eq_true] at ht
    have : waysB n d = false := by cases d <;> first | rfl | simp [isLst] at ht
    rw [this] at k
    simpa [ht] using k

theorem okc_are_ways (T : Txt K mg a) : FnOk P w K mg base (L2.CX P w) 5 a.a_are_ways a.d_are_ways ["states", "value"] (PSp (G K a) (liftP c_are_ways)) := (ok_are_ways T).imp fun _ _ _ _ h => PSp.mono (liftP.mono ref_are_ways) h
abbrev s_Sender__init : Stmt := (inClass (top 13) 0)
abbrev N_Sender__init : List Str := ["self", "ways", "state", "of_state"]
theorem sc_Sender__init : FnScope N_Sender__init ["self", "ways"] (defScope s_Sender__init) := ⟨rfl, rfl, rfl, by decide +kernel, rfl, by decide +kernel, by decide +kernel⟩
def b_Sender__init : QL.Env → Ws := (sSeq (sIf (orB (notB (testB (un1 (isiD "list") (rd 1)))) (notB (testB (chain2 leD leD (kst (.int 1)) (callN lenD (consA (rd 1) nilA)) (kst (.int 2)))))) (sRaise1 X_NoSender "state" (un1 negD (kst (.int 1)))) sNx)
    (sSeq (sFor [] (enumI (rd 1)) (tupG 2 (consG (nameG 2) (consG (nameG 3) nilG))) (sIf (notB (testB (callF c_are_ways (argsP (dC (callN lenD (consA (rd 1) nilA)) (dC (rd 3) nilC)))))) (sRaise1 X_NoSender "state" (rd 2)) sNx))
    (sFldO 0 "exits" (lcON (lstI (rd 1)) [3] (nameG 3) yesB (lstO (listN (consA (rd 3) nilA)))))))
def m_Sender__init : List Sl → W (List (Str × OD)) := mInitO 2 N_Sender__init.length 0 b_Sender__init
theorem ok_Sender__init (T : Txt K mg a) : FnOk P w K mg base (L2.CX P w) 6 a.a_Sender__init a.d_Sender__init ["self", "ways"] (PSp (G K a) (initO 0 m_Sender__init)) :=
  fn_okO (G := G K a) (C := 0) T.h_Sender__init.F sc_Sender__init fun cdv A outer s H E hr tk =>
  (ess_cons (es_if (eb_w (ew_or (eb_not (eb_val (ev_isi (T := "list") (pe_bltn (by rfl) T.n_list Bt.t_list rfl) (ev_var 1 (pv 1)) rfl (by rfl) T.n_isinstance))) (ew_or1 (eb_not (eb_chain op_le op_le (o_cmp (f := fun i j => decide (i ≤ j))) (o_cmp (f := fun i j => decide (i ≤ j))) ev_int (ev_callB call_len_seq o_len (by rfl) T.n_len PySem.boot_len (ea_cons (ev_var 1 (pv 1)) ea_nil')) (ev_globI' (by rfl) T.c_MOST_STATES)))))) (ess_one (es_raise1 (C := X_NoSender) rfl tk T.xi_NoSender (okc_NoSender__init T) (hr.mono (by decide)) T.h_NoSender__init.b (by rfl) T.xm_NoSender (ev_un un_neg o_neg ev_int))) ess_nil)
    (ess_cons (es_for [] (passes_of rfl) rfl (ei_enum (ev_var 1 (pv 1)) rfl (by rfl) T.n_enumerate) (eg_tup rfl (egs_cons (eg_name (pg_name (i := 2) sc_Sender__init.nd rfl (by first | exact Or.inl rfl | exact Or.inr rfl))) (egs_cons (eg_name (pg_name (i := 3) sc_Sender__init.nd rfl (by first | exact Or.inl rfl | exact Or.inr rfl))) egs_nil)) rfl) (ess_one (es_if (eb_not (eb_val (ev_call (okc_are_ways T) (hr.mono (by decide)) (by rfl) T.h_are_ways.m T.h_are_ways.F.kp T.h_are_ways.b tk (ec_d (ev_callB call_len_seq o_len (by rfl) T.n_len PySem.boot_len (ea_cons (ev_var 1 (pv 1)) ea_nil')) (ec_d (ev_var 3 (pv 3)) ec_nil))))) (ess_one (es_raise1 (C := X_NoSender) rfl tk T.xi_NoSender (okc_NoSender__init T) (hr.mono (by decide)) T.h_NoSender__init.b (by rfl) T.xm_NoSender (ev_var 2 (pv 2)))) ess_nil)))
    (ess_one (es_fldO (C := 0) (pv 0) (en_lcO (own := [("of_state", 3)]) rfl sc_Sender__init.nd (ei_list (ev_var 1 (pv 1)) rfl) (blkOk_by (N := N_Sender__init) (sc := (defScope s_Sender__init)) (by decide +kernel)) (fun _ _ _ _ _ => (eg_name (pg_name (i := 3) sc_Sender__init.nd rfl (by first | exact Or.inl rfl | exact Or.inr rfl)))) (fun _ _ _ _ _ => ets_nil) (fun _ _ _ _ _ => (El.en (el_list rfl (by rfl) T.n_list Bt.t_list (ea_cons (ev_var 3 (pv 3)) ea_nil')))) (by decide)) T.cl_0 T.na_0_exits))))
abbrev xNoSender (i : Int) : Xc := ⟨X_NoSender, [("state", .int i)]⟩
def c_Sender__init (as : List Sl) : W (List (Str × OD)) := fun Q _ => ∃ W, as = [.fz (dAll W)] ∧ SendOk W ∧ Q [("exits", oWays W)]
theorem ref_Sender__init (as : List Sl) (Q : List (Str × OD) → Prop) (E : Xc → Prop) (h : c_Sender__init as Q E) : m_Sender__init as Q E := by
  obtain ⟨W, rfl, ok, k⟩ := h
  refine ⟨rfl, ?_⟩
  simp [b_Sender__init]
  have n1 : (1 : Int) ≤ W.length := by have := ok.n1; omega
  have n2 : (W.length : Int) ≤ 2 := by have := ok.n2; omega
  simp [n1, n2]
  show forE _ _ _ ((W.map dWays).zipIdx.map fun p => D.tup [.int (p.2 : Nat), p.1]) _ _ _
  refine forE_inv (fun _ ρ => ∃ a b, ρ = [.bw (OD.ins 0 []), .fz (dAll W), a, b] ∧ a.own = false ∧ b.own = false) (fun i d ρ K hi ⟨a, b, e, _, _⟩ hk _ _ _ => ?_) (fun ρ ⟨a, b, e, ha, hb⟩ => ?_) ⟨.un, .un, rfl, rfl, rfl⟩
  · subst e
    obtain ⟨y, hy, rfl⟩ := zip_at' hi
    have : y ∈ W.map dWays := List.mem_of_getElem? hy
    obtain ⟨l, hl, rfl⟩ := List.mem_map.mp this
    simp
    refine ⟨W.length, dWays l, rfl, askW_ways (by have := (ok.ok l hl).2.1; omega), ?_⟩
    rw [send_waysB ok hl]
    simp
    exact hk _ ⟨_, _, rfl, rfl, rfl⟩
  · subst e
    simp
    refine ⟨⟨by simp [okW, hb], sz (by omega)⟩, lcO_map dWays (fun l => OD.lf (l.map dWay)) (fun l hl K hK => ?_) k⟩
    simpa [wipeE, OD.lf] using hK

theorem okc_Sender__init (T : Txt K mg a) : FnOk P w K mg base (L2.CX P w) 6 a.a_Sender__init a.d_Sender__init ["self", "ways"] (PSp (G K a) (initO 0 c_Sender__init)) := (ok_Sender__init T).imp fun _ _ _ _ h => PSp.mono (initO.mono ref_Sender__init) h
abbrev s_law_is_integer : Stmt := (top 20)
abbrev N_law_is_integer : List Str := ["_law_value"]
theorem sc_law_is_integer : FnScope N_law_is_integer ["_law_value"] (defScope s_law_is_integer) := ⟨rfl, rfl, rfl, by decide +kernel, rfl, by decide +kernel, by decide +kernel⟩
def b_law_is_integer : QL.Env → Ws := (sRet (andV (un1 (isiD "int") (rd 0)) (notV (un1 (isiD "bool") (rd 0)))))
def m_law_is_integer : List Sl → W D := mFunP 1 N_law_is_integer.length b_law_is_integer
theorem ok_law_is_integer (T : Txt K mg a) : FnOk P w K mg base (L2.CX P w) 1 a.a_law_is_integer a.d_law_is_integer ["_law_value"] (PSp (G K a) (liftP m_law_is_integer)) :=
  fn_okP (G := G K a) T.h_law_is_integer.F sc_law_is_integer fun cdv A outer s H E hr tk =>
  (ess_one (es_ret (ev_and (ev_isi (T := "int") (pe_bltn (by rfl) T.n_int Bt.t_int rfl) (ev_var 0 (pv 0)) rfl (by rfl) T.n_isinstance) (ev_one (ev_not (ev_isi (T := "bool") (pe_bltn (by rfl) T.n_bool Bt.t_bool rfl) (ev_var 0 (pv 0)) rfl (by rfl) T.n_isinstance))))))
def c_law_is_integer : List Sl → W D
  | [.fz (.int i)] => W.pure (.bl true)
  | _ => W.fail
@[simp] theorem c_law_is_integer_app {i : Int} {Q : D → Prop} {E : Xc → Prop} : c_law_is_integer [.fz (.int i)] Q E = Q (.bl true) := rfl
theorem ref_law_is_integer (as : List Sl) (Q : D → Prop) (E : Xc → Prop) (h : c_law_is_integer as Q E) : m_law_is_integer as Q E := by
  unfold c_law_is_integer at h
  split at h
  · have h : Q (.bl true) := h
    exact ⟨rfl, by simpa [b_law_is_integer] using h⟩
  · exact h.elim

theorem okc_law_is_integer (T : Txt K mg a) : FnOk P w K mg base (L2.CX P w) 1 a.a_law_is_integer a.d_law_is_integer ["_law_value"] (PSp (G K a) (liftP c_law_is_integer)) := (ok_law_is_integer T).imp fun _ _ _ _ h => PSp.mono (liftP.mono ref_law_is_integer) h
abbrev s_Sender_state_count : Stmt := (inClass (top 13) 1)
abbrev N_Sender_state_count : List Str := ["self"]
theorem sc_Sender_state_count : FnScope N_Sender_state_count ["self"] (defScope s_Sender_state_count) := ⟨rfl, rfl, rfl, by decide +kernel, rfl, by decide +kernel, by decide +kernel⟩
def b_Sender_state_count : QL.Env → Ws := (sRet (callN lenD (consA (un1 (fldC 0 "exits") (rd 0)) nilA)))
def m_Sender_state_count : List Sl → W D := mFunP 1 N_Sender_state_count.length b_Sender_state_count
theorem ok_Sender_state_count (T : Txt K mg a) : FnOk P w K mg base (L2.CX P w) 1 a.a_Sender_state_count a.d_Sender_state_count ["self"] (PSp (G K a) (liftP m_Sender_state_count)) :=
  fn_okP (G := G K a) T.h_Sender_state_count.F sc_Sender_state_count fun cdv A outer s H E hr tk =>
  (ess_one (es_ret (ev_callB call_len_seq o_len (by rfl) T.n_len PySem.boot_len (ea_cons (ev_fld (C := 0) (ev_var 0 (pv 0)) T.cl_0 T.na_0_exits rfl) ea_nil'))))
def c_Sender_state_count (as : List Sl) : W D := fun Q _ => ∃ (W : List (List Way)), as = [.fz (dSend W)] ∧ Q (.int W.length)
theorem ref_Sender_state_count (as : List Sl) (Q : D → Prop) (E : Xc → Prop) (h : c_Sender_state_count as Q E) : m_Sender_state_count as Q E := by
  obtain ⟨W, rfl, k⟩ := h
  refine ⟨rfl, ?_⟩
  simpa [b_Sender_state_count, dSend] using k

theorem okc_Sender_state_count (T : Txt K mg a) : FnOk P w K mg base (L2.CX P w) 1 a.a_Sender_state_count a.d_Sender_state_count ["self"] (PSp (G K a) (liftP c_Sender_state_count)) := (ok_Sender_state_count T).imp fun _ _ _ _ h => PSp.mono (liftP.mono ref_Sender_state_count) h
abbrev s_Sender_check_state : Stmt := (inClass (top 13) 6)
abbrev N_Sender_check_state : List Str := ["self", "state"]
theorem sc_Sender_check_state : FnScope N_Sender_check_state ["self", "state"] (defScope s_Sender_check_state) := ⟨rfl, rfl, rfl, by decide +kernel, rfl, by decide +kernel, by decide +kernel⟩
def b_Sender_check_state : QL.Env → Ws := (sIf (notB (testB (callF c_is_index (argsP (dC (rd 1) (dC (callN lenD (consA (un1 (fldC 0 "exits") (rd 0)) nilA)) nilC)))))) (sRaise0 X_NoState) sNx)
def m_Sender_check_state : List Sl → W D := mFunP 2 N_Sender_check_state.length b_Sender_check_state
theorem ok_Sender_check_state (T : Txt K mg a) : FnOk P w K mg base (L2.CX P w) 4 a.a_Sender_check_state a.d_Sender_check_state ["self", "state"] (PSp (G K a) (liftP m_Sender_check_state)) :=
  fn_okP (G := G K a) T.h_Sender_check_state.F sc_Sender_check_state fun cdv A outer s H E hr tk =>
  (ess_one (es_if (eb_not (eb_val (ev_call (okc_is_index T) (hr.mono (by decide)) (by rfl) T.h_is_index.m T.h_is_index.F.kp T.h_is_index.b tk (ec_d (ev_var 1 (pv 1)) (ec_d (ev_callB call_len_seq o_len (by rfl) T.n_len PySem.boot_len (ea_cons (ev_fld (C := 0) (ev_var 0 (pv 0)) T.cl_0 T.na_0_exits rfl) ea_nil')) ec_nil))))) (ess_one (es_raise0 (C := X_NoState) rfl tk T.xe_NoState T.xf_NoState.xcB T.xm_NoState (by rfl))) ess_nil))
abbrev xNoState : Xc := ⟨X_NoState, []⟩
def c_Sender_check_state (as : List Sl) : W D := fun Q E => ∃ (W : List (List Way)) (d : D), as = [.fz (dSend W), .fz d] ∧ plD d ∧ ((ixOk W.length d = false ∧ E xNoState) ∨ (ixOk W.length d = true ∧ Q .non))
theorem ref_Sender_check_state (as : List Sl) (Q : D → Prop) (E : Xc → Prop) (h : c_Sender_check_state as Q E) : m_Sender_check_state as Q E := by
  obtain ⟨W, d, rfl, hd, k⟩ := h
  refine ⟨rfl, ?_⟩
  simp [b_Sender_check_state, dSend]
  refine ⟨d, _, rfl, hd, ?_⟩
  rcases k with ⟨e, k⟩ | ⟨e, k⟩
  · simpa [e, sRaise0] using k
  · simpa [e] using k

theorem okc_Sender_check_state (T : Txt K mg a) : FnOk P w K mg base (L2.CX P w) 4 a.a_Sender_check_state a.d_Sender_check_state ["self", "state"] (PSp (G K a) (liftP c_Sender_check_state)) := (ok_Sender_check_state T).imp fun _ _ _ _ h => PSp.mono (liftP.mono ref_Sender_check_state) h
abbrev s_Sender_ways : Stmt := (inClass (top 13) 2)
abbrev N_Sender_ways : List Str := ["self", "state"]
theorem sc_Sender_ways : FnScope N_Sender_ways ["self", "state"] (defScope s_Sender_ways) := ⟨rfl, rfl, rfl, by decide +kernel, rfl, by decide +kernel, by decide +kernel⟩
def b_Sender_ways : QL.Env → Ws := (sSeq (sDrop (callM 0 "check_state" c_Sender_check_state (rd 0) (argsP (dC (rd 1) nilC))))
    (sRetO (lstO (listN (consA (bin2 ixD (un1 (fldC 0 "exits") (rd 0)) (rd 1)) nilA)))))
def m_Sender_ways : List Sl → W OD := mFunN 2 N_Sender_ways.length b_Sender_ways
theorem ok_Sender_ways (T : Txt K mg a) : FnOk P w K mg base (L2.CX P w) 5 a.a_Sender_ways a.d_Sender_ways ["self", "state"] (PSp (G K a) (liftN m_Sender_ways)) :=
  fn_okN (G := G K a) T.h_Sender_ways.F sc_Sender_ways fun cdv A outer s H E hr tk =>
  (ess_cons (es_drop (ev_meth (C := 0) (ev_var 0 (pv 0)) T.cl_0 T.h_Sender_check_state.m (okc_Sender_check_state T) (hr.mono (by decide)) T.h_Sender_check_state.b tk (ec_d (ev_var 1 (pv 1)) ec_nil)))
    (ess_one (es_retO (El.en (el_list rfl (by rfl) T.n_list Bt.t_list (ea_cons (ev_ix (ev_fld (C := 0) (ev_var 0 (pv 0)) T.cl_0 T.na_0_exits rfl) (ev_var 1 (pv 1)) rfl (fun _ _ => rfl)) ea_nil'))))))
def c_Sender_ways (as : List Sl) : W D := fun Q _ => ∃ (W : List (List Way)) (i : Nat) (l : List Way), as = [.fz (dSend W), .fz (.int i)] ∧ W[i]? = some l ∧ l.length ≤ 1000 ∧ Q (dWays l)
theorem ref_Sender_ways (as : List Sl) (Q : OD → Prop) (E : Xc → Prop) (h : lfW c_Sender_ways as Q E) : m_Sender_ways as Q E := by
  obtain ⟨W, i, l, rfl, e, hl, ds, hd, k⟩ := h
  cases hd
  have hi := (List.getElem?_eq_some_iff.mp e).1
  refine ⟨rfl, ?_⟩
  simp [b_Sender_ways, dSend]
  refine ⟨noF1 (by decide +kernel), W, .int i, rfl, plD_int, .inr ⟨by simp [ixOk]; omega, dWays l, atI_nat (by rw [List.getElem?_map, e]; rfl), ?_⟩⟩
  simpa [OD.lf] using k

theorem okc_Sender_ways (T : Txt K mg a) : FnOk P w K mg base (L2.CX P w) 5 a.a_Sender_ways a.d_Sender_ways ["self", "state"] (PSp (G K a) (liftN (lfW c_Sender_ways))) := (ok_Sender_ways T).imp fun _ _ _ _ h => PSp.mono (liftN.mono ref_Sender_ways) h
abbrev s_law_ways_told : Stmt := (top 23)
abbrev N_law_ways_told : List Str := ["_law_sender", "_law_ways_here", "_law_state", "_law_told"]
theorem sc_law_ways_told : FnScope N_law_ways_told ["_law_sender", "_law_ways_here"] (defScope s_law_ways_told) := ⟨rfl, rfl, rfl, by decide +kernel, rfl, by decide +kernel, by decide +kernel⟩
def b_law_ways_told : QL.Env → Ws := (sSeq (sIf (orB (notB (testB (callF c_law_is_integer (argsP (dC (callM 0 "state_count" c_Sender_state_count (rd 0) (argsP nilC)) nilC))))) (testB (bin2 neD (callM 0 "state_count" c_Sender_state_count (rd 0) (argsP nilC)) (callN lenD (consA (rd 1) nilA))))) (sRet (kst (.bl false))) sNx)
    (sSeq (sFor [] (rng1 (callN lenD (consA (rd 1) nilA))) (nameG 2) (sSeq (sSetO 3 (callMO 0 "ways" (lfW c_Sender_ways) (rd 0) (argsP (dC (rd 2) nilC))))
    (sSeq (sIf (brwB (orB (notB (testB (un1 (isiD "list") (rd 3)))) (testB (bin2 neD (rd 3) (bin2 ixD (rd 1) (rd 2)))))) (sRet (kst (.bl false))) sNx)
    (sSeq (sClr 3 (fVar 3))
    (sIf (testB (bin2 neD (frO (callMO 0 "ways" (lfW c_Sender_ways) (rd 0) (argsP (dC (rd 2) nilC)))) (bin2 ixD (rd 1) (rd 2)))) (sRet (kst (.bl false))) sNx)))))
    (sRet (kst (.bl true)))))
def m_law_ways_told : List Sl → W D := mFunP 2 N_law_ways_told.length b_law_ways_told
theorem ok_law_ways_told (T : Txt K mg a) : FnOk P w K mg base (L2.CX P w) 6 a.a_law_ways_told a.d_law_ways_told ["_law_sender", "_law_ways_here"] (PSp (G K a) (liftP m_law_ways_told)) :=
  fn_okP (G := G K a) T.h_law_ways_told.F sc_law_ways_told fun cdv A outer s H E hr tk =>
  (ess_cons (es_if (eb_w (ew_or (eb_not (eb_val (ev_call (okc_law_is_integer T) (hr.mono (by decide)) (by rfl) T.h_law_is_integer.m T.h_law_is_integer.F.kp T.h_law_is_integer.b tk (ec_d (ev_meth0 (C := 0) (ev_var 0 (pv 0)) T.cl_0 T.h_Sender_state_count.m (okc_Sender_state_count T) (hr.mono (by decide)) T.h_Sender_state_count.b tk) ec_nil)))) (ew_or1 (eb_cmp (op_neD hr.units) o_ne (ev_meth0 (C := 0) (ev_var 0 (pv 0)) T.cl_0 T.h_Sender_state_count.m (okc_Sender_state_count T) (hr.mono (by decide)) T.h_Sender_state_count.b tk) (ev_callB call_len_seq o_len (by rfl) T.n_len PySem.boot_len (ea_cons (ev_var 1 (pv 1)) ea_nil')) (nomark _))))) (ess_one (es_ret ev_bl)) ess_nil)
    (ess_cons (es_for [] (passes_of rfl) rfl (ei_rng1 (ev_callB call_len_seq o_len (by rfl) T.n_len PySem.boot_len (ea_cons (ev_var 1 (pv 1)) ea_nil')) (by rfl) T.n_range) (eg_name (pg_name (i := 2) sc_law_ways_told.nd rfl (by first | exact Or.inl rfl | exact Or.inr rfl))) (ess_cons (es_setO (en_meth (C := 0) (ev_var 0 (pv 0)) T.cl_0 T.h_Sender_ways.m (okc_Sender_ways T) (hr.mono (by decide)) T.h_Sender_ways.b tk (ec_d (ev_var 2 (pv 2)) ec_nil)) (fun _ pt => ps_set (i := 3) sc_law_ways_told.nd rfl (Or.inl rfl) pt))
    (ess_cons (es_if (eb_brw (eb_w (ew_or (eb_not (eb_val (ev_isi (T := "list") (pe_bltn (by rfl) T.n_list Bt.t_list rfl) (ev_var 3 (pv 3)) rfl (by rfl) T.n_isinstance))) (ew_or1 (eb_cmp (op_neD hr.units) o_ne (ev_var 3 (pv 3)) (ev_ix (ev_var 1 (pv 1)) (ev_var 2 (pv 2)) rfl (fun _ _ => rfl)) (nomark _)))))) (ess_one (es_ret ev_bl)) ess_nil)
    (ess_cons (es_clr (fun _ po => ps_expr (pe_bm0 PySem.F.plainAttrs_list PySem.F.slot_list_clear PySem.F.type_list_clear mt_clear po)) (ef_var (pv 3)))
    (ess_one (es_if (eb_cmp (op_neD hr.units) o_ne (En.ev (en_meth (C := 0) (ev_var 0 (pv 0)) T.cl_0 T.h_Sender_ways.m (okc_Sender_ways T) (hr.mono (by decide)) T.h_Sender_ways.b tk (ec_d (ev_var 2 (pv 2)) ec_nil))) (ev_ix (ev_var 1 (pv 1)) (ev_var 2 (pv 2)) rfl (fun _ _ => rfl)) (nomark _)) (ess_one (es_ret ev_bl)) ess_nil))))))
    (ess_one (es_ret ev_bl))))
def c_law_ways_told (as : List Sl) : W D := fun Q _ => ∃ (W : List (List Way)), as = [.fz (dSend W), .fz (dAll W)] ∧ SendOk W ∧ Q (.bl true)
theorem ref_law_ways_told (as : List Sl) (Q : D → Prop) (E : Xc → Prop) (h : c_law_ways_told as Q E) : m_law_ways_told as Q E := by
  obtain ⟨W, rfl, ok, k⟩ := h
  refine ⟨rfl, ?_⟩
  simp [b_law_ways_told]
  refine ⟨noF1 (by decide +kernel), W, rfl, noF1 (by decide +kernel), W, rfl, ?_⟩
  have n2 := ok.n2
  simp
  refine ⟨by omega, ?_⟩
  refine forE_inv (fun i ρ => ∃ a3 a4, ρ = [.fz (dSend W), .fz (dAll W), a3, a4]) (fun i d ρ K hi ⟨a3, a4, e⟩ hk _ _ _ => ?_) (fun ρ ⟨a3, a4, e⟩ => ?_) ⟨.un, .un, rfl⟩
  · subst e
    obtain ⟨hi', rfl⟩ := rng_at hi
    have hi := hi'
    have e : W[i]? = some W[i] := List.getElem?_eq_getElem hi
    have at' : atI (W.map dWays) (i : Int) = some (dWays W[i]) := atI_nat (by rw [List.getElem?_map, e]; rfl)
    have hl := (ok.ok _ (List.getElem_mem hi)).2.1
    simp
    refine ⟨noF1 (by decide +kernel), W, i, _, rfl, e, by omega, _, rfl, ?_⟩
    simp [at']
    refine neD_ways ?_
    simp
    refine ⟨_, rfl, ⟨_, rfl⟩, noF1 (by decide +kernel), W, i, _, rfl, e, by omega, _, rfl, ?_⟩
    simp
    refine neD_ways ?_
    simp
    exact hk _ ⟨.fz (.int i), _, rfl⟩
  · subst e
    simpa using k

theorem okc_law_ways_told (T : Txt K mg a) : FnOk P w K mg base (L2.CX P w) 6 a.a_law_ways_told a.d_law_ways_told ["_law_sender", "_law_ways_here"] (PSp (G K a) (liftP c_law_ways_told)) := (ok_law_ways_told T).imp fun _ _ _ _ h => PSp.mono (liftP.mono ref_law_ways_told) h
abbrev s_law_behind : Stmt := (top 22)
abbrev N_law_behind : List Str := ["_law_ways_here", "_law_states", "_law_kind", "_law_result", "_law_target", "_law_state"]
theorem sc_law_behind : FnScope N_law_behind ["_law_ways_here", "_law_states", "_law_kind"] (defScope s_law_behind) := ⟨rfl, rfl, rfl, by decide +kernel, rfl, by decide +kernel, by decide +kernel⟩
def b_law_behind : QL.Env → Ws := (sSeq (sSetN 3 (dispN nilA))
    (sSeq (sFor [] (rng1 (callN lenD (consA (rd 0) nilA))) (nameG 4) (sIf (testB (bin2 gtD (callN lenD (consA (lstV (lcN (lstI (rd 1)) [5] (nameG 5) (testB (bin2 (inD false) (dispL D.tup (consA (rd 2) (consA (rd 4) nilA))) (bin2 ixD (rd 0) (rd 5)))) (rd 5))) nilA)) (kst (.int 0)))) (sAppN 3 (rd 4)) sNx))
    (sFrz 3 (sRet (rd 3)))))
def m_law_behind : List Sl → W D := mFunP 3 N_law_behind.length b_law_behind
theorem ok_law_behind (T : Txt K mg a) : FnOk P w K mg base (L2.CX P w) 1 a.a_law_behind a.d_law_behind ["_law_ways_here", "_law_states", "_law_kind"] (PSp (G K a) (liftP m_law_behind)) :=
  fn_okP (G := G K a) T.h_law_behind.F sc_law_behind fun cdv A outer s H E hr tk =>
  (ess_cons (es_setN (el_lst ea_nil') (fun _ pt => ps_set (i := 3) sc_law_behind.nd rfl (Or.inl rfl) pt))
    (ess_cons (es_for [] (passes_of rfl) rfl (ei_rng1 (ev_callB call_len_seq o_len (by rfl) T.n_len PySem.boot_len (ea_cons (ev_var 0 (pv 0)) ea_nil')) (by rfl) T.n_range) (eg_name (pg_name (i := 4) sc_law_behind.nd rfl (by first | exact Or.inl rfl | exact Or.inr rfl))) (ess_one (es_if (eb_cmp op_gt (o_cmp (f := fun i j => decide (j < i))) (ev_callB call_len_seq o_len (by rfl) T.n_len PySem.boot_len (ea_cons (El.ev (el_lc (own := [("_law_state", 5)]) rfl sc_law_behind.nd (ei_list (ev_var 1 (pv 1)) rfl) (blkOk_by (N := N_law_behind) (sc := (defScope s_law_behind)) (by decide +kernel)) (fun _ _ _ _ _ => (eg_name (pg_name (i := 5) sc_law_behind.nd rfl (by first | exact Or.inl rfl | exact Or.inr rfl)))) (fun _ _ _ _ _ => (ets_one (eb_cmp (op_inD (room65 hr)) o_in (ev_tup (ea_cons (ev_var 2 (pv 2)) (ea_cons (ev_var 4 (pv 4)) ea_nil'))) (ev_ix (ev_var 0 (pv 0)) (ev_var 5 (pv 5)) rfl (fun _ _ => rfl)) (by rfl)))) (fun _ _ _ _ _ => (ev_var 5 (pv 5))) (by decide))) ea_nil')) ev_int (nomark _)) (ess_one (es_appN (pv 3) (fun _ _ po pt => ps_expr (pe_bm PySem.F.plainAttrs_list PySem.F.slot_list_append PySem.F.type_list_append mt_append po (pa_cons pt pa_nil))) (ev_var 4 (pv 4)))) ess_nil)))
    (ess_frz 3 (ess_one (es_ret (ev_var 3 (pv 3)))))))
def c_law_behind (as : List Sl) : W D := fun Q _ => ∃ (W : List (List Way)) (S : List Int) (k : Int), as = [.fz (dAll W), .fz (dRow S), .fz (.int k)] ∧ SendOk W ∧ S.length ≤ 2 ∧ (∀ s ∈ S, 0 ≤ s ∧ s < W.length) ∧ Q (dRow (stepW W S k))
def stepN (W : List (List Way)) (S : List Int) (k : Int) (n : Nat) : List Int := ((List.range n).map (fun n : Nat => (n : Int))).filter fun b => S.any fun s => decide ((k, b) ∈ W.getD s.toNat [])
theorem stepN_yes {W : List (List Way)} {S : List Int} {k : Int} {i : Nat} (h : (S.any fun s => decide ((k, (i : Int)) ∈ W.getD s.toNat [])) = true) : stepN W S k (i + 1) = stepN W S k i ++ [(i : Int)] := by
  unfold stepN
  rw [List.range_succ, List.map_append, List.filter_append]
  simp only [List.map_cons, List.map_nil, List.filter_cons, List.filter_nil, h, if_true]
theorem stepN_no {W : List (List Way)} {S : List Int} {k : Int} {i : Nat} (h : (S.any fun s => decide ((k, (i : Int)) ∈ W.getD s.toNat [])) = false) : stepN W S k (i + 1) = stepN W S k i := by
  unfold stepN
  rw [List.range_succ, List.map_append, List.filter_append]
  simp only [List.map_cons, List.map_nil, List.filter_cons, List.filter_nil, h, if_false, List.append_nil]
  simp
theorem stepN_len {W : List (List Way)} {S : List Int} {k : Int} {i : Nat} : (stepN W S k i).length ≤ i := Nat.le_trans (List.length_filter_le _ _) (by simp)
theorem any_len {S : List Int} {p : Int → Bool} : (S.any p = true → 0 < (S.filter p).length) ∧ (S.any p = false → (S.filter p).length = 0) := by
  constructor
  · intro hz
    obtain ⟨s, hs, hm⟩ := List.any_eq_true.mp hz
    exact List.length_pos_of_mem (List.mem_filter.mpr ⟨hs, hm⟩)
  · intro hz
    rw [List.length_eq_zero_iff, List.filter_eq_nil_iff]
    exact fun a ha h => by rw [List.any_eq_false] at hz; exact hz a ha h
theorem ref_law_behind (as : List Sl) (Q : D → Prop) (E : Xc → Prop) (h : c_law_behind as Q E) : m_law_behind as Q E := by
  obtain ⟨W, S, k, rfl, ok, hl, hS, q⟩ := h
  refine ⟨rfl, ?_⟩
  simp [b_law_behind]
  have n2 := ok.n2
  refine ⟨by omega, ?_⟩
  refine forE_inv (fun i ρ => ∃ a4 a5, a5.own = false ∧ ρ = [.fz (dAll W), .fz (dRow S), .fz (.int k), .ow (OD.lf ((stepN W S k i).map D.int)), a4, a5])
    (fun i d ρ K hi ⟨a4, a5, h5, e⟩ hk _ _ _ => ?_) (fun ρ ⟨a4, a5, h5, e⟩ => ?_) ⟨.un, .un, rfl, by simp [stepN]⟩
  · subst e
    obtain ⟨hi, rfl⟩ := rng_at hi
    simp
    refine ⟨⟨by simp [okW, h5], sz (by omega)⟩, ?_⟩
    refine lcL_filter D.int D.int (fun s => decide ((k, (i : Int)) ∈ W.getD s.toNat [])) (fun s hs k1 k2 hk1 hk2 => ?_) ?_
    · obtain ⟨h0, h1⟩ := hS s hs
      obtain ⟨n, rfl⟩ := Int.eq_ofNat_of_zero_le h0
      have hn : n < W.length := by omega
      have e : W[n]? = some W[n] := List.getElem?_eq_getElem hn
      simp [wipeE]
      refine ⟨sz_lt (by decide), dWays W[n], atI_nat (by rw [List.getElem?_map, e]; rfl), ?_⟩
      refine in_ways ?_
      have e2 : W.getD (n : Int).toNat [] = W[n] := by simp [e]
      rw [e2] at hk1 hk2
      by_cases hm : (k, (i : Int)) ∈ W[n]
      · simp only [hm, decide_true]
        exact hk1 (by simp [hm])
      · simp only [hm, decide_false]
        exact hk2 (by simp [hm])
    · obtain ⟨y1, y2⟩ := any_len (S := S) (p := fun s => decide ((k, (i : Int)) ∈ W.getD s.toNat []))
      have sl := stepN_len (W := W) (S := S) (k := k) (i := i)
      cases hz : (S.any fun s => decide ((k, (i : Int)) ∈ W.getD s.toNat [])) with
      | true =>
        have y := y1 hz
        have e3 := stepN_yes hz
        generalize (S.filter fun s => decide ((k, (i : Int)) ∈ W.getD s.toNat [])) = zs at y ⊢
        generalize stepN W S k i = ys at hk sl e3 ⊢
        have y' : (0 : Int) < zs.length := by omega
        simp [y, y']
        refine ⟨sz_lt (by omega), ?_⟩
        refine hk _ ⟨.fz (.int i), _, h5, ?_⟩
        rw [e3]
        simp
      | false =>
        have y := y2 hz
        have e3 := stepN_no hz
        generalize (S.filter fun s => decide ((k, (i : Int)) ∈ W.getD s.toNat [])) = zs at y ⊢
        generalize stepN W S k i = ys at hk sl e3 ⊢
        have y' : zs = [] := List.length_eq_zero_iff.mp y
        subst y'
        simp
        refine hk _ ⟨.fz (.int i), _, h5, ?_⟩
        rw [e3]
        simp
  · subst e
    simp
    exact q

theorem okc_law_behind (T : Txt K mg a) : FnOk P w K mg base (L2.CX P w) 1 a.a_law_behind a.d_law_behind ["_law_ways_here", "_law_states", "_law_kind"] (PSp (G K a) (liftP c_law_behind)) := (ok_law_behind T).imp fun _ _ _ _ h => PSp.mono (liftP.mono ref_law_behind) h
abbrev s_check_kinds : Stmt := (top 16)
abbrev N_check_kinds : List Str := ["word", "kind"]
theorem sc_check_kinds : FnScope N_check_kinds ["word"] (defScope s_check_kinds) := ⟨rfl, rfl, rfl, by decide +kernel, rfl, by decide +kernel, by decide +kernel⟩
def b_check_kinds : QL.Env → Ws := (sIf (orB (notB (testB (un1 (isiD "list") (rd 0)))) (notB (testB (callN (allD fun bs => bs.all id) (consA (lstV (lcN (lstI (rd 0)) [1] (nameG 1) yesB (callF c_is_index (argsP (dC (rd 1) (dC (kst (.int 3)) nilC)))))) nilA))))) (sRaise0 X_NoWord) sNx)
def m_check_kinds : List Sl → W D := mFunP 1 N_check_kinds.length b_check_kinds
theorem ok_check_kinds (T : Txt K mg a) : FnOk P w K mg base (L2.CX P w) 4 a.a_check_kinds a.d_check_kinds ["word"] (PSp (G K a) (liftP m_check_kinds)) :=
  fn_okP (G := G K a) T.h_check_kinds.F sc_check_kinds fun cdv A outer s H E hr tk =>
  (ess_one (es_if (eb_w (ew_or (eb_not (eb_val (ev_isi (T := "list") (pe_bltn (by rfl) T.n_list Bt.t_list rfl) (ev_var 0 (pv 0)) rfl (by rfl) T.n_isinstance))) (ew_or1 (eb_not (eb_val (ev_callB (cr_all rfl) o_all (by rfl) T.n_all Bt.all (ea_cons (El.ev (el_lc (own := [("kind", 1)]) rfl sc_check_kinds.nd (ei_list (ev_var 0 (pv 0)) rfl) (blkOk_by (N := N_check_kinds) (sc := (defScope s_check_kinds)) (by decide +kernel)) (fun _ _ _ _ _ => (eg_name (pg_name (i := 1) sc_check_kinds.nd rfl (by first | exact Or.inl rfl | exact Or.inr rfl)))) (fun _ _ _ _ _ => ets_nil) (fun _ _ _ _ _ => (ev_call (okc_is_index T) (hr.mono (by decide)) (by rfl) T.h_is_index.m T.h_is_index.F.kp T.h_is_index.b takes0 (ec_d (ev_var 1 (pv 1)) (ec_d (ev_globI' (by rfl) T.c_MOST_KINDS) ec_nil)))) (by decide))) ea_nil'))))))) (ess_one (es_raise0 (C := X_NoWord) rfl tk T.xe_NoWord T.xf_NoWord.xcB T.xm_NoWord (by rfl))) ess_nil))
abbrev xNoWord : Xc := ⟨X_NoWord, []⟩
def c_check_kinds (as : List Sl) : W D := fun Q E => ∃ d, as = [.fz d] ∧ askK d ∧ ((kindsB d = false ∧ E xNoWord) ∨ (kindsB d = true ∧ Q .non))
theorem ref_check_kinds (as : List Sl) (Q : D → Prop) (E : Xc → Prop) (h : c_check_kinds as Q E) : m_check_kinds as Q E := by
  obtain ⟨d, rfl, ⟨hd, hx⟩, k⟩ := h
  refine ⟨rfl, ?_⟩
  simp [b_check_kinds, isi_list hd]
  by_cases ht : isLst d = true
  · cases d <;> simp [isLst] at ht
    rename_i xs
    obtain ⟨h1, h2⟩ := hx xs rfl
    simp [isLst]
    refine ⟨⟨rfl, sz (by omega)⟩, ?_⟩
    refine lcL_same (fun x => .bl (ixOk 3 x)) (fun y hy K hK => ?_) (allD_map ?_)
    · simpa [wipeE] using ⟨y, 3, rfl, h2 y hy, hK⟩
    · rcases k with ⟨e, k⟩ | ⟨e, k⟩
      · have e : xs.all (ixOk 3) = false := e
        rw [e]
        simpa [sRaise0] using k
      · have e : xs.all (ixOk 3) = true := e
        rw [e]
        simpa using k
  · simp only [Bool.not_eq_true] at ht
    rcases k with ⟨e, k⟩ | ⟨e, k⟩
    · simpa [ht, sRaise0] using k
    · cases d <;> simp [kindsB, isLst] at e ht

theorem okc_check_kinds (T : Txt K mg a) : FnOk P w K mg base (L2.CX P w) 4 a.a_check_kinds a.d_check_kinds ["word"] (PSp (G K a) (liftP c_check_kinds)) := (ok_check_kinds T).imp fun _ _ _ _ h => PSp.mono (liftP.mono ref_check_kinds) h
abbrev s_Sender_followed : Stmt := (inClass (top 13) 5)
abbrev N_Sender_followed : List Str := ["self", "states", "word", "kind", "state", "emitted", "behind"]
theorem sc_Sender_followed : FnScope N_Sender_followed ["self", "states", "word"] (defScope s_Sender_followed) := ⟨rfl, rfl, rfl, by decide +kernel, rfl, by decide +kernel, by decide +kernel⟩
def b_Sender_followed : QL.Env → Ws := (sSeq (sFor [] (lstI (rd 2)) (nameG 3) (sSet 1 (srtG (lstI (rd 1)) [4, 5, 6] (nameG 4) (lstI (bin2 ixD (un1 (fldC 0 "exits") (rd 0)) (rd 4))) [5, 6] (tupG 2 (consG (nameG 5) (consG (nameG 6) nilG))) (testB (bin2 eqD (rd 5) (rd 3))) (rd 6))))
    (sRet (rd 1)))
def m_Sender_followed : List Sl → W D := mFunP 3 N_Sender_followed.length b_Sender_followed
theorem ok_Sender_followed (T : Txt K mg a) : FnOk P w K mg base (L2.CX P w) 1 a.a_Sender_followed a.d_Sender_followed ["self", "states", "word"] (PSp (G K a) (liftP m_Sender_followed)) :=
  fn_okP (G := G K a) T.h_Sender_followed.F sc_Sender_followed fun cdv A outer s H E hr tk =>
  (ess_cons (es_for [] (passes_of rfl) rfl (ei_list (ev_var 2 (pv 2)) rfl) (eg_name (pg_name (i := 3) sc_Sender_followed.nd rfl (by first | exact Or.inl rfl | exact Or.inr rfl))) (ess_one (es_set (ev_srt (own := [("state", 4), ("emitted", 5), ("behind", 6)]) (vs1 := [5, 6]) rfl sc_Sender_followed.nd (ei_list (ev_var 1 (pv 1)) rfl) (blkOk_by (N := N_Sender_followed) (sc := (defScope s_Sender_followed)) (by decide +kernel)) (fun _ _ _ _ _ => (eg_name (pg_name (i := 4) sc_Sender_followed.nd rfl (by first | exact Or.inl rfl | exact Or.inr rfl)))) (fun _ _ _ _ _ => (ei_list (ev_ix (ev_fld (C := 0) (ev_var 0 (pv 0)) T.cl_0 T.na_0_exits rfl) (ev_var 4 (pv 4)) rfl (fun _ _ => rfl)) rfl)) (fun _ _ _ _ _ => (eg_tup rfl (egs_cons (eg_name (pg_name (i := 5) sc_Sender_followed.nd rfl (by first | exact Or.inl rfl | exact Or.inr rfl))) (egs_cons (eg_name (pg_name (i := 6) sc_Sender_followed.nd rfl (by first | exact Or.inl rfl | exact Or.inr rfl))) egs_nil)) rfl)) (fun _ _ _ _ _ => (ets_one (eb_cmp (op_eqD hr.units) o_eq (ev_var 5 (pv 5)) (ev_var 3 (pv 3)) (nomark _)))) (fun _ _ _ _ _ => (ev_var 6 (pv 6))) (by decide) (by decide) (by decide) (by rfl) T.n_sorted) (fun _ pt => ps_set (i := 1) sc_Sender_followed.nd rfl (Or.inl rfl) pt))))
    (ess_one (es_ret (ev_var 1 (pv 1)))))
def c_Sender_followed (as : List Sl) : W D := fun Q _ => ∃ (W : List (List Way)) (S ks : List Int), as = [.fz (dSend W), .fz (dRow S), .fz (dRow ks)] ∧ SendOk W ∧ S.length ≤ 2 ∧ (∀ s ∈ S, 0 ≤ s ∧ s < W.length) ∧ ks.length ≤ 50000 ∧ Q (dRow (foldW W S ks))
theorem followed_in {A0 A1 A2 : Sl} {k s : Int} {K : List Int → Prop} : ∀ (ws : List Way) (acc : List Int), acc.length + ws.length ≤ 63 → K (acc ++ (ws.filter (fun w => decide (w.1 = k))).map (·.2)) →
    sIn [5, 6] (tupG 2 (consG (nameG 5) (consG (nameG 6) nilG))) (testB (bin2 eqD (rd 5) (rd 3))) (rd 6) [A0, A1, A2, .fz (.int k), .fz (.int s), .un, .un] (ws.map dWay) acc K
  | [], acc, _, h => by simpa [sIn] using h
  | w :: ws, acc, hl, h => by
    simp only [List.length_cons] at hl
    simp [sIn, wipeE]
    by_cases hw : w.1 = k
    · simp [hw]
      refine ⟨by omega, followed_in ws _ (by simp; omega) ?_⟩
      simpa [hw] using h
    · simp [hw]
      refine followed_in ws _ (by omega) ?_
      simpa [hw] using h
theorem followed_out {W : List (List Way)} {A1 A2 : Sl} {k : Int} {K : List Int → Prop} (ok : SendOk W) : ∀ (S acc : List Int), (∀ s ∈ S, 0 ≤ s ∧ s < W.length) → acc.length + 6 * S.length ≤ 63 → K (acc ++ S.flatMap fun s => ((W.getD s.toNat []).filter (fun w => decide (w.1 = k))).map (·.2)) →
    sOut [4, 5, 6] (nameG 4) (lstI (bin2 ixD (un1 (fldC 0 "exits") (rd 0)) (rd 4))) [5, 6] (tupG 2 (consG (nameG 5) (consG (nameG 6) nilG))) (testB (bin2 eqD (rd 5) (rd 3))) (rd 6) [.fz (dSend W), A1, A2, .fz (.int k), .un, .un, .un] (S.map D.int) acc K
  | [], acc, _, _, h => by simpa [sOut] using h
  | s :: S, acc, hS, hl, h => by
    simp only [List.length_cons] at hl
    obtain ⟨h0, h1⟩ := hS s (by simp)
    obtain ⟨n, rfl⟩ := Int.eq_ofNat_of_zero_le h0
    have hn : n < W.length := by omega
    have e : W[n]? = some W[n] := List.getElem?_eq_getElem hn
    have o := (ok.ok _ (List.getElem_mem hn)).2.1
    simp [sOut, wipeE, dSend]
    refine ⟨dWays W[n], atI_nat (by rw [List.getElem?_map, e]; rfl), ?_⟩
    simp
    refine followed_in W[n] acc (by omega) ?_
    refine followed_out (W := W) ok S _ (fun x hx => hS x (by simp [hx])) ?_ ?_
    · have := List.length_filter_le (fun w : Way => decide (w.1 = k)) W[n]
      simp
      omega
    · have e2 : W.getD (n : Int).toNat [] = W[n] := by simp [e]
      rw [List.flatMap_cons, e2] at h
      simpa using h
theorem followed_step {W : List (List Way)} {A2 : Sl} {S : List Int} {k : Int} {Q : D → Prop} {E : Xc → Prop} (ok : SendOk W) (hS : ∀ s ∈ S, 0 ≤ s ∧ s < W.length) (hl : S.length ≤ 2) (q : Q (dRow (stepW W S k))) :
    srtG (lstI (rd 1)) [4, 5, 6] (nameG 4) (lstI (bin2 ixD (un1 (fldC 0 "exits") (rd 0)) (rd 4))) [5, 6] (tupG 2 (consG (nameG 5) (consG (nameG 6) nilG))) (testB (bin2 eqD (rd 5) (rd 3))) (rd 6) [.fz (dSend W), .fz (dRow S), A2, .fz (.int k), .un, .un, .un] Q E := by
  unfold srtG srt0
  simp
  refine ⟨rfl, followed_out ok S [] hS (by simp; omega) fun ns hp hm => ?_⟩
  have e : ns = stepW W S k := asc_unique hp stepW_asc fun b => by
    rw [hm b, stepW_mem ok hS]
    simp
  rw [e]
  exact q
theorem foldW_in {W : List (List Way)} : ∀ (ks : List Int) {S : List Int}, S.length ≤ 2 → W.length ≤ 2 → (∀ s ∈ S, 0 ≤ s ∧ s < W.length) → (foldW W S ks).length ≤ 2 ∧ ∀ s ∈ foldW W S ks, 0 ≤ s ∧ s < W.length
  | [], S, h, _, hS => ⟨h, hS⟩
  | k :: ks, S, h, hw, hS => foldW_in ks (S := stepW W S k) (Nat.le_trans stepW_len hw) hw fun s hs => stepW_in hs
theorem foldW_snoc {W : List (List Way)} {S ks : List Int} {k : Int} : foldW W S (ks ++ [k]) = stepW W (foldW W S ks) k := by simp [foldW]
theorem ref_Sender_followed (as : List Sl) (Q : D → Prop) (E : Xc → Prop) (h : c_Sender_followed as Q E) : m_Sender_followed as Q E := by
  obtain ⟨W, S, ks, rfl, ok, hl, hS, hk, q⟩ := h
  refine ⟨rfl, ?_⟩
  simp only [b_Sender_followed, sSeq_app, sFor_app, lstI_app, rd_app]
  refine forE_inv (ds := ks.map D.int) (fun i ρ => ∃ a, ρ = [.fz (dSend W), .fz (dRow (foldW W S (ks.take i))), .fz (dRow ks), a, .un, .un, .un]) (fun i d ρ K hi ⟨a, e⟩ hk' _ _ _ => ?_) (fun ρ ⟨a, e⟩ => ?_) ⟨.un, by simp [foldW]⟩
  · subst e
    rw [List.getElem?_map, Option.map_eq_some_iff] at hi
    obtain ⟨k, hi, rfl⟩ := hi
    obtain ⟨f1, f2⟩ := foldW_in (W := W) (ks.take i) hl ok.n2 hS
    have hil := (List.getElem?_eq_some_iff.mp hi).1
    have e2 : ks.take (i + 1) = ks.take i ++ [k] := by
      rw [List.take_add_one, hi]; rfl
    simp only [nameG_app, sSet_app, List.set_cons_succ, List.set_cons_zero]
    refine followed_step ok f2 f1 (hk' _ ⟨.fz (.int k), ?_⟩)
    rw [e2, foldW_snoc]
  · subst e
    simpa using q

theorem okc_Sender_followed (T : Txt K mg a) : FnOk P w K mg base (L2.CX P w) 1 a.a_Sender_followed a.d_Sender_followed ["self", "states", "word"] (PSp (G K a) (liftP c_Sender_followed)) := (ok_Sender_followed T).imp fun _ _ _ _ h => PSp.mono (liftP.mono ref_Sender_followed) h
abbrev s_Sender_states_behind : Stmt := (inClass (top 13) 3)
abbrev N_Sender_states_behind : List Str := ["self", "state", "word"]
theorem sc_Sender_states_behind : FnScope N_Sender_states_behind ["self", "state", "word"] (defScope s_Sender_states_behind) := ⟨rfl, rfl, rfl, by decide +kernel, rfl, by decide +kernel, by decide +kernel⟩
def b_Sender_states_behind : QL.Env → Ws := (sSeq (sDrop (callM 0 "check_state" c_Sender_check_state (rd 0) (argsP (dC (rd 1) nilC))))
    (sSeq (sDrop (callF c_check_kinds (argsP (dC (rd 2) nilC))))
    (sRet (callM 0 "followed" c_Sender_followed (rd 0) (argsP (dC (dispL D.lst (consA (rd 1) nilA)) (dC (rd 2) nilC)))))))
def m_Sender_states_behind : List Sl → W D := mFunP 3 N_Sender_states_behind.length b_Sender_states_behind
theorem ok_Sender_states_behind (T : Txt K mg a) : FnOk P w K mg base (L2.CX P w) 5 a.a_Sender_states_behind a.d_Sender_states_behind ["self", "state", "word"] (PSp (G K a) (liftP m_Sender_states_behind)) :=
  fn_okP (G := G K a) T.h_Sender_states_behind.F sc_Sender_states_behind fun cdv A outer s H E hr tk =>
  (ess_cons (es_drop (ev_meth (C := 0) (ev_var 0 (pv 0)) T.cl_0 T.h_Sender_check_state.m (okc_Sender_check_state T) (hr.mono (by decide)) T.h_Sender_check_state.b tk (ec_d (ev_var 1 (pv 1)) ec_nil)))
    (ess_cons (es_drop (ev_call (okc_check_kinds T) (hr.mono (by decide)) (by rfl) T.h_check_kinds.m T.h_check_kinds.F.kp T.h_check_kinds.b tk (ec_d (ev_var 2 (pv 2)) ec_nil)))
    (ess_one (es_ret (ev_meth (C := 0) (ev_var 0 (pv 0)) T.cl_0 T.h_Sender_followed.m (okc_Sender_followed T) (hr.mono (by decide)) T.h_Sender_followed.b tk (ec_d (ev_lst (ea_cons (ev_var 1 (pv 1)) ea_nil')) (ec_d (ev_var 2 (pv 2)) ec_nil)))))))
def c_Sender_states_behind (as : List Sl) : W D := fun Q E => ∃ (W : List (List Way)) (s d : D), as = [.fz (dSend W), .fz s, .fz d] ∧ SendOk W ∧ plD s ∧ askK d ∧
  ((ixOk W.length s = false ∧ E xNoState) ∨ (ixOk W.length s = true ∧ kindsB d = false ∧ E xNoWord) ∨ (∃ i ks, s = .int i ∧ d = dRow ks ∧ ixOk W.length s = true ∧ kindsB d = true ∧ Q (dRow (foldW W [i] ks))))
theorem ref_Sender_states_behind (as : List Sl) (Q : D → Prop) (E : Xc → Prop) (h : c_Sender_states_behind as Q E) : m_Sender_states_behind as Q E := by
  obtain ⟨W, s, d, rfl, ok, hs, ha, k⟩ := h
  refine ⟨rfl, ?_⟩
  simp [b_Sender_states_behind, dSend]
  refine ⟨noF1 (by decide +kernel), W, s, rfl, hs, ?_⟩
  rcases k with ⟨h, k⟩ | ⟨h, h2, k⟩ | ⟨i, ks, rfl, rfl, h, h2, k⟩
  · exact .inl ⟨h, k⟩
  · exact .inr ⟨h, d, rfl, ha, .inl ⟨h2, k⟩⟩
  · refine .inr ⟨h, _, rfl, ha, .inr ⟨h2, noF1 (by decide +kernel), sz (by decide), W, [i], ks, rfl, ok, by simp, ?_, by simpa using (ha.2 _ rfl).1, k⟩⟩
    simpa [ixOk] using h

theorem okc_Sender_states_behind (T : Txt K mg a) : FnOk P w K mg base (L2.CX P w) 5 a.a_Sender_states_behind a.d_Sender_states_behind ["self", "state", "word"] (PSp (G K a) (liftP c_Sender_states_behind)) := (ok_Sender_states_behind T).imp fun _ _ _ _ h => PSp.mono (liftP.mono ref_Sender_states_behind) h
abbrev s_Sender_lets : Stmt := (inClass (top 13) 4)
abbrev N_Sender_lets : List Str := ["self", "word"]
theorem sc_Sender_lets : FnScope N_Sender_lets ["self", "word"] (defScope s_Sender_lets) := ⟨rfl, rfl, rfl, by decide +kernel, rfl, by decide +kernel, by decide +kernel⟩
def b_Sender_lets : QL.Env → Ws := (sSeq (sDrop (callF c_check_kinds (argsP (dC (rd 1) nilC))))
    (sRet (bin2 neD (callM 0 "followed" c_Sender_followed (rd 0) (argsP (dC (dispL D.lst (consA (kst (.int 0)) nilA)) (dC (rd 1) nilC)))) (dispL D.lst nilA))))
def m_Sender_lets : List Sl → W D := mFunP 2 N_Sender_lets.length b_Sender_lets
theorem ok_Sender_lets (T : Txt K mg a) : FnOk P w K mg base (L2.CX P w) 5 a.a_Sender_lets a.d_Sender_lets ["self", "word"] (PSp (G K a) (liftP m_Sender_lets)) :=
  fn_okP (G := G K a) T.h_Sender_lets.F sc_Sender_lets fun cdv A outer s H E hr tk =>
  (ess_cons (es_drop (ev_call (okc_check_kinds T) (hr.mono (by decide)) (by rfl) T.h_check_kinds.m T.h_check_kinds.F.kp T.h_check_kinds.b tk (ec_d (ev_var 1 (pv 1)) ec_nil)))
    (ess_one (es_ret (ev_cmp (op_neD hr.units) o_ne (ev_meth (C := 0) (ev_var 0 (pv 0)) T.cl_0 T.h_Sender_followed.m (okc_Sender_followed T) (hr.mono (by decide)) T.h_Sender_followed.b tk (ec_d (ev_lst (ea_cons ev_int ea_nil')) (ec_d (ev_var 1 (pv 1)) ec_nil))) (ev_lst ea_nil') (nomark _)))))
def c_Sender_lets (as : List Sl) : W D := fun Q E => ∃ (W : List (List Way)) (d : D), as = [.fz (dSend W), .fz d] ∧ SendOk W ∧ askK d ∧ ((kindsB d = false ∧ E xNoWord) ∨ (∃ ks, d = dRow ks ∧ kindsB d = true ∧ Q (.bl (!(foldW W [0] ks).isEmpty))))
theorem ref_Sender_lets (as : List Sl) (Q : D → Prop) (E : Xc → Prop) (h : c_Sender_lets as Q E) : m_Sender_lets as Q E := by
  obtain ⟨W, d, rfl, ok, ha, k⟩ := h
  refine ⟨rfl, ?_⟩
  simp [b_Sender_lets, dSend]
  rcases k with ⟨h, k⟩ | ⟨ks, rfl, h, k⟩
  · exact ⟨d, rfl, ha, .inl ⟨h, k⟩⟩
  · refine ⟨_, rfl, ha, .inr ⟨h, ?_⟩⟩
    have n0 := ok.n1
    refine ⟨noF1 (by decide +kernel), sz (by decide), W, [0], ks, rfl, ok, by simp, by simp; omega, by simpa using (ha.2 _ rfl).1, ?_⟩
    refine neD_row (b := []) ?_
    have : (!decide (foldW W [0] ks = [])) = !(foldW W [0] ks).isEmpty := by cases foldW W [0] ks <;> simp
    rwa [this]

theorem okc_Sender_lets (T : Txt K mg a) : FnOk P w K mg base (L2.CX P w) 5 a.a_Sender_lets a.d_Sender_lets ["self", "word"] (PSp (G K a) (liftP c_Sender_lets)) := (ok_Sender_lets T).imp fun _ _ _ _ h => PSp.mono (liftP.mono ref_Sender_lets) h
abbrev s_law : Stmt := (top 24)
abbrev N_law : List Str := ["_law_script", "_law_pool_here", "_law_kinds", "_law_ways_here", "_law_given", "_law_line", "_law_sender", "_law_word", "_law_behind_here", "_law_state", "_law_k", "_law_source", "_law_kind", "_law_used", "_law_way", "_law_asked", "_law_told", "_law_entry", "_law_states"]
theorem sc_law : FnScope N_law ["_law_script"] (defScope s_law) := ⟨rfl, rfl, rfl, by decide +kernel, rfl, by decide +kernel, by decide +kernel⟩
def lt0 : QL.Env → Ws := (sSeq (sIf (orB (testB (bin2 neD (callM 0 "states_behind" c_Sender_states_behind (rd 6) (argsP (dC (kst (.int 0)) (dC (bin2 mulD (rd 7) (kst (.int 40))) nilC)))) (rd 18))) (testB (bin2 neD (callM 0 "lets" c_Sender_lets (rd 6) (argsP (dC (bin2 mulD (rd 7) (kst (.int 40))) nilC))) (bin2 gtD (callN lenD (consA (rd 18) nilA)) (kst (.int 0)))))) (sRet (kst (.bl false))) sNx)
    (sRet (andV (bin2 eqD (callM 0 "states_behind" c_Sender_states_behind (rd 6) (argsP (dC (kst (.int 0)) (dC (dispL D.lst nilA) nilC)))) (dispL D.lst (consA (kst (.int 0)) nilA))) (bin2 isBD (callM 0 "lets" c_Sender_lets (rd 6) (argsP (dC (dispL D.lst nilA) nilC))) (kst (.bl true))))))
def lt1 : QL.Env → Ws := (sSeq (sFor [] (lstI (bin2 mulD (rd 7) (kst (.int 40)))) (nameG 12) (sSet 18 (callF c_law_behind (argsP (dC (rd 3) (dC (rd 18) (dC (rd 12) nilC)))))))
    lt0)
def lt2 : QL.Env → Ws := (sFrz 7 (sSeq (sSet 18 (dispL D.lst (consA (kst (.int 0)) nilA)))
    lt1))
def lt3 : QL.Env → Ws := (sSeq (sFor [] (rng1 (callN min2D (consA (kst (.int 60)) (consA (callN max2D (consA (kst (.int 5)) (consA (bin2 subD (lenS 0) (kst (.int 1))) nilA))) nilA)))) (nameG 10) (sSeq (sSetP 4 11 (callF c_law_pool (argsP (slC 0 (dC (bin2 addD (kst (.int 1)) (rd 10)) nilC)))))
    (sSeq (sSet 12 (callF c_law_draw (argsP (slC 11 (dC (kst (.int 3)) nilC)))))
    (sSeq (sSet 13 (lstV (lcN (lstI (bin2 ixD (rd 3) (bin2 modD (rd 10) (callN lenD (consA (rd 3) nilA))))) [14] (nameG 14) yesB (bin2 ixD (rd 14) (kst (.int 0))))))
    (sSeq (sIf (testB (bin2 gtD (callF c_law_draw (argsP (slC 11 (dC (kst (.int 6)) nilC)))) (kst (.int 0)))) (sSet 12 (bin2 ixD (rd 13) (callF c_law_draw (argsP (slC 11 (dC (callN lenD (consA (rd 13) nilA)) nilC)))))) sNx)
    (sSeq (sApp1 7 (pVar 7) (scG (rd 12)))
    (sSeq (sFor [] (rng1 (callN lenD (consA (rd 3) nilA))) (nameG 9) (sSeq (sSetIxN 8 (rd 9) (callF c_law_behind (argsP (dC (rd 3) (dC (ixL 8 (rd 9)) (dC (rd 12) nilC))))))
    (sSeq (sSet 15 (brw1 (lstS (listN (consA (rd 7) nilA)))))
    (sSeq (sSet 16 (callM 0 "states_behind" c_Sender_states_behind (rd 6) (argsP (dC (rd 9) (dC (rd 15) nilC)))))
    (sSeq (sIf (brwB (orB (notB (testB (un1 (isiD "list") (rd 16)))) (orB (testB (bin2 neD (rd 16) (bin2 ixD (rd 8) (rd 9)))) (testB (bin2 neD (rd 15) (rd 7)))))) (sRet (kst (.bl false))) sNx)
    (sIf (notB (testB (callN (allD fun bs => bs.all id) (consA (lstV (lcN (lstI (rd 16)) [17] (nameG 17) yesB (callF c_law_is_integer (argsP (dC (rd 17) nilC))))) nilA)))) (sRet (kst (.bl false))) sNx))))))
    (sIf (brwB (orB (testB (bin2 neD (callM 0 "lets" c_Sender_lets (rd 6) (argsP (dC (callN listD (consA (rd 7) nilA)) nilC))) (bin2 gtD (callN lenD (consA (bin2 ixD (rd 8) (kst (.int 0))) nilA)) (kst (.int 0))))) (notB (testB (un1 (isiD "bool") (callM 0 "lets" c_Sender_lets (rd 6) (argsP (dC (rd 7) nilC)))))))) (sRet (kst (.bl false))) sNx))))))))
    lt2)
def lt4 : QL.Env → Ws := (sSeq (sSetN 8 (lcN (rng1 (callN lenD (consA (rd 3) nilA))) [9] (nameG 9) yesB (dispL D.lst (consA (rd 9) nilA))))
    lt3)
def lt5 : QL.Env → Ws := (sSeq (sSet1 7 (dispL D.lst nilA))
    lt4)
def lt6 : QL.Env → Ws := (sSeq (sIf (notB (testB (callF c_law_ways_told (argsP (dC (rd 6) (dC (rd 3) nilC)))))) (sRet (kst (.bl false))) sNx)
    lt5)
def lt7 : QL.Env → Ws := (sSeq (sClr 4 (fVar 4))
    lt6)
def lt8 : QL.Env → Ws := (sSeq (sClr 4 (fIx (fVar 4) (kst (.int 0))))
    lt7)
def lt9 : QL.Env → Ws := (sSeq (sSet 6 (frO (brwL (makeG 0 c_Sender__init (dC (rd 4) nilC)))))
    lt8)
def lt10 : QL.Env → Ws := (sSeq (sSetO 4 (lcON (lstI (rd 3)) [5] (nameG 5) yesB (lstO (listN (consA (rd 5) nilA)))))
    lt9)
def lt11 : QL.Env → Ws := (sSeq (sSet 3 (callF c_law_ways (argsP (slC 1 (dC (rd 2) nilC)))))
    lt10)
def lt12 : QL.Env → Ws := (sSeq (sSet 2 (bin2 addD (kst (.int 1)) (callF c_law_draw (argsP (slC 1 (dC (kst (.int 3)) nilC))))))
    lt11)
def b_law : QL.Env → Ws := (sSeq (sSetP 4 1 (callF c_law_pool (argsP (slC 0 (dC (kst (.int 0)) nilC)))))
    lt12)
def m_law : List Sl → W D := mFunP 1 N_law.length b_law
theorem okb_law (T : Txt K mg a) (cdv : Value) (A : Around) (outer : List PySem.Env) (s : Shared) (H : Hp) (hr : Room 7 (A.deeper (PyProof.Rows.envOfC "law" (defScope s_law) s.heap.objs.size a.a_law cdv))) :
    Ess (G K a) (cxOf CX0 P w K mg base N_law "law" (defScope s_law) a.a_law cdv A outer s H E0).nox WF (defBody s_law) b_law :=
  (ess_cons (es_setP rfl (e1_call (okc_law_pool T) (hr.mono (by decide)) (by rfl) T.h_law_pool.m T.h_law_pool.F.kp T.h_law_pool.b takes0 (ec_slot (pv 0) (ec_d ev_int ec_nil))) (fun _ pt => ps_set (i := 1) sc_law.nd rfl (Or.inl rfl) pt))
    (ess_cons (es_set (ev_bin op_adds o_add ev_int (ev_call (okc_law_draw T) (hr.mono (by decide)) (by rfl) T.h_law_draw.m T.h_law_draw.F.kp T.h_law_draw.b takes0 (ec_slot (pv 1) (ec_d ev_int ec_nil)))) (fun _ pt => ps_set (i := 2) sc_law.nd rfl (Or.inl rfl) pt))
    (ess_cons (es_set (ev_call (okc_law_ways T) (hr.mono (by decide)) (by rfl) T.h_law_ways.m T.h_law_ways.F.kp T.h_law_ways.b takes0 (ec_slot (pv 1) (ec_d (ev_var 2 (pv 2)) ec_nil))) (fun _ pt => ps_set (i := 3) sc_law.nd rfl (Or.inl rfl) pt))
    (ess_cons (es_setLcO (i := 4) (own := [("_law_line", 5)]) rfl sc_law.nd rfl rfl (sw_true rfl rfl rfl (by decide +kernel)) (ei_list (ev_var 3 (pv 3)) rfl) (blkOk_by (N := N_law) (sc := (defScope s_law)) (by decide +kernel)) (fun _ _ _ _ _ => (eg_name (pg_name (i := 5) sc_law.nd rfl (by first | exact Or.inl rfl | exact Or.inr rfl)))) (fun _ _ _ _ _ => ets_nil) (fun _ _ _ _ _ => (El.en (el_list rfl (by rfl) T.n_list Bt.t_list (ea_cons (ev_var 5 (pv 5)) ea_nil')))) (by decide))
    (ess_cons (es_set (En.ev (en_brwL (en_makeG (C := 0) T.mk_0 (okc_Sender__init T) (hr.mono (by decide)) (by rfl) T.mc_0 T.h_Sender__init.b takes0 (ec_d (ev_var 4 (pv 4)) ec_nil)))) (fun _ pt => ps_set (i := 6) sc_law.nd rfl (Or.inl rfl) pt))
    (ess_cons (es_clr (fun _ po => ps_expr (pe_bm0 PySem.F.plainAttrs_list PySem.F.slot_list_clear PySem.F.type_list_clear mt_clear po)) (ef_ix (ef_var (pv 4)) ev_int (fun _ _ => rfl) rfl))
    (ess_cons (es_clr (fun _ po => ps_expr (pe_bm0 PySem.F.plainAttrs_list PySem.F.slot_list_clear PySem.F.type_list_clear mt_clear po)) (ef_var (pv 4)))
    (ess_cons (es_if (eb_not (eb_val (ev_call (okc_law_ways_told T) (hr.mono (by decide)) (by rfl) T.h_law_ways_told.m T.h_law_ways_told.F.kp T.h_law_ways_told.b takes0 (ec_d (ev_var 6 (pv 6)) (ec_d (ev_var 3 (pv 3)) ec_nil))))) (ess_one (es_ret ev_bl)) ess_nil)
    (ess_cons (es_set1 (e1_lst a1_nil) (fun _ pt => ps_set (i := 7) sc_law.nd rfl (Or.inl rfl) pt))
    (ess_cons (es_setLcL (i := 8) (own := [("_law_state", 9)]) rfl sc_law.nd rfl rfl (sw_true rfl rfl rfl (by decide +kernel)) (ei_rng1 (ev_callB call_len_seq o_len (by rfl) T.n_len PySem.boot_len (ea_cons (ev_var 3 (pv 3)) ea_nil')) (by rfl) T.n_range) (blkOk_by (N := N_law) (sc := (defScope s_law)) (by decide +kernel)) (fun _ _ _ _ _ => (eg_name (pg_name (i := 9) sc_law.nd rfl (by first | exact Or.inl rfl | exact Or.inr rfl)))) (fun _ _ _ _ _ => ets_nil) (fun _ _ _ _ _ => (ev_lst (ea_cons (ev_var 9 (pv 9)) ea_nil'))) (by decide))
    (ess_cons (es_for [] PassesOwn.never rfl (ei_rng1 (ev_callB (call_min2 rfl) o_min2 (by rfl) T.n_min Bt.min (ea_cons ev_int (ea_cons (ev_callB (call_max2 rfl) o_max2 (by rfl) T.n_max Bt.max (ea_cons ev_int (ea_cons (ev_bin op_sub o_sub (ev_lenS (pe_callB call_len_seq (by rfl) T.n_len PySem.boot_len (pa_cons (pv 0) pa_nil)) rfl) ev_int) ea_nil'))) ea_nil'))) (by rfl) T.n_range) (eg_name (pg_name (i := 10) sc_law.nd rfl (by first | exact Or.inl rfl | exact Or.inr rfl))) (ess_cons (es_setP rfl (e1_call (okc_law_pool T) (hr.mono (by decide)) (by rfl) T.h_law_pool.m T.h_law_pool.F.kp T.h_law_pool.b takes0 (ec_slot (pv 0) (ec_d (ev_bin op_adds o_add ev_int (ev_var 10 (pv 10))) ec_nil))) (fun _ pt => ps_set (i := 11) sc_law.nd rfl (Or.inl rfl) pt))
    (ess_cons (es_set (ev_call (okc_law_draw T) (hr.mono (by decide)) (by rfl) T.h_law_draw.m T.h_law_draw.F.kp T.h_law_draw.b takes0 (ec_slot (pv 11) (ec_d ev_int ec_nil))) (fun _ pt => ps_set (i := 12) sc_law.nd rfl (Or.inl rfl) pt))
    (ess_cons (es_setLc (i := 13) (own := [("_law_way", 14)]) rfl sc_law.nd rfl rfl (sw_true rfl rfl rfl (by decide +kernel)) (ei_list (ev_ix (ev_var 3 (pv 3)) (ev_bin op_mod o_mod (ev_var 10 (pv 10)) (ev_callB call_len_seq o_len (by rfl) T.n_len PySem.boot_len (ea_cons (ev_var 3 (pv 3)) ea_nil'))) rfl (fun _ _ => rfl)) rfl) (blkOk_by (N := N_law) (sc := (defScope s_law)) (by decide +kernel)) (fun _ _ _ _ _ => (eg_name (pg_name (i := 14) sc_law.nd rfl (by first | exact Or.inl rfl | exact Or.inr rfl)))) (fun _ _ _ _ _ => ets_nil) (fun _ _ _ _ _ => (ev_ix (ev_var 14 (pv 14)) ev_int rfl (fun _ _ => rfl))) (by decide))
    (ess_cons (es_if (eb_cmp op_gt (o_cmp (f := fun i j => decide (j < i))) (ev_call (okc_law_draw T) (hr.mono (by decide)) (by rfl) T.h_law_draw.m T.h_law_draw.F.kp T.h_law_draw.b takes0 (ec_slot (pv 11) (ec_d ev_int ec_nil))) ev_int (nomark _)) (ess_one (es_set (ev_ix (ev_var 13 (pv 13)) (ev_call (okc_law_draw T) (hr.mono (by decide)) (by rfl) T.h_law_draw.m T.h_law_draw.F.kp T.h_law_draw.b takes0 (ec_slot (pv 11) (ec_d (ev_callB call_len_seq o_len (by rfl) T.n_len PySem.boot_len (ea_cons (ev_var 13 (pv 13)) ea_nil')) ec_nil))) rfl (fun _ _ => rfl)) (fun _ pt => ps_set (i := 12) sc_law.nd rfl (Or.inl rfl) pt))) ess_nil)
    (ess_cons (es_app1 (fun _ _ po pt => ps_expr (pe_bm PySem.F.plainAttrs_list PySem.F.slot_list_append PySem.F.type_list_append mt_append po (pa_cons pt pa_nil))) (ef1_var (pv 7)) (e1_sc (ev_var 12 (pv 12))))
    (ess_cons (es_for [] PassesOwn.never rfl (ei_rng1 (ev_callB call_len_seq o_len (by rfl) T.n_len PySem.boot_len (ea_cons (ev_var 3 (pv 3)) ea_nil')) (by rfl) T.n_range) (eg_name (pg_name (i := 9) sc_law.nd rfl (by first | exact Or.inl rfl | exact Or.inr rfl))) (ess_cons (es_setIxN (pv 8) (fun _ _ _ po pk pv_ => ps_asg pv_ (pg_sub po pk set_list)) (ev_call (okc_law_behind T) (hr.mono (by decide)) (by rfl) T.h_law_behind.m T.h_law_behind.F.kp T.h_law_behind.b takes0 (ec_d (ev_var 3 (pv 3)) (ec_d (ev_ixL (pv 8) (ev_var 9 (pv 9)) (fun _ _ => rfl) rfl) (ec_d (ev_var 12 (pv 12)) ec_nil)))) (ev_var 9 (pv 9)))
    (ess_cons (es_set (E1.ev (e1_brw (e1_el (el_list rfl (by rfl) T.n_list Bt.t_list (ea_cons (ev_var 7 (pv 7)) ea_nil'))))) (fun _ pt => ps_set (i := 15) sc_law.nd rfl (Or.inl rfl) pt))
    (ess_cons (es_set (ev_meth (C := 0) (ev_var 6 (pv 6)) T.cl_0 T.h_Sender_states_behind.m (okc_Sender_states_behind T) (hr.mono (by decide)) T.h_Sender_states_behind.b takes0 (ec_d (ev_var 9 (pv 9)) (ec_d (ev_var 15 (pv 15)) ec_nil))) (fun _ pt => ps_set (i := 16) sc_law.nd rfl (Or.inl rfl) pt))
    (ess_cons (es_if (eb_brw (eb_w (ew_or (eb_not (eb_val (ev_isi (T := "list") (pe_bltn (by rfl) T.n_list Bt.t_list rfl) (ev_var 16 (pv 16)) rfl (by rfl) T.n_isinstance))) (ew_or (eb_cmp (op_neD hr.units) o_ne (ev_var 16 (pv 16)) (ev_ix (ev_var 8 (pv 8)) (ev_var 9 (pv 9)) rfl (fun _ _ => rfl)) (nomark _)) (ew_or1 (eb_cmp (op_neD hr.units) o_ne (ev_var 15 (pv 15)) (ev_var 7 (pv 7)) (nomark _))))))) (ess_one (es_ret ev_bl)) ess_nil)
    (ess_one (es_if (eb_not (eb_val (ev_callB (cr_all rfl) o_all (by rfl) T.n_all Bt.all (ea_cons (El.ev (el_lc (own := [("_law_entry", 17)]) rfl sc_law.nd (ei_list (ev_var 16 (pv 16)) rfl) (blkOk_by (N := N_law) (sc := (defScope s_law)) (by decide +kernel)) (fun _ _ _ _ _ => (eg_name (pg_name (i := 17) sc_law.nd rfl (by first | exact Or.inl rfl | exact Or.inr rfl)))) (fun _ _ _ _ _ => ets_nil) (fun _ _ _ _ _ => (ev_call (okc_law_is_integer T) (hr.mono (by decide)) (by rfl) T.h_law_is_integer.m T.h_law_is_integer.F.kp T.h_law_is_integer.b takes0 (ec_d (ev_var 17 (pv 17)) ec_nil))) (by decide))) ea_nil')))) (ess_one (es_ret ev_bl)) ess_nil)))))))
    (ess_one (es_if (eb_brw (eb_w (ew_or (eb_cmp (op_neD hr.units) o_ne (ev_meth (C := 0) (ev_var 6 (pv 6)) T.cl_0 T.h_Sender_lets.m (okc_Sender_lets T) (hr.mono (by decide)) T.h_Sender_lets.b takes0 (ec_d (ev_callTy call_list_of o_list (by rfl) T.n_list Bt.t_list (ea_cons (ev_var 7 (pv 7)) ea_nil')) ec_nil)) (ev_cmp op_gt (o_cmp (f := fun i j => decide (j < i))) (ev_callB call_len_seq o_len (by rfl) T.n_len PySem.boot_len (ea_cons (ev_ix (ev_var 8 (pv 8)) ev_int rfl (fun _ _ => rfl)) ea_nil')) ev_int (nomark _)) (nomark _)) (ew_or1 (eb_not (eb_val (ev_isi (T := "bool") (pe_bltn (by rfl) T.n_bool Bt.t_bool rfl) (ev_meth (C := 0) (ev_var 6 (pv 6)) T.cl_0 T.h_Sender_lets.m (okc_Sender_lets T) (hr.mono (by decide)) T.h_Sender_lets.b takes0 (ec_d (ev_var 7 (pv 7)) ec_nil)) rfl (by rfl) T.n_isinstance))))))) (ess_one (es_ret ev_bl)) ess_nil)))))))))
    (ess_frz 7 (ess_cons (es_set (ev_lst (ea_cons ev_int ea_nil')) (fun _ pt => ps_set (i := 18) sc_law.nd rfl (Or.inl rfl) pt))
    (ess_cons (es_for [] PassesOwn.never rfl (ei_list (ev_bin op_muls o_mul (ev_var 7 (pv 7)) ev_int) rfl) (eg_name (pg_name (i := 12) sc_law.nd rfl (by first | exact Or.inl rfl | exact Or.inr rfl))) (ess_one (es_set (ev_call (okc_law_behind T) (hr.mono (by decide)) (by rfl) T.h_law_behind.m T.h_law_behind.F.kp T.h_law_behind.b takes0 (ec_d (ev_var 3 (pv 3)) (ec_d (ev_var 18 (pv 18)) (ec_d (ev_var 12 (pv 12)) ec_nil)))) (fun _ pt => ps_set (i := 18) sc_law.nd rfl (Or.inl rfl) pt))))
    (ess_cons (es_if (eb_w (ew_or (eb_cmp (op_neD hr.units) o_ne (ev_meth (C := 0) (ev_var 6 (pv 6)) T.cl_0 T.h_Sender_states_behind.m (okc_Sender_states_behind T) (hr.mono (by decide)) T.h_Sender_states_behind.b takes0 (ec_d ev_int (ec_d (ev_bin op_muls o_mul (ev_var 7 (pv 7)) ev_int) ec_nil))) (ev_var 18 (pv 18)) (nomark _)) (ew_or1 (eb_cmp (op_neD hr.units) o_ne (ev_meth (C := 0) (ev_var 6 (pv 6)) T.cl_0 T.h_Sender_lets.m (okc_Sender_lets T) (hr.mono (by decide)) T.h_Sender_lets.b takes0 (ec_d (ev_bin op_muls o_mul (ev_var 7 (pv 7)) ev_int) ec_nil)) (ev_cmp op_gt (o_cmp (f := fun i j => decide (j < i))) (ev_callB call_len_seq o_len (by rfl) T.n_len PySem.boot_len (ea_cons (ev_var 18 (pv 18)) ea_nil')) ev_int (nomark _)) (nomark _))))) (ess_one (es_ret ev_bl)) ess_nil)
    (ess_one (es_ret (ev_and (ev_cmp (op_eqD hr.units) o_eq (ev_meth (C := 0) (ev_var 6 (pv 6)) T.cl_0 T.h_Sender_states_behind.m (okc_Sender_states_behind T) (hr.mono (by decide)) T.h_Sender_states_behind.b takes0 (ec_d ev_int (ec_d (ev_lst ea_nil') ec_nil))) (ev_lst (ea_cons ev_int ea_nil')) (nomark _)) (ev_one (ev_cmp op_isBl o_isB (ev_meth (C := 0) (ev_var 6 (pv 6)) T.cl_0 T.h_Sender_lets.m (okc_Sender_lets T) (hr.mono (by decide)) T.h_Sender_lets.b takes0 (ec_d (ev_lst ea_nil') ec_nil)) ev_bl (nomark _)))))))))))))))))))))
theorem ok_law (T : Txt K mg a) (hm : ∀ ns : List Int, ns.length ≤ 63 → m_law [.scr ns] (fun d => d = .bl true) (fun _ => False)) :
    FnOk P w K mg base CX0 8 a.a_law a.d_law ["_law_script"] (fun vs H Q _ => ∃ (a : Addr) (ns : List Int), vs = [.ref a] ∧ SqL K H a (ns.map V.int) ∧ ns.length ≤ 63 ∧ ∀ H', Q (.bl true) H') :=
  law_ok (G := G K a) T.h_law.F sc_law rfl (fun cdv A outer s H hr => okb_law T cdv A outer s H hr) hm
end
theorem all_mk {l : PySem.W.OpenLaw} {w : World} {K : PySem.W.Frag} {h : Heap} {mg : Str → Option Value} {fa C_0 X_NoWord X_NoState X_NoSender a_law_pool a_law_draw a_law_ways a_NoSender__init a_is_integer a_is_integer_from a_is_index a_is_way a_ascends a_are_ways a_Sender__init a_law_is_integer a_Sender_state_count a_Sender_check_state a_Sender_ways a_law_ways_told a_law_behind a_check_kinds a_Sender_followed a_Sender_states_behind a_Sender_lets a_law : Addr} (X : K.In h) (Gg : h.Ns mainGlobals mg) (hfa : mg "law" = some (.ref fa))
    {od_law_pool an_law_pool od_law_draw an_law_draw od_law_ways an_law_ways od_NoSender__init an_NoSender__init od_is_integer an_is_integer od_is_integer_from an_is_integer_from od_is_index an_is_index od_is_way an_is_way od_ascends an_ascends od_are_ways an_are_ways od_Sender__init an_Sender__init od_law_is_integer an_law_is_integer od_Sender_state_count an_Sender_state_count od_Sender_check_state an_Sender_check_state od_Sender_ways an_Sender_ways od_law_ways_told an_law_ways_told od_law_behind an_law_behind od_check_kinds an_check_kinds od_Sender_followed an_Sender_followed od_Sender_states_behind an_Sender_states_behind od_Sender_lets an_Sender_lets od_law an_law : Option Addr} {sl_law_pool sl_law_draw sl_law_ways sl_NoSender__init sl_is_integer sl_is_integer_from sl_is_index sl_is_way sl_ascends sl_are_ways sl_Sender__init sl_law_is_integer sl_Sender_state_count sl_Sender_check_state sl_Sender_ways sl_law_ways_told sl_law_behind sl_check_kinds sl_Sender_followed sl_Sender_states_behind sl_Sender_lets sl_law : Array (Option Value)} {oc_law_pool kV_law_pool dc_law_pool pm_law_pool cd_law_pool ct_law_pool oc_law_draw kV_law_draw dc_law_draw pm_law_draw cd_law_draw ct_law_draw oc_law_ways kV_law_ways dc_law_ways pm_law_ways cd_law_ways ct_law_ways oc_NoSender__init kV_NoSender__init dc_NoSender__init pm_NoSender__init cd_NoSender__init ct_NoSender__init oc_is_integer kV_is_integer dc_is_integer pm_is_integer cd_is_integer ct_is_integer oc_is_integer_from kV_is_integer_from dc_is_integer_from pm_is_integer_from cd_is_integer_from ct_is_integer_from oc_is_index kV_is_index dc_is_index pm_is_index cd_is_index ct_is_index oc_is_way kV_is_way dc_is_way pm_is_way cd_is_way ct_is_way oc_ascends kV_ascends dc_ascends pm_ascends cd_ascends ct_ascends oc_are_ways kV_are_ways dc_are_ways pm_are_ways cd_are_ways ct_are_ways oc_Sender__init kV_Sender__init dc_Sender__init pm_Sender__init cd_Sender__init ct_Sender__init oc_law_is_integer kV_law_is_integer dc_law_is_integer pm_law_is_integer cd_law_is_integer ct_law_is_integer oc_Sender_state_count kV_Sender_state_count dc_Sender_state_count pm_Sender_state_count cd_Sender_state_count ct_Sender_state_count oc_Sender_check_state kV_Sender_check_state dc_Sender_check_state pm_Sender_check_state cd_Sender_check_state ct_Sender_check_state oc_Sender_ways kV_Sender_ways dc_Sender_ways pm_Sender_ways cd_Sender_ways ct_Sender_ways oc_law_ways_told kV_law_ways_told dc_law_ways_told pm_law_ways_told cd_law_ways_told ct_law_ways_told oc_law_behind kV_law_behind dc_law_behind pm_law_behind cd_law_behind ct_law_behind oc_check_kinds kV_check_kinds dc_check_kinds pm_check_kinds cd_check_kinds ct_check_kinds oc_Sender_followed kV_Sender_followed dc_Sender_followed pm_Sender_followed cd_Sender_followed ct_Sender_followed oc_Sender_states_behind kV_Sender_states_behind dc_Sender_states_behind pm_Sender_states_behind cd_Sender_states_behind ct_Sender_states_behind oc_Sender_lets kV_Sender_lets dc_Sender_lets pm_Sender_lets cd_Sender_lets ct_Sender_lets oc_law kV_law dc_law pm_law cd_law ct_law : Value} {t_MOST_KINDS t_MOST_STATES : Tok} {xnm_NoSender xqn_NoSender : Str} {xN_NoSender : Addr} {xbs_NoSender xbm_NoSender : List Value} {xsn_NoSender : List Str} {xsu_NoSender : List Value} {xab_NoSender : Bool} {xco_NoSender : Option Bool} {xdd_NoSender : Option Addr} {xk0_NoSender xk1_NoSender xk2_NoSender xk3_NoSender xk5_NoSender : Option Value}
        (aC0 : PySem.W.nsIn K mainGlobals "Sender" = some (some (.ref C_0)))
    (pg0 : PySem.W.plainGet K C_0 Str.empty = true)
    (hd0 : PySem.W.hasDictIn K C_0 = true)
    (po0 : PySem.W.plainOver K C_0 = true)
    (sa0 : PySem.W.findIn K (.ref C_0) "__setattr__" = some (some (.builtin "object.__setattr__")))
    (mk0 : PySem.W.makesIn K C_0 = true)
    (kc0 : PySem.W.keepIn K (.ref C_0) = true)
    (xa_NoWord : PySem.W.nsIn K mainGlobals "NoWord" = some (some (.ref X_NoWord)))
    (xk_NoWord : PySem.W.keepIn K (.ref X_NoWord) = true)
    (xb_NoWord : PySem.W.subIn K (.ref X_NoWord) (.type "BaseException") = some true)
    (xt_NoWord : PySem.W.typeIn K (.ref X_NoWord) = some (.type "type"))
    (xh_NoWord : PySem.W.hasDictIn K X_NoWord = true)
    (xg_NoWord : PySem.W.findIn K (.ref X_NoWord) "__getattribute__" = some (some (.builtin "BaseException.__getattribute__")))
    (xj_NoWord : PySem.W.findIn K (.ref X_NoWord) "__getattr__" = some none)
    (xc_NoWord : PySem.W.findIn K (.ref X_NoWord) "__class__" = some (some (.builtin "object.__class__")))
    (xo_NoWord : PySem.W.specialIn K (.builtin "object.__class__") "__get__" = some (some (.builtin "getset_descriptor.__get__")))
    (xq_NoWord : PySem.W.takesIn K (.builtin "object.__class__") = some true)
    (xu_NoWord : PySem.W.mroIn K X_NoWord (.type "object") = some true)
    (xa_NoState : PySem.W.nsIn K mainGlobals "NoState" = some (some (.ref X_NoState)))
    (xk_NoState : PySem.W.keepIn K (.ref X_NoState) = true)
    (xb_NoState : PySem.W.subIn K (.ref X_NoState) (.type "BaseException") = some true)
    (xt_NoState : PySem.W.typeIn K (.ref X_NoState) = some (.type "type"))
    (xh_NoState : PySem.W.hasDictIn K X_NoState = true)
    (xg_NoState : PySem.W.findIn K (.ref X_NoState) "__getattribute__" = some (some (.builtin "BaseException.__getattribute__")))
    (xj_NoState : PySem.W.findIn K (.ref X_NoState) "__getattr__" = some none)
    (xc_NoState : PySem.W.findIn K (.ref X_NoState) "__class__" = some (some (.builtin "object.__class__")))
    (xo_NoState : PySem.W.specialIn K (.builtin "object.__class__") "__get__" = some (some (.builtin "getset_descriptor.__get__")))
    (xq_NoState : PySem.W.takesIn K (.builtin "object.__class__") = some true)
    (xu_NoState : PySem.W.mroIn K X_NoState (.type "object") = some true)
    (xa_NoSender : PySem.W.nsIn K mainGlobals "NoSender" = some (some (.ref X_NoSender)))
    (xk_NoSender : PySem.W.keepIn K (.ref X_NoSender) = true)
    (xb_NoSender : PySem.W.subIn K (.ref X_NoSender) (.type "BaseException") = some true)
    (xt_NoSender : PySem.W.typeIn K (.ref X_NoSender) = some (.type "type"))
    (xh_NoSender : PySem.W.hasDictIn K X_NoSender = true)
    (xg_NoSender : PySem.W.findIn K (.ref X_NoSender) "__getattribute__" = some (some (.builtin "BaseException.__getattribute__")))
    (xj_NoSender : PySem.W.findIn K (.ref X_NoSender) "__getattr__" = some none)
    (xc_NoSender : PySem.W.findIn K (.ref X_NoSender) "__class__" = some (some (.builtin "object.__class__")))
    (xo_NoSender : PySem.W.specialIn K (.builtin "object.__class__") "__get__" = some (some (.builtin "getset_descriptor.__get__")))
    (xq_NoSender : PySem.W.takesIn K (.builtin "object.__class__") = some true)
    (xu_NoSender : PySem.W.mroIn K X_NoSender (.type "object") = some true)
    (xe_NoWord : PySem.W.excIn K X_NoWord [.type "ValueError", .type "Exception", .type "BaseException", .type "object"] "ValueError.__new__" = true)
    (xe_NoState : PySem.W.excIn K X_NoState [.type "ValueError", .type "Exception", .type "BaseException", .type "object"] "ValueError.__new__" = true)
    (xl_NoSender : K.lookup X_NoSender = some (excClassObj xnm_NoSender xqn_NoSender X_NoSender xN_NoSender xbs_NoSender xbm_NoSender true xsn_NoSender xsu_NoSender xab_NoSender xco_NoSender xdd_NoSender xk0_NoSender xk1_NoSender xk2_NoSender xk3_NoSender xk5_NoSender "ValueError.__new__"))
    (xr_NoSender : PySem.HandSPX.refsVE xbm_NoSender = true)
    (xy_NoSender : PySem.W.findIn K (.ref X_NoSender) "__setattr__" = some (some (.builtin "object.__setattr__")))
    (xi_NoSender : PySem.W.findIn K (.ref X_NoSender) "__init__" = some (some (.ref a_NoSender__init)))
    (xw_NoSender : PySem.W.typeIn K (.ref a_NoSender__init) = some (.type "function"))
    (xz_NoSender : PySem.W.findIn K (.ref X_NoSender) "state" = some none)
    (x_law_pool : PySem.W.nsIn K mainGlobals "_law_pool" = some (some (.ref a_law_pool)))
    (l_law_pool : K.lookup a_law_pool = some ⟨oc_law_pool, od_law_pool, .func (PySem.W.fnOf "_law_pool" "_law_pool" (defArgs (top 18)) (defBody (top 18)) (defScope (top 18)) .none kV_law_pool dc_law_pool pm_law_pool an_law_pool cd_law_pool ct_law_pool), sl_law_pool⟩)
    (c_law_pool : PySem.W.codeIn K cd_law_pool "_law_pool" = true)
    (k_law_pool : PySem.W.keepIn K (.ref a_law_pool) = true)
    (x_law_draw : PySem.W.nsIn K mainGlobals "_law_draw" = some (some (.ref a_law_draw)))
    (l_law_draw : K.lookup a_law_draw = some ⟨oc_law_draw, od_law_draw, .func (PySem.W.fnOf "_law_draw" "_law_draw" (defArgs (top 19)) (defBody (top 19)) (defScope (top 19)) .none kV_law_draw dc_law_draw pm_law_draw an_law_draw cd_law_draw ct_law_draw), sl_law_draw⟩)
    (c_law_draw : PySem.W.codeIn K cd_law_draw "_law_draw" = true)
    (k_law_draw : PySem.W.keepIn K (.ref a_law_draw) = true)
    (x_law_ways : PySem.W.nsIn K mainGlobals "_law_ways" = some (some (.ref a_law_ways)))
    (l_law_ways : K.lookup a_law_ways = some ⟨oc_law_ways, od_law_ways, .func (PySem.W.fnOf "_law_ways" "_law_ways" (defArgs (top 21)) (defBody (top 21)) (defScope (top 21)) .none kV_law_ways dc_law_ways pm_law_ways an_law_ways cd_law_ways ct_law_ways), sl_law_ways⟩)
    (c_law_ways : PySem.W.codeIn K cd_law_ways "_law_ways" = true)
    (k_law_ways : PySem.W.keepIn K (.ref a_law_ways) = true)
    (l_NoSender__init : K.lookup a_NoSender__init = some ⟨oc_NoSender__init, od_NoSender__init, .func (PySem.W.fnOf "__init__" "NoSender.__init__" (defArgs (inClass (top 4) 0)) (defBody (inClass (top 4) 0)) (defScope (inClass (top 4) 0)) .none kV_NoSender__init dc_NoSender__init pm_NoSender__init an_NoSender__init cd_NoSender__init ct_NoSender__init), sl_NoSender__init⟩)
    (c_NoSender__init : PySem.W.codeIn K cd_NoSender__init "NoSender.__init__" = true)
    (k_NoSender__init : PySem.W.keepIn K (.ref a_NoSender__init) = true)
    (x_is_integer : PySem.W.nsIn K mainGlobals "is_integer" = some (some (.ref a_is_integer)))
    (l_is_integer : K.lookup a_is_integer = some ⟨oc_is_integer, od_is_integer, .func (PySem.W.fnOf "is_integer" "is_integer" (defArgs (top 6)) (defBody (top 6)) (defScope (top 6)) .none kV_is_integer dc_is_integer pm_is_integer an_is_integer cd_is_integer ct_is_integer), sl_is_integer⟩)
    (c_is_integer : PySem.W.codeIn K cd_is_integer "is_integer" = true)
    (k_is_integer : PySem.W.keepIn K (.ref a_is_integer) = true)
    (x_is_integer_from : PySem.W.nsIn K mainGlobals "is_integer_from" = some (some (.ref a_is_integer_from)))
    (l_is_integer_from : K.lookup a_is_integer_from = some ⟨oc_is_integer_from, od_is_integer_from, .func (PySem.W.fnOf "is_integer_from" "is_integer_from" (defArgs (top 7)) (defBody (top 7)) (defScope (top 7)) .none kV_is_integer_from dc_is_integer_from pm_is_integer_from an_is_integer_from cd_is_integer_from ct_is_integer_from), sl_is_integer_from⟩)
    (c_is_integer_from : PySem.W.codeIn K cd_is_integer_from "is_integer_from" = true)
    (k_is_integer_from : PySem.W.keepIn K (.ref a_is_integer_from) = true)
    (x_is_index : PySem.W.nsIn K mainGlobals "is_index" = some (some (.ref a_is_index)))
    (l_is_index : K.lookup a_is_index = some ⟨oc_is_index, od_is_index, .func (PySem.W.fnOf "is_index" "is_index" (defArgs (top 8)) (defBody (top 8)) (defScope (top 8)) .none kV_is_index dc_is_index pm_is_index an_is_index cd_is_index ct_is_index), sl_is_index⟩)
    (c_is_index : PySem.W.codeIn K cd_is_index "is_index" = true)
    (k_is_index : PySem.W.keepIn K (.ref a_is_index) = true)
    (x_is_way : PySem.W.nsIn K mainGlobals "is_way" = some (some (.ref a_is_way)))
    (l_is_way : K.lookup a_is_way = some ⟨oc_is_way, od_is_way, .func (PySem.W.fnOf "is_way" "is_way" (defArgs (top 15)) (defBody (top 15)) (defScope (top 15)) .none kV_is_way dc_is_way pm_is_way an_is_way cd_is_way ct_is_way), sl_is_way⟩)
    (c_is_way : PySem.W.codeIn K cd_is_way "is_way" = true)
    (k_is_way : PySem.W.keepIn K (.ref a_is_way) = true)
    (x_ascends : PySem.W.nsIn K mainGlobals "ascends" = some (some (.ref a_ascends)))
    (l_ascends : K.lookup a_ascends = some ⟨oc_ascends, od_ascends, .func (PySem.W.fnOf "ascends" "ascends" (defArgs (top 9)) (defBody (top 9)) (defScope (top 9)) .none kV_ascends dc_ascends pm_ascends an_ascends cd_ascends ct_ascends), sl_ascends⟩)
    (c_ascends : PySem.W.codeIn K cd_ascends "ascends" = true)
    (k_ascends : PySem.W.keepIn K (.ref a_ascends) = true)
    (x_are_ways : PySem.W.nsIn K mainGlobals "are_ways" = some (some (.ref a_are_ways)))
    (l_are_ways : K.lookup a_are_ways = some ⟨oc_are_ways, od_are_ways, .func (PySem.W.fnOf "are_ways" "are_ways" (defArgs (top 14)) (defBody (top 14)) (defScope (top 14)) .none kV_are_ways dc_are_ways pm_are_ways an_are_ways cd_are_ways ct_are_ways), sl_are_ways⟩)
    (c_are_ways : PySem.W.codeIn K cd_are_ways "are_ways" = true)
    (k_are_ways : PySem.W.keepIn K (.ref a_are_ways) = true)
    (x_Sender__init : PySem.W.findIn K (.ref C_0) "__init__" = some (some (.ref a_Sender__init)))
    (i_Sender__init : PySem.W.isFn K (.ref a_Sender__init) = true)
    (l_Sender__init : K.lookup a_Sender__init = some ⟨oc_Sender__init, od_Sender__init, .func (PySem.W.fnOf "__init__" "Sender.__init__" (defArgs (inClass (top 13) 0)) (defBody (inClass (top 13) 0)) (defScope (inClass (top 13) 0)) .none kV_Sender__init dc_Sender__init pm_Sender__init an_Sender__init cd_Sender__init ct_Sender__init), sl_Sender__init⟩)
    (c_Sender__init : PySem.W.codeIn K cd_Sender__init "Sender.__init__" = true)
    (k_Sender__init : PySem.W.keepIn K (.ref a_Sender__init) = true)
    (x_law_is_integer : PySem.W.nsIn K mainGlobals "_law_is_integer" = some (some (.ref a_law_is_integer)))
    (l_law_is_integer : K.lookup a_law_is_integer = some ⟨oc_law_is_integer, od_law_is_integer, .func (PySem.W.fnOf "_law_is_integer" "_law_is_integer" (defArgs (top 20)) (defBody (top 20)) (defScope (top 20)) .none kV_law_is_integer dc_law_is_integer pm_law_is_integer an_law_is_integer cd_law_is_integer ct_law_is_integer), sl_law_is_integer⟩)
    (c_law_is_integer : PySem.W.codeIn K cd_law_is_integer "_law_is_integer" = true)
    (k_law_is_integer : PySem.W.keepIn K (.ref a_law_is_integer) = true)
    (x_Sender_state_count : PySem.W.findIn K (.ref C_0) "state_count" = some (some (.ref a_Sender_state_count)))
    (i_Sender_state_count : PySem.W.isFn K (.ref a_Sender_state_count) = true)
    (l_Sender_state_count : K.lookup a_Sender_state_count = some ⟨oc_Sender_state_count, od_Sender_state_count, .func (PySem.W.fnOf "state_count" "Sender.state_count" (defArgs (inClass (top 13) 1)) (defBody (inClass (top 13) 1)) (defScope (inClass (top 13) 1)) .none kV_Sender_state_count dc_Sender_state_count pm_Sender_state_count an_Sender_state_count cd_Sender_state_count ct_Sender_state_count), sl_Sender_state_count⟩)
    (c_Sender_state_count : PySem.W.codeIn K cd_Sender_state_count "Sender.state_count" = true)
    (k_Sender_state_count : PySem.W.keepIn K (.ref a_Sender_state_count) = true)
    (x_Sender_check_state : PySem.W.findIn K (.ref C_0) "check_state" = some (some (.ref a_Sender_check_state)))
    (i_Sender_check_state : PySem.W.isFn K (.ref a_Sender_check_state) = true)
    (l_Sender_check_state : K.lookup a_Sender_check_state = some ⟨oc_Sender_check_state, od_Sender_check_state, .func (PySem.W.fnOf "check_state" "Sender.check_state" (defArgs (inClass (top 13) 6)) (defBody (inClass (top 13) 6)) (defScope (inClass (top 13) 6)) .none kV_Sender_check_state dc_Sender_check_state pm_Sender_check_state an_Sender_check_state cd_Sender_check_state ct_Sender_check_state), sl_Sender_check_state⟩)
    (c_Sender_check_state : PySem.W.codeIn K cd_Sender_check_state "Sender.check_state" = true)
    (k_Sender_check_state : PySem.W.keepIn K (.ref a_Sender_check_state) = true)
    (x_Sender_ways : PySem.W.findIn K (.ref C_0) "ways" = some (some (.ref a_Sender_ways)))
    (i_Sender_ways : PySem.W.isFn K (.ref a_Sender_ways) = true)
    (l_Sender_ways : K.lookup a_Sender_ways = some ⟨oc_Sender_ways, od_Sender_ways, .func (PySem.W.fnOf "ways" "Sender.ways" (defArgs (inClass (top 13) 2)) (defBody (inClass (top 13) 2)) (defScope (inClass (top 13) 2)) .none kV_Sender_ways dc_Sender_ways pm_Sender_ways an_Sender_ways cd_Sender_ways ct_Sender_ways), sl_Sender_ways⟩)
    (c_Sender_ways : PySem.W.codeIn K cd_Sender_ways "Sender.ways" = true)
    (k_Sender_ways : PySem.W.keepIn K (.ref a_Sender_ways) = true)
    (x_law_ways_told : PySem.W.nsIn K mainGlobals "_law_ways_told" = some (some (.ref a_law_ways_told)))
    (l_law_ways_told : K.lookup a_law_ways_told = some ⟨oc_law_ways_told, od_law_ways_told, .func (PySem.W.fnOf "_law_ways_told" "_law_ways_told" (defArgs (top 23)) (defBody (top 23)) (defScope (top 23)) .none kV_law_ways_told dc_law_ways_told pm_law_ways_told an_law_ways_told cd_law_ways_told ct_law_ways_told), sl_law_ways_told⟩)
    (c_law_ways_told : PySem.W.codeIn K cd_law_ways_told "_law_ways_told" = true)
    (k_law_ways_told : PySem.W.keepIn K (.ref a_law_ways_told) = true)
    (x_law_behind : PySem.W.nsIn K mainGlobals "_law_behind" = some (some (.ref a_law_behind)))
    (l_law_behind : K.lookup a_law_behind = some ⟨oc_law_behind, od_law_behind, .func (PySem.W.fnOf "_law_behind" "_law_behind" (defArgs (top 22)) (defBody (top 22)) (defScope (top 22)) .none kV_law_behind dc_law_behind pm_law_behind an_law_behind cd_law_behind ct_law_behind), sl_law_behind⟩)
    (c_law_behind : PySem.W.codeIn K cd_law_behind "_law_behind" = true)
    (k_law_behind : PySem.W.keepIn K (.ref a_law_behind) = true)
    (x_check_kinds : PySem.W.nsIn K mainGlobals "check_kinds" = some (some (.ref a_check_kinds)))
    (l_check_kinds : K.lookup a_check_kinds = some ⟨oc_check_kinds, od_check_kinds, .func (PySem.W.fnOf "check_kinds" "check_kinds" (defArgs (top 16)) (defBody (top 16)) (defScope (top 16)) .none kV_check_kinds dc_check_kinds pm_check_kinds an_check_kinds cd_check_kinds ct_check_kinds), sl_check_kinds⟩)
    (c_check_kinds : PySem.W.codeIn K cd_check_kinds "check_kinds" = true)
    (k_check_kinds : PySem.W.keepIn K (.ref a_check_kinds) = true)
    (x_Sender_followed : PySem.W.findIn K (.ref C_0) "followed" = some (some (.ref a_Sender_followed)))
    (i_Sender_followed : PySem.W.isFn K (.ref a_Sender_followed) = true)
    (l_Sender_followed : K.lookup a_Sender_followed = some ⟨oc_Sender_followed, od_Sender_followed, .func (PySem.W.fnOf "followed" "Sender.followed" (defArgs (inClass (top 13) 5)) (defBody (inClass (top 13) 5)) (defScope (inClass (top 13) 5)) .none kV_Sender_followed dc_Sender_followed pm_Sender_followed an_Sender_followed cd_Sender_followed ct_Sender_followed), sl_Sender_followed⟩)
    (c_Sender_followed : PySem.W.codeIn K cd_Sender_followed "Sender.followed" = true)
    (k_Sender_followed : PySem.W.keepIn K (.ref a_Sender_followed) = true)
    (x_Sender_states_behind : PySem.W.findIn K (.ref C_0) "states_behind" = some (some (.ref a_Sender_states_behind)))
    (i_Sender_states_behind : PySem.W.isFn K (.ref a_Sender_states_behind) = true)
    (l_Sender_states_behind : K.lookup a_Sender_states_behind = some ⟨oc_Sender_states_behind, od_Sender_states_behind, .func (PySem.W.fnOf "states_behind" "Sender.states_behind" (defArgs (inClass (top 13) 3)) (defBody (inClass (top 13) 3)) (defScope (inClass (top 13) 3)) .none kV_Sender_states_behind dc_Sender_states_behind pm_Sender_states_behind an_Sender_states_behind cd_Sender_states_behind ct_Sender_states_behind), sl_Sender_states_behind⟩)
    (c_Sender_states_behind : PySem.W.codeIn K cd_Sender_states_behind "Sender.states_behind" = true)
    (k_Sender_states_behind : PySem.W.keepIn K (.ref a_Sender_states_behind) = true)
    (x_Sender_lets : PySem.W.findIn K (.ref C_0) "lets" = some (some (.ref a_Sender_lets)))
    (i_Sender_lets : PySem.W.isFn K (.ref a_Sender_lets) = true)
    (l_Sender_lets : K.lookup a_Sender_lets = some ⟨oc_Sender_lets, od_Sender_lets, .func (PySem.W.fnOf "lets" "Sender.lets" (defArgs (inClass (top 13) 4)) (defBody (inClass (top 13) 4)) (defScope (inClass (top 13) 4)) .none kV_Sender_lets dc_Sender_lets pm_Sender_lets an_Sender_lets cd_Sender_lets ct_Sender_lets), sl_Sender_lets⟩)
    (c_Sender_lets : PySem.W.codeIn K cd_Sender_lets "Sender.lets" = true)
    (k_Sender_lets : PySem.W.keepIn K (.ref a_Sender_lets) = true)
    (x_law : PySem.W.nsIn K mainGlobals "law" = some (some (.ref a_law)))
    (l_law : K.lookup a_law = some ⟨oc_law, od_law, .func (PySem.W.fnOf "law" "law" (defArgs (top 24)) (defBody (top 24)) (defScope (top 24)) .none kV_law dc_law pm_law an_law cd_law ct_law), sl_law⟩)
    (c_law : PySem.W.codeIn K cd_law "law" = true)
    (k_law : PySem.W.keepIn K (.ref a_law) = true)
    (na_0_exits : PySem.W.findIn K (.ref C_0) "exits" = some none)
    (n_all : PySem.W.nsIn K mainGlobals "all" = some none)
    (n_bool : PySem.W.nsIn K mainGlobals "bool" = some none)
    (n_enumerate : PySem.W.nsIn K mainGlobals "enumerate" = some none)
    (n_int : PySem.W.nsIn K mainGlobals "int" = some none)
    (n_isinstance : PySem.W.nsIn K mainGlobals "isinstance" = some none)
    (n_len : PySem.W.nsIn K mainGlobals "len" = some none)
    (n_list : PySem.W.nsIn K mainGlobals "list" = some none)
    (n_max : PySem.W.nsIn K mainGlobals "max" = some none)
    (n_min : PySem.W.nsIn K mainGlobals "min" = some none)
    (n_range : PySem.W.nsIn K mainGlobals "range" = some none)
    (n_sorted : PySem.W.nsIn K mainGlobals "sorted" = some none)
    (n_tuple : PySem.W.nsIn K mainGlobals "tuple" = some none)
    (n_zip : PySem.W.nsIn K mainGlobals "zip" = some none)
    (z_MOST_KINDS : PySem.W.nsIn K mainGlobals "MOST_KINDS" = some (some (.int 3 t_MOST_KINDS)))
    (z_MOST_STATES : PySem.W.nsIn K mainGlobals "MOST_STATES" = some (some (.int 2 t_MOST_STATES)))
    (hm : ∀ ns : List Int, ns.length ≤ 63 → m_law [.scr ns] (fun d => d = .bl true) (fun _ => False)) :
    ∃ fd : FuncData, (∀ (s : Shared) (v : Value), BindsTo s fd ⟨[v], []⟩ [("_law_script", v)]) ∧ ∀ base : Heap, K.In base → base.Ns mainGlobals mg → FnOk l.prog w K mg base CX0 8 fa fd ["_law_script"] (fun vs H Q _ => ∃ (a : Addr) (ns : List Int), vs = [.ref a] ∧ SqL K H a (ns.map V.int) ∧ ns.length ≤ 63 ∧ ∀ H', Q (.bl true) H') := by
  have e := hfa.symm.trans (PySem.W.mg_of X Gg x_law)
  cases e
  have T : Txt K mg { C_0 := C_0, X_NoWord := X_NoWord, X_NoState := X_NoState, X_NoSender := X_NoSender, a_law_pool := a_law_pool, d_law_pool := (PySem.W.fnOf "_law_pool" "_law_pool" (defArgs (top 18)) (defBody (top 18)) (defScope (top 18)) .none kV_law_pool dc_law_pool pm_law_pool an_law_pool cd_law_pool ct_law_pool), a_law_draw := a_law_draw, d_law_draw := (PySem.W.fnOf "_law_draw" "_law_draw" (defArgs (top 19)) (defBody (top 19)) (defScope (top 19)) .none kV_law_draw dc_law_draw pm_law_draw an_law_draw cd_law_draw ct_law_draw), a_law_ways := a_law_ways, d_law_ways := (PySem.W.fnOf "_law_ways" "_law_ways" (defArgs (top 21)) (defBody (top 21)) (defScope (top 21)) .none kV_law_ways dc_law_ways pm_law_ways an_law_ways cd_law_ways ct_law_ways), a_NoSender__init := a_NoSender__init, d_NoSender__init := (PySem.W.fnOf "__init__" "NoSender.__init__" (defArgs (inClass (top 4) 0)) (defBody (inClass (top 4) 0)) (defScope (inClass (top 4) 0)) .none kV_NoSender__init dc_NoSender__init pm_NoSender__init an_NoSender__init cd_NoSender__init ct_NoSender__init), a_is_integer := a_is_integer, d_is_integer := (PySem.W.fnOf "is_integer" "is_integer" (defArgs (top 6)) (defBody (top 6)) (defScope (top 6)) .none kV_is_integer dc_is_integer pm_is_integer an_is_integer cd_is_integer ct_is_integer), a_is_integer_from := a_is_integer_from, d_is_integer_from := (PySem.W.fnOf "is_integer_from" "is_integer_from" (defArgs (top 7)) (defBody (top 7)) (defScope (top 7)) .none kV_is_integer_from dc_is_integer_from pm_is_integer_from an_is_integer_from cd_is_integer_from ct_is_integer_from), a_is_index := a_is_index, d_is_index := (PySem.W.fnOf "is_index" "is_index" (defArgs (top 8)) (defBody (top 8)) (defScope (top 8)) .none kV_is_index dc_is_index pm_is_index an_is_index cd_is_index ct_is_index), a_is_way := a_is_way, d_is_way := (PySem.W.fnOf "is_way" "is_way" (defArgs (top 15)) (defBody (top 15)) (defScope (top 15)) .none kV_is_way dc_is_way pm_is_way an_is_way cd_is_way ct_is_way), a_ascends := a_ascends, d_ascends := (PySem.W.fnOf "ascends" "ascends" (defArgs (top 9)) (defBody (top 9)) (defScope (top 9)) .none kV_ascends dc_ascends pm_ascends an_ascends cd_ascends ct_ascends), a_are_ways := a_are_ways, d_are_ways := (PySem.W.fnOf "are_ways" "are_ways" (defArgs (top 14)) (defBody (top 14)) (defScope (top 14)) .none kV_are_ways dc_are_ways pm_are_ways an_are_ways cd_are_ways ct_are_ways), a_Sender__init := a_Sender__init, d_Sender__init := (PySem.W.fnOf "__init__" "Sender.__init__" (defArgs (inClass (top 13) 0)) (defBody (inClass (top 13) 0)) (defScope (inClass (top 13) 0)) .none kV_Sender__init dc_Sender__init pm_Sender__init an_Sender__init cd_Sender__init ct_Sender__init), a_law_is_integer := a_law_is_integer, d_law_is_integer := (PySem.W.fnOf "_law_is_integer" "_law_is_integer" (defArgs (top 20)) (defBody (top 20)) (defScope (top 20)) .none kV_law_is_integer dc_law_is_integer pm_law_is_integer an_law_is_integer cd_law_is_integer ct_law_is_integer), a_Sender_state_count := a_Sender_state_count, d_Sender_state_count := (PySem.W.fnOf "state_count" "Sender.state_count" (defArgs (inClass (top 13) 1)) (defBody (inClass (top 13) 1)) (defScope (inClass (top 13) 1)) .none kV_Sender_state_count dc_Sender_state_count pm_Sender_state_count an_Sender_state_count cd_Sender_state_count ct_Sender_state_count), a_Sender_check_state := a_Sender_check_state, d_Sender_check_state := (PySem.W.fnOf "check_state" "Sender.check_state" (defArgs (inClass (top 13) 6)) (defBody (inClass (top 13) 6)) (defScope (inClass (top 13) 6)) .none kV_Sender_check_state dc_Sender_check_state pm_Sender_check_state an_Sender_check_state cd_Sender_check_state ct_Sender_check_state), a_Sender_ways := a_Sender_ways, d_Sender_ways := (PySem.W.fnOf "ways" "Sender.ways" (defArgs (inClass (top 13) 2)) (defBody (inClass (top 13) 2)) (defScope (inClass (top 13) 2)) .none kV_Sender_ways dc_Sender_ways pm_Sender_ways an_Sender_ways cd_Sender_ways ct_Sender_ways), a_law_ways_told := a_law_ways_told, d_law_ways_told := (PySem.W.fnOf "_law_ways_told" "_law_ways_told" (defArgs (top 23)) (defBody (top 23)) (defScope (top 23)) .none kV_law_ways_told dc_law_ways_told pm_law_ways_told an_law_ways_told cd_law_ways_told ct_law_ways_told), a_law_behind := a_law_behind, d_law_behind := (PySem.W.fnOf "_law_behind" "_law_behind" (defArgs (top 22)) (defBody (top 22)) (defScope (top 22)) .none kV_law_behind dc_law_behind pm_law_behind an_law_behind cd_law_behind ct_law_behind), a_check_kinds := a_check_kinds, d_check_kinds := (PySem.W.fnOf "check_kinds" "check_kinds" (defArgs (top 16)) (defBody (top 16)) (defScope (top 16)) .none kV_check_kinds dc_check_kinds pm_check_kinds an_check_kinds cd_check_kinds ct_check_kinds), a_Sender_followed := a_Sender_followed, d_Sender_followed := (PySem.W.fnOf "followed" "Sender.followed" (defArgs (inClass (top 13) 5)) (defBody (inClass (top 13) 5)) (defScope (inClass (top 13) 5)) .none kV_Sender_followed dc_Sender_followed pm_Sender_followed an_Sender_followed cd_Sender_followed ct_Sender_followed), a_Sender_states_behind := a_Sender_states_behind, d_Sender_states_behind := (PySem.W.fnOf "states_behind" "Sender.states_behind" (defArgs (inClass (top 13) 3)) (defBody (inClass (top 13) 3)) (defScope (inClass (top 13) 3)) .none kV_Sender_states_behind dc_Sender_states_behind pm_Sender_states_behind an_Sender_states_behind cd_Sender_states_behind ct_Sender_states_behind), a_Sender_lets := a_Sender_lets, d_Sender_lets := (PySem.W.fnOf "lets" "Sender.lets" (defArgs (inClass (top 13) 4)) (defBody (inClass (top 13) 4)) (defScope (inClass (top 13) 4)) .none kV_Sender_lets dc_Sender_lets pm_Sender_lets an_Sender_lets cd_Sender_lets ct_Sender_lets), a_law := fa, d_law := (PySem.W.fnOf "law" "law" (defArgs (top 24)) (defBody (top 24)) (defScope (top 24)) .none kV_law dc_law pm_law an_law cd_law ct_law) } := { cl_0 := ⟨pg0, hd0, po0, sa0⟩, mc_0 := PySem.W.mg_of X Gg aC0, xf_NoWord := ⟨xk_NoWord, xb_NoWord, xt_NoWord, xh_NoWord, xg_NoWord, xj_NoWord, xc_NoWord, xo_NoWord, xq_NoWord, xu_NoWord⟩, xm_NoWord := PySem.W.mg_of X Gg xa_NoWord, xf_NoState := ⟨xk_NoState, xb_NoState, xt_NoState, xh_NoState, xg_NoState, xj_NoState, xc_NoState, xo_NoState, xq_NoState, xu_NoState⟩, xm_NoState := PySem.W.mg_of X Gg xa_NoState, xf_NoSender := ⟨xk_NoSender, xb_NoSender, xt_NoSender, xh_NoSender, xg_NoSender, xj_NoSender, xc_NoSender, xo_NoSender, xq_NoSender, xu_NoSender⟩, xm_NoSender := PySem.W.mg_of X Gg xa_NoSender, xe_NoWord := xe_NoWord, xe_NoState := xe_NoState, xi_NoSender := ⟨⟨⟨_, _, _, _, _, _, _, _, _, _, _, _, _, _, _, xl_NoSender, xr_NoSender⟩, xy_NoSender, xb_NoSender, xt_NoSender, xk_NoSender⟩, xi_NoSender, xw_NoSender, xz_NoSender⟩, h_law_pool := ⟨fun_mk l_law_pool c_law_pool k_law_pool, (fun_mk (st := (top 18)) l_law_pool c_law_pool k_law_pool).binds fun _ _ _ _ _ _ us hl => match us, hl with | [_, _], _ => rfl, PySem.W.mg_of X Gg x_law_pool⟩, h_law_draw := ⟨fun_mk l_law_draw c_law_draw k_law_draw, (fun_mk (st := (top 19)) l_law_draw c_law_draw k_law_draw).binds fun _ _ _ _ _ _ us hl => match us, hl with | [_, _], _ => rfl, PySem.W.mg_of X Gg x_law_draw⟩, h_law_ways := ⟨fun_mk l_law_ways c_law_ways k_law_ways, (fun_mk (st := (top 21)) l_law_ways c_law_ways k_law_ways).binds fun _ _ _ _ _ _ us hl => match us, hl with | [_, _], _ => rfl, PySem.W.mg_of X Gg x_law_ways⟩, h_NoSender__init := ⟨fun_mk l_NoSender__init c_NoSender__init k_NoSender__init, (fun_mk (st := (inClass (top 4) 0)) l_NoSender__init c_NoSender__init k_NoSender__init).binds fun _ _ _ _ _ _ us hl => match us, hl with | [_, _], _ => rfl⟩, h_is_integer := ⟨fun_mk l_is_integer c_is_integer k_is_integer, (fun_mk (st := (top 6)) l_is_integer c_is_integer k_is_integer).binds fun _ _ _ _ _ _ us hl => match us, hl with | [_], _ => rfl, PySem.W.mg_of X Gg x_is_integer⟩, h_is_integer_from := ⟨fun_mk l_is_integer_from c_is_integer_from k_is_integer_from, (fun_mk (st := (top 7)) l_is_integer_from c_is_integer_from k_is_integer_from).binds fun _ _ _ _ _ _ us hl => match us, hl with | [_, _, _], _ => rfl, PySem.W.mg_of X Gg x_is_integer_from⟩, h_is_index := ⟨fun_mk l_is_index c_is_index k_is_index, (fun_mk (st := (top 8)) l_is_index c_is_index k_is_index).binds fun _ _ _ _ _ _ us hl => match us, hl with | [_, _], _ => rfl, PySem.W.mg_of X Gg x_is_index⟩, h_is_way := ⟨fun_mk l_is_way c_is_way k_is_way, (fun_mk (st := (top 15)) l_is_way c_is_way k_is_way).binds fun _ _ _ _ _ _ us hl => match us, hl with | [_, _], _ => rfl, PySem.W.mg_of X Gg x_is_way⟩, h_ascends := ⟨fun_mk l_ascends c_ascends k_ascends, (fun_mk (st := (top 9)) l_ascends c_ascends k_ascends).binds fun _ _ _ _ _ _ us hl => match us, hl with | [_], _ => rfl, PySem.W.mg_of X Gg x_ascends⟩, h_are_ways := ⟨fun_mk l_are_ways c_are_ways k_are_ways, (fun_mk (st := (top 14)) l_are_ways c_are_ways k_are_ways).binds fun _ _ _ _ _ _ us hl => match us, hl with | [_, _], _ => rfl, PySem.W.mg_of X Gg x_are_ways⟩, h_Sender__init := ⟨fun_mk l_Sender__init c_Sender__init k_Sender__init, (fun_mk (st := (inClass (top 13) 0)) l_Sender__init c_Sender__init k_Sender__init).binds fun _ _ _ _ _ _ us hl => match us, hl with | [_, _], _ => rfl⟩, mk_0 := ⟨mk0, x_Sender__init, i_Sender__init, kc0⟩, h_law_is_integer := ⟨fun_mk l_law_is_integer c_law_is_integer k_law_is_integer, (fun_mk (st := (top 20)) l_law_is_integer c_law_is_integer k_law_is_integer).binds fun _ _ _ _ _ _ us hl => match us, hl with | [_], _ => rfl, PySem.W.mg_of X Gg x_law_is_integer⟩, h_Sender_state_count := ⟨fun_mk l_Sender_state_count c_Sender_state_count k_Sender_state_count, (fun_mk (st := (inClass (top 13) 1)) l_Sender_state_count c_Sender_state_count k_Sender_state_count).binds fun _ _ _ _ _ _ us hl => match us, hl with | [_], _ => rfl, ⟨x_Sender_state_count, i_Sender_state_count, k_Sender_state_count⟩⟩, h_Sender_check_state := ⟨fun_mk l_Sender_check_state c_Sender_check_state k_Sender_check_state, (fun_mk (st := (inClass (top 13) 6)) l_Sender_check_state c_Sender_check_state k_Sender_check_state).binds fun _ _ _ _ _ _ us hl => match us, hl with | [_, _], _ => rfl, ⟨x_Sender_check_state, i_Sender_check_state, k_Sender_check_state⟩⟩, h_Sender_ways := ⟨fun_mk l_Sender_ways c_Sender_ways k_Sender_ways, (fun_mk (st := (inClass (top 13) 2)) l_Sender_ways c_Sender_ways k_Sender_ways).binds fun _ _ _ _ _ _ us hl => match us, hl with | [_, _], _ => rfl, ⟨x_Sender_ways, i_Sender_ways, k_Sender_ways⟩⟩, h_law_ways_told := ⟨fun_mk l_law_ways_told c_law_ways_told k_law_ways_told, (fun_mk (st := (top 23)) l_law_ways_told c_law_ways_told k_law_ways_told).binds fun _ _ _ _ _ _ us hl => match us, hl with | [_, _], _ => rfl, PySem.W.mg_of X Gg x_law_ways_told⟩, h_law_behind := ⟨fun_mk l_law_behind c_law_behind k_law_behind, (fun_mk (st := (top 22)) l_law_behind c_law_behind k_law_behind).binds fun _ _ _ _ _ _ us hl => match us, hl with | [_, _, _], _ => rfl, PySem.W.mg_of X Gg x_law_behind⟩, h_check_kinds := ⟨fun_mk l_check_kinds c_check_kinds k_check_kinds, (fun_mk (st := (top 16)) l_check_kinds c_check_kinds k_check_kinds).binds fun _ _ _ _ _ _ us hl => match us, hl with | [_], _ => rfl, PySem.W.mg_of X Gg x_check_kinds⟩, h_Sender_followed := ⟨fun_mk l_Sender_followed c_Sender_followed k_Sender_followed, (fun_mk (st := (inClass (top 13) 5)) l_Sender_followed c_Sender_followed k_Sender_followed).binds fun _ _ _ _ _ _ us hl => match us, hl with | [_, _, _], _ => rfl, ⟨x_Sender_followed, i_Sender_followed, k_Sender_followed⟩⟩, h_Sender_states_behind := ⟨fun_mk l_Sender_states_behind c_Sender_states_behind k_Sender_states_behind, (fun_mk (st := (inClass (top 13) 3)) l_Sender_states_behind c_Sender_states_behind k_Sender_states_behind).binds fun _ _ _ _ _ _ us hl => match us, hl with | [_, _, _], _ => rfl, ⟨x_Sender_states_behind, i_Sender_states_behind, k_Sender_states_behind⟩⟩, h_Sender_lets := ⟨fun_mk l_Sender_lets c_Sender_lets k_Sender_lets, (fun_mk (st := (inClass (top 13) 4)) l_Sender_lets c_Sender_lets k_Sender_lets).binds fun _ _ _ _ _ _ us hl => match us, hl with | [_, _], _ => rfl, ⟨x_Sender_lets, i_Sender_lets, k_Sender_lets⟩⟩, h_law := ⟨fun_mk l_law c_law k_law, (fun_mk (st := (top 24)) l_law c_law k_law).binds fun _ _ _ _ _ _ us hl => match us, hl with | [_], _ => rfl, PySem.W.mg_of X Gg x_law⟩, na_0_exits := na_0_exits, n_all := PySem.W.mg_none_of X Gg n_all, n_bool := PySem.W.mg_none_of X Gg n_bool, n_enumerate := PySem.W.mg_none_of X Gg n_enumerate, n_int := PySem.W.mg_none_of X Gg n_int, n_isinstance := PySem.W.mg_none_of X Gg n_isinstance, n_len := PySem.W.mg_none_of X Gg n_len, n_list := PySem.W.mg_none_of X Gg n_list, n_max := PySem.W.mg_none_of X Gg n_max, n_min := PySem.W.mg_none_of X Gg n_min, n_range := PySem.W.mg_none_of X Gg n_range, n_sorted := PySem.W.mg_none_of X Gg n_sorted, n_tuple := PySem.W.mg_none_of X Gg n_tuple, n_zip := PySem.W.mg_none_of X Gg n_zip, c_MOST_KINDS := ⟨t_MOST_KINDS, PySem.W.mg_of X Gg z_MOST_KINDS⟩, c_MOST_STATES := ⟨t_MOST_STATES, PySem.W.mg_of X Gg z_MOST_STATES⟩ }
  exact ⟨_, fun s v => .of_eq rfl, fun base _ _ => ok_law T hm⟩
theorem walk {l : PySem.W.OpenLaw} {q : Program} {loose : List Str} {XP : (Str → Option Value) → Heap → Prop} {YP : World → Heap → Prop} {d : DefRec} {K : Params → PySem.W.Frag} (hn : l.most = some 63) (hdf : d.params.defaults = [])
    (hY : ∀ (w : World) (h : Heap), YP w h → (K w.params).In h)
    (F : ∀ (w : World) (mg : Str → Option Value) (fa : Addr) (h : Heap), (K w.params).In h → h.Ns mainGlobals mg → mg d.name = some (.ref fa) →
      ∃ fd : FuncData, (∀ (s : Shared) (u : Value), BindsTo s fd ⟨[u], []⟩ [("_law_script", u)]) ∧ ∀ base : Heap, (K w.params).In base → base.Ns mainGlobals mg → FnOk l.prog w (K w.params) mg base CX0 8 fa fd ["_law_script"] (fun vs H Q _ => ∃ (a : Addr) (ns : List Int), vs = [.ref a] ∧ SqL (K w.params) H a (ns.map V.int) ∧ ns.length ≤ 63 ∧ ∀ H', Q (.bl true) H')) :
    PySem.W.WalkO q loose XP YP l.row.toRowW d [] (fun f vs => PySem.call f vs) :=
  L2.walk_of (n := 63) (k := 8) (x := "_law_script") (CX := fun _ => CX0) (sp := fun w => fun vs H Q _ => ∃ (a : Addr) (ns : List Int), vs = [.ref a] ∧ SqL (K w.params) H a (ns.map V.int) ∧ ns.length ≤ 63 ∧ ∀ H', Q (.bl true) H') hn (by decide) hdf ⟨rfl, by decide, by decide⟩ hY F (fun _ _ a ns hl _ hS => ⟨a, ns, rfl, hS, hl, fun _ => rfl⟩) fun _ _ _ _ _ z => z
def r40 (ks : List Int) : List Int := (List.replicate 40 ks).flatten
theorem r40_len (ks : List Int) : (r40 ks).length = 40 * ks.length := by rw [r40, List.length_flatten, List.map_replicate, List.sum_replicate_nat]
theorem r40_in {ks : List Int} {k : Int} (h : k ∈ r40 ks) : k ∈ ks := by
  obtain ⟨l, hl, hk⟩ := List.mem_flatten.mp h
  rw [(List.mem_replicate.mp hl).2] at hk
  exact hk
theorem mul40 {ks : List Int} {Q : D → Prop} {E : Xc → Prop} (h : ks.length ≤ 60) (q : Q (dRow (r40 ks))) : mulD (dRow ks) (.int 40) Q E := by
  refine ⟨⟨by omega, by omega, ?_⟩, ?_⟩
  · rw [List.length_map, show (40 : Int).toNat = 40 from rfl]; exact sz (by omega)
  · have e : (List.replicate 40 (ks.map D.int)).flatten = (r40 ks).map D.int := by rw [r40, List.map_flatten, List.map_replicate]
    show Q (.lst (List.replicate 40 (ks.map D.int)).flatten)
    rw [e]; exact q
def K3 (ks : List Int) : Prop := ∀ k ∈ ks, 0 ≤ k ∧ k < 3
theorem askK_row {ks : List Int} (h : ks.length ≤ 50000) : askK (dRow ks) := ⟨plD_lst, fun xs e => by cases e; exact ⟨by simpa using h, fun x hx => plD_ints hx⟩⟩
theorem kindsB_row {ks : List Int} (h : K3 ks) : kindsB (dRow ks) = true := by simp [kindsB, dList, ixOk]; exact fun k hk => h k hk
section
variable {W : List (List Way)} {Q : D → Prop} {E : Xc → Prop}
theorem beh (ok : SendOk W) {i : Int} {ks : List Int} (h0 : 0 ≤ i) (h1 : i < W.length) (hk : K3 ks) (hl : ks.length ≤ 50000) (q : Q (dRow (foldW W [i] ks))) : noF 0 "states_behind" (dSend W) ∧ c_Sender_states_behind [.fz (dSend W), .fz (.int i), .fz (dRow ks)] Q E :=
  have e : ixOk W.length (.int i) = true := by simp [ixOk]; omega
  ⟨noF1 (by decide +kernel), W, _, _, rfl, ok, plD_int, askK_row hl, .inr (.inr ⟨i, ks, rfl, rfl, e, kindsB_row hk, q⟩)⟩
theorem lts (ok : SendOk W) {ks : List Int} (hk : K3 ks) (hl : ks.length ≤ 50000) (q : Q (.bl (!(foldW W [0] ks).isEmpty))) : noF 0 "lets" (dSend W) ∧ c_Sender_lets [.fz (dSend W), .fz (dRow ks)] Q E :=
  ⟨noF1 (by decide +kernel), W, _, rfl, ok, askK_row hl, .inr ⟨ks, rfl, kindsB_row hk, q⟩⟩
variable {QS : Fl → QL.Env → Prop} {ES : Xc → QL.Env → Prop} {A0 A1 A2 A4 A5 A8 A9 A10 A11 A12 A13 A14 A15 A16 A17 A18 : Sl}
theorem neD_blS {b : Bool} (q : Q (.bl false)) : neD (.bl b) (.bl b) Q E := by cases b <;> exact ⟨_, _, rfl, rfl, rfl, rfl, q⟩
theorem len_emp (xs : List Int) : (decide (0 < xs.length)) = !xs.isEmpty := by cases xs <;> simp
theorem l0 (ok : SendOk W) {ks : List Int} (hk : K3 ks) (hl : ks.length ≤ 60) (hQ : ∀ ρ, QS (.rt (.bl true)) ρ) :
    lt0 [A0, A1, A2, .fz (dAll W), A4, A5, .fz (dSend W), .fz (dRow ks), A8, A9, A10, A11, A12, A13, A14, A15, A16, A17, .fz (dRow (foldW W [0] (r40 ks)))] QS ES := by
  have n1 := ok.n1
  have k4 : K3 (r40 ks) := fun k h => hk k (r40_in h)
  have l4 : (r40 ks).length ≤ 50000 := by rw [r40_len]; omega
  have z1 := sz (n := 1) (by decide)
  have z0 := sz (n := 0) (by decide)
  unfold lt0
  simp [-mulD_lst, z1, z0]
  refine ⟨noF1 (by decide +kernel), mul40 hl ?_⟩
  refine (beh ok (by decide) (by omega) k4 l4 ?_).2
  refine neD_row ?_
  simp [-mulD_lst]
  refine ⟨noF1 (by decide +kernel), mul40 hl ?_⟩
  refine (lts ok k4 l4 ?_).2
  rw [len_emp]
  refine neD_blS ?_
  simp
  refine beh ok (by decide) (by omega) (ks := []) (fun k h => by simp at h) (by simp) ?_
  refine eqD_row (b := [0]) ?_
  simp [foldW, z0]
  refine lts ok (ks := []) (fun k h => by simp at h) (by simp) ?_
  simp [foldW]
  exact hQ _
theorem l2 (ok : SendOk W) {ks : List Int} (hk : K3 ks) (hl : ks.length ≤ 60) (hQ : ∀ ρ, QS (.rt (.bl true)) ρ) :
    lt2 [A0, A1, A2, .fz (dAll W), A4, A5, .fz (dSend W), .ow (OD.of (dRow ks)), A8, A9, A10, A11, A12, A13, A14, A15, A16, A17, A18] QS ES := by
  have n1 := ok.n1
  have z1 := sz (n := 1) (by decide)
  unfold lt2
  simp [z1]
  unfold lt1
  simp [-mulD_lst]
  refine mul40 hl ?_
  refine forE_inv (ds := (r40 ks).map D.int) (fun i ρ => ∃ a, ρ = [A0, A1, A2, .fz (dAll W), A4, A5, .fz (dSend W), .fz (dRow ks), A8, A9, A10, A11, a, A13, A14, A15, A16, A17, .fz (dRow (foldW W [0] ((r40 ks).take i)))]) (fun i d ρ K hi ⟨a, e⟩ hk' _ _ _ => ?_) (fun ρ ⟨a, e⟩ => ?_) ⟨A12, by simp [foldW]; rfl⟩
  · subst e
    rw [List.getElem?_map, Option.map_eq_some_iff] at hi
    obtain ⟨k, hi, rfl⟩ := hi
    obtain ⟨f1, f2⟩ := foldW_in (W := W) (S := [0]) ((r40 ks).take i) (by simp) ok.n2 (by simp; omega)
    have e2 : (r40 ks).take (i + 1) = (r40 ks).take i ++ [k] := by
      rw [List.take_add_one, hi]; rfl
    rw [e2, foldW_snoc] at hk'
    generalize foldW W [0] ((r40 ks).take i) = S at f1 f2 hk' ⊢
    simp
    exact ⟨W, S, k, rfl, ok, f1, f2, hk' _ ⟨_, rfl⟩⟩
  · subst e
    simp
    exact l0 ok hk hl hQ
def lc31 : QL.Env → Ws := (sSeq (sSetIxN 8 (rd 9) (callF c_law_behind (argsP (dC (rd 3) (dC (ixL 8 (rd 9)) (dC (rd 12) nilC))))))
    (sSeq (sSet 15 (brw1 (lstS (listN (consA (rd 7) nilA)))))
    (sSeq (sSet 16 (callM 0 "states_behind" c_Sender_states_behind (rd 6) (argsP (dC (rd 9) (dC (rd 15) nilC)))))
    (sSeq (sIf (brwB (orB (notB (testB (un1 (isiD "list") (rd 16)))) (orB (testB (bin2 neD (rd 16) (bin2 ixD (rd 8) (rd 9)))) (testB (bin2 neD (rd 15) (rd 7)))))) (sRet (kst (.bl false))) sNx)
    (sIf (notB (testB (callN (allD fun bs => bs.all id) (consA (lstV (lcN (lstI (rd 16)) [17] (nameG 17) yesB (callF c_law_is_integer (argsP (dC (rd 17) nilC))))) nilA)))) (sRet (kst (.bl false))) sNx)))))
def lb31 : QL.Env → Ws := (sSeq (sApp1 7 (pVar 7) (scG (rd 12)))
    (sSeq (sFor [] (rng1 (callN lenD (consA (rd 3) nilA))) (nameG 9) lc31)
    (sIf (brwB (orB (testB (bin2 neD (callM 0 "lets" c_Sender_lets (rd 6) (argsP (dC (callN listD (consA (rd 7) nilA)) nilC))) (bin2 gtD (callN lenD (consA (bin2 ixD (rd 8) (kst (.int 0))) nilA)) (kst (.int 0))))) (notB (testB (un1 (isiD "bool") (callM 0 "lets" c_Sender_lets (rd 6) (argsP (dC (rd 7) nilC)))))))) (sRet (kst (.bl false))) sNx)))
theorem lt3_split : lt3 = (sSeq (sFor [] (rng1 (callN min2D (consA (kst (.int 60)) (consA (callN max2D (consA (kst (.int 5)) (consA (bin2 subD (lenS 0) (kst (.int 1))) nilA))) nilA)))) (nameG 10) (sSeq (sSetP 4 11 (callF c_law_pool (argsP (slC 0 (dC (bin2 addD (kst (.int 1)) (rd 10)) nilC)))))
    (sSeq (sSet 12 (callF c_law_draw (argsP (slC 11 (dC (kst (.int 3)) nilC)))))
    (sSeq (sSet 13 (lstV (lcN (lstI (bin2 ixD (rd 3) (bin2 modD (rd 10) (callN lenD (consA (rd 3) nilA))))) [14] (nameG 14) yesB (bin2 ixD (rd 14) (kst (.int 0))))))
    (sSeq (sIf (testB (bin2 gtD (callF c_law_draw (argsP (slC 11 (dC (kst (.int 6)) nilC)))) (kst (.int 0)))) (sSet 12 (bin2 ixD (rd 13) (callF c_law_draw (argsP (slC 11 (dC (callN lenD (consA (rd 13) nilA)) nilC)))))) sNx)
    lb31)))))
    lt2) := rfl
def RB (W : List (List Way)) (ks : List Int) (rows : List (List Int)) : Prop := rows.length = W.length ∧ ∀ s : Nat, s < W.length → rows[s]? = some (foldW W [(s : Int)] ks)
def RM (W : List (List Way)) (ks : List Int) (k : Int) (j : Nat) (rows : List (List Int)) : Prop := rows.length = W.length ∧ (∀ s : Nat, s < j → s < W.length → rows[s]? = some (foldW W [(s : Int)] (ks ++ [k]))) ∧ ∀ s : Nat, j ≤ s → s < W.length → rows[s]? = some (foldW W [(s : Int)] ks)
theorem RB.start {ks : List Int} {k : Int} {rows : List (List Int)} (h : RB W ks rows) : RM W ks k 0 rows := ⟨h.1, fun s hs => by omega, fun s _ hs => h.2 s hs⟩
theorem RM.done {ks : List Int} {k : Int} {rows : List (List Int)} (h : RM W ks k W.length rows) : RB W (ks ++ [k]) rows := ⟨h.1, fun s hs => h.2.1 s hs hs⟩
theorem RM.step {ks : List Int} {k : Int} {j : Nat} {rows : List (List Int)} (h : RM W ks k j rows) (hj : j < W.length) : RM W ks k (j + 1) (rows.set j (foldW W [(j : Int)] (ks ++ [k]))) := by
  refine ⟨by simpa using h.1, fun s hs hw => ?_, fun s hs hw => ?_⟩
  · rw [List.getElem?_set]
    by_cases e : j = s
    · subst e; simp [h.1, hj]
    · rw [if_neg e]; exact h.2.1 s (by omega) hw
  · rw [List.getElem?_set, if_neg (by omega)]; exact h.2.2 s (by omega) hw
variable {ns : List Int}
theorem lc_ok (ok : SendOk W) {ks : List Int} {k : Int} (hk : K3 (ks ++ [k])) (hl : ks.length < 60) {j : Nat} (hj : j < W.length) {rows : List (List Int)} (hr : RM W ks k j rows)
    (hQ : ∀ rows a15 a16, RM W ks k (j + 1) rows → QS .nx [.scr ns, A1, A2, .fz (dAll W), A4, A5, .fz (dSend W), .ow (OD.of (dRow (ks ++ [k]))), .ow (OD.lf (rows.map fun r => dRow r)), .fz (.int j), A10, A11, .fz (.int k), A13, A14, a15, a16, .un, A18]) :
    lc31 [.scr ns, A1, A2, .fz (dAll W), A4, A5, .fz (dSend W), .ow (OD.of (dRow (ks ++ [k]))), .ow (OD.lf (rows.map fun r => dRow r)), .fz (.int j), A10, A11, .fz (.int k), A13, A14, A15, A16, .un, A18] QS ES := by
  have n2 := ok.n2
  obtain ⟨f1, f2⟩ := foldW_in (W := W) (S := [(j : Int)]) ks (by simp) n2 (by simp; omega)
  obtain ⟨g1, g2⟩ := foldW_in (W := W) (S := [(j : Int)]) (ks ++ [k]) (by simp) n2 (by simp; omega)
  have hs := hr.step hj
  have hat : atI (rows.map fun r => dRow r) (j : Int) = some (dRow (foldW W [(j : Int)] ks)) := atI_nat (by rw [List.getElem?_map, hr.2.2 j (Nat.le_refl _) hj]; rfl)
  have lk : (ks ++ [k]).length ≤ 60 := by simp; omega
  rw [foldW_snoc] at hs
  have fs := foldW_snoc (W := W) (S := [(j : Int)]) (ks := ks) (k := k)
  generalize hws : ks ++ [k] = ws at *
  unfold lc31
  simp
  refine ⟨_, hat, W, _, k, rfl, ok, f1, f2, j, ?_, ?_⟩
  · rw [hr.1, ixN_nat (by omega) (by omega)]; rfl
  rw [fs] at g1 g2
  refine beh ok (by omega) (by omega) hk (by omega) ?_
  rw [fs]
  have at2 : atI ((rows.map fun r => dRow r).set j (dRow (stepW W (foldW W [(j : Int)] ks) k))) (j : Int) = some (dRow (stepW W (foldW W [(j : Int)] ks) k)) := atI_nat (by rw [List.getElem?_set]; simp [hr.1, hj])
  have st : (rows.map fun r => dRow r).set j (dRow (stepW W (foldW W [(j : Int)] ks) k)) = (rows.set j (stepW W (foldW W [(j : Int)] ks) k)).map fun r => dRow r := by rw [List.map_set]
  rw [st] at at2 ⊢
  generalize rows.set j (stepW W (foldW W [(j : Int)] ks) k) = rows' at *
  generalize stepW W (foldW W [(j : Int)] ks) k = r at *
  simp
  refine ⟨_, at2, ?_⟩
  refine neD_row ?_
  simp
  refine neD_row ?_
  simp
  refine ⟨⟨rfl, sz (by omega)⟩, ?_⟩
  refine lcL_map (f := D.int) (fun _ => .bl true) (fun x hx K hK => ?_) ?_
  · simpa [wipeE] using hK
  · have e : r.map (fun _ => D.bl true) = (r.map fun _ => true).map D.bl := by simp
    rw [e]
    refine allD_bls ?_
    simp
    exact hQ rows' _ _ hs
theorem lb_ok (ok : SendOk W) {ks : List Int} {k : Int} (hk : K3 ks) (hl : ks.length < 60) (k0 : 0 ≤ k) (k3 : k < 3) {rows : List (List Int)} (hr : RB W ks rows)
    (hQ : ∀ rows a9 a15 a16, K3 (ks ++ [k]) → RB W (ks ++ [k]) rows → QS .nx [.scr ns, A1, A2, .fz (dAll W), A4, A5, .fz (dSend W), .ow (OD.of (dRow (ks ++ [k]))), .ow (OD.lf (rows.map fun r => dRow r)), a9, A10, A11, .fz (.int k), A13, A14, a15, a16, .un, A18]) :
    lb31 [.scr ns, A1, A2, .fz (dAll W), A4, A5, .fz (dSend W), .ow (OD.of (dRow ks)), .ow (OD.lf (rows.map fun r => dRow r)), A9, A10, A11, .fz (.int k), A13, A14, A15, A16, .un, A18] QS ES := by
  have n1 := ok.n1
  have n2 := ok.n2
  have hk2 : K3 (ks ++ [k]) := fun x hx => by
    rcases List.mem_append.mp hx with h | h
    · exact hk x h
    · simp at h; subst h; exact ⟨k0, k3⟩
  unfold lb31
  simp
  refine ⟨_, rfl, sz_lt (by simp; omega), by omega, ?_⟩
  have ed : ks.map D.int ++ [D.int k] = (ks ++ [k]).map D.int := by simp
  rw [ed]
  refine forE_inv (fun j ρ => ∃ rows a9 a15 a16, RM W ks k j rows ∧ ρ = [.scr ns, A1, A2, .fz (dAll W), A4, A5, .fz (dSend W), .ow (OD.of (dRow (ks ++ [k]))), .ow (OD.lf (rows.map fun r => dRow r)), a9, A10, A11, .fz (.int k), A13, A14, a15, a16, .un, A18])
    (fun j d ρ K hj ⟨rows, a9, a15, a16, hr, e⟩ hk' _ _ _ => ?_) (fun ρ ⟨rows, a9, a15, a16, hr, e⟩ => ?_) ⟨rows, A9, A15, A16, hr.start, rfl⟩
  · subst e
    obtain ⟨hj', rfl⟩ := rng_at hj
    exact lc_ok ok hk2 hl hj' hr fun rows b15 b16 h => hk' _ ⟨rows, _, _, _, h, rfl⟩
  · subst e
    have hr' : RB W (ks ++ [k]) rows := RM.done (by simpa using hr)
    have at0 : atI (rows.map fun r => dRow r) 0 = some (dRow (foldW W [0] (ks ++ [k]))) := atI_nat (j := 0) (by rw [List.getElem?_map, hr'.2 0 (by omega)]; rfl)
    have fin := hQ rows a9 a15 a16 hk2 hr'
    have lw : (ks ++ [k]).length ≤ 60 := by simp; omega
    generalize ks ++ [k] = ws at *
    simp
    refine lts ok hk2 (by omega) ?_
    refine ⟨_, at0, ?_⟩
    simp
    rw [len_emp]
    refine neD_blS ?_
    simp
    refine lts ok hk2 (by omega) ?_
    simp [isi_bool plD_bl, isBl]
    exact fin
theorem l3 (ok : SendOk W) (hQ : ∀ ρ, QS (.rt (.bl true)) ρ) (hn : ns.length ≤ 63) {rows : List (List Int)} (hr : RB W [] rows) :
    lt3 [.scr ns, A1, A2, .fz (dAll W), A4, A5, .fz (dSend W), .ow (OD.of (dRow [])), .ow (OD.lf (rows.map fun r => dRow r)), A9, .un, .un, .un, .un, .un, .un, .un, .un, .un] QS ES := by
  have n1 := ok.n1
  have n2 := ok.n2
  rw [lt3_split]
  simp
  obtain ⟨m, hm, hm2⟩ : ∃ m : Nat, (if (if 5 < (ns.length : Int) - 1 then (ns.length : Int) - 1 else 5) < 60 then if 5 < (ns.length : Int) - 1 then (ns.length : Int) - 1 else 5 else 60) = m ∧ m ≤ 60 := by
    refine ⟨(if (if 5 < (ns.length : Int) - 1 then (ns.length : Int) - 1 else 5) < 60 then if 5 < (ns.length : Int) - 1 then (ns.length : Int) - 1 else 5 else 60).toNat, ?_, ?_⟩ <;> split <;> (try split) <;> omega
  rw [hm]
  refine ⟨by omega, ?_⟩
  rw [show (m : Int).toNat = m from rfl]
  refine forE_inv (fun i ρ => ∃ ks rows a9 a10 a11 a12 a13 a15 a16, ks.length = i ∧ K3 ks ∧ RB W ks rows ∧ ρ = [.scr ns, A1, A2, .fz (dAll W), A4, A5, .fz (dSend W), .ow (OD.of (dRow ks)), .ow (OD.lf (rows.map fun r => dRow r)), a9, a10, a11, a12, a13, .un, a15, a16, .un, .un])
    (fun i d ρ K hi ⟨ks, rows, a9, a10, a11, a12, a13, a15, a16, hl, hk, hr, e⟩ hk' hrt _ _ => ?_) (fun ρ ⟨ks, rows, a9, a10, a11, a12, a13, a15, a16, hl, hk, hr, e⟩ => ?_) ⟨[], rows, A9, .un, .un, .un, .un, .un, .un, rfl, fun k h => by simp at h, hr, rfl⟩
  · subst e
    obtain ⟨hi, rfl⟩ := rng_at hi
    have hl60 : ks.length < 60 := by omega
    have nxt : ∀ (k : Int) (b13 : Sl), 0 ≤ k → k < 3 → lb31 [.scr ns, A1, A2, .fz (dAll W), A4, A5, .fz (dSend W), .ow (OD.of (dRow ks)), .ow (OD.lf (rows.map fun r => dRow r)), a9, .fz (.int i), .pool, .fz (.int k), b13, .un, a15, a16, .un, .un] K ES := fun k b13 k0 k3 =>
      lb_ok ok hk hl60 k0 k3 hr fun rows b9 b15 b16 hk2 hr2 => hk' _ ⟨_, rows, _, _, _, _, _, _, _, by simp [hl], hk2, hr2, rfl⟩
    simp
    refine pool_ok (by omega) fun a b c d => ⟨pool4, ?_⟩
    refine draw_ok (n := 3) (by decide) (by decide) fun k0 k00 k03 => ?_
    refine ⟨by omega, ?_⟩
    obtain ⟨t, ht⟩ : ∃ t : Nat, (i : Int) % W.length = t := ⟨((i : Int) % W.length).toNat, by have := Int.emod_nonneg (i : Int) (b := W.length) (by omega); omega⟩
    have htl : t < W.length := by have := Int.emod_lt_of_pos (i : Int) (b := W.length) (by omega); omega
    rw [ht]
    have hW := ok.ok _ (List.getElem_mem htl)
    have eW : W[t]? = some W[t] := List.getElem?_eq_getElem htl
    generalize W[t] = l at hW eW
    refine ⟨dWays l, atI_nat (by rw [List.getElem?_map, eW]; rfl), ?_⟩
    simp
    refine ⟨⟨rfl, sz (by omega)⟩, ?_⟩
    refine lcL_map (f := dWay) (fun w => .int w.1) (fun w hw K2 hK => ?_) ?_
    · simpa [wipeE] using hK
    refine draw_ok (n := 6) (by decide) (by decide) fun b6 b60 b63 => ?_
    simp
    split
    · refine draw_ok (n := l.length) (by omega) (by omega) fun y y0 y1 => ?_
      obtain ⟨y, rfl⟩ := Int.eq_ofNat_of_zero_le y0
      have hy : y < l.length := by omega
      have ey : l[y]? = some l[y] := List.getElem?_eq_getElem hy
      obtain ⟨q0, q3, _⟩ := hW.2.2.1 _ (List.getElem_mem hy)
      simp
      exact ⟨_, atI_nat (by rw [List.getElem?_map, ey]; rfl), nxt _ _ q0 q3⟩
    · exact nxt _ _ k00 k03
  · subst e
    simp
    refine l2 ok hk (by simp at hl; omega) hQ
theorem l5 (ok : SendOk W) (hQ : ∀ ρ, QS (.rt (.bl true)) ρ) (hn : ns.length ≤ 63) :
    lt5 [.scr ns, A1, A2, .fz (dAll W), A4, A5, .fz (dSend W), .un, .un, .un, .un, .un, .un, .un, .un, .un, .un, .un, .un] QS ES := by
  have n1 := ok.n1
  have n2 := ok.n2
  have z0 := sz (n := 0) (by decide)
  unfold lt5
  simp [z0]
  unfold lt4
  simp
  refine ⟨by omega, ⟨rfl, sz (by omega)⟩, ?_⟩
  refine lcL_map (f := fun k : Nat => D.int k) (fun k : Nat => dRow [(k : Int)]) (fun x hx K hK => ?_) ?_
  · simp [wipeE]
    exact ⟨sz (by decide), hK⟩
  · have e : (List.range W.length).map (fun k : Nat => dRow [(k : Int)]) = ((List.range W.length).map fun k : Nat => [(k : Int)]).map fun r => dRow r := by rw [List.map_map]; rfl
    rw [e]
    exact l3 ok hQ hn ⟨by simp, fun s hs => by simp [hs, foldW]⟩
theorem l10 {A2 : D} (ok : SendOk W) (hQ : ∀ ρ, QS (.rt (.bl true)) ρ) (hn : ns.length ≤ 63) :
    lt10 [.scr ns, .pool, .fz A2, .fz (dAll W), .un, .un, .un, .un, .un, .un, .un, .un, .un, .un, .un, .un, .un, .un, .un] QS ES := by
  have n1 := ok.n1
  have n2 := ok.n2
  unfold lt10
  simp
  refine ⟨⟨rfl, sz (by omega)⟩, ?_⟩
  refine lcO_map dWays (fun l => OD.lf (l.map dWay)) (fun l hl K hK => by simpa [wipeE, OD.lf] using hK) ?_
  show lt9 [.scr ns, .pool, .fz A2, .fz (dAll W), .ow (oWays W), .un, .un, .un, .un, .un, .un, .un, .un, .un, .un, .un, .un, .un, .un] QS ES
  unfold lt9
  simp
  have ol : (Sl.ow (oWays W)).lend = .fz (dAll W) := by show (if (oWays W).ok = true then Sl.fz (oWays W).d else .un) = _; rw [if_pos (oWays_ok W), oWays_d]
  refine ⟨by simp [llE, oWays_ll], ?_⟩
  rw [ol]
  refine ⟨W, rfl, ok, by simp [OD.im, OD.imf, oWays_im], by simp [OD.ok, OD.okfs, oWays_ok], ?_⟩
  have od : (OD.ins 0 [("exits", oWays W)]).d = dSend W := by simp [OD.d, OD.dfs, oWays_d, dSend]
  rw [od]
  unfold lt8
  obtain ⟨l, W', hW⟩ : ∃ l W', W = l :: W' := by
    cases W with
    | nil => simp at n1
    | cons l W' => exact ⟨l, W', rfl⟩
  simp
  have f0 : fIx (fVar 4) (kst (.int 0)) [.scr ns, .pool, .fz A2, .fz (.lst (W.map dWays)), .ow (oWays W), .un, .fz (dSend W), .un, .un, .un, .un, .un, .un, .un, .un, .un, .un, .un, .un] (fun p => (∃ x, p.1 = OD.lst x) ∧ lt7 [.scr ns, .pool, .fz A2, .fz (.lst (W.map dWays)), .ow (p.2 (.lst [])), .un, .fz (dSend W), .un, .un, .un, .un, .un, .un, .un, .un, .un, .un, .un, .un] QS ES) (fun x => ES x [.scr ns, .pool, .fz A2, .fz (.lst (W.map dWays)), .ow (oWays W), .un, .fz (dSend W), .un, .un, .un, .un, .un, .un, .un, .un, .un, .un, .un, .un]) := by
    refine ⟨oWays W, rfl, 0, rfl, ?_⟩
    subst hW
    refine ⟨0, OD.lf (l.map dWay), by rw [ixN_nat (by decide) (by simp)]; rfl, rfl, ⟨_, rfl⟩, ?_⟩
    unfold lt7
    simp
    refine ⟨_, rfl, ⟨_, rfl⟩, ?_⟩
    unfold lt6
    simp
    refine ⟨_, rfl, ok, ?_⟩
    simp
    exact l5 ok hQ hn
  exact f0
end
theorem main (ns : List Int) (hl : ns.length ≤ 63) : m_law [.scr ns] (fun d => d = .bl true) (fun _ => False) := by
  refine ⟨rfl, ?_⟩
  unfold b_law
  simp
  refine pool_ok (by decide) fun a b c d => ⟨pool4, ?_⟩
  unfold lt12
  simp
  refine draw_ok (n := 3) (by decide) (by decide) fun n n0 n1 => ?_
  unfold lt11
  simp
  refine ⟨1 + n, rfl, by omega, by omega, fun W ok _ => ?_⟩
  exact l10 ok (fun ρ => by simp) hl
end Lw
open PySem PySem.W PyProof.Rows in
set_option maxRecDepth 100000 in
set_option maxHeartbeats 0 in
theorem PySem.Challenge.cw_latecomers_k31_words_that_are_let_holds : PySem.Challenge.rw_latecomers_k31_words_that_are_let.Holds := by
  w_on; o_law; k_head; (case hw => w_witness2)
  k_fill
  refine Lw.walk (l := PySem.Challenge.rw_latecomers_k31_words_that_are_let) rfl rfl (fun w h Y => PySem.W.kIn_of Y) ?F
  case F =>
    intro w mg fa h KX G hmg
    refine' Lw.all_mk KX G hmg ?aC0 ?pg0 ?hd0 ?po0 ?sa0 ?mk0 ?kc0 ?xa_NoWord ?xk_NoWord ?xb_NoWord ?xt_NoWord ?xh_NoWord ?xg_NoWord ?xj_NoWord ?xc_NoWord ?xo_NoWord ?xq_NoWord ?xu_NoWord ?xa_NoState ?xk_NoState ?xb_NoState ?xt_NoState ?xh_NoState ?xg_NoState ?xj_NoState ?xc_NoState ?xo_NoState ?xq_NoState ?xu_NoState ?xa_NoSender ?xk_NoSender ?xb_NoSender ?xt_NoSender ?xh_NoSender ?xg_NoSender ?xj_NoSender ?xc_NoSender ?xo_NoSender ?xq_NoSender ?xu_NoSender ?xe_NoWord ?xe_NoState ?xl_NoSender ?xr_NoSender ?xy_NoSender ?xi_NoSender ?xw_NoSender ?xz_NoSender ?x_law_pool ?l_law_pool ?c_law_pool ?k_law_pool ?x_law_draw ?l_law_draw ?c_law_draw ?k_law_draw ?x_law_ways ?l_law_ways ?c_law_ways ?k_law_ways ?l_NoSender__init ?c_NoSender__init ?k_NoSender__init ?x_is_integer ?l_is_integer ?c_is_integer ?k_is_integer ?x_is_integer_from ?l_is_integer_from ?c_is_integer_from ?k_is_integer_from ?x_is_index ?l_is_index ?c_is_index ?k_is_index ?x_is_way ?l_is_way ?c_is_way ?k_is_way ?x_ascends ?l_ascends ?c_ascends ?k_ascends ?x_are_ways ?l_are_ways ?c_are_ways ?k_are_ways ?x_Sender__init ?i_Sender__init ?l_Sender__init ?c_Sender__init ?k_Sender__init ?x_law_is_integer ?l_law_is_integer ?c_law_is_integer ?k_law_is_integer ?x_Sender_state_count ?i_Sender_state_count ?l_Sender_state_count ?c_Sender_state_count ?k_Sender_state_count ?x_Sender_check_state ?i_Sender_check_state ?l_Sender_check_state ?c_Sender_check_state ?k_Sender_check_state ?x_Sender_ways ?i_Sender_ways ?l_Sender_ways ?c_Sender_ways ?k_Sender_ways ?x_law_ways_told ?l_law_ways_told ?c_law_ways_told ?k_law_ways_told ?x_law_behind ?l_law_behind ?c_law_behind ?k_law_behind ?x_check_kinds ?l_check_kinds ?c_check_kinds ?k_check_kinds ?x_Sender_followed ?i_Sender_followed ?l_Sender_followed ?c_Sender_followed ?k_Sender_followed ?x_Sender_states_behind ?i_Sender_states_behind ?l_Sender_states_behind ?c_Sender_states_behind ?k_Sender_states_behind ?x_Sender_lets ?i_Sender_lets ?l_Sender_lets ?c_Sender_lets ?k_Sender_lets ?x_law ?l_law ?c_law ?k_law ?na_0_exits ?n_all ?n_bool ?n_enumerate ?n_int ?n_isinstance ?n_len ?n_list ?n_max ?n_min ?n_range ?n_sorted ?n_tuple ?n_zip ?z_MOST_KINDS ?z_MOST_STATES Lw.main
    (case aC0 => k_is)
    (case pg0 => k_is)
    (case hd0 => k_is)
    (case po0 => k_is)
    (case sa0 => k_is)
    (case mk0 => k_is)
    (case kc0 => k_is)
    (case xa_NoWord => k_is)
    (case xk_NoWord => k_is)
    (case xb_NoWord => k_is)
    (case xt_NoWord => k_is)
    (case xh_NoWord => k_is)
    (case xg_NoWord => k_is)
    (case xj_NoWord => k_is)
    (case xc_NoWord => k_is)
    (case xo_NoWord => k_is)
    (case xq_NoWord => k_is)
    (case xu_NoWord => k_is)
    (case xa_NoState => k_is)
    (case xk_NoState => k_is)
    (case xb_NoState => k_is)
    (case xt_NoState => k_is)
    (case xh_NoState => k_is)
    (case xg_NoState => k_is)
    (case xj_NoState => k_is)
    (case xc_NoState => k_is)
    (case xo_NoState => k_is)
    (case xq_NoState => k_is)
    (case xu_NoState => k_is)
    (case xa_NoSender => k_is)
    (case xk_NoSender => k_is)
    (case xb_NoSender => k_is)
    (case xt_NoSender => k_is)
    (case xh_NoSender => k_is)
    (case xg_NoSender => k_is)
    (case xj_NoSender => k_is)
    (case xc_NoSender => k_is)
    (case xo_NoSender => k_is)
    (case xq_NoSender => k_is)
    (case xu_NoSender => k_is)
    (case xe_NoWord => k_exc)
    (case xe_NoState => k_exc)
    (case xl_NoSender => k_is)
    (case xr_NoSender => decide +kernel)
    (case xy_NoSender => k_is)
    (case xi_NoSender => k_is)
    (case xw_NoSender => k_is)
    (case xz_NoSender => k_is)
    (case x_law_pool => k_is)
    (case l_law_pool => k_is)
    (case c_law_pool => k_is)
    (case k_law_pool => k_is)
    (case x_law_draw => k_is)
    (case l_law_draw => k_is)
    (case c_law_draw => k_is)
    (case k_law_draw => k_is)
    (case x_law_ways => k_is)
    (case l_law_ways => k_is)
    (case c_law_ways => k_is)
    (case k_law_ways => k_is)
    (case l_NoSender__init => k_is)
    (case c_NoSender__init => k_is)
    (case k_NoSender__init => k_is)
    (case x_is_integer => k_is)
    (case l_is_integer => k_is)
    (case c_is_integer => k_is)
    (case k_is_integer => k_is)
    (case x_is_integer_from => k_is)
    (case l_is_integer_from => k_is)
    (case c_is_integer_from => k_is)
    (case k_is_integer_from => k_is)
    (case x_is_index => k_is)
    (case l_is_index => k_is)
    (case c_is_index => k_is)
    (case k_is_index => k_is)
    (case x_is_way => k_is)
    (case l_is_way => k_is)
    (case c_is_way => k_is)
    (case k_is_way => k_is)
    (case x_ascends => k_is)
    (case l_ascends => k_is)
    (case c_ascends => k_is)
    (case k_ascends => k_is)
    (case x_are_ways => k_is)
    (case l_are_ways => k_is)
    (case c_are_ways => k_is)
    (case k_are_ways => k_is)
    (case x_Sender__init => k_is)
    (case i_Sender__init => k_is)
    (case l_Sender__init => k_is)
    (case c_Sender__init => k_is)
    (case k_Sender__init => k_is)
    (case x_law_is_integer => k_is)
    (case l_law_is_integer => k_is)
    (case c_law_is_integer => k_is)
    (case k_law_is_integer => k_is)
    (case x_Sender_state_count => k_is)
    (case i_Sender_state_count => k_is)
    (case l_Sender_state_count => k_is)
    (case c_Sender_state_count => k_is)
    (case k_Sender_state_count => k_is)
    (case x_Sender_check_state => k_is)
    (case i_Sender_check_state => k_is)
    (case l_Sender_check_state => k_is)
    (case c_Sender_check_state => k_is)
    (case k_Sender_check_state => k_is)
    (case x_Sender_ways => k_is)
    (case i_Sender_ways => k_is)
    (case l_Sender_ways => k_is)
    (case c_Sender_ways => k_is)
    (case k_Sender_ways => k_is)
    (case x_law_ways_told => k_is)
    (case l_law_ways_told => k_is)
    (case c_law_ways_told => k_is)
    (case k_law_ways_told => k_is)
    (case x_law_behind => k_is)
    (case l_law_behind => k_is)
    (case c_law_behind => k_is)
    (case k_law_behind => k_is)
    (case x_check_kinds => k_is)
    (case l_check_kinds => k_is)
    (case c_check_kinds => k_is)
    (case k_check_kinds => k_is)
    (case x_Sender_followed => k_is)
    (case i_Sender_followed => k_is)
    (case l_Sender_followed => k_is)
    (case c_Sender_followed => k_is)
    (case k_Sender_followed => k_is)
    (case x_Sender_states_behind => k_is)
    (case i_Sender_states_behind => k_is)
    (case l_Sender_states_behind => k_is)
    (case c_Sender_states_behind => k_is)
    (case k_Sender_states_behind => k_is)
    (case x_Sender_lets => k_is)
    (case i_Sender_lets => k_is)
    (case l_Sender_lets => k_is)
    (case c_Sender_lets => k_is)
    (case k_Sender_lets => k_is)
    (case x_law => k_is)
    (case l_law => k_is)
    (case c_law => k_is)
    (case k_law => k_is)
    (case na_0_exits => k_is)
    (case n_all => k_is)
    (case n_bool => k_is)
    (case n_enumerate => k_is)
    (case n_int => k_is)
    (case n_isinstance => k_is)
    (case n_len => k_is)
    (case n_list => k_is)
    (case n_max => k_is)
    (case n_min => k_is)
    (case n_range => k_is)
    (case n_sorted => k_is)
    (case n_tuple => k_is)
    (case n_zip => k_is)
    (case z_MOST_KINDS => k_is)
    (case z_MOST_STATES => k_is)

